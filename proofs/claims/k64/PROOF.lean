import PyProof.Rows.All
import Wide.All
import OpenK.AllK
import Wide.FinOn
import Lean
import PyProof.EqAt
import PyProof.EqKinds
import PyProof.TupleCall
import PyProof.NeKinds
import PySem.Challenge.RW_twoforone_k64_whole_needs_hang_together
set_option Elab.async false
set_option linter.all false
set_option maxRecDepth 100000
set_option maxHeartbeats 4000000
namespace L2
open PySem PySem.Spec PyProof.Rows
noncomputable abbrev Key := Sum Int Str
noncomputable def zdT : Key → Value → Bool
  | .inl k, v => Value.isInt k v
  | .inr x, v => Value.isStrOf x v
noncomputable def keyH (w : World) : Key → Int
  | .inl k => hashInt k
  | .inr x => hashStr w x
theorem ya : ∀ {k : Key} {v : Value}, zdT k v = true → (∃ i t, k = Sum.inl i ∧ v = Value.int i t) ∨ (∃ x t, k = Sum.inr x ∧ v = Value.str x t)
  | .inl i, v, h => by
    obtain ⟨t, e⟩ := Value.isInt_shape (k := i) (v := v) h
    exact .inl ⟨i, t, rfl, e⟩
  | .inr x, v, h => by
    obtain ⟨t, e⟩ := Value.isStrOf_shape (x := x) (v := v) h
    exact .inr ⟨x, t, rfl, e⟩
theorem zeu (i : Int) (t : Tok) : zdT (.inl i) (.int i t) = true := by simp [zdT, Value.isInt]
theorem zfU (x : Str) (t : Tok) : zdT (.inr x) (.str x t) = true := by simp [zdT, Value.isStrOf]
theorem zjR (a b : Int) : decide ((Sum.inl a : Key) = Sum.inl b) = (a == b) := by
  by_cases e : a = b
  · subst e; simp
  · have h : ¬ (Sum.inl a : Key) = Sum.inl b := fun q => e (Sum.inl.inj q)
    rw [decide_eq_false h]
    exact (beq_eq_false_iff_ne.mpr e).symm
theorem zk8 (a b : Str) : decide ((Sum.inr a : Key) = Sum.inr b) = decide (a = b) := by
  by_cases e : a = b
  · subst e; simp
  · have h : ¬ (Sum.inr a : Key) = Sum.inr b := fun q => e (Sum.inr.inj q)
    rw [decide_eq_false h, decide_eq_false e]
theorem zke (a : Int) (b : Str) : decide ((Sum.inl a : Key) = Sum.inr b) = false := decide_eq_false (fun q => nomatch q)
theorem zkU (a : Str) (b : Int) : decide ((Sum.inr a : Key) = Sum.inl b) = false := decide_eq_false (fun q => nomatch q)
noncomputable def yy (prog : Program) (w : World) : PySem.KeyKind prog w Key where
  is := zdT
  hash := keyH w
  inj := fun v a b ha hb => by
    rcases ya ha with ⟨i, t, rfl, rfl⟩ | ⟨x, t, rfl, rfl⟩
    · rcases ya hb with ⟨j, u, rfl, e⟩ | ⟨y, u, rfl, e⟩
      · injection e with e1 _; rw [e1]
      · exact nomatch e
    · rcases ya hb with ⟨j, u, rfl, e⟩ | ⟨y, u, rfl, e⟩
      · exact nomatch e
      · injection e with e1 _; rw [e1]
  byValue := fun k v h => by
    rcases ya h with ⟨i, t, rfl, rfl⟩ | ⟨x, t, rfl, rfl⟩ <;> rfl
  pyHash := fun hv h => by
    rcases ya hv with ⟨i, t, rfl, rfl⟩ | ⟨x, t, rfl, rfl⟩
    · exact wpAny_pyHash_int h
    · exact wpAny_pyHash_str h
  eqBool := fun hu hv h => by
    rcases ya hu with ⟨i, t, rfl, rfl⟩ | ⟨x, t, rfl, rfl⟩
    · rcases ya hv with ⟨j, u, rfl, rfl⟩ | ⟨y, u, rfl, rfl⟩
      · rw [zjR] at h; exact wpAny_eqBool_int h
      · rw [zke] at h; exact SeqAt.EqAt.int_str i t y u _ _ _ _ h
    · rcases ya hv with ⟨j, u, rfl, rfl⟩ | ⟨y, u, rfl, rfl⟩
      · rw [zkU] at h; exact SeqAt.EqAt.str_int x t j u _ _ _ _ h
      · rw [zk8] at h; exact wpAny_eqBool_str h
  «strs» := fun k x t v h => by
    rcases ya h with ⟨i, u, rfl, e⟩ | ⟨y, u, rfl, e⟩
    · exact nomatch e
    · injection e with e1 _
      subst e1
      cases v <;> rfl
theorem zcL (prog : Program) (w : World) (i : Int) (t : Tok) : (yy prog w).is (.inl i) (.int i t) = true := zeu i t
theorem zaP (prog : Program) (w : World) (x : Str) (t : Tok) : (yy prog w).is (.inr x) (.str x t) = true := zfU x t
end L2
namespace L2
open PySem PySem.Spec PyProof.Rows
inductive V where
  | non | bl (b : Bool) | int (i : Int) | str (x : Str) | byt (b : Array UInt8) | flt (b : UInt64) | ref (a : Addr) | ty (n : String)
  deriving DecidableEq
noncomputable def yH : V → Value → Prop
  | .non, u => u = Value.none
  | .bl b, u => u = Value.bool b
  | .int i, u => ∃ t, u = Value.int i t
  | .str x, u => ∃ t, u = Value.str x t
  | .byt b, u => ∃ t, u = Value.bytes b t
  | .flt b, u => ∃ t, u = Value.float b t
  | .ref a, u => u = Value.ref a
  | .ty n, u => u = Value.type n
noncomputable abbrev yl : List V → List Value → Prop := Paired yH
theorem yl.length {xs : List V} {us : List Value} (r : yl xs us) : xs.length = us.length := Paired.length r
theorem yl.get : ∀ {xs : List V} {us : List Value} {i : Nat} {x : V}, yl xs us → xs[i]? = some x → ∃ u, us[i]? = some u ∧ yH x u
  | _, _, _, _, .nil, e => by simp at e
  | _, _, 0, _, .cons r _, e => by simp at e; subst e; exact ⟨_, rfl, r⟩
  | _, _, i + 1, x, .cons _ t, e => by
    obtain ⟨u, h1, h2⟩ := yl.get (i := i) (x := x) t (by simpa using e)
    exact ⟨u, by simpa using h1, h2⟩
theorem yl.set {x : V} {u : Value} (r : yH x u) : ∀ {xs : List V} {us : List Value} (i : Nat), yl xs us → yl (xs.set i x) (us.set i u)
  | _, _, _, .nil => .nil
  | _, _, 0, .cons _ t => .cons r t
  | _, _, i + 1, .cons q t => .cons q (yl.set r i t)
theorem yl.append : ∀ {xs ys : List V} {us ws : List Value}, yl xs us → yl ys ws → yl (xs ++ ys) (us ++ ws) := by
  intro xs ys us ws h s
  induction h with
  | nil => exact s
  | cons r t ih => exact .cons r ih
theorem yl.take : ∀ {xs : List V} {us : List Value} (n : Nat), yl xs us → yl (xs.take n) (us.take n)
  | _, _, 0, _ => .nil
  | _, _, _ + 1, .nil => .nil
  | _, _, n + 1, .cons r t => .cons r (yl.take n t)
theorem yl.drop : ∀ {xs : List V} {us : List Value} (n : Nat), yl xs us → yl (xs.drop n) (us.drop n)
  | _, _, 0, r => r
  | _, _, _ + 1, .nil => .nil
  | _, _, n + 1, .cons _ t => yl.drop n t
noncomputable def zia : Option V → Option Value → Prop
  | some v, some u => yH v u
  | none, none => True
  | _, _ => False
noncomputable def KV {κ : Type} : List (κ × V) → List (κ × Value) → Prop := Paired fun (p : κ × V) (q : κ × Value) => p.1 = q.1 ∧ yH p.2 q.2
noncomputable def kV : Key → V
  | .inl i => .int i
  | .inr x => .str x
inductive HO where
    | lst (xs : List V)
    | tup (xs : List V)
    | dK (kvs : List (Key × V)) | dT (kvs : List (List Key × V))
    | set (S : Int → Bool) (n : Nat)
    | ins (C dx : Addr) (fs : List (Str × V))
    | own (x : Addr)
    | xd (fs : List (Str × V))
    | met (f x : Addr)
    | rng (lo hi : Int)
    | frz (o : Obj) (u : HO)
    | tbl (ps : Array Value)
    | ext (φ : Heap → Prop)
noncomputable abbrev Hp := Addr → Option HO
noncomputable def upd (H : Hp) (a : Addr) (o : HO) : Hp := fun b => if b = a then some o else H b
theorem zq {H : Hp} {a : Addr} {o : HO} : upd H a o a = some o := by unfold upd; rw [if_pos rfl]
theorem zr {H : Hp} {a b : Addr} {o : HO} (h : b ≠ a) : upd H a o b = H b := by unfold upd; rw [if_neg h]
theorem zbA {H : Hp} {a : Addr} {o u : HO} : upd (upd H a o) a u = upd H a u := by
  funext b; unfold upd; split <;> rfl
theorem ziH {H : Hp} {a b : Addr} {o u : HO} (h : H a = some o) (h' : H b = some u) (d : o ≠ u) : a ≠ b := by
  intro e; subst e; rw [h] at h'; exact d (Option.some.inj h')
theorem zp {H : Hp} {a b : Addr} {o : HO} (h : H a = some o) (h' : H b = none) : a ≠ b := by
  intro e; subst e; rw [h] at h'; cases h'
section
variable (P : Program) (w : World)
noncomputable def yB (H : Hp) (h : Heap) (a : Addr) : HO → Prop
  | .lst xs => xs.length ≤ sizeLine ∧ ∃ (its : List Value) (n : Nat), yl xs its ∧ h.get? a = some { cls := .type "list", data := .seq its.toArray n }
  | .tup xs => xs.length ≤ sizeLine ∧ ∃ its : List Value, yl xs its ∧ IsTup h a its.toArray
  | .dK kvs => kvs.length ≤ sizeLine ∧ (a == sysModules) = false ∧ ∃ vs, KV kvs vs ∧ h.DictOf (yy P w) a vs
  | .dT kvs => kvs.length ≤ sizeLine ∧ (a == sysModules) = false ∧ ∃ xs : List (List Key × Addr × Value),
      Paired (fun (p : List Key × V) (q : List Key × Addr × Value) => p.1 = q.1 ∧ H q.2.1 = some (.tup (p.1.map kV)) ∧ yH p.2 q.2.2) kvs xs ∧
      ∃ o es ep, h.get? a = some o ∧ o.ExactDict ∧ o.data = .dict es ep ∧ es.toList = xs.map (entryOfKey (tupleKind (yy P w))) ∧ (xs.map (·.1)).Nodup
  | .set S n => h.SetOf (intKind P w) a S n
  | .ins C dx fs => H dx = some (.own a) ∧ fs.length ≤ 1000 ∧ dx ≠ a ∧ h.get? a = some (PySem.W.instObj C dx) ∧
      ∃ mA, h.Ns1 dx mA ∧ (∀ f, zia (fs.lookup f) (mA f)) ∧ PySem.Within mA (fs.map (·.1))
  | .own _ => ∃ o, h.get? a = some o
  | .xd fs => ∃ mA, h.Ns1 a mA ∧ ∀ f, zia (fs.lookup f) (mA f)
  | .rng lo hi => ∃ t u v, h.get? a = some { cls := .type "range", data := .fields #[.int lo t, .int hi u, .int 1 v] }
  | .frz o u => h.get? a = some o ∧ yB H h a u
  | .tbl ps => h.get? a = some { cls := .none, data := .fields ps }
  | .met f x => h.get? a = some (PySem.W.methodObj (.ref f) (.ref x))
  | .ext φ => φ h ∧ (∃ o, h.get? a = some o) ∧ ∀ h1 h2 : Heap, φ h1 → (∀ o, h1.get? a = some o → h2.get? a = some o) → φ h2
noncomputable def HOk (H : Hp) (h : Heap) : Prop := ∀ a o, H a = some o → yB P w H h a o
end
section
variable {P : Program} {w : World} {H H' : Hp} {h h' : Heap} {a : Addr} {o : HO}
theorem yB.lt (x : yB P w H h a o) : a < h.objs.size := by
  cases o with
  | lst xs => obtain ⟨_, _, _, _, e⟩ := x; exact Heap.lt_size e
  | tup xs => obtain ⟨_, _, _, p⟩ := x; exact p.lt
  | dK kvs => obtain ⟨_, _, _, _, o, _, _, e, _⟩ := x; exact Heap.lt_size e
  | dT kvs => obtain ⟨_, _, _, _, o, _, _, e, _⟩ := x; exact Heap.lt_size e
  | set S n => obtain ⟨o, _, _, _, e, _⟩ := x; exact Heap.lt_size e
  | ins C dx fs => obtain ⟨_, _, _, e, _⟩ := x; exact Heap.lt_size e
  | own y => obtain ⟨_, e⟩ := x; exact Heap.lt_size e
  | xd fs => obtain ⟨_, ⟨_, _, _, e, _⟩, _⟩ := x; exact Heap.lt_size e
  | rng lo hi => obtain ⟨_, _, _, e⟩ := x; exact Heap.lt_size e
  | frz ob u => obtain ⟨e, _⟩ := x; exact Heap.lt_size e
  | tbl ps => exact Heap.lt_size (show h.get? a = some _ from x)
  | met f y => exact Heap.lt_size (show h.get? a = some _ from x)
  | ext φ => obtain ⟨_, ⟨_, e⟩, _⟩ := x; exact Heap.lt_size e
theorem Paired.mapP {α β : Type} {F G : α → β → Prop} : ∀ {l₁ : List α} {l₂ : List β}, Paired F l₁ l₂ → (∀ a b, F a b → G a b) → Paired G l₁ l₂ := by
  intro l1 l2 h f
  induction h with
  | nil => exact .nil
  | cons r t ih => exact .cons (f _ _ r) ih
theorem yB.stay (x : yB P w H h a o) (k : ∀ b u, (b = a ∨ H b = some (.own a)) → h.get? b = some u → h'.get? b = some u)
    (ho : ∀ b, H b = some (.own a) → H' b = some (.own a)) (ht : ∀ b xs, H b = some (.tup xs) → H' b = some (.tup xs)) : yB P w H' h' a o := by
  induction o with
  | lst xs => obtain ⟨z, its, n, r, e⟩ := x; exact ⟨z, its, n, r, k _ _ (.inl rfl) e⟩
  | tup xs => obtain ⟨z, its, r, ob, e, c⟩ := x; exact ⟨z, its, r, ob, k _ _ (.inl rfl) e, c⟩
  | dK kvs => obtain ⟨z, y, vs, r, ob, es, ep, e, c⟩ := x; exact ⟨z, y, vs, r, ob, es, ep, k _ _ (.inl rfl) e, c⟩
  | dT kvs =>
    obtain ⟨z, y, xs, r, ob, es, ep, e, c⟩ := x
    exact ⟨z, y, xs, Paired.mapP r fun p q z => ⟨z.1, ht _ _ z.2.1, z.2.2⟩, ob, es, ep, k _ _ (.inl rfl) e, c⟩
  | set S n => obtain ⟨ob, es, ep, t, e, c⟩ := x; exact ⟨ob, es, ep, t, k _ _ (.inl rfl) e, c⟩
  | ins C dx fs =>
    obtain ⟨d, z, ne, e, mA, ⟨od, es, ep, e2, c⟩, r⟩ := x
    exact ⟨ho _ d, z, ne, k _ _ (.inl rfl) e, mA, ⟨od, es, ep, k _ _ (.inr d) e2, c⟩, r⟩
  | own y => obtain ⟨ob, e⟩ := x; exact ⟨ob, k _ _ (.inl rfl) e⟩
  | xd fs => obtain ⟨mA, ⟨od, es, ep, e, c⟩, r⟩ := x; exact ⟨mA, ⟨od, es, ep, k _ _ (.inl rfl) e, c⟩, r⟩
  | rng lo hi => obtain ⟨t, u, v, e⟩ := x; exact ⟨t, u, v, k _ _ (.inl rfl) e⟩
  | frz ob u ih => obtain ⟨e, q⟩ := x; exact ⟨k _ _ (.inl rfl) e, ih q⟩
  | tbl ps =>
    have e : h.get? a = some { cls := .none, data := .fields ps } := x
    show h'.get? a = some { cls := .none, data := .fields ps }
    exact k a _ (.inl rfl) e
  | met f y =>
    have e : h.get? a = some (PySem.W.methodObj (.ref f) (.ref y)) := x
    show h'.get? a = some (PySem.W.methodObj (.ref f) (.ref y))
    exact k a _ (.inl rfl) e
  | ext φ => obtain ⟨p, ⟨o, e⟩, st⟩ := x; exact ⟨st _ _ p fun o q => k _ _ (.inl rfl) q, ⟨o, k _ _ (.inl rfl) e⟩, st⟩
theorem HOk.lt (x : HOk P w H h) (e : H a = some o) : a < h.objs.size := (x a o e).lt
theorem HOk.fresh (x : HOk P w H h) (e : h.objs.size ≤ a) : H a = none := by
  cases q : H a with
  | none => rfl
  | some u => exact absurd (Nat.lt_of_lt_of_le (x.lt q) e) (Nat.lt_irrefl _)
theorem HOk.kept (x : HOk P w H h) (k : ∀ b u, h.get? b = some u → h'.get? b = some u) : HOk P w H h' := fun a o e =>
  (x a o e).stay (fun b u _ q => k b u q) (fun _ q => q) fun _ _ q => q
theorem HOk.laid (x : HOk P w H h) (k : ∀ b u, h.get? b = some u → h'.get? b = some u) (hp : h.objs.size ≤ a) (new : yB P w (upd H a o) h' a o) : HOk P w (upd H a o) h' := fun b u e => by
  have hn := x.fresh hp
  by_cases hb : b = a
  · subst hb; rw [zq] at e; cases e; exact new
  · rw [zr hb] at e
    exact (x b u e).stay (fun c v _ q => k c v q) (fun c q => by rw [zr (zp q hn)]; exact q) fun c xs q => by rw [zr (zp q hn)]; exact q
end
noncomputable def Rd (H : Hp) (a : Addr) (u : HO) : Prop := H a = some u ∨ ∃ o, H a = some (.frz o u)
theorem Rd.ok {P : Program} {w : World} {H : Hp} {h : Heap} {a : Addr} {u : HO} (r : Rd H a u) (x : HOk P w H h) : yB P w H h a u := by
  rcases r with r | ⟨o, r⟩
  · exact x a u r
  · obtain ⟨_, q⟩ := x a _ r
    exact q
noncomputable def Mut : Option HO → Prop
  | some (.lst _) => True
  | some (.dK _) => True
  | some (.dT _) => True
  | some (.set _ _) => True
  | some (.ins _ _ _) => True
  | some (.ext _) => True
  | _ => False
section
variable {P : Program} {w : World} {H : Hp} {h h' : Heap} {x e : Addr} {o' : HO}
theorem HOk.write (ok : HOk P w H h) (mu : Mut (H x)) (he : e = x ∨ H e = some (.own x)) (k : ∀ b u, b ≠ e → h.get? b = some u → h'.get? b = some u) (heo : ∃ u, h'.get? e = some u)
    (new : yB P w (upd H x o') h' x o') : HOk P w (upd H x o') h' := fun b u q => by
  have nown : ∀ c y, H c = some (.own y) → c ≠ x := fun c y r z => by subst z; rw [r] at mu; exact mu
  have ntup : ∀ c xs, H c = some (.tup xs) → c ≠ x := fun c xs r z => by subst z; rw [r] at mu; exact mu
  by_cases hb : b = x
  · subst hb; rw [zq] at q; cases q; exact new
  · rw [zr hb] at q
    by_cases hbe : b = e
    · have q' : H b = some (.own x) := by
        rcases he with z | z
        · exact absurd (hbe.trans z) hb
        · rw [hbe]; exact z
      rw [q] at q'; cases q'
      obtain ⟨v, hv⟩ := heo
      exact ⟨v, by rw [hbe]; exact hv⟩
    · refine (ok b u q).stay (fun c v hc r => k c v ?_ r) (fun c r => by rw [zr (nown c b r)]; exact r) fun c xs r => by rw [zr (ntup c xs r)]; exact r
      rcases hc with rfl | hc
      · exact hbe
      · rintro rfl
        rcases he with z | z
        · exact nown c b hc z
        · rw [hc] at z; cases z; exact hb rfl
end
set_option genInjectivity false in
set_option genSizeOf false in
set_option genCtorIdx false in
structure Un (fs ex : List Addr) (H H' : Hp) (h h' : Heap) : Prop where
  keep : ∀ b o, h.get? b = some o → H b = none → b ∉ fs → b ∉ ex → h'.get? b = some o
  slot : ∀ b o, h.get? b = some o → H b = none → b ∈ fs → b ∉ ex → ∃ sl, h'.get? b = some { o with slots := sl }
  free : ∀ b o, h.get? b = some o → H b = none → b ∉ ex → H' b = none
  there : ∀ b o, h.get? b = some o → b ∉ ex → ∃ o', h'.get? b = some o'
  tups : ∀ b xs, H b = some (.tup xs) → H' b = some (.tup xs)
  frzs : ∀ b o u, H b = some (.frz o u) → H' b = some (.frz o u)
  tbls : ∀ b ps, H b = some (.tbl ps) → ∃ more, H' b = some (.tbl (ps ++ more))
section
variable {fs fs' ex ex' : List Addr} {H H1 H2 : Hp} {h h1 h2 h' : Heap} {a x e : Addr} {o : HO}
theorem Un.any (u : Un fs ex H H1 h h1) {b : Addr} {ob : Obj} (q : h.get? b = some ob) (n : H b = none) (hx : b ∉ ex) : ∃ sl, h1.get? b = some { ob with slots := sl } := by
  by_cases hb : b ∈ fs
  · exact u.slot b ob q n hb hx
  · exact ⟨ob.slots, u.keep b ob q n hb hx⟩
theorem Un.kept (k : ∀ b u, h.get? b = some u → h'.get? b = some u) : Un fs ex H H h h' :=
  ⟨fun b ob q _ _ _ => k b ob q, fun b ob q _ _ _ => ⟨ob.slots, k b ob q⟩, fun _ _ _ n _ => n, fun b ob q _ => ⟨ob, k b ob q⟩, fun _ _ q => q, fun _ _ _ q => q, fun _ ps q => ⟨#[], by rw [q]; simp⟩⟩
theorem Un.refl : Un fs ex H H h h := Un.kept fun _ _ q => q
theorem Un.laid (k : ∀ b u, h.get? b = some u → h'.get? b = some u) (hp : h.objs.size ≤ a) (hn : H a = none) : Un fs ex H (upd H a o) h h' where
  keep := fun b u q _ _ _ => k b u q
  slot := fun b u q _ _ _ => ⟨u.slots, k b u q⟩
  free := fun b u q n _ => by rw [zr (Nat.ne_of_lt (Nat.lt_of_lt_of_le (Heap.lt_size q) hp))]; exact n
  there := fun b u q _ => ⟨u, k b u q⟩
  tups := fun b xs q => by rw [zr (zp q hn)]; exact q
  frzs := fun b u xs q => by rw [zr (zp q hn)]; exact q
  tbls := fun b ps q => ⟨#[], by rw [zr (zp q hn), q]; simp⟩
theorem Un.write (mu : Mut (H x)) (he : e = x ∨ H e = some (.own x)) (k : ∀ b u, b ≠ e → h.get? b = some u → h'.get? b = some u) (heo : ∃ u, h'.get? e = some u) : Un fs ex H (upd H x o) h h' := by
  have hx : ∀ b, H b = none → b ≠ x := fun b n z => by subst z; rw [n] at mu; exact mu
  have hb : ∀ b, H b = none → b ≠ e := fun b n z => by
    subst z
    rcases he with r | r
    · exact hx b n r
    · rw [n] at r; cases r
  have hm : ∀ b u, H b = some u → ¬ Mut (some u) → b ≠ x := fun b u q nm z => by subst z; rw [q] at mu; exact nm mu
  refine ⟨fun b u q n _ _ => k b u (hb b n) q, fun b u q n _ _ => ⟨u.slots, k b u (hb b n) q⟩, fun b u q n _ => by rw [zr (hx b n)]; exact n, fun b u q _ => ?_,
    fun b xs q => by rw [zr (hm b _ q fun z => z)]; exact q, fun b u xs q => by rw [zr (hm b _ q fun z => z)]; exact q, fun b ps q => ⟨#[], by rw [zr (hm b _ q fun z => z), q]; simp⟩⟩
  by_cases hbe : b = e
  · subst hbe; exact heo
  · exact ⟨u, k b u hbe q⟩
end
noncomputable def trk (h : Heap) (H : Hp) : List Addr := (List.range h.objs.size).filter fun a => (H a).isSome
noncomputable def zhl (h : Heap) (H : Hp) : Heap := PySem.W.hideAll h (trk h H)
theorem ze4 (h : Heap) (H : Hp) : (zhl h H).objs.size = h.objs.size := PySem.W.hideAll_size _ _
theorem zf9 {h : Heap} {H : Hp} {b : Addr} {o : Obj} (e : h.get? b = some o) (n : H b = none) : (zhl h H).get? b = some o :=
  PySem.W.hideAll_get _ e fun hm => by
    have q : (H b).isSome = true := (List.mem_filter.mp hm).2
    rw [n] at q; simp at q
theorem zhQ {h : Heap} {H : Hp} {b : Addr} {o : Obj} (e : (zhl h H).get? b = some o) : h.get? b = some o ∧ H b = none := by
  have e' : h.get? b = some o := PySem.W.of_hideAll (trk h H) e
  refine ⟨e', ?_⟩
  cases q : H b with
  | none => rfl
  | some x =>
    have hm : b ∈ trk h H := List.mem_filter.mpr ⟨List.mem_range.mpr (Heap.lt_size e'), by simp [q]⟩
    have z : (zhl h H).get? b = none := PySem.W.hideAll_none (trk h H) hm
    rw [z] at e; cases e
noncomputable def zjs (g h : Heap) (L : Addr) : List (Addr × Obj) := (List.range h.objs.size).filterMap fun a => if a = L ∨ (g.get? a).isSome = true then none else (h.get? a).map fun o => (a, o)
noncomputable def rest (g h : Heap) (L d : Addr) : List (Addr × Obj) := (zjs g h L).filter fun p => decide (p.1 ≠ d)
end L2
namespace L2
open PySem PySem.Spec PyProof.Rows
structure Mod (K : PySem.W.Frag) (mg : Str → Option Value) (base : Heap) : Prop where
  kin : K.In base
  glob : base.Ns mainGlobals mg
  blt : ∃ mb, base.Ns builtinsNs mb ∧ ∀ x : Str, x ≠ "__name__" → mb x = bootBuiltins x
  nolimit : base.NoLimit
structure Cx where
  prog : Program
  w : World
  K : PySem.W.Frag
  mg : Str → Option Value
  base : Heap
  A : Around
  N : List Str
  s₀ : Shared
  H₀ : Hp
  env : Env
  outer : List Env
  stack : List Env
  ex : List Addr
  fn : Str → Bool
  calm : Bool
  pn : List (Addr × Obj)
  xe : Value → Shared → Prop
noncomputable def frs (l : List Env) : List Addr := l.filterMap (·.frame)
noncomputable abbrev Cx.fs (X : Cx) : List Addr := frs X.outer
noncomputable def Vis (sc : Scope) (x : Str) : Prop := sc.names.lookup x = some .local ∨ sc.names.lookup x = some .cell ∨ sc.names.lookup x = some .free
noncomputable def Loc (sc : Scope) (x : Str) : Prop := sc.names.lookup x = some .local ∨ sc.names.lookup x = some .cell
noncomputable def Look (env : Env) (h : Heap) (m : Str → Option Value) (x : Str) (u : Value) : Prop :=
  (env.kindOf x = some .local ∧ m x = some u) ∨ ((env.kindOf x = some .cell ∨ env.kindOf x = some .free) ∧ ∃ c, env.cells.lookup x = some c ∧ h.IsCell c (some u))
set_option genInjectivity false in
set_option genSizeOf false in
set_option genCtorIdx false in
structure Cx.Ok (X : Cx) : Prop where
  mod : Mod X.K X.mg X.base
  kind : X.env.scope.kind = .function
  glob : X.env.globals = mainGlobals
  blt : X.env.builtins = builtinsNs
  above : X.s₀.heap.objs.size ≤ X.env.locals
  inj : ∀ x y c, X.env.cells.lookup x = some c → X.env.cells.lookup y = some c → x = y
  has : ∀ x, (X.env.kindOf x = some .cell ∨ X.env.kindOf x = some .free) → ∃ c, X.env.cells.lookup x = some c
  cab : ∀ x c, X.fn x = true → X.env.cells.lookup x = some c → X.s₀.heap.objs.size ≤ c
  hd : X.calm = true → X.A.handled = none
  frames : X.A.frames = some X.stack
  stk : X.stack = X.outer ∨ (X.stack = X.env :: X.outer ∧ X.env.frame = some X.env.locals)
  exf : ∀ b ∈ X.ex, b ≠ X.env.locals ∧ ∀ x c, X.env.cells.lookup x = some c → c ≠ b
  bs : ∀ b o, X.base.get? b = some o → X.s₀.heap.get? b = some o ∧ X.H₀ b = none
  bsz : X.base.objs.size ≤ X.s₀.heap.objs.size
  noex : ∀ b o, X.base.get? b = some o → b ∉ X.ex
  exfs : ∀ b ∈ X.ex, b ∉ X.fs
  funs : X.s₀.heap.FunFrames X.base X.outer
  frf : ∀ b ∈ X.fs, X.H₀ b = none
set_option genInjectivity false in
set_option genSizeOf false in
set_option genCtorIdx false in
structure Inv (X : Cx) (pins : List (Addr × Obj)) (σ : List (Option V)) (H : Hp) (s : Shared) : Prop where
  ok : X.Ok
  os : s.os = X.s₀.os
  bare : AllBare s.gens
  base : Un X.fs X.ex X.H₀ H X.s₀.heap s.heap
  loc : ∃ m, s.heap.Ns X.env.locals m ∧ ∀ (i : Nat) (x : Str) (v : V), X.N[i]? = some x → σ[i]? = some (some v) → Vis X.env.scope x → ∃ u, yH v u ∧ Look X.env s.heap m x u
  cell : ∀ x c, X.env.cells.lookup x = some c → ∃ v, s.heap.IsCell c v
  free : H X.env.locals = none
  freeC : ∀ x c, X.env.cells.lookup x = some c → H c = none
  pin : ∀ p ∈ X.pn ++ pins, s.heap.get? p.1 = some p.2 ∧ H p.1 = none ∧ p.1 ≠ X.env.locals ∧ p.1 ∉ X.fs ∧ ∀ v, p.2.data ≠ .cell v
  hok : HOk X.prog X.w H s.heap
  len : σ.length = X.N.length
section
variable {X : Cx} {pins : List (Addr × Obj)} {σ : List (Option V)} {H H' : Hp} {s : Shared} {h' : Heap}
theorem Cx.Ok.nofr (ok : X.Ok) {b : Addr} {o : Obj} (e : X.base.get? b = some o) : b ∉ X.fs := fun hb => by
  have := (ok.funs.mem hb).1
  rw [e] at this; cases this
theorem Inv.bs (I : Inv X pins σ H s) : ∀ b o, X.base.get? b = some o → s.heap.get? b = some o ∧ H b = none := fun b o e =>
  ⟨I.base.keep b o (I.ok.bs b o e).1 (I.ok.bs b o e).2 (I.ok.nofr e) (I.ok.noex b o e), I.base.free b o (I.ok.bs b o e).1 (I.ok.bs b o e).2 (I.ok.noex b o e)⟩
theorem Inv.bk (I : Inv X pins σ H s) : ∀ b o, X.base.get? b = some o → s.heap.get? b = some o := fun b o e => (I.bs b o e).1
theorem Inv.mod (I : Inv X pins σ H s) : Mod X.K X.mg X.base := I.ok.mod
theorem Inv.kIn (I : Inv X pins σ H s) : X.K.In s.heap := I.ok.mod.kin.keeps I.bk
theorem Inv.fr (I : Inv X pins σ H s) : ∃ m, Fr X.base X.env.locals s.heap m :=
  let ⟨m, hn, _⟩ := I.loc
  ⟨m, hn, I.bk, Nat.le_trans I.ok.bsz I.ok.above⟩
theorem Inv.lt (I : Inv X pins σ H s) : X.env.locals < s.heap.objs.size := let ⟨_, hn, _⟩ := I.loc; hn.lt
theorem Inv.sz (I : Inv X pins σ H s) : X.s₀.heap.objs.size ≤ s.heap.objs.size := Nat.le_trans I.ok.above (Nat.le_of_lt I.lt)
theorem Inv.nofs (I : Inv X pins σ H s) {a : Addr} (h : s.heap.objs.size ≤ a) : a ∉ X.fs := fun hb => by
  obtain ⟨_, o, ho, _⟩ := I.ok.funs.mem hb
  exact absurd (Nat.lt_of_lt_of_le (Heap.lt_size ho) (Nat.le_trans I.sz h)) (Nat.lt_irrefl _)
theorem Inv.cne (I : Inv X pins σ H s) : ∀ x c, X.env.cells.lookup x = some c → c ≠ X.env.locals := fun x c e z => by
  obtain ⟨v, o, ho, hd⟩ := I.cell x c e
  obtain ⟨m, ⟨o', es, ep, ho', hd', _⟩, _⟩ := I.loc
  rw [z, ho'] at ho; cases ho; rw [hd'] at hd; cases hd
theorem Inv.funs (I : Inv X pins σ H s) : s.heap.FunFrames X.base X.outer := by
  have all : ∀ (l : List Env), (∀ b ∈ frs l, b ∈ X.fs) → X.s₀.heap.FunFrames X.base l → s.heap.FunFrames X.base l := by
    intro l
    induction l with
    | nil => intro _ _; trivial
    | cons env r ih =>
      intro hs hl
      obtain ⟨hk, ⟨L, o, hf, hn, ho, hd⟩, hr⟩ := hl
      have hL : L ∈ X.fs := hs L (by unfold frs; rw [List.filterMap_cons, hf]; exact List.mem_cons_self)
      obtain ⟨sl, e⟩ := I.base.slot L o ho (I.ok.frf L hL) hL fun z => I.ok.exfs L z hL
      exact ⟨hk, ⟨L, _, hf, hn, e, hd⟩, ih (fun b hb => hs b (by unfold frs; rw [List.filterMap_cons, hf]; exact List.mem_cons_of_mem _ hb)) hr⟩
  exact all X.outer (fun _ hb => hb) I.ok.funs
theorem Inv.stack (I : Inv X pins σ H s) : s.heap.FunFrames X.base X.stack := by
  rcases I.ok.stk with e | ⟨e, hf⟩
  · rw [e]; exact I.funs
  · rw [e]
    obtain ⟨m, hn, _⟩ := I.loc
    refine .cons (by rw [I.ok.kind]; decide) hf hn ?_ I.funs
    exact Heap.get?_none_of_le (Nat.le_trans I.ok.bsz I.ok.above)
theorem Inv.stkSub (I : Inv X pins σ H s) : ∀ b ∈ frs X.stack, b ∈ X.env.locals :: X.fs := fun b hb => by
  rcases I.ok.stk with e | ⟨e, hf⟩
  · rw [e] at hb; exact List.mem_cons_of_mem _ hb
  · rw [e] at hb
    unfold frs at hb
    rw [List.filterMap_cons, hf] at hb
    exact hb
theorem Inv.stkFree (I : Inv X pins σ H s) : ∀ b ∈ frs X.stack, H b = none := fun b hb => by
  rcases List.mem_cons.mp (I.stkSub b hb) with e | hb
  · rw [e]; exact I.free
  · obtain ⟨_, o, ho, _⟩ := I.ok.funs.mem hb
    exact I.base.free b o ho (I.ok.frf b hb) fun z => I.ok.exfs b z hb
theorem Inv.step {g' : Array GenState} {t' : Nat} {d' : Drawn} {ch : List Addr} (I : Inv X pins σ H s)
    (hch : ∀ b ∈ ch, (b ∈ X.ex ∨ X.s₀.heap.objs.size ≤ b) ∧ b ≠ X.env.locals ∧ (∀ x c, X.env.cells.lookup x = some c → c ≠ b) ∧ ∀ p ∈ X.pn ++ pins, p.1 ≠ b)
    (keep : ∀ b o, b ≠ X.env.locals → b ∉ X.fs → b ∉ ch → s.heap.get? b = some o → H b = none → h'.get? b = some o)
    (slot : ∀ b o, b ≠ X.env.locals → b ∈ X.fs → b ∉ ch → s.heap.get? b = some o → H b = none → ∃ sl, h'.get? b = some { o with slots := sl }) (free : ∀ b o, b ∉ ch → s.heap.get? b = some o → H b = none → H' b = none)
    (there : ∀ b o, b ∉ ch → s.heap.get? b = some o → ∃ o', h'.get? b = some o')
    (tups : ∀ b xs, H b = some (.tup xs) → H' b = some (.tup xs)) (frzs : ∀ b o u, H b = some (.frz o u) → H' b = some (.frz o u)) (tbls : ∀ b ps, H b = some (.tbl ps) → ∃ more, H' b = some (.tbl (ps ++ more)))
    (ns : ∀ m, s.heap.Ns X.env.locals m → h'.Ns X.env.locals m) (hok : HOk X.prog X.w H' h') (hg : AllBare g') :
    Inv X pins σ H' { s with heap := h', gens := g', drawn := d', toks := t' } := by
  have neL : ∀ b o, X.s₀.heap.get? b = some o → b ≠ X.env.locals := fun b o e => Nat.ne_of_lt (Nat.lt_of_lt_of_le (Heap.lt_size e) I.ok.above)
  have neC : ∀ b o, X.s₀.heap.get? b = some o → b ∉ X.ex → b ∉ ch := fun b o e hx hb => by
    rcases (hch b hb).1 with z | z
    · exact hx z
    · exact absurd (Nat.lt_of_lt_of_le (Heap.lt_size e) z) (Nat.lt_irrefl _)
  have cellK : ∀ x c, X.env.cells.lookup x = some c → ∀ v, s.heap.IsCell c v → h'.IsCell c v := fun x c e v ⟨o, ho, hd⟩ => by
    have nch : c ∉ ch := fun z => (hch c z).2.2.1 x c e rfl
    by_cases hc : c ∈ X.fs
    · obtain ⟨sl, q⟩ := slot c o (I.cne x c e) hc nch ho (I.freeC x c e)
      exact ⟨_, q, hd⟩
    · exact ⟨o, keep c o (I.cne x c e) hc nch ho (I.freeC x c e), hd⟩
  refine ⟨I.ok, I.os, hg, ⟨fun b o e n hb hx => ?_, fun b o e n hb hx => ?_, fun b o e n hx => ?_, fun b o e hx => ?_, fun b xs e => tups b xs (I.base.tups b xs e), fun b o xs e => frzs b o xs (I.base.frzs b o xs e), fun b ps e => ?_⟩, ?_, fun x c e => ?_, ?_, fun x c e => ?_, fun p hp => ?_, hok, I.len⟩
  · exact keep b o (neL b o e) hb (neC b o e hx) (I.base.keep b o e n hb hx) (I.base.free b o e n hx)
  · obtain ⟨sl, e1⟩ := I.base.slot b o e n hb hx
    obtain ⟨sl', e2⟩ := slot b _ (neL b o e) hb (neC b o e hx) e1 (I.base.free b o e n hx)
    exact ⟨sl', e2⟩
  · obtain ⟨o', e1⟩ := I.base.there b o e hx
    exact free b o' (neC b o e hx) e1 (I.base.free b o e n hx)
  · obtain ⟨o', e1⟩ := I.base.there b o e hx
    exact there b o' (neC b o e hx) e1
  · obtain ⟨m1, e1⟩ := I.base.tbls b ps e
    obtain ⟨m2, e2⟩ := tbls b _ e1
    exact ⟨m1 ++ m2, by rw [e2, Array.append_assoc]⟩
  · obtain ⟨m, hn, hl⟩ := I.loc
    refine ⟨m, ns m hn, fun i x v e1 e2 e3 => ?_⟩
    obtain ⟨u, r, l⟩ := hl i x v e1 e2 e3
    refine ⟨u, r, ?_⟩
    rcases l with l | ⟨k, c, e, z⟩
    · exact .inl l
    · exact .inr ⟨k, c, e, cellK x c e _ z⟩
  · obtain ⟨v, z⟩ := I.cell x c e
    exact ⟨v, cellK x c e v z⟩
  · obtain ⟨m, ⟨o, _, _, ho, _⟩, _⟩ := I.loc
    exact free _ o (fun z => (hch _ z).2.1 rfl) ho I.free
  · obtain ⟨v, o, ho, hd⟩ := I.cell x c e
    exact free c o (fun z => (hch c z).2.2.1 x c e rfl) ho (I.freeC x c e)
  · obtain ⟨e, n, ne, nf, d⟩ := I.pin p hp
    have nch : p.1 ∉ ch := fun z => (hch p.1 z).2.2.2 p hp rfl
    exact ⟨keep p.1 p.2 ne nf nch e n, free p.1 p.2 nch e n, ne, nf, d⟩
theorem Inv.un {t' : Nat} (I : Inv X pins σ H s) (u : Un X.fs [] H H' s.heap h') (hok : HOk X.prog X.w H' h') : Inv X pins σ H' { s with heap := h', toks := t' } := by
  obtain ⟨m, ⟨o, es, ep, ho, r⟩, _⟩ := id I.loc
  obtain ⟨sl, hL⟩ := u.any ho I.free (by simp)
  exact I.step (g' := s.gens) (d' := s.drawn) (ch := []) (fun _ z => nomatch z) (fun b o _ hb _ e n => u.keep b o e n hb (by simp)) (fun b o _ hb _ e n => u.slot b o e n hb (by simp)) (fun b o _ e n => u.free b o e n (by simp)) (fun b o _ e => u.there b o e (by simp)) u.tups u.frzs u.tbls (fun m' hm => by
    obtain ⟨o', es', ep', ho', r'⟩ := hm
    rw [ho] at ho'; cases ho'
    exact ⟨_, es', ep', hL, r'⟩) hok I.bare
theorem Inv.call {g' : Array GenState} {t' : Nat} {d' : Drawn} {ch : List Addr} (I : Inv X pins σ H s) (u : Un (frs X.stack) ch H H' s.heap h') (hok : HOk X.prog X.w H' h') (hg : AllBare g')
    (hch : ∀ b ∈ ch, (b ∈ X.ex ∨ X.s₀.heap.objs.size ≤ b) ∧ b ≠ X.env.locals ∧ (∀ x c, X.env.cells.lookup x = some c → c ≠ b) ∧ ∀ p ∈ X.pn ++ pins, p.1 ≠ b) :
    Inv X pins σ H' { s with heap := h', gens := g', drawn := d', toks := t' } := by
  obtain ⟨m, ⟨o, es, ep, ho, r⟩, _⟩ := id I.loc
  obtain ⟨sl, hL⟩ := u.any ho I.free fun z => (hch _ z).2.1 rfl
  exact I.step (ch := ch) hch (fun b o hL hb hc e n => u.keep b o e n (fun z => (List.mem_cons.mp (I.stkSub b z)).elim hL hb) hc) (fun b o _ _ hc e n => u.any e n hc) (fun b o hc e n => u.free b o e n hc) (fun b o hc e => u.there b o e hc) u.tups u.frzs u.tbls (fun m' hm => by
    obtain ⟨o', es', ep', ho', r'⟩ := hm
    rw [ho] at ho'; cases ho'
    exact ⟨_, es', ep', hL, r'⟩) hok hg
theorem Inv.turned {t' : Nat} {it : Addr} (I : Inv X pins σ H s) (k : ∀ b o, b ≠ it → s.heap.get? b = some o → h'.get? b = some o) (hn : H it = none) (hL : it ≠ X.env.locals)
    (h1 : it ∈ X.ex ∨ X.s₀.heap.objs.size ≤ it) (h2 : ∀ x c, X.env.cells.lookup x = some c → c ≠ it) (h3 : ∀ p ∈ X.pn ++ pins, p.1 ≠ it) : Inv X pins σ H { s with heap := h', toks := t' } := by
  have nit : ∀ b u, H b = some u → b ≠ it := fun b u e z => by rw [z, hn] at e; cases e
  refine I.step (g' := s.gens) (d' := s.drawn) (ch := [it]) (fun b hb => ?_) (fun b o _ _ hc e _ => k b o (fun z => hc (by simp [z])) e) (fun b o _ _ hc e _ => ⟨o.slots, k b o (fun z => hc (by simp [z])) e⟩) (fun _ _ _ _ n => n)
    (fun b o hc e => ⟨o, k b o (fun z => hc (by simp [z])) e⟩) (fun _ _ e => e) (fun _ _ _ e => e) (fun b ps e => ⟨#[], by rw [e]; simp⟩) (fun m hm => ?_) (fun b u e => ?_) I.bare
  · have e : b = it := by simpa using hb
    subst e
    exact ⟨h1, hL, h2, h3⟩
  · obtain ⟨o, es, ep, ho, r⟩ := hm
    exact ⟨o, es, ep, k _ o (Ne.symm hL) ho, r⟩
  · refine (I.hok b u e).stay (fun c v hc q => k c v ?_ q) (fun _ q => q) fun _ _ q => q
    rcases hc with z | z
    · rw [z]; exact nit b u e
    · exact nit c _ z
theorem Inv.tok (I : Inv X pins σ H s) (t : Nat) : Inv X pins σ H { s with toks := t } := I.un (h' := s.heap) (t' := t) Un.refl I.hok
theorem Inv.kept {t' : Nat} (I : Inv X pins σ H s) (k : ∀ b u, s.heap.get? b = some u → h'.get? b = some u) : Inv X pins σ H { s with heap := h', toks := t' } := I.un (Un.kept k) (I.hok.kept k)
theorem Inv.laid {a : Addr} {o : HO} {t' : Nat} (I : Inv X pins σ H s) (k : ∀ b u, s.heap.get? b = some u → h'.get? b = some u) (hp : s.heap.objs.size ≤ a) (new : yB X.prog X.w (upd H a o) h' a o) :
    Inv X pins σ (upd H a o) { s with heap := h', toks := t' } := I.un (Un.laid k hp (I.hok.fresh hp)) (I.hok.laid k hp new)
theorem Inv.write {x e : Addr} {o : HO} {t' : Nat} (I : Inv X pins σ H s) (mu : Mut (H x)) (he : e = x ∨ H e = some (.own x)) (k : ∀ b u, b ≠ e → s.heap.get? b = some u → h'.get? b = some u) (heo : ∃ u, h'.get? e = some u)
    (new : yB X.prog X.w (upd H x o) h' x o) : Inv X pins σ (upd H x o) { s with heap := h', toks := t' } := I.un (Un.write mu he k heo) (I.hok.write mu he k heo new)
theorem Inv.weak {σ' : List (Option V)} (I : Inv X pins σ H s) (hl : σ'.length = σ.length) (w : ∀ (i : Nat) v, σ'[i]? = some (some v) → σ[i]? = some (some v)) : Inv X pins σ' H s :=
  ⟨I.ok, I.os, I.bare, I.base, let ⟨m, hn, hl'⟩ := I.loc; ⟨m, hn, fun i x v e1 e2 e3 => hl' i x v e1 (w i v e2) e3⟩, I.cell, I.free, I.freeC, I.pin, I.hok, hl.trans I.len⟩
theorem Inv.pins_of {pins' : List (Addr × Obj)} (I : Inv X pins σ H s) (h : ∀ p ∈ pins', s.heap.get? p.1 = some p.2 ∧ H p.1 = none ∧ p.1 ≠ X.env.locals ∧ p.1 ∉ X.fs ∧ ∀ v, p.2.data ≠ .cell v) : Inv X pins' σ H s :=
  ⟨I.ok, I.os, I.bare, I.base, I.loc, I.cell, I.free, I.freeC, fun p hp => (List.mem_append.mp hp).elim (fun z => I.pin p (List.mem_append_left _ z)) (h p), I.hok, I.len⟩
theorem zdj {N : List Str} (hN : N.Nodup) {i j : Nat} {x : Str} (a : N[i]? = some x) (b : N[j]? = some x) : i = j := by
  obtain ⟨h1, e1⟩ := List.getElem?_eq_some_iff.mp a
  obtain ⟨h2, e2⟩ := List.getElem?_eq_some_iff.mp b
  exact (List.getElem_inj hN).mp (e1.trans e2.symm)
theorem zfh {M : Model} {A : Around} {E : Value → Shared → Prop} {i : Nat} {x : Str} {v : V} {u : Value} {Q : Unit → Shared → Prop} (I : Inv X pins σ H s) (hN : X.N.Nodup) (hi : X.N[i]? = some x) (hx : Loc X.env.scope x) (r : yH v u)
    (h : ∀ s', Inv X pins (σ.set i (some v)) H s' → (∃ a, Heap.SameBut a s.heap s'.heap ∧ (a = X.env.locals ∨ X.env.cells.lookup x = some a)) → Q () s') (hf : X.fn x = true ∨ X.env.scope.names.lookup x = some .local := by first | exact .inl rfl | exact .inr rfl | assumption) : wpAny M A (storeName X.env x u) Q E s := by
  obtain ⟨m, hn, hl⟩ := id I.loc
  have hcls : (X.env.scope.kind == .class || (X.env.scope.kind == .module && X.env.locals != X.env.globals)) = false := by rw [I.ok.kind]; rfl
  have hiσ : i < σ.length := by rw [I.len]; exact (List.getElem?_eq_some_iff.mp hi).1
  have cne := I.cne
  have tracked : ∀ {a : Addr} {h' : Heap}, (∃ o, s.heap.get? a = some o ∧ H a = none) → Heap.SameBut a s.heap h' → HOk X.prog X.w H h' := fun {a h'} ha hs b ob e => by
    obtain ⟨_, _, hfree⟩ := ha
    refine (I.hok b ob e).stay (fun c w' hc q => (hs.2 c ?_).trans q) (fun _ q => q) fun _ _ q => q
    rintro rfl
    rcases hc with rfl | hc
    · rw [hfree] at e; cases e
    · rw [hfree] at hc; cases hc
  rcases hx with hk | hk
  · refine wpAny_storeName_local hk hn (fun h' hn' hs => ?_) hcls
    obtain ⟨oL, _, _, hoL, _⟩ := id hn
    refine h _ ⟨I.ok, I.os, I.bare, ⟨fun b o e n hb hx => ?_, fun b o e n hb hx => ?_, I.base.free, fun b o e hx => ?_, I.base.tups, I.base.frzs, I.base.tbls⟩, ⟨_, hn', fun j y v' e1 e2 e3 => ?_⟩, fun y c e => ?_, I.free, I.freeC, fun p hp => ?_, tracked ⟨oL, hoL, I.free⟩ hs, by simpa using I.len⟩ ⟨_, hs, .inl rfl⟩
    · exact (hs.2 b (Nat.ne_of_lt (Nat.lt_of_lt_of_le (Heap.lt_size e) I.ok.above))).trans (I.base.keep b o e n hb hx)
    · obtain ⟨sl, e1⟩ := I.base.slot b o e n hb hx
      exact ⟨sl, (hs.2 b (Nat.ne_of_lt (Nat.lt_of_lt_of_le (Heap.lt_size e) I.ok.above))).trans e1⟩
    · obtain ⟨o', e1⟩ := I.base.there b o e hx
      exact ⟨o', (hs.2 b (Nat.ne_of_lt (Nat.lt_of_lt_of_le (Heap.lt_size e) I.ok.above))).trans e1⟩
    · by_cases hj : j = i
      · subst hj
        rw [hi] at e1; cases e1
        rw [List.getElem?_set_self hiσ] at e2
        cases e2
        exact ⟨u, r, .inl ⟨hk, by simp⟩⟩
      · rw [List.getElem?_set_ne (Ne.symm hj)] at e2
        obtain ⟨u', r', q⟩ := hl j y v' e1 e2 e3
        refine ⟨u', r', ?_⟩
        rcases q with ⟨k, e⟩ | ⟨k, c, e, z⟩
        · refine .inl ⟨k, ?_⟩
          have : y ≠ x := fun e => hj (zdj hN e1 (e ▸ hi))
          simp [this, e]
        · exact .inr ⟨k, c, e, z.sameBut hs (cne y c e)⟩
    · obtain ⟨w', z⟩ := I.cell y c e
      exact ⟨w', z.sameBut hs (cne y c e)⟩
    · obtain ⟨e, n, ne, nf, d⟩ := I.pin p hp
      exact ⟨(hs.2 p.1 ne).trans e, n, ne, nf, d⟩
  · have hfn : X.fn x = true := by
      rcases hf with z | z
      · exact z
      · rw [z] at hk; cases hk
    obtain ⟨c, hc⟩ := I.ok.has x (.inl hk)
    obtain ⟨w', z⟩ := I.cell x c hc
    refine wpAny_storeName_cell I.ok.kind hk hc z (fun h' hc' hs => ?_)
    obtain ⟨oc, hoc, hocd⟩ := id z
    refine h { s with heap := h' } ⟨I.ok, I.os, I.bare, ⟨fun b o e n hb hx => ?_, fun b o e n hb hx => ?_, I.base.free, fun b o e hx => ?_, I.base.tups, I.base.frzs, I.base.tbls⟩, ⟨m, hn.sameBut hs (Ne.symm (cne x c hc)), fun j y v' e1 e2 e3 => ?_⟩, fun y c' e => ?_, I.free, I.freeC, fun p hp => ?_, tracked ⟨oc, hoc, I.freeC x c hc⟩ hs, by simpa using I.len⟩ ⟨c, hs, .inr hc⟩
    · exact (hs.2 b (Nat.ne_of_lt (Nat.lt_of_lt_of_le (Heap.lt_size e) (I.ok.cab x c hfn hc)))).trans (I.base.keep b o e n hb hx)
    · obtain ⟨sl, e1⟩ := I.base.slot b o e n hb hx
      exact ⟨sl, (hs.2 b (Nat.ne_of_lt (Nat.lt_of_lt_of_le (Heap.lt_size e) (I.ok.cab x c hfn hc)))).trans e1⟩
    · obtain ⟨o', e1⟩ := I.base.there b o e hx
      exact ⟨o', (hs.2 b (Nat.ne_of_lt (Nat.lt_of_lt_of_le (Heap.lt_size e) (I.ok.cab x c hfn hc)))).trans e1⟩
    · by_cases hj : j = i
      · subst hj
        rw [hi] at e1; cases e1
        rw [List.getElem?_set_self hiσ] at e2
        cases e2
        exact ⟨u, r, .inr ⟨.inl hk, c, hc, hc'⟩⟩
      · rw [List.getElem?_set_ne (Ne.symm hj)] at e2
        obtain ⟨u', r', q⟩ := hl j y v' e1 e2 e3
        refine ⟨u', r', ?_⟩
        rcases q with q | ⟨k, c', e, z'⟩
        · exact .inl q
        · refine .inr ⟨k, c', e, z'.sameBut hs ?_⟩
          rintro rfl
          exact hj (zdj hN e1 (I.ok.inj _ _ _ e hc ▸ hi))
    · by_cases hcc : c' = c
      · subst hcc; exact ⟨_, hc'⟩
      · obtain ⟨w2, z2⟩ := I.cell y c' e
        exact ⟨w2, z2.sameBut hs hcc⟩
    · obtain ⟨e, n, ne, nf, d⟩ := I.pin p hp
      refine ⟨(hs.2 p.1 ?_).trans e, n, ne, nf, d⟩
      intro q
      rw [q, hoc] at e
      have q' : oc = p.2 := Option.some.inj e
      exact d w' (by rw [← q']; exact hocd)
theorem zdf {M : Model} {A : Around} {E : Value → Shared → Prop} {i : Nat} {x : Str} {v : V} {u : Value} {Q : Unit → Shared → Prop} (I : Inv X pins σ H s) (hN : X.N.Nodup) (hi : X.N[i]? = some x) (hx : Loc X.env.scope x) (r : yH v u)
    (h : ∀ s', Inv X pins (σ.set i (some v)) H s' → Q () s') (hf : X.fn x = true ∨ X.env.scope.names.lookup x = some .local := by first | exact .inl rfl | exact .inr rfl | assumption) : wpAny M A (storeName X.env x u) Q E s :=
  zfh I hN hi hx r (fun s' I' _ => h s' I') hf
theorem Inv.call' {s' : Shared} {ch : List Addr} (I : Inv X pins σ H s) (ho : s'.os = s.os) (u : Un (frs X.stack) ch H H' s.heap s'.heap) (hok : HOk X.prog X.w H' s'.heap) (hg : AllBare s'.gens)
    (hch : ∀ b ∈ ch, (b ∈ X.ex ∨ X.s₀.heap.objs.size ≤ b) ∧ b ≠ X.env.locals ∧ (∀ x c, X.env.cells.lookup x = some c → c ≠ b) ∧ ∀ p ∈ X.pn ++ pins, p.1 ≠ b) : Inv X pins σ H' s' := by
  obtain ⟨h', g', d', t', o'⟩ := s'
  have e : o' = s.os := ho
  subst e
  exact I.call (g' := g') (t' := t') (d' := d') u hok hg hch
end
noncomputable abbrev XK := Value → Option Addr → Hp → Prop
noncomputable abbrev St := List (Option V)
noncomputable abbrev VK := V → Hp → Prop
noncomputable abbrev TE := St → Hp → VK → Prop
noncomputable abbrev TT := St → Hp → (Bool → Hp → Prop) → Prop
noncomputable abbrev TA := St → Hp → (List V → Hp → Prop) → Prop
structure zgh where
  nx : St → Hp → Prop
  rt : VK
  bk : St → Hp → Prop := fun _ _ => False
  ct : St → Hp → Prop := fun _ _ => False
noncomputable abbrev TS := zgh → St → Hp → Prop
noncomputable def EP (X : Cx) (pins : List (Addr × Obj)) (σ : St) (Q : VK) (u : Value) (s' : Shared) : Prop := ∃ v H', Inv X pins σ H' s' ∧ yH v u ∧ Q v H'
noncomputable def TP (X : Cx) (pins : List (Addr × Obj)) (σ : St) (Q : Bool → Hp → Prop) (b : Bool) (s' : Shared) : Prop := ∃ H', Inv X pins σ H' s' ∧ Q b H'
noncomputable def AP (X : Cx) (pins : List (Addr × Obj)) (σ : St) (Q : List V → Hp → Prop) (us : List Value) (s' : Shared) : Prop := ∃ vs H', Inv X pins σ H' s' ∧ yl vs us ∧ Q vs H'
noncomputable def SP (X : Cx) (pins : List (Addr × Obj)) (D : zgh) (f : Flow) (s' : Shared) : Prop :=
  match f with
  | .next => ∃ σ' H', Inv X pins σ' H' s' ∧ D.nx σ' H'
  | .brk => ∃ σ' H', Inv X pins σ' H' s' ∧ D.bk σ' H'
  | .cont => ∃ σ' H', Inv X pins σ' H' s' ∧ D.ct σ' H'
  | .ret u => ∃ v σ' H', Inv X pins σ' H' s' ∧ yH v u ∧ D.rt v H'
noncomputable def PE (X : Cx) (e : Expr) (t : TE) : Prop :=
  ∀ (pins : List (Addr × Obj)) (s : Shared) (σ : St) (H : Hp) (Q : VK), Inv X pins σ H s → t σ H Q → wpAny (model X.prog X.w) X.A (eval e X.env) (EP X pins σ Q) X.xe s
noncomputable def PT (X : Cx) (e : Expr) (t : TT) : Prop :=
  ∀ (pins : List (Addr × Obj)) (s : Shared) (σ : St) (H : Hp) (Q : Bool → Hp → Prop), Inv X pins σ H s → t σ H Q → wpAny (model X.prog X.w) X.A (isTrue e X.env (eval e X.env)) (TP X pins σ Q) X.xe s
noncomputable def PW (X : Cx) (e : Expr) (t : TT) : Prop :=
  ∀ (whole : Sem Value) (pins : List (Addr × Obj)) (s : Shared) (σ : St) (H : Hp) (Q : Bool → Hp → Prop), Inv X pins σ H s → t σ H Q → wpAny (model X.prog X.w) X.A (isTrue e X.env whole) (TP X pins σ Q) X.xe s
theorem PW.pt {X : Cx} {e : Expr} {t : TT} (h : PW X e t) : PT X e t := h _
noncomputable def PA (X : Cx) (es : List Expr) (t : TA) : Prop :=
  ∀ (pos : Pos) (pins : List (Addr × Obj)) (s : Shared) (σ : St) (H : Hp) (Q : List V → Hp → Prop), Inv X pins σ H s → t σ H Q → wpAny (model X.prog X.w) X.A (spliced (backTo pos (starEach es X.env))) (AP X pins σ Q) X.xe s
noncomputable def PS (X : Cx) (st : Stmt) (t : TS) : Prop :=
  ∀ (pins : List (Addr × Obj)) (s : Shared) (σ : St) (H : Hp) (D : zgh), Inv X pins σ H s → t D σ H → wpAny (model X.prog X.w) X.A (exec st X.env) (SP X pins D) X.xe s
noncomputable def PSs (X : Cx) (st : List Stmt) (t : TS) : Prop :=
  ∀ (pins : List (Addr × Obj)) (s : Shared) (σ : St) (H : Hp) (D : zgh), Inv X pins σ H s → t D σ H → wpAny (model X.prog X.w) X.A (execs st X.env) (SP X pins D) X.xe s
theorem thn {α : Type} {t : Sem α} {Q Q' : α → Shared → Prop} {M : Model} {A : Around} {E : Value → Shared → Prop} {s : Shared} (h : wpAny M A t Q E s) (hQ : ∀ a s, Q a s → Q' a s) : wpAny M A t Q' E s := wpAny_mono h hQ fun _ _ x => x
end L2
namespace L2
open PySem PySem.Spec PyProof.Rows
section
variable {X : Cx}
theorem bin {a b : Expr} {ta tb : TE} (ha : PE X a ta) (hb : PE X b tb) {pins : List (Addr × Obj)} {s : Shared} {σ : St} {H : Hp} {R : V → V → Hp → Prop} (I : Inv X pins σ H s) (h : ta σ H fun x H1 => tb σ H1 fun y H2 => R x y H2)
    {α : Type} {Q : α → Shared → Prop} {f : Value → Value → Sem α}
    (hf : ∀ v u s2 x y H2, Inv X pins σ H2 s2 → yH x v → yH y u → R x y H2 → wpAny (model X.prog X.w) X.A (f v u) Q X.xe s2) :
    wpAny (model X.prog X.w) X.A (eval a X.env) (fun v s₁ => wpAny (model X.prog X.w) X.A (eval b X.env) (fun u s₂ => wpAny (model X.prog X.w) X.A (f v u) Q X.xe s₂) X.xe s₁) X.xe s := by
  refine thn (ha pins s σ H _ I h) fun v s1 hh9 => ?_
  obtain ⟨x, H1, I1, r1, q1⟩ := hh9
  refine thn (hb pins s1 σ H1 _ I1 q1) fun u s2 hh9 => ?_
  obtain ⟨y, H2, I2, r2, q2⟩ := hh9
  exact hf v u s2 x y H2 I2 r1 r2 q2
noncomputable def ziL (i : Nat) : TE := fun σ H Q => ∃ v, σ[i]? = some (some v) ∧ Q v H
noncomputable def tC (v : V) : TE := fun _ H Q => Q v H
theorem zj0 {i : Nat} {x : Str} {pos : Pos} (hN : X.N[i]? = some x) (hv : Vis X.env.scope x) (hd : (x == ("__debug__" : Str)) = false := by decide) (hcd : (x == ("__classdict__" : Str)) = false := by decide) : PE X (.Name x pos) (ziL i) := by
  intro pins s σ H Q I h
  obtain ⟨v, e, h⟩ := h
  obtain ⟨m, hn, hl⟩ := I.loc
  obtain ⟨u, r, l⟩ := hl i x v hN e hv
  have fin : EP X pins σ Q u s := ⟨v, H, I, r, h⟩
  rcases l with ⟨hk, hm⟩ | ⟨hk, c, hc, hcell⟩
  · exact wpAny_Name (wpAny_loadName_local I.ok.kind hk hn hm fin) hd
  · rcases hk with hk | hk
    · exact wpAny_Name (wpAny_loadName_cell I.ok.kind hk hc hcell fin) hd
    · exact wpAny_Name (wpAny_loadName_free I.ok.kind hk hc hcell fin hcd) hd
theorem zi {i j pos} : PE X (.Constant (.int i) j pos) (tC (.int i)) := fun _ _ _ H _ I h => wpAny_Constant_int ⟨.int i, H, I.tok _, ⟨_, rfl⟩, h⟩
theorem vI {b j pos} : PE X (.Constant (.bool b) j pos) (tC (.bl b)) := fun _ _ _ H _ I h => Constant_bool ⟨.bl b, H, I, rfl, h⟩
theorem zfK {j pos} : PE X (.Constant .none j pos) (tC .non) := fun _ _ _ H _ I h => Constant_none ⟨.non, H, I, rfl, h⟩
noncomputable def Gl (X : Cx) (x : Str) : Prop := X.env.kindOf x = some .globalImplicit
theorem zfl {E : Value → Shared → Prop} {pins : List (Addr × Obj)} {s : Shared} {σ : St} {H : Hp} {x : Str} {u : Value} {pos : Pos} {Q : Value → Shared → Prop} (I : Inv X pins σ H s) (hg : Gl X x) (hm : X.mg x = some u) (h : Q u s)
    (hd : (x == ("__debug__" : Str)) = false := by decide) : wpAny (model X.prog X.w) X.A (eval (.Name x pos) X.env) Q E s :=
  Calls.Name_function_global I.ok.kind hg (Calls.loadGlobal_global (by rw [I.ok.glob]; exact I.mod.glob.keeps I.bk) hm h) hd
theorem Xe {E : Value → Shared → Prop} {pins : List (Addr × Obj)} {s : Shared} {σ : St} {H : Hp} {x : Str} {u : Value} {pos : Pos} {Q : Value → Shared → Prop} (I : Inv X pins σ H s) (hg : Gl X x) (hm : X.mg x = none) (hv : bootBuiltins x = some u) (h : Q u s)
    (hn : x ≠ "__name__" := by decide) (hd : (x == ("__debug__" : Str)) = false := by decide) : wpAny (model X.prog X.w) X.A (eval (.Name x pos) X.env) Q E s := by
  obtain ⟨mb, h1, h2⟩ := I.mod.blt
  exact Calls.Name_function_global I.ok.kind hg (Calls.loadGlobal_builtin (by rw [I.ok.glob]; exact I.mod.glob.keeps I.bk) hm (by rw [I.ok.blt]; exact h1.keeps I.bk) ((h2 x hn).trans hv) h) hd
theorem ZP {x : Str} {v : V} {u : Value} {pos : Pos} (hg : Gl X x) (hm : X.mg x = some u) (r : yH v u) (hd : (x == ("__debug__" : Str)) = false := by decide) : PE X (.Name x pos) (tC v) :=
  fun _ _ _ H _ I h => zfl I hg hm ⟨v, H, I, r, h⟩ hd
theorem Xb {x : Str} {v : V} {u : Value} {pos : Pos} (hg : Gl X x) (hm : X.mg x = none) (hv : bootBuiltins x = some u) (r : yH v u) (hn : x ≠ "__name__" := by decide) (hd : (x == ("__debug__" : Str)) = false := by decide) : PE X (.Name x pos) (tC v) :=
  fun _ _ _ H _ I h => Xe I hg hm hv ⟨v, H, I, r, h⟩ hn hd
variable {a b : Expr} {ta tb : TE} {pos : Pos}
noncomputable def PC (X : Cx) (op : CmpOp) (a b : Expr) (t : TE) : Prop :=
  ∀ (pins : List (Addr × Obj)) (s : Shared) (σ : St) (H : Hp) (Q : VK), Inv X pins σ H s → t σ H Q →
    wpAny (model X.prog X.w) X.A (eval a X.env) (fun v s₁ => wpAny (model X.prog X.w) X.A (eval b X.env) (fun u s₂ => wpAny (model X.prog X.w) X.A (compareOp op v u) (EP X pins σ Q) X.xe s₂) X.xe s₁) X.xe s
theorem zga (b : Expr) {op : CmpOp} (h : op ≠ .In) (h2 : op ≠ .NotIn) : behindInMarks op b = false := by
  have e1 : (op == CmpOp.In) = false := by cases op <;> first | rfl | exact absurd rfl h
  have e2 : (op == CmpOp.NotIn) = false := by cases op <;> first | rfl | exact absurd rfl h2
  cases b <;> simp [behindInMarks, e1, e2]
noncomputable def tB (t : TE) : TT := fun σ H Q => t σ H fun x H1 => ∃ c, x = .bl c ∧ Q c H1
theorem pt_cmp {op : CmpOp} {t : TE} (h : PC X op a b t) (h1 : behindInMarks op b = false := by first | exact zga _ (by decide) (by decide) | rfl) : PT X (.Compare a [op] [b] pos) (tB t) := by
  intro pins s σ H Q I hw
  refine wpAny_isTrue_Compare1 (thn (h pins s σ H _ I hw) fun v s1 h1 => thn h1 fun u s2 h2 => thn h2 fun c s3 hh9 => ?_) h1
  obtain ⟨x, H1, I1, r1, q1⟩ := hh9
  obtain ⟨d, rfl, q⟩ := q1
  cases r1
  exact wpAny_truthy_bool ⟨H1, I1, q⟩
theorem zkC {e : Expr} {t : TE} (h : PE X e t) (he : ∀ whole, isTrue e X.env whole = (do let v ← whole; standAt e.pos; holding [v] (truthy v)) := by intro _; rfl) : PT X e (tB t) := by
  intro pins s σ H Q I hw
  refine isTrue_plain (thn (h pins s σ H _ I hw) fun v s1 hh9 => ?_) (he _)
  obtain ⟨x, H1, I1, r1, q1⟩ := hh9
  obtain ⟨d, rfl, q⟩ := q1
  cases r1
  exact wpAny_truthy_bool ⟨H1, I1, q⟩
variable {tA tB' : TT} {rest : List Expr}
noncomputable def tAnd (t u : TT) : TT := fun σ H Q => t σ H fun c H1 => if c = true then u σ H1 Q else Q false H1
noncomputable def tOr (t u : TT) : TT := fun σ H Q => t σ H fun c H1 => if c = true then Q true H1 else u σ H1 Q
noncomputable def tNot (t : TT) : TT := fun σ H Q => t σ H fun c H1 => Q (!c) H1
theorem ziu (ha : PT X a tA) : PW X (.BoolOp .And [a] pos) tA := by
  intro wh pins s σ H Q I h
  refine isTrue_and (thn (ha pins s σ H Q I h) fun c s1 e => ?_)
  cases c with
  | true => exact isTrue_and_nil e
  | false => exact e
theorem zjN (ha : PT X a tA) : PW X (.BoolOp .Or [a] pos) tA := by
  intro wh pins s σ H Q I h
  refine isTrue_or (thn (ha pins s σ H Q I h) fun c s1 e => ?_)
  cases c with
  | false => exact isTrue_or_nil e
  | true => exact e
theorem zkZ (ha : PT X a tA) (hb : PW X (.BoolOp .And (b :: rest) pos) tB') : PW X (.BoolOp .And (a :: b :: rest) pos) (tAnd tA tB') := by
  intro wh pins s σ H Q I h
  refine isTrue_and (thn (ha pins s σ H _ I h) fun c s1 hh9 => ?_)
  obtain ⟨H1, I1, q1⟩ := hh9
  cases c with
  | true => exact hb wh pins s1 σ H1 Q I1 q1
  | false => exact ⟨H1, I1, q1⟩
theorem zl6 (ha : PT X a tA) (hb : PW X (.BoolOp .Or (b :: rest) pos) tB') : PW X (.BoolOp .Or (a :: b :: rest) pos) (tOr tA tB') := by
  intro wh pins s σ H Q I h
  refine isTrue_or (thn (ha pins s σ H _ I h) fun c s1 hh9 => ?_)
  obtain ⟨H1, I1, q1⟩ := hh9
  cases c with
  | true => exact ⟨H1, I1, q1⟩
  | false => exact hb wh pins s1 σ H1 Q I1 q1
theorem zjT (ha : PT X a tA) : PT X (.UnaryOp .Not a pos) (tNot tA) := by
  intro pins s σ H Q I h
  exact isTrue_not (ha pins s σ H (fun c H1 => Q (!c) H1) I h)
noncomputable def zmu (ta tb : TE) : TE := fun σ H Q => ta σ H fun x H1 => ∃ c, x = .bl c ∧ if c = true then tb σ H1 Q else Q (.bl false) H1
noncomputable def zlW (ta : TE) : TE := fun σ H Q => ta σ H fun x H1 => ∃ c, x = .bl c ∧ Q (.bl (!c)) H1
theorem zkn {op} {t : TE} (h : PE X a t) : PE X (.BoolOp op [a] pos) t := fun pins s σ H Q I hw => BoolOp_one (h pins s σ H Q I hw)
theorem zkm (ha : PE X a ta) (hb : PE X (.BoolOp .And (b :: rest) pos) tb) : PE X (.BoolOp .And (a :: b :: rest) pos) (zmu ta tb) := by
  intro pins s σ H Q I h
  refine BoolOp_and (thn (ha pins s σ H _ I h) fun v s1 hh9 => ?_)
  obtain ⟨x, H1, I1, r1, q1⟩ := hh9
  obtain ⟨c, rfl, q1⟩ := q1
  cases r1
  refine wpAny_truthy_bool ?_
  cases c with
  | true => exact hb pins s1 σ H1 Q I1 q1
  | false => exact ⟨.bl false, H1, I1, rfl, q1⟩
theorem zjU (ha : PE X a ta) : PE X (.UnaryOp .Not a pos) (zlW ta) := by
  intro pins s σ H Q I h
  refine UnaryOp_ (thn (ha pins s σ H _ I h) fun v s1 hh9 => ?_)
  obtain ⟨x, H1, I1, r1, q1⟩ := hh9
  obtain ⟨c, rfl, q1⟩ := q1
  cases r1
  exact not_of (wpAny_truthy_bool ⟨.bl (!c), H1, I1, rfl, q1⟩)
noncomputable def tIf (t : TT) (ta tb : TE) : TE := fun σ H Q => t σ H fun c H1 => if c = true then ta σ H1 Q else tb σ H1 Q
theorem zgP {c : Expr} (hc : PT X c tA) (ha : PE X a ta) (hb : PE X b tb) : PE X (.IfExp c a b pos) (tIf tA ta tb) := by
  intro pins s σ H Q I h
  refine wpAny_IfExp (thn (hc pins s σ H _ I h) fun d s1 hh9 => ?_)
  obtain ⟨H1, I1, q1⟩ := hh9
  cases d with
  | true => exact ha pins s1 σ H1 Q I1 q1
  | false => exact hb pins s1 σ H1 Q I1 q1
end
end L2
namespace L2
open PySem PySem.Spec PyProof.Rows
noncomputable def SqL (K : PySem.W.Frag) (H : Hp) (a : Addr) (xs : List V) : Prop :=
  Rd H a (.lst xs) ∨
    ∃ (o : Obj) (its : Array Value) (n : Nat), K.lookup a = some o ∧ o.cls = .type "list" ∧ o.dict = none ∧ o.data = .seq its n ∧ its.size ≤ sizeLine ∧ yl xs its.toList
noncomputable def SqT (K : PySem.W.Frag) (H : Hp) (a : Addr) (xs : List V) : Prop :=
  Rd H a (.tup xs) ∨
    ∃ (o : Obj) (its : Array Value) (n : Nat), K.lookup a = some o ∧ o.cls = .type "tuple" ∧ o.data = .seq its n ∧ its.size ≤ sizeLine ∧ yl xs its.toList
noncomputable def absV : Value → Option V
  | .none => some .non
  | .bool b => some (.bl b)
  | .int i _ => some (.int i)
  | .str x _ => some (.str x)
  | .bytes b _ => some (.byt b)
  | .float b _ => some (.flt b)
  | .ref a => some (.ref a)
  | .type n => some (.ty n)
  | _ => none
theorem yH.abs {x : V} {u : Value} (r : yH x u) : absV u = some x := by
  cases x with
  | non => cases r; rfl
  | bl _ => cases r; rfl
  | int _ => obtain ⟨t, rfl⟩ := r; rfl
  | str _ => obtain ⟨t, rfl⟩ := r; rfl
  | byt _ => obtain ⟨t, rfl⟩ := r; rfl
  | flt _ => obtain ⟨t, rfl⟩ := r; rfl
  | ref _ => cases r; rfl
  | ty _ => cases r; rfl
theorem yH.inj {x y : V} {u : Value} (r : yH x u) (q : yH y u) : x = y := Option.some.inj (r.abs.symm.trans q.abs)
theorem yl.inj : ∀ {xs ys : List V} {us : List Value}, yl xs us → yl ys us → xs = ys := by
  intro xs ys us h
  induction h generalizing ys with
  | nil => intro h2; cases h2; rfl
  | cons r t ih => intro h2; cases h2 with | cons r' t' => rw [r.inj r', ih t']
section
variable {X : Cx} {pins : List (Addr × Obj)} {σ : St} {H : Hp} {s : Shared} {a : Addr} {xs ys : List V}
theorem SqL.of {K : PySem.W.Frag} (h : H a = some (.lst xs)) : SqL K H a xs := .inl (.inl h)
theorem SqT.of {K : PySem.W.Frag} (h : H a = some (.tup xs)) : SqT K H a xs := .inl (.inl h)
theorem Inv.list (I : Inv X pins σ H s) (h : SqL X.K H a xs) : ∃ its : List Value, yl xs its ∧ PlainL s.heap a its.toArray ∧ xs.length ≤ sizeLine := by
  rcases h with h | ⟨o, its, n, hk, hc, hd, hs, hz, r⟩
  · obtain ⟨z, its, n, r, e⟩ := h.ok I.hok
    exact ⟨its, r, ⟨_, n, e, rfl, rfl, rfl⟩, z⟩
  · refine ⟨its.toList, r, ⟨o, n, I.kIn a o hk, hc, hd, by simpa using hs⟩, ?_⟩
    have e := r.length
    simp only [Array.length_toList] at e
    omega
theorem Inv.tuple (I : Inv X pins σ H s) (h : SqT X.K H a xs) : ∃ its : List Value, yl xs its ∧ IsTup s.heap a its.toArray ∧ xs.length ≤ sizeLine := by
  rcases h with h | ⟨o, its, n, hk, hc, hs, hz, r⟩
  · obtain ⟨z, its, r, p⟩ := h.ok I.hok
    exact ⟨its, r, p, z⟩
  · refine ⟨its.toList, r, ⟨o, I.kIn a o hk, hc, n, by simpa using hs⟩, ?_⟩
    have e := r.length
    simp only [Array.length_toList] at e
    omega
theorem Inv.list_inj (I : Inv X pins σ H s) (h : SqL X.K H a xs) (h' : SqL X.K H a ys) : xs = ys := by
  obtain ⟨its, r, ⟨o, n, e, _, _, d⟩, _⟩ := I.list h
  obtain ⟨its', r', ⟨o', n', e', _, _, d'⟩, _⟩ := I.list h'
  rw [e] at e'; cases e'
  rw [d] at d'
  injection d' with d1 _
  have : its = its' := by simpa using congrArg Array.toList d1
  subst this
  exact r.inj r'
theorem Inv.tuple_inj (I : Inv X pins σ H s) (h : SqT X.K H a xs) (h' : SqT X.K H a ys) : xs = ys := by
  obtain ⟨its, r, ⟨o, e, _, n, d⟩, _⟩ := I.tuple h
  obtain ⟨its', r', ⟨o', e', _, n', d'⟩, _⟩ := I.tuple h'
  rw [e] at e'; cases e'
  rw [d] at d'
  injection d' with d1 _
  have : its = its' := by simpa using congrArg Array.toList d1
  subst this
  exact r.inj r'
end
noncomputable abbrev Cx.wish (X : Cx) (E : Value → Shared → Prop) : Cx := { X with xe := E }
noncomputable abbrev Cx.nox (X : Cx) : Cx := X.wish fun _ _ => False
theorem Cx.Ok.wish {X : Cx} (ok : X.Ok) (E : Value → Shared → Prop) : (X.wish E).Ok :=
  ⟨ok.mod, ok.kind, ok.glob, ok.blt, ok.above, ok.inj, ok.has, ok.cab, ok.hd, ok.frames, ok.stk, ok.exf, ok.bs, ok.bsz, ok.noex, ok.exfs, ok.funs, ok.frf⟩
theorem Cx.Ok.unwish {X : Cx} {E : Value → Shared → Prop} (ok : (X.wish E).Ok) : X.Ok :=
  ⟨ok.mod, ok.kind, ok.glob, ok.blt, ok.above, ok.inj, ok.has, ok.cab, ok.hd, ok.frames, ok.stk, ok.exf, ok.bs, ok.bsz, ok.noex, ok.exfs, ok.funs, ok.frf⟩
section
variable {X : Cx} {pins : List (Addr × Obj)} {σ : St} {H : Hp} {s : Shared} {E : Value → Shared → Prop}
theorem Inv.wish (I : Inv X pins σ H s) (E : Value → Shared → Prop) : Inv (X.wish E) pins σ H s := ⟨I.ok.wish E, I.os, I.bare, I.base, I.loc, I.cell, I.free, I.freeC, I.pin, I.hok, I.len⟩
theorem Inv.unwish (I : Inv (X.wish E) pins σ H s) : Inv X pins σ H s := ⟨I.ok.unwish, I.os, I.bare, I.base, I.loc, I.cell, I.free, I.freeC, I.pin, I.hok, I.len⟩
theorem SP.unwish {D : zgh} {f : Flow} {s' : Shared} (h : SP (X.wish E) pins D f s') : SP X pins D f s' := by
  cases f with
  | next => obtain ⟨σ', H', I, q⟩ := h; exact ⟨σ', H', I.unwish, q⟩
  | brk => obtain ⟨σ', H', I, q⟩ := h; exact ⟨σ', H', I.unwish, q⟩
  | cont => obtain ⟨σ', H', I, q⟩ := h; exact ⟨σ', H', I.unwish, q⟩
  | ret u => obtain ⟨v, σ', H', I, r, q⟩ := h; exact ⟨v, σ', H', I.unwish, r, q⟩
theorem PSs.nox {st : List Stmt} {t : TS} (h : PSs X.nox st t) : PSs X st t := fun pins s σ H D I hw =>
  wpAny_mono (h pins s σ H D (I.wish _) hw) (fun _ _ q => q.unwish) fun _ _ z => False.elim z
end
section
variable {X : Cx} {st : Stmt} {rest : List Stmt} {t u : TS} {e : Expr} {te : TE} {pos : Pos}
noncomputable def zlI : TS := fun D σ H => D.nx σ H
noncomputable def tSeq (t u : TS) : TS := fun D σ H => t { D with nx := u D } σ H
theorem zid : PSs X [] zlI := fun _ _ σ H _ I h => wpAny_execs_nil ⟨σ, H, I, h⟩
theorem zhj (h1 : PS X st t) (h2 : PSs X rest u) : PSs X (st :: rest) (tSeq t u) := by
  intro pins s σ H D I h
  refine wpAny_execs_cons (thn (h1 pins s σ H { D with nx := u D } I h) fun f s1 q => ?_)
  cases f with
  | next =>
    obtain ⟨σ', H', I', q⟩ := q
    exact h2 pins s1 σ' H' D I' q
  | ret v => exact q
  | brk => exact q
  | cont => exact q
theorem zjt (h1 : PS X st t) : PSs X [st] t := by
  intro pins s σ H D I h
  refine wpAny_execs_cons (thn (h1 pins s σ H D I h) fun f s1 q => ?_)
  cases f with
  | next => exact wpAny_execs_nil q
  | ret v => exact q
  | brk => exact q
  | cont => exact q
theorem Inv.quiet {pins : List (Addr × Obj)} {σ : St} {H : Hp} {s : Shared} (I : Inv X pins σ H s) : interactive X.env = false := by simp [interactive, I.ok.kind]
noncomputable def zlX (te : TE) : TS := fun D σ H => te σ H fun _ H1 => D.nx σ H1
theorem zbM (he : PE X e te) (hs : swapsWith e none pos.line X.env = pure false := by rfl) : PS X (.Expr e pos) (zlX te) := by
  intro pins s σ H D I h
  exact wpAny_Expr_any (thn (he pins s σ H _ I h) fun v s1 ⟨x, H1, I1, r1, q1⟩ => ⟨σ, H1, I1, q1⟩) I.quiet hs
noncomputable def tRet (te : TE) : TS := fun D σ H => te σ H D.rt
theorem zjI (he : PE X e te) : PS X (.Return (some e) pos) (tRet te) := by
  intro pins s σ H D I h
  exact wpAny_Return_some (thn (he pins s σ H _ I h) fun v s1 ⟨x, H1, I1, r1, q1⟩ => ⟨x, σ, H1, I1, r1, q1⟩)
noncomputable def tIfS (c : TT) (t u : TS) : TS := fun D σ H => c σ H fun b H1 => if b = true then t D σ H1 else u D σ H1
theorem zmi {c : Expr} {a b : List Stmt} {tc : TT} (hc : PT X c tc) (ha : PSs X a t) (hb : PSs X b u) : PS X (.If c a b pos) (tIfS tc t u) := by
  intro pins s σ H D I h
  refine wpAny_If (thn (hc pins s σ H _ I h) fun d s1 hh9 => ?_)
  obtain ⟨H1, I1, q1⟩ := hh9
  cases d with
  | true => exact ha pins s1 σ H1 D I1 q1
  | false => exact hb pins s1 σ H1 D I1 q1
noncomputable def zj4 : TS := fun _ _ _ => False
theorem zho : PS X st zj4 := fun _ _ _ _ _ _ h => h.elim
end
noncomputable abbrev TG := V → St → Hp → (St → Hp → Prop) → Prop
noncomputable abbrev TGs := List V → St → Hp → (St → Hp → Prop) → Prop
noncomputable def PG (X : Cx) (target : Expr) (t : TG) : Prop :=
  ∀ (pins : List (Addr × Obj)) (s : Shared) (σ : St) (H : Hp) (v : V) (u : Value) (Q : St → Hp → Prop), Inv X pins σ H s → yH v u → t v σ H Q →
    wpAny (model X.prog X.w) X.A (assign target X.env u) (fun _ s' => ∃ σ' H', Inv X pins σ' H' s' ∧ Q σ' H') X.xe s
noncomputable def PGs (X : Cx) (ts : List Expr) (t : TGs) : Prop :=
  ∀ (pins : List (Addr × Obj)) (s : Shared) (σ : St) (H : Hp) (vs : List V) (us : List Value) (Q : St → Hp → Prop), Inv X pins σ H s → yl vs us → t vs σ H Q →
    wpAny (model X.prog X.w) X.A (assignInOrder ((assignEach ts X.env).map (·.2)) us) (fun _ s' => ∃ σ' H', Inv X pins σ' H' s' ∧ Q σ' H') X.xe s
noncomputable abbrev zmg := V → V → V → Hp → (Hp → Prop) → Prop
noncomputable def PSet (X : Cx) (t : zmg) : Prop :=
  ∀ (pins : List (Addr × Obj)) (s : Shared) (σ : St) (H : Hp) (o i v : V) (ov iv u : Value) (Q : Hp → Prop), Inv X pins σ H s → yH o ov → yH i iv → yH v u → t o i v H Q →
    wpAny (model X.prog X.w) X.A (setItem ov iv u) (fun _ s' => ∃ H', Inv X pins σ H' s' ∧ Q H') X.xe s
section
variable {X : Cx} {pos : Pos}
noncomputable def Yi (i : Nat) : TG := fun v σ H Q => Q (σ.set i (some v)) H
theorem zB {i : Nat} {x : Str} (hN : X.N.Nodup) (hi : X.N[i]? = some x) (hx : Loc X.env.scope x) (hf : X.fn x = true ∨ X.env.scope.names.lookup x = some .local := by first | exact .inl rfl | exact .inr rfl | assumption) : PG X (.Name x pos) (Yi i) := by
  intro pins s σ H v u Q I r h
  exact wpAny_assign_Name (zdf I hN hi hx r (fun s' I' => ⟨_, H, I', h⟩) hf)
noncomputable def zlm : TGs := fun vs σ H Q => vs = [] ∧ Q σ H
noncomputable def zcg (t : TG) (u : TGs) : TGs := fun vs σ H Q => ∃ v r, vs = v :: r ∧ t v σ H fun σ' H' => u r σ' H' Q
theorem zeW : PGs X [] zlm := by
  intro pins s σ H vs us Q I r h
  obtain ⟨e, h⟩ := h
  subst e
  cases r
  exact assignInOrder_nil ⟨σ, H, I, h⟩
theorem Wd {e : Expr} {es : List Expr} {t : TG} {u : TGs} (h1 : PG X e t) (h2 : PGs X es u)
    (hs : (assignEach (e :: es) X.env).map (·.2) = assign e X.env :: (assignEach es X.env).map (·.2) := by rfl) : PGs X (e :: es) (zcg t u) := by
  intro pins s σ H vs us Q I r h
  obtain ⟨v, vr, e1, h⟩ := h
  subst e1
  cases r with
  | cons r rr =>
    rw [hs]
    refine assignInOrder_cons (thn (h1 pins s σ H _ _ _ I r h) fun _ s1 hh9 => ?_)
    obtain ⟨σ1, H1, I1, q1⟩ := hh9
    exact h2 pins s1 σ1 H1 _ _ Q I1 rr q1
noncomputable def zlu (K : PySem.W.Frag) (n : Nat) (t : TGs) : TG := fun v σ H Q => ∃ a xs, v = .ref a ∧ SqT K H a xs ∧ xs.length = n ∧ t xs σ H Q
theorem zhL {es : List Expr} {k : Nat} {t : TGs} {n : Nat} (hc : X.calm = true) (h : PGs X es t)
    (hn : (assignEach es X.env).length = n := by rfl) (hst : (assignEach es X.env).findIdx? (·.1) = none := by rfl) : PG X (.Tuple es k pos) (zlu X.K n t) := by
  intro pins s σ H v u Q I r hw
  obtain ⟨a, xs, e1, hq, hl, hw⟩ := hw
  subst e1
  cases r
  obtain ⟨its, rv, ht, hz⟩ := I.tuple hq
  refine assign_Tuple_tuple (I.ok.hd hc) ht (by simp [hn, ← hl, rv.length]) hst fun h' hx => ?_
  have I1 : Inv X pins σ H { s with heap := h' } := I.kept (t' := s.toks) fun b o e => hx b o (Nat.ne_of_lt (Heap.lt_size e)) e
  exact h pins _ σ H xs _ Q I1 (by simpa using rv) hw
noncomputable def gSub (to ti : TE) (t : zmg) : TG := fun v σ H Q => to σ H fun o H1 => ti σ H1 fun i H2 => t o i v H2 fun H3 => Q σ H3
theorem zjP {o i : Expr} {to ti : TE} {t : zmg} (ho : PE X o to) (hi : PE X i ti) (hs : PSet X t)
    (ha : ∀ v, assign (.Subscript o i pos) X.env v = (do
      let ov ← holding [v] (eval o X.env)
      let iv ← holding [v, ov] (eval i X.env)
      standAt pos
      holding [v, ov, iv] (setItem ov iv v)
      release [v, ov, iv] []) := by intro _; rfl) : PG X (.Subscript o i pos) (gSub to ti t) := by
  intro pins s σ H v u Q I r h
  rw [ha]
  refine wpAny_bind (wpAny_holding (thn (ho pins s σ H _ I h) fun ov s1 hh9 => ?_))
  obtain ⟨x, H1, I1, r1, q1⟩ := hh9
  refine wpAny_bind (wpAny_holding (thn (hi pins s1 σ H1 _ I1 q1) fun iv s2 hh9 => ?_))
  obtain ⟨y, H2, I2, r2, q2⟩ := hh9
  refine wpAny_bind (wpAny_standAt (wpAny_bind (wpAny_holding (thn (hs pins s2 σ H2 x y v ov iv u _ I2 r1 r2 r q2) fun _ s3 hh9 => ?_))))
  obtain ⟨H3, I3, q3⟩ := hh9
  exact wpAny_release ⟨σ, H3, I3, q3⟩
noncomputable def zls (te : TE) (g : TG) : TS := fun D σ H => te σ H fun x H1 => g x σ H1 D.nx
theorem zko {tg e : Expr} {te : TE} {g : TG} (he : PE X e te) (hg : PG X tg g) (hs : swapsWithSole [tg] e pos.line X.env = pure false := by rfl) (hw : swappedStores [tg] e X.env = pure none := by rfl)
    (h1 : (assignEach [tg] X.env).map (·.2) = [assign tg X.env] := by rfl) : PS X (.Assign [tg] e pos) (zls te g) := by
  intro pins s σ H D I h
  refine wpAny_Assign_stores (thn (he pins s σ H _ I h) fun v s1 hh9 => ?_) hs hw
  obtain ⟨x, H1, I1, r1, q1⟩ := hh9
  rw [h1]
  exact thn (hg pins s1 σ H1 x v _ I1 r1 q1) fun _ s2 q => q
theorem zdC {i : Nat} {x : Str} {e : Expr} {te : TE} {pos' : Pos} (hN : X.N.Nodup) (hi : X.N[i]? = some x) (hx : Loc X.env.scope x) (he : PE X e te) (hs : swapsWith e (some (.Name x pos')) pos.line X.env = pure false := by rfl) (hf : X.fn x = true ∨ X.env.scope.names.lookup x = some .local := by first | exact .inl rfl | exact .inr rfl | assumption) :
    PS X (.Assign [.Name x pos'] e pos) (zls te (Yi i)) := by
  intro pins s σ H D I h
  refine wpAny_Assign_Name (thn (he pins s σ H _ I h) fun v s1 hh9 => ?_) hs
  obtain ⟨y, H1, I1, r1, q1⟩ := hh9
  exact zdf I1 hN hi hx r1 (fun s2 I2 => ⟨_, H1, I2, q1⟩) hf
end
section
variable {X : Cx} {pos : Pos}
noncomputable def zka (c : TT) (tb : TS) : TS := fun D σ H => ∃ W : Nat → St → Hp → Prop, (∃ m, W m σ H) ∧ ∀ m σ H, W m σ H →
  c σ H fun b H1 => if b = true then ∃ N : St → Hp → Prop, (∀ σ' H', N σ' H' → ∃ m', m' < m ∧ W m' σ' H') ∧ tb { D with nx := N, ct := N, bk := D.nx } σ H1 else D.nx σ H1
theorem zgD {c : Expr} {body : List Stmt} {tc : TT} {tb : TS} (hp : PassesOwn (model X.prog X.w) X.A X.env X.xe) (hc : PT X c tc) (hb : PSs X body tb) : PS X (.While c body [] pos) (zka tc tb) := by
  intro pins s σ H D I h
  obtain ⟨W, ⟨m0, w0⟩, turn⟩ := h
  refine wpAny_While (codeAny_whileLoop (fun n s' => ∃ σ' H', Inv X pins σ' H' s' ∧ W n σ' H') ?_ m0 ⟨σ, H, I, w0⟩)
  rintro n s1 ⟨σ1, H1, I1, w1⟩
  refine wpAny_passesOwn hp (thn (hc pins s1 σ1 H1 _ I1 (turn n σ1 H1 w1)) fun b s2 hh9 => ?_)
  obtain ⟨H2, I2, q2⟩ := hh9
  cases b with
  | true =>
    obtain ⟨N, hN, q2⟩ := q2
    rw [if_pos rfl]
    refine wpAny_passesOwn hp (thn (hb pins s2 σ1 H2 _ I2 q2) fun f s3 q3 => ?_)
    cases f with
    | next =>
      obtain ⟨σ3, H3, I3, n3⟩ := q3
      obtain ⟨m', hm, w3⟩ := hN σ3 H3 n3
      exact ⟨m', hm, σ3, H3, I3, w3⟩
    | cont =>
      obtain ⟨σ3, H3, I3, n3⟩ := q3
      obtain ⟨m', hm, w3⟩ := hN σ3 H3 n3
      exact ⟨m', hm, σ3, H3, I3, w3⟩
    | brk => exact q3
    | ret v => exact q3
  | false =>
    rw [if_neg Bool.false_ne_true]
    exact wpAny_execs_nil ⟨σ1, H2, I2, q2⟩
end
structure It where
  go : Nat → Hp → Prop
  yld : Nat → Hp → V → Hp → Prop
  stop : Nat → Hp → Prop
noncomputable def zdY (X : Cx) (pins : List (Addr × Obj)) (H : Hp) (b : Addr) : Prop :=
  H b = none ∧ b ≠ X.env.locals ∧ b ∉ X.fs ∧ (b ∈ X.ex ∨ X.s₀.heap.objs.size ≤ b) ∧ (∀ x c, X.env.cells.lookup x = some c → c ≠ b) ∧ ∀ p ∈ X.pn ++ pins, p.1 ≠ b
theorem Inv.fpOk {X : Cx} {pins : List (Addr × Obj)} {σ : St} {H H' : Hp} {s : Shared} {b : Addr} (I : Inv X pins σ H s) (hb : s.heap.objs.size ≤ b) (hn : H' b = none) : zdY X pins H' b := by
  refine ⟨hn, Nat.ne_of_gt (Nat.lt_of_lt_of_le I.lt hb), I.nofs hb, .inr (Nat.le_trans I.sz hb), fun x c e z => ?_, fun p hp z => ?_⟩
  · obtain ⟨v, q⟩ := I.cell x c e
    exact absurd (Nat.lt_of_lt_of_le q.lt (by rw [z]; exact hb)) (Nat.lt_irrefl _)
  · exact absurd (Nat.lt_of_lt_of_le (Heap.lt_size (I.pin p hp).1) (by rw [z]; exact hb)) (Nat.lt_irrefl _)
set_option genInjectivity false in
set_option genSizeOf false in
set_option genCtorIdx false in
structure ziU (P : Program) (w : World) (K : PySem.W.Frag) (tg : Expr) (J : It) (fp : List Addr) (it : Addr) (tn : Nat → Heap → Prop) : Prop where
  mem : it ∈ fp
  obj : ∀ i h, tn i h → ∀ b ∈ fp, ∃ o, h.get? b = some o ∧ ∀ v, o.data ≠ .cell v
  keep : ∀ i h h', tn i h → (∀ b ∈ fp, ∀ o, h.get? b = some o → h'.get? b = some o) → tn i h'
  item : ∀ (X : Cx), X.prog = P → X.w = w → X.K = K → X.calm = true → ∀ (i : Nat) (pins : List (Addr × Obj)) (s : Shared) (σ : St) (H : Hp) (E : Value → Shared → Prop), Inv X pins σ H s → (∀ b ∈ fp, zdY X pins H b) → tn i s.heap → J.go i H →
    wpAny (model P w) X.A (pyNext (.ref it)) (fun r s1 => ∃ u, r = some u ∧
      wpAny (model P w) X.A (letOwnedTupleGo tg (.ref it) u) (fun _ s2 => ∃ x H', Inv X pins σ H' s2 ∧ yH x u ∧ J.yld i H x H' ∧ tn (i + 1) s2.heap ∧ ∀ b ∈ fp, H' b = none) E s1) E s
  done : ∀ (X : Cx), X.prog = P → X.w = w → X.K = K → X.calm = true → ∀ (i : Nat) (pins : List (Addr × Obj)) (s : Shared) (σ : St) (H : Hp) (E : Value → Shared → Prop), Inv X pins σ H s → (∀ b ∈ fp, zdY X pins H b) → tn i s.heap → J.stop i H →
    wpAny (model P w) X.A (pyNext (.ref it)) (fun r s1 => r = none ∧ Inv X pins σ H s1) E s
  self : ∀ (A : Around) (i : Nat) (s : Shared) (Q : Value → Shared → Prop) (E : Value → Shared → Prop), tn i s.heap → Q (.ref it) s → wpAny (model P w) A (pyIter (.ref it)) Q E s
noncomputable abbrev TI := St → Hp → (It → Hp → Prop) → Prop
noncomputable def PIE (X : Cx) (pins : List (Addr × Obj)) (σ : St) (tg : Expr) (R : It → Hp → Prop) (itv : Value) (s2 : Shared) : Prop :=
  ∃ (it : Addr) (fp : List Addr) (tn : Nat → Heap → Prop) (J : It) (H' : Hp), itv = .ref it ∧ Inv X pins σ H' s2 ∧ ziU X.prog X.w X.K tg J fp it tn ∧ tn 0 s2.heap ∧ (∀ b ∈ fp, zdY X pins H' b) ∧ R J H'
noncomputable def PI (X : Cx) (tg iter : Expr) (wi : TI) : Prop :=
  ∀ (pins : List (Addr × Obj)) (s : Shared) (σ : St) (H : Hp) (R : It → Hp → Prop), Inv X pins σ H s → wi σ H R →
    wpAny (model X.prog X.w) X.A (eval iter X.env) (fun v s1 => wpAny (model X.prog X.w) X.A (pyIter v) (PIE X pins σ tg R) X.xe s1) X.xe s
theorem zg9 {M : Model} {A : Around} {E : Value → Shared → Prop} {s : Shared} {tg : Expr} {it : Addr} {u : Value} {o : Obj} {n : String} {vs : Array Value} {Q : Unit → Shared → Prop} (ho : s.heap.get? it = some o) (hc : o.cls = .type n) (hd : o.data = .fields vs)
    (hn : ["enumerate", "zip", "dict_itemiterator", "dict_reverseitemiterator", "odict_iterator", "itertools.zip_longest", "itertools.pairwise"].contains n = false) (hQ : Q () s) : wpAny M A (letOwnedTupleGo tg (.ref it) u) Q E s := by
  unfold letOwnedTupleGo
  cases tg <;> first
    | exact wpAny_pure hQ
    | (cases u <;> first
        | exact wpAny_pure hQ
        | (refine wpAny_bind (wpAny_load ho ?_)
           rw [hc, hd]
           show wpAny M A (if (["enumerate", "zip", "dict_itemiterator", "dict_reverseitemiterator", "odict_iterator", "itertools.zip_longest", "itertools.pairwise"].contains n && vs[0]? == some (rawInt _)) = true then _ else _) Q E s
           rw [if_neg (by intro h; rw [hn, Bool.false_and] at h; cases h)]
           exact wpAny_pure hQ))
noncomputable def Itl (K : PySem.W.Frag) (a : Addr) : It :=
  ⟨fun i H => ∃ xs x, SqL K H a xs ∧ xs[i]? = some x, fun i H x H' => H' = H ∧ ∀ xs, SqL K H a xs → xs[i]? = some x, fun i H => ∃ xs, SqL K H a xs ∧ xs.length ≤ i⟩
noncomputable def Itt (K : PySem.W.Frag) (a : Addr) : It :=
  ⟨fun i H => ∃ xs x, SqT K H a xs ∧ xs[i]? = some x, fun i H x H' => H' = H ∧ ∀ xs, SqT K H a xs → xs[i]? = some x, fun i H => ∃ xs, SqT K H a xs ∧ xs.length ≤ i⟩
noncomputable def Itr (lo : Int) (n : Nat) : It := ⟨fun i _ => i < n, fun i H x H' => H' = H ∧ x = .int (lo + i), fun i _ => n ≤ i⟩
theorem zeI {P : Program} {w : World} {K : PySem.W.Frag} {tg : Expr} (a it : Addr) : ziU P w K tg (Itl K a) [it] it (fun i h => h.IsListIter it a i) where
  mem := by simp
  obj := fun i h st b hb => by
    have e : b = it := by simpa using hb
    subst e
    obtain ⟨o, e, c, d⟩ := st
    exact ⟨o, e, fun v z => by rw [d] at z; cases z⟩
  keep := fun i h h' st k => st.at fun o e => k it (by simp) o e
  item := by
    intro X hP hw hK hc i pins s σ H E I hf st hg
    subst hP hw hK
    obtain ⟨xs, x, hq, hx⟩ := hg
    obtain ⟨its, rv, p, hz⟩ := I.list hq
    obtain ⟨u, hu, ru⟩ := rv.get hx
    obtain ⟨f0, f1, f2, f3, f4, f5⟩ := hf it (by simp)
    refine wpAny_pyNext_list_item st p.isList (x := u) (by simpa using hu) fun h' st' sb => ?_
    have I1 : Inv X pins σ H { s with heap := h' } := I.turned (t' := s.toks) (fun b o hb e => (sb.2 b hb).trans e) f0 f1 f3 f4 f5
    obtain ⟨o, e, c, d⟩ := id st'
    exact ⟨u, rfl, zg9 (s := { s with heap := h' }) e c d (by decide) ⟨x, H, I1, ru, ⟨rfl, fun ys hy => by rw [I.list_inj hy hq]; exact hx⟩, st', fun b hb => (hf b hb).1⟩⟩
  done := by
    intro X hP hw hK hc i pins s σ H E I hf st hg
    subst hP hw hK
    obtain ⟨xs, hq, hx⟩ := hg
    obtain ⟨its, rv, p, hz⟩ := I.list hq
    obtain ⟨f0, f1, f2, f3, f4, f5⟩ := hf it (by simp)
    have hl := rv.length
    exact wpAny_pyNext_list_end (I.ok.hd hc) st p.isList (by simp; omega) fun h' eb => ⟨rfl, I.turned (t' := s.toks) (fun b o hb e => eb b o hb e) f0 f1 f3 f4 f5⟩
  self := fun _ _ _ _ _ st h => wpAny_pyIter_listiter st h
theorem zef {P : Program} {w : World} {K : PySem.W.Frag} {tg : Expr} (a it : Addr) : ziU P w K tg (Itt K a) [it] it (fun i h => h.IsTupleIter it a i) where
  mem := by simp
  obj := fun i h st b hb => by
    have e : b = it := by simpa using hb
    subst e
    obtain ⟨o, e, c, d⟩ := st
    exact ⟨o, e, fun v z => by rw [d] at z; cases z⟩
  keep := fun i h h' st k => st.at fun o e => k it (by simp) o e
  item := by
    intro X hP hw hK hc i pins s σ H E I hf st hg
    subst hP hw hK
    obtain ⟨xs, x, hq, hx⟩ := hg
    obtain ⟨its, rv, p, hz⟩ := I.tuple hq
    obtain ⟨u, hu, ru⟩ := rv.get hx
    obtain ⟨f0, f1, f2, f3, f4, f5⟩ := hf it (by simp)
    refine wpAny_pyNext_tuple_item st (show s.heap.IsTuple a its.toArray from p) (x := u) (by simpa using hu) fun h' st' sb => ?_
    have I1 : Inv X pins σ H { s with heap := h' } := I.turned (t' := s.toks) (fun b o hb e => (sb.2 b hb).trans e) f0 f1 f3 f4 f5
    obtain ⟨o, e, c, d⟩ := id st'
    exact ⟨u, rfl, zg9 (s := { s with heap := h' }) e c d (by decide) ⟨x, H, I1, ru, ⟨rfl, fun ys hy => by rw [I.tuple_inj hy hq]; exact hx⟩, st', fun b hb => (hf b hb).1⟩⟩
  done := by
    intro X hP hw hK hc i pins s σ H E I hf st hg
    subst hP hw hK
    obtain ⟨xs, hq, hx⟩ := hg
    obtain ⟨its, rv, p, hz⟩ := I.tuple hq
    obtain ⟨f0, f1, f2, f3, f4, f5⟩ := hf it (by simp)
    have hl := rv.length
    exact wpAny_pyNext_tuple_end (I.ok.hd hc) st (show s.heap.IsTuple a its.toArray from p) (by simp; omega) fun h' eb => ⟨rfl, I.turned (t' := s.toks) (fun b o hb e => eb b o hb e) f0 f1 f3 f4 f5⟩
  self := fun _ _ _ _ _ st h => wpAny_pyIter_tupleiter st h
theorem zd3 {P : Program} {w : World} {K : PySem.W.Frag} {tg : Expr} (it : Addr) (lo : Int) (n : Nat) : ziU P w K tg (Itr lo n) [it] it (fun i h => IsRangeIter h it (lo + (i : Nat) * 1) ((n : Int) - (i : Nat)) 1) where
  mem := by simp
  obj := fun i h st b hb => by
    have e : b = it := by simpa using hb
    subst e
    exact ⟨_, st, fun v z => by
      have z' : Data.fields _ = Data.cell v := z
      cases z'⟩
  keep := fun i h h' st k => k it (by simp) _ st
  item := by
    intro X hP hw hK hc i pins s σ H E I hf st hg
    subst hP hw hK
    obtain ⟨f0, f1, f2, f3, f4, f5⟩ := hf it (by simp)
    have W := Walks.range (prog := X.prog) (w := X.w) (I.ok.hd hc) it lo 1 n
    refine W.item i s _ _ hg st fun v h' tk hv st' kk => ?_
    obtain ⟨t, rfl⟩ := hv
    have I1 : Inv X pins σ H { s with heap := h', toks := tk } := I.turned (fun b o hb e => kk b o (by simpa using hb) e) f0 f1 f3 f4 f5
    refine ⟨_, rfl, zg9 (s := { s with heap := h', toks := tk }) (n := "range_iterator") st' rfl rfl (by decide) ⟨.int (lo + i), H, I1, ⟨t, ?_⟩, ⟨rfl, rfl⟩, st', fun b hb => (hf b hb).1⟩⟩
    rw [Int.mul_one]
  done := by
    intro X hP hw hK hc i pins s σ H E I hf st hg
    subst hP hw hK
    obtain ⟨f0, f1, f2, f3, f4, f5⟩ := hf it (by simp)
    exact wpAny_pyNext_range_end (I.ok.hd hc) st (by have : n ≤ i := hg; omega) fun h' eb => ⟨rfl, I.turned (t' := s.toks) (fun b o hb e => eb b o hb e) f0 f1 f3 f4 f5⟩
  self := fun _ _ _ _ _ st h => wpAny_pyIter_rangeiter st h
end L2
namespace L2
open PySem PySem.Spec PyProof.Rows
section
variable {X : Cx} {tg : Expr}
theorem zdI {pins : List (Addr × Obj)} {σ : St} {H : Hp} {s : Shared} {R : It → Hp → Prop} {E : Value → Shared → Prop} {lo hi : Int} {t u v : Tok} {tk : Nat} (I : Inv X pins σ H s) (h1 : -(2 ^ 62) ≤ lo) (h2 : lo < 2 ^ 62) (h3 : -(2 ^ 62) ≤ hi) (h4 : hi < 2 ^ 62)
    (q : R (Itr lo (hi - lo).toNat) H) : wpAny (model X.prog X.w) X.A (pyIter (.ref s.heap.objs.size)) (PIE X pins σ tg R) E { s with heap := s.heap.push { cls := .type "range", data := .fields #[.int lo t, .int hi u, .int 1 v] }, toks := tk } := by
  refine wpAny_pyIter_range (IsRange.new ..) (small_one h1 h2 h3 h4) ?_
  have I1 : Inv X pins σ H { s with heap := s.heap.push { cls := .type "range", data := .fields #[.int lo t, .int hi u, .int 1 v] }, toks := tk } := I.kept fun b o e => Heap.get?_push_of_some _ e
  refine ⟨(s.heap.push { cls := .type "range", data := .fields #[.int lo t, .int hi u, .int 1 v] }).objs.size, [(s.heap.push { cls := .type "range", data := .fields #[.int lo t, .int hi u, .int 1 v] }).objs.size], _, _, H, rfl,
    I1.kept (t' := tk) fun b o e => Heap.get?_push_of_some _ e, zd3 _ lo (hi - lo).toNat, ?_, fun b hb => ?_, q⟩
  · have e1 : lo + ((0 : Nat) : Int) * 1 = lo := by simp
    have e2 : (((hi - lo).toNat : Nat) : Int) - ((0 : Nat) : Int) = Builtin.Range.rangeSize lo hi 1 := by rw [rangeSize_one]; split <;> omega
    show IsRangeIter _ _ (lo + ((0 : Nat) : Int) * 1) ((((hi - lo).toNat : Nat) : Int) - ((0 : Nat) : Int)) 1
    rw [e1, e2]
    exact Heap.get?_push_size _ rfl
  · have e : b = (s.heap.push { cls := .type "range", data := .fields #[.int lo t, .int hi u, .int 1 v] }).objs.size := by simpa using hb
    subst e
    exact I1.fpOk (Nat.le_refl _) (I1.hok.fresh (Nat.le_refl _))
noncomputable def zlG (ta : TA) : TI := fun σ H R => ta σ H fun vs H1 => ∃ j : Int, vs = [.int j] ∧ -(2 ^ 62) ≤ j ∧ j < 2 ^ 62 ∧ R (Itr 0 j.toNat) H1
noncomputable def zlP (ta : TA) : TI := fun σ H R => ta σ H fun vs H1 => ∃ i j : Int, vs = [.int i, .int j] ∧ (-(2 ^ 62) ≤ i ∧ i < 2 ^ 62 ∧ -(2 ^ 62) ≤ j ∧ j < 2 ^ 62) ∧ R (Itr i (j - i).toNat) H1
theorem WY {a : Expr} {ta : TA} {p pos : Pos} (hg : Gl X "range") (hm : X.mg "range" = none) (ha : PA X [a] ta) (hs : starEach [a] X.env = [(false, eval a X.env)] := by rfl) : PI X tg (.Call (.Name "range" p) [a] [] pos) (zlG ta) := by
  intro pins s σ H R I h
  refine Call_ (Xe I hg hm boot_range (PyProof.Rows.callWith_type1 (thn (ha pos pins s σ H _ I h) fun us s1 hh9 => ?_) hs rfl))
  obtain ⟨vs, H1, I1, r1, q1⟩ := hh9
  obtain ⟨j, e, q1, q2, q⟩ := q1
  subst e
  cases r1 with
  | cons r rr =>
    cases rr
    obtain ⟨t, rfl⟩ := r
    exact call_range_1 (zdI I1 (by omega) (by omega) q1 q2 (by simpa using q))
theorem Vg {a b : Expr} {ta : TA} {p pos : Pos} (hg : Gl X "range") (hm : X.mg "range" = none) (ha : PA X [a, b] ta) (hs : starEach [a, b] X.env = [(false, eval a X.env), (false, eval b X.env)] := by rfl) (hs2 : starEach [b] X.env = [(false, eval b X.env)] := by rfl) :
    PI X tg (.Call (.Name "range" p) [a, b] [] pos) (zlP ta) := by
  intro pins s σ H R I h
  refine Call_ (Xe I hg hm boot_range (PyProof.Rows.callWith_type1 (thn (ha pos pins s σ H _ I h) fun us s1 hh9 => ?_) (by rw [hs, hs2]) (by rw [hs2]; rfl)))
  obtain ⟨vs, H1, I1, r1, q1⟩ := hh9
  obtain ⟨i, j, e, ⟨q1, q2, q3, q4⟩, q⟩ := q1
  subst e
  cases r1 with
  | cons r rr =>
    cases rr with
    | cons r' rr =>
      cases rr
      obtain ⟨t, rfl⟩ := r
      obtain ⟨t', rfl⟩ := r'
      exact call_range_2 (zdI I1 q1 q2 q3 q4 q)
noncomputable def tFor (wi : TI) (g : TG) (tb : TS) : TS := fun D σ H => wi σ H fun J H1 => ∃ W : Nat → Nat → St → Hp → Prop, (∃ m, W 0 m σ H1) ∧ ∀ i m σ H, W i m σ H →
  (J.stop i H ∧ D.nx σ H) ∨ (J.go i H ∧ ∃ N : St → Hp → Prop, (∀ σ' H', N σ' H' → ∃ m', m' < m ∧ W (i + 1) m' σ' H') ∧ ∀ x H', J.yld i H x H' → g x σ H' fun σ2 H2 => tb { D with nx := N, ct := N, bk := D.nx } σ2 H2)
noncomputable def XH (fp : List Addr) (h : Heap) : List (Addr × Obj) := fp.filterMap fun b => (h.get? b).map fun o => (b, o)
theorem wy {fp : List Addr} {h : Heap} {b : Addr} {o : Obj} (hb : b ∈ fp) (e : h.get? b = some o) : (b, o) ∈ XH fp h := List.mem_filterMap.mpr ⟨b, hb, by rw [e]; rfl⟩
theorem zeU {fp : List Addr} {h : Heap} {p : Addr × Obj} (hp : p ∈ XH fp h) : p.1 ∈ fp ∧ h.get? p.1 = some p.2 := by
  obtain ⟨b, hb, e⟩ := List.mem_filterMap.mp hp
  cases q : h.get? b with
  | none => rw [q] at e; cases e
  | some o =>
    rw [q] at e
    have e' : (b, o) = p := Option.some.inj e
    subst e'
    exact ⟨hb, q⟩
theorem Inv.pinned {pins : List (Addr × Obj)} {σ : St} {H : Hp} {s : Shared} {fp : List Addr} (I : Inv X pins σ H s) (hf : ∀ b ∈ fp, zdY X pins H b) (ho : ∀ b ∈ fp, ∃ o, s.heap.get? b = some o ∧ ∀ v, o.data ≠ .cell v) : Inv X (pins ++ XH fp s.heap) σ H s :=
  I.pins_of fun p hp => (List.mem_append.mp hp).elim (fun z => I.pin p (List.mem_append_right _ z)) fun z => by
    obtain ⟨hb, e⟩ := zeU z
    obtain ⟨f0, f1, f2, _⟩ := hf p.1 hb
    obtain ⟨o, e', d⟩ := ho p.1 hb
    rw [e] at e'; cases e'
    exact ⟨e, f0, f1, f2, d⟩
theorem Inv.unpinned {pins pl : List (Addr × Obj)} {σ : St} {H : Hp} {s : Shared} (I : Inv X (pins ++ pl) σ H s) : Inv X pins σ H s := I.pins_of fun p hp => I.pin p (List.mem_append_right _ (List.mem_append_left _ hp))
theorem ze8 {iter : Expr} {body : List Stmt} {wi : TI} {g : TG} {tb : TS} {pos : Pos} (hp : PassesOwn (model X.prog X.w) X.A X.env X.xe) (hc : X.calm = true) (hi : PI X tg iter wi) (hg : PG X tg g) (hb : PSs X body tb)
    (hs : ∀ x, foldedSetIterable iter X.env x = pure x := by intro _; rfl) : PS X (.For tg iter body [] pos) (tFor wi g tb) := by
  intro pins s σ H D I h
  refine wpAny_For (thn (hi pins s σ H _ I h) fun v s1 h1 => thn h1 fun itv s2 h2 => ?_) hs
  obtain ⟨it, fp, tn, J, H2, e, I2, T, st2, f2, W, ⟨m0, w0⟩, turn⟩ := h2
  subst e
  -- what stays true of the iterator's objects through the loop
  have stat : ∀ {H' : Hp}, (∀ b ∈ fp, H' b = none) → ∀ b ∈ fp, zdY X pins H' b := fun hn b hb => ⟨hn b hb, (f2 b hb).2⟩
  refine codeAny_forLoop_any (fun n s' => ∃ i σ' H', Inv X pins σ' H' s' ∧ tn i s'.heap ∧ (∀ b ∈ fp, H' b = none) ∧ W i n σ' H') ?_ m0 ⟨0, σ, H2, I2, st2, fun b hb => (f2 b hb).1, w0⟩
  rintro n s3 ⟨i, σ3, H3, I3, st3, fr3, w3⟩
  rcases turn i n σ3 H3 w3 with ⟨stop, qn⟩ | ⟨go, N, hN, step⟩
  · refine wpAny_passesOwn hp (thn (T.done X rfl rfl rfl hc i pins s3 σ3 H3 X.xe I3 (stat fr3) st3 stop) fun r s4 hh9 => ?_)
    obtain ⟨hr, I4⟩ := hh9
    subst hr
    exact wpAny_execs_nil ⟨σ3, H3, I4, qn⟩
  · refine wpAny_passesOwn hp (thn (T.item X rfl rfl rfl hc i pins s3 σ3 H3 X.xe I3 (stat fr3) st3 go) fun r s4 hh9 => ?_)
    obtain ⟨u, hr, h4⟩ := hh9
    subst hr
    refine wpAny_passesOwn hp (thn h4 fun _ s5 hh9 => ?_)
    obtain ⟨x, H5, I5, r5, y5, st5, fr5⟩ := hh9
    have I5' := I5.pinned (stat fr5) (T.obj _ _ st5)
    refine wpAny_passesOwn hp (thn (hg _ s5 σ3 H5 x u _ I5' r5 (step x H5 y5)) fun _ s6 hh9 => ?_)
    obtain ⟨σ6, H6, I6, q6⟩ := hh9
    refine wpAny_passesOwn hp (thn (hb _ s6 σ6 H6 _ I6 q6) fun f s7 q7 => ?_)
    have again : ∀ {σ7 : St} {H7 : Hp}, Inv X (pins ++ XH fp s5.heap) σ7 H7 s7 → N σ7 H7 → ∃ m, m < n ∧ ∃ i σ' H', Inv X pins σ' H' s7 ∧ tn i s7.heap ∧ (∀ b ∈ fp, H' b = none) ∧ W i m σ' H' := fun {σ7 H7} I7 n7 => by
      obtain ⟨m', hm, w7⟩ := hN σ7 H7 n7
      refine ⟨m', hm, i + 1, σ7, H7, I7.unpinned, T.keep _ _ _ st5 fun b hb o e => (I7.pin (b, o) (List.mem_append_right _ (List.mem_append_right _ (wy hb e)))).1, fun b hb => ?_, w7⟩
      obtain ⟨o, e, d⟩ := T.obj _ _ st5 b hb
      exact (I7.pin (b, o) (List.mem_append_right _ (List.mem_append_right _ (wy hb e)))).2.1
    cases f with
    | next => obtain ⟨σ7, H7, I7, n7⟩ := q7; exact again I7 n7
    | cont => obtain ⟨σ7, H7, I7, n7⟩ := q7; exact again I7 n7
    | brk => obtain ⟨σ7, H7, I7, q7⟩ := q7; exact ⟨σ7, H7, I7.unpinned, q7⟩
    | ret v => obtain ⟨x7, σ7, H7, I7, r7, q7⟩ := q7; exact ⟨x7, σ7, H7, I7.unpinned, r7, q7⟩
end
end L2
namespace L2
open PySem PySem.Spec PyProof.Rows
noncomputable abbrev R2 := V → V → Hp → VK → Prop
noncomputable def OpR (X : Cx) (f : Value → Value → Sem Value) (r : R2) : Prop :=
  ∀ (pins : List (Addr × Obj)) (s : Shared) (σ : St) (H : Hp) (x y : V) (v u : Value) (Q : VK), Inv X pins σ H s → yH x v → yH y u → r x y H Q →
    wpAny (model X.prog X.w) X.A (f v u) (EP X pins σ Q) X.xe s
noncomputable def UnR (X : Cx) (f : Value → Sem Value) (r : V → Hp → VK → Prop) : Prop :=
  ∀ (pins : List (Addr × Obj)) (s : Shared) (σ : St) (H : Hp) (x : V) (v : Value) (Q : VK), Inv X pins σ H s → yH x v → r x H Q →
    wpAny (model X.prog X.w) X.A (f v) (EP X pins σ Q) X.xe s
noncomputable def vh (X : Cx) (f : Value) (r : List V → Hp → VK → Prop) : Prop :=
  ∀ (pins : List (Addr × Obj)) (s : Shared) (σ : St) (H : Hp) (xs : List V) (us : List Value) (Q : VK), Inv X pins σ H s → yl xs us → r xs H Q →
    wpAny (model X.prog X.w) X.A (call f us) (EP X pins σ Q) X.xe s
noncomputable def tOp (r : R2) (ta tb : TE) : TE := fun σ H Q => ta σ H fun x H1 => tb σ H1 fun y H2 => r x y H2 Q
noncomputable def tUn (r : V → Hp → VK → Prop) (ta : TE) : TE := fun σ H Q => ta σ H fun x H1 => r x H1 Q
noncomputable def rI (C : Int → Int → Prop) (g : Int → Int → V) : R2 := fun x y H Q => ∃ i j, x = .int i ∧ y = .int j ∧ C i j ∧ Q (g i j) H
noncomputable def rI0 (g : Int → Int → V) : R2 := fun x y H Q => ∃ i j, x = .int i ∧ y = .int j ∧ Q (g i j) H
noncomputable def rU (g : Int → V) : V → Hp → VK → Prop := fun x H Q => ∃ i, x = .int i ∧ Q (g i) H
section
variable {X : Cx} {a b c : Expr} {ta tb tc : TE} {pos : Pos}
theorem zlT (ha : PE X a ta) (hb : PE X b tb) {pins : List (Addr × Obj)} {s : Shared} {σ : St} {H : Hp} {R : V → V → Hp → Prop} (I : Inv X pins σ H s)
    (h : ta σ H fun x H1 => tb σ H1 fun y H2 => R x y H2) {Q : Value → Shared → Prop} {f : Value → Value → Sem Value}
    (hf : ∀ v u s2 x y H2, Inv X pins σ H2 s2 → yH x v → yH y u → R x y H2 → wpAny (model X.prog X.w) X.A (f v u) Q X.xe s2) :
    wpAny (model X.prog X.w) X.A (eval a X.env) (fun v s₁ => wpAny (model X.prog X.w) X.A (eval b X.env) (fun u s₂ => wpAny (model X.prog X.w) X.A (f v u) Q X.xe s₂) X.xe s₁) X.xe s := by
  refine thn (ha pins s σ H _ I h) fun v s1 hh9 => ?_
  obtain ⟨x, H1, I1, r1, q1⟩ := hh9
  refine thn (hb pins s1 σ H1 _ I1 q1) fun u s2 hh9 => ?_
  obtain ⟨y, H2, I2, r2, q2⟩ := hh9
  exact hf v u s2 x y H2 I2 r1 r2 q2
theorem zlk {op : Operator} {r : R2} (ho : OpR X (binaryOp op) r) (ha : PE X a ta) (hb : PE X b tb) : PE X (.BinOp a op b pos) (tOp r ta tb) := by
  intro pins s σ H Q I h
  exact wpAny_BinOp (zlT ha hb I h fun v u s2 x y H2 I2 rx ry q => ho pins s2 σ H2 x y v u Q I2 rx ry q)
theorem zms {op : UnaryOp} {r : V → Hp → VK → Prop} (ho : UnR X (unaryOp op) r) (ha : PE X a ta) : PE X (.UnaryOp op a pos) (tUn r ta) := by
  intro pins s σ H Q I h
  exact UnaryOp_ (thn (ha pins s σ H _ I h) fun v s1 ⟨x, H1, I1, r1, q1⟩ => ho pins s1 σ H1 x v Q I1 r1 q1)
theorem opI {f : Value → Value → Sem Value} {C : Int → Int → Prop} {g : Int → Int → Int}
    (rule : ∀ (i j : Int) (t u : Tok) (s : Shared) (Q : Value → Shared → Prop) (E : Value → Shared → Prop), C i j → Q (.int (g i j) s.toks) { s with toks := s.toks + 1 } → wpAny (model X.prog X.w) X.A (f (.int i t) (.int j u)) Q E s) :
    OpR X f (rI C fun i j => .int (g i j)) := by
  intro pins s σ H x y v u Q I rx ry h
  obtain ⟨i, j, rfl, rfl, hc, q⟩ := h
  obtain ⟨t, rfl⟩ := rx
  obtain ⟨t', rfl⟩ := ry
  exact rule i j t t' s _ _ hc ⟨.int (g i j), H, I.tok _, ⟨_, rfl⟩, q⟩
theorem opI0 {f : Value → Value → Sem Value} {g : Int → Int → Int}
    (rule : ∀ (i j : Int) (t u : Tok) (s : Shared) (Q : Value → Shared → Prop) (E : Value → Shared → Prop), Q (.int (g i j) s.toks) { s with toks := s.toks + 1 } → wpAny (model X.prog X.w) X.A (f (.int i t) (.int j u)) Q E s) :
    OpR X f (rI0 fun i j => .int (g i j)) := by
  intro pins s σ H x y v u Q I rx ry h
  obtain ⟨i, j, rfl, rfl, q⟩ := h
  obtain ⟨t, rfl⟩ := rx
  obtain ⟨t', rfl⟩ := ry
  exact rule i j t t' s _ _ ⟨.int (g i j), H, I.tok _, ⟨_, rfl⟩, q⟩
theorem zlq {f : Value → Value → Sem Value} {g : Int → Int → Bool}
    (rule : ∀ (i j : Int) (t u : Tok) (s : Shared) (Q : Value → Shared → Prop) (E : Value → Shared → Prop), Q (.bool (g i j)) s → wpAny (model X.prog X.w) X.A (f (.int i t) (.int j u)) Q E s) :
    OpR X f (rI0 fun i j => .bl (g i j)) := by
  intro pins s σ H x y v u Q I rx ry h
  obtain ⟨i, j, rfl, rfl, q⟩ := h
  obtain ⟨t, rfl⟩ := rx
  obtain ⟨t', rfl⟩ := ry
  exact rule i j t t' s _ _ ⟨.bl (g i j), H, I, rfl, q⟩
noncomputable def zl4 (i j : Int) : Prop := (-(2 ^ 64) < i ∧ i < 2 ^ 64) ∨ (-(2 ^ 64) < j ∧ j < 2 ^ 64)
theorem zl4.ok {i j : Int} (h : zl4 i j) : IntMulOk i j := by
  rcases h with ⟨h1, h2⟩ | ⟨h1, h2⟩
  · exact .of_left (intBits_le_64 h1 h2)
  · exact .of_right (intBits_le_64 h1 h2)
theorem zec (k : Nat) : (0 : Int) ≤ 2 ^ k := by
  rw [two_pow_cast]
  exact Int.natCast_nonneg _
theorem zkj : OpR X (binaryOp .Add) (rI0 fun i j => .int (i + j)) := opI0 fun _ _ _ _ _ _ _ q => add_int q
theorem zky : OpR X (binaryOp .Sub) (rI0 fun i j => .int (i - j)) := opI0 fun _ _ _ _ _ _ _ q => sub_int q
theorem zkb : OpR X (binaryOp .Mult) (rI zl4 fun i j => .int (i * j)) := opI fun _ _ _ _ _ _ _ hc q => mul_int q hc.ok
theorem zkT : OpR X (binaryOp .Mod) (rI (fun _ j => 0 < j) fun i j => .int (i % j)) := opI fun i j _ _ _ _ _ hc q => by
  have h1 : (0 : Int) < j := hc
  exact mod_int' (by omega) (by rw [Int.fmod_eq_emod_of_nonneg i (by omega)]; exact q)
theorem zjM : OpR X (binaryOp .RShift) (rI (fun _ j => 0 ≤ j) fun i j => .int (i / 2 ^ j.toNat)) := opI fun i j _ _ _ _ _ hc q =>
  rshift_int hc (by rw [Int.fdiv_eq_ediv_of_nonneg i (zec _)]; exact q)
theorem unI {f : Value → Sem Value} {g : Int → Int}
    (rule : ∀ (i : Int) (t : Tok) (s : Shared) (Q : Value → Shared → Prop) (E : Value → Shared → Prop), Q (.int (g i) s.toks) { s with toks := s.toks + 1 } → wpAny (model X.prog X.w) X.A (f (.int i t)) Q E s) :
    UnR X f (rU fun i => .int (g i)) := by
  intro pins s σ H x v Q I rx h
  obtain ⟨i, rfl, q⟩ := h
  obtain ⟨t, rfl⟩ := rx
  exact rule i t s _ _ ⟨.int (g i), H, I.tok _, ⟨_, rfl⟩, q⟩
theorem zkv : UnR X (unaryOp .USub) (rU fun i => .int (-i)) := unI fun _ _ _ _ _ q => neg_int q
end
noncomputable def scal : V → V → Bool
  | .non, .non => true | .non, .int _ => true | .int _, .non => true | .non, .bl _ => true | .bl _, .non => true | .non, .str _ => true | .str _, .non => true
  | .int _, .int _ => true | .bl _, .bl _ => true | .str _, .str _ => true | .byt _, .byt _ => true
  | .int _, .str _ => true | .str _, .int _ => true | .bl _, .str _ => true | .str _, .bl _ => true
  | _, _ => false
noncomputable def rEq : R2 := fun x y H Q => scal x y = true ∧ Q (.bl (decide (x = y))) H
noncomputable def rNe : R2 := fun x y H Q => scal x y = true ∧ Q (.bl (!decide (x = y))) H
theorem zeH {i j : Int} : decide (V.int i = V.int j) = (i == j) := by
  rw [Bool.eq_iff_iff]
  simp
theorem zhH {i j : Bool} : decide (V.bl i = V.bl j) = (i == j) := by
  rw [Bool.eq_iff_iff]
  simp
theorem zfe {i j : Str} : decide (V.str i = V.str j) = (i == j) := by
  rw [Bool.eq_iff_iff]
  simp
theorem zfO {i j : Array UInt8} : decide (V.byt i = V.byt j) = (i.toList == j.toList) := by
  rw [Bool.eq_iff_iff]
  cases i
  cases j
  simp
section
variable {X : Cx} {a b c : Expr} {ta tb tc : TE} {pos : Pos}
theorem zP {pins : List (Addr × Obj)} {σ : St} {H : Hp} {s : Shared} {Q : VK} {k k' : Bool} (I : Inv X pins σ H s) (q : Q (.bl k) H) (e : k = k') : EP X pins σ Q (.bool k') s := by
  subst e
  exact ⟨.bl k, H, I, rfl, q⟩
theorem zma : OpR X (compareOp .Eq) rEq := by
  intro pins s σ H x y v u Q I rx ry h
  obtain ⟨hs, q⟩ := h
  cases x with
  | non =>
    cases rx
    cases y with
    | non => cases ry; exact PySem.EqNone.eq_none_none (zP I q (by simp))
    | bl j => cases ry; exact PySem.EqNone.eq_none_bool (zP I q (by simp))
    | int j => obtain ⟨t', rfl⟩ := ry; exact PySem.EqNone.eq_none_int (zP I q (by simp))
    | str j => obtain ⟨t', rfl⟩ := ry; exact PySem.EqNone.eq_none_str (zP I q (by simp))
    | _ => exact absurd (show false = true from hs) Bool.false_ne_true
  | bl i =>
    cases rx
    cases y with
    | non => cases ry; exact PySem.EqNone.eq_bool_none (zP I q (by simp))
    | bl j => cases ry; exact eq_bool (zP I q zhH)
    | str j => obtain ⟨t', rfl⟩ := ry; exact PySem.EqMixed.eq_bool_str (zP I q (by simp))
    | _ => exact absurd (show false = true from hs) Bool.false_ne_true
  | int i =>
    obtain ⟨t, rfl⟩ := rx
    cases y with
    | non => cases ry; exact PySem.EqNone.eq_int_none (zP I q (by simp))
    | int j => obtain ⟨t', rfl⟩ := ry; exact eq_int (zP I q zeH)
    | str j => obtain ⟨t', rfl⟩ := ry; exact PySem.EqMixed.eq_int_str (zP I q (by simp))
    | _ => exact absurd (show false = true from hs) Bool.false_ne_true
  | str i =>
    obtain ⟨t, rfl⟩ := rx
    cases y with
    | non => cases ry; exact PySem.EqNone.eq_str_none (zP I q (by simp))
    | bl j => cases ry; exact PySem.EqMixed.eq_str_bool (zP I q (by simp))
    | int j => obtain ⟨t', rfl⟩ := ry; exact PySem.EqMixed.eq_str_int (zP I q (by simp))
    | str j => obtain ⟨t', rfl⟩ := ry; exact eq_str (zP I q zfe)
    | _ => exact absurd (show false = true from hs) Bool.false_ne_true
  | byt i =>
    obtain ⟨t, rfl⟩ := rx
    cases y with
    | byt j => obtain ⟨t', rfl⟩ := ry; exact PySem.W.eq_bytes (zP I q zfO)
    | _ => exact absurd (show false = true from hs) Bool.false_ne_true
  | _ => cases y <;> exact absurd (show false = true from hs) Bool.false_ne_true
theorem zg5 : OpR X (compareOp .NotEq) rNe := by
  intro pins s σ H x y v u Q I rx ry h
  obtain ⟨hs, q⟩ := h
  cases x with
  | non =>
    cases rx
    cases y with
    | non => cases ry; exact PySem.EqNone.ne_none_none (zP I q (by simp))
    | bl j => cases ry; exact PySem.EqNone.ne_none_bool (zP I q (by simp))
    | int j => obtain ⟨t', rfl⟩ := ry; exact PySem.EqNone.ne_none_int (zP I q (by simp))
    | str j => obtain ⟨t', rfl⟩ := ry; exact PySem.EqNone.ne_none_str (zP I q (by simp))
    | _ => exact absurd (show false = true from hs) Bool.false_ne_true
  | bl i =>
    cases rx
    cases y with
    | non => cases ry; exact PySem.EqNone.ne_bool_none (zP I q (by simp))
    | bl j => cases ry; exact ne_bool (zP I q (congrArg not zhH))
    | str j => obtain ⟨t', rfl⟩ := ry; exact PySem.EqMixed.ne_bool_str (zP I q (by simp))
    | _ => exact absurd (show false = true from hs) Bool.false_ne_true
  | int i =>
    obtain ⟨t, rfl⟩ := rx
    cases y with
    | non => cases ry; exact PySem.EqNone.ne_int_none (zP I q (by simp))
    | int j => obtain ⟨t', rfl⟩ := ry; exact ne_int (zP I q (congrArg not zeH))
    | str j => obtain ⟨t', rfl⟩ := ry; exact PySem.EqMixed.ne_int_str (zP I q (by simp))
    | _ => exact absurd (show false = true from hs) Bool.false_ne_true
  | str i =>
    obtain ⟨t, rfl⟩ := rx
    cases y with
    | non => cases ry; exact PySem.EqNone.ne_str_none (zP I q (by simp))
    | bl j => cases ry; exact PySem.EqMixed.ne_str_bool (zP I q (by simp))
    | int j => obtain ⟨t', rfl⟩ := ry; exact PySem.EqMixed.ne_str_int (zP I q (by simp))
    | str j => obtain ⟨t', rfl⟩ := ry; exact ne_str (zP I q (congrArg not zfe))
    | _ => exact absurd (show false = true from hs) Bool.false_ne_true
  | byt i =>
    obtain ⟨t, rfl⟩ := rx
    cases y with
    | byt j => obtain ⟨t', rfl⟩ := ry; exact PySem.W.ne_bytes (zP I q (congrArg not zfO))
    | _ => exact absurd (show false = true from hs) Bool.false_ne_true
  | _ => cases y <;> exact absurd (show false = true from hs) Bool.false_ne_true
theorem zfo : OpR X (compareOp .Lt) (rI0 fun i j => .bl (decide (i < j))) := zlq fun _ _ _ _ _ _ _ q => lt_int q
theorem zeE : OpR X (compareOp .LtE) (rI0 fun i j => .bl (decide (i ≤ j))) := zlq fun _ _ _ _ _ _ _ q => le_int q
theorem Xs : OpR X (compareOp .Gt) (rI0 fun i j => .bl (decide (j < i))) := zlq fun _ _ _ _ _ _ _ q => gt_int q
theorem zkf : OpR X (compareOp .GtE) (rI0 fun i j => .bl (decide (j ≤ i))) := zlq fun _ _ _ _ _ _ _ q => ge_int q
theorem zkx : OpR X (compareOp .Is) (fun x y H Q => y = .non ∧ Q (.bl (decide (x = .non))) H) := by
  intro pins s σ H x y v u Q I rx ry h
  obtain ⟨rfl, q⟩ := h
  cases ry
  refine is_none_gen (zP I q ?_)
  cases x <;> first
    | (cases rx; rfl)
    | (obtain ⟨t, rfl⟩ := rx; rfl)
theorem zi6 : OpR X (compareOp .IsNot) (fun x y H Q => y = .non ∧ Q (.bl (!decide (x = .non))) H) := by
  intro pins s σ H x y v u Q I rx ry h
  obtain ⟨rfl, q⟩ := h
  cases ry
  refine isnot_none_gen (zP I q ?_)
  cases x <;> first
    | (cases rx; rfl)
    | (obtain ⟨t, rfl⟩ := rx; rfl)
theorem OpR.or {f : Value → Value → Sem Value} {r r' : R2} (h : OpR X f r) (h' : OpR X f r') : OpR X f (fun x y H Q => r x y H Q ∨ r' x y H Q) := by
  intro pins s σ H x y v u Q I rx ry q
  rcases q with q | q
  · exact h pins s σ H x y v u Q I rx ry q
  · exact h' pins s σ H x y v u Q I rx ry q
theorem zM (b : Expr) {op : CmpOp} (h : op ≠ .In := by decide) (h2 : op ≠ .NotIn := by decide) : behindInMarks op b = false := by
  have e1 : (op == CmpOp.In) = false := by cases op <;> first | rfl | exact absurd rfl h
  have e2 : (op == CmpOp.NotIn) = false := by cases op <;> first | rfl | exact absurd rfl h2
  cases b <;> simp [behindInMarks, e1, e2]
theorem ziG {op : CmpOp} {r : R2} (ho : OpR X (compareOp op) r) (ha : PE X a ta) (hb : PE X b tb) (hm : behindInMarks op b = false) : PE X (.Compare a [op] [b] pos) (tOp r ta tb) := by
  intro pins s σ H Q I h
  exact wpAny_Compare1 (zlT ha hb I h fun v u s2 x y H2 I2 rx ry q => ho pins s2 σ H2 x y v u Q I2 rx ry q) hm
noncomputable def zk4 (t : TE) : TT := fun σ H Q => t σ H fun x H' => ∃ k, x = .bl k ∧ Q k H'
theorem zi3 {op : CmpOp} {r : R2} (ho : OpR X (compareOp op) r) (ha : PE X a ta) (hb : PE X b tb) (hm : behindInMarks op b = false) : PT X (.Compare a [op] [b] pos) (zk4 (tOp r ta tb)) := by
  intro pins s σ H Q I h
  refine wpAny_isTrue_Compare1 (thn (ha pins s σ H _ I h) fun v s1 ⟨x, H1, I1, r1, q1⟩ => thn (hb pins s1 σ H1 _ I1 q1) fun u s2 ⟨y, H2, I2, r2, q2⟩ =>
    thn (ho pins s2 σ H2 x y v u _ I2 r1 r2 q2) fun c s3 ⟨z, H3, I3, r3, k, e, q3⟩ => ?_) hm
  subst e
  cases r3
  exact wpAny_truthy_bool ⟨H3, I3, q3⟩
noncomputable def zeL (r r' : R2) (ta tb tc : TE) : TE := fun σ H Q => ta σ H fun x H1 => tb σ H1 fun y H2 => r x y H2 fun z H3 => ∃ k, z = .bl k ∧
  (if k = true then tc σ H3 fun w' H4 => r' y w' H4 Q else Q (.bl false) H3)
theorem zgM {op op' : CmpOp} {r r' : R2} (ho : OpR X (compareOp op) r) (ho' : OpR X (compareOp op') r') (ha : PE X a ta) (hb : PE X b tb) (hc : PE X c tc)
    (hm : lastMarks [op, op'] [b, c] = false := by with_unfolding_all rfl) : PE X (.Compare a [op, op'] [b, c] pos) (zeL r r' ta tb tc) := by
  intro pins s σ H Q I h
  refine Compare_chain (thn (ha pins s σ H _ I h) fun v s1 ⟨x, H1, I1, r1, q1⟩ => chain_link (thn (hb pins s1 σ H1 _ I1 q1) fun u s2 ⟨y, H2, I2, r2, q2⟩ =>
    thn (ho pins s2 σ H2 x y v u _ I2 r1 r2 q2) fun d s3 ⟨z, H3, I3, r3, k, e, q3⟩ => ?_)) hm
  subst e
  cases r3
  refine wpAny_truthy_bool ?_
  cases k with
  | false => exact ite_ff ⟨.bl false, H3, I3, rfl, q3⟩
  | true => exact ite_tt (chain_last (thn (hc pins s3 σ H3 _ I3 q3) fun w' s4 ⟨z', H4, I4, r4, q4⟩ => ho' pins s4 σ H4 y z' u w' Q I4 r2 r4 q4))
theorem XJ : (sizeLine : Nat) < 2 ^ 63 := by rw [sizeLine_eq]; decide
theorem zea : OpR X (binaryOp .Add) (fun x y H Q => ∃ i j, x = .str i ∧ y = .str j ∧ i.length + j.length ≤ sizeLine ∧ Q (.str (i ++ j)) H) := by
  intro pins s σ H x y v u Q I rx ry h
  obtain ⟨i, j, rfl, rfl, hz, q⟩ := h
  obtain ⟨t, rfl⟩ := rx
  obtain ⟨t', rfl⟩ := ry
  exact add_str (fun t' tk => ⟨.str (i ++ j), H, I.tok _, ⟨_, rfl⟩, q⟩) hz
theorem ZU {x : V} {us : List Value} (r : yl [x] us) : ∃ u, us = [u] ∧ yH x u := by
  cases r with
  | cons r1 r2 => cases r2; exact ⟨_, rfl, r1⟩
theorem zbJ {x y : V} {us : List Value} (r : yl [x, y] us) : ∃ u w', us = [u, w'] ∧ yH x u ∧ yH y w' := by
  cases r with
  | cons r1 r2 =>
    cases r2 with
    | cons r3 r4 => cases r4; exact ⟨_, _, rfl, r1, r3⟩
theorem zft (hc : X.calm = true) : vh X (.builtin "max") (fun xs H Q => ∃ i j, xs = [.int i, .int j] ∧ Q (.int (if j > i then j else i)) H) := by
  intro pins s σ H xs us Q I r h
  obtain ⟨i, j, rfl, q⟩ := h
  obtain ⟨u, w', rfl, ⟨t, rfl⟩, ⟨t', rfl⟩⟩ := zbJ r
  refine max_two_ints (I.ok.hd hc) fun h' tk k => ⟨_, H, I.kept k, ?_, q⟩
  by_cases hj : j > i
  · rw [if_pos hj, if_pos hj]; exact ⟨_, rfl⟩
  · rw [if_neg hj, if_neg hj]; exact ⟨_, rfl⟩
theorem zfM (hc : X.calm = true) : vh X (.builtin "min") (fun xs H Q => ∃ i j, xs = [.int i, .int j] ∧ Q (.int (if j < i then j else i)) H) := by
  intro pins s σ H xs us Q I r h
  obtain ⟨i, j, rfl, q⟩ := h
  obtain ⟨u, w', rfl, ⟨t, rfl⟩, ⟨t', rfl⟩⟩ := zbJ r
  refine min_two_ints (I.ok.hd hc) fun h' tk k => ⟨_, H, I.kept k, ?_, q⟩
  by_cases hj : j < i
  · rw [if_pos hj, if_pos hj]; exact ⟨_, rfl⟩
  · rw [if_neg hj, if_neg hj]; exact ⟨_, rfl⟩
end
end L2
namespace L2
open PySem PySem.Spec PyProof.Rows
set_option genInjectivity false in
set_option genSizeOf false in
set_option genCtorIdx false in
structure zlY (h : Heap) (x dx C : Addr) (mA : Str → Option Value) : Prop where
  obj : h.get? x = some (PySem.W.instObj C dx)
  ns : h.Ns1 dx mA
  ne : dx ≠ x
theorem zeN {h : Heap} {dx : Addr} {mA : Str → Option Value} (n : h.Ns1 dx mA) : ∃ od, h.get? dx = some od ∧ ∀ name, PySem.W.lookIn name od = some (mA name) := by
  obtain ⟨o, es, ep, ho, hd, hk, _, hm⟩ := n
  refine ⟨o, ho, fun name => ?_⟩
  have e := hm name
  unfold nsFind findBy at e
  rw [← Array.find?_toList] at e
  unfold PySem.W.lookIn
  rw [hd]
  dsimp only
  split
  · rename_i y q
    rw [q] at e
    exact congrArg some e
  · rename_i q
    rw [q] at e
    have a : es.toList.any (·.refKey) = false := by
      rw [List.any_eq_false]
      intro y hy
      obtain ⟨z, t, hkey⟩ := hk y (Array.mem_toList_iff.mp hy)
      simp [DictEntry.refKey, hkey]
    have a' : ¬ es.toList.any (·.refKey) = true := by rw [a]; exact Bool.false_ne_true
    rw [if_neg a']
    exact congrArg some e
theorem zlY.look {h : Heap} {x dx C : Addr} {mA : Str → Option Value} (I : zlY h x dx C mA) : ∃ od, PySem.W.InstAt h x (PySem.W.instObj C dx) C (some od) ∧ ∀ name, PySem.W.lookIn name od = some (mA name) :=
  let ⟨od, ho, hl⟩ := zeN I.ns
  ⟨od, ⟨I.obj, rfl, rfl, ho⟩, hl⟩
section
variable {prog : Program} {w : World} {A : Around} {E : Value → Shared → Prop} {s : Shared} {K : PySem.W.Frag} {x dx C f : Addr} {mA : Str → Option Value} {name : Str} {v : Value}
end
section
variable {P : Program} {w : World} {H H' : Hp} {h h' : Heap} {a C dx : Addr} {fs fs' : List (Str × V)}
theorem zhP (hok : HOk P w H h) (e : H a = some (.ins C dx fs)) : ∃ mA, zlY h a dx C mA ∧ (∀ f, zia (fs.lookup f) (mA f)) ∧ PySem.Within mA (fs.map (·.1)) ∧ fs.length ≤ 1000 ∧ H dx = some (.own a) := by
  obtain ⟨d, z, ne, ob, mA, n, r, q⟩ := (show yB P w H h a (.ins C dx fs) from hok a _ e)
  exact ⟨mA, ⟨ob, n, ne⟩, r, q, z, d⟩
end
set_option genInjectivity false in
set_option genSizeOf false in
set_option genCtorIdx false in
structure Cls (K : PySem.W.Frag) (C : Addr) : Prop where
  pg : PySem.W.plainGet K C Str.empty = true
  hd : PySem.W.hasDictIn K C = true
  po : PySem.W.plainOver K C = true
  sa : PySem.W.findIn K (.ref C) "__setattr__" = some (some (.builtin "object.__setattr__"))
theorem Cls.get {K : PySem.W.Frag} {C : Addr} (c : Cls K C) (f : Str) : PySem.W.plainGet K C f = true := c.pg
section
variable {X : Cx} {pins : List (Addr × Obj)} {σ : St} {H : Hp} {s : Shared} {a C dx : Addr} {fs : List (Str × V)} {f : Str} {v : V} {A : Around} {E : Value → Shared → Prop}
end
section
variable {X : Cx} {o e value : Expr} {f : Str} {pos pos' tpos : Pos} {ta tv : TE}
end
section
variable {X : Cx} {pins : List (Addr × Obj)} {σ : St} {H : Hp} {s : Shared} {A : Around} {E : Value → Shared → Prop} {Q : Value → Shared → Prop} {c : Value} {b : Bool}
inductive zdu (K : PySem.W.Frag) (H : Hp) : V → Value → Prop where
  | non : zdu K H .non (.type "NoneType")
  | bl (x : Bool) : zdu K H (.bl x) (.type "bool")
  | int (i : Int) : zdu K H (.int i) (.type "int")
  | str (x : Str) : zdu K H (.str x) (.type "str")
  | flt (x : UInt64) : zdu K H (.flt x) (.type "float")
  | lst {a : Addr} {xs : List V} (e : H a = some (.lst xs)) : zdu K H (.ref a) (.type "list")
  | frz {a : Addr} {o : Obj} {xs : List V} (e : H a = some (.frz o (.lst xs))) : zdu K H (.ref a) (.type "list")
  | tup {a : Addr} {xs : List V} (e : H a = some (.tup xs)) : zdu K H (.ref a) (.type "tuple")
  | dK {a : Addr} {kvs : List (Key × V)} (e : H a = some (.dK kvs)) : zdu K H (.ref a) (.type "dict")
  | dT {a : Addr} {kvs : List (List Key × V)} (e : H a = some (.dT kvs)) : zdu K H (.ref a) (.type "dict")
  | ins {a C dx : Addr} {fs : List (Str × V)} (e : H a = some (.ins C dx fs)) (cl : Cls K C) (ha : PySem.W.findIn K (.ref C) "__class__" = some (some (.builtin "object.__class__")))
      (hn : PySem.W.specialIn K (.builtin "object.__class__") "__get__" = some (some (.builtin "getset_descriptor.__get__"))) (htk : PySem.W.takesIn K (.builtin "object.__class__") = some true)
      (hm : PySem.W.mroIn K C (.type "object") = some true) : zdu K H (.ref a) (.ref C)
theorem zfx {x : V} {u t : Value} (I : Inv X pins σ H s) (rx : yH x u) (ty : zdu X.K H x t) (e : PySem.W.kitOne X.K t c = some b) (h : ∀ tk, Q (.bool b) { s with toks := tk }) :
    wpAny (model X.prog X.w) A (call (.builtin "isinstance") [u, c]) Q E s := by
  cases ty with
  | non => cases (show u = Value.none from rx); exact PySem.W.kia_one PySem.W.kitx_none I.kIn True.intro e (fun z => nomatch z) h
  | bl y => cases (show u = Value.bool y from rx); exact PySem.W.kia_one PySem.W.kitx_bool I.kIn True.intro e (fun z => nomatch z) h
  | int i => obtain ⟨t, q⟩ := (show ∃ t, u = Value.int i t from rx); cases q; exact PySem.W.kia_one PySem.W.kitx_int I.kIn True.intro e (fun z => nomatch z) h
  | str y => obtain ⟨t, q⟩ := (show ∃ t, u = Value.str y t from rx); cases q; exact PySem.W.kia_one PySem.W.kitx_str I.kIn True.intro e (fun z => nomatch z) h
  | flt y => obtain ⟨t, q⟩ := (show ∃ t, u = Value.float y t from rx); cases q; exact PySem.W.kia_one PySem.W.kitx_float I.kIn True.intro e (fun z => nomatch z) h
  | @lst a xs ea =>
    cases (show u = Value.ref a from rx)
    obtain ⟨_, _, n, _, h1⟩ := (show yB X.prog X.w H s.heap a (.lst xs) from I.hok a _ ea)
    exact PySem.W.kia_one PySem.W.kitx_list I.kIn ⟨_, h1, rfl⟩ e (fun z => nomatch z) h
  | @frz a ob xs ea =>
    cases (show u = Value.ref a from rx)
    obtain ⟨_, _, _, n, _, h1⟩ := (show yB X.prog X.w H s.heap a (.frz ob (.lst xs)) from I.hok a _ ea)
    exact PySem.W.kia_one PySem.W.kitx_list I.kIn ⟨_, h1, rfl⟩ e (fun z => nomatch z) h
  | @tup a xs ea =>
    cases (show u = Value.ref a from rx)
    obtain ⟨_, _, _, p⟩ := (show yB X.prog X.w H s.heap a (.tup xs) from I.hok a _ ea)
    obtain ⟨o, h1, h2, _⟩ := p
    exact PySem.W.kia_one PySem.W.kitx_tuple I.kIn ⟨o, h1, h2⟩ e (fun z => nomatch z) h
  | @dK a kvs ea =>
    cases (show u = Value.ref a from rx)
    obtain ⟨_, _, vs, _, p⟩ := (show yB X.prog X.w H s.heap a (.dK kvs) from I.hok a _ ea)
    obtain ⟨o, es, ep, h1, h2, _⟩ := p
    exact PySem.W.kia_one PySem.W.kitx_dict I.kIn ⟨o, h1, h2.1⟩ e (fun z => nomatch z) h
  | @dT a kvs ea =>
    cases (show u = Value.ref a from rx)
    obtain ⟨_, _, xs, _, o, es, ep, h1, h2, _⟩ := (show yB X.prog X.w H s.heap a (.dT kvs) from I.hok a _ ea)
    exact PySem.W.kia_one PySem.W.kitx_dict I.kIn ⟨o, h1, h2.1⟩ e (fun z => nomatch z) h
  | @ins a C dx fs ea cl ha hn htk hm =>
    cases (show u = Value.ref a from rx)
    obtain ⟨mA, O, _⟩ := zhP I.hok ea
    obtain ⟨od, J, _⟩ := O.look
    exact PySem.W.kia_one (PySem.W.kitx_own (cl.get _) cl.hd ha hn htk hm) I.kIn J e (fun z => nomatch z) h
end
end L2
namespace L2
open PySem PySem.Spec PyProof.Rows
set_option genInjectivity false in
set_option genSizeOf false in
set_option genCtorIdx false in
structure Ya (k : Nat) (A : Around) : Prop where
  hd : A.handled = none
  dp : A.depth + 3 * k + 5 < recursionLimit
  un : A.units + 16 * k + 200 < cLine
theorem Ya.mono {j k : Nat} {A : Around} (r : Ya k A) (h : j ≤ k) : Ya j A := ⟨r.hd, by have := r.dp; omega, by have := r.un; omega⟩
theorem Ya.deeper {k : Nat} {A : Around} (r : Ya (k + 1) A) (env : Env) : Ya k (A.deeper env) :=
  ⟨r.hd, by have := r.dp; show A.depth + 1 + 3 * k + 5 < _; omega, by have := r.un; show A.units + 3 + 16 * k + 200 < _; omega⟩
theorem Ya.depth {k : Nat} {A : Around} (r : Ya k A) : A.depth < recursionLimit := by have := r.dp; omega
theorem Ya.units {k : Nat} {A : Around} (r : Ya k A) : A.units + 64 < cLine := by have := r.un; omega
theorem Ya.units0 {k : Nat} {A : Around} (r : Ya k A) : A.units < cLine := by have := r.un; omega
noncomputable def tNil : TA := fun _ H Q => Q [] H
noncomputable def zl2 (ta : TE) (tr : TA) : TA := fun σ H Q => ta σ H fun x H1 => tr σ H1 fun xs H2 => Q (x :: xs) H2
section
variable {X : Cx} {e : Expr} {es : List Expr} {te : TE} {t : TA} {pos : Pos}
theorem Vv : PA X [] tNil := fun _ _ _ _ H Q I h => Calls.spliced_nil ⟨[], H, I, .nil, h⟩
theorem Y0 (ha : PE X e te) (hr : PA X es t) (hs : starEach (e :: es) X.env = (false, eval e X.env) :: starEach es X.env := by rfl) : PA X (e :: es) (zl2 te t) := by
  intro pos pins s σ H Q I h
  rw [hs]
  show wpAny _ _ (spliced ((false, eval e X.env) :: backTo pos (starEach es X.env))) _ _ s
  refine Calls.spliced_cons (thn (ha pins s σ H _ I h) fun u s1 hh9 => ?_)
  obtain ⟨x, H1, I1, r1, q1⟩ := hh9
  exact thn (hr pos pins s1 σ H1 _ I1 q1) fun us s2 ⟨xs, H2, I2, r2, q2⟩ => ⟨x :: xs, H2, I2, .cons r1 r2, q2⟩
noncomputable def tTup (t : TA) : TE := fun σ H Q => t σ H fun xs H1 => xs.length ≤ sizeLine ∧ ∀ p, H1 p = none → Q (.ref p) (upd H1 p (.tup xs))
noncomputable def tLst (t : TA) : TE := fun σ H Q => t σ H fun xs H1 => xs.length ≤ sizeLine ∧ ∀ p, H1 p = none → Q (.ref p) (upd H1 p (.lst xs))
theorem zkN {x1} (h : PA X es t) : PE X (.Tuple es x1 pos) (tTup t) := by
  intro pins s σ H Q I hq
  refine wpAny_Tuple_spliced (thn (h pos pins s σ H _ I hq) fun us s1 ⟨xs, H1, I1, r, z, q⟩ => ⟨by rw [← r.length]; exact z, ?_⟩)
  have hf : H1 s1.heap.objs.size = none := I1.hok.fresh (Nat.le_refl _)
  refine ⟨.ref s1.heap.objs.size, upd H1 s1.heap.objs.size (.tup xs), I1.laid (t' := s1.toks) (fun b u e => Heap.get?_push_of_some _ e) (Nat.le_refl _) ?_, rfl, q _ hf⟩
  exact ⟨z, us, r, ⟨_, Heap.get?_push_size _ rfl, rfl, _, rfl⟩⟩
theorem zjF (h : PA X es t) : PE X (.List es pos) (tLst t) := by
  intro pins s σ H Q I hq
  refine wpAny_List_spliced (thn (h pos pins s σ H _ I hq) fun us s1 ⟨xs, H1, I1, r, z, q⟩ => ⟨by rw [← r.length]; exact z, ?_⟩)
  have hf : H1 s1.heap.objs.size = none := I1.hok.fresh (Nat.le_refl _)
  refine ⟨.ref s1.heap.objs.size, upd H1 s1.heap.objs.size (.lst xs), I1.laid (t' := s1.toks) (fun b u e => Heap.get?_push_of_some _ e) (Nat.le_refl _) ?_, rfl, q _ hf⟩
  exact ⟨z, us, 0, r, Heap.get?_push_size _ rfl⟩
end
noncomputable abbrev Sp := List V → Hp → VK → XK → Prop
noncomputable abbrev CXT := List Env → Hp → Shared → XK → Value → Shared → Prop
structure zly (P : Program) (w : World) (K : PySem.W.Frag) (mg : Str → Option Value) (base : Heap) (A : Around) (outer : List Env) (s : Shared) (H : Hp) : Prop where
  frames : A.frames = some outer
  mod : Mod K mg base
  bs : ∀ b o, base.get? b = some o → s.heap.get? b = some o ∧ H b = none
  bsz : base.objs.size ≤ s.heap.objs.size
  funs : s.heap.FunFrames base outer
  frf : ∀ b ∈ frs outer, H b = none
  hok : HOk P w H s.heap
  bare : AllBare s.gens
noncomputable def CE (outer : List Env) (P : Program) (w : World) (H : Hp) (s : Shared) (Q : VK) (u : Value) (s' : Shared) : Prop :=
  ∃ v H', s'.os = s.os ∧ AllBare s'.gens ∧ Un (frs outer) [] H H' s.heap s'.heap ∧ HOk P w H' s'.heap ∧ yH v u ∧ Q v H'
noncomputable def CR (CX : CXT) (outer : List Env) (P : Program) (w : World) (H : Hp) (s : Shared) (Q : VK) (E : XK) (r : Result) (s' : Shared) : Prop :=
  match r with
  | .ok (.ret u) => CE outer P w H s Q u s'
  | .ok _ => False
  | .error e => CX outer H s E e s'
set_option genInjectivity false in
set_option genSizeOf false in
set_option genCtorIdx false in
structure yY (P : Program) (w : World) (K : PySem.W.Frag) (mg : Str → Option Value) (base : Heap) (CX : CXT) (k : Nat) (f : Addr) (fd : FuncData) (ps : List Str) (sp : Sp) : Prop where
  len : ∀ vs H Q E, sp vs H Q E → vs.length = ps.length
  run : ∀ (A : Around) (outer : List Env) (s : Shared) (H : Hp) (args : Args) (us : List Value) (vs : List V) (Q : VK) (E : XK), Ya k A → zly P w K mg base A outer s H → BindsTo s fd args (ps.zip us) → yl vs us → sp vs H Q E →
    codeAny (model P w) A (.call (.ref f) args) (CR CX outer P w H s Q E) s
theorem yY.mono {P : Program} {w : World} {K : PySem.W.Frag} {mg : Str → Option Value} {base : Heap} {CX : CXT} {j k : Nat} {f : Addr} {fd : FuncData} {ps : List Str} {sp : Sp} (F : yY P w K mg base CX j f fd ps sp) (h : j ≤ k) :
    yY P w K mg base CX k f fd ps sp := ⟨F.len, fun A outer s H args us vs Q E hr => F.run A outer s H args us vs Q E (hr.mono h)⟩
theorem yY.imp {P : Program} {w : World} {K : PySem.W.Frag} {mg : Str → Option Value} {base : Heap} {CX : CXT} {k : Nat} {f : Addr} {fd : FuncData} {ps : List Str} {sp sp' : Sp} (F : yY P w K mg base CX k f fd ps sp)
    (h : ∀ vs H Q E, sp' vs H Q E → sp vs H Q E) : yY P w K mg base CX k f fd ps sp' :=
  ⟨fun vs H Q E q => F.len vs H Q E (h _ _ _ _ q), fun A outer s H args us vs Q E hr he hb hv hs => F.run A outer s H args us vs Q E hr he hb hv (h _ _ _ _ hs)⟩
section
variable {X : Cx} {pins : List (Addr × Obj)} {σ : St} {H : Hp} {s s' : Shared}
theorem Inv.env0 (I : Inv X pins σ H s) : zly X.prog X.w X.K X.mg X.base X.A X.stack s H :=
  ⟨I.ok.frames, I.ok.mod, I.bs, Nat.le_trans I.ok.bsz I.sz, I.stack, I.stkFree, I.hok, I.bare⟩
theorem Inv.after {Q : VK} {u : Value} (I : Inv X pins σ H s) (h : CE X.stack X.prog X.w H s Q u s') : EP X pins σ Q u s' := by
  obtain ⟨v, H', os, bare, un, hok, r, q⟩ := h
  obtain ⟨hh, g, d, t, os'⟩ := s'
  obtain rfl : os' = s.os := os
  exact ⟨v, H', I.call (h' := hh) (g' := g) (d' := d) (t' := t) (ch := []) un hok bare (fun b z => absurd z (by simp)), r, q⟩
end
noncomputable def zmj (sp : Sp) (dvs : List V) (E : XK) (t : TA) : TE := fun σ H Q => t σ H fun vs H1 => sp (vs ++ dvs) H1 Q E
noncomputable def zbf (K : PySem.W.Frag) (fd : FuncData) (ps : List Str) (ds : List Value) : Prop :=
  ∀ (s : Shared) (us : List Value), K.In s.heap → (us ++ ds).length = ps.length → BindsTo s fd ⟨us, []⟩ (ps.zip (us ++ ds))
theorem zbf.all {K : PySem.W.Frag} {fd : FuncData} {ps : List Str} (h : ∀ us : List Value, us.length = ps.length → bindArgs fd ⟨us, []⟩ = pure (ps.zip us)) : zbf K fd ps [] := fun s us _ hl => by
  rw [List.append_nil] at hl ⊢
  exact .of_eq (h us hl)
noncomputable def zfg (CX : CXT) (X : Cx) (E : XK) : Prop := ∀ (pins : List (Addr × Obj)) (σ : St) (H : Hp) (s : Shared) (e : Value) (s' : Shared), Inv X pins σ H s → CX X.stack H s E e s' → X.xe e s'
section
variable {X : Cx} {CX : CXT} {k : Nat} {f C : Addr} {fd : FuncData} {ps : List Str} {sp : Sp} {dvs : List V} {ds : List Value} {E : XK} {x m : Str} {p pos apos : Pos} {e o : Expr} {es : List Expr} {ta : TE} {t : TA}
theorem zkh {pins : List (Addr × Obj)} {σ : St} {H : Hp} {s : Shared} {Q : VK} {us : List Value} {vs : List V} (F : yY X.prog X.w X.K X.mg X.base CX k f fd ps sp) (hr : Ya k X.A) (hb : zbf X.K fd ps ds) (hd : yl dvs ds) (hx : zfg CX X E)
    (I : Inv X pins σ H s) (r : yl vs us) (h : sp (vs ++ dvs) H Q E) : wpAny (model X.prog X.w) X.A (call (.ref f) us) (EP X pins σ Q) X.xe s := by
  have r2 : yl (vs ++ dvs) (us ++ ds) := r.append hd
  have hl : (us ++ ds).length = ps.length := by rw [← r2.length]; exact F.len _ _ _ _ h
  refine wpAny_call (codeAny_mono (F.run X.A X.stack s H ⟨us, []⟩ (us ++ ds) (vs ++ dvs) Q E hr I.env0 (hb s us I.kIn hl) r2 h) fun r s' hq => ?_)
  cases r with
  | error e => exact hx pins σ H s e s' I hq
  | ok fl =>
    cases fl with
    | ret u => exact I.after hq
    | next => exact False.elim hq
    | brk => exact False.elim hq
    | cont => exact False.elim hq
theorem zjk (F : yY X.prog X.w X.K X.mg X.base CX k f fd ps sp) (hr : Ya k X.A) (hg : Gl X x) (hm : X.mg x = some (.ref f)) (hk : PySem.W.keepIn X.K (.ref f) = true) (hb : zbf X.K fd ps ds) (hd : yl dvs ds) (hx : zfg CX X E)
    (ha : PA X (e :: es) t) (hdb : (x == ("__debug__" : Str)) = false := by decide) (he : starEach (e :: es) X.env = (false, eval e X.env) :: starEach es X.env := by rfl) (hpl : (backTo pos (starEach es X.env)).any (·.1) = false := by rfl) :
    PE X (.Call (.Name x p) (e :: es) [] pos) (zmj sp dvs E t) := by
  intro pins s σ H Q I h
  refine wpAny_Call_Name_kw (zfl I hg hm ?_ hdb)
  refine PySem.W.callWith_K (h₀ := X.base) I.ok.mod.kin hk (thn (ha pos pins s σ H _ I h) fun us s1 ⟨vs, H1, I1, r, q⟩ => ⟨I1.kIn, ?_⟩) he hpl
  exact zkh F hr hb hd hx I1 r q
end
section
variable {X : Cx} {CX : CXT} {k : Nat} {f C : Addr} {fd : FuncData} {ps ks : List Str} {sp : Sp} {E : XK} {x m : Str} {p pos apos kpos : Pos} {e o : Expr} {es : List Expr} {kws : List Keyword} {te ta : TE} {t tk : TA} {nm : Option Str}
variable {g : List Value → List Value → List Value} {gV : List V → List V → List V}
end
structure zw (N P : List Str) (sc : Scope) : Prop where
  kind : sc.kind = .function
  co : sc.isCoroutine = false
  gen : sc.isGenerator = false
  nd : N.Nodup
  pre : N.take P.length = P
  par : ∀ x ∈ P, sc.names.lookup x = some .local ∨ sc.names.lookup x = some .cell
  nofree : ∀ y ∈ sc.names, y.2 ≠ .free
theorem zae {kindOf : Str → Option NameKind} {x : Str} : ∀ {binds : List (Str × Value)} {m : Str → Option Value}, (∀ v, (x, v) ∉ binds) → bindL kindOf binds m x = m x
  | [], _, _ => rfl
  | (n, v) :: r, m, h => by
    unfold bindL
    rw [zae fun w hw => h w (List.mem_cons_of_mem _ hw)]
    split
    · have : x ≠ n := by rintro rfl; exact h v List.mem_cons_self
      simp [this]
    · rfl
theorem WR {kindOf : Str → Option NameKind} {x : Str} : ∀ {binds : List (Str × Value)} {m : Str → Option Value}, (∀ v, (x, v) ∉ binds) → bindC kindOf binds m x = m x
  | [], _, _ => rfl
  | (n, v) :: r, m, h => by
    unfold bindC
    rw [WR fun w hw => h w (List.mem_cons_of_mem _ hw)]
    split
    · rfl
    · have : x ≠ n := by rintro rfl; exact h v List.mem_cons_self
      simp [this]
theorem Va {kindOf : Str → Option NameKind} {x : Str} {v : Value} : ∀ {P : List Str} {vs : List Value} {i : Nat} {m : Str → Option Value}, P.Nodup → P[i]? = some x → vs[i]? = some v → kindOf x = some .local →
    bindL kindOf (P.zip vs) m x = some v
  | [], _, _, _, _, h, _, _ => by simp at h
  | _ :: _, [], _, _, _, _, h, _ => by simp at h
  | p :: P, w :: vs, 0, m, nd, h1, h2, hk => by
    simp at h1 h2; subst h1; subst h2
    show bindL kindOf ((p, w) :: P.zip vs) m p = _
    unfold bindL
    rw [zae fun v hv => (List.nodup_cons.mp nd).1 (List.of_mem_zip hv).1, if_pos hk]
    simp
  | p :: P, w :: vs, i + 1, m, nd, h1, h2, hk => by
    show bindL kindOf ((p, w) :: P.zip vs) m x = _
    unfold bindL
    exact Va (i := i) (List.nodup_cons.mp nd).2 (by simpa using h1) (by simpa using h2) hk
theorem Vc {kindOf : Str → Option NameKind} {x : Str} {v : Value} : ∀ {P : List Str} {vs : List Value} {i : Nat} {m : Str → Option Value}, P.Nodup → P[i]? = some x → vs[i]? = some v → kindOf x ≠ some .local →
    bindC kindOf (P.zip vs) m x = some v
  | [], _, _, _, _, h, _, _ => by simp at h
  | _ :: _, [], _, _, _, _, h, _ => by simp at h
  | p :: P, w :: vs, 0, m, nd, h1, h2, hk => by
    simp at h1 h2; subst h1; subst h2
    show bindC kindOf ((p, w) :: P.zip vs) m p = _
    unfold bindC
    rw [WR fun v hv => (List.nodup_cons.mp nd).1 (List.of_mem_zip hv).1, if_neg hk]
    simp
  | p :: P, w :: vs, i + 1, m, nd, h1, h2, hk => by
    show bindC kindOf ((p, w) :: P.zip vs) m x = _
    unfold bindC
    exact Vc (i := i) (List.nodup_cons.mp nd).2 (by simpa using h1) (by simpa using h2) hk
noncomputable def start (N : List Str) (vs : List V) : St := vs.map some ++ List.replicate (N.length - vs.length) none
noncomputable def zjj (CX : CXT) (P : Program) (w : World) (K : PySem.W.Frag) (mg : Str → Option Value) (base : Heap) (N : List Str) (qual : Str) (scope : Scope) (f : Addr) (cd : Value) (A : Around) (outer : List Env) (s : Shared) (H : Hp) (E : XK) : Cx where
  prog := P
  w := w
  K := K
  mg := mg
  base := base
  A := A.deeper (envOfC qual scope s.heap.objs.size f cd)
  N := N
  s₀ := s
  H₀ := H
  env := envOfC qual scope s.heap.objs.size f cd
  outer := outer
  stack := envOfC qual scope s.heap.objs.size f cd :: outer
  ex := []
  calm := true
  fn := fun _ => true
  pn := []
  xe := fun e s' => wpAny (model P w) (A.deeper (envOfC qual scope s.heap.objs.size f cd)) (leaving (envOfC qual scope s.heap.objs.size f cd) e) (fun _ s'' => CX outer H s E e s'') (fun e' s'' => CX outer H s E e' s'') s'
theorem zdK {sc : Scope} {n : Nat} {x : Str} (h : sc.names.lookup x = some .cell) : ∃ c, (cellsFrom n sc.names []).lookup x = some c := by
  have q := PySem.W.cellsFrom_some sc.names n [] (.inl h)
  exact Option.isSome_iff_exists.mp q
theorem zfu {CX : CXT} {P : Program} {w : World} {K : PySem.W.Frag} {mg : Str → Option Value} {base : Heap} {N ps : List Str} {qual : Str} {scope : Scope} {f : Addr} {cd : Value} {A : Around} {outer : List Env} {s s1 : Shared} {H : Hp} {E : XK} {us : List Value} {vs : List V}
    (S : zw N ps scope) (hd : A.handled = none) (e0 : zly P w K mg base A outer s H) (hl : vs.length = ps.length) (r : yl vs us)
    (x : InCallC s s.heap.objs.size (bindL (envOfC qual scope s.heap.objs.size f cd).kindOf (ps.zip us) fun _ => none) (cellsFrom (s.heap.objs.size + 1) scope.names []) (bindC (envOfC qual scope s.heap.objs.size f cd).kindOf (ps.zip us) fun _ => none) s1) :
    Inv (zjj CX P w K mg base N qual scope f cd A outer s H E) [] (start N vs) H s1 := by
  have hpl : ps.length ≤ N.length := by have := congrArg List.length S.pre; rw [List.length_take] at this; omega
  obtain ⟨h1, tk, rfl, hk⟩ := x.done
  have noA : ∀ b : Addr, b ∉ (zjj CX P w K mg base N qual scope f cd A outer s H E).ex := fun b z => absurd (show b ∈ ([] : List Addr) from z) (by simp)
  refine ⟨⟨e0.mod, S.kind, rfl, rfl, Nat.le_refl _, fun y z c h1 h2 => ?_, fun y hy => ?_, fun y c _ h => ?_, fun _ => hd, Around.frames_deeper e0.frames, .inr ⟨rfl, rfl⟩, fun b z => absurd z (noA b), e0.bs, e0.bsz, fun b _ _ => noA b, fun b z => absurd z (noA b), e0.funs, e0.frf⟩,
    rfl, e0.bare, Un.kept hk, ⟨_, x.toInCall.ns, fun i y v h1 h2 h3 => ?_⟩, fun y c h => ⟨_, x.cell y c h⟩, e0.hok.fresh (Nat.le_refl _), fun y c h => ?_, fun p hp => absurd (show p ∈ ([] : List (Addr × Obj)) from hp) (by simp), e0.hok.kept hk, ?_⟩
  · exact name_of_addr x.apart (PySem.mem_of_lookup h1) (PySem.mem_of_lookup h2)
  · have hy : scope.names.lookup y = some .cell ∨ scope.names.lookup y = some .free := hy
    rcases hy with hy | hy
    · exact zdK hy
    · exact absurd rfl (S.nofree _ (PySem.mem_of_lookup hy))
  · exact Nat.le_of_lt (x.above y c (PySem.mem_of_lookup h))
  · have hi : i < vs.length := by
      unfold start at h2
      by_cases hi : i < vs.length
      · exact hi
      · rw [List.getElem?_append_right (by simpa using hi)] at h2
        rw [List.getElem?_replicate] at h2
        split at h2 <;> cases h2
    have ha : vs[i]? = some v := by
      unfold start at h2
      rw [List.getElem?_append_left (by simpa using hi), List.getElem?_map] at h2
      cases e : vs[i]? with
      | none => rw [e] at h2; cases h2
      | some a => rw [e] at h2; cases h2; rfl
    obtain ⟨u, hu, rv⟩ := r.get ha
    have hp : ps[i]? = some y := by
      rw [← S.pre, List.getElem?_take_of_lt (by omega)]; exact h1
    have ndP : ps.Nodup := by rw [← S.pre]; exact S.nd.sublist (List.take_sublist _ _)
    refine ⟨u, rv, ?_⟩
    rcases S.par y (List.mem_of_getElem? hp) with k | k
    · exact .inl ⟨k, Va ndP hp hu k⟩
    · obtain ⟨c, e⟩ := zdK (n := s.heap.objs.size + 1) k
      refine .inr ⟨.inl k, c, e, ?_⟩
      have q := x.cell y c e
      rw [Vc ndP hp hu (by show scope.names.lookup y ≠ _; rw [k]; decide)] at q
      exact q
  · exact e0.hok.fresh (Nat.le_of_lt (x.above y c (PySem.mem_of_lookup h)))
  · unfold start
    show _ = N.length
    rw [List.length_append, List.length_map, List.length_replicate]
    omega
theorem zlB {CX : CXT} {P : Program} {w : World} {K : PySem.W.Frag} {mg : Str → Option Value} {base : Heap} {k : Nat} {f : Addr} {name qual : Str} {params : Arguments} {body : List Stmt} {scope : Scope} {dV kV doc pm cdv ct oc : Value} {an od : Option Addr}
    {osl : Array (Option Value)} {N ps : List Str} {sp : Sp} (lk : K.lookup f = some ⟨oc, od, .func (PySem.W.fnOf name qual params body scope dV kV doc pm an cdv ct), osl⟩) (hcd : PySem.W.codeIn K cdv qual = true) (S : zw N ps scope)
    (len : ∀ vs H Q E, sp vs H Q E → vs.length = ps.length)
    (hbody : ∀ (A : Around) (outer : List Env) (s : Shared) (H : Hp) (vs : List V) (Q : VK) (E : XK), Ya k (A.deeper (envOfC qual scope s.heap.objs.size f cdv)) → sp vs H Q E →
      ∃ t, PSs (zjj CX P w K mg base N qual scope f cdv A outer s H E) body t ∧ t { nx := fun _ H' => Q .non H', rt := Q } (start N vs) H) :
    yY P w K mg base CX (k + 1) f (PySem.W.fnOf name qual params body scope dV kV doc pm an cdv ct) ps sp := by
  refine ⟨len, fun A outer s H args us vs Q E hr e0 hb r hsp => ?_⟩
  have hl := len _ _ _ _ hsp
  have KX : K.In s.heap := e0.mod.kin.keeps fun b o e => (e0.bs b o e).1
  have lim : s.heap.NoLimit := e0.mod.nolimit.keeps fun b o e => (e0.bs b o e).1
  have hkind : ∀ y ∈ ps.zip us, scope.names.lookup y.1 = some .local ∨ (scope.names.lookup y.1 = some .cell ∧ ((cellsFrom (s.heap.objs.size + 1) scope.names []).lookup y.1).isSome = true) := fun ⟨n, v⟩ hy => by
    rcases S.par n (List.of_mem_zip hy).1 with q | q
    · exact .inl q
    · exact .inr ⟨q, PySem.W.cellsFrom_some _ _ _ (.inl q)⟩
  refine codeAny_call_function hr.depth (KX _ _ lk) rfl S.co S.gen rfl (PySem.W.codeRec_of KX hcd) (hb _ _ _ _ ?_)
  refine wpAny_newFunctionEnv_cells S.kind hkind fun env he s1 x => ?_
  subst he
  refine ⟨lim.keeps x.toInCall.keep, codeAny_func ?_⟩
  obtain ⟨t, ht, hq⟩ := hbody A outer s H vs Q E (hr.deeper _) hsp
  have I : Inv (zjj CX P w K mg base N qual scope f cdv A outer s H E) [] (start N vs) H s1 := zfu S hr.hd e0 hl r x
  refine wpAny_mono (ht [] s1 (start N vs) H _ I hq) (fun fl s' hs => ?_) fun e s' hs => hs
  have fin : ∀ {σ' : St} {H' : Hp} {v : V} {u : Value}, Inv (zjj CX P w K mg base N qual scope f cdv A outer s H E) [] σ' H' s' → yH v u → Q v H' → CE outer P w H s Q u s' :=
    fun {σ' H' v u} J rv q => ⟨v, H', J.os, J.bare, J.base, J.hok, rv, q⟩
  cases fl with
  | ret u =>
    obtain ⟨v, σ', H', J, rv, q⟩ := hs
    exact fin J rv q
  | next =>
    obtain ⟨σ', H', J, q⟩ := hs
    exact fin (v := V.non) (u := Value.none) J rfl q
  | brk =>
    obtain ⟨_, _, _, q⟩ := hs
    exact False.elim q
  | cont =>
    obtain ⟨_, _, _, q⟩ := hs
    exact False.elim q
end L2
namespace L2
open PySem PySem.Spec PyProof.Rows
section
variable {X : Cx} {x : Str} {p pos : Pos} {e : Expr} {es : List Expr} {t : TA} {id T : String} {r : List V → Hp → VK → Prop}
noncomputable def tCB (r : List V → Hp → VK → Prop) (t : TA) : TE := fun σ H Q => t σ H fun vs H1 => r vs H1 Q
theorem Yc (hc : vh X (.builtin id) r) (hg : Gl X x) (hm : X.mg x = none) (hv : bootBuiltins x = some (.builtin id)) (ha : PA X (e :: es) t) (hn : x ≠ "__name__" := by decide) (hdb : (x == ("__debug__" : Str)) = false := by decide)
    (he : starEach (e :: es) X.env = (false, eval e X.env) :: starEach es X.env := by rfl) (hpl : (backTo pos (starEach es X.env)).any (·.1) = false := by rfl) : PE X (.Call (.Name x p) (e :: es) [] pos) (tCB r t) := by
  intro pins s σ H Q I h
  refine wpAny_Call_Name_kw (Xe I hg hm hv ?_ hn hdb)
  exact PyProof.Rows.callWith_builtin1 (thn (ha pos pins s σ H _ I h) fun us s1 ⟨vs, H1, I1, r1, q1⟩ => hc pins s1 σ H1 vs us Q I1 r1 q1) he hpl
theorem zaz (hc : vh X (.type T) r) (hg : Gl X x) (hm : X.mg x = none) (hv : bootBuiltins x = some (.type T)) (ha : PA X (e :: es) t) (hn : x ≠ "__name__" := by decide) (hdb : (x == ("__debug__" : Str)) = false := by decide)
    (he : starEach (e :: es) X.env = (false, eval e X.env) :: starEach es X.env := by rfl) (hpl : (backTo pos (starEach es X.env)).any (·.1) = false := by rfl) : PE X (.Call (.Name x p) (e :: es) [] pos) (tCB r t) := by
  intro pins s σ H Q I h
  refine wpAny_Call_Name_kw (Xe I hg hm hv ?_ hn hdb)
  exact PyProof.Rows.callWith_type1 (thn (ha pos pins s σ H _ I h) fun us s1 ⟨vs, H1, I1, r1, q1⟩ => hc pins s1 σ H1 vs us Q I1 r1 q1) he hpl
end
end L2
namespace HT
open PySem PyProof.Rows
noncomputable def lexLt : List Int → List Int → Bool
  | [], [] => false
  | [], _ :: _ => true
  | _ :: _, [] => false
  | x :: xs, y :: ys => if x = y then lexLt xs ys else decide (x < y)
theorem lexLt_cons (x y : Int) (xs ys : List Int) : lexLt (x :: xs) (y :: ys) = if x = y then lexLt xs ys else decide (x < y) := rfl
theorem zhr (A : Around) (s : Shared) (a : Int) (t : Tok) (c : Int) (u : Tok) : ∃ e, SeqAt.EqAt A s (.int a t) (.int c u) e ∧ (e = true ↔ a = c) :=
  ⟨(a == c), SeqAt.EqAt.int_int a t c u, by simp⟩
section
open PySem.SeqAt
open PySem.AutoSeq1 (wpAny_loadPart')
open PySem.MeetsSeq PySem.MeetsSeq2 PySem.MeetsSeq3
end
section
variable {prog : Program} {w : World} {A : Around} {E : Value → Shared → Prop} {s : Shared}
theorem cat_tup {t b : Addr} {vs ws : List Value} {Q : Value → Shared → Prop} (ht : IsTup s.heap t vs.toArray) (hb : IsTup s.heap b ws.toArray) (hv : vs ≠ [])
    (h1 : ws = [] → Q (.ref t) s) (h2 : ws ≠ [] → Q (.ref s.heap.objs.size) { s with heap := s.heap.push { cls := .type "tuple", data := .seq (vs ++ ws).toArray } })
    (hsz : vs.length + ws.length ≤ sizeLine) : wpAny (model prog w) A (binaryOp .Add (.ref t) (.ref b)) Q E s := by
  obtain ⟨⟨cls, dd, data, sl⟩, ho, hc, n, hd⟩ := id ht
  obtain ⟨⟨cls2, dd2, data2, sl2⟩, ho2, hc2, n2, hd2⟩ := id hb
  simp only at hc hd hc2 hd2
  subst hc hd hc2 hd2
  have e : vs.toArray ++ ws.toArray = (vs ++ ws).toArray := by simp
  by_cases hw : ws = []
  · exact concat_meets ⟨_, ho, rfl⟩ ⟨_, ho2, rfl⟩ noFill_tuple_add seq_tuple_add PySem.F.slot_tuple_add PySem.F.entry_tuple_add (PySem.F.args_tuple_add_2 _ _)
      (tuple_addW1 t b vs.toArray ws.toArray n n2 dd dd2 sl sl2 (by simpa using hv) (by simp [hw])) ⟨ho, ho2, h1 hw⟩
  · refine concat_meets ⟨_, ho, rfl⟩ ⟨_, ho2, rfl⟩ noFill_tuple_add seq_tuple_add PySem.F.slot_tuple_add PySem.F.entry_tuple_add (PySem.F.args_tuple_add_2 _ _)
      (tuple_addW2 t b vs.toArray ws.toArray n n2 dd dd2 sl sl2 (by simpa using hv) (by simpa using hw) (by rw [List.size_toArray, List.size_toArray]; exact hsz)) ⟨ho, ho2, ?_⟩
    rw [e]
    exact h2 hw
noncomputable def sIx (n d : Nat) : Option Int → Nat
  | none => d
  | some v => if v < 0 then (v + (n : Int)).toNat else min v.toNat n
theorem sIx_none (n d : Nat) : sIx n d none = d := rfl
theorem sIx_nat (n d k : Nat) : sIx n d (some (k : Int)) = min k n := by
  show (if (k : Int) < 0 then ((k : Int) + (n : Int)).toNat else min (k : Int).toNat n) = min k n
  rw [if_neg (by omega), Int.toNat_natCast]
theorem zkS (n d : Nat) (hd : d ≤ n) (o : Option Int) : sIx n d o ≤ n := by
  cases o with
  | none => exact hd
  | some v =>
    show (if v < 0 then (v + (n : Int)).toNat else min v.toNat n) ≤ n
    by_cases hv : v < 0
    · rw [if_pos hv]; omega
    · rw [if_neg hv]; exact Nat.min_le_right _ _
theorem zfs (v : Int) (n d : Nat) : (if v < 0 then max (v + (n : Int)) 0 else min v (n : Int)) = ((sIx n d (some v) : Nat) : Int) := by
  show (if v < 0 then max (v + (n : Int)) 0 else min v (n : Int)) = (((if v < 0 then (v + (n : Int)).toNat else min v.toNat n) : Nat) : Int)
  by_cases hv : v < 0
  · simp only [if_pos hv]; omega
  · simp only [if_neg hv]; omega
theorem zdR (lo hi : Option Int) (n : Nat) : Builtin.Slice.sliceAdjust lo hi 1 (n : Int) = (((sIx n 0 lo : Nat) : Int), ((sIx n n hi : Nat) : Int)) := by
  have h1 : ¬ ((1 : Int) < 0) := by omega
  unfold Builtin.Slice.sliceAdjust
  simp only [h1, if_false]
  refine Prod.ext ?_ ?_
  · cases lo with
    | none => rfl
    | some v => exact zfs v n 0
  · cases hi with
    | none => rfl
    | some v => exact zfs v n n
theorem zek (i j : Nat) : Builtin.Slice.slicePlaces (i : Int) (j : Int) 1 = j - i := by
  unfold Builtin.Slice.slicePlaces
  have h1 : (1 : Int) > 0 := by omega
  simp only [h1, if_true, Int.ediv_one]
  split <;> omega
theorem Xz {v : Value} {o : Option Int} {Q : Option Int → Shared → Prop} (p : IsPart v o) (h : Q o s) : wpAny (model prog w) A (Builtin.Slice.slicePartIndex v) Q E s := by
  cases p with
  | none => exact slicePart_none h
  | int i t => exact slicePart_int h
theorem wN {sl : Addr} {vl vu : Value} {lo hi : Option Int} {n : Nat} {Q : Int × Int × Nat → Shared → Prop} (hs : s.heap.IsSliceOf sl vl vu .none) (pl : IsPart vl lo) (pu : IsPart vu hi)
    (h : Q (((sIx n 0 lo : Nat) : Int), 1, sIx n n hi - sIx n 0 lo) s) : wpAny (model prog w) A (Builtin.Slice.sliceApplied (.ref sl) (pure (n : Int))) Q E s := by
  obtain ⟨os, hos, hcs, hds⟩ := id hs
  unfold Builtin.Slice.sliceApplied Builtin.Slice.sliceFields
  refine wpAny_bind (wpAny_bind (wpAny_field hos hds (x := vl) rfl (wpAny_bind (wpAny_field hos hds (x := vu) rfl (wpAny_bind (wpAny_field hos hds (x := .none) rfl (wpAny_pure ?_)))))))
  refine wpAny_bind (slicePart_none ?_)
  show wpAny _ _ (if ((1 : Int) == 0) = true then _ else _) _ _ s
  rw [if_neg (by decide)]
  refine wpAny_bind (Xz pl (wpAny_bind (Xz pu (wpAny_bind (wpAny_pure ?_)))))
  show wpAny _ _ (match Builtin.Slice.sliceAdjust lo hi 1 (n : Int) with | (lo, hi) => pure (lo, (1 : Int), Builtin.Slice.slicePlaces lo hi 1)) _ _ s
  rw [zdR lo hi n]
  show wpAny _ _ (pure (((sIx n 0 lo : Nat) : Int), (1 : Int), Builtin.Slice.slicePlaces ((sIx n 0 lo : Nat) : Int) ((sIx n n hi : Nat) : Int) 1)) _ _ s
  rw [zek]
  exact wpAny_pure h
theorem zgx (xs : Array Value) (i k : Nat) : ((List.range k).filterMap fun (m : Nat) => xs[((i : Int) + (m : Int) * 1).toNat]?).toArray = ((xs.toList.drop i).take k).toArray := by
  have e : (fun (m : Nat) => xs[((i : Int) + (m : Int) * 1).toNat]?) = fun m => xs[i + m]? := by
    funext m
    have : ((i : Int) + (m : Int) * 1).toNat = i + m := by omega
    rw [this]
  rw [e]
  have := pick_run xs i k
  rw [List.filterMap_map] at this
  have e2 : ((fun x => xs[x]?) ∘ fun x => i + x) = fun m => xs[i + m]? := rfl
  rw [e2] at this
  rw [this]
theorem getItem_tuple_cut {t sl : Addr} {items : Array Value} {vl vu : Value} {lo hi : Option Int} {Q : Value → Shared → Prop} (ht : IsTup s.heap t items) (hs : s.heap.IsSliceOf sl vl vu .none) (pl : IsPart vl lo) (pu : IsPart vu hi)
    (hw : ¬ (sIx items.size 0 lo = 0 ∧ sIx items.size items.size hi = items.size))
    (h : Q (.ref s.heap.objs.size) { s with heap := s.heap.push { cls := .type "tuple", data := .seq ((items.toList.drop (sIx items.size 0 lo)).take (sIx items.size items.size hi - sIx items.size 0 lo)).toArray } })
    (hsz : items.size ≤ sizeLine) : wpAny (model prog w) A (getItem (.ref t) (.ref sl)) Q E s := by
  have htake : sizeOk (.seq ((items.toList.drop (sIx items.size 0 lo)).take (sIx items.size items.size hi - sIx items.size 0 lo)).toArray) := by
    show ((items.toList.drop (sIx items.size 0 lo)).take (sIx items.size items.size hi - sIx items.size 0 lo)).toArray.size ≤ sizeLine
    rw [List.size_toArray, List.length_take, List.length_drop, Array.length_toList]
    omega
  have hj : sIx items.size items.size hi ≤ items.size := zkS _ _ (Nat.le_refl _) hi
  obtain ⟨os, hos, hcs, hds⟩ := id hs
  have hTs : s.TypeIs (.ref sl) "slice" := ⟨os, hos, hcs⟩
  unfold getItem
  try with_reducible refine wpAny_holding ?_
  first | refine wpAny_bind (wpAny_pure ?_) | skip
  refine wpAny_bind (wpAny_sequenceKey ht.typeIs (by decide) ?_)
  refine wpAny_bind (wpAny_callSpecial?_slot (name := Str.ofString "__getitem__") ht.typeIs PyProof.Rows.slot_tuple_getitem
    (wpAny_call_entry PyProof.Rows.slot_tuple_getitem ht.typeIs entry_tuple_getitem ?_ (args_tuple_getitem _ _)))
  show wpAny _ _ (Builtin.Tuple.tupleItemsOf (.ref t) >>= _) _ _ s
  refine wpAny_bind (tupleItemsOf_ ht ?_)
  refine wpAny_bind (wpAny_typeOf hTs ?_)
  rw [if_pos (by decide)]
  refine wpAny_bind (wN hs pl pu ?_)
  have hno : ¬ ((((sIx items.size 0 lo : Nat) : Int) == 0 && (1 : Int) == 1 && (sIx items.size items.size hi - sIx items.size 0 lo) == items.size) = true) := by
    intro q
    rw [Bool.and_eq_true, Bool.and_eq_true] at q
    have q1 : ((sIx items.size 0 lo : Nat) : Int) = 0 := eq_of_beq q.1.1
    have q2 : sIx items.size items.size hi - sIx items.size 0 lo = items.size := eq_of_beq q.2
    exact hw ⟨by omega, by omega⟩
  show wpAny _ _ (if (((sIx items.size 0 lo : Nat) : Int) == 0 && (1 : Int) == 1 && (sIx items.size items.size hi - sIx items.size 0 lo) == items.size) = true then _ else _) _ _ s
  rw [if_neg hno, zgx]
  first
    | exact wpAny_bind (m := Builtin.Tuple.tupleExact _) (wpAny_newObj_type (wpAny_pure ⟨_, rfl, wpAny_pure h⟩) htake)
    | exact wpAny_bind (m := Builtin.Tuple.tupleExact _) (wpAny_newObj_type (wpAny_bind (wpAny_pure (wpAny_pure ⟨_, rfl, wpAny_pure h⟩))) htake)
    | exact wpAny_bind (wpAny_bind (m := Builtin.Tuple.tupleExact _) (wpAny_newObj_type (wpAny_pure (wpAny_pure ⟨_, rfl, wpAny_pure h⟩)) htake))
    | exact wpAny_bind (wpAny_bind (m := Builtin.Tuple.tupleExact _) (wpAny_newObj_type (wpAny_pure ⟨_, rfl, wpAny_pure h⟩) htake))
end
end HT
namespace L2
open PySem PySem.Spec PyProof.Rows
noncomputable abbrev TO := St → Hp → (Option Int → Hp → Prop) → Prop
noncomputable def PO (X : Cx) (e : Option Expr) (t : TO) : Prop :=
  ∀ (pins : List (Addr × Obj)) (s : Shared) (σ : St) (H : Hp) (Q : Option Int → Hp → Prop), Inv X pins σ H s → t σ H Q →
    wpAny (model X.prog X.w) X.A (evalPart e X.env) (fun u s' => ∃ o H', Inv X pins σ H' s' ∧ IsPart u o ∧ Q o H') X.xe s
noncomputable def ziC : TO := fun _ H Q => Q none H
noncomputable def zlN (t : TE) : TO := fun σ H Q => t σ H fun x H1 => ∃ i, x = .int i ∧ Q (some i) H1
theorem ww {ns : List Int} : ∀ {us : List Value}, yl (ns.map V.int) us → IntsAre us ns := by
  induction ns with
  | nil => intro us r; rw [List.map_nil] at r; cases r; exact .nil
  | cons n ns ih =>
    intro us r
    rw [List.map_cons] at r
    cases r with
    | cons r1 r2 =>
      obtain ⟨t, e⟩ := r1
      subst e
      exact .cons n t (ih r2)
section
variable {X : Cx} {e : Expr} {te : TE} {lo hi : Option Expr} {tl th : TO} {pos p2 : Pos}
theorem ziN : PO X none ziC := by
  intro pins s σ H Q I h
  rw [evalPart_none]
  exact wpAny_pure ⟨none, H, I, .none, h⟩
theorem ziK (h : PE X e te) : PO X (some e) (zlN te) := by
  intro pins s σ H Q I hw
  rw [evalPart_some]
  refine thn (h pins s σ H _ I hw) fun u s1 hh9 => ?_
  obtain ⟨x, H1, I1, r1, q1⟩ := hh9
  obtain ⟨i, rfl, q⟩ := q1
  obtain ⟨t, rfl⟩ := r1
  exact ⟨some i, H1, I1, .int i t, q⟩
noncomputable def SlR (X : Cx) (r : V → Option Int → Option Int → Hp → VK → Prop) : Prop :=
  ∀ (pins : List (Addr × Obj)) (s : Shared) (σ : St) (H : Hp) (x : V) (v vl vu : Value) (lo hi : Option Int) (sl : Addr) (Q : VK), Inv X pins σ H s → yH x v → s.heap.IsSliceOf sl vl vu .none → IsPart vl lo → IsPart vu hi → r x lo hi H Q →
    ∃ T id, typeLookup (.type T) "__getitem__" = pure (some (.builtin id)) ∧ s.TypeIs v T ∧ wpAny (model X.prog X.w) X.A (getItem v (.ref sl)) (EP X pins σ Q) X.xe s
theorem SlR.or {r r' : V → Option Int → Option Int → Hp → VK → Prop} (h : SlR X r) (h' : SlR X r') : SlR X (fun x lo hi H Q => r x lo hi H Q ∨ r' x lo hi H Q) := by
  intro pins s σ H x v vl vu lo hi sl Q I rx hs pl pu q
  rcases q with q | q
  · exact h pins s σ H x v vl vu lo hi sl Q I rx hs pl pu q
  · exact h' pins s σ H x v vl vu lo hi sl Q I rx hs pl pu q
noncomputable def tSl (r : V → Option Int → Option Int → Hp → VK → Prop) (te : TE) (tl th : TO) : TE := fun σ H Q => te σ H fun x H1 => tl σ H1 fun l H2 => th σ H2 fun u H3 => r x l u H3 Q
theorem zhc {r : V → Option Int → Option Int → Hp → VK → Prop} (hr : SlR X r) (he : PE X e te) (hl : PO X lo tl) (hu : PO X hi th) : PE X (.Subscript e (.Slice lo hi none p2) pos) (tSl r te tl th) := by
  intro pins s σ H Q I h
  refine Subscript_ (thn (he pins s σ H _ I h) fun v s1 hh9 => ?_)
  obtain ⟨x, H1, I1, r1, q1⟩ := hh9
  refine wpAny_Slice (thn (hl pins s1 σ H1 _ I1 q1) fun vl s2 ⟨l, H2, I2, pl, q2⟩ => thn (hu pins s2 σ H2 _ I2 q2) fun vu s3 hh9 => ?_)
  obtain ⟨u, H3, I3, pu, q3⟩ := hh9
  rw [evalPart_none]
  refine wpAny_pure ?_
  have I4 : Inv X pins σ H3 { s3 with heap := s3.heap.push { cls := .type "slice", data := .fields #[vl, vu, .none] } } := I3.kept (t' := s3.toks) fun b ob q => Heap.get?_push_of_some _ q
  obtain ⟨T, id, hT, ht, hg⟩ := hr pins { s3 with heap := s3.heap.push { cls := .type "slice", data := .fields #[vl, vu, .none] } } σ H3 x v vl vu l u s3.heap.objs.size Q I4 r1 (Heap.IsSliceOf.new ..) pl pu q3
  show wpAny (model X.prog X.w) X.A (subscriptTail e (.Slice lo hi none p2) v (.ref s3.heap.objs.size)) (EP X pins σ Q) X.xe { s3 with heap := s3.heap.push { cls := .type "slice", data := .fields #[vl, vu, .none] } }
  exact tail_any (ops := [.ref s3.heap.objs.size, v]) ht hT hg (by with_unfolding_all rfl)
noncomputable def zb2 (xs : List V) (lo hi : Option Int) : List V := (xs.drop (HT.sIx xs.length 0 lo)).take (HT.sIx xs.length xs.length hi - HT.sIx xs.length 0 lo)
theorem ZD (xs : List V) (lo hi : Option Int) : (zb2 xs lo hi).length ≤ xs.length := by
  unfold zb2
  rw [List.length_take, List.length_drop]
  omega
noncomputable def rSlT (K : PySem.W.Frag) : V → Option Int → Option Int → Hp → VK → Prop := fun x lo hi H Q => ∃ a xs, x = .ref a ∧ SqT K H a xs ∧
  ¬ (HT.sIx xs.length 0 lo = 0 ∧ HT.sIx xs.length xs.length hi = xs.length) ∧ ∀ p, H p = none → Q (.ref p) (upd H p (.tup (zb2 xs lo hi)))
theorem zkM : SlR X (rSlT X.K) := by
  intro pins s σ H x v vl vu lo hi sl Q I rx hs pl pu h
  obtain ⟨a, xs, rfl, hx, hw, q⟩ := h
  cases rx
  obtain ⟨its, r, ht, hz⟩ := I.tuple hx
  have hlen : its.toArray.size = xs.length := by rw [List.size_toArray]; exact r.length.symm
  refine ⟨"tuple", _, PyProof.Rows.slot_tuple_getitem.lookup, ht.typeIs, ?_⟩
  refine HT.getItem_tuple_cut ht hs pl pu (by rw [hlen]; exact hw) ?_ (by rw [hlen]; exact hz)
  rw [hlen]
  refine ⟨.ref s.heap.objs.size, _, I.laid (t' := s.toks) (o := .tup (zb2 xs lo hi)) (fun b ob q => Heap.get?_push_of_some _ q) (Nat.le_refl _) ?_, rfl, q _ (I.hok.fresh (Nat.le_refl _))⟩
  exact ⟨Nat.le_trans (ZD xs lo hi) hz, _, (r.drop (HT.sIx xs.length 0 lo)).take (HT.sIx xs.length xs.length hi - HT.sIx xs.length 0 lo), IsTup.new _ _⟩
noncomputable def zlE (K : PySem.W.Frag) : R2 := fun x y H Q => ∃ a b xs ys, x = .ref a ∧ y = .ref b ∧ SqT K H a xs ∧ SqT K H b ys ∧ xs ≠ [] ∧ xs.length + ys.length ≤ sizeLine ∧
  (ys = [] → Q (.ref a) H) ∧ (ys ≠ [] → ∀ p, H p = none → Q (.ref p) (upd H p (.tup (xs ++ ys))))
theorem yl.nil_iff {xs : List V} {us : List Value} (r : yl xs us) : us = [] ↔ xs = [] := by
  cases r with
  | nil => simp
  | cons _ _ => simp
theorem zic : OpR X (binaryOp .Add) (zlE X.K) := by
  intro pins s σ H x y v u Q I rx ry h
  obtain ⟨a, b, xs, ys, rfl, rfl, ha, hb, hx, hz, q1, q2⟩ := h
  cases rx
  cases ry
  obtain ⟨its, r1, p1, _⟩ := I.tuple ha
  obtain ⟨its2, r2, p2, _⟩ := I.tuple hb
  refine HT.cat_tup p1 p2 (fun z => hx (r1.nil_iff.mp z)) (fun z => ⟨.ref a, H, I, rfl, q1 (r2.nil_iff.mp z)⟩) (fun z => ?_) (by rw [← r1.length, ← r2.length]; exact hz)
  refine ⟨.ref s.heap.objs.size, _, I.laid (t' := s.toks) (o := .tup (xs ++ ys)) (fun b ob q => Heap.get?_push_of_some _ q) (Nat.le_refl _) ?_, rfl, q2 (fun w => z (r2.nil_iff.mpr w)) _ (I.hok.fresh (Nat.le_refl _))⟩
  exact ⟨by rw [List.length_append]; exact hz, _, r1.append r2, IsTup.new _ _⟩
end
end L2
namespace L2
open PySem PySem.Spec PyProof.Rows
noncomputable def ixN (n : Nat) (i : Int) : Option Nat := if 0 ≤ i then (if i < n then some i.toNat else none) else if -(n : Int) ≤ i then some (i + n).toNat else none
noncomputable def atI {α : Type} (xs : List α) (i : Int) : Option α := (ixN xs.length i).bind fun j => xs[j]?
theorem zeB {n : Nat} {i : Int} {j : Nat} (h : ixN n i = some j) : seqIndex? i n = some j ∧ j < n ∧ -(n : Int) ≤ i ∧ i < n := by
  unfold ixN at h
  by_cases h0 : 0 ≤ i
  · rw [if_pos h0] at h
    by_cases h1 : i < n
    · rw [if_pos h1] at h
      have e : i.toNat = j := Option.some.inj h
      exact ⟨by rw [seqIndex_of h0 h1, e], by omega, by omega, h1⟩
    · rw [if_neg h1] at h; cases h
  · rw [if_neg h0] at h
    by_cases h1 : -(n : Int) ≤ i
    · rw [if_pos h1] at h
      have e : (i + n).toNat = j := Option.some.inj h
      exact ⟨by rw [seqIndex_neg (by omega) h1, e], by omega, h1, by omega⟩
    · rw [if_neg h1] at h; cases h
theorem zaX {α : Type} {xs : List α} {i : Int} {v : α} (h : atI xs i = some v) : ∃ j, seqIndex? i xs.length = some j ∧ xs[j]? = some v ∧ j < xs.length ∧ -(xs.length : Int) ≤ i ∧ i < xs.length := by
  unfold atI at h
  cases e : ixN xs.length i with
  | none => rw [e] at h; cases h
  | some j =>
    rw [e] at h
    obtain ⟨h1, h2, h3, h4⟩ := zeB e
    exact ⟨j, h1, h, h2, h3, h4⟩
theorem ziw {α : Type} {xs : List α} {j : Nat} {v : α} (h : xs[j]? = some v) : atI xs (j : Int) = some v := by
  have hj : j < xs.length := (List.getElem?_eq_some_iff.mp h).1
  have e : ixN xs.length (j : Int) = some j := by
    unfold ixN
    rw [if_pos (by omega), if_pos (by omega)]; simp
  unfold atI; rw [e]; exact h
noncomputable def zev (b : Expr) : Prop := ∀ o i, subscripted b false o i = operate [o, i] (getItem o i)
noncomputable def IxR (X : Cx) (r : R2) : Prop :=
  ∀ (value slice : Expr) (pins : List (Addr × Obj)) (s : Shared) (σ : St) (H : Hp) (x y : V) (v u : Value) (Q : VK), Inv X pins σ H s → yH x v → yH y u → r x y H Q →
    subscripted slice false v u = operate [v, u] (getItem v u) → wpAny (model X.prog X.w) X.A (subscriptTail value slice v u) (EP X pins σ Q) X.xe s
noncomputable def MtR (X : Cx) (id : String) (r : V → List V → Hp → VK → Prop) : Prop :=
  ∀ (pins : List (Addr × Obj)) (s : Shared) (σ : St) (H : Hp) (x : V) (xs : List V) (v : Value) (us : List Value) (Q : VK), Inv X pins σ H s → yH x v → yl xs us → r x xs H Q →
    wpAny (model X.prog X.w) X.A (call (.builtin id) (v :: us)) (EP X pins σ Q) X.xe s
section
variable {X : Cx} {a b : Expr} {ta tb : TE} {pos : Pos}
theorem IxR.or {r r' : R2} (h : IxR X r) (h' : IxR X r') : IxR X (fun x y H Q => r x y H Q ∨ r' x y H Q) := by
  intro value slice pins s σ H x y v u Q I rx ry q hs
  rcases q with q | q
  · exact h value slice pins s σ H x y v u Q I rx ry q hs
  · exact h' value slice pins s σ H x y v u Q I rx ry q hs
theorem zlD {r : R2} (hr : IxR X r) (ha : PE X a ta) (hb : PE X b tb) (hs : zev b) : PE X (.Subscript a b pos) (tOp r ta tb) := by
  intro pins s σ H Q I h
  exact Subscript_ (zlT ha hb I h fun v u s2 x y H2 I2 rx ry q => hr a b pins s2 σ H2 x y v u Q I2 rx ry q (hs _ _))
noncomputable def rIxL (K : PySem.W.Frag) : R2 := fun x y H Q => ∃ p xs i v, x = .ref p ∧ y = .int i ∧ SqL K H p xs ∧ atI xs i = some v ∧ Q v H
noncomputable def rIxT (K : PySem.W.Frag) : R2 := fun x y H Q => ∃ p xs i v, x = .ref p ∧ y = .int i ∧ SqT K H p xs ∧ atI xs i = some v ∧ Q v H
noncomputable def rIxS : R2 := fun x y H Q => ∃ z i c, x = .str z ∧ y = .int i ∧ z.length ≤ sizeLine ∧ atI z.cps.toList i = some c ∧ Q (.str ⟨#[c]⟩) H
theorem zh5 : IxR X (rIxL X.K) := by
  intro value slice pins s σ H x y v u Q I rx ry h hs
  obtain ⟨p, xs, i, z, rfl, rfl, hq, he, q⟩ := h
  cases rx
  obtain ⟨t, rfl⟩ := ry
  obtain ⟨its, r, pl, hz⟩ := I.list hq
  obtain ⟨j, h1, h2, h3, h4, h5⟩ := zaX he
  obtain ⟨w, ew, rw'⟩ := r.get h2
  have hl := r.length
  have hn := XJ
  have fin : EP X pins σ Q w s := ⟨z, H, I, rw', q⟩
  by_cases h0 : 0 ≤ i
  · have hj : i.toNat = j := by
      rw [seqIndex_of h0 h5] at h1
      exact Option.some.inj h1
    exact item_listR pl.isList h0 (by omega) (by rw [hj]; simpa using ew) fin hs
  · have hj : (i + (its.toArray.size : Int)).toNat = j := by
      rw [seqIndex_neg (by omega) h4] at h1
      rw [List.size_toArray, ← hl]
      exact Option.some.inj h1
    exact subscriptTail_builtinR (x := w) pl.isList.typeIs slot_list_getitem.lookup
      (wpAny_getItem_list_neg (Q := fun r s' => r = w ∧ EP X pins σ Q r s') pl.isList (by omega) (by rw [List.size_toArray] <;> omega) (by omega) (by rw [hj]; simpa using ew) ⟨rfl, fin⟩) hs
theorem zkL : IxR X (rIxT X.K) := by
  intro value slice pins s σ H x y v u Q I rx ry h hs
  obtain ⟨p, xs, i, z, rfl, rfl, hq, he, q⟩ := h
  cases rx
  obtain ⟨t, rfl⟩ := ry
  obtain ⟨its, r, pl, hz⟩ := I.tuple hq
  obtain ⟨j, h1, h2, h3, h4, h5⟩ := zaX he
  obtain ⟨w, ew, rw'⟩ := r.get h2
  have hl := r.length
  have hn := XJ
  have fin : EP X pins σ Q w s := ⟨z, H, I, rw', q⟩
  exact subscriptTail_builtinR (x := w) pl.typeIs slot_tuple_getitem.lookup
    (getItem_tuple (j := j) (Q := fun r s' => r = w ∧ EP X pins σ Q r s') pl (by omega) (by omega) (by rw [List.size_toArray, ← hl]; exact h1) (by simpa using ew) ⟨rfl, fin⟩) hs
theorem zjE : IxR X rIxS := by
  intro value slice pins s σ H x y v u Q I rx ry h hs
  obtain ⟨z, i, c, rfl, rfl, hz, he, q⟩ := h
  obtain ⟨t, rfl⟩ := rx
  obtain ⟨t', rfl⟩ := ry
  obtain ⟨j, h1, h2, h3, h4, h5⟩ := zaX he
  have hl : z.cps.toList.length = z.length := by simp [Str.length]
  rw [hl] at h1 h4 h5
  have hn := XJ
  exact tail_any (typeIs_str s z t) slot_str_getitem.lookup (getItem_str (c := c) (by
    have e1 : decide (i < -(2 ^ 63 : Int)) = false := decide_eq_false (by omega)
    have e2 : decide (i ≥ 2 ^ 63) = false := decide_eq_false (by omega)
    rw [e1, e2, Bool.or_false]) (by rw [h1]; simpa using h2) ⟨.str ⟨#[c]⟩, H, I.tok _, ⟨_, rfl⟩, q⟩) hs
noncomputable def rIx (K : PySem.W.Frag) : R2 := fun x y H Q => rIxL K x y H Q ∨ rIxT K x y H Q ∨ rIxS x y H Q
theorem zkR : IxR X (rIx X.K) := zh5.or (zkL.or zjE)
theorem zd6 (its : List Value) (n j : Nat) (u : Value) : Obj.mapSeq (·.setIfInBounds j u) { cls := .type "list", data := .seq its.toArray n } = { cls := .type "list", data := .seq (its.set j u).toArray n } := by
  simp [Obj.mapSeq]
theorem Inv.lst {pins : List (Addr × Obj)} {σ : St} {H : Hp} {s : Shared} {p : Addr} {xs : List V} (I : Inv X pins σ H s) (h : H p = some (.lst xs)) :
    ∃ (its : List Value) (n : Nat), yl xs its ∧ s.heap.get? p = some { cls := .type "list", data := .seq its.toArray n } ∧ xs.length ≤ sizeLine := by
  obtain ⟨z, its, n, r, e⟩ := I.hok p _ h
  exact ⟨its, n, r, e, z⟩
theorem Inv.lstUpd {pins : List (Addr × Obj)} {σ : St} {H : Hp} {s : Shared} {p : Addr} {xs ys : List V} {its its' : List Value} {n n' : Nat} {f : Obj → Obj} (I : Inv X pins σ H s) (h : H p = some (.lst xs))
    (ho : s.heap.get? p = some { cls := .type "list", data := .seq its.toArray n }) (hf : f { cls := .type "list", data := .seq its.toArray n } = { cls := .type "list", data := .seq its'.toArray n' }) (r : yl ys its') (hz : ys.length ≤ sizeLine) (t : Nat) :
    Inv X pins σ (upd H p (.lst ys)) { s with heap := s.heap.update p f, toks := t } := by
  have e : (s.heap.update p f).get? p = some { cls := .type "list", data := .seq its'.toArray n' } := by
    rw [Heap.get?_update_self f ho (by rw [hf] <;> rfl), hf]
  refine I.write (x := p) (e := p) (by rw [h]; trivial) (.inl rfl) (fun b u hb q => (Heap.get?_update_other _ _ (Ne.symm hb)).trans q) ⟨_, e⟩ ?_
  exact ⟨hz, its', n', r, e⟩
noncomputable def zmk : V → V → V → Hp → (Hp → Prop) → Prop := fun o i v H Q => ∃ p xs k j, o = .ref p ∧ i = .int k ∧ H p = some (.lst xs) ∧ ixN xs.length k = some j ∧ Q (upd H p (.lst (xs.set j v)))
theorem zgk : PSet X zmk := by
  intro pins s σ H o i v ov iv u Q I ro ri rv h
  obtain ⟨p, xs, k, j, rfl, rfl, hp, hj, q⟩ := h
  cases ro
  obtain ⟨t, rfl⟩ := ri
  obtain ⟨its, n, r, ho, hz⟩ := I.lst hp
  obtain ⟨h1, h2, h3, h4⟩ := zeB hj
  have hl := r.length
  have hn := XJ
  have I' : Inv X pins σ (upd H p (.lst (xs.set j v))) { s with heap := s.heap.update p (Obj.mapSeq (·.setIfInBounds j u)) } :=
    I.lstUpd hp ho (zd6 its n j u) (r.set rv j) (by rw [List.length_set]; exact hz) s.toks
  by_cases h0 : 0 ≤ k
  · have hk : k.toNat = j := by
      rw [seqIndex_of h0 h4] at h1
      exact Option.some.inj h1
    exact PySem.W.ki_setAt ho h0 (by omega) (by rw [List.size_toArray, ← hl]; exact h4) (by rw [hk]; exact ⟨_, I', q⟩)
  · have hk : (k + (its.toArray.size : Int)).toNat = j := by
      rw [seqIndex_neg (by omega) h3] at h1
      rw [List.size_toArray, ← hl]
      exact Option.some.inj h1
    exact PySem.W.ki_setBack ho (by omega) (by rw [List.size_toArray, ← hl]; exact h3) (by omega) (by rw [hk]; exact ⟨_, I', q⟩)
theorem VG (lo hi : Option Int) (n : Nat) : (sliceBounds lo hi none n).1 = ((HT.sIx n 0 lo : Nat) : Int) ∧ (sliceBounds lo hi none n).2.1 = ((HT.sIx n n hi : Nat) : Int) ∧ (sliceBounds lo hi none n).2.2 = 1 := by
  refine ⟨?_, ?_, rfl⟩
  · cases lo with
    | none => simp [sliceBounds, HT.sIx]
    | some i =>
      simp only [sliceBounds, HT.sIx, Option.getD_none, show (1 : Int) > 0 by decide, if_true]
      by_cases h : i < 0
      · simp only [h, if_true] <;> omega
      · simp only [h, if_false] <;> omega
  · cases hi with
    | none => simp [sliceBounds, HT.sIx]
    | some i =>
      simp only [sliceBounds, HT.sIx, Option.getD_none, show (1 : Int) > 0 by decide, if_true]
      by_cases h : i < 0
      · simp only [h, if_true] <;> omega
      · simp only [h, if_false] <;> omega
theorem X0 (its : List Value) (lo hi : Option Int) : slicePick its.toArray lo hi none = ((its.drop (HT.sIx its.length 0 lo)).take (HT.sIx its.length its.length hi - HT.sIx its.length 0 lo)).toArray := by
  obtain ⟨h1, h2, h3⟩ := VG lo hi its.toArray.size
  unfold slicePick
  rw [h1, h2, h3]
  simp only [sliceRange_one, pick_run, List.size_toArray] <;> rfl
noncomputable def rSlL (K : PySem.W.Frag) : V → Option Int → Option Int → Hp → VK → Prop := fun x lo hi H Q => ∃ a xs, x = .ref a ∧ SqL K H a xs ∧ ∀ p, H p = none → Q (.ref p) (upd H p (.lst (zb2 xs lo hi)))
theorem zhR : SlR X (rSlL X.K) := by
  intro pins s σ H x v vl vu lo hi sl Q I rx hs pl pu h
  obtain ⟨a, xs, rfl, hx, q⟩ := h
  cases rx
  obtain ⟨its, r, ht, hz⟩ := I.list hx
  have hlen := r.length
  refine ⟨"list", _, slot_list_getitem.lookup, ht.isList.typeIs, ?_⟩
  refine wpAny_getItem_list_slice ht.isList hs pl pu .none (by simp) ?_ (by rw [List.size_toArray] <;> omega)
  rw [X0, ← hlen]
  refine ⟨.ref s.heap.objs.size, _, I.laid (t' := s.toks) (o := .lst (zb2 xs lo hi)) (fun b ob q => Heap.get?_push_of_some _ q) (Nat.le_refl _) ?_, rfl, q _ (I.hok.fresh (Nat.le_refl _))⟩
  exact ⟨Nat.le_trans (ZD xs lo hi) hz, _, 0, (r.drop (HT.sIx xs.length 0 lo)).take (HT.sIx xs.length xs.length hi - HT.sIx xs.length 0 lo), Heap.get?_push_size _ rfl⟩
noncomputable def zh1 : V → Bool
  | .non => true
  | .bl _ => true
  | .int _ => true
  | .str _ => true
  | _ => false
noncomputable def eqV : V → V → Bool
  | .non, .non => true
  | .bl a, .bl b => a == b
  | .bl a, .int b => (if a then 1 else 0) == b
  | .int a, .bl b => a == (if b then 1 else 0)
  | .int a, .int b => a == b
  | .str a, .str b => a == b
  | _, _ => false
theorem zhC {A : Around} {s : Shared} {y x : V} {u v : Value} (ry : yH y u) (rx : yH x v) (fy : zh1 y = true) (fx : zh1 x = true) : SeqAt.EqAt A s u v (eqV y x) := by
  cases y with
  | non =>
    cases ry
    cases x with
    | non => cases rx; exact SeqAt.EqAt.same _
    | bl b => cases rx; exact SeqAt.EqAt.none_bool b
    | int b => obtain ⟨t, rfl⟩ := rx; exact SeqAt.EqAt.none_int b t
    | str b => obtain ⟨t, rfl⟩ := rx; exact SeqAt.EqAt.none_str b t
    | _ => exact absurd (show false = true from fx) Bool.false_ne_true
  | bl a =>
    cases ry
    cases x with
    | non => cases rx; exact SeqAt.EqAt.bool_none a
    | bl b => cases rx; exact SeqAt.EqAt.bool_bool a b
    | int b => obtain ⟨t, rfl⟩ := rx; exact SeqAt.EqAt.bool_int a b t
    | str b => obtain ⟨t, rfl⟩ := rx; exact SeqAt.EqAt.bool_str a b t
    | _ => exact absurd (show false = true from fx) Bool.false_ne_true
  | int a =>
    obtain ⟨t', rfl⟩ := ry
    cases x with
    | non => cases rx; exact SeqAt.EqAt.int_none a t'
    | bl b => cases rx; exact SeqAt.EqAt.int_bool a t' b
    | int b => obtain ⟨t, rfl⟩ := rx; exact SeqAt.EqAt.int_int a t' b t
    | str b => obtain ⟨t, rfl⟩ := rx; exact SeqAt.EqAt.int_str a t' b t
    | _ => exact absurd (show false = true from fx) Bool.false_ne_true
  | str a =>
    obtain ⟨t', rfl⟩ := ry
    cases x with
    | non => cases rx; exact SeqAt.EqAt.str_none a t'
    | bl b => cases rx; exact SeqAt.EqAt.str_bool a t' b
    | int b => obtain ⟨t, rfl⟩ := rx; exact SeqAt.EqAt.str_int a t' b t
    | str b => obtain ⟨t, rfl⟩ := rx; exact SeqAt.EqAt.str_str a t' b t
    | _ => exact absurd (show false = true from fx) Bool.false_ne_true
  | _ => exact absurd (show false = true from fy) Bool.false_ne_true
theorem zQ : vh X (.builtin "len") (fun xs H Q => ∃ p ys, xs = [.ref p] ∧ (SqL X.K H p ys ∨ SqT X.K H p ys) ∧ Q (.int ys.length) H) := by
  intro pins s σ H xs us Q I r h
  obtain ⟨p, ys, rfl, hq, q⟩ := h
  obtain ⟨u, rfl, rx⟩ := ZU r
  cases rx
  have hn := XJ
  rcases hq with hq | hq
  · obtain ⟨its, r', pl, hz⟩ := I.list hq
    have hlen := r'.length
    exact Calls.call_len_list pl.isList (by simp only [List.size_toArray] <;> omega) ⟨.int ys.length, H, I.tok _, ⟨s.toks + 1, by rw [List.size_toArray, hlen]⟩, q⟩
  · obtain ⟨its, r', pl, hz⟩ := I.tuple hq
    have hlen := r'.length
    exact len_tuple pl (by simp only [List.size_toArray] <;> omega) ⟨.int ys.length, H, I.tok _, ⟨s.toks + 1, by rw [List.size_toArray, hlen]⟩, q⟩
theorem VN : vh X (.type "list") (fun xs H Q => ∃ p ys, xs = [.ref p] ∧ (SqL X.K H p ys ∨ SqT X.K H p ys) ∧ ∀ l, H l = none → Q (.ref l) (upd H l (.lst ys))) := by
  intro pins s σ H xs us Q I r h
  obtain ⟨p, ys, rfl, hq, q⟩ := h
  obtain ⟨u, rfl, rx⟩ := ZU r
  cases rx
  have fin : ∀ (its : List Value), yl ys its → ys.length ≤ sizeLine → ∀ (h' : Heap) (c' : Nat), (∀ b o', s.heap.get? b = some o' → h'.get? b = some o') →
      h'.get? s.heap.objs.size = some { cls := .type "list", dict := none, data := .seq its.toArray c', slots := #[] } → EP X pins σ Q (.ref s.heap.objs.size) { s with heap := h' } := fun its r' hz h' c' kp e =>
    ⟨.ref s.heap.objs.size, _, I.laid (t' := s.toks) kp (Nat.le_refl _) (show yB X.prog X.w _ h' _ (.lst ys) from ⟨hz, its, c', r', e⟩), rfl, q _ (I.hok.fresh (Nat.le_refl _))⟩
  rcases hq with hq | hq
  · obtain ⟨its, r', pl, hz⟩ := I.list hq
    have hlen := r'.length
    obtain ⟨o, ho, hc, n, hd⟩ := pl.isList
    exact call_list_seq p (.inl rfl) ho hc hd (fun h' c' kp e => fin its r' hz h' c' kp e) (by simp only [List.size_toArray] <;> omega)
  · obtain ⟨its, r', pl, hz⟩ := I.tuple hq
    have hlen := r'.length
    obtain ⟨o, ho, hc, n, hd⟩ := pl
    exact call_list_seq p (.inr rfl) ho hc hd (fun h' c' kp e => fin its r' hz h' c' kp e) (by simp only [List.size_toArray] <;> omega)
theorem yf : vh X (.type "tuple") (fun xs H Q => ∃ p ys, xs = [.ref p] ∧ ((SqL X.K H p ys ∧ ∀ l, H l = none → Q (.ref l) (upd H l (.tup ys))) ∨ (SqT X.K H p ys ∧ Q (.ref p) H))) := by
  intro pins s σ H xs us Q I r h
  obtain ⟨p, ys, rfl, h⟩ := h
  obtain ⟨u, rfl, rx⟩ := ZU r
  cases rx
  rcases h with ⟨hq, q⟩ | ⟨hq, q⟩
  · obtain ⟨its, r', pl, hz⟩ := I.list hq
    have hlen := r'.length
    refine call_tuple_list pl.isList (fun h' kp => ?_) (by simp only [List.size_toArray] <;> omega)
    have I1 : Inv X pins σ H { s with heap := h' } := I.kept (t' := s.toks) kp
    have I2 : Inv X pins σ (upd H h'.objs.size (.tup ys)) { s with heap := h'.push { cls := .type "tuple", data := .seq its.toArray } } :=
      I1.laid (t' := s.toks) (fun b o e => Heap.get?_push_of_some _ e) (Nat.le_refl _) (show yB X.prog X.w _ _ _ (.tup ys) from ⟨hz, its, r', IsTup.new _ _⟩)
    exact ⟨.ref h'.objs.size, _, I2, rfl, q _ (I1.hok.fresh (Nat.le_refl _))⟩
  · obtain ⟨its, r', pl, hz⟩ := I.tuple hq
    exact call_tuple_same pl ⟨.ref p, H, I, rfl, q⟩
noncomputable def tyV (K : PySem.W.Frag) (T : String) (x : V) (H : Hp) : Prop := match x with
  | .str _ => T = "str"
  | .int _ => T = "int"
  | .ref p => (T = "list" ∧ ∃ xs, SqL K H p xs) ∨ (T = "tuple" ∧ ∃ o, K.lookup p = some o ∧ o.cls = .type "tuple" ∧ o.dict = none) ∨
      (T = "dict" ∧ ((∃ kvs, H p = some (.dK kvs)) ∨ ∃ kvs, H p = some (.dT kvs))) ∨ (T = "set" ∧ ∃ S n, H p = some (.set S n))
  | _ => False
theorem zli {pins : List (Addr × Obj)} {σ : St} {H : Hp} {s : Shared} {T : String} {x : V} {v : Value} (I : Inv X pins σ H s) (r : yH x v) (ty : tyV X.K T x H) :
    s.TypeIs v T ∧ ∀ a, v = .ref a → ∃ ob, s.heap.get? a = some ob ∧ ob.dict = none := by
  cases x with
  | str z =>
    obtain ⟨t, rfl⟩ := r
    cases (show T = "str" from ty)
    exact ⟨typeIs_str s z t, fun _ e => nomatch e⟩
  | int i =>
    obtain ⟨t, rfl⟩ := r
    cases (show T = "int" from ty)
    exact ⟨typeIs_int s i t, fun _ e => nomatch e⟩
  | ref p =>
    cases r
    rcases ty with ⟨rfl, xs, hq⟩ | ⟨rfl, o, hk, hc, hd⟩ | ⟨rfl, hk⟩ | ⟨rfl, S, n, hk⟩
    · obtain ⟨its, _, pl, _⟩ := I.list hq
      refine ⟨pl.isList.typeIs, fun a e => ?_⟩
      cases e
      obtain ⟨o, n, e, c, hd, _⟩ := pl
      exact ⟨o, e, hd⟩
    · refine ⟨⟨o, I.kIn p o hk, hc⟩, fun a e => ?_⟩
      cases e
      exact ⟨o, I.kIn _ o hk, hd⟩
    · have z : ∃ o, s.heap.get? p = some o ∧ o.ExactDict := by
        rcases hk with ⟨kvs, hk⟩ | ⟨kvs, hk⟩
        · obtain ⟨_, _, _, _, o, _, _, e, ex, _⟩ := I.hok p _ hk
          exact ⟨o, e, ex⟩
        · obtain ⟨_, _, _, _, o, _, _, e, ex, _⟩ := I.hok p _ hk
          exact ⟨o, e, ex⟩
      obtain ⟨o, e, ex⟩ := z
      refine ⟨⟨o, e, ex.1⟩, fun a e2 => ?_⟩
      cases e2
      exact ⟨o, e, ex.2.1⟩
    · obtain ⟨o, _, _, _, e, ex, _⟩ := I.hok p _ hk
      refine ⟨⟨o, e, ex.1⟩, fun a e2 => ?_⟩
      cases e2
      exact ⟨o, e, ex.2.1⟩
  | _ => exact False.elim ty
noncomputable def tBM (K : PySem.W.Frag) (T : String) (r : V → List V → Hp → VK → Prop) (to : TE) (t : TA) : TE := fun σ H Q => to σ H fun x H1 => tyV K T x H1 ∧ t σ H1 fun xs H2 => r x xs H2 Q
variable {o e : Expr} {es : List Expr} {to : TE} {t : TA} {name : Str} {apos cpos : Pos} {T id : String} {r : V → List V → Hp → VK → Prop}
theorem Wg (pa : PlainAttrs T) (slot : Slot T name id) (hty : typeOf (.builtin id) = pure (.type "method_descriptor")) (hm : MtR X id r) (ho : PE X o to) (ha : PA X (e :: es) t)
    (hbase : attributeBase o name X.env (eval o X.env) = eval o X.env := by rfl)
    (hfew : ((backTo cpos (starEach (e :: es) X.env)).all (fun x => !x.1) && (backToKw cpos (keywordEach [] X.env)).all (fun x => x.1.isSome)
      && decide ((e :: es).length + ([] : List Keyword).length + (if ([] : List Keyword).isEmpty then 0 else 1) < 30)) = true := by rfl)
    (hline : (apos.endLine == cpos.line) = true := by rfl) (hs : starEach (e :: es) X.env = (false, eval e X.env) :: starEach es X.env := by rfl) (hplain : (backTo cpos (starEach es X.env)).any (·.1) = false := by rfl) :
    PE X (.Call (.Attribute o name apos) (e :: es) [] cpos) (tBM X.K T r to t) := by
  intro pins s σ H Q I h
  refine wpAny_Call_method_late hbase hfew hline rfl (thn (ho pins s σ H _ I h) fun v s1 hh9 => ?_)
  obtain ⟨x, H1, I1, r1, ty, q1⟩ := hh9
  obtain ⟨h1, h2⟩ := zli I1 r1 ty
  refine ⟨T, id, pa, slot, hty, h1, h2, ?_⟩
  have hA := ha cpos pins s1 σ H1 _ I1 q1
  rw [hs] at hA ⊢
  refine Calls.callWith_builtin (by show (false || (backTo cpos (starEach es X.env)).any (·.1)) = false; rw [hplain] <;> rfl) (Calls.evalArgs_plain ?_)
  exact thn hA fun us s2 ⟨vs, H2, I2, r2, q2⟩ => hm pins s2 σ H2 x vs v us Q I2 r1 r2 q2
/- xs.append(e), list.index on a module's tuple .. are MtR facts of 06m -/
end
end L2
namespace L2
open PySem PySem.Spec PyProof.Rows
noncomputable def MtM (X : Cx) (id : String) (r : V → List V → Hp → VK → Prop) : Prop :=
  ∀ (pins : List (Addr × Obj)) (s : Shared) (σ : St) (H : Hp) (x : V) (xs : List V) (v : Value) (us : List Value) (Q : VK), Inv X pins σ H s → yH x v → yl xs us → r x xs H Q →
    wpAny (model X.prog X.w) X.A (call (.builtin id) (v :: us)) (EP X pins σ Q) X.xe s
theorem yl.one : ∀ {x : V} {us : List Value}, yl [x] us → ∃ u, us = [u] ∧ yH x u := by
  intro x us h
  cases h with | cons r t => cases t; exact ⟨_, rfl, r⟩
theorem yl.rep {xs : List V} {us : List Value} (h : yl xs us) : ∀ k : Nat, yl (List.replicate k xs).flatten (List.replicate k us).flatten
  | 0 => .nil
  | k + 1 => by
    rw [List.replicate_succ, List.replicate_succ, List.flatten_cons, List.flatten_cons]
    exact yl.append h (yl.rep h k)
theorem VI (its : List Value) : ∀ (k : Nat) (acc : List Value),
    List.foldl (fun x1 x2 => x1 ++ x2) acc.toArray (List.replicate k its.toArray) = (acc ++ (List.replicate k its).flatten).toArray
  | 0, acc => by simp
  | k + 1, acc => by
    have e : acc.toArray ++ its.toArray = (acc ++ its).toArray := by simp
    have e2 : (acc ++ its) ++ (List.replicate k its).flatten = acc ++ (List.replicate (k + 1) its).flatten := by
      rw [List.replicate_succ, List.flatten_cons, List.append_assoc]
    rw [← e2, ← VI its k (acc ++ its), ← e, List.replicate_succ, List.foldl_cons]
section
variable {X : Cx} {pins : List (Addr × Obj)} {σ : St} {H : Hp} {s : Shared} {l b : Addr} {xs ys zs : List V}
theorem Inv.lset {its its' : List Value} {n : Nat} {f : Array Value → Array Value} {t' : Nat} (I : Inv X pins σ H s) (hH : H l = some (.lst xs))
    (e : s.heap.get? l = some { cls := .type "list", data := .seq its.toArray n }) (hf : f its.toArray = its'.toArray) (hv : yl ys its') (hz : ys.length ≤ sizeLine) :
    Inv X pins σ (upd H l (.lst ys)) { s with heap := s.heap.update l (Obj.mapSeq f), toks := t' } := by
  have q := PySem.IsL.update e f
  rw [hf] at q
  refine I.write (x := l) (e := l) (by rw [hH]; exact trivial) (.inl rfl) (fun b' u hb hu => (Heap.get?_update_other s.heap (Obj.mapSeq f) (Ne.symm hb)).trans hu) ⟨_, q⟩ ?_
  exact ⟨hz, its', _, hv, q⟩
theorem Inv.lnew {its : List Value} {t' : Nat} (I : Inv X pins σ H s) (hv : yl ys its) (hz : ys.length ≤ sizeLine) :
    Inv X pins σ (upd H s.heap.objs.size (.lst ys)) { s with heap := s.heap.push { cls := .type "list", data := .seq its.toArray }, toks := t' } :=
  I.laid (fun _ _ q => Heap.get?_push_of_some _ q) (Nat.le_refl _) ⟨hz, its, 0, hv, Heap.get?_push_size _ rfl⟩
theorem Inv.fresh (I : Inv X pins σ H s) : H s.heap.objs.size = none := I.hok.fresh (Nat.le_refl _)
theorem Inv.lstM (I : Inv X pins σ H s) (hH : H l = some (.lst xs)) : xs.length ≤ sizeLine ∧ ∃ (its : List Value) (n : Nat), yl xs its ∧ xs.length = its.length ∧ s.heap.get? l = some { cls := .type "list", data := .seq its.toArray n } := by
  obtain ⟨z, its, n, r, e⟩ := I.hok l _ hH
  exact ⟨z, its, n, r, r.length, e⟩
theorem zdO {n : Nat} (h : n ≤ sizeLine) : Builtin.List.listTooLong n = false := by
  unfold Builtin.List.listTooLong
  exact decide_eq_false (by omega)
end
section
variable {X : Cx}
noncomputable def ze1 : V → List V → Hp → VK → Prop := fun x vs H Q => ∃ l xs y, x = .ref l ∧ vs = [y] ∧ H l = some (.lst xs) ∧ xs.length < sizeLine ∧ Q .non (upd H l (.lst (xs ++ [y])))
theorem xm : MtM X "list.append" ze1 := by
  intro pins s σ H x vs v us Q I rx rv h
  obtain ⟨l, xs, y, rfl, rfl, hH, hz, q⟩ := h
  cases rx
  obtain ⟨u, rfl, ru⟩ := rv.one
  obtain ⟨z, its, n, r, hl, e⟩ := I.lstM hH
  refine call_meets F.slot_list_append ⟨_, e, rfl⟩ F.entry_list_append (F.args_list_append_2 _ _) (PySem.list_append l its.toArray n u (by rw [List.size_toArray]; omega)) ⟨e, ?_⟩
  refine ⟨.non, _, I.lset (its' := its ++ [u]) hH e (by simp) (r.append (.cons ru .nil)) ?_, rfl, q⟩
  rw [List.length_append, List.length_singleton]
  omega
noncomputable def zfr : V → List V → Hp → VK → Prop := fun x vs H Q => ∃ l b xs zs, x = .ref l ∧ vs = [.ref b] ∧ H l = some (.lst xs) ∧ H b = some (.lst zs) ∧ xs.length + zs.length ≤ sizeLine ∧ Q .non (upd H l (.lst (xs ++ zs)))
theorem zeq : MtM X "list.extend" zfr := by
  intro pins s σ H x vs v us Q I rx rv h
  obtain ⟨l, b, xs, zs, rfl, rfl, hH, hB, hz, q⟩ := h
  cases rx
  obtain ⟨u, rfl, ru⟩ := rv.one
  cases ru
  obtain ⟨z, its, n, r, hl, e⟩ := I.lstM hH
  obtain ⟨z2, its2, n2, r2, hl2, e2⟩ := I.lstM hB
  have hsz : its.toArray.size + its2.toArray.size ≤ sizeLine := by rw [List.size_toArray, List.size_toArray]; omega
  have hlong : ¬ (!its.toArray.isEmpty && Builtin.List.listTooLong (its.toArray.size + its2.toArray.size)) = true := by
    rw [zdO hsz, Bool.and_false]
    exact Bool.false_ne_true
  refine call_meets F.slot_list_extend ⟨_, e, rfl⟩ F.entry_list_extend (F.args_list_extend_2 _ _)
    (AutoSeq1.list_extend_list_list_0 l its.toArray n b its2.toArray n2 hlong (by rw [List.size_toArray]; omega) (by omega)) ⟨e, e2, ?_⟩
  refine ⟨.non, _, I.lset (its' := its ++ its2) hH e (by simp) (r.append r2) ?_, rfl, q⟩
  rw [List.length_append]
  omega
noncomputable def rCat : R2 := fun x y H Q => ∃ l b xs zs, x = .ref l ∧ y = .ref b ∧ H l = some (.lst xs) ∧ H b = some (.lst zs) ∧ xs.length + zs.length ≤ sizeLine ∧ ∀ p, H p = none → Q (.ref p) (upd H p (.lst (xs ++ zs)))
theorem zj2 : OpR X (binaryOp .Add) rCat := by
  intro pins s σ H x y v u Q I rx ry h
  obtain ⟨l, b, xs, zs, rfl, rfl, hH, hB, hz, q⟩ := h
  cases rx
  cases ry
  obtain ⟨z, its, n, r, hl, e⟩ := I.lstM hH
  obtain ⟨z2, its2, n2, r2, hl2, e2⟩ := I.lstM hB
  refine PySem.P.add_list e e2 ?_ (by rw [List.size_toArray, List.size_toArray]; omega)
  have ea : its.toArray ++ its2.toArray = (its ++ its2).toArray := by simp
  rw [ea]
  exact ⟨.ref _, _, I.lnew (t' := s.toks) (r.append r2) (by rw [List.length_append]; omega), rfl, q _ I.fresh⟩
noncomputable def rRep : R2 := fun x y H Q => ∃ l k xs, x = .ref l ∧ y = .int k ∧ H l = some (.lst xs) ∧ -(2 ^ 63) ≤ k ∧ k < 2 ^ 63 ∧ xs.length * k.toNat ≤ sizeLine ∧
  ∀ p, H p = none → Q (.ref p) (upd H p (.lst (List.replicate k.toNat xs).flatten))
theorem zix {α : Type} (xs : List α) (k : Nat) : (List.replicate k xs).flatten.length = k * xs.length := by
  induction k with
  | zero => simp
  | succ k ih => rw [List.replicate_succ, List.flatten_cons, List.length_append, ih, Nat.succ_mul, Nat.add_comm]
theorem zhM : OpR X (binaryOp .Mult) rRep := by
  intro pins s σ H x y v u Q I rx ry h
  obtain ⟨l, k, xs, rfl, rfl, hH, h1, h2, hz, q⟩ := h
  cases rx
  obtain ⟨t, rfl⟩ := ry
  obtain ⟨z, its, n, r, hl, e⟩ := I.lstM hH
  have hlen : its.toArray.size * k.toNat ≤ sizeLine := by rw [List.size_toArray, ← hl]; exact hz
  have hcap : ¬ its.toArray.size * k.toNat > (2 ^ 63 - 1) / 8 := by
    have : (sizeLine : Nat) ≤ (2 ^ 63 - 1) / 8 := by decide
    omega
  have hfit : ¬ (!Builtin.List.listFitsIndex k) = true := by
    rw [fitsIndex_both h1 h2]
    exact Bool.false_ne_true
  have hlong : ¬ Builtin.List.listTooLong (its.toArray.size * k.toNat) = true := by
    rw [zdO hlen]
    exact Bool.false_ne_true
  have hnew : List.foldl (fun x1 x2 => x1 ++ x2) #[] (List.replicate (if its.toArray.isEmpty = true then 0 else k.toNat) its.toArray) = (List.replicate k.toNat its).flatten.toArray := by
    have f0 : ∀ m : Nat, List.foldl (fun x1 x2 => x1 ++ x2) #[] (List.replicate m its.toArray) = (List.replicate m its).flatten.toArray := fun m => by
      have := VI its m []
      rw [List.nil_append] at this
      exact this
    rw [f0]
    cases its with
    | nil => simp
    | cons a r' => rw [if_neg (by simp)]
  refine wpAny_binaryOp_repeat_ref (T := "list") (U := "int") (by decide) ⟨_, e, rfl⟩ (fun s' => typeIs_int s' k t) noFill_list_mul F.fills_int_mul F.slot_int_rmul repeat_list F.slot_int_index.lookup
    (call_meets F.slot_int_rmul (typeIs_int s k t) F.entry_int_rmul (F.args_int_rmul_2 _ _) (int___rmul___int_list k t l its.toArray n)
      ⟨e, rfl, ⟨_, e, rfl⟩, call_meets F.slot_list_mul ⟨_, e, rfl⟩ F.entry_list_mul (F.args_list_mul_2 _ _) (AutoListH.list___mul___list_int_3 l its.toArray n k t hfit hcap hlong) ⟨e, ?_⟩⟩)
  rw [hnew]
  exact ⟨.ref _, _, I.lnew (t' := s.toks) (r.rep k.toNat) (by rw [zix, Nat.mul_comm]; exact hz), rfl, q _ I.fresh⟩
end
section
variable {prog : Program} {w : World} {A : Around} {E : Value → Shared → Prop} {s : Shared}
end
section
variable {X : Cx}
end
end L2
namespace Att
open PySem PySem.W PySem.Calls PyProof.Rows
theorem Z7 {P : Params} {h : Heap} : ∀ (ns : List Int) (vs : List Value), WellAll P h vs (ns.map WData.int) → IntsAre vs ns := by
  intro ns
  induction ns with
  | nil =>
    intro vs w
    rw [List.map_nil] at w
    cases w
    exact .nil
  | cons n ns ih =>
    intro vs w
    rw [List.map_cons] at w
    cases w with
    | cons a b =>
      cases a
      exact .cons _ _ (ih _ b)
theorem zfF {l : OpenLaw} {n : Nat} (hn : l.most = some n) {P : Params} {h : Heap} {args : List WData} {vals : List Value}
    (hpre : l.row.toRowW.claim.pre args = true) (hwl : WellAll P h vals args) :
    ∃ a vs ns, vals = [Value.ref a] ∧ args = [WData.list (ns.map WData.int)] ∧ h.get? a = some { cls := .type "list", data := .seq vs.toArray } ∧ IntsAre vs ns ∧ ns.length ≤ n := by
  have hsh : WShape.hasAll [] args [.list .int] = true := (pre_splitW hpre).1
  have hc : l.pre.holds [] { args := args } = true := (pre_splitW hpre).2
  obtain ⟨d, r, rfl, h1, h2⟩ := hasAllW_cons hsh
  obtain rfl := hasAllW_nil h2
  obtain ⟨xs, rfl, h3⟩ := hasW_list h1
  obtain ⟨ns, rfl⟩ := items_int h3
  have hlen : ns.length ≤ n := by
    unfold OpenLaw.pre at hc
    have h4 : (WTm.not (.lt (.lit (.int (n : Int))) (.len (.arg 0)))).holds [] { args := [.list (ns.map .int)] } = true := by
      have h4 := (holds_andW hc).1
      rw [hn] at h4
      exact h4
    have h5 := condW_of h4 (w_not (w_lt w_lit (w_len_list (w_arg rfl))))
    rw [List.length_map] at h5
    refine Nat.le_of_not_lt fun q => ?_
    have q' : (n : Int) < ((ns.length : Nat) : Int) := by omega
    first
      | (rw [decide_eq_true q'] at h5; exact absurd h5 (by decide))
      | (simp at h5; omega)
  cases hwl with
  | cons w1 w2 =>
    cases w2
    cases w1 with
    | list ho hall => exact ⟨_, _, ns, rfl, rfl, ho, Z7 ns _ hall, hlen⟩
theorem zfG (l : OpenLaw) (args : List WData) : l.row.toRowW.claim.post args (.bool true) args = true :=
  postW_of (r := l.row.toRowW) (X := (true == true))
    (show WShape.has [] (.bool true) .bool = true by first | rfl | decide | simp [WShape.has, WShape.arms, WShape.armsAll])
    (show (WTm.eq .res (.lit (.bool true))).value [] { args := args, res := some (.bool true), after := args } = some (.bool (true == true)) from w_eq_bool (w_res rfl) w_lit) rfl
theorem attach_call {l : OpenLaw} {n : Nat} {q : Program} {loose : List Str} {XP : (Str → Option Value) → Heap → Prop} {YP : World → Heap → Prop} {d : DefRec}
    (hn : l.most = some n) (hdf : d.params.defaults = [])
    (call : ∀ (w : World) (s₀ s₁ : Shared) (mg mb : Str → Option Value) (fa : Addr) (o : Obj) (pm cd doc : Value) (a : Addr) (vs : List Value) (ns : List Int),
      Ground q loose [] XP w s₀ mg mb s₁.heap → YP w s₁.heap →
      s₁.heap.get? fa = some o → o.data = .func (docDef d.name d.params d.body d.scope pm cd doc) → s₁.heap.CodeRec cd d.name → mg d.name = some (.ref fa) →
      s₁.heap.get? a = some { cls := .type "list", data := .seq vs.toArray } → IntsAre vs ns → ns.length ≤ n → s₁.gens = #[] →
      codeAny (model l.prog w) callerA (.call (.ref fa) ⟨[.ref a], []⟩) (fun r s' => r = .ok (.ret (.bool true)) ∧ OldK s₁.heap s'.heap ∧ s'.os = s₁.os ∧ AllBare s'.gens) s₁) :
    WalkO q loose XP YP l.row.toRowW d [] (fun f vs => PySem.call f vs) := by
  intro w s₀ s₁ mg mb G Y fa o pm cd doc dV kV ho hd hcd hD hmg hg args vals as hpre hlay hrd hwl hlo
  obtain rfl : dV = .none := Dflts.none hD hdf
  obtain rfl : kV = .none := Dflts.noKw hD
  obtain ⟨a, vs, ns, rfl, rfl, hobj, hints, hlen⟩ := zfF hn hpre hwl
  refine enter_call (codeAny_mono (call w s₀ s₁ mg mb fa o pm cd doc a vs ns G Y ho (fd_plain hd) hcd hmg hobj hints hlen hg) fun r s' hq => ?_)
  obtain ⟨rfl, h2, h3, h4⟩ := hq
  exact ⟨.inl ⟨.bool true, .bool true, [], rfl, fun _ => rfl, .bool true, zfG l _, fun _ => ⟨List.Pairwise.nil, fun _ hm => (nomatch hm)⟩⟩, h2, h3, h4⟩
section
variable {prog : Program} {w : World} {A : Around} {E : Value → Shared → Prop} {s : Shared} {K : Frag}
noncomputable def ledger (h : Heap) (L d : Addr) : List (Addr × Obj) := (List.range h.objs.size).filterMap fun a => if a = L ∨ a = d then none else (h.get? a).map fun o => (a, o)
end
end Att
namespace L2
open PySem PySem.Spec PyProof.Rows
theorem zaA : ∀ {vs : List Value} {ns : List Int}, IntsAre vs ns → yl (ns.map V.int) vs := by
  intro vs ns h
  induction h with
  | nil => exact .nil
  | cons n t h ih => exact .cons ⟨t, rfl⟩ ih
noncomputable def zlK (H : Hp) : Prop := ∀ b, H b = none ∨ ∃ o xs, H b = some (.frz o (.lst xs))
theorem zgf {P : Program} {w : World} {K : PySem.W.Frag} {mg mb : Str → Option Value} {CX : CXT} {k : Nat} {fa a : Addr} {fd : FuncData} {x : Str} {sp : Sp} {s₁ : Shared} {vs : List Value} {ns : List Int}
    (KX : K.In s₁.heap) (hns : s₁.heap.Ns mainGlobals mg) (hb : s₁.heap.Ns builtinsNs mb) (hbb : ∀ x : Str, x ≠ "__name__" → mb x = bootBuiltins x) (hlim : s₁.heap.NoLimit) (hg : s₁.gens = #[])
    (ha : s₁.heap.get? a = some { cls := .type "list", data := .seq vs.toArray }) (hi : IntsAre vs ns) (hl : ns.length ≤ sizeLine) (hr : Ya k callerA)
    (F : ∀ base : Heap, K.In base → base.Ns mainGlobals mg → yY P w K mg base CX k fa fd [x] sp) (hbind : ∀ (s : Shared) (u : Value), BindsTo s fd ⟨[u], []⟩ [(x, u)])
    (hsp : ∀ H : Hp, zlK H → SqL K H a (ns.map V.int) → sp [.ref a] H (fun v _ => v = .bl true) fun _ _ _ => False)
    (hCX : ∀ H e s', CX [] H s₁ (fun _ _ _ => False) e s' → False) :
    codeAny (model P w) callerA (.call (.ref fa) ⟨[.ref a], []⟩) (fun r s' => r = .ok (.ret (.bool true)) ∧ OldK s₁.heap s'.heap ∧ s'.os = s₁.os ∧ AllBare s'.gens) s₁ := by
  have rv := zaA hi
  have lenV := hi.length
  -- from an abstract heap in which nothing but the script may be tracked
  have core : ∀ H : Hp, zlK H → SqL K H a (ns.map V.int) → HOk P w H s₁.heap → (∀ b, H b ≠ none → b = a) → (H a ≠ none → K.lookup a = none) →
      codeAny (model P w) callerA (.call (.ref fa) ⟨[.ref a], []⟩) (fun r s' => r = .ok (.ret (.bool true)) ∧ OldK s₁.heap s'.heap ∧ s'.os = s₁.os ∧ AllBare s'.gens) s₁ := by
    intro H hO hS hok hA hK
    have base_of : ∀ {b : Addr} {o : Obj}, s₁.heap.get? b = some o → H b = none → (zhl s₁.heap H).get? b = some o := fun e n => zf9 e n
    have noA : ∀ {b : Addr} {o : Obj} {es : Array DictEntry} {ep : Nat}, s₁.heap.get? b = some o → o.data = .dict es ep → H b = none := fun {b o es ep} e d => by
      cases q : H b with
      | none => rfl
      | some u =>
        have e' : b = a := hA b (by rw [q]; simp)
        subst e'
        rw [ha] at e; cases e
        have d' : Data.seq vs.toArray _ = Data.dict es ep := d
        cases d'
    have nsK : ∀ {b : Addr} {m : Str → Option Value}, s₁.heap.Ns b m → (zhl s₁.heap H).Ns b m := fun {b m} ⟨o, es, ep, e, d, r⟩ => ⟨o, es, ep, base_of e (noA e d), d, r⟩
    have hKb : K.In (zhl s₁.heap H) := fun b o e => base_of (KX b o e) (by
      cases q : H b with
      | none => rfl
      | some u =>
        have e' : b = a := hA b (by rw [q]; simp)
        subst e'
        rw [hK (by rw [q]; simp)] at e; cases e)
    have hM : Mod K mg (zhl s₁.heap H) := ⟨hKb, nsK hns, ⟨mb, nsK hb, hbb⟩, let ⟨mc, h1, h2⟩ := hlim; ⟨mc, nsK h1, h2⟩⟩
    have e0 : zly P w K mg (zhl s₁.heap H) callerA [] s₁ H := ⟨rfl, hM, fun b o e => zhQ e, Nat.le_of_eq (ze4 _ _), trivial, fun b hb => absurd (show b ∈ ([] : List Addr) from hb) (by simp), hok, .of_eq hg⟩
    refine codeAny_mono ((F _ hKb (nsK hns)).run callerA [] s₁ H ⟨[.ref a], []⟩ [.ref a] [.ref a] _ _ hr e0 (hbind s₁ (.ref a)) (.cons rfl .nil) (hsp H hO hS)) fun r s' h => ?_
    cases r with
    | error e => exact (hCX H e s' h).elim
    | ok fl =>
      cases fl with
      | next => exact False.elim h
      | brk => exact False.elim h
      | cont => exact False.elim h
      | ret u =>
        obtain ⟨v, H', os, bare, un, hok', r', q⟩ := h
        have q' : v = .bl true := q
        subst q'
        obtain rfl : u = Value.bool true := r'
        refine ⟨rfl, OldK.of_keep fun b o e => ?_, os, bare⟩
        cases q : H b with
        | none => exact un.keep b o e q (by intro z; exact absurd (show b ∈ ([] : List Addr) from z) (by simp)) (by simp)
        | some u =>
          rcases hO b with z | ⟨ob, xs, z⟩
          · rw [q] at z; cases z
          · have z2 := un.frzs b ob _ z
            obtain ⟨e1, _⟩ := hok b _ z
            obtain ⟨e2, _⟩ := hok' b _ z2
            rw [e] at e1; cases e1
            exact e2
  cases hk : K.lookup a with
  | some o =>
    -- the script is one of the module's own objects
    have e := KX a o hk
    rw [ha] at e
    cases e
    refine core (fun _ => none) (fun _ => .inl rfl) (.inr ⟨_, vs.toArray, _, hk, rfl, rfl, rfl, by rw [List.size_toArray, lenV]; exact hl, by simpa using rv⟩) (fun b u z => by have z' : (none : Option HO) = some u := z; cases z') (fun b z => absurd rfl z) fun z => absurd rfl z
  | none =>
    refine core (fun b => if b = a then some (.frz { cls := .type "list", data := .seq vs.toArray } (.lst (ns.map V.int))) else none) (fun b => ?_) (.inl (.inr ⟨{ cls := .type "list", data := .seq vs.toArray }, if_pos rfl⟩)) (fun b u z => ?_) (fun b z => ?_) fun _ => hk
    · by_cases hb : b = a
      · exact .inr ⟨_, _, if_pos hb⟩
      · exact .inl (if_neg hb)
    · by_cases hb : b = a
      · have z' := (if_pos hb).symm.trans z
        cases z'
        subst hb
        exact ⟨ha, by rw [List.length_map]; exact hl, vs, _, rv, ha⟩
      · have z' := (if_neg hb).symm.trans z
        cases z'
    · by_cases hb : b = a
      · exact hb
      · exact absurd (if_neg hb) z
end L2
namespace L2
open PySem PySem.Spec PyProof.Rows
theorem walk_of {l : PySem.W.OpenLaw} {n k : Nat} {q : Program} {loose : List Str} {XP : (Str → Option Value) → Heap → Prop} {YP : World → Heap → Prop} {d : DefRec} {K : Params → PySem.W.Frag} {CX : World → CXT} {sp : World → Sp} {x : Str}
    (hn : l.most = some n) (hn2 : n ≤ sizeLine) (hdf : d.params.defaults = []) (hr : Ya k callerA)
    (hY : ∀ (w : World) (h : Heap), YP w h → (K w.params).In h)
    (F : ∀ (w : World) (mg : Str → Option Value) (fa : Addr) (h : Heap), (K w.params).In h → h.Ns mainGlobals mg → mg d.name = some (.ref fa) →
      ∃ fd : FuncData, (∀ (s : Shared) (u : Value), BindsTo s fd ⟨[u], []⟩ [(x, u)]) ∧
        ∀ base : Heap, (K w.params).In base → base.Ns mainGlobals mg → yY l.prog w (K w.params) mg base (CX w) k fa fd [x] (sp w))
    (hsp : ∀ (w : World) (H : Hp) (a : Addr) (ns : List Int), ns.length ≤ n → zlK H → SqL (K w.params) H a (ns.map V.int) → sp w [.ref a] H (fun v _ => v = .bl true) fun _ _ _ => False)
    (hCX : ∀ (w : World) (H : Hp) (s : Shared) (e : Value) (s' : Shared), CX w [] H s (fun _ _ _ => False) e s' → False) :
    PySem.W.WalkO q loose XP YP l.row.toRowW d [] (fun f vs => PySem.call f vs) := by
  refine Att.attach_call hn hdf fun w s₀ s₁ mg mb fa o pm cd doc a vs ns G Y ho hd hcd hmg hobj hints hlen hg => ?_
  have KX := hY w _ Y
  obtain ⟨fd, hb, hF⟩ := F w mg fa _ KX G.T.g hmg
  exact zgf KX G.T.g G.T.b G.T.builtins G.T.nolimit hg hobj hints (Nat.le_trans hlen hn2) hr hF hb (fun H hO hS => hsp w H a ns hlen hO hS) fun H e s' => hCX w H s₁ e s'
end L2
namespace L2
open PySem PySem.Spec PyProof.Rows
noncomputable def zx (s : Stmt) : Arguments := match s with
  | .FunctionDef _ a _ _ _ _ _ _ _ _ => a
  | _ => { posonlyargs := [], args := [], vararg := none, kwonlyargs := [], kw_defaults := [], kwarg := none, defaults := [] }
noncomputable def zv (s : Stmt) : List Stmt := match s with
  | .FunctionDef _ _ b _ _ _ _ _ _ _ => b
  | _ => []
noncomputable def ze (s : Stmt) : Scope := match s with
  | .FunctionDef _ _ _ _ _ _ sc _ _ _ => sc
  | _ => { kind := .function, names := [], isGenerator := false, isCoroutine := false }
noncomputable abbrev CX0 : CXT := fun _ _ _ _ _ _ => False
noncomputable abbrev E0 : XK := fun _ _ _ => False
theorem zlC {X : Cx} : zfg CX0 X E0 := fun _ _ _ _ _ _ _ h => h.elim
set_option genInjectivity false in
set_option genSizeOf false in
set_option genCtorIdx false in
structure Fun (K : PySem.W.Frag) (x qual : Str) (st : Stmt) (f : Addr) (fd : FuncData) : Prop where
  ex : ∃ (oc : Value) (od : Option Addr) (kV doc pm : Value) (an : Option Addr) (cdv ct : Value) (osl : Array (Option Value)),
    fd = PySem.W.fnOf x qual (zx st) (zv st) (ze st) .none kV doc pm an cdv ct ∧ K.lookup f = some ⟨oc, od, .func fd, osl⟩ ∧ PySem.W.codeIn K cdv qual = true
  kp : PySem.W.keepIn K (.ref f) = true
section
variable {P : Program} {w : World} {K : PySem.W.Frag} {mg : Str → Option Value} {base : Heap}
theorem Fun.ok {x qual : Str} {st : Stmt} {f : Addr} {fd : FuncData} {N ps : List Str} {k : Nat} {sp : Sp} (F : Fun K x qual st f fd) (S : zw N ps (ze st)) (len : ∀ vs H Q E, sp vs H Q E → vs.length = ps.length)
    (hbody : ∀ (cdv : Value) (A : Around) (outer : List Env) (s : Shared) (H : Hp) (vs : List V) (Q : VK) (E : XK), Ya k (A.deeper (envOfC qual (ze st) s.heap.objs.size f cdv)) → sp vs H Q E →
      ∃ t, PSs (zjj CX0 P w K mg base N qual (ze st) f cdv A outer s H E).nox (zv st) t ∧ t { nx := fun _ H' => Q .non H', rt := Q } (start N vs) H) : yY P w K mg base CX0 (k + 1) f fd ps sp := by
  obtain ⟨oc, od, kV, doc, pm, an, cdv, ct, osl, rfl, lk, hcd⟩ := F.ex
  refine zlB lk hcd S len fun A outer s H vs Q E hr hsp => ?_
  obtain ⟨t, h, q⟩ := hbody cdv A outer s H vs Q E hr hsp
  exact ⟨t, h.nox, q⟩
theorem Fun.binds {x qual : Str} {st : Stmt} {f : Addr} {fd : FuncData} {ps : List Str} (F : Fun K x qual st f fd)
    (h : ∀ (kV doc pm : Value) (an : Option Addr) (cdv ct : Value) (us : List Value), us.length = ps.length → bindArgs (PySem.W.fnOf x qual (zx st) (zv st) (ze st) .none kV doc pm an cdv ct) ⟨us, []⟩ = pure (ps.zip us)) : zbf K fd ps [] := by
  obtain ⟨oc, od, kV, doc, pm, an, cdv, ct, osl, rfl, lk, hcd⟩ := F.ex
  exact .all (h kV doc pm an cdv ct)
theorem zE {x qual : Str} {st : Stmt} {f : Addr} {oc : Value} {od an : Option Addr} {osl : Array (Option Value)} {kV doc pm cdv ct : Value} (l : K.lookup f = some ⟨oc, od, .func (PySem.W.fnOf x qual (zx st) (zv st) (ze st) .none kV doc pm an cdv ct), osl⟩)
    (c : PySem.W.codeIn K cdv qual = true) (k : PySem.W.keepIn K (.ref f) = true) : Fun K x qual st f (PySem.W.fnOf x qual (zx st) (zv st) (ze st) .none kV doc pm an cdv ct) := ⟨⟨oc, od, kV, doc, pm, an, cdv, ct, osl, rfl, l, c⟩, k⟩
end
theorem ziE {A : Around} {k : Nat} (hr : Ya k A) : A.units + 1 < cLine := Nat.lt_of_le_of_lt (Nat.add_le_add_left (by decide : 1 ≤ 64) _) hr.units
theorem Yz {n : Nat} (h : n ≤ 1000) : n < sizeLine := Nat.lt_of_le_of_lt h (by decide)
section
variable {X : Cx}
theorem pv (i : Nat) {x : Str} {pos : Pos} (hN : X.N[i]? = some x := by rfl) (hv : Vis X.env.scope x := by first | exact Or.inl rfl | exact Or.inr (Or.inl rfl) | exact Or.inr (Or.inr rfl)) (hd : (x == ("__debug__" : Str)) = false := by decide)
    (hcd : (x == ("__classdict__" : Str)) = false := by decide) : PE X (.Name x pos) (ziL i) := zj0 hN hv hd hcd
end
noncomputable def yG (H H' : Hp) : Prop := ∀ b o, H b = some o → H' b = some o
theorem yG.refl (H : Hp) : yG H H := fun _ _ h => h
theorem yG.trans {H H1 H2 : Hp} (a : yG H H1) (b : yG H1 H2) : yG H H2 := fun c o h => b c o (a c o h)
theorem yG.free {H H' : Hp} (e : yG H H') {l : Addr} (h : H' l = Option.none) : H l = Option.none := by
  cases q : H l with
  | none => rfl
  | some o =>
    rw [e l o q] at h
    cases h
theorem yG.seq {K : PySem.W.Frag} {H H' : Hp} {a : Addr} {xs : List V} (e : yG H H') (h : SqL K H a xs) : SqL K H' a xs := by
  rcases h with (h | ⟨o, h⟩) | h
  · exact .inl (.inl (e _ _ h))
  · exact .inl (.inr ⟨o, e _ _ h⟩)
  · exact .inr h
end L2
namespace L2
open PySem PySem.Spec PyProof.Rows
end L2
namespace L2
open PySem PySem.Spec PyProof.Rows
section
variable (P : Program) (w : World)
end
section
variable {P : Program} {w : World} {H H' : Hp} {h h' : Heap} {a : Addr} {o : HO}
end
section
variable {P : Program} {w : World} {H : Hp} {h h' : Heap} {x e : Addr} {o' : HO}
end
section
variable {fs fs' ex ex' : List Addr} {H H1 H2 : Hp} {h h1 h2 h' : Heap} {a x e : Addr} {o : HO}
end
end L2
namespace L2
open PySem PySem.Spec PyProof.Rows
section
variable {X : Cx} {pins : List (Addr × Obj)} {σ : List (Option V)} {H H' : Hp} {s : Shared} {h' : Heap}
end
end L2
namespace L2
open PySem PySem.Spec PyProof.Rows
section
variable {X : Cx}
variable {a b : Expr} {ta tb : TE} {pos : Pos}
variable {tA tB' : TT} {rest : List Expr}
end
end L2
namespace L2
open PySem PySem.Spec PyProof.Rows
section
variable {X : Cx} {pins : List (Addr × Obj)} {σ : St} {H : Hp} {s : Shared} {a : Addr} {xs ys : List V}
end
section
variable {X : Cx} {pins : List (Addr × Obj)} {σ : St} {H : Hp} {s : Shared} {E : Value → Shared → Prop}
end
section
variable {X : Cx} {st : Stmt} {rest : List Stmt} {t u : TS} {e : Expr} {te : TE} {pos : Pos}
end
section
variable {X : Cx} {pos : Pos}
end
section
variable {X : Cx} {pos : Pos}
end
end L2
namespace L2
open PySem PySem.Spec PyProof.Rows
section
variable {X : Cx} {tg : Expr}
end
end L2
namespace L2
open PySem PySem.Spec PyProof.Rows
section
variable {X : Cx} {a b c : Expr} {ta tb tc : TE} {pos : Pos}
end
section
variable {X : Cx} {a b c : Expr} {ta tb tc : TE} {pos : Pos}
end
end L2
namespace L2
open PySem PySem.Spec PyProof.Rows
section
variable {prog : Program} {w : World} {A : Around} {E : Value → Shared → Prop} {s : Shared} {K : PySem.W.Frag} {x dx C f : Addr} {mA : Str → Option Value} {name : Str} {v : Value}
end
section
variable {P : Program} {w : World} {H H' : Hp} {h h' : Heap} {a C dx : Addr} {fs fs' : List (Str × V)}
end
section
variable {X : Cx} {pins : List (Addr × Obj)} {σ : St} {H : Hp} {s : Shared} {a C dx : Addr} {fs : List (Str × V)} {f : Str} {v : V} {A : Around} {E : Value → Shared → Prop}
end
section
variable {X : Cx} {o e value : Expr} {f : Str} {pos pos' tpos : Pos} {ta tv : TE}
end
section
variable {X : Cx} {pins : List (Addr × Obj)} {σ : St} {H : Hp} {s : Shared} {A : Around} {E : Value → Shared → Prop} {Q : Value → Shared → Prop} {c : Value} {b : Bool}
end
end L2
namespace L2
open PySem PySem.Spec PyProof.Rows
section
variable {X : Cx} {e : Expr} {es : List Expr} {te : TE} {t : TA} {pos : Pos}
end
section
variable {X : Cx} {pins : List (Addr × Obj)} {σ : St} {H : Hp} {s s' : Shared}
end
section
variable {X : Cx} {CX : CXT} {k : Nat} {f C : Addr} {fd : FuncData} {ps : List Str} {sp : Sp} {dvs : List V} {ds : List Value} {E : XK} {x m : Str} {p pos apos : Pos} {e o : Expr} {es : List Expr} {ta : TE} {t : TA}
end
section
variable {X : Cx} {CX : CXT} {k : Nat} {f C : Addr} {fd : FuncData} {ps ks : List Str} {sp : Sp} {E : XK} {x m : Str} {p pos apos kpos : Pos} {e o : Expr} {es : List Expr} {kws : List Keyword} {te ta : TE} {t tk : TA} {nm : Option Str}
variable {g : List Value → List Value → List Value} {gV : List V → List V → List V}
end
end L2
namespace L2
open PySem PySem.Spec PyProof.Rows
section
variable {X : Cx} {x : Str} {p pos : Pos} {e : Expr} {es : List Expr} {t : TA} {id T : String} {r : List V → Hp → VK → Prop}
end
end L2
namespace L2
open PySem PySem.Spec PyProof.Rows
section
variable {κ : Type} [DecidableEq κ]
noncomputable def zdv (kvs : List (κ × V)) (k : κ) : Option V := (kvs.find? fun kv => decide (kv.1 = k)).map (·.2)
noncomputable def zbl (kvs : List (κ × V)) (k : κ) (v : V) : List (κ × V) :=
  if (kvs.any fun kv => decide (kv.1 = k)) = true then kvs.map (fun kv => if kv.1 = k then (kv.1, v) else kv) else kvs ++ [(k, v)]
theorem Zz {p : κ × V} {r : List (κ × V)} {k : κ} (e : p.1 = k) : zdv (p :: r) k = some p.2 := by simp [zdv, List.find?_cons, e]
theorem Zx {p : κ × V} {r : List (κ × V)} {k : κ} (e : ¬ p.1 = k) : zdv (p :: r) k = zdv r k := by simp [zdv, List.find?_cons, e]
theorem X4 (k : κ) : ∀ kvs : List (κ × V), (kvs.any fun kv => decide (kv.1 = k)) = (zdv kvs k).isSome
  | [] => rfl
  | p :: r => by
    rw [List.any_cons]
    by_cases e : p.1 = k
    · simp only [Zz e, decide_eq_true e, Bool.true_or, Option.isSome_some]
    · rw [Zx e, decide_eq_false e, Bool.false_or]; exact X4 k r
theorem ZJ (kvs : List (κ × V)) (k : κ) (v : V) : (zbl kvs k v).length ≤ kvs.length + 1 := by
  unfold zbl
  split
  · rw [List.length_map]; omega
  · rw [List.length_append, List.length_cons, List.length_nil]; omega
theorem zia.isSome_eq {o : Option V} {u : Option Value} (r : zia o u) : o.isSome = u.isSome := by
  cases o with
  | none => cases u with
    | none => rfl
    | some _ => exact (show False from r).elim
  | some _ => cases u with
    | none => exact (show False from r).elim
    | some _ => rfl
theorem KV.val {kvs : List (κ × V)} {vs : List (κ × Value)} (r : KV kvs vs) (k : κ) : zia (zdv kvs k) (valueAt vs k) := by
  unfold KV at r
  induction r with
  | nil => exact True.intro
  | @cons p q ps qs h t ih =>
    obtain ⟨h1, h2⟩ := h
    by_cases e : p.1 = k
    · have e' : q.1 = k := h1.symm.trans e
      have b : valueAt (q :: qs) k = some q.2 := by simp [valueAt, List.find?_cons, e']
      rw [Zz e, b]; exact h2
    · have e' : ¬ q.1 = k := fun z => e (h1.trans z)
      have b : valueAt (q :: qs) k = valueAt qs k := by simp [valueAt, List.find?_cons, e']
      rw [Zx e, b]; exact ih
theorem KV.any {kvs : List (κ × V)} {vs : List (κ × Value)} (r : KV kvs vs) (k : κ) : (kvs.any fun kv => decide (kv.1 = k)) = vs.any fun kv => decide (kv.1 = k) := by
  unfold KV at r
  induction r with
  | nil => rfl
  | cons h t ih => rw [List.any_cons, List.any_cons, ih, h.1]
theorem KV.repl {kvs : List (κ × V)} {vs : List (κ × Value)} (r : KV kvs vs) (k : κ) {y : V} {u : Value} (ry : yH y u) :
    KV (kvs.map fun kv => if kv.1 = k then (kv.1, y) else kv) (vs.map fun kv => if kv.1 = k then (kv.1, u) else kv) := by
  unfold KV at r ⊢
  induction r with
  | nil => exact .nil
  | @cons p q ps qs h t ih =>
    rw [List.map_cons, List.map_cons]
    refine .cons ?_ ih
    obtain ⟨h1, h2⟩ := h
    by_cases e : p.1 = k
    · rw [if_pos e, if_pos (h1.symm.trans e)]; exact ⟨h1, ry⟩
    · rw [if_neg e, if_neg (fun z => e (h1.trans z))]; exact ⟨h1, h2⟩
theorem KV.put {kvs : List (κ × V)} {vs : List (κ × Value)} (r : KV kvs vs) (k : κ) {y : V} {u : Value} (ry : yH y u) : KV (zbl kvs k y) (stored vs k u) := by
  unfold zbl stored
  rw [r.any k]
  by_cases e : (vs.any fun kv => decide (kv.1 = k)) = true
  · rw [if_pos e, if_pos e]; exact r.repl k ry
  · rw [if_neg e, if_neg e]; exact Paired.snoc r ⟨rfl, ry⟩
theorem KV.keys {kvs : List (κ × V)} {vs : List (κ × Value)} (r : KV kvs vs) : kvs.map (·.1) = vs.map (·.1) := by
  unfold KV at r
  induction r with
  | nil => rfl
  | cons h t ih => rw [List.map_cons, List.map_cons, ih, h.1]
theorem KV.length {kvs : List (κ × V)} {vs : List (κ × Value)} (r : KV kvs vs) : kvs.length = vs.length := Paired.length r
end
theorem ziz {P : Program} {w : World} {k : Key} {u : Value} (r : yH (kV k) u) : (yy P w).is k u = true := by
  cases k with
  | inl i => obtain ⟨t, e⟩ := (show ∃ t, u = Value.int i t from r); subst e; exact zcL P w i t
  | inr x => obtain ⟨t, e⟩ := (show ∃ t, u = Value.str x t from r); subst e; exact zaP P w x t
theorem zav {P : Program} {w : World} : ∀ {ks : List Key} {us : List Value}, yl (ks.map kV) us → ItemsAre (yy P w) ks us
  | [], _, r => by rw [List.map_nil] at r; cases r; exact .nil
  | k :: ks, _, r => by
    rw [List.map_cons] at r
    cases r with
    | cons h t => exact .cons (ziz h) (zav t)
noncomputable abbrev KT (H : Hp) : List (List Key × V) → List (List Key × Addr × Value) → Prop := Paired fun p q => p.1 = q.1 ∧ H q.2.1 = some (.tup (p.1.map kV)) ∧ yH p.2 q.2.2
theorem KT.val {H : Hp} {kvs : List (List Key × V)} {xs : List (List Key × Addr × Value)} (r : KT H kvs xs) (k : List Key) : zia (zdv kvs k) ((atKey xs k).map (·.2)) := by
  induction r with
  | nil => exact True.intro
  | @cons p q ps qs h t ih =>
    obtain ⟨h1, _, h2⟩ := h
    by_cases e : p.1 = k
    · have e' : q.1 = k := h1.symm.trans e
      have b : atKey (q :: qs) k = some q.2 := by simp [atKey, List.find?_cons, e']
      rw [Zz e, b]; exact h2
    · have e' : ¬ q.1 = k := fun z => e (h1.trans z)
      have b : atKey (q :: qs) k = atKey qs k := by simp [atKey, List.find?_cons, e']
      rw [Zx e, b]; exact ih
theorem KT.repl {H : Hp} {kvs : List (List Key × V)} {xs : List (List Key × Addr × Value)} (r : KT H kvs xs) (k : List Key) {y : V} {u : Value} (ry : yH y u) :
    KT H (kvs.map fun kv => if kv.1 = k then (kv.1, y) else kv) (xs.map (putAt k u)) := by
  induction r with
  | nil => exact .nil
  | @cons p q ps qs h t ih =>
    rw [List.map_cons, List.map_cons]
    refine .cons ?_ ih
    obtain ⟨h1, h2, h3⟩ := h
    unfold putAt
    by_cases e : p.1 = k
    · rw [if_pos e, if_pos (h1.symm.trans e)]; exact ⟨h1, h2, ry⟩
    · rw [if_neg e, if_neg (fun z => e (h1.trans z))]; exact ⟨h1, h2, h3⟩
theorem KT.put {H : Hp} {kvs : List (List Key × V)} {xs : List (List Key × Addr × Value)} (r : KT H kvs xs) (k : List Key) {b : Addr} {y : V} {u : Value} (hb : H b = some (.tup (k.map kV))) (ry : yH y u) :
    KT H (zbl kvs k y) (storedH xs k b u) := by
  have e : (kvs.any fun kv => decide (kv.1 = k)) = (atKey xs k).isSome := by
    rw [X4, (r.val k).isSome_eq, Option.isSome_map]
  unfold zbl storedH
  rw [e]
  by_cases q : (atKey xs k).isSome = true
  · rw [if_pos q, if_pos q]; exact r.repl k ry
  · rw [if_neg q, if_neg q]; exact Paired.snoc r ⟨rfl, hb, ry⟩
theorem KT.keeps {H H' : Hp} {kvs : List (List Key × V)} {xs : List (List Key × Addr × Value)} (r : KT H kvs xs) (ht : ∀ b ys, H b = some (.tup ys) → H' b = some (.tup ys)) : KT H' kvs xs :=
  Paired.mapP r fun _ _ z => ⟨z.1, ht _ _ z.2.1, z.2.2⟩
section
variable {P : Program} {w : World} {H : Hp} {h : Heap} {a : Addr}
theorem zkk {u : HO} (ok : HOk P w H h) (e : Rd H a u) : yB P w H h a u := e.ok ok
theorem zkE {kvs : List (Key × V)} (ok : HOk P w H h) (e : Rd H a (.dK kvs)) : kvs.length ≤ sizeLine ∧ (a == sysModules) = false ∧ ∃ vs, KV kvs vs ∧ h.DictOf (yy P w) a vs :=
  show yB P w H h a (.dK kvs) from zkk ok e
theorem zlS {kvs : List (Key × V)} (ok : HOk P w H h) (e : H a = some (.dK kvs)) : kvs.length ≤ sizeLine ∧ (a == sysModules) = false ∧ ∃ vs, KV kvs vs ∧ h.DictOf (yy P w) a vs := zkE ok (.inl e)
theorem zdr {ks : List Key} (ok : HOk P w H h) (e : H a = some (.tup (ks.map kV))) : (tupleKind (yy P w)).is h ks a := by
  obtain ⟨_, its, r, o, h1, h2, n, h3⟩ := (show yB P w H h a (.tup (ks.map kV)) from ok a _ e)
  exact ⟨o, its.toArray, n, h1, h2, h3, by simpa using zav r⟩
theorem zi4 {kvs : List (List Key × V)} (ok : HOk P w H h) (e : Rd H a (.dT kvs)) : kvs.length ≤ sizeLine ∧ (a == sysModules) = false ∧
    ∃ xs, KT H kvs xs ∧ h.DictOfH (tupleKind (yy P w)) a xs := by
  obtain ⟨z, y, xs, r, o, es, ep, h1, h2, h3, h4, h5⟩ := (show yB P w H h a (.dT kvs) from zkk ok e)
  refine ⟨z, y, xs, r, o, es, ep, h1, h2, h3, h4, fun x hx => ?_, h5⟩
  have all : ∀ {l : List (List Key × V)} {m : List (List Key × Addr × Value)}, KT H l m → ∀ x ∈ m, (tupleKind (yy P w)).is h x.1 x.2.1 := by
    intro l m q
    induction q with
    | nil => intro x hx; exact nomatch hx
    | @cons p q ps qs hq t ih =>
      intro x hx
      rcases List.mem_cons.mp hx with e | hx
      · subst e
        exact zdr ok (by rw [← hq.1]; exact hq.2.1)
      · exact ih x hx
  exact all r x hx
theorem zjX {kvs : List (List Key × V)} (ok : HOk P w H h) (e : H a = some (.dT kvs)) : kvs.length ≤ sizeLine ∧ (a == sysModules) = false ∧
    ∃ xs, KT H kvs xs ∧ h.DictOfH (tupleKind (yy P w)) a xs := zi4 ok (.inl e)
end
noncomputable def zl9 (H : Hp) (a : Addr) (y : V) (r : Option V) : Prop :=
  (∃ kvs k, Rd H a (.dK kvs) ∧ y = kV k ∧ r = zdv kvs k) ∨ ∃ kvs k b, Rd H a (.dT kvs) ∧ y = .ref b ∧ H b = some (.tup (k.map kV)) ∧ r = zdv kvs k
noncomputable def zgb (H : Hp) (a : Addr) (y v : V) (H' : Hp) : Prop :=
  (∃ kvs k, H a = some (.dK kvs) ∧ y = kV k ∧ kvs.length < sizeLine ∧ H' = upd H a (.dK (zbl kvs k v))) ∨
  ∃ kvs k b, H a = some (.dT kvs) ∧ y = .ref b ∧ H b = some (.tup (k.map kV)) ∧ kvs.length < sizeLine ∧ H' = upd H a (.dT (zbl kvs k v))
theorem zgb.k {H : Hp} {a : Addr} {kvs : List (Key × V)} {k : Key} {v : V} (e : H a = some (.dK kvs)) (hl : kvs.length < sizeLine) : zgb H a (kV k) v (upd H a (.dK (zbl kvs k v))) := .inl ⟨kvs, k, e, rfl, hl, rfl⟩
theorem zgb.t {H : Hp} {a b : Addr} {kvs : List (List Key × V)} {k : List Key} {v : V} (e : H a = some (.dT kvs)) (eb : H b = some (.tup (k.map kV))) (hl : kvs.length < sizeLine) :
    zgb H a (.ref b) v (upd H a (.dT (zbl kvs k v))) := .inr ⟨kvs, k, b, e, rfl, eb, hl, rfl⟩
section
variable {X : Cx} {pins : List (Addr × Obj)} {σ : St} {H : Hp} {s : Shared} {a : Addr} {y v : V} {u r : Value} {o : Option V} {A : Around} {E : Value → Shared → Prop}
theorem Inv.big (I : Inv X pins σ H s) : sysModules < s.heap.objs.size := by
  have h : mainGlobals < s.heap.objs.size := (I.mod.glob.keeps I.bk).lt
  exact Nat.lt_trans (by decide) h
theorem zi9 {Q : Value → Shared → Prop} (hu : A.units + 1 < cLine) (I : Inv X pins σ H s) (g : zl9 H a y o) (ry : yH y u) (h : ∀ s', Inv X pins σ H s' → Q (.bool (!o.isSome)) s') :
    wpAny (model X.prog X.w) A (compareOp .NotIn u (.ref a)) Q E s := by
  rcases g with ⟨kvs, k, e, ey, l⟩ | ⟨kvs, k, b, e, ey, eb, l⟩
  · subst ey
    obtain ⟨z, hd, vs, rel, dd⟩ := zkE I.hok e
    refine wpAny_notIn_of (ziz ry) hd dd.mapOf ?_
    rw [← (rel.val k).isSome_eq, ← l]
    exact h _ (I.tok _)
  · subst ey
    cases (show u = Value.ref b from ry)
    obtain ⟨z, hd, xs, rel, dd⟩ := zi4 I.hok e
    refine wpAny_notIn_heap (tupleKind_room_in1 hu) (zdr I.hok eb) hd dd ?_
    have q := (rel.val k).isSome_eq
    rw [Option.isSome_map] at q
    rw [← q, ← l]
    exact h _ (I.tok _)
theorem zcJ {h' : Heap} {t' : Nat} {ob : HO} (I : Inv X pins σ H s) (mu : Mut (H a)) (hs : Heap.SameBut a s.heap h') (he : ∃ q, h'.get? a = some q) (new : yB X.prog X.w (upd H a ob) h' a ob) :
    Inv X pins σ (upd H a ob) { s with heap := h', toks := t' } :=
  I.write (x := a) (e := a) mu (.inl rfl) (fun b q hb z => (hs.2 b hb).trans z) he new
theorem zk6 {P : Program} {w : World} {H' : Hp} {h' : Heap} {kvs : List (Key × V)} {vs : List (Key × Value)} (z : kvs.length ≤ sizeLine) (hd : (a == sysModules) = false) (rel : KV kvs vs) (dd : h'.DictOf (yy P w) a vs) :
    yB P w H' h' a (.dK kvs) := ⟨z, hd, vs, rel, dd⟩
theorem zeC {H' : Hp} {Q : Unit → Shared → Prop} (hu : A.units + 1 < cLine) (I : Inv X pins σ H s) (g : zgb H a y v H') (ry : yH y u) (rv : yH v r) (h : ∀ s', Inv X pins σ H' s' → Q () s') :
    wpAny (model X.prog X.w) A (setItem (.ref a) u r) Q E s := by
  rcases g with ⟨kvs, k, e, ey, l, eH⟩ | ⟨kvs, k, b, e, ey, eb, l, eH⟩
  · subst ey eH
    obtain ⟨z, hd, vs, rel, dd⟩ := zlS I.hok e
    have hz : vs.length ≤ sizeLine := by rw [← rel.length]; exact z
    have hl : (zbl kvs k v).length ≤ sizeLine := by have := ZJ kvs k v; omega
    refine wpAny_setItem_pairs (hsz := hz) (ziz ry) dd fun h' dd' hs => h _ ?_
    have he : ∃ q, h'.get? a = some q := let ⟨q, _, _, hq, _⟩ := dd'; ⟨q, hq⟩
    exact zcJ I (by rw [e]; exact True.intro) hs he (zk6 hl hd (rel.put k rv) dd')
  · subst ey eH
    cases (show u = Value.ref b from ry)
    obtain ⟨z, hd, xs, rel, dd⟩ := zjX I.hok e
    have hz : xs.length ≤ sizeLine := by rw [← Paired.length rel]; exact z
    have hl : (zbl kvs k v).length ≤ sizeLine := by have := ZJ kvs k v; omega
    refine wpAny_setItem_heap (hsz := hz) (tupleKind_room_in1 hu) (zdr I.hok eb) dd fun h' dd' hs => h _ ?_
    obtain ⟨q, es, ep, hq, h2, h3, h4, _, h5⟩ := dd'
    refine zcJ I (by rw [e]; exact True.intro) hs ⟨q, hq⟩ ⟨hl, hd, _, (rel.put k eb rv).keeps fun c ys ec => ?_, q, es, ep, hq, h2, h3, h4, h5⟩
    rw [zr (ziH ec e (fun z => nomatch z))]
    exact ec
end
section
variable {X : Cx} {pins : List (Addr × Obj)} {σ : St} {H : Hp} {s : Shared} {a : Addr} {kvs : List (Key × V)} {k : Key} {u : Value} {A : Around} {E : Value → Shared → Prop}
end
noncomputable def zmb (td ty tv : TE) : TS := fun D σ H => tv σ H fun v H1 => td σ H1 fun x H2 => ty σ H2 fun y H3 => ∃ a H4, x = .ref a ∧ zgb H3 a y v H4 ∧ D.nx σ H4
section
variable {X : Cx} {o i e value : Expr} {pos pos' tpos : Pos} {td ty tv : TE}
theorem zi0 (hu : X.A.units + 1 < cLine) (ho : PE X o td) (hi : PE X i ty) (hv : PE X value tv) (hs : swapsWith value (some (.Subscript o i pos')) pos.line X.env = pure false) :
    PS X (.Assign [.Subscript o i pos'] value pos) (zmb td ty tv) := by
  intro pins s σ H D I h
  refine wpAny_Assign_Subscript (thn (hv pins s σ H _ I h) fun r s1 ⟨v, H1, I1, rv, q1⟩ => thn (ho pins s1 σ H1 _ I1 q1) fun u s2 ⟨x, H2, I2, rx, q2⟩ => thn (hi pins s2 σ H2 _ I2 q2) fun iv s3 hh9 => ?_) hs
  obtain ⟨y, H3, I3, ry, a, H4, ex, g, q3⟩ := hh9
  subst ex
  obtain rfl : u = Value.ref a := rx
  exact zeC hu I3 g ry rv fun s4 I4 => ⟨σ, H4, I4, q3⟩
end
theorem zgl {P : Program} {w : World} {H : Hp} (h : Heap) (hb : sysModules < h.objs.size) : yB P w H (h.push { cls := .type "dict", data := .dict #[] }) h.objs.size (.dK []) :=
  ⟨Nat.zero_le _, beq_eq_false_iff_ne.mpr (Ne.symm (Nat.ne_of_lt hb)), [], .nil, Heap.DictOf.new h⟩
theorem zdJ {P : Program} {w : World} {H : Hp} (h : Heap) (hb : sysModules < h.objs.size) : yB P w H (h.push { cls := .type "dict", data := .dict #[] }) h.objs.size (.dT []) :=
  ⟨Nat.zero_le _, beq_eq_false_iff_ne.mpr (Ne.symm (Nat.ne_of_lt hb)), [], .nil, _, #[], 0, Heap.get?_push_size _ rfl, ⟨rfl, rfl, rfl⟩, rfl, rfl, List.nodup_nil⟩
noncomputable def zkq : TE := fun _ H Q => ∀ p, H p = none → Q (.ref p) (upd H p (.dK []))
noncomputable def zkP : TE := fun _ H Q => ∀ p, H p = none → Q (.ref p) (upd H p (.dT []))
section
variable {X : Cx} {pos : Pos}
theorem zhk : PE X (.Dict [] [] pos) zkq := fun pins s σ H Q I h =>
  wpAny_Dict_empty ⟨.ref s.heap.objs.size, _, I.laid (a := s.heap.objs.size) (o := .dK []) (t' := s.toks) (fun _ _ q => Heap.get?_push_of_some _ q) (Nat.le_refl _) (zgl s.heap I.big), rfl, h _ (I.hok.fresh (Nat.le_refl _))⟩
theorem zg4 : PE X (.Dict [] [] pos) zkP := fun pins s σ H Q I h =>
  wpAny_Dict_empty ⟨.ref s.heap.objs.size, _, I.laid (a := s.heap.objs.size) (o := .dT []) (t' := s.toks) (fun _ _ q => Heap.get?_push_of_some _ q) (Nat.le_refl _) (zdJ s.heap I.big), rfl, h _ (I.hok.fresh (Nat.le_refl _))⟩
end
section
variable {X : Cx} {pins : List (Addr × Obj)} {σ : St} {H : Hp} {s : Shared} {a : Addr} {y d : V} {u r : Value} {o : Option V} {A : Around} {E : Value → Shared → Prop}
end
section
variable {X : Cx} {o e f : Expr} {apos cpos : Pos} {td ty tx : TE}
end
section
variable {X : Cx} {pins : List (Addr × Obj)} {σ : St} {H : Hp} {s : Shared} {a : Addr} {kvs : List (Key × V)} {A : Around} {E : Value → Shared → Prop}
end
section
variable {X : Cx} {pins : List (Addr × Obj)} {σ : St} {H : Hp} {s : Shared} {a : Addr} {y : V} {u : Value} {A : Around} {E : Value → Shared → Prop}
end
end L2
namespace Att
open PySem PySem.W PySem.Calls PyProof.Rows
section
variable {prog : Program} {w : World} {A : Around} {E : Value → Shared → Prop} {s : Shared} {K : Frag}
end
end Att
namespace L2
open PySem PySem.Spec PyProof.Rows
end L2
namespace L2
open PySem PySem.Spec PyProof.Rows
end L2
namespace L2
open PySem PySem.Spec PyProof.Rows
section
variable {P : Program} {w : World} {K : PySem.W.Frag} {mg : Str → Option Value} {base : Heap}
end
section
variable {X : Cx}
end
section
variable {κ : Type} [DecidableEq κ]
end
end L2
namespace L2
open PySem PySem.Spec PyProof.Rows
theorem zb1 {X : Cx} : vh X (.builtin "isinstance") (fun xs H Q => ∃ x n t b, xs = [x, .ty n] ∧ zdu X.K H x t ∧ PySem.W.kitOne X.K t (.type n) = some b ∧ Q (.bl b) H) := by
  intro pins s σ H xs us Q I r h
  obtain ⟨x, n, t, b, rfl, ty, e, q⟩ := h
  obtain ⟨u, w', rfl, rx, rt⟩ := zbJ r
  cases (show w' = Value.type n from rt)
  exact zfx I rx ty e fun tk => ⟨.bl b, H, I.tok _, rfl, q⟩
theorem zhh {X : Cx} : OpR X (compareOp .Is) (fun x y H Q => ∃ i j, x = .bl i ∧ y = .bl j ∧ Q (.bl (i == j)) H) := by
  intro pins s σ H x y v u Q I rx ry h
  obtain ⟨i, j, rfl, rfl, q⟩ := h
  cases rx
  cases ry
  refine wpAny_is_plain (by rfl) ⟨.bl (i == j), H, I, ?_, q⟩
  cases i <;> cases j <;> rfl
theorem zcb {X : Cx} : OpR X (compareOp .IsNot) (fun x y H Q => ∃ i j, x = .bl i ∧ y = .bl j ∧ Q (.bl (!(i == j))) H) := by
  intro pins s σ H x y v u Q I rx ry h
  obtain ⟨i, j, rfl, rfl, q⟩ := h
  cases rx
  cases ry
  refine wpAny_isNot_plain (by rfl) ⟨.bl (!(i == j)), H, I, ?_, q⟩
  cases i <;> cases j <;> rfl
noncomputable def zhN (K : PySem.W.Frag) : R2 := fun x y H Q => ∃ a b xs ys, x = .ref a ∧ y = .ref b ∧ SqT K H a xs ∧ SqT K H b ys ∧ xs.length + ys.length ≤ sizeLine ∧
  (xs = [] → Q (.ref b) H) ∧ (xs ≠ [] → ys = [] → Q (.ref a) H) ∧ (xs ≠ [] → ys ≠ [] → ∀ p, H p = none → Q (.ref p) (upd H p (.tup (xs ++ ys))))
theorem zgz {X : Cx} : OpR X (binaryOp .Add) (zhN X.K) := by
  intro pins s σ H x y v u Q I rx ry h
  obtain ⟨a, b, xs, ys, rfl, rfl, ha, hb, hz, q0, q1, q2⟩ := h
  by_cases hx : xs = []
  · subst hx
    cases rx
    cases ry
    obtain ⟨its, r, p, _⟩ := I.tuple ha
    obtain ⟨its', r', p', _⟩ := I.tuple hb
    cases r
    obtain ⟨⟨cls, dd, data, sl⟩, ho, hc, n, hd⟩ := id p
    obtain ⟨⟨cls2, dd2, data2, sl2⟩, ho2, hc2, n2, hd2⟩ := id p'
    simp only at hc hd hc2 hd2
    subst hc hd hc2 hd2
    exact concat_meets ⟨_, ho, rfl⟩ ⟨_, ho2, rfl⟩ noFill_tuple_add seq_tuple_add PySem.F.slot_tuple_add PySem.F.entry_tuple_add (PySem.F.args_tuple_add_2 _ _)
      (tuple_addW0 a b #[] its'.toArray n n2 dd dd2 sl sl2 rfl) ⟨ho, ho2, ⟨.ref b, H, I, rfl, q0 rfl⟩⟩
  · refine zic pins s σ H (.ref a) (.ref b) v u Q I rx ry ⟨a, b, xs, ys, rfl, rfl, ha, hb, hx, hz, ?_⟩
    exact ⟨fun e => q1 hx e, fun e => q2 hx e⟩
end L2
namespace L2
open PySem PySem.Spec PyProof.Rows
inductive YK : St → St → Prop where
  | nil : YK [] []
  | non {a : Option V} {s t : St} : YK s t → YK (none :: s) (a :: t)
  | same {a : Option V} {s t : St} : YK s t → YK (a :: s) (a :: t)
theorem YK.refl : ∀ s : St, YK s s
  | [] => .nil
  | _ :: r => .same (YK.refl r)
theorem YK.length {s t : St} (h : YK s t) : s.length = t.length := by
  induction h with
  | nil => rfl
  | non _ ih => simp [ih]
  | same _ ih => simp [ih]
theorem YK.get {s t : St} (h : YK s t) : ∀ (i : Nat) (v : V), s[i]? = some (some v) → t[i]? = some (some v) := by
  induction h with
  | nil => intro i v e; exact e
  | non _ ih =>
    intro i v e
    cases i with
    | zero => simp at e
    | succ i => simpa using ih i v (by simpa using e)
  | same _ ih =>
    intro i v e
    cases i with
    | zero => simpa using e
    | succ i => simpa using ih i v (by simpa using e)
theorem YK.set {n : Nat} {v : V} : ∀ {s t : St}, YK s t → s[n]? = some none → YK s (t.set n (some v))
  | _, _, .nil, _ => .nil
  | _, _, .non (a := a) h, e => by
    cases n with
    | zero => exact .non h
    | succ n => exact .non (YK.set h (by simpa using e))
  | _, _, .same (a := a) h, e => by
    cases n with
    | zero =>
      have e' : a = none := by simpa using e
      subst e'
      exact .non h
    | succ n => exact .same (YK.set h (by simpa using e))
theorem Inv.sub {X : Cx} {pins : List (Addr × Obj)} {σ σ' : St} {H : Hp} {s : Shared} (I : Inv X pins σ H s) (h : YK σ' σ) : Inv X pins σ' H s := I.weak h.length h.get
noncomputable def PIf (X : Cx) (ifs : List Expr) (t : TT) : Prop :=
  ∀ (pins : List (Addr × Obj)) (s : Shared) (σ : St) (H : Hp) (Q : Bool → Hp → Prop), Inv X pins σ H s → t σ H Q →
    wpAny (model X.prog X.w) X.A (forIn ifs true fun c r => if r = true then do let ok ← isTrue c X.env (eval c X.env); pure (ForInStep.yield ok) else pure (ForInStep.yield r)) (TP X pins σ Q) X.xe s
noncomputable def tYes : TT := fun _ H Q => Q true H
theorem ziQ {X : Cx} : PIf X [] tYes := by
  intro pins s σ H Q I h
  rw [List.forIn_nil]
  exact wpAny_pure ⟨H, I, h⟩
theorem zeF {X : Cx} {c : Expr} {t : TT} (hc : PT X c t) : PIf X [c] t := by
  intro pins s σ H Q I h
  rw [List.forIn_cons]
  refine wpAny_bind ?_
  rw [if_pos rfl]
  refine wpAny_bind (thn (hc pins s σ H Q I h) fun b s1 q => wpAny_pure ?_)
  show wpAny _ _ (forIn [] b _) _ _ _
  rw [List.forIn_nil]
  exact wpAny_pure q
section
variable {prog : Program} {w : World} {A : Around} {R : Result → Shared → Prop} {s : Shared}
theorem vG {elt target iter : Expr} {ifs : List Expr} {scope : Scope} {pos : Pos} {it acc : Value} {env : Env} (I : Nat → Shared → Prop)
    (turn : ∀ n s, I n s → wpAny (model prog w) A (pyNext it) (fun r s₁ => match r with
      | none => R (.ok .next) s₁
      | some v => wpAny (model prog w) A (letOwnedTupleGo target it v) (fun _ s₁' => wpAny (model prog w) A (assign target env v) (fun _ s₂ =>
          wpAny (model prog w) A (forIn ifs true fun c r => if r = true then do let ok ← isTrue c env (eval c env); pure (ForInStep.yield ok) else pure (ForInStep.yield r)) (fun ok s₃ =>
            if ok = true then wpAny (model prog w) A (eval elt env) (fun x s₄ =>
              wpAny (model prog w) A (call (.builtin "list.append") [acc, x]) (fun _ s₅ => ∃ m, m < n ∧ I m s₅) (fun _ _ => False) s₄) (fun _ _ => False) s₃
            else ∃ m, m < n ∧ I m s₃) (fun _ _ => False) s₂) (fun _ _ => False) s₁') (fun _ _ => False) s₁) (fun _ _ => False) s)
    (n : Nat) (h : I n s) :
    codeAny (model prog w) A (.compLoop (.ListComp elt [⟨target, iter, ifs, 0⟩] scope pos) 0 it acc env) R s := by
  refine codeAny_loop rfl I (fun n s hI => ?_) n h
  show wpAny _ A ((compTurn (.ListComp elt [⟨target, iter, ifs, 0⟩] scope pos) 0 it acc env).onRaise (fun x => do noteFrame x env; theTreesLotGoes x)) _ _ s
  refine wpAny_noted ?_
  rw [compTurn_list]
  refine wpAny_bind (wpAny_standAt (wpAny_bind (wpAny_mono (turn n s hI) (fun r s₁ h₁ => ?_) fun _ _ h' => h'.elim)))
  cases r with
  | none => exact wpAny_pure h₁
  | some v =>
    refine wpAny_bind (wpAny_mono h₁ (fun _ s₁' h₁' => ?_) fun _ _ h' => h'.elim)
    refine wpAny_bind (wpAny_mono h₁' (fun _ s₂ h₂ => wpAny_bind (wpAny_mono h₂ (fun ok s₃ h₃ => ?_) fun _ _ h' => h'.elim)) fun _ _ h' => h'.elim)
    cases ok with
    | false => exact wpAny_pure ⟨rfl, h₃⟩
    | true =>
      exact wpAny_bind (wpAny_bind (wpAny_mono h₃ (fun x s₄ h₄ => wpAny_bind (wpAny_mono h₄ (fun _ s₅ h₅ => wpAny_pure (wpAny_pure ⟨rfl, h₅⟩)) fun _ _ h' => h'.elim)) fun _ _ h' => h'.elim))
end
noncomputable def tLC (wi : TI) (n : Nat) (g : TG) (tt : TT) (te : TE) : TE := fun σ H Q => wi σ H fun J H1 => ∀ D, H1 D = none → ∃ W : Nat → Nat → List V → Hp → Prop, (∃ m, W 0 m [] (upd H1 D (.lst []))) ∧
  ∀ i m ys H2, W i m ys H2 → (J.stop i H2 ∧ Q (.ref D) H2) ∨ (J.go i H2 ∧ ys.length < sizeLine ∧ ∀ x H3, J.yld i H2 x H3 → g x (List.replicate n none ++ σ) H3 fun σ2 H4 => tt σ2 H4 fun b H5 =>
    if b = true then te σ2 H5 fun y H6 => H6 D = some (.lst ys) ∧ ∃ m', m' < m ∧ W (i + 1) m' (ys ++ [y]) (upd H6 D (.lst (ys ++ [y]))) else ∃ m', m' < m ∧ W (i + 1) m' ys H5)
theorem vO {α : Type} : ∀ {l : List (Str × α)} {y : Str}, y ∈ l.map Prod.fst → ∃ c, l.lookup y = some c
  | [], _, h => by simp at h
  | (k, v) :: r, y, h => by
    by_cases e : y = k
    · exact ⟨v, by simp [List.lookup, e]⟩
    · obtain ⟨c, hc⟩ := vO (l := r) (y := y) (by simpa [e] using h)
      have hb : (y == k) = false := beq_eq_false_iff_ne.mpr e
      exact ⟨c, by simp only [List.lookup, hb]; exact hc⟩
theorem wC {α : Type} {P : α → Prop} : ∀ p ∈ ([] : List α), P p := fun _ h => nomatch h
theorem all_cons {α : Type} {P : α → Prop} {a : α} {l : List α} (h : P a) (t : ∀ p ∈ l, P p) : ∀ p ∈ a :: l, P p := fun p hp => by
  rcases List.mem_cons.mp hp with e | hp
  · rw [e]; exact h
  · exact t p hp
theorem gs1 (σ : St) (v : V) (H : Hp) (Q : St → Hp → Prop) (h : Yi 0 v (List.replicate 1 none ++ σ) H Q) : Yi 0 v (List.replicate 1 none ++ σ) H (fun σ2 H2 => YK (List.replicate 1 none ++ σ) σ2 ∧ Q σ2 H2) := ⟨.set (.refl _) rfl, h⟩
theorem gs2 {K : PySem.W.Frag} (σ : St) (v : V) (H : Hp) (Q : St → Hp → Prop) (h : zlu K 2 (zcg (Yi 0) (zcg (Yi 1) zlm)) v (List.replicate 2 none ++ σ) H Q) :
    zlu K 2 (zcg (Yi 0) (zcg (Yi 1) zlm)) v (List.replicate 2 none ++ σ) H (fun σ2 H2 => YK (List.replicate 2 none ++ σ) σ2 ∧ Q σ2 H2) := by
  obtain ⟨a, xs, e, hq, hl, x, r, e1, y, r2, e2, e3, q⟩ := h
  exact ⟨a, xs, e, hq, hl, x, r, e1, y, r2, e2, e3, .set (.set (.refl _) rfl) rfl, q⟩
end L2
namespace L2
open PySem PySem.Spec PyProof.Rows
noncomputable def Wm (X : Cx) (L M : List Str) (scope : Scope) (cl : List (Str × Addr)) (s₀ : Shared) (H₀ : Hp) (ex : List Addr) (pn : List (Addr × Obj)) : Cx :=
  { X with N := L ++ M, s₀ := s₀, H₀ := H₀, env := compEnvC scope cl s₀.heap.objs.size X.env, outer := X.stack, stack := X.stack, ex := ex, fn := fun _ => false, pn := pn, xe := fun _ _ => False }
structure y9 (X : Cx) (L M : List Str) (scope : Scope) (cl : List (Str × Addr)) : Prop where
  clos : closureFor scope X.env = pure cl
  cell : ∀ y ∈ scope.names, y.2 ≠ .cell
  kind : scope.kind = .function
  names : ∀ y ∈ scope.names, y.2 = .local → scope.names.lookup y.1 = some .local
  sub : ∀ y c, cl.lookup y = some c → X.env.cells.lookup y = some c
  has : ∀ y, ((relabel scope X.env).names.lookup y = some .cell ∨ (relabel scope X.env).names.lookup y = some .free) → ∃ c, cl.lookup y = some c
  mlen : M.length = X.N.length
  msk : ∀ (i : Nat) y, M[i]? = some y → Vis (relabel scope X.env) y → X.N[i]? = some y
  vis : ∀ (i : Nat) y, M[i]? = some y → Vis (relabel scope X.env) y → ((relabel scope X.env).names.lookup y = some .cell ∨ (relabel scope X.env).names.lookup y = some .free)
  out : ∀ (i : Nat) y, M[i]? = some y → Vis (relabel scope X.env) y → Vis X.env.scope y ∧ X.env.kindOf y ≠ some .local
theorem Inv.letGo {X : Cx} {pins : List (Addr × Obj)} {σ : St} {H : Hp} {s : Shared} {C : Addr} {h' : Heap} (I : Inv X pins σ H s) (f : zdY X pins H C) (sb : Heap.SameBut C s.heap h') : Inv X pins σ H { s with heap := h' } := by
  obtain ⟨f0, f1, f2, f3, f4, f5⟩ := f
  have ne : ∀ b, b ∉ [C] → b ≠ C := fun b hb z => hb (by rw [z]; exact List.mem_singleton.mpr rfl)
  refine I.call' (s' := { s with heap := h' }) (ch := [C]) rfl ⟨fun b o e _ _ hx => (sb.2 b (ne b hx)).trans e, fun b o e _ _ hx => ⟨o.slots, (sb.2 b (ne b hx)).trans e⟩, fun _ _ _ n _ => n, fun b o e hx => ⟨o, (sb.2 b (ne b hx)).trans e⟩, fun _ _ q => q, fun _ _ _ q => q, fun _ ps q => ⟨#[], by rw [q]; simp⟩⟩ ?_ I.bare fun b hb => ?_
  · intro b ob e
    refine (I.hok b ob e).stay (fun c v hc q => (sb.2 c ?_).trans q) (fun _ q => q) fun _ _ q => q
    rintro rfl
    rcases hc with z | z
    · rw [← z, f0] at e; cases e
    · rw [f0] at z; cases z
  · rw [List.mem_singleton.mp hb]
    exact ⟨f3, f1, f4, f5⟩
theorem zex {use : Option (Value → Sem Unit)} {Qf : Value → Shared → Prop} {X : Cx} {elt tg iter : Expr} {ifs : List Expr} {L M : List Str} {scope : Scope} {cl : List (Str × Addr)} {pos : Pos} {wi : TI} {g : TG} {tt : TT} {te : TE}
    (hc : X.calm = true) (S : y9 X L M scope cl) (hi : PI X tg iter wi)
    (hgS : ∀ (σ : St) (v : V) (H : Hp) (Q : St → Hp → Prop), g v (List.replicate L.length none ++ σ) H Q → g v (List.replicate L.length none ++ σ) H (fun σ2 H2 => YK (List.replicate L.length none ++ σ) σ2 ∧ Q σ2 H2))
    (hg : ∀ s₀ H₀ ex pn, PG (Wm X L M scope cl s₀ H₀ ex pn) tg g) (ht : ∀ s₀ H₀ ex pn, PIf (Wm X L M scope cl s₀ H₀ ex pn) ifs tt) (he : ∀ s₀ H₀ ex pn, PE (Wm X L M scope cl s₀ H₀ ex pn) elt te)
    (hs : ∀ x, foldedSetIterable iter X.env x = pure x := by intro _; rfl) :
    ∀ (pos' : Pos) (pins : List (Addr × Obj)) (s : Shared) (σ : St) (H : Hp) (Q : VK), Inv X pins σ H s → tLC wi L.length g tt te σ H Q →
      (∀ (D C : Addr) (H' : Hp) (s' : Shared), Inv X pins σ H' s' → (∃ m, s'.heap.Ns C m) → zdY X pins H' C → Q (.ref D) H' → compPost (model X.prog X.w) X.A X.xe use Qf (.ref D) C (.ok .next) s') →
      wpAny (model X.prog X.w) X.A (comprehension (.ListComp elt [⟨tg, iter, ifs, 0⟩] scope pos) scope X.env pos' (newList []) false (eval iter X.env) use) Qf X.xe s := by
  intro pos' pins s σ H Q I h fin
  refine wpAny_comprehension_free (use := use) rfl hs S.clos S.kind S.names (thn (hi pins s σ H _ I h) fun v s1 h1 => thn h1 fun itv s2 h2 => ?_)
  obtain ⟨it, fp, tn, J, H2, e, I2, T, st2, f2, q⟩ := h2
  subst e
  have hD : H2 s2.heap.objs.size = none := I2.hok.fresh (Nat.le_refl _)
  obtain ⟨W, ⟨m0, w0⟩, turn⟩ := q _ hD
  refine wpAny_newObj_type (wpAny_newFunctionEnv S.cell (by intro y hy; simp at hy) (fun h₁ hns₁ hsb₁ => ?_) S.kind)
  have I3 : Inv X pins σ (upd H2 s2.heap.objs.size (.lst [])) { s2 with heap := s2.heap.push { cls := .type "list", data := .seq ([] : List Value).toArray } } := by
    refine I2.laid (t' := s2.toks) (fun b u e => Heap.get?_push_of_some _ e) (Nat.le_refl _) ?_
    exact ⟨Nat.zero_le _, [], 0, .nil, Heap.get?_push_size _ rfl⟩
  generalize hs3 : ({ s2 with heap := s2.heap.push { cls := .type "list", data := .seq ([] : List Value).toArray } } : Shared) = s3 at I3 hns₁ hsb₁ ⊢
  have hobj : ∀ b ∈ fp, b < s2.heap.objs.size := fun b hb => by
    obtain ⟨o, ho, _⟩ := T.obj _ _ st2 b hb
    exact Heap.lt_size ho
  have hz3 : s3.heap.objs.size = s2.heap.objs.size + 1 := by rw [← hs3]; exact Heap.size_push ..
  have k23 : ∀ b o, s2.heap.get? b = some o → s3.heap.get? b = some o := fun b o e => by rw [← hs3]; exact Heap.get?_push_of_some _ e
  have k34 : ∀ b o, s3.heap.get? b = some o → h₁.get? b = some o := fun b o e => (hsb₁.2 b (Nat.ne_of_lt (Heap.lt_size e))).trans (Heap.get?_push_of_some _ e)
  generalize hH3 : upd H2 s2.heap.objs.size (.lst []) = H3 at I3 w0
  have hfp3 : ∀ b ∈ fp, H3 b = none := fun b hb => by
    rw [← hH3, zr (Nat.ne_of_lt (hobj b hb))]
    exact (f2 b hb).1
  have nfs : ∀ b ∈ fp, b ∉ frs X.stack := fun b hb z => by
    obtain ⟨_, n1, n2, _⟩ := f2 b hb
    rcases List.mem_cons.mp (I3.stkSub b z) with e | e
    · exact n1 e
    · exact n2 e
  let Y : Cx := Wm X L M scope cl s3 H3 fp (X.pn ++ pins)
  have OkY : Y.Ok := by
    refine ⟨I.ok.mod, S.kind, I.ok.glob, I.ok.blt, Nat.le_refl _, fun x y c h1 h2 => I.ok.inj x y c (S.sub x c h1) (S.sub y c h2), fun x hx => S.has x hx, (fun x c h _ => absurd h Bool.false_ne_true), I.ok.hd, I.ok.frames, .inl rfl, fun b hb => ⟨?_, fun x c e z => ?_⟩,
      fun b o e => I3.bs b o e, Nat.le_trans I.ok.bsz I3.sz, fun b o e hb => ?_, nfs, I3.stack, I3.stkFree⟩
    · show b ≠ s3.heap.objs.size
      exact Nat.ne_of_lt (Nat.lt_of_lt_of_le (hobj b hb) (by rw [hz3]; exact Nat.le_succ _))
    · exact (f2 b hb).2.2.2.2.1 x c (S.sub x c e) z
    · rcases (f2 b hb).2.2.2.1 with z | z
      · exact I.ok.noex b o e z
      · have h1 := Heap.lt_size e
        have h2 := I.ok.bsz
        exact absurd (Nat.lt_of_lt_of_le h1 (Nat.le_trans h2 z)) (Nat.lt_irrefl _)
  have I4 : Inv Y [] (List.replicate L.length none ++ σ) H3 { s3 with heap := h₁, toks := s3.toks + ([] : List (Str × Value)).length } := by
    refine ⟨OkY, rfl, I3.bare, Un.kept k34, ⟨_, hns₁, fun i y v e1 e2 e3 => ?_⟩, fun x c e => ?_, I3.hok.fresh (Nat.le_refl _), fun x c e => I3.freeC x c (S.sub x c e), fun p hp => ?_, I3.hok.kept k34, ?_⟩
    · have hi : ¬ i < L.length := fun hlt => by
        rw [List.getElem?_append_left (by simpa using hlt), List.getElem?_replicate] at e2
        split at e2 <;> cases e2
      have e0' : M[i - L.length]? = some y := by
        have e1 : (L ++ M)[i]? = some y := e1
        rw [List.getElem?_append_right (by omega)] at e1
        exact e1
      have e2' : σ[i - L.length]? = some (some v) := by rw [List.getElem?_append_right (by simpa using Nat.le_of_not_lt hi)] at e2; simpa using e2
      have e1' := S.msk _ y e0' e3
      obtain ⟨ov, ok⟩ := S.out _ y e0' e3
      obtain ⟨m, hn, hl⟩ := I3.loc
      obtain ⟨u, ru, lk⟩ := hl _ y v e1' e2' ov
      refine ⟨u, ru, ?_⟩
      rcases lk with ⟨hk, _⟩ | ⟨_, c, hc', hcell⟩
      · exact absurd hk ok
      · have kn := S.vis _ y e0' e3
        obtain ⟨c', hc2⟩ := S.has y kn
        have := S.sub y c' hc2
        rw [hc'] at this
        cases this
        refine .inr ⟨kn, c, hc2, ?_⟩
        obtain ⟨o, ho, hd⟩ := hcell
        exact ⟨o, k34 _ _ ho, hd⟩
    · obtain ⟨v, o, ho, hd⟩ := I3.cell x c (S.sub x c e)
      exact ⟨v, o, k34 _ _ ho, hd⟩
    · have hp' : p ∈ X.pn ++ pins := List.append_nil (X.pn ++ pins) ▸ hp
      obtain ⟨a1, a2, a3, a4, a5⟩ := I3.pin p hp'
      refine ⟨k34 _ _ a1, a2, Nat.ne_of_lt (Heap.lt_size a1), fun z => ?_, a5⟩
      rcases List.mem_cons.mp (I3.stkSub p.1 z) with e | e
      · exact a3 e
      · exact a4 e
    · show (List.replicate L.length none ++ σ).length = (L ++ M).length
      rw [List.length_append, List.length_append, List.length_replicate, I.len, S.mlen]
  have fpY : ∀ {H' : Hp}, (∀ b ∈ fp, H' b = none) → ∀ b ∈ fp, zdY Y [] H' b := fun {H'} hn b hb => by
    refine ⟨hn b hb, (OkY.exf b hb).1, nfs b hb, .inl hb, (OkY.exf b hb).2, fun p hp => ?_⟩
    have hp' : p ∈ X.pn ++ pins := List.append_nil (X.pn ++ pins) ▸ hp
    exact (f2 b hb).2.2.2.2.2 p hp'
  have st4 : tn 0 h₁ := T.keep _ _ _ st2 fun b hb o e => k34 b o (k23 b o e)
  -- behind the loop
  have back : ∀ (H' : Hp) (s' : Shared), Inv Y [] (List.replicate L.length none ++ σ) H' s' → Q (.ref s2.heap.objs.size) H' → compPost (model X.prog X.w) X.A X.xe use Qf (.ref s2.heap.objs.size) s3.heap.objs.size (.ok .next) s' := fun H' s' J' q' => by
    obtain ⟨m, hn, _⟩ := J'.loc
    refine fin _ _ H' s' (I3.call' (ch := fp) J'.os J'.base J'.hok J'.bare fun b hb => ?_) ⟨m, hn⟩ (I3.fpOk (Nat.le_refl _) J'.free) q'
    obtain ⟨_, n1, _, n3, n4, n5⟩ := f2 b hb
    exact ⟨n3, n1, n4, n5⟩
  have loop : codeAny (model X.prog X.w) X.A (.compLoop (.ListComp elt [⟨tg, iter, ifs, 0⟩] scope pos) 0 (.ref it) (.ref s2.heap.objs.size) (compEnvC scope cl s3.heap.objs.size X.env))
      (compPost (model X.prog X.w) X.A X.xe use Qf (.ref s2.heap.objs.size) s3.heap.objs.size) { s3 with heap := h₁, toks := s3.toks + ([] : List (Str × Value)).length } := by
    refine vG (fun n s' => ∃ i ys H', Inv Y [] (List.replicate L.length none ++ σ) H' s' ∧ tn i s'.heap ∧ (∀ b ∈ fp, H' b = none) ∧ W i n ys H') ?_ m0 ⟨0, [], H3, I4, st4, hfp3, w0⟩
    rintro n s5 ⟨i, ys, H5, I5, st5, fr5, w5⟩
    rcases turn i n ys H5 w5 with ⟨stop, qn⟩ | ⟨go, hlen, step⟩
    · refine thn (T.done Y rfl rfl rfl hc i [] s5 _ H5 _ I5 (fpY fr5) st5 stop) fun r s6 hh9 => ?_
      obtain ⟨hr, I6⟩ := hh9
      subst hr
      exact back H5 s6 I6 qn
    · refine thn (T.item Y rfl rfl rfl hc i [] s5 _ H5 _ I5 (fpY fr5) st5 go) fun r s6 hh9 => ?_
      obtain ⟨u, hr, h6⟩ := hh9
      subst hr
      refine thn h6 fun _ s7 hh9 => ?_
      obtain ⟨x, H7, I7, r7, y7, st7, fr7⟩ := hh9
      have I7' := I7.pinned (fpY fr7) (T.obj _ _ st7)
      have g7 := hgS σ x H7 _ (step x H7 y7)
      refine thn (hg _ _ _ _ _ s7 _ H7 x u _ I7' r7 g7) fun _ s8 hh9 => ?_
      obtain ⟨σ8, H8, I8, sub8, q8⟩ := hh9
      have again : ∀ {σ9 : St} {H9 : Hp} {s9 : Shared} {zs : List V}, Inv Y ([] ++ XH fp s7.heap) σ9 H9 s9 → YK (List.replicate L.length none ++ σ) σ9 → (∃ m', m' < n ∧ W (i + 1) m' zs H9) →
          ∃ m, m < n ∧ ∃ i ys H', Inv Y [] (List.replicate L.length none ++ σ) H' s9 ∧ tn i s9.heap ∧ (∀ b ∈ fp, H' b = none) ∧ W i m ys H' := fun {σ9 H9 s9 zs} I9 sub9 w9 => by
        obtain ⟨m', hm, w9⟩ := w9
        refine ⟨m', hm, i + 1, zs, H9, (I9.sub sub9).unpinned, T.keep _ _ _ st7 fun b hb o e => (I9.pin (b, o) (List.mem_append_right _ (List.mem_append_right _ (wy hb e)))).1, fun b hb => ?_, w9⟩
        obtain ⟨o, e, d⟩ := T.obj _ _ st7 b hb
        exact (I9.pin (b, o) (List.mem_append_right _ (List.mem_append_right _ (wy hb e)))).2.1
      refine thn (ht _ _ _ _ _ s8 σ8 H8 _ I8 q8) fun b s9 hh9 => ?_
      obtain ⟨H9, I9, q9⟩ := hh9
      cases b with
      | false =>
        rw [if_neg Bool.false_ne_true] at q9
        rw [if_neg Bool.false_ne_true]
        exact again I9 sub8 q9
      | true =>
        rw [if_pos rfl] at q9
        rw [if_pos rfl]
        refine thn (he _ _ _ _ _ s9 σ8 H9 _ I9 q9) fun y s10 hh9 => ?_
        obtain ⟨yv, H10, I10, r10, hD10, w10⟩ := hh9
        obtain ⟨z10, its, k, rv, e10⟩ : ys.length ≤ sizeLine ∧ ∃ (its : List Value) (n : Nat), yl ys its ∧ s10.heap.get? s2.heap.objs.size = some { cls := .type "list", data := .seq its.toArray n } := I10.hok _ _ hD10
        have hl10 : s10.heap.PlainList s2.heap.objs.size its.toArray := ⟨k, e10⟩
        refine wpAny_list_append_plain (hsz := by rw [List.size_toArray, ← rv.length]; exact z10) hl10 fun h11 hl11 sb11 => ?_
        obtain ⟨k', e11⟩ := hl11
        have I11 : Inv Y ([] ++ XH fp s7.heap) σ8 (upd H10 s2.heap.objs.size (.lst (ys ++ [yv]))) { s10 with heap := h11 } := by
          refine I10.write (x := s2.heap.objs.size) (e := s2.heap.objs.size) (t' := s10.toks) (by rw [hD10]; exact True.intro) (.inl rfl) (fun b u hb e => (sb11.2 b hb).trans e) ⟨_, e11⟩ ?_
          refine ⟨by rw [List.length_append]; show ys.length + 1 ≤ sizeLine; exact hlen, its ++ [y], k', rv.append (.cons r10 .nil), ?_⟩
          rw [e11]
          simp
        exact again I11 sub8 w10
  exact codeAny_compStart_list loop (T.self _ 0 _ _ _ st4 loop)
theorem zhO {X : Cx} {elt tg iter : Expr} {ifs : List Expr} {L M : List Str} {scope : Scope} {cl : List (Str × Addr)} {pos : Pos} {wi : TI} {g : TG} {tt : TT} {te : TE}
    (hc : X.calm = true) (S : y9 X L M scope cl) (hi : PI X tg iter wi)
    (hgS : ∀ (σ : St) (v : V) (H : Hp) (Q : St → Hp → Prop), g v (List.replicate L.length none ++ σ) H Q → g v (List.replicate L.length none ++ σ) H (fun σ2 H2 => YK (List.replicate L.length none ++ σ) σ2 ∧ Q σ2 H2))
    (hg : ∀ s₀ H₀ ex pn, PG (Wm X L M scope cl s₀ H₀ ex pn) tg g) (ht : ∀ s₀ H₀ ex pn, PIf (Wm X L M scope cl s₀ H₀ ex pn) ifs tt) (he : ∀ s₀ H₀ ex pn, PE (Wm X L M scope cl s₀ H₀ ex pn) elt te)
    (hs : ∀ x, foldedSetIterable iter X.env x = pure x := by intro _; rfl) :
    PE X (.ListComp elt [⟨tg, iter, ifs, 0⟩] scope pos) (tLC wi L.length g tt te) := by
  intro pins s σ H Q I h
  rw [eval_ListComp]
  refine zex hc S hi hgS hg ht he hs _ pins s σ H Q I h fun D C H' s' I' ⟨m, hn⟩ f q => ⟨m, hn, fun h' sb => ⟨.ref D, _, I'.letGo f sb, rfl, q⟩⟩
theorem zjL {i : Nat} {x : Str} {px spos : Pos} {X : Cx} {elt tg iter : Expr} {ifs : List Expr} {L M : List Str} {scope : Scope} {cl : List (Str × Addr)} {pos : Pos} {wi : TI} {g : TG} {tt : TT} {te : TE}
    (hN : X.N.Nodup) (hi' : X.N[i]? = some x) (hx : Loc X.env.scope x) (hc : X.calm = true) (S : y9 X L M scope cl) (hi : PI X tg iter wi)
    (hgS : ∀ (σ : St) (v : V) (H : Hp) (Q : St → Hp → Prop), g v (List.replicate L.length none ++ σ) H Q → g v (List.replicate L.length none ++ σ) H (fun σ2 H2 => YK (List.replicate L.length none ++ σ) σ2 ∧ Q σ2 H2))
    (hg : ∀ s₀ H₀ ex pn, PG (Wm X L M scope cl s₀ H₀ ex pn) tg g) (ht : ∀ s₀ H₀ ex pn, PIf (Wm X L M scope cl s₀ H₀ ex pn) ifs tt) (he : ∀ s₀ H₀ ex pn, PE (Wm X L M scope cl s₀ H₀ ex pn) elt te)
    (hs : ∀ x, foldedSetIterable iter X.env x = pure x := by intro _; rfl)
    (hsw : swapsWith (.ListComp elt [⟨tg, iter, ifs, 0⟩] scope pos) (some (.Name x px)) spos.line X.env = pure true := by rfl)
    (hf : X.fn x = true ∨ X.env.scope.names.lookup x = some .local := by first | exact .inl rfl | exact .inr rfl | assumption) :
    PS X (.Assign [.Name x px] (.ListComp elt [⟨tg, iter, ifs, 0⟩] scope pos) spos) (zls (tLC wi L.length g tt te) (Yi i)) := by
  intro pins s σ H D I h
  rw [exec_Assign_Name_used _ _ _ _ hsw]
  refine wpAny_bind (wpAny_standAt (wpAny_bind ?_))
  show wpAny _ X.A (do let _ ← comprehension (.ListComp elt [⟨tg, iter, ifs, 0⟩] scope pos) scope X.env _ (newList []) false (eval iter X.env) (some (assign (.Name x px) X.env))) _ _ s
  refine wpAny_bind (thn (zex (use := some (assign (.Name x px) X.env)) (Qf := fun _ s' => SP X pins D .next s') hc S hi hgS hg ht he hs _ pins s σ H _ I h fun D' C H' s' I' ⟨m, hn⟩ f q => ?_) fun _ s' hq => wpAny_pure (wpAny_pure hq))
  have hob : ∀ b ∈ [C], ∃ o, s'.heap.get? b = some o ∧ ∀ v, o.data ≠ .cell v := fun b hb => by
    rw [List.mem_singleton.mp hb]
    obtain ⟨o, es, ep, e, d, _⟩ := hn
    exact ⟨o, e, fun v z => by rw [z] at d; cases d⟩
  have I2 := I'.pinned (fp := [C]) (fun b hb => by rw [List.mem_singleton.mp hb]; exact f) hob
  refine thn (zB (pos := px) hN hi' hx hf _ s' σ H' (.ref D') (.ref D') _ I2 rfl q) fun _ s2 hh9 => ?_
  obtain ⟨σ2, H2, I3, q3⟩ := hh9
  obtain ⟨o, es, ep, e, d⟩ := hn
  have pn := I3.pin (C, o) (List.mem_append_right _ (List.mem_append_right _ (wy (List.mem_singleton.mpr rfl) e)))
  exact ⟨m, ⟨o, es, ep, pn.1, d⟩, fun h' sb => ⟨σ2, H2, I3.unpinned.letGo ⟨pn.2.1, f.2⟩ sb, q3⟩⟩
noncomputable def Xy (names rn dn : List (Str × NameKind)) (N M cn : List Str) : Bool :=
  names.all (fun y => decide (y.2 ≠ .cell)) && names.all (fun y => decide (y.2 = .local → names.lookup y.1 = some .local)) &&
  rn.all (fun y => decide ((y.2 = .cell ∨ y.2 = .free) → y.1 ∈ cn)) &&
  (M.length == N.length) && (M.zip N).all (fun p => decide ((rn.lookup p.1 = some .local ∨ rn.lookup p.1 = some .cell ∨ rn.lookup p.1 = some .free) → p.1 = p.2)) &&
  M.all (fun y => decide ((rn.lookup y = some .local ∨ rn.lookup y = some .cell ∨ rn.lookup y = some .free) →
    (rn.lookup y = some .cell ∨ rn.lookup y = some .free) ∧ (dn.lookup y = some .local ∨ dn.lookup y = some .cell ∨ dn.lookup y = some .free) ∧ dn.lookup y ≠ some .local))
theorem YG {X : Cx} {L N M cn : List Str} {scope : Scope} {cl : List (Str × Addr)} {rn dn : List (Str × NameKind)} (hr : (relabel scope X.env).names = rn) (hd : X.env.scope.names = dn) (hN : X.N = N)
    (clos : closureFor scope X.env = pure cl) (kind : scope.kind = .function) (hc : cl.map Prod.fst = cn) (good : Xy scope.names rn dn N M cn = true) (sub : ∀ p ∈ cl, X.env.cells.lookup p.1 = some p.2) : y9 X L M scope cl := by
  unfold Xy at good
  simp only [Bool.and_eq_true, List.all_eq_true, decide_eq_true_eq] at good
  obtain ⟨⟨⟨⟨⟨g1, g2⟩, g3⟩, g5⟩, g6⟩, g4⟩ := good
  have g5 : M.length = N.length := by simpa using g5
  refine ⟨clos, g1, kind, g2, fun y c h => sub (y, c) (PySem.mem_of_lookup h), fun y h => ?_, by rw [hN]; exact g5, fun i y e v => ?_, fun i y e v => ?_, fun i y e v => ?_⟩
  · rw [hr] at h
    have hy : y ∈ cn := by
      rcases h with h | h
      · exact g3 _ (PySem.mem_of_lookup h) (.inl rfl)
      · exact g3 _ (PySem.mem_of_lookup h) (.inr rfl)
    exact vO (by rw [hc]; exact hy)
  · unfold Vis at v
    rw [hr] at v
    have hi := (List.getElem?_eq_some_iff.mp e).1
    have hj : i < N.length := by rw [← g5]; exact hi
    have hz : (M.zip N)[i]? = some (y, N[i]) := by
      rw [List.getElem?_zip_eq_some]
      exact ⟨e, List.getElem?_eq_getElem hj⟩
    have := g6 _ (List.mem_of_getElem? hz) v
    rw [hN, List.getElem?_eq_getElem hj]
    exact congrArg some this.symm
  · unfold Vis at v
    rw [hr] at v ⊢
    exact (g4 y (List.mem_of_getElem? e) v).1
  · unfold Vis at v
    rw [hr] at v
    obtain ⟨_, k1, k2⟩ := g4 y (List.mem_of_getElem? e) v
    refine ⟨?_, ?_⟩
    · unfold Vis; rw [hd]; exact k1
    · show X.env.scope.names.lookup y ≠ _; rw [hd]; exact k2
end L2
namespace PySem
open Sem (wp)
open AutoSeq1 (wpAny_loadPart')
section
variable {prog : Program} {w : World} {A : Around} {E : Value → Shared → Prop} {s : Shared}
theorem wZ {it l : Addr} {i : Nat} {items} {x : Value} {Q : Value → Shared → Prop} (hit : s.heap.IsTupleIter it l i)
    (hl : s.heap.IsTuple l items) (hx : items[i]? = some x)
    (hQ : ∀ h', h'.IsTupleIter it l (i + 1) → Heap.SameBut it s.heap h' → Q x { s with heap := h' }) :
    wpAny (model prog w) A (Builtin.SmallTypes.nextOf (.ref it)) Q E s := by
  obtain ⟨o, ho, hc, hd⟩ := id hit
  obtain ⟨ol, hol, _, nl, hdl⟩ := hl
  unfold Builtin.SmallTypes.nextOf
  refine wpAny_bind (wpAny_callSpecial?_slot (name := Str.ofString "__next__") hit.typeIs F.slot_tuple_iterator_next
    (wpAny_call_entry F.slot_tuple_iterator_next hit.typeIs F.entry_tuple_iterator_next ?_ (F.args_tuple_iterator_next_1 _)))
  show wpAny _ _ (field (.ref it) 0 >>= _) _ _ s
  refine wpAny_bind (wpAny_field ho hd (x := .ref l) rfl ?_)
  show wpAny _ _ (if (Value.ref l == Value.none) = true then _ else _) _ _ s
  rw [if_neg (show ¬ ((Value.ref l == Value.none) = true) from Bool.false_ne_true)]
  show wpAny _ _ (field (.ref it) 1 >>= _) _ _ s
  refine wpAny_bind (wpAny_field ho hd (x := .int i 0) rfl ?_)
  show wpAny _ _ (seqItems? (.ref l) >>= _) _ _ s
  refine wpAny_bind (wpAny_seqItems hol hdl ?_)
  simp only [Int.toNat_natCast, hx]
  refine wpAny_bind (wpAny_setField ho hd (by simp) (wpAny_pure ⟨x, rfl, wpAny_pure (hQ _ ?_ (Heap.SameBut.update ..))⟩))
  exact ⟨_, Heap.get?_update_self _ ho (Obj.isFreed_of_fields (Obj.data_mapFields hd _)), (Obj.cls_mapFields ..).trans hc, by
    rw [Obj.data_mapFields hd]; simp [rawInt]⟩
theorem xD {it l : Addr} {i : Nat} {items} {Q : Value → Shared → Prop} (hh : A.handled = none)
    (hit : s.heap.IsTupleIter it l i) (hl : s.heap.IsTuple l items) (hx : items[i]? = none)
    (hE : ∀ h' e, Heap.ExtBut it s.heap h' → (∃ o, h'.get? e = some o ∧ o.cls = .type "StopIteration") → E (.ref e) { s with heap := h' }) :
    wpAny (model prog w) A (Builtin.SmallTypes.nextOf (.ref it)) Q E s := by
  obtain ⟨o, ho, hc, hd⟩ := id hit
  obtain ⟨ol, hol, _, nl, hdl⟩ := hl
  unfold Builtin.SmallTypes.nextOf
  refine wpAny_bind (wpAny_callSpecial?_slot (name := Str.ofString "__next__") hit.typeIs F.slot_tuple_iterator_next
    (wpAny_call_entry F.slot_tuple_iterator_next hit.typeIs F.entry_tuple_iterator_next ?_ (F.args_tuple_iterator_next_1 _)))
  show wpAny _ _ (field (.ref it) 0 >>= _) _ _ s
  refine wpAny_bind (wpAny_field ho hd (x := .ref l) rfl ?_)
  show wpAny _ _ (if (Value.ref l == Value.none) = true then _ else _) _ _ s
  rw [if_neg (show ¬ ((Value.ref l == Value.none) = true) from Bool.false_ne_true)]
  show wpAny _ _ (field (.ref it) 1 >>= _) _ _ s
  refine wpAny_bind (wpAny_field ho hd (x := .int i 0) rfl ?_)
  show wpAny _ _ (seqItems? (.ref l) >>= _) _ _ s
  refine wpAny_bind (wpAny_seqItems hol hdl ?_)
  simp only [Int.toNat_natCast, hx]
  refine wpAny_bind (wpAny_rule (wpAny_bind (wpAny_setField ho hd (by simp) ?_)))
  show wpAny _ _ (newExc (.type "StopIteration") [] >>= _) _ _ _
  refine wpAny_bind ?_
  simp only [newExc, newTuple]
  refine wpAny_bind (wpAny_newObj_type ?_ (by size_fits))
  refine wpAny_bind (m := firstArgMember _ _) (wpAny_of_eq (a := Value.none) (by first | rfl | (simp only [firstArgMember]; rfl)) ?_)
  refine wpAny_newObj_type ?_ (by size_fits)
  simp only [raiseNew]
  refine wpAny_bind (wpAny_handled ?_)
  first | rw [show A.in1.handled = none from hh] | rw [hh]
  refine wpAny_bind (wpAny_pure (wpAny_throw ?_))
  exact hE _ _ (((Heap.SameBut.update ..).extBut.push _).push _) ⟨_, Heap.get?_push_size _ rfl, rfl⟩
end
theorem vF {prog : Program} {w : World} {A : Around} {E : Value → Shared → Prop} {s : Shared} {e it l : Addr} {i : Nat} {items : Array Value} {old : Value} {Q : Option Value → Shared → Prop} (hh : A.handled = none)
    (he : IsEnum s.heap e it i old) (hit : s.heap.IsTupleIter it l i) (hl : s.heap.IsTuple l items) (hx : items[i]? = none)
    (hQ : ∀ h', Heap.ExtBut it s.heap h' → Q none { s with heap := h' }) : wpAny (model prog w) A (pyNext (.ref e)) Q E s := by
  have hT : s.TypeIs (.ref e) "enumerate" := ⟨_, he, rfl⟩
  unfold pyNext
  refine wpAny_bind (wpAny_attempt (wpAny_callSpecial?_slot (name := Str.ofString "__next__") hT F.slot_enumerate_next
    (wpAny_call_entry F.slot_enumerate_next hT F.entry_enumerate_next ?_ (F.args_enumerate_next_1 _))))
  show wpAny _ _ (field (.ref e) 2 >>= _) _ _ _
  refine wpAny_bind (wpAny_field he rfl (x := .ref it) rfl ?_)
  refine wpAny_bind (xD hh hit hl hx fun h' x he' hx' => ?_)
  obtain ⟨o, ho, hc⟩ := hx'
  refine wpAny_bind (wpAny_isInstance (T := "StopIteration") (b := true) ⟨o, ho, hc⟩ isSubtype_stop ?_)
  exact wpAny_pure (hQ _ he')
theorem ZO {prog : Program} {w : World} {A : Around} (hh : A.handled = none) (it l : Addr) (hne : l ≠ it) (items : Array Value) :
    Draws prog w A it [it, l] items.size (fun i v => items[i]? = some v) (fun i h => h.IsTupleIter it l i ∧ h.IsTuple l items) where
  live := fun _ _ st => let ⟨o, ho, _⟩ := st.1; ⟨o, ho⟩
  frame := fun _ _ _ st hk => by
    obtain ⟨⟨o, ho, r⟩, ⟨o2, ho2, r2⟩⟩ := st
    exact ⟨⟨o, hk it (by simp) o ho, r⟩, ⟨o2, hk l (by simp) o2 ho2, r2⟩⟩
  item := fun i s Q E hi st hQ => by
    refine wZ st.1 st.2 (x := items[i]) (by simp [hi]) fun h' hit' hs' => ?_
    exact hQ _ h' s.toks (by simp [hi]) ⟨hit', st.2.extBut hs'.extBut hne⟩ hs'
  done := fun s Q E st hE => xD hh st.1 st.2 (by simp) hE
theorem Yq (l : Addr) (items : Array Value) (n : Nat) (dd : Option Addr) (sl : Array (Option Value)) :
    Meets (Builtin.«enumerate.__new__» ⟨[.type "enumerate", .ref l], []⟩) (fun _ R s => s.heap.get? l = some { cls := .type "tuple", dict := dd, data := .seq items n, slots := sl } ∧
      R (.ok (.ret (.ref (s.heap.push { cls := .type "tuple_iterator", data := .fields #[.ref l, .int 0 0] }).objs.size)))
        { s with heap := (s.heap.push { cls := .type "tuple_iterator", data := .fields #[.ref l, .int 0 0] }).push { cls := .type "enumerate", data := .fields #[.none, .bool false, .ref s.heap.objs.size, rawInt 0, .none, .none] } }) :=
  .of_wp fun prog w A R s h => by
    obtain ⟨hp, g, d, tk, os⟩ := s; obtain ⟨hl, h⟩ := h
    have hsub := sub_enumerate
    have hL : Heap.IsTuple (Shared.heap ⟨hp, g, d, tk, os⟩) l items := ⟨_, hl, rfl, n, rfl⟩
    wp_walk using wpAny_loadPart' hl
    refine wpAny_stack_any fun st => wpAny_pure ?_
    split
    · rename_i c _ _ _ _ _
      cases (c == Value.type "enumerate")
      · wp_walk using wpAny_loadPart' hl, wpAny_pyIter_tuple hL
        exact ⟨_, rfl, h⟩
      · wp_walk using wpAny_loadPart' hl, wpAny_pyIter_tuple hL
        exact ⟨_, rfl, h⟩
    · wp_walk using wpAny_loadPart' hl, wpAny_pyIter_tuple hL
      exact ⟨_, rfl, h⟩
section
variable {prog : Program} {w : World} {A : Around} {E : Value → Shared → Prop} {s : Shared}
theorem vK {l : Addr} {items : Array Value} {Q : Value → Shared → Prop}
    (hl : s.heap.IsTuple l items)
    (h : ∀ h', IsEnum h' (s.heap.objs.size + 1) s.heap.objs.size 0 .none → h'.IsTupleIter s.heap.objs.size l 0 → h'.objs.size = s.heap.objs.size + 2 →
      (∀ b o, s.heap.get? b = some o → h'.get? b = some o) → Q (.ref (s.heap.objs.size + 1)) { s with heap := h' }) :
    wpAny (model prog w) A (call (.type "enumerate") [.ref l]) Q E s := by
  obtain ⟨⟨cls, dd, data, sl⟩, ho, hc, n, hd⟩ := hl
  simp only at hc hd
  subst hc hd
  refine callType_new F.called_enumerate (by decide) (F.typeCall_enumerate_1 _) (F.newCall_enumerate_1 _) (fun obj => F.args_object_init_2 obj _) F.entry_enumerate_new
    (Yq l items n dd sl) ⟨ho, ?_⟩
  have hz : (s.heap.push { cls := .type "tuple_iterator", data := .fields #[.ref l, .int 0 0] }).objs.size = s.heap.objs.size + 1 := Heap.size_push ..
  show _ ∧ _
  rw [hz]
  have he : IsEnum ((s.heap.push { cls := .type "tuple_iterator", data := .fields #[.ref l, .int 0 0] }).push
      { cls := .type "enumerate", data := .fields #[.none, .bool false, .ref s.heap.objs.size, rawInt 0, .none, .none] }) (s.heap.objs.size + 1) s.heap.objs.size 0 .none := by
    have := Heap.get?_push_size (s.heap.push { cls := .type "tuple_iterator", data := .fields #[.ref l, .int 0 0] })
      (o := { cls := .type "enumerate", data := .fields #[.none, .bool false, .ref s.heap.objs.size, rawInt 0, .none, .none] }) rfl
    rw [hz] at this; exact this
  refine ⟨⟨_, he, rfl⟩, h _ he ⟨_, Heap.get?_push_of_some _ (Heap.get?_push_size _ rfl), rfl, rfl⟩ (by rw [Heap.size_push, hz]) fun b o x => Heap.get?_push_of_some _ (Heap.get?_push_of_some _ x)⟩
end
end PySem
namespace L2
open PySem PySem.Spec PyProof.Rows
section
variable {X : Cx} {pins : List (Addr × Obj)} {σ : St} {H : Hp} {s : Shared} {h' : Heap}
theorem Inv.grown {ch : List Addr} {T : Addr} {o : HO} {t' : Nat} (I : Inv X pins σ H s) (hch : ∀ b ∈ ch, zdY X pins H b) (hT : s.heap.objs.size ≤ T) (k : ∀ b u, b ∉ ch → s.heap.get? b = some u → h'.get? b = some u)
    (new : yB X.prog X.w (upd H T o) h' T o) : Inv X pins σ (upd H T o) { s with heap := h', toks := t' } := by
  have hn : H T = none := I.hok.fresh hT
  have neT : ∀ b u, s.heap.get? b = some u → b ≠ T := fun b u e => Nat.ne_of_lt (Nat.lt_of_lt_of_le (Heap.lt_size e) hT)
  have nch : ∀ b u, H b = some u → b ∉ ch := fun b u e z => by rw [(hch b z).1] at e; cases e
  refine I.step (g' := s.gens) (d' := s.drawn) (ch := ch) (fun b hb => ?_) (fun b u _ _ hc e _ => k b u hc e) (fun b u _ _ hc e _ => ⟨u.slots, k b u hc e⟩) (fun b u _ e n => by rw [zr (neT b u e)]; exact n)
    (fun b u hc e => ⟨u, k b u hc e⟩) (fun b xs e => by rw [zr (zp e hn)]; exact e) (fun b u xs e => by rw [zr (zp e hn)]; exact e) (fun b ps e => ⟨#[], by rw [zr (zp e hn), e]; simp⟩) (fun m hm => ?_) (fun b u e => ?_) I.bare
  · obtain ⟨_, n1, _, n3, n4, n5⟩ := hch b hb
    exact ⟨n3, n1, n4, n5⟩
  · obtain ⟨ob, es, ep, ho, r⟩ := hm
    exact ⟨ob, es, ep, k _ ob (fun z => (hch _ z).2.1 rfl) ho, r⟩
  · by_cases hb : b = T
    · subst hb; rw [zq] at e; cases e; exact new
    · rw [zr hb] at e
      refine (I.hok b u e).stay (fun c v hc q => k c v ?_ q) (fun c q => by rw [zr (zp q hn)]; exact q) fun c xs q => by rw [zr (zp q hn)]; exact q
      rcases hc with z | z
      · rw [z]; exact nch b u e
      · exact nch c _ z
theorem Inv.turnedN {ch : List Addr} {t' : Nat} (I : Inv X pins σ H s) (hch : ∀ b ∈ ch, zdY X pins H b) (k : ∀ b u, b ∉ ch → s.heap.get? b = some u → h'.get? b = some u) : Inv X pins σ H { s with heap := h', toks := t' } := by
  have nch : ∀ b u, H b = some u → b ∉ ch := fun b u e z => by rw [(hch b z).1] at e; cases e
  refine I.step (g' := s.gens) (d' := s.drawn) (ch := ch) (fun b hb => ?_) (fun b u _ _ hc e _ => k b u hc e) (fun b u _ _ hc e _ => ⟨u.slots, k b u hc e⟩) (fun b u _ e n => n)
    (fun b u hc e => ⟨u, k b u hc e⟩) (fun b xs e => e) (fun b u xs e => e) (fun b ps e => ⟨#[], by rw [e]; simp⟩) (fun m hm => ?_) (fun b u e => ?_) I.bare
  · obtain ⟨_, n1, _, n3, n4, n5⟩ := hch b hb
    exact ⟨n3, n1, n4, n5⟩
  · obtain ⟨ob, es, ep, ho, r⟩ := hm
    exact ⟨ob, es, ep, k _ ob (fun z => (hch _ z).2.1 rfl) ho, r⟩
  · refine (I.hok b u e).stay (fun c v hc q => k c v ?_ q) (fun c q => q) fun c xs q => q
    rcases hc with z | z
    · rw [z]; exact nch b u e
    · exact nch c _ z
end
noncomputable def Iel (K : PySem.W.Frag) (a : Addr) : It :=
  ⟨fun i H => ∃ xs x, SqL K H a xs ∧ xs[i]? = some x, fun i H v H' => ∃ T x, v = .ref T ∧ H T = none ∧ H' = upd H T (.tup [.int i, x]) ∧ ∀ xs, SqL K H a xs → xs[i]? = some x, fun i H => ∃ xs, SqL K H a xs ∧ xs.length ≤ i⟩
noncomputable def Iet (K : PySem.W.Frag) (a : Addr) : It :=
  ⟨fun i H => ∃ xs x, SqT K H a xs ∧ xs[i]? = some x, fun i H v H' => ∃ T x, v = .ref T ∧ H T = none ∧ H' = upd H T (.tup [.int i, x]) ∧ ∀ xs, SqT K H a xs → xs[i]? = some x, fun i H => ∃ xs, SqT K H a xs ∧ xs.length ≤ i⟩
theorem zed {P : Program} {w : World} {K : PySem.W.Frag} {es : List Expr} {k : Nat} {tp : Pos} (a e it : Addr) (hne : e ≠ it) :
    ziU P w K (.Tuple es k tp) (Iel K a) [e, it] e (fun i h => (∃ old, IsEnum h e it i old) ∧ h.IsListIter it a i) where
  mem := by simp
  obj := fun i h st b hb => by
    obtain ⟨⟨old, he⟩, o, ho, _, hd⟩ := st
    rcases List.mem_cons.mp hb with rfl | hb
    · exact ⟨_, he, fun v z => by cases z⟩
    · rw [List.mem_singleton.mp hb]
      exact ⟨o, ho, fun v z => by rw [hd] at z; cases z⟩
  keep := fun i h h' st kk => by
    obtain ⟨⟨old, he⟩, hit⟩ := st
    exact ⟨⟨old, kk e (by simp) _ he⟩, hit.at fun o q => kk it (by simp) o q⟩
  item := by
    intro X hP hw hK hc i pins s σ H E I hf st hg
    subst hP hw hK
    obtain ⟨⟨old, he⟩, hit⟩ := st
    obtain ⟨xs, x, hq, hx⟩ := hg
    obtain ⟨its, rv, p, hz⟩ := I.list hq
    obtain ⟨u, hu, ru⟩ := rv.get hx
    refine wpAny_pyNext_enum_item he hit p.isList (x := u) (by simpa using hu) hne fun h1 ho1 hit1 hT1 hz1 hk1 => ?_
    refine ⟨_, rfl, wpAny_letOwnedTupleGo_enum ho1 fun h2 he2 hs2 => ?_⟩
    have hfr : H s.heap.objs.size = none := I.hok.fresh (Nat.le_refl _)
    have neE : s.heap.objs.size ≠ e := Nat.ne_of_gt (Heap.lt_size he)
    have hT2 : h2.get? s.heap.objs.size = some { cls := .type "tuple", data := .seq #[.int i s.toks, u] } := (hs2.2 _ neE).trans hT1
    refine ⟨.ref s.heap.objs.size, upd H s.heap.objs.size (.tup [.int i, x]), ?_, rfl, ⟨_, x, rfl, hfr, rfl, fun ys hy => by rw [I.list_inj hy hq]; exact hx⟩, ⟨⟨_, by simpa using he2⟩, hit1.at fun o q => (hs2.2 it (Ne.symm hne)).trans q⟩, fun b hb => ?_⟩
    · refine I.grown (ch := [e, it]) hf (Nat.le_refl _) (fun b v hb q => ?_) ?_
      · have n1 : b ≠ e := fun z => hb (by simp [z])
        have n2 : b ≠ it := fun z => hb (by simp [z])
        exact (hs2.2 b n1).trans (hk1 b v n1 n2 q)
      · exact ⟨by show 2 ≤ sizeLine; decide, [.int i s.toks, u], .cons ⟨_, rfl⟩ (.cons ru .nil), ⟨_, hT2, rfl, 0, rfl⟩⟩
    · obtain ⟨o, hb2, _⟩ : ∃ o, s.heap.get? b = some o ∧ True := by
        rcases List.mem_cons.mp hb with rfl | hb
        · exact ⟨_, he, trivial⟩
        · rw [List.mem_singleton.mp hb]
          obtain ⟨o, ho, _⟩ := hit
          exact ⟨o, ho, trivial⟩
      rw [zr (Nat.ne_of_lt (Heap.lt_size hb2))]
      exact (hf b hb).1
  done := by
    intro X hP hw hK hc i pins s σ H E I hf st hg
    subst hP hw hK
    obtain ⟨⟨old, he⟩, hit⟩ := st
    obtain ⟨xs, hq, hx⟩ := hg
    obtain ⟨its, rv, p, hz⟩ := I.list hq
    have hl := rv.length
    exact wpAny_pyNext_enum_end (I.ok.hd hc) he hit p.isList (by simp; omega) fun h1 hx1 => ⟨rfl, I.turnedN (ch := [e, it]) (t' := s.toks) hf fun b v hb q => hx1 b v (fun z => hb (by simp [z])) q⟩
  self := fun _ _ _ _ _ st h => wpAny_pyIter_enum st.1.choose_spec h
theorem zd0 {P : Program} {w : World} {K : PySem.W.Frag} {es : List Expr} {k : Nat} {tp : Pos} (a e it : Addr) (hne : e ≠ it) (hai : a ≠ it) (hae : a ≠ e) :
    ziU P w K (.Tuple es k tp) (Iet K a) [e, it] e (fun i h => (∃ old, IsEnum h e it i old) ∧ h.IsTupleIter it a i) where
  mem := by simp
  obj := fun i h st b hb => by
    obtain ⟨⟨old, he⟩, o, ho, _, hd⟩ := st
    rcases List.mem_cons.mp hb with rfl | hb
    · exact ⟨_, he, fun v z => by cases z⟩
    · rw [List.mem_singleton.mp hb]
      exact ⟨o, ho, fun v z => by rw [hd] at z; cases z⟩
  keep := fun i h h' st kk => by
    obtain ⟨⟨old, he⟩, o, ho, r⟩ := st
    exact ⟨⟨old, kk e (by simp) _ he⟩, o, kk it (by simp) o ho, r⟩
  item := by
    intro X hP hw hK hc i pins s σ H E I hf st hg
    subst hP hw hK
    obtain ⟨⟨old, he⟩, hit⟩ := st
    obtain ⟨xs, x, hq, hx⟩ := hg
    obtain ⟨its, rv, p, hz⟩ := I.tuple hq
    obtain ⟨u, hu, ru⟩ := rv.get hx
    have p' : s.heap.IsTuple a its.toArray := p
    have D := ZO (prog := X.prog) (w := X.w) (A := X.A.in1) (I.ok.hd hc) it a hai its.toArray
    have hlt : i < its.toArray.size := by
      obtain ⟨h1, _⟩ := List.getElem?_eq_some_iff.mp hu
      simpa using h1
    refine wpAny_pyNext_enum_itemD D he ⟨hit, p'⟩ hlt hne (by simp [hne, Ne.symm hae]) fun u' h1 tk hP1 ho1 hit1 hT1 hz1 hk1 => ?_
    have eu : u' = u := by
      have : its[i]? = some u' := by simpa using hP1
      rw [hu] at this
      exact (Option.some.inj this).symm
    subst eu
    refine ⟨_, rfl, wpAny_letOwnedTupleGo_enum ho1 fun h2 he2 hs2 => ?_⟩
    have hfr : H s.heap.objs.size = none := I.hok.fresh (Nat.le_refl _)
    have neE : s.heap.objs.size ≠ e := Nat.ne_of_gt (Heap.lt_size he)
    have hT2 : h2.get? s.heap.objs.size = some { cls := .type "tuple", data := .seq #[.int i tk, u'] } := (hs2.2 _ neE).trans hT1
    refine ⟨.ref s.heap.objs.size, upd H s.heap.objs.size (.tup [.int i, x]), ?_, rfl, ⟨_, x, rfl, hfr, rfl, fun ys hy => by rw [I.tuple_inj hy hq]; exact hx⟩, ⟨⟨_, by simpa using he2⟩, ?_⟩, fun b hb => ?_⟩
    · refine I.grown (ch := [e, it]) hf (Nat.le_refl _) (fun b v hb q => ?_) ?_
      · have n1 : b ≠ e := fun z => hb (by simp [z])
        have n2 : b ≠ it := fun z => hb (by simp [z])
        exact (hs2.2 b n1).trans (hk1 b v n1 n2 q)
      · exact ⟨by show 2 ≤ sizeLine; decide, [.int i tk, u'], .cons ⟨_, rfl⟩ (.cons ru .nil), ⟨_, hT2, rfl, 0, rfl⟩⟩
    · obtain ⟨o, ho, r⟩ := hit1.1
      exact ⟨o, (hs2.2 it (Ne.symm hne)).trans ho, r⟩
    · obtain ⟨o, hb2, _⟩ : ∃ o, s.heap.get? b = some o ∧ True := by
        rcases List.mem_cons.mp hb with rfl | hb
        · exact ⟨_, he, trivial⟩
        · rw [List.mem_singleton.mp hb]
          obtain ⟨o, ho, _⟩ := hit
          exact ⟨o, ho, trivial⟩
      rw [zr (Nat.ne_of_lt (Heap.lt_size hb2))]
      exact (hf b hb).1
  done := by
    intro X hP hw hK hc i pins s σ H E I hf st hg
    subst hP hw hK
    obtain ⟨⟨old, he⟩, hit⟩ := st
    obtain ⟨xs, hq, hx⟩ := hg
    obtain ⟨its, rv, p, hz⟩ := I.tuple hq
    have hl := rv.length
    have p' : s.heap.IsTuple a its.toArray := p
    exact vF (I.ok.hd hc) he hit p' (by simp; omega) fun h1 hx1 => ⟨rfl, I.turnedN (ch := [e, it]) (t' := s.toks) hf fun b v hb q => hx1 b v (fun z => hb (by simp [z])) q⟩
  self := fun _ _ _ _ _ st h => wpAny_pyIter_enum st.1.choose_spec h
noncomputable def zl8 (K : PySem.W.Frag) (ta : TA) : TI := fun σ H R => ta σ H fun vs H1 => ∃ a, vs = [.ref a] ∧ ((∃ xs, H1 a = some (.lst xs) ∧ R (Iel K a) H1) ∨ (∃ xs, SqT K H1 a xs ∧ R (Iet K a) H1))
theorem zie {X : Cx} {es : List Expr} {k : Nat} {tp : Pos} {a : Expr} {ta : TA} {p pos : Pos} (hg : Gl X "enumerate") (hm : X.mg "enumerate" = none) (hb : bootBuiltins "enumerate" = some (.type "enumerate")) (ha : PA X [a] ta)
    (hs : starEach [a] X.env = [(false, eval a X.env)] := by rfl) : PI X (.Tuple es k tp) (.Call (.Name "enumerate" p) [a] [] pos) (zl8 X.K ta) := by
  intro pins s σ H R I h
  refine Call_ (Xe I hg hm hb (PyProof.Rows.callWith_type1 (thn (ha pos pins s σ H _ I h) fun us s1 hh9 => ?_) hs rfl))
  obtain ⟨vs, H1, I1, r1, q1⟩ := hh9
  obtain ⟨l, e, q⟩ := q1
  subst e
  obtain ⟨u, rfl, ru⟩ := ZU r1
  cases ru
  have hn : ∀ b, s1.heap.objs.size ≤ b → zdY X pins H1 b := fun b hb => I1.fpOk hb (I1.hok.fresh hb)
  have hne : s1.heap.objs.size + 1 ≠ s1.heap.objs.size := by omega
  have hfp : ∀ b ∈ [s1.heap.objs.size + 1, s1.heap.objs.size], zdY X pins H1 b := fun b hb => by
    rcases List.mem_cons.mp hb with rfl | hb
    · exact hn _ (Nat.le_succ _)
    · rw [List.mem_singleton.mp hb]; exact hn _ (Nat.le_refl _)
  rcases q with ⟨xs, hx, q⟩ | ⟨xs, hx, q⟩
  · obtain ⟨_, its, n, _, e⟩ : xs.length ≤ sizeLine ∧ ∃ (its : List Value) (n : Nat), yl xs its ∧ s1.heap.get? l = some { cls := .type "list", data := .seq its.toArray n } := I1.hok _ _ hx
    refine call_enumerate_1 e fun h2 he hit hz hk => wpAny_pyIter_enum he ?_
    exact ⟨_, _, _, _, H1, rfl, I1.kept (t' := s1.toks) hk, zed l _ _ hne, ⟨⟨_, he⟩, hit⟩, hfp, q⟩
  · obtain ⟨its, _, p1, _⟩ := I1.tuple hx
    have lt : l < s1.heap.objs.size := by
      obtain ⟨o, ho, _⟩ := p1
      exact Heap.lt_size ho
    refine vK (show s1.heap.IsTuple l its.toArray from p1) fun h2 he hit hz hk => wpAny_pyIter_enum he ?_
    exact ⟨_, _, _, _, H1, rfl, I1.kept (t' := s1.toks) hk, zd0 l _ _ hne (Nat.ne_of_lt lt) (Nat.ne_of_lt (Nat.lt_succ_of_lt lt)), ⟨⟨_, he⟩, hit⟩, hfp, q⟩
end L2
namespace HT
open PySem PyProof.Rows
noncomputable def lexLe : List Int → List Int → Bool
  | [], _ => true
  | _ :: _, [] => false
  | x :: xs, y :: ys => if x = y then lexLe xs ys else decide (x ≤ y)
theorem zeh (x y : Int) (xs ys : List Int) : lexLe (x :: xs) (y :: ys) = if x = y then lexLe xs ys else decide (x ≤ y) := rfl
theorem zhn (A : Around) (s : Shared) (a : Int) (t : Tok) (c : Int) (u : Tok) (prog : Program) (w : World) (E : Value → Shared → Prop) (Q : Value → Shared → Prop) (h : Q (.bool (decide (a ≤ c))) s) :
    wpAny (model prog w) A (richCompare .LtE (.int a t) (.int c u)) Q E s :=
  (PyProof.Rows.le_int h : wpAny (model prog w) A (compareOp .LtE (.int a t) (.int c u)) Q E s)
section
open PySem.SeqAt
open PySem.AutoSeq1 (wpAny_loadPart')
open PySem.MeetsSeq PySem.MeetsSeq2 PySem.MeetsSeq3
theorem XY (l b : Addr) (items items2 : Array Value) (n n2 : Nat) (dd dd2 : Option Addr) (sl sl2 : Array (Option Value)) (ns ms : List Int) (hi : IntsAre items.toList ns) (hj : IntsAre items2.toList ms) :
    Meets (Builtin.«tuple.__le__» ⟨[.ref l, .ref b], []⟩)
      (fun _ R s => s.heap.get? l = some { cls := .type "tuple", dict := dd, data := .seq items n, slots := sl } ∧ s.heap.get? b = some { cls := .type "tuple", dict := dd2, data := .seq items2 n2, slots := sl2 } ∧
        R (.ok (.ret (.bool (lexLe ns ms)))) s) :=
  .of_wp fun prog w A R s h => by
    obtain ⟨hp, g, d, tk, os⟩ := s; obtain ⟨hl, hb, h⟩ := h
    have f2 := AutoSeq1.sub_tuple_tuple
    have z1 : items.size = ns.length := by rw [← hi.length]; simp
    have z2 : items2.size = ms.length := by rw [← hj.length]; simp
    wp_walk using wpAny_loadPart' hl, wpAny_loadPart' hb, wpAny_forIn_list _ (fun rest b s' => b.1 = none ∧ s' = ⟨hp, g, d, tk, os⟩ ∧ ∃ (vs ws : List Value) (ns' ms' : List Int), rest = vs.zip ws ∧
      IntsAre vs ns' ∧ IntsAre ws ms' ∧ ns'.length + items2.size = ms'.length + items.size ∧ R (.ok (.ret (.bool (lexLe ns' ms')))) ⟨hp, g, d, tk, os⟩) _
    case turn =>
      rintro ⟨y, x⟩ rest b s' ⟨hb', rfl, vs, ws, ns', ms', hz, hvi, hwi, hlen, hR⟩
      cases hvi with
      | nil => rw [List.zip_nil_left] at hz; cases hz
      | cons a t hvi' =>
        cases hwi with
        | nil => rw [List.zip_nil_right] at hz; cases hz
        | cons c u hwi' =>
          rw [List.zip_cons_cons] at hz
          injection hz with hyx hrest
          injection hyx with hy hx
          subst hy hx
          rw [zeh] at hR
          simp only [List.length_cons] at hlen
          obtain ⟨e, he, hiff⟩ := zhr A.in1 ⟨hp, g, d, tk, os⟩ a t c u
          refine wpAny_bind (he prog w _ _ ?_)
          cases e with
          | true =>
            rw [if_pos (hiff.mp rfl)] at hR
            wp_walk
            exact ⟨rfl, rfl, _, _, _, _, hrest, hvi', hwi', by omega, hR⟩
          | false =>
            rw [if_neg (fun q => absurd (hiff.mpr q) Bool.false_ne_true)] at hR
            have hri := zhn A.in1 ⟨hp, g, d, tk, os⟩ a t c u prog w
            wp_walk using hri
            exact ⟨_, rfl, by simpa using hR⟩
    case fin =>
      rintro ⟨b1, b2⟩ s' ⟨hb', rfl, vs, ws, ns', ms', hz, hvi, hwi, hlen, hR⟩
      simp only at hb'
      subst hb'
      have hv : lexLe ns' ms' = decide (items.size ≤ items2.size) := by
        cases hvi with
        | nil =>
          simp only [List.length_nil] at hlen
          show true = _
          exact (decide_eq_true (by omega)).symm
        | cons a t hv =>
          cases hwi with
          | nil =>
            simp only [List.length_nil, List.length_cons] at hlen
            show false = _
            exact (decide_eq_false (by omega)).symm
          | cons c u hw =>
            rw [List.zip_cons_cons] at hz
            cases hz
      rw [hv] at hR
      wp_walk
      exact ⟨_, rfl, by simpa [Builtin.Tuple.tupleCompareSizes] using hR⟩
    case h =>
      exact ⟨rfl, rfl, items.toList, items2.toList, ns, ms, rfl, hi, hj, by omega, h⟩
end
section
variable {prog : Program} {w : World} {A : Around} {E : Value → Shared → Prop} {s : Shared}
theorem le_tupInts {l b : Addr} {items items2 : Array Value} {ns ms : List Int} {Q : Value → Shared → Prop} (hl : IsTup s.heap l items) (hb : IsTup s.heap b items2) (hi : IntsAre items.toList ns) (hj : IntsAre items2.toList ms)
    (hu : A.units < cLine) (h : Q (.bool (lexLe ns ms)) s) : wpAny (model prog w) A (compareOp .LtE (.ref l) (.ref b)) Q E s := by
  obtain ⟨⟨cls, dd, data, sl⟩, ho, hc, n, hd⟩ := id hl
  obtain ⟨⟨cls2, dd2, data2, sl2⟩, ho2, hc2, n2, hd2⟩ := id hb
  simp only at hc hd hc2 hd2
  subst hc hd hc2 hd2
  exact richCompare_meets_room (op := .LtE) ⟨_, ho, rfl⟩ ⟨_, ho2, rfl⟩ PySem.F.slot_tuple_le PySem.F.entry_tuple_le (PySem.F.args_tuple_le_2 _ _) (XY l b items items2 n n2 dd dd2 sl sl2 ns ms hi hj)
    ⟨ho, ho2, show Value.bool (lexLe ns ms) ≠ Value.notImplemented ∧ Q (.bool (lexLe ns ms)) s from ⟨(fun x => nomatch x), h⟩⟩ hu
end
end HT
namespace L2
open PySem PySem.Spec PyProof.Rows
noncomputable def rLeT (K : PySem.W.Frag) : R2 := fun x y H Q => ∃ a b ns ms, x = .ref a ∧ y = .ref b ∧ SqT K H a (ns.map V.int) ∧ SqT K H b (ms.map V.int) ∧ Q (.bl (HT.lexLe ns ms)) H
theorem zkp {X : Cx} (hu : X.A.units < cLine) : OpR X (compareOp .LtE) (rLeT X.K) := by
  intro pins s σ H x y v u Q I rx ry h
  obtain ⟨a, b, ns, ms, rfl, rfl, ha, hb, q⟩ := h
  cases rx
  cases ry
  obtain ⟨its, r1, p1, _⟩ := I.tuple ha
  obtain ⟨its2, r2, p2, _⟩ := I.tuple hb
  have i1 : IntsAre its.toArray.toList ns := ww r1
  have i2 : IntsAre its2.toArray.toList ms := ww r2
  exact HT.le_tupInts p1 p2 i1 i2 hu ⟨.bl (HT.lexLe ns ms), H, I, rfl, q⟩
end L2
namespace HT
open PySem PyProof.Rows
section
variable {prog : Program} {w : World} {A : Around} {E : Value → Shared → Prop} {s : Shared}
theorem own_getItem_whole {t sl : Addr} {items : Array Value} {vl vu : Value} {lo hi : Option Int} {Q : Value → Shared → Prop} (ht : IsTup s.heap t items) (hs : s.heap.IsSliceOf sl vl vu .none) (pl : IsPart vl lo) (pu : IsPart vu hi)
    (hw : sIx items.size 0 lo = 0 ∧ sIx items.size items.size hi = items.size) (h : Q (.ref t) s) : wpAny (model prog w) A (getItem (.ref t) (.ref sl)) Q E s := by
  obtain ⟨os, hos, hcs, hds⟩ := id hs
  have hTs : s.TypeIs (.ref sl) "slice" := ⟨os, hos, hcs⟩
  unfold getItem
  try with_reducible refine wpAny_holding ?_
  first | refine wpAny_bind (wpAny_pure ?_) | skip
  refine wpAny_bind (wpAny_sequenceKey ht.typeIs (by decide) ?_)
  refine wpAny_bind (wpAny_callSpecial?_slot (name := Str.ofString "__getitem__") ht.typeIs PyProof.Rows.slot_tuple_getitem
    (wpAny_call_entry PyProof.Rows.slot_tuple_getitem ht.typeIs entry_tuple_getitem ?_ (args_tuple_getitem _ _)))
  show wpAny _ _ (Builtin.Tuple.tupleItemsOf (.ref t) >>= _) _ _ s
  refine wpAny_bind (tupleItemsOf_ ht ?_)
  refine wpAny_bind (wpAny_typeOf hTs ?_)
  rw [if_pos (by decide)]
  refine wpAny_bind (wN hs pl pu ?_)
  have hyes : (((sIx items.size 0 lo : Nat) : Int) == 0 && (1 : Int) == 1 && (sIx items.size items.size hi - sIx items.size 0 lo) == items.size) = true := by
    rw [hw.1, hw.2]
    simp
  show wpAny _ _ (if (((sIx items.size 0 lo : Nat) : Int) == 0 && (1 : Int) == 1 && (sIx items.size items.size hi - sIx items.size 0 lo) == items.size) = true then _ else _) _ _ s
  rw [if_pos hyes]
  refine wpAny_bind (m := Builtin.Tuple.tupleIsExact (.ref t)) ?_
  unfold Builtin.Tuple.tupleIsExact
  refine wpAny_bind (wpAny_typeOf ht.typeIs (wpAny_pure ?_))
  rw [if_pos (by decide)]
  refine wpAny_bind (wpAny_rule ?_)
  first
    | exact wpAny_pure ⟨_, rfl, wpAny_pure h⟩
    | exact wpAny_bind (wpAny_pure (wpAny_pure ⟨_, rfl, wpAny_pure h⟩))
end
end HT
namespace L2
open PySem PySem.Spec PyProof.Rows
end L2
namespace PySem
open Sem (wp)
section
variable {prog : Program} {w : World} {A : Around} {E : Value → Shared → Prop} {s : Shared} {z TI TO i1 i2 : Addr} {fp1 fp2 : List Addr} {n1 n2 k1 k2 : Nat} {P1 P2 : Nat → Value → Prop} {St1 St2 : Nat → Heap → Prop} {a b : Value}
end
end PySem
namespace PySem
section
variable {prog : Program} {w : World} {A : Around} {E : Value → Shared → Prop} {s : Shared}
variable {z TI TO i1 i2 : Addr} {fp1 fp2 : List Addr} {n1 n2 k1 k2 : Nat} {P1 P2 : Nat → Value → Prop} {St1 St2 : Nat → Heap → Prop} {a b : Value}
end
end PySem
namespace L2
open PySem PySem.Spec PyProof.Rows
end L2
namespace OwnSort
open PySem PyProof.Rows
section pure
variable {κ : KeyKind} {xs : Array Keyed}
theorem up1 {x : Nat} (hs : SortedToK κ xs x) (hx : 1 ≤ x) (h : κ.kle (KK κ xs (x - 1)) (KK κ xs x)) : SortedToK κ xs (x + 1) := fun i j hij hj => by
  by_cases c : j < x
  · exact hs i j hij c
  · obtain rfl : j = x := by omega
    by_cases d : i = j
    · rw [d]; exact KeyOrd.kle_refl _
    · exact KeyOrd.kle_trans (hs i (j - 1) (by omega) (by omega)) h
theorem zgu {x : Nat} (hs : NonIncK κ xs x) (hx : 1 ≤ x) (h : κ.kle (KK κ xs x) (KK κ xs (x - 1))) : NonIncK κ xs (x + 1) := fun i j hij hj => by
  by_cases c : j < x
  · exact hs i j hij c
  · obtain rfl : j = x := by omega
    by_cases d : i = j
    · rw [d]; exact KeyOrd.kle_refl _
    · exact KeyOrd.kle_trans h (hs i (j - 1) (by omega) (by omega))
theorem ZY {ys : Array Keyed} {n : Nat} (e : ∀ i, KK κ ys i = KK κ xs i) (h : NonIncK κ xs n) : NonIncK κ ys n := fun i j hij hj => by rw [e, e]; exact h i j hij hj
theorem turned {n : Nat} (hn : n ≤ xs.size) (h : NonIncK κ xs n) : SortedToK κ (mirror xs 0 n ((n - 0) / 2)) n := fun i j hij hj => by
  rw [KK_mirror hn, KK_mirror hn, if_pos ⟨by omega, by omega⟩, if_pos ⟨by omega, by omega⟩]
  exact h _ _ (by omega) (by omega)
theorem zd1 : SortedToK κ xs 1 := fun i j hij hj => by
  obtain rfl : i = j := by omega
  exact KeyOrd.kle_refl _
theorem zdP : NonIncK κ xs 1 := fun i j hij hj => by
  obtain rfl : i = j := by omega
  exact KeyOrd.kle_refl _
end pure
set_option genInjectivity false in
set_option genSizeOf false in
set_option genCtorIdx false in
structure SB (k : SortKind) (a₀ : Array Keyed) (st : SortSt) : Prop where
  pm : (arrOf st).Perm a₀
  kd : kindOf st = k
  fl : failedOf st = none
  pd : pendingOf st = #[]
theorem SB.sz {k : SortKind} {a₀ : Array Keyed} {st : SortSt} (B : SB k a₀ st) : (arrOf st).size = a₀.size := B.pm.size_eq
theorem SB.put {k : SortKind} {a₀ xs : Array Keyed} {st : SortSt} (B : SB k a₀ st) (p : xs.Perm (arrOf st)) : SB k a₀ (setArr st xs) := ⟨p.trans B.pm, B.kd, B.fl, B.pd⟩
section
variable {prog : Program} {w : World} {A : Around} {E : Value → Shared → Prop} {s : Shared} {a₀ : Array Keyed} {κ : KeyKind} {k : SortKind} {st : SortSt}
noncomputable def zf6 (prog : Program) (w : World) (A : Around) (E : Value → Shared → Prop) (s : Shared) (a₀ : Array Keyed) (κ : KeyKind) (k : SortKind) : Prop :=
  ∀ (st : SortSt) (i j : Nat) (Q : Option Bool → SortSt → Prop), SB k a₀ st → i < a₀.size → j < a₀.size → Q (some (κ.blt (KK κ (arrOf st) i) (KK κ (arrOf st) j))) st → wpS (model prog w) A E s (ltAt' i j) Q st
theorem zes {a n : Nat} {Q : AscSt → SortSt → Prop} (L : zf6 prog w A E s a₀ κ k) (hn : n ≤ a₀.size) (ha : 1 ≤ a) (han : a ≤ n) (B : SB k a₀ st) (hs : SortedToK κ (arrOf st) a)
    (h : ∀ m, a ≤ m → m ≤ n → SortedToK κ (arrOf st) m → (m = n ∨ κ.klt (KK κ (arrOf st) m) (KK κ (arrOf st) (m - 1))) → Q (none, m) st) : wpS (model prog w) A E s (ascLoop a n) Q st := by
  unfold ascLoop
  refine wpS_forRange (I := fun x c t => (t = st ∧ c = (none, x)) ∧ SortedToK κ (arrOf st) x) (fun x c t h1 h2 hI => ?_) (fun c t hI => ?_) ⟨⟨rfl, rfl⟩, hs⟩
  · obtain ⟨⟨rfl, rfl⟩, hx⟩ := hI
    refine wpS_bind (L _ x (x - 1) _ B (by omega) (by omega) ?_)
    cases c : κ.blt (KK κ (arrOf t) x) (KK κ (arrOf t) (x - 1)) with
    | true => exact wpS_pure (h x h1 (by omega) hx (.inr c))
    | false => exact wpS_pure ⟨⟨rfl, rfl⟩, up1 hx (by omega) c⟩
  · obtain ⟨⟨rfl, rfl⟩, hx⟩ := hI
    have e : max a n = n := by omega
    rw [e] at hx ⊢
    exact h n han (Nat.le_refl _) hx (.inl rfl)
theorem zdA {n m : Nat} {Q : Option Nat → SortSt → Prop} (L : zf6 prog w A E s a₀ κ k) (hm : m ≤ a₀.size) (h1 : 1 ≤ n) (hnm : n ≤ m) (B : SB k a₀ st) (hs : NonIncK κ (arrOf st) n)
    (h : ∀ r t, SB k a₀ t → 1 ≤ r → r ≤ m → SortedToK κ (arrOf t) r → Q (some r) t) : wpS (model prog w) A E s (tail3 n m) Q st := by
  unfold tail3
  have B' := B.put (mirror_perm (arrOf st) 0 n ((n - 0) / 2))
  exact wpS_bind (wpS_reverse (wpS_bind (zes L hm h1 hnm B' (turned (by rw [B.sz]; omega) hs) fun r g1 g2 g3 _ => wpS_pure (h r _ B' (by omega) g2 g3))))
theorem zhp {n m : Nat} {Q : DescSt → SortSt → Prop} (L : zf6 prog w A E s a₀ κ k) (hm : m ≤ a₀.size) (h1 : 1 ≤ n) (hnm : n ≤ m) (B : SB k a₀ st) (hs : NonIncK κ (arrOf st) n)
    (h : ∀ r q t, SB k a₀ t → n ≤ r → r ≤ m → NonIncK κ (arrOf t) r → q + 1 ≤ r → (∀ i, r - (q + 1) ≤ i → i < r → KK κ (arrOf t) i = KK κ (arrOf t) (r - 1)) → Q (none, r, q) t) : wpS (model prog w) A E s (descLoop n m) Q st := by
  unfold descLoop
  refine wpS_forRange (I := fun x c t => ∃ q, c = (none, x, q) ∧ SB k a₀ t ∧ NonIncK κ (arrOf t) x ∧ q + 1 ≤ x ∧ ∀ i, x - (q + 1) ≤ i → i < x → KK κ (arrOf t) i = KK κ (arrOf t) (x - 1))
    (fun x c t g1 g2 hI => ?_) (fun c t hI => ?_) ⟨0, rfl, B, hs, h1, fun i c1 c2 => by rw [show i = n - 1 from Nat.le_antisymm (Nat.le_sub_one_of_lt c2) c1]⟩
  · obtain ⟨q, rfl, B1, ni, hq, he⟩ := hI
    have hxs : x < a₀.size := Nat.lt_of_lt_of_le g2 hm
    have hxs1 : x - 1 < a₀.size := Nat.lt_of_le_of_lt (Nat.sub_le _ _) hxs
    have hx1 : 1 ≤ x := Nat.le_trans h1 g1
    have hz : x ≤ (arrOf t).size := by rw [B1.sz]; exact Nat.le_of_lt hxs
    refine wpS_bind (L _ x (x - 1) _ B1 hxs hxs1 ?_)
    cases c : κ.blt (KK κ (arrOf t) x) (KK κ (arrOf t) (x - 1)) with
    | true =>
      have d := zgu ni hx1 (KeyOrd.kle_of_klt c)
      by_cases hq0 : q > 0
      · show wpS _ _ _ _ (if q > 0 then _ else _) _ _
        rw [if_pos hq0]
        exact wpS_bind (wpS_reverse (wpS_pure ⟨0, rfl, B1.put (mirror_perm _ _ _ _), ZY (KK_mirror_equal hz he) d, Nat.succ_le_succ (Nat.zero_le _), fun i c1 c2 => by rw [show i = x + 1 - 1 from Nat.le_antisymm (Nat.le_of_lt_succ c2) c1]⟩))
      · show wpS _ _ _ _ (if q > 0 then _ else _) _ _
        rw [if_neg hq0]
        exact wpS_pure ⟨0, rfl, B1, d, Nat.succ_le_succ (Nat.zero_le _), fun i c1 c2 => by rw [show i = x + 1 - 1 from Nat.le_antisymm (Nat.le_of_lt_succ c2) c1]⟩
    | false =>
      refine wpS_bind (L _ (x - 1) x _ B1 hxs1 hxs ?_)
      cases c2 : κ.blt (KK κ (arrOf t) (x - 1)) (KK κ (arrOf t) x) with
      | true => exact wpS_pure (h x q t B1 g1 (Nat.le_of_lt g2) ni hq he)
      | false =>
        have same : KK κ (arrOf t) x = KK κ (arrOf t) (x - 1) := KeyOrd.kle_antisymm c2 c
        refine wpS_pure ⟨q + 1, rfl, B1, zgu ni hx1 c2, Nat.succ_le_succ hq, fun i d1 d2 => ?_⟩
        show KK κ (arrOf t) i = KK κ (arrOf t) x
        by_cases di : i = x
        · rw [di]
        · rw [same]; exact he i (by omega) (by omega)
  · obtain ⟨q, rfl, B1, ni, hq, he⟩ := hI
    have e : max n m = m := Nat.max_eq_right hnm
    rw [e] at ni hq he ⊢
    exact h m q t B1 hnm (Nat.le_refl _) ni hq he
theorem Zm {n m : Nat} {Q : Option Nat → SortSt → Prop} (L : zf6 prog w A E s a₀ κ k) (hm : m ≤ a₀.size) (hnm : n + 1 ≤ m) (B : SB k a₀ st) (hs : NonIncK κ (arrOf st) (n + 1))
    (h : ∀ r t, SB k a₀ t → 1 ≤ r → r ≤ m → SortedToK κ (arrOf t) r → Q (some r) t) : wpS (model prog w) A E s (descPart n m) Q st := by
  unfold descPart
  refine wpS_bind (wpS_lift (wpAny_rule ⟨rfl, wpS_bind (zhp L hm (by omega) hnm B hs fun r q t B1 r1 r2 ni hq he => ?_)⟩))
  have hz : r ≤ (arrOf t).size := by rw [B1.sz]; omega
  by_cases hq0 : q > 0
  · show wpS _ _ _ _ (if q > 0 then _ else _) _ _
    rw [if_pos hq0]
    exact wpS_bind (wpS_reverse (zdA (n := r) L hm (by omega) r2 (B1.put (mirror_perm _ _ _ _)) (ZY (KK_mirror_equal hz he) ni) h))
  · show wpS _ _ _ _ (if q > 0 then _ else _) _ _
    rw [if_neg hq0]
    exact zdA (n := r) L hm (by omega) r2 B1 ni h
theorem zja {m : Nat} {Q : Option Nat → SortSt → Prop} (L : zf6 prog w A E s a₀ κ k) (hm : m ≤ a₀.size) (h1 : 1 ≤ m) (B : SB k a₀ st)
    (h : ∀ r t, SB k a₀ t → 1 ≤ r → r ≤ m → SortedToK κ (arrOf t) r → Q (some r) t) : wpS (model prog w) A E s (countRun' 0 m) Q st := by
  rw [countRun0_eq]
  refine wpS_bind (zes L hm (Nat.le_refl 1) h1 B zd1 fun n n1 n2 sn or => ?_)
  show wpS _ _ _ _ (if (n == m) = true then _ else if n > 1 then _ else _) _ _
  by_cases e : n = m
  · rw [if_pos (by rw [e]; exact beq_self_eq_true m)]
    exact wpS_pure (h n st B n1 n2 sn)
  · rw [if_neg (fun z => e (eq_of_beq z))]
    have lt := or.resolve_left e
    by_cases g : n > 1
    · rw [if_pos g]
      refine wpS_bind (L _ 0 (n - 1) _ B (by omega) (by omega) ?_)
      cases c : κ.blt (KK κ (arrOf st) 0) (KK κ (arrOf st) (n - 1)) with
      | true => exact wpS_pure (h n st B n1 n2 sn)
      | false =>
        have hz : n ≤ (arrOf st).size := by rw [B.sz]; omega
        have eq : ∀ i, 0 ≤ i → i < n → KK κ (arrOf st) i = KK κ (arrOf st) (n - 1) := fun i _ hi =>
          KeyOrd.kle_antisymm (sn i (n - 1) (by omega) (by omega)) (KeyOrd.kle_trans c (sn 0 i (by omega) hi))
        have ni : NonIncK κ (arrOf st) n := fun i j _ hj => by rw [eq i (by omega) (by omega), eq j (by omega) hj]; exact KeyOrd.kle_refl _
        exact wpS_bind (wpS_reverse (Zm L hm (by omega) (B.put (mirror_perm _ _ _ _)) (ZY (KK_mirror_equal hz eq) (zgu ni (by omega) (KeyOrd.kle_of_klt lt))) h))
    · rw [if_neg g]
      obtain rfl : n = 1 := by omega
      exact Zm L hm (by omega) B (zgu zdP (Nat.le_refl 1) (KeyOrd.kle_of_klt lt)) h
theorem zk0 {l u md : Nat} (h : (l + u) / 2 = md) (c : ¬ l ≥ u) : l ≤ md ∧ md < u := by
  have c' : l < u := Nat.lt_of_not_le c
  rw [← h]
  exact ⟨(Nat.le_div_iff_mul_le (by decide)).mpr (by rw [Nat.mul_two]; exact Nat.add_le_add_left (Nat.le_of_lt c') l), (Nat.div_lt_iff_lt_mul (by decide)).mpr (by rw [Nat.mul_two]; exact Nat.add_lt_add_right c' u)⟩
theorem zlF {l u md x y : Nat} (m1 : l ≤ md) (m2 : md < u) (e3 : u - l ≤ x - y) : md - l ≤ x - (y + 1) :=
  Nat.le_trans (Nat.le_sub_one_of_lt (Nat.sub_lt_sub_right m1 m2)) (Nat.sub_le_sub_right e3 1)
theorem zmv {l u md x y : Nat} (m1 : l ≤ md) (e3 : u - l ≤ x - y) : u - (md + 1) ≤ x - (y + 1) :=
  Nat.le_trans (Nat.sub_le_sub_left (Nat.succ_le_succ m1) u) (Nat.sub_le_sub_right e3 1)
theorem zjY (r n : Nat) : min (max (max r 1) n) n = n := Nat.min_eq_right (Nat.le_max_right _ _)
theorem zlc {r n : Nat} (r0 : ¬ r = 0) (hr : r ≤ n) : min (max r 1) n = r := by
  rw [Nat.max_eq_left (Nat.pos_of_ne_zero r0), Nat.min_eq_left hr]
theorem zjZ {i j r n : Nat} (hr : r = 0) (hij : i ≤ j) (hj : j < min (max r 1) n) : i = j := by
  subst hr
  have h0 : j = 0 := Nat.lt_one_iff.mp (Nat.lt_of_lt_of_le hj (Nat.min_le_left _ _))
  subst h0
  exact Nat.le_zero.mp hij
theorem zjo {n r : Nat} {Q : Bool → SortSt → Prop} (L : zf6 prog w A E s a₀ κ k) (hn : n ≤ a₀.size) (hr : r ≤ n) (B : SB k a₀ st) (hs : SortedToK κ (arrOf st) r)
    (h : ∀ t, SB k a₀ t → SortedToK κ (arrOf t) n → Q true t) : wpS (model prog w) A E s (binarySort' 0 n r) Q st := by
  rw [binarySort'_eq]
  refine wpS_bind (wpS_mono (wpS_forRange (I := fun x c t => (c = (none, ()) ∧ SB k a₀ t) ∧ SortedToK κ (arrOf t) (min x n)) (Q := fun c t => (c = (none, ()) ∧ SB k a₀ t) ∧ SortedToK κ (arrOf t) n)
    (fun x c t g1 g2 hI => ?_) (fun c t hI => ?_) ⟨⟨rfl, B⟩, ?_⟩) fun c t hI => ?_)
  · obtain ⟨⟨rfl, B1⟩, sx⟩ := hI
    rw [Nat.min_eq_left (Nat.le_of_lt g2)] at sx
    have hx : x < a₀.size := Nat.lt_of_lt_of_le g2 hn
    refine wpS_bind (wpS_mono (wpS_forRange
      (I := fun y c t' => t' = t ∧ ∃ l u, c = (none, l, u) ∧ (l ≤ u ∧ u ≤ x ∧ u - l ≤ x - y) ∧ (∀ i, i < l → κ.kle (KK κ (arrOf t) i) (KK κ (arrOf t) x)) ∧ ∀ i, u ≤ i → i < x → κ.klt (KK κ (arrOf t) x) (KK κ (arrOf t) i))
      (Q := fun c t' => t' = t ∧ ∃ l u, c = (none, l, u) ∧ l ≤ x ∧ (∀ i, i < l → κ.kle (KK κ (arrOf t) i) (KK κ (arrOf t) x)) ∧ ∀ i, l ≤ i → i < x → κ.klt (KK κ (arrOf t) x) (KK κ (arrOf t) i))
      (fun y c t' y1 y2 hJ => ?_) (fun c t' hJ => ?_) ⟨rfl, 0, x, rfl, ⟨Nat.zero_le _, Nat.le_refl _, Nat.le_refl _⟩, fun i hi => absurd hi (Nat.not_lt_zero _), fun i i1 i2 => absurd (Nat.lt_of_le_of_lt i1 i2) (Nat.lt_irrefl _)⟩) fun c t' hJ => ?_)
    · obtain ⟨rfl, l, u, rfl, ⟨e1, e2, e3⟩, lo, up⟩ := hJ
      show wpS _ _ _ _ (if l ≥ u then _ else _) _ _
      by_cases c1 : l ≥ u
      · rw [if_pos c1]
        obtain rfl : l = u := Nat.le_antisymm e1 c1
        exact wpS_pure ⟨rfl, l, l, rfl, e2, lo, up⟩
      · rw [if_neg c1]
        generalize hmd : (l + u) / 2 = md
        obtain ⟨m1, m2⟩ := zk0 hmd c1
        clear hmd c1 e1
        refine wpS_bind (L _ (0 + x) (0 + md) _ B1 (by rw [Nat.zero_add]; exact hx) (by rw [Nat.zero_add]; exact Nat.lt_of_lt_of_le m2 (Nat.le_trans e2 (Nat.le_of_lt hx))) ?_)
        rw [Nat.zero_add, Nat.zero_add]
        cases c2 : κ.blt (KK κ (arrOf t') x) (KK κ (arrOf t') md) with
        | true => exact wpS_pure ⟨rfl, l, md, rfl, ⟨m1, Nat.le_trans (Nat.le_of_lt m2) e2, zlF m1 m2 e3⟩, lo, fun i i1 i2 => KeyOrd.klt_of_klt_of_kle c2 (sx _ _ i1 i2)⟩
        | false => exact wpS_pure ⟨rfl, md + 1, u, rfl, ⟨m2, e2, zmv m1 e3⟩, fun i i1 => KeyOrd.kle_trans (sx i md (Nat.le_of_lt_succ i1) (Nat.lt_of_lt_of_le m2 e2)) c2, up⟩
    · obtain ⟨rfl, l, u, rfl, ⟨e1, e2, e3⟩, lo, up⟩ := hJ
      obtain rfl : l = u := by omega
      exact ⟨rfl, l, l, rfl, e2, lo, up⟩
    · obtain ⟨rfl, l, u, rfl, e2, lo, up⟩ := hJ
      show wpS _ _ _ _ (do moveDown' (0 + x) (0 + l); pure (ForInStep.yield (none, ()))) _ _
      rw [moveDown'_eq, Nat.zero_add, Nat.zero_add]
      refine wpS_bind (wpS_modify (wpS_pure ⟨⟨rfl, B1.put (bubble_perm _ _ _)⟩, ?_⟩))
      have hz : x < (arrOf t').size := by rw [B1.sz]; exact hx
      rw [Nat.min_eq_left (Nat.succ_le_of_lt g2)]
      show SortedToK κ (bubble (arrOf t') x (x - l)) (x + 1)
      intro i j hij hj
      rw [KK_bubble hz (Nat.sub_le _ _), KK_bubble hz (Nat.sub_le _ _), Nat.sub_sub_self e2]
      by_cases i1 : i = l
      · rw [if_pos i1]
        by_cases j1 : j = l
        · rw [if_pos j1]; exact KeyOrd.kle_refl _
        · have lj : l < j := Nat.lt_of_le_of_ne (by rw [← i1]; exact hij) (fun e => j1 e.symm)
          rw [if_neg j1, if_pos ⟨lj, Nat.le_of_lt_succ hj⟩]; exact KeyOrd.kle_of_klt (up _ (Nat.le_sub_one_of_lt lj) (Nat.lt_of_lt_of_le (Nat.sub_lt (Nat.zero_lt_of_lt lj) Nat.one_pos) (Nat.le_of_lt_succ hj)))
      · rw [if_neg i1]
        by_cases i2 : l < i ∧ i ≤ x
        · have lj := Nat.lt_of_lt_of_le i2.1 hij
          rw [if_pos i2, if_neg (fun e => absurd lj (by rw [e]; exact Nat.lt_irrefl _)), if_pos ⟨lj, Nat.le_of_lt_succ hj⟩]; exact sx _ _ (Nat.sub_le_sub_right hij 1) (Nat.lt_of_lt_of_le (Nat.sub_lt (Nat.zero_lt_of_lt lj) Nat.one_pos) (Nat.le_of_lt_succ hj))
        · rw [if_neg i2]
          have i3 : i < l := Nat.lt_of_le_of_ne (Nat.le_of_not_lt fun h => i2 ⟨h, Nat.le_trans hij (Nat.le_of_lt_succ hj)⟩) i1
          clear i2 i1
          by_cases j1 : j = l
          · rw [if_pos j1]; exact lo i i3
          · rw [if_neg j1]
            by_cases j2 : l < j ∧ j ≤ x
            · rw [if_pos j2]; exact sx _ _ (Nat.le_sub_one_of_lt (Nat.lt_trans i3 j2.1)) (Nat.lt_of_lt_of_le (Nat.sub_lt (Nat.zero_lt_of_lt j2.1) Nat.one_pos) (Nat.le_of_lt_succ hj))
            · rw [if_neg j2]; exact sx _ _ hij (Nat.lt_of_lt_of_le (Nat.lt_of_le_of_ne (Nat.le_of_not_lt fun h => j2 ⟨h, Nat.le_of_lt_succ hj⟩) j1) e2)
  · obtain ⟨⟨e1, B1⟩, sx⟩ := hI
    rw [zjY] at sx
    exact ⟨⟨e1, B1⟩, sx⟩
  · by_cases r0 : r = 0
    · intro i j hij hj
      obtain rfl : i = j := zjZ r0 hij hj
      exact KeyOrd.kle_refl _
    · rw [zlc r0 hr]; exact hs
  · obtain ⟨⟨rfl, B1⟩, sx⟩ := hI
    exact wpS_pure (h t B1 sx)
theorem zdD {Q : Unit → SortSt → Prop} (L : zf6 prog w A E s a₀ κ k) (B : SB k a₀ st) (h2 : 2 ≤ a₀.size) (h64 : a₀.size < 64)
    (h : ∀ t, (arrOf t).Perm a₀ → failedOf t = none → SortedToK κ (arrOf t) a₀.size → Q () t) : wpS (model prog w) A E s sortRuns' Q st := by
  rw [sortRuns'_eq]
  have mr : minRun' a₀.size a₀.size 0 = a₀.size := by
    cases e : a₀.size with
    | zero => omega
    | succ f => rw [minRun'_succ, if_pos (by omega), Nat.add_zero]
  refine wpS_bind (wpS_get ?_)
  simp only [B.sz, mr]
  let Dn : SortSt → Prop := fun t => (arrOf t).Perm a₀ ∧ failedOf t = none ∧ pendingOf t = #[(0, a₀.size, 0)] ∧ SortedToK κ (arrOf t) a₀.size
  have fin : ∀ t, SB k a₀ t → SortedToK κ (arrOf t) a₀.size → Dn (setPending t ((pendingOf t).push (0, a₀.size, 0))) := fun t B1 sx => ⟨B1.pm, B1.fl, by show (pendingOf t).push _ = _; rw [B1.pd]; rfl, sx⟩
  refine wpS_bind (wpS_mono (wpS_forRange (I := fun x c t => (x = 0 ∧ c = (none, 0) ∧ SB k a₀ t) ∨ (1 ≤ x ∧ c = (none, a₀.size) ∧ Dn t)) (Q := fun c t => c = (none, a₀.size) ∧ Dn t)
    (fun x c t g1 g2 hI => ?_) (fun c t hI => ?_) (.inl ⟨rfl, rfl, B⟩)) fun c t hI => ?_)
  · rcases hI with ⟨rfl, rfl, B1⟩ | ⟨_, rfl, D1⟩
    · show wpS _ _ _ _ (if 0 ≥ a₀.size then _ else _) _ _
      rw [if_neg (by omega)]
      simp only [Nat.sub_zero, Nat.min_self, Nat.zero_add]
      refine wpS_bind (zja L (Nat.le_refl _) (by omega) B1 fun r t2 B2 r1 r2 s2 => ?_)
      show wpS _ _ _ _ (if r < a₀.size then _ else _) _ _
      by_cases c1 : r < a₀.size
      · rw [if_pos c1]
        refine wpS_bind (wpS_lift (wpAny_rule ⟨rfl, wpS_bind (zjo L (Nat.le_refl _) r2 B2 s2 fun t3 B3 s3 => ?_)⟩))
        refine wpS_bind (wpS_get ?_)
        rw [show (pendingOf t3).back? = none by rw [B3.pd]; rfl]
        exact wpS_bind (wpS_modify (wpS_pure (.inr ⟨by omega, rfl, fin t3 B3 s3⟩)))
      · rw [if_neg c1]
        obtain rfl : r = a₀.size := by omega
        refine wpS_bind (wpS_get ?_)
        rw [show (pendingOf t2).back? = none by rw [B2.pd]; rfl]
        exact wpS_bind (wpS_modify (wpS_pure (.inr ⟨by omega, rfl, fin t2 B2 s2⟩)))
    · show wpS _ _ _ _ (if a₀.size ≥ a₀.size then _ else _) _ _
      rw [if_pos (Nat.le_refl _)]
      exact wpS_pure ⟨rfl, D1⟩
  · rcases hI with ⟨z, _, _⟩ | ⟨_, e, D1⟩
    · omega
    · exact ⟨e, D1⟩
  · obtain ⟨rfl, d1, d2, d3, d4⟩ := hI
    refine wpS_bind (wpS_mono (wpS_forRange (I := fun _ c t' => t' = t ∧ c = (none, ())) (Q := fun c t' => t' = t ∧ c = (none, ())) (fun x c t' _ _ hI => ?_) (fun _ _ z => z) ⟨rfl, rfl⟩) fun c t' hI => ?_)
    · obtain ⟨rfl, rfl⟩ := hI
      refine wpS_bind (wpS_get ?_)
      rw [if_pos (by rw [d3]; exact Nat.le_refl 1)]
      exact wpS_pure ⟨rfl, rfl⟩
    · obtain ⟨rfl, rfl⟩ := hI
      exact wpS_pure (h _ d1 d2 d4)
end
end OwnSort
namespace OwnSort
open PySem PyProof.Rows
noncomputable abbrev Pr := Int × Int
noncomputable def bltP (s t : Pr) : Bool := decide (s.1 < t.1 ∨ (s.1 = t.1 ∧ s.2 < t.2))
noncomputable def TP (h : Heap) (v : Value) (t : Pr) : Prop := ∃ a o n tx ty, v = .ref a ∧ h.get? a = some o ∧ o.cls = .type "tuple" ∧ o.data = .seq #[.int t.1 tx, .int t.2 ty] n
theorem TP.uniq {h : Heap} {v : Value} {s t : Pr} (x : TP h v s) (y : TP h v t) : s = t := by
  obtain ⟨a, o, n, tx, ty, rfl, e1, _, d1⟩ := x
  obtain ⟨b, o2, n2, ux, uy, e, e2, _, d2⟩ := y
  cases e
  rw [e1] at e2
  cases e2
  rw [d1] at d2
  injection d2 with d2 _
  have := congrArg Array.toList d2
  simp at this
  exact Prod.ext this.1.1 this.2.1
theorem TP.keep {h h' : Heap} {v : Value} {t : Pr} (x : TP h v t) (k : ∀ b o, h.get? b = some o → h'.get? b = some o) : TP h' v t := by
  obtain ⟨a, o, n, tx, ty, e, e1, r⟩ := x
  exact ⟨a, o, n, tx, ty, e, k _ _ e1, r⟩
open Classical in
noncomputable def keyP (h : Heap) (v : Value) : Option Pr := if x : ∃ t, TP h v t then some x.choose else none
theorem keyP_of {h : Heap} {v : Value} {t : Pr} (x : TP h v t) : keyP h v = some t := by
  unfold keyP
  have y : ∃ t, TP h v t := ⟨t, x⟩
  rw [dif_pos y, y.choose_spec.uniq x]
@[reducible] noncomputable def zhf (h : Heap) : KeyKind where
  α := Pr
  blt := bltP
  irrefl a := by unfold bltP; exact decide_eq_false (by omega)
  trans a b c h1 h2 := by unfold bltP at *; rw [decide_eq_true_eq] at *; omega
  negTrans a b c h := by unfold bltP at *; rw [decide_eq_true_eq] at *; rw [decide_eq_true_eq]; omega
  total a b h1 h2 := by
    unfold bltP at *
    rw [decide_eq_false_iff_not] at *
    exact Prod.ext (by omega) (by omega)
  keyOf := keyP h
  dflt := (0, 0)
theorem zao (b : Bool) (x y : Value) : keyLt' (tuples' b) x y = (do
    let xs ← Builtin.List.listItems x
    let ys ← Builtin.List.listItems y
    for ((p, q), i) in (xs.toList.zip ys.toList).zipIdx do
      if !(← eqBool p q) then return ← oneLt' (b && i == 0) p q
    return xs.size < ys.size) := rfl
theorem WC (v : Value) : firstOfTuple' v = (do
    if (← typeOf v) != .type "tuple" then return none
    return (← Builtin.List.listItems v)[0]?) := rfl
section
variable {prog : Program} {w : World} {A : Around} {E : Value → Shared → Prop} {s : Shared}
theorem lt0 {a b : Int} {t u : Tok} {Q : Bool → Shared → Prop} (h : Q (decide (a < b)) s) : wpAny (model prog w) A (oneLt' false (.int a t) (.int b u)) Q E s := by
  rw [oneLt'_eq]
  rw [if_neg Bool.false_ne_true]
  exact wpAny_bind (PyProof.Rows.lt_int (wpAny_truthy_bool h))
theorem zj3 {x y : Value} {a b : Pr} {Q : Bool → Shared → Prop} (hx : TP s.heap x a) (hy : TP s.heap y b) (h : Q (bltP a b) s) : wpAny (model prog w) A (keyLt' (tuples' true) x y) Q E s := by
  obtain ⟨p, o, n, t1, t2, rfl, e1, _, d1⟩ := hx
  obtain ⟨q, o2, n2, u1, u2, rfl, e2, _, d2⟩ := hy
  rw [zao]
  refine wpAny_bind (listItems_at e1 d1 (wpAny_bind (listItems_at e2 d2 ?_)))
  simp only [List.zip_cons_cons, List.zip_nil_right, List.zipIdx_cons, List.zipIdx_nil, List.forIn_cons, List.forIn_nil]
  refine wpAny_bind (wpAny_bind (wpAny_bind (SeqAt.EqAt.int_int a.1 t1 b.1 u1 prog w E _ ?_)))
  by_cases c : a.1 = b.1
  · rw [show (a.1 == b.1) = true by rw [c]; exact beq_self_eq_true _]
    refine wpAny_pure (wpAny_bind (wpAny_bind (SeqAt.EqAt.int_int a.2 t2 b.2 u2 prog w E _ ?_)))
    by_cases c2 : a.2 = b.2
    · rw [show (a.2 == b.2) = true by rw [c2]; exact beq_self_eq_true _]
      refine wpAny_pure (wpAny_pure (wpAny_pure ?_))
      have : bltP a b = false := by unfold bltP; exact decide_eq_false (by omega)
      rw [this] at h
      exact h
    · rw [show (a.2 == b.2) = false by simpa using c2]
      refine wpAny_bind (lt0 (wpAny_pure (wpAny_pure (wpAny_pure ?_))))
      have : bltP a b = decide (a.2 < b.2) := by unfold bltP; congr 1; apply propext; omega
      rw [this] at h
      exact h
  · rw [show (a.1 == b.1) = false by simpa using c]
    refine wpAny_bind (oneLt_int (wpAny_pure (wpAny_pure (wpAny_pure ?_))))
    have : bltP a b = decide (a.1 < b.1) := by unfold bltP; congr 1; apply propext; omega
    rw [this] at h
    exact h
theorem zgg {vs : List Value} (hT : ∀ v ∈ vs, ∃ t, TP s.heap v t) : zf6 prog w A E s (pairsOf vs) (zhf s.heap) (tuples' true) := by
  intro st i j Q B hi hj h
  have look : ∀ {i : Nat}, i < (pairsOf vs).size → ∃ x p t, (arrOf st)[i]? = some (x, p) ∧ TP s.heap x t ∧ KK (zhf s.heap) (arrOf st) i = t := fun {i} hi => by
    have hi' : i < (arrOf st).size := by rw [B.sz]; exact hi
    have hm : (arrOf st)[i] ∈ (pairsOf vs).toList := (Array.perm_iff_toList_perm.mp B.pm).mem_iff.mp (by simp)
    rw [pairsOf_toList] at hm
    obtain ⟨t, ht⟩ := hT _ (mem_zip_self hm).2
    refine ⟨(arrOf st)[i].1, (arrOf st)[i].2, t, getElem?_pos _ i hi', ht, ?_⟩
    unfold KK
    rw [getElem?_pos _ i hi']
    show (keyP s.heap (arrOf st)[i].1).getD _ = t
    rw [keyP_of ht]
    rfl
  obtain ⟨x, p, a, e1, ta, ka⟩ := look hi
  obtain ⟨y, q, b, e2, tb, kb⟩ := look hj
  rw [ka, kb] at h
  rw [ltAt'_eq]
  refine wpS_bind (wpS_get ?_)
  show wpS _ _ _ _ (elem' (arrOf st) i >>= fun x => elem' (arrOf st) j >>= fun y => lt' x y) Q st
  rw [elem'_eq, elem'_eq, e1, e2]
  refine wpS_bind (wpS_pure (wpS_bind (wpS_pure ?_)))
  rw [lt'_eq]
  refine wpS_bind (wpS_get ?_)
  rw [B.kd]
  exact wpS_bind (wpS_lift (wpAny_attempt (zj3 ta tb ⟨rfl, wpS_pure h⟩)))
theorem W7 : ∀ {vs : List Value} {Q : List (Option Value) → Shared → Prop}, (∀ v ∈ vs, ∃ t, TP s.heap v t) → (∀ fs : List Value, fs.length = vs.length → (∀ f ∈ fs, ∃ i t, f = .int i t) → Q (fs.map some) s) → wpAny (model prog w) A (vs.mapM firstOfTuple') Q E s
  | [], Q, _, h => by rw [List.mapM_nil]; exact wpAny_pure (h [] rfl (by simp))
  | v :: vs, Q, hT, h => by
    obtain ⟨t, a, o, n, t1, t2, rfl, e1, c1, d1⟩ := hT v List.mem_cons_self
    rw [List.mapM_cons, WC]
    refine wpAny_bind (wpAny_bind (wpAny_typeOf (T := "tuple") ⟨o, e1, c1⟩ ?_))
    rw [if_neg (by simp)]
    refine wpAny_bind (listItems_at e1 d1 (wpAny_pure (wpAny_bind (W7 (fun u hu => hT u (List.mem_cons_of_mem _ hu)) fun fs hl hf => wpAny_pure ?_))))
    exact h (.int t.1 t1 :: fs) (by simp [hl]) fun f hf' => by
      rcases List.mem_cons.mp hf' with rfl | hf'
      · exact ⟨_, _, rfl⟩
      · exact hf f hf'
theorem Wb : ∀ {fs : List Value}, (∀ f ∈ fs, ∃ i t, f = .int i t) → fs.mapM typeOf = pure (fs.map fun _ => Value.type "int")
  | [], _ => by simp
  | f :: fs, h => by
    obtain ⟨i, t, rfl⟩ := h f List.mem_cons_self
    rw [List.mapM_cons, Wb fun g hg => h g (List.mem_cons_of_mem _ hg), show typeOf (.int i t) = pure (.type "int") from rfl]
    simp
theorem zdW {v₁ : Value} {vs : List Value} {Q : SortKind → Shared → Prop} (hT : ∀ v ∈ v₁ :: vs, ∃ t, TP s.heap v t) (h : Q (tuples' true) s) : wpAny (model prog w) A (keyKind' (v₁ :: vs).toArray) Q E s := by
  rw [keyKind'_eq, List.mapM_toArray, ← bind_pure_comp, bind_assoc]
  refine wpAny_bind (W7 hT fun fs hl hf => wpAny_bind (wpAny_pure ?_))
  cases fs with
  | nil => simp at hl
  | cons f fs =>
    rw [if_pos (by simp)]
    have ef : ((f :: fs).map some).toArray.filterMap id = (f :: fs).toArray := by simp
    refine wpAny_bind (wpAny_rule ?_)
    rw [ef, oneTypeOnly'_eq, List.mapM_toArray, Wb hf]
    simp only [map_pure, pure_bind]
    rw [show (List.map (fun _ => Value.type "int") (f :: fs)).toArray[0]? = some (Value.type "int") by simp]
    have al : ((List.map (fun _ => Value.type "int") (f :: fs)).toArray.all fun x => x == Value.type "int") = true := by
      simp only [List.all_toArray, List.all_map, List.all_eq_true]
      intro _ _
      rfl
    simp only [al, if_true, pure_bind, Option.any_some]
    rw [show (Value.type "int" != Value.type "tuple") = true by decide +kernel]
    exact wpAny_pure h
end
end OwnSort
namespace OwnSort
open PySem PyProof.Rows
theorem TP.keepT {h h' : Heap} {v : Value} {t : Pr} (x : TP h v t) (k : ∀ b o, o.cls = .type "tuple" → h.get? b = some o → h'.get? b = some o) : TP h' v t := by
  obtain ⟨a, o, n, tx, ty, e, e1, c, r⟩ := x
  exact ⟨a, o, n, tx, ty, e, k _ _ c e1, c, r⟩
noncomputable def Rise (h : Heap) (out : List Value) : Prop := ∃ ts : List Pr, out.length = ts.length ∧ (∀ (i : Nat) (v : Value) (t : Pr), out[i]? = some v → ts[i]? = some t → TP h v t) ∧ ts.Pairwise fun a b => bltP b a = false
theorem ZK {h h' : Heap} {vs : List Value} {xs : Array Keyed} (hT : ∀ v ∈ vs, ∃ t, TP h v t) (hk : ∀ v t, TP h v t → TP h' v t) (pm : xs.Perm (pairsOf vs)) (hs : SortedToK (zhf h') xs (pairsOf vs).size) : (xs.map (·.2)).toList.Perm vs ∧ Rise h (xs.map (·.2)).toList := by
  have hl : xs.toList.Perm (vs.zip vs) := by rw [← pairsOf_toList]; exact Array.perm_iff_toList_perm.mp pm
  have hm : ∀ p ∈ xs.toList, p.1 = p.2 ∧ p.1 ∈ vs := fun p hp => mem_zip_self (hl.mem_iff.mp hp)
  have e2 : (xs.map (·.2)).toList = xs.toList.map (·.2) := by simp
  rw [e2]
  refine ⟨?_, xs.toList.map fun p => (keyP h' p.1).getD (0, 0), by simp, fun i v t hv ht => ?_, ?_⟩
  · have := hl.map (·.2)
    rwa [show (vs.zip vs).map (·.2) = vs from List.map_snd_zip (Nat.le_refl _)] at this
  · rw [List.getElem?_map] at hv ht
    cases hx : xs.toList[i]? with
    | none => rw [hx] at hv; cases hv
    | some p =>
      rw [hx] at hv ht
      cases hv
      cases ht
      obtain ⟨q1, q2⟩ := hm p (List.mem_of_getElem? hx)
      obtain ⟨t, ht⟩ := hT _ q2
      show TP h p.2 ((keyP h' p.1).getD (0, 0))
      rw [keyP_of (hk _ _ ht), ← q1]
      exact ht
  · rw [List.pairwise_iff_getElem]
    intro i j hi hj hij
    have hi' : i < xs.size := by simpa using hi
    have hj' : j < xs.size := by simpa using hj
    have := hs i j (Nat.le_of_lt hij) (by rw [← pm.size_eq]; exact hj')
    unfold KK at this
    rw [getElem?_pos xs i hi', getElem?_pos xs j hj'] at this
    have this : bltP ((keyP h' xs[j].1).getD (0, 0)) ((keyP h' xs[i].1).getD (0, 0)) = false := this
    simpa using this
section
variable {prog : Program} {w : World} {A : Around} {E : Value → Shared → Prop} {s : Shared}
theorem Yg {a : Addr} {vs : List Value} {n : Nat} {P : Fin → Shared → Prop} (ho : s.heap.get? a = some (seqObj "list" vs.toArray n)) (hT : ∀ v ∈ vs, ∃ t, TP s.heap v t) (h64 : vs.length < 64)
    (h : ∀ out : Array Value, out.toList.Perm vs → Rise s.heap out.toList → P (.done (.ret .none)) { s with heap := sortedHeap s.heap a vs out }) : wpAny (model prog w) A (Builtin.«list.sort» ⟨[.ref a], []⟩) P E s := by
  have la : a < s.heap.objs.size := Heap.lt_size ho
  have zl : vs.toArray.size = vs.length := List.size_toArray
  obtain ⟨e1, o1⟩ : ∃ e1, (s.heap.update a (Obj.mapSeq fun _ => #[])).get? a = some (seqObj "list" #[] e1) := ⟨_, get?_update_seq ho (fun _ => #[])⟩
  have o6 : (((s.heap.update a (Obj.mapSeq fun _ => #[])).push (seqObj "tuple" vs.toArray 0)).push (seqObj "list" #[] 0)).get? a = some (seqObj "list" #[] e1) := Heap.get?_push_of_some _ (Heap.get?_push_of_some _ o1)
  have up : ∀ b o, o.cls = .type "tuple" → s.heap.get? b = some o → (((s.heap.update a (Obj.mapSeq fun _ => #[])).push (seqObj "tuple" vs.toArray 0)).push (seqObj "list" #[] 0)).get? b = some o := fun b o c e => by
    refine Heap.get?_push_of_some _ (Heap.get?_push_of_some _ ((Heap.get?_update_other _ _ fun z => ?_).trans e))
    subst z
    rw [ho] at e
    cases e
    exact absurd (show Value.type "list" = Value.type "tuple" from c) (by decide +kernel)
  have hT6 : ∀ v ∈ vs, ∃ t, TP (((s.heap.update a (Obj.mapSeq fun _ => #[])).push (seqObj "tuple" vs.toArray 0)).push (seqObj "list" #[] 0)) v t := fun v hv => let ⟨t, ht⟩ := hT v hv; ⟨t, ht.keepT up⟩
  rw [list_sort_plain]
  refine wpAny_bind (listItems_at ho rfl (wpAny_bind (listUpdate_at ho rfl (wpAny_bind (seqEpoch_at o1 rfl (wpAny_bind (wpAny_newTuple (wpAny_bind (wpAny_newList (wpAny_holding ?_))))))))))
  show wpAny (model prog w) A _ P E { s with heap := ((s.heap.update a (Obj.mapSeq fun _ => #[])).push (seqObj "tuple" vs.toArray 0)).push (seqObj "list" #[] 0) }
  by_cases c2 : vs.toArray.size < 2
  · rw [if_pos c2, if_pos c2]
    refine wpAny_bind (wpAny_pure ?_)
    dsimp only
    rw [StateT.run_pure]
    refine wpAny_bind (wpAny_pure ?_)
    obtain ⟨r1, r2⟩ := ZK (xs := pairsOf vs) hT (fun v t ht => ht) (Array.Perm.refl _) (fun i j hij hj => by
      obtain rfl : i = j := by rw [pairsOf_size] at hj; omega
      exact KeyOrd.kle_refl _)
    refine wpAny_bind (seqEpoch_at o6 rfl (wpAny_bind (listUpdate_at o6 rfl ?_ (hsz2 := by rw [Array.size_map]; show (pairsOf vs).size ≤ _; rw [pairsOf_size, sizeLine_eq]; omega))))
    rw [show (e1 != e1) = false by simp]
    exact wpAny_pure (h _ r1 r2)
  · rw [if_neg c2, if_neg c2]
    cases vs with
    | nil => simp at c2
    | cons v₁ rest =>
      refine wpAny_bind (zdW hT6 ?_)
      refine wpAny_bind (wpAny_mono (zdD (st := SortSt.mk' (tuples' true) ((v₁ :: rest).toArray.zip (v₁ :: rest).toArray) #[] 7 none) (Q := fun _ t => (arrOf t).Perm (pairsOf (v₁ :: rest)) ∧ failedOf t = none ∧ SortedToK (zhf _) (arrOf t) (pairsOf (v₁ :: rest)).size)
        (zgg hT6) ⟨Array.Perm.refl _, rfl, rfl, rfl⟩ (by rw [pairsOf_size]; omega) (by rw [pairsOf_size]; exact h64) fun t p1 p2 p3 => ⟨p1, p2, p3⟩) ?_ fun _ _ e => e)
      rintro ⟨⟨⟩, t⟩ s' ⟨rfl, p1, p2, p3⟩
      obtain ⟨r1, r2⟩ := ZK hT (fun v t ht => ht.keepT up) p1 p3
      refine wpAny_bind (seqEpoch_at o6 rfl (wpAny_bind (listUpdate_at o6 rfl ?_ (hsz2 := by rw [Array.size_map]; show (arrOf t).size ≤ _; rw [p1.size_eq, pairsOf_size, sizeLine_eq]; omega))))
      rw [p2, show (e1 != e1) = false by simp]
      exact wpAny_pure (h _ r1 r2)
theorem own_sorted {l : Addr} {vs : List Value} {Q : Value → Shared → Prop} (hl : s.heap.IsList l vs.toArray) (hT : ∀ v ∈ vs, ∃ t, TP s.heap v t) (h64 : vs.length < 64)
    (h : ∀ out : Array Value, out.toList.Perm vs → Rise s.heap out.toList → Q (.ref (s.heap.objs.size + 1)) { s with heap := sortedAll s.heap vs out }) : wpAny (model prog w) A (call (.builtin "sorted") [.ref l]) Q E s := by
  have z1 : ((s.heap.push (seqObj "list" #[] 0)).update s.heap.objs.size (Obj.mapSeq (· ++ vs.toArray))).objs.size = s.heap.objs.size + 1 := (Heap.size_update ..).trans (size_push' _ _)
  have oL : (((s.heap.push (seqObj "list" #[] 0)).update s.heap.objs.size (Obj.mapSeq (· ++ vs.toArray))).push (seqObj "list" vs.toArray 0)).get? (s.heap.objs.size + 1) = some (seqObj "list" vs.toArray 0) := z1 ▸ Heap.get?_push_size _ rfl
  have up : ∀ b o, s.heap.get? b = some o → (((s.heap.push (seqObj "list" #[] 0)).update s.heap.objs.size (Obj.mapSeq (· ++ vs.toArray))).push (seqObj "list" vs.toArray 0)).get? b = some o := fun b o e =>
    Heap.get?_push_of_some _ ((Heap.get?_update_other _ _ fun z => by subst z; exact absurd (Heap.lt_size e) (Nat.lt_irrefl _)).trans (Heap.get?_push_of_some _ e))
  refine Calls.call_function_entry kind_sorted plain_sorted entry_sorted (args_sorted1 _) ?_
  unfold Builtin.«sorted»
  refine wpAny_bind (m := checkCount "sorted" 1 1 _) (wpAny_pure (wpAny_bind (collect_list hl (wpAny_bind (wpAny_newList ?_)))))
  show wpAny _ _ _ _ _ (Shared.mk (((s.heap.push (seqObj "list" #[] 0)).update s.heap.objs.size (Obj.mapSeq (· ++ vs.toArray))).push (seqObj "list" vs.toArray 0)) s.gens s.drawn s.toks s.os)
  rw [z1]
  refine wpAny_bind (wpAny_holding (wpAny_call_entry slot_list_sort ⟨_, oL, rfl⟩ entry_list_sort (Yg oL (fun v hv => let ⟨t, ht⟩ := hT v hv; ⟨t, ht.keep up⟩) h64 fun out p1 p2 => ⟨_, rfl, wpAny_pure ⟨_, rfl, h out p1 ?_⟩⟩) (args_list_sort _)))
  obtain ⟨ts, q1, q2, q3⟩ := p2
  refine ⟨ts, q1, fun i v t hv ht => ?_, q3⟩
  obtain ⟨t0, ht0⟩ := hT v (p1.mem_iff.mp (List.mem_of_getElem? hv))
  rw [(q2 i v t hv ht).uniq (ht0.keep up)]
  exact ht0
end
end OwnSort
namespace Dl
open PySem L2
class KK where
  K : PySem.W.Frag
inductive D where
  | non | bl (b : Bool) | int (i : Int) | str (x : Str) | tup (ds : List D) | lst (ds : List D) | scr (ns : List Int)
    | dct (z t : Bool) (ks : List (List Key)) (vs : List D)
  deriving Inhabited
section
variable [KK]
noncomputable def Wn (o : HO) (t : Bool) (ks : List (List Key)) (xs : List V) : Prop :=
  if t = true then ∃ kvs, o = .dT kvs ∧ kvs.map (·.1) = ks ∧ kvs.map (·.2) = xs else ∃ kvs : List (Key × V), o = .dK kvs ∧ kvs.map (fun p => [p.1]) = ks ∧ kvs.map (·.2) = xs
noncomputable def Wl (H : Hp) (a : Addr) (z t : Bool) (ks : List (List Key)) (xs : List V) : Prop :=
  ∃ u, Wn u t ks xs ∧ if z = true then ∃ ob, H a = some (.frz ob u) else H a = some u
theorem Wl.mono {H H' : Hp} {a : Addr} {z t : Bool} {ks : List (List Key)} {xs : List V} (s : yG H H') (h : Wl H a z t ks xs) : Wl H' a z t ks xs := by
  obtain ⟨u, h1, h2⟩ := h
  refine ⟨u, h1, ?_⟩
  cases z with
  | true =>
    rw [if_pos rfl] at h2 ⊢
    obtain ⟨ob, h2⟩ := h2
    exact ⟨ob, s _ _ h2⟩
  | false =>
    rw [if_neg Bool.false_ne_true] at h2 ⊢
    exact s _ _ h2
theorem Wl.rd {H : Hp} {a : Addr} {z t : Bool} {ks : List (List Key)} {xs : List V} (h : Wl H a z t ks xs) : ∃ u, Wn u t ks xs ∧ Rd H a u := by
  obtain ⟨u, h1, h2⟩ := h
  refine ⟨u, h1, ?_⟩
  cases z with
  | true =>
    rw [if_pos rfl] at h2
    obtain ⟨ob, h2⟩ := h2
    exact .inr ⟨ob, h2⟩
  | false =>
    rw [if_neg Bool.false_ne_true] at h2
    exact .inl h2
mutual
noncomputable def At (H : Hp) : D → V → Prop
  | .non, v => v = .non
  | .bl b, v => v = .bl b
  | .int i, v => v = .int i
  | .str x, v => v = .str x
  | .tup ds, v => ∃ a xs, v = .ref a ∧ H a = some (.tup xs) ∧ AtL H ds xs
  | .lst ds, v => ∃ a xs, v = .ref a ∧ H a = some (.lst xs) ∧ AtL H ds xs
  | .scr ns, v => ∃ a, v = .ref a ∧ SqL KK.K H a (ns.map V.int)
  | .dct z t ks vs, v => ∃ a xs, v = .ref a ∧ Wl H a z t ks xs ∧ AtL H vs xs
noncomputable def AtL (H : Hp) : List D → List V → Prop
  | [], xs => xs = []
  | d :: ds, xs => ∃ x r, xs = x :: r ∧ At H d x ∧ AtL H ds r
end
mutual
theorem At.mono {H H' : Hp} (s : yG H H') : ∀ {d : D} {v : V}, At H d v → At H' d v
  | .non, _, h => by unfold At at h ⊢; exact h
  | .bl _, _, h => by unfold At at h ⊢; exact h
  | .int _, _, h => by unfold At at h ⊢; exact h
  | .str _, _, h => by unfold At at h ⊢; exact h
  | .tup ds, _, h => by
    unfold At at h ⊢
    obtain ⟨a, xs, e, hx, hl⟩ := h
    exact ⟨a, xs, e, s _ _ hx, AtL.mono s hl⟩
  | .lst ds, _, h => by
    unfold At at h ⊢
    obtain ⟨a, xs, e, hx, hl⟩ := h
    exact ⟨a, xs, e, s _ _ hx, AtL.mono s hl⟩
  | .scr ns, _, h => by
    unfold At at h ⊢
    obtain ⟨a, e, hx⟩ := h
    exact ⟨a, e, s.seq hx⟩
  | .dct z t ks vs, _, h => by
    unfold At at h ⊢
    obtain ⟨a, xs, e, hx, hl⟩ := h
    exact ⟨a, xs, e, hx.mono s, AtL.mono s hl⟩
theorem AtL.mono {H H' : Hp} (s : yG H H') : ∀ {ds : List D} {xs : List V}, AtL H ds xs → AtL H' ds xs
  | [], _, h => by unfold AtL at h ⊢; exact h
  | d :: ds, _, h => by
    unfold AtL at h ⊢
    obtain ⟨x, r, e, h1, h2⟩ := h
    exact ⟨x, r, e, At.mono s h1, AtL.mono s h2⟩
end
mutual
noncomputable def noL : D → Bool
  | .tup ds => zlz ds
  | .lst _ => false
  | .scr _ => false
  | .dct _ _ _ _ => false
  | _ => true
noncomputable def zlz : List D → Bool
  | [] => true
  | d :: ds => noL d && zlz ds
end
mutual
theorem At.flat {G F : Hp} (h : ∀ q xs, G q = some (.tup xs) → F q = some (.tup xs)) : ∀ {d : D} {v : V}, noL d = true → At G d v → At F d v
  | .non, _, _, a => by unfold At at a ⊢; exact a
  | .bl _, _, _, a => by unfold At at a ⊢; exact a
  | .int _, _, _, a => by unfold At at a ⊢; exact a
  | .str _, _, _, a => by unfold At at a ⊢; exact a
  | .tup ds, _, n, a => by
    unfold At at a ⊢
    unfold noL at n
    obtain ⟨p, xs, e, hx, hl⟩ := a
    exact ⟨p, xs, e, h _ _ hx, AtL.flat h n hl⟩
  | .lst ds, _, n, _ => by unfold noL at n; cases n
  | .scr ds, _, n, _ => by unfold noL at n; cases n
  | .dct _ _ _ _, _, n, _ => by unfold noL at n; cases n
theorem AtL.flat {G F : Hp} (h : ∀ q xs, G q = some (.tup xs) → F q = some (.tup xs)) : ∀ {ds : List D} {xs : List V}, zlz ds = true → AtL G ds xs → AtL F ds xs
  | [], _, _, a => by unfold AtL at a ⊢; exact a
  | d :: ds, _, n, a => by
    unfold AtL at a ⊢
    unfold zlz at n
    rw [Bool.and_eq_true] at n
    obtain ⟨x, r, e, h1, h2⟩ := a
    exact ⟨x, r, e, At.flat h n.1 h1, AtL.flat h n.2 h2⟩
end
section
variable {H H' : Hp} {d : D} {ds es : List D} {v x : V} {xs ys : List V}
theorem At.int {i : Int} : At H (.int i) (.int i) := by unfold At; rfl
theorem At.bl {b : Bool} : At H (.bl b) (.bl b) := by unfold At; rfl
theorem At.non : At H .non .non := by unfold At; rfl
theorem At.str {y : Str} : At H (.str y) (.str y) := by unfold At; rfl
theorem At.tup {a : Addr} (h : H a = some (.tup xs)) (hl : AtL H ds xs) : At H (.tup ds) (.ref a) := by unfold At; exact ⟨a, xs, rfl, h, hl⟩
theorem At.lst {a : Addr} (h : H a = some (.lst xs)) (hl : AtL H ds xs) : At H (.lst ds) (.ref a) := by unfold At; exact ⟨a, xs, rfl, h, hl⟩
theorem AtL.nil : AtL H [] [] := by unfold AtL; rfl
theorem AtL.cons (h : At H d x) (hl : AtL H ds xs) : AtL H (d :: ds) (x :: xs) := by unfold AtL; exact ⟨x, xs, rfl, h, hl⟩
theorem At.int_inv {i : Int} (h : At H (.int i) v) : v = .int i := by unfold At at h; exact h
theorem At.bl_inv {b : Bool} (h : At H (.bl b) v) : v = .bl b := by unfold At at h; exact h
theorem At.non_inv (h : At H .non v) : v = .non := by unfold At at h; exact h
theorem At.str_inv {y : Str} (h : At H (.str y) v) : v = .str y := by unfold At at h; exact h
theorem At.tup_inv (h : At H (.tup ds) v) : ∃ a xs, v = .ref a ∧ H a = some (.tup xs) ∧ AtL H ds xs := by unfold At at h; exact h
theorem At.lst_inv (h : At H (.lst ds) v) : ∃ a xs, v = .ref a ∧ H a = some (.lst xs) ∧ AtL H ds xs := by unfold At at h; exact h
theorem At.scr_inv {ns : List Int} (h : At H (.scr ns) v) : ∃ a, v = .ref a ∧ SqL KK.K H a (ns.map V.int) := by unfold At at h; exact h
theorem At.dct_inv {z t : Bool} {ks : List (List Key)} {vs : List D} (h : At H (.dct z t ks vs) v) : ∃ a xs, v = .ref a ∧ Wl H a z t ks xs ∧ AtL H vs xs := by unfold At at h; exact h
theorem AtL.nil_inv (h : AtL H [] xs) : xs = [] := by unfold AtL at h; exact h
theorem AtL.cons_inv (h : AtL H (d :: ds) xs) : ∃ x r, xs = x :: r ∧ At H d x ∧ AtL H ds r := by unfold AtL at h; exact h
theorem AtL.length : ∀ {ds : List D} {xs : List V}, AtL H ds xs → xs.length = ds.length
  | [], _, h => by rw [h.nil_inv]; rfl
  | _ :: _, _, h => by
    obtain ⟨x, r, rfl, _, h2⟩ := h.cons_inv
    rw [List.length_cons, List.length_cons, AtL.length h2]
theorem AtL.get : ∀ {ds : List D} {xs : List V} {i : Nat} {d : D}, AtL H ds xs → ds[i]? = some d → ∃ x, xs[i]? = some x ∧ At H d x
  | [], _, _, _, _, e => by simp at e
  | _ :: _, _, i, _, h, e => by
    obtain ⟨x, r, rfl, h1, h2⟩ := h.cons_inv
    cases i with
    | zero =>
      simp at e
      subst e
      exact ⟨x, rfl, h1⟩
    | succ i =>
      obtain ⟨y, hy, ha⟩ := AtL.get (i := i) h2 (by simpa using e)
      exact ⟨y, by simpa using hy, ha⟩
theorem AtL.append : ∀ {ds es : List D} {xs ys : List V}, AtL H ds xs → AtL H es ys → AtL H (ds ++ es) (xs ++ ys)
  | [], _, _, _, h, k => by rw [h.nil_inv]; exact k
  | _ :: _, _, _, _, h, k => by
    obtain ⟨x, r, rfl, h1, h2⟩ := h.cons_inv
    exact .cons h1 (AtL.append h2 k)
theorem AtL.snoc (h : AtL H ds xs) (k : At H d v) : AtL H (ds ++ [d]) (xs ++ [v]) := h.append (.cons k .nil)
theorem AtL.take : ∀ (n : Nat) {ds : List D} {xs : List V}, AtL H ds xs → AtL H (ds.take n) (xs.take n)
  | 0, _, _, _ => by simpa using AtL.nil
  | n + 1, [], _, h => by rw [h.nil_inv]; simpa using AtL.nil
  | n + 1, _ :: _, _, h => by
    obtain ⟨x, r, rfl, h1, h2⟩ := h.cons_inv
    rw [List.take_succ_cons, List.take_succ_cons]
    exact .cons h1 (AtL.take n h2)
theorem AtL.drop : ∀ (n : Nat) {ds : List D} {xs : List V}, AtL H ds xs → AtL H (ds.drop n) (xs.drop n)
  | 0, _, _, h => h
  | n + 1, [], _, h => by rw [h.nil_inv]; simpa using AtL.nil
  | n + 1, _ :: _, _, h => by
    obtain ⟨x, r, rfl, h1, h2⟩ := h.cons_inv
    rw [List.drop_succ_cons, List.drop_succ_cons]
    exact AtL.drop n h2
theorem AtL.set : ∀ (n : Nat) {ds : List D} {xs : List V}, AtL H ds xs → At H d v → AtL H (ds.set n d) (xs.set n v)
  | _, [], _, h, _ => by rw [h.nil_inv]; simpa using AtL.nil
  | 0, _ :: _, _, h, k => by
    obtain ⟨x, r, rfl, h1, h2⟩ := h.cons_inv
    exact .cons k h2
  | n + 1, _ :: _, _, h, k => by
    obtain ⟨x, r, rfl, h1, h2⟩ := h.cons_inv
    exact .cons h1 (AtL.set n h2 k)
theorem AtL.rep (h : AtL H ds xs) : ∀ k : Nat, AtL H (List.replicate k ds).flatten (List.replicate k xs).flatten
  | 0 => .nil
  | k + 1 => by
    rw [List.replicate_succ, List.replicate_succ, List.flatten_cons, List.flatten_cons]
    exact h.append (AtL.rep h k)
theorem AtL.ints (ns : List Int) : AtL H (ns.map D.int) (ns.map V.int) := by
  induction ns with
  | nil => exact .nil
  | cons n r ih => exact .cons .int ih
theorem AtL.of_ints : ∀ {ns : List Int} {xs : List V}, AtL H (ns.map D.int) xs → xs = ns.map V.int
  | [], _, h => h.nil_inv
  | n :: r, _, h => by
    obtain ⟨x, r', rfl, h1, h2⟩ := AtL.cons_inv (by simpa using h)
    rw [h1.int_inv, AtL.of_ints h2]
    rfl
end
noncomputable def tyN : D → String
  | .non => "NoneType" | .bl _ => "bool" | .int _ => "int" | .str _ => "str" | .tup _ => "tuple" | .lst _ => "list" | .scr _ => "list" | .dct _ _ _ _ => "dict"
noncomputable def Hid (F' : Hp) (p : Addr) (o : HO) : Prop := F' p = none ∨ ((∃ xs, o = .tup xs) ∧ F' p = some o)
noncomputable def Keep (F H F' H' : Hp) : Prop := ∀ p o, F p = none → H p = some o → Hid F' p o ∧ H' p = some o
set_option genInjectivity false in
set_option genSizeOf false in
set_option genCtorIdx false in
structure Gr (F H F' H' : Hp) : Prop where
  ff : yG F F'
  fh : yG F' H'
  kp : Keep F H F' H'
theorem Gr.refl {F H : Hp} (s : yG F H) : Gr F H F H := ⟨yG.refl _, s, fun _ _ a b => ⟨.inl a, b⟩⟩
theorem Gr.trans {F H F1 H1 F2 H2 : Hp} (a : Gr F H F1 H1) (b : Gr F1 H1 F2 H2) : Gr F H F2 H2 :=
  ⟨a.ff.trans b.ff, b.fh, fun p o e1 e2 => by
    obtain ⟨x, y⟩ := a.kp p o e1 e2
    rcases x with x | ⟨x1, x2⟩
    · exact b.kp p o x y
    · exact ⟨.inr ⟨x1, b.ff _ _ x2⟩, b.fh _ _ (b.ff _ _ x2)⟩⟩
theorem Gr.kl {F H F' H' : Hp} {p : Addr} {o : HO} (g : Gr F H F' H') (n : ∀ xs, o ≠ .tup xs) (e1 : F p = none) (e2 : H p = some o) : F' p = none ∧ H' p = some o := by
  obtain ⟨x, y⟩ := g.kp p o e1 e2
  rcases x with x | ⟨⟨xs, x1⟩, _⟩
  · exact ⟨x, y⟩
  · exact absurd x1 (n xs)
theorem Gr.alloc {F H : Hp} {p : Addr} (s : yG F H) (h : H p = none) (o : HO) : Gr F H (upd F p o) (upd H p o) := by
  have hF : F p = none := s.free h
  refine ⟨fun b u q => ?_, fun b u q => ?_, fun b u q r => ?_⟩
  · rw [zr (zp q hF)]; exact q
  · by_cases e : b = p
    · subst e; rw [zq] at q ⊢; exact q
    · rw [zr e] at q ⊢; exact s b u q
  · have e : b ≠ p := zp r h
    rw [zr e]; exact ⟨.inl (by rw [zr e]; exact q), r⟩
theorem Gr.hide {F H : Hp} {p : Addr} (s : yG F H) (h : H p = none) (o : HO) : Gr F H F (upd H p o) := by
  refine ⟨yG.refl _, fun b u q => ?_, fun b u q r => ?_⟩
  · rw [zr (zp (s b u q) h)]; exact s b u q
  · have e : b ≠ p := zp r h
    rw [zr e]; exact ⟨.inl q, r⟩
theorem Gr.show {F H : Hp} {p : Addr} {o : HO} {F0 H0 : Hp} (g : Gr F0 H0 F H) (h0 : H0 p = none) (hF : F p = none) (h : H p = some o) : Gr F0 H0 (upd F p o) H := by
  refine ⟨fun b u q => ?_, fun b u q => ?_, fun b u q r => ?_⟩
  · have := g.ff b u q
    rw [zr (zp this hF)]; exact this
  · by_cases e : b = p
    · subst e; rw [zq] at q; rw [← q]; exact h
    · rw [zr e] at q; exact g.fh b u q
  · have e : b ≠ p := zp r h0
    obtain ⟨x, y⟩ := g.kp b u q r
    refine ⟨?_, y⟩
    unfold Hid
    rw [zr e]
    exact x
noncomputable abbrev Ev := List (Option D)
noncomputable def VAt (F : Hp) (ρ : Ev) (σ : St) : Prop := ∀ (i : Nat) (d : D), ρ[i]? = some (some d) → ∃ v, σ[i]? = some (some v) ∧ At F d v
theorem VAt.mono {F F' : Hp} {ρ : Ev} {σ : St} (h : VAt F ρ σ) (s : yG F F') : VAt F' ρ σ := fun i d e => let ⟨v, e1, a⟩ := h i d e; ⟨v, e1, a.mono s⟩
noncomputable def RE (t : TE) (f : Ev → Option D) : Prop :=
  ∀ (σ : St) (ρ : Ev) (F H : Hp) (d : D) (Q : VK), yG F H → VAt F ρ σ → f ρ = some d → (∀ F' H' v, Gr F H F' H' → At F' d v → Q v H') → t σ H Q
noncomputable def RT (t : TT) (f : Ev → Option Bool) : Prop :=
  ∀ (σ : St) (ρ : Ev) (F H : Hp) (b : Bool) (Q : Bool → Hp → Prop), yG F H → VAt F ρ σ → f ρ = some b → (∀ F' H', Gr F H F' H' → Q b H') → t σ H Q
noncomputable def RA (t : TA) (f : Ev → Option (List D)) : Prop :=
  ∀ (σ : St) (ρ : Ev) (F H : Hp) (ds : List D) (Q : List V → Hp → Prop), yG F H → VAt F ρ σ → f ρ = some ds → (∀ F' H' vs, Gr F H F' H' → AtL F' ds vs → Q vs H') → t σ H Q
noncomputable def RF (t : TE) (f : Ev → Option (List D)) : Prop :=
  ∀ (σ : St) (ρ : Ev) (F H : Hp) (ds : List D) (Q : VK), yG F H → VAt F ρ σ → f ρ = some ds → (∀ F' H' p xs, Gr F H F' H' → H p = none → F' p = none → H' p = some (.lst xs) → AtL F' ds xs → Q (.ref p) H') → t σ H Q
noncomputable def ED (X : Cx) (e : Expr) (f : Ev → Option D) : Prop := ∃ t, PE X e t ∧ RE t f
noncomputable def TD (X : Cx) (e : Expr) (f : Ev → Option Bool) : Prop := ∃ t, PT X e t ∧ RT t f
noncomputable def WD (X : Cx) (e : Expr) (f : Ev → Option Bool) : Prop := ∃ t, PW X e t ∧ RT t f
noncomputable def AD (X : Cx) (es : List Expr) (f : Ev → Option (List D)) : Prop := ∃ t, PA X es t ∧ RA t f
noncomputable def FL (X : Cx) (e : Expr) (f : Ev → Option (List D)) : Prop := ∃ t, PE X e t ∧ RF t f
section
variable {X : Cx} {a b c : Expr} {pos : Pos}
noncomputable def xR (f : Ev → Option (List D)) : Ev → Option D := fun ρ => (f ρ).map .lst
theorem wf {f : Ev → Option (List D)} (h : FL X a f) : ED X a (xR f) := by
  obtain ⟨t, ht, r⟩ := h
  refine ⟨t, ht, fun σ ρ F H d Q s va e q => ?_⟩
  obtain ⟨ds, e1, rfl⟩ := Option.map_eq_some_iff.mp e
  refine r σ ρ F H ds Q s va e1 fun F' H' p xs g h0 hF hH hx => ?_
  have g2 := g.show h0 hF hH
  exact q _ _ _ g2 (At.lst zq (hx.mono (fun b u e => by rw [zr (zp e hF)]; exact e)))
noncomputable def zd (i : Nat) : Ev → Option D := fun ρ => (ρ[i]?).getD none
theorem za (i : Nat) (h : PE X a (ziL i)) : ED X a (zd i) := by
  refine ⟨_, h, fun σ ρ F H d Q s va e q => ?_⟩
  have e' : ρ[i]? = some (some d) := by
    unfold zd at e
    cases h : ρ[i]? with
    | none => rw [h] at e; cases e
    | some x => rw [h] at e; cases x with
      | none => cases e
      | some y => cases e; rfl
  obtain ⟨v, e1, a1⟩ := va i d e'
  exact ⟨v, e1, q _ _ _ (.refl s) a1⟩
noncomputable def eC (d : D) : Ev → Option D := fun _ => some d
theorem zh {i : Int} (h : PE X a (tC (.int i))) : ED X a (eC (.int i)) := ⟨_, h, fun _ _ _ _ _ _ s _ e q => by cases e; exact q _ _ _ (.refl s) .int⟩
theorem vL {i : Bool} (h : PE X a (tC (.bl i))) : ED X a (eC (.bl i)) := ⟨_, h, fun _ _ _ _ _ _ s _ e q => by cases e; exact q _ _ _ (.refl s) .bl⟩
theorem ze7 (h : PE X a (tC .non)) : ED X a (eC .non) := ⟨_, h, fun _ _ _ _ _ _ s _ e q => by cases e; exact q _ _ _ (.refl s) .non⟩
noncomputable def OpD (r : R2) (g : D → D → Option D) : Prop :=
  ∀ (F H : Hp) (x y : V) (d e z : D) (Q : VK), yG F H → At F d x → At F e y → g d e = some z → (∀ F' H' v, Gr F H F' H' → At F' z v → Q v H') → r x y H Q
noncomputable def zn (g : D → D → Option D) (f h : Ev → Option D) : Ev → Option D := fun ρ => (f ρ).bind fun x => (h ρ).bind fun y => g x y
theorem zha {r : R2} {g : D → D → Option D} {ta tb : TE} {f h : Ev → Option D} (hg : OpD r g) (ra : RE ta f) (rb : RE tb h) : RE (tOp r ta tb) (zn g f h) := by
  intro σ ρ F H z Q s va e q
  obtain ⟨x, e1, e⟩ := Option.bind_eq_some_iff.mp e
  obtain ⟨y, e2, e⟩ := Option.bind_eq_some_iff.mp e
  refine ra σ ρ F H x _ s va e1 fun F1 H1 v g1 a1 => ?_
  refine rb σ ρ F1 H1 y _ g1.fh (va.mono g1.ff) e2 fun F2 H2 u g2 a2 => ?_
  exact hg F2 H2 v u x y z Q g2.fh (a1.mono g2.ff) a2 e fun F3 H3 w g3 a3 => q F3 H3 w ((g1.trans g2).trans g3) a3
theorem XF {op : Operator} {r : R2} {g : D → D → Option D} {f h : Ev → Option D} (ho : OpR X (binaryOp op) r) (hg : OpD r g) (ha : ED X a f) (hb : ED X b h) : ED X (.BinOp a op b pos) (zn g f h) :=
  let ⟨_, pa, ra⟩ := ha
  let ⟨_, pb, rb⟩ := hb
  ⟨_, zlk ho pa pb, zha hg ra rb⟩
theorem zhw {op : CmpOp} {r : R2} {g : D → D → Option D} {f h : Ev → Option D} (ho : OpR X (compareOp op) r) (hg : OpD r g) (hm : behindInMarks op b = false) (ha : ED X a f) (hb : ED X b h) : ED X (.Compare a [op] [b] pos) (zn g f h) :=
  let ⟨_, pa, ra⟩ := ha
  let ⟨_, pb, rb⟩ := hb
  ⟨_, ziG ho pa pb hm, zha hg ra rb⟩
noncomputable def asB : D → Option Bool
  | .bl b => some b
  | _ => none
theorem ZC {d : D} {b : Bool} (h : asB d = some b) : d = .bl b := by
  cases d <;> first | (cases h; rfl) | cases h
noncomputable def tOf (f : Ev → Option D) : Ev → Option Bool := fun ρ => (f ρ).bind asB
theorem zk3 {t : TE} {f : Ev → Option D} (r : RE t f) : RT (zk4 t) (tOf f) := by
  intro σ ρ F H b Q s va e q
  obtain ⟨x, e1, e⟩ := Option.bind_eq_some_iff.mp e
  cases ZC e
  exact r σ ρ F H _ _ s va e1 fun F1 H1 v g1 a1 => ⟨b, a1.bl_inv, q F1 H1 g1⟩
theorem zF {op : CmpOp} {r : R2} {g : D → D → Option D} {f h : Ev → Option D} (ho : OpR X (compareOp op) r) (hg : OpD r g) (hm : behindInMarks op b = false) (ha : ED X a f) (hb : ED X b h) : TD X (.Compare a [op] [b] pos) (tOf (zn g f h)) :=
  let ⟨_, pa, ra⟩ := ha
  let ⟨_, pb, rb⟩ := hb
  ⟨_, zi3 ho pa pb hm, zk3 (zha hg ra rb)⟩
theorem Yh {f : Ev → Option D} (ha : ED X a f) (he : ∀ whole, isTrue a X.env whole = (do let v ← whole; standAt a.pos; holding [v] (truthy v)) := by intro _; rfl) : TD X a (tOf f) :=
  let ⟨_, pa, ra⟩ := ha
  ⟨_, zkC pa he, zk3 ra⟩
noncomputable def wK (f g : Ev → Option Bool) : Ev → Option Bool := fun ρ => (f ρ).bind fun c => if c = true then g ρ else some false
noncomputable def zcE (f g : Ev → Option Bool) : Ev → Option Bool := fun ρ => (f ρ).bind fun c => if c = true then some true else g ρ
noncomputable def vH (f : Ev → Option Bool) : Ev → Option Bool := fun ρ => (f ρ).map (!·)
theorem v7 {f : Ev → Option Bool} (ha : TD X a f) : WD X (.BoolOp .And [a] pos) f := let ⟨_, pa, ra⟩ := ha; ⟨_, ziu pa, ra⟩
theorem zal {f : Ev → Option Bool} (ha : TD X a f) : WD X (.BoolOp .Or [a] pos) f := let ⟨_, pa, ra⟩ := ha; ⟨_, zjN pa, ra⟩
theorem Z0 {rest : List Expr} {f g : Ev → Option Bool} (ha : TD X a f) (hb : WD X (.BoolOp .And (b :: rest) pos) g) : WD X (.BoolOp .And (a :: b :: rest) pos) (wK f g) := by
  obtain ⟨ta, pa, ra⟩ := ha
  obtain ⟨tb, pb, rb⟩ := hb
  refine ⟨_, zkZ pa pb, fun σ ρ F H z Q s va e q => ?_⟩
  obtain ⟨x, e1, e⟩ := Option.bind_eq_some_iff.mp e
  refine ra σ ρ F H x _ s va e1 fun F1 H1 g1 => ?_
  cases x with
  | true =>
    rw [if_pos rfl] at e ⊢
    exact rb σ ρ F1 H1 z Q g1.fh (va.mono g1.ff) e fun F2 H2 g2 => q F2 H2 (g1.trans g2)
  | false =>
    rw [if_neg Bool.false_ne_true] at e ⊢
    cases e
    exact q F1 H1 g1
theorem zeT {rest : List Expr} {f g : Ev → Option Bool} (ha : TD X a f) (hb : WD X (.BoolOp .Or (b :: rest) pos) g) : WD X (.BoolOp .Or (a :: b :: rest) pos) (zcE f g) := by
  obtain ⟨ta, pa, ra⟩ := ha
  obtain ⟨tb, pb, rb⟩ := hb
  refine ⟨_, zl6 pa pb, fun σ ρ F H z Q s va e q => ?_⟩
  obtain ⟨x, e1, e⟩ := Option.bind_eq_some_iff.mp e
  refine ra σ ρ F H x _ s va e1 fun F1 H1 g1 => ?_
  cases x with
  | false =>
    rw [if_neg Bool.false_ne_true] at e ⊢
    exact rb σ ρ F1 H1 z Q g1.fh (va.mono g1.ff) e fun F2 H2 g2 => q F2 H2 (g1.trans g2)
  | true =>
    rw [if_pos rfl] at e ⊢
    cases e
    exact q F1 H1 g1
theorem zeo {f : Ev → Option Bool} (h : WD X a f) : TD X a f := let ⟨_, p, r⟩ := h; ⟨_, p.pt, r⟩
theorem Zh {f : Ev → Option Bool} (ha : TD X a f) : TD X (.UnaryOp .Not a pos) (vH f) := by
  obtain ⟨ta, pa, ra⟩ := ha
  refine ⟨_, zjT pa, fun σ ρ F H z Q s va e q => ?_⟩
  obtain ⟨x, e1, rfl⟩ := Option.map_eq_some_iff.mp e
  exact ra σ ρ F H x _ s va e1 fun F1 H1 g1 => q F1 H1 g1
noncomputable def zej (f g : Ev → Option D) : Ev → Option D := fun ρ => ((f ρ).bind asB).bind fun c => if c = true then g ρ else some (.bl false)
noncomputable def eOr (f g : Ev → Option D) : Ev → Option D := fun ρ => ((f ρ).bind asB).bind fun c => if c = true then some (.bl true) else g ρ
noncomputable def zgv (f : Ev → Option D) : Ev → Option D := fun ρ => ((f ρ).bind asB).map fun c => .bl (!c)
theorem zdF {op} {f : Ev → Option D} (ha : ED X a f) : ED X (.BoolOp op [a] pos) f := let ⟨_, pa, ra⟩ := ha; ⟨_, zkn pa, ra⟩
theorem Vj {rest : List Expr} {f g : Ev → Option D} (ha : ED X a f) (hb : ED X (.BoolOp .And (b :: rest) pos) g) : ED X (.BoolOp .And (a :: b :: rest) pos) (zej f g) := by
  obtain ⟨ta, pa, ra⟩ := ha
  obtain ⟨tb, pb, rb⟩ := hb
  refine ⟨_, zkm pa pb, fun σ ρ F H z Q s va e q => ?_⟩
  obtain ⟨x, e1, e⟩ := Option.bind_eq_some_iff.mp e
  obtain ⟨y, e1, e2⟩ := Option.bind_eq_some_iff.mp e1
  cases ZC e2
  refine ra σ ρ F H _ _ s va e1 fun F1 H1 v g1 a1 => ⟨x, a1.bl_inv, ?_⟩
  cases x with
  | true =>
    rw [if_pos rfl] at e ⊢
    exact rb σ ρ F1 H1 z Q g1.fh (va.mono g1.ff) e fun F2 H2 w g2 a2 => q F2 H2 w (g1.trans g2) a2
  | false =>
    rw [if_neg Bool.false_ne_true] at e ⊢
    cases e
    exact q F1 H1 _ g1 .bl
theorem zkz {f : Ev → Option D} (ha : ED X a f) : ED X (.UnaryOp .Not a pos) (zgv f) := by
  obtain ⟨ta, pa, ra⟩ := ha
  refine ⟨_, zjU pa, fun σ ρ F H z Q s va e q => ?_⟩
  obtain ⟨x, e1, rfl⟩ := Option.map_eq_some_iff.mp e
  obtain ⟨y, e1, e2⟩ := Option.bind_eq_some_iff.mp e1
  cases ZC e2
  exact ra σ ρ F H _ _ s va e1 fun F1 H1 v g1 a1 => ⟨x, a1.bl_inv, q F1 H1 _ g1 .bl⟩
noncomputable def eIf (t : Ev → Option Bool) (f g : Ev → Option D) : Ev → Option D := fun ρ => (t ρ).bind fun c => if c = true then f ρ else g ρ
theorem zmp {t : Ev → Option Bool} {f g : Ev → Option D} (hc : TD X c t) (ha : ED X a f) (hb : ED X b g) : ED X (.IfExp c a b pos) (eIf t f g) := by
  obtain ⟨tc, pc, rc⟩ := hc
  obtain ⟨ta, pa, ra⟩ := ha
  obtain ⟨tb, pb, rb⟩ := hb
  refine ⟨_, zgP pc pa pb, fun σ ρ F H z Q s va e q => ?_⟩
  obtain ⟨x, e1, e⟩ := Option.bind_eq_some_iff.mp e
  refine rc σ ρ F H x _ s va e1 fun F1 H1 g1 => ?_
  cases x with
  | true =>
    rw [if_pos rfl] at e ⊢
    exact ra σ ρ F1 H1 z Q g1.fh (va.mono g1.ff) e fun F2 H2 w g2 a2 => q F2 H2 w (g1.trans g2) a2
  | false =>
    rw [if_neg Bool.false_ne_true] at e ⊢
    exact rb σ ρ F1 H1 z Q g1.fh (va.mono g1.ff) e fun F2 H2 w g2 a2 => q F2 H2 w (g1.trans g2) a2
noncomputable def eUn (g : D → Option D) (f : Ev → Option D) : Ev → Option D := fun ρ => (f ρ).bind g
noncomputable def zgZ : D → Option D
  | .int i => some (.int (-i))
  | _ => none
theorem zkg {f : Ev → Option D} (ha : ED X a f) : ED X (.UnaryOp .USub a pos) (eUn zgZ f) := by
  obtain ⟨ta, pa, ra⟩ := ha
  refine ⟨_, zms zkv pa, fun σ ρ F H z Q s va e q => ?_⟩
  obtain ⟨x, e1, e⟩ := Option.bind_eq_some_iff.mp e
  cases x <;> try cases e
  exact ra σ ρ F H _ _ s va e1 fun F1 H1 v g1 a1 => ⟨_, a1.int_inv, q F1 H1 _ g1 .int⟩
noncomputable def zu : Ev → Option (List D) := fun _ => some []
noncomputable def zc (f : Ev → Option D) (g : Ev → Option (List D)) : Ev → Option (List D) := fun ρ => (f ρ).bind fun d => (g ρ).map (d :: ·)
theorem zg : AD X [] zu := ⟨_, Vv, fun _ _ _ _ _ _ s _ e q => by cases e; exact q _ _ _ (.refl s) .nil⟩
theorem zb {e : Expr} {es : List Expr} {f : Ev → Option D} {g : Ev → Option (List D)} (ha : ED X e f) (hr : AD X es g) (hs : starEach (e :: es) X.env = (false, eval e X.env) :: starEach es X.env := by rfl) : AD X (e :: es) (zc f g) := by
  obtain ⟨ta, pa, ra⟩ := ha
  obtain ⟨tb, pb, rb⟩ := hr
  refine ⟨_, Y0 pa pb hs, fun σ ρ F H z Q s va e q => ?_⟩
  obtain ⟨x, e1, e⟩ := Option.bind_eq_some_iff.mp e
  obtain ⟨ds, e2, rfl⟩ := Option.map_eq_some_iff.mp e
  refine ra σ ρ F H x _ s va e1 fun F1 H1 v g1 a1 => ?_
  exact rb σ ρ F1 H1 ds _ g1.fh (va.mono g1.ff) e2 fun F2 H2 w g2 a2 => q F2 H2 _ (g1.trans g2) (.cons (a1.mono g2.ff) a2)
noncomputable def lim (n : Nat) : Bool := decide (n ≤ sizeLine)
noncomputable def Yu (g : Ev → Option (List D)) : Ev → Option D := fun ρ => (g ρ).bind fun ds => if lim ds.length = true then some (.tup ds) else none
noncomputable def xl (g : Ev → Option (List D)) : Ev → Option (List D) := fun ρ => (g ρ).bind fun ds => if lim ds.length = true then some ds else none
theorem wP {es : List Expr} {x1} {g : Ev → Option (List D)} (h : AD X es g) : ED X (.Tuple es x1 pos) (Yu g) := by
  obtain ⟨ta, pa, ra⟩ := h
  refine ⟨_, zkN pa, fun σ ρ F H z Q s va e q => ?_⟩
  obtain ⟨ds, e1, e⟩ := Option.bind_eq_some_iff.mp e
  split at e <;> cases e
  rename_i hl
  refine ra σ ρ F H ds _ s va e1 fun F1 H1 vs g1 a1 => ⟨by rw [a1.length]; exact of_decide_eq_true hl, fun p hp => ?_⟩
  have g2 := Gr.alloc g1.fh hp (.tup vs)
  exact q _ _ _ (g1.trans g2) (.tup zq (a1.mono g2.ff))
theorem xS {es : List Expr} {g : Ev → Option (List D)} (h : AD X es g) : FL X (.List es pos) (xl g) := by
  obtain ⟨ta, pa, ra⟩ := h
  refine ⟨_, zjF pa, fun σ ρ F H z Q s va e q => ?_⟩
  obtain ⟨ds, e1, e⟩ := Option.bind_eq_some_iff.mp e
  split at e <;> cases e
  rename_i hl
  refine ra σ ρ F H _ _ s va e1 fun F1 H1 vs g1 a1 => ⟨by rw [a1.length]; exact of_decide_eq_true hl, fun p hp => ?_⟩
  have g2 := Gr.hide g1.fh hp (.lst vs)
  have h0 : H p = none := by
    cases e : H p with
    | none => rfl
    | some o =>
      cases e2 : F p with
      | none => rw [(g1.kp p o e2 e).2] at hp; cases hp
      | some u => rw [g1.fh _ _ (g1.ff _ _ e2)] at hp; cases hp
  exact q _ _ _ _ (g1.trans g2) h0 (g1.fh.free hp) zq a1
end
end
end Dl
namespace Dl
open PySem L2
variable [KK]
inductive Sl where
  | no | v (d : D) | o (ds : List D) | m (t : Bool) (ks : List (List Key)) (vs : List D)
  deriving Inhabited
noncomputable abbrev SE := List Sl
noncomputable def Sl.f : Sl → Option D
  | .v d => some d
  | _ => none
noncomputable def Sl.g : Sl → Option D
  | .v d => some d
  | .o ds => some (.lst ds)
  | .m t ks vs => some (.dct false t ks vs)
  | .no => none
noncomputable def Sl.isO : Sl → Bool
  | .o _ => true
  | .m _ _ _ => true
  | _ => false
noncomputable def visF (ρ : SE) : Ev := ρ.map Sl.f
noncomputable def visG (ρ : SE) : Ev := ρ.map Sl.g
noncomputable def zdx (F : Hp) (o : HO) : Sl → Prop
  | .o ds => ∃ xs, o = .lst xs ∧ AtL F ds xs
  | .m t ks ds => ∃ xs, Wn o t ks xs ∧ AtL F ds xs
  | _ => False
theorem zdx.mono {F F' : Hp} {o : HO} {s : Sl} (h : zdx F o s) (k : yG F F') : zdx F' o s := by
  cases s with
  | no => exact h
  | v d => exact h
  | o ds => obtain ⟨xs, e, a⟩ := h; exact ⟨xs, e, a.mono k⟩
  | m t ks ds => obtain ⟨xs, e, a⟩ := h; exact ⟨xs, e, a.mono k⟩
theorem zdx.isO {F : Hp} {o : HO} {s : Sl} (h : zdx F o s) : s.isO = true := by
  cases s with
  | no => exact h.elim
  | v d => exact h.elim
  | o ds => rfl
  | m t ks ds => rfl
theorem zdx.ntup {F : Hp} {o : HO} {s : Sl} (h : zdx F o s) (xs : List V) : o ≠ .tup xs := by
  cases s with
  | no => exact h.elim
  | v d => exact h.elim
  | o ds => obtain ⟨ys, rfl, _⟩ := h; intro e; cases e
  | m t ks ds =>
    obtain ⟨ys, e, _⟩ := h
    unfold Wn at e
    split at e
    · obtain ⟨kvs, rfl, _⟩ := e; intro e; cases e
    · obtain ⟨kvs, rfl, _⟩ := e; intro e; cases e
theorem zdx.at {F G : Hp} {o : HO} {s : Sl} {d : D} {p : Addr} (h : zdx F o s) (e : s.g = some d) (hp : G p = some o) (k : yG F G) : At G d (.ref p) := by
  cases s with
  | no => exact h.elim
  | v d => exact h.elim
  | o ds =>
    cases e
    obtain ⟨xs, rfl, a⟩ := h
    exact .lst hp (a.mono k)
  | m t ks ds =>
    cases e
    obtain ⟨xs, e, a⟩ := h
    unfold At
    exact ⟨p, xs, rfl, ⟨o, e, hp⟩, a.mono k⟩
set_option genInjectivity false in
set_option genSizeOf false in
set_option genCtorIdx false in
structure Rl (Fb Hb F H : Hp) (ρ : SE) (σ : St) : Prop where
  gr : Gr Fb Hb F H
  vals : ∀ (i : Nat) (d : D), ρ[i]? = some (.v d) → ∃ v, σ[i]? = some (some v) ∧ At F d v
  ows : ∀ (i : Nat) (s : Sl), ρ[i]? = some s → s.isO = true → ∃ p o, σ[i]? = some (some (.ref p)) ∧ Hb p = none ∧ F p = none ∧ H p = some o ∧ zdx F o s
  dis : ∀ (i j : Nat) (p : Addr) (s t : Sl), ρ[i]? = some s → ρ[j]? = some t → s.isO = true → t.isO = true → σ[i]? = some (some (.ref p)) → σ[j]? = some (some (.ref p)) → i = j
  len : ρ.length = σ.length
section
variable {Fb Hb F H F' H' : Hp} {ρ ρ' : SE} {σ σ' : St}
theorem Rl.owns (r : Rl Fb Hb F H ρ σ) (i : Nat) (ds : List D) (e : ρ[i]? = some (.o ds)) : ∃ p xs, σ[i]? = some (some (.ref p)) ∧ Hb p = none ∧ F p = none ∧ H p = some (.lst xs) ∧ AtL F ds xs := by
  obtain ⟨p, o, e1, e2, e3, e4, xs, rfl, a⟩ := r.ows i _ e rfl
  exact ⟨p, xs, e1, e2, e3, e4, a⟩
theorem Rl.grow (r : Rl Fb Hb F H ρ σ) (g : Gr F H F' H') : Rl Fb Hb F' H' ρ σ := by
  refine ⟨r.gr.trans g, fun i d e => ?_, fun i s e h => ?_, r.dis, r.len⟩
  · obtain ⟨v, e1, a⟩ := r.vals i d e
    exact ⟨v, e1, a.mono g.ff⟩
  · obtain ⟨p, o, e1, e2, e3, e4, a⟩ := r.ows i s e h
    obtain ⟨k1, k2⟩ := g.kl a.ntup e3 e4
    exact ⟨p, o, e1, e2, k1, k2, a.mono g.ff⟩
theorem Rl.visF (r : Rl Fb Hb F H ρ σ) : VAt F (visF ρ) σ := fun i d e => by
  unfold Dl.visF at e
  rw [List.getElem?_map] at e
  cases h : ρ[i]? with
  | none => rw [h] at e; cases e
  | some x =>
    rw [h] at e
    cases x with
    | no => cases e
    | v d' =>
      cases e
      exact r.vals i d h
    | o ds => cases e
    | m t ks ds => cases e
noncomputable def Own (ρ : SE) (σ : St) (p : Addr) : Prop := ∃ (i : Nat) (s : Sl), ρ[i]? = some s ∧ s.isO = true ∧ σ[i]? = some (some (.ref p))
open Classical in
noncomputable def gOf (ρ : SE) (σ : St) (F H : Hp) : Hp := fun p => if Own ρ σ p then H p else F p
open Classical in
noncomputable def fOf (ρ : SE) (σ : St) (G : Hp) : Hp := fun p => if Own ρ σ p then none else G p
theorem Rl.own (r : Rl Fb Hb F H ρ σ) {p : Addr} (h : Own ρ σ p) : Hb p = none ∧ F p = none ∧ ∃ o, H p = some o ∧ ∀ xs, o ≠ .tup xs := by
  obtain ⟨i, s, e1, e2, e3⟩ := h
  obtain ⟨q, o, e4, e5, e6, e7, a⟩ := r.ows i s e1 e2
  rw [e3] at e4
  cases e4
  exact ⟨e5, e6, o, e7, a.ntup⟩
theorem Rl.notown (r : Rl Fb Hb F H ρ σ) {q : Addr} (h : H q = none) (j : Nat) (s : Sl) (e1 : ρ[j]? = some s) (e2 : s.isO = true) : σ[j]? ≠ some (some (.ref q)) := fun e => by
  obtain ⟨p, o, f1, _, _, f4, _⟩ := r.ows j s e1 e2
  rw [e] at f1
  cases f1
  rw [h] at f4
  cases f4
theorem Rl.notbase (r : Rl Fb Hb F H ρ σ) {q : Addr} (h : H q = none) : Hb q = none := by
  cases z : Hb q with
  | none => rfl
  | some o =>
    cases z2 : Fb q with
    | none => rw [(r.gr.kp q o z2 z).2] at h; cases h
    | some u => rw [r.gr.fh _ _ (r.gr.ff _ _ z2)] at h; cases h
theorem Rl.fg (r : Rl Fb Hb F H ρ σ) : yG F (gOf ρ σ F H) := fun p o e => by
  unfold gOf
  split
  · exact r.gr.fh p o e
  · exact e
theorem Rl.gh (r : Rl Fb Hb F H ρ σ) : yG (gOf ρ σ F H) H := fun p o e => by
  unfold gOf at e
  split at e
  · exact e
  · exact r.gr.fh p o e
theorem Rl.visG (r : Rl Fb Hb F H ρ σ) : VAt (gOf ρ σ F H) (visG ρ) σ := fun i d e => by
  unfold Dl.visG at e
  rw [List.getElem?_map] at e
  cases h : ρ[i]? with
  | none => rw [h] at e; cases e
  | some x =>
    rw [h] at e
    have e : x.g = some d := Option.some.inj e
    have own : x.isO = true → ∃ v, σ[i]? = some (some v) ∧ At (gOf ρ σ F H) d v := fun hx => by
      obtain ⟨p, o, e1, e2, e3, e4, a⟩ := r.ows i x h hx
      refine ⟨_, e1, a.at e ?_ r.fg⟩
      unfold gOf
      rw [if_pos ⟨i, x, h, hx, e1⟩]
      exact e4
    cases x with
    | no => cases e
    | v d' =>
      cases e
      obtain ⟨v, e1, a⟩ := r.vals i d h
      exact ⟨v, e1, a.mono r.fg⟩
    | o ds => exact own rfl
    | m t ks ds => exact own rfl
theorem Rl.back {G' : Hp} (r : Rl Fb Hb F H ρ σ) (g : Gr (gOf ρ σ F H) H G' H') : Gr F H (fOf ρ σ G') H' ∧ ∀ q xs, G' q = some (.tup xs) → fOf ρ σ G' q = some (.tup xs) := by
  refine ⟨⟨fun p o e => ?_, fun p o e => ?_, fun p o e1 e2 => ?_⟩, fun q xs e => ?_⟩
  · unfold fOf
    rw [if_neg (fun h => by rw [(r.own h).2.1] at e; cases e)]
    exact g.ff p o (r.fg p o e)
  · unfold fOf at e
    split at e
    · cases e
    · exact g.fh p o e
  · by_cases h : Own ρ σ p
    · refine ⟨.inl (by unfold fOf; rw [if_pos h]), g.fh p o (g.ff p o ?_)⟩
      unfold gOf
      rw [if_pos h]
      exact e2
    · obtain ⟨x, y⟩ := g.kp p o (by unfold gOf; rw [if_neg h]; exact e1) e2
      refine ⟨?_, y⟩
      unfold Hid fOf
      rw [if_neg h]
      exact x
  · unfold fOf
    rw [if_neg (fun h => ?_)]
    · exact e
    · obtain ⟨_, _, o, e2, n⟩ := r.own h
      have : G' q = some o := g.ff q _ (by unfold gOf; rw [if_pos h]; exact e2)
      rw [this] at e
      cases e
      exact n xs rfl
theorem Rl.out {G' : Hp} (r : Rl Fb Hb F H ρ σ) (g : Gr (gOf ρ σ F H) H G' H') : Gr Fb Hb G' H' := by
  refine ⟨fun p o e => g.ff p o (r.fg p o (r.gr.ff p o e)), g.fh, fun p o e1 e2 => ?_⟩
  obtain ⟨k1, k2⟩ := r.gr.kp p o e1 e2
  have e3 : gOf ρ σ F H p = F p := by
    unfold gOf
    rw [if_neg (fun h => by rw [(r.own h).1] at e2; cases e2)]
  rcases k1 with k1 | ⟨k1, k3⟩
  · exact g.kp p o (by rw [e3]; exact k1) k2
  · have := g.ff p o (by rw [e3]; exact k3)
    exact ⟨.inr ⟨k1, this⟩, g.fh _ _ this⟩
theorem Rl.set (r : Rl Fb Hb F H ρ σ) {i : Nat} {d : D} {v : V} (a : At F d v) : Rl Fb Hb F H (ρ.set i (.v d)) (σ.set i (some v)) := by
  have nj : ∀ {j : Nat} {s : Sl}, (ρ.set i (.v d))[j]? = some s → s.isO = true → i ≠ j := fun {j s} h ho e => by
    subst e
    rw [List.getElem?_set] at h
    simp only [if_true] at h
    split at h <;> cases h
    cases ho
  refine ⟨r.gr, fun j e h => ?_, fun j s h ho => ?_, fun j k p s t h1 h2 o1 o2 h3 h4 => ?_, by simp [r.len]⟩
  · by_cases hj : i = j
    · subst hj
      rw [List.getElem?_set] at h
      simp only [if_true] at h
      split at h
      · rename_i hl
        cases h
        refine ⟨v, ?_, a⟩
        rw [List.getElem?_set]
        simp [← r.len, hl]
      · cases h
    · rw [List.getElem?_set_ne hj] at h ⊢
      exact r.vals j e h
  · have hj := nj h ho
    rw [List.getElem?_set_ne hj] at h ⊢
    exact r.ows j s h ho
  · have a1 := nj h1 o1
    have a2 := nj h2 o2
    rw [List.getElem?_set_ne a1] at h1 h3
    rw [List.getElem?_set_ne a2] at h2 h4
    exact r.dis j k p s t h1 h2 o1 o2 h3 h4
theorem Rl.setW (r : Rl Fb Hb F H ρ σ) {i : Nat} {w : Sl} {p : Addr} {o : HO} (h0 : Hb p = none) (hF : F p = none) (hH : H p = some o) (a : zdx F o w)
    (nw : ∀ (j : Nat) (s : Sl), ρ[j]? = some s → s.isO = true → σ[j]? ≠ some (some (.ref p))) : Rl Fb Hb F H (ρ.set i w) (σ.set i (some (.ref p))) := by
  have at_i : ∀ {s : Sl}, (ρ.set i w)[i]? = some s → i < ρ.length ∧ s = w := fun {s} h => by
    rw [List.getElem?_set] at h
    simp only [if_true] at h
    split at h
    · rename_i hl
      cases h
      exact ⟨hl, rfl⟩
    · cases h
  have st_i : i < ρ.length → (σ.set i (some (V.ref p)))[i]? = some (some (.ref p)) := fun hl => by
    rw [List.getElem?_set]
    simp [← r.len, hl]
  refine ⟨r.gr, fun j e h => ?_, fun j s h ho => ?_, fun j k q s t h1 h2 o1 o2 h3 h4 => ?_, by simp [r.len]⟩
  · by_cases hj : i = j
    · subst hj
      have e := (at_i h).2
      have := a.isO
      rw [← e] at this
      cases this
    · rw [List.getElem?_set_ne hj] at h ⊢
      exact r.vals j e h
  · by_cases hj : i = j
    · subst hj
      obtain ⟨hl, e⟩ := at_i h
      subst e
      exact ⟨p, o, st_i hl, h0, hF, hH, a⟩
    · rw [List.getElem?_set_ne hj] at h ⊢
      exact r.ows j s h ho
  · by_cases hj : i = j
    · subst hj
      by_cases hk : i = k
      · exact hk
      · obtain ⟨hl, _⟩ := at_i h1
        rw [st_i hl] at h3
        cases h3
        rw [List.getElem?_set_ne hk] at h2 h4
        exact absurd h4 (nw k t h2 o2)
    · by_cases hk : i = k
      · subst hk
        obtain ⟨hl, _⟩ := at_i h2
        rw [st_i hl] at h4
        cases h4
        rw [List.getElem?_set_ne hj] at h1 h3
        exact absurd h3 (nw j s h1 o1)
      · rw [List.getElem?_set_ne hj] at h1 h3
        rw [List.getElem?_set_ne hk] at h2 h4
        exact r.dis j k q s t h1 h2 o1 o2 h3 h4
theorem Rl.setO (r : Rl Fb Hb F H ρ σ) {i : Nat} {ds : List D} {p : Addr} {xs : List V} (h0 : Hb p = none) (hF : F p = none) (hH : H p = some (.lst xs)) (a : AtL F ds xs)
    (nw : ∀ (j : Nat) (s : Sl), ρ[j]? = some s → s.isO = true → σ[j]? ≠ some (some (.ref p))) : Rl Fb Hb F H (ρ.set i (.o ds)) (σ.set i (some (.ref p))) := r.setW h0 hF hH ⟨xs, rfl, a⟩ nw
theorem Rl.mutW (r : Rl Fb Hb F H ρ σ) {i : Nat} {w w' : Sl} {p : Addr} {o' : HO} (e : ρ[i]? = some w) (hw : w.isO = true) (e1 : σ[i]? = some (some (.ref p))) (a : zdx F o' w') : Rl Fb Hb F (upd H p o') (ρ.set i w') σ := by
  obtain ⟨q, o, e2, h0, hF, hH, _⟩ := r.ows i w e hw
  rw [e1] at e2
  cases e2
  have hi : i < ρ.length := (List.getElem?_eq_some_iff.mp e).1
  have neP : ∀ {j : Nat} {s : Sl} {q : Addr}, i ≠ j → ρ[j]? = some s → s.isO = true → σ[j]? = some (some (.ref q)) → q ≠ p := fun {j s q} hne h1 ho h2 z => by
    subst z
    exact hne (r.dis i j q w s e h1 hw ho e1 h2)
  refine ⟨⟨r.gr.ff, fun b o z => ?_, fun b o z1 z2 => ?_⟩, fun j d h => ?_, fun j s h ho => ?_, fun j k q s t h1 h2 o1 o2 h3 h4 => ?_, by simp [r.len]⟩
  · rw [zr (zp z hF)]
    exact r.gr.fh b o z
  · rw [zr (zp z2 h0)]
    exact r.gr.kp b o z1 z2
  · by_cases hj : i = j
    · subst hj
      rw [List.getElem?_set_self hi] at h
      cases h
      exact (Bool.noConfusion a.isO)
    · rw [List.getElem?_set_ne hj] at h
      exact r.vals j d h
  · by_cases hj : i = j
    · subst hj
      rw [List.getElem?_set_self hi] at h
      cases h
      exact ⟨p, o', e1, h0, hF, zq, a⟩
    · rw [List.getElem?_set_ne hj] at h
      obtain ⟨q, z, f1, f2, f3, f4, f5⟩ := r.ows j s h ho
      refine ⟨q, z, f1, f2, f3, ?_, f5⟩
      rw [zr (neP hj h ho f1)]
      exact f4
  · have back : ∀ {j : Nat} {s : Sl}, (ρ.set i w')[j]? = some s → s.isO = true → ∃ s', ρ[j]? = some s' ∧ s'.isO = true := fun {j s} h ho => by
      by_cases hj : i = j
      · subst hj; exact ⟨w, e, hw⟩
      · rw [List.getElem?_set_ne hj] at h; exact ⟨s, h, ho⟩
    obtain ⟨f1, g1, g1'⟩ := back h1 o1
    obtain ⟨f2, g2, g2'⟩ := back h2 o2
    exact r.dis j k q f1 f2 g1 g2 g1' g2' h3 h4
theorem Rl.mutate (r : Rl Fb Hb F H ρ σ) {i : Nat} {ds es : List D} {p : Addr} {ys : List V} (e : ρ[i]? = some (.o ds)) (e1 : σ[i]? = some (some (.ref p))) (a : AtL F es ys) : Rl Fb Hb F (upd H p (.lst ys)) (ρ.set i (.o es)) σ :=
  r.mutW e rfl e1 ⟨ys, rfl, a⟩
noncomputable def Sl.fz : Sl → Sl
  | .o ds => .v (.lst ds)
  | .m t ks vs => .v (.dct false t ks vs)
  | s => s
noncomputable def zlA (ρ : SE) (i : Nat) : SE := ρ.set i ((ρ[i]?).getD .no).fz
theorem Rl.freeze (r : Rl Fb Hb F H ρ σ) (i : Nat) : ∃ F', Rl Fb Hb F' H (zlA ρ i) σ := by
  unfold zlA
  cases h : ρ[i]? with
  | none =>
    refine ⟨F, ?_⟩
    rw [List.set_eq_of_length_le (List.getElem?_eq_none_iff.mp h)]
    exact r
  | some s =>
    have hi : i < ρ.length := (List.getElem?_eq_some_iff.mp h).1
    have same : s.fz = s → ∃ F', Rl Fb Hb F' H (ρ.set i ((some s).getD .no).fz) σ := fun e => by
      refine ⟨F, ?_⟩
      show Rl Fb Hb F H (ρ.set i s.fz) σ
      rw [e]
      have : ρ.set i s = ρ := by
        apply List.ext_getElem?
        intro j
        by_cases hj : i = j
        · subst hj; rw [List.getElem?_set_self hi, h]
        · rw [List.getElem?_set_ne hj]
      rw [this]
      exact r
    have give : ∀ d, s.isO = true → s.g = some d → s.fz = .v d → ∃ F', Rl Fb Hb F' H (ρ.set i ((some s).getD .no).fz) σ := fun d ho hg hz => by
      obtain ⟨p, o, e1, e2, e3, e4, a⟩ := r.ows i s h ho
      have sF : yG F (upd F p o) := fun b u e => by rw [zr (zp e e3)]; exact e
      show ∃ F', Rl Fb Hb F' H (ρ.set i s.fz) σ
      rw [hz]
      have nj : ∀ {j : Nat} {t : Sl}, (ρ.set i (.v d))[j]? = some t → t.isO = true → i ≠ j := fun {j t} h ht e => by
        subst e
        rw [List.getElem?_set_self hi] at h
        cases h
        cases ht
      refine ⟨upd F p o, r.gr.show e2 e3 e4, fun j e z => ?_, fun j t z ht => ?_, fun j k q t u h1 h2 o1 o2 h3 h4 => ?_, by simp [r.len]⟩
      · by_cases hj : i = j
        · subst hj
          rw [List.getElem?_set_self hi] at z
          cases z
          exact ⟨_, e1, a.at hg zq sF⟩
        · rw [List.getElem?_set_ne hj] at z
          obtain ⟨v, f1, f2⟩ := r.vals j e z
          exact ⟨v, f1, f2.mono sF⟩
      · have hj := nj z ht
        rw [List.getElem?_set_ne hj] at z
        obtain ⟨q, y, f1, f2, f3, f4, f5⟩ := r.ows j t z ht
        refine ⟨q, y, f1, f2, ?_, f4, f5.mono sF⟩
        rw [zr (fun w => hj (r.dis i j p s t h z ho ht e1 (by rw [← w]; exact f1)))]
        exact f3
      · have a1 := nj h1 o1
        have a2 := nj h2 o2
        rw [List.getElem?_set_ne a1] at h1
        rw [List.getElem?_set_ne a2] at h2
        exact r.dis j k q t u h1 h2 o1 o2 h3 h4
    cases s with
    | no => exact same rfl
    | v d => exact same rfl
    | o ds => exact give _ rfl rfl rfl
    | m t ks ds => exact give _ rfl rfl rfl
end
inductive Ctl where
  | nx (ρ : SE) | rt (d : D) | bk (ρ : SE) | ct (ρ : SE) | no
  deriving Inhabited
noncomputable def SOk (Fb Hb : Hp) (E : zgh) : Ctl → Prop
  | .nx ρ => ∀ F H σ, Rl Fb Hb F H ρ σ → E.nx σ H
  | .bk ρ => ∀ F H σ, Rl Fb Hb F H ρ σ → E.bk σ H
  | .ct ρ => ∀ F H σ, Rl Fb Hb F H ρ σ → E.ct σ H
  | .rt d => ∀ F H v, Gr Fb Hb F H → At F d v → E.rt v H
  | .no => False
noncomputable def RS (t : TS) (g : SE → Ctl) : Prop := ∀ (Fb Hb F H : Hp) (ρ : SE) (σ : St) (E : zgh), Rl Fb Hb F H ρ σ → SOk Fb Hb E (g ρ) → t E σ H
noncomputable def SD (X : Cx) (st : Stmt) (g : SE → Ctl) : Prop := ∃ t, PS X st t ∧ RS t g
noncomputable def SDs (X : Cx) (sts : List Stmt) (g : SE → Ctl) : Prop := ∃ t, PSs X sts t ∧ RS t g
section
variable {X : Cx} {st : Stmt} {sts : List Stmt} {a b c e : Expr} {pos pos' : Pos}
noncomputable def yd : SE → Ctl := .nx
noncomputable def zW (g h : SE → Ctl) : SE → Ctl := fun ρ => match g ρ with
  | .nx ρ' => h ρ'
  | .rt d => .rt d
  | .bk ρ' => .bk ρ'
  | .ct ρ' => .ct ρ'
  | .no => .no
theorem zL : SDs X [] yd := ⟨_, zid, fun _ _ F H ρ σ E r h => h F H σ r⟩
theorem zf {g h : SE → Ctl} (h1 : SD X st g) (h2 : SDs X sts h) : SDs X (st :: sts) (zW g h) := by
  obtain ⟨t, p, r⟩ := h1
  obtain ⟨u, p2, r2⟩ := h2
  refine ⟨_, zhj p p2, fun Fb Hb F H ρ σ E rl k => ?_⟩
  refine r Fb Hb F H ρ σ { E with nx := u E } rl ?_
  unfold zW at k
  cases e : g ρ with
  | nx ρ' =>
    rw [e] at k
    exact fun F' H' σ' rl' => r2 Fb Hb F' H' ρ' σ' E rl' k
  | rt d => rw [e] at k; exact k
  | bk d => rw [e] at k; exact k
  | ct d => rw [e] at k; exact k
  | no => rw [e] at k; exact k
theorem zj {g : SE → Ctl} (h1 : SD X st g) : SDs X [st] g := let ⟨_, p, r⟩ := h1; ⟨_, zjt p, r⟩
noncomputable def sFz (i : Nat) (g : SE → Ctl) : SE → Ctl := fun ρ => g (zlA ρ i)
theorem vN {g : SE → Ctl} (i : Nat) (h : SDs X sts g) : SDs X sts (sFz i g) := by
  obtain ⟨t, p, r⟩ := h
  refine ⟨_, p, fun Fb Hb F H ρ σ E rl k => ?_⟩
  obtain ⟨F', rl'⟩ := rl.freeze i
  exact r Fb Hb F' H _ σ E rl' k
noncomputable def sNo : SE → Ctl := fun _ => .no
theorem Ys : SD X st sNo := ⟨_, zho, fun _ _ _ _ _ _ _ _ h => h.elim⟩
noncomputable def yK (f : Ev → Option D) : SE → Ctl := fun ρ => match f (visG ρ) with
  | some d => .rt d
  | none => .no
theorem zA {f : Ev → Option D} (h : ED X e f) : SD X (.Return (some e) pos) (yK f) := by
  obtain ⟨t, p, r⟩ := h
  refine ⟨_, zjI p, fun Fb Hb F H ρ σ E rl k => ?_⟩
  unfold yK at k
  cases h : f (visG ρ) with
  | none => rw [h] at k; exact k.elim
  | some d =>
    rw [h] at k
    exact r σ _ _ H d _ rl.gh rl.visG h fun F' H' v g av => k F' H' v (rl.out g) av
noncomputable def zbV : SE → Ctl := fun _ => .rt .non
noncomputable def vEv (m : Bool) (f : Ev → Option D) (ρ : SE) : Option D := if m = true then (f (visG ρ)).bind fun d => if noL d = true then some d else none else f (visF ρ)
theorem RE.at {Fb Hb F H : Hp} {ρ : SE} {σ : St} {m : Bool} {f : Ev → Option D} {t : TE} {d : D} {Q : VK} (r : RE t f) (rl : Rl Fb Hb F H ρ σ) (h : vEv m f ρ = some d) (q : ∀ F' H' v, Gr F H F' H' → At F' d v → Q v H') : t σ H Q := by
  unfold vEv at h
  cases m with
  | false =>
    rw [if_neg Bool.false_ne_true] at h
    exact r σ _ _ H d _ rl.gr.fh rl.visF h q
  | true =>
    rw [if_pos rfl] at h
    obtain ⟨d', h1, h2⟩ := Option.bind_eq_some_iff.mp h
    split at h2 <;> cases h2
    rename_i hn
    refine r σ _ _ H d _ rl.gh rl.visG h1 fun F' H' v g av => ?_
    obtain ⟨g2, fl⟩ := rl.back g
    exact q _ H' v g2 (av.flat fl hn)
noncomputable def xF (m : Bool) (i : Nat) (f : Ev → Option D) : SE → Ctl := fun ρ => match vEv m f ρ with
  | some d => .nx (ρ.set i (.v d))
  | none => .no
theorem yA {m : Bool} {i : Nat} {x : Str} {f : Ev → Option D} (hN : X.N.Nodup) (hi : X.N[i]? = some x) (hx : Loc X.env.scope x) (he : ED X e f) (hs : swapsWith e (some (.Name x pos')) pos.line X.env = pure false := by rfl)
    (hf : X.fn x = true ∨ X.env.scope.names.lookup x = some .local := by first | exact .inl rfl | exact .inr rfl | assumption) : SD X (.Assign [.Name x pos'] e pos) (xF m i f) := by
  obtain ⟨t, p, r⟩ := he
  refine ⟨_, zdC hN hi hx p hs hf, fun Fb Hb F H ρ σ E rl k => ?_⟩
  unfold xF at k
  cases h : vEv m f ρ with
  | none => rw [h] at k; exact k.elim
  | some d =>
    rw [h] at k
    exact r.at rl h fun F' H' v g av => k F' H' _ ((rl.grow g).set av)
noncomputable def Xg (f : Ev → Option D) : SE → Ctl := fun ρ => match f (visG ρ) with
  | some _ => .nx ρ
  | none => .no
theorem y3 {f : Ev → Option D} (he : ED X e f) (hs : swapsWith e none pos.line X.env = pure false := by rfl) : SD X (.Expr e pos) (Xg f) := by
  obtain ⟨t, p, r⟩ := he
  refine ⟨_, zbM p hs, fun Fb Hb F H ρ σ E rl k => ?_⟩
  unfold Xg at k
  cases h : f (visG ρ) with
  | none => rw [h] at k; exact k.elim
  | some d =>
    rw [h] at k
    exact r σ _ _ H d _ rl.gh rl.visG h fun F' H' v g av => k _ H' σ (rl.grow (rl.back g).1)
noncomputable def Xn (i : Nat) (f : Ev → Option (List D)) : SE → Ctl := fun ρ => match f (visF ρ) with
  | some ds => .nx (ρ.set i (.o ds))
  | none => .no
theorem vS {i : Nat} {x : Str} {f : Ev → Option (List D)} (hN : X.N.Nodup) (hi : X.N[i]? = some x) (hx : Loc X.env.scope x) (he : FL X e f) (hs : swapsWith e (some (.Name x pos')) pos.line X.env = pure false := by rfl)
    (hf : X.fn x = true ∨ X.env.scope.names.lookup x = some .local := by first | exact .inl rfl | exact .inr rfl | assumption) : SD X (.Assign [.Name x pos'] e pos) (Xn i f) := by
  obtain ⟨t, p, r⟩ := he
  refine ⟨_, zdC hN hi hx p hs hf, fun Fb Hb F H ρ σ E rl k => ?_⟩
  unfold Xn at k
  cases h : f (visF ρ) with
  | none => rw [h] at k; exact k.elim
  | some ds =>
    rw [h] at k
    refine r σ _ _ H ds _ rl.gr.fh rl.visF h fun F' H' q xs g h0 hF hH hx => ?_
    have rl2 := rl.grow g
    exact k F' H' _ (rl2.setO (rl.notbase h0) hF hH hx (rl.notown h0))
noncomputable def sIf (t : Ev → Option Bool) (g h : SE → Ctl) : SE → Ctl := fun ρ => match t (visG ρ) with
  | some true => g ρ
  | some false => h ρ
  | none => .no
theorem xq {as bs : List Stmt} {t : Ev → Option Bool} {g h : SE → Ctl} (hc : TD X c t) (ha : SDs X as g) (hb : SDs X bs h) : SD X (.If c as bs pos) (sIf t g h) := by
  obtain ⟨tc, pc, rc⟩ := hc
  obtain ⟨ta, pa, ra⟩ := ha
  obtain ⟨tb, pb, rb⟩ := hb
  refine ⟨_, zmi pc pa pb, fun Fb Hb F H ρ σ E rl k => ?_⟩
  unfold sIf at k
  cases h : t (visG ρ) with
  | none => rw [h] at k; exact k.elim
  | some d =>
    rw [h] at k
    refine rc σ _ _ H d _ rl.gh rl.visG h fun F' H' g => ?_
    have rl2 := rl.grow (rl.back g).1
    cases d with
    | true => rw [if_pos rfl]; exact ra Fb Hb _ H' ρ σ E rl2 k
    | false => rw [if_neg Bool.false_ne_true]; exact rb Fb Hb _ H' ρ σ E rl2 k
noncomputable def Ze (t : Ev → Option Bool) (g : SE → Ctl) : Nat → SE → Ctl
  | 0, _ => .no
  | n + 1, ρ => match t (visG ρ) with
    | some true => match g ρ with
      | .nx ρ' => Ze t g n ρ'
      | .ct ρ' => Ze t g n ρ'
      | .bk ρ' => .nx ρ'
      | .rt d => .rt d
      | .no => .no
    | some false => .nx ρ
    | none => .no
theorem zdh {as : List Stmt} {t : Ev → Option Bool} {g : SE → Ctl} (n : Nat) (hp : PassesOwn (model X.prog X.w) X.A X.env X.xe) (hc : TD X c t) (ha : SDs X as g) : SD X (.While c as [] pos) (Ze t g n) := by
  obtain ⟨tc, pc, rc⟩ := hc
  obtain ⟨ta, pa, ra⟩ := ha
  refine ⟨_, zgD hp pc pa, fun Fb Hb F H ρ σ E rl k => ?_⟩
  refine ⟨fun m σ H => ∃ F ρ, Rl Fb Hb F H ρ σ ∧ SOk Fb Hb E (Ze t g m ρ), ⟨n, F, ρ, rl, k⟩, ?_⟩
  rintro m σ H ⟨F, ρ, rl, k⟩
  cases m with
  | zero => exact k.elim
  | succ m =>
    unfold Ze at k
    cases h : t (visG ρ) with
    | none => rw [h] at k; exact k.elim
    | some d =>
      rw [h] at k
      refine rc σ _ _ H d _ rl.gh rl.visG h fun F' H' gr => ?_
      have rl2 := rl.grow (rl.back gr).1
      cases d with
      | false => rw [if_neg Bool.false_ne_true]; exact k _ H' σ rl2
      | true =>
        rw [if_pos rfl]
        refine ⟨fun σ H => ∃ F ρ, Rl Fb Hb F H ρ σ ∧ SOk Fb Hb E (Ze t g m ρ), fun σ' H' w => ⟨m, Nat.lt_succ_self m, w⟩, ?_⟩
        refine ra Fb Hb _ H' ρ σ _ rl2 ?_
        dsimp only at k
        cases hg : g ρ with
        | nx ρ' => rw [hg] at k; exact fun F2 H2 σ2 r2 => ⟨F2, ρ', r2, k⟩
        | ct ρ' => rw [hg] at k; exact fun F2 H2 σ2 r2 => ⟨F2, ρ', r2, k⟩
        | bk ρ' => rw [hg] at k; exact k
        | rt d => rw [hg] at k; exact k
        | no => rw [hg] at k; exact k.elim
noncomputable def RG (t : TG) (b : D → SE → Option SE) : Prop := ∀ (Fb Hb F H : Hp) (ρ ρ' : SE) (σ : St) (d : D) (v : V) (Q : St → Hp → Prop), Rl Fb Hb F H ρ σ → At F d v → b d ρ = some ρ' → (∀ σ', Rl Fb Hb F H ρ' σ' → Q σ' H) → t v σ H Q
noncomputable def RGs (t : TGs) (b : List D → SE → Option SE) : Prop := ∀ (Fb Hb F H : Hp) (ρ ρ' : SE) (σ : St) (ds : List D) (vs : List V) (Q : St → Hp → Prop), Rl Fb Hb F H ρ σ → AtL F ds vs → b ds ρ = some ρ' → (∀ σ', Rl Fb Hb F H ρ' σ' → Q σ' H) → t vs σ H Q
noncomputable def BD (X : Cx) (tg : Expr) (b : D → SE → Option SE) : Prop := ∃ t, PG X tg t ∧ RG t b
noncomputable def BDs (X : Cx) (tgs : List Expr) (b : List D → SE → Option SE) : Prop := ∃ t, PGs X tgs t ∧ RGs t b
noncomputable def yJ (i : Nat) : D → SE → Option SE := fun d ρ => some (ρ.set i (.v d))
theorem yk {i : Nat} (h : PG X a (Yi i)) : BD X a (yJ i) := by
  refine ⟨_, h, fun Fb Hb F H ρ ρ' σ d v Q rl av e q => ?_⟩
  cases e
  exact q _ (rl.set av)
noncomputable def zfT : List D → SE → Option SE
  | [], ρ => some ρ
  | _, _ => none
noncomputable def Yj (b : D → SE → Option SE) (c : List D → SE → Option SE) : List D → SE → Option SE
  | d :: ds, ρ => (b d ρ).bind (c ds)
  | [], _ => none
theorem zc2 : BDs X [] zfT := by
  refine ⟨_, zeW, fun Fb Hb F H ρ ρ' σ ds vs Q rl av e q => ?_⟩
  cases ds with
  | nil => cases e; exact ⟨av.nil_inv, q _ rl⟩
  | cons _ _ => cases e
theorem vz {es : List Expr} {b : D → SE → Option SE} {c : List D → SE → Option SE} (h1 : BD X e b) (h2 : BDs X es c)
    (hs : (assignEach (e :: es) X.env).map (·.2) = assign e X.env :: (assignEach es X.env).map (·.2) := by rfl) : BDs X (e :: es) (Yj b c) := by
  obtain ⟨t, p, r⟩ := h1
  obtain ⟨u, p2, r2⟩ := h2
  refine ⟨_, Wd p p2 hs, fun Fb Hb F H ρ ρ' σ ds vs Q rl av e q => ?_⟩
  cases ds with
  | nil => cases e
  | cons d ds =>
    obtain ⟨x, xs, rfl, a1, a2⟩ := av.cons_inv
    obtain ⟨ρ1, e1, e2⟩ := Option.bind_eq_some_iff.mp e
    exact ⟨x, xs, rfl, r Fb Hb F H ρ ρ1 σ d x _ rl a1 e1 fun σ1 rl1 => r2 Fb Hb F H ρ1 ρ' σ1 ds xs Q rl1 a2 e2 q⟩
noncomputable def zem (n : Nat) (c : List D → SE → Option SE) : D → SE → Option SE
  | .tup ds, ρ => if ds.length = n then c ds ρ else none
  | _, _ => none
theorem zfB {es : List Expr} {k : Nat} {n : Nat} {c : List D → SE → Option SE} (hc : X.calm = true) (h : BDs X es c)
    (hn : (assignEach es X.env).length = n := by rfl) (hst : (assignEach es X.env).findIdx? (·.1) = none := by rfl) : BD X (.Tuple es k pos) (zem n c) := by
  obtain ⟨t, p, r⟩ := h
  refine ⟨_, zhL hc p hn hst, fun Fb Hb F H ρ ρ' σ d v Q rl av e q => ?_⟩
  cases d with
  | tup ds =>
    unfold zem at e
    dsimp only at e
    split at e
    · rename_i hl
      obtain ⟨a, xs, rfl, hx, al⟩ := av.tup_inv
      exact ⟨a, xs, rfl, SqT.of (rl.gr.fh _ _ hx), by rw [al.length]; exact hl, r Fb Hb F H ρ ρ' σ ds xs Q rl al e q⟩
    · cases e
  | _ => cases e
noncomputable def zjf (m : Bool) (f : Ev → Option D) (b : D → SE → Option SE) : SE → Ctl := fun ρ => match (vEv m f ρ).bind fun d => b d ρ with
  | some ρ' => .nx ρ'
  | none => .no
noncomputable def zbp (m : Bool) (i : Nat) (fk fe : Ev → Option D) : SE → Ctl := fun ρ => match (vEv m fe ρ).bind fun d => (fk (visG ρ)).bind fun k => match ρ[i]?, k with
    | some (.o ds), .int k => (ixN ds.length k).map fun j => ρ.set i (.o (ds.set j d))
    | _, _ => none with
  | some ρ' => .nx ρ'
  | none => .no
theorem Xw {m : Bool} {i : Nat} {ko : Expr} {fk fe : Ev → Option D} (he : ED X e fe) (ho : PE X a (ziL i)) (hk : ED X ko fk) (hs : swapsWithSole [.Subscript a ko pos'] e pos.line X.env = pure false := by rfl) (hw : swappedStores [.Subscript a ko pos'] e X.env = pure none := by rfl)
    (h1 : (assignEach [.Subscript a ko pos'] X.env).map (·.2) = [assign (.Subscript a ko pos') X.env] := by rfl)
    (ha : ∀ v, assign (.Subscript a ko pos') X.env v = (do
      let ov ← holding [v] (eval a X.env)
      let iv ← holding [v, ov] (eval ko X.env)
      standAt pos'
      holding [v, ov, iv] (setItem ov iv v)
      release [v, ov, iv] []) := by intro _; rfl) : SD X (.Assign [.Subscript a ko pos'] e pos) (zbp m i fk fe) := by
  obtain ⟨t, p, r⟩ := he
  obtain ⟨tk, pk, rk⟩ := hk
  refine ⟨_, zko p (zjP ho pk zgk ha) hs hw h1, fun Fb Hb F H ρ σ E rl k => ?_⟩
  unfold zbp at k
  cases h : (vEv m fe ρ).bind fun d => (fk (visG ρ)).bind fun k => match ρ[i]?, k with
    | some (.o ds), .int k => (ixN ds.length k).map fun j => ρ.set i (.o (ds.set j d))
    | _, _ => none with
  | none => rw [h] at k; exact k.elim
  | some ρ' =>
    rw [h] at k
    obtain ⟨d, e1, e2⟩ := Option.bind_eq_some_iff.mp h
    obtain ⟨kd, e3, e2⟩ := Option.bind_eq_some_iff.mp e2
    cases hs : ρ[i]? with
    | none => rw [hs] at e2; cases e2
    | some sl =>
      rw [hs] at e2
      cases sl with
      | no => cases e2
      | v _ => cases e2
      | m _ _ _ => cases e2
      | o ds =>
        cases kd with
        | int kk =>
          obtain ⟨j, e4, rfl⟩ := Option.map_eq_some_iff.mp e2
          refine r.at rl e1 fun F' H' v g av => ?_
          have rl2 := rl.grow g
          obtain ⟨q, xs, f1, _⟩ := rl2.owns i ds hs
          refine ⟨_, f1, ?_⟩
          refine rk σ _ _ H' _ _ rl2.gh rl2.visG e3 fun F3 H3 v3 g3 av3 => ?_
          obtain ⟨gb, _⟩ := rl2.back g3
          have rl3 := rl2.grow gb
          obtain ⟨q3, xs3, f1', _, _, f4, f5⟩ := rl3.owns i ds hs
          rw [f1] at f1'
          cases f1'
          refine ⟨q, xs3, kk, j, rfl, av3.int_inv, f4, by rw [f5.length]; exact e4, ?_⟩
          exact k _ _ σ (rl3.mutate hs f1 (f5.set j (av.mono gb.ff)))
        | _ => cases e2
end
end Dl
namespace L2
open PySem PySem.Spec PyProof.Rows
section
variable {X : Cx} {tg : Expr}
noncomputable def iSeq (K : PySem.W.Frag) (tl : TE) : TI := fun σ H R => tl σ H fun x H1 => (∃ a, x = .ref a ∧ (∃ xs, SqL K H1 a xs) ∧ R (Itl K a) H1) ∨ (∃ a, x = .ref a ∧ (∃ xs, SqT K H1 a xs) ∧ R (Itt K a) H1)
theorem zj9 {l : Expr} {tl : TE} (hl : PE X l tl) : PI X tg l (iSeq X.K tl) := by
  intro pins s σ H R I h
  refine thn (hl pins s σ H _ I h) fun v s1 hh9 => ?_
  obtain ⟨x, H1, I1, r1, q1⟩ := hh9
  rcases q1 with ⟨a, e, ⟨xs, hq⟩, q⟩ | ⟨a, e, ⟨xs, hq⟩, q⟩
  · subst e
    cases r1
    obtain ⟨its, rv, p, hz⟩ := I1.list hq
    refine wpAny_pyIter_list p.isList ?_
    refine ⟨s1.heap.objs.size, [s1.heap.objs.size], _, _, H1, rfl, I1.kept (t' := s1.toks) fun b o e => Heap.get?_push_of_some _ e, zeI a _, ⟨_, Heap.get?_push_size _ rfl, rfl, rfl⟩, fun b hb => ?_, q⟩
    have e : b = s1.heap.objs.size := by simpa using hb
    subst e
    exact I1.fpOk (Nat.le_refl _) (I1.hok.fresh (Nat.le_refl _))
  · subst e
    cases r1
    obtain ⟨its, rv, p, hz⟩ := I1.tuple hq
    refine wpAny_pyIter_tuple (show s1.heap.IsTuple a its.toArray from p) ?_
    refine ⟨s1.heap.objs.size, [s1.heap.objs.size], _, _, H1, rfl, I1.kept (t' := s1.toks) fun b o e => Heap.get?_push_of_some _ e, zef a _, ⟨_, Heap.get?_push_size _ rfl, rfl, rfl⟩, fun b hb => ?_, q⟩
    have e : b = s1.heap.objs.size := by simpa using hb
    subst e
    exact I1.fpOk (Nat.le_refl _) (I1.hok.fresh (Nat.le_refl _))
end
end L2
namespace Dl
open PySem L2
variable [KK]
noncomputable def zjy (J : It) (F : Hp) (ds : List D) : Prop := ∀ (i : Nat) (F2 H2 : Hp), yG F F2 → yG F2 H2 → (i = ds.length → J.stop i H2) ∧
  ∀ d, ds[i]? = some d → J.go i H2 ∧ ∀ x H3, J.yld i H2 x H3 → ∃ F3, Gr F2 H2 F3 H3 ∧ At F3 d x
noncomputable def RI (wi : TI) (f : Ev → Option (List D)) : Prop :=
  ∀ (σ : St) (ρ : Ev) (F H : Hp) (ds : List D) (R : It → Hp → Prop), yG F H → VAt F ρ σ → f ρ = some ds → (∀ F' H' J, Gr F H F' H' → zjy J F' ds → R J H') → wi σ H R
noncomputable def ID (X : Cx) (tg iter : Expr) (f : Ev → Option (List D)) : Prop := ∃ wi, PI X tg iter wi ∧ RI wi f
noncomputable def wQ : D → Option (List D)
  | .lst ds => some ds
  | .tup ds => some ds
  | _ => none
section
variable {X : Cx} {tg a b c e : Expr} {pos : Pos}
theorem zkc {K : PySem.W.Frag} {F : Hp} {p : Addr} {xs : List V} {ds : List D} (h : F p = some (.lst xs)) (al : AtL F ds xs) : zjy (Itl K p) F ds := by
  intro i F2 H2 s1 s2
  have q : SqL K H2 p xs := SqL.of (s2 _ _ (s1 _ _ h))
  refine ⟨fun hl => ⟨xs, q, by rw [al.length, hl]; exact Nat.le_refl _⟩, fun d hd => ?_⟩
  obtain ⟨x, hx, ax⟩ := al.get hd
  refine ⟨⟨xs, x, q, hx⟩, fun y H3 hy => ?_⟩
  obtain ⟨rfl, hy⟩ := hy
  have := hy xs q
  rw [hx] at this
  cases this
  exact ⟨F2, .refl s2, ax.mono s1⟩
theorem zjO {K : PySem.W.Frag} {F : Hp} {p : Addr} {xs : List V} {ds : List D} (h : F p = some (.tup xs)) (al : AtL F ds xs) : zjy (Itt K p) F ds := by
  intro i F2 H2 s1 s2
  have q : SqT K H2 p xs := SqT.of (s2 _ _ (s1 _ _ h))
  refine ⟨fun hl => ⟨xs, q, by rw [al.length, hl]; exact Nat.le_refl _⟩, fun d hd => ?_⟩
  obtain ⟨x, hx, ax⟩ := al.get hd
  refine ⟨⟨xs, x, q, hx⟩, fun y H3 hy => ?_⟩
  obtain ⟨rfl, hy⟩ := hy
  have := hy xs q
  rw [hx] at this
  cases this
  exact ⟨F2, .refl s2, ax.mono s1⟩
noncomputable def iOf (f : Ev → Option D) : Ev → Option (List D) := fun ρ => (f ρ).bind wQ
theorem vf {f : Ev → Option D} (ha : ED X a f) : ID X tg a (iOf f) := by
  obtain ⟨t, p, r⟩ := ha
  refine ⟨_, zj9 p, fun σ ρ F H ds R s va e q => ?_⟩
  obtain ⟨d, e1, e2⟩ := Option.bind_eq_some_iff.mp e
  refine r σ ρ F H d _ s va e1 fun F1 H1 v g1 a1 => ?_
  cases d <;> try cases e2
  · obtain ⟨p, xs, rfl, hx, al⟩ := a1.tup_inv
    exact .inr ⟨p, rfl, ⟨xs, SqT.of (g1.fh _ _ hx)⟩, q F1 H1 _ g1 (zjO hx al)⟩
  · obtain ⟨p, xs, rfl, hx, al⟩ := a1.lst_inv
    exact .inl ⟨p, rfl, ⟨xs, SqL.of (g1.fh _ _ hx)⟩, q F1 H1 _ g1 (zkc hx al)⟩
noncomputable def Zk (lo : Int) (n : Nat) : List D := (List.range n).map fun k : Nat => .int (lo + k)
theorem zdt {F : Hp} (lo : Int) (n : Nat) : zjy (Itr lo n) F (Zk lo n) := by
  intro i F2 H2 s1 s2
  have hlen : (Zk lo n).length = n := by unfold Zk; simp
  refine ⟨fun hl => by rw [hlen] at hl; rw [hl]; exact Nat.le_refl _, fun d hd => ?_⟩
  have hi : i < n := by
    have := (List.getElem?_eq_some_iff.mp hd).1
    omega
  refine ⟨hi, fun y H3 hy => ?_⟩
  obtain ⟨rfl, rfl⟩ := hy
  refine ⟨F2, .refl s2, ?_⟩
  unfold Zk at hd
  rw [List.getElem?_map, List.getElem?_range hi] at hd
  cases hd
  exact .int
@[irreducible] noncomputable def zfA (j : Int) : Bool := decide (-(2 ^ 62) ≤ j ∧ j < 2 ^ 62)
omit [KK] in
theorem zX {j : Int} : zfA j = true ↔ -(2 ^ 62) ≤ j ∧ j < 2 ^ 62 := by unfold zfA; exact decide_eq_true_iff
noncomputable def Y2 : List D → Option (List D)
  | [.int j] => if zfA j = true then some (Zk 0 j.toNat) else none
  | _ => none
noncomputable def Xh : List D → Option (List D)
  | [.int i, .int j] => if zfA i = true ∧ zfA j = true then some (Zk i (j - i).toNat) else none
  | _ => none
noncomputable def XR (g : List D → Option (List D)) (f : Ev → Option (List D)) : Ev → Option (List D) := fun ρ => (f ρ).bind g
theorem ZN {p : Pos} {f : Ev → Option (List D)} (hg : Gl X "range") (hm : X.mg "range" = none) (ha : AD X [a] f) (hs : starEach [a] X.env = [(false, eval a X.env)] := by rfl) : ID X tg (.Call (.Name "range" p) [a] [] pos) (XR Y2 f) := by
  obtain ⟨t, pa, r⟩ := ha
  refine ⟨_, WY hg hm pa hs, fun σ ρ F H ds R s va e q => ?_⟩
  obtain ⟨d, e1, e2⟩ := Option.bind_eq_some_iff.mp e
  refine r σ ρ F H d _ s va e1 fun F1 H1 v g1 a1 => ?_
  unfold Y2 at e2
  split at e2
  · split at e2
    · cases e2
      rename_i hc
      obtain ⟨x, r', rfl, ax, ar⟩ := a1.cons_inv
      cases ar.nil_inv
      exact ⟨_, by rw [ax.int_inv], (zX.mp hc).1, (zX.mp hc).2, q F1 H1 _ g1 (zdt 0 _)⟩
    · cases e2
  · cases e2
theorem WI {p : Pos} {f : Ev → Option (List D)} (hg : Gl X "range") (hm : X.mg "range" = none) (ha : AD X [a, b] f) (hs : starEach [a, b] X.env = [(false, eval a X.env), (false, eval b X.env)] := by rfl) (hs2 : starEach [b] X.env = [(false, eval b X.env)] := by rfl) :
    ID X tg (.Call (.Name "range" p) [a, b] [] pos) (XR Xh f) := by
  obtain ⟨t, pa, r⟩ := ha
  refine ⟨_, Vg hg hm pa hs hs2, fun σ ρ F H ds R s va e q => ?_⟩
  obtain ⟨d, e1, e2⟩ := Option.bind_eq_some_iff.mp e
  refine r σ ρ F H d _ s va e1 fun F1 H1 v g1 a1 => ?_
  unfold Xh at e2
  split at e2
  · split at e2
    · cases e2
      rename_i hc
      obtain ⟨x, r', rfl, ax, ar⟩ := a1.cons_inv
      obtain ⟨y, r', rfl, ay, ar⟩ := ar.cons_inv
      cases ar.nil_inv
      exact ⟨_, _, by rw [ax.int_inv, ay.int_inv], ⟨(zX.mp hc.1).1, (zX.mp hc.1).2, (zX.mp hc.2).1, (zX.mp hc.2).2⟩, q F1 H1 _ g1 (zdt _ _)⟩
    · cases e2
  · cases e2
noncomputable def Xm (n : Nat) : List D → List D
  | [] => []
  | d :: ds => .tup [.int n, d] :: Xm (n + 1) ds
omit [KK] in
theorem Yf (ds : List D) : ∀ (n i : Nat), (Xm n ds)[i]? = (ds[i]?).map fun d => .tup [.int ((n + i : Nat) : Int), d] := by
  induction ds with
  | nil => intro n i; simp [Xm]
  | cons d ds ih =>
    intro n i
    cases i with
    | zero => simp [Xm]
    | succ i =>
      show (Xm (n + 1) ds)[i]? = (ds[i]?).map _
      rw [ih]
      have : n + 1 + i = n + (i + 1) := by omega
      rw [this]
omit [KK] in
theorem wU (ds : List D) : ∀ n, (Xm n ds).length = ds.length := by
  induction ds with
  | nil => intro n; rfl
  | cons d ds ih => intro n; simp [Xm, ih]
noncomputable def wV (f : Ev → Option (List D)) : Ev → Option (List D) := fun ρ => (f ρ).bind fun as => match as with
  | [d] => (wQ d).map (Xm 0)
  | _ => none
theorem zbR {es : List Expr} {k : Nat} {tp p : Pos} {f : Ev → Option (List D)} (hg : Gl X "enumerate") (hm : X.mg "enumerate" = none) (hb : bootBuiltins "enumerate" = some (.type "enumerate")) (ha : AD X [a] f)
    (hs : starEach [a] X.env = [(false, eval a X.env)] := by rfl) : ID X (.Tuple es k tp) (.Call (.Name "enumerate" p) [a] [] pos) (wV f) := by
  obtain ⟨t, pa, r⟩ := ha
  refine ⟨_, zie hg hm hb pa hs, fun σ ρ F H ds R s va e q => ?_⟩
  obtain ⟨as, e1, e2⟩ := Option.bind_eq_some_iff.mp e
  refine r σ ρ F H as _ s va e1 fun F1 H1 v g1 a1 => ?_
  split at e2
  · obtain ⟨x, r', rfl, ax, ar⟩ := a1.cons_inv
    cases ar.nil_inv
    obtain ⟨es, e3, rfl⟩ := Option.map_eq_some_iff.mp e2
    rename_i d
    cases d <;> try cases e3
    · obtain ⟨p, xs, rfl, hx, al⟩ := ax.tup_inv
      refine ⟨p, rfl, .inr ⟨xs, SqT.of (g1.fh _ _ hx), q F1 H1 _ g1 fun i F2 H2 s1 s2 => ?_⟩⟩
      have qq : SqT X.K H2 p xs := SqT.of (s2 _ _ (s1 _ _ hx))
      refine ⟨fun hl => ⟨xs, qq, by rw [al.length, hl, wU]; exact Nat.le_refl _⟩, fun d hd => ?_⟩
      rw [Yf] at hd
      obtain ⟨d', hd', rfl⟩ := Option.map_eq_some_iff.mp hd
      obtain ⟨x, hxi, ax⟩ := al.get hd'
      refine ⟨⟨xs, x, qq, hxi⟩, fun y H3 hy => ?_⟩
      obtain ⟨T, y, rfl, hT, rfl, hy⟩ := hy
      have := hy xs qq
      rw [hxi] at this
      cases this
      have g3 := Gr.alloc s2 hT (.tup [.int i, x])
      exact ⟨_, g3, .tup zq (.cons (by rw [Nat.zero_add]; exact .int) (.cons (ax.mono (s1.trans g3.ff)) .nil))⟩
    · obtain ⟨p, xs, rfl, hx, al⟩ := ax.lst_inv
      refine ⟨p, rfl, .inl ⟨xs, g1.fh _ _ hx, q F1 H1 _ g1 fun i F2 H2 s1 s2 => ?_⟩⟩
      have qq : SqL X.K H2 p xs := SqL.of (s2 _ _ (s1 _ _ hx))
      refine ⟨fun hl => ⟨xs, qq, by rw [al.length, hl, wU]; exact Nat.le_refl _⟩, fun d hd => ?_⟩
      rw [Yf] at hd
      obtain ⟨d', hd', rfl⟩ := Option.map_eq_some_iff.mp hd
      obtain ⟨x, hxi, ax⟩ := al.get hd'
      refine ⟨⟨xs, x, qq, hxi⟩, fun y H3 hy => ?_⟩
      obtain ⟨T, y, rfl, hT, rfl, hy⟩ := hy
      have := hy xs qq
      rw [hxi] at this
      cases this
      have g3 := Gr.alloc s2 hT (.tup [.int i, x])
      exact ⟨_, g3, .tup zq (.cons (by rw [Nat.zero_add]; exact .int) (.cons (ax.mono (s1.trans g3.ff)) .nil))⟩
  · cases e2
noncomputable def hb2 (F1 Hb : Hp) : Hp := fun p => match F1 p with
  | some o => some o
  | none => Hb p
theorem Zw {F1 Hb : Hp} {p : Addr} (h : F1 p = none) : hb2 F1 Hb p = Hb p := by unfold hb2; rw [h]
theorem zf2 {F1 Hb : Hp} {p : Addr} {o : HO} (h : F1 p = some o) : hb2 F1 Hb p = some o := by unfold hb2; rw [h]
theorem Gr.up {Fb Hb F1 H1 F H : Hp} (g1 : Gr Fb Hb F1 H1) (g : Gr F1 (hb2 F1 Hb) F H) : Gr Fb Hb F H := by
  refine ⟨g1.ff.trans g.ff, g.fh, fun p o e1 e2 => ?_⟩
  rcases (g1.kp p o e1 e2).1 with n | ⟨n1, n2⟩
  · exact g.kp p o n (by rw [Zw n]; exact e2)
  · exact ⟨.inr ⟨n1, g.ff _ _ n2⟩, g.fh _ _ (g.ff _ _ n2)⟩
theorem Gr.dn {Fb Hb F1 F H : Hp} (g : Gr Fb Hb F H) (s1 : yG Fb F1) (s : yG F1 F) : Gr F1 (hb2 F1 Hb) F H := by
  refine ⟨s, g.fh, fun p o e1 e2 => ?_⟩
  rw [Zw e1] at e2
  exact g.kp p o (s1.free e1) e2
theorem Rl.up {Fb Hb F1 H1 F H : Hp} {ρ : SE} {σ : St} (g1 : Gr Fb Hb F1 H1) (r : Rl F1 (hb2 F1 Hb) F H ρ σ) : Rl Fb Hb F H ρ σ := by
  refine ⟨g1.up r.gr, r.vals, fun i s e ho => ?_, r.dis, r.len⟩
  obtain ⟨p, o, e1, e2, e3⟩ := r.ows i s e ho
  refine ⟨p, o, e1, ?_, e3⟩
  cases h : F1 p with
  | none => rw [Zw h] at e2; exact e2
  | some o => rw [zf2 h] at e2; cases e2
theorem Rl.dn {Fb Hb F1 F H : Hp} {ρ : SE} {σ : St} (r : Rl Fb Hb F H ρ σ) (s1 : yG Fb F1) (s : yG F1 F) : Rl F1 (hb2 F1 Hb) F H ρ σ := by
  refine ⟨r.gr.dn s1 s, r.vals, fun i t e ho => ?_, r.dis, r.len⟩
  obtain ⟨p, o, e1, e2, e3, e4⟩ := r.ows i t e ho
  refine ⟨p, o, e1, ?_, e3, e4⟩
  rw [Zw (s.free e3)]
  exact e2
noncomputable def zee (b : D → SE → Option SE) (g : SE → Ctl) : List D → SE → Ctl
  | [], ρ => .nx ρ
  | d :: ds, ρ => match b d ρ with
    | none => .no
    | some ρ1 => match g ρ1 with
      | .nx ρ' => zee b g ds ρ'
      | .ct ρ' => zee b g ds ρ'
      | .bk ρ' => .nx ρ'
      | .rt d => .rt d
      | .no => .no
noncomputable def Zt (f : Ev → Option (List D)) (b : D → SE → Option SE) (g : SE → Ctl) : SE → Ctl := fun ρ => match f (visF ρ) with
  | some ds => zee b g ds ρ
  | none => .no
theorem zfN {Fb Hb F1 H1 : Hp} {ρ : SE} {σ : St} {E : zgh} {J : It} {g : TG} {tb : TS} {ds : List D} {b : D → SE → Option SE} {gb : SE → Ctl} (hit : zjy J F1 ds) (rg : RG g b) (rb : RS tb gb) (rl0 : Rl Fb Hb F1 H1 ρ σ) (k : SOk Fb Hb E (zee b gb ds ρ)) :
    ∃ W : Nat → Nat → St → Hp → Prop, (∃ m, W 0 m σ H1) ∧ ∀ i m σ H, W i m σ H →
      (J.stop i H ∧ E.nx σ H) ∨ (J.go i H ∧ ∃ N : St → Hp → Prop, (∀ σ' H', N σ' H' → ∃ m', m' < m ∧ W (i + 1) m' σ' H') ∧ ∀ x H', J.yld i H x H' → g x σ H' fun σ2 H2 => tb { E with nx := N, ct := N, bk := E.nx } σ2 H2) := by
  refine ⟨fun i m σ H => m = ds.length - i ∧ i ≤ ds.length ∧ ∃ F ρ, yG F1 F ∧ Rl Fb Hb F H ρ σ ∧ SOk Fb Hb E (zee b gb (ds.drop i) ρ), ⟨ds.length, by simp, Nat.zero_le _, F1, ρ, yG.refl _, rl0, k⟩, ?_⟩
  rintro i m σ H ⟨rfl, hi, F, ρ, s1, rl, k⟩
  obtain ⟨stop, go⟩ := hit i F H s1 rl.gr.fh
  by_cases hlt : i < ds.length
  · have hd : ds.drop i = ds[i] :: ds.drop (i + 1) := List.drop_eq_getElem_cons hlt
    rw [hd] at k
    unfold zee at k
    obtain ⟨g1, g2⟩ := go ds[i] (by simp [hlt])
    refine .inr ⟨g1, fun σ H => ∃ F ρ, yG F1 F ∧ Rl Fb Hb F H ρ σ ∧ SOk Fb Hb E (zee b gb (ds.drop (i + 1)) ρ), fun σ' H' w => ⟨ds.length - (i + 1), by omega, rfl, hlt, w⟩, fun x H' hy => ?_⟩
    obtain ⟨F3, g3, a3⟩ := g2 x H' hy
    cases hb : b ds[i] ρ with
    | none => rw [hb] at k; exact k.elim
    | some ρ1 =>
      rw [hb] at k
      dsimp only at k
      refine rg Fb Hb F3 H' ρ ρ1 σ _ x _ (rl.grow g3) a3 hb fun σ2 rl2 => ?_
      have s3 := s1.trans g3.ff
      refine rb F1 (hb2 F1 Hb) F3 H' ρ1 σ2 _ (rl2.dn rl0.gr.ff s3) ?_
      cases hg : gb ρ1 with
      | nx ρ' => rw [hg] at k; exact fun F4 H4 σ4 r4 => ⟨F4, ρ', r4.gr.ff, r4.up rl0.gr, k⟩
      | ct ρ' => rw [hg] at k; exact fun F4 H4 σ4 r4 => ⟨F4, ρ', r4.gr.ff, r4.up rl0.gr, k⟩
      | bk ρ' => rw [hg] at k; exact fun F4 H4 σ4 r4 => k F4 H4 σ4 (r4.up rl0.gr)
      | rt d => rw [hg] at k; exact fun F4 H4 v g4 a4 => k F4 H4 v (rl0.gr.up g4) a4
      | no => rw [hg] at k; exact k.elim
  · have e : i = ds.length := by omega
    subst e
    rw [List.drop_length] at k
    exact .inl ⟨stop rfl, k F H σ rl⟩
theorem w8 {iter : Expr} {body : List Stmt} {f : Ev → Option (List D)} {b : D → SE → Option SE} {g : SE → Ctl} (hp : PassesOwn (model X.prog X.w) X.A X.env X.xe) (hc : X.calm = true) (hi : ID X tg iter f) (hg : BD X tg b) (hb : SDs X body g)
    (hs : ∀ x, foldedSetIterable iter X.env x = pure x := by intro _; rfl) : SD X (.For tg iter body [] pos) (Zt f b g) := by
  obtain ⟨wi, pi, ri⟩ := hi
  obtain ⟨tg', pg, rg⟩ := hg
  obtain ⟨tb, pb, rb⟩ := hb
  refine ⟨_, ze8 hp hc pi pg pb hs, fun Fb Hb F H ρ σ E rl k => ?_⟩
  unfold Zt at k
  cases h : f (visF ρ) with
  | none => rw [h] at k; exact k.elim
  | some ds =>
    rw [h] at k
    exact ri σ _ _ H ds _ rl.gr.fh rl.visF h fun F1 H1 J g1 ok => zfN ok rg rb (rl.grow g1) k
end
noncomputable def lcD (b : D → Option (List (Option D))) (t : Ev → Option Bool) (f : Ev → Option D) (ρ : Ev) : List D → Option (List D)
  | [] => some []
  | d :: ds => (b d).bind fun own => (t (own ++ ρ)).bind fun c => if c = true then (f (own ++ ρ)).bind fun y => (lcD b t f ρ ds).map (y :: ·) else lcD b t f ρ ds
noncomputable def fLC (i : Ev → Option (List D)) (b : D → Option (List (Option D))) (t : Ev → Option Bool) (f : Ev → Option D) : Ev → Option (List D) := fun ρ => (i ρ).bind fun ds => if lim ds.length = true then lcD b t f ρ ds else none
noncomputable def b1 : D → Option (List (Option D)) := fun d => some [some d]
noncomputable def b2 : D → Option (List (Option D))
  | .tup [x, y] => some [some x, some y]
  | _ => none
noncomputable def RB (n : Nat) (t : TG) (b : D → Option (List (Option D))) : Prop := ∀ (σ : St) (ρ : Ev) (F H : Hp) (d : D) (v : V) (own : List (Option D)) (Q : St → Hp → Prop), yG F H → VAt F ρ σ → At F d v → b d = some own → (∀ σ', VAt F (own ++ ρ) σ' → Q σ' H) → t v (List.replicate n none ++ σ) H Q
noncomputable def wA : Ev → Option Bool := fun _ => some true
theorem zkI : RT tYes wA := fun _ _ _ _ _ _ s _ e q => by cases e; exact q _ _ (.refl s)
theorem zhZ {wi : TI} {n : Nat} {g : TG} {tt : TT} {te : TE} {fi : Ev → Option (List D)} {b : D → Option (List (Option D))} {ft : Ev → Option Bool} {fe : Ev → Option D} (ri : RI wi fi) (rg : RB n g b) (rt : RT tt ft) (re : RE te fe) :
    RF (tLC wi n g tt te) (fLC fi b ft fe) := by
  intro σ ρ F H out Q s va e q
  obtain ⟨ds, e1, e2⟩ := Option.bind_eq_some_iff.mp e
  split at e2 <;> try cases e2
  rename_i hlim
  have hlim : ds.length ≤ sizeLine := of_decide_eq_true hlim
  refine ri σ ρ F H ds _ s va e1 fun F1 H1 J g1 ok => ?_
  intro P hP
  have hF1 : F1 P = none := g1.fh.free hP
  have hH0 : H P = none := by
    cases e : H P with
    | none => rfl
    | some o =>
      cases e2 : F P with
      | none => rw [(g1.kp P o e2 e).2] at hP; cases hP
      | some u => rw [g1.fh _ _ (g1.ff _ _ e2)] at hP; cases hP
  refine ⟨fun i m ys H2 => m = ds.length - i ∧ i ≤ ds.length ∧ ∃ F2 done, Gr F1 H1 F2 H2 ∧ Gr F1 (upd H1 P (.lst [])) F2 (upd H2 P (.lst [])) ∧ F2 P = none ∧ H2 P = some (.lst ys) ∧ AtL F2 done ys ∧ done.length ≤ i ∧ ∃ more, lcD b ft fe ρ (ds.drop i) = some more ∧ done ++ more = out, ⟨ds.length, by simp, Nat.zero_le _, F1, [], Gr.hide g1.fh hP _, ?_, hF1, zq, .nil, Nat.zero_le _, out, e2, rfl⟩, ?_⟩
  · rw [zbA]
    exact .refl fun b u z => by rw [zr (zp z hF1)]; exact g1.fh b u z
  rintro i m ys H2 ⟨rfl, hi, F2, done, g2, g2', hF2, hH2, al, hdl, more, hm, hout⟩
  obtain ⟨stop, go⟩ := ok i F2 H2 g2.ff g2.fh
  by_cases hlt : i < ds.length
  · have hd : ds.drop i = ds[i] :: ds.drop (i + 1) := List.drop_eq_getElem_cons hlt
    rw [hd] at hm
    unfold lcD at hm
    obtain ⟨own, hb, hm⟩ := Option.bind_eq_some_iff.mp hm
    obtain ⟨cb, hc, hm⟩ := Option.bind_eq_some_iff.mp hm
    obtain ⟨k1, k2⟩ := go ds[i] (by simp [hlt])
    refine .inr ⟨k1, by rw [al.length]; omega, fun x H3 hy => ?_⟩
    obtain ⟨F3, g3, a3⟩ := k2 x H3 hy
    refine rg σ ρ F3 H3 ds[i] x own _ g3.fh (va.mono (g1.ff.trans (g2.ff.trans g3.ff))) a3 hb fun σ4 va4 => ?_
    refine rt σ4 _ F3 H3 cb _ g3.fh va4 hc fun F5 H5 g5 => ?_
    have g35 := g3.trans g5
    obtain ⟨n5, h5⟩ := g35.kl (fun _ e => by cases e) hF2 hH2
    have keep2 : ∀ {F6 H6 : Hp} {o : HO}, Gr F2 H2 F6 H6 → F6 P = none → Gr F1 (upd H1 P (.lst [])) F6 (upd (upd H6 P o) P (.lst [])) := fun {F6 H6 o} g6 n6 => by
      rw [zbA]
      refine ⟨g2.ff.trans g6.ff, fun b u z => ?_, fun b u z1 z2 => ?_⟩
      · rw [zr (zp z n6)]; exact g6.fh b u z
      · by_cases hbP : b = P
        · subst hbP
          rw [zq] at z2 ⊢
          exact ⟨.inl n6, z2⟩
        · rw [zr hbP] at z2 ⊢
          exact (g2.trans g6).kp b u z1 z2
    have keep1 : ∀ {F6 H6 : Hp} {o : HO}, Gr F2 H2 F6 H6 → F6 P = none → Gr F1 H1 F6 (upd H6 P o) := fun {F6 H6 o} g6 n6 => by
      refine ⟨g2.ff.trans g6.ff, fun b u z => ?_, fun b u z1 z2 => ?_⟩
      · rw [zr (zp z n6)]; exact g6.fh b u z
      · rw [zr (zp z2 hP)]
        exact (g2.trans g6).kp b u z1 z2
    cases cb with
    | false =>
      rw [if_neg Bool.false_ne_true] at hm ⊢
      have ups : H5 = upd H5 P (.lst ys) := by
        funext b
        by_cases hbP : b = P
        · subst hbP; rw [zq]; exact h5
        · rw [zr hbP]
      refine ⟨ds.length - (i + 1), by omega, rfl, hlt, F5, done, ?_, ?_, n5, h5, al.mono g35.ff, by omega, more, hm, hout⟩
      · rw [ups]; exact keep1 g35 n5
      · have := keep2 (o := .lst ys) g35 n5
        rw [← ups] at this
        exact this
    | true =>
      rw [if_pos rfl] at hm ⊢
      obtain ⟨y, hy, hm⟩ := Option.bind_eq_some_iff.mp hm
      obtain ⟨rest, hm', rfl⟩ := Option.map_eq_some_iff.mp hm
      refine re σ4 _ F5 H5 y _ g5.fh (va4.mono g5.ff) hy fun F6 H6 v g6 a6 => ?_
      have g36 := g35.trans g6
      obtain ⟨n6, h6⟩ := g36.kl (fun _ e => by cases e) hF2 hH2
      refine ⟨h6, ds.length - (i + 1), by omega, rfl, hlt, F6, done ++ [y], keep1 g36 n6, keep2 g36 n6, n6, zq, (al.mono g36.ff).snoc a6, by rw [List.length_append]; simp; omega, rest, hm', by rw [← hout, List.append_assoc]; rfl⟩
  · have e : i = ds.length := by omega
    subst e
    rw [List.drop_length] at hm
    cases hm
    rw [List.append_nil] at hout
    subst hout
    exact .inl ⟨stop rfl, q F2 H2 P ys (g1.trans g2) hH0 hF2 hH2 al⟩
theorem rb1 : RB 1 (Yi 0) b1 := by
  intro σ ρ F H d v own Q s va av e q
  cases e
  refine q _ fun i d' h => ?_
  cases i with
  | zero => cases h; exact ⟨v, rfl, av⟩
  | succ i => exact va i d' h
theorem rb2 {K : PySem.W.Frag} : RB 2 (zlu K 2 (zcg (Yi 0) (zcg (Yi 1) zlm))) b2 := by
  intro σ ρ F H d v own Q s va av e q
  unfold b2 at e
  split at e <;> cases e
  obtain ⟨p, xs, rfl, hx, al⟩ := av.tup_inv
  obtain ⟨x, r, rfl, ax, al⟩ := al.cons_inv
  obtain ⟨y, r, rfl, ay, al⟩ := al.cons_inv
  cases al.nil_inv
  refine ⟨p, _, rfl, SqT.of (s _ _ hx), rfl, x, _, rfl, y, _, rfl, rfl, ?_⟩
  refine q _ fun i d' h => ?_
  match i, h with
  | 0, h => cases h; exact ⟨x, rfl, ax⟩
  | 1, h => cases h; exact ⟨y, rfl, ay⟩
  | i + 2, h => exact va i d' h
noncomputable def tCan (f : Ev → Option D) : TE := fun σ H Q => ∃ ρ F d, yG F H ∧ VAt F ρ σ ∧ f ρ = some d ∧ ∀ F' H' v, Gr F H F' H' → At F' d v → Q v H'
noncomputable def zk5 (f : Ev → Option Bool) : TT := fun σ H Q => ∃ ρ F d, yG F H ∧ VAt F ρ σ ∧ f ρ = some d ∧ ∀ F' H', Gr F H F' H' → Q d H'
theorem ED.can {X : Cx} {e : Expr} {f : Ev → Option D} (h : ED X e f) : PE X e (tCan f) := by
  obtain ⟨t, p, r⟩ := h
  rintro pins s σ H Q I ⟨ρ, F, d, h1, h2, h3, h4⟩
  exact p pins s σ H Q I (r σ ρ F H d Q h1 h2 h3 h4)
theorem TD.can {X : Cx} {e : Expr} {f : Ev → Option Bool} (h : TD X e f) : PT X e (zk5 f) := by
  obtain ⟨t, p, r⟩ := h
  rintro pins s σ H Q I ⟨ρ, F, d, h1, h2, h3, h4⟩
  exact p pins s σ H Q I (r σ ρ F H d Q h1 h2 h3 h4)
theorem zfR {f : Ev → Option D} : RE (tCan f) f := fun _ ρ F _ d _ h1 h2 h3 h4 => ⟨ρ, F, d, h1, h2, h3, h4⟩
theorem zhE {f : Ev → Option Bool} : RT (zk5 f) f := fun _ ρ F _ d _ h1 h2 h3 h4 => ⟨ρ, F, d, h1, h2, h3, h4⟩
theorem zdy {X : Cx} {elt tg iter : Expr} {L M : List Str} {scope : Scope} {cl : List (Str × Addr)} {pos : Pos} {fi : Ev → Option (List D)} {b : D → Option (List (Option D))} {fe : Ev → Option D} {g : TG}
    (hc : X.calm = true) (S : y9 X L M scope cl) (hi : ID X tg iter fi)
    (hgS : ∀ (σ : St) (v : V) (H : Hp) (Q : St → Hp → Prop), g v (List.replicate L.length none ++ σ) H Q → g v (List.replicate L.length none ++ σ) H (fun σ2 H2 => YK (List.replicate L.length none ++ σ) σ2 ∧ Q σ2 H2))
    (hrb : RB L.length g b)
    (hg : ∀ s₀ H₀ ex pn, PG (Wm X L M scope cl s₀ H₀ ex pn) tg g) (he : ∀ s₀ H₀ ex pn, ED (Wm X L M scope cl s₀ H₀ ex pn) elt fe)
    (hs : ∀ x, foldedSetIterable iter X.env x = pure x := by intro _; rfl) : FL X (.ListComp elt [⟨tg, iter, [], 0⟩] scope pos) (fLC fi b wA fe) := by
  obtain ⟨wi, pi, ri⟩ := hi
  exact ⟨_, zhO hc S pi hgS hg (fun _ _ _ _ => ziQ) (fun _ _ _ _ => (he _ _ _ _).can) hs, zhZ ri hrb zkI zfR⟩
theorem zdB {X : Cx} {elt tg iter c : Expr} {L M : List Str} {scope : Scope} {cl : List (Str × Addr)} {pos : Pos} {fi : Ev → Option (List D)} {b : D → Option (List (Option D))} {ft : Ev → Option Bool} {fe : Ev → Option D} {g : TG}
    (hc : X.calm = true) (S : y9 X L M scope cl) (hi : ID X tg iter fi)
    (hgS : ∀ (σ : St) (v : V) (H : Hp) (Q : St → Hp → Prop), g v (List.replicate L.length none ++ σ) H Q → g v (List.replicate L.length none ++ σ) H (fun σ2 H2 => YK (List.replicate L.length none ++ σ) σ2 ∧ Q σ2 H2))
    (hrb : RB L.length g b)
    (hg : ∀ s₀ H₀ ex pn, PG (Wm X L M scope cl s₀ H₀ ex pn) tg g) (ht : ∀ s₀ H₀ ex pn, TD (Wm X L M scope cl s₀ H₀ ex pn) c ft) (he : ∀ s₀ H₀ ex pn, ED (Wm X L M scope cl s₀ H₀ ex pn) elt fe)
    (hs : ∀ x, foldedSetIterable iter X.env x = pure x := by intro _; rfl) : FL X (.ListComp elt [⟨tg, iter, [c], 0⟩] scope pos) (fLC fi b ft fe) := by
  obtain ⟨wi, pi, ri⟩ := hi
  exact ⟨_, zhO hc S pi hgS hg (fun _ _ _ _ => zeF (ht _ _ _ _).can) (fun _ _ _ _ => (he _ _ _ _).can) hs, zhZ ri hrb zhE zfR⟩
theorem zkA {t : TE} {f : Ev → Option (List D)} (r : RF t f) : RE t (xR f) := by
  intro σ ρ F H d Q s va e q
  obtain ⟨ds, e1, rfl⟩ := Option.map_eq_some_iff.mp e
  refine r σ ρ F H ds Q s va e1 fun F' H' p xs g h0 hF hH hx => ?_
  have g2 := g.show h0 hF hH
  exact q _ _ _ g2 (At.lst zq (hx.mono (fun b u e => by rw [zr (zp e hF)]; exact e)))
noncomputable def FLS (X : Cx) (i : Nat) (st : Stmt) (f : Ev → Option (List D)) : Prop := ∃ t, PS X st (zls t (Yi i)) ∧ RF t f
theorem zhW {m : Bool} {i : Nat} {st : Stmt} {f : Ev → Option (List D)} (he : FLS X i st f) : SD X st (xF m i (xR f)) := by
  obtain ⟨t, p, r⟩ := he
  refine ⟨_, p, fun Fb Hb F H ρ σ E rl k => ?_⟩
  unfold xF at k
  cases h : vEv m (xR f) ρ with
  | none => rw [h] at k; exact k.elim
  | some d =>
    rw [h] at k
    exact (zkA r).at rl h fun F' H' v g av => k F' H' _ ((rl.grow g).set av)
theorem ziY {i : Nat} {x : Str} {px spos : Pos} {X : Cx} {elt tg iter c : Expr} {L M : List Str} {scope : Scope} {cl : List (Str × Addr)} {pos : Pos} {fi : Ev → Option (List D)} {b : D → Option (List (Option D))} {ft : Ev → Option Bool} {fe : Ev → Option D} {g : TG}
    (hN : X.N.Nodup) (hi' : X.N[i]? = some x) (hx : Loc X.env.scope x) (hc : X.calm = true) (S : y9 X L M scope cl) (hi : ID X tg iter fi)
    (hgS : ∀ (σ : St) (v : V) (H : Hp) (Q : St → Hp → Prop), g v (List.replicate L.length none ++ σ) H Q → g v (List.replicate L.length none ++ σ) H (fun σ2 H2 => YK (List.replicate L.length none ++ σ) σ2 ∧ Q σ2 H2))
    (hrb : RB L.length g b)
    (hg : ∀ s₀ H₀ ex pn, PG (Wm X L M scope cl s₀ H₀ ex pn) tg g) (ht : ∀ s₀ H₀ ex pn, TD (Wm X L M scope cl s₀ H₀ ex pn) c ft) (he : ∀ s₀ H₀ ex pn, ED (Wm X L M scope cl s₀ H₀ ex pn) elt fe)
    (hs : ∀ x, foldedSetIterable iter X.env x = pure x := by intro _; rfl)
    (hsw : swapsWith (.ListComp elt [⟨tg, iter, [c], 0⟩] scope pos) (some (.Name x px)) spos.line X.env = pure true := by rfl)
    (hf : X.fn x = true ∨ X.env.scope.names.lookup x = some .local := by first | exact .inl rfl | exact .inr rfl | assumption) : FLS X i (.Assign [.Name x px] (.ListComp elt [⟨tg, iter, [c], 0⟩] scope pos) spos) (fLC fi b ft fe) := by
  obtain ⟨wi, pi, ri⟩ := hi
  exact ⟨_, zjL hN hi' hx hc S pi hgS hg (fun _ _ _ _ => zeF (ht _ _ _ _).can) (fun _ _ _ _ => (he _ _ _ _).can) hs hsw hf, zhZ ri hrb zhE zfR⟩
noncomputable def fnD (n : Nat) (g : SE → Ctl) (ds : List D) : Option D := match g (ds.map .v ++ List.replicate (n - ds.length) .no) with
  | .rt d => some d
  | .nx _ => some .non
  | _ => none
noncomputable def spD (m : Nat) (p : List D → Option D) : Sp := fun vs H Q _ => ∃ ds d F, ds.length = m ∧ yG F H ∧ AtL F ds vs ∧ p ds = some d ∧ ∀ F' H' v, Gr F H F' H' → At F' d v → Q v H'
theorem zgX {F H : Hp} {N : List Str} {ds : List D} {vs : List V} (s : yG F H) (a : AtL F ds vs) : Rl F H F H (ds.map .v ++ List.replicate (N.length - ds.length) .no) (L2.start N vs) := by
  have hl := a.length
  have noO : ∀ (i : Nat) (t : Sl), (ds.map Sl.v ++ List.replicate (N.length - ds.length) Sl.no)[i]? = some t → t.isO = true → False := fun i t h ho => by
    by_cases hi : i < ds.length
    · rw [List.getElem?_append_left (by simpa using hi), List.getElem?_map] at h
      cases e : ds[i]? with
      | none => rw [e] at h; cases h
      | some d => rw [e] at h; cases h; cases ho
    · rw [List.getElem?_append_right (by simpa using hi), List.getElem?_replicate] at h
      split at h <;> cases h
      cases ho
  refine ⟨.refl s, fun i d h => ?_, fun i t h ho => (noO i t h ho).elim, fun i j p t u h _ ho => (noO i t h ho).elim, ?_⟩
  · by_cases hi : i < ds.length
    · rw [List.getElem?_append_left (by simpa using hi), List.getElem?_map] at h
      cases e : ds[i]? with
      | none => rw [e] at h; cases h
      | some d' =>
        rw [e] at h
        cases h
        obtain ⟨x, hx, ax⟩ := a.get e
        refine ⟨x, ?_, ax⟩
        unfold L2.start
        rw [List.getElem?_append_left (by simpa [hl] using hi), List.getElem?_map, hx]
        rfl
    · rw [List.getElem?_append_right (by simpa using hi), List.getElem?_replicate] at h
      split at h <;> cases h
  · unfold L2.start
    simp [hl]
theorem yw {P : Program} {w : World} {K : PySem.W.Frag} {mg : Str → Option Value} {base : Heap} {x qual : Str} {st : Stmt} {f : Addr} {fd : FuncData} {N ps : List Str} {k : Nat} {g : SE → Ctl} (Fu : Fun K x qual st f fd) (S : zw N ps (ze st))
    (hb : ∀ (cdv : Value) (A : Around) (outer : List Env) (s : Shared) (H : Hp) (E : XK), Ya k (A.deeper (PyProof.Rows.envOfC qual (ze st) s.heap.objs.size f cdv)) → SDs (zjj CX0 P w K mg base N qual (ze st) f cdv A outer s H E).nox (zv st) g) :
    yY P w K mg base CX0 (k + 1) f fd ps (spD ps.length (fnD N.length g)) := by
  refine Fu.ok S (fun vs H Q E h => ?_) fun cdv A outer s H vs Q E hr h => ?_
  · obtain ⟨ds, d, F, hl, _, a, _⟩ := h
    rw [a.length]; exact hl
  · obtain ⟨ds, d, F, hl, sm, a, e, q⟩ := h
    obtain ⟨t, p, r⟩ := hb cdv A outer s H E hr
    refine ⟨t, p, r F H F H _ _ _ (zgX sm a) ?_⟩
    unfold fnD at e
    cases hg : g (ds.map .v ++ List.replicate (N.length - ds.length) .no) with
    | rt d' => rw [hg] at e; cases e; exact fun F' H' v g av => q F' H' v g av
    | nx ρ => rw [hg] at e; cases e; exact fun F' H' σ rl => q F' H' _ rl.gr .non
    | bk ρ => rw [hg] at e; cases e
    | ct ρ => rw [hg] at e; cases e
    | no => rw [hg] at e; cases e
theorem xX {P : Program} {w : World} {K : PySem.W.Frag} {mg : Str → Option Value} {base : Heap} {f : Addr} {fd : FuncData} {ps : List Str} {k m : Nat} {p q : List D → Option D} (F : yY P w K mg base CX0 k f fd ps (spD m p)) (h : ∀ ds d, ds.length = m → q ds = some d → p ds = some d) : yY P w K mg base CX0 k f fd ps (spD m q) :=
  F.imp fun vs H Q E ⟨ds, d, F', h1, h2, h3, h4, h5⟩ => ⟨ds, d, F', h1, h2, h3, h ds d h1 h4, h5⟩
noncomputable def zt (m : Nat) (p : List D → Option D) (f : Ev → Option (List D)) : Ev → Option D := fun ρ => (f ρ).bind fun ds => if ds.length = m then p ds else none
theorem zo {X : Cx} {x : Str} {k m : Nat} {f : Addr} {fd : FuncData} {ps : List Str} {p : List D → Option D} {e : Expr} {es : List Expr} {pp pos : Pos} {fa : Ev → Option (List D)} (F : yY X.prog X.w X.K X.mg X.base CX0 k f fd ps (spD m p)) (hr : Ya k X.A) (hg : Gl X x) (hm : X.mg x = some (.ref f)) (hk : PySem.W.keepIn X.K (.ref f) = true) (hb : zbf X.K fd ps [])
    (ha : AD X (e :: es) fa) (hdb : (x == ("__debug__" : Str)) = false := by decide) (he : starEach (e :: es) X.env = (false, eval e X.env) :: starEach es X.env := by rfl) (hpl : (backTo pos (starEach es X.env)).any (·.1) = false := by rfl) :
    ED X (.Call (.Name x pp) (e :: es) [] pos) (zt m p fa) := by
  obtain ⟨t, pa, r⟩ := ha
  refine ⟨_, zjk F hr hg hm hk hb .nil zlC pa hdb he hpl, fun σ ρ F0 H d Q s va e q => ?_⟩
  obtain ⟨ds, e1, e2⟩ := Option.bind_eq_some_iff.mp e
  split at e2 <;> try cases e2
  rename_i hl
  refine r σ ρ F0 H ds _ s va e1 fun F1 H1 vs g1 a1 => ?_
  refine ⟨ds, d, F1, hl, g1.fh, by rw [List.append_nil]; exact a1, e2, fun F' H' v g av => q F' H' v (g1.trans g) av⟩
end Dl
namespace Dl
open PySem L2
variable [KK]
section
variable {X : Cx} {a b c e : Expr} {pos : Pos}
theorem X6 : bootBuiltins "isinstance" = some (.builtin "isinstance") := by decide +kernel
theorem ve : bootBuiltins "len" = some (.builtin "len") := by decide +kernel
theorem zlb : bootBuiltins "min" = some (.builtin "min") := by decide +kernel
theorem zfq : bootBuiltins "max" = some (.builtin "max") := by decide +kernel
theorem ZH : bootBuiltins "sorted" = some (.builtin "sorted") := by decide +kernel
theorem zkF : bootBuiltins "sum" = some (.builtin "sum") := by decide +kernel
theorem zjJ : bootBuiltins "int" = some (.type "int") := by decide +kernel
theorem ziJ : bootBuiltins "bool" = some (.type "bool") := by decide +kernel
theorem xh : bootBuiltins "tuple" = some (.type "tuple") := by decide +kernel
theorem ziW : bootBuiltins "list" = some (.type "list") := by decide +kernel
theorem wX : bootBuiltins "enumerate" = some (.type "enumerate") := by decide +kernel
noncomputable def zei (C : Int → Int → Bool) (g : Int → Int → Int) : D → D → Option D
  | .int i, .int j => if C i j = true then some (.int (g i j)) else none
  | _, _ => none
noncomputable def Zs (g : Int → Int → Int) : D → D → Option D
  | .int i, .int j => some (.int (g i j))
  | _, _ => none
noncomputable def zen (g : Int → Int → Bool) : D → D → Option D
  | .int i, .int j => some (.bl (g i j))
  | _, _ => none
theorem ZB {C : Int → Int → Prop} {Cb : Int → Int → Bool} {g : Int → Int → Int} (h : ∀ i j, Cb i j = true → C i j) : OpD (rI C fun i j => .int (g i j)) (zei Cb g) := by
  intro F H x y d e z Q s ax ay ez q
  cases d <;> try cases ez
  cases e <;> try cases ez
  unfold zei at ez
  dsimp only at ez
  split at ez <;> cases ez
  rename_i hc
  exact ⟨_, _, ax.int_inv, ay.int_inv, h _ _ hc, q F H _ (.refl s) .int⟩
theorem WP {g : Int → Int → Int} : OpD (rI0 fun i j => .int (g i j)) (Zs g) := by
  intro F H x y d e z Q s ax ay ez q
  cases d <;> try cases ez
  cases e <;> try cases ez
  exact ⟨_, _, ax.int_inv, ay.int_inv, q F H _ (.refl s) .int⟩
theorem zJ {g : Int → Int → Bool} : OpD (rI0 fun i j => .bl (g i j)) (zen g) := by
  intro F H x y d e z Q s ax ay ez q
  cases d <;> try cases ez
  cases e <;> try cases ez
  exact ⟨_, _, ax.int_inv, ay.int_inv, q F H _ (.refl s) .bl⟩
theorem Vy {r r' : R2} {g g' : D → D → Option D} (h : OpD r g) (h' : OpD r' g') : OpD (fun x y H Q => r x y H Q ∨ r' x y H Q) (fun d e => (g d e).or (g' d e)) := by
  intro F H x y d e z Q s ax ay ez q
  dsimp only at ez
  cases hg : g d e with
  | some z' => rw [hg] at ez; cases ez; exact .inl (h F H x y d e z Q s ax ay hg q)
  | none => rw [hg] at ez; exact .inr (h' F H x y d e z Q s ax ay ez q)
noncomputable def zla : D → D → Option D
  | .tup a, .tup b => if lim (a.length + b.length) = true then some (.tup (a ++ b)) else none
  | _, _ => none
noncomputable def zkG : D → D → Option (List D)
  | .lst a, .lst b => if lim (a.length + b.length) = true then some (a ++ b) else none
  | _, _ => none
noncomputable def zew (d e : D) : Option D := (zkG d e).map .lst
noncomputable def zjH : D → D → Option D
  | .str a, .str b => if lim (a.length + b.length) = true then some (.str (a ++ b)) else none
  | _, _ => none
theorem zg6 {K : PySem.W.Frag} : OpD (zhN K) zla := by
  intro F H x y d e z Q s ax ay ez q
  cases d <;> try cases ez
  cases e <;> try cases ez
  unfold zla at ez
  dsimp only at ez
  split at ez <;> cases ez
  rename_i hl
  obtain ⟨p, xs, rfl, hx, al⟩ := ax.tup_inv
  obtain ⟨p2, ys, rfl, hy, bl⟩ := ay.tup_inv
  refine ⟨p, p2, xs, ys, rfl, rfl, SqT.of (s _ _ hx), SqT.of (s _ _ hy), by rw [al.length, bl.length]; exact of_decide_eq_true hl, fun e1 => ?_, fun _ e2 => ?_, fun _ _ r hr => ?_⟩
  · subst e1
    have : (_ : List D) = [] := List.length_eq_zero_iff.mp al.length.symm
    subst this
    exact q F H _ (.refl s) (.tup hy bl)
  · subst e2
    have : (_ : List D) = [] := List.length_eq_zero_iff.mp bl.length.symm
    subst this
    rw [List.append_nil] at q
    exact q F H _ (.refl s) (.tup hx al)
  · have g := Gr.alloc s hr (.tup (xs ++ ys))
    exact q _ _ _ g (.tup zq ((al.append bl).mono g.ff))
theorem zhb : OpD rCat zew := by
  intro F H x y d e z Q s ax ay ez q
  cases d <;> try cases ez
  cases e <;> try cases ez
  unfold zew zkG at ez
  dsimp only at ez
  split at ez <;> cases ez
  rename_i hl
  obtain ⟨p, xs, rfl, hx, al⟩ := ax.lst_inv
  obtain ⟨p2, ys, rfl, hy, bl⟩ := ay.lst_inv
  refine ⟨p, p2, xs, ys, rfl, rfl, s _ _ hx, s _ _ hy, by rw [al.length, bl.length]; exact of_decide_eq_true hl, fun r hr => ?_⟩
  have g := Gr.alloc s hr (.lst (xs ++ ys))
  exact q _ _ _ g (.lst zq ((al.append bl).mono g.ff))
theorem zgO : OpD (fun x y H Q => ∃ i j, x = .str i ∧ y = .str j ∧ i.length + j.length ≤ sizeLine ∧ Q (.str (i ++ j)) H) zjH := by
  intro F H x y d e z Q s ax ay ez q
  cases d <;> try cases ez
  cases e <;> try cases ez
  unfold zjH at ez
  dsimp only at ez
  split at ez <;> cases ez
  rename_i hl
  exact ⟨_, _, ax.str_inv, ay.str_inv, of_decide_eq_true hl, q F H _ (.refl s) .str⟩
noncomputable def we : D → D → Option D
  | .int i, .int j => some (.int (i + j))
  | .tup a, .tup b => if lim (a.length + b.length) = true then some (.tup (a ++ b)) else none
  | .lst a, .lst b => if lim (a.length + b.length) = true then some (.lst (a ++ b)) else none
  | .str a, .str b => if lim (a.length + b.length) = true then some (.str (a ++ b)) else none
  | _, _ => none
theorem zaJ {r : R2} {g g' : D → D → Option D} (h : OpD r g) (k : ∀ d e z, g' d e = some z → g d e = some z) : OpD r g' := fun F H x y d e z Q s ax ay ez q => h F H x y d e z Q s ax ay (k d e z ez) q
theorem yz {f h : Ev → Option D} (ha : ED X a f) (hb : ED X b h) : ED X (.BinOp a .Add b pos) (zn we f h) :=
  XF (((zkj.or zgz).or zj2).or zea) (zaJ (Vy (Vy (Vy (WP (g := fun i j => i + j)) zg6) zhb) zgO) fun d e z h => by
    cases d <;> try cases h
    all_goals cases e <;> try cases h
    · rfl
    · unfold we at h; dsimp only at h; split at h <;> cases h; rename_i hl; simp [Zs, zla, hl, zew, zkG, zjH]
    · unfold we at h; dsimp only at h; split at h <;> cases h; rename_i hl; simp [Zs, zla, hl, zew, zkG, zjH]
    · unfold we at h; dsimp only at h; split at h <;> cases h; rename_i hl; simp [Zs, zla, hl, zew, zkG, zjH]) ha hb
noncomputable def fBin (g : D → D → Option (List D)) (f h : Ev → Option D) : Ev → Option (List D) := fun ρ => (f ρ).bind fun x => (h ρ).bind fun y => g x y
theorem zbU {F H F1 H1 : Hp} {p : Addr} (g1 : Gr F H F1 H1) (hp : H1 p = none) : H p = none := by
  cases e : H p with
  | none => rfl
  | some o =>
    cases e2 : F p with
    | none => rw [(g1.kp p o e2 e).2] at hp; cases hp
    | some u => rw [g1.fh _ _ (g1.ff _ _ e2)] at hp; cases hp
noncomputable def ZT (i j : Int) : Bool := decide ((-(2 ^ 64) < i ∧ i < 2 ^ 64) ∨ (-(2 ^ 64) < j ∧ j < 2 ^ 64))
noncomputable def zjx : D → D → Option (List D)
  | .lst a, .int k => if -(2 ^ 63) ≤ k ∧ k < 2 ^ 63 ∧ lim (a.length * k.toNat) = true then some (List.replicate k.toNat a).flatten else none
  | _, _ => none
noncomputable def zhg (d e : D) : Option D := (zjx d e).map .lst
noncomputable def YS : D → D → Option D
  | .int i, .int j => if ZT i j = true then some (.int (i * j)) else none
  | .lst a, .int k => if -(2 ^ 63) ≤ k ∧ k < 2 ^ 63 ∧ lim (a.length * k.toNat) = true then some (.lst (List.replicate k.toNat a).flatten) else none
  | _, _ => none
theorem zgL : OpD rRep zhg := by
  intro F H x y d e z Q s ax ay ez q
  cases d <;> try cases ez
  cases e <;> try cases ez
  unfold zhg zjx at ez
  dsimp only at ez
  split at ez <;> cases ez
  rename_i hl
  obtain ⟨p, xs, rfl, hx, al⟩ := ax.lst_inv
  refine ⟨p, _, xs, rfl, ay.int_inv, s _ _ hx, hl.1, hl.2.1, by rw [al.length]; exact of_decide_eq_true hl.2.2, fun r hr => ?_⟩
  rename_i ds k
  have g := Gr.alloc s hr (.lst (List.replicate k.toNat xs).flatten)
  exact q _ _ _ g (.lst zq ((al.rep _).mono g.ff))
theorem Z5 {f h : Ev → Option D} (ha : ED X a f) (hb : ED X b h) : ED X (.BinOp a .Mult b pos) (zn YS f h) :=
  XF (zkb.or zhM) (zaJ (Vy (ZB (Cb := ZT) (g := fun i j => i * j) fun i j h => by have h' := of_decide_eq_true (show decide ((-(2 ^ 64) < i ∧ i < 2 ^ 64) ∨ (-(2 ^ 64) < j ∧ j < 2 ^ 64)) = true from h); exact h') zgL) fun d e z h => by
    cases d <;> try cases h
    all_goals cases e <;> try cases h
    · unfold YS at h; dsimp only at h; split at h <;> cases h; rename_i hl; simp [zei, hl]
    · unfold YS at h; dsimp only at h; split at h <;> cases h; rename_i hl; show (zhg _ _) = _; unfold zhg zjx; dsimp only; rw [if_pos hl]; rfl) ha hb
theorem zlf {f h : Ev → Option D} (ha : ED X a f) (hb : ED X b h) : FL X (.BinOp a .Mult b pos) (fBin zjx f h) := by
  obtain ⟨ta, pa, ra⟩ := ha
  obtain ⟨tb, pb, rb⟩ := hb
  refine ⟨_, zlk zhM pa pb, fun σ ρ F H z Q s va e q => ?_⟩
  obtain ⟨x, e1, e3⟩ := Option.bind_eq_some_iff.mp e
  obtain ⟨y, e2, ez⟩ := Option.bind_eq_some_iff.mp e3
  clear e e3
  refine ra σ ρ F H x _ s va e1 fun F1 H1 v g1 a1 => ?_
  refine rb σ ρ F1 H1 y _ g1.fh (va.mono g1.ff) e2 fun F2 H2 u g2 a2 => ?_
  cases x <;> try cases ez
  cases y <;> try cases ez
  unfold zjx at ez
  dsimp only at ez
  split at ez <;> cases ez
  rename_i hl
  obtain ⟨p, xs, rfl, hx, al⟩ := (a1.mono g2.ff).lst_inv
  refine ⟨p, _, xs, rfl, a2.int_inv, g2.fh _ _ hx, hl.1, hl.2.1, by rw [al.length]; exact of_decide_eq_true hl.2.2, fun r hr => ?_⟩
  exact q _ _ _ _ ((g1.trans g2).trans (Gr.hide g2.fh hr _)) (zbU (g1.trans g2) hr) (g2.fh.free hr) zq (al.rep _)
noncomputable def Xv := Zs fun i j => i - j
noncomputable def xQ := zei (fun _ j => decide (0 < j ∧ j < 1606938044258990275541962092341162602522202993782792835301376)) fun i j => i / j
noncomputable def xM := zei (fun _ j => decide (0 < j)) fun i j => i % j
noncomputable def zjC := zei (fun _ j => decide (0 ≤ j)) fun i j => i / 2 ^ j.toNat
theorem Zd {f h : Ev → Option D} (ha : ED X a f) (hb : ED X b h) : ED X (.BinOp a .Sub b pos) (zn Xv f h) := XF zky WP ha hb
theorem zgi : OpR X (binaryOp .FloorDiv) (rI (fun _ j => 0 < j ∧ j < 1606938044258990275541962092341162602522202993782792835301376) fun i j => .int (i / j)) := opI fun i j _ _ _ _ _ hc q => by
  have h1 : (0 : Int) < j := hc.1
  have h2 : j < 1606938044258990275541962092341162602522202993782792835301376 := hc.2
  refine PyProof.Rows.floordiv_int (by omega) (by rw [Int.fdiv_eq_ediv_of_nonneg i (by omega)]; exact q) (.inl (PyProof.noPylong_of_log2 ?_))
  have h0 : j.natAbs ≠ 0 := by omega
  have h3 : j.natAbs < 1606938044258990275541962092341162602522202993782792835301376 := by omega
  have h4 : j.natAbs.log2 < 200 := (Nat.log2_lt h0).mpr h3
  omega
theorem YJ {f h : Ev → Option D} (ha : ED X a f) (hb : ED X b h) : ED X (.BinOp a .FloorDiv b pos) (zn xQ f h) := XF zgi (ZB fun _ _ h => by have h' := of_decide_eq_true h; exact h') ha hb
theorem xY {f h : Ev → Option D} (ha : ED X a f) (hb : ED X b h) : ED X (.BinOp a .Mod b pos) (zn xM f h) := XF zkT (ZB fun _ _ h => by have h' := of_decide_eq_true h; exact h') ha hb
theorem zjQ {f h : Ev → Option D} (ha : ED X a f) (hb : ED X b h) : ED X (.BinOp a .RShift b pos) (zn zjC f h) := XF zjM (ZB fun _ _ h => by have h' := of_decide_eq_true h; exact h') ha hb
noncomputable def ltD := zen fun i j => decide (i < j)
noncomputable def leD := zen fun i j => decide (i ≤ j)
noncomputable def gtD := zen fun i j => decide (j < i)
noncomputable def geD := zen fun i j => decide (j ≤ i)
noncomputable def eqS : D → D → Option Bool
  | .non, .non => some true
  | .int i, .int j => some (decide (i = j))
  | .bl i, .bl j => some (decide (i = j))
  | .str i, .str j => some (decide (i = j))
  | .non, .int _ => some false | .int _, .non => some false | .non, .bl _ => some false | .bl _, .non => some false | .non, .str _ => some false | .str _, .non => some false
  | .int _, .str _ => some false | .str _, .int _ => some false | .bl _, .str _ => some false | .str _, .bl _ => some false
  | _, _ => none
noncomputable def eqD (d e : D) : Option D := (eqS d e).map .bl
noncomputable def neD (d e : D) : Option D := (eqS d e).map fun c => .bl (!c)
theorem zhu : OpD rEq eqD := by
  intro F H x y d e z Q s ax ay ez q
  obtain ⟨c, e1, rfl⟩ := Option.map_eq_some_iff.mp ez
  cases d <;> cases e <;> try cases e1
  · cases ax.non_inv; cases ay.non_inv; exact ⟨rfl, q F H _ (.refl s) .bl⟩
  · cases ax.non_inv; cases ay.bl_inv; exact ⟨rfl, q F H _ (.refl s) .bl⟩
  · cases ax.non_inv; cases ay.int_inv; exact ⟨rfl, q F H _ (.refl s) .bl⟩
  · cases ax.non_inv; cases ay.str_inv; exact ⟨rfl, q F H _ (.refl s) .bl⟩
  · cases ax.bl_inv; cases ay.non_inv; exact ⟨rfl, q F H _ (.refl s) .bl⟩
  · cases ax.bl_inv; cases ay.bl_inv; refine ⟨rfl, ?_⟩; rw [show ∀ i j : Bool, decide (V.bl i = V.bl j) = decide (i = j) from fun i j => by simp]; exact q F H _ (.refl s) .bl
  · cases ax.bl_inv; cases ay.str_inv; exact ⟨rfl, q F H _ (.refl s) .bl⟩
  · cases ax.int_inv; cases ay.non_inv; exact ⟨rfl, q F H _ (.refl s) .bl⟩
  · cases ax.int_inv; cases ay.int_inv; refine ⟨rfl, ?_⟩; rw [show ∀ i j : Int, decide (V.int i = V.int j) = decide (i = j) from fun i j => by simp]; exact q F H _ (.refl s) .bl
  · cases ax.int_inv; cases ay.str_inv; exact ⟨rfl, q F H _ (.refl s) .bl⟩
  · cases ax.str_inv; cases ay.non_inv; exact ⟨rfl, q F H _ (.refl s) .bl⟩
  · cases ax.str_inv; cases ay.bl_inv; exact ⟨rfl, q F H _ (.refl s) .bl⟩
  · cases ax.str_inv; cases ay.int_inv; exact ⟨rfl, q F H _ (.refl s) .bl⟩
  · cases ax.str_inv; cases ay.str_inv; refine ⟨rfl, ?_⟩; rw [show ∀ i j : Str, decide (V.str i = V.str j) = decide (i = j) from fun i j => by simp]; exact q F H _ (.refl s) .bl
theorem zdE : OpD rNe neD := by
  intro F H x y d e z Q s ax ay ez q
  obtain ⟨c, e1, rfl⟩ := Option.map_eq_some_iff.mp ez
  have := zhu F H x y d e (.bl c) (fun v H' => ∃ b, v = .bl b ∧ Q (.bl (!b)) H') s ax ay (by unfold eqD; rw [e1]; rfl) fun F' H' v g av => ⟨c, av.bl_inv, q F' H' _ g .bl⟩
  obtain ⟨h1, b, h2, h3⟩ := this
  cases h2
  exact ⟨h1, h3⟩
noncomputable def zf0 : D → D → Option D
  | d, .non => some (.bl (match d with | .non => true | _ => false))
  | .bl a, .bl b => some (.bl (a == b))
  | _, _ => none
noncomputable def wd : D → D → Option D
  | d, .non => some (.bl (match d with | .non => false | _ => true))
  | .bl a, .bl b => some (.bl (!(a == b)))
  | _, _ => none
theorem zfj {F : Hp} {d : D} {x : V} (h : At F d x) : decide (x = V.non) = (match d with | .non => true | _ => false) := by
  cases d with
  | non => cases h.non_inv; rfl
  | bl b => cases h.bl_inv; rfl
  | int b => cases h.int_inv; rfl
  | str b => cases h.str_inv; rfl
  | tup ds => obtain ⟨a, xs, rfl, _⟩ := h.tup_inv; rfl
  | lst ds => obtain ⟨a, xs, rfl, _⟩ := h.lst_inv; rfl
  | scr ds => obtain ⟨a, rfl, _⟩ := h.scr_inv; rfl
  | dct z t ks vs => obtain ⟨a, xs, rfl, _⟩ := h.dct_inv; rfl
theorem zil : OpD (fun x y H Q => (y = .non ∧ Q (.bl (decide (x = .non))) H) ∨ ∃ i j, x = .bl i ∧ y = .bl j ∧ Q (.bl (i == j)) H) zf0 := by
  intro F H x y d e z Q s ax ay ez q
  unfold zf0 at ez
  split at ez
  · cases ez
    refine .inl ⟨ay.non_inv, ?_⟩
    rw [zfj ax]
    have := q F H _ (.refl s) .bl
    cases d <;> exact this
  · cases ez
    exact .inr ⟨_, _, ax.bl_inv, ay.bl_inv, q F H _ (.refl s) .bl⟩
  · cases ez
theorem zdS : OpD (fun x y H Q => (y = .non ∧ Q (.bl (!decide (x = .non))) H) ∨ ∃ i j, x = .bl i ∧ y = .bl j ∧ Q (.bl (!(i == j))) H) wd := by
  intro F H x y d e z Q s ax ay ez q
  unfold wd at ez
  split at ez
  · cases ez
    refine .inl ⟨ay.non_inv, ?_⟩
    rw [zfj ax]
    have := q F H _ (.refl s) .bl
    cases d <;> exact this
  · cases ez
    exact .inr ⟨_, _, ax.bl_inv, ay.bl_inv, q F H _ (.refl s) .bl⟩
  · cases ez
theorem zjD : OpR X (compareOp .Is) (fun x y H Q => (y = .non ∧ Q (.bl (decide (x = .non))) H) ∨ ∃ i j, x = .bl i ∧ y = .bl j ∧ Q (.bl (i == j)) H) := zkx.or zhh
theorem zfC : OpR X (compareOp .IsNot) (fun x y H Q => (y = .non ∧ Q (.bl (!decide (x = .non))) H) ∨ ∃ i j, x = .bl i ∧ y = .bl j ∧ Q (.bl (!(i == j))) H) := zi6.or zcb
noncomputable def vR (g g' : D → D → Option D) (f h k : Ev → Option D) : Ev → Option D := fun ρ => (f ρ).bind fun x => (h ρ).bind fun y => ((g x y).bind asB).bind fun c => if c = true then (k ρ).bind fun z => g' y z else some (.bl false)
theorem zhq {r r' : R2} {g g' : D → D → Option D} {ta tb tc : TE} {f h k : Ev → Option D} (hg : OpD r g) (hg' : OpD r' g') (ra : RE ta f) (rb : RE tb h) (rc : RE tc k) : RE (zeL r r' ta tb tc) (vR g g' f h k) := by
  intro σ ρ F H z Q s va e q
  obtain ⟨x, e1, e⟩ := Option.bind_eq_some_iff.mp e
  obtain ⟨y, e2, e⟩ := Option.bind_eq_some_iff.mp e
  obtain ⟨c, e3, e⟩ := Option.bind_eq_some_iff.mp e
  obtain ⟨cd, e3, e4⟩ := Option.bind_eq_some_iff.mp e3
  cases ZC e4
  refine ra σ ρ F H x _ s va e1 fun F1 H1 v g1 a1 => ?_
  refine rb σ ρ F1 H1 y _ g1.fh (va.mono g1.ff) e2 fun F2 H2 u g2 a2 => ?_
  refine hg F2 H2 v u x y _ _ g2.fh (a1.mono g2.ff) a2 e3 fun F3 H3 w g3 a3 => ⟨c, a3.bl_inv, ?_⟩
  have g123 := (g1.trans g2).trans g3
  cases c with
  | true =>
    rw [if_pos rfl] at e ⊢
    obtain ⟨z', e5, e6⟩ := Option.bind_eq_some_iff.mp e
    refine rc σ ρ F3 H3 z' _ g3.fh (va.mono g123.ff) e5 fun F4 H4 w4 g4 a4 => ?_
    exact hg' F4 H4 u w4 y z' z Q g4.fh (a2.mono (g3.ff.trans g4.ff)) a4 e6 fun F5 H5 w5 g5 a5 => q F5 H5 w5 ((g123.trans g4).trans g5) a5
  | false =>
    rw [if_neg Bool.false_ne_true] at e ⊢
    cases e
    exact q F3 H3 _ g123 .bl
theorem zhd {op op' : CmpOp} {r r' : R2} {g g' : D → D → Option D} {f h k : Ev → Option D} (ho : OpR X (compareOp op) r) (ho' : OpR X (compareOp op') r') (hg : OpD r g) (hg' : OpD r' g') (ha : ED X a f) (hb : ED X b h) (hc : ED X c k)
    (pch : ∀ {ta tb tc : TE}, PE X a ta → PE X b tb → PE X c tc → PE X (.Compare a [op, op'] [b, c] pos) (zeL r r' ta tb tc)) : ED X (.Compare a [op, op'] [b, c] pos) (vR g g' f h k) :=
  let ⟨_, pa, ra⟩ := ha
  let ⟨_, pb, rb⟩ := hb
  let ⟨_, pc, rc⟩ := hc
  ⟨_, pch pa pb pc, zhq hg hg' ra rb rc⟩
noncomputable def zdL : List D → Option (List Int)
  | [] => some []
  | .int b :: ds => (zdL ds).map (b :: ·)
  | _ => none
omit [KK] in
theorem Z6 : ∀ {ds : List D} {bs : List Int}, zdL ds = some bs → ds = bs.map .int
  | [], bs, h => by cases h; rfl
  | d :: ds, bs, h => by
    cases d <;> try cases h
    obtain ⟨cs, h1, rfl⟩ := Option.map_eq_some_iff.mp h
    rw [Z6 h1]
    rfl
noncomputable def leT : D → D → Option D
  | .tup a, .tup b => (zdL a).bind fun ns => (zdL b).map fun ms => .bl (HT.lexLe ns ms)
  | _, _ => none
theorem zio {K : PySem.W.Frag} : OpD (rLeT K) leT := by
  intro F H x y d e z Q s ax ay ez q
  cases d <;> try cases ez
  cases e <;> try cases ez
  obtain ⟨ns, e1, e2⟩ := Option.bind_eq_some_iff.mp ez
  obtain ⟨ms, e3, rfl⟩ := Option.map_eq_some_iff.mp e2
  rw [Z6 e1] at ax
  rw [Z6 e3] at ay
  obtain ⟨p, xs, rfl, hx, al⟩ := ax.tup_inv
  obtain ⟨p2, ys, rfl, hy, bl⟩ := ay.tup_inv
  cases al.of_ints
  cases bl.of_ints
  exact ⟨p, p2, ns, ms, rfl, rfl, SqT.of (s _ _ hx), SqT.of (s _ _ hy), q F H _ (.refl s) .bl⟩
noncomputable def ixD : D → D → Option D
  | .lst ds, .int i => atI ds i
  | .tup ds, .int i => atI ds i
  | .scr ns, .int i => (atI ns i).map .int
  | _, _ => none
theorem AtL.atI {F : Hp} {ds : List D} {xs : List V} {i : Int} {d : D} (al : AtL F ds xs) (h : L2.atI ds i = some d) : ∃ x, L2.atI xs i = some x ∧ At F d x := by
  unfold L2.atI at h ⊢
  obtain ⟨j, e1, e2⟩ := Option.bind_eq_some_iff.mp h
  obtain ⟨x, hx, ax⟩ := al.get e2
  exact ⟨x, by rw [al.length, e1]; exact hx, ax⟩
theorem zkX : OpD (rIx KK.K) ixD := by
  intro F H x y d e z Q s ax ay ez q
  cases e <;> try (cases d <;> cases ez)
  cases ay.int_inv
  cases d with
  | lst ds =>
    obtain ⟨p, xs, rfl, hx, al⟩ := ax.lst_inv
    obtain ⟨v, e1, av⟩ := al.atI ez
    exact .inl ⟨p, xs, _, v, rfl, rfl, SqL.of (s _ _ hx), e1, q F H _ (.refl s) av⟩
  | tup ds =>
    obtain ⟨p, xs, rfl, hx, al⟩ := ax.tup_inv
    obtain ⟨v, e1, av⟩ := al.atI ez
    exact .inr (.inl ⟨p, xs, _, v, rfl, rfl, SqT.of (s _ _ hx), e1, q F H _ (.refl s) av⟩)
  | scr ns =>
    obtain ⟨p, rfl, hx⟩ := ax.scr_inv
    obtain ⟨n, e1, rfl⟩ := Option.map_eq_some_iff.mp ez
    refine .inl ⟨p, ns.map V.int, _, .int n, rfl, rfl, s.seq hx, ?_, q F H _ (.refl s) .int⟩
    unfold L2.atI at e1 ⊢
    rw [List.length_map]
    obtain ⟨j, e2, e3⟩ := Option.bind_eq_some_iff.mp e1
    rw [e2]
    show (ns.map V.int)[j]? = _
    rw [List.getElem?_map, e3]
    rfl
  | _ => cases ez
theorem zG {f h : Ev → Option D} (ha : ED X a f) (hb : ED X b h) (hs : zev b) (hK : X.K = KK.K := by rfl) : ED X (.Subscript a b pos) (zn ixD f h) :=
  let ⟨_, pa, ra⟩ := ha
  let ⟨_, pb, rb⟩ := hb
  ⟨_, zlD zkR pa pb hs, zha (by rw [hK]; exact zkX) ra rb⟩
noncomputable def zaF {α : Type} (xs : List α) (lo hi : Option Int) : List α := (xs.drop (HT.sIx xs.length 0 lo)).take (HT.sIx xs.length xs.length hi - HT.sIx xs.length 0 lo)
theorem AtL.cut {F : Hp} {ds : List D} {xs : List V} {lo hi : Option Int} (al : AtL F ds xs) : AtL F (zaF ds lo hi) (zb2 xs lo hi) := by
  unfold zaF zb2
  rw [al.length]
  exact (al.drop _).take _
noncomputable def OD (X : Cx) (e : Option Expr) (f : Ev → Option (Option Int)) : Prop := ∃ t, PO X e t ∧ ∀ (σ : St) (ρ : Ev) (F H : Hp) (i : Option Int) (Q : Option Int → Hp → Prop), yG F H → VAt F ρ σ → f ρ = some i → (∀ F' H', Gr F H F' H' → Q i H') → t σ H Q
noncomputable def vJ : Ev → Option (Option Int) := fun _ => some none
noncomputable def asI : D → Option Int
  | .int i => some i
  | _ => none
noncomputable def vM (f : Ev → Option D) : Ev → Option (Option Int) := fun ρ => ((f ρ).bind asI).map some
theorem Y4 : OD X none vJ := ⟨_, ziN, fun _ _ _ _ _ _ s _ e q => by cases e; exact q _ _ (.refl s)⟩
theorem YY {f : Ev → Option D} (h : ED X e f) : OD X (some e) (vM f) := by
  obtain ⟨t, p, r⟩ := h
  refine ⟨_, ziK p, fun σ ρ F H i Q s va e q => ?_⟩
  obtain ⟨j, e1, rfl⟩ := Option.map_eq_some_iff.mp e
  obtain ⟨d, e1, e2⟩ := Option.bind_eq_some_iff.mp e1
  cases d <;> cases e2
  exact r σ ρ F H _ _ s va e1 fun F1 H1 v g1 a1 => ⟨_, a1.int_inv, q F1 H1 g1⟩
noncomputable def slD : D → Option Int → Option Int → Option D
  | .lst ds, lo, hi => some (.lst (zaF ds lo hi))
  | .scr ns, lo, hi => some (.lst ((zaF ns lo hi).map .int))
  | .tup ds, lo, hi => some (.tup (zaF ds lo hi))
  | _, _, _ => none
noncomputable def eSl (g : D → Option Int → Option Int → Option D) (f : Ev → Option D) (l h : Ev → Option (Option Int)) : Ev → Option D := fun ρ => (f ρ).bind fun d => (l ρ).bind fun lo => (h ρ).bind fun hi => g d lo hi
omit [KK] in
theorem zg2 {ns : List Int} {lo hi : Option Int} : zb2 (ns.map V.int) lo hi = (zaF ns lo hi).map V.int := by
  unfold zb2 zaF
  rw [List.length_map, List.map_take, List.map_drop]
end
end Dl
namespace L2
open PySem PySem.Spec PyProof.Rows
noncomputable def rSlN : V → Option Int → Option Int → Hp → VK → Prop := fun x lo hi H Q => ∃ a xs, x = .ref a ∧ H a = some (.tup xs) ∧ (zb2 xs lo hi = xs → Q (.ref a) H) ∧ ∀ p, H p = none → Q (.ref p) (upd H p (.tup (zb2 xs lo hi)))
theorem zii {X : Cx} : SlR X rSlN := by
  intro pins s σ H x v vl vu lo hi sl Q I rx hs pl pu h
  obtain ⟨a, xs, rfl, hx, q1, q2⟩ := h
  by_cases hw : HT.sIx xs.length 0 lo = 0 ∧ HT.sIx xs.length xs.length hi = xs.length
  · cases rx
    obtain ⟨its, r, ht, hz⟩ := I.tuple (SqT.of hx)
    have hlen : its.toArray.size = xs.length := by rw [List.size_toArray]; exact r.length.symm
    refine ⟨"tuple", _, PyProof.Rows.slot_tuple_getitem.lookup, ht.typeIs, ?_⟩
    refine HT.own_getItem_whole ht hs pl pu (by rw [hlen]; exact hw) ⟨.ref a, H, I, rfl, q1 ?_⟩
    unfold zb2
    rw [hw.1, hw.2, List.drop_zero, Nat.sub_zero, List.take_length]
  · exact zkM pins s σ H (.ref a) v vl vu lo hi sl Q I rx hs pl pu ⟨a, xs, rfl, SqT.of hx, hw, q2⟩
end L2
namespace Dl
open PySem L2
variable [KK]
section
variable {X : Cx} {a b c e : Expr} {pos : Pos}
theorem vB {lo hi : Option Expr} {p2 : Pos} {f : Ev → Option D} {l h : Ev → Option (Option Int)} (ha : ED X a f) (hl : OD X lo l) (hh : OD X hi h) (hK : X.K = KK.K := by rfl) : ED X (.Subscript a (.Slice lo hi none p2) pos) (eSl slD f l h) := by
  obtain ⟨ta, pa, ra⟩ := ha
  obtain ⟨tl, ppl, rl⟩ := hl
  obtain ⟨th, ph, rh⟩ := hh
  refine ⟨_, zhc (zhR.or zii) pa ppl ph, fun σ ρ F H z Q s va e q => ?_⟩
  obtain ⟨d, e1, e⟩ := Option.bind_eq_some_iff.mp e
  obtain ⟨i, e2, e⟩ := Option.bind_eq_some_iff.mp e
  obtain ⟨j, e3, e⟩ := Option.bind_eq_some_iff.mp e
  refine ra σ ρ F H d _ s va e1 fun F1 H1 v g1 a1 => ?_
  refine rl σ ρ F1 H1 i _ g1.fh (va.mono g1.ff) e2 fun F2 H2 g2 => ?_
  refine rh σ ρ F2 H2 j _ g2.fh (va.mono (g1.ff.trans g2.ff)) e3 fun F3 H3 g3 => ?_
  have g123 := (g1.trans g2).trans g3
  have a3 := a1.mono (g2.ff.trans g3.ff)
  cases d <;> try cases e
  · obtain ⟨p, xs, rfl, hx, al⟩ := a3.tup_inv
    refine .inr ⟨p, xs, rfl, g3.fh _ _ hx, fun ec => ?_, fun r hr => ?_⟩
    · have := al.cut (lo := i) (hi := j)
      rw [ec] at this
      exact q F3 H3 _ g123 (.tup hx this)
    · have g := Gr.alloc g3.fh hr (.tup (zb2 xs i j))
      exact q _ _ _ (g123.trans g) (.tup zq (al.cut.mono g.ff))
  · obtain ⟨p, xs, rfl, hx, al⟩ := a3.lst_inv
    refine .inl ⟨p, xs, rfl, SqL.of (g3.fh _ _ hx), fun r hr => ?_⟩
    have g := Gr.alloc g3.fh hr (.lst (zb2 xs i j))
    exact q _ _ _ (g123.trans g) (.lst zq (al.cut.mono g.ff))
  · rename_i ns _ _
    obtain ⟨p, rfl, hx⟩ := a3.scr_inv
    refine .inl ⟨p, _, rfl, (by rw [hK]; exact g3.fh.seq hx), fun r hr => ?_⟩
    rw [zg2]
    have g := Gr.alloc g3.fh hr (.lst ((zaF ns i j).map V.int))
    exact q _ _ _ (g123.trans g) (.lst zq (.ints _))
noncomputable def CaD (r : List V → Hp → VK → Prop) (g : List D → Option D) : Prop := ∀ (F H : Hp) (vs : List V) (ds : List D) (z : D) (Q : VK), yG F H → AtL F ds vs → g ds = some z → (∀ F' H' v, Gr F H F' H' → At F' z v → Q v H') → r vs H Q
noncomputable def eFn (g : List D → Option D) (f : Ev → Option (List D)) : Ev → Option D := fun ρ => (f ρ).bind g
noncomputable def fFn (g : List D → Option (List D)) (f : Ev → Option (List D)) : Ev → Option (List D) := fun ρ => (f ρ).bind g
theorem yj {x : Str} {id : String} {p : Pos} {es : List Expr} {r : List V → Hp → VK → Prop} {g : List D → Option D} {f : Ev → Option (List D)} (hc : vh X (.builtin id) r) (hg : CaD r g) (hgl : Gl X x) (hm : X.mg x = none) (hv : bootBuiltins x = some (.builtin id)) (ha : AD X (e :: es) f)
    (hn : x ≠ "__name__" := by decide) (hdb : (x == ("__debug__" : Str)) = false := by decide) (he : starEach (e :: es) X.env = (false, eval e X.env) :: starEach es X.env := by rfl) (hpl : (backTo pos (starEach es X.env)).any (·.1) = false := by rfl) :
    ED X (.Call (.Name x p) (e :: es) [] pos) (eFn g f) := by
  obtain ⟨t, pa, ra⟩ := ha
  refine ⟨_, Yc hc hgl hm hv pa hn hdb he hpl, fun σ ρ F H z Q s va e q => ?_⟩
  obtain ⟨ds, e1, e2⟩ := Option.bind_eq_some_iff.mp e
  refine ra σ ρ F H ds _ s va e1 fun F1 H1 vs g1 a1 => ?_
  exact hg F1 H1 vs ds z Q g1.fh a1 e2 fun F' H' v g av => q F' H' v (g1.trans g) av
theorem xP {x : Str} {T : String} {p : Pos} {es : List Expr} {r : List V → Hp → VK → Prop} {g : List D → Option D} {f : Ev → Option (List D)} (hc : vh X (.type T) r) (hg : CaD r g) (hgl : Gl X x) (hm : X.mg x = none) (hv : bootBuiltins x = some (.type T)) (ha : AD X (e :: es) f)
    (hn : x ≠ "__name__" := by decide) (hdb : (x == ("__debug__" : Str)) = false := by decide) (he : starEach (e :: es) X.env = (false, eval e X.env) :: starEach es X.env := by rfl) (hpl : (backTo pos (starEach es X.env)).any (·.1) = false := by rfl) :
    ED X (.Call (.Name x p) (e :: es) [] pos) (eFn g f) := by
  obtain ⟨t, pa, ra⟩ := ha
  refine ⟨_, zaz hc hgl hm hv pa hn hdb he hpl, fun σ ρ F H z Q s va e q => ?_⟩
  obtain ⟨ds, e1, e2⟩ := Option.bind_eq_some_iff.mp e
  refine ra σ ρ F H ds _ s va e1 fun F1 H1 vs g1 a1 => ?_
  exact hg F1 H1 vs ds z Q g1.fh a1 e2 fun F' H' v g av => q F' H' v (g1.trans g) av
noncomputable def ZF : List D → Option D
  | [.lst ds] => some (.int ds.length)
  | [.tup ds] => some (.int ds.length)
  | [.scr ds] => some (.int ds.length)
  | _ => none
theorem wg : CaD (fun xs H Q => ∃ p ys, xs = [.ref p] ∧ (SqL KK.K H p ys ∨ SqT KK.K H p ys) ∧ Q (.int ys.length) H) ZF := by
  intro F H vs ds z Q s al e q
  unfold ZF at e
  split at e <;> cases e
  all_goals
    obtain ⟨x, r, rfl, ax, ar⟩ := al.cons_inv
    cases ar.nil_inv
  · obtain ⟨p, xs, rfl, hx, bl⟩ := ax.lst_inv
    exact ⟨p, xs, rfl, .inl (SqL.of (s _ _ hx)), by rw [bl.length]; exact q F H _ (.refl s) .int⟩
  · obtain ⟨p, xs, rfl, hx, bl⟩ := ax.tup_inv
    exact ⟨p, xs, rfl, .inr (SqT.of (s _ _ hx)), by rw [bl.length]; exact q F H _ (.refl s) .int⟩
  · obtain ⟨p, rfl, hx⟩ := ax.scr_inv
    exact ⟨p, _, rfl, .inl ((s.seq hx)), by rw [List.length_map]; exact q F H _ (.refl s) .int⟩
noncomputable def zkV : List D → Option D
  | [.int i, .int j] => some (.int (if j > i then j else i))
  | _ => none
noncomputable def zkY : List D → Option D
  | [.int i, .int j] => some (.int (if j < i then j else i))
  | _ => none
theorem zdH {g : Int → Int → Int} : CaD (fun xs H Q => ∃ i j, xs = [.int i, .int j] ∧ Q (.int (g i j)) H) (fun ds => match ds with | [.int i, .int j] => some (.int (g i j)) | _ => none) := by
  intro F H vs ds z Q s al e q
  dsimp only at e
  split at e <;> cases e
  obtain ⟨x, r, rfl, ax, ar⟩ := al.cons_inv
  obtain ⟨y, r, rfl, ay, ar⟩ := ar.cons_inv
  cases ar.nil_inv
  exact ⟨_, _, by rw [ax.int_inv, ay.int_inv], q F H _ (.refl s) .int⟩
theorem zgy : CaD (fun xs H Q => ∃ i j, xs = [.int i, .int j] ∧ Q (.int (if j > i then j else i)) H) zkV := zdH (g := fun i j => if j > i then j else i)
theorem zgJ : CaD (fun xs H Q => ∃ i j, xs = [.int i, .int j] ∧ Q (.int (if j < i then j else i)) H) zkY := zdH (g := fun i j => if j < i then j else i)
noncomputable def yU : List D → Option D
  | [.lst ds] => some (.tup ds)
  | [.tup ds] => some (.tup ds)
  | _ => none
theorem xN {K : PySem.W.Frag} : CaD (fun xs H Q => ∃ p ys, xs = [.ref p] ∧ ((SqL K H p ys ∧ ∀ l, H l = none → Q (.ref l) (upd H l (.tup ys))) ∨ (SqT K H p ys ∧ Q (.ref p) H))) yU := by
  intro F H vs ds z Q s al e q
  unfold yU at e
  split at e <;> cases e
  all_goals
    obtain ⟨x, r, rfl, ax, ar⟩ := al.cons_inv
    cases ar.nil_inv
  · obtain ⟨p, xs, rfl, hx, bl⟩ := ax.lst_inv
    refine ⟨p, xs, rfl, .inl ⟨SqL.of (s _ _ hx), fun l hl => ?_⟩⟩
    have g := Gr.alloc s hl (.tup xs)
    exact q _ _ _ g (.tup zq (bl.mono g.ff))
  · obtain ⟨p, xs, rfl, hx, bl⟩ := ax.tup_inv
    exact ⟨p, xs, rfl, .inr ⟨SqT.of (s _ _ hx), q F H _ (.refl s) (.tup hx bl)⟩⟩
noncomputable def YR : List D → Option (List D)
  | [.lst ds] => some ds
  | [.tup ds] => some ds
  | [.scr ns] => some (ns.map .int)
  | _ => none
theorem zcX {p : Pos} {f : Ev → Option (List D)} (hgl : Gl X "list") (hm : X.mg "list" = none) (ha : AD X [e] f) (hK : X.K = KK.K := by rfl)
    (he : starEach [e] X.env = (false, eval e X.env) :: starEach [] X.env := by rfl) (hpl : (backTo pos (starEach [] X.env)).any (·.1) = false := by rfl) : FL X (.Call (.Name "list" p) [e] [] pos) (fFn YR f) := by
  obtain ⟨t, pa, ra⟩ := ha
  refine ⟨_, zaz VN hgl hm ziW pa (by decide) (by decide) he hpl, fun σ ρ F H z Q s va e q => ?_⟩
  obtain ⟨ds, e1, e2⟩ := Option.bind_eq_some_iff.mp e
  refine ra σ ρ F H ds _ s va e1 fun F1 H1 vs g1 a1 => ?_
  unfold YR at e2
  split at e2 <;> cases e2
  all_goals
    obtain ⟨x, r, rfl, ax, ar⟩ := a1.cons_inv
    cases ar.nil_inv
  · obtain ⟨p, xs, rfl, hx, bl⟩ := ax.lst_inv
    exact ⟨p, xs, rfl, .inl (SqL.of (g1.fh _ _ hx)), fun l hl => q _ _ _ _ (g1.trans (Gr.hide g1.fh hl _)) (zbU g1 hl) (g1.fh.free hl) zq bl⟩
  · obtain ⟨p, xs, rfl, hx, bl⟩ := ax.tup_inv
    exact ⟨p, xs, rfl, .inr (SqT.of (g1.fh _ _ hx)), fun l hl => q _ _ _ _ (g1.trans (Gr.hide g1.fh hl _)) (zbU g1 hl) (g1.fh.free hl) zq bl⟩
  · obtain ⟨p, rfl, hx⟩ := ax.scr_inv
    exact ⟨p, _, rfl, .inl (by rw [hK]; exact g1.fh.seq hx), fun l hl => q _ _ _ _ (g1.trans (Gr.hide g1.fh hl _)) (zbU g1 hl) (g1.fh.free hl) zq (.ints _)⟩
inductive TyD (K : PySem.W.Frag) (H : Hp) : V → Value → Prop where
  | of {v : V} {t : Value} (h : zdu K H v t) : TyD K H v t
  | dd {a : Addr} {u : HO} (h : Rd H a u) (d : (∃ kvs, u = .dK kvs) ∨ ∃ kvs, u = .dT kvs) : TyD K H (.ref a) (.type "dict")
theorem zah {X : Cx} : vh X (.builtin "isinstance") (fun xs H Q => ∃ x n t b, xs = [x, .ty n] ∧ TyD X.K H x t ∧ PySem.W.kitOne X.K t (.type n) = some b ∧ Q (.bl b) H) := by
  intro pins s σ H xs us Q I r h
  obtain ⟨x, n, t, b, rfl, ty, e, q⟩ := h
  cases ty with
  | of ty => exact zb1 pins s σ H _ us Q I r ⟨x, n, t, b, rfl, ty, e, q⟩
  | @dd a u h d =>
    cases r with
    | cons r1 r2 =>
      cases r2 with
      | cons r3 r4 =>
        cases r4
        cases r1
        cases r3
        have ok := h.ok I.hok
        rcases d with ⟨kvs, rfl⟩ | ⟨kvs, rfl⟩
        · obtain ⟨_, _, vs, _, p⟩ := (show yB X.prog X.w H s.heap a (.dK kvs) from ok)
          obtain ⟨o, es, ep, h1, h2, _⟩ := p
          exact PySem.W.kia_one PySem.W.kitx_dict I.kIn ⟨o, h1, h2.1⟩ e (fun z => nomatch z) fun tk => ⟨.bl b, H, I.tok tk, rfl, q⟩
        · obtain ⟨_, _, xs, _, o, es, ep, h1, h2, _⟩ := (show yB X.prog X.w H s.heap a (.dT kvs) from ok)
          exact PySem.W.kia_one PySem.W.kitx_dict I.kIn ⟨o, h1, h2.1⟩ e (fun z => nomatch z) fun tk => ⟨.bl b, H, I.tok tk, rfl, q⟩
theorem At.ty {K : PySem.W.Frag} {F H : Hp} (s : yG F H) : ∀ {d : D} {v : V}, At F d v → (∀ ns, d ≠ .scr ns) → TyD K H v (.type (tyN d))
  | .non, _, h, _ => by cases h.non_inv; exact .of .non
  | .bl b, _, h, _ => by cases h.bl_inv; exact .of (.bl b)
  | .int i, _, h, _ => by cases h.int_inv; exact .of (.int i)
  | .str x, _, h, _ => by cases h.str_inv; exact .of (.str x)
  | .tup ds, _, h, _ => by obtain ⟨a, xs, rfl, e, _⟩ := h.tup_inv; exact .of (.tup (s _ _ e))
  | .lst ds, _, h, _ => by obtain ⟨a, xs, rfl, e, _⟩ := h.lst_inv; exact .of (.lst (s _ _ e))
  | .scr ns, _, _, n => absurd rfl (n ns)
  | .dct z t ks vs, _, h, _ => by
    obtain ⟨a, xs, rfl, d, _⟩ := h.dct_inv
    obtain ⟨u, e1, e2⟩ := (d.mono s).rd
    exact .dd e2 (by
      unfold Wn at e1
      split at e1
      · obtain ⟨kvs, rfl, _⟩ := e1; exact .inr ⟨kvs, rfl⟩
      · obtain ⟨kvs, rfl, _⟩ := e1; exact .inl ⟨kvs, rfl⟩)
inductive Ty where
  | int | bool | tuple | list | str
noncomputable def Ty.nm : Ty → String
  | .int => "int" | .bool => "bool" | .tuple => "tuple" | .list => "list" | .str => "str"
noncomputable def isT : Ty → D → Bool
  | .int, .int _ => true | .int, .bl _ => true
  | .bool, .bl _ => true
  | .tuple, .tup _ => true
  | .list, .lst _ => true
  | .str, .str _ => true
  | _, _ => false
noncomputable def YV (n : Ty) : D → Option D
  | .scr _ => none
  | d => some (.bl (isT n d))
theorem zj7 (K : PySem.W.Frag) (n : Ty) (d : D) (h : ∀ ns, d ≠ .scr ns) : PySem.W.kitOne K (.type (tyN d)) (.type n.nm) = some (isT n d) := by
  cases n <;> cases d <;> first | exact absurd rfl (h _) | kernel_rfl
theorem wR {p : Pos} {f : Ev → Option D} (n : Ty) (hgl : Gl X "isinstance") (hm : X.mg "isinstance" = none) (ha : ED X a f) (hb : PE X b (tC (.ty n.nm)))
    (hs : starEach [a, b] X.env = (false, eval a X.env) :: starEach [b] X.env := by rfl) (hs2 : starEach [b] X.env = (false, eval b X.env) :: starEach [] X.env := by rfl) (hpl : (backTo pos (starEach [b] X.env)).any (·.1) = false := by rfl) :
    ED X (.Call (.Name "isinstance" p) [a, b] [] pos) (eUn (YV n) f) := by
  obtain ⟨t, pa, ra⟩ := ha
  refine ⟨_, Yc zah hgl hm X6 (Y0 pa (Y0 hb Vv hs2) hs) (by decide) (by decide) hs hpl, fun σ ρ F H z Q s va e q => ?_⟩
  obtain ⟨d, e1, e2⟩ := Option.bind_eq_some_iff.mp e
  refine ra σ ρ F H d _ s va e1 fun F1 H1 v g1 a1 => ?_
  have ns : ∀ ns, d ≠ .scr ns := fun ns h => by subst h; cases e2
  have e3 : z = .bl (isT n d) := by
    cases d <;> first | exact (Option.some.inj e2).symm | exact absurd rfl (ns _)
  subst e3
  exact ⟨v, n.nm, _, _, rfl, a1.ty g1.fh ns, zj7 _ n d ns, q F1 H1 _ g1 .bl⟩
noncomputable def X2 (m : Bool) (i : Nat) (f : Ev → Option D) : SE → Ctl := fun ρ => match (vEv m f ρ).bind fun d => match ρ[i]? with
    | some (.o ds) => if decide (ds.length < sizeLine) = true then some (ρ.set i (.o (ds ++ [d]))) else none
    | _ => none with
  | some ρ' => .nx ρ'
  | none => .no
theorem Zl {m : Bool} {i : Nat} {p pos' : Pos} {f : Ev → Option D} (ho : PE X a (ziL i)) (he : ED X e f)
    (hp : ∀ {ta : TE} {t : TA}, PE X a ta → PA X [e] t → PE X (.Call (.Attribute a "append" p) [e] [] pos') (tBM X.K "list" ze1 ta t)) (hsw : swapsWith (.Call (.Attribute a "append" p) [e] [] pos') none pos.line X.env = pure false := by rfl)
    (hs : starEach [e] X.env = (false, eval e X.env) :: starEach [] X.env := by rfl) : SD X (.Expr (.Call (.Attribute a "append" p) [e] [] pos') pos) (X2 m i f) := by
  obtain ⟨t, pe, re⟩ := he
  refine ⟨_, zbM (hp ho (Y0 pe Vv hs)) hsw, fun Fb Hb F H ρ σ E rl k => ?_⟩
  unfold X2 at k
  cases h : (vEv m f ρ).bind fun d => match ρ[i]? with
    | some (.o ds) => if decide (ds.length < sizeLine) = true then some (ρ.set i (.o (ds ++ [d]))) else none
    | _ => none with
  | none => rw [h] at k; exact k.elim
  | some ρ' =>
    rw [h] at k
    obtain ⟨d, e1, e2⟩ := Option.bind_eq_some_iff.mp h
    cases hs : ρ[i]? with
    | none => rw [hs] at e2; cases e2
    | some sl =>
      rw [hs] at e2
      cases sl with
      | no => cases e2
      | v _ => cases e2
      | m _ _ _ => cases e2
      | o ds =>
        dsimp only at e2
        split at e2 <;> cases e2
        rename_i hl
        obtain ⟨q, xs, f1, f2, f3, f4, f5⟩ := rl.owns i ds hs
        refine ⟨_, f1, .inl ⟨rfl, xs, SqL.of f4⟩, ?_⟩
        refine re.at rl e1 fun F' H' v g av => ?_
        have rl2 := rl.grow g
        obtain ⟨q2, xs2, f1', _, _, f4', f5'⟩ := rl2.owns i ds hs
        rw [f1] at f1'
        cases f1'
        refine ⟨q, xs2, v, rfl, rfl, f4', by rw [f5'.length]; exact of_decide_eq_true hl, ?_⟩
        exact k _ _ σ (rl2.mutate hs f1 (f5'.snoc av))
noncomputable def zfZ (i : Nat) (f : Ev → Option D) : SE → Ctl := fun ρ => match (f (visF ρ)).bind fun d => match ρ[i]?, d with
    | some (.o ds), .lst es => if lim (ds.length + es.length) = true then some (ρ.set i (.o (ds ++ es))) else none
    | _, _ => none with
  | some ρ' => .nx ρ'
  | none => .no
theorem zjK {i : Nat} {p pos' : Pos} {f : Ev → Option D} (ho : PE X a (ziL i)) (he : ED X e f)
    (hp : ∀ {ta : TE} {t : TA}, PE X a ta → PA X [e] t → PE X (.Call (.Attribute a "extend" p) [e] [] pos') (tBM X.K "list" zfr ta t)) (hsw : swapsWith (.Call (.Attribute a "extend" p) [e] [] pos') none pos.line X.env = pure false := by rfl)
    (hs : starEach [e] X.env = (false, eval e X.env) :: starEach [] X.env := by rfl) : SD X (.Expr (.Call (.Attribute a "extend" p) [e] [] pos') pos) (zfZ i f) := by
  obtain ⟨t, pe, re⟩ := he
  refine ⟨_, zbM (hp ho (Y0 pe Vv hs)) hsw, fun Fb Hb F H ρ σ E rl k => ?_⟩
  unfold zfZ at k
  cases h : (f (visF ρ)).bind fun d => match ρ[i]?, d with
    | some (.o ds), .lst es => if lim (ds.length + es.length) = true then some (ρ.set i (.o (ds ++ es))) else none
    | _, _ => none with
  | none => rw [h] at k; exact k.elim
  | some ρ' =>
    rw [h] at k
    obtain ⟨d, e1, e2⟩ := Option.bind_eq_some_iff.mp h
    cases hs : ρ[i]? with
    | none => rw [hs] at e2; cases e2
    | some sl =>
      rw [hs] at e2
      cases sl with
      | no => cases e2
      | v _ => cases e2
      | m _ _ _ => cases e2
      | o ds =>
        cases d with
        | lst es =>
          dsimp only at e2
          split at e2 <;> cases e2
          rename_i hl
          obtain ⟨q, xs, f1, f2, f3, f4, f5⟩ := rl.owns i ds hs
          refine ⟨_, f1, .inl ⟨rfl, xs, SqL.of f4⟩, ?_⟩
          refine re σ _ _ H _ _ rl.gr.fh rl.visF e1 fun F' H' v g av => ?_
          have rl2 := rl.grow g
          obtain ⟨q2, xs2, f1', _, _, f4', f5'⟩ := rl2.owns i ds hs
          rw [f1] at f1'
          cases f1'
          obtain ⟨pb, zs, rfl, hz, bl⟩ := av.lst_inv
          refine ⟨q, pb, xs2, zs, rfl, rfl, f4', g.fh _ _ hz, by rw [f5'.length, bl.length]; exact of_decide_eq_true hl, ?_⟩
          exact k _ _ σ (rl2.mutate hs f1 (f5'.append bl))
        | _ => cases e2
end
end Dl
namespace Dl
open PySem L2
variable [KK]
noncomputable def okE : Nat → D → Bool
  | _, .scr _ => false
  | _, .dct _ _ _ _ => false
  | 0, .tup _ => false
  | 0, .lst _ => false
  | n + 1, .tup ds => ds.all (okE n)
  | n + 1, .lst ds => ds.all (okE n)
  | _, _ => true
noncomputable def eqN : Nat → D → D → Bool
  | _, .non, .non => true
  | _, .bl a, .bl b => a == b
  | _, .bl a, .int b => (if a then 1 else 0) == b
  | _, .int a, .bl b => a == (if b then 1 else 0)
  | _, .int a, .int b => a == b
  | _, .str a, .str b => a == b
  | n + 1, .tup a, .tup b => (List.zipWith (eqN n) a b).all id && a.length == b.length
  | n + 1, .lst a, .lst b => (List.zipWith (eqN n) a b).all id && a.length == b.length
  | _, _, _ => false
omit [KK] in
theorem X1 {n : Nat} : ∀ (a b : List D), (List.zipWith (eqN n) a b).all id = (List.range (min a.length b.length)).all fun j => eqN n (a.getD j .non) (b.getD j .non) := by
  intro a b
  have : List.zipWith (eqN n) a b = (List.range (min a.length b.length)).map fun j => eqN n (a.getD j .non) (b.getD j .non) := by
    apply List.ext_getElem
    · simp
    · intro i h1 h2
      simp at h1 h2
      have g1 : i < a.length := Nat.lt_of_lt_of_le h1 (Nat.min_le_left _ _)
      have g2 : i < b.length := Nat.lt_of_lt_of_le h1 (Nat.min_le_right _ _)
      simp [g1, g2]
  rw [this, List.all_map]
  rfl
omit [KK] in
noncomputable def vOf : D → V
  | .bl b => .bl b
  | .int i => .int i
  | .str t => .str t
  | _ => .non
theorem xn {F : Hp} {d : D} {x : V} (h : okE 0 d = true) (a : At F d x) : x = vOf d := by
  cases d with
  | non => exact a.non_inv
  | bl b => exact a.bl_inv
  | int b => exact a.int_inv
  | str b => exact a.str_inv
  | _ => cases h
omit [KK] in
theorem Zy {d : D} (h : okE 0 d = true) : zh1 (vOf d) = true := by
  cases d <;> first | rfl | cases h
omit [KK] in
theorem XT {d : D} {p : Addr} (h : okE 0 d = true) (e : vOf d = .ref p) : False := by
  cases d <;> first | (cases h; done) | (cases e; done)
noncomputable def dOfV : V → D
  | .bl b => .bl b
  | .int i => .int i
  | .str t => .str t
  | _ => .non
omit [KK] in
theorem zey {d : D} (h : okE 0 d = true) : dOfV (vOf d) = d := by
  cases d <;> first | rfl | (cases h; done)
omit [KK] in
theorem zeP {d e : D} (h1 : okE 0 d = true) (h2 : okE 0 e = true) (h : vOf d = vOf e) : d = e := by
  rw [← zey h1, h, zey h2]
omit [KK] in
theorem xk {n : Nat} {d : D} (h : okE (n + 1) d = true) : okE 0 d = true ∨ (∃ ds, d = .tup ds ∧ ds.all (okE n) = true) ∨ ∃ ds, d = .lst ds ∧ ds.all (okE n) = true := by
  cases d with
  | tup ds => exact .inr (.inl ⟨ds, rfl, h⟩)
  | lst ds => exact .inr (.inr ⟨ds, rfl, h⟩)
  | scr _ => cases h
  | dct _ _ _ _ => cases h
  | _ => exact .inl rfl
theorem zfc {F : Hp} {n : Nat} (ih : ∀ {d e : D} {v : V}, okE n d = true → okE n e = true → At F d v → At F e v → d = e) : ∀ {xs : List V} {ds es : List D}, ds.all (okE n) = true → es.all (okE n) = true → AtL F ds xs → AtL F es xs → ds = es := by
  intro xs
  induction xs with
  | nil =>
    intro ds es _ _ a1 a2
    exact (List.length_eq_zero_iff.mp a1.length.symm).trans (List.length_eq_zero_iff.mp a2.length.symm).symm
  | cons x xs ih2 =>
    intro ds es h1 h2 a1 a2
    cases ds with
    | nil => cases a1.nil_inv
    | cons d ds => cases es with
      | nil => cases a2.nil_inv
      | cons e es =>
        obtain ⟨y, r, e1, b1, c1⟩ := a1.cons_inv
        obtain ⟨y2, r2, e2, b2, c2⟩ := a2.cons_inv
        cases e1
        cases e2
        rw [List.all_cons, Bool.and_eq_true] at h1 h2
        rw [ih2 h1.2 h2.2 c1 c2, ih h1.1 h2.1 b1 b2]
theorem zhF {F : Hp} : ∀ (n : Nat) {d e : D} {v : V}, okE n d = true → okE n e = true → At F d v → At F e v → d = e := by
  intro n
  induction n with
  | zero =>
    intro d e v h1 h2 a1 a2
    exact zeP h1 h2 ((xn h1 a1).symm.trans (xn h2 a2))
  | succ n ih =>
    intro d e v h1 h2 a1 a2
    rcases xk h1 with f1 | ⟨ds, rfl, k1⟩ | ⟨ds, rfl, k1⟩
    · have e1 := xn f1 a1
      rcases xk h2 with f2 | ⟨es, rfl, _⟩ | ⟨es, rfl, _⟩
      · exact zeP f1 f2 (e1.symm.trans (xn f2 a2))
      · obtain ⟨p, xs, e2, _⟩ := a2.tup_inv
        exact (XT f1 (e1.symm.trans e2)).elim
      · obtain ⟨p, xs, e2, _⟩ := a2.lst_inv
        exact (XT f1 (e1.symm.trans e2)).elim
    · obtain ⟨p, xs, e0, hx, al⟩ := a1.tup_inv
      rcases xk h2 with f2 | ⟨es, rfl, k2⟩ | ⟨es, rfl, k2⟩
      · exact (XT f2 ((xn f2 a2).symm.trans e0)).elim
      · obtain ⟨q, ys, e1, hy, bl⟩ := a2.tup_inv
        cases e0.symm.trans e1
        cases hx.symm.trans hy
        rw [zfc ih k1 k2 al bl]
      · obtain ⟨q, ys, e1, hy, bl⟩ := a2.lst_inv
        cases e0.symm.trans e1
        cases hx.symm.trans hy
    · obtain ⟨p, xs, e0, hx, al⟩ := a1.lst_inv
      rcases xk h2 with f2 | ⟨es, rfl, k2⟩ | ⟨es, rfl, k2⟩
      · exact (XT f2 ((xn f2 a2).symm.trans e0)).elim
      · obtain ⟨q, ys, e1, hy, bl⟩ := a2.tup_inv
        cases e0.symm.trans e1
        cases hx.symm.trans hy
      · obtain ⟨q, ys, e1, hy, bl⟩ := a2.lst_inv
        cases e0.symm.trans e1
        cases hx.symm.trans hy
        rw [zfc ih k1 k2 al bl]
omit [KK] in
theorem zgU : ∀ (n : Nat) {d : D}, okE n d = true → eqN n d d = true := by
  intro n
  induction n with
  | zero =>
    intro d h
    cases d with
    | tup _ => cases h
    | lst _ => cases h
    | scr _ => cases h
    | dct _ _ _ _ => cases h
    | _ => first | rfl | exact decide_eq_true rfl | exact beq_self_eq_true _
  | succ n ih =>
    have ihl : ∀ {ds : List D}, ds.all (okE n) = true → (List.zipWith (eqN n) ds ds).all id = true := by
      intro ds
      induction ds with
      | nil => intro _; rfl
      | cons d ds ih2 =>
        intro h
        rw [List.all_cons, Bool.and_eq_true] at h
        rw [List.zipWith_cons_cons, List.all_cons, ih2 h.2, Bool.and_true]
        exact ih h.1
    intro d h
    cases d with
    | tup ds => show ((List.zipWith (eqN n) ds ds).all id && ds.length == ds.length) = true; rw [ihl h]; simp
    | lst ds => show ((List.zipWith (eqN n) ds ds).all id && ds.length == ds.length) = true; rw [ihl h]; simp
    | scr _ => cases h
    | dct _ _ _ _ => cases h
    | _ => first | rfl | exact decide_eq_true rfl | exact beq_self_eq_true _
theorem zhI {F : Hp} (n : Nat) {d e : D} {v : V} (h1 : okE n d = true) (h2 : okE n e = true) (a1 : At F d v) (a2 : At F e v) : eqN n d e = true := by
  rw [zhF n h1 h2 a1 a2]
  exact zgU n h2
omit [KK] in
theorem xv {n : Nat} {ds : List D} {j : Nat} (h : ds.all (okE n) = true) (hj : j < ds.length) : okE n (ds.getD j .non) = true := by
  have : ds.getD j .non = ds[j] := by simp [hj]
  rw [this]
  exact List.all_eq_true.mp h _ (List.getElem_mem hj)
theorem AtL.nth {F : Hp} {ds : List D} {xs : List V} {us : List Value} {j : Nat} (al : AtL F ds xs) (r : yl xs us) (h : j < us.length) : ∃ x, At F (ds.getD j .non) x ∧ yH x us[j] := by
  have hl := al.length
  have hl2 := r.length
  have hj : j < ds.length := by omega
  obtain ⟨x, hx, ax⟩ := al.get (i := j) (d := ds[j]) (by simp [hj])
  obtain ⟨u, hu, ru⟩ := r.get hx
  refine ⟨x, by rw [show ds.getD j .non = ds[j] by simp [hj]]; exact ax, ?_⟩
  have : us[j]? = some us[j] := by simp [h]
  rw [hu] at this
  cases this
  exact ru
omit [KK] in
theorem zdn {n : Nat} {d e : D} (h1 : okE 0 d = true) (h2 : okE 0 e = true) : eqN n d e = eqV (vOf d) (vOf e) := by
  cases n <;> cases d <;> first | (cases h1; done) | skip
  all_goals cases e <;> first | (cases h2; done) | rfl
omit [KK] in
theorem zdG {n : Nat} {d : D} (ds : List D) (h : okE 0 d = true) : eqN (n + 1) d (.tup ds) = false ∧ eqN (n + 1) d (.lst ds) = false ∧ eqN (n + 1) (.tup ds) d = false ∧ eqN (n + 1) (.lst ds) d = false := by
  cases d <;> first | exact ⟨rfl, rfl, rfl, rfl⟩ | cases h
omit [KK] in
theorem Wa {A : Around} {s : Shared} {d : D} {u : Value} {p : Addr} {its : Array Value} (h : okE 0 d = true) (r : yH (vOf d) u) (hu : A.units < cLine) :
    (s.heap.IsTuple p its → SeqAt.EqAt A s u (.ref p) false ∧ SeqAt.EqAt A s (.ref p) u false) ∧ (s.heap.IsList p its → SeqAt.EqAt A s u (.ref p) false ∧ SeqAt.EqAt A s (.ref p) u false) := by
  cases d with
  | non => cases r; exact ⟨fun ht => ⟨.none_tuple ht hu, .tuple_none ht hu⟩, fun ht => ⟨.none_list ht hu, .list_none ht hu⟩⟩
  | bl b => cases r; exact ⟨fun ht => ⟨.bool_tuple b ht hu, .tuple_bool b ht hu⟩, fun ht => ⟨.bool_list b ht hu, .list_bool b ht hu⟩⟩
  | int b => obtain ⟨t, rfl⟩ := r; exact ⟨fun ht => ⟨.int_tuple b t ht hu, .tuple_int b t ht hu⟩, fun ht => ⟨.int_list b t ht hu, .list_int b t ht hu⟩⟩
  | str b => obtain ⟨t, rfl⟩ := r; exact ⟨fun ht => ⟨.str_tuple b t ht hu, .tuple_str b t ht hu⟩, fun ht => ⟨.str_list b t ht hu, .list_str b t ht hu⟩⟩
  | _ => cases h
theorem We {X : Cx} {pins : List (Addr × Obj)} {σ : St} {F H : Hp} {s : Shared} (I : Inv X pins σ H s) (sm : yG F H) {ds : List D} {x : V} {u : Value} (a : At F (.tup ds) x) (r : yH x u) : ∃ p its xs, u = .ref p ∧ x = .ref p ∧ yl xs its ∧ AtL F ds xs ∧ s.heap.IsTuple p its.toArray := by
  obtain ⟨p, xs, rfl, hx, al⟩ := a.tup_inv
  cases r
  obtain ⟨its, rv, ht, hz⟩ := I.tuple (SqT.of (sm _ _ hx))
  exact ⟨p, its, xs, rfl, rfl, rv, al, ht⟩
theorem Wc {X : Cx} {pins : List (Addr × Obj)} {σ : St} {F H : Hp} {s : Shared} (I : Inv X pins σ H s) (sm : yG F H) {ds : List D} {x : V} {u : Value} (a : At F (.lst ds) x) (r : yH x u) : ∃ p its xs, u = .ref p ∧ x = .ref p ∧ yl xs its ∧ AtL F ds xs ∧ s.heap.IsList p its.toArray := by
  obtain ⟨p, xs, rfl, hx, al⟩ := a.lst_inv
  cases r
  obtain ⟨its, rv, ht, hz⟩ := I.list (SqL.of (sm _ _ hx))
  exact ⟨p, its, xs, rfl, rfl, rv, al, ht.isList⟩
omit [KK] in
theorem zeG {n : Nat} (ds es : List D) : ((List.zipWith (eqN n) ds es).all id && ds.length == es.length) = ((List.range (min ds.length es.length)).all (fun j => eqN n (ds.getD j .non) (es.getD j .non)) && ds.length == es.length) := by rw [X1]
theorem W1 {X : Cx} {pins : List (Addr × Obj)} {σ : St} {F H : Hp} {s : Shared} (I : Inv X pins σ H s) (sm : yG F H) : ∀ (n : Nat) {A : Around} {d e : D} {x y : V} {u v : Value}, okE n d = true → okE n e = true → At F d x → At F e y → yH x u → yH y v → A.units + n < cLine → SeqAt.EqAt A s u v (eqN n d e) := by
  intro n
  induction n with
  | zero =>
    intro A d e x y u v h1 h2 a1 a2 r1 r2 hu
    cases xn h1 a1
    cases xn h2 a2
    rw [zdn h1 h2]
    exact zhC r1 r2 (Zy h1) (Zy h2)
  | succ n ih =>
    intro A d e x y u v h1 h2 a1 a2 r1 r2 hu
    have hu0 : A.units < cLine := Nat.lt_of_le_of_lt (Nat.le_add_right _ _) hu
    have hu1 : A.units + 1 + n < cLine := by rw [Nat.add_assoc, Nat.add_comm 1 n]; exact hu
    rcases xk h1 with f1 | ⟨ds, rfl, k1⟩ | ⟨ds, rfl, k1⟩
    · cases xn f1 a1
      rcases xk h2 with f2 | ⟨es, rfl, k2⟩ | ⟨es, rfl, k2⟩
      · cases xn f2 a2
        rw [zdn f1 f2]
        exact zhC r1 r2 (Zy f1) (Zy f2)
      · obtain ⟨q, its2, ys, rfl, _, _, _, ht2⟩ := We I sm a2 r2
        rw [(zdG es f1).1]
        exact ((Wa f1 r1 hu0).1 ht2).1
      · obtain ⟨q, its2, ys, rfl, _, _, _, ht2⟩ := Wc I sm a2 r2
        rw [(zdG es f1).2.1]
        exact ((Wa f1 r1 hu0).2 ht2).1
    · obtain ⟨p, its, xs, rfl, hxp, rv, al, ht⟩ := We I sm a1 r1
      rcases xk h2 with f2 | ⟨es, rfl, k2⟩ | ⟨es, rfl, k2⟩
      · cases xn f2 a2
        rw [(zdG ds f2).2.2.1]
        exact ((Wa f2 r2 hu0).1 ht).2
      · obtain ⟨q, its2, ys, rfl, hyq, rv2, bl, ht2⟩ := We I sm a2 r2
        by_cases hpq : p = q
        · subst hpq
          rw [hxp] at a1
          rw [hyq] at a2
          rw [zhI (n + 1) h1 h2 a1 a2]
          exact .same _
        · have hl1 : its.toArray.size = ds.length := by rw [List.size_toArray, ← rv.length, al.length]
          have hl2 : its2.toArray.size = es.length := by rw [List.size_toArray, ← rv2.length, bl.length]
          have := SeqAt.RcAt.tuples (A := A) (e := fun j => eqN n (ds.getD j .non) (es.getD j .non)) ht ht2 hu0 fun j g1 g2 => by
            obtain ⟨x', ax, rx⟩ := al.nth rv (j := j) g1
            obtain ⟨y', ay, ry⟩ := bl.nth rv2 (j := j) g2
            exact ih (xv k1 (hl1 ▸ g1)) (xv k2 (hl2 ▸ g2)) ax ay rx ry hu1
          rw [hl1, hl2] at this
          rw [show eqN (n + 1) (.tup ds) (.tup es) = _ from zeG ds es]
          exact SeqAt.EqAt.of_refs hpq this
      · obtain ⟨q, its2, ys, rfl, _, _, _, ht2⟩ := Wc I sm a2 r2
        exact .tuple_list ht ht2 hu0
    · obtain ⟨p, its, xs, rfl, hxp, rv, al, ht⟩ := Wc I sm a1 r1
      rcases xk h2 with f2 | ⟨es, rfl, k2⟩ | ⟨es, rfl, k2⟩
      · cases xn f2 a2
        rw [(zdG ds f2).2.2.2]
        exact ((Wa f2 r2 hu0).2 ht).2
      · obtain ⟨q, its2, ys, rfl, _, _, _, ht2⟩ := We I sm a2 r2
        exact .list_tuple ht ht2 hu0
      · obtain ⟨q, its2, ys, rfl, hyq, rv2, bl, ht2⟩ := Wc I sm a2 r2
        by_cases hpq : p = q
        · subst hpq
          rw [hxp] at a1
          rw [hyq] at a2
          rw [zhI (n + 1) h1 h2 a1 a2]
          exact .same _
        · have hl1 : its.toArray.size = ds.length := by rw [List.size_toArray, ← rv.length, al.length]
          have hl2 : its2.toArray.size = es.length := by rw [List.size_toArray, ← rv2.length, bl.length]
          rw [show eqN (n + 1) (.lst ds) (.lst es) = _ from zeG ds es]
          by_cases hle : ds.length = es.length
          · have := SeqAt.RcAt.lists (A := A) (e := fun j => eqN n (ds.getD j .non) (es.getD j .non)) ht ht2 (by rw [hl1, hl2, hle]) hu0 fun j g1 g2 => by
              obtain ⟨x', ax, rx⟩ := al.nth rv (j := j) g1
              obtain ⟨y', ay, ry⟩ := bl.nth rv2 (j := j) g2
              exact ih (xv k1 (hl1 ▸ g1)) (xv k2 (hl2 ▸ g2)) ax ay rx ry hu1
            rw [hl1] at this
            rw [← hle, Nat.min_self, beq_self_eq_true, Bool.and_true]
            exact SeqAt.EqAt.of_refs hpq this
          · have := SeqAt.RcAt.lists_lengths (A := A) ht ht2 (by rw [hl1, hl2]; exact bne_iff_ne.mpr hle) hu0
            rw [beq_eq_false_iff_ne.mpr hle, Bool.and_false]
            exact SeqAt.EqAt.of_refs hpq this
noncomputable def zgT (d : D) (es : List D) : Option Bool := if okE 20 d = true ∧ es.all (okE 20) = true then some (es.any fun e => eqN 20 e d) else none
noncomputable def inD (d e : D) : Option D := (wQ e).bind fun es => (zgT d es).map .bl
noncomputable def Z9 (d e : D) : Option D := (wQ e).bind fun es => (zgT d es).map fun b => .bl (!b)
open Classical in
noncomputable def zaB (F : Hp) (d : D) (u : Value) : Bool := decide (∃ d0 x, At F d0 x ∧ yH x u ∧ okE 20 d0 = true ∧ eqN 20 d0 d = true)
open Classical in
theorem zcp {F : Hp} {d d0 : D} {x : V} {u : Value} (a : At F d0 x) (r : yH x u) (k : okE 20 d0 = true) : zaB F d u = eqN 20 d0 d := by
  unfold zaB
  cases h : eqN 20 d0 d with
  | true => exact decide_eq_true ⟨d0, x, a, r, k, h⟩
  | false =>
    refine decide_eq_false ?_
    rintro ⟨d1, y, a1, r1, k1, h1⟩
    have e := r1.inj r
    subst e
    rw [zhF 20 k1 k a1 a] at h1
    rw [h1] at h
    cases h
theorem Yt {F : Hp} {d : D} : ∀ {ds : List D} {xs : List V} {us : List Value}, AtL F ds xs → yl xs us → ds.all (okE 20) = true → us.any (zaB F d) = ds.any fun e => eqN 20 e d
  | [], _, _, al, r, _ => by cases al.nil_inv; cases r; rfl
  | e :: ds, _, _, al, r, k => by
    obtain ⟨x, xs, rfl, a1, a2⟩ := al.cons_inv
    cases r with
    | cons r1 r2 =>
      rw [List.all_cons, Bool.and_eq_true] at k
      rw [List.any_cons, List.any_cons, zcp a1 r1 k.1, Yt a2 r2 k.2]
section
variable {X : Cx}
noncomputable def zlt (neg : Bool) : R2 := fun x y H Q => ∃ F d e es b, yG F H ∧ At F d x ∧ At F e y ∧ wQ e = some es ∧ zgT d es = some b ∧ Q (.bl (if neg then !b else b)) H
theorem zj6 {k : Nat} (hr : Ya k X.A) : OpR X (compareOp .In) (zlt false) := by
  intro pins s σ H x y v u Q I rx ry h
  obtain ⟨F, d, e, es, b, sm, a1, a2, hs, hb, q⟩ := h
  unfold zgT at hb
  split at hb <;> cases hb
  rename_i hk
  have hu : X.A.in1.units + 20 < cLine := by have := hr.un; show X.A.units + 1 + 20 < cLine; omega
  have mem : ∀ {xs : List V} {us : List Value}, AtL F es xs → yl xs us → ∀ z ∈ us, SeqAt.EqAt X.A.in1 s z v (zaB F d z) := fun {xs us} al r z hz => by
    obtain ⟨j, hj, rfl⟩ := List.getElem_of_mem hz
    obtain ⟨x', ax, rx'⟩ := al.nth r hj
    have hj' : j < es.length := by have := al.length; have := r.length; omega
    have k2 := xv hk.2 hj'
    rw [zcp ax rx' k2]
    exact W1 I sm 20 k2 hk.1 ax a1 rx' rx hu
  cases e <;> cases hs
  · obtain ⟨p, xs, rfl, hx, al⟩ := a2.tup_inv
    cases ry
    obtain ⟨its, r, pl, hz⟩ := I.tuple (SqT.of (sm _ _ hx))
    refine SeqAt.in_tupleAt (zaB F d) pl (fun z hz => mem al r z (by simpa using hz)) ⟨.bl _, H, I, rfl, ?_⟩
    rw [show its.toArray.any (zaB F d) = its.any (zaB F d) by simp, Yt al r hk.2]
    exact q
  · obtain ⟨p, xs, rfl, hx, al⟩ := a2.lst_inv
    cases ry
    obtain ⟨its, r, pl, hz⟩ := I.list (SqL.of (sm _ _ hx))
    refine SeqAt.in_listAt (zaB F d) pl.isList (fun z hz => mem al r z (by simpa using hz)) ⟨.bl _, H, I, rfl, ?_⟩
    rw [show its.toArray.any (zaB F d) = its.any (zaB F d) by simp, Yt al r hk.2]
    exact q
theorem Z8 {k : Nat} (hr : Ya k X.A) : OpR X (compareOp .NotIn) (zlt true) := by
  intro pins s σ H x y v u Q I rx ry h
  obtain ⟨F, d, e, es, b, sm, a1, a2, hs, hb, q⟩ := h
  unfold zgT at hb
  split at hb <;> cases hb
  rename_i hk
  have hu : X.A.in1.units + 20 < cLine := by have := hr.un; show X.A.units + 1 + 20 < cLine; omega
  have mem : ∀ {xs : List V} {us : List Value}, AtL F es xs → yl xs us → ∀ z ∈ us, SeqAt.EqAt X.A.in1 s z v (zaB F d z) := fun {xs us} al r z hz => by
    obtain ⟨j, hj, rfl⟩ := List.getElem_of_mem hz
    obtain ⟨x', ax, rx'⟩ := al.nth r hj
    have hj' : j < es.length := by have := al.length; have := r.length; omega
    have k2 := xv hk.2 hj'
    rw [zcp ax rx' k2]
    exact W1 I sm 20 k2 hk.1 ax a1 rx' rx hu
  cases e <;> cases hs
  · obtain ⟨p, xs, rfl, hx, al⟩ := a2.tup_inv
    cases ry
    obtain ⟨its, r, pl, hz⟩ := I.tuple (SqT.of (sm _ _ hx))
    refine SeqAt.notIn_tupleAt (zaB F d) pl (fun z hz => mem al r z (by simpa using hz)) ⟨.bl _, H, I, rfl, ?_⟩
    rw [show its.toArray.any (zaB F d) = its.any (zaB F d) by simp, Yt al r hk.2]
    exact q
  · obtain ⟨p, xs, rfl, hx, al⟩ := a2.lst_inv
    cases ry
    obtain ⟨its, r, pl, hz⟩ := I.list (SqL.of (sm _ _ hx))
    refine SeqAt.notIn_listAt (zaB F d) pl.isList (fun z hz => mem al r z (by simpa using hz)) ⟨.bl _, H, I, rfl, ?_⟩
    rw [show its.toArray.any (zaB F d) = its.any (zaB F d) by simp, Yt al r hk.2]
    exact q
theorem zku : OpD (zlt false) inD := by
  intro F H x y d e z Q s ax ay ez q
  obtain ⟨es, e1, e2⟩ := Option.bind_eq_some_iff.mp ez
  obtain ⟨b, e3, rfl⟩ := Option.map_eq_some_iff.mp e2
  exact ⟨F, d, e, es, b, s, ax, ay, e1, e3, q F H _ (.refl s) .bl⟩
theorem ZV : OpD (zlt true) Z9 := by
  intro F H x y d e z Q s ax ay ez q
  obtain ⟨es, e1, e2⟩ := Option.bind_eq_some_iff.mp ez
  obtain ⟨b, e3, rfl⟩ := Option.map_eq_some_iff.mp e2
  exact ⟨F, d, e, es, b, s, ax, ay, e1, e3, q F H _ (.refl s) .bl⟩
noncomputable def eqG (d e : D) : Option Bool := match d, e with
  | .tup _, .tup _ => if okE 20 d = true ∧ okE 20 e = true then some (eqN 20 d e) else none
  | .lst _, .lst _ => if okE 20 d = true ∧ okE 20 e = true then some (eqN 20 d e) else none
  | _, _ => eqS d e
noncomputable def Xf (d e : D) : Option D := (eqG d e).map .bl
noncomputable def zlv : R2 := fun x y H Q => ∃ F d e, yG F H ∧ At F d x ∧ At F e y ∧ ((∃ ds es, d = .tup ds ∧ e = .tup es) ∨ (∃ ds es, d = .lst ds ∧ e = .lst es)) ∧ okE 20 d = true ∧ okE 20 e = true ∧ Q (.bl (eqN 20 d e)) H
theorem zlj {k : Nat} (hr : Ya k X.A) : OpR X (compareOp .Eq) zlv := by
  intro pins s σ H x y v u Q I rx ry h
  obtain ⟨F, d, e, sm, a1, a2, hk, k1, k2, q⟩ := h
  have hu : X.A.units + 30 < cLine := by have := hr.un; omega
  rcases hk with ⟨ds, es, rfl, rfl⟩ | ⟨ds, es, rfl, rfl⟩
  · obtain ⟨p, xs, rfl, hx, al⟩ := a1.tup_inv
    obtain ⟨p2, ys, rfl, hy, bl⟩ := a2.tup_inv
    cases rx
    cases ry
    obtain ⟨its, r, ht, hz⟩ := I.tuple (SqT.of (sm _ _ hx))
    obtain ⟨its2, r2, ht2, hz2⟩ := I.tuple (SqT.of (sm _ _ hy))
    have hl1 : its.toArray.size = ds.length := by rw [List.size_toArray, ← r.length, al.length]
    have hl2 : its2.toArray.size = es.length := by rw [List.size_toArray, ← r2.length, bl.length]
    refine SeqAt.eq_tupleAt (e := fun j => eqN 19 (ds.getD j .non) (es.getD j .non)) (show s.heap.IsTuple p its.toArray from ht) (show s.heap.IsTuple p2 its2.toArray from ht2) (by omega) (fun j g1 g2 => ?_) ⟨.bl _, H, I, rfl, ?_⟩
    · obtain ⟨x', ax, rx⟩ := al.nth r (j := j) (by simpa using g1)
      obtain ⟨y', ay, ry⟩ := bl.nth r2 (j := j) (by simpa using g2)
      exact W1 I sm 19 (xv k1 (by rw [← hl1]; exact g1)) (xv k2 (by rw [← hl2]; exact g2)) ax ay (by simpa using rx) (by simpa using ry) (Nat.lt_of_le_of_lt (show X.A.units + 20 ≤ X.A.units + 30 from Nat.add_le_add_left (by decide) _) hu)
    · rw [hl1, hl2, ← X1]
      exact q
  · obtain ⟨p, xs, rfl, hx, al⟩ := a1.lst_inv
    obtain ⟨p2, ys, rfl, hy, bl⟩ := a2.lst_inv
    cases rx
    cases ry
    obtain ⟨its, r, ht, hz⟩ := I.list (SqL.of (sm _ _ hx))
    obtain ⟨its2, r2, ht2, hz2⟩ := I.list (SqL.of (sm _ _ hy))
    have hl1 : its.toArray.size = ds.length := by rw [List.size_toArray, ← r.length, al.length]
    have hl2 : its2.toArray.size = es.length := by rw [List.size_toArray, ← r2.length, bl.length]
    have e1 : eqN 20 (.lst ds) (.lst es) = ((List.range (min ds.length es.length)).all (fun j => eqN 19 (ds.getD j .non) (es.getD j .non)) && ds.length == es.length) := by
      show ((List.zipWith (eqN 19) ds es).all id && ds.length == es.length) = _
      rw [X1]
    by_cases hle : ds.length = es.length
    · refine SeqAt.eq_listAt (e := fun j => eqN 19 (ds.getD j .non) (es.getD j .non)) ht.isList ht2.isList (by rw [hl1, hl2]; exact hle) (Nat.lt_of_le_of_lt (Nat.le_add_right _ 30) hu) (fun j g1 g2 => ?_) ⟨.bl _, H, I, rfl, ?_⟩
      · obtain ⟨x', ax, rx⟩ := al.nth r (j := j) (by simpa using g1)
        obtain ⟨y', ay, ry⟩ := bl.nth r2 (j := j) (by simpa using g2)
        exact W1 I sm 19 (xv k1 (by rw [← hl1]; exact g1)) (xv k2 (by rw [← hl2]; exact g2)) ax ay (by simpa using rx) (by simpa using ry) (Nat.lt_of_le_of_lt (show X.A.units + 20 ≤ X.A.units + 30 from Nat.add_le_add_left (by decide) _) hu)
      · rw [hl1]
        rw [e1, ← hle, Nat.min_self] at q
        simpa using q
    · refine SeqAt.eq_list_lengthsAt ht.isList ht2.isList (by rw [hl1, hl2]; simpa using hle) (Nat.lt_of_le_of_lt (Nat.le_add_right _ 30) hu) ⟨.bl _, H, I, rfl, ?_⟩
      have : (ds.length == es.length) = false := by simpa using hle
      rw [e1, this, Bool.and_false] at q
      exact q
theorem ziP : OpD zlv (fun d e => match d, e with
  | .tup _, .tup _ => if okE 20 d = true ∧ okE 20 e = true then some (.bl (eqN 20 d e)) else none
  | .lst _, .lst _ => if okE 20 d = true ∧ okE 20 e = true then some (.bl (eqN 20 d e)) else none
  | _, _ => none) := by
  intro F H x y d e z Q s ax ay ez q
  dsimp only at ez
  split at ez
  · split at ez <;> cases ez
    rename_i hk
    exact ⟨F, _, _, s, ax, ay, .inl ⟨_, _, rfl, rfl⟩, hk.1, hk.2, q F H _ (.refl s) .bl⟩
  · split at ez <;> cases ez
    rename_i hk
    exact ⟨F, _, _, s, ax, ay, .inr ⟨_, _, rfl, rfl⟩, hk.1, hk.2, q F H _ (.refl s) .bl⟩
  · cases ez
theorem Xd {k : Nat} (hr : Ya k X.A) : OpR X (compareOp .Eq) (fun x y H Q => rEq x y H Q ∨ zlv x y H Q) := zma.or (zlj hr)
theorem vT : OpD (fun x y H Q => rEq x y H Q ∨ zlv x y H Q) Xf := by
  refine zaJ (Vy zhu ziP) fun d e z h => ?_
  obtain ⟨b, hb, rfl⟩ := Option.map_eq_some_iff.mp h
  unfold eqG at hb
  split at hb
  · split at hb <;> cases hb
    rename_i hk
    show (Option.or none (if okE 20 _ = true ∧ okE 20 _ = true then some (D.bl (eqN 20 _ _)) else none)) = _
    rw [if_pos hk]
    rfl
  · split at hb <;> cases hb
    rename_i hk
    show (Option.or none (if okE 20 _ = true ∧ okE 20 _ = true then some (D.bl (eqN 20 _ _)) else none)) = _
    rw [if_pos hk]
    rfl
  · show ((eqD d e).or _) = _
    unfold eqD
    rw [hb]
    rfl
theorem seq_walk {pins : List (Addr × Obj)} {σ : St} {H : Hp} {s : Shared} {a : Addr} {xs : List V} {A : Around} {Q : Value → Shared → Prop} {E : Value → Shared → Prop} (I : Inv X pins σ H s) (hh : A.handled = none) (h : SqL X.K H a xs ∨ SqT X.K H a xs)
    (k : ∀ (it : Addr) (its : List Value) (fp wr : List Addr) (St : Nat → Heap → Prop) (s₂ : Shared), yl xs its → Walks X.prog X.w A it fp wr its.length (fun i v => its[i]? = some v) St → St 0 s₂.heap → (∀ b ∈ fp, b < s₂.heap.objs.size) →
      (∀ (h' : Heap) (tk : Nat), (∀ b o, b ∉ wr → s₂.heap.get? b = some o → h'.get? b = some o) → Inv X pins σ H { s₂ with heap := h', toks := tk }) → Q (.ref it) s₂) :
    wpAny (model X.prog X.w) A (pyIter (.ref a)) Q E s := by
  have back : ∀ {o : Obj} {s₂ : Shared}, s₂ = { s with heap := s.heap.push o } → ∀ (h' : Heap) (tk : Nat), (∀ b u, b ∉ [s.heap.objs.size] → s₂.heap.get? b = some u → h'.get? b = some u) → Inv X pins σ H { s₂ with heap := h', toks := tk } := fun {o s₂} e h' tk kk => by
    subst e
    exact I.kept (t' := tk) fun b u z => kk b u (by simpa using Nat.ne_of_lt (Heap.lt_size z)) (Heap.get?_push_of_some _ z)
  rcases h with h | h
  · obtain ⟨its, rv, p, hz⟩ := I.list h
    have lt : a < s.heap.objs.size := by obtain ⟨o, n, ho, _⟩ := p; exact Heap.lt_size ho
    refine wpAny_pyIter_list p.isList ?_
    have W := Walks.list (prog := X.prog) (w := X.w) (A := A) hh s.heap.objs.size a (Nat.ne_of_lt lt) its.toArray
    refine k s.heap.objs.size its [s.heap.objs.size, a] [s.heap.objs.size] (fun i h => h.IsListIter s.heap.objs.size a i ∧ h.IsList a its.toArray) _ rv (by simpa using W) ⟨⟨_, Heap.get?_push_size _ rfl, rfl, rfl⟩, p.isList.at fun o e => Heap.get?_push_of_some _ e⟩ (fun b hb => ?_) (back rfl)
    show b < (s.heap.push _).objs.size
    rw [Heap.size_push]
    rcases List.mem_cons.mp hb with rfl | hb
    · exact Nat.lt_succ_self _
    · rw [List.mem_singleton.mp hb]; exact Nat.lt_succ_of_lt lt
  · obtain ⟨its, rv, p, hz⟩ := I.tuple h
    have p' : s.heap.IsTuple a its.toArray := p
    have lt : a < s.heap.objs.size := by obtain ⟨o, ho, _⟩ := p; exact Heap.lt_size ho
    refine wpAny_pyIter_tuple p' ?_
    have W := Walks.tuple (prog := X.prog) (w := X.w) (A := A) hh s.heap.objs.size a (Nat.ne_of_lt lt) its.toArray
    refine k s.heap.objs.size its [s.heap.objs.size, a] [s.heap.objs.size] (fun i h => h.IsTupleIter s.heap.objs.size a i ∧ h.IsTuple a its.toArray) _ rv (by simpa using W) ⟨⟨_, Heap.get?_push_size _ rfl, rfl, rfl⟩, p'.at fun o e => Heap.get?_push_of_some _ e⟩ (fun b hb => ?_) (back rfl)
    show b < (s.heap.push _).objs.size
    rw [Heap.size_push]
    rcases List.mem_cons.mp hb with rfl | hb
    · exact Nat.lt_succ_self _
    · rw [List.mem_singleton.mp hb]; exact Nat.lt_succ_of_lt lt
end
end Dl
namespace Dl
open PySem L2
variable [KK]
omit [KK] in
theorem zfL : ∀ (ns : List Int) (n : Nat), n ≤ ns.length → preSum (fun i => ns.getD i 0) n = (ns.take n).sum := by
  intro ns n
  induction n with
  | zero => intro _; simp [preSum]
  | succ n ih =>
    intro h
    show preSum (fun i => ns.getD i 0) n + ns.getD n 0 = _
    rw [ih (by omega), List.take_succ, List.sum_append]
    have : ns[n]? = some ns[n] := by simp [show n < ns.length by omega]
    simp [this]
section
variable {X : Cx}
omit [KK] in
theorem vals_int {ns : List Int} {its : List Value} {i : Nat} {v : Value} (r : yl (ns.map V.int) its) (h : its[i]? = some v) : ∃ t, v = .int (ns.getD i 0) t := by
  have hl := r.length
  have hi : i < its.length := (List.getElem?_eq_some_iff.mp h).1
  rw [List.length_map] at hl
  obtain ⟨u, hu, ru⟩ := r.get (i := i) (x := .int (ns[i]'(by omega))) (by rw [List.getElem?_map]; simp [show i < ns.length by omega])
  rw [h] at hu
  cases hu
  obtain ⟨t, rfl⟩ := ru
  exact ⟨t, by simp [show i < ns.length by omega]⟩
theorem zez (hc : X.calm = true) : vh X (.builtin "sum") (fun xs H Q => ∃ (p : Addr) (ns : List Int), xs = [.ref p] ∧ (SqL X.K H p (ns.map V.int) ∨ SqT X.K H p (ns.map V.int)) ∧ Q (.int ns.sum) H) := by
  intro pins s σ H xs us Q I r h
  obtain ⟨p, ns, rfl, hq, q⟩ := h
  obtain ⟨u, rfl, ru⟩ := ZU r
  cases ru
  refine call_sum_walkG (seq_walk I (I.ok.hd hc) hq fun it its fp wr St s₂ rv W st fpl back => ?_)
  have hl := rv.length
  rw [List.length_map] at hl
  refine ⟨it, fp, wr, _, _, St, fun i => ns.getD i 0, rfl, W, st, fpl, fun i v hv => vals_int rv hv, fun h' tk t' kk => ⟨.int ns.sum, H, back h' tk kk, ?_, q⟩⟩
  refine ⟨t', ?_⟩
  rw [← hl, zfL ns _ (Nat.le_refl _), List.take_length]
noncomputable def maxL (ns : List Int) : Int := (ns.max?).getD 0
omit [KK] in
theorem best_ge (f : Nat → Int) : ∀ k i, i ≤ k → f i ≤ f (argBest (fun i j => decide (f j < f i)) k) ∧ argBest (fun i j => decide (f j < f i)) k ≤ k := by
  intro k
  induction k with
  | zero => intro i hi; have : i = 0 := by omega
            subst this; exact ⟨Int.le_refl _, Nat.le_refl _⟩
  | succ k ih =>
    intro i hi
    unfold argBest
    obtain ⟨h1, h2⟩ := ih (min i k) (Nat.min_le_right _ _)
    split
    · rename_i hc
      have hc : f (argBest (fun i j => decide (f j < f i)) k) < f (k + 1) := of_decide_eq_true hc
      refine ⟨?_, Nat.le_refl _⟩
      by_cases hik : i ≤ k
      · rw [Nat.min_eq_left hik] at h1; omega
      · have : i = k + 1 := by omega
        subst this; exact Int.le_refl _
    · rename_i hc
      have hc : ¬ f (argBest (fun i j => decide (f j < f i)) k) < f (k + 1) := fun z => hc (decide_eq_true z)
      refine ⟨?_, by omega⟩
      by_cases hik : i ≤ k
      · rw [Nat.min_eq_left hik] at h1; exact h1
      · have : i = k + 1 := by omega
        subst this; omega
omit [KK] in
theorem max_is {ns : List Int} {m : Int} (h1 : m ∈ ns) (h2 : ∀ x ∈ ns, x ≤ m) : maxL ns = m := by
  unfold maxL
  rw [List.max?_eq_some_iff.mpr ⟨h1, h2⟩]
  rfl
omit [KK] in
theorem getD_mem {ns : List Int} {k : Nat} (h : k < ns.length) : ns.getD k 0 ∈ ns := by
  rw [List.getD_eq_getElem?_getD, List.getElem?_eq_getElem h]
  exact List.getElem_mem h
omit [KK] in
theorem getD_at {ns : List Int} {k : Nat} (h : k < ns.length) : ns.getD k 0 = ns[k] := by
  rw [List.getD_eq_getElem?_getD, List.getElem?_eq_getElem h]
  rfl
theorem ze2 (hc : X.calm = true) : vh X (.builtin "max") (fun xs H Q => ∃ (p : Addr) (ns : List Int), xs = [.ref p] ∧ (SqL X.K H p (ns.map V.int) ∨ SqT X.K H p (ns.map V.int)) ∧ ns ≠ [] ∧ Q (.int (maxL ns)) H) := by
  intro pins s σ H xs us Q I r h
  obtain ⟨p, ns, rfl, hq, hne, q⟩ := h
  obtain ⟨u, rfl, ru⟩ := ZU r
  cases ru
  refine call_max_walk (seq_walk I (I.ok.hd hc) hq fun it its fp wr St s₂ rv W st fpl back => ?_)
  have hl := rv.length
  rw [List.length_map] at hl
  have hpos : 0 < ns.length := List.length_pos_iff.mpr hne
  refine ⟨it, fp, wr, _, _, St, fun i j => decide (ns.getD j 0 < ns.getD i 0), rfl, W, st, fpl, by omega, fun i j vi vj s Q E hi hj hQ => ?_, fun v h' tk hv kk => ?_⟩
  · obtain ⟨t1, rfl⟩ := vals_int rv hi
    obtain ⟨t2, rfl⟩ := vals_int rv hj
    exact PyProof.Rows.gt_int hQ
  · obtain ⟨t, rfl⟩ := vals_int rv hv
    refine ⟨.int (maxL ns), H, back h' tk kk, ⟨t, ?_⟩, q⟩
    have key := best_ge (fun i => ns.getD i 0) (its.length - 1)
    have hb : argBest (fun i j => decide (ns.getD j 0 < ns.getD i 0)) (its.length - 1) < ns.length := by
      have := (key 0 (Nat.zero_le _)).2
      omega
    rw [max_is (m := ns.getD (argBest (fun i j => decide (ns.getD j 0 < ns.getD i 0)) (its.length - 1)) 0)]
    · exact getD_mem hb
    · intro x hx
      obtain ⟨j, hj, rfl⟩ := List.getElem_of_mem hx
      have := (key j (by omega)).1
      rw [← getD_at hj]
      exact this
noncomputable def zjz : List D → Option (List Int)
  | [] => some []
  | .int b :: ds => (zjz ds).map (b :: ·)
  | _ => none
omit [KK] in
theorem ZQ : ∀ {ds : List D} {bs : List Int}, zjz ds = some bs → ds = bs.map .int
  | [], bs, h => by cases h; rfl
  | d :: ds, bs, h => by
    cases d <;> try cases h
    obtain ⟨cs, h1, rfl⟩ := Option.map_eq_some_iff.mp h
    rw [ZQ h1]
    rfl
noncomputable def zlw {α : Type} (as : List D → Option α) (g : α → Option D) : List D → Option D
  | [d] => ((wQ d).bind as).bind g
  | _ => none
theorem zeK {K : PySem.W.Frag} {F H : Hp} {vs : List V} {ds : List D} {z : D} {α : Type} {as : List D → Option α} {g : α → Option D} (s : yG F H) (al : AtL F ds vs) (e : zlw as g ds = some z) :
    ∃ p es xs b, vs = [.ref p] ∧ (SqL K H p xs ∨ SqT K H p xs) ∧ AtL F es xs ∧ as es = some b ∧ g b = some z := by
  unfold zlw at e
  split at e
  · obtain ⟨b, e1, e2⟩ := Option.bind_eq_some_iff.mp e
    obtain ⟨es, e3, e4⟩ := Option.bind_eq_some_iff.mp e1
    obtain ⟨x, r, rfl, ax, ar⟩ := al.cons_inv
    cases ar.nil_inv
    rename_i d
    cases d <;> cases e3
    · obtain ⟨p, xs, rfl, hx, bl⟩ := ax.tup_inv
      exact ⟨p, _, xs, b, rfl, .inr (SqT.of (s _ _ hx)), bl, e4, e2⟩
    · obtain ⟨p, xs, rfl, hx, bl⟩ := ax.lst_inv
      exact ⟨p, _, xs, b, rfl, .inl (SqL.of (s _ _ hx)), bl, e4, e2⟩
  · cases e
noncomputable def sumD := zlw zjz fun ns => some (.int ns.sum)
noncomputable def zgW := zlw zjz fun ns => if ns = [] then none else some (.int (maxL ns))
theorem zib {K : PySem.W.Frag} : CaD (fun xs H Q => ∃ (p : Addr) (ns : List Int), xs = [.ref p] ∧ (SqL K H p (ns.map V.int) ∨ SqT K H p (ns.map V.int)) ∧ Q (.int ns.sum) H) sumD := by
  intro F H vs ds z Q s al e q
  obtain ⟨p, es, xs, bs, rfl, hq, bl, e1, e2⟩ := zeK (K := K) s al e
  cases e2
  rw [ZQ e1] at bl
  rw [bl.of_ints] at hq
  exact ⟨p, bs, rfl, hq, q F H _ (.refl s) .int⟩
theorem zgd {K : PySem.W.Frag} : CaD (fun xs H Q => ∃ (p : Addr) (ns : List Int), xs = [.ref p] ∧ (SqL K H p (ns.map V.int) ∨ SqT K H p (ns.map V.int)) ∧ ns ≠ [] ∧ Q (.int (maxL ns)) H) zgW := by
  intro F H vs ds z Q s al e q
  obtain ⟨p, es, xs, bs, rfl, hq, bl, e1, e2⟩ := zeK (K := K) s al e
  split at e2 <;> cases e2
  rename_i hne
  rw [ZQ e1] at bl
  rw [bl.of_ints] at hq
  exact ⟨p, bs, rfl, hq, hne, q F H _ (.refl s) .int⟩
end
end Dl
namespace Dl
open PySem L2
variable [KK]
section
variable {X : Cx} {tg a b c e : Expr} {pos : Pos}
noncomputable def zipD : List D → List D → List D
  | x :: xs, y :: ys => .tup [x, y] :: zipD xs ys
  | _, _ => []
noncomputable def zc9 (f : Ev → Option (List D)) : Ev → Option (List D) := fun ρ => (f ρ).bind fun as => match as with
  | [d, e] => (wQ d).bind fun xs => (wQ e).bind fun ys => if xs.length ≤ ys.length then some (zipD xs ys) else none
  | _ => none
noncomputable def wB (g : List D → Option (List D)) (f : Ev → Option (List D)) (b : D → SE → Option SE) (h : SE → Ctl) : SE → Ctl := fun ρ => match (f (visG ρ)).bind g with
  | some ds => zee b h ds ρ
  | none => .no
theorem Zv {p pos' : Pos} {body : List Stmt} {f : Ev → Option (List D)} {b' : D → SE → Option SE} {g : SE → Ctl} (hp : PassesOwn (model X.prog X.w) X.A X.env X.xe) (hc : X.calm = true) (hgl : Gl X "range") (hm : X.mg "range" = none) (ha : AD X [a] f) (hg : BD X tg b') (hb : SDs X body g)
    (hs0 : starEach [a] X.env = [(false, eval a X.env)] := by rfl) (hs : ∀ x, foldedSetIterable (.Call (.Name "range" p) [a] [] pos) X.env x = pure x := by intro _; rfl) : SD X (.For tg (.Call (.Name "range" p) [a] [] pos) body [] pos') (wB Y2 f b' g) := by
  obtain ⟨t, pa, r⟩ := ha
  obtain ⟨tg', pg, rg⟩ := hg
  obtain ⟨tb, pb, rb⟩ := hb
  refine ⟨_, ze8 hp hc (WY hgl hm pa hs0) pg pb hs, fun Fb Hb F H ρ σ E rl k => ?_⟩
  unfold wB at k
  cases h : (f (visG ρ)).bind Y2 with
  | none => rw [h] at k; exact k.elim
  | some ds =>
    rw [h] at k
    obtain ⟨as, e1, e2⟩ := Option.bind_eq_some_iff.mp h
    refine r σ _ _ H as _ rl.gh rl.visG e1 fun F1 H1 vs g1 a1 => ?_
    have rl2 := rl.grow (rl.back g1).1
    unfold Y2 at e2
    split at e2
    · split at e2 <;> cases e2
      rename_i hc
      obtain ⟨x, r', rfl, ax, ar⟩ := a1.cons_inv
      cases ar.nil_inv
      exact ⟨_, by rw [ax.int_inv], (zX.mp hc).1, (zX.mp hc).2, zfN (zdt 0 _) rg rb rl2 k⟩
    · cases e2
theorem zhs {p pos' : Pos} {body : List Stmt} {f : Ev → Option (List D)} {b' : D → SE → Option SE} {g : SE → Ctl} (hp : PassesOwn (model X.prog X.w) X.A X.env X.xe) (hc : X.calm = true) (hgl : Gl X "range") (hm : X.mg "range" = none) (ha : AD X [a, b] f) (hg : BD X tg b') (hb : SDs X body g)
    (hs0 : starEach [a, b] X.env = [(false, eval a X.env), (false, eval b X.env)] := by rfl) (hs2 : starEach [b] X.env = [(false, eval b X.env)] := by rfl) (hs : ∀ x, foldedSetIterable (.Call (.Name "range" p) [a, b] [] pos) X.env x = pure x := by intro _; rfl) : SD X (.For tg (.Call (.Name "range" p) [a, b] [] pos) body [] pos') (wB Xh f b' g) := by
  obtain ⟨t, pa, r⟩ := ha
  obtain ⟨tg', pg, rg⟩ := hg
  obtain ⟨tb, pb, rb⟩ := hb
  refine ⟨_, ze8 hp hc (Vg hgl hm pa hs0 hs2) pg pb hs, fun Fb Hb F H ρ σ E rl k => ?_⟩
  unfold wB at k
  cases h : (f (visG ρ)).bind Xh with
  | none => rw [h] at k; exact k.elim
  | some ds =>
    rw [h] at k
    obtain ⟨as, e1, e2⟩ := Option.bind_eq_some_iff.mp h
    refine r σ _ _ H as _ rl.gh rl.visG e1 fun F1 H1 vs g1 a1 => ?_
    have rl2 := rl.grow (rl.back g1).1
    unfold Xh at e2
    split at e2
    · split at e2 <;> cases e2
      rename_i hc
      obtain ⟨x, r', rfl, ax, ar⟩ := a1.cons_inv
      obtain ⟨y, r', rfl, ay, ar⟩ := ar.cons_inv
      cases ar.nil_inv
      exact ⟨_, _, by rw [ax.int_inv, ay.int_inv], ⟨(zX.mp hc.1).1, (zX.mp hc.1).2, (zX.mp hc.2).1, (zX.mp hc.2).2⟩, zfN (zdt _ _) rg rb rl2 k⟩
    · cases e2
end
noncomputable def zfk (K : PySem.W.Frag) : Sp := fun vs H Q _ => ∃ (a : Addr) (ns : List Int), vs = [.ref a] ∧ SqL K H a (ns.map V.int) ∧ ns.length ≤ 63 ∧ ∀ H', Q (.bl true) H'
end Dl
namespace Dl
open PySem L2
theorem zkD {P : Program} {w : World} {K : PySem.W.Frag} {mg : Str → Option Value} {base : Heap} {f : Addr} {fd : FuncData} {ps : List Str} {k : Nat} {p : List D → Option D} (F : yY P w K mg base CX0 k f fd ps (@spD ⟨K⟩ 1 p)) (h : ∀ ns : List Int, ns.length ≤ 63 → p [.scr ns] = some (.bl true)) :
    yY P w K mg base CX0 k f fd ps (zfk K) := by
  letI : KK := ⟨K⟩
  refine F.imp fun vs H Q E hs => ?_
  obtain ⟨a, ns, rfl, hq, hl, q⟩ := hs
  refine ⟨[.scr ns], .bl true, H, rfl, yG.refl _, .cons ?_ .nil, h ns hl, fun F' H' v _ av => ?_⟩
  · unfold At
    exact ⟨a, rfl, hq⟩
  · rw [av.bl_inv]
    exact q H'
structure Def (K : PySem.W.Frag) (mg : Str → Option Value) (x : Str) (st : Stmt) (ps : List Str) (f : Addr) (fd : FuncData) : Prop where
  fn : Fun K x x st f fd
  bd : zbf K fd ps []
  at_ : mg x = some (.ref f)
theorem Def.kp {K : PySem.W.Frag} {mg : Str → Option Value} {x : Str} {st : Stmt} {ps : List Str} {f : Addr} {fd : FuncData} (d : Def K mg x st ps f fd) : PySem.W.keepIn K (.ref f) = true := d.fn.kp
end Dl
namespace Dl
open PySem L2
inductive Ctl.w : Ctl → (SE → Prop) → (SE → Prop) → (SE → Prop) → (D → Prop) → Prop where
  | nx {ρ : SE} {n b k : SE → Prop} {r : D → Prop} : n ρ → Ctl.w (.nx ρ) n b k r
  | bk {ρ : SE} {n b k : SE → Prop} {r : D → Prop} : b ρ → Ctl.w (.bk ρ) n b k r
  | ct {ρ : SE} {n b k : SE → Prop} {r : D → Prop} : k ρ → Ctl.w (.ct ρ) n b k r
  | rt {d : D} {n b k : SE → Prop} {r : D → Prop} : r d → Ctl.w (.rt d) n b k r
section
variable {ρ : SE} {d : D} {n b k : SE → Prop} {r : D → Prop}
theorem Ctl.w.nxi (h : Ctl.w (.nx ρ) n b k r) : n ρ := by cases h; assumption
theorem Ctl.w.bki (h : Ctl.w (.bk ρ) n b k r) : b ρ := by cases h; assumption
theorem Ctl.w.cti (h : Ctl.w (.ct ρ) n b k r) : k ρ := by cases h; assumption
theorem Ctl.w.rti (h : Ctl.w (.rt d) n b k r) : r d := by cases h; assumption
theorem Ctl.w.noi (h : Ctl.w .no n b k r) : False := by cases h
end
noncomputable abbrev noP : SE → Prop := fun _ => False
section
variable {g h : SE → Ctl} {ρ ρ' : SE} {n b k : SE → Prop} {r : D → Prop}
theorem Zu (e : (g ρ).w (fun ρ' => (h ρ').w n b k r) b k r) : (zW g h ρ).w n b k r := by
  unfold zW
  cases hg : g ρ with
  | nx ρ' => rw [hg] at e; exact e.nxi
  | bk ρ' => rw [hg] at e; exact .bk e.bki
  | ct ρ' => rw [hg] at e; exact .ct e.cti
  | rt d => rw [hg] at e; exact .rt e.rti
  | no => rw [hg] at e; exact e.noi.elim
theorem yP (e : g ρ = .nx ρ') (q : (h ρ').w n b k r) : (zW g h ρ).w n b k r := Zu (by rw [e]; exact .nx q)
theorem zbL (e : g ρ = .nx ρ') (q : n ρ') : (g ρ).w n b k r := by rw [e]; exact .nx q
theorem Wo {d : D} (e : g ρ = .rt d) (q : r d) : (g ρ).w n b k r := by rw [e]; exact .rt q
theorem ze5 {t : Ev → Option Bool} {c : Bool} (e : t (visG ρ) = some c) (h1 : c = true → (g ρ).w n b k r) (h2 : c = false → (h ρ).w n b k r) : (sIf t g h ρ).w n b k r := by
  unfold sIf
  rw [e]
  cases c with
  | true => exact h1 rfl
  | false => exact h2 rfl
theorem zl7 {i : Nat} (e : zlA ρ i = ρ') (q : (g ρ').w n b k r) : (sFz i g ρ).w n b k r := by
  unfold sFz
  rw [e]
  exact q
theorem zfD {bd : D → SE → Option SE} (I : Nat → SE → Prop) : ∀ (ds : List D) (j : Nat) (ρ : SE), I j ρ →
    (∀ i d ρ, ds[i]? = some d → I (j + i) ρ → ∃ ρ1, bd d ρ = some ρ1 ∧ (g ρ1).w (I (j + i + 1)) n (I (j + i + 1)) r) → (∀ ρ, I (j + ds.length) ρ → n ρ) → (zee bd g ds ρ).w n b k r
  | [], j, ρ, h0, _, fin => .nx (fin ρ h0)
  | d :: ds, j, ρ, h0, step, fin => by
    obtain ⟨ρ1, e1, e2⟩ := step 0 d ρ rfl h0
    unfold zee
    rw [e1]
    dsimp only
    have next : ∀ ρ', I (j + 1) ρ' → (zee bd g ds ρ').w n b k r := fun ρ' h' => zfD I ds (j + 1) ρ' h'
      (fun i d' ρ hd hI => by
        have := step (i + 1) d' ρ (by simpa using hd) (by rw [show j + (i + 1) = j + 1 + i by omega]; exact hI)
        rwa [show j + (i + 1) + 1 = j + 1 + i + 1 by omega] at this)
      (fun ρ hI => fin ρ (by rw [List.length_cons, show j + (ds.length + 1) = j + 1 + ds.length by omega]; exact hI))
    cases hg : g ρ1 with
    | nx ρ' => rw [hg] at e2; exact next ρ' e2.nxi
    | ct ρ' => rw [hg] at e2; exact next ρ' e2.cti
    | bk ρ' => rw [hg] at e2; exact .nx e2.bki
    | rt d' => rw [hg] at e2; exact .rt e2.rti
    | no => rw [hg] at e2; exact e2.noi.elim
theorem zgo {f : Ev → Option (List D)} {bd : D → SE → Option SE} {ds : List D} (I : Nat → SE → Prop) (e : f (visF ρ) = some ds) (h0 : I 0 ρ)
    (step : ∀ i d ρ, ds[i]? = some d → I i ρ → ∃ ρ1, bd d ρ = some ρ1 ∧ (g ρ1).w (I (i + 1)) n (I (i + 1)) r) (fin : ∀ ρ, I ds.length ρ → n ρ) : (Zt f bd g ρ).w n b k r := by
  unfold Zt
  rw [e]
  exact zfD I ds 0 ρ h0 (fun i d ρ hd hI => by rw [Nat.zero_add] at hI ⊢; exact step i d ρ hd hI) (fun ρ hI => fin ρ (by rw [Nat.zero_add] at hI; exact hI))
theorem zff {f : Ev → Option (List D)} {bd : D → SE → Option SE} {rg : List D → Option (List D)} {lo : Int} {c : Nat} (I : Nat → SE → Prop) (e : (f (visG ρ)).bind rg = some (Zk lo c)) (h0 : I 0 ρ)
    (step : ∀ (i : Nat) ρ, i < c → I i ρ → ∃ ρ1, bd (.int (lo + i)) ρ = some ρ1 ∧ (g ρ1).w (I (i + 1)) n (I (i + 1)) r) (fin : ∀ ρ, I c ρ → n ρ) : (wB rg f bd g ρ).w n b k r := by
  unfold wB
  rw [e]
  refine zfD I (Zk lo c) 0 ρ h0 (fun i d ρ hd hI => ?_) (fun ρ hI => fin ρ ?_)
  · rw [Nat.zero_add] at hI ⊢
    unfold Zk at hd
    rw [List.getElem?_map] at hd
    by_cases hi : i < c
    · rw [List.getElem?_range hi] at hd
      cases hd
      exact step i ρ hi hI
    · rw [List.getElem?_eq_none (by simpa using hi)] at hd
      cases hd
  · rw [Nat.zero_add] at hI
    rwa [show (Zk lo c).length = c by unfold Zk; simp] at hI
end
theorem zet {m : Nat} {g : SE → Ctl} {ds : List D} {d : D} {ρ : SE} (e : ds.map .v ++ List.replicate (m - ds.length) .no = ρ) (q : (g ρ).w (fun _ => d = .non) noP noP (fun d' => d' = d)) : fnD m g ds = some d := by
  unfold fnD
  rw [e]
  cases hg : g ρ with
  | nx ρ' => rw [hg] at q; rw [show d = .non from q.nxi]
  | rt d' => rw [hg] at q; rw [show d' = d from q.rti]
  | bk _ => rw [hg] at q; exact q.bki.elim
  | ct _ => rw [hg] at q; exact q.cti.elim
  | no => rw [hg] at q; exact q.noi.elim
theorem zhv {m : Bool} {i : Nat} {f : Ev → Option D} {ρ : SE} {ds : List D} {d : D} (h1 : vEv m f ρ = some d) (h2 : ρ[i]? = some (.o ds)) (h3 : ds.length ≤ 1000) : X2 m i f ρ = .nx (ρ.set i (.o (ds ++ [d]))) := by
  unfold X2
  rw [h1, h2]
  show (match (if decide (ds.length < sizeLine) = true then some (ρ.set i (.o (ds ++ [d]))) else none) with | some ρ' => Ctl.nx ρ' | none => Ctl.no) = _
  rw [if_pos (decide_eq_true (Yz h3))]
theorem zbC {b : D → Option (List (Option D))} {t : Ev → Option Bool} {f : Ev → Option D} {ρ : Ev} {α : Type} (c : α → D) (y : α → D) : ∀ (xs : List α), (∀ x ∈ xs, ∃ own, b (c x) = some own ∧ t (own ++ ρ) = some true ∧ f (own ++ ρ) = some (y x)) → lcD b t f ρ (xs.map c) = some (xs.map y)
  | [], _ => rfl
  | x :: xs, h => by
    obtain ⟨own, h1, h2, h3⟩ := h x List.mem_cons_self
    show lcD b t f ρ (c x :: xs.map c) = _
    unfold lcD
    rw [h1]
    simp only [Option.bind_some, h2, if_true, h3, zbC c y xs fun z hz => h z (List.mem_cons_of_mem _ hz)]
    rfl
theorem vw {b : D → Option (List (Option D))} {t : Ev → Option Bool} {f : Ev → Option D} {ρ : Ev} {α : Type} (c : α → D) (p : α → Bool) (y : α → D) : ∀ (xs : List α), (∀ x ∈ xs, ∃ own, b (c x) = some own ∧ t (own ++ ρ) = some (p x) ∧ (p x = true → f (own ++ ρ) = some (y x))) → lcD b t f ρ (xs.map c) = some ((xs.filter p).map y)
  | [], _ => rfl
  | x :: xs, h => by
    obtain ⟨own, h1, h2, h3⟩ := h x List.mem_cons_self
    have ih := vw c p y xs fun z hz => h z (List.mem_cons_of_mem _ hz)
    show lcD b t f ρ (c x :: xs.map c) = _
    unfold lcD
    rw [h1]
    simp only [Option.bind_some, h2]
    cases hp : p x with
    | false =>
      rw [if_neg Bool.false_ne_true, ih, List.filter_cons, if_neg (by rw [hp]; exact Bool.false_ne_true)]
    | true =>
      rw [if_pos rfl, h3 hp, ih, List.filter_cons, if_pos hp]
      rfl
mutual
noncomputable def noS : D → Bool
  | .tup ds => zhG ds
  | .lst ds => zhG ds
  | .scr _ => false
  | _ => true
noncomputable def zhG : List D → Bool
  | [] => true
  | d :: ds => noS d && zhG ds
end
theorem vC : ∀ {ds : List D} {i : Nat} {d : D}, zhG ds = true → ds[i]? = some d → noS d = true
  | [], _, _, _, h => by simp at h
  | d :: ds, i, e, h, he => by
    unfold zhG at h
    rw [Bool.and_eq_true] at h
    cases i with
    | zero => simp at he; subst he; exact h.1
    | succ i => exact vC h.2 (by simpa using he)
theorem YB {n : Nat} (h : n ≤ 1000) : lim n = true := by
  unfold lim
  exact decide_eq_true (Nat.le_of_lt (Yz h))
theorem ZS (lo : Int) (n : Nat) : (Zk lo n).length = n := by unfold Zk; simp
end Dl
namespace Dl
open PySem L2
noncomputable abbrev Pr := Int × Int
noncomputable def prD (t : Pr) : D := .tup [.int t.1, .int t.2]
noncomputable def zlo : D → Option Pr
  | .tup [.int a, .int b] => some (a, b)
  | _ => none
noncomputable def YW : List D → Option (List Pr)
  | [] => some []
  | d :: ds => (zlo d).bind fun t => (YW ds).map (t :: ·)
theorem zjl {d : D} {t : Pr} (h : zlo d = some t) : d = prD t := by
  unfold zlo at h
  split at h
  · cases h; rfl
  · cases h
theorem XX : ∀ {ds : List D} {ts : List Pr}, YW ds = some ts → ds = ts.map prD
  | [], ts, h => by cases h; rfl
  | d :: ds, ts, h => by
    unfold YW at h
    obtain ⟨t, h1, h2⟩ := Option.bind_eq_some_iff.mp h
    obtain ⟨us, h3, rfl⟩ := Option.map_eq_some_iff.mp h2
    rw [zjl h1, XX h3]
    rfl
theorem ZZ (ts : List Pr) : YW (ts.map prD) = some ts := by
  induction ts with
  | nil => rfl
  | cons t ts ih =>
    show (zlo (prD t)).bind (fun u => (YW (ts.map prD)).map (u :: ·)) = _
    rw [ih]
    rfl
noncomputable def zju (a b : Pr) : Bool := !OwnSort.bltP b a
noncomputable def YM (ts : List Pr) : List Pr := ts.mergeSort zju
noncomputable def leI (a b : Int) : Bool := decide (a ≤ b)
noncomputable def zgB (ns : List Int) : List Int := ns.mergeSort leI
theorem XB {a b : Pr} : OwnSort.bltP b a = false ↔ zju a b = true := by unfold zju; simp
theorem wa {a b : Pr} : zju a b = true ↔ a.1 < b.1 ∨ (a.1 = b.1 ∧ a.2 ≤ b.2) := by
  rw [← XB]
  unfold OwnSort.bltP
  rw [decide_eq_false_iff_not]
  omega
theorem YL {ts us : List Pr} (p : us.Perm ts) (h : us.Pairwise fun a b => OwnSort.bltP b a = false) : us = YM ts := by
  refine List.Perm.eq_of_pairwise (le := fun a b => zju a b = true) (fun a b _ _ h1 h2 => ?_) (h.imp fun x => XB.mp x) ?_ (p.trans (List.mergeSort_perm _ _).symm)
  · rw [wa] at h1 h2
    exact Prod.ext (by omega) (by omega)
  · exact List.pairwise_mergeSort (fun a b c h1 h2 => by rw [wa] at *; omega) (fun a b => by rw [Bool.or_eq_true, wa, wa]; omega) _
theorem zdX {ts us : List Int} (p : us.Perm ts) (h : us.Pairwise (· ≤ ·)) : us = zgB ts := by
  refine List.Perm.eq_of_pairwise (le := fun a b => leI a b = true) (fun a b _ _ h1 h2 => ?_) (h.imp fun x => decide_eq_true x) ?_ (p.trans (List.mergeSort_perm _ _).symm)
  · unfold leI at h1 h2
    rw [decide_eq_true_eq] at h1 h2
    omega
  · exact List.pairwise_mergeSort (fun a b c h1 h2 => by unfold leI at *; rw [decide_eq_true_eq] at *; omega) (fun a b => by unfold leI; rw [Bool.or_eq_true, decide_eq_true_eq, decide_eq_true_eq]; omega) _
noncomputable def VY : List D → Option (List D)
  | [.lst ds] => if ds.length < 64 then match YW ds with
      | some ts => some ((YM ts).map prD)
      | none => match zjz ds with
        | some ns => some ((zgB ns).map .int)
        | none => none
    else none
  | _ => none
variable [KK]
section
variable {X : Cx} {e : Expr} {pos : Pos}
theorem At.pr_inv {F : Hp} {t : Pr} {v : V} (h : At F (prD t) v) : ∃ a, v = .ref a ∧ F a = some (.tup [.int t.1, .int t.2]) := by
  obtain ⟨a, xs, rfl, hx, al⟩ := h.tup_inv
  obtain ⟨x, r, rfl, a1, al⟩ := al.cons_inv
  obtain ⟨y, r, rfl, a2, al⟩ := al.cons_inv
  cases al.nil_inv
  cases a1.int_inv
  cases a2.int_inv
  exact ⟨a, rfl, hx⟩
theorem VM (hc : X.calm = true) : vh X (.builtin "sorted") (fun xs H Q => ∃ F p ys ds out, xs = [.ref p] ∧ yG F H ∧ H p = some (.lst ys) ∧ AtL F ds ys ∧ VY [.lst ds] = some out ∧ ∀ l zs, H l = none → AtL F out zs → Q (.ref l) (upd H l (.lst zs))) := by
  intro pins s σ H xs us Q I r h
  obtain ⟨F, p, ys, ds, out, rfl, sm, hp, al, hs, q⟩ := h
  obtain ⟨u, rfl, ru⟩ := ZU r
  cases ru
  obtain ⟨its, rv, pl, hz⟩ := I.list (SqL.of hp)
  have hlen : its.length = ds.length := by rw [← rv.length, al.length]
  unfold VY at hs
  dsimp only at hs
  split at hs <;> try cases hs
  rename_i h64
  have fin : ∀ (zs : List V) (ws : List Value), zs.length < 64 → yl zs ws → AtL F out zs → EP X pins σ Q (.ref (s.heap.objs.size + 1)) { s with heap := PyProof.Rows.sortedAll s.heap its ws.toArray } := fun zs ws hl rz az => by
    have hn : H (s.heap.objs.size + 1) = none := I.hok.fresh (Nat.le_succ _)
    obtain ⟨ep, he⟩ := PyProof.Rows.sortedAll_at s.heap its ws.toArray
    refine ⟨.ref (s.heap.objs.size + 1), upd H (s.heap.objs.size + 1) (.lst zs), I.laid (t' := s.toks) (fun b o z => PyProof.Rows.sortedAll_old z) (Nat.le_succ _) ?_, rfl, q _ zs hn az⟩
    exact ⟨Nat.le_of_lt (Yz (by omega)), ws, ep, rz, he⟩
  split at hs
  · rename_i ts hts
    cases hs
    have eds := XX hts
    subst eds
    have look : ∀ {v : Value}, v ∈ its → ∃ a t, v = .ref a ∧ t ∈ ts ∧ F a = some (.tup [.int t.1, .int t.2]) ∧ OwnSort.TP s.heap v t := fun {v} hv => by
      obtain ⟨j, hj, rfl⟩ := List.getElem_of_mem hv
      have hj2 : j < ts.length := by rw [List.length_map] at hlen; omega
      obtain ⟨x, hx, ax⟩ := al.get (i := j) (d := prD ts[j]) (by rw [List.getElem?_map]; simp [hj2])
      obtain ⟨a, rfl, ha⟩ := ax.pr_inv
      obtain ⟨v, hv, rvv⟩ := rv.get hx
      have e1 : its[j]? = some its[j] := by simp [hj]
      rw [hv] at e1
      cases e1
      have e2 : its[j] = .ref a := rvv
      refine ⟨a, ts[j], e2, List.getElem_mem hj2, ha, ?_⟩
      obtain ⟨us, ru, ⟨o, ho, hcl, n, hd⟩, _⟩ := I.tuple (SqT.of (sm _ _ ha))
      obtain ⟨u1, u2, rfl, r1, r2⟩ := zbJ ru
      obtain ⟨t1, rfl⟩ := r1
      obtain ⟨t2, rfl⟩ := r2
      exact ⟨a, o, n, t1, t2, e2, ho, hcl, hd⟩
    refine OwnSort.own_sorted pl.isList (fun v hv => let ⟨a, t, _, _, _, ht⟩ := look hv; ⟨t, ht⟩) (by omega) fun o2 pm ri => ?_
    obtain ⟨us, l1, l2, l3⟩ := ri
    have hlo : o2.toList.length = ts.length := by rw [pm.length_eq, hlen, List.length_map]
    -- the values' addresses
    have zsOf : ∀ (ws : List Value) (vs : List Pr), ws.length = vs.length → (∀ w ∈ ws, w ∈ its) → (∀ (i : Nat) v t, ws[i]? = some v → vs[i]? = some t → OwnSort.TP s.heap v t) → ∃ zs : List V, yl zs ws ∧ AtL F (vs.map prD) zs := by
      intro ws
      induction ws with
      | nil =>
        intro vs hl _ _
        cases vs with
        | nil => exact ⟨[], .nil, .nil⟩
        | cons _ _ => simp at hl
      | cons w ws ih =>
        intro vs hl hm ht
        cases vs with
        | nil => simp at hl
        | cons t vs =>
          obtain ⟨zs, z1, z2⟩ := ih vs (by simpa using hl) (fun w' hw' => hm w' (List.mem_cons_of_mem _ hw')) (fun i v t h1 h2 => ht (i + 1) v t (by simpa using h1) (by simpa using h2))
          obtain ⟨a, t', rfl, _, ha, htp⟩ := look (hm w List.mem_cons_self)
          have et : t' = t := htp.uniq (ht 0 _ t rfl rfl)
          subst et
          exact ⟨.ref a :: zs, .cons rfl z1, .cons (.tup ha (.cons .int (.cons .int .nil))) z2⟩
    obtain ⟨zs, z1, z2⟩ := zsOf o2.toList us l1 (fun w hw => pm.mem_iff.mp hw) l2
    have keysPerm : us.Perm ts := by
      -- by the keys of the values
      have kv : ∀ (ws : List Value) (vs : List Pr), ws.length = vs.length → (∀ (i : Nat) v t, ws[i]? = some v → vs[i]? = some t → OwnSort.TP s.heap v t) → vs = ws.map fun v => (OwnSort.keyP s.heap v).getD (0, 0) := by
        intro ws
        induction ws with
        | nil => intro vs hl _; cases vs with
          | nil => rfl
          | cons _ _ => simp at hl
        | cons w ws ih =>
          intro vs hl ht
          cases vs with
          | nil => simp at hl
          | cons t vs =>
            rw [List.map_cons, OwnSort.keyP_of (ht 0 w t rfl rfl), ← ih vs (by simpa using hl) fun i v t h1 h2 => ht (i + 1) v t (by simpa using h1) (by simpa using h2)]
            rfl
      rw [kv _ _ l1 l2, kv its ts (by rw [hlen, List.length_map]) fun i v t h1 h2 => ?_]
      · exact pm.map _
      · obtain ⟨x, hx, ax⟩ := al.get (i := i) (d := prD t) (by rw [List.getElem?_map, h2]; rfl)
        obtain ⟨a, rfl, ha⟩ := ax.pr_inv
        obtain ⟨v', hv', rvv⟩ := rv.get hx
        rw [h1] at hv'
        cases hv'
        obtain ⟨us', ru', ⟨o, ho, hcl, n, hd⟩, _⟩ := I.tuple (SqT.of (sm _ _ ha))
        obtain ⟨u1, u2, rfl, r1, r2⟩ := zbJ ru'
        obtain ⟨t1, rfl⟩ := r1
        obtain ⟨t2, rfl⟩ := r2
        exact ⟨a, o, n, t1, t2, rvv, ho, hcl, hd⟩
    have e3 := YL keysPerm l3
    rw [e3] at z2
    have := fin zs o2.toList (by rw [z1.length]; rw [List.length_map] at h64; omega) z1 z2
    simpa using this
  · split at hs <;> try cases hs
    rename_i ns hns
    have eds := ZQ hns
    subst eds
    have hI : PyProof.Rows.IntsAre its ns := ww (by rw [← al.of_ints]; exact rv)
    refine PyProof.Rows.sorted_ints pl.isList hI (by omega) fun o2 ns' h1 h2 h3 => ?_
    have e3 := zdX h2 h3
    subst e3
    have z1 : yl ((zgB ns).map V.int) o2.toList := zaA h1
    have := fin ((zgB ns).map V.int) o2.toList (by rw [List.length_map, h2.length_eq]; rw [List.length_map] at h64; omega) z1 (.ints _)
    simpa using this
theorem zaE {p : Pos} {f : Ev → Option (List D)} (hc : X.calm = true) (hgl : Gl X "sorted") (hm : X.mg "sorted" = none) (ha : AD X [e] f)
    (he : starEach [e] X.env = (false, eval e X.env) :: starEach [] X.env := by rfl) (hpl : (backTo pos (starEach [] X.env)).any (·.1) = false := by rfl) : FL X (.Call (.Name "sorted" p) [e] [] pos) (fFn VY f) := by
  obtain ⟨t, pa, ra⟩ := ha
  refine ⟨_, Yc (VM hc) hgl hm ZH pa (by decide) (by decide) he hpl, fun σ ρ F H z Q s va e q => ?_⟩
  obtain ⟨ds, e1, e2⟩ := Option.bind_eq_some_iff.mp e
  refine ra σ ρ F H ds _ s va e1 fun F1 H1 vs g1 a1 => ?_
  have e2' := e2
  unfold VY at e2'
  split at e2'
  · obtain ⟨x, r, rfl, ax, ar⟩ := a1.cons_inv
    cases ar.nil_inv
    obtain ⟨p, ys, rfl, hx, bl⟩ := ax.lst_inv
    exact ⟨F1, p, ys, _, z, rfl, g1.fh, g1.fh _ _ hx, bl, e2, fun l zs hl az => q _ _ _ _ (g1.trans (Gr.hide g1.fh hl _)) (zbU g1 hl) (g1.fh.free hl) zq az⟩
  · cases e2'
end
end Dl
namespace Dl
open PySem L2
variable [KK]
end Dl
namespace L2
open PySem PySem.Spec PyProof.Rows
section
variable {X : Cx}
end
end L2
namespace Dl
open PySem L2
section
variable [KK] {X : Cx} {a e k : Expr} {pos : Pos}
end
end Dl
namespace Dl
open PySem L2
end Dl
namespace L2
open PySem PySem.Spec PyProof.Rows
section
variable {X : Cx} {tg : Expr}
end
end L2
namespace Dl
open PySem L2
section
variable [KK] {X : Cx} {a b c e : Expr} {tg : Expr} {pos : Pos}
end
end Dl
namespace Dl
open PySem L2
variable [KK]
section
variable {X : Cx} {st : Stmt} {sts : List Stmt} {a e : Expr} {pos : Pos}
end
end Dl
namespace Dl
open PySem L2
variable [KK]
section
variable {X : Cx} {a b : Expr} {pos : Pos}
end
end Dl
namespace Dl
open PySem L2
variable [KK]
section
variable {X : Cx} {a e : Expr}
end
end Dl
namespace Dl
open PySem L2
noncomputable def zlZ : D → Option Key
  | .int i => some (.inl i)
  | .str x => some (.inr x)
  | _ => none
noncomputable def zgE : List D → Option (List Key)
  | [] => some []
  | d :: ds => (zlZ d).bind fun k => (zgE ds).map (k :: ·)
noncomputable def zln : D → Option (List Key)
  | .tup ds => zgE ds
  | _ => none
noncomputable def zhU (t : Bool) (d : D) : Option (List Key) := if t = true then zln d else (zlZ d).map ([·])
noncomputable def intQ : Int → Int → Bool
  | .ofNat a, .ofNat b => Nat.beq a b
  | .negSucc a, .negSucc b => Nat.beq a b
  | _, _ => false
theorem zdq {a b : Int} : intQ a b = true ↔ a = b := by
  cases a with
  | ofNat a => cases b with
    | ofNat b => exact ⟨fun h => (by rw [Nat.eq_of_beq_eq_true h]), fun h => (by cases h; exact Nat.beq_refl a)⟩
    | negSucc b => exact ⟨fun h => (by cases h), fun h => (by cases h)⟩
  | negSucc a => cases b with
    | ofNat b => exact ⟨fun h => (by cases h), fun h => (by cases h)⟩
    | negSucc b => exact ⟨fun h => (by rw [Nat.eq_of_beq_eq_true h]), fun h => (by cases h; exact Nat.beq_refl a)⟩
noncomputable def zf4 : Key → Key → Bool
  | .inl i, .inl j => intQ i j
  | .inr a, .inr b => decide (a = b)
  | _, _ => false
noncomputable def zlx : List Key → List Key → Bool
  | [], [] => true
  | a :: r, b :: s => match zf4 a b with
    | true => zlx r s
    | false => false
  | _, _ => false
theorem Vd {a b : Key} : zf4 a b = true ↔ a = b := by
  cases a with
  | inl i => cases b with
    | inl j => exact ⟨fun h => (by rw [zdq.mp h]), fun h => (by cases h; exact zdq.mpr rfl)⟩
    | inr b => exact ⟨fun h => (by cases h), fun h => (by cases h)⟩
  | inr i => cases b with
    | inl j => exact ⟨fun h => (by cases h), fun h => (by cases h)⟩
    | inr b => exact ⟨fun h => (by rw [of_decide_eq_true h]), fun h => (by cases h; exact decide_eq_true rfl)⟩
theorem zdl {x y : List Key} : zlx x y = true ↔ x = y := by
  induction x generalizing y with
  | nil => cases y with
    | nil => exact ⟨fun _ => rfl, fun _ => rfl⟩
    | cons b s => exact ⟨fun h => (by cases h), fun h => (by cases h)⟩
  | cons a r ih => cases y with
    | nil => exact ⟨fun h => (by cases h), fun h => (by cases h)⟩
    | cons b s =>
      show (match zf4 a b with | true => zlx r s | false => false) = true ↔ _
      cases h : zf4 a b with
      | true => rw [Vd.mp h]; exact ih.trans ⟨fun h => (by rw [h]), fun h => (by cases h; rfl)⟩
      | false => exact ⟨fun h => (by cases h), fun e => (by cases e; rw [Vd.mpr rfl] at h; cases h)⟩
noncomputable def zfv (x y : List Key) : Decidable (x = y) := match h : zlx x y with
  | true => .isTrue (zdl.mp h)
  | false => .isFalse fun e => by rw [zdl.mpr e] at h; cases h
noncomputable def Wi : List (List Key) → List D → List Key → Option D
  | k' :: ks, v :: vs, k => @ite _ (k' = k) (zfv k' k) (some v) (Wi ks vs k)
  | _, _, _ => none
noncomputable def zlp : List (List Key) → List D → List Key → D → List D
  | k' :: ks, v :: vs, k, d => (@ite _ (k' = k) (zfv k' k) d v) :: zlp ks vs k d
  | _, _, _, _ => []
noncomputable def zg8 (ks : List (List Key)) (vs : List D) (k : List Key) : List (List Key) := if (Wi ks vs k).isSome = true then ks else ks ++ [k]
noncomputable def zg0 (ks : List (List Key)) (vs : List D) (k : List Key) (d : D) : List D := if (Wi ks vs k).isSome = true then zlp ks vs k d else vs ++ [d]
theorem VZ {k' k : List Key} {ks : List (List Key)} {v : D} {vs : List D} : Wi (k' :: ks) (v :: vs) k = if k' = k then some v else Wi ks vs k := by
  show @ite _ (k' = k) (zfv k' k) (some v) (Wi ks vs k) = _
  by_cases h : k' = k
  · rw [if_pos h, if_pos h]
  · rw [if_neg h, if_neg h]
section
variable [KK]
theorem zcl {F : Hp} {d : D} {k : Key} {y : V} (h : zlZ d = some k) (a : At F d y) : y = kV k := by
  cases d with
  | int i => cases h; exact a.int_inv
  | str x => cases h; exact a.str_inv
  | _ => cases h
theorem zdz {F : Hp} : ∀ {ds : List D} {ks : List Key} {ys : List V}, zgE ds = some ks → AtL F ds ys → ys = ks.map kV
  | [], _, _, h, a => by cases h; exact a.nil_inv
  | d :: ds, _, _, h, a => by
    obtain ⟨k, h1, h2⟩ := Option.bind_eq_some_iff.mp h
    obtain ⟨r, h3, rfl⟩ := Option.map_eq_some_iff.mp h2
    obtain ⟨x, xs, rfl, a1, a2⟩ := a.cons_inv
    rw [zcl h1 a1, zdz h3 a2]
    rfl
theorem zcM {F : Hp} {d : D} {k : List Key} {y : V} (h : zln d = some k) (a : At F d y) : ∃ b, y = .ref b ∧ F b = some (.tup (k.map kV)) := by
  cases d with
  | tup ds =>
    obtain ⟨b, ys, rfl, hb, al⟩ := a.tup_inv
    rw [zdz (show zgE ds = some k from h) al] at hb
    exact ⟨b, rfl, hb⟩
  | _ => cases h
section
variable {κ : Type} [DecidableEq κ] (f : κ → List Key) (hf : ∀ a b, f a = f b → a = b)
include hf
theorem XU {F : Hp} {k : κ} : ∀ {kvs : List (κ × V)} {vs : List D}, AtL F vs (kvs.map (·.2)) →
    (∀ d, Wi (kvs.map fun p => f p.1) vs (f k) = some d → ∃ x, zdv kvs k = some x ∧ At F d x) ∧ (Wi (kvs.map fun p => f p.1) vs (f k) = none → zdv kvs k = none)
  | [], _, _ => ⟨fun d h => (by cases h), fun _ => rfl⟩
  | p :: kvs, [], a => by cases a.nil_inv
  | p :: kvs, v :: vs, a => by
    obtain ⟨x, r, e, a1, a2⟩ := a.cons_inv
    cases e
    have ih := XU (k := k) a2
    by_cases h : p.1 = k
    · rw [Zz h]
      have e : Wi ((p :: kvs).map fun p => f p.1) (v :: vs) (f k) = some v := by
        rw [List.map_cons, VZ, if_pos (by rw [h])]
      rw [e]
      exact ⟨fun d z => (by cases z; exact ⟨_, rfl, a1⟩), fun z => (by cases z)⟩
    · rw [Zx h]
      have e : Wi ((p :: kvs).map fun p => f p.1) (v :: vs) (f k) = Wi (kvs.map fun p => f p.1) vs (f k) := by
        rw [List.map_cons, VZ, if_neg (fun z => h (hf _ _ z))]
      rw [e]
      exact ih
theorem zgI {F : Hp} {k : κ} {kvs : List (κ × V)} {vs : List D} (a : AtL F vs (kvs.map (·.2))) : (Wi (kvs.map fun p => f p.1) vs (f k)).isSome = (zdv kvs k).isSome := by
  obtain ⟨h1, h2⟩ := XU f hf (k := k) a
  cases h : Wi (kvs.map fun p => f p.1) vs (f k) with
  | none => rw [h2 h]; rfl
  | some d => obtain ⟨x, e, _⟩ := h1 d h; rw [e]; rfl
theorem zeM {F : Hp} {k : κ} {d : D} {y : V} (ad : At F d y) : ∀ {kvs : List (κ × V)} {vs : List D}, AtL F vs (kvs.map (·.2)) →
    AtL F (zlp (kvs.map fun p => f p.1) vs (f k) d) ((kvs.map fun kv => if kv.1 = k then (kv.1, y) else kv).map (·.2))
  | [], _, _ => by unfold zlp; exact .nil
  | p :: kvs, [], a => by cases a.nil_inv
  | p :: kvs, v :: vs, a => by
    obtain ⟨x, r, e, a1, a2⟩ := a.cons_inv
    cases e
    have ih := zeM (k := k) ad a2
    rw [List.map_cons, List.map_cons]
    refine AtL.cons ?_ ih
    by_cases h : p.1 = k
    · rw [if_pos h, if_pos (by rw [h])]; exact ad
    · rw [if_neg h, if_neg (fun z => h (hf _ _ z))]; exact a1
theorem zfz {F : Hp} {k : κ} {d : D} {y : V} (ad : At F d y) {kvs : List (κ × V)} {vs : List D} (a : AtL F vs (kvs.map (·.2))) :
    (zbl kvs k y).map (fun p => f p.1) = zg8 (kvs.map fun p => f p.1) vs (f k) ∧ AtL F (zg0 (kvs.map fun p => f p.1) vs (f k) d) ((zbl kvs k y).map (·.2)) := by
  unfold zbl zg8 zg0
  rw [zgI f hf a, X4]
  cases h : (zdv kvs k).isSome with
  | true =>
    rw [if_pos rfl, if_pos rfl, if_pos rfl]
    refine ⟨?_, zeM f hf ad a⟩
    rw [List.map_map]
    refine List.map_congr_left fun p _ => ?_
    by_cases e : p.1 = k
    · show f (if p.1 = k then (p.1, y) else p).1 = _; rw [if_pos e]
    · show f (if p.1 = k then (p.1, y) else p).1 = _; rw [if_neg e]
  | false =>
    rw [if_neg Bool.false_ne_true, if_neg Bool.false_ne_true, if_neg Bool.false_ne_true, List.map_append, List.map_append]
    exact ⟨rfl, a.append (.cons ad .nil)⟩
end
theorem zeZ (a b : Key) (h : [a] = [b]) : a = b := by cases h; rfl
theorem zhJ (a b : List Key) (h : a = b) : a = b := h
theorem zji {F H : Hp} {a : Addr} {z t : Bool} {ks : List (List Key)} {xs : List V} {vs : List D} {kd : D} {k : List Key} {y : V} (s : yG F H) (hd : Wl F a z t ks xs) (al : AtL F vs xs) (hk : zhU t kd = some k) (ak : At F kd y) :
    ∃ o, zl9 H a y o ∧ (∀ d, Wi ks vs k = some d → ∃ x, o = some x ∧ At F d x) ∧ (Wi ks vs k = none → o = none) := by
  obtain ⟨u, hd, rd⟩ := (hd.mono s).rd
  unfold Wn at hd
  unfold zhU at hk
  cases t with
  | true =>
    rw [if_pos rfl] at hd hk
    obtain ⟨kvs, rfl, rfl, rfl⟩ := hd
    obtain ⟨b, rfl, hb⟩ := zcM hk ak
    exact ⟨_, .inr ⟨kvs, k, b, rd, rfl, s _ _ hb, rfl⟩, XU (fun k => k) zhJ al⟩
  | false =>
    rw [if_neg Bool.false_ne_true] at hd hk
    obtain ⟨kvs, rfl, rfl, rfl⟩ := hd
    obtain ⟨k0, h2, rfl⟩ := Option.map_eq_some_iff.mp hk
    rw [zcl h2 ak]
    exact ⟨_, .inl ⟨kvs, k0, rd, rfl, rfl⟩, XU (fun k => [k]) zeZ al⟩
theorem zhY {F H : Hp} {a : Addr} {o : HO} {t : Bool} {ks : List (List Key)} {xs : List V} {vs : List D} {kd d : D} {k : List Key} {y v : V} {G : Hp} (h : H a = some o) (hd : Wn o t ks xs) (al : AtL F vs xs) (hk : zhU t kd = some k) (ak : At G kd y) (s : yG G H) (ad : At F d v)
    (hl : ks.length < sizeLine) : ∃ o', zgb H a y v (upd H a o') ∧ zdx F o' (.m t (zg8 ks vs k) (zg0 ks vs k d)) := by
  unfold Wn at hd
  unfold zhU at hk
  cases t with
  | true =>
    rw [if_pos rfl] at hd hk
    obtain ⟨kvs, rfl, rfl, rfl⟩ := hd
    obtain ⟨b, rfl, hb⟩ := zcM hk ak
    obtain ⟨q1, q2⟩ := zfz (fun k => k) zhJ (k := k) ad al
    refine ⟨_, zgb.t h (s _ _ hb) (by simpa using hl), _, ?_, q2⟩
    unfold Wn
    rw [if_pos rfl]
    exact ⟨_, rfl, q1, rfl⟩
  | false =>
    rw [if_neg Bool.false_ne_true] at hd hk
    obtain ⟨kvs, rfl, rfl, rfl⟩ := hd
    obtain ⟨k0, h2, rfl⟩ := Option.map_eq_some_iff.mp hk
    rw [zcl h2 ak]
    obtain ⟨q1, q2⟩ := zfz (fun k => [k]) zeZ (k := k0) ad al
    refine ⟨_, zgb.k h (by simpa using hl), _, ?_, q2⟩
    unfold Wn
    rw [if_neg Bool.false_ne_true]
    exact ⟨_, rfl, q1, rfl⟩
noncomputable def dgetD : D → D → Option D
  | .dct _ t ks vs, kd => (zhU t kd).bind fun k => Wi ks vs k
  | _, _ => none
noncomputable def dinD (neg : Bool) : D → D → Option D
  | kd, .dct _ t ks vs => (zhU t kd).map fun k => .bl (neg != (Wi ks vs k).isSome)
  | _, _ => none
section
variable {X : Cx} {a b c : Expr} {pos apos : Pos}
noncomputable def rDIn (neg : Bool) : R2 := fun x y H Q => ∃ a o, y = .ref a ∧ zl9 H a x o ∧ Q (.bl (neg != o.isSome)) H
theorem zfQ {k : Nat} (hr : Ya k X.A) : OpR X (compareOp .NotIn) (rDIn true) := by
  intro pins s σ H x y v u Q I rx ry h
  obtain ⟨a, o, rfl, g, q⟩ := h
  obtain rfl : u = Value.ref a := ry
  exact zi9 (ziE hr) I g rx fun s3 I3 => ⟨.bl (!o.isSome), H, I3, rfl, by simpa using q⟩
theorem zih {neg : Bool} : OpD (rDIn neg) (dinD neg) := by
  intro F H x y d e z Q s a1 a2 h q
  cases e with
  | dct z' t ks vs =>
    obtain ⟨k, h1, rfl⟩ := Option.map_eq_some_iff.mp h
    obtain ⟨p, xs, rfl, hd, al⟩ := a2.dct_inv
    obtain ⟨o, hg, h3, h4⟩ := zji s hd al h1 a1
    refine ⟨p, o, rfl, hg, ?_⟩
    have e : (Wi ks vs k).isSome = o.isSome := by
      cases h : Wi ks vs k with
      | none => rw [h4 h]; rfl
      | some d => obtain ⟨w, rfl, _⟩ := h3 d h; rfl
    rw [← e]
    exact q F H _ (.refl s) .bl
  | _ => cases h
end
section
variable {X : Cx} {a e ko : Expr} {pos pos' : Pos} {st : Stmt}
noncomputable def zjb (t : Bool) (i : Nat) : SE → Ctl := fun ρ => .nx (ρ.set i (.m t [] []))
theorem ziT {t : Bool} {i : Nat} {x : Str} (hN : X.N.Nodup) (hi : X.N[i]? = some x) (hx : Loc X.env.scope x) (hs : swapsWith (.Dict [] [] pos) (some (.Name x pos')) pos.line X.env = pure false := by rfl)
    (hf : X.fn x = true ∨ X.env.scope.names.lookup x = some .local := by first | exact .inl rfl | exact .inr rfl | assumption) {p2 : Pos} (hs : swapsWith (.Dict [] [] p2) (some (.Name x pos')) pos.line X.env = pure false := by rfl) : SD X (.Assign [.Name x pos'] (.Dict [] [] p2) pos) (zjb t i) := by
  have go : ∀ (o : HO), zdx (fun _ => none) o (.m t [] []) → ∀ (Fb Hb F H : Hp) (ρ : SE) (σ : St) (E : zgh), Rl Fb Hb F H ρ σ → SOk Fb Hb E (zjb t i ρ) → ∀ p, H p = none → E.nx (σ.set i (some (.ref p))) (upd H p o) := fun o ho Fb Hb F H ρ σ E rl k p hp => by
    have g := Gr.hide rl.gr.fh hp o
    refine k F _ _ ((rl.grow g).setW (rl.notbase hp) (rl.gr.fh.free hp) zq (ho.mono fun _ _ z => by cases z) (rl.notown hp))
  cases t with
  | true =>
    refine ⟨_, zdC hN hi hx zg4 hs hf, fun Fb Hb F H ρ σ E rl k => ?_⟩
    refine fun p hp => go (.dT []) ⟨[], ?_, .nil⟩ Fb Hb F H ρ σ E rl k p hp
    unfold Wn
    rw [if_pos rfl]
    exact ⟨[], rfl, rfl, rfl⟩
  | false =>
    refine ⟨_, zdC hN hi hx zhk hs hf, fun Fb Hb F H ρ σ E rl k => ?_⟩
    refine fun p hp => go (.dK []) ⟨[], ?_, .nil⟩ Fb Hb F H ρ σ E rl k p hp
    unfold Wn
    rw [if_neg Bool.false_ne_true]
    exact ⟨[], rfl, rfl, rfl⟩
noncomputable def zlL (ρ : SE) (i : Nat) (kd d : D) : Option SE := match ρ[i]? with
  | some (.m t ks vs) => (zhU t kd).bind fun k => if decide (ks.length < sizeLine) = true then some (ρ.set i (.m t (zg8 ks vs k) (zg0 ks vs k d))) else none
  | _ => none
noncomputable def zjc (m : Bool) (i : Nat) (fk fe : Ev → Option D) : SE → Ctl := fun ρ => match (vEv m fe ρ).bind fun d => (fk (visG ρ)).bind fun kd => zlL ρ i kd d with
  | some ρ' => .nx ρ'
  | none => .no
theorem zh0 {k : Nat} {m : Bool} {i : Nat} {fk fe : Ev → Option D} (hr : Ya k X.A) (he : ED X e fe) (ho : PE X a (ziL i)) (hk : ED X ko fk) (hs : swapsWith e (some (.Subscript a ko pos')) pos.line X.env = pure false := by rfl) : SD X (.Assign [.Subscript a ko pos'] e pos) (zjc m i fk fe) := by
  obtain ⟨t, p, r⟩ := he
  obtain ⟨tk, pk, rk⟩ := hk
  refine ⟨_, zi0 (ziE hr) ho pk p hs, fun Fb Hb F H ρ σ E rl k => ?_⟩
  unfold zjc at k
  cases h : (vEv m fe ρ).bind fun d => (fk (visG ρ)).bind fun kd => zlL ρ i kd d with
  | none => rw [h] at k; exact k.elim
  | some ρ' =>
    rw [h] at k
    obtain ⟨d, e1, e2⟩ := Option.bind_eq_some_iff.mp h
    obtain ⟨kd, e3, e2⟩ := Option.bind_eq_some_iff.mp e2
    unfold zlL at e2
    split at e2
    · rename_i tt ks vs hs
      obtain ⟨kk, e4, e5⟩ := Option.bind_eq_some_iff.mp e2
      have hl : decide (ks.length < sizeLine) = true := by
        cases hh : decide (ks.length < sizeLine) with
        | true => rfl
        | false => rw [hh, if_neg Bool.false_ne_true] at e5; cases e5
      rw [if_pos hl] at e5
      cases e5
      refine r.at rl e1 fun F' H' v g av => ?_
      have rl2 := rl.grow g
      obtain ⟨q, o, f1, _⟩ := rl2.ows i _ hs rfl
      refine ⟨_, f1, ?_⟩
      refine rk σ _ _ H' _ _ rl2.gh rl2.visG e3 fun F3 H3 v3 g3 av3 => ?_
      obtain ⟨gb, _⟩ := rl2.back g3
      have rl3 := rl2.grow gb
      obtain ⟨q3, o3, f1', _, _, f4, xs, f5, f6⟩ := rl3.ows i _ hs rfl
      rw [f1] at f1'
      cases f1'
      obtain ⟨o', hp, hw⟩ := zhY f4 f5 f6 e4 av3 g3.fh (av.mono gb.ff) (of_decide_eq_true hl)
      exact ⟨q, _, rfl, hp, k _ _ σ (rl3.mutW hs rfl f1 hw)⟩
    · cases e2
end
end
end Dl
namespace Dl
open PySem L2
variable [KK]
section
variable {X : Cx} {a b e : Expr} {pos pos' : Pos}
end
end Dl
namespace Dl
open PySem L2
variable [KK]
section
variable {X : Cx}
noncomputable def rNeL : R2 := fun x y H Q => ∃ F ds es, yG F H ∧ At F (.lst ds) x ∧ At F (.lst es) y ∧ okE 20 (.lst ds) = true ∧ okE 20 (.lst es) = true ∧ Q (.bl (!eqN 20 (.lst ds) (.lst es))) H
theorem zk7 {k : Nat} (hr : Ya k X.A) : OpR X (compareOp .NotEq) rNeL := by
  intro pins s σ H x y v u Q I rx ry h
  obtain ⟨F, ds, es, sm, a1, a2, k1, k2, q⟩ := h
  have hu : X.A.units + 30 < cLine := by have := hr.un; omega
  obtain ⟨p, xs, rfl, hx, al⟩ := a1.lst_inv
  obtain ⟨p2, ys, rfl, hy, bl⟩ := a2.lst_inv
  cases rx
  cases ry
  obtain ⟨its, r, ht, hz⟩ := I.list (SqL.of (sm _ _ hx))
  obtain ⟨its2, r2, ht2, hz2⟩ := I.list (SqL.of (sm _ _ hy))
  have hl1 : its.toArray.size = ds.length := by rw [List.size_toArray, ← r.length, al.length]
  have hl2 : its2.toArray.size = es.length := by rw [List.size_toArray, ← r2.length, bl.length]
  have e1 : eqN 20 (.lst ds) (.lst es) = ((List.range (min ds.length es.length)).all (fun j => eqN 19 (ds.getD j .non) (es.getD j .non)) && ds.length == es.length) := by
    show ((List.zipWith (eqN 19) ds es).all id && ds.length == es.length) = _
    rw [X1]
  by_cases hle : ds.length = es.length
  · refine SeqAt.RcNeAt.lists (e := fun j => eqN 19 (ds.getD j .non) (es.getD j .non)) ht.isList ht2.isList (by rw [hl1, hl2]; exact hle) (Nat.lt_of_le_of_lt (Nat.le_add_right _ 30) hu) (fun j g1 g2 => ?_) _ _ _ _ ⟨.bl _, H, I, rfl, ?_⟩
    · obtain ⟨x', ax, rx⟩ := al.nth r (j := j) (by simpa using g1)
      obtain ⟨y', ay, ry⟩ := bl.nth r2 (j := j) (by simpa using g2)
      exact W1 I sm 19 (xv k1 (by rw [← hl1]; exact g1)) (xv k2 (by rw [← hl2]; exact g2)) ax ay (by simpa using rx) (by simpa using ry) (Nat.lt_of_le_of_lt (show X.A.units + 20 ≤ X.A.units + 30 from Nat.add_le_add_left (by decide) _) hu)
    · rw [hl1]
      rw [e1, ← hle, Nat.min_self] at q
      simpa using q
  · refine SeqAt.RcNeAt.lists_lengths ht.isList ht2.isList (by rw [hl1, hl2]; simpa using hle) (Nat.lt_of_le_of_lt (Nat.le_add_right _ 30) hu) _ _ _ _ ⟨.bl _, H, I, rfl, ?_⟩
    have : (ds.length == es.length) = false := by simpa using hle
    rw [e1, this, Bool.and_false] at q
    exact q
end
noncomputable def zkW : D → D → Option D
  | .lst ds, .lst es => if (okE 20 (.lst ds) && okE 20 (.lst es)) = true then some (.bl (!eqN 20 (.lst ds) (.lst es))) else none
  | _, _ => none
theorem zit : OpD rNeL zkW := by
  intro F H x y d e z Q s ax ay ez q
  unfold zkW at ez
  split at ez
  · split at ez <;> cases ez
    rename_i hk
    rw [Bool.and_eq_true] at hk
    exact ⟨F, _, _, s, ax, ay, hk.1, hk.2, q F H _ (.refl s) .bl⟩
  · cases ez
end Dl
namespace L2
open PySem PySem.Spec PyProof.Rows
section
variable {prog : Program} {w : World} {A : Around} {E : Value → Shared → Prop} {s : Shared} {d it : Addr} {o : Obj} {es : Array DictEntry} {ep i : Nat}
theorem raw_iter {Q : Value → Shared → Prop} (hs : (d == sysModules) = false) (ho : s.heap.get? d = some o) (hc : o.ExactDict) (hd : o.data = .dict es ep)
    (hQ : Q (.ref s.heap.objs.size) { s with heap := s.heap.push { cls := .type "dict_keyiterator", data := .fields #[.ref d, .int 0 0, .int es.size 0, .int ep 0] } }) : wpAny (model prog w) A (pyIter (.ref d)) Q E s := by
  have hT : s.TypeIs (.ref d) "dict" := ⟨o, ho, hc.1⟩
  refine wpAny_pyIter_slot hT PySem.F.slot_dict_iter (wpAny_call_entry PySem.F.slot_dict_iter hT PySem.F.entry_dict_iter ?_ (PySem.F.args_dict_iter_1 _))
  unfold Builtin.«dict.__iter__»
  refine wpAny_bind ?_
  unfold Builtin.Dict.dictSlotNone
  refine wpAny_bind (wpAny_notOrdered_dict hT ?_)
  show wpAny _ _ (pure (Value.ref d)) _ _ s
  refine wpAny_pure ?_
  show wpAny _ _ (Builtin.Dict.showsAll d >>= _) _ _ s
  unfold Builtin.Dict.showsAll
  rw [if_neg (by rw [hs]; exact Bool.false_ne_true)]
  refine wpAny_bind (wpAny_pure (wpAny_bind (wpAny_dictEntries ho hd (wpAny_bind (wpAny_dictEpoch ho hd ?_)))))
  refine wpAny_bind (wpAny_newObj_type (wpAny_pure ⟨_, rfl, "dict_keyiterator", _, ⟨_, Heap.get?_push_size _ rfl, rfl⟩, PySem.F.slot_dict_keyiterator_next.lookup, ?_⟩))
  simpa [rawInt] using hQ
theorem raw_next {e : DictEntry} {Q : Option Value → Shared → Prop} (hit : s.heap.IsKeyIter it d i es.size ep) (ho : s.heap.get? d = some o) (hd : o.data = .dict es ep) (hx : es[i]? = some e)
    (hQ : ∀ h', h'.IsKeyIter it d (i + 1) es.size ep → Heap.SameBut it s.heap h' → Q (some e.key) { s with heap := h' }) : wpAny (model prog w) A (pyNext (.ref it)) Q E s := by
  obtain ⟨oi, hoi, hci, hdi⟩ := id hit
  unfold pyNext
  refine wpAny_bind (wpAny_attempt (wpAny_callSpecial?_slot (name := Str.ofString "__next__") hit.typeIs PySem.F.slot_dict_keyiterator_next
    (wpAny_call_entry PySem.F.slot_dict_keyiterator_next hit.typeIs PySem.F.entry_dict_keyiterator_next ?_ (PySem.F.args_dict_keyiterator_next_1 _))))
  refine wpAny_bind (wpAny_pure ?_)
  refine wpAny_bind ?_
  refine wpAny_bind ?_
  first | refine wpAny_bind (wpAny_typeNameOfWhole_keyiter hit.typeIs (wpAny_pure ?_)) | refine wpAny_bind (wpAny_typeNameOf_keyiter hit.typeIs (wpAny_pure ?_))
  refine wpAny_bind (wpAny_fieldsOf hoi hdi ?_)
  have hown : Builtin.Dict_items.ownsTuple "dict_keyiterator" = false := by decide
  simp only [hown, Bool.false_eq_true, if_false]
  show wpAny _ _ (if (Value.ref d == Value.none) = true then _ else _) _ _ s
  rw [if_neg (show ¬ ((Value.ref d == Value.none) = true) from Bool.false_ne_true)]
  refine wpAny_bind (wpAny_pure (wpAny_bind (wpAny_dictEntries ho hd ?_)))
  rw [if_neg (by simp)]
  refine wpAny_bind (wpAny_pure (wpAny_bind (wpAny_dictEpoch ho hd ?_)))
  rw [if_neg (by simp)]
  refine wpAny_pure ?_
  simp only [show ¬ ((i : Int) < 0) from by omega, if_false, Int.toNat_natCast, hx]
  refine wpAny_bind ?_
  first | refine wpAny_bind (wpAny_typeNameOfWhole_keyiter hit.typeIs (wpAny_pure ?_)) | refine wpAny_bind (wpAny_typeNameOf_keyiter hit.typeIs (wpAny_pure ?_))
  refine wpAny_bind (wpAny_isOneOf_keyiter hit.typeIs ?_)
  show wpAny _ _ (setField (.ref it) 1 (rawInt ((i : Int) + 1)) >>= _) _ _ s
  refine wpAny_bind (wpAny_setField hoi hdi (by simp) ?_)
  have hit' : (s.heap.update it (Obj.mapFields (·.setIfInBounds 1 (rawInt ((i : Int) + 1))))).IsKeyIter it d (i + 1) es.size ep :=
    ⟨_, Heap.get?_update_self _ hoi (Obj.isFreed_of_fields (Obj.data_mapFields hdi _)), (Obj.cls_mapFields ..).trans hci, by rw [Obj.data_mapFields hdi]; simp [rawInt]⟩
  refine wpAny_bind (wpAny_holding ?_)
  refine wpAny_bind (wpAny_isOneOf_keyiter (s := { s with heap := s.heap.update it (Obj.mapFields (·.setIfInBounds 1 (rawInt ((i : Int) + 1)))) }) hit'.typeIs ?_)
  show wpAny _ _ (pure e.key) _ _ _
  exact wpAny_pure (wpAny_pure ⟨_, rfl, wpAny_pure (hQ _ hit' (Heap.SameBut.update ..))⟩)
theorem raw_end {Q : Option Value → Shared → Prop} (hh : A.handled = none) (hit : s.heap.IsKeyIter it d i es.size ep) (ho : s.heap.get? d = some o) (hd : o.data = .dict es ep) (hx : es.size ≤ i)
    (hQ : ∀ h', Heap.ExtBut it s.heap h' → Q none { s with heap := h' }) : wpAny (model prog w) A (pyNext (.ref it)) Q E s := by
  obtain ⟨oi, hoi, hci, hdi⟩ := id hit
  unfold pyNext
  refine wpAny_bind (wpAny_attempt (wpAny_callSpecial?_slot (name := Str.ofString "__next__") hit.typeIs PySem.F.slot_dict_keyiterator_next
    (wpAny_call_entry PySem.F.slot_dict_keyiterator_next hit.typeIs PySem.F.entry_dict_keyiterator_next ?_ (PySem.F.args_dict_keyiterator_next_1 _))))
  refine wpAny_bind (wpAny_pure ?_)
  refine wpAny_bind ?_
  refine wpAny_bind ?_
  first | refine wpAny_bind (wpAny_typeNameOfWhole_keyiter hit.typeIs (wpAny_pure ?_)) | refine wpAny_bind (wpAny_typeNameOf_keyiter hit.typeIs (wpAny_pure ?_))
  refine wpAny_bind (wpAny_fieldsOf hoi hdi ?_)
  have hown : Builtin.Dict_items.ownsTuple "dict_keyiterator" = false := by decide
  simp only [hown, Bool.false_eq_true, if_false]
  show wpAny _ _ (if (Value.ref d == Value.none) = true then _ else _) _ _ s
  rw [if_neg (show ¬ ((Value.ref d == Value.none) = true) from Bool.false_ne_true)]
  refine wpAny_bind (wpAny_pure (wpAny_bind (wpAny_dictEntries ho hd ?_)))
  rw [if_neg (by simp)]
  refine wpAny_bind (wpAny_pure (wpAny_bind (wpAny_dictEpoch ho hd ?_)))
  rw [if_neg (by simp)]
  refine wpAny_pure ?_
  simp only [show ¬ ((i : Int) < 0) from by omega, if_false, Int.toNat_natCast, Array.getElem?_eq_none hx]
  refine wpAny_bind ?_
  first | refine wpAny_bind (wpAny_typeNameOfWhole_keyiter hit.typeIs (wpAny_pure ?_)) | refine wpAny_bind (wpAny_typeNameOf_keyiter hit.typeIs (wpAny_pure ?_))
  show wpAny _ _ (setField (.ref it) 0 .none >>= _) _ _ s
  refine wpAny_bind (wpAny_setField hoi hdi (by simp) ?_)
  show wpAny _ _ (newExc (.type "StopIteration") [] >>= _) _ _ _
  refine wpAny_bind ?_
  simp only [newExc, newTuple]
  refine wpAny_bind (wpAny_newObj_type ?_ (by size_fits))
  refine wpAny_bind (m := firstArgMember _ _) (wpAny_of_eq (a := Value.none) (by first | rfl | (simp only [firstArgMember]; rfl)) ?_)
  refine wpAny_newObj_type ?_ (by size_fits)
  simp only [raiseNew]
  refine wpAny_bind (wpAny_handled ?_)
  rw [show A.in1.handled = none from hh]
  refine wpAny_bind (wpAny_pure (wpAny_throw ?_))
  refine wpAny_bind (wpAny_isInstance (T := "StopIteration") (b := true) ⟨_, Heap.get?_push_size _ rfl, rfl⟩ isSubtype_stop ?_)
  exact wpAny_pure (hQ _ (((Heap.SameBut.update ..).extBut.push _).push _))
end
noncomputable def zks : HO → Nat
  | .dK kvs => kvs.length
  | .dT kvs => kvs.length
  | _ => 0
noncomputable def zbQ (u : HO) : Prop := (∃ kvs, u = .dK kvs) ∨ ∃ kvs, u = .dT kvs
noncomputable def zj5 (H : Hp) (u : HO) (i : Nat) (x : V) : Prop := match u with
  | .dK kvs => ∃ p, kvs[i]? = some p ∧ x = kV p.1
  | .dT kvs => ∃ p b, kvs[i]? = some p ∧ x = .ref b ∧ H b = some (.tup (p.1.map kV))
  | _ => False
theorem zjS {P : Program} {w : World} {k : Key} {v : Value} (h : (yy P w).is k v = true) : yH (kV k) v := by
  rcases ya h with ⟨i, t, rfl, rfl⟩ | ⟨x, t, rfl, rfl⟩
  · exact ⟨t, rfl⟩
  · exact ⟨t, rfl⟩
structure DObj (H : Hp) (a : Addr) (ob : Obj) (u : HO) (es : Array DictEntry) (ep : Nat) : Prop where
  sys : (a == sysModules) = false
  exact_ : ob.ExactDict
  data : ob.data = .dict es ep
  size : es.size = zks u
theorem zaY {P : Program} {w : World} {H : Hp} {h : Heap} {a : Addr} {ob : Obj} {u : HO} (ok : yB P w H h a (.frz ob u)) (hu : zbQ u) : h.get? a = some ob ∧ ∃ es ep, DObj H a ob u es ep ∧ ∀ (i : Nat) (e : DictEntry), es[i]? = some e → ∃ x, yH x e.key ∧ zj5 H u i x := by
  obtain ⟨e0, ok⟩ := ok
  rcases hu with ⟨kvs, rfl⟩ | ⟨kvs, rfl⟩
  · obtain ⟨_, sys, vs, kv, o, es, ep, e1, ex, dt, ko, pr, nd⟩ := ok
    rw [e0] at e1
    cases e1
    have hl : es.size = vs.length := by rw [← pr.length]; simp
    refine ⟨e0, es, ep, ⟨sys, ex, dt, by rw [hl, ← kv.length]; rfl⟩, fun i e he => ?_⟩
    have hi : i < kvs.length := by
      have := (Array.getElem?_eq_some_iff.mp he).1
      rw [kv.length]; omega
    have hv : i < vs.length := by rw [← kv.length]; exact hi
    have h1 := pr.get? (i := i) (e := e) (k := vs[i].1) (v := vs[i].2) (by simpa using he) (by simp [hv])
    have hk : kvs[i].1 = vs[i].1 := by
      have := congrArg (fun l => l[i]?) kv.keys
      simp only [List.getElem?_map] at this
      rw [List.getElem?_eq_getElem hi, List.getElem?_eq_getElem hv] at this
      exact Option.some.inj this
    exact ⟨kV kvs[i].1, by rw [hk]; exact zjS h1.1, kvs[i], List.getElem?_eq_getElem hi, rfl⟩
  · obtain ⟨_, sys, xs, pr, o, es, ep, e1, ex, dt, he, nd⟩ := ok
    rw [e0] at e1
    cases e1
    have hl : es.size = xs.length := by rw [← Array.length_toList, he, List.length_map]
    have hp := Paired.length pr
    refine ⟨e0, es, ep, ⟨sys, ex, dt, by rw [hl, ← hp]; rfl⟩, fun i e hei => ?_⟩
    have hx : i < xs.length := by
      have := (Array.getElem?_eq_some_iff.mp hei).1
      omega
    have hi : i < kvs.length := by omega
    have e2 : e = entryOfKey (tupleKind (yy P w)) xs[i] := by
      have : es.toList[i]? = some e := by simpa using hei
      rw [he, List.getElem?_map, List.getElem?_eq_getElem hx] at this
      exact (Option.some.inj this).symm
    have rel : ∀ {l : List (List Key × V)} {m : List (List Key × Addr × Value)}, Paired (fun p q => p.1 = q.1 ∧ H q.2.1 = some (.tup (p.1.map kV)) ∧ yH p.2 q.2.2) l m → ∀ (j : Nat) (h1 : j < l.length) (h2 : j < m.length), l[j].1 = m[j].1 ∧ H m[j].2.1 = some (.tup (l[j].1.map kV)) := fun {l m} r => by
      induction r with
      | nil => intro j h1; simp at h1
      | cons h t ih =>
        intro j h1 h2
        cases j with
        | zero => exact ⟨h.1, h.2.1⟩
        | succ j => exact ih j (by simpa using h1) (by simpa using h2)
    obtain ⟨_, r2⟩ := rel pr i hi hx
    subst e2
    exact ⟨.ref xs[i].2.1, rfl, kvs[i], xs[i].2.1, List.getElem?_eq_getElem hi, rfl, r2⟩
noncomputable def Itf (a : Addr) (ob : Obj) (u : HO) : It :=
  ⟨fun i H => H a = some (.frz ob u) ∧ i < zks u, fun i H x H' => H' = H ∧ zj5 H u i x, fun i H => H a = some (.frz ob u) ∧ zks u ≤ i⟩
theorem zfy {P : Program} {w : World} {K : PySem.W.Frag} {tg : Expr} {a it : Addr} {ob : Obj} {u : HO} {es : Array DictEntry} {ep : Nat} (hu : zbQ u) (hn : es.size = zks u) (hd : ob.data = .dict es ep) : ziU P w K tg (Itf a ob u) [it] it (fun i h => h.IsKeyIter it a i es.size ep) where
  mem := by simp
  obj := fun i h st b hb => by
    have e : b = it := by simpa using hb
    subst e
    obtain ⟨o, e, c, d⟩ := st
    exact ⟨o, e, fun v z => by rw [d] at z; cases z⟩
  keep := fun i h h' st k => by
    obtain ⟨o, e, r⟩ := st
    exact ⟨o, k it (by simp) o e, r⟩
  item := by
    intro X hP hw hK hc i pins s σ H E I hf st hg
    subst hP hw hK
    obtain ⟨e1, hi⟩ := hg
    obtain ⟨e0, es', ep', D, ky⟩ := zaY (I.hok a _ e1) hu
    have e2 := D.data
    rw [hd] at e2
    cases e2
    obtain ⟨f0, f1, f2, f3, f4, f5⟩ := hf it (by simp)
    have hlt : i < es.size := by omega
    obtain ⟨x, rx, kx⟩ := ky i es[i] (Array.getElem?_eq_getElem hlt)
    refine raw_next st e0 hd (Array.getElem?_eq_getElem hlt) fun h' st' sb => ?_
    have I1 : Inv X pins σ H { s with heap := h' } := I.turned (t' := s.toks) (fun b o hb e => (sb.2 b hb).trans e) f0 f1 f3 f4 f5
    obtain ⟨o, e, c, d⟩ := id st'
    exact ⟨_, rfl, zg9 (s := { s with heap := h' }) e c d (by decide) ⟨x, H, I1, rx, ⟨rfl, kx⟩, st', fun b hb => (hf b hb).1⟩⟩
  done := by
    intro X hP hw hK hc i pins s σ H E I hf st hg
    subst hP hw hK
    obtain ⟨e1, hi⟩ := hg
    obtain ⟨e0, es', ep', D, ky⟩ := zaY (I.hok a _ e1) hu
    obtain ⟨f0, f1, f2, f3, f4, f5⟩ := hf it (by simp)
    exact raw_end (I.ok.hd hc) st e0 hd (by omega) fun h' eb => ⟨rfl, I.turned (t' := s.toks) (fun b o hb e => eb b o hb e) f0 f1 f3 f4 f5⟩
  self := fun _ _ _ _ _ st h => wpAny_pyIter_keyiter st h
section
variable {X : Cx} {tg : Expr}
noncomputable def zmm (tl : TE) : TI := fun σ H R => tl σ H fun x H1 => ∃ a ob u, x = .ref a ∧ H1 a = some (.frz ob u) ∧ zbQ u ∧ R (Itf a ob u) H1
theorem ziA {l : Expr} {tl : TE} (hl : PE X l tl) : PI X tg l (zmm tl) := by
  intro pins s σ H R I h
  refine thn (hl pins s σ H _ I h) fun v s1 hh9 => ?_
  obtain ⟨x, H1, I1, r1, q1⟩ := hh9
  obtain ⟨a, ob, u, e, e1, hu, q⟩ := q1
  subst e
  cases r1
  obtain ⟨e0, es, ep, D, _⟩ := zaY (I1.hok a _ e1) hu
  refine raw_iter D.sys e0 D.exact_ D.data ?_
  refine ⟨s1.heap.objs.size, [s1.heap.objs.size], _, _, H1, rfl, I1.kept (t' := s1.toks) fun b o e => Heap.get?_push_of_some _ e, zfy hu D.size D.data, ⟨_, Heap.get?_push_size _ rfl, rfl, rfl⟩, fun b hb => ?_, q⟩
  have e : b = s1.heap.objs.size := by simpa using hb
  subst e
  exact I1.fpOk (Nat.le_refl _) (I1.hok.fresh (Nat.le_refl _))
theorem Inv.frz {pins : List (Addr × Obj)} {σ : St} {H : Hp} {s : Shared} {p : Addr} {u : HO} (I : Inv X pins σ H s) (e : H p = some u) (hu : zbQ u) : ∃ ob, Inv X pins σ (upd H p (.frz ob u)) s := by
  have ok := I.hok p u e
  have mu : Mut (H p) := by
    rw [e]
    rcases hu with ⟨kvs, rfl⟩ | ⟨kvs, rfl⟩ <;> exact True.intro
  rcases hu with ⟨kvs, rfl⟩ | ⟨kvs, rfl⟩
  · obtain ⟨z, sys, vs, kv, o, es, ep, e1, r⟩ := ok
    refine ⟨o, I.write (h' := s.heap) (t' := s.toks) mu (.inl rfl) (fun b u _ e => e) ⟨o, e1⟩ ⟨e1, z, sys, vs, kv, o, es, ep, e1, r⟩⟩
  · obtain ⟨z, sys, xs, pr, o, es, ep, e1, r⟩ := ok
    refine ⟨o, I.write (h' := s.heap) (t' := s.toks) mu (.inl rfl) (fun b u _ e => e) ⟨o, e1⟩ ⟨e1, z, sys, xs, ?_, o, es, ep, e1, r⟩⟩
    exact KT.keeps pr fun b ys eb => by
      rw [zr (ziH eb e (fun z => nomatch z))]
      exact eb
noncomputable def tFrz (i : Nat) (t : TS) : TS := fun E σ H => ∃ p u, σ[i]? = some (some (.ref p)) ∧ H p = some u ∧ zbQ u ∧ ∀ ob, t E σ (upd H p (.frz ob u))
theorem zhV {sts : List Stmt} {t : TS} (i : Nat) (h : PSs X sts t) : PSs X sts (tFrz i t) := by
  intro pins s σ H E I q
  obtain ⟨p, u, _, e, hu, q⟩ := q
  obtain ⟨ob, I2⟩ := I.frz e hu
  exact h pins s σ _ E I2 (q ob)
noncomputable def zhz (z : Bool) (tk tv : TE) : TE := fun σ H Q => ∀ p, H p = none → tk σ (upd H p (.dT [])) fun x H1 => tv σ H1 fun y H2 => H2 p = some (.dT []) ∧ ∃ b k, x = .ref b ∧ H2 b = some (.tup (k.map kV)) ∧
  if z = true then ∀ ob, Q (.ref p) (upd H2 p (.frz ob (.dT [(k, y)]))) else Q (.ref p) (upd H2 p (.dT [(k, y)]))
theorem zgF {z : Bool} {k v : Expr} {pos : Pos} {tk tv : TE} (hu : X.A.units + 1 < cLine) (hk : PE X k tk) (hv : PE X v tv) : PE X (.Dict [some k] [v] pos) (zhz z tk tv) := by
  intro pins s σ H Q I q
  have hn := I.hok.fresh (Nat.le_refl s.heap.objs.size)
  have I1 := I.laid (a := s.heap.objs.size) (o := .dT []) (h' := s.heap.push { cls := .type "dict", data := .dict #[] }) (t' := s.toks) (fun _ _ q => Heap.get?_push_of_some _ q) (Nat.le_refl _) (zdJ s.heap I.big)
  refine wpAny_Dict_any (by rfl) rfl (by simp) (by simp) ?_
  refine pairTrees_cons_walk (thn (hk pins _ σ _ _ I1 (q _ hn)) fun u s1 ⟨x, H1, I1, rx, q1⟩ => thn (hv pins s1 σ H1 _ I1 q1) fun w2 s2 hh9 => ?_)
  obtain ⟨y, H2, I2, ry, q2⟩ := hh9
  obtain ⟨e, b, kk, ex, eb, q2⟩ := q2
  subst ex
  obtain rfl : u = Value.ref b := rx
  refine pairTrees_nil_walk ?_
  unfold storeAll
  simp only [List.forIn_cons, List.forIn_nil]
  obtain ⟨zz, hd, xs, rel, dd⟩ := zjX I2.hok e
  cases rel
  refine wpAny_bind (wpAny_bind (wpAny_dictSet_heap (hsz := Nat.zero_le _) (show (tupleKind (yy X.prog X.w)).room X.A from Nat.lt_of_succ_lt hu) (zdr I2.hok eb) dd fun h' dd' hs => wpAny_pure (wpAny_pure ?_)))
  have dd2 := dd'
  obtain ⟨q, es, ep, hq, h2, h3, h4, _, h5⟩ := dd'
  have I3 := zcJ (t' := s2.toks + (tupleKind (yy X.prog X.w)).draws kk) (ob := .dT [(kk, y)]) I2 (by rw [e]; exact True.intro) hs ⟨q, hq⟩ ⟨by show 1 ≤ sizeLine; decide, hd, _, ((show KT H2 [] [] from .nil).put kk eb ry).keeps fun c ys ec => by
    rw [zr (ziH ec e (fun z => nomatch z))]
    exact ec, q, es, ep, hq, h2, h3, h4, h5⟩
  cases z with
  | false => exact ⟨.ref s.heap.objs.size, _, I3, rfl, by rw [if_neg Bool.false_ne_true] at q2; exact q2⟩
  | true =>
    rw [if_pos rfl] at q2
    obtain ⟨ob, I4⟩ := I3.frz (p := s.heap.objs.size) (u := .dT [(kk, y)]) zq (.inr ⟨_, rfl⟩)
    rw [zbA] at I4
    exact ⟨.ref s.heap.objs.size, _, I4, rfl, q2 ob⟩
end
end L2
namespace Dl
open PySem L2
noncomputable def k1D : Key → D
  | .inl i => .int i
  | .inr x => .str x
noncomputable def zhD (t : Bool) (k : List Key) : D := if t = true then .tup (k.map k1D) else match k with
  | [a] => k1D a
  | _ => .non
noncomputable def zht : D → Option (List D)
  | .dct true t ks _ => some (ks.map (zhD t))
  | _ => none
section
variable [KK]
theorem zhK {F : Hp} (k : Key) : At F (k1D k) (kV k) := by
  cases k with
  | inl i => exact .int
  | inr x => exact .str
theorem zfa {F : Hp} : ∀ ks : List Key, AtL F (ks.map k1D) (ks.map kV)
  | [] => .nil
  | k :: ks => .cons (zhK k) (zfa ks)
theorem zbI {u : HO} {t : Bool} {ks : List (List Key)} {xs : List V} (h : Wn u t ks xs) : zbQ u ∧ zks u = ks.length := by
  unfold Wn at h
  cases t with
  | true => rw [if_pos rfl] at h; obtain ⟨kvs, rfl, rfl, _⟩ := h; exact ⟨.inr ⟨_, rfl⟩, by rw [List.length_map]; rfl⟩
  | false => rw [if_neg Bool.false_ne_true] at h; obtain ⟨kvs, rfl, rfl, _⟩ := h; exact ⟨.inl ⟨_, rfl⟩, by rw [List.length_map]; rfl⟩
theorem Gr.see {F H : Hp} {b : Addr} {ys : List V} (s : yG F H) (h : H b = some (.tup ys)) : ∃ F', Gr F H F' H ∧ F' b = some (.tup ys) := by
  cases e : F b with
  | some o =>
    have := s _ _ e
    rw [h] at this
    cases this
    exact ⟨F, .refl s, e⟩
  | none =>
    refine ⟨upd F b (.tup ys), ⟨fun p o z => ?_, fun p o z => ?_, fun p o z1 z2 => ⟨?_, z2⟩⟩, zq⟩
    · rw [zr (zp z e)]; exact z
    · by_cases hp : p = b
      · subst hp; rw [zq] at z; cases z; exact h
      · rw [zr hp] at z; exact s p o z
    · by_cases hp : p = b
      · subst hp
        rw [h] at z2
        cases z2
        exact .inr ⟨⟨_, rfl⟩, zq⟩
      · exact .inl (by rw [zr hp]; exact z1)
theorem zjV {F : Hp} {a : Addr} {ob : Obj} {u : HO} {t : Bool} {ks : List (List Key)} {xs : List V} (h : F a = some (.frz ob u)) (hd : Wn u t ks xs) : zjy (Itf a ob u) F (ks.map (zhD t)) := by
  intro i F2 H2 s1 s2
  have e2 := s2 _ _ (s1 _ _ h)
  obtain ⟨_, hl⟩ := zbI hd
  refine ⟨fun hi => ⟨e2, by rw [hl, hi, List.length_map]; exact Nat.le_refl _⟩, fun d hdi => ?_⟩
  rw [List.getElem?_map] at hdi
  obtain ⟨k, hk, rfl⟩ := Option.map_eq_some_iff.mp hdi
  refine ⟨⟨e2, by rw [hl]; exact (List.getElem?_eq_some_iff.mp hk).1⟩, fun x H3 hy => ?_⟩
  obtain ⟨rfl, hy⟩ := hy
  unfold Wn at hd
  cases t with
  | true =>
    rw [if_pos rfl] at hd
    obtain ⟨kvs, rfl, rfl, _⟩ := hd
    obtain ⟨p, b, hp, rfl, hb⟩ := hy
    rw [List.getElem?_map, hp] at hk
    cases hk
    obtain ⟨F3, g, hF⟩ := Gr.see s2 hb
    exact ⟨F3, g, .tup hF (zfa _)⟩
  | false =>
    rw [if_neg Bool.false_ne_true] at hd
    obtain ⟨kvs, rfl, rfl, _⟩ := hd
    obtain ⟨p, hp, rfl⟩ := hy
    rw [List.getElem?_map, hp] at hk
    cases hk
    exact ⟨F2, .refl s2, zhK _⟩
section
variable {X : Cx} {tg a b e k v : Expr} {pos pos' : Pos} {sts : List Stmt}
noncomputable def iDct (f : Ev → Option D) : Ev → Option (List D) := fun ρ => (f ρ).bind zht
theorem ziI {f : Ev → Option D} (ha : ED X a f) : ID X tg a (iDct f) := by
  obtain ⟨t, p, r⟩ := ha
  refine ⟨_, ziA p, fun σ ρ F H ds R s va e q => ?_⟩
  obtain ⟨d, e1, e2⟩ := Option.bind_eq_some_iff.mp e
  refine r σ ρ F H d _ s va e1 fun F1 H1 v g1 a1 => ?_
  unfold zht at e2
  split at e2
  · cases e2
    obtain ⟨p, xs, rfl, ⟨u, hd, hz⟩, _⟩ := a1.dct_inv
    rw [if_pos rfl] at hz
    obtain ⟨ob, hz⟩ := hz
    exact ⟨p, ob, u, rfl, g1.fh _ _ hz, (zbI hd).1, q F1 H1 _ g1 (zjV hz hd)⟩
  · cases e2
noncomputable def zlR (i : Nat) (g : SE → Ctl) : SE → Ctl := fun ρ => match ρ[i]? with
  | some (.m t ks vs) => g (ρ.set i (.v (.dct true t ks vs)))
  | _ => .no
theorem Rl.fzM {Fb Hb F H : Hp} {ρ : SE} {σ : St} {i : Nat} {t : Bool} {ks : List (List Key)} {vs : List D} (r : Rl Fb Hb F H ρ σ) (h : ρ[i]? = some (.m t ks vs)) :
    ∃ p u, σ[i]? = some (some (.ref p)) ∧ H p = some u ∧ zbQ u ∧ ∀ ob, Rl Fb Hb (upd F p (.frz ob u)) (upd H p (.frz ob u)) (ρ.set i (.v (.dct true t ks vs))) σ := by
  obtain ⟨p, u, e1, e2, e3, e4, xs, hd, al⟩ := r.ows i _ h rfl
  refine ⟨p, u, e1, e4, (zbI hd).1, fun ob => ?_⟩
  have hi : i < ρ.length := (List.getElem?_eq_some_iff.mp h).1
  have sF : yG F (upd F p (.frz ob u)) := fun b o e => by rw [zr (zp e e3)]; exact e
  have nj : ∀ {j : Nat} {s : Sl}, (ρ.set i (.v (.dct true t ks vs)))[j]? = some s → s.isO = true → i ≠ j := fun {j s} h ht e => by
    subst e
    rw [List.getElem?_set_self hi] at h
    cases h
    cases ht
  refine ⟨⟨r.gr.ff.trans sF, fun b o z => ?_, fun b o z1 z2 => ?_⟩, fun j d z => ?_, fun j s z ht => ?_, fun j k q s s' h1 h2 o1 o2 h3 h4 => ?_, by simp [r.len]⟩
  · by_cases hb : b = p
    · subst hb; rw [zq] at z ⊢; exact z
    · rw [zr hb] at z ⊢; exact r.gr.fh b o z
  · have hb : b ≠ p := zp z2 e2
    obtain ⟨x, y⟩ := r.gr.kp b o z1 z2
    refine ⟨?_, by rw [zr hb]; exact y⟩
    unfold Hid
    rw [zr hb]
    exact x
  · by_cases hj : i = j
    · subst hj
      rw [List.getElem?_set_self hi] at z
      cases z
      refine ⟨_, e1, ?_⟩
      unfold At
      exact ⟨p, xs, rfl, ⟨u, hd, by rw [if_pos rfl]; exact ⟨ob, zq⟩⟩, al.mono sF⟩
    · rw [List.getElem?_set_ne hj] at z
      obtain ⟨v, f1, f2⟩ := r.vals j d z
      exact ⟨v, f1, f2.mono sF⟩
  · have hj := nj z ht
    rw [List.getElem?_set_ne hj] at z
    obtain ⟨q, y, f1, f2, f3, f4, f5⟩ := r.ows j s z ht
    have hq : q ≠ p := fun w => hj (r.dis i j p _ s h z rfl ht e1 (by rw [← w]; exact f1))
    exact ⟨q, y, f1, f2, by rw [zr hq]; exact f3, by rw [zr hq]; exact f4, f5.mono sF⟩
  · have a1 := nj h1 o1
    have a2 := nj h2 o2
    rw [List.getElem?_set_ne a1] at h1
    rw [List.getElem?_set_ne a2] at h2
    exact r.dis j k q s s' h1 h2 o1 o2 h3 h4
theorem ziy {g : SE → Ctl} (i : Nat) (h : SDs X sts g) : SDs X sts (zlR i g) := by
  obtain ⟨t, p, r⟩ := h
  refine ⟨_, zhV i p, fun Fb Hb F H ρ σ E rl k => ?_⟩
  unfold zlR at k
  split at k
  · rename_i tt ks vs hs
    obtain ⟨q, u, e1, e2, e3, e4⟩ := rl.fzM hs
    exact ⟨q, u, e1, e2, e3, fun ob => r Fb Hb _ _ _ σ E (e4 ob) k⟩
  · exact k.elim
noncomputable def zhy (fk fv : Ev → Option D) : Ev → Option D := fun ρ => (fk ρ).bind fun kd => (fv ρ).bind fun d => (zln kd).map fun k => .dct true true [k] [d]
theorem zeO {z : Bool} {tk tv : TE} {fk fv : Ev → Option D} {σ : St} {ρ : Ev} {F H : Hp} {kd d : D} {kk : List Key} {Q : VK} (rk : RE tk fk) (rv : RE tv fv) (s : yG F H) (va : VAt F ρ σ) (e1 : fk ρ = some kd) (e2 : fv ρ = some d) (e3 : zln kd = some kk)
    (q : ∀ F2 H2 p y, Gr F H F2 H2 → H p = none → F2 p = none → H2 p = some (.dT []) → At F2 d y → if z = true then ∀ ob, Q (.ref p) (upd H2 p (.frz ob (.dT [(kk, y)]))) else Q (.ref p) (upd H2 p (.dT [(kk, y)]))) : zhz z tk tv σ H Q := by
  intro p hp
  have g0 := Gr.hide s hp (.dT [])
  refine rk σ ρ F _ kd _ g0.fh va e1 fun F1 H1 x g1 a1 => ?_
  refine rv σ ρ F1 H1 d _ g1.fh (va.mono g1.ff) e2 fun F2 H2 y g2 a2 => ?_
  have g12 := g1.trans g2
  obtain ⟨n2, h2⟩ := g12.kl (o := .dT []) (fun _ e => by cases e) (s.free hp) zq
  obtain ⟨b, rfl, hb⟩ := zcM e3 a1
  exact ⟨h2, b, kk, rfl, g2.fh _ _ (g2.ff _ _ hb), q F2 H2 p y (g0.trans g12) hp n2 h2 a2⟩
theorem zge {n : Nat} {fk fv : Ev → Option D} (hr : Ya n X.A) (hk : ED X k fk) (hv : ED X v fv) : ED X (.Dict [some k] [v] pos) (zhy fk fv) := by
  obtain ⟨tk, pk, rk⟩ := hk
  obtain ⟨tv, pv, rv⟩ := hv
  refine ⟨_, zgF (z := true) (ziE hr) pk pv, fun σ ρ F H z Q s va e q => ?_⟩
  obtain ⟨kd, e1, e⟩ := Option.bind_eq_some_iff.mp e
  obtain ⟨d, e2, e⟩ := Option.bind_eq_some_iff.mp e
  obtain ⟨kk, e3, rfl⟩ := Option.map_eq_some_iff.mp e
  refine zeO rk rv s va e1 e2 e3 fun F2 H2 p y g hp n2 h2 ay => ?_
  rw [if_pos rfl]
  intro ob
  have sF : yG F2 (upd F2 p (.frz ob (.dT [(kk, y)]))) := fun b o e => by rw [zr (zp e n2)]; exact e
  refine q (upd F2 p (.frz ob (.dT [(kk, y)]))) _ _ ⟨g.ff.trans sF, fun b o z => ?_, fun b o z1 z2 => ?_⟩ ?_
  · by_cases hb : b = p
    · subst hb; rw [zq] at z ⊢; exact z
    · rw [zr hb] at z ⊢; exact g.fh b o z
  · have hb : b ≠ p := zp z2 hp
    obtain ⟨x, y⟩ := g.kp b o z1 z2
    refine ⟨?_, by rw [zr hb]; exact y⟩
    unfold Hid
    rw [zr hb]
    exact x
  · unfold At
    refine ⟨p, [y], rfl, ⟨.dT [(kk, y)], ?_, by rw [if_pos rfl]; exact ⟨ob, zq⟩⟩, .cons (ay.mono sF) .nil⟩
    unfold Wn
    rw [if_pos rfl]
    exact ⟨_, rfl, rfl, rfl⟩
end
end
end Dl
namespace OwnRep
open PySem Builtin
end OwnRep
namespace L2
open PySem
section
variable {X : Cx}
end
end L2
namespace Dl
open PySem L2
section
variable [KK]
section
variable {X : Cx} {a b : Expr} {pos : Pos}
end
end
end Dl
namespace L2
open PySem PySem.Spec PyProof.Rows
end L2
namespace Dl
open PySem L2
variable [KK]
end Dl
namespace PySem
open Sem (wp)
namespace OwnRev
end OwnRev
section
variable {prog : Program} {w : World} {A : Around} {E : Value → Shared → Prop} {s : Shared}
end
end PySem
namespace L2
open PySem PySem.Spec PyProof.Rows
end L2
namespace Dl
open PySem L2 PySem.Spec PyProof.Rows
variable [KK] {X : Cx} {e : Expr}
end Dl
namespace OwnSet
open PySem
end OwnSet
namespace OwnSet
open PySem
section
variable {prog : Program} {w : World} {A : Around} {E : Value → Shared → Prop} {s : Shared}
end
end OwnSet
namespace OwnSet
open PySem
section
variable {prog : Program} {w : World} {A : Around} {E : Value → Shared → Prop} {s : Shared}
end
section
variable {prog : Program} {w : World} {A : Around} {R : Result → Shared → Prop} {I : Addr} {fp wr : List Addr} {G : Array GenState → Array GenState → Prop} {n : Nat} {P : Nat → Value → Prop} {St : Nat → Shared → Prop}
end
section
variable {prog : Program} {w : World} {A : Around} {E : Value → Shared → Prop} {s : Shared}
end
end OwnSet
namespace OwnSet
open PySem
section
variable {prog : Program} {w : World} {A : Around} {E : Value → Shared → Prop} {s : Shared}
end
end OwnSet
namespace OwnSet
open PySem
section
variable {prog : Program} {w : World} {A : Around} {E : Value → Shared → Prop} {s : Shared}
end
end OwnSet
namespace OwnSet
open PySem
section
variable {prog : Program} {w : World} {A : Around} {E : Value → Shared → Prop} {s : Shared}
end
end OwnSet
namespace OwnSet
open PySem
section
variable {prog : Program} {w : World} {A : Around} {E : Value → Shared → Prop} {s : Shared}
end
end OwnSet
namespace OwnSet
open PySem
section
variable {prog : Program} {w : World} {A : Around} {E : Value → Shared → Prop} {s : Shared}
end
end OwnSet
namespace OwnSet
open PySem PyProof.Rows
section
variable {prog : Program} {w : World} {A : Around} {E : Value → Shared → Prop} {s : Shared}
end
end OwnSet
namespace L2
open PySem PySem.Spec PyProof.Rows
end L2
namespace Dl
open PySem L2 PySem.Spec PyProof.Rows
variable [KK] {X : Cx} {e : Expr}
end Dl
namespace Dl
open PySem L2 PySem.Spec PyProof.Rows
variable [KK] {X : Cx} {a b : Expr} {pos apos : Pos}
end Dl
namespace L2
open PySem PySem.Spec PyProof.Rows
section
variable {X : Cx} {a : Addr} {D : List (Str × KTD.Dat)} {nm : Str} {b : Expr} {p pos : Pos} {tb : TE}
end
end L2
namespace Dl
open PySem L2 PySem.Spec PyProof.Rows
variable [KK] {X : Cx} {a : Addr} {T : List (Str × KTD.Dat)} {nm : Str} {b : Expr} {p p2 p3 pos : Pos} {f : Ev → Option D}
end Dl
namespace L2
open PySem PySem.Spec PyProof.Rows
end L2
namespace Dl
open PySem L2 PySem.Spec PyProof.Rows
variable [KK] {X : Cx} {e : Expr}
end Dl
namespace L2
open PySem PySem.Spec PyProof.Rows
end L2
namespace Dl
open PySem L2 PySem.Spec PyProof.Rows
variable [KK] {X : Cx} {a e ko : Expr} {pos tpos : Pos}
end Dl
namespace PySem
open Sem (wp)
section
variable {prog : Program} {w : World} {A : Around} {E : Value → Shared → Prop} {s : Shared} {z TI TO i1 i2 i3 : Addr} {fp1 fp2 fp3 : List Addr} {n1 n2 n3 k1 k2 k3 : Nat} {P1 P2 P3 : Nat → Value → Prop} {St1 St2 St3 : Nat → Heap → Prop} {a b c : Value}
end
section
variable {prog : Program} {w : World} {A : Around} {E : Value → Shared → Prop} {s : Shared}
variable {z TI TO i1 i2 i3 : Addr} {fp1 fp2 fp3 : List Addr} {n1 n2 n3 k1 k2 k3 : Nat} {P1 P2 P3 : Nat → Value → Prop} {St1 St2 St3 : Nat → Heap → Prop} {a b c : Value}
end
end PySem
namespace L2
open PySem PySem.Spec PyProof.Rows
end L2
namespace Dl
open PySem L2 PySem.Spec PyProof.Rows
variable [KK] {X : Cx} {a b c : Expr} {pos : Pos}
end Dl
namespace Dl
open PySem L2
variable [KK]
section
variable {X : Cx} {st : Stmt} {sts : List Stmt} {a b c e tg : Expr} {pos pos' : Pos}
end
end Dl
namespace L2
open PySem PySem.Spec PyProof.Rows
section
variable {P : Program} {w : World} {H H' : Hp} {h h' : Heap} {a : Addr} {o : HO}
end
section
variable {X : Cx} {pins : List (Addr × Obj)} {σ : St} {H H' : Hp} {s s' : Shared} {E : XK} {e : Value} {M : Model} {E2 : Value → Shared → Prop}
end
end L2
namespace L2
open PySem PySem.Spec PyProof.Rows
end L2
namespace Dl
open PySem L2
variable [KK]
section
variable (E : XK) (cl : Nat → Addr)
end
section
variable {E : XK} {cl : Nat → Addr} {X : Cx} {a b c e : Expr} {es : List Expr} {st : Stmt} {sts : List Stmt} {pos pos' : Pos}
end
end Dl
namespace L2
open PySem PySem.Spec PyProof.Rows
section
variable {X : Cx} {pins : List (Addr × Obj)} {σ : St} {H H' : Hp} {s s' : Shared} {E : XK} {e : Value} {E2 : Value → Shared → Prop} {B h3 : Heap}
end
end L2
namespace L2
open PySem PySem.Spec PyProof.Rows
section
variable {X : Cx} {pins : List (Addr × Obj)} {σ : St} {H H' : Hp} {s s' : Shared} {E : Value → Shared → Prop} {e : Value} {M : Model} {A : Around}
end
end L2
namespace L2
open PySem PySem.Spec PyProof.Rows
section
variable {X : Cx} {pins ps : List (Addr × Obj)} {σ : St} {H H' : Hp} {s s' : Shared}
end
end L2
namespace L2
open PySem PySem.Spec PyProof.Rows PySem.W PySem.Calls PySem.Builtin PySem.Builtin.Getset_descriptor
section
variable {prog : Program} {w : World} {A : Around} {E : Value → Shared → Prop} {K : PySem.W.Frag} {h : Heap} {g : Array GenState} {d : Drawn} {t : Nat} {os : OsState} {a C : Addr} {o : Obj}
end
end L2
namespace L2
open PySem PySem.Spec PyProof.Rows
section
variable {P : Program} {w : World} {K : PySem.W.Frag} {mg : Str → Option Value} {base : Heap}
end
end L2
namespace L2
open PySem PySem.Spec PyProof.Rows PySem.SeqAt
end L2
namespace L2
open PySem PySem.Spec PyProof.Rows
end L2
namespace Dl
open PySem L2
variable [KK]
section
variable {E : XK} {cl : Nat → Addr} {X : Cx} {e : Expr} {es : List Expr}
end
end Dl
namespace L2
open PySem PySem.Spec PyProof.Rows
section
variable {K : PySem.W.Frag} {σ : St} {H H0 : Hp} {a C : Addr}
end
end L2
namespace Dl
open PySem L2
variable [KK]
end Dl
namespace OwnSort
open PySem PyProof.Rows
section
variable {prog : Program} {w : World} {A : Around} {E : Value → Shared → Prop} {s : Shared}
theorem zc7 {l : Addr} {vs : List Value} {Q : List Value → Shared → Prop} (hl : IsTup s.heap l vs.toArray) (h64 : vs.length < 64)
    (h : Q vs { s with heap := (s.heap.push (seqObj "list" #[] 0)).update s.heap.objs.size (Obj.mapSeq (· ++ vs.toArray)) }) : wpAny (model prog w) A (collect (.ref l)) Q E s := by
  obtain ⟨o, ho, hc, n, hd⟩ := hl
  have ho' : (s.heap.push (seqObj "list" #[] 0)).get? l = some o := Heap.get?_push_of_some _ ho
  unfold collect
  refine wpAny_bind (wpAny_runValue (codeAny_builtin entry_proto_collect' ?_))
  show wpAny _ _ (do again (.builtin "list.__iadd__" ⟨[← newList [], .ref l], []⟩)) _ _ s
  refine wpAny_bind (wpAny_newList (wpAny_pure ⟨Code.quiet_builtin _ (by decide +kernel), codeAny_builtin entry_list_iadd' ?_⟩))
  show wpAny _ _ (Builtin.List.listExtendWith (.ref s.heap.objs.size) (.ref l) (.ref s.heap.objs.size)) _ _ { s with heap := s.heap.push (seqObj "list" #[] 0) }
  unfold Builtin.List.listExtendWith
  refine wpAny_bind (wpAny_typeOf (T := "tuple") ⟨o, ho', hc⟩ ?_)
  rw [if_pos (by rw [show (Value.type "tuple" == Value.type "tuple") = true from rfl]; simp)]
  refine wpAny_bind (listItems_at ho' hd (wpAny_bind (listItems_at (xs := #[]) (n := 0) (Heap.get?_push_size _ rfl) rfl ?_)))
  rw [if_neg (by simp)]
  refine wpAny_bind (listUpdate_at (xs := #[]) (n := 0) (Heap.get?_push_size _ rfl) rfl (wpAny_pure ?_) (Nat.zero_le _) (by show (#[] ++ vs.toArray).size ≤ sizeLine + 1; simp only [Array.size_append, List.size_toArray, List.length_nil, sizeLine_eq]; omega))
  show wpAny (model prog w) A (do
      let o ← load s.heap.objs.size
      match o.data with
      | .seq xs _ => pure xs.toList
      | _ => unsupported "internal:collect") Q E { s with heap := (s.heap.push (seqObj "list" #[] 0)).update s.heap.objs.size (Obj.mapSeq (· ++ vs.toArray)) }
  refine wpAny_bind (wpAny_load (get?_update_seq (Heap.get?_push_size _ rfl) _) ?_)
  show wpAny _ _ (pure ((#[] : Array Value) ++ vs.toArray).toList) Q E _
  rw [show ((#[] : Array Value) ++ vs.toArray).toList = vs by simp]
  exact wpAny_pure h
theorem own_sortedT {l : Addr} {vs : List Value} {Q : Value → Shared → Prop} (hl : IsTup s.heap l vs.toArray) (hT : ∀ v ∈ vs, ∃ t, TP s.heap v t) (h64 : vs.length < 64)
    (h : ∀ out : Array Value, out.toList.Perm vs → Rise s.heap out.toList → Q (.ref (s.heap.objs.size + 1)) { s with heap := sortedAll s.heap vs out }) : wpAny (model prog w) A (call (.builtin "sorted") [.ref l]) Q E s := by
  have z1 : ((s.heap.push (seqObj "list" #[] 0)).update s.heap.objs.size (Obj.mapSeq (· ++ vs.toArray))).objs.size = s.heap.objs.size + 1 := (Heap.size_update ..).trans (size_push' _ _)
  have oL : (((s.heap.push (seqObj "list" #[] 0)).update s.heap.objs.size (Obj.mapSeq (· ++ vs.toArray))).push (seqObj "list" vs.toArray 0)).get? (s.heap.objs.size + 1) = some (seqObj "list" vs.toArray 0) := z1 ▸ Heap.get?_push_size _ rfl
  have up : ∀ b o, s.heap.get? b = some o → (((s.heap.push (seqObj "list" #[] 0)).update s.heap.objs.size (Obj.mapSeq (· ++ vs.toArray))).push (seqObj "list" vs.toArray 0)).get? b = some o := fun b o e =>
    Heap.get?_push_of_some _ ((Heap.get?_update_other _ _ fun z => by subst z; exact absurd (Heap.lt_size e) (Nat.lt_irrefl _)).trans (Heap.get?_push_of_some _ e))
  refine Calls.call_function_entry kind_sorted plain_sorted entry_sorted (args_sorted1 _) ?_
  unfold Builtin.«sorted»
  refine wpAny_bind (m := checkCount "sorted" 1 1 _) (wpAny_pure (wpAny_bind (zc7 hl (h64 := h64) (wpAny_bind (wpAny_newList ?_)))))
  show wpAny _ _ _ _ _ (Shared.mk (((s.heap.push (seqObj "list" #[] 0)).update s.heap.objs.size (Obj.mapSeq (· ++ vs.toArray))).push (seqObj "list" vs.toArray 0)) s.gens s.drawn s.toks s.os)
  rw [z1]
  refine wpAny_bind (wpAny_holding (wpAny_call_entry slot_list_sort ⟨_, oL, rfl⟩ entry_list_sort (Yg oL (fun v hv => let ⟨t, ht⟩ := hT v hv; ⟨t, ht.keep up⟩) h64 fun out p1 p2 => ⟨_, rfl, wpAny_pure ⟨_, rfl, h out p1 ?_⟩⟩) (args_list_sort _)))
  obtain ⟨ts, q1, q2, q3⟩ := p2
  refine ⟨ts, q1, fun i v t hv ht => ?_, q3⟩
  obtain ⟨t0, ht0⟩ := hT v (p1.mem_iff.mp (List.mem_of_getElem? hv))
  rw [(q2 i v t hv ht).uniq (ht0.keep up)]
  exact ht0
end
end OwnSort
namespace Dl
open PySem L2
noncomputable def Zg : List D → Option (List D)
  | [.tup ds] => if ds.length < 64 then (YW ds).map fun ts => (YM ts).map prD else none
  | _ => none
variable [KK]
section
variable {X : Cx} {e : Expr} {pos : Pos}
theorem V9 : vh X (.builtin "sorted") (fun xs H Q => ∃ F p ys ds out, xs = [.ref p] ∧ yG F H ∧ H p = some (.tup ys) ∧ AtL F ds ys ∧ Zg [.tup ds] = some out ∧ ∀ l zs, H l = none → AtL F out zs → Q (.ref l) (upd H l (.lst zs))) := by
  intro pins s σ H xs us Q I r h
  obtain ⟨F, p, ys, ds, out, rfl, sm, hp, al, hs, q⟩ := h
  obtain ⟨u, rfl, ru⟩ := ZU r
  cases ru
  obtain ⟨its, rv, pl, hz⟩ := I.tuple (SqT.of hp)
  have hlen : its.length = ds.length := by rw [← rv.length, al.length]
  unfold Zg at hs
  dsimp only at hs
  split at hs <;> try cases hs
  rename_i h64
  have fin : ∀ (zs : List V) (ws : List Value), zs.length < 64 → yl zs ws → AtL F out zs → EP X pins σ Q (.ref (s.heap.objs.size + 1)) { s with heap := PyProof.Rows.sortedAll s.heap its ws.toArray } := fun zs ws hl rz az => by
    have hn : H (s.heap.objs.size + 1) = none := I.hok.fresh (Nat.le_succ _)
    obtain ⟨ep, he⟩ := PyProof.Rows.sortedAll_at s.heap its ws.toArray
    refine ⟨.ref (s.heap.objs.size + 1), upd H (s.heap.objs.size + 1) (.lst zs), I.laid (t' := s.toks) (fun b o z => PyProof.Rows.sortedAll_old z) (Nat.le_succ _) ?_, rfl, q _ zs hn az⟩
    exact ⟨Nat.le_of_lt (Yz (by omega)), ws, ep, rz, he⟩
  obtain ⟨ts, hts, hs⟩ := Option.map_eq_some_iff.mp hs
  · subst hs
    have eds := XX hts
    subst eds
    have look : ∀ {v : Value}, v ∈ its → ∃ a t, v = .ref a ∧ t ∈ ts ∧ F a = some (.tup [.int t.1, .int t.2]) ∧ OwnSort.TP s.heap v t := fun {v} hv => by
      obtain ⟨j, hj, rfl⟩ := List.getElem_of_mem hv
      have hj2 : j < ts.length := by rw [List.length_map] at hlen; omega
      obtain ⟨x, hx, ax⟩ := al.get (i := j) (d := prD ts[j]) (by rw [List.getElem?_map]; simp [hj2])
      obtain ⟨a, rfl, ha⟩ := ax.pr_inv
      obtain ⟨v, hv, rvv⟩ := rv.get hx
      have e1 : its[j]? = some its[j] := by simp [hj]
      rw [hv] at e1
      cases e1
      have e2 : its[j] = .ref a := rvv
      refine ⟨a, ts[j], e2, List.getElem_mem hj2, ha, ?_⟩
      obtain ⟨us, ru, ⟨o, ho, hcl, n, hd⟩, _⟩ := I.tuple (SqT.of (sm _ _ ha))
      obtain ⟨u1, u2, rfl, r1, r2⟩ := zbJ ru
      obtain ⟨t1, rfl⟩ := r1
      obtain ⟨t2, rfl⟩ := r2
      exact ⟨a, o, n, t1, t2, e2, ho, hcl, hd⟩
    refine OwnSort.own_sortedT pl (fun v hv => let ⟨a, t, _, _, _, ht⟩ := look hv; ⟨t, ht⟩) (by omega) fun o2 pm ri => ?_
    obtain ⟨us, l1, l2, l3⟩ := ri
    have hlo : o2.toList.length = ts.length := by rw [pm.length_eq, hlen, List.length_map]
    -- the values' addresses
    have zsOf : ∀ (ws : List Value) (vs : List Pr), ws.length = vs.length → (∀ w ∈ ws, w ∈ its) → (∀ (i : Nat) v t, ws[i]? = some v → vs[i]? = some t → OwnSort.TP s.heap v t) → ∃ zs : List V, yl zs ws ∧ AtL F (vs.map prD) zs := by
      intro ws
      induction ws with
      | nil =>
        intro vs hl _ _
        cases vs with
        | nil => exact ⟨[], .nil, .nil⟩
        | cons _ _ => simp at hl
      | cons w ws ih =>
        intro vs hl hm ht
        cases vs with
        | nil => simp at hl
        | cons t vs =>
          obtain ⟨zs, z1, z2⟩ := ih vs (by simpa using hl) (fun w' hw' => hm w' (List.mem_cons_of_mem _ hw')) (fun i v t h1 h2 => ht (i + 1) v t (by simpa using h1) (by simpa using h2))
          obtain ⟨a, t', rfl, _, ha, htp⟩ := look (hm w List.mem_cons_self)
          have et : t' = t := htp.uniq (ht 0 _ t rfl rfl)
          subst et
          exact ⟨.ref a :: zs, .cons rfl z1, .cons (.tup ha (.cons .int (.cons .int .nil))) z2⟩
    obtain ⟨zs, z1, z2⟩ := zsOf o2.toList us l1 (fun w hw => pm.mem_iff.mp hw) l2
    have keysPerm : us.Perm ts := by
      -- by the keys of the values
      have kv : ∀ (ws : List Value) (vs : List Pr), ws.length = vs.length → (∀ (i : Nat) v t, ws[i]? = some v → vs[i]? = some t → OwnSort.TP s.heap v t) → vs = ws.map fun v => (OwnSort.keyP s.heap v).getD (0, 0) := by
        intro ws
        induction ws with
        | nil => intro vs hl _; cases vs with
          | nil => rfl
          | cons _ _ => simp at hl
        | cons w ws ih =>
          intro vs hl ht
          cases vs with
          | nil => simp at hl
          | cons t vs =>
            rw [List.map_cons, OwnSort.keyP_of (ht 0 w t rfl rfl), ← ih vs (by simpa using hl) fun i v t h1 h2 => ht (i + 1) v t (by simpa using h1) (by simpa using h2)]
            rfl
      rw [kv _ _ l1 l2, kv its ts (by rw [hlen, List.length_map]) fun i v t h1 h2 => ?_]
      · exact pm.map _
      · obtain ⟨x, hx, ax⟩ := al.get (i := i) (d := prD t) (by rw [List.getElem?_map, h2]; rfl)
        obtain ⟨a, rfl, ha⟩ := ax.pr_inv
        obtain ⟨v', hv', rvv⟩ := rv.get hx
        rw [h1] at hv'
        cases hv'
        obtain ⟨us', ru', ⟨o, ho, hcl, n, hd⟩, _⟩ := I.tuple (SqT.of (sm _ _ ha))
        obtain ⟨u1, u2, rfl, r1, r2⟩ := zbJ ru'
        obtain ⟨t1, rfl⟩ := r1
        obtain ⟨t2, rfl⟩ := r2
        exact ⟨a, o, n, t1, t2, rvv, ho, hcl, hd⟩
    have e3 := YL keysPerm l3
    rw [e3] at z2
    have := fin zs o2.toList (by rw [z1.length]; rw [List.length_map] at h64; omega) z1 z2
    simpa using this
theorem zdV {p : Pos} {f : Ev → Option (List D)} (hgl : Gl X "sorted") (hm : X.mg "sorted" = none) (ha : AD X [e] f)
    (he : starEach [e] X.env = (false, eval e X.env) :: starEach [] X.env := by rfl) (hpl : (backTo pos (starEach [] X.env)).any (·.1) = false := by rfl) : FL X (.Call (.Name "sorted" p) [e] [] pos) (fFn Zg f) := by
  obtain ⟨t, pa, ra⟩ := ha
  refine ⟨_, Yc V9 hgl hm ZH pa (by decide) (by decide) he hpl, fun σ ρ F H z Q s va e q => ?_⟩
  obtain ⟨ds, e1, e2⟩ := Option.bind_eq_some_iff.mp e
  refine ra σ ρ F H ds _ s va e1 fun F1 H1 vs g1 a1 => ?_
  have e2' := e2
  unfold Zg at e2'
  split at e2'
  · obtain ⟨x, r, rfl, ax, ar⟩ := a1.cons_inv
    cases ar.nil_inv
    obtain ⟨p, ys, rfl, hx, bl⟩ := ax.tup_inv
    exact ⟨F1, p, ys, _, z, rfl, g1.fh, g1.fh _ _ hx, bl, e2, fun l zs hl az => q _ _ _ _ (g1.trans (Gr.hide g1.fh hl _)) (zbU g1 hl) (g1.fh.free hl) zq az⟩
  · cases e2'
end
end Dl
namespace Dl
open PySem L2
variable [KK]
section
variable {E : XK} {cl : Nat → Addr} {X : Cx} {a b : Expr} {pos : Pos}
end
end Dl
namespace L2
open PySem PySem.Spec PyProof.Rows
section
variable {prog : Program} {w : World} {A : Around} {E : Value → Shared → Prop} {s : Shared}
end
section
variable {X : Cx} {e st : Expr} {te : TE} {t3 : TO} {pos p2 : Pos}
end
end L2
namespace Dl
open PySem L2
variable [KK]
end Dl
namespace L2
open PySem PySem.Spec PyProof.Rows
end L2
namespace Dl
open PySem L2
end Dl
namespace PySem
section
variable {prog : Program} {w : World} {A : Around} {R : Result → Shared → Prop} {it S : Addr} {fp wr : List Addr} {n : Nat} {P : Nat → Value → Prop} {St : Nat → Heap → Prop} {kw : List (Str × Value)}
theorem wF : (toString "max" ++ toString ".loop" : String) = "max.loop" := by decide
theorem Z2 {s : Shared} (k : wpAny (model prog w) A.in1 (Builtin.«max.loop» ⟨[.ref it, .none, .ref S], kw⟩) (fun fin s' => match fin with | .done f => R (.ok f) s' | .again c' => c'.quiet = true ∧ codeAny (model prog w) A c' R s') (fun e s' => R (.error e) s') s) :
    codeAny (model prog w) A (.builtin "max.loop" ⟨[.ref it, .none, .ref S], kw⟩) R s := codeAny_builtin F.entry_max_loop (by rw [Around.under_plainId F.plain_max_loop _]; exact k)
theorem ze9 (W : Walks prog w A.in1 it fp wr n P St) (bt : Nat → Nat → Bool) (cm : CmpOf prog w A.in1 .Gt P bt) (nf : S ∉ fp) : ∀ (left j : Nat) (s : Shared) (v0 : Value) (c : Nat), j + 1 + left = n → St (j + 1) s.heap → P (argBest bt j) v0 →
      s.heap.get? S = some { cls := .type "list", dict := none, data := .seq #[v0, v0] c, slots := #[] } →
      (∀ v g tk, P (argBest bt (n - 1)) v → (∀ b o, b ∉ wr → b ≠ S → s.heap.get? b = some o → g.get? b = some o) → R (.ok (.ret v)) { s with heap := g, toks := tk }) →
    codeAny (model prog w) A (.builtin "max.loop" ⟨[.ref it, .none, .ref S], kw⟩) R s := by
  have nw : S ∉ wr := fun z => nf (W.sub _ z)
  intro left
  induction left with
  | zero =>
    intro j s v0 c e st p0 hS k
    have ej : j + 1 = n := e
    refine Z2 ?_
    show wpAny _ A.in1 (seqItems? (.ref S) >>= _) _ _ s; refine wpAny_bind (wpAny_seqItems hS rfl ?_)
    show wpAny _ A.in1 (tryCatch (pyNext (.ref it)) _ >>= _) _ _ s; refine wpAny_bind (wpAny_tryCatch (W.done s _ _ (ej ▸ st) fun g tk kk => ?_))
    show wpAny _ A.in1 (updateSeq S (fun _ => #[]) >>= _) _ _ _; refine wpAny_bind (wpAny_updateSeq (kk S _ nw hS) rfl (wpAny_bind (wpAny_letGo (wpAny_pure (k v0 _ tk (ej ▸ p0) fun b o b1 b2 q => ?_)))))
    exact (Heap.get?_update_other _ _ (Ne.symm b2)).trans (kk b o b1 q)
  | succ left ih =>
    intro j s v0 c e st p0 hS k
    refine Z2 ?_
    show wpAny _ A.in1 (seqItems? (.ref S) >>= _) _ _ s; refine wpAny_bind (wpAny_seqItems hS rfl ?_)
    show wpAny _ A.in1 (tryCatch (pyNext (.ref it)) _ >>= _) _ _ s; refine wpAny_bind (wpAny_tryCatch (W.item (j + 1) s _ _ (by omega) st fun v g tk pv st' kk => ?_))
    have hS' := kk S _ nw hS
    show wpAny _ A.in1 (tryCatch (holding [v, v] (richCompare .Gt v v0 >>= _)) _ >>= _) _ _ _; refine wpAny_bind (wpAny_tryCatch (wpAny_holding (wpAny_bind (cm (j + 1) (argBest bt j) v v0 _ _ _ pv p0 (wpAny_bind (wpAny_holding (wpAny_truthy_bool (wpAny_bind (wpAny_letGo (wpAny_pure ?_))))))))))
    cases hb : bt (j + 1) (argBest bt j) with
    | true =>
      simp only [if_true]; refine wpAny_bind (wpAny_updateSeq hS' rfl (wpAny_bind (wpAny_letGo ?_)))
      rw [wF]; refine wpAny_pure ⟨plainId_quiet F.plain_max_loop _, ih (j + 1) _ v _ (by omega) (W.frame _ _ _ st' fun b bf o q => ?_) (by rw [argBest, if_pos hb]; exact pv) (Heap.get?_update_self _ hS' rfl) fun v1 g1 tk1 p1 kk1 => ?_⟩
      · exact (Heap.get?_update_other _ _ (fun z : S = b => nf (z ▸ bf))).trans q
      · exact k v1 g1 tk1 p1 fun b o b1 b2 q => kk1 b o b1 b2 ((Heap.get?_update_other _ _ (Ne.symm b2)).trans (kk b o b1 q))
    | false =>
      simp only [Bool.false_eq_true, if_false]; refine wpAny_bind (wpAny_letGo ?_)
      rw [wF]; exact wpAny_pure ⟨plainId_quiet F.plain_max_loop _, ih (j + 1) _ v0 c (by omega) st' (by rw [argBest, if_neg (by rw [hb]; exact Bool.false_ne_true)]; exact p0) hS' fun v1 g1 tk1 p1 kk1 => k v1 g1 tk1 p1 fun b o b1 b2 q => kk1 b o b1 b2 (kk b o b1 q)⟩
theorem zgN {s : Shared} {c : Nat} {d : Value} (W : Walks prog w A.in1 it fp wr n P St) (bt : Nat → Nat → Bool) (cm : CmpOf prog w A.in1 .Gt P bt) (nf : S ∉ fp) (st : St 0 s.heap)
    (hS : s.heap.get? S = some { cls := .type "list", dict := none, data := .seq #[] c, slots := #[] })
    (k : ∀ v g tk, (if n = 0 then v = d else P (argBest bt (n - 1)) v) → (∀ b o, b ∉ wr → b ≠ S → s.heap.get? b = some o → g.get? b = some o) → R (.ok (.ret v)) { s with heap := g, toks := tk }) :
    codeAny (model prog w) A (.builtin "max.loop" ⟨[.ref it, .none, .ref S], [("default", d)]⟩) R s := by
  have nw : S ∉ wr := fun z => nf (W.sub _ z)
  refine Z2 ?_
  show wpAny _ A.in1 (seqItems? (.ref S) >>= _) _ _ s; refine wpAny_bind (wpAny_seqItems hS rfl ?_)
  show wpAny _ A.in1 (tryCatch (pyNext (.ref it)) _ >>= _) _ _ s
  by_cases hn : n = 0
  · refine wpAny_bind (wpAny_tryCatch (W.done s _ _ (hn ▸ st) fun g tk kk => ?_))
    show wpAny _ A.in1 (rule _ >>= _) _ _ _; exact wpAny_bind (wpAny_rule (wpAny_pure (k d g tk (by rw [if_pos hn]) fun b o b1 _ q => kk b o b1 q)))
  · refine wpAny_bind (wpAny_tryCatch (W.item 0 s _ _ (Nat.pos_of_ne_zero hn) st fun v g tk pv st' kk => ?_))
    have hS' := kk S _ nw hS
    show wpAny _ A.in1 (updateSeq S (fun _ => #[v, v]) >>= _) _ _ _; refine wpAny_bind (wpAny_updateSeq hS' rfl ?_)
    rw [wF]; refine wpAny_pure ⟨plainId_quiet F.plain_max_loop _, ze9 W bt cm nf (n - 1) 0 _ v _ (by omega) (W.frame _ _ _ st' fun b bf o q => ?_) pv (Heap.get?_update_self _ hS' rfl) fun v1 g1 tk1 p1 kk1 => ?_⟩
    · exact (Heap.get?_update_other _ _ (fun z : S = b => nf (z ▸ bf))).trans q
    · exact k v1 g1 tk1 (by rw [if_neg hn]; exact p1) fun b o b1 b2 q => kk1 b o b1 b2 ((Heap.get?_update_other _ _ (Ne.symm b2)).trans (kk b o b1 q))
end
theorem zbu (x d : Value) : argsOk "max" ⟨[x], [(Str.ofString "default", d)]⟩ := by unfold argsOk; kernel_rfl
theorem X3 {prog : Program} {w : World} {A : Around} {E : Value → Shared → Prop} {s : Shared} {x d : Value} {Q : Value → Shared → Prop}
    (h : wpAny (model prog w) A.in1 (pyIter x) (fun i s₂ => ∃ it fp wr n P St bt, i = .ref it ∧ Walks prog w A.in1 it fp wr n P St ∧ St 0 s₂.heap ∧ (∀ b ∈ fp, b < s₂.heap.objs.size) ∧ CmpOf prog w A.in1 .Gt P bt ∧
      ∀ v g tk, (if n = 0 then v = d else P (argBest bt (n - 1)) v) → (∀ b o, b ∉ wr → s₂.heap.get? b = some o → g.get? b = some o) → Q v { s₂ with heap := g, toks := tk }) E s) :
    wpAny (model prog w) A (call (.builtin "max") [x] [(Str.ofString "default", d)]) Q E s := by
  refine PyProof.Rows.kmk_tree F.kind_max F.plain_max F.entry_max (zbu x d) ?_
  show wpAny _ A.in1 (Builtin.Builtins.bindParams "max" ["key", "default"] 0 ⟨[], [(Str.ofString "default", d)]⟩ >>= _) _ _ s
  refine wpAny_bind (wpAny_of_eq (show Builtin.Builtins.bindParams "max" ["key", "default"] 0 ⟨[], [(Str.ofString "default", d)]⟩ = pure [none, some d] from rfl) (wpAny_bind (wpAny_pure ?_)))
  refine wpAny_bind (wpAny_mono h (fun i s₂ h₂ => ?_) fun _ _ e => e)
  obtain ⟨it, fp, wr, n, P, St, bt, rfl, W, st, hfp, cm, k⟩ := h₂
  refine wpAny_bind (wpAny_newObj_type ?_)
  have nf : s₂.heap.objs.size ∉ fp := fun z => Nat.lt_irrefl _ (hfp _ z)
  rw [wF]
  refine wpAny_pure ⟨plainId_quiet F.plain_max_loop _, zgN W bt cm nf (W.frame _ _ _ st fun b _ o e => Heap.get?_push_of_some _ e) (Heap.get?_push_size _ rfl) fun v g tk p kk => ?_⟩
  exact k v g tk p fun b o b1 e => kk b o b1 (Nat.ne_of_lt (Heap.lt_size e)) (Heap.get?_push_of_some _ e)
end PySem
namespace PySem
open Sem (wp)
theorem zax {prog : Program} {w : World} {d : Addr} (hd : (d == sysModules) = false) :
    MeetsIn prog w (Builtin.«dict.__len__» ⟨[.ref d], []⟩) (fun _ R s => ∃ o es ep, s.heap.get? d = some o ∧ o.data = .dict es ep ∧ R (.ok (.ret (.int es.size s.toks))) { s with toks := s.toks + 1 }) :=
  .of_wp fun A R s ⟨o, es, ep, ho, hdat, h⟩ => by
    show wpAny _ _ (dictSize d >>= _) _ _ s; unfold dictSize; refine wpAny_bind (wpAny_bind (wpAny_dictEntries ho hdat (wpAny_pure ?_)))
    show wpAny _ _ (Builtin.Dict.pendingCount d >>= _) _ _ s; refine wpAny_bind (wpAny_pendingCount_other hd (wpAny_ret_mkInt ?_))
    simpa using h
theorem XS {prog : Program} {w : World} {A : Around} {E : Value → Shared → Prop} {s : Shared} {d : Addr} {o : Obj} {es : Array DictEntry} {ep : Nat} {Q : Value → Shared → Prop} (hd : (d == sysModules) = false) (ho : s.heap.get? d = some o) (hc : o.cls = .type "dict") (hdat : o.data = .dict es ep) (hz : (es.size : Int) < 2 ^ 63)
    (h : Q (.int es.size (s.toks + 1)) { s with toks := s.toks + 1 + 1 }) : wpAny (model prog w) A (call (.builtin "len") [.ref d]) Q E s := by
  have ty : s.TypeIs (.ref d) "dict" := ⟨o, ho, hc⟩
  refine Calls.call_function_entry kind_len plain_len entry_len (args_len1 _) ?_
  unfold Builtin.«len»
  refine wpAny_bind (m := oneArg "len" _) (wpAny_pure (wpAny_bind (m := callSpecial? (.ref d) (Str.ofString "__len__")) (wpAny_callSpecial?_slot (name := Str.ofString "__len__") ty F.slot_dict_len (call_meetsIn F.slot_dict_len ty F.entry_dict_len (F.args_dict_len_1 _) (zax hd) ⟨o, es, ep, ho, hdat, ?_⟩))))
  show wpAny _ _ _ _ _ { s with toks := s.toks + 1 }; refine wpAny_bind (wpAny_holding (wpAny_pure (wpAny_bind (wpAny_letGo ?_))))
  show wpAny _ _ (if ((es.size : Nat) : Int) < 0 then _ else _) _ _ _; rw [if_neg (by omega)]
  show wpAny _ _ (if ((es.size : Nat) : Int) ≥ 2 ^ 63 then _ else _) _ _ _; rw [if_neg (by omega)]
  exact wpAny_bind (wpAny_mkInt (wpAny_pure ⟨_, rfl, h⟩))
end PySem
namespace L2
open PySem PySem.Spec PyProof.Rows
section
variable {X : Cx} {e de : Expr} {p pos kp : Pos} {t : TA} {td : TE}
noncomputable def zlO (K : PySem.W.Frag) (t : TA) (td : TE) : TE := fun σ H Q => t σ H fun vs H1 => td σ H1 fun y H2 => ∃ (a : Addr) (ns : List Int) (k : Int), vs = [.ref a] ∧ y = .int k ∧ SqL K H2 a (ns.map V.int) ∧ Q (.int (if ns = [] then k else Dl.maxL ns)) H2
theorem zh2 (hc : X.calm = true) (hg : Gl X "max") (hm : X.mg "max" = none) (hv : bootBuiltins "max" = some (.builtin "max")) (ha : PA X [e] t) (hd : PE X de td) (he : backTo pos (starEach [e] X.env) = (false, eval e X.env) :: backTo pos (starEach [] X.env) := by rfl) (hpl : (backTo pos (starEach [e] X.env)).any (·.1) = false := by rfl) :
    PE X (.Call (.Name "max" p) [e] [⟨some "default", de, kp⟩] pos) (zlO X.K t td) := by
  intro pins s σ H Q I h
  refine wpAny_Call_Name_kw (Xe I hg hm hv ?_ (by decide) (by decide))
  refine PyProof.Rows.callWith_kw (thn (ha pos pins s σ H _ I h) fun us s1 ⟨vs, H1, I1, r1, q1⟩ => PyProof.Rows.kws_cons (thn (hd pins s1 σ H1 _ I1 q1) fun ud s2 ⟨y, H2, I2, r2, q2⟩ => PyProof.Rows.kws_nil ?_)) he hpl
  obtain ⟨a, ns, k, rfl, rfl, hq, q⟩ := q2
  obtain ⟨u, rfl, ru⟩ := ZU r1
  cases ru
  obtain ⟨tk0, rfl⟩ := r2
  letI : Dl.KK := ⟨X.K⟩
  refine X3 (Dl.seq_walk I2 (I2.ok.hd hc) (.inl hq) fun it its fp wr St s₂ rv W st fpl back => ?_)
  have hl := rv.length
  rw [List.length_map] at hl
  refine ⟨it, fp, wr, _, _, St, fun i j => decide (ns.getD j 0 < ns.getD i 0), rfl, W, st, fpl, fun i j vi vj s Q E hi hj hQ => ?_, fun v h' tk hv kk => ?_⟩
  · obtain ⟨t1, rfl⟩ := Dl.vals_int rv hi
    obtain ⟨t2, rfl⟩ := Dl.vals_int rv hj
    exact PyProof.Rows.gt_int hQ
  · by_cases hn : ns = []
    · subst hn
      have h0 : its.length = 0 := hl.symm
      rw [if_pos h0] at hv
      subst hv
      exact ⟨.int k, H2, back h' tk kk, ⟨tk0, rfl⟩, by rw [if_pos rfl] at q; exact q⟩
    · have hpos : 0 < ns.length := List.length_pos_iff.mpr hn
      rw [if_neg (by omega)] at hv
      obtain ⟨t, rfl⟩ := Dl.vals_int rv hv
      rw [if_neg hn] at q
      refine ⟨.int (Dl.maxL ns), H2, back h' tk kk, ⟨t, ?_⟩, q⟩
      have key := Dl.best_ge (fun i => ns.getD i 0) (its.length - 1)
      have hb : argBest (fun i j => decide (ns.getD j 0 < ns.getD i 0)) (its.length - 1) < ns.length := by
        have := (key 0 (Nat.zero_le _)).2
        omega
      rw [Dl.max_is (m := ns.getD (argBest (fun i j => decide (ns.getD j 0 < ns.getD i 0)) (its.length - 1)) 0) (Dl.getD_mem hb)]
      intro x hx
      obtain ⟨j, hj, rfl⟩ := List.getElem_of_mem hx
      have := (key j (by omega)).1
      rw [← Dl.getD_at hj]
      exact this
end
noncomputable def zlh : List V → Hp → VK → Prop := fun vs H Q => ∃ (a : Addr) (kvs : List (List Key × V)), vs = [.ref a] ∧ Rd H a (.dT kvs) ∧ Q (.int kvs.length) H
theorem ze6 {X : Cx} : vh X (.builtin "len") zlh := by
  intro pins s σ H vs us Q I r h
  obtain ⟨a, kvs, rfl, hr, q⟩ := h
  obtain ⟨u, rfl, ru⟩ := ZU r
  cases ru
  obtain ⟨hz, hs, xs, kt, o, es, ep, ho, hx, hdat, he, _⟩ := zi4 I.hok hr
  have hl : es.size = kvs.length := (size_of_entries he).trans kt.length.symm
  have h63 := XJ
  refine XS hs ho hx.1 hdat (by omega) ⟨.int kvs.length, H, I.tok _, ⟨_, by rw [hl]⟩, q⟩
end L2
namespace Dl
open PySem L2
variable [KK]
section
variable {X : Cx} {e de : Expr} {p pos kp : Pos}
noncomputable def zij : D → D → Option D
  | .lst ds, .int k => (zjz ds).map fun ns => .int (if ns = [] then k else maxL ns)
  | _, _ => none
theorem zh4 {f h : Ev → Option D} (hc : X.calm = true) (hg : Gl X "max") (hm : X.mg "max" = none) (ha : ED X e f) (hd : ED X de h) (hs : starEach [e] X.env = (false, eval e X.env) :: starEach [] X.env := by rfl) (he : backTo pos (starEach [e] X.env) = (false, eval e X.env) :: backTo pos (starEach [] X.env) := by rfl) (hpl : (backTo pos (starEach [e] X.env)).any (·.1) = false := by rfl) :
    ED X (.Call (.Name "max" p) [e] [⟨some "default", de, kp⟩] pos) (zn zij f h) := by
  obtain ⟨ta, pa, ra⟩ := ha
  obtain ⟨td, pd, rd⟩ := hd
  refine ⟨_, zh2 hc hg hm zfq (Y0 pa Vv hs) pd he hpl, fun σ ρ F H z Q s va e q => ?_⟩
  obtain ⟨d, e1, e⟩ := Option.bind_eq_some_iff.mp e
  obtain ⟨k, e2, e3⟩ := Option.bind_eq_some_iff.mp e
  refine ra σ ρ F H d _ s va e1 fun F1 H1 v g1 a1 => ?_
  refine rd σ ρ F1 H1 k _ g1.fh (va.mono g1.ff) e2 fun F2 H2 y g2 a2 => ?_
  unfold zij at e3
  split at e3 <;> try cases e3
  obtain ⟨ns, hn, rfl⟩ := Option.map_eq_some_iff.mp e3
  cases ZQ hn
  obtain ⟨a, xs, rfl, hx, al⟩ := (a1.mono g2.ff).lst_inv
  cases al.of_ints
  exact ⟨a, ns, _, rfl, a2.int_inv, SqL.of (g2.fh _ _ hx), q F2 H2 _ (g1.trans g2) .int⟩
noncomputable def zjn : List D → Option D
  | [.dct _ true ks _] => some (.int ks.length)
  | _ => none
theorem zg1 : CaD zlh zjn := by
  intro F H vs ds z Q s al e q
  unfold zjn at e
  split at e <;> cases e
  obtain ⟨x, r, rfl, ax, ar⟩ := al.cons_inv
  cases ar.nil_inv
  unfold At at ax
  obtain ⟨a, xs, rfl, ⟨u, hu, hz⟩, _⟩ := ax
  obtain ⟨kvs, rfl, hk, _⟩ := hu
  have hr : Rd H a (.dT kvs) := by
    split at hz
    · obtain ⟨ob, hz⟩ := hz
      exact .inr ⟨ob, s _ _ hz⟩
    · exact .inl (s _ _ hz)
  exact ⟨a, kvs, rfl, hr, by rw [show (kvs.length : Int) = ((kvs.map (·.1)).length : Nat) by rw [List.length_map], hk]; exact q F H _ (.refl s) .int⟩
end
end Dl
namespace Dl
open PySem L2
variable [KK]
section
variable {X : Cx}
end
end Dl
namespace OwnSet
open PySem
section
variable {prog : Program} {w : World} {A : Around} {E : Value → Shared → Prop} {s : Shared}
end
end OwnSet
namespace L2
open PySem PySem.Spec PyProof.Rows
end L2
namespace Dl
open PySem L2 PySem.Spec PyProof.Rows
variable [KK] {X : Cx} {e : Expr}
end Dl
namespace OwnSortT
open PySem PyProof.Rows OwnSort
theorem lex_irr : ∀ a : List Int, HT.lexLt a a = false := by
  intro a
  induction a with
  | nil => rfl
  | cons x xs ih => rw [HT.lexLt_cons, if_pos rfl, ih]
theorem lex_trans : ∀ a b c : List Int, HT.lexLt a b = true → HT.lexLt b c = true → HT.lexLt a c = true := by
  intro a
  induction a with
  | nil =>
    intro b c h1 h2
    cases c with
    | nil => cases b <;> cases h2
    | cons _ _ => rfl
  | cons x xs ih =>
    intro b c h1 h2
    cases b with
    | nil => cases h1
    | cons y ys => cases c with
      | nil => cases h2
      | cons z zs =>
        rw [HT.lexLt_cons] at h1 h2 ⊢
        by_cases e1 : x = y
        · rw [if_pos e1] at h1
          by_cases e2 : y = z
          · rw [if_pos e2] at h2; rw [if_pos (e1.trans e2)]; exact ih _ _ h1 h2
          · rw [if_neg e2, decide_eq_true_eq] at h2; rw [if_neg (by omega), decide_eq_true_eq]; omega
        · rw [if_neg e1, decide_eq_true_eq] at h1
          by_cases e2 : y = z
          · rw [if_neg (by omega), decide_eq_true_eq]; omega
          · rw [if_neg e2, decide_eq_true_eq] at h2; rw [if_neg (by omega), decide_eq_true_eq]; omega
theorem lex_total : ∀ a b : List Int, HT.lexLt a b = false → HT.lexLt b a = false → a = b := by
  intro a
  induction a with
  | nil =>
    intro b h1 h2
    cases b with
    | nil => rfl
    | cons _ _ => cases h1
  | cons x xs ih =>
    intro b h1 h2
    cases b with
    | nil => cases h2
    | cons y ys =>
      rw [HT.lexLt_cons] at h1 h2
      by_cases e : x = y
      · rw [if_pos e] at h1; rw [if_pos e.symm] at h2; rw [e, ih _ h1 h2]
      · rw [if_neg e, decide_eq_false_iff_not] at h1; rw [if_neg (Ne.symm e), decide_eq_false_iff_not] at h2; omega
theorem lex_neg (a b c : List Int) (h : HT.lexLt a c = true) : HT.lexLt a b = true ∨ HT.lexLt b c = true := by
  cases h1 : HT.lexLt a b with
  | true => exact .inl rfl
  | false =>
    refine .inr ?_
    cases h2 : HT.lexLt b a with
    | true => exact lex_trans _ _ _ h2 h
    | false => rw [← lex_total _ _ h1 h2]; exact h
noncomputable def TT (h : Heap) (v : Value) (t : List Int) : Prop := ∃ a o n its, v = .ref a ∧ h.get? a = some o ∧ o.cls = .type "tuple" ∧ o.data = .seq its.toArray n ∧ IntsAre its t ∧ t ≠ []
theorem zfS : ∀ {vs : List Value} {ns ms : List Int}, IntsAre vs ns → IntsAre vs ms → ns = ms := by
  intro vs ns ms h
  induction h generalizing ms with
  | nil => intro h2; cases h2; rfl
  | cons n t h ih => intro h2; cases h2 with | cons n' t' h' => rw [ih h']
theorem TT.uniq {h : Heap} {v : Value} {s t : List Int} (x : TT h v s) (y : TT h v t) : s = t := by
  obtain ⟨a, o, n, its, rfl, e1, _, d1, i1, _⟩ := x
  obtain ⟨b, p, m, its', e, e2, _, d2, i2, _⟩ := y
  cases e
  rw [e1] at e2
  cases e2
  rw [d1] at d2
  have e3 : its.toArray = its'.toArray := by injection d2
  cases List.toArray_inj e3
  exact zfS i1 i2
theorem TT.keep {h h' : Heap} {v : Value} {t : List Int} (x : TT h v t) (k : ∀ b o, h.get? b = some o → h'.get? b = some o) : TT h' v t := by
  obtain ⟨a, o, n, its, e, e1, r⟩ := x
  exact ⟨a, o, n, its, e, k _ _ e1, r⟩
theorem TT.keepT {h h' : Heap} {v : Value} {t : List Int} (x : TT h v t) (k : ∀ b o, o.cls = .type "tuple" → h.get? b = some o → h'.get? b = some o) : TT h' v t := by
  obtain ⟨a, o, n, its, e, e1, c, r⟩ := x
  exact ⟨a, o, n, its, e, k _ _ c e1, c, r⟩
open Classical in
noncomputable def keyTT (h : Heap) (v : Value) : Option (List Int) := if x : ∃ t, TT h v t then some x.choose else none
theorem keyTT_of {h : Heap} {v : Value} {t : List Int} (x : TT h v t) : keyTT h v = some t := by
  unfold keyTT
  have y : ∃ t, TT h v t := ⟨t, x⟩
  rw [dif_pos y, y.choose_spec.uniq x]
@[reducible] noncomputable def zdN (h : Heap) : KeyKind where
  α := List Int
  blt := HT.lexLt
  irrefl := lex_irr
  trans := lex_trans
  negTrans := lex_neg
  total := lex_total
  keyOf := keyTT h
  dflt := []
section
variable {prog : Program} {w : World} {A : Around} {E : Value → Shared → Prop} {s : Shared}
noncomputable def zjw (d : Bool) : List Int → List Int → Bool
  | x :: xs, y :: ys => if x = y then zjw d xs ys else decide (x < y)
  | _, _ => d
theorem zi5 : ∀ a b : List Int, zjw (decide (a.length < b.length)) a b = HT.lexLt a b := by
  intro a
  induction a with
  | nil => intro b; cases b with
    | nil => rfl
    | cons _ _ => rfl
  | cons x xs ih => intro b; cases b with
    | nil => rfl
    | cons y ys =>
      rw [HT.lexLt_cons, ← ih ys]
      show (if x = y then zjw (decide (xs.length + 1 < ys.length + 1)) xs ys else decide (x < y)) = _
      rw [show decide (xs.length + 1 < ys.length + 1) = decide (xs.length < ys.length) by congr 1; apply propext; omega]
noncomputable def zeX (x : (Value × Value) × Nat) (_ : Option Bool × Unit) : Sem (ForInStep (Option Bool × Unit)) := do
  let b ← eqBool x.1.1 x.1.2
  if (!b) = true then do
    let c ← oneLt' (true && x.2 == 0) x.1.1 x.1.2
    pure (ForInStep.done (some c, ()))
  else pure (ForInStep.yield (none, ()))
theorem zgw {d : Bool} : ∀ {xs : List Value} {ns : List Int} {ys : List Value} {ms : List Int} {k : Nat} {Q : Option Bool × Unit → Shared → Prop}, IntsAre xs ns → IntsAre ys ms → (∀ r : Option Bool × Unit, r.1.getD d = zjw d ns ms → Q r s) →
    wpAny (model prog w) A (forIn ((xs.zip ys).zipIdx k) ((none, ()) : Option Bool × Unit) zeX) Q E s := by
  intro xs ns ys ms k Q h1
  induction h1 generalizing ys ms k with
  | nil => intro h2 q; exact wpAny_pure (q (none, ()) rfl)
  | cons x t h1 ih =>
    intro h2 q
    cases h2 with
    | nil => exact wpAny_pure (q (none, ()) rfl)
    | cons y u h2 =>
      rw [List.zip_cons_cons, List.zipIdx_cons, List.forIn_cons]
      refine wpAny_bind (wpAny_bind (SeqAt.EqAt.int_int x t y u prog w E _ ?_))
      by_cases c : x = y
      · rw [show (x == y) = true by rw [c]; exact beq_self_eq_true _]
        refine wpAny_pure (ih h2 fun r hr => q r (hr.trans ?_))
        show _ = (if x = y then zjw d _ _ else decide (x < y))
        rw [if_pos c]
      · rw [show (x == y) = false by simpa using c]
        have q0 : Q (some (decide (x < y)), ()) s := q _ (by
          show decide (x < y) = (if x = y then zjw d _ _ else decide (x < y))
          rw [if_neg c])
        cases k with
        | zero => exact wpAny_bind (oneLt_int (wpAny_pure (wpAny_pure q0)))
        | succ k => exact wpAny_bind (lt0 (wpAny_pure (wpAny_pure q0)))
theorem zjm {x y : Value} {a b : List Int} {Q : Bool → Shared → Prop} (hx : TT s.heap x a) (hy : TT s.heap y b) (h : Q (HT.lexLt a b) s) : wpAny (model prog w) A (keyLt' (tuples' true) x y) Q E s := by
  obtain ⟨p, o, n, xs, rfl, e1, _, d1, i1, _⟩ := hx
  obtain ⟨q, o2, n2, ys, rfl, e2, _, d2, i2, _⟩ := hy
  rw [zao]
  refine wpAny_bind (listItems_at e1 d1 (wpAny_bind (listItems_at e2 d2 ?_)))
  show wpAny _ _ (forIn ((xs.zip ys).zipIdx 0) ((none, ()) : Option Bool × Unit) zeX >>= _) _ _ _
  refine wpAny_bind (zgw (d := decide (xs.length < ys.length)) i1 i2 fun r hr => ?_)
  have e : Q (r.1.getD (decide (xs.length < ys.length))) s := by
    rw [hr, i1.length, i2.length, zi5]; exact h
  obtain ⟨r1, u⟩ := r
  cases r1 with
  | none => exact wpAny_pure e
  | some v => exact wpAny_pure e
theorem ziR {vs : List Value} (hT : ∀ v ∈ vs, ∃ t, TT s.heap v t) : zf6 prog w A E s (pairsOf vs) (zdN s.heap) (tuples' true) := by
  intro st i j Q B hi hj h
  have look : ∀ {i : Nat}, i < (pairsOf vs).size → ∃ x p t, (arrOf st)[i]? = some (x, p) ∧ TT s.heap x t ∧ KK (zdN s.heap) (arrOf st) i = t := fun {i} hi => by
    have hi' : i < (arrOf st).size := by rw [B.sz]; exact hi
    have hm : (arrOf st)[i] ∈ (pairsOf vs).toList := (Array.perm_iff_toList_perm.mp B.pm).mem_iff.mp (by simp)
    rw [pairsOf_toList] at hm
    obtain ⟨t, ht⟩ := hT _ (mem_zip_self hm).2
    refine ⟨(arrOf st)[i].1, (arrOf st)[i].2, t, getElem?_pos _ i hi', ht, ?_⟩
    unfold KK
    rw [getElem?_pos _ i hi']
    show (keyTT s.heap (arrOf st)[i].1).getD _ = t
    rw [keyTT_of ht]
    rfl
  obtain ⟨x, p, a, e1, ta, ka⟩ := look hi
  obtain ⟨y, q, b, e2, tb, kb⟩ := look hj
  rw [ka, kb] at h
  rw [ltAt'_eq]
  refine wpS_bind (wpS_get ?_)
  show wpS _ _ _ _ (elem' (arrOf st) i >>= fun x => elem' (arrOf st) j >>= fun y => lt' x y) Q st
  rw [elem'_eq, elem'_eq, e1, e2]
  refine wpS_bind (wpS_pure (wpS_bind (wpS_pure ?_)))
  rw [lt'_eq]
  refine wpS_bind (wpS_get ?_)
  rw [B.kd]
  exact wpS_bind (wpS_lift (wpAny_attempt (zjm ta tb ⟨rfl, wpS_pure h⟩)))
theorem XQ : ∀ {vs : List Value} {Q : List (Option Value) → Shared → Prop}, (∀ v ∈ vs, ∃ t, TT s.heap v t) → (∀ fs : List Value, fs.length = vs.length → (∀ f ∈ fs, ∃ i t, f = .int i t) → Q (fs.map some) s) → wpAny (model prog w) A (vs.mapM firstOfTuple') Q E s
  | [], Q, _, h => by rw [List.mapM_nil]; exact wpAny_pure (h [] rfl (by simp))
  | v :: vs, Q, hT, h => by
    obtain ⟨t, a, o, n, its, rfl, e1, c1, d1, hi, hne⟩ := hT v List.mem_cons_self
    obtain ⟨z, zs, i0, tk, rfl, rfl⟩ : ∃ z zs i0 tk, its = z :: zs ∧ z = .int i0 tk := by
      cases hi with
      | nil => exact absurd rfl hne
      | cons i0 tk hi => exact ⟨_, _, _, _, rfl, rfl⟩
    rw [List.mapM_cons, WC]
    refine wpAny_bind (wpAny_bind (wpAny_typeOf (T := "tuple") ⟨o, e1, c1⟩ ?_))
    rw [if_neg (by simp)]
    refine wpAny_bind (listItems_at e1 d1 (wpAny_pure (wpAny_bind (XQ (fun u hu => hT u (List.mem_cons_of_mem _ hu)) fun fs hl hf => wpAny_pure ?_))))
    exact h (.int i0 tk :: fs) (by simp [hl]) fun f hf' => by
      rcases List.mem_cons.mp hf' with rfl | hf'
      · exact ⟨_, _, rfl⟩
      · exact hf f hf'
theorem zfE {v₁ : Value} {vs : List Value} {Q : SortKind → Shared → Prop} (hT : ∀ v ∈ v₁ :: vs, ∃ t, TT s.heap v t) (h : Q (tuples' true) s) : wpAny (model prog w) A (keyKind' (v₁ :: vs).toArray) Q E s := by
  rw [keyKind'_eq, List.mapM_toArray, ← bind_pure_comp, bind_assoc]
  refine wpAny_bind (XQ hT fun fs hl hf => wpAny_bind (wpAny_pure ?_))
  cases fs with
  | nil => simp at hl
  | cons f fs =>
    rw [if_pos (by simp)]
    have ef : ((f :: fs).map some).toArray.filterMap id = (f :: fs).toArray := by simp
    refine wpAny_bind (wpAny_rule ?_)
    rw [ef, oneTypeOnly'_eq, List.mapM_toArray, Wb hf]
    simp only [map_pure, pure_bind]
    rw [show (List.map (fun _ => Value.type "int") (f :: fs)).toArray[0]? = some (Value.type "int") by simp]
    have al : ((List.map (fun _ => Value.type "int") (f :: fs)).toArray.all fun x => x == Value.type "int") = true := by
      simp only [List.all_toArray, List.all_map, List.all_eq_true]
      intro _ _
      rfl
    simp only [al, if_true, pure_bind, Option.any_some]
    rw [show (Value.type "int" != Value.type "tuple") = true by decide +kernel]
    exact wpAny_pure h
end
noncomputable def Rise (h : Heap) (out : List Value) : Prop := ∃ ts : List (List Int), out.length = ts.length ∧ (∀ (i : Nat) (v : Value) (t : (List Int)), out[i]? = some v → ts[i]? = some t → TT h v t) ∧ ts.Pairwise fun a b => HT.lexLt b a = false
theorem ZK {h h' : Heap} {vs : List Value} {xs : Array Keyed} (hT : ∀ v ∈ vs, ∃ t, TT h v t) (hk : ∀ v t, TT h v t → TT h' v t) (pm : xs.Perm (pairsOf vs)) (hs : SortedToK (zdN h') xs (pairsOf vs).size) : (xs.map (·.2)).toList.Perm vs ∧ Rise h (xs.map (·.2)).toList := by
  have hl : xs.toList.Perm (vs.zip vs) := by rw [← pairsOf_toList]; exact Array.perm_iff_toList_perm.mp pm
  have hm : ∀ p ∈ xs.toList, p.1 = p.2 ∧ p.1 ∈ vs := fun p hp => mem_zip_self (hl.mem_iff.mp hp)
  have e2 : (xs.map (·.2)).toList = xs.toList.map (·.2) := by simp
  rw [e2]
  refine ⟨?_, xs.toList.map fun p => (keyTT h' p.1).getD ([] : List Int), by simp, fun i v t hv ht => ?_, ?_⟩
  · have := hl.map (·.2)
    rwa [show (vs.zip vs).map (·.2) = vs from List.map_snd_zip (Nat.le_refl _)] at this
  · rw [List.getElem?_map] at hv ht
    cases hx : xs.toList[i]? with
    | none => rw [hx] at hv; cases hv
    | some p =>
      rw [hx] at hv ht
      cases hv
      cases ht
      obtain ⟨q1, q2⟩ := hm p (List.mem_of_getElem? hx)
      obtain ⟨t, ht⟩ := hT _ q2
      show TT h p.2 ((keyTT h' p.1).getD ([] : List Int))
      rw [keyTT_of (hk _ _ ht), ← q1]
      exact ht
  · rw [List.pairwise_iff_getElem]
    intro i j hi hj hij
    have hi' : i < xs.size := by simpa using hi
    have hj' : j < xs.size := by simpa using hj
    have := hs i j (Nat.le_of_lt hij) (by rw [← pm.size_eq]; exact hj')
    unfold KK at this
    rw [getElem?_pos xs i hi', getElem?_pos xs j hj'] at this
    have this : HT.lexLt ((keyTT h' xs[j].1).getD ([] : List Int)) ((keyTT h' xs[i].1).getD ([] : List Int)) = false := this
    simpa using this
section
variable {prog : Program} {w : World} {A : Around} {E : Value → Shared → Prop} {s : Shared}
theorem ownT_list_sort {a : Addr} {vs : List Value} {n : Nat} {P : Fin → Shared → Prop} (ho : s.heap.get? a = some (seqObj "list" vs.toArray n)) (hT : ∀ v ∈ vs, ∃ t, TT s.heap v t) (h64 : vs.length < 64)
    (h : ∀ out : Array Value, out.toList.Perm vs → Rise s.heap out.toList → P (.done (.ret .none)) { s with heap := sortedHeap s.heap a vs out }) : wpAny (model prog w) A (Builtin.«list.sort» ⟨[.ref a], []⟩) P E s := by
  have la : a < s.heap.objs.size := Heap.lt_size ho
  have zl : vs.toArray.size = vs.length := List.size_toArray
  obtain ⟨e1, o1⟩ : ∃ e1, (s.heap.update a (Obj.mapSeq fun _ => #[])).get? a = some (seqObj "list" #[] e1) := ⟨_, get?_update_seq ho (fun _ => #[])⟩
  have o6 : (((s.heap.update a (Obj.mapSeq fun _ => #[])).push (seqObj "tuple" vs.toArray 0)).push (seqObj "list" #[] 0)).get? a = some (seqObj "list" #[] e1) := Heap.get?_push_of_some _ (Heap.get?_push_of_some _ o1)
  have up : ∀ b o, o.cls = .type "tuple" → s.heap.get? b = some o → (((s.heap.update a (Obj.mapSeq fun _ => #[])).push (seqObj "tuple" vs.toArray 0)).push (seqObj "list" #[] 0)).get? b = some o := fun b o c e => by
    refine Heap.get?_push_of_some _ (Heap.get?_push_of_some _ ((Heap.get?_update_other _ _ fun z => ?_).trans e))
    subst z
    rw [ho] at e
    cases e
    exact absurd (show Value.type "list" = Value.type "tuple" from c) (by decide +kernel)
  have hT6 : ∀ v ∈ vs, ∃ t, TT (((s.heap.update a (Obj.mapSeq fun _ => #[])).push (seqObj "tuple" vs.toArray 0)).push (seqObj "list" #[] 0)) v t := fun v hv => let ⟨t, ht⟩ := hT v hv; ⟨t, ht.keepT up⟩
  rw [list_sort_plain]
  refine wpAny_bind (listItems_at ho rfl (wpAny_bind (listUpdate_at ho rfl (wpAny_bind (seqEpoch_at o1 rfl (wpAny_bind (wpAny_newTuple (wpAny_bind (wpAny_newList (wpAny_holding ?_))))))))))
  show wpAny (model prog w) A _ P E { s with heap := ((s.heap.update a (Obj.mapSeq fun _ => #[])).push (seqObj "tuple" vs.toArray 0)).push (seqObj "list" #[] 0) }
  by_cases c2 : vs.toArray.size < 2
  · rw [if_pos c2, if_pos c2]
    refine wpAny_bind (wpAny_pure ?_)
    dsimp only
    rw [StateT.run_pure]
    refine wpAny_bind (wpAny_pure ?_)
    obtain ⟨r1, r2⟩ := ZK (xs := pairsOf vs) hT (fun v t ht => ht) (Array.Perm.refl _) (fun i j hij hj => by
      obtain rfl : i = j := by rw [pairsOf_size] at hj; omega
      exact KeyOrd.kle_refl _)
    refine wpAny_bind (seqEpoch_at o6 rfl (wpAny_bind (listUpdate_at o6 rfl ?_ (hsz2 := by rw [Array.size_map]; show (pairsOf vs).size ≤ _; rw [pairsOf_size, sizeLine_eq]; omega))))
    rw [show (e1 != e1) = false by simp]
    exact wpAny_pure (h _ r1 r2)
  · rw [if_neg c2, if_neg c2]
    cases vs with
    | nil => simp at c2
    | cons v₁ rest =>
      refine wpAny_bind (zfE hT6 ?_)
      refine wpAny_bind (wpAny_mono (zdD (st := SortSt.mk' (tuples' true) ((v₁ :: rest).toArray.zip (v₁ :: rest).toArray) #[] 7 none) (Q := fun _ t => (arrOf t).Perm (pairsOf (v₁ :: rest)) ∧ failedOf t = none ∧ SortedToK (zdN _) (arrOf t) (pairsOf (v₁ :: rest)).size)
        (ziR hT6) ⟨Array.Perm.refl _, rfl, rfl, rfl⟩ (by rw [pairsOf_size]; omega) (by rw [pairsOf_size]; exact h64) fun t p1 p2 p3 => ⟨p1, p2, p3⟩) ?_ fun _ _ e => e)
      rintro ⟨⟨⟩, t⟩ s' ⟨rfl, p1, p2, p3⟩
      obtain ⟨r1, r2⟩ := ZK hT (fun v t ht => ht.keepT up) p1 p3
      refine wpAny_bind (seqEpoch_at o6 rfl (wpAny_bind (listUpdate_at o6 rfl ?_ (hsz2 := by rw [Array.size_map]; show (arrOf t).size ≤ _; rw [p1.size_eq, pairsOf_size, sizeLine_eq]; omega))))
      rw [p2, show (e1 != e1) = false by simp]
      exact wpAny_pure (h _ r1 r2)
end
end OwnSortT
namespace OwnDk
open PySem
section
variable {prog : Program} {w : World} {A : Around} {E : Value → Shared → Prop} {s : Shared}
theorem Vm (hh : A.handled = none) (I a : Addr) (hne : a ≠ I) {ob : Obj} {es : Array DictEntry} {ep : Nat} (hd : ob.data = .dict es ep) :
    Walks prog w A I [I, a] [I] es.size (fun i v => ∃ e, es[i]? = some e ∧ v = e.key) (fun i h => h.IsKeyIter I a i es.size ep ∧ h.get? a = some ob) where
  sub := fun b hb => by simp at hb; simp [hb]
  frame := fun _ _ _ x hk => ⟨x.1.at fun o e => hk I (by simp) o e, hk a (by simp) _ x.2⟩
  item := fun i s Q E hi x hQ => by
    have hx : es[i]? = some (es[i]'hi) := Array.getElem?_eq_getElem _
    refine L2.raw_next x.1 x.2 hd hx fun h' he' hs' => ?_
    exact hQ _ h' s.toks ⟨_, hx, rfl⟩ ⟨he', (hs'.2 a hne).trans x.2⟩ fun b o hb eo => hs'.extBut b o (fun h => hb (by simp [h])) eo
  done := fun s Q E x hQ => L2.raw_end hh x.1 x.2 hd (Nat.le_refl _) fun h' he' => hQ h' s.toks fun b o hb eo => he' b o (fun h => hb (by simp [h])) eo
  self := fun _ _ _ _ x hQ => wpAny_pyIter_keyiter x.1 hQ
theorem Zr {a : Addr} {ob : Obj} {es : Array DictEntry} {ep : Nat} {Q : List Value → Shared → Prop} (hh : A.handled = none) (hs : (a == sysModules) = false) (hS : s.heap.get? a = some ob) (hc : ob.ExactDict) (hd : ob.data = .dict es ep) (h8 : es.size ≤ sizeLine)
    (hQ : ∀ s', (∀ b o, s.heap.get? b = some o → s'.heap.get? b = some o) → s'.gens = s.gens → s'.drawn = s.drawn → s'.os = s.os → Q (es.toList.map (·.key)) s') : wpAny (model prog w) A (collect (.ref a)) Q E s := by
  have hlt : a < s.heap.objs.size := Heap.lt_size hS
  have hSa : s.heap.objs.size ≠ a := Nat.ne_of_gt hlt
  unfold collect
  refine wpAny_bind (wpAny_runValue (codeAny_builtin F.entry_proto_collect ?_))
  rw [Around.under_plainId F.plain_proto_collect _]
  show wpAny _ A.in1 (newList [] >>= fun l => again (.builtin "list.__iadd__" ⟨[l, .ref a], []⟩)) _ _ s
  refine wpAny_bind (wpAny_newObj_type ?_)
  refine wpAny_pure ⟨plainId_quiet F.plain_list_iadd _, codeAny_builtin F.entry_list_iadd ?_⟩
  rw [Around.under_plainId F.plain_list_iadd _]
  have hS1 : (s.heap.push { cls := .type "list", data := .seq ([] : List Value).toArray }).get? a = some ob := Heap.get?_push_of_some _ hS
  have hL1 : (s.heap.push { cls := .type "list", data := .seq ([] : List Value).toArray }).get? s.heap.objs.size = some { cls := .type "list", data := .seq ([] : List Value).toArray } := Heap.get?_push_size _ rfl
  generalize hh1 : s.heap.push { cls := .type "list", data := .seq ([] : List Value).toArray } = h1 at hS1 hL1 ⊢
  have k1 : ∀ b o, s.heap.get? b = some o → h1.get? b = some o := fun b o e => by rw [← hh1]; exact Heap.get?_push_of_some _ e
  have hz1 : h1.objs.size = s.heap.objs.size + 1 := by rw [← hh1]; exact Heap.size_push ..
  show wpAny _ A.in1 (Builtin.List.listExtendWith (.ref s.heap.objs.size) (.ref a) (.ref s.heap.objs.size)) _ _ _
  unfold Builtin.List.listExtendWith
  refine wpAny_bind (wpAny_typeOf (T := "dict") ⟨_, hS1, hc.1⟩ ?_)
  have g1 : Builtin.List.listSameRef (.ref s.heap.objs.size) (.ref a) = false := by simp [Builtin.List.listSameRef, hSa]
  have g2 : (Value.type "dict" == Value.type "list") = false := by decide
  have g3 : (Value.type "dict" == Value.type "tuple") = false := by decide
  simp only [g1, g2, g3, Bool.or_false, Bool.false_eq_true, if_false]
  refine wpAny_bind (L2.raw_iter hs hS1 hc hd ?_)
  have hI2 : (h1.push { cls := .type "dict_keyiterator", data := .fields #[.ref a, .int 0 0, .int es.size 0, .int ep 0] }).IsKeyIter h1.objs.size a 0 es.size ep := ⟨_, Heap.get?_push_size _ rfl, rfl, rfl⟩
  have hS2 : (h1.push { cls := .type "dict_keyiterator", data := .fields #[.ref a, .int 0 0, .int es.size 0, .int ep 0] }).get? a = some ob := Heap.get?_push_of_some _ hS1
  have hL2 := Heap.get?_push_of_some { cls := .type "dict_keyiterator", data := .fields #[.ref a, .int 0 0, .int es.size 0, .int ep 0] } hL1
  generalize hh2 : h1.push { cls := .type "dict_keyiterator", data := .fields #[.ref a, .int 0 0, .int es.size 0, .int ep 0] } = h2 at hI2 hS2 hL2 ⊢
  have k2 : ∀ b o, h1.get? b = some o → h2.get? b = some o := fun b o e => by rw [← hh2]; exact Heap.get?_push_of_some _ e
  refine wpAny_bind (wpAny_holding (PySem.W.kdl_hint_dict ⟨_, hS2, hc.1⟩ ?_))
  show wpAny _ A.in1 (if true = true then _ else _) _ _ _
  rw [if_pos rfl]
  refine wpAny_bind (wpAny_rule (wpAny_bind ?_))
  show wpAny _ A.in1 (updateSeq s.heap.objs.size (·.push .none) >>= fun _ => updateSeq s.heap.objs.size (·.pop)) _ _ _
  refine wpAny_bind (wpAny_updateSeq hL2 rfl ?_)
  have hL3 := Heap.get?_update_self (Obj.mapSeq (·.push Value.none)) hL2 rfl
  refine wpAny_updateSeq (hz := by seq_fits) hL3 rfl ?_
  have hL4 := Heap.get?_update_self (Obj.mapSeq (·.pop)) hL3 rfl
  have oth : ∀ b o, b ≠ s.heap.objs.size → h2.get? b = some o → ((h2.update s.heap.objs.size (Obj.mapSeq (·.push Value.none))).update s.heap.objs.size (Obj.mapSeq (·.pop))).get? b = some o :=
    fun b o hb e => (Heap.get?_update_other _ _ (Ne.symm hb)).trans ((Heap.get?_update_other _ _ (Ne.symm hb)).trans e)
  have hIne : h1.objs.size ≠ s.heap.objs.size := by rw [hz1]; exact Nat.succ_ne_self _
  have hIa : a ≠ h1.objs.size := by rw [hz1]; exact Nat.ne_of_lt (Nat.lt_succ_of_lt hlt)
  have W := Vm (prog := prog) (w := w) (A := A.in1) hh h1.objs.size a hIa hd
  refine wpAny_pure ⟨plainId_quiet F.plain_extend_loop _, codeAny_extend_loopS W.toS h8 _ (fun hmem => ?_) _ es.size 0 _ #[] _ rfl (Nat.zero_le _) ⟨hI2.at fun o e => oth _ _ hIne e, oth _ _ (Ne.symm hSa) hS2⟩ hL4 (ItemsOf.nil _) fun s' acc' c' hmv hS' hacc => ?_⟩
  · rcases List.mem_cons.mp hmem with e | e
    · exact hIne e.symm
    · exact hSa (List.mem_singleton.mp e)
  · show wpAny _ A (load s.heap.objs.size >>= _) _ _ s'
    refine wpAny_bind (wpAny_load hS' ?_)
    refine wpAny_pure ?_
    have e1 : acc'.toList = es.toList.map (·.key) := by
      apply List.ext_getElem?
      intro i
      by_cases hi : i < es.size
      · have q1 : acc'[i]? = some (acc'[i]'(by rw [hacc.1]; exact hi)) := Array.getElem?_eq_getElem _
        obtain ⟨e, q2, q3⟩ := hacc.2 i _ q1
        rw [List.getElem?_map, Array.getElem?_toList, Array.getElem?_toList, q1, q2, q3]
        rfl
      · rw [List.getElem?_eq_none (by rw [Array.length_toList, hacc.1]; exact Nat.le_of_not_lt hi), List.getElem?_eq_none (by rw [List.length_map, Array.length_toList]; exact Nat.le_of_not_lt hi)]
    rw [e1]
    refine hQ s' (fun b o e => hmv.heap b o (fun hmem => ?_) (oth b o (Nat.ne_of_lt (Heap.lt_size e)) (k2 b o (k1 b o e)))) hmv.gens hmv.drawn hmv.os
    rcases List.mem_cons.mp hmem with z | z
    · exact Nat.ne_of_lt (Heap.lt_size e) z
    · have := Heap.lt_size e
      rw [List.mem_singleton.mp z, hz1] at this
      exact absurd (Nat.lt_of_succ_lt this) (Nat.lt_irrefl _)
theorem own_sorted_dict {a : Addr} {ob : Obj} {es : Array DictEntry} {ep : Nat} {Q : Value → Shared → Prop} (hh : A.handled = none) (hs : (a == sysModules) = false) (hS : s.heap.get? a = some ob) (hc : ob.ExactDict) (hd : ob.data = .dict es ep) (h64 : es.size < 64) (hT : ∀ v ∈ es.toList.map (·.key), ∃ t, OwnSortT.TT s.heap v t)
    (h : ∀ (h1 h' : Heap) (tk' : Nat) (out : Array Value) (c : Nat), out.toList.Perm (es.toList.map (·.key)) → OwnSortT.Rise s.heap out.toList → (∀ b o, s.heap.get? b = some o → h1.get? b = some o) → (∀ b o, h1.get? b = some o → h'.get? b = some o) →
      h'.get? h1.objs.size = some { cls := .type "list", dict := none, data := .seq out c, slots := #[] } → Q (.ref h1.objs.size) { s with heap := h', toks := tk' }) :
    wpAny (model prog w) A (call (.builtin "sorted") [.ref a]) Q E s := by
  refine Calls.call_function_entry PyProof.Rows.kind_sorted PyProof.Rows.plain_sorted PyProof.Rows.entry_sorted (PyProof.Rows.args_sorted1 _) ?_
  unfold Builtin.«sorted»
  refine wpAny_bind (m := checkCount "sorted" 1 1 _) (wpAny_pure (wpAny_bind (Zr hh hs hS hc hd (Nat.le_trans (Nat.le_of_lt h64) (by rw [sizeLine_eq]; decide)) fun s' k g1 g2 g3 => ?_)))
  obtain ⟨h1, g', d', tk1, os'⟩ := s'
  have e1 : g' = s.gens := g1
  have e2 : d' = s.drawn := g2
  have e3 : os' = s.os := g3
  subst e1 e2 e3
  have h64 : (es.toList.map (·.key)).length < 64 := by rw [List.length_map, Array.length_toList]; exact h64
  generalize es.toList.map (·.key) = vs at *
  refine wpAny_bind (wpAny_newList ?_)
  have hoL : (h1.push (PyProof.Rows.seqObj "list" vs.toArray 0)).get? h1.objs.size = some (PyProof.Rows.seqObj "list" vs.toArray 0) := Heap.get?_push_size _ rfl
  have up : ∀ b o, s.heap.get? b = some o → (h1.push (PyProof.Rows.seqObj "list" vs.toArray 0)).get? b = some o := fun b o e => Heap.get?_push_of_some _ (k b o e)
  refine wpAny_bind (wpAny_holding (wpAny_call_entry PyProof.Rows.slot_list_sort ⟨_, hoL, rfl⟩ PyProof.Rows.entry_list_sort (OwnSortT.ownT_list_sort hoL (fun v hv => let ⟨t, ht⟩ := hT v hv; ⟨t, ht.keep up⟩) h64 fun out p1 p2 => ⟨_, rfl, ?_⟩) (PyProof.Rows.args_list_sort _)))
  have rise : OwnSortT.Rise s.heap out.toList := by
    obtain ⟨ts, q1, q2, q3⟩ := p2
    refine ⟨ts, q1, fun i v t hv ht => ?_, q3⟩
    obtain ⟨t0, ht0⟩ := hT v (p1.mem_iff.mp (List.mem_of_getElem? hv))
    rw [(q2 i v t hv ht).uniq (ht0.keep up)]
    exact ht0
  have hn : ∀ b o, b ≠ h1.objs.size → (h1.push (PyProof.Rows.seqObj "list" vs.toArray 0)).get? b = some o → (PyProof.Rows.sortedHeap (h1.push (PyProof.Rows.seqObj "list" vs.toArray 0)) h1.objs.size vs out).get? b = some o := fun b o hb e => by
    unfold PyProof.Rows.sortedHeap
    exact (Heap.get?_update_other _ _ (Ne.symm hb)).trans (Heap.get?_push_of_some _ (Heap.get?_push_of_some _ ((Heap.get?_update_other _ _ (Ne.symm hb)).trans e)))
  have hL : ∃ c, (PyProof.Rows.sortedHeap (h1.push (PyProof.Rows.seqObj "list" vs.toArray 0)) h1.objs.size vs out).get? h1.objs.size = some { cls := .type "list", dict := none, data := .seq out c, slots := #[] } := by
    unfold PyProof.Rows.sortedHeap
    have u1 := Heap.get?_update_self (Obj.mapSeq fun _ => (#[] : Array Value)) hoL rfl
    have u2 := Heap.get?_push_of_some (PyProof.Rows.seqObj "list" #[] 0) (Heap.get?_push_of_some (PyProof.Rows.seqObj "tuple" vs.toArray 0) u1)
    exact ⟨_, Heap.get?_update_self (Obj.mapSeq fun _ => out) u2 rfl⟩
  obtain ⟨c, hL⟩ := hL
  exact wpAny_pure ⟨_, rfl, h h1 _ _ out c p1 rise k (fun b o e => hn b o (Nat.ne_of_lt (Heap.lt_size e)) (Heap.get?_push_of_some _ e)) hL⟩
end
end OwnDk
namespace Dl
open PySem L2
noncomputable def zh7 : List Key → Option (List Int)
  | [] => some []
  | .inl i :: r => (zh7 r).map (i :: ·)
  | _ => none
noncomputable def zeV : List (List Key) → Option (List (List Int))
  | [] => some []
  | k :: ks => match zh7 k with
    | some (i :: t) => (zeV ks).map ((i :: t) :: ·)
    | _ => none
theorem zhm : ∀ {k : List Key} {t : List Int}, zh7 k = some t → k = t.map Sum.inl := by
  intro k
  induction k with
  | nil => intro t h; cases h; rfl
  | cons a k ih =>
    intro t h
    cases a with
    | inl i =>
      obtain ⟨r, e, rfl⟩ := Option.map_eq_some_iff.mp h
      rw [ih e]
      rfl
    | inr x => cases h
theorem zgV : ∀ {ks : List (List Key)} {ts : List (List Int)}, zeV ks = some ts → ks = ts.map (fun t => t.map Sum.inl) ∧ ∀ t ∈ ts, t ≠ [] := by
  intro ks
  induction ks with
  | nil => intro ts h; cases h; exact ⟨rfl, fun t h => by cases h⟩
  | cons k ks ih =>
    intro ts h
    unfold zeV at h
    split at h
    · rename_i i t e
      obtain ⟨r, e2, rfl⟩ := Option.map_eq_some_iff.mp h
      obtain ⟨h1, h2⟩ := ih e2
      refine ⟨by rw [h1, zhm e]; rfl, fun u hu => ?_⟩
      rcases List.mem_cons.mp hu with rfl | hu
      · exact List.cons_ne_nil _ _
      · exact h2 u hu
    · cases h
noncomputable def zjA (t : List Int) : List (List Int) → List (List Int)
  | [] => [t]
  | u :: us => if HT.lexLt u t = true then u :: zjA t us else t :: u :: us
noncomputable def Zj : List (List Int) → List (List Int)
  | [] => []
  | t :: ts => zjA t (Zj ts)
theorem VH (t : List Int) : ∀ us : List (List Int), (zjA t us).Perm (t :: us) := by
  intro us
  induction us with
  | nil => exact List.Perm.refl _
  | cons u us ih =>
    unfold zjA
    split
    · exact (ih.cons u).trans (List.Perm.swap _ _ _)
    · exact List.Perm.refl _
theorem Xc : ∀ ts : List (List Int), (Zj ts).Perm ts := by
  intro ts
  induction ts with
  | nil => exact List.Perm.refl _
  | cons t ts ih => exact (VH t _).trans (ih.cons t)
theorem zfX (t : List Int) : ∀ us : List (List Int), us.Pairwise (fun a b => HT.lexLt b a = false) → (zjA t us).Pairwise fun a b => HT.lexLt b a = false := by
  intro us
  induction us with
  | nil => intro _; exact List.pairwise_singleton _ _
  | cons u us ih =>
    intro h
    rw [List.pairwise_cons] at h
    unfold zjA
    by_cases c : HT.lexLt u t = true
    · rw [if_pos c]
      refine List.pairwise_cons.mpr ⟨fun v hv => ?_, ih h.2⟩
      rcases List.mem_cons.mp ((VH t us).mem_iff.mp hv) with rfl | hv
      · cases e : HT.lexLt v u with
        | false => rfl
        | true =>
          have := OwnSortT.lex_trans _ _ _ c e
          rw [OwnSortT.lex_irr] at this
          cases this
      · exact h.1 v hv
    · rw [if_neg c]
      have c : HT.lexLt u t = false := by cases e : HT.lexLt u t with
        | false => rfl
        | true => exact absurd e c
      refine List.pairwise_cons.mpr ⟨fun v hv => ?_, List.pairwise_cons.mpr h⟩
      rcases List.mem_cons.mp hv with rfl | hv
      · exact c
      · cases e : HT.lexLt v t with
        | false => rfl
        | true =>
          rcases OwnSortT.lex_neg v u t e with z | z
          · rw [h.1 v hv] at z; cases z
          · rw [c] at z; cases z
theorem zaT : ∀ ts : List (List Int), (Zj ts).Pairwise fun a b => HT.lexLt b a = false := by
  intro ts
  induction ts with
  | nil => exact List.Pairwise.nil
  | cons t ts ih => exact zfX t _ ih
theorem zbZ {ts us : List (List Int)} (p : us.Perm ts) (h : us.Pairwise fun a b => HT.lexLt b a = false) : us = Zj ts :=
  List.Perm.eq_of_pairwise (le := fun a b => HT.lexLt b a = false) (fun a b _ _ h1 h2 => OwnSortT.lex_total _ _ h2 h1) h (zaT ts) (p.trans (Xc ts).symm)
noncomputable def zme (t : List Int) : D := .tup (t.map .int)
noncomputable def ZE : List D → Option (List D)
  | [.dct _ true ks _] => if ks.length < 64 then (zeV ks).map fun ts => (Zj ts).map zme else none
  | _ => none
variable [KK]
section
variable {X : Cx} {e : Expr} {pos : Pos}
theorem Gr.seeL {H : Hp} : ∀ {F : Hp} (bs : List (Addr × List V)), yG F H → (∀ b ∈ bs, H b.1 = some (.tup b.2)) → ∃ F', Gr F H F' H ∧ ∀ b ∈ bs, F' b.1 = some (.tup b.2) := by
  intro F bs
  induction bs generalizing F with
  | nil => intro s _; exact ⟨F, .refl s, fun b h => by cases h⟩
  | cons b bs ih =>
    intro s h
    obtain ⟨F1, g1, e1⟩ := Gr.see s (h b List.mem_cons_self)
    obtain ⟨F2, g2, e2⟩ := ih g1.fh fun c hc => h c (List.mem_cons_of_mem _ hc)
    refine ⟨F2, g1.trans g2, fun c hc => ?_⟩
    rcases List.mem_cons.mp hc with rfl | hc
    · exact g2.ff _ _ e1
    · exact e2 c hc
theorem zaj (hc : X.calm = true) : vh X (.builtin "sorted") (fun xs H Q => ∃ F a z ks ys ts, xs = [.ref a] ∧ yG F H ∧ Wl F a z true ks ys ∧ ks.length < 64 ∧ zeV ks = some ts ∧ ∀ l zs F', H l = none → Gr F H F' H → AtL F' ((Zj ts).map zme) zs → Q (.ref l) (upd H l (.lst zs))) := by
  intro pins s σ H xs us Q I r h
  obtain ⟨F, a, z, ks, ys, ts, rfl, sm, hd, h64, hk, q⟩ := h
  obtain ⟨u, rfl, ru⟩ := ZU r
  cases ru
  obtain ⟨rfl, hne⟩ := zgV hk
  rw [List.length_map] at h64
  obtain ⟨u, hu, hz⟩ := hd.mono sm
  unfold Wn at hu
  rw [if_pos rfl] at hu
  obtain ⟨kvs, rfl, hks, -⟩ := hu
  have ok : yB X.prog X.w H s.heap a (.dT kvs) := by
    cases z with
    | true => rw [if_pos rfl] at hz; obtain ⟨ob, e⟩ := hz; exact (show yB X.prog X.w H s.heap a (.frz ob (.dT kvs)) from I.hok a _ e).2
    | false => rw [if_neg Bool.false_ne_true] at hz; exact I.hok a _ hz
  obtain ⟨_, sys, xs, pr, o, es, ep, e1, ex, dt, he, nd⟩ := ok
  have hp := Paired.length pr
  have hkl : kvs.length = ts.length := by have := congrArg List.length hks; rw [List.length_map, List.length_map] at this; exact this
  have hkeys : es.toList.map (·.key) = xs.map fun q => Value.ref q.2.1 := by rw [he, List.map_map]; rfl
  have hsz : es.size < 64 := by rw [← Array.length_toList, he, List.length_map]; omega
  have rel : ∀ {l : List (List Key × V)} {m : List (List Key × Addr × Value)}, Paired (fun p q => p.1 = q.1 ∧ H q.2.1 = some (.tup (p.1.map kV)) ∧ yH p.2 q.2.2) l m → ∀ (j : Nat) (h1 : j < l.length) (h2 : j < m.length), l[j].1 = m[j].1 ∧ H m[j].2.1 = some (.tup (l[j].1.map kV)) := fun {l m} r => by
    induction r with
    | nil => intro j h1; simp at h1
    | cons h t ih =>
      intro j h1 h2
      cases j with
      | zero => exact ⟨h.1, h.2.1⟩
      | succ j => exact ih j (by simpa using h1) (by simpa using h2)
  have atJ : ∀ (j : Nat) (h1 : j < ts.length) (h2 : j < xs.length), H xs[j].2.1 = some (.tup (ts[j].map V.int)) := fun j h1 h2 => by
    have h3 : j < kvs.length := by omega
    obtain ⟨-, r2⟩ := rel pr j h3 h2
    have e3 : kvs[j].1 = ts[j].map Sum.inl := by
      have := congrArg (fun l => l[j]?) hks
      simp only [List.getElem?_map] at this
      rw [List.getElem?_eq_getElem h3, List.getElem?_eq_getElem h1] at this
      exact Option.some.inj this
    rw [r2, e3, List.map_map]
    rfl
  have look : ∀ {v : Value}, v ∈ (xs.map fun q => Value.ref q.2.1) → ∃ b t, v = .ref b ∧ t ∈ ts ∧ H b = some (.tup (t.map V.int)) ∧ OwnSortT.TT s.heap v t := fun {v} hv => by
    obtain ⟨j, hj, rfl⟩ := List.getElem_of_mem hv
    rw [List.length_map] at hj
    have hj2 : j < ts.length := by omega
    have hb := atJ j hj2 hj
    rw [List.getElem_map]
    obtain ⟨us, ru, ⟨o, ho, hcl, n, hd⟩, _⟩ := I.tuple (SqT.of hb)
    exact ⟨xs[j].2.1, ts[j], rfl, List.getElem_mem hj2, hb, xs[j].2.1, o, n, us, rfl, ho, hcl, hd, ww ru, hne _ (List.getElem_mem hj2)⟩
  refine OwnDk.own_sorted_dict (I.ok.hd hc) sys e1 ex dt hsz (fun v hv => by rw [hkeys] at hv; obtain ⟨b, t, -, -, -, ht⟩ := look hv; exact ⟨t, ht⟩) fun h1 h' tk out c pm ri k1 k2 hL => ?_
  rw [hkeys] at pm
  obtain ⟨us, l1, l2, l3⟩ := ri
  have zsOf : ∀ (ws : List Value) (vs : List (List Int)), ws.length = vs.length → (∀ w ∈ ws, w ∈ xs.map fun q => Value.ref q.2.1) → (∀ (i : Nat) v t, ws[i]? = some v → vs[i]? = some t → OwnSortT.TT s.heap v t) → ∃ bs : List (Addr × List Int), bs.map (·.2) = vs ∧ yl (bs.map fun b => V.ref b.1) ws ∧ ∀ b ∈ bs, H b.1 = some (.tup (b.2.map V.int)) := by
    intro ws
    induction ws with
    | nil =>
      intro vs hl _ _
      cases vs with
      | nil => exact ⟨[], rfl, .nil, fun b h => by cases h⟩
      | cons _ _ => simp at hl
    | cons w ws ih =>
      intro vs hl hm ht
      cases vs with
      | nil => simp at hl
      | cons t vs =>
        obtain ⟨bs, z0, z1, z2⟩ := ih vs (by simpa using hl) (fun w' hw' => hm w' (List.mem_cons_of_mem _ hw')) (fun i v t h1 h2 => ht (i + 1) v t (by simpa using h1) (by simpa using h2))
        obtain ⟨a, t', rfl, _, ha, htp⟩ := look (hm w List.mem_cons_self)
        have et : t' = t := htp.uniq (ht 0 _ t rfl rfl)
        subst et
        exact ⟨(a, t') :: bs, by rw [List.map_cons, z0], .cons rfl z1, fun b hb => by
          rcases List.mem_cons.mp hb with rfl | hb
          · exact ha
          · exact z2 b hb⟩
  obtain ⟨bs, z0, z1, z2⟩ := zsOf out.toList us l1 (fun w hw => pm.mem_iff.mp hw) l2
  have keysPerm : us.Perm ts := by
    have kv : ∀ (ws : List Value) (vs : List (List Int)), ws.length = vs.length → (∀ (i : Nat) v t, ws[i]? = some v → vs[i]? = some t → OwnSortT.TT s.heap v t) → vs = ws.map fun v => (OwnSortT.keyTT s.heap v).getD [] := by
      intro ws
      induction ws with
      | nil => intro vs hl _; cases vs with
        | nil => rfl
        | cons _ _ => simp at hl
      | cons w ws ih =>
        intro vs hl ht
        cases vs with
        | nil => simp at hl
        | cons t vs =>
          rw [List.map_cons, OwnSortT.keyTT_of (ht 0 w t rfl rfl), ← ih vs (by simpa using hl) fun i v t h1 h2 => ht (i + 1) v t (by simpa using h1) (by simpa using h2)]
          rfl
    rw [kv _ _ l1 l2, kv (xs.map fun q => Value.ref q.2.1) ts (by rw [List.length_map]; omega) fun i v t h1 h2 => ?_]
    · exact pm.map _
    · obtain ⟨hi, e2⟩ := List.getElem?_eq_some_iff.mp h1
      obtain ⟨hi2, e3⟩ := List.getElem?_eq_some_iff.mp h2
      rw [List.length_map] at hi
      have hb := atJ i hi2 hi
      rw [e3] at hb
      obtain ⟨us', ru', ⟨o, ho, hcl, n, hd⟩, _⟩ := I.tuple (SqT.of hb)
      exact ⟨xs[i].2.1, o, n, us', by rw [← e2, List.getElem_map], ho, hcl, hd, ww ru', hne t (by rw [← e3]; exact List.getElem_mem hi2)⟩
  have e3 := zbZ keysPerm l3
  subst e3
  obtain ⟨F', g, hF⟩ := Gr.seeL (bs.map fun b => (b.1, b.2.map V.int)) sm fun b hb => by
    obtain ⟨c, hc, rfl⟩ := List.mem_map.mp hb
    exact z2 c hc
  have az : AtL F' ((Zj ts).map zme) (bs.map fun b => V.ref b.1) := by
    rw [← z0]
    clear z0 z1 pm l1 l2
    induction bs with
    | nil => exact .nil
    | cons b bs ih => exact .cons (.tup (hF (b.1, b.2.map V.int) (List.mem_map.mpr ⟨b, List.mem_cons_self, rfl⟩)) (.ints _)) (ih (fun c hc => z2 c (List.mem_cons_of_mem _ hc)) (fun c hc => by
      obtain ⟨d, hd, rfl⟩ := List.mem_map.mp hc
      exact hF _ (List.mem_map.mpr ⟨d, List.mem_cons_of_mem _ hd, rfl⟩)))
  have I2 : Inv X pins σ H { s with heap := h1, toks := tk } := I.kept fun b u e => k1 b u e
  have hlo : (bs.map fun b => V.ref b.1).length ≤ sizeLine := by
    have hh : bs.length = (Zj ts).length := by rw [← z0, List.length_map]
    rw [List.length_map, hh, (Xc ts).length_eq, sizeLine_eq]
    omega
  exact ⟨.ref h1.objs.size, _, I2.laid (t' := tk) (fun b o e => k2 b o e) (Nat.le_refl _) (show yB X.prog X.w _ h' _ (.lst (bs.map fun b => V.ref b.1)) from ⟨hlo, out.toList, c, z1, by simpa using hL⟩), rfl, q _ _ F' (I2.hok.fresh (Nat.le_refl _)) g az⟩
theorem XN {p : Pos} {f : Ev → Option (List D)} (hc : X.calm = true) (hgl : Gl X "sorted") (hm : X.mg "sorted" = none) (ha : AD X [e] f)
    (he : starEach [e] X.env = (false, eval e X.env) :: starEach [] X.env := by rfl) (hpl : (backTo pos (starEach [] X.env)).any (·.1) = false := by rfl) : FL X (.Call (.Name "sorted" p) [e] [] pos) (fFn ZE f) := by
  obtain ⟨t, pa, ra⟩ := ha
  refine ⟨_, Yc (zaj hc) hgl hm ZH pa (by decide) (by decide) he hpl, fun σ ρ F H z Q s va e q => ?_⟩
  obtain ⟨ds, e1, e2⟩ := Option.bind_eq_some_iff.mp e
  refine ra σ ρ F H ds _ s va e1 fun F1 H1 vs g1 a1 => ?_
  have e2' := e2
  unfold ZE at e2'
  split at e2'
  · rename_i z' ks ws
    split at e2' <;> try cases e2'
    rename_i h64
    obtain ⟨ts, e3, rfl⟩ := Option.map_eq_some_iff.mp e2'
    obtain ⟨x, r, rfl, ax, ar⟩ := a1.cons_inv
    cases ar.nil_inv
    obtain ⟨p, ys, rfl, hx, bl⟩ := ax.dct_inv
    refine ⟨F1, p, z', ks, ys, ts, rfl, g1.fh, hx, h64, e3, fun l zs F' hl g az => ?_⟩
    have g2 := g1.trans g
    exact q _ _ _ _ (g2.trans (Gr.hide g2.fh hl _)) (zbU g2 hl) (g2.fh.free hl) zq az
  · cases e2'
end
noncomputable def zjB (t : Pr) : List Pr → List Pr
  | [] => [t]
  | u :: us => if OwnSort.bltP u t = true then u :: zjB t us else t :: u :: us
noncomputable def xE : List Pr → List Pr
  | [] => []
  | t :: ts => zjB t (xE ts)
omit [KK] in
theorem zai (t : Pr) : ∀ us : List Pr, (zjB t us).Perm (t :: us) := by
  intro us
  induction us with
  | nil => exact List.Perm.refl _
  | cons u us ih =>
    unfold zjB
    split
    · exact (ih.cons u).trans (List.Perm.swap _ _ _)
    · exact List.Perm.refl _
omit [KK] in
theorem zbi : ∀ ts : List Pr, (xE ts).Perm ts := by
  intro ts
  induction ts with
  | nil => exact List.Perm.refl _
  | cons t ts ih => exact (zai t _).trans (ih.cons t)
omit [KK] in
theorem ze0 (t : Pr) : ∀ us : List Pr, us.Pairwise (fun a b => OwnSort.bltP b a = false) → (zjB t us).Pairwise fun a b => OwnSort.bltP b a = false := by
  intro us
  induction us with
  | nil => intro _; exact List.pairwise_singleton _ _
  | cons u us ih =>
    intro h
    rw [List.pairwise_cons] at h
    unfold zjB
    by_cases c : OwnSort.bltP u t = true
    · rw [if_pos c]
      refine List.pairwise_cons.mpr ⟨fun v hv => ?_, ih h.2⟩
      rcases List.mem_cons.mp ((zai t us).mem_iff.mp hv) with rfl | hv
      · unfold OwnSort.bltP at c ⊢
        rw [decide_eq_true_eq] at c
        exact decide_eq_false (by omega)
      · exact h.1 v hv
    · rw [if_neg c]
      refine List.pairwise_cons.mpr ⟨fun v hv => ?_, List.pairwise_cons.mpr h⟩
      rcases List.mem_cons.mp hv with rfl | hv
      · cases e : OwnSort.bltP v t with
        | false => rfl
        | true => exact absurd e c
      · have h1 := h.1 v hv
        unfold OwnSort.bltP at c h1 ⊢
        rw [decide_eq_true_eq] at c
        rw [decide_eq_false_iff_not] at h1
        exact decide_eq_false (by omega)
omit [KK] in
theorem Vt (ts : List Pr) : xE ts = YM ts := by
  refine YL (zbi ts) ?_
  induction ts with
  | nil => exact List.Pairwise.nil
  | cons t ts ih => exact ze0 t _ ih
noncomputable def zdw : List D → Option (List D)
  | [.lst ds] => if ds.length < 64 then (YW ds).map fun ts => (xE ts).map prD else none
  | _ => none
omit [KK] in
theorem zer {ds : List D} {z : List D} (h : zdw ds = some z) : VY ds = some z := by
  unfold zdw at h
  split at h
  · rename_i es
    show (if es.length < 64 then _ else none) = _
    split at h
    · rename_i h64
      obtain ⟨ts, e, rfl⟩ := Option.map_eq_some_iff.mp h
      rw [if_pos h64, e, Vt]
    · cases h
  · cases h
theorem zd2 {X : Cx} {e : Expr} {pos p : Pos} {f : Ev → Option (List D)} (hc : X.calm = true) (hgl : Gl X "sorted") (hm : X.mg "sorted" = none) (ha : AD X [e] f)
    (he : starEach [e] X.env = (false, eval e X.env) :: starEach [] X.env := by rfl) (hpl : (backTo pos (starEach [] X.env)).any (·.1) = false := by rfl) : FL X (.Call (.Name "sorted" p) [e] [] pos) (fFn zdw f) := by
  obtain ⟨t, pt, r⟩ := zaE hc hgl hm ha he hpl
  refine ⟨t, pt, fun σ ρ F H z Q s va e q => r σ ρ F H z Q s va ?_ q⟩
  obtain ⟨ds, e1, e2⟩ := Option.bind_eq_some_iff.mp e
  unfold fFn
  rw [e1]
  exact zer e2
end Dl
namespace Dl
open PySem L2
variable [KK] {X : Cx} {tg a : Expr} {pos : Pos}
end Dl
namespace Mz
open PySem Dl
noncomputable abbrev Tie := Int × Int
noncomputable def ltP (s t : Tie) : Prop := s.1 < t.1 ∨ (s.1 = t.1 ∧ s.2 < t.2)
noncomputable instance (s t : Tie) : Decidable (ltP s t) := by unfold ltP; infer_instance
theorem zeJ {a b c : Tie} (h : ltP a b) (k : ltP b c) : ltP a c := by
  unfold ltP at *
  omega
noncomputable def zk (t : Tie) : D := .tup [.int t.1, .int t.2]
theorem zeR {s t : Tie} (h : zk s = zk t) : s = t := by
  unfold zk at h
  injection h with h
  injection h with h1 h2
  injection h2 with h2 _
  injection h1 with h1
  injection h2 with h2
  exact Prod.ext h1 h2
noncomputable def zm (many : Int) (ties : List Tie) : D := .tup [.int many, .tup (ties.map zk)]
set_option genInjectivity false in
set_option genSizeOf false in
set_option genCtorIdx false in
structure zcW (many : Int) (ties : List Tie) : Prop where
  lo : 1 ≤ many
  hi : many ≤ 8
  rng : ∀ t ∈ ties, 0 ≤ t.1 ∧ t.1 < t.2 ∧ t.2 < many
  srt : ties.Pairwise ltP
noncomputable def leP (s t : Tie) : Bool := if s.1 = t.1 then (if s.2 = t.2 then true else decide (s.2 ≤ t.2)) else decide (s.1 ≤ t.1)
theorem Xa {s t : Tie} : leP s t = false ↔ ltP t s := by
  unfold leP ltP
  by_cases h : s.1 = t.1
  · rw [if_pos h]
    by_cases k : s.2 = t.2
    · rw [if_pos k]; simp; omega
    · rw [if_neg k, decide_eq_false_iff_not]; omega
  · rw [if_neg h, decide_eq_false_iff_not]; omega
noncomputable def vP : D → Option Tie
  | .tup [.int a, .int b] => some (a, b)
  | _ => none
theorem wT (t : Tie) : vP (zk t) = some t := rfl
theorem Z1 {d : D} {t : Tie} (h : vP d = some t) : d = zk t := by
  unfold vP at h
  split at h
  · cases h; rfl
  · cases h
noncomputable def inR (m a : Int) : Bool := decide (0 ≤ a) && decide (a ≤ m - 1)
noncomputable def xy (m : Int) (d : D) : Bool := match vP d with
  | some t => inR m t.1 && inR m t.2 && !decide (t.1 = t.2)
  | none => false
noncomputable def V4 (p : Option Tie) (t : Tie) : Bool := match p with
  | some q => !leP t q
  | none => true
noncomputable def yh (m : Int) : Option Tie → List D → Bool
  | _, [] => true
  | p, d :: r => match vP d with
    | some t => xy m d && !decide (t.2 < t.1) && V4 p t && yh m (some t) r
    | none => false
noncomputable def vq (m : Int) : D → Bool
  | .tup ts => yh m none ts
  | _ => false
noncomputable def vm : D → Bool
  | .tup [.int m, t] => decide (1 ≤ m) && decide (m ≤ 8) && vq m t
  | _ => false
theorem Y8 (m : Int) : ∀ (ts : List D) (p : Option Tie), yh m p ts = true ↔ ∃ l : List Tie, ts = l.map zk ∧ (∀ t ∈ l, 0 ≤ t.1 ∧ t.1 < t.2 ∧ t.2 < m) ∧ (∀ q, p = some q → ∀ t ∈ l, ltP q t) ∧ l.Pairwise ltP := by
  intro ts
  induction ts with
  | nil =>
    intro p
    refine ⟨fun _ => ⟨[], rfl, by simp, by simp, .nil⟩, fun _ => rfl⟩
  | cons d r ih =>
    intro p
    unfold yh
    cases e : vP d with
    | none =>
      refine Iff.intro (fun h => nomatch h) (fun hh => ?_)
      obtain ⟨l, h, _⟩ := hh
      cases l with
      | nil => cases h
      | cons t l' =>
        rw [List.map_cons] at h
        injection h with h1 _
        rw [h1, wT] at e
        cases e
    | some t =>
      have ed := Z1 e
      subst ed
      simp only [xy, wT, Bool.and_eq_true, Bool.not_eq_true', decide_eq_false_iff_not, inR, decide_eq_true_eq]
      rw [ih (some t)]
      constructor
      · rintro ⟨⟨⟨⟨⟨h1, h2⟩, h3⟩, h4⟩, h5⟩, l, rfl, hr, hq, hs⟩
        refine ⟨t :: l, rfl, ?_, ?_, List.pairwise_cons.mpr ⟨hq t rfl, hs⟩⟩
        · intro u hu
          rcases List.mem_cons.mp hu with rfl | hu
          · omega
          · exact hr u hu
        · rintro q rfl u hu
          have hqt : ltP q t := Xa.mp (by simpa [V4] using h5)
          rcases List.mem_cons.mp hu with rfl | hu
          · exact hqt
          · exact zeJ hqt (hq t rfl u hu)
      · rintro ⟨l, h, hr, hq, hs⟩
        cases l with
        | nil => cases h
        | cons u l' =>
          rw [List.map_cons] at h
          injection h with h1 h2
          have hu := zeR h1
          subst hu
          have hb := hr t (by simp)
          refine ⟨⟨⟨⟨⟨by omega, by omega⟩, by omega⟩, by omega⟩, ?_⟩, l', h2, fun v hv => hr v (by simp [hv]), fun q hqe v hv => ?_, (List.pairwise_cons.mp hs).2⟩
          · cases p with
            | none => rfl
            | some q =>
              have := Xa.mpr (hq q rfl t (by simp))
              simp [V4, this]
          · cases hqe
            exact (List.pairwise_cons.mp hs).1 v hv
theorem vo (d : D) : vm d = true ↔ ∃ m ties, d = zm m ties ∧ zcW m ties := by
  constructor
  · intro h
    unfold vm at h
    split at h
    · rename_i m t
      simp only [Bool.and_eq_true, decide_eq_true_eq] at h
      obtain ⟨⟨h1, h2⟩, h3⟩ := h
      unfold vq at h3
      split at h3
      · rename_i ts
        obtain ⟨l, rfl, hr, _, hs⟩ := (Y8 m ts none).mp h3
        exact ⟨m, l, rfl, h1, h2, hr, hs⟩
      · cases h3
    · cases h
  · rintro ⟨m, ties, rfl, w⟩
    unfold zm vm vq
    simp only [Bool.and_eq_true, decide_eq_true_eq]
    exact ⟨⟨w.lo, w.hi⟩, (Y8 m _ none).mpr ⟨ties, rfl, w.rng, by simp, w.srt⟩⟩
theorem zik {d : D} (h : ∀ m ties, d = zm m ties → ¬ zcW m ties) : vm d = false := by
  cases e : vm d with
  | false => rfl
  | true =>
    obtain ⟨m, ties, rfl, w⟩ := (vo d).mp e
    exact absurd w (h m ties rfl)
noncomputable def zC (n : Nat) : List Tie := (List.range n).flatMap fun a => (List.range (n - (a + 1))).map fun (j : Nat) => ((a : Int), (a : Int) + 1 + (j : Int))
theorem vb : ∀ n : Nat, n ≤ 8 → (zC n).Pairwise ltP ∧ (∀ t ∈ zC n, 0 ≤ t.1 ∧ t.1 < t.2 ∧ t.2 < (n : Int)) ∧ (zC n).length ≤ 28 := by
  have h : ∀ n : _root_.Fin 9, (zC n.val).Pairwise ltP ∧ (∀ t ∈ zC n.val, 0 ≤ t.1 ∧ t.1 < t.2 ∧ t.2 < (n.val : Int)) ∧ (zC n.val).length ≤ 28 := by decide +kernel
  exact fun n hn => h ⟨n, by omega⟩
end Mz
namespace Mz
open Dl
noncomputable def zbX (i j : Nat) : List Tie := (List.range j).map fun (k : Nat) => ((i : Int), (i : Int) + 1 + (k : Int))
noncomputable def xa (n i : Nat) : List Tie := (List.range i).flatMap fun a => zbX a (n - (a + 1))
theorem zfn (n : Nat) : zC n = xa n n := rfl
theorem Zf (n i : Nat) : xa n (i + 1) = xa n i ++ zbX i (n - (i + 1)) := by
  unfold xa
  rw [List.range_succ, List.flatMap_append]
  simp
theorem Y9 (i j : Nat) : (zbX i j).length = j := by unfold zbX; simp
theorem zd7 (n : Nat) (hn : n ≤ 8) : ∀ i : Nat, (xa n i).length ≤ 8 * i := by
  intro i
  induction i with
  | zero => simp [xa]
  | succ i ih =>
    rw [Zf, List.length_append, Y9]
    omega
noncomputable def zel (c k : Int) : Int :=
  let a := (c % 2147483647 + 977 * k + 1) * 48271 % 2147483647
  let b := a * a % 2147483629
  (b + 40692 * (k + 3)) * 69621 % 2147483647 / 8
end Mz
namespace Mz
open Dl
theorem Yr {P : Nat → Prop} : ∀ k, P k → ∃ j, P j ∧ ∀ i, P i → j ≤ i := by
  intro k
  induction k using Nat.strongRecOn with
  | _ k ih =>
    intro h
    by_cases c : ∃ i, i < k ∧ P i
    · obtain ⟨i, hi, h2⟩ := c
      exact ih i hi h2
    · exact ⟨k, h, fun i hi => Nat.le_of_not_lt fun z => c ⟨i, z, hi⟩⟩
theorem zkH {n : Nat} {i : Int} (h0 : 0 ≤ i) (h1 : i < n) : L2.ixN n i = some i.toNat := by
  unfold L2.ixN
  rw [if_pos h0, if_pos h1]
theorem zj1 {α : Type} {xs : List α} {i : Int} {x : α} (h0 : 0 ≤ i) (h : xs[i.toNat]? = some x) : L2.atI xs i = some x := by
  have := (List.getElem?_eq_some_iff.mp h).1
  unfold L2.atI
  rw [zkH h0 (by omega)]
  exact h
theorem XL (ts : List Tie) : (YM ts).Perm ts := List.mergeSort_perm _ _
theorem zam {ts : List Tie} (h : ts.Nodup) : (YM ts).Pairwise ltP := by
  have h1 : (YM ts).Pairwise fun a b => zju a b = true := List.pairwise_mergeSort (fun a b c h1 h2 => by rw [wa] at *; omega) (fun a b => by rw [Bool.or_eq_true, wa, wa]; omega) _
  have h2 : (YM ts).Nodup := (XL ts).nodup_iff.mpr h
  refine (h1.and h2).imp fun {a b} hh => ?_
  obtain ⟨x, y⟩ := hh
  rw [wa] at x
  unfold ltP
  rcases x with x | x
  · exact .inl x
  · refine .inr ⟨x.1, ?_⟩
    have : a.2 ≠ b.2 := fun e => y (Prod.ext x.1 e)
    omega
theorem zgs {α : Type} (xs : List α) (lo hi : Option Int) : (zaF xs lo hi).length ≤ xs.length := by
  unfold zaF
  rw [List.length_take, List.length_drop]
  omega
theorem zdp {a b : List D} (h : a.length + b.length ≤ 1000) : we (.lst a) (.lst b) = some (.lst (a ++ b)) := by
  show (if lim (a.length + b.length) = true then _ else none) = _
  rw [if_pos (YB h)]
theorem vY {m : Bool} {i : Nat} {f : Ev → Option D} {ρ ρ' : SE} {d : D} (h : vEv m f ρ = some d) (h2 : ρ.set i (.v d) = ρ' := by rfl) : xF m i f ρ = .nx ρ' := by
  unfold xF
  rw [h, ← h2]
theorem vZ {f : Ev → Option D} {ρ : SE} {d : D} (h : f (visG ρ) = some d) : yK f ρ = .rt d := by
  unfold yK
  rw [h]
theorem ziV {i : Nat} {f : Ev → Option (List D)} {ρ ρ' : SE} {ds : List D} (h : f (visF ρ) = some ds) (h2 : ρ.set i (.o ds) = ρ' := by rfl) : Xn i f ρ = .nx ρ' := by
  unfold Xn
  rw [h, ← h2]
theorem v2 {a b : Int} : neD (.int a) (.int b) = some (.bl (!decide (a = b))) := rfl
theorem Yk {a m x : Int} (h : 0 < m) (hx : a % m = x) : 0 ≤ x ∧ x < m := by
  subst hx
  exact ⟨Int.emod_nonneg _ (by omega), Int.emod_lt_of_pos _ h⟩
theorem zkd {m : Int} {n : Nat} (h : m = ((n + 1 : Nat) : Int)) (h7 : n ≤ 7) : Xh [.int 1, .int m] = some (Zk 1 n) := by
  show (if zfA 1 = true ∧ zfA m = true then some (Zk 1 (m - 1).toNat) else none) = _
  rw [if_pos ⟨zX.mpr ⟨by omega, by omega⟩, zX.mpr ⟨by omega, by omega⟩⟩, show (m - 1).toNat = n by omega]
theorem wL {a b : Int} : Xf (.int a) (.int b) = some (.bl (decide (a = b))) := rfl
theorem vX {a b : Bool} : Xf (.bl a) (.bl b) = some (.bl (decide (a = b))) := rfl
theorem wG {a b : PySem.Str} : Xf (.str a) (.str b) = some (.bl (decide (a = b))) := rfl
theorem xG {a b : Int} : we (.int a) (.int b) = some (.int (a + b)) := rfl
end Mz
namespace Mz
open Dl
theorem zfm {α : Type} (xs : List α) (k : Nat) : zaF xs none (some (k : Int)) = xs.take k := by
  unfold zaF
  rw [HT.sIx_none, List.drop_zero, Nat.sub_zero, HT.sIx_nat]
  by_cases h : k ≤ xs.length
  · rw [Nat.min_eq_left h]
  · rw [Nat.min_eq_right (by omega), List.take_of_length_le (Nat.le_refl _), List.take_of_length_le (by omega)]
section
variable {ρ : Ev} {f g h : Ev → Option D} {a : Ev → Option (List D)} {t u : Ev → Option Bool} {d e x y z : D} {ds es : List D} {b c : Bool}
theorem XC : zu ρ = some [] := rfl
theorem v8 (h1 : f ρ = some d) (h2 : a ρ = some ds) : zc f a ρ = some (d :: ds) := by unfold zc; rw [h1, h2]; rfl
theorem YT {n : Nat} {p : List D → Option D} (h1 : a ρ = some ds) (h2 : p ds = some d) (hl : ds.length = n := by rfl) : zt n p a ρ = some d := by
  unfold zt
  rw [h1, Option.bind_some, if_pos hl, h2]
theorem Z3 {i n : Nat} {p : List D → Option D} {σ σ' : SE} (h1 : a (visF σ) = some ds) (h2 : p ds = some d) (hl : ds.length = n := by rfl) (h3 : σ.set i (.v d) = σ' := by rfl) : xF false i (zt n p a) σ = .nx σ' := vY (show zt n p a (visF σ) = some d from YT h1 h2 hl) h3
theorem zfP {i : Nat} {f : Ev → Option D} {σ σ' : SE} (h : f (visF σ) = some d) (h3 : σ.set i (.v d) = σ' := by rfl) : xF false i f σ = .nx σ' := vY (show f (visF σ) = some d from h) h3
theorem xC {k : D → D → Option D} (h1 : f ρ = some x) (h2 : g ρ = some y) (h3 : k x y = some z) : zn k f g ρ = some z := by unfold zn; rw [h1, h2]; exact h3
theorem zfI (h1 : a ρ = some ds) : xR a ρ = some (.lst ds) := by unfold xR; rw [h1]; rfl
theorem zi7 {k : List D → Option D} (h1 : a ρ = some ds) (h2 : k ds = some d) : eFn k a ρ = some d := by unfold eFn; rw [h1]; exact h2
theorem zhA {k : List D → Option (List D)} (h1 : a ρ = some ds) (h2 : k ds = some es) : fFn k a ρ = some es := by unfold fFn; rw [h1]; exact h2
theorem zj8 (h1 : a ρ = some ds) (hl : ds.length ≤ 1000) : Yu a ρ = some (.tup ds) := by unfold Yu; rw [h1, Option.bind_some, if_pos (YB hl)]
theorem zeS (h1 : f ρ = some d) (h2 : wQ d = some ds) : iOf f ρ = some ds := by unfold iOf; rw [h1]; exact h2
theorem zh6 (h1 : f ρ = some (.bl b)) : tOf f ρ = some b := by unfold tOf; rw [h1]; rfl
end
end Mz
namespace Mz
open PySem L2 Dl
noncomputable def top (i : Nat) : Stmt := PySem.Challenge.pw_twoforone_k64_whole_needs_hang_together.main.body.getD i (.Pass ⟨0, 0, 0, 0⟩)
noncomputable abbrev y0 : Stmt := top 10
noncomputable abbrev zK : Stmt := top 11
noncomputable abbrev zT : Stmt := top 12
noncomputable abbrev zI : Stmt := top 13
noncomputable abbrev zR : Stmt := top 14
noncomputable abbrev xc : Stmt := top 15
noncomputable abbrev xL : Stmt := top 17
noncomputable abbrev y4 : Stmt := top 18
noncomputable abbrev wt : Stmt := top 19
noncomputable abbrev yo : Stmt := top 20
noncomputable abbrev zY : Stmt := top 21
noncomputable abbrev yu : Stmt := top 22
noncomputable abbrev yC : Stmt := top 23
noncomputable abbrev yM : Stmt := top 24
noncomputable abbrev XI : Stmt := top 25
noncomputable abbrev wm : Stmt := top 26
noncomputable abbrev yN : Stmt := top 27
noncomputable abbrev yO : Stmt := top 29
noncomputable abbrev xK : Stmt := top 30
noncomputable abbrev zH : Stmt := top 34
noncomputable abbrev zV : Stmt := top 35
noncomputable abbrev vy : Stmt := top 36
noncomputable abbrev xf : Stmt := top 37
noncomputable abbrev yr : Stmt := top 38
noncomputable abbrev zS : Stmt := top 39
noncomputable abbrev vA : Stmt := top 40
noncomputable abbrev yt : Stmt := top 41
noncomputable abbrev YO : Stmt := top 42
noncomputable abbrev vE : Stmt := top 43
noncomputable abbrev yE : Stmt := top 45
noncomputable abbrev yL : Stmt := top 46
noncomputable abbrev yq : Stmt := top 47
noncomputable abbrev zU : Stmt := top 48
noncomputable abbrev yZ : Stmt := top 49
noncomputable abbrev yD : Stmt := top 50
noncomputable abbrev XA : Stmt := top 51
theorem zcG : zw ["thing"] ["thing"] (ze y0) := ⟨rfl, rfl, rfl, by decide +kernel, rfl, by decide +kernel, by decide +kernel⟩
theorem Yb : zw ["thing", "least", "most"] ["thing", "least", "most"] (ze zK) := ⟨rfl, rfl, rfl, by decide +kernel, rfl, by decide +kernel, by decide +kernel⟩
theorem YI : zw ["thing", "least", "most"] ["thing", "least", "most"] (ze zT) := ⟨rfl, rfl, rfl, by decide +kernel, rfl, by decide +kernel, by decide +kernel⟩
theorem Ym : zw ["many", "most"] ["many", "most"] (ze zI) := ⟨rfl, rfl, rfl, by decide +kernel, rfl, by decide +kernel, by decide +kernel⟩
theorem YN : zw ["thing"] ["thing"] (ze zR) := ⟨rfl, rfl, rfl, by decide +kernel, rfl, by decide +kernel, by decide +kernel⟩
theorem zaL : zw ["many", "thing"] ["many", "thing"] (ze xc) := ⟨rfl, rfl, rfl, by decide +kernel, rfl, by decide +kernel, by decide +kernel⟩
theorem zdQ : zw ["many", "thing"] ["many", "thing"] (ze xL) := ⟨rfl, rfl, rfl, by decide +kernel, rfl, by decide +kernel, by decide +kernel⟩
theorem vW : zw ["many", "thing", "at", "tie"] ["many", "thing"] (ze y4) := ⟨rfl, rfl, rfl, by decide +kernel, rfl, by decide +kernel, by decide +kernel⟩
theorem zfJ : zw ["thing"] ["thing"] (ze wt) := ⟨rfl, rfl, rfl, by decide +kernel, rfl, by decide +kernel, by decide +kernel⟩
theorem Xk : zw ["thing"] ["thing"] (ze yo) := ⟨rfl, rfl, rfl, by decide +kernel, rfl, by decide +kernel, by decide +kernel⟩
theorem Zq : zw ["web", "thing"] ["web", "thing"] (ze zY) := ⟨rfl, rfl, rfl, by decide +kernel, rfl, by decide +kernel, by decide +kernel⟩
theorem Xj : zw ["one", "other"] ["one", "other"] (ze yu) := ⟨rfl, rfl, rfl, by decide +kernel, rfl, by decide +kernel, by decide +kernel⟩
theorem X8 : zw ["web", "place"] ["web", "place"] (ze yC) := ⟨rfl, rfl, rfl, by decide +kernel, rfl, by decide +kernel, by decide +kernel⟩
theorem yx : zw ["web", "start", "away", "rim", "further", "place", "other"] ["web", "start"] (ze yM) := ⟨rfl, rfl, rfl, by decide +kernel, rfl, by decide +kernel, by decide +kernel⟩
theorem zk2 : zw ["web", "one", "other"] ["web", "one", "other"] (ze XI) := ⟨rfl, rfl, rfl, by decide +kernel, rfl, by decide +kernel, by decide +kernel⟩
theorem wS : zw ["web", "found", "start", "away", "piece"] ["web"] (ze wm) := ⟨rfl, rfl, rfl, by decide +kernel, rfl, by decide +kernel, by decide +kernel⟩
theorem Vl : zw ["web"] ["web"] (ze yN) := ⟨rfl, rfl, rfl, by decide +kernel, rfl, by decide +kernel, by decide +kernel⟩
theorem w6 : zw ["web", "found", "place"] ["web"] (ze yO) := ⟨rfl, rfl, rfl, by decide +kernel, rfl, by decide +kernel, by decide +kernel⟩
theorem XE : zw ["heap", "step", "stones"] ["heap", "step"] (ze xK) := ⟨rfl, rfl, rfl, by decide +kernel, rfl, by decide +kernel, by decide +kernel⟩
theorem Yx : zw ["web"] ["web"] (ze zH) := ⟨rfl, rfl, rfl, by decide +kernel, rfl, by decide +kernel, by decide +kernel⟩
theorem Y3 : zw ["web", "place", "m"] ["web", "place", "m"] (ze zV) := ⟨rfl, rfl, rfl, by decide +kernel, rfl, by decide +kernel, by decide +kernel⟩
theorem zds : zw ["heap", "last"] ["heap"] (ze vy) := ⟨rfl, rfl, rfl, by decide +kernel, rfl, by decide +kernel, by decide +kernel⟩
theorem ZR : zw ["heap", "steps", "level", "step"] ["heap", "steps", "level"] (ze xf) := ⟨rfl, rfl, rfl, by decide +kernel, rfl, by decide +kernel, by decide +kernel⟩
theorem xi : zw ["level", "steps", "place", "m", "above", "heap", "more"] ["level", "steps", "place", "m"] (ze yr) := ⟨rfl, rfl, rfl, by decide +kernel, rfl, by decide +kernel, by decide +kernel⟩
theorem yb : zw ["web", "place", "m", "most", "steps", "levels", "level"] ["web", "place", "m", "most"] (ze zS) := ⟨rfl, rfl, rfl, by decide +kernel, rfl, by decide +kernel, by decide +kernel⟩
theorem zdk : zw ["web", "place", "m", "stones", "levels"] ["web", "place", "m", "stones"] (ze vA) := ⟨rfl, rfl, rfl, by decide +kernel, rfl, by decide +kernel, by decide +kernel⟩
theorem Xo : zw ["web", "place", "m"] ["web", "place", "m"] (ze yt) := ⟨rfl, rfl, rfl, by decide +kernel, rfl, by decide +kernel, by decide +kernel⟩
theorem zjd : zw ["web", "place", "m"] ["web", "place", "m"] (ze YO) := ⟨rfl, rfl, rfl, by decide +kernel, rfl, by decide +kernel, by decide +kernel⟩
theorem zgc : zw ["web", "place", "m"] ["web", "place", "m"] (ze vE) := ⟨rfl, rfl, rfl, by decide +kernel, rfl, by decide +kernel, by decide +kernel⟩
theorem xH : zw ["many", "found", "a"] ["many"] (ze yE) := ⟨rfl, rfl, rfl, by decide +kernel, rfl, by decide +kernel, by decide +kernel⟩
theorem xW : zw ["cell", "k", "number"] ["cell", "k"] (ze yL) := ⟨rfl, rfl, rfl, by decide +kernel, rfl, by decide +kernel, by decide +kernel⟩
theorem xj : zw ["many", "cell", "ties", "k", "tie"] ["many", "cell"] (ze yq) := ⟨rfl, rfl, rfl, by decide +kernel, rfl, by decide +kernel, by decide +kernel⟩
theorem yF : zw ["many", "cell", "ties", "k", "tie"] ["many", "cell"] (ze zU) := ⟨rfl, rfl, rfl, by decide +kernel, rfl, by decide +kernel, by decide +kernel⟩
theorem wI : zw ["web", "heap", "found", "a", "b"] ["web", "heap"] (ze yZ) := ⟨rfl, rfl, rfl, by decide +kernel, rfl, by decide +kernel, by decide +kernel⟩
theorem Yy : zw ["heap", "step", "found"] ["heap", "step"] (ze yD) := ⟨rfl, rfl, rfl, by decide +kernel, rfl, by decide +kernel, by decide +kernel⟩
theorem xU : zw ["script", "cell", "many", "web", "m", "place", "due", "ties", "lacking", "more", "lesser", "heap", "k", "step"] ["script"] (ze XA) := ⟨rfl, rfl, rfl, by decide +kernel, rfl, by decide +kernel, by decide +kernel⟩
set_option genInjectivity false in
set_option genSizeOf false in
set_option genCtorIdx false in
structure Adr where
  f_is_whole : Addr
  e_is_whole : FuncData
  f_is_whole_within : Addr
  e_is_whole_within : FuncData
  f_must_be_within : Addr
  e_must_be_within : FuncData
  f_must_be_at_most : Addr
  e_must_be_at_most : FuncData
  f_is_place_count : Addr
  e_is_place_count : FuncData
  f_is_place : Addr
  e_is_place : FuncData
  f_is_pair : Addr
  e_is_pair : FuncData
  f_are_ties : Addr
  e_are_ties : FuncData
  f_is_web : Addr
  e_is_web : FuncData
  f_must_be_web : Addr
  e_must_be_web : FuncData
  f_must_be_place : Addr
  e_must_be_place : FuncData
  f_tie_between : Addr
  e_tie_between : FuncData
  f_neighbours : Addr
  e_neighbours : FuncData
  f_ties_away : Addr
  e_ties_away : FuncData
  f_far : Addr
  e_far : FuncData
  f_pieces : Addr
  e_pieces : FuncData
  f_is_joined : Addr
  e_is_joined : FuncData
  f_all_steps : Addr
  e_all_steps : FuncData
  f_stepped : Addr
  e_stepped : FuncData
  f_must_be_counted : Addr
  e_must_be_counted : FuncData
  f_must_be_wanted : Addr
  e_must_be_wanted : FuncData
  f_grown : Addr
  e_grown : FuncData
  f_leads_to : Addr
  e_leads_to : FuncData
  f_level_above : Addr
  e_level_above : FuncData
  f_failing_levels : Addr
  e_failing_levels : FuncData
  f_fails : Addr
  e_fails : FuncData
  f_all_failing : Addr
  e_all_failing : FuncData
  f_need : Addr
  e_need : FuncData
  f_worst : Addr
  e_worst : FuncData
  f__law_pairs : Addr
  e__law_pairs : FuncData
  f__law_stir : Addr
  e__law_stir : FuncData
  f__law_web_by : Addr
  e__law_web_by : FuncData
  f__law_joined_by : Addr
  e__law_joined_by : FuncData
  f__law_may : Addr
  e__law_may : FuncData
  f__law_moved : Addr
  e__law_moved : FuncData
  f_law : Addr
  e_law : FuncData
  t_MOST_PLACES : Tok
  t_MOST_STONES : Tok
  t_MOST_WANTED : Tok
  t_MOST_COUNTED : Tok
set_option genInjectivity false in
set_option genSizeOf false in
set_option genCtorIdx false in
structure Txt (K : PySem.W.Frag) (mg : Str → Option Value) (ad : Adr) : Prop where
  d_is_whole : Def K mg "is_whole" y0 ["thing"] ad.f_is_whole ad.e_is_whole
  d_is_whole_within : Def K mg "is_whole_within" zK ["thing", "least", "most"] ad.f_is_whole_within ad.e_is_whole_within
  d_must_be_within : Def K mg "must_be_within" zT ["thing", "least", "most"] ad.f_must_be_within ad.e_must_be_within
  d_must_be_at_most : Def K mg "must_be_at_most" zI ["many", "most"] ad.f_must_be_at_most ad.e_must_be_at_most
  d_is_place_count : Def K mg "is_place_count" zR ["thing"] ad.f_is_place_count ad.e_is_place_count
  d_is_place : Def K mg "is_place" xc ["many", "thing"] ad.f_is_place ad.e_is_place
  d_is_pair : Def K mg "is_pair" xL ["many", "thing"] ad.f_is_pair ad.e_is_pair
  d_are_ties : Def K mg "are_ties" y4 ["many", "thing"] ad.f_are_ties ad.e_are_ties
  d_is_web : Def K mg "is_web" wt ["thing"] ad.f_is_web ad.e_is_web
  d_must_be_web : Def K mg "must_be_web" yo ["thing"] ad.f_must_be_web ad.e_must_be_web
  d_must_be_place : Def K mg "must_be_place" zY ["web", "thing"] ad.f_must_be_place ad.e_must_be_place
  d_tie_between : Def K mg "tie_between" yu ["one", "other"] ad.f_tie_between ad.e_tie_between
  d_neighbours : Def K mg "neighbours" yC ["web", "place"] ad.f_neighbours ad.e_neighbours
  d_ties_away : Def K mg "ties_away" yM ["web", "start"] ad.f_ties_away ad.e_ties_away
  d_far : Def K mg "far" XI ["web", "one", "other"] ad.f_far ad.e_far
  d_pieces : Def K mg "pieces" wm ["web"] ad.f_pieces ad.e_pieces
  d_is_joined : Def K mg "is_joined" yN ["web"] ad.f_is_joined ad.e_is_joined
  d_all_steps : Def K mg "all_steps" yO ["web"] ad.f_all_steps ad.e_all_steps
  d_stepped : Def K mg "stepped" xK ["heap", "step"] ad.f_stepped ad.e_stepped
  d_must_be_counted : Def K mg "must_be_counted" zH ["web"] ad.f_must_be_counted ad.e_must_be_counted
  d_must_be_wanted : Def K mg "must_be_wanted" zV ["web", "place", "m"] ad.f_must_be_wanted ad.e_must_be_wanted
  d_grown : Def K mg "grown" vy ["heap"] ad.f_grown ad.e_grown
  d_leads_to : Def K mg "leads_to" xf ["heap", "steps", "level"] ad.f_leads_to ad.e_leads_to
  d_level_above : Def K mg "level_above" yr ["level", "steps", "place", "m"] ad.f_level_above ad.e_level_above
  d_failing_levels : Def K mg "failing_levels" zS ["web", "place", "m", "most"] ad.f_failing_levels ad.e_failing_levels
  d_fails : Def K mg "fails" vA ["web", "place", "m", "stones"] ad.f_fails ad.e_fails
  d_all_failing : Def K mg "all_failing" yt ["web", "place", "m"] ad.f_all_failing ad.e_all_failing
  d_need : Def K mg "need" YO ["web", "place", "m"] ad.f_need ad.e_need
  d_worst : Def K mg "worst" vE ["web", "place", "m"] ad.f_worst ad.e_worst
  d__law_pairs : Def K mg "_law_pairs" yE ["many"] ad.f__law_pairs ad.e__law_pairs
  d__law_stir : Def K mg "_law_stir" yL ["cell", "k"] ad.f__law_stir ad.e__law_stir
  d__law_web_by : Def K mg "_law_web_by" yq ["many", "cell"] ad.f__law_web_by ad.e__law_web_by
  d__law_joined_by : Def K mg "_law_joined_by" zU ["many", "cell"] ad.f__law_joined_by ad.e__law_joined_by
  d__law_may : Def K mg "_law_may" yZ ["web", "heap"] ad.f__law_may ad.e__law_may
  d__law_moved : Def K mg "_law_moved" yD ["heap", "step"] ad.f__law_moved ad.e__law_moved
  d_law : Def K mg "law" XA ["script"] ad.f_law ad.e_law
  g_MOST_PLACES : mg "MOST_PLACES" = some (Value.int 8 ad.t_MOST_PLACES)
  g_MOST_STONES : mg "MOST_STONES" = some (Value.int 300 ad.t_MOST_STONES)
  g_MOST_WANTED : mg "MOST_WANTED" = some (Value.int 3 ad.t_MOST_WANTED)
  g_MOST_COUNTED : mg "MOST_COUNTED" = some (Value.int 6 ad.t_MOST_COUNTED)
  z_bool : mg "bool" = none
  z_enumerate : mg "enumerate" = none
  z_int : mg "int" = none
  z_isinstance : mg "isinstance" = none
  z_len : mg "len" = none
  z_list : mg "list" = none
  z_max : mg "max" = none
  z_min : mg "min" = none
  z_range : mg "range" = none
  z_sorted : mg "sorted" = none
  z_sum : mg "sum" = none
  z_tuple : mg "tuple" = none
theorem zmq : (["other", "web", "place"] : List Str).Nodup := by decide +kernel
theorem zmr : (["other", "web", "found", "place"] : List Str).Nodup := by decide +kernel
theorem zmc : (["b", "many", "found", "a"] : List Str).Nodup := by decide +kernel
theorem zlM : (["other", "many", "cell", "ties", "k", "tie"] : List Str).Nodup := by decide +kernel
theorem zmo : (["place", "web", "found", "start", "away", "piece"] : List Str).Nodup := by decide +kernel
theorem zlH : (["place", "heap", "last"] : List Str).Nodup := by decide +kernel
theorem zkJ : (["place", "stones", "heap", "last"] : List Str).Nodup := by decide +kernel
theorem zlQ : (["tie", "script", "cell", "many", "web", "m", "place", "due", "ties", "lacking", "more", "lesser", "heap", "k", "step"] : List Str).Nodup := by decide +kernel
theorem zmd : (["other", "script", "cell", "many", "web", "m", "place", "due", "ties", "lacking", "more", "lesser", "heap", "k", "step"] : List Str).Nodup := by decide +kernel
noncomputable def X9 : D → Bool
  | .int _ => true
  | _ => false
noncomputable def yi (d : D) (lo hi : Int) : Bool := match d with
  | .int i => decide (lo ≤ i) && decide (i ≤ hi)
  | _ => false
section
variable {P : Program} {w : World} {K : PySem.W.Frag} {mg : Str → Option Value} {base : Heap} {ad : Adr}
noncomputable def wq : List D → Option D
  | [d] => if noS d = true then some (.bl (X9 d)) else none
  | _ => none
noncomputable def YX : SE → Ctl :=
  (yK (zej (eUn (YV .int) (zd 0)) (zgv (eUn (YV .bool) (zd 0)))))
noncomputable def zdU : List D → Option D := fnD 1 YX
theorem zjv {α : Type} {ds : List α} (h : ds.length = 1) : ∃ a, ds = [a] := by match ds, h with | [a], _ => exact ⟨a, rfl⟩
theorem zgQ {α : Type} {ds : List α} (h : ds.length = 2) : ∃ a b, ds = [a, b] := by match ds, h with | [a, b], _ => exact ⟨a, b, rfl⟩
theorem len3 {α : Type} {ds : List α} (h : ds.length = 3) : ∃ a b c, ds = [a, b, c] := by match ds, h with | [a, b, c], _ => exact ⟨a, b, c, rfl⟩
theorem ifS {c : Bool} {x y : D} (h : (if c = true then some x else none) = some y) : c = true ∧ x = y := by
  split at h
  · cases h
    exact ⟨by assumption, rfl⟩
  · cases h
theorem zc8 : ∀ ds d, ds.length = 1 → wq ds = some d → zdU ds = some d := by
  intro ds d hl h
  obtain ⟨a, rfl⟩ := zjv hl
  obtain ⟨hn, rfl⟩ := ifS h
  cases a <;> first | rfl | cases hn
theorem zdd (T : Txt K mg ad) : yY P w K mg base CX0 1 ad.f_is_whole ad.e_is_whole ["thing"] (@spD ⟨K⟩ 1 wq) := by
  letI : KK := ⟨K⟩
  refine xX (yw (N := ["thing"]) (ps := ["thing"]) T.d_is_whole.fn zcG (g := YX) fun cdv A outer s H E hr => ?_) zc8
  unfold YX
  exact (zj (zA (Vj (wR .int rfl T.z_isinstance (za 0 (pv 0)) (Xb (v := .ty "int") rfl T.z_int zjJ rfl)) (zdF (zkz (wR .bool rfl T.z_isinstance (za 0 (pv 0)) (Xb (v := .ty "bool") rfl T.z_bool ziJ rfl)))))))
noncomputable def ye : SE → Ctl :=
  (yK (zej (zt 1 wq (zc (zd 0) zu)) (vR leD leD (zd 1) (zd 0) (zd 2))))
noncomputable def wl : List D → Option D := fnD 3 ye
noncomputable def zy : List D → Option D
  | [d, .int lo, .int hi] => if noS d = true then some (.bl (yi d lo hi)) else none
  | _ => none
theorem XV {a : D} {lo hi : Int} (hn : noS a = true) (hw : X9 a = false) : wl [a, .int lo, .int hi] = some (.bl false) := by
  have e : wq [a] = some (.bl false) := by
    show (if noS a = true then some (D.bl (X9 a)) else none) = _
    rw [if_pos hn, hw]
  refine zet (ρ := [.v a, .v (.int lo), .v (.int hi)]) rfl ?_
  unfold ye
  refine Wo (vZ ?_) rfl
  show (((wq [a]).bind asB).bind fun c => if c = true then _ else some (D.bl false)) = _
  rw [e]
  rfl
theorem Ye : ∀ ds d, ds.length = 3 → zy ds = some d → wl ds = some d := by
  intro ds d hl h
  obtain ⟨a, b, c, rfl⟩ := len3 hl
  cases b <;> try cases h
  cases c <;> try cases h
  rename_i lo hi
  obtain ⟨hn, rfl⟩ := ifS h
  cases a with
  | scr _ => cases hn
  | int i =>
    refine zet (ρ := [.v (.int i), .v (.int lo), .v (.int hi)]) rfl ?_
    unfold ye
    refine Wo (vZ ?_) rfl
    show (if decide (lo ≤ i) = true then some (D.bl (decide (i ≤ hi))) else some (.bl false)) = some (.bl (decide (lo ≤ i) && decide (i ≤ hi)))
    cases decide (lo ≤ i) <;> rfl
  | tup es => exact XV hn rfl
  | lst es => exact XV hn rfl
  | dct z t ks vs => exact XV hn rfl
  | non => rfl
  | bl _ => rfl
  | str _ => rfl
theorem yW (T : Txt K mg ad) : yY P w K mg base CX0 2 ad.f_is_whole_within ad.e_is_whole_within ["thing", "least", "most"] (@spD ⟨K⟩ 3 zy) := by
  letI : KK := ⟨K⟩
  have G_is_whole := zdd (P := P) (w := w) (base := base) T
  refine xX (yw (N := ["thing", "least", "most"]) (ps := ["thing", "least", "most"]) T.d_is_whole_within.fn Yb (g := ye) fun cdv A outer s H E hr => ?_) Ye
  unfold ye
  exact (zj (zA (Vj (zo (G_is_whole.mono (by decide)) hr rfl T.d_is_whole.at_ T.d_is_whole.kp T.d_is_whole.bd (zb (za 0 (pv 0)) zg)) (zdF (zhd zeE zeE zJ zJ (za 1 (pv 1)) (za 0 (pv 0)) (za 2 (pv 2)) (fun a b c => zgM zeE zeE a b c))))))
noncomputable def yI : SE → Ctl :=
  (yK (zt 3 zy (zc (zd 0) (zc (eC (.int 1)) (zc (eC (.int 8)) zu)))))
noncomputable def xA : List D → Option D := fnD 1 yI
noncomputable def ym : List D → Option D
  | [d] => if noS d = true then some (.bl (yi d 1 8)) else none
  | _ => none
theorem Y7 : ∀ ds d, ds.length = 1 → ym ds = some d → xA ds = some d := by
  intro ds d hl h
  obtain ⟨a, rfl⟩ := zjv hl
  have e : xA [a] = zy [a, .int 1, .int 8] := by
    cases h2 : zy [a, .int 1, .int 8] <;> simp [xA, yI, fnD, zW, yK, zbV, sIf, xF, Xg, sNo, yd, zjf, Xn, X2, zfZ, zbp, vEv, visF, visG, Sl.f, Sl.g, zd, eC, zn, zej, eOr, zgv, eIf, eUn, zgZ, Yu, xR, xl, zc, zu, zt, eFn, fFn, tOf, wK, zcE, vH, asB, asI, xG, Xv, YS, xQ, xM, zei, Zs, ltD, leD, gtD, geD, zen, wL, vX, wG, v2, zf0, wd, ixD, ZF, YV, isT, eSl, vJ, vM, vR, wQ, iOf, Zt, wB, XR, Y2, Xh, wV, zc9, fLC, wA, yU, YR, yJ, zem, Yj, zfT, b1, b2, h2]
  rw [e]
  exact h
theorem YQ (T : Txt K mg ad) : yY P w K mg base CX0 3 ad.f_is_place_count ad.e_is_place_count ["thing"] (@spD ⟨K⟩ 1 ym) := by
  letI : KK := ⟨K⟩
  have G_is_whole_within := yW (P := P) (w := w) (base := base) T
  refine xX (yw (N := ["thing"]) (ps := ["thing"]) T.d_is_place_count.fn YN (g := yI) fun cdv A outer s H E hr => ?_) Y7
  unfold yI
  exact (zj (zA (zo (G_is_whole_within.mono (by decide)) hr rfl T.d_is_whole_within.at_ T.d_is_whole_within.kp T.d_is_whole_within.bd (zb (za 0 (pv 0)) (zb (zh zi) (zb (zh (ZP (v := .int 8) rfl T.g_MOST_PLACES ⟨_, rfl⟩)) zg))))))
noncomputable def vt : SE → Ctl :=
  (yK (zt 3 zy (zc (zd 1) (zc (eC (.int 0)) (zc (zn Xv (zd 0) (eC (.int 1))) zu)))))
noncomputable def Y1 : List D → Option D := fnD 2 vt
noncomputable def yp : List D → Option D
  | [.int m, d] => if noS d = true then some (.bl (yi d 0 (m - 1))) else none
  | _ => none
theorem zcD : ∀ ds d, ds.length = 2 → yp ds = some d → Y1 ds = some d := by
  intro ds d hl h
  obtain ⟨a, b, rfl⟩ := zgQ hl
  cases a <;> try cases h
  rename_i m
  have e : Y1 [.int m, b] = zy [b, .int 0, .int (m - 1)] := by
    cases h2 : zy [b, .int 0, .int (m - 1)] <;> simp [Y1, vt, fnD, zW, yK, zbV, sIf, xF, Xg, sNo, yd, zjf, Xn, X2, zfZ, zbp, vEv, visF, visG, Sl.f, Sl.g, zd, eC, zn, zej, eOr, zgv, eIf, eUn, zgZ, Yu, xR, xl, zc, zu, zt, eFn, fFn, tOf, wK, zcE, vH, asB, asI, xG, Xv, YS, xQ, xM, zei, Zs, ltD, leD, gtD, geD, zen, wL, vX, wG, v2, zf0, wd, ixD, ZF, YV, isT, eSl, vJ, vM, vR, wQ, iOf, Zt, wB, XR, Y2, Xh, wV, zc9, fLC, wA, yU, YR, yJ, zem, Yj, zfT, b1, b2, h2]
  rw [e]
  exact h
theorem ZW (T : Txt K mg ad) : yY P w K mg base CX0 3 ad.f_is_place ad.e_is_place ["many", "thing"] (@spD ⟨K⟩ 2 yp) := by
  letI : KK := ⟨K⟩
  have G_is_whole_within := yW (P := P) (w := w) (base := base) T
  refine xX (yw (N := ["many", "thing"]) (ps := ["many", "thing"]) T.d_is_place.fn zaL (g := vt) fun cdv A outer s H E hr => ?_) zcD
  unfold vt
  exact (zj (zA (zo (G_is_whole_within.mono (by decide)) hr rfl T.d_is_whole_within.at_ T.d_is_whole_within.kp T.d_is_whole_within.bd (zb (za 1 (pv 1)) (zb (zh zi) (zb (Zd (za 0 (pv 0)) (zh zi)) zg))))))
theorem zbe {m i : Int} : yi (.int i) 0 (m - 1) = inR m i := rfl
theorem zh3 {d : D} {lo hi : Int} (h : ∀ i, d ≠ .int i) : yi d lo hi = false := by
  cases d <;> first | rfl | exact absurd rfl (h _)
theorem VP {d : D} {lo hi : Int} (h : yi d lo hi = true) : ∃ i, d = .int i := by
  cases d with
  | int i => exact ⟨i, rfl⟩
  | _ => cases h
noncomputable def YD : SE → Ctl :=
  (zW (sIf (zcE (vH (tOf (eUn (YV .tuple) (zd 1)))) (tOf (zn neD (eFn ZF (zc (zd 1) zu)) (eC (.int 2))))) (yK (eC (.bl false))) yd)
    (yK (zej (zt 2 yp (zc (zd 0) (zc (zn ixD (zd 1) (eC (.int 0))) zu))) (zej (zt 2 yp (zc (zd 0) (zc (zn ixD (zd 1) (eC (.int 1))) zu))) (zn neD (zn ixD (zd 1) (eC (.int 0))) (zn ixD (zd 1) (eC (.int 1))))))))
noncomputable def zfp : List D → Option D := fnD 2 YD
noncomputable def xO : List D → Option D
  | [.int m, d] => if noS d = true then some (.bl (xy m d)) else none
  | _ => none
theorem zhi {m : Int} {x y : D} (h : yi x 0 (m - 1) = false) : xy m (.tup [x, y]) = false := by
  cases x with
  | int i =>
    cases y with
    | int j =>
      show (inR m i && inR m j && !decide (i = j)) = false
      rw [show inR m i = false from h]
      rfl
    | _ => rfl
  | _ => rfl
theorem zgr {m : Int} {x y : D} (h : yi y 0 (m - 1) = false) : xy m (.tup [x, y]) = false := by
  cases x with
  | int i =>
    cases y with
    | int j =>
      show (inR m i && inR m j && !decide (i = j)) = false
      rw [show inR m j = false from h, Bool.and_false]
      rfl
    | _ => rfl
  | _ => rfl
theorem zd5 : ∀ ds d, ds.length = 2 → xO ds = some d → zfp ds = some d := by
  intro ds d hl h
  obtain ⟨a, b, rfl⟩ := zgQ hl
  cases a <;> try cases h
  rename_i m
  obtain ⟨hn, rfl⟩ := ifS h
  clear h
  cases b with
  | tup es =>
    refine zet (ρ := [.v (.int m), .v (.tup es)]) rfl ?_
    unfold YD
    by_cases hl : es.length = 2
    · obtain ⟨x, y, rfl⟩ := zgQ hl
      have hx : noS x = true := vC (ds := [x, y]) (i := 0) hn rfl
      have hy : noS y = true := vC (ds := [x, y]) (i := 1) hn rfl
      have e0 : yp [.int m, x] = some (.bl (yi x 0 (m - 1))) := by
        show (if noS x = true then some (D.bl (yi x 0 (m - 1))) else none) = _
        rw [if_pos hx]
      have e1 : yp [.int m, y] = some (.bl (yi y 0 (m - 1))) := by
        show (if noS y = true then some (D.bl (yi y 0 (m - 1))) else none) = _
        rw [if_pos hy]
      refine yP (ρ' := [.v (.int m), .v (.tup [x, y])]) rfl (Wo (vZ ?_) rfl)
      show (((yp [.int m, x]).bind asB).bind fun c => if c = true then (((yp [.int m, y]).bind asB).bind fun c => if c = true then neD x y else some (D.bl false)) else some (D.bl false)) = _
      rw [e0, e1]
      cases h1 : yi x 0 (m - 1) with
      | false => rw [zhi h1]; rfl
      | true =>
        cases h2 : yi y 0 (m - 1) with
        | false => rw [zgr h2]; rfl
        | true =>
          obtain ⟨i, rfl⟩ := VP h1
          obtain ⟨j, rfl⟩ := VP h2
          show some (D.bl (!decide (i = j))) = some (.bl (inR m i && inR m j && !decide (i = j)))
          rw [show inR m i = true from h1, show inR m j = true from h2]
          rfl
    · have e : xy m (.tup es) = false := by
        unfold xy vP
        split
        · rename_i t ht
          split at ht
          · rename_i e'
            injection e' with e'
            rw [e'] at hl
            exact absurd rfl hl
          · cases ht
        · rfl
      rw [e]
      refine Zu (ze5 (c := true) ?_ (fun _ => Wo rfl rfl) fun z => by cases z)
      show some (!decide ((es.length : Int) = 2)) = _
      rw [decide_eq_false (show ¬ (es.length : Int) = 2 from fun h => hl (Int.ofNat.inj h))]
      rfl
  | scr _ => cases hn
  | _ => rfl
theorem zd4 (T : Txt K mg ad) : yY P w K mg base CX0 4 ad.f_is_pair ad.e_is_pair ["many", "thing"] (@spD ⟨K⟩ 2 xO) := by
  letI : KK := ⟨K⟩
  have G_is_place := ZW (P := P) (w := w) (base := base) T
  refine xX (yw (N := ["many", "thing"]) (ps := ["many", "thing"]) T.d_is_pair.fn zdQ (g := YD) fun cdv A outer s H E hr => ?_) zd5
  unfold YD
  exact (zf (xq (zeo (zeT (Zh (Yh (wR .tuple rfl T.z_isinstance (za 1 (pv 1)) (Xb (v := .ty "tuple") rfl T.z_tuple xh rfl)))) (zal (zF zg5 zdE (zM _) (yj zQ wg rfl T.z_len ve (zb (za 1 (pv 1)) zg)) (zh zi))))) (zj (zA (vL vI))) zL)
      (zj (zA (Vj (zo (G_is_place.mono (by decide)) hr rfl T.d_is_place.at_ T.d_is_place.kp T.d_is_place.bd (zb (za 0 (pv 0)) (zb (zG (za 1 (pv 1)) (zh zi) (fun _ _ => rfl)) zg))) (Vj (zo (G_is_place.mono (by decide)) hr rfl T.d_is_place.at_ T.d_is_place.kp T.d_is_place.bd (zb (za 0 (pv 0)) (zb (zG (za 1 (pv 1)) (zh zi) (fun _ _ => rfl)) zg))) (zdF (zhw zg5 zdE (zM _) (zG (za 1 (pv 1)) (zh zi) (fun _ _ => rfl)) (zG (za 1 (pv 1)) (zh zi) (fun _ _ => rfl)))))))))
end
section
variable {P : Program} {w : World} {K : PySem.W.Frag} {mg : Str → Option Value} {base : Heap} {ad : Adr}
noncomputable def WS (ds : List D) : Nat → Option Tie
  | 0 => none
  | k + 1 => (ds[k]?).bind vP
noncomputable def vc : SE → Ctl :=
  (zW (sIf (zcE (vH (tOf (zt 2 xO (zc (zd 0) (zc (zd 3) zu))))) (tOf (zn gtD (zn ixD (zd 3) (eC (.int 0))) (zn ixD (zd 3) (eC (.int 1)))))) (yK (eC (.bl false))) yd)
    (sIf (wK (tOf (zn gtD (zd 2) (eC (.int 0)))) (tOf (zn leT (zd 3) (zn ixD (zd 1) (zn Xv (zd 2) (eC (.int 1))))))) (yK (eC (.bl false))) yd))
noncomputable def wo : SE → Ctl :=
  (zW (sIf (vH (tOf (eUn (YV .tuple) (zd 1)))) (yK (eC (.bl false))) yd)
    (zW (Zt (wV (zc (zd 1) zu)) (zem 2 (Yj (yJ 2) (Yj (yJ 3) zfT))) vc)
    (yK (eC (.bl true)))))
noncomputable def zeg : List D → Option D := fnD 4 wo
noncomputable def wu : List D → Option D
  | [.int m, d] => if noS d = true then some (.bl (vq m d)) else none
  | _ => none
theorem Xr {m : Int} {d : D} (h : xy m d = true) : ∃ t, d = zk t := by
  unfold xy at h
  split at h
  · rename_i t ht
    exact ⟨t, Z1 ht⟩
  · cases h
theorem zcK : ∀ ds d, ds.length = 2 → wu ds = some d → zeg ds = some d := by
  intro ds d hl h
  obtain ⟨a, b, rfl⟩ := zgQ hl
  cases a <;> try cases h
  rename_i m
  obtain ⟨hn, rfl⟩ := ifS h
  clear h hl
  cases b with
  | scr _ => cases hn
  | tup es =>
    refine zet (g := wo) rfl ?_
    unfold wo
    refine yP rfl ?_
    refine Zu (zgo (ds := Xm 0 es) (fun i ρ => ∃ o1 o2, ρ = [.v (.int m), .v (.tup es), o1, o2] ∧ yh m none es = yh m (WS es i) (es.drop i) ∧ ∀ k, i = k + 1 → ∃ p, es[k]? = some (zk p)) rfl
      ⟨.no, .no, rfl, rfl, fun k e => by cases e⟩ ?_ ?_)
    · rintro i d ρ hd ⟨o1, o2, rfl, hp, hk⟩
      rw [Yf] at hd
      obtain ⟨dx, hdx, rfl⟩ := Option.map_eq_some_iff.mp hd
      rw [Nat.zero_add]
      refine ⟨_, rfl, ?_⟩
      have hdrop : es.drop i = dx :: es.drop (i + 1) := by
        obtain ⟨h1, h2⟩ := List.getElem?_eq_some_iff.mp hdx
        rw [List.drop_eq_getElem_cons h1, h2]
      have hnx : noS dx = true := vC hn hdx
      unfold vc
      cases hpr : xy m dx with
      | false =>
        have e1 : xO [.int m, dx] = some (.bl false) := by
          show (if noS dx = true then some (D.bl (xy m dx)) else none) = _
          rw [if_pos hnx, hpr]
        refine Zu (ze5 (c := true) (show (((xO [.int m, dx]).bind asB).map (!·)).bind (fun c => if c = true then some true else _) = _ by rw [e1]; rfl) (fun _ => Wo rfl ?_) (fun z => by cases z))
        have e : yh m none es = false := by
          rw [hp, hdrop]
          unfold yh
          split
          · rw [hpr]; rfl
          · rfl
        show D.bl false = .bl (yh m none es)
        rw [e]
      | true =>
        obtain ⟨t, rfl⟩ := Xr hpr
        have e1 : xO [.int m, zk t] = some (.bl true) := by
          show (if noS (zk t) = true then some (D.bl (xy m (zk t))) else none) = _
          rw [if_pos hnx, hpr]
        have step : yh m none es = (!decide (t.2 < t.1) && V4 (WS es i) t && yh m (some t) (es.drop (i + 1))) := by
          rw [hp, hdrop]
          conv => lhs; unfold yh
          rw [wT, hpr]
          rfl
        have prevS : WS es (i + 1) = some t := by
          show (es[i]?).bind vP = some t
          rw [hdx]
          rfl
        refine Zu (ze5 (c := decide (t.2 < t.1)) (show (((xO [.int m, zk t]).bind asB).map (!·)).bind (fun c => if c = true then some true else some (decide (t.2 < t.1))) = _ by rw [e1]; rfl) (fun c => Wo rfl ?_) (fun c => zbL rfl ?_))
        · show D.bl false = .bl (yh m none es)
          rw [step, c]
          rfl
        · cases i with
          | zero =>
            refine ze5 (c := false) rfl (fun z => by cases z) (fun _ => zbL rfl ?_)
            refine ⟨_, _, rfl, ?_, fun k e => ?_⟩
            · rw [prevS, step, c]
              rfl
            · cases e
              exact ⟨t, hdx⟩
          | succ j =>
            obtain ⟨p, hpk⟩ := hk j rfl
            have prevK : WS es (j + 1) = some p := by
              show (es[j]?).bind vP = some p
              rw [hpk]
              rfl
            rw [prevK] at step
            have ea : atI es ((((j + 1 : Nat) : Int)) - 1) = some (zk p) := by
              rw [show (((j + 1 : Nat) : Int)) - 1 = (j : Nat) from Int.add_sub_cancel (j : Int) 1]
              exact ziw hpk
            have okP : V4 (some p) t = !leP t p := rfl
            refine ze5 (c := leP t p) ?_ (fun c2 => Wo rfl ?_) (fun c2 => zbL rfl ?_)
            · have z : decide ((0 : Int) < ((j + 1 : Nat) : Int)) = true := decide_eq_true (Int.natCast_pos.mpr (Nat.succ_pos j))
              show ((some (decide ((0 : Int) < ((j + 1 : Nat) : Int)))).bind fun c => if c = true then (((atI es (((j + 1 : Nat) : Int) - 1)).bind fun y => leT (zk t) y).bind asB) else some false) = _
              rw [z, ea]
              rfl
            · show D.bl false = .bl (yh m none es)
              rw [step, okP, c2, c]
              rfl
            · refine ⟨_, _, rfl, ?_, fun k' e => ?_⟩
              · rw [prevS, step, okP, c2, c]
                rfl
              · cases e
                exact ⟨t, hdx⟩
    · rintro ρ ⟨o1, o2, rfl, hp, hk⟩
      refine Wo rfl ?_
      show D.bl true = .bl (yh m none es)
      rw [hp, wU, List.drop_length]
      cases WS es es.length <;> rfl
  | _ => rfl
theorem zaO (T : Txt K mg ad) : yY P w K mg base CX0 5 ad.f_are_ties ad.e_are_ties ["many", "thing"] (@spD ⟨K⟩ 2 wu) := by
  letI : KK := ⟨K⟩
  have G_is_pair := zd4 (P := P) (w := w) (base := base) T
  refine xX (yw (N := ["many", "thing", "at", "tie"]) (ps := ["many", "thing"]) T.d_are_ties.fn vW (g := wo) fun cdv A outer s H E hr => ?_) zcK
  unfold wo vc
  exact (zf (xq (Zh (Yh (wR .tuple rfl T.z_isinstance (za 1 (pv 1)) (Xb (v := .ty "tuple") rfl T.z_tuple xh rfl)))) (zj (zA (vL vI))) zL)
      (zf (w8 PassesOwn.never rfl (zbR rfl T.z_enumerate wX (zb (za 1 (pv 1)) zg)) (zfB rfl (vz (yk (zB (i := 2) vW.nd rfl (Or.inl rfl))) (vz (yk (zB (i := 3) vW.nd rfl (Or.inl rfl))) zc2))) (zf (xq (zeo (zeT (Zh (Yh (zo (G_is_pair.mono (by decide)) hr rfl T.d_is_pair.at_ T.d_is_pair.kp T.d_is_pair.bd (zb (za 0 (pv 0)) (zb (za 3 (pv 3)) zg))))) (zal (zF Xs zJ (zM _) (zG (za 3 (pv 3)) (zh zi) (fun _ _ => rfl)) (zG (za 3 (pv 3)) (zh zi) (fun _ _ => rfl)))))) (zj (zA (vL vI))) zL)
      (zj (xq (zeo (Z0 (zF Xs zJ (zM _) (za 2 (pv 2)) (zh zi)) (v7 (zF (zkp hr.units0) zio (zM _) (za 3 (pv 3)) (zG (za 1 (pv 1)) (Zd (za 2 (pv 2)) (zh zi)) (fun _ _ => rfl)))))) (zj (zA (vL vI))) zL))))
      (zj (zA (vL vI)))))
noncomputable def vD : SE → Ctl :=
  (zW (sIf (zcE (vH (tOf (eUn (YV .tuple) (zd 0)))) (tOf (zn neD (eFn ZF (zc (zd 0) zu)) (eC (.int 2))))) (yK (eC (.bl false))) yd)
    (yK (zej (zt 1 ym (zc (zn ixD (zd 0) (eC (.int 0))) zu)) (zt 2 wu (zc (zn ixD (zd 0) (eC (.int 0))) (zc (zn ixD (zd 0) (eC (.int 1))) zu))))))
noncomputable def ZA : List D → Option D := fnD 1 vD
noncomputable def YC : List D → Option D
  | [d] => if noS d = true then some (.bl (vm d)) else none
  | _ => none
theorem zeA {x y : D} : vm (.tup [x, y]) = (yi x 1 8 && match x with | .int m => vq m y | _ => false) := by
  cases x <;> rfl
theorem zfV : ∀ ds d, ds.length = 1 → YC ds = some d → ZA ds = some d := by
  intro ds d hl h
  obtain ⟨a, rfl⟩ := zjv hl
  obtain ⟨hn, rfl⟩ := ifS h
  clear h hl
  cases a with
  | scr _ => cases hn
  | tup es =>
    by_cases hl : es.length = 2
    · obtain ⟨x, y, rfl⟩ := zgQ hl
      have hx : noS x = true := vC (ds := [x, y]) (i := 0) hn rfl
      have hy : noS y = true := vC (ds := [x, y]) (i := 1) hn rfl
      have ec : ym [x] = some (.bl (yi x 1 8)) := by simp [ym, hx]
      rw [zeA]
      by_cases ix : ∃ i, x = .int i
      · obtain ⟨i, rfl⟩ := ix
        have et : wu [.int i, y] = some (.bl (vq i y)) := by simp [wu, hy]
        cases hc : yi (.int i) 1 8 <;> rw [hc] at ec <;> simp [ZA, vD, fnD, zW, yK, zbV, sIf, xF, Xg, sNo, yd, zjf, Xn, X2, zfZ, zbp, vEv, visF, visG, Sl.f, Sl.g, zd, eC, zn, zej, eOr, zgv, eIf, eUn, zgZ, Yu, xR, xl, zc, zu, zt, eFn, fFn, tOf, wK, zcE, vH, asB, asI, xG, Xv, YS, xQ, xM, zei, Zs, ltD, leD, gtD, geD, zen, wL, vX, wG, v2, zf0, wd, ixD, ZF, YV, isT, eSl, vJ, vM, vR, wQ, iOf, Zt, wB, XR, Y2, Xh, wV, zc9, fLC, wA, yU, YR, yJ, zem, Yj, zfT, b1, b2, ec, et, atI, ixN]
      · have n2 : yi x 1 8 = false := zh3 fun j hj => ix ⟨j, hj⟩
        rw [n2] at ec ⊢
        simp [ZA, vD, fnD, zW, yK, zbV, sIf, xF, Xg, sNo, yd, zjf, Xn, X2, zfZ, zbp, vEv, visF, visG, Sl.f, Sl.g, zd, eC, zn, zej, eOr, zgv, eIf, eUn, zgZ, Yu, xR, xl, zc, zu, zt, eFn, fFn, tOf, wK, zcE, vH, asB, asI, xG, Xv, YS, xQ, xM, zei, Zs, ltD, leD, gtD, geD, zen, wL, vX, wG, v2, zf0, wd, ixD, ZF, YV, isT, eSl, vJ, vM, vR, wQ, iOf, Zt, wB, XR, Y2, Xh, wV, zc9, fLC, wA, yU, YR, yJ, zem, Yj, zfT, b1, b2, ec, atI, ixN]
    · have e : vm (.tup es) = false := zik fun m ties h _ => by
        unfold zm at h
        injection h with h
        rw [h] at hl
        exact hl rfl
      rw [e]
      have : ¬ (es.length : Int) = 2 := by omega
      simp [ZA, vD, fnD, zW, yK, zbV, sIf, xF, Xg, sNo, yd, zjf, Xn, X2, zfZ, zbp, vEv, visF, visG, Sl.f, Sl.g, zd, eC, zn, zej, eOr, zgv, eIf, eUn, zgZ, Yu, xR, xl, zc, zu, zt, eFn, fFn, tOf, wK, zcE, vH, asB, asI, xG, Xv, YS, xQ, xM, zei, Zs, ltD, leD, gtD, geD, zen, wL, vX, wG, v2, zf0, wd, ixD, ZF, YV, isT, eSl, vJ, vM, vR, wQ, iOf, Zt, wB, XR, Y2, Xh, wV, zc9, fLC, wA, yU, YR, yJ, zem, Yj, zfT, b1, b2, this]
  | _ => rfl
theorem zfH (T : Txt K mg ad) : yY P w K mg base CX0 6 ad.f_is_web ad.e_is_web ["thing"] (@spD ⟨K⟩ 1 YC) := by
  letI : KK := ⟨K⟩
  have G_is_place_count := YQ (P := P) (w := w) (base := base) T
  have G_are_ties := zaO (P := P) (w := w) (base := base) T
  refine xX (yw (N := ["thing"]) (ps := ["thing"]) T.d_is_web.fn zfJ (g := vD) fun cdv A outer s H E hr => ?_) zfV
  unfold vD
  exact (zf (xq (zeo (zeT (Zh (Yh (wR .tuple rfl T.z_isinstance (za 0 (pv 0)) (Xb (v := .ty "tuple") rfl T.z_tuple xh rfl)))) (zal (zF zg5 zdE (zM _) (yj zQ wg rfl T.z_len ve (zb (za 0 (pv 0)) zg)) (zh zi))))) (zj (zA (vL vI))) zL)
      (zj (zA (Vj (zo (G_is_place_count.mono (by decide)) hr rfl T.d_is_place_count.at_ T.d_is_place_count.kp T.d_is_place_count.bd (zb (zG (za 0 (pv 0)) (zh zi) (fun _ _ => rfl)) zg)) (zdF (zo (G_are_ties.mono (by decide)) hr rfl T.d_are_ties.at_ T.d_are_ties.kp T.d_are_ties.bd (zb (zG (za 0 (pv 0)) (zh zi) (fun _ _ => rfl)) (zb (zG (za 0 (pv 0)) (zh zi) (fun _ _ => rfl)) zg))))))))
theorem zh8 (m : Int) (ts : List Tie) : noS (zm m ts) = true := by
  have : ∀ ts : List Tie, zhG (ts.map zk) = true := by
    intro ts
    induction ts with
    | nil => rfl
    | cons t ts ih => show (noS (zk t) && zhG (ts.map zk)) = true; rw [ih]; rfl
  show (noS (.int m) && (noS (.tup (ts.map zk)) && true)) = true
  rw [show noS (.tup (ts.map zk)) = zhG (ts.map zk) from rfl, this ts]
  rfl
noncomputable def xI : SE → Ctl :=
  (sIf (vH (tOf (zt 1 YC (zc (zd 0) zu)))) sNo yd)
noncomputable def YF : List D → Option D := fnD 1 xI
noncomputable def yS : List D → Option D
  | [d] => if vm d = true then some .non else none
  | _ => none
theorem Xt : ∀ ds d, ds.length = 1 → yS ds = some d → YF ds = some d := by
  intro ds d hl h
  obtain ⟨a, rfl⟩ := zjv hl
  obtain ⟨hw, rfl⟩ := ifS h
  obtain ⟨m, ts, rfl, _⟩ := (vo a).mp hw
  have e : YC [zm m ts] = some (.bl true) := by simp [YC, zh8 m ts, hw]
  simp [YF, xI, fnD, zW, yK, zbV, sIf, xF, Xg, sNo, yd, zjf, Xn, X2, zfZ, zbp, vEv, visF, visG, Sl.f, Sl.g, zd, eC, zn, zej, eOr, zgv, eIf, eUn, zgZ, Yu, xR, xl, zc, zu, zt, eFn, fFn, tOf, wK, zcE, vH, asB, asI, xG, Xv, YS, xQ, xM, zei, Zs, ltD, leD, gtD, geD, zen, wL, vX, wG, v2, zf0, wd, ixD, ZF, YV, isT, eSl, vJ, vM, vR, wQ, iOf, Zt, wB, XR, Y2, Xh, wV, zc9, fLC, wA, yU, YR, yJ, zem, Yj, zfT, b1, b2, e]
theorem wj (T : Txt K mg ad) : yY P w K mg base CX0 7 ad.f_must_be_web ad.e_must_be_web ["thing"] (@spD ⟨K⟩ 1 yS) := by
  letI : KK := ⟨K⟩
  have G_is_web := zfH (P := P) (w := w) (base := base) T
  refine xX (yw (N := ["thing"]) (ps := ["thing"]) T.d_must_be_web.fn Xk (g := xI) fun cdv A outer s H E hr => ?_) Xt
  unfold xI
  exact (zj (xq (Zh (Yh (zo (G_is_web.mono (by decide)) hr rfl T.d_is_web.at_ T.d_is_web.kp T.d_is_web.bd (zb (za 0 (pv 0)) zg)))) (zj Ys) zL))
end
section
variable {P : Program} {w : World} {K : PySem.W.Frag} {mg : Str → Option Value} {base : Heap} {ad : Adr}
noncomputable def zi8 : D → Bool
  | .int i => decide (0 ≤ i)
  | _ => false
noncomputable def zjW (m : Int) : D → Bool
  | .tup ds => decide ((ds.length : Int) = m) && ds.all zi8
  | _ => false
end
section
variable {P : Program} {w : World} {K : PySem.W.Frag} {mg : Str → Option Value} {base : Heap} {ad : Adr}
theorem zdM {m : Int} {ts : List Tie} (h : zcW m ts) : Y2 [.int m] = some (Zk 0 m.toNat) := by
  have := h.lo
  have := h.hi
  show (if zfA m = true then some (Zk 0 m.toNat) else none) = _
  rw [if_pos (zX.mpr ⟨by omega, by omega⟩)]
noncomputable def ziZ : D → Int
  | .tup [.int m, _] => m
  | _ => 0
noncomputable def zhS : D → List Tie
  | .tup [_, .tup l] => (YW l).getD []
  | _ => []
theorem ZI (m : Int) (ts : List Tie) : ziZ (zm m ts) = m := rfl
theorem zeY (ts : List Tie) : ts.map zk = ts.map prD := rfl
theorem ZL (m : Int) (ts : List Tie) : zhS (zm m ts) = ts := by
  show (YW (ts.map zk)).getD [] = ts
  rw [zeY, ZZ]
  rfl
noncomputable def zlr (a b : Int) : Tie := (if b < a then b else a, if b > a then b else a)
noncomputable def yX : SE → Ctl :=
  (sIf (vH (tOf (zt 2 yp (zc (zn ixD (zd 0) (eC (.int 0))) (zc (zd 1) zu))))) sNo yd)
noncomputable def vk : List D → Option D := fnD 2 yX
noncomputable def yc : List D → Option D
  | [.tup [.int m, _], .int p] => if (decide (0 ≤ p) && decide (p ≤ m - 1)) = true then some .non else none
  | _ => none
theorem Zp : ∀ ds d, ds.length = 2 → yc ds = some d → vk ds = some d := by
  intro ds d hl h
  obtain ⟨a, b, rfl⟩ := zgQ hl
  unfold yc at h
  split at h
  · rename_i m t p' e
    injection e with e1 e2
    injection e2 with e2 _
    subst e1 e2
    obtain ⟨hn, rfl⟩ := ifS h
    have ec : yp [.int m, .int p'] = some (.bl true) := by
      show (if noS (.int p') = true then some (D.bl (yi (.int p') 0 (m - 1))) else none) = _
      rw [if_pos (show noS (.int p') = true from rfl), zbe]
      unfold inR
      rw [hn]
    simp [vk, yX, fnD, zW, yK, zbV, sIf, xF, Xg, sNo, yd, zjf, Xn, X2, zfZ, zbp, vEv, visF, visG, Sl.f, Sl.g, zd, eC, zn, zej, eOr, zgv, eIf, eUn, zgZ, Yu, xR, xl, zc, zu, zt, eFn, fFn, tOf, wK, zcE, vH, asB, asI, xG, Xv, YS, xQ, xM, zei, Zs, ltD, leD, gtD, geD, zen, wL, vX, wG, v2, zf0, wd, ixD, ZF, YV, isT, eSl, vJ, vM, vR, wQ, iOf, Zt, wB, XR, Y2, Xh, wV, zc9, fLC, wA, yU, YR, yJ, zem, Yj, zfT, b1, b2, ec, atI, ixN]
  · cases h
theorem wO (T : Txt K mg ad) : yY P w K mg base CX0 4 ad.f_must_be_place ad.e_must_be_place ["web", "thing"] (@spD ⟨K⟩ 2 yc) := by
  letI : KK := ⟨K⟩
  have G_is_place := ZW (P := P) (w := w) (base := base) T
  refine xX (yw (N := ["web", "thing"]) (ps := ["web", "thing"]) T.d_must_be_place.fn Zq (g := yX) fun cdv A outer s H E hr => ?_) Zp
  unfold yX
  exact (zj (xq (Zh (Yh (zo (G_is_place.mono (by decide)) hr rfl T.d_is_place.at_ T.d_is_place.kp T.d_is_place.bd (zb (zG (za 0 (pv 0)) (zh zi) (fun _ _ => rfl)) (zb (za 1 (pv 1)) zg))))) (zj Ys) zL))
noncomputable def wM : SE → Ctl :=
  (yK (Yu (zc (eFn zkY (zc (zd 0) (zc (zd 1) zu))) (zc (eFn zkV (zc (zd 0) (zc (zd 1) zu))) zu))))
noncomputable def Wh : List D → Option D := fnD 2 wM
noncomputable def yV : List D → Option D
  | [.int a, .int b] => some (zk (zlr a b))
  | _ => none
theorem Xl : ∀ ds d, ds.length = 2 → yV ds = some d → Wh ds = some d := by
  intro ds d hl h
  obtain ⟨a, b, rfl⟩ := zgQ hl
  cases a <;> try cases h
  cases b <;> try cases h
  rfl
theorem Xi (T : Txt K mg ad) : yY P w K mg base CX0 1 ad.f_tie_between ad.e_tie_between ["one", "other"] (@spD ⟨K⟩ 2 yV) := by
  letI : KK := ⟨K⟩
  refine xX (yw (N := ["one", "other"]) (ps := ["one", "other"]) T.d_tie_between.fn Xj (g := wM) fun cdv A outer s H E hr => ?_) Xl
  unfold wM
  exact (zj (zA (wP (zb (yj (zfM rfl) zgJ rfl T.z_min zlb (zb (za 0 (pv 0)) (zb (za 1 (pv 1)) zg))) (zb (yj (zft rfl) zgy rfl T.z_max zfq (zb (za 0 (pv 0)) (zb (za 1 (pv 1)) zg))) zg)))))
theorem zfb (ts : List Tie) : (ts.map zk).all (okE 20) = true := by
  rw [List.all_map, List.all_eq_true]
  exact fun t _ => rfl
theorem zdg (s t : Tie) : eqN 20 (zk s) (zk t) = decide (s = t) := by
  have : eqN 20 (zk s) (zk t) = ((s.1 == t.1) && ((s.2 == t.2) && true) && true) := rfl
  rw [this, Bool.and_true, Bool.and_true]
  by_cases h : s = t
  · subst h
    simp
  · rw [decide_eq_false h, Bool.and_eq_false_iff]
    by_cases h1 : s.1 = t.1
    · exact .inr (beq_eq_false_iff_ne.mpr fun h2 => h (Prod.ext h1 h2))
    · exact .inl (beq_eq_false_iff_ne.mpr h1)
theorem zdi (t : Tie) (ts : List Tie) : inD (zk t) (.tup (ts.map zk)) = some (.bl (decide (t ∈ ts))) := by
  show (zgT (zk t) (ts.map zk)).map D.bl = _
  unfold zgT
  rw [if_pos ⟨rfl, zfb ts⟩]
  show some (D.bl ((ts.map zk).any fun e => eqN 20 e (zk t))) = _
  rw [List.any_map]
  congr 2
  rw [Bool.eq_iff_iff, List.any_eq_true, decide_eq_true_eq]
  constructor
  · rintro ⟨s, hs, h⟩
    have h : eqN 20 (zk s) (zk t) = true := h
    rw [zdg, decide_eq_true_eq] at h
    subst h
    exact hs
  · exact fun h => ⟨t, h, by show eqN 20 (zk t) (zk t) = true; rw [zdg]; exact decide_eq_true rfl⟩
end
section
variable {P : Program} {w : World} {K : PySem.W.Frag} {mg : Str → Option Value} {base : Heap} {ad : Adr}
noncomputable def nbN (m : Int) (ts : List Tie) (p : Int) : List Nat := (List.range m.toNat).filter fun k : Nat => decide (zlr p k ∈ ts)
noncomputable def zfY (k : Nat) : D := .int ((0 : Int) + (k : Int))
noncomputable def wb : SE → Ctl :=
  (yK (xR (fLC (XR Y2 (zc (zn ixD (zd 0) (eC (.int 0))) zu)) b1 (tOf (zn inD (zt 2 yV (zc (zd 2) (zc (zd 0) zu))) (zn ixD (zd 1) (eC (.int 1))))) (zd 0))))
noncomputable def WA : List D → Option D := fnD 2 wb
noncomputable def zZ : List D → Option D
  | [w, .int p] => if vm w = true then some (.lst ((nbN (ziZ w) (zhS w) p).map zfY)) else none
  | _ => none
theorem XZ : ∀ ds d, ds.length = 2 → zZ ds = some d → WA ds = some d := by
  intro ds d hl h
  obtain ⟨a, b, rfl⟩ := zgQ hl
  cases b <;> try cases h
  rename_i p
  obtain ⟨hw, rfl⟩ := ifS h
  obtain ⟨m, ts, rfl, ok⟩ := (vo a).mp hw
  rw [ZI, ZL]
  refine zet rfl ?_
  unfold wb
  refine Wo (d := .lst ((nbN m ts p).map zfY)) ?_ rfl
  have e : fLC (XR Y2 (zc (zn ixD (zd 0) (eC (.int 0))) zu)) b1 (tOf (zn inD (zt 2 yV (zc (zd 2) (zc (zd 0) zu))) (zn ixD (zd 1) (eC (.int 1))))) (zd 0) [some (zm m ts), some (.int p)] = some ((nbN m ts p).map zfY) := by
    unfold fLC
    show ((Y2 [.int m]).bind fun ds => if lim ds.length = true then _ else none) = _
    rw [zdM ok]
    show (if lim (Zk 0 m.toNat).length = true then _ else none) = _
    rw [if_pos (YB (by rw [ZS]; have := ok.hi; omega))]
    refine vw (c := zfY) (p := fun k => decide (zlr p k ∈ ts)) (y := zfY) (List.range m.toNat) fun k hk => ⟨[some (zfY k)], rfl, ?_, fun _ => rfl⟩
    show ((inD (zk (zlr p (0 + (k : Int)))) (.tup (ts.map zk))).bind asB) = _
    rw [Int.zero_add, zdi]
    rfl
  show (match ((fLC (XR Y2 (zc (zn ixD (zd 0) (eC (.int 0))) zu)) b1 (tOf (zn inD (zt 2 yV (zc (zd 2) (zc (zd 0) zu))) (zn ixD (zd 1) (eC (.int 1))))) (zd 0) [some (zm m ts), some (.int p)]).map D.lst) with | some d => Ctl.rt d | none => Ctl.no) = _
  rw [e]
  rfl
theorem Yl (T : Txt K mg ad) : yY P w K mg base CX0 2 ad.f_neighbours ad.e_neighbours ["web", "place"] (@spD ⟨K⟩ 2 zZ) := by
  letI : KK := ⟨K⟩
  have G_tie_between := Xi (P := P) (w := w) (base := base) T
  refine xX (yw (N := ["web", "place"]) (ps := ["web", "place"]) T.d_neighbours.fn X8 (g := wb) fun cdv A outer s H E hr => ?_) XZ
  unfold wb
  exact (zj (zA (wf (zdB (L := ["other"]) (M := ["web", "place"]) rfl (YG (by rfl) (by rfl) (by rfl) (by with_unfolding_all rfl) (by rfl) (by rfl) (by kernel_rfl) (all_cons rfl (all_cons rfl wC))) (ZN rfl T.z_range (zb (zG (za 0 (pv 0)) (zh zi) (fun _ _ => rfl)) zg)) gs1 rb1 (fun _ _ _ _ => (zB (i := 0) zmq rfl (Or.inl rfl) (.inr rfl))) (fun _ _ _ _ => (zF (zj6 hr) zku (by with_unfolding_all rfl) (zo (G_tie_between.mono (by decide)) hr rfl T.d_tie_between.at_ T.d_tie_between.kp T.d_tie_between.bd (zb (za 2 (pv 2)) (zb (za 0 (pv 0)) zg))) (zG (za 1 (pv 1)) (zh zi) (fun _ _ => rfl)))) (fun _ _ _ _ => (za 0 (pv 0)))))))
noncomputable def xr (m : Int) (ts : List Tie) (i : Nat) : List Tie := (List.range i).flatMap fun k : Nat => (nbN m ts k).map fun o : Nat => ((0 : Int) + (k : Int), (0 : Int) + (o : Int))
noncomputable def zkt (m : Int) (ts : List Tie) : List Tie := xr m ts m.toNat
theorem Za (m : Int) (ts : List Tie) (i : Nat) : xr m ts (i + 1) = xr m ts i ++ (nbN m ts i).map fun o : Nat => ((0 : Int) + (i : Int), (0 : Int) + (o : Int)) := by
  unfold xr
  rw [List.range_succ, List.flatMap_append]
  simp
theorem YZ {m : Int} {ts : List Tie} {p : Int} (h : zcW m ts) : (nbN m ts p).length ≤ 8 := by
  refine Nat.le_trans (List.length_filter_le _ _) ?_
  rw [List.length_range]
  have := h.hi
  omega
theorem Xu {m : Int} {ts : List Tie} (h : zcW m ts) (i : Nat) : (xr m ts i).length ≤ 8 * i := by
  induction i with
  | zero => simp [xr]
  | succ i ih =>
    rw [Za, List.length_append, List.length_map]
    have := YZ (p := (i : Int)) h
    omega
noncomputable def wJ : SE → Ctl :=
  (zfZ 1 (xR (fLC (iOf (zt 2 zZ (zc (zd 0) (zc (zd 2) zu)))) b1 wA (Yu (zc (zd 3) (zc (zd 0) zu))))))
noncomputable def wE : SE → Ctl :=
  (zW (Xn 1 (xl zu))
    (zW (wB Y2 (zc (zn ixD (zd 0) (eC (.int 0))) zu) (yJ 2) wJ)
    (sFz 1 (yK (zd 1)))))
noncomputable def zcc : List D → Option D := fnD 3 wE
noncomputable def v5 : List D → Option D
  | [w] => if vm w = true then some (.lst ((zkt (ziZ w) (zhS w)).map zk)) else none
  | _ => none
theorem VC : ∀ ds d, ds.length = 1 → v5 ds = some d → zcc ds = some d := by
  intro ds d hl h
  obtain ⟨a, rfl⟩ := zjv hl
  obtain ⟨hw, rfl⟩ := ifS h
  obtain ⟨m, ts, rfl, ok⟩ := (vo a).mp hw
  rw [ZI, ZL]
  refine zet rfl ?_
  unfold wE
  refine yP rfl ?_
  refine Zu (zff (lo := 0) (c := m.toNat) (fun i ρ => ∃ o2, ρ = [.v (zm m ts), .o ((xr m ts i).map zk), o2]) (zdM ok) ⟨.no, rfl⟩ ?_ ?_)
  · rintro i ρ hi ⟨o2, rfl⟩
    refine ⟨_, rfl, ?_⟩
    unfold wJ
    refine zbL (ρ' := [.v (zm m ts), .o ((xr m ts (i + 1)).map zk), .v (.int (0 + (i : Int)))]) ?_ ⟨_, rfl⟩
    have e : fLC (iOf (zt 2 zZ (zc (zd 0) (zc (zd 2) zu)))) b1 wA (Yu (zc (zd 3) (zc (zd 0) zu))) [some (zm m ts), none, some (.int (0 + (i : Int)))] = some (((nbN m ts i).map fun o : Nat => ((0 : Int) + (i : Int), (0 : Int) + (o : Int))).map zk) := by
      unfold fLC
      have e1 : zZ [zm m ts, .int (0 + (i : Int))] = some (.lst ((nbN m ts i).map zfY)) := by
        simp only [zZ]
        rw [if_pos hw, ZI, ZL, Int.zero_add]
      show ((zZ [zm m ts, .int (0 + (i : Int))]).bind wQ).bind _ = _
      rw [e1]
      show (if lim ((nbN m ts i).map zfY).length = true then _ else none) = _
      rw [if_pos (YB (by rw [List.length_map]; have := YZ (p := (i : Int)) ok; omega)), List.map_map]
      refine zbC zfY _ (nbN m ts i) fun o _ => ⟨[some (zfY o)], rfl, rfl, ?_⟩
      rfl
    have hl : lim (((xr m ts i).map zk).length + (((nbN m ts i).map fun o : Nat => ((0 : Int) + (i : Int), (0 : Int) + (o : Int))).map zk).length) = true := by
      refine YB ?_
      simp only [List.length_map]
      have := Xu ok i
      have := YZ (p := (i : Int)) ok
      have := ok.hi
      omega
    show (match (((fLC (iOf (zt 2 zZ (zc (zd 0) (zc (zd 2) zu)))) b1 wA (Yu (zc (zd 3) (zc (zd 0) zu))) [some (zm m ts), none, some (.int (0 + (i : Int)))]).map D.lst).bind fun d => match (some (Sl.o ((xr m ts i).map zk))), d with
      | some (.o ds), .lst es => if lim (ds.length + es.length) = true then some ([.v (zm m ts), .o (ds ++ es), .v (.int (0 + (i : Int)))] : SE) else none
      | _, _ => none) with | some ρ' => Ctl.nx ρ' | none => Ctl.no) = _
    rw [e]
    show (match (if lim (((xr m ts i).map zk).length + (((nbN m ts i).map fun o : Nat => ((0 : Int) + (i : Int), (0 : Int) + (o : Int))).map zk).length) = true then some ([.v (zm m ts), .o ((xr m ts i).map zk ++ ((nbN m ts i).map fun o : Nat => ((0 : Int) + (i : Int), (0 : Int) + (o : Int))).map zk), .v (.int (0 + (i : Int)))] : SE) else none) with | some ρ' => Ctl.nx ρ' | none => Ctl.no) = _
    rw [if_pos hl, Za, List.map_append]
  · rintro ρ ⟨o2, rfl⟩
    exact zl7 rfl (Wo rfl rfl)
theorem zas (T : Txt K mg ad) : yY P w K mg base CX0 3 ad.f_all_steps ad.e_all_steps ["web"] (@spD ⟨K⟩ 1 v5) := by
  letI : KK := ⟨K⟩
  have G_neighbours := Yl (P := P) (w := w) (base := base) T
  refine xX (yw (N := ["web", "found", "place"]) (ps := ["web"]) T.d_all_steps.fn w6 (g := wE) fun cdv A outer s H E hr => ?_) VC
  unfold wE wJ
  exact (zf (vS (i := 1) w6.nd rfl (Or.inl rfl) (xS zg))
      (zf (Zv PassesOwn.never rfl rfl T.z_range (zb (zG (za 0 (pv 0)) (zh zi) (fun _ _ => rfl)) zg) (yk (zB (i := 2) w6.nd rfl (Or.inr rfl))) (zj (zjK (pv 1) (wf (zdy (L := ["other"]) (M := ["web", "found", "place"]) rfl (YG (by rfl) (by rfl) (by rfl) (by with_unfolding_all rfl) (by rfl) (by rfl) (by kernel_rfl) (all_cons rfl wC)) (vf (zo (G_neighbours.mono (by decide)) hr rfl T.d_neighbours.at_ T.d_neighbours.kp T.d_neighbours.bd (zb (za 0 (pv 0)) (zb (za 2 (pv 2)) zg)))) gs1 rb1 (fun _ _ _ _ => (zB (i := 0) zmr rfl (Or.inl rfl) (.inr rfl))) (fun _ _ _ _ => (wP (zb (za 3 (pv 3)) (zb (za 0 (pv 0)) zg)))))) (fun a b => Wg PySem.F.plainAttrs_list PySem.F.slot_list_extend PySem.F.type_list_extend zeq a b))))
      (vN 1 (zj (zA (za 1 (pv 1)))))))
end
theorem zkB {m : Nat} {g : SE → Ctl} {ds : List D} {R : D → Prop} {ρ : SE} (e : ds.map .v ++ List.replicate (m - ds.length) .no = ρ) (q : (g ρ).w (fun _ => R .non) noP noP R) : ∃ d, fnD m g ds = some d ∧ R d := by
  unfold fnD
  rw [e]
  cases hg : g ρ with
  | nx ρ' => rw [hg] at q; exact ⟨_, rfl, q.nxi⟩
  | rt d' => rw [hg] at q; exact ⟨_, rfl, q.rti⟩
  | bk _ => rw [hg] at q; exact q.bki.elim
  | ct _ => rw [hg] at q; exact q.cti.elim
  | no => rw [hg] at q; exact q.noi.elim
section
variable {P : Program} {w : World} {K : PySem.W.Frag} {mg : Str → Option Value} {base : Heap} {ad : Adr}
noncomputable def wz : SE → Ctl :=
  (zW (xF false 2 (zn xM (zn YS (zn we (zn we (zn xM (zd 0) (eC (.int 2147483647))) (zn YS (eC (.int 977)) (zd 1))) (eC (.int 1))) (eC (.int 48271))) (eC (.int 2147483647))))
    (zW (xF false 2 (zn xM (zn YS (zd 2) (zd 2)) (eC (.int 2147483629))))
    (zW (xF false 2 (zn xM (zn YS (zn we (zd 2) (zn YS (eC (.int 40692)) (zn we (zd 1) (eC (.int 3))))) (eC (.int 69621))) (eC (.int 2147483647))))
    (yK (zn xQ (zd 2) (eC (.int 8)))))))
noncomputable def zcr : List D → Option D := fnD 3 wz
noncomputable def zD : List D → Option D
  | [.int c, .int k] => some (.int (zel c k))
  | _ => none
theorem zbg {i j : Int} (h1 : -(2 ^ 64) < i) (h2 : i < 2 ^ 64) : ZT i j = true := decide_eq_true (.inl ⟨h1, h2⟩)
theorem zfi {i j : Int} (h1 : -(2 ^ 64) < j) (h2 : j < 2 ^ 64) : ZT i j = true := decide_eq_true (.inr ⟨h1, h2⟩)
theorem ZM {i j : Int} (h : ZT i j = true) : YS (.int i) (.int j) = some (.int (i * j)) := by
  show (if ZT i j = true then _ else none) = _
  rw [if_pos h]
theorem y6 {i j : Int} (h : 0 < j) : xM (.int i) (.int j) = some (.int (i % j)) := by
  show (if decide (0 < j) = true then _ else none) = _
  rw [if_pos (decide_eq_true h)]
theorem Yw {i j : Int} (h : 0 < j) (h2 : j < 1606938044258990275541962092341162602522202993782792835301376) : xQ (.int i) (.int j) = some (.int (i / j)) := by
  show (if decide (0 < j ∧ j < 1606938044258990275541962092341162602522202993782792835301376) = true then _ else none) = _
  rw [if_pos (decide_eq_true ⟨h, h2⟩)]
theorem Vn : ∀ ds d, ds.length = 2 → zD ds = some d → zcr ds = some d := by
  intro ds d hl h
  obtain ⟨a, b, rfl⟩ := zgQ hl
  cases a <;> try cases h
  cases b <;> try cases h
  rename_i c k
  have h1 := Int.emod_nonneg ((c % 2147483647 + 977 * k + 1) * 48271) (show (2147483647 : Int) ≠ 0 by decide)
  have h2 := Int.emod_lt_of_pos ((c % 2147483647 + 977 * k + 1) * 48271) (show (0 : Int) < 2147483647 by decide)
  have m1 : ZT 977 k = true := zbg (by decide) (by decide)
  have m2 : ZT (c % 2147483647 + 977 * k + 1) 48271 = true := zfi (by decide) (by decide)
  obtain ⟨x, hx⟩ : ∃ x, (c % 2147483647 + 977 * k + 1) * 48271 % 2147483647 = x := ⟨_, rfl⟩
  rw [hx] at h1 h2
  have m3 : ZT x x = true := zbg (Int.lt_of_lt_of_le (by decide) h1) (Int.lt_trans h2 (by decide))
  have m4 : ZT 40692 (k + 3) = true := zbg (by decide) (by decide)
  have m5 : ∀ x, ZT x 69621 = true := fun x => zfi (by decide) (by decide)
  obtain ⟨y, hy⟩ : ∃ y, x * x % 2147483629 = y := ⟨_, rfl⟩
  obtain ⟨z, hz⟩ : ∃ z, (y + 40692 * (k + 3)) * 69621 % 2147483647 = z := ⟨_, rfl⟩
  have hst : zel c k = z / 8 := by
    show ((((c % 2147483647 + 977 * k + 1) * 48271 % 2147483647) * ((c % 2147483647 + 977 * k + 1) * 48271 % 2147483647) % 2147483629 + 40692 * (k + 3)) * 69621 % 2147483647 / 8) = _
    rw [hx, hy, hz]
  rw [hst]
  refine zet (ρ := [.v (.int c), .v (.int k), .no]) rfl ?_
  unfold wz
  refine yP (ρ' := [.v (.int c), .v (.int k), .v (.int x)]) (vY ?_) ?_
  · show (((((xM (.int c) (.int 2147483647)).bind fun a => (YS (.int 977) (.int k)).bind fun b => we a b).bind fun a => we a (.int 1)).bind fun a => YS a (.int 48271)).bind fun a => xM a (.int 2147483647)) = _
    rw [y6 (by decide), ZM m1]
    show ((YS (.int (c % 2147483647 + 977 * k + 1)) (.int 48271)).bind fun a => xM a (.int 2147483647)) = _
    rw [ZM m2, ← hx]
    exact y6 (by decide)
  refine yP (ρ' := [.v (.int c), .v (.int k), .v (.int y)]) (vY ?_) ?_
  · show ((YS (.int x) (.int x)).bind fun a => xM a (.int 2147483629)) = _
    rw [ZM m3, ← hy]
    exact y6 (by decide)
  refine yP (ρ' := [.v (.int c), .v (.int k), .v (.int z)]) (vY ?_) ?_
  · show ((((YS (.int 40692) (.int (k + 3))).bind fun b => we (.int y) b).bind fun a => YS a (.int 69621)).bind fun a => xM a (.int 2147483647)) = _
    rw [ZM m4]
    show ((YS (.int (y + 40692 * (k + 3))) (.int 69621)).bind fun a => xM a (.int 2147483647)) = _
    rw [ZM (m5 _), ← hz]
    exact y6 (by decide)
  exact Wo (vZ (show xQ (.int z) (.int 8) = _ from Yw (by decide) (by decide))) rfl
theorem vg (T : Txt K mg ad) : yY P w K mg base CX0 1 ad.f__law_stir ad.e__law_stir ["cell", "k"] (@spD ⟨K⟩ 2 zD) := by
  letI : KK := ⟨K⟩
  refine xX (yw (N := ["cell", "k", "number"]) (ps := ["cell", "k"]) T.d__law_stir.fn xW (g := wz) fun cdv A outer s H E hr => ?_) Vn
  unfold wz
  exact (zf (yA (m := false) (i := 2) xW.nd rfl (Or.inl rfl) (xY (Z5 (yz (yz (xY (za 0 (pv 0)) (zh zi)) (Z5 (zh zi) (za 1 (pv 1)))) (zh zi)) (zh zi)) (zh zi)))
      (zf (yA (m := false) (i := 2) xW.nd rfl (Or.inl rfl) (xY (Z5 (za 2 (pv 2)) (za 2 (pv 2))) (zh zi)))
      (zf (yA (m := false) (i := 2) xW.nd rfl (Or.inl rfl) (xY (Z5 (yz (za 2 (pv 2)) (Z5 (zh zi) (yz (za 1 (pv 1)) (zh zi)))) (zh zi)) (zh zi)))
      (zj (zA (YJ (za 2 (pv 2)) (zh zi)))))))
theorem zd9 {i j : Int} (h1 : 0 ≤ i) (h2 : i ≤ 1000) (h3 : 0 ≤ j) (h4 : j ≤ 1000) : Xh [.int i, .int j] = some (Zk i (j - i).toNat) := by
  show (if zfA i = true ∧ zfA j = true then some (Zk i (j - i).toNat) else none) = _
  rw [if_pos ⟨zX.mpr ⟨by (clear h4 h3 h2; omega), by (clear h4 h3; omega)⟩, zX.mpr ⟨by omega, by omega⟩⟩]
theorem zeb {j : Int} (h3 : 0 ≤ j) (h4 : j ≤ 1000000) : Y2 [.int j] = some (Zk 0 j.toNat) := by
  show (if zfA j = true then some (Zk 0 j.toNat) else none) = _
  rw [if_pos (zX.mpr ⟨by omega, by omega⟩)]
end
section
variable {P : Program} {w : World} {K : PySem.W.Frag} {mg : Str → Option Value} {base : Heap} {ad : Adr}
end
section
variable {P : Program} {w : World} {K : PySem.W.Frag} {mg : Str → Option Value} {base : Heap} {ad : Adr}
noncomputable def wc : SE → Ctl :=
  (xF false 1 (zn we (zd 1) (xR (fLC (XR Xh (zc (zn we (zd 2) (eC (.int 1))) (zc (zd 0) zu))) b1 wA (Yu (zc (zd 3) (zc (zd 0) zu)))))))
noncomputable def xT : SE → Ctl :=
  (zW (xF false 1 (xR (xl zu)))
    (zW (wB Y2 (zc (zd 0) zu) (yJ 2) wc)
    (yK (zd 1))))
noncomputable def zau : List D → Option D := fnD 3 xT
noncomputable def zO : List D → Option D
  | [.int n] => if decide (0 ≤ n ∧ n ≤ 8) = true then some (.lst ((zC n.toNat).map zk)) else none
  | _ => none
theorem Wk : ∀ ds d, ds.length = 1 → zO ds = some d → zau ds = some d := by
  intro ds d hl h
  obtain ⟨a, rfl⟩ := zjv hl
  cases a <;> try cases h
  rename_i n
  obtain ⟨hn, rfl⟩ := ifS h
  have hn : 0 ≤ n ∧ n ≤ 8 := of_decide_eq_true hn
  clear h hl
  obtain ⟨k, hk⟩ : ∃ k : Nat, n.toNat = k := ⟨_, rfl⟩
  have hk8 : k ≤ 8 := by omega
  have hkn : n = (k : Int) := by omega
  rw [hk]
  have hr : Y2 [.int n] = some (Zk 0 k) := by rw [zeb hn.1 (by omega), hk]
  clear hk
  refine zet (ρ := [.v (.int n), .no, .no]) rfl ?_
  unfold xT
  have e0 : xF false 1 (xR (xl zu)) [.v (.int n), .no, .no] = .nx [.v (.int n), .v (.lst []), .no] := rfl
  refine yP e0 (Zu (zff (lo := 0) (c := k) (fun i ρ => ∃ o2, ρ = [.v (.int n), .v (.lst ((xa k i).map zk)), o2]) hr ⟨.no, rfl⟩ ?_ ?_))
  · rintro i ρ hi ⟨o2, rfl⟩
    refine ⟨_, rfl, ?_⟩
    obtain ⟨x, hx⟩ : ∃ x : Int, (0 : Int) + (i : Int) = x := ⟨_, rfl⟩
    rw [hx]
    unfold wc
    refine zbL (ρ' := [.v (.int n), .v (.lst ((xa k (i + 1)).map zk)), .v (.int x)]) (vY (d := .lst ((xa k (i + 1)).map zk)) ?_) ⟨_, rfl⟩
    have e : fLC (XR Xh (zc (zn we (zd 2) (eC (.int 1))) (zc (zd 0) zu))) b1 wA (Yu (zc (zd 3) (zc (zd 0) zu))) [some (.int n), some (.lst ((xa k i).map zk)), some (.int x)] = some ((zbX i (k - (i + 1))).map zk) := by
      have e1 : Xh [.int (x + 1), .int n] = some (Zk (x + 1) (k - (i + 1))) := by
        rw [zd9 (by omega) (by omega) (by omega) (by omega)]
        have et : (n - (x + 1)).toNat = k - (i + 1) := by omega
        rw [et]
      unfold fLC
      show (Xh [.int (x + 1), .int n]).bind _ = _
      rw [e1]
      show (if lim (Zk (x + 1) (k - (i + 1))).length = true then _ else none) = _
      rw [if_pos (YB (by rw [ZS]; omega))]
      unfold zbX
      rw [List.map_map]
      refine zbC (fun j : Nat => D.int (x + 1 + (j : Int))) _ (List.range (k - (i + 1))) fun j _ => ⟨[some (.int (x + 1 + (j : Int)))], rfl, rfl, ?_⟩
      show some (D.tup [.int x, .int (x + 1 + (j : Int))]) = some (D.tup [.int (i : Int), .int ((i : Int) + 1 + (j : Int))])
      rw [← hx, Int.zero_add]
    show (((fLC (XR Xh (zc (zn we (zd 2) (eC (.int 1))) (zc (zd 0) zu))) b1 wA (Yu (zc (zd 3) (zc (zd 0) zu))) [some (.int n), some (.lst ((xa k i).map zk)), some (.int x)]).map D.lst).bind fun y => we (.lst ((xa k i).map zk)) y) = _
    rw [e]
    show we (.lst ((xa k i).map zk)) (.lst ((zbX i (k - (i + 1))).map zk)) = _
    rw [zdp (by rw [List.length_map, List.length_map, Y9]; have := zd7 k hk8 i; omega), Zf, List.map_append]
  · rintro ρ ⟨o2, rfl⟩
    refine Wo rfl ?_
    rw [zfn]
theorem Yv (T : Txt K mg ad) : yY P w K mg base CX0 1 ad.f__law_pairs ad.e__law_pairs ["many"] (@spD ⟨K⟩ 1 zO) := by
  letI : KK := ⟨K⟩
  refine xX (yw (N := ["many", "found", "a"]) (ps := ["many"]) T.d__law_pairs.fn xH (g := xT) fun cdv A outer s H E hr => ?_) Wk
  unfold xT wc
  exact (zf (yA (m := false) (i := 1) xH.nd rfl (Or.inl rfl) (wf (xS zg)))
      (zf (Zv PassesOwn.never rfl rfl T.z_range (zb (za 0 (pv 0)) zg) (yk (zB (i := 2) xH.nd rfl (Or.inr rfl))) (zj (yA (m := false) (i := 1) xH.nd rfl (Or.inl rfl) (yz (za 1 (pv 1)) (wf (zdy (L := ["b"]) (M := ["many", "found", "a"]) rfl (YG (by rfl) (by rfl) (by rfl) (by with_unfolding_all rfl) (by rfl) (by rfl) (by kernel_rfl) (all_cons rfl wC)) (WI rfl T.z_range (zb (yz (za 2 (pv 2)) (zh zi)) (zb (za 0 (pv 0)) zg))) gs1 rb1 (fun _ _ _ _ => (zB (i := 0) zmc rfl (Or.inl rfl) (.inr rfl))) (fun _ _ _ _ => (wP (zb (za 3 (pv 3)) (zb (za 0 (pv 0)) zg))))))))))
      (zj (zA (za 1 (pv 1))))))
noncomputable def yT : SE → Ctl :=
  (zW (sIf (wK (tOf (zn Xf (zn xM (zd 1) (eC (.int 2))) (eC (.int 0)))) (tOf (zn Xf (zn xM (zn zjC (zn xQ (zd 1) (eC (.int 2))) (zd 3)) (eC (.int 2))) (eC (.int 1))))) (X2 false 2 (zd 4)) yd)
    (sIf (wK (tOf (zn Xf (zn xM (zd 1) (eC (.int 2))) (eC (.int 1)))) (tOf (zn ltD (zn xM (zt 2 zD (zc (zd 1) (zc (zd 3) zu))) (eC (.int 5))) (zn we (eC (.int 2)) (zn xM (zn xQ (zd 1) (eC (.int 2))) (eC (.int 2))))))) (X2 false 2 (zd 4)) yd))
noncomputable def yR : SE → Ctl :=
  (zW (Xn 2 (xl zu))
    (zW (Zt (wV (zc (zt 1 zO (zc (zd 0) zu)) zu)) (zem 2 (Yj (yJ 3) (Yj (yJ 4) zfT))) yT)
    (sFz 2 (yK (Yu (zc (zd 0) (zc (eFn yU (zc (zd 2) zu)) zu)))))))
noncomputable def xJ : List D → Option D := fnD 5 yR
theorem ziX {a k : Int} (h : 0 ≤ k) : zjC (.int a) (.int k) = some (.int (a / 2 ^ k.toNat)) := by
  show (if decide (0 ≤ k) = true then some (D.int (a / 2 ^ k.toNat)) else none) = _
  rw [if_pos (decide_eq_true h)]
theorem zk9 {ρ : Ev} {c x : Int} (h1 : ρ[1]? = some (some (.int c))) (h3 : ρ[3]? = some (some (.int x))) (hx : 0 ≤ x) :
    (∃ b, wK (tOf (zn Xf (zn xM (zd 1) (eC (.int 2))) (eC (.int 0)))) (tOf (zn Xf (zn xM (zn zjC (zn xQ (zd 1) (eC (.int 2))) (zd 3)) (eC (.int 2))) (eC (.int 1)))) ρ = some (decide (c % 2 = 0) && b)) ∧
    ∃ b, wK (tOf (zn Xf (zn xM (zd 1) (eC (.int 2))) (eC (.int 1)))) (tOf (zn ltD (zn xM (zt 2 zD (zc (zd 1) (zc (zd 3) zu))) (eC (.int 5))) (zn we (eC (.int 2)) (zn xM (zn xQ (zd 1) (eC (.int 2))) (eC (.int 2)))))) ρ = some (decide (c % 2 = 1) && b) := by
  have v1 : zd 1 ρ = some (.int c) := by unfold zd; rw [h1]; rfl
  have v3 : zd 3 ρ = some (.int x) := by unfold zd; rw [h3]; rfl
  have f2 : xQ (.int c) (.int 2) = some (.int (c / 2)) := Yw (by decide) (by decide)
  have m0 : ∀ k : Int, tOf (zn Xf (zn xM (zd 1) (eC (.int 2))) (eC (.int k))) ρ = some (decide (c % 2 = k)) := fun k => by
    show (((zd 1 ρ).bind fun a => xM a (.int 2)).bind fun y => Xf y (.int k)).bind asB = _
    rw [v1, Option.bind_some, y6 (by decide)]
    rfl
  constructor
  · refine ⟨decide (c / 2 / 2 ^ x.toNat % 2 = 1), ?_⟩
    have m2 : tOf (zn Xf (zn xM (zn zjC (zn xQ (zd 1) (eC (.int 2))) (zd 3)) (eC (.int 2))) (eC (.int 1))) ρ = some (decide (c / 2 / 2 ^ x.toNat % 2 = 1)) := by
      show (((((zd 1 ρ).bind fun a => xQ a (.int 2)).bind fun a => (zd 3 ρ).bind fun b => zjC a b).bind fun a => xM a (.int 2)).bind fun y => Xf y (.int 1)).bind asB = _
      rw [v1, v3, Option.bind_some, f2, Option.bind_some, Option.bind_some, ziX hx, Option.bind_some, y6 (by decide)]
      rfl
    unfold wK
    rw [m0, Option.bind_some, m2]
    cases decide (c % 2 = 0) <;> rfl
  · refine ⟨decide (zel c x % 5 < 2 + c / 2 % 2), ?_⟩
    have es : zt 2 zD (zc (zd 1) (zc (zd 3) zu)) ρ = some (.int (zel c x)) := by
      unfold zt zc
      rw [v1, v3]
      rfl
    have m2 : tOf (zn ltD (zn xM (zt 2 zD (zc (zd 1) (zc (zd 3) zu))) (eC (.int 5))) (zn we (eC (.int 2)) (zn xM (zn xQ (zd 1) (eC (.int 2))) (eC (.int 2))))) ρ = some (decide (zel c x % 5 < 2 + c / 2 % 2)) := by
      show ((((zt 2 zD (zc (zd 1) (zc (zd 3) zu)) ρ).bind fun a => xM a (.int 5)).bind fun a => ((((zd 1 ρ).bind fun a => xQ a (.int 2)).bind fun a => xM a (.int 2)).bind fun y => we (.int 2) y).bind fun b => ltD a b)).bind asB = _
      rw [es, v1, Option.bind_some, Option.bind_some, y6 (by decide), f2, Option.bind_some, Option.bind_some, y6 (by decide)]
      rfl
    unfold wK
    rw [m0, Option.bind_some, m2]
    cases decide (c % 2 = 1) <;> rfl
theorem zmh {n c x : Int} {ts : List Tie} {t : Tie} {N B C : SE → Prop} {R : D → Prop} (hx : 0 ≤ x) (hl : (ts.map zk).length ≤ 1000)
    (q1 : N [.v (.int n), .v (.int c), .o (ts.map zk), .v (.int x), .v (zk t)]) (q2 : N [.v (.int n), .v (.int c), .o ((ts ++ [t]).map zk), .v (.int x), .v (zk t)]) :
    (yT [.v (.int n), .v (.int c), .o (ts.map zk), .v (.int x), .v (zk t)]).w N B C R := by
  rw [List.map_append] at q2
  unfold yT
  obtain ⟨⟨b1, e1⟩, b2, e2⟩ := zk9 (ρ := visG [.v (.int n), .v (.int c), .o (ts.map zk), .v (.int x), .v (zk t)]) (c := c) (x := x) rfl rfl hx
  obtain ⟨_, b3, e3⟩ := zk9 (ρ := visG [.v (.int n), .v (.int c), .o (ts.map zk ++ [zk t]), .v (.int x), .v (zk t)]) (c := c) (x := x) rfl rfl hx
  have ap := zhv (m := false) (i := 2) (f := zd 4) (ρ := [.v (.int n), .v (.int c), .o (ts.map zk), .v (.int x), .v (zk t)]) (ds := ts.map zk) (d := zk t) rfl rfl hl
  refine Zu (ze5 e1 (fun k => zbL ap ?_) (fun _ => zbL rfl (ze5 e2 (fun _ => zbL ap q2) (fun _ => zbL rfl q1))))
  refine ze5 e3 (fun k3 => ?_) (fun _ => zbL rfl q2)
  have h0 : c % 2 = 0 := of_decide_eq_true (Bool.and_eq_true_iff.mp k).1
  have h1 : c % 2 = 1 := of_decide_eq_true (Bool.and_eq_true_iff.mp k3).1
  exact absurd (h0.symm.trans h1) (by decide)
theorem zfd {n c : Int} (h1 : 1 ≤ n) (h8 : n ≤ 8) : ∃ ts, xJ [.int n, .int c] = some (zm n ts) ∧ ts.Sublist (zC n.toNat) := by
  have key := zkB (m := 5) (g := yR) (ds := [.int n, .int c]) (R := fun d => ∃ ts : List Tie, d = zm n ts ∧ ts.Sublist (zC n.toNat)) rfl ?_
  · obtain ⟨d, e, ts, rfl, hs⟩ := key
    exact ⟨ts, e, hs⟩
  unfold yR
  refine yP rfl ?_
  have ep : zO [.int n] = some (.lst ((zC n.toNat).map zk)) := by
    show (if decide (0 ≤ n ∧ n ≤ 8) = true then some (D.lst ((zC n.toNat).map zk)) else none) = _
    rw [if_pos (decide_eq_true ⟨by omega, by omega⟩)]
  have h28 := (vb n.toNat (by omega)).2.2
  refine Zu (zgo (ds := Xm 0 ((zC n.toNat).map zk)) (fun i ρ => ∃ ts o3 o4, ρ = [.v (.int n), .v (.int c), .o (ts.map zk), o3, o4] ∧ ts.Sublist ((zC n.toNat).take i)) ?_ ⟨[], .no, .no, rfl, List.nil_sublist _⟩ ?_ ?_)
  · show ((zO [.int n]).bind fun d => (some [] : Option (List D)).map (d :: ·)).bind _ = _
    rw [ep]
    rfl
  · rintro i d ρ hd ⟨ts, o3, o4, rfl, hs⟩
    rw [Yf] at hd
    obtain ⟨dx, hdx, rfl⟩ := Option.map_eq_some_iff.mp hd
    rw [List.getElem?_map] at hdx
    obtain ⟨t, ht, rfl⟩ := Option.map_eq_some_iff.mp hdx
    rw [Nat.zero_add]
    have htake : (zC n.toNat).take (i + 1) = (zC n.toNat).take i ++ [t] := by rw [List.take_succ, ht]; rfl
    have hlen : ts.length ≤ 28 := Nat.le_trans hs.length_le (Nat.le_trans (List.length_take_le _ _) (by have := (List.getElem?_eq_some_iff.mp ht).1; omega))
    refine ⟨_, rfl, zmh (Int.natCast_nonneg i) (by rw [List.length_map]; omega) ⟨ts, _, _, rfl, ?_⟩ ⟨ts ++ [t], _, _, rfl, ?_⟩⟩
    · rw [htake]; exact hs.trans (List.sublist_append_left _ _)
    · rw [htake]; exact hs.append (List.Sublist.refl _)
  · rintro ρ ⟨ts, o3, o4, rfl, hs⟩
    exact zl7 rfl (Wo rfl ⟨ts, rfl, hs.trans (List.take_sublist _ _)⟩)
theorem Xp (T : Txt K mg ad) : yY P w K mg base CX0 2 ad.f__law_web_by ad.e__law_web_by ["many", "cell"] (@spD ⟨K⟩ 2 xJ) := by
  letI : KK := ⟨K⟩
  have G__law_pairs := Yv (P := P) (w := w) (base := base) T
  have G__law_stir := vg (P := P) (w := w) (base := base) T
  refine yw (N := ["many", "cell", "ties", "k", "tie"]) (ps := ["many", "cell"]) T.d__law_web_by.fn xj (g := yR) fun cdv A outer s H E hr => ?_
  unfold yR yT
  exact (zf (vS (i := 2) xj.nd rfl (Or.inl rfl) (xS zg))
      (zf (w8 PassesOwn.never rfl (zbR rfl T.z_enumerate wX (zb (zo (G__law_pairs.mono (by decide)) hr rfl T.d__law_pairs.at_ T.d__law_pairs.kp T.d__law_pairs.bd (zb (za 0 (pv 0)) zg)) zg)) (zfB rfl (vz (yk (zB (i := 3) xj.nd rfl (Or.inl rfl))) (vz (yk (zB (i := 4) xj.nd rfl (Or.inl rfl))) zc2))) (zf (xq (zeo (Z0 (zF (Xd hr) vT (zM _) (xY (za 1 (pv 1)) (zh zi)) (zh zi)) (v7 (zF (Xd hr) vT (zM _) (xY (zjQ (YJ (za 1 (pv 1)) (zh zi)) (za 3 (pv 3))) (zh zi)) (zh zi))))) (zj (Zl (m := false) (pv 2) (za 4 (pv 4)) (fun a b => Wg PySem.F.plainAttrs_list PySem.F.slot_list_append PySem.F.type_list_append xm a b))) zL)
      (zj (xq (zeo (Z0 (zF (Xd hr) vT (zM _) (xY (za 1 (pv 1)) (zh zi)) (zh zi)) (v7 (zF zfo zJ (zM _) (xY (zo (G__law_stir.mono (by decide)) hr rfl T.d__law_stir.at_ T.d__law_stir.kp T.d__law_stir.bd (zb (za 1 (pv 1)) (zb (za 3 (pv 3)) zg))) (zh zi)) (yz (zh zi) (xY (YJ (za 1 (pv 1)) (zh zi)) (zh zi))))))) (zj (Zl (m := false) (pv 2) (za 4 (pv 4)) (fun a b => Wg PySem.F.plainAttrs_list PySem.F.slot_list_append PySem.F.type_list_append xm a b))) zL))))
      (vN 2 (zj (zA (wP (zb (za 0 (pv 0)) (zb (xP yf xN rfl T.z_tuple xh (zb (za 2 (pv 2)) zg)) zg))))))))
end
section
variable {P : Program} {w : World} {K : PySem.W.Frag} {mg : Str → Option Value} {base : Heap} {ad : Adr}
theorem zdZ {ts : List Tie} (h : ts.length < 64) : VY [.lst (ts.map zk)] = some ((YM ts).map zk) := by
  show (if (ts.map zk).length < 64 then _ else none) = _
  rw [if_pos (by rw [List.length_map]; exact h), show YW (ts.map zk) = some ts from ZZ ts]
  rfl
set_option genInjectivity false in
set_option genSizeOf false in
set_option genCtorIdx false in
structure zhx (n : Int) (i : Nat) (ts : List Tie) : Prop where
  rng : ∀ t ∈ ts, 0 ≤ t.1 ∧ t.1 < t.2 ∧ t.2 < n
  nd : ts.Nodup
  has : ∀ k : Int, 1 ≤ k → k ≤ (i : Int) → ∃ t ∈ ts, t.2 = k
  len : ts.length ≤ 28 + i
theorem zhx.yes {n x : Int} {i : Nat} {ts : List Tie} (h : zhx n i ts) (hx : x = 1 + (i : Int)) {t : Tie} (ht : t ∈ ts) (e : t.2 = x) : zhx n (i + 1) ts :=
  ⟨h.rng, h.nd, fun k k1 k2 => by
    by_cases c : k = x
    · exact ⟨t, ht, by rw [e, c]⟩
    · exact h.has k k1 (by omega), Nat.le_succ_of_le h.len⟩
theorem zhx.add {n x j : Int} {i : Nat} {ts : List Tie} (h : zhx n i ts) (hx : x = 1 + (i : Int)) (hn : x < n) (j0 : 0 ≤ j) (j1 : j < x) (hno : ∀ t ∈ ts, t.2 ≠ x) : zhx n (i + 1) (ts ++ [(j, x)]) := by
  refine ⟨fun t ht => ?_, ?_, fun k k1 k2 => ?_, ?_⟩
  · rcases List.mem_append.mp ht with ht | ht
    · exact h.rng t ht
    · cases List.mem_singleton.mp ht; exact ⟨j0, j1, hn⟩
  · refine List.nodup_append.mpr ⟨h.nd, List.nodup_cons.mpr ⟨List.not_mem_nil, List.nodup_nil⟩, fun a ha b hb e => ?_⟩
    cases List.mem_singleton.mp hb
    exact hno a ha (by rw [e])
  · by_cases c : k = x
    · exact ⟨(j, x), List.mem_append.mpr (.inr (List.mem_singleton.mpr rfl)), c.symm⟩
    · obtain ⟨t, ht, e⟩ := h.has k k1 (by omega)
      exact ⟨t, List.mem_append.mpr (.inl ht), e⟩
  · rw [List.length_append]
    exact Nat.succ_le_succ h.len
theorem zkl {ρ : Ev} {ts : List Tie} {x : Int} (h2 : ρ[2]? = some (some (.lst (ts.map zk)))) (h3 : ρ[3]? = some (some (.int x))) (hl : ts.length ≤ 1000) : fLC (iOf (zd 2)) b1 (tOf (zn Xf (zn ixD (zd 0) (eC (.int 1))) (zd 4))) (zd 0) ρ = some ((ts.filter fun t => decide (t.2 = x)).map zk) := by
  have e2 : zd 2 ρ = some (.lst (ts.map zk)) := by unfold zd; rw [h2]; rfl
  unfold fLC
  show (((zd 2 ρ).bind wQ).bind fun ds => if lim ds.length = true then _ else none) = _
  rw [e2]
  show (if lim (ts.map zk).length = true then _ else none) = _
  rw [if_pos (YB (by rw [List.length_map]; exact hl))]
  refine vw zk (fun t => decide (t.2 = x)) zk ts fun t _ => ⟨[some (zk t)], rfl, ?_, fun _ => rfl⟩
  have e3 : zd 4 ([some (zk t)] ++ ρ) = some (.int x) := by
    unfold zd
    rw [show ([some (zk t)] ++ ρ)[4]? = ρ[3]? from rfl, h3]
    rfl
  show ((some (D.int t.2)).bind fun a => (zd 4 ([some (zk t)] ++ ρ)).bind fun b => Xf a b).bind asB = _
  rw [e3]
  rfl
noncomputable def yQ : SE → Ctl :=
  (zW (xF false 4 (Yu (zc (zn xM (zt 2 zD (zc (zd 1) (zc (zn we (eC (.int 50)) (zd 3)) zu))) (zd 3)) (zc (zd 3) zu))))
    (sIf (tOf (zn Xf (eFn ZF (zc (xR (fLC (iOf (zd 2)) b1 (tOf (zn Xf (zn ixD (zd 0) (eC (.int 1))) (zd 4))) (zd 0))) zu)) (eC (.int 0)))) (X2 false 2 (zd 4)) yd))
noncomputable def yn : SE → Ctl :=
  (zW (Xn 2 (fFn YR (zc (zn ixD (zt 2 xJ (zc (zd 0) (zc (zd 1) zu))) (eC (.int 1))) zu)))
    (zW (wB Xh (zc (eC (.int 1)) (zc (zd 0) zu)) (yJ 3) yQ)
    (sFz 2 (yK (Yu (zc (zd 0) (zc (eFn yU (zc (xR (fFn VY (zc (zd 2) zu))) zu)) zu)))))))
noncomputable def xu : List D → Option D := fnD 5 yn
theorem VL {n c : Int} (h1 : 1 ≤ n) (h8 : n ≤ 8) : ∃ ts, xu [.int n, .int c] = some (zm n ts) ∧ zcW n ts ∧ (∀ x : Int, 1 ≤ x → x < n → ∃ t ∈ ts, t.2 = x) := by
  obtain ⟨ts0, ew, hsub⟩ := zfd (n := n) (c := c) h1 h8
  obtain ⟨k, hk⟩ : ∃ k : Nat, n = ((k + 1 : Nat) : Int) := ⟨(n - 1).toNat, by omega⟩
  have hk7 : k ≤ 7 := by omega
  obtain ⟨q1, q2, q3⟩ := vb n.toNat (by omega)
  have key := zkB (m := 5) (g := yn) (ds := [.int n, .int c]) (R := fun d => ∃ ts : List Tie, d = zm n (YM ts) ∧ zhx n k ts) (ρ := [.v (.int n), .v (.int c), .no, .no, .no]) rfl ?_
  · obtain ⟨d, e, ts, rfl, hj⟩ := key
    have hp := XL ts
    have hr : ∀ t ∈ YM ts, 0 ≤ t.1 ∧ t.1 < t.2 ∧ t.2 < n := fun t ht => hj.rng t (hp.mem_iff.mp ht)
    refine ⟨_, e, ⟨h1, h8, hr, zam hj.nd⟩, fun x x1 x2 => ?_⟩
    obtain ⟨t, ht, e2⟩ := hj.has x x1 (by omega)
    exact ⟨t, hp.mem_iff.mpr ht, e2⟩
  unfold yn
  refine yP (ρ' := [.v (.int n), .v (.int c), .o (ts0.map zk), .no, .no]) (ziV (ds := ts0.map zk) ?_) ?_
  · show (((xJ [.int n, .int c]).bind fun x => ixD x (.int 1)).bind fun d => (some []).map (d :: ·)).bind YR = _
    rw [ew]
    rfl
  have hrng : Xh [.int 1, .int n] = some (Zk 1 k) := zkd hk hk7
  refine Zu (zff (lo := 1) (c := k) (fun i ρ => ∃ (ts : List Tie) (o3 o4 : Sl), ρ = [.v (.int n), .v (.int c), .o (ts.map zk), o3, o4] ∧ zhx n i ts) hrng ⟨ts0, _, _, rfl, ⟨fun t ht => ?_, (q1.sublist hsub).imp fun {a b} h e => by subst e; exact absurd (Xa.mpr h) (by unfold leP; simp), fun k k1 k2 => absurd (Int.le_trans k1 k2) (by decide), Nat.le_trans hsub.length_le q3⟩⟩ ?_ ?_)
  · have := q2 t (hsub.subset ht)
    omega
  · rintro i ρ hi ⟨ts, o3, o4, rfl, hj⟩
    obtain ⟨x, hx⟩ : ∃ x : Int, x = (1 : Int) + (i : Int) := ⟨_, rfl⟩
    rw [← hx]
    refine ⟨[.v (.int n), .v (.int c), .o (ts.map zk), .v (.int x), o4], rfl, ?_⟩
    unfold yQ
    obtain ⟨j, hjj⟩ : ∃ j : Int, zel c (50 + x) % x = j := ⟨_, rfl⟩
    have xp : 0 < x := by omega
    obtain ⟨j0, j1⟩ := Yk xp hjj
    have hl := hj.len
    refine yP (ρ' := [.v (.int n), .v (.int c), .o (ts.map zk), .v (.int x), .v (zk (j, x))]) (vY (d := zk (j, x)) ?_) ?_
    · have m1 : xM (.int (zel c (50 + x))) (.int x) = some (.int j) := by rw [y6 xp, hjj]
      show ((xM (.int (zel c (50 + x))) (.int x)).bind fun d => (some [D.int x]).map (d :: ·)).bind _ = _
      rw [m1]
      rfl
    refine ze5 (c := decide ((((ts.filter fun t => decide (t.2 = x)).map zk).length : Int) = 0)) ?_ (fun c0 => ?_) (fun c0 => ?_)
    · have el' := zkl (ρ := visG [.v (.int n), .v (.int c), .o (ts.map zk), .v (.int x), .v (zk (j, x))]) (ts := ts) (x := x) rfl rfl (by omega)
      show (((((fLC (iOf (zd 2)) b1 (tOf (zn Xf (zn ixD (zd 0) (eC (.int 1))) (zd 4))) (zd 0) _).map D.lst).bind fun d => (some []).map (d :: ·)).bind ZF).bind fun a => Xf a (.int 0)).bind asB = _
      rw [el']
      rfl
    · refine zbL (zhv (ds := ts.map zk) (d := zk (j, x)) rfl rfl (by rw [List.length_map]; omega)) ⟨ts ++ [(j, x)], .v (.int x), .v (zk (j, x)), ?_, hj.add hx (by omega) j0 j1 fun t ht e => ?_⟩
      · rw [List.map_append]; rfl
      · have h0 := of_decide_eq_true c0
        have : t ∈ ts.filter fun t => decide (t.2 = x) := List.mem_filter.mpr ⟨ht, decide_eq_true e⟩
        rw [List.length_map] at h0
        rw [List.length_eq_zero_iff.mp (Int.ofNat.inj h0)] at this
        cases this
    · obtain ⟨t, ht⟩ : ∃ t, t ∈ ts.filter fun t => decide (t.2 = x) := by
        rcases hf : ts.filter fun t => decide (t.2 = x) with _ | ⟨t, r⟩
        · rw [hf] at c0; cases c0
        · exact ⟨t, by rw [hf]; exact List.mem_cons_self⟩
      obtain ⟨t1, t2⟩ := List.mem_filter.mp ht
      exact zbL rfl ⟨ts, _, _, rfl, hj.yes hx t1 (of_decide_eq_true t2)⟩
  · rintro ρ ⟨ts, o3, o4, rfl, hj⟩
    have hl := hj.len
    have e5 := zdZ (ts := ts) (by omega)
    refine zl7 (ρ' := [.v (.int n), .v (.int c), .v (.lst (ts.map zk)), o3, o4]) rfl ?_
    refine Wo (vZ (d := zm n (YM ts)) ?_) ⟨ts, rfl, hj⟩
    show ((((((VY [.lst (ts.map zk)]).map D.lst).bind fun d => (some []).map (d :: ·)).bind yU).bind fun d => (some []).map (d :: ·)).map (D.int n :: ·)).bind _ = _
    rw [e5]
    rfl
theorem Y5 (T : Txt K mg ad) : yY P w K mg base CX0 3 ad.f__law_joined_by ad.e__law_joined_by ["many", "cell"] (@spD ⟨K⟩ 2 xu) := by
  letI : KK := ⟨K⟩
  have G__law_stir := vg (P := P) (w := w) (base := base) T
  have G__law_web_by := Xp (P := P) (w := w) (base := base) T
  refine yw (N := ["many", "cell", "ties", "k", "tie"]) (ps := ["many", "cell"]) T.d__law_joined_by.fn yF (g := yn) fun cdv A outer s H E hr => ?_
  unfold yn yQ
  exact (zf (vS (i := 2) yF.nd rfl (Or.inl rfl) (zcX rfl T.z_list (zb (zG (zo (G__law_web_by.mono (by decide)) hr rfl T.d__law_web_by.at_ T.d__law_web_by.kp T.d__law_web_by.bd (zb (za 0 (pv 0)) (zb (za 1 (pv 1)) zg))) (zh zi) (fun _ _ => rfl)) zg)))
      (zf (zhs PassesOwn.never rfl rfl T.z_range (zb (zh zi) (zb (za 0 (pv 0)) zg)) (yk (zB (i := 3) yF.nd rfl (Or.inr rfl))) (zf (yA (m := false) (i := 4) yF.nd rfl (Or.inl rfl) (wP (zb (xY (zo (G__law_stir.mono (by decide)) hr rfl T.d__law_stir.at_ T.d__law_stir.kp T.d__law_stir.bd (zb (za 1 (pv 1)) (zb (yz (zh zi) (za 3 (pv 3))) zg))) (za 3 (pv 3))) (zb (za 3 (pv 3)) zg))))
      (zj (xq (zF (Xd hr) vT (zM _) (yj zQ wg rfl T.z_len ve (zb (wf (zdB (L := ["other"]) (M := ["many", "cell", "ties", "k", "tie"]) rfl (YG (by rfl) (by rfl) (by rfl) (by with_unfolding_all rfl) (by rfl) (by rfl) (by kernel_rfl) (all_cons rfl wC)) (vf (za 2 (pv 2))) gs1 rb1 (fun _ _ _ _ => (zB (i := 0) zlM rfl (Or.inl rfl) (.inr rfl))) (fun _ _ _ _ => (zF (Xd hr) vT (zM _) (zG (za 0 (pv 0)) (zh zi) (fun _ _ => rfl)) (za 4 (pv 4)))) (fun _ _ _ _ => (za 0 (pv 0))))) zg)) (zh zi)) (zj (Zl (m := false) (pv 2) (za 4 (pv 4)) (fun a b => Wg PySem.F.plainAttrs_list PySem.F.slot_list_append PySem.F.type_list_append xm a b))) zL))))
      (vN 2 (zj (zA (wP (zb (za 0 (pv 0)) (zb (xP yf xN rfl T.z_tuple xh (zb (wf (zaE rfl rfl T.z_sorted (zb (za 2 (pv 2)) zg))) zg)) zg))))))))
noncomputable def xo : SE → Ctl :=
  (sIf (vH (tOf (zt 3 zy (zc (zd 0) (zc (zd 1) (zc (zd 2) zu)))))) sNo yd)
noncomputable def xz : List D → Option D := fnD 3 xo
theorem wk (T : Txt K mg ad) : yY P w K mg base CX0 3 ad.f_must_be_within ad.e_must_be_within ["thing", "least", "most"] (@spD ⟨K⟩ 3 xz) := by
  letI : KK := ⟨K⟩
  have G_is_whole_within := yW (P := P) (w := w) (base := base) T
  refine yw (N := ["thing", "least", "most"]) (ps := ["thing", "least", "most"]) T.d_must_be_within.fn YI (g := xo) fun cdv A outer s H E hr => ?_
  unfold xo
  exact (zj (xq (Zh (Yh (zo (G_is_whole_within.mono (by decide)) hr rfl T.d_is_whole_within.at_ T.d_is_whole_within.kp T.d_is_whole_within.bd (zb (za 0 (pv 0)) (zb (za 1 (pv 1)) (zb (za 2 (pv 2)) zg)))))) (zj Ys) zL))
noncomputable def xb : SE → Ctl :=
  (sIf (tOf (zn gtD (zd 0) (zd 1))) sNo yd)
noncomputable def wx : List D → Option D := fnD 2 xb
theorem Yn (T : Txt K mg ad) : yY P w K mg base CX0 1 ad.f_must_be_at_most ad.e_must_be_at_most ["many", "most"] (@spD ⟨K⟩ 2 wx) := by
  letI : KK := ⟨K⟩
  refine yw (N := ["many", "most"]) (ps := ["many", "most"]) T.d_must_be_at_most.fn Ym (g := xb) fun cdv A outer s H E hr => ?_
  unfold xb
  exact (zj (xq (zF Xs zJ (zM _) (za 0 (pv 0)) (za 1 (pv 1))) (zj Ys) zL))
noncomputable def Yp : SE → Ctl :=
  (sIf (tOf (zn zf0 (zn ixD (zd 2) (zd 6)) (eC .non))) (zW (zbp true 2 (zd 6) (zn we (zn ixD (zd 2) (zd 5)) (eC (.int 1))))
    (X2 false 4 (zd 6))) yd)
noncomputable def Yd : SE → Ctl :=
  (Zt (iOf (zt 2 zZ (zc (zd 0) (zc (zd 5) zu)))) (yJ 6) Yp)
noncomputable def YE : SE → Ctl :=
  (zW (Xn 4 (xl zu))
    (zW (Zt (iOf (zd 3)) (yJ 5) Yd)
    (sFz 4 (xF false 3 (zd 4)))))
noncomputable def v9 : SE → Ctl :=
  (zW (Xn 2 (fBin zjx (xR (xl (zc (eC .non) zu))) (zn ixD (zd 0) (eC (.int 0)))))
    (zW (zbp false 2 (zd 1) (eC (.int 0)))
    (zW (xF false 3 (xR (xl (zc (zd 1) zu))))
    (zW (Ze (tOf (zn gtD (eFn ZF (zc (zd 3) zu)) (eC (.int 0)))) YE 10)
    (sFz 2 (yK (zd 2)))))))
noncomputable def vU : List D → Option D := fnD 7 v9
theorem Zi (T : Txt K mg ad) : yY P w K mg base CX0 3 ad.f_ties_away ad.e_ties_away ["web", "start"] (@spD ⟨K⟩ 2 vU) := by
  letI : KK := ⟨K⟩
  have G_neighbours := Yl (P := P) (w := w) (base := base) T
  refine yw (N := ["web", "start", "away", "rim", "further", "place", "other"]) (ps := ["web", "start"]) T.d_ties_away.fn yx (g := v9) fun cdv A outer s H E hr => ?_
  unfold v9 YE Yd Yp
  exact (zf (vS (i := 2) yx.nd rfl (Or.inl rfl) (zlf (wf (xS (zb (ze7 zfK) zg))) (zG (za 0 (pv 0)) (zh zi) (fun _ _ => rfl))))
      (zf (Xw (m := false) (zh zi) (pv 2) (za 1 (pv 1)))
      (zf (yA (m := false) (i := 3) yx.nd rfl (Or.inl rfl) (wf (xS (zb (za 1 (pv 1)) zg))))
      (zf (zdh 10 PassesOwn.never (zF Xs zJ (zM _) (yj zQ wg rfl T.z_len ve (zb (za 3 (pv 3)) zg)) (zh zi)) (zf (vS (i := 4) yx.nd rfl (Or.inl rfl) (xS zg))
      (zf (w8 PassesOwn.never rfl (vf (za 3 (pv 3))) (yk (zB (i := 5) yx.nd rfl (Or.inl rfl))) (zj (w8 PassesOwn.never rfl (vf (zo (G_neighbours.mono (by decide)) hr rfl T.d_neighbours.at_ T.d_neighbours.kp T.d_neighbours.bd (zb (za 0 (pv 0)) (zb (za 5 (pv 5)) zg)))) (yk (zB (i := 6) yx.nd rfl (Or.inl rfl))) (zj (xq (zF zjD zil (zM _) (zG (za 2 (pv 2)) (za 6 (pv 6)) (fun _ _ => rfl)) (ze7 zfK)) (zf (Xw (m := true) (yz (zG (za 2 (pv 2)) (za 5 (pv 5)) (fun _ _ => rfl)) (zh zi)) (pv 2) (za 6 (pv 6)))
      (zj (Zl (m := false) (pv 4) (za 6 (pv 6)) (fun a b => Wg PySem.F.plainAttrs_list PySem.F.slot_list_append PySem.F.type_list_append xm a b)))) zL)))))
      (vN 4 (zj (yA (m := false) (i := 3) yx.nd rfl (Or.inl rfl) (za 4 (pv 4))))))))
      (vN 2 (zj (zA (za 2 (pv 2)))))))))
noncomputable def zjp : SE → Ctl :=
  (zW (Xg (zt 1 yS (zc (zd 0) zu)))
    (zW (Xg (zt 2 yc (zc (zd 0) (zc (zd 1) zu))))
    (zW (Xg (zt 2 yc (zc (zd 0) (zc (zd 2) zu))))
    (yK (zn ixD (zt 2 vU (zc (zd 0) (zc (zd 1) zu))) (zd 2))))))
noncomputable def zgn : List D → Option D := fnD 3 zjp
theorem zlg (T : Txt K mg ad) : yY P w K mg base CX0 8 ad.f_far ad.e_far ["web", "one", "other"] (@spD ⟨K⟩ 3 zgn) := by
  letI : KK := ⟨K⟩
  have G_must_be_web := wj (P := P) (w := w) (base := base) T
  have G_must_be_place := wO (P := P) (w := w) (base := base) T
  have G_ties_away := Zi (P := P) (w := w) (base := base) T
  refine yw (N := ["web", "one", "other"]) (ps := ["web", "one", "other"]) T.d_far.fn zk2 (g := zjp) fun cdv A outer s H E hr => ?_
  unfold zjp
  exact (zf (y3 (zo (G_must_be_web.mono (by decide)) hr rfl T.d_must_be_web.at_ T.d_must_be_web.kp T.d_must_be_web.bd (zb (za 0 (pv 0)) zg)))
      (zf (y3 (zo (G_must_be_place.mono (by decide)) hr rfl T.d_must_be_place.at_ T.d_must_be_place.kp T.d_must_be_place.bd (zb (za 0 (pv 0)) (zb (za 1 (pv 1)) zg))))
      (zf (y3 (zo (G_must_be_place.mono (by decide)) hr rfl T.d_must_be_place.at_ T.d_must_be_place.kp T.d_must_be_place.bd (zb (za 0 (pv 0)) (zb (za 2 (pv 2)) zg))))
      (zj (zA (zG (zo (G_ties_away.mono (by decide)) hr rfl T.d_ties_away.at_ T.d_ties_away.kp T.d_ties_away.bd (zb (za 0 (pv 0)) (zb (za 1 (pv 1)) zg))) (za 2 (pv 2)) (fun _ _ => rfl)))))))
noncomputable def XD : SE → Ctl :=
  (zW (xF false 3 (zt 2 vU (zc (zd 0) (zc (zd 2) zu))))
    (zW (xF false 4 (eFn yU (zc (xR (fLC (XR Y2 (zc (zn ixD (zd 0) (eC (.int 0))) zu)) b1 (tOf (zn wd (zn ixD (zd 4) (zd 0)) (eC .non))) (zd 0))) zu)))
    (sIf (tOf (zn Xf (zn ixD (zd 4) (eC (.int 0))) (zd 2))) (X2 false 1 (zd 4)) yd)))
noncomputable def Wf : SE → Ctl :=
  (zW (Xg (zt 1 yS (zc (zd 0) zu)))
    (zW (Xn 1 (xl zu))
    (zW (wB Y2 (zc (zn ixD (zd 0) (eC (.int 0))) zu) (yJ 2) XD)
    (sFz 1 (yK (zd 1))))))
noncomputable def zdo : List D → Option D := fnD 5 Wf
theorem zeD (T : Txt K mg ad) : yY P w K mg base CX0 8 ad.f_pieces ad.e_pieces ["web"] (@spD ⟨K⟩ 1 zdo) := by
  letI : KK := ⟨K⟩
  have G_must_be_web := wj (P := P) (w := w) (base := base) T
  have G_ties_away := Zi (P := P) (w := w) (base := base) T
  refine yw (N := ["web", "found", "start", "away", "piece"]) (ps := ["web"]) T.d_pieces.fn wS (g := Wf) fun cdv A outer s H E hr => ?_
  unfold Wf XD
  exact (zf (y3 (zo (G_must_be_web.mono (by decide)) hr rfl T.d_must_be_web.at_ T.d_must_be_web.kp T.d_must_be_web.bd (zb (za 0 (pv 0)) zg)))
      (zf (vS (i := 1) wS.nd rfl (Or.inl rfl) (xS zg))
      (zf (Zv PassesOwn.never rfl rfl T.z_range (zb (zG (za 0 (pv 0)) (zh zi) (fun _ _ => rfl)) zg) (yk (zB (i := 2) wS.nd rfl (Or.inl rfl))) (zf (yA (m := false) (i := 3) wS.nd rfl (Or.inr rfl) (zo (G_ties_away.mono (by decide)) hr rfl T.d_ties_away.at_ T.d_ties_away.kp T.d_ties_away.bd (zb (za 0 (pv 0)) (zb (za 2 (pv 2)) zg))))
      (zf (yA (m := false) (i := 4) wS.nd rfl (Or.inl rfl) (xP yf xN rfl T.z_tuple xh (zb (wf (zdB (L := ["place"]) (M := ["web", "found", "start", "away", "piece"]) rfl (YG (by rfl) (by rfl) (by rfl) (by with_unfolding_all rfl) (by rfl) (by rfl) (by kernel_rfl) (all_cons rfl wC)) (ZN rfl T.z_range (zb (zG (za 0 (pv 0)) (zh zi) (fun _ _ => rfl)) zg)) gs1 rb1 (fun _ _ _ _ => (zB (i := 0) zmo rfl (Or.inl rfl) (.inr rfl))) (fun _ _ _ _ => (zF zfC zdS (zM _) (zG (za 4 (pv 4)) (za 0 (pv 0)) (fun _ _ => rfl)) (ze7 zfK))) (fun _ _ _ _ => (za 0 (pv 0))))) zg)))
      (zj (xq (zF (Xd hr) vT (zM _) (zG (za 4 (pv 4)) (zh zi) (fun _ _ => rfl)) (za 2 (pv 2))) (zj (Zl (m := false) (pv 1) (za 4 (pv 4)) (fun a b => Wg PySem.F.plainAttrs_list PySem.F.slot_list_append PySem.F.type_list_append xm a b))) zL)))))
      (vN 1 (zj (zA (za 1 (pv 1))))))))
noncomputable def v6 : SE → Ctl :=
  (yK (zn Xf (eFn ZF (zc (zt 1 zdo (zc (zd 0) zu)) zu)) (eC (.int 1))))
noncomputable def ZX : List D → Option D := fnD 1 v6
theorem zap (T : Txt K mg ad) : yY P w K mg base CX0 9 ad.f_is_joined ad.e_is_joined ["web"] (@spD ⟨K⟩ 1 ZX) := by
  letI : KK := ⟨K⟩
  have G_pieces := zeD (P := P) (w := w) (base := base) T
  refine yw (N := ["web"]) (ps := ["web"]) T.d_is_joined.fn Vl (g := v6) fun cdv A outer s H E hr => ?_
  unfold v6
  exact (zj (zA (zhw (Xd hr) vT (zM _) (yj zQ wg rfl T.z_len ve (zb (zo (G_pieces.mono (by decide)) hr rfl T.d_pieces.at_ T.d_pieces.kp T.d_pieces.bd (zb (za 0 (pv 0)) zg)) zg)) (zh zi))))
noncomputable def ZG : SE → Ctl :=
  (zW (Xn 2 (fFn YR (zc (zd 0) zu)))
    (zW (zbp true 2 (zn ixD (zd 1) (eC (.int 0))) (zn Xv (zn ixD (zd 2) (zn ixD (zd 1) (eC (.int 0)))) (eC (.int 2))))
    (zW (zbp true 2 (zn ixD (zd 1) (eC (.int 1))) (zn we (zn ixD (zd 2) (zn ixD (zd 1) (eC (.int 1)))) (eC (.int 1))))
    (sFz 2 (yK (eFn yU (zc (zd 2) zu)))))))
noncomputable def zar : List D → Option D := fnD 3 ZG
theorem zd8 (T : Txt K mg ad) : yY P w K mg base CX0 1 ad.f_stepped ad.e_stepped ["heap", "step"] (@spD ⟨K⟩ 2 zar) := by
  letI : KK := ⟨K⟩
  refine yw (N := ["heap", "step", "stones"]) (ps := ["heap", "step"]) T.d_stepped.fn XE (g := ZG) fun cdv A outer s H E hr => ?_
  unfold ZG
  exact (zf (vS (i := 2) XE.nd rfl (Or.inl rfl) (zcX rfl T.z_list (zb (za 0 (pv 0)) zg)))
      (zf (Xw (m := true) (Zd (zG (za 2 (pv 2)) (zG (za 1 (pv 1)) (zh zi) (fun _ _ => rfl)) (fun _ _ => rfl)) (zh zi)) (pv 2) (zG (za 1 (pv 1)) (zh zi) (fun _ _ => rfl)))
      (zf (Xw (m := true) (yz (zG (za 2 (pv 2)) (zG (za 1 (pv 1)) (zh zi) (fun _ _ => rfl)) (fun _ _ => rfl)) (zh zi)) (pv 2) (zG (za 1 (pv 1)) (zh zi) (fun _ _ => rfl)))
      (vN 2 (zj (zA (xP yf xN rfl T.z_tuple xh (zb (za 2 (pv 2)) zg))))))))
noncomputable def xg : SE → Ctl :=
  (zW (sIf (vH (tOf (zt 1 ZX (zc (zd 0) zu)))) sNo yd)
    (Xg (zt 2 wx (zc (zn ixD (zd 0) (eC (.int 0))) (zc (eC (.int 6)) zu)))))
noncomputable def y8 : List D → Option D := fnD 1 xg
theorem xZ (T : Txt K mg ad) : yY P w K mg base CX0 10 ad.f_must_be_counted ad.e_must_be_counted ["web"] (@spD ⟨K⟩ 1 y8) := by
  letI : KK := ⟨K⟩
  have G_must_be_at_most := Yn (P := P) (w := w) (base := base) T
  have G_is_joined := zap (P := P) (w := w) (base := base) T
  refine yw (N := ["web"]) (ps := ["web"]) T.d_must_be_counted.fn Yx (g := xg) fun cdv A outer s H E hr => ?_
  unfold xg
  exact (zf (xq (Zh (Yh (zo (G_is_joined.mono (by decide)) hr rfl T.d_is_joined.at_ T.d_is_joined.kp T.d_is_joined.bd (zb (za 0 (pv 0)) zg)))) (zj Ys) zL)
      (zj (y3 (zo (G_must_be_at_most.mono (by decide)) hr rfl T.d_must_be_at_most.at_ T.d_must_be_at_most.kp T.d_must_be_at_most.bd (zb (zG (za 0 (pv 0)) (zh zi) (fun _ _ => rfl)) (zb (zh (ZP (v := .int 6) rfl T.g_MOST_COUNTED ⟨_, rfl⟩)) zg))))))
noncomputable def xB : SE → Ctl :=
  (zW (Xg (zt 1 yS (zc (zd 0) zu)))
    (zW (Xg (zt 2 yc (zc (zd 0) (zc (zd 1) zu))))
    (Xg (zt 3 xz (zc (zd 2) (zc (eC (.int 1)) (zc (eC (.int 3)) zu)))))))
noncomputable def xx : List D → Option D := fnD 3 xB
theorem wn (T : Txt K mg ad) : yY P w K mg base CX0 8 ad.f_must_be_wanted ad.e_must_be_wanted ["web", "place", "m"] (@spD ⟨K⟩ 3 xx) := by
  letI : KK := ⟨K⟩
  have G_must_be_within := wk (P := P) (w := w) (base := base) T
  have G_must_be_web := wj (P := P) (w := w) (base := base) T
  have G_must_be_place := wO (P := P) (w := w) (base := base) T
  refine yw (N := ["web", "place", "m"]) (ps := ["web", "place", "m"]) T.d_must_be_wanted.fn Y3 (g := xB) fun cdv A outer s H E hr => ?_
  unfold xB
  exact (zf (y3 (zo (G_must_be_web.mono (by decide)) hr rfl T.d_must_be_web.at_ T.d_must_be_web.kp T.d_must_be_web.bd (zb (za 0 (pv 0)) zg)))
      (zf (y3 (zo (G_must_be_place.mono (by decide)) hr rfl T.d_must_be_place.at_ T.d_must_be_place.kp T.d_must_be_place.bd (zb (za 0 (pv 0)) (zb (za 1 (pv 1)) zg))))
      (zj (y3 (zo (G_must_be_within.mono (by decide)) hr rfl T.d_must_be_within.at_ T.d_must_be_within.kp T.d_must_be_within.bd (zb (za 2 (pv 2)) (zb (zh zi) (zb (zh (ZP (v := .int 3) rfl T.g_MOST_WANTED ⟨_, rfl⟩)) zg))))))))
noncomputable def zaU : SE → Ctl :=
  (zW (xF false 1 (zn zij (xR (fLC (wV (zc (zd 0) zu)) b2 (tOf (zn gtD (zd 1) (eC (.int 0)))) (zd 0))) (eC (.int 0))))
    (yK (xR (fLC (XR Xh (zc (zd 1) (zc (eFn ZF (zc (zd 0) zu)) zu))) b1 wA (zn we (zn we (eSl slD (zd 1) vJ (vM (zd 0))) (Yu (zc (zn we (zn ixD (zd 1) (zd 0)) (eC (.int 1))) zu))) (eSl slD (zd 1) (vM (zn we (zd 0) (eC (.int 1)))) vJ))))))
noncomputable def zeQ : List D → Option D := fnD 2 zaU
theorem zgA (T : Txt K mg ad) : yY P w K mg base CX0 1 ad.f_grown ad.e_grown ["heap"] (@spD ⟨K⟩ 1 zeQ) := by
  letI : KK := ⟨K⟩
  refine yw (N := ["heap", "last"]) (ps := ["heap"]) T.d_grown.fn zds (g := zaU) fun cdv A outer s H E hr => ?_
  unfold zaU
  exact (zf (yA (m := false) (i := 1) zds.nd rfl (Or.inl rfl) (zh4 rfl rfl T.z_max (wf (zdB (L := ["place", "stones"]) (M := ["heap", "last"]) rfl (YG (by rfl) (by rfl) (by rfl) (by with_unfolding_all rfl) (by rfl) (by rfl) (by kernel_rfl) wC) (zbR rfl T.z_enumerate wX (zb (za 0 (pv 0)) zg)) gs2 rb2 (fun _ _ _ _ => (zhL rfl (Wd (zB (i := 0) zkJ rfl (Or.inl rfl) (.inr rfl)) (Wd (zB (i := 1) zkJ rfl (Or.inl rfl) (.inr rfl)) zeW)))) (fun _ _ _ _ => (zF Xs zJ (zM _) (za 1 (pv 1)) (zh zi))) (fun _ _ _ _ => (za 0 (pv 0))))) (zh zi)))
      (zj (zA (wf (zdy (L := ["place"]) (M := ["heap", "last"]) rfl (YG (by rfl) (by rfl) (by rfl) (by with_unfolding_all rfl) (by rfl) (by rfl) (by kernel_rfl) (all_cons rfl wC)) (WI rfl T.z_range (zb (za 1 (pv 1)) (zb (yj zQ wg rfl T.z_len ve (zb (za 0 (pv 0)) zg)) zg))) gs1 rb1 (fun _ _ _ _ => (zB (i := 0) zlH rfl (Or.inl rfl) (.inr rfl))) (fun _ _ _ _ => (yz (yz (vB (za 1 (pv 1)) Y4 (YY (za 0 (pv 0)))) (wP (zb (yz (zG (za 1 (pv 1)) (za 0 (pv 0)) (fun _ _ => rfl)) (zh zi)) zg))) (vB (za 1 (pv 1)) (YY (yz (za 0 (pv 0)) (zh zi))) Y4))))))))
noncomputable def Zn : SE → Ctl :=
  (sIf (wK (tOf (zn geD (zn ixD (zd 0) (zn ixD (zd 3) (eC (.int 0)))) (eC (.int 2)))) (tOf (zn (dinD true) (zt 2 zar (zc (zd 0) (zc (zd 3) zu))) (zd 2)))) (yK (eC (.bl false))) yd)
noncomputable def Y6 : SE → Ctl :=
  (zW (Zt (iOf (zd 1)) (yJ 3) Zn)
    (yK (eC (.bl true))))
noncomputable def XM : List D → Option D := fnD 4 Y6
theorem zbB (T : Txt K mg ad) : yY P w K mg base CX0 2 ad.f_leads_to ad.e_leads_to ["heap", "steps", "level"] (@spD ⟨K⟩ 3 XM) := by
  letI : KK := ⟨K⟩
  have G_stepped := zd8 (P := P) (w := w) (base := base) T
  refine yw (N := ["heap", "steps", "level", "step"]) (ps := ["heap", "steps", "level"]) T.d_leads_to.fn ZR (g := Y6) fun cdv A outer s H E hr => ?_
  unfold Y6 Zn
  exact (zf (w8 PassesOwn.never rfl (vf (za 1 (pv 1))) (yk (zB (i := 3) ZR.nd rfl (Or.inl rfl))) (zj (xq (zeo (Z0 (zF zkf zJ (zM _) (zG (za 0 (pv 0)) (zG (za 3 (pv 3)) (zh zi) (fun _ _ => rfl)) (fun _ _ => rfl)) (zh zi)) (v7 (zF (zfQ hr) zih (by with_unfolding_all rfl) (zo (G_stepped.mono (by decide)) hr rfl T.d_stepped.at_ T.d_stepped.kp T.d_stepped.bd (zb (za 0 (pv 0)) (zb (za 3 (pv 3)) zg))) (za 2 (pv 2)))))) (zj (zA (vL vI))) zL)))
      (zj (zA (vL vI))))
noncomputable def vd : SE → Ctl :=
  (sIf (wK (tOf (zn ltD (zn ixD (zd 6) (zd 2)) (zd 3))) (tOf (zt 3 XM (zc (zd 6) (zc (zd 1) (zc (zd 0) zu)))))) (zjc false 4 (zd 6) (eC (.bl true))) yd)
noncomputable def wW : SE → Ctl :=
  (Zt (iOf (zt 1 zeQ (zc (zd 5) zu))) (yJ 6) vd)
noncomputable def wD : SE → Ctl :=
  (zW (zjb true 4)
    (zW (Zt (iDct (zd 0)) (yJ 5) wW)
    (zlR 4 (yK (zd 4)))))
noncomputable def YA : List D → Option D := fnD 7 wD
theorem Xq (T : Txt K mg ad) : yY P w K mg base CX0 3 ad.f_level_above ad.e_level_above ["level", "steps", "place", "m"] (@spD ⟨K⟩ 4 YA) := by
  letI : KK := ⟨K⟩
  have G_grown := zgA (P := P) (w := w) (base := base) T
  have G_leads_to := zbB (P := P) (w := w) (base := base) T
  refine yw (N := ["level", "steps", "place", "m", "above", "heap", "more"]) (ps := ["level", "steps", "place", "m"]) T.d_level_above.fn xi (g := wD) fun cdv A outer s H E hr => ?_
  unfold wD wW vd
  exact (zf (ziT (t := true) (i := 4) xi.nd rfl (Or.inl rfl))
      (zf (w8 PassesOwn.never rfl (ziI (za 0 (pv 0))) (yk (zB (i := 5) xi.nd rfl (Or.inl rfl))) (zj (w8 PassesOwn.never rfl (vf (zo (G_grown.mono (by decide)) hr rfl T.d_grown.at_ T.d_grown.kp T.d_grown.bd (zb (za 5 (pv 5)) zg))) (yk (zB (i := 6) xi.nd rfl (Or.inl rfl))) (zj (xq (zeo (Z0 (zF zfo zJ (zM _) (zG (za 6 (pv 6)) (za 2 (pv 2)) (fun _ _ => rfl)) (za 3 (pv 3))) (v7 (Yh (zo (G_leads_to.mono (by decide)) hr rfl T.d_leads_to.at_ T.d_leads_to.kp T.d_leads_to.bd (zb (za 6 (pv 6)) (zb (za 1 (pv 1)) (zb (za 0 (pv 0)) zg)))))))) (zj (zh0 (m := false) hr (vL vI) (pv 4) (za 6 (pv 6)))) zL)))))
      (ziy 4 (zj (zA (za 4 (pv 4)))))))
noncomputable def xV : SE → Ctl :=
  (zW (X2 false 5 (zd 6))
    (xF false 6 (zt 4 YA (zc (zd 6) (zc (zd 4) (zc (zd 1) (zc (zd 2) zu)))))))
noncomputable def xw : SE → Ctl :=
  (zW (xF false 4 (zt 1 v5 (zc (zd 0) zu)))
    (zW (Xn 5 (xl zu))
    (zW (xF false 6 (zhy (eFn yU (zc (zn YS (xR (xl (zc (eC (.int 0)) zu))) (zn ixD (zd 0) (eC (.int 0)))) zu)) (eC (.bl true))))
    (zW (Ze (wK (tOf (zn gtD (eFn zjn (zc (zd 6) zu)) (eC (.int 0)))) (tOf (zn leD (eFn ZF (zc (zd 5) zu)) (zd 3)))) xV 40)
    (sFz 5 (yK (zd 5)))))))
noncomputable def xt : List D → Option D := fnD 7 xw
theorem wv (T : Txt K mg ad) : yY P w K mg base CX0 4 ad.f_failing_levels ad.e_failing_levels ["web", "place", "m", "most"] (@spD ⟨K⟩ 4 xt) := by
  letI : KK := ⟨K⟩
  have G_all_steps := zas (P := P) (w := w) (base := base) T
  have G_level_above := Xq (P := P) (w := w) (base := base) T
  refine yw (N := ["web", "place", "m", "most", "steps", "levels", "level"]) (ps := ["web", "place", "m", "most"]) T.d_failing_levels.fn yb (g := xw) fun cdv A outer s H E hr => ?_
  unfold xw xV
  exact (zf (yA (m := false) (i := 4) yb.nd rfl (Or.inl rfl) (zo (G_all_steps.mono (by decide)) hr rfl T.d_all_steps.at_ T.d_all_steps.kp T.d_all_steps.bd (zb (za 0 (pv 0)) zg)))
      (zf (vS (i := 5) yb.nd rfl (Or.inl rfl) (xS zg))
      (zf (yA (m := false) (i := 6) yb.nd rfl (Or.inl rfl) (zge hr (xP yf xN rfl T.z_tuple xh (zb (Z5 (wf (xS (zb (zh zi) zg))) (zG (za 0 (pv 0)) (zh zi) (fun _ _ => rfl))) zg)) (vL vI)))
      (zf (zdh 40 PassesOwn.never (zeo (Z0 (zF Xs zJ (zM _) (yj ze6 zg1 rfl T.z_len ve (zb (za 6 (pv 6)) zg)) (zh zi)) (v7 (zF zeE zJ (zM _) (yj zQ wg rfl T.z_len ve (zb (za 5 (pv 5)) zg)) (za 3 (pv 3)))))) (zf (Zl (m := false) (pv 5) (za 6 (pv 6)) (fun a b => Wg PySem.F.plainAttrs_list PySem.F.slot_list_append PySem.F.type_list_append xm a b))
      (zj (yA (m := false) (i := 6) yb.nd rfl (Or.inl rfl) (zo (G_level_above.mono (by decide)) hr rfl T.d_level_above.at_ T.d_level_above.kp T.d_level_above.bd (zb (za 6 (pv 6)) (zb (za 4 (pv 4)) (zb (za 1 (pv 1)) (zb (za 2 (pv 2)) zg)))))))))
      (vN 5 (zj (zA (za 5 (pv 5)))))))))
noncomputable def zbh : SE → Ctl :=
  (zW (Xg (zt 3 xx (zc (zd 0) (zc (zd 1) (zc (zd 2) zu)))))
    (zW (Xg (zt 3 xz (zc (zd 3) (zc (eC (.int 0)) (zc (eC (.int 300)) zu)))))
    (zW (Xg (zt 1 y8 (zc (zd 0) zu)))
    (zW (xF false 4 (zt 4 xt (zc (zd 0) (zc (zd 1) (zc (zd 2) (zc (zd 3) zu))))))
    (yK (eIf (tOf (zn ltD (zd 3) (eFn ZF (zc (zd 4) zu)))) (xR (fFn ZE (zc (zn ixD (zd 4) (zd 3)) zu))) (xR (xl zu))))))))
noncomputable def vV : List D → Option D := fnD 5 zbh
theorem zgH (T : Txt K mg ad) : yY P w K mg base CX0 11 ad.f_fails ad.e_fails ["web", "place", "m", "stones"] (@spD ⟨K⟩ 4 vV) := by
  letI : KK := ⟨K⟩
  have G_must_be_within := wk (P := P) (w := w) (base := base) T
  have G_must_be_counted := xZ (P := P) (w := w) (base := base) T
  have G_must_be_wanted := wn (P := P) (w := w) (base := base) T
  have G_failing_levels := wv (P := P) (w := w) (base := base) T
  refine yw (N := ["web", "place", "m", "stones", "levels"]) (ps := ["web", "place", "m", "stones"]) T.d_fails.fn zdk (g := zbh) fun cdv A outer s H E hr => ?_
  unfold zbh
  exact (zf (y3 (zo (G_must_be_wanted.mono (by decide)) hr rfl T.d_must_be_wanted.at_ T.d_must_be_wanted.kp T.d_must_be_wanted.bd (zb (za 0 (pv 0)) (zb (za 1 (pv 1)) (zb (za 2 (pv 2)) zg)))))
      (zf (y3 (zo (G_must_be_within.mono (by decide)) hr rfl T.d_must_be_within.at_ T.d_must_be_within.kp T.d_must_be_within.bd (zb (za 3 (pv 3)) (zb (zh zi) (zb (zh (ZP (v := .int 300) rfl T.g_MOST_STONES ⟨_, rfl⟩)) zg)))))
      (zf (y3 (zo (G_must_be_counted.mono (by decide)) hr rfl T.d_must_be_counted.at_ T.d_must_be_counted.kp T.d_must_be_counted.bd (zb (za 0 (pv 0)) zg)))
      (zf (yA (m := false) (i := 4) zdk.nd rfl (Or.inl rfl) (zo (G_failing_levels.mono (by decide)) hr rfl T.d_failing_levels.at_ T.d_failing_levels.kp T.d_failing_levels.bd (zb (za 0 (pv 0)) (zb (za 1 (pv 1)) (zb (za 2 (pv 2)) (zb (za 3 (pv 3)) zg))))))
      (zj (zA (zmp (zF zfo zJ (zM _) (za 3 (pv 3)) (yj zQ wg rfl T.z_len ve (zb (za 4 (pv 4)) zg))) (wf (XN rfl rfl T.z_sorted (zb (zG (za 4 (pv 4)) (za 3 (pv 3)) (fun _ _ => rfl)) zg))) (wf (xS zg)))))))))
noncomputable def wH : SE → Ctl :=
  (zW (Xg (zt 3 xx (zc (zd 0) (zc (zd 1) (zc (zd 2) zu)))))
    (zW (Xg (zt 1 y8 (zc (zd 0) zu)))
    (yK (zt 4 xt (zc (zd 0) (zc (zd 1) (zc (zd 2) (zc (eC (.int 300)) zu))))))))
noncomputable def yg : List D → Option D := fnD 3 wH
theorem vQ (T : Txt K mg ad) : yY P w K mg base CX0 11 ad.f_all_failing ad.e_all_failing ["web", "place", "m"] (@spD ⟨K⟩ 3 yg) := by
  letI : KK := ⟨K⟩
  have G_must_be_counted := xZ (P := P) (w := w) (base := base) T
  have G_must_be_wanted := wn (P := P) (w := w) (base := base) T
  have G_failing_levels := wv (P := P) (w := w) (base := base) T
  refine yw (N := ["web", "place", "m"]) (ps := ["web", "place", "m"]) T.d_all_failing.fn Xo (g := wH) fun cdv A outer s H E hr => ?_
  unfold wH
  exact (zf (y3 (zo (G_must_be_wanted.mono (by decide)) hr rfl T.d_must_be_wanted.at_ T.d_must_be_wanted.kp T.d_must_be_wanted.bd (zb (za 0 (pv 0)) (zb (za 1 (pv 1)) (zb (za 2 (pv 2)) zg)))))
      (zf (y3 (zo (G_must_be_counted.mono (by decide)) hr rfl T.d_must_be_counted.at_ T.d_must_be_counted.kp T.d_must_be_counted.bd (zb (za 0 (pv 0)) zg)))
      (zj (zA (zo (G_failing_levels.mono (by decide)) hr rfl T.d_failing_levels.at_ T.d_failing_levels.kp T.d_failing_levels.bd (zb (za 0 (pv 0)) (zb (za 1 (pv 1)) (zb (za 2 (pv 2)) (zb (zh (ZP (v := .int 300) rfl T.g_MOST_STONES ⟨_, rfl⟩)) zg)))))))))
noncomputable def zdm : SE → Ctl :=
  (yK (eFn ZF (zc (zt 3 yg (zc (zd 0) (zc (zd 1) (zc (zd 2) zu)))) zu)))
noncomputable def Zo : List D → Option D := fnD 3 zdm
theorem ziM (T : Txt K mg ad) : yY P w K mg base CX0 12 ad.f_need ad.e_need ["web", "place", "m"] (@spD ⟨K⟩ 3 Zo) := by
  letI : KK := ⟨K⟩
  have G_all_failing := vQ (P := P) (w := w) (base := base) T
  refine yw (N := ["web", "place", "m"]) (ps := ["web", "place", "m"]) T.d_need.fn zjd (g := zdm) fun cdv A outer s H E hr => ?_
  unfold zdm
  exact (zj (zA (yj zQ wg rfl T.z_len ve (zb (zo (G_all_failing.mono (by decide)) hr rfl T.d_all_failing.at_ T.d_all_failing.kp T.d_all_failing.bd (zb (za 0 (pv 0)) (zb (za 1 (pv 1)) (zb (za 2 (pv 2)) zg)))) zg))))
noncomputable def X7 : SE → Ctl :=
  (yK (xR (fFn ZE (zc (zn ixD (zt 3 yg (zc (zd 0) (zc (zd 1) (zc (zd 2) zu)))) (eUn zgZ (eC (.int 1)))) zu))))
noncomputable def v4 : List D → Option D := fnD 3 X7
theorem zg3 (T : Txt K mg ad) : yY P w K mg base CX0 12 ad.f_worst ad.e_worst ["web", "place", "m"] (@spD ⟨K⟩ 3 v4) := by
  letI : KK := ⟨K⟩
  have G_all_failing := vQ (P := P) (w := w) (base := base) T
  refine yw (N := ["web", "place", "m"]) (ps := ["web", "place", "m"]) T.d_worst.fn zgc (g := X7) fun cdv A outer s H E hr => ?_
  unfold X7
  exact (zj (zA (wf (XN rfl rfl T.z_sorted (zb (zG (zo (G_all_failing.mono (by decide)) hr rfl T.d_all_failing.at_ T.d_all_failing.kp T.d_all_failing.bd (zb (za 0 (pv 0)) (zb (za 1 (pv 1)) (zb (za 2 (pv 2)) zg)))) (zkg (zh zi)) (fun _ _ => rfl)) zg)))))
noncomputable def Zc : SE → Ctl :=
  (zW (sIf (tOf (zn gtD (zn ixD (zd 1) (zd 3)) (eC (.int 1)))) (X2 false 2 (Yu (zc (zd 3) (zc (zd 4) zu)))) yd)
    (sIf (tOf (zn gtD (zn ixD (zd 1) (zd 4)) (eC (.int 1)))) (X2 false 2 (Yu (zc (zd 4) (zc (zd 3) zu)))) yd))
noncomputable def YH : SE → Ctl :=
  (zW (Xn 2 (xl zu))
    (zW (Zt (iOf (zn ixD (zd 0) (eC (.int 1)))) (zem 2 (Yj (yJ 3) (Yj (yJ 4) zfT))) Zc)
    (sFz 2 (yK (xR (fFn zdw (zc (zd 2) zu)))))))
noncomputable def XG : List D → Option D := fnD 5 YH
theorem zcC (T : Txt K mg ad) : yY P w K mg base CX0 1 ad.f__law_may ad.e__law_may ["web", "heap"] (@spD ⟨K⟩ 2 XG) := by
  letI : KK := ⟨K⟩
  refine yw (N := ["web", "heap", "found", "a", "b"]) (ps := ["web", "heap"]) T.d__law_may.fn wI (g := YH) fun cdv A outer s H E hr => ?_
  unfold YH Zc
  exact (zf (vS (i := 2) wI.nd rfl (Or.inl rfl) (xS zg))
      (zf (w8 PassesOwn.never rfl (vf (zG (za 0 (pv 0)) (zh zi) (fun _ _ => rfl))) (zfB rfl (vz (yk (zB (i := 3) wI.nd rfl (Or.inl rfl))) (vz (yk (zB (i := 4) wI.nd rfl (Or.inl rfl))) zc2))) (zf (xq (zF Xs zJ (zM _) (zG (za 1 (pv 1)) (za 3 (pv 3)) (fun _ _ => rfl)) (zh zi)) (zj (Zl (m := false) (pv 2) (wP (zb (za 3 (pv 3)) (zb (za 4 (pv 4)) zg))) (fun a b => Wg PySem.F.plainAttrs_list PySem.F.slot_list_append PySem.F.type_list_append xm a b))) zL)
      (zj (xq (zF Xs zJ (zM _) (zG (za 1 (pv 1)) (za 4 (pv 4)) (fun _ _ => rfl)) (zh zi)) (zj (Zl (m := false) (pv 2) (wP (zb (za 4 (pv 4)) (zb (za 3 (pv 3)) zg))) (fun a b => Wg PySem.F.plainAttrs_list PySem.F.slot_list_append PySem.F.type_list_append xm a b))) zL))))
      (vN 2 (zj (zA (wf (zd2 rfl rfl T.z_sorted (zb (za 2 (pv 2)) zg))))))))
noncomputable def wY : SE → Ctl :=
  (zW (Xn 2 (fFn YR (zc (zd 0) zu)))
    (zW (zbp true 2 (zn ixD (zd 1) (eC (.int 0))) (zn Xv (zn ixD (zd 2) (zn ixD (zd 1) (eC (.int 0)))) (eC (.int 2))))
    (zW (zbp true 2 (zn ixD (zd 1) (eC (.int 1))) (zn we (zn ixD (zd 2) (zn ixD (zd 1) (eC (.int 1)))) (eC (.int 1))))
    (sFz 2 (yK (eFn yU (zc (zd 2) zu)))))))
noncomputable def Zb : List D → Option D := fnD 3 wY
theorem X5 (T : Txt K mg ad) : yY P w K mg base CX0 1 ad.f__law_moved ad.e__law_moved ["heap", "step"] (@spD ⟨K⟩ 2 Zb) := by
  letI : KK := ⟨K⟩
  refine yw (N := ["heap", "step", "found"]) (ps := ["heap", "step"]) T.d__law_moved.fn Yy (g := wY) fun cdv A outer s H E hr => ?_
  unfold wY
  exact (zf (vS (i := 2) Yy.nd rfl (Or.inl rfl) (zcX rfl T.z_list (zb (za 0 (pv 0)) zg)))
      (zf (Xw (m := true) (Zd (zG (za 2 (pv 2)) (zG (za 1 (pv 1)) (zh zi) (fun _ _ => rfl)) (fun _ _ => rfl)) (zh zi)) (pv 2) (zG (za 1 (pv 1)) (zh zi) (fun _ _ => rfl)))
      (zf (Xw (m := true) (yz (zG (za 2 (pv 2)) (zG (za 1 (pv 1)) (zh zi) (fun _ _ => rfl)) (fun _ _ => rfl)) (zh zi)) (pv 2) (zG (za 1 (pv 1)) (zh zi) (fun _ _ => rfl)))
      (vN 2 (zj (zA (xP yf xN rfl T.z_tuple xh (zb (za 2 (pv 2)) zg))))))))
noncomputable def zcT : SE → Ctl :=
  (sIf (tOf (zn Z9 (zt 2 Zb (zc (zd 11) (zc (zd 13) zu))) (zd 10))) (yK (eC (.bl false))) yd)
noncomputable def zbk : SE → Ctl :=
  (sIf (wK (tOf (zn gtD (zn ixD (zd 11) (zd 12)) (eC (.int 0)))) (tOf (zn Z9 (zn we (zn we (eSl slD (zd 11) vJ (vM (zd 12))) (Yu (zc (zn Xv (zn ixD (zd 11) (zd 12)) (eC (.int 1))) zu))) (eSl slD (zd 11) (vM (zn we (zd 12) (eC (.int 1)))) vJ)) (zd 10)))) (yK (eC (.bl false))) yd)
noncomputable def vn : SE → Ctl :=
  (zW (sIf (zcE (tOf (zn geD (zn ixD (zd 11) (zd 5)) (zd 4))) (tOf (zn neD (eFn sumD (zc (zd 11) zu)) (zn Xv (zd 6) (eC (.int 1)))))) (yK (eC (.bl false))) yd)
    (zW (wB Y2 (zc (zd 2) zu) (yJ 12) zbk)
    (Zt (iOf (zt 2 XG (zc (zd 3) (zc (zd 11) zu)))) (yJ 13) zcT)))
noncomputable def Wj : SE → Ctl :=
  (zW (xF false 2 (zn we (eC (.int 2)) (zn xM (zn xQ (zd 1) (eC (.int 64))) (eC (.int 3)))))
    (zW (xF false 3 (zt 2 xu (zc (zd 2) (zc (zn xQ (zd 1) (eC (.int 192))) zu))))
    (zW (xF false 4 (zn we (eC (.int 1)) (zn xM (zn xQ (zd 1) (eC (.int 4))) (eC (.int 2)))))
    (zW (xF false 5 (zn xM (zt 2 zD (zc (zd 1) (zc (eC (.int 10)) zu))) (zd 2)))
    (zW (xF false 6 (zt 3 Zo (zc (zd 3) (zc (zd 5) (zc (zd 4) zu)))))
    (zW (xF false 7 (eFn zgW (zc (xR (fLC (XR Y2 (zc (zd 2) zu)) b1 wA (zt 3 zgn (zc (zd 4) (zc (zd 6) (zc (zd 0) zu)))))) zu)))
    (zW (sIf (zcE (tOf (zn ltD (zd 6) (zn YS (zd 4) (zn ixD (xR (xl (zc (eC (.int 1)) (zc (eC (.int 2)) (zc (eC (.int 4)) (zc (eC (.int 8)) zu)))))) (zd 7))))) (tOf (zn ltD (zd 6) (zn Xv (zn we (zd 4) (zd 2)) (eC (.int 1)))))) (yK (eC (.bl false))) yd)
    (zW (xF false 8 (xR (fLC (iOf (zt 1 zO (zc (zd 2) zu))) b1 (tOf (zn Z9 (zd 0) (zn ixD (zd 4) (eC (.int 1))))) (zd 0))))
    (zW (sIf (tOf (zn zkW (zd 8) (xR (xl zu)))) (zW (xF false 9 (eFn yU (zc (xR (fFn Zg (zc (zn we (zn ixD (zd 3) (eC (.int 1))) (Yu (zc (zn ixD (zd 8) (zn xM (zt 2 zD (zc (zd 1) (zc (eC (.int 11)) zu))) (eFn ZF (zc (zd 8) zu)))) zu))) zu))) zu)))
    (sIf (tOf (zn gtD (zt 3 Zo (zc (Yu (zc (zd 2) (zc (zd 9) zu))) (zc (zd 5) (zc (zd 4) zu)))) (zd 6))) (yK (eC (.bl false))) yd)) yd)
    (zW (xF false 10 (zt 4 vV (zc (zd 3) (zc (zd 5) (zc (zd 4) (zc (zn Xv (zd 6) (eC (.int 2))) zu))))))
    (Zt (iOf (eSl slD (zt 3 v4 (zc (zd 3) (zc (zd 5) (zc (zd 4) zu)))) vJ (vM (eC (.int 20))))) (yJ 11) vn)))))))))))
noncomputable def zgC : SE → Ctl :=
  (zW (Zt (iOf (zn we (eSl slD (zd 0) vJ (vM (eC (.int 3)))) (xR (xl (zc (eC (.int 0)) (zc (eC (.int 7)) zu)))))) (yJ 1) Wj)
    (yK (eC (.bl true))))
noncomputable def zkQ : List D → Option D := fnD 14 zgC
theorem ziB {W ls : D} {es : List D} {p m : Int} (h : yg [W, .int p, .int m] = some (.lst es)) : Zo [W, .int p, .int m] = some (.int (es.length : Int)) := by
  refine zet (ρ := [.v W, .v (.int p), .v (.int m)]) rfl ?_
  unfold zdm
  exact Wo (vZ (zi7 (ds := [.lst es]) (v8 (YT (ds := [W, .int p, .int m]) rfl h) XC) rfl)) rfl
theorem zgS {es : List D} {d : D} (h : es.getLast? = some d) : L2.atI es (-1) = some d := by
  obtain ⟨xs, rfl⟩ := List.getLast?_eq_some_iff.mp h
  have e : L2.ixN (xs ++ [d]).length (-1) = some xs.length := by
    unfold L2.ixN
    rw [List.length_append]
    simp
    omega
  unfold L2.atI
  rw [e]
  simp
theorem zf3 {W d : D} {es ws : List D} {p m : Int} (h : yg [W, .int p, .int m] = some (.lst es)) (hl : es.getLast? = some d) (hs : ZE [d] = some ws) : v4 [W, .int p, .int m] = some (.lst ws) := by
  refine zet (ρ := [.v W, .v (.int p), .v (.int m)]) rfl ?_
  unfold X7
  exact Wo (vZ (zfI (zhA (ds := [d]) (v8 (xC (x := .lst es) (y := .int (-1)) (YT (ds := [W, .int p, .int m]) rfl h) rfl (zgS hl)) XC) hs))) rfl
noncomputable def zki : Ctl → Bool
  | .nx _ => true
  | _ => false
noncomputable def zl5 : SE → Ctl := (zW (xF false 7 (eFn zgW (zc (xR (fLC (XR Y2 (zc (zd 2) zu)) b1 wA (zt 3 zgn (zc (zd 4) (zc (zd 6) (zc (zd 0) zu)))))) zu))) (sIf (zcE (tOf (zn ltD (zd 6) (zn YS (zd 4) (zn ixD (xR (xl (zc (eC (.int 1)) (zc (eC (.int 2)) (zc (eC (.int 4)) (zc (eC (.int 8)) zu)))))) (zd 7))))) (tOf (zn ltD (zd 6) (zn Xv (zn we (zd 4) (zd 2)) (eC (.int 1)))))) (yK (eC (.bl false))) yd))
noncomputable def chk (s : D) (z : Int) (o7 o8 o9 o10 o11 o12 o13 : Sl) (n : Nat) (W : D) (p m : Int) (due : Nat) : Bool := match yg [W, .int p, .int m] with
  | some (.lst es) => (match es.getLast? with
    | some d => (match ZE [d] with
      | some ws => (match vV [W, .int p, .int m, .int ((due : Int) - 2)] with
        | some (.lst ls) => decide (es.length = due) && zki (zl5 [.v s, .v (.int z), .v (.int (n : Int)), .v W, .v (.int m), .v (.int p), .v (.int (due : Int)), o7, o8, o9, o10, o11, o12, o13]) && (ws.take 20).all fun h => zki (vn [.v s, .v (.int z), .v (.int (n : Int)), .v W, .v (.int m), .v (.int p), .v (.int (due : Int)), o7, o8, o9, .v (.lst ls), .v h, o12, o13])
        | _ => false)
      | none => false)
    | none => false)
  | _ => false
noncomputable def zf1 : List Tie → List (List Tie)
  | [] => [[]]
  | t :: ts => zf1 ts ++ (zf1 ts).map (t :: ·)
noncomputable def zi2 (n : Nat) (ts : List Tie) : Bool := (List.range n).all fun x => x == 0 || ts.any fun t => t.2 == (x : Int)
theorem zcq (s : D) (z : Int) (o7 o8 o9 o10 o11 o12 o13 : Sl) : chk s z o7 o8 o9 o10 o11 o12 o13 2 (zm 2 [(0, 1)]) 0 1 2 = true := by kernel_rfl
theorem zc1 (s : D) (z : Int) (o7 o8 o9 o10 o11 o12 o13 : Sl) : chk s z o7 o8 o9 o10 o11 o12 o13 2 (zm 2 [(0, 1)]) 0 2 4 = true := by kernel_rfl
theorem zcI (s : D) (z : Int) (o7 o8 o9 o10 o11 o12 o13 : Sl) : chk s z o7 o8 o9 o10 o11 o12 o13 2 (zm 2 [(0, 1)]) 1 1 2 = true := by kernel_rfl
theorem zcf (s : D) (z : Int) (o7 o8 o9 o10 o11 o12 o13 : Sl) : chk s z o7 o8 o9 o10 o11 o12 o13 2 (zm 2 [(0, 1)]) 1 2 4 = true := by kernel_rfl
theorem zdc (s : D) (z : Int) (o7 o8 o9 o10 o11 o12 o13 : Sl) : chk s z o7 o8 o9 o10 o11 o12 o13 3 (zm 3 [(0, 1), (1, 2)]) 0 1 4 = true := by kernel_rfl
theorem zb8 (s : D) (z : Int) (o7 o8 o9 o10 o11 o12 o13 : Sl) : chk s z o7 o8 o9 o10 o11 o12 o13 3 (zm 3 [(0, 1), (1, 2)]) 0 2 8 = true := by kernel_rfl
theorem zbd (s : D) (z : Int) (o7 o8 o9 o10 o11 o12 o13 : Sl) : chk s z o7 o8 o9 o10 o11 o12 o13 3 (zm 3 [(0, 1), (1, 2)]) 1 1 3 = true := by kernel_rfl
theorem zb4 (s : D) (z : Int) (o7 o8 o9 o10 o11 o12 o13 : Sl) : chk s z o7 o8 o9 o10 o11 o12 o13 3 (zm 3 [(0, 1), (1, 2)]) 1 2 5 = true := by kernel_rfl
theorem zbT (s : D) (z : Int) (o7 o8 o9 o10 o11 o12 o13 : Sl) : chk s z o7 o8 o9 o10 o11 o12 o13 3 (zm 3 [(0, 1), (1, 2)]) 2 1 4 = true := by kernel_rfl
theorem za7 (s : D) (z : Int) (o7 o8 o9 o10 o11 o12 o13 : Sl) : chk s z o7 o8 o9 o10 o11 o12 o13 3 (zm 3 [(0, 1), (1, 2)]) 2 2 8 = true := by kernel_rfl
theorem zcw (s : D) (z : Int) (o7 o8 o9 o10 o11 o12 o13 : Sl) : chk s z o7 o8 o9 o10 o11 o12 o13 3 (zm 3 [(0, 1), (0, 2)]) 0 1 3 = true := by kernel_rfl
theorem zcQ (s : D) (z : Int) (o7 o8 o9 o10 o11 o12 o13 : Sl) : chk s z o7 o8 o9 o10 o11 o12 o13 3 (zm 3 [(0, 1), (0, 2)]) 0 2 5 = true := by kernel_rfl
theorem zcP (s : D) (z : Int) (o7 o8 o9 o10 o11 o12 o13 : Sl) : chk s z o7 o8 o9 o10 o11 o12 o13 3 (zm 3 [(0, 1), (0, 2)]) 1 1 4 = true := by kernel_rfl
theorem zcH (s : D) (z : Int) (o7 o8 o9 o10 o11 o12 o13 : Sl) : chk s z o7 o8 o9 o10 o11 o12 o13 3 (zm 3 [(0, 1), (0, 2)]) 1 2 8 = true := by kernel_rfl
theorem zcN (s : D) (z : Int) (o7 o8 o9 o10 o11 o12 o13 : Sl) : chk s z o7 o8 o9 o10 o11 o12 o13 3 (zm 3 [(0, 1), (0, 2)]) 2 1 4 = true := by kernel_rfl
theorem zct (s : D) (z : Int) (o7 o8 o9 o10 o11 o12 o13 : Sl) : chk s z o7 o8 o9 o10 o11 o12 o13 3 (zm 3 [(0, 1), (0, 2)]) 2 2 8 = true := by kernel_rfl
theorem za4 (s : D) (z : Int) (o7 o8 o9 o10 o11 o12 o13 : Sl) : chk s z o7 o8 o9 o10 o11 o12 o13 3 (zm 3 [(0, 1), (0, 2), (1, 2)]) 0 1 3 = true := by kernel_rfl
theorem zaW (s : D) (z : Int) (o7 o8 o9 o10 o11 o12 o13 : Sl) : chk s z o7 o8 o9 o10 o11 o12 o13 3 (zm 3 [(0, 1), (0, 2), (1, 2)]) 0 2 5 = true := by kernel_rfl
theorem zaK (s : D) (z : Int) (o7 o8 o9 o10 o11 o12 o13 : Sl) : chk s z o7 o8 o9 o10 o11 o12 o13 3 (zm 3 [(0, 1), (0, 2), (1, 2)]) 1 1 3 = true := by kernel_rfl
theorem zc0 (s : D) (z : Int) (o7 o8 o9 o10 o11 o12 o13 : Sl) : chk s z o7 o8 o9 o10 o11 o12 o13 3 (zm 3 [(0, 1), (0, 2), (1, 2)]) 1 2 5 = true := by kernel_rfl
theorem zcS (s : D) (z : Int) (o7 o8 o9 o10 o11 o12 o13 : Sl) : chk s z o7 o8 o9 o10 o11 o12 o13 3 (zm 3 [(0, 1), (0, 2), (1, 2)]) 2 1 3 = true := by kernel_rfl
theorem zco (s : D) (z : Int) (o7 o8 o9 o10 o11 o12 o13 : Sl) : chk s z o7 o8 o9 o10 o11 o12 o13 3 (zm 3 [(0, 1), (0, 2), (1, 2)]) 2 2 5 = true := by kernel_rfl
theorem zaI (s : D) (z : Int) (o7 o8 o9 o10 o11 o12 o13 : Sl) : chk s z o7 o8 o9 o10 o11 o12 o13 4 (zm 4 [(0, 1), (1, 2), (2, 3)]) 0 1 8 = true := by kernel_rfl
theorem zcx (s : D) (z : Int) (o7 o8 o9 o10 o11 o12 o13 : Sl) : chk s z o7 o8 o9 o10 o11 o12 o13 4 (zm 4 [(0, 1), (1, 2), (2, 3)]) 0 2 16 = true := by kernel_rfl
theorem zbF (s : D) (z : Int) (o7 o8 o9 o10 o11 o12 o13 : Sl) : chk s z o7 o8 o9 o10 o11 o12 o13 4 (zm 4 [(0, 1), (1, 2), (2, 3)]) 1 1 5 = true := by kernel_rfl
theorem zb5 (s : D) (z : Int) (o7 o8 o9 o10 o11 o12 o13 : Sl) : chk s z o7 o8 o9 o10 o11 o12 o13 4 (zm 4 [(0, 1), (1, 2), (2, 3)]) 1 2 9 = true := by kernel_rfl
theorem zbH (s : D) (z : Int) (o7 o8 o9 o10 o11 o12 o13 : Sl) : chk s z o7 o8 o9 o10 o11 o12 o13 4 (zm 4 [(0, 1), (1, 2), (2, 3)]) 2 1 5 = true := by kernel_rfl
theorem zbv (s : D) (z : Int) (o7 o8 o9 o10 o11 o12 o13 : Sl) : chk s z o7 o8 o9 o10 o11 o12 o13 4 (zm 4 [(0, 1), (1, 2), (2, 3)]) 2 2 9 = true := by kernel_rfl
theorem zbD (s : D) (z : Int) (o7 o8 o9 o10 o11 o12 o13 : Sl) : chk s z o7 o8 o9 o10 o11 o12 o13 4 (zm 4 [(0, 1), (1, 2), (2, 3)]) 3 1 8 = true := by kernel_rfl
theorem za8 (s : D) (z : Int) (o7 o8 o9 o10 o11 o12 o13 : Sl) : chk s z o7 o8 o9 o10 o11 o12 o13 4 (zm 4 [(0, 1), (1, 2), (2, 3)]) 3 2 16 = true := by kernel_rfl
theorem zaH (s : D) (z : Int) (o7 o8 o9 o10 o11 o12 o13 : Sl) : chk s z o7 o8 o9 o10 o11 o12 o13 4 (zm 4 [(0, 1), (1, 2), (1, 3)]) 0 1 5 = true := by kernel_rfl
theorem zbz (s : D) (z : Int) (o7 o8 o9 o10 o11 o12 o13 : Sl) : chk s z o7 o8 o9 o10 o11 o12 o13 4 (zm 4 [(0, 1), (1, 2), (1, 3)]) 0 2 9 = true := by kernel_rfl
theorem zaN (s : D) (z : Int) (o7 o8 o9 o10 o11 o12 o13 : Sl) : chk s z o7 o8 o9 o10 o11 o12 o13 4 (zm 4 [(0, 1), (1, 2), (1, 3)]) 1 1 4 = true := by kernel_rfl
theorem zbs (s : D) (z : Int) (o7 o8 o9 o10 o11 o12 o13 : Sl) : chk s z o7 o8 o9 o10 o11 o12 o13 4 (zm 4 [(0, 1), (1, 2), (1, 3)]) 1 2 6 = true := by kernel_rfl
theorem zbq (s : D) (z : Int) (o7 o8 o9 o10 o11 o12 o13 : Sl) : chk s z o7 o8 o9 o10 o11 o12 o13 4 (zm 4 [(0, 1), (1, 2), (1, 3)]) 2 1 5 = true := by kernel_rfl
theorem zcY (s : D) (z : Int) (o7 o8 o9 o10 o11 o12 o13 : Sl) : chk s z o7 o8 o9 o10 o11 o12 o13 4 (zm 4 [(0, 1), (1, 2), (1, 3)]) 2 2 9 = true := by kernel_rfl
theorem zbm (s : D) (z : Int) (o7 o8 o9 o10 o11 o12 o13 : Sl) : chk s z o7 o8 o9 o10 o11 o12 o13 4 (zm 4 [(0, 1), (1, 2), (1, 3)]) 3 1 5 = true := by kernel_rfl
theorem zcU (s : D) (z : Int) (o7 o8 o9 o10 o11 o12 o13 : Sl) : chk s z o7 o8 o9 o10 o11 o12 o13 4 (zm 4 [(0, 1), (1, 2), (1, 3)]) 3 2 9 = true := by kernel_rfl
theorem zcd (s : D) (z : Int) (o7 o8 o9 o10 o11 o12 o13 : Sl) : chk s z o7 o8 o9 o10 o11 o12 o13 4 (zm 4 [(0, 1), (1, 2), (1, 3), (2, 3)]) 0 1 5 = true := by kernel_rfl
theorem zba (s : D) (z : Int) (o7 o8 o9 o10 o11 o12 o13 : Sl) : chk s z o7 o8 o9 o10 o11 o12 o13 4 (zm 4 [(0, 1), (1, 2), (1, 3), (2, 3)]) 0 2 9 = true := by kernel_rfl
theorem zda (s : D) (z : Int) (o7 o8 o9 o10 o11 o12 o13 : Sl) : chk s z o7 o8 o9 o10 o11 o12 o13 4 (zm 4 [(0, 1), (1, 2), (1, 3), (2, 3)]) 1 1 4 = true := by kernel_rfl
theorem zcs (s : D) (z : Int) (o7 o8 o9 o10 o11 o12 o13 : Sl) : chk s z o7 o8 o9 o10 o11 o12 o13 4 (zm 4 [(0, 1), (1, 2), (1, 3), (2, 3)]) 1 2 6 = true := by kernel_rfl
theorem zdb (s : D) (z : Int) (o7 o8 o9 o10 o11 o12 o13 : Sl) : chk s z o7 o8 o9 o10 o11 o12 o13 4 (zm 4 [(0, 1), (1, 2), (1, 3), (2, 3)]) 2 1 5 = true := by kernel_rfl
theorem zaR (s : D) (z : Int) (o7 o8 o9 o10 o11 o12 o13 : Sl) : chk s z o7 o8 o9 o10 o11 o12 o13 4 (zm 4 [(0, 1), (1, 2), (1, 3), (2, 3)]) 2 2 9 = true := by kernel_rfl
theorem za3 (s : D) (z : Int) (o7 o8 o9 o10 o11 o12 o13 : Sl) : chk s z o7 o8 o9 o10 o11 o12 o13 4 (zm 4 [(0, 1), (1, 2), (1, 3), (2, 3)]) 3 1 5 = true := by kernel_rfl
theorem za2 (s : D) (z : Int) (o7 o8 o9 o10 o11 o12 o13 : Sl) : chk s z o7 o8 o9 o10 o11 o12 o13 4 (zm 4 [(0, 1), (1, 2), (1, 3), (2, 3)]) 3 2 9 = true := by kernel_rfl
theorem zcm (s : D) (z : Int) (o7 o8 o9 o10 o11 o12 o13 : Sl) : chk s z o7 o8 o9 o10 o11 o12 o13 4 (zm 4 [(0, 1), (0, 3), (1, 2)]) 0 1 5 = true := by kernel_rfl
theorem zbj (s : D) (z : Int) (o7 o8 o9 o10 o11 o12 o13 : Sl) : chk s z o7 o8 o9 o10 o11 o12 o13 4 (zm 4 [(0, 1), (0, 3), (1, 2)]) 0 2 9 = true := by kernel_rfl
theorem zbP (s : D) (z : Int) (o7 o8 o9 o10 o11 o12 o13 : Sl) : chk s z o7 o8 o9 o10 o11 o12 o13 4 (zm 4 [(0, 1), (0, 3), (1, 2)]) 1 1 5 = true := by kernel_rfl
theorem zca (s : D) (z : Int) (o7 o8 o9 o10 o11 o12 o13 : Sl) : chk s z o7 o8 o9 o10 o11 o12 o13 4 (zm 4 [(0, 1), (0, 3), (1, 2)]) 1 2 9 = true := by kernel_rfl
theorem zci (s : D) (z : Int) (o7 o8 o9 o10 o11 o12 o13 : Sl) : chk s z o7 o8 o9 o10 o11 o12 o13 4 (zm 4 [(0, 1), (0, 3), (1, 2)]) 2 1 8 = true := by kernel_rfl
theorem za1 (s : D) (z : Int) (o7 o8 o9 o10 o11 o12 o13 : Sl) : chk s z o7 o8 o9 o10 o11 o12 o13 4 (zm 4 [(0, 1), (0, 3), (1, 2)]) 2 2 16 = true := by kernel_rfl
theorem zb3 (s : D) (z : Int) (o7 o8 o9 o10 o11 o12 o13 : Sl) : chk s z o7 o8 o9 o10 o11 o12 o13 4 (zm 4 [(0, 1), (0, 3), (1, 2)]) 3 1 8 = true := by kernel_rfl
theorem zcO (s : D) (z : Int) (o7 o8 o9 o10 o11 o12 o13 : Sl) : chk s z o7 o8 o9 o10 o11 o12 o13 4 (zm 4 [(0, 1), (0, 3), (1, 2)]) 3 2 16 = true := by kernel_rfl
theorem zbE (s : D) (z : Int) (o7 o8 o9 o10 o11 o12 o13 : Sl) : chk s z o7 o8 o9 o10 o11 o12 o13 4 (zm 4 [(0, 1), (0, 3), (1, 2), (2, 3)]) 0 1 4 = true := by kernel_rfl
theorem zcV (s : D) (z : Int) (o7 o8 o9 o10 o11 o12 o13 : Sl) : chk s z o7 o8 o9 o10 o11 o12 o13 4 (zm 4 [(0, 1), (0, 3), (1, 2), (2, 3)]) 0 2 8 = true := by kernel_rfl
theorem zce (s : D) (z : Int) (o7 o8 o9 o10 o11 o12 o13 : Sl) : chk s z o7 o8 o9 o10 o11 o12 o13 4 (zm 4 [(0, 1), (0, 3), (1, 2), (2, 3)]) 1 1 4 = true := by kernel_rfl
theorem za6 (s : D) (z : Int) (o7 o8 o9 o10 o11 o12 o13 : Sl) : chk s z o7 o8 o9 o10 o11 o12 o13 4 (zm 4 [(0, 1), (0, 3), (1, 2), (2, 3)]) 1 2 8 = true := by kernel_rfl
theorem zaQ (s : D) (z : Int) (o7 o8 o9 o10 o11 o12 o13 : Sl) : chk s z o7 o8 o9 o10 o11 o12 o13 4 (zm 4 [(0, 1), (0, 3), (1, 2), (2, 3)]) 2 1 4 = true := by kernel_rfl
theorem zcA (s : D) (z : Int) (o7 o8 o9 o10 o11 o12 o13 : Sl) : chk s z o7 o8 o9 o10 o11 o12 o13 4 (zm 4 [(0, 1), (0, 3), (1, 2), (2, 3)]) 2 2 8 = true := by kernel_rfl
theorem zcZ (s : D) (z : Int) (o7 o8 o9 o10 o11 o12 o13 : Sl) : chk s z o7 o8 o9 o10 o11 o12 o13 4 (zm 4 [(0, 1), (0, 3), (1, 2), (2, 3)]) 3 1 4 = true := by kernel_rfl
theorem zcv (s : D) (z : Int) (o7 o8 o9 o10 o11 o12 o13 : Sl) : chk s z o7 o8 o9 o10 o11 o12 o13 4 (zm 4 [(0, 1), (0, 3), (1, 2), (2, 3)]) 3 2 8 = true := by kernel_rfl
theorem zcF (s : D) (z : Int) (o7 o8 o9 o10 o11 o12 o13 : Sl) : chk s z o7 o8 o9 o10 o11 o12 o13 4 (zm 4 [(0, 1), (0, 3), (1, 2), (1, 3)]) 0 1 5 = true := by kernel_rfl
theorem zc4 (s : D) (z : Int) (o7 o8 o9 o10 o11 o12 o13 : Sl) : chk s z o7 o8 o9 o10 o11 o12 o13 4 (zm 4 [(0, 1), (0, 3), (1, 2), (1, 3)]) 0 2 9 = true := by kernel_rfl
theorem zaG (s : D) (z : Int) (o7 o8 o9 o10 o11 o12 o13 : Sl) : chk s z o7 o8 o9 o10 o11 o12 o13 4 (zm 4 [(0, 1), (0, 3), (1, 2), (1, 3)]) 1 1 4 = true := by kernel_rfl
theorem zcB (s : D) (z : Int) (o7 o8 o9 o10 o11 o12 o13 : Sl) : chk s z o7 o8 o9 o10 o11 o12 o13 4 (zm 4 [(0, 1), (0, 3), (1, 2), (1, 3)]) 1 2 6 = true := by kernel_rfl
theorem za5 (s : D) (z : Int) (o7 o8 o9 o10 o11 o12 o13 : Sl) : chk s z o7 o8 o9 o10 o11 o12 o13 4 (zm 4 [(0, 1), (0, 3), (1, 2), (1, 3)]) 2 1 5 = true := by kernel_rfl
theorem zc3 (s : D) (z : Int) (o7 o8 o9 o10 o11 o12 o13 : Sl) : chk s z o7 o8 o9 o10 o11 o12 o13 4 (zm 4 [(0, 1), (0, 3), (1, 2), (1, 3)]) 2 2 9 = true := by kernel_rfl
theorem za9 (s : D) (z : Int) (o7 o8 o9 o10 o11 o12 o13 : Sl) : chk s z o7 o8 o9 o10 o11 o12 o13 4 (zm 4 [(0, 1), (0, 3), (1, 2), (1, 3)]) 3 1 5 = true := by kernel_rfl
theorem zaZ (s : D) (z : Int) (o7 o8 o9 o10 o11 o12 o13 : Sl) : chk s z o7 o8 o9 o10 o11 o12 o13 4 (zm 4 [(0, 1), (0, 3), (1, 2), (1, 3)]) 3 2 9 = true := by kernel_rfl
theorem zcu (s : D) (z : Int) (o7 o8 o9 o10 o11 o12 o13 : Sl) : chk s z o7 o8 o9 o10 o11 o12 o13 4 (zm 4 [(0, 1), (0, 3), (1, 2), (1, 3), (2, 3)]) 0 1 4 = true := by kernel_rfl
theorem zcj (s : D) (z : Int) (o7 o8 o9 o10 o11 o12 o13 : Sl) : chk s z o7 o8 o9 o10 o11 o12 o13 4 (zm 4 [(0, 1), (0, 3), (1, 2), (1, 3), (2, 3)]) 0 2 8 = true := by kernel_rfl
theorem zc5 (s : D) (z : Int) (o7 o8 o9 o10 o11 o12 o13 : Sl) : chk s z o7 o8 o9 o10 o11 o12 o13 4 (zm 4 [(0, 1), (0, 3), (1, 2), (1, 3), (2, 3)]) 1 1 4 = true := by kernel_rfl
theorem zbr (s : D) (z : Int) (o7 o8 o9 o10 o11 o12 o13 : Sl) : chk s z o7 o8 o9 o10 o11 o12 o13 4 (zm 4 [(0, 1), (0, 3), (1, 2), (1, 3), (2, 3)]) 1 2 6 = true := by kernel_rfl
theorem zcn (s : D) (z : Int) (o7 o8 o9 o10 o11 o12 o13 : Sl) : chk s z o7 o8 o9 o10 o11 o12 o13 4 (zm 4 [(0, 1), (0, 3), (1, 2), (1, 3), (2, 3)]) 2 1 4 = true := by kernel_rfl
theorem zby (s : D) (z : Int) (o7 o8 o9 o10 o11 o12 o13 : Sl) : chk s z o7 o8 o9 o10 o11 o12 o13 4 (zm 4 [(0, 1), (0, 3), (1, 2), (1, 3), (2, 3)]) 2 2 8 = true := by kernel_rfl
theorem zbn (s : D) (z : Int) (o7 o8 o9 o10 o11 o12 o13 : Sl) : chk s z o7 o8 o9 o10 o11 o12 o13 4 (zm 4 [(0, 1), (0, 3), (1, 2), (1, 3), (2, 3)]) 3 1 4 = true := by kernel_rfl
theorem zaS (s : D) (z : Int) (o7 o8 o9 o10 o11 o12 o13 : Sl) : chk s z o7 o8 o9 o10 o11 o12 o13 4 (zm 4 [(0, 1), (0, 3), (1, 2), (1, 3), (2, 3)]) 3 2 6 = true := by kernel_rfl
theorem zb0 (s : D) (z : Int) (o7 o8 o9 o10 o11 o12 o13 : Sl) : chk s z o7 o8 o9 o10 o11 o12 o13 4 (zm 4 [(0, 1), (0, 2), (2, 3)]) 0 1 5 = true := by kernel_rfl
theorem zbb (s : D) (z : Int) (o7 o8 o9 o10 o11 o12 o13 : Sl) : chk s z o7 o8 o9 o10 o11 o12 o13 4 (zm 4 [(0, 1), (0, 2), (2, 3)]) 0 2 9 = true := by kernel_rfl
theorem zcz (s : D) (z : Int) (o7 o8 o9 o10 o11 o12 o13 : Sl) : chk s z o7 o8 o9 o10 o11 o12 o13 4 (zm 4 [(0, 1), (0, 2), (2, 3)]) 1 1 8 = true := by kernel_rfl
theorem zbS (s : D) (z : Int) (o7 o8 o9 o10 o11 o12 o13 : Sl) : chk s z o7 o8 o9 o10 o11 o12 o13 4 (zm 4 [(0, 1), (0, 2), (2, 3)]) 1 2 16 = true := by kernel_rfl
theorem zbY (s : D) (z : Int) (o7 o8 o9 o10 o11 o12 o13 : Sl) : chk s z o7 o8 o9 o10 o11 o12 o13 4 (zm 4 [(0, 1), (0, 2), (2, 3)]) 2 1 5 = true := by kernel_rfl
theorem zbt (s : D) (z : Int) (o7 o8 o9 o10 o11 o12 o13 : Sl) : chk s z o7 o8 o9 o10 o11 o12 o13 4 (zm 4 [(0, 1), (0, 2), (2, 3)]) 2 2 9 = true := by kernel_rfl
theorem zbK (s : D) (z : Int) (o7 o8 o9 o10 o11 o12 o13 : Sl) : chk s z o7 o8 o9 o10 o11 o12 o13 4 (zm 4 [(0, 1), (0, 2), (2, 3)]) 3 1 8 = true := by kernel_rfl
theorem zch (s : D) (z : Int) (o7 o8 o9 o10 o11 o12 o13 : Sl) : chk s z o7 o8 o9 o10 o11 o12 o13 4 (zm 4 [(0, 1), (0, 2), (2, 3)]) 3 2 16 = true := by kernel_rfl
theorem za0 (s : D) (z : Int) (o7 o8 o9 o10 o11 o12 o13 : Sl) : chk s z o7 o8 o9 o10 o11 o12 o13 4 (zm 4 [(0, 1), (0, 2), (1, 3)]) 0 1 5 = true := by kernel_rfl
theorem zcR (s : D) (z : Int) (o7 o8 o9 o10 o11 o12 o13 : Sl) : chk s z o7 o8 o9 o10 o11 o12 o13 4 (zm 4 [(0, 1), (0, 2), (1, 3)]) 0 2 9 = true := by kernel_rfl
theorem zbo (s : D) (z : Int) (o7 o8 o9 o10 o11 o12 o13 : Sl) : chk s z o7 o8 o9 o10 o11 o12 o13 4 (zm 4 [(0, 1), (0, 2), (1, 3)]) 1 1 5 = true := by kernel_rfl
theorem zcy (s : D) (z : Int) (o7 o8 o9 o10 o11 o12 o13 : Sl) : chk s z o7 o8 o9 o10 o11 o12 o13 4 (zm 4 [(0, 1), (0, 2), (1, 3)]) 1 2 9 = true := by kernel_rfl
theorem zbO (s : D) (z : Int) (o7 o8 o9 o10 o11 o12 o13 : Sl) : chk s z o7 o8 o9 o10 o11 o12 o13 4 (zm 4 [(0, 1), (0, 2), (1, 3)]) 2 1 8 = true := by kernel_rfl
theorem zb9 (s : D) (z : Int) (o7 o8 o9 o10 o11 o12 o13 : Sl) : chk s z o7 o8 o9 o10 o11 o12 o13 4 (zm 4 [(0, 1), (0, 2), (1, 3)]) 2 2 16 = true := by kernel_rfl
theorem zaV (s : D) (z : Int) (o7 o8 o9 o10 o11 o12 o13 : Sl) : chk s z o7 o8 o9 o10 o11 o12 o13 4 (zm 4 [(0, 1), (0, 2), (1, 3)]) 3 1 8 = true := by kernel_rfl
theorem zbx (s : D) (z : Int) (o7 o8 o9 o10 o11 o12 o13 : Sl) : chk s z o7 o8 o9 o10 o11 o12 o13 4 (zm 4 [(0, 1), (0, 2), (1, 3)]) 3 2 16 = true := by kernel_rfl
theorem zbc (s : D) (z : Int) (o7 o8 o9 o10 o11 o12 o13 : Sl) : chk s z o7 o8 o9 o10 o11 o12 o13 4 (zm 4 [(0, 1), (0, 2), (1, 3), (2, 3)]) 0 1 4 = true := by kernel_rfl
theorem zc6 (s : D) (z : Int) (o7 o8 o9 o10 o11 o12 o13 : Sl) : chk s z o7 o8 o9 o10 o11 o12 o13 4 (zm 4 [(0, 1), (0, 2), (1, 3), (2, 3)]) 0 2 8 = true := by kernel_rfl
theorem zck (s : D) (z : Int) (o7 o8 o9 o10 o11 o12 o13 : Sl) : chk s z o7 o8 o9 o10 o11 o12 o13 4 (zm 4 [(0, 1), (0, 2), (1, 3), (2, 3)]) 1 1 4 = true := by kernel_rfl
theorem zde (s : D) (z : Int) (o7 o8 o9 o10 o11 o12 o13 : Sl) : chk s z o7 o8 o9 o10 o11 o12 o13 4 (zm 4 [(0, 1), (0, 2), (1, 3), (2, 3)]) 1 2 8 = true := by kernel_rfl
theorem zbN (s : D) (z : Int) (o7 o8 o9 o10 o11 o12 o13 : Sl) : chk s z o7 o8 o9 o10 o11 o12 o13 4 (zm 4 [(0, 1), (0, 2), (1, 3), (2, 3)]) 2 1 4 = true := by kernel_rfl
theorem zbW (s : D) (z : Int) (o7 o8 o9 o10 o11 o12 o13 : Sl) : chk s z o7 o8 o9 o10 o11 o12 o13 4 (zm 4 [(0, 1), (0, 2), (1, 3), (2, 3)]) 2 2 8 = true := by kernel_rfl
theorem zbw (s : D) (z : Int) (o7 o8 o9 o10 o11 o12 o13 : Sl) : chk s z o7 o8 o9 o10 o11 o12 o13 4 (zm 4 [(0, 1), (0, 2), (1, 3), (2, 3)]) 3 1 4 = true := by kernel_rfl
theorem zaM (s : D) (z : Int) (o7 o8 o9 o10 o11 o12 o13 : Sl) : chk s z o7 o8 o9 o10 o11 o12 o13 4 (zm 4 [(0, 1), (0, 2), (1, 3), (2, 3)]) 3 2 8 = true := by kernel_rfl
theorem Ww (s : D) (z : Int) (o7 o8 o9 o10 o11 o12 o13 : Sl) : chk s z o7 o8 o9 o10 o11 o12 o13 4 (zm 4 [(0, 1), (0, 2), (1, 2), (2, 3)]) 0 1 5 = true := by kernel_rfl
theorem Vx (s : D) (z : Int) (o7 o8 o9 o10 o11 o12 o13 : Sl) : chk s z o7 o8 o9 o10 o11 o12 o13 4 (zm 4 [(0, 1), (0, 2), (1, 2), (2, 3)]) 0 2 9 = true := by kernel_rfl
theorem Wv (s : D) (z : Int) (o7 o8 o9 o10 o11 o12 o13 : Sl) : chk s z o7 o8 o9 o10 o11 o12 o13 4 (zm 4 [(0, 1), (0, 2), (1, 2), (2, 3)]) 1 1 5 = true := by kernel_rfl
theorem WU (s : D) (z : Int) (o7 o8 o9 o10 o11 o12 o13 : Sl) : chk s z o7 o8 o9 o10 o11 o12 o13 4 (zm 4 [(0, 1), (0, 2), (1, 2), (2, 3)]) 1 2 9 = true := by kernel_rfl
theorem zat (s : D) (z : Int) (o7 o8 o9 o10 o11 o12 o13 : Sl) : chk s z o7 o8 o9 o10 o11 o12 o13 4 (zm 4 [(0, 1), (0, 2), (1, 2), (2, 3)]) 2 1 4 = true := by kernel_rfl
theorem Vz (s : D) (z : Int) (o7 o8 o9 o10 o11 o12 o13 : Sl) : chk s z o7 o8 o9 o10 o11 o12 o13 4 (zm 4 [(0, 1), (0, 2), (1, 2), (2, 3)]) 2 2 6 = true := by kernel_rfl
theorem W6 (s : D) (z : Int) (o7 o8 o9 o10 o11 o12 o13 : Sl) : chk s z o7 o8 o9 o10 o11 o12 o13 4 (zm 4 [(0, 1), (0, 2), (1, 2), (2, 3)]) 3 1 5 = true := by kernel_rfl
theorem VJ (s : D) (z : Int) (o7 o8 o9 o10 o11 o12 o13 : Sl) : chk s z o7 o8 o9 o10 o11 o12 o13 4 (zm 4 [(0, 1), (0, 2), (1, 2), (2, 3)]) 3 2 9 = true := by kernel_rfl
theorem zak (s : D) (z : Int) (o7 o8 o9 o10 o11 o12 o13 : Sl) : chk s z o7 o8 o9 o10 o11 o12 o13 4 (zm 4 [(0, 1), (0, 2), (1, 2), (1, 3)]) 0 1 5 = true := by kernel_rfl
theorem Vp (s : D) (z : Int) (o7 o8 o9 o10 o11 o12 o13 : Sl) : chk s z o7 o8 o9 o10 o11 o12 o13 4 (zm 4 [(0, 1), (0, 2), (1, 2), (1, 3)]) 0 2 9 = true := by kernel_rfl
theorem Wq (s : D) (z : Int) (o7 o8 o9 o10 o11 o12 o13 : Sl) : chk s z o7 o8 o9 o10 o11 o12 o13 4 (zm 4 [(0, 1), (0, 2), (1, 2), (1, 3)]) 1 1 4 = true := by kernel_rfl
theorem VE (s : D) (z : Int) (o7 o8 o9 o10 o11 o12 o13 : Sl) : chk s z o7 o8 o9 o10 o11 o12 o13 4 (zm 4 [(0, 1), (0, 2), (1, 2), (1, 3)]) 1 2 6 = true := by kernel_rfl
theorem VO (s : D) (z : Int) (o7 o8 o9 o10 o11 o12 o13 : Sl) : chk s z o7 o8 o9 o10 o11 o12 o13 4 (zm 4 [(0, 1), (0, 2), (1, 2), (1, 3)]) 2 1 5 = true := by kernel_rfl
theorem VA (s : D) (z : Int) (o7 o8 o9 o10 o11 o12 o13 : Sl) : chk s z o7 o8 o9 o10 o11 o12 o13 4 (zm 4 [(0, 1), (0, 2), (1, 2), (1, 3)]) 2 2 9 = true := by kernel_rfl
theorem zaf (s : D) (z : Int) (o7 o8 o9 o10 o11 o12 o13 : Sl) : chk s z o7 o8 o9 o10 o11 o12 o13 4 (zm 4 [(0, 1), (0, 2), (1, 2), (1, 3)]) 3 1 5 = true := by kernel_rfl
theorem Wz (s : D) (z : Int) (o7 o8 o9 o10 o11 o12 o13 : Sl) : chk s z o7 o8 o9 o10 o11 o12 o13 4 (zm 4 [(0, 1), (0, 2), (1, 2), (1, 3)]) 3 2 9 = true := by kernel_rfl
theorem Wu (s : D) (z : Int) (o7 o8 o9 o10 o11 o12 o13 : Sl) : chk s z o7 o8 o9 o10 o11 o12 o13 4 (zm 4 [(0, 1), (0, 2), (1, 2), (1, 3), (2, 3)]) 0 1 4 = true := by kernel_rfl
theorem Wy (s : D) (z : Int) (o7 o8 o9 o10 o11 o12 o13 : Sl) : chk s z o7 o8 o9 o10 o11 o12 o13 4 (zm 4 [(0, 1), (0, 2), (1, 2), (1, 3), (2, 3)]) 0 2 8 = true := by kernel_rfl
theorem WO (s : D) (z : Int) (o7 o8 o9 o10 o11 o12 o13 : Sl) : chk s z o7 o8 o9 o10 o11 o12 o13 4 (zm 4 [(0, 1), (0, 2), (1, 2), (1, 3), (2, 3)]) 1 1 4 = true := by kernel_rfl
theorem WH (s : D) (z : Int) (o7 o8 o9 o10 o11 o12 o13 : Sl) : chk s z o7 o8 o9 o10 o11 o12 o13 4 (zm 4 [(0, 1), (0, 2), (1, 2), (1, 3), (2, 3)]) 1 2 6 = true := by kernel_rfl
theorem WX (s : D) (z : Int) (o7 o8 o9 o10 o11 o12 o13 : Sl) : chk s z o7 o8 o9 o10 o11 o12 o13 4 (zm 4 [(0, 1), (0, 2), (1, 2), (1, 3), (2, 3)]) 2 1 4 = true := by kernel_rfl
theorem WQ (s : D) (z : Int) (o7 o8 o9 o10 o11 o12 o13 : Sl) : chk s z o7 o8 o9 o10 o11 o12 o13 4 (zm 4 [(0, 1), (0, 2), (1, 2), (1, 3), (2, 3)]) 2 2 6 = true := by kernel_rfl
theorem V7 (s : D) (z : Int) (o7 o8 o9 o10 o11 o12 o13 : Sl) : chk s z o7 o8 o9 o10 o11 o12 o13 4 (zm 4 [(0, 1), (0, 2), (1, 2), (1, 3), (2, 3)]) 3 1 4 = true := by kernel_rfl
theorem Vk (s : D) (z : Int) (o7 o8 o9 o10 o11 o12 o13 : Sl) : chk s z o7 o8 o9 o10 o11 o12 o13 4 (zm 4 [(0, 1), (0, 2), (1, 2), (1, 3), (2, 3)]) 3 2 8 = true := by kernel_rfl
theorem zaq (s : D) (z : Int) (o7 o8 o9 o10 o11 o12 o13 : Sl) : chk s z o7 o8 o9 o10 o11 o12 o13 4 (zm 4 [(0, 1), (0, 2), (0, 3)]) 0 1 4 = true := by kernel_rfl
theorem Vb (s : D) (z : Int) (o7 o8 o9 o10 o11 o12 o13 : Sl) : chk s z o7 o8 o9 o10 o11 o12 o13 4 (zm 4 [(0, 1), (0, 2), (0, 3)]) 0 2 6 = true := by kernel_rfl
theorem VV (s : D) (z : Int) (o7 o8 o9 o10 o11 o12 o13 : Sl) : chk s z o7 o8 o9 o10 o11 o12 o13 4 (zm 4 [(0, 1), (0, 2), (0, 3)]) 1 1 5 = true := by kernel_rfl
theorem Vu (s : D) (z : Int) (o7 o8 o9 o10 o11 o12 o13 : Sl) : chk s z o7 o8 o9 o10 o11 o12 o13 4 (zm 4 [(0, 1), (0, 2), (0, 3)]) 1 2 9 = true := by kernel_rfl
theorem V8 (s : D) (z : Int) (o7 o8 o9 o10 o11 o12 o13 : Sl) : chk s z o7 o8 o9 o10 o11 o12 o13 4 (zm 4 [(0, 1), (0, 2), (0, 3)]) 2 1 5 = true := by kernel_rfl
theorem WL (s : D) (z : Int) (o7 o8 o9 o10 o11 o12 o13 : Sl) : chk s z o7 o8 o9 o10 o11 o12 o13 4 (zm 4 [(0, 1), (0, 2), (0, 3)]) 2 2 9 = true := by kernel_rfl
theorem zab (s : D) (z : Int) (o7 o8 o9 o10 o11 o12 o13 : Sl) : chk s z o7 o8 o9 o10 o11 o12 o13 4 (zm 4 [(0, 1), (0, 2), (0, 3)]) 3 1 5 = true := by kernel_rfl
theorem Wr (s : D) (z : Int) (o7 o8 o9 o10 o11 o12 o13 : Sl) : chk s z o7 o8 o9 o10 o11 o12 o13 4 (zm 4 [(0, 1), (0, 2), (0, 3)]) 3 2 9 = true := by kernel_rfl
theorem Vo (s : D) (z : Int) (o7 o8 o9 o10 o11 o12 o13 : Sl) : chk s z o7 o8 o9 o10 o11 o12 o13 4 (zm 4 [(0, 1), (0, 2), (0, 3), (2, 3)]) 0 1 4 = true := by kernel_rfl
theorem V2 (s : D) (z : Int) (o7 o8 o9 o10 o11 o12 o13 : Sl) : chk s z o7 o8 o9 o10 o11 o12 o13 4 (zm 4 [(0, 1), (0, 2), (0, 3), (2, 3)]) 0 2 6 = true := by kernel_rfl
theorem Vr (s : D) (z : Int) (o7 o8 o9 o10 o11 o12 o13 : Sl) : chk s z o7 o8 o9 o10 o11 o12 o13 4 (zm 4 [(0, 1), (0, 2), (0, 3), (2, 3)]) 1 1 5 = true := by kernel_rfl
theorem WE (s : D) (z : Int) (o7 o8 o9 o10 o11 o12 o13 : Sl) : chk s z o7 o8 o9 o10 o11 o12 o13 4 (zm 4 [(0, 1), (0, 2), (0, 3), (2, 3)]) 1 2 9 = true := by kernel_rfl
theorem V1 (s : D) (z : Int) (o7 o8 o9 o10 o11 o12 o13 : Sl) : chk s z o7 o8 o9 o10 o11 o12 o13 4 (zm 4 [(0, 1), (0, 2), (0, 3), (2, 3)]) 2 1 5 = true := by kernel_rfl
theorem Wp (s : D) (z : Int) (o7 o8 o9 o10 o11 o12 o13 : Sl) : chk s z o7 o8 o9 o10 o11 o12 o13 4 (zm 4 [(0, 1), (0, 2), (0, 3), (2, 3)]) 2 2 9 = true := by kernel_rfl
theorem VW (s : D) (z : Int) (o7 o8 o9 o10 o11 o12 o13 : Sl) : chk s z o7 o8 o9 o10 o11 o12 o13 4 (zm 4 [(0, 1), (0, 2), (0, 3), (2, 3)]) 3 1 5 = true := by kernel_rfl
theorem zaw (s : D) (z : Int) (o7 o8 o9 o10 o11 o12 o13 : Sl) : chk s z o7 o8 o9 o10 o11 o12 o13 4 (zm 4 [(0, 1), (0, 2), (0, 3), (2, 3)]) 3 2 9 = true := by kernel_rfl
theorem WZ (s : D) (z : Int) (o7 o8 o9 o10 o11 o12 o13 : Sl) : chk s z o7 o8 o9 o10 o11 o12 o13 4 (zm 4 [(0, 1), (0, 2), (0, 3), (1, 3)]) 0 1 4 = true := by kernel_rfl
theorem V3 (s : D) (z : Int) (o7 o8 o9 o10 o11 o12 o13 : Sl) : chk s z o7 o8 o9 o10 o11 o12 o13 4 (zm 4 [(0, 1), (0, 2), (0, 3), (1, 3)]) 0 2 6 = true := by kernel_rfl
theorem zaC (s : D) (z : Int) (o7 o8 o9 o10 o11 o12 o13 : Sl) : chk s z o7 o8 o9 o10 o11 o12 o13 4 (zm 4 [(0, 1), (0, 2), (0, 3), (1, 3)]) 1 1 5 = true := by kernel_rfl
theorem zaD (s : D) (z : Int) (o7 o8 o9 o10 o11 o12 o13 : Sl) : chk s z o7 o8 o9 o10 o11 o12 o13 4 (zm 4 [(0, 1), (0, 2), (0, 3), (1, 3)]) 1 2 9 = true := by kernel_rfl
theorem VQ (s : D) (z : Int) (o7 o8 o9 o10 o11 o12 o13 : Sl) : chk s z o7 o8 o9 o10 o11 o12 o13 4 (zm 4 [(0, 1), (0, 2), (0, 3), (1, 3)]) 2 1 5 = true := by kernel_rfl
theorem zaa (s : D) (z : Int) (o7 o8 o9 o10 o11 o12 o13 : Sl) : chk s z o7 o8 o9 o10 o11 o12 o13 4 (zm 4 [(0, 1), (0, 2), (0, 3), (1, 3)]) 2 2 9 = true := by kernel_rfl
theorem W9 (s : D) (z : Int) (o7 o8 o9 o10 o11 o12 o13 : Sl) : chk s z o7 o8 o9 o10 o11 o12 o13 4 (zm 4 [(0, 1), (0, 2), (0, 3), (1, 3)]) 3 1 5 = true := by kernel_rfl
theorem zay (s : D) (z : Int) (o7 o8 o9 o10 o11 o12 o13 : Sl) : chk s z o7 o8 o9 o10 o11 o12 o13 4 (zm 4 [(0, 1), (0, 2), (0, 3), (1, 3)]) 3 2 9 = true := by kernel_rfl
theorem V0 (s : D) (z : Int) (o7 o8 o9 o10 o11 o12 o13 : Sl) : chk s z o7 o8 o9 o10 o11 o12 o13 4 (zm 4 [(0, 1), (0, 2), (0, 3), (1, 3), (2, 3)]) 0 1 4 = true := by kernel_rfl
theorem zag (s : D) (z : Int) (o7 o8 o9 o10 o11 o12 o13 : Sl) : chk s z o7 o8 o9 o10 o11 o12 o13 4 (zm 4 [(0, 1), (0, 2), (0, 3), (1, 3), (2, 3)]) 0 2 6 = true := by kernel_rfl
theorem W4 (s : D) (z : Int) (o7 o8 o9 o10 o11 o12 o13 : Sl) : chk s z o7 o8 o9 o10 o11 o12 o13 4 (zm 4 [(0, 1), (0, 2), (0, 3), (1, 3), (2, 3)]) 1 1 4 = true := by kernel_rfl
theorem WF (s : D) (z : Int) (o7 o8 o9 o10 o11 o12 o13 : Sl) : chk s z o7 o8 o9 o10 o11 o12 o13 4 (zm 4 [(0, 1), (0, 2), (0, 3), (1, 3), (2, 3)]) 1 2 8 = true := by kernel_rfl
theorem VD (s : D) (z : Int) (o7 o8 o9 o10 o11 o12 o13 : Sl) : chk s z o7 o8 o9 o10 o11 o12 o13 4 (zm 4 [(0, 1), (0, 2), (0, 3), (1, 3), (2, 3)]) 2 1 4 = true := by kernel_rfl
theorem WB (s : D) (z : Int) (o7 o8 o9 o10 o11 o12 o13 : Sl) : chk s z o7 o8 o9 o10 o11 o12 o13 4 (zm 4 [(0, 1), (0, 2), (0, 3), (1, 3), (2, 3)]) 2 2 8 = true := by kernel_rfl
theorem WJ (s : D) (z : Int) (o7 o8 o9 o10 o11 o12 o13 : Sl) : chk s z o7 o8 o9 o10 o11 o12 o13 4 (zm 4 [(0, 1), (0, 2), (0, 3), (1, 3), (2, 3)]) 3 1 4 = true := by kernel_rfl
theorem Ws (s : D) (z : Int) (o7 o8 o9 o10 o11 o12 o13 : Sl) : chk s z o7 o8 o9 o10 o11 o12 o13 4 (zm 4 [(0, 1), (0, 2), (0, 3), (1, 3), (2, 3)]) 3 2 6 = true := by kernel_rfl
theorem WM (s : D) (z : Int) (o7 o8 o9 o10 o11 o12 o13 : Sl) : chk s z o7 o8 o9 o10 o11 o12 o13 4 (zm 4 [(0, 1), (0, 2), (0, 3), (1, 2)]) 0 1 4 = true := by kernel_rfl
theorem Vw (s : D) (z : Int) (o7 o8 o9 o10 o11 o12 o13 : Sl) : chk s z o7 o8 o9 o10 o11 o12 o13 4 (zm 4 [(0, 1), (0, 2), (0, 3), (1, 2)]) 0 2 6 = true := by kernel_rfl
theorem zac (s : D) (z : Int) (o7 o8 o9 o10 o11 o12 o13 : Sl) : chk s z o7 o8 o9 o10 o11 o12 o13 4 (zm 4 [(0, 1), (0, 2), (0, 3), (1, 2)]) 1 1 5 = true := by kernel_rfl
theorem WV (s : D) (z : Int) (o7 o8 o9 o10 o11 o12 o13 : Sl) : chk s z o7 o8 o9 o10 o11 o12 o13 4 (zm 4 [(0, 1), (0, 2), (0, 3), (1, 2)]) 1 2 9 = true := by kernel_rfl
theorem VS (s : D) (z : Int) (o7 o8 o9 o10 o11 o12 o13 : Sl) : chk s z o7 o8 o9 o10 o11 o12 o13 4 (zm 4 [(0, 1), (0, 2), (0, 3), (1, 2)]) 2 1 5 = true := by kernel_rfl
theorem WT (s : D) (z : Int) (o7 o8 o9 o10 o11 o12 o13 : Sl) : chk s z o7 o8 o9 o10 o11 o12 o13 4 (zm 4 [(0, 1), (0, 2), (0, 3), (1, 2)]) 2 2 9 = true := by kernel_rfl
theorem VF (s : D) (z : Int) (o7 o8 o9 o10 o11 o12 o13 : Sl) : chk s z o7 o8 o9 o10 o11 o12 o13 4 (zm 4 [(0, 1), (0, 2), (0, 3), (1, 2)]) 3 1 5 = true := by kernel_rfl
theorem Wx (s : D) (z : Int) (o7 o8 o9 o10 o11 o12 o13 : Sl) : chk s z o7 o8 o9 o10 o11 o12 o13 4 (zm 4 [(0, 1), (0, 2), (0, 3), (1, 2)]) 3 2 9 = true := by kernel_rfl
theorem W2 (s : D) (z : Int) (o7 o8 o9 o10 o11 o12 o13 : Sl) : chk s z o7 o8 o9 o10 o11 o12 o13 4 (zm 4 [(0, 1), (0, 2), (0, 3), (1, 2), (2, 3)]) 0 1 4 = true := by kernel_rfl
theorem Vf (s : D) (z : Int) (o7 o8 o9 o10 o11 o12 o13 : Sl) : chk s z o7 o8 o9 o10 o11 o12 o13 4 (zm 4 [(0, 1), (0, 2), (0, 3), (1, 2), (2, 3)]) 0 2 6 = true := by kernel_rfl
theorem V6 (s : D) (z : Int) (o7 o8 o9 o10 o11 o12 o13 : Sl) : chk s z o7 o8 o9 o10 o11 o12 o13 4 (zm 4 [(0, 1), (0, 2), (0, 3), (1, 2), (2, 3)]) 1 1 4 = true := by kernel_rfl
theorem Wt (s : D) (z : Int) (o7 o8 o9 o10 o11 o12 o13 : Sl) : chk s z o7 o8 o9 o10 o11 o12 o13 4 (zm 4 [(0, 1), (0, 2), (0, 3), (1, 2), (2, 3)]) 1 2 8 = true := by kernel_rfl
theorem W3 (s : D) (z : Int) (o7 o8 o9 o10 o11 o12 o13 : Sl) : chk s z o7 o8 o9 o10 o11 o12 o13 4 (zm 4 [(0, 1), (0, 2), (0, 3), (1, 2), (2, 3)]) 2 1 4 = true := by kernel_rfl
theorem WN (s : D) (z : Int) (o7 o8 o9 o10 o11 o12 o13 : Sl) : chk s z o7 o8 o9 o10 o11 o12 o13 4 (zm 4 [(0, 1), (0, 2), (0, 3), (1, 2), (2, 3)]) 2 2 6 = true := by kernel_rfl
theorem V5 (s : D) (z : Int) (o7 o8 o9 o10 o11 o12 o13 : Sl) : chk s z o7 o8 o9 o10 o11 o12 o13 4 (zm 4 [(0, 1), (0, 2), (0, 3), (1, 2), (2, 3)]) 3 1 4 = true := by kernel_rfl
theorem zan (s : D) (z : Int) (o7 o8 o9 o10 o11 o12 o13 : Sl) : chk s z o7 o8 o9 o10 o11 o12 o13 4 (zm 4 [(0, 1), (0, 2), (0, 3), (1, 2), (2, 3)]) 3 2 8 = true := by kernel_rfl
theorem WK (s : D) (z : Int) (o7 o8 o9 o10 o11 o12 o13 : Sl) : chk s z o7 o8 o9 o10 o11 o12 o13 4 (zm 4 [(0, 1), (0, 2), (0, 3), (1, 2), (1, 3)]) 0 1 4 = true := by kernel_rfl
theorem Ve (s : D) (z : Int) (o7 o8 o9 o10 o11 o12 o13 : Sl) : chk s z o7 o8 o9 o10 o11 o12 o13 4 (zm 4 [(0, 1), (0, 2), (0, 3), (1, 2), (1, 3)]) 0 2 6 = true := by kernel_rfl
theorem VT (s : D) (z : Int) (o7 o8 o9 o10 o11 o12 o13 : Sl) : chk s z o7 o8 o9 o10 o11 o12 o13 4 (zm 4 [(0, 1), (0, 2), (0, 3), (1, 2), (1, 3)]) 1 1 4 = true := by kernel_rfl
theorem Vh (s : D) (z : Int) (o7 o8 o9 o10 o11 o12 o13 : Sl) : chk s z o7 o8 o9 o10 o11 o12 o13 4 (zm 4 [(0, 1), (0, 2), (0, 3), (1, 2), (1, 3)]) 1 2 6 = true := by kernel_rfl
theorem zad (s : D) (z : Int) (o7 o8 o9 o10 o11 o12 o13 : Sl) : chk s z o7 o8 o9 o10 o11 o12 o13 4 (zm 4 [(0, 1), (0, 2), (0, 3), (1, 2), (1, 3)]) 2 1 4 = true := by kernel_rfl
theorem VX (s : D) (z : Int) (o7 o8 o9 o10 o11 o12 o13 : Sl) : chk s z o7 o8 o9 o10 o11 o12 o13 4 (zm 4 [(0, 1), (0, 2), (0, 3), (1, 2), (1, 3)]) 2 2 8 = true := by kernel_rfl
theorem Vs (s : D) (z : Int) (o7 o8 o9 o10 o11 o12 o13 : Sl) : chk s z o7 o8 o9 o10 o11 o12 o13 4 (zm 4 [(0, 1), (0, 2), (0, 3), (1, 2), (1, 3)]) 3 1 4 = true := by kernel_rfl
theorem Vq (s : D) (z : Int) (o7 o8 o9 o10 o11 o12 o13 : Sl) : chk s z o7 o8 o9 o10 o11 o12 o13 4 (zm 4 [(0, 1), (0, 2), (0, 3), (1, 2), (1, 3)]) 3 2 8 = true := by kernel_rfl
theorem W8 (s : D) (z : Int) (o7 o8 o9 o10 o11 o12 o13 : Sl) : chk s z o7 o8 o9 o10 o11 o12 o13 4 (zm 4 [(0, 1), (0, 2), (0, 3), (1, 2), (1, 3), (2, 3)]) 0 1 4 = true := by kernel_rfl
theorem WG (s : D) (z : Int) (o7 o8 o9 o10 o11 o12 o13 : Sl) : chk s z o7 o8 o9 o10 o11 o12 o13 4 (zm 4 [(0, 1), (0, 2), (0, 3), (1, 2), (1, 3), (2, 3)]) 0 2 6 = true := by kernel_rfl
theorem VR (s : D) (z : Int) (o7 o8 o9 o10 o11 o12 o13 : Sl) : chk s z o7 o8 o9 o10 o11 o12 o13 4 (zm 4 [(0, 1), (0, 2), (0, 3), (1, 2), (1, 3), (2, 3)]) 1 1 4 = true := by kernel_rfl
theorem VB (s : D) (z : Int) (o7 o8 o9 o10 o11 o12 o13 : Sl) : chk s z o7 o8 o9 o10 o11 o12 o13 4 (zm 4 [(0, 1), (0, 2), (0, 3), (1, 2), (1, 3), (2, 3)]) 1 2 6 = true := by kernel_rfl
theorem VU (s : D) (z : Int) (o7 o8 o9 o10 o11 o12 o13 : Sl) : chk s z o7 o8 o9 o10 o11 o12 o13 4 (zm 4 [(0, 1), (0, 2), (0, 3), (1, 2), (1, 3), (2, 3)]) 2 1 4 = true := by kernel_rfl
theorem W0 (s : D) (z : Int) (o7 o8 o9 o10 o11 o12 o13 : Sl) : chk s z o7 o8 o9 o10 o11 o12 o13 4 (zm 4 [(0, 1), (0, 2), (0, 3), (1, 2), (1, 3), (2, 3)]) 2 2 6 = true := by kernel_rfl
theorem Vi (s : D) (z : Int) (o7 o8 o9 o10 o11 o12 o13 : Sl) : chk s z o7 o8 o9 o10 o11 o12 o13 4 (zm 4 [(0, 1), (0, 2), (0, 3), (1, 2), (1, 3), (2, 3)]) 3 1 4 = true := by kernel_rfl
theorem W5 (s : D) (z : Int) (o7 o8 o9 o10 o11 o12 o13 : Sl) : chk s z o7 o8 o9 o10 o11 o12 o13 4 (zm 4 [(0, 1), (0, 2), (0, 3), (1, 2), (1, 3), (2, 3)]) 3 2 6 = true := by kernel_rfl
theorem zep {g h : SE → Ctl} {ρ ρ' : SE} (e : zW g h ρ = .nx ρ') : ∃ ρ1, g ρ = .nx ρ1 ∧ h ρ1 = .nx ρ' := by
  unfold zW at e
  cases hg : g ρ with
  | nx r => rw [hg] at e; exact ⟨r, rfl, e⟩
  | _ => rw [hg] at e; cases e
theorem zjg {f : Ev → Option D} {ρ ρ' : SE} : yK f ρ ≠ .nx ρ' := by
  unfold yK
  cases f (visG ρ) <;> (intro h; cases h)
theorem zjG {t : Ev → Option Bool} {f : Ev → Option D} {ρ ρ' : SE} (e : sIf t (yK f) yd ρ = .nx ρ') : ρ' = ρ := by
  unfold sIf at e
  split at e
  · exact absurd e zjg
  · cases e; rfl
  · cases e
theorem zhB {t : Ev → Option Bool} {f : Ev → Option D} (ρ : SE) : sIf t (yK f) yd ρ = .nx ρ ∨ (∃ d, sIf t (yK f) yd ρ = .rt d) ∨ sIf t (yK f) yd ρ = .no := by
  unfold sIf
  split
  · unfold yK
    cases f (visG ρ) with
    | none => exact .inr (.inr rfl)
    | some d => exact .inr (.inl ⟨d, rfl⟩)
  · exact .inl rfl
  · exact .inr (.inr rfl)
theorem zld {m : Bool} {i : Nat} {f : Ev → Option D} {ρ ρ' : SE} (e : xF m i f ρ = .nx ρ') : ∃ d, ρ' = ρ.set i (.v d) := by
  unfold xF at e
  split at e
  · cases e; exact ⟨_, rfl⟩
  · cases e
theorem ze3 {i : Nat} {g : SE → Ctl} (hg : ∀ ρ, g ρ = .nx ρ ∨ (∃ d, g ρ = .rt d) ∨ g ρ = .no) : ∀ (ds : List D) (ρ ρ' : SE), zee (yJ i) g ds ρ = .nx ρ' → ρ' = ρ ∨ ∃ y, ρ' = ρ.set i y := by
  intro ds
  induction ds with
  | nil => intro ρ ρ' e; cases e; exact .inl rfl
  | cons d ds ih =>
    intro ρ ρ' e
    unfold zee yJ at e
    dsimp only at e
    rcases hg (ρ.set i (.v d)) with h | ⟨x, h⟩ | h
    · rw [h] at e
      rcases ih _ _ e with rfl | ⟨y, rfl⟩
      · exact .inr ⟨_, rfl⟩
      · exact .inr ⟨y, by rw [List.set_set]⟩
    · rw [h] at e; cases e
    · rw [h] at e; cases e
theorem zmt {x0 x1 x2 x3 x4 x5 x6 x7 x8 x9 x10 x11 o12 o13 : Sl} {ρ' : SE} (e : vn [x0, x1, x2, x3, x4, x5, x6, x7, x8, x9, x10, x11, o12, o13] = .nx ρ') : ∃ y12 y13, ρ' = [x0, x1, x2, x3, x4, x5, x6, x7, x8, x9, x10, x11, y12, y13] := by
  unfold vn at e
  obtain ⟨ρ1, h1, e⟩ := zep e
  have h1 := zjG h1
  subst h1
  obtain ⟨ρ2, h2, e⟩ := zep e
  have k2 : ∃ y12, ρ2 = [x0, x1, x2, x3, x4, x5, x6, x7, x8, x9, x10, x11, y12, o13] := by
    unfold wB at h2
    split at h2
    · rcases ze3 (fun ρ => by unfold zbk; exact zhB ρ) _ _ _ h2 with rfl | ⟨y, rfl⟩
      · exact ⟨_, rfl⟩
      · exact ⟨y, rfl⟩
    · cases h2
  obtain ⟨y12, rfl⟩ := k2
  unfold Zt at e
  split at e
  · rcases ze3 (fun ρ => by unfold zcT; exact zhB ρ) _ _ _ e with rfl | ⟨y, rfl⟩
    · exact ⟨_, _, rfl⟩
    · exact ⟨y12, y, rfl⟩
  · cases e
theorem zfw {c : Ctl} (h : zki c = true) : ∃ ρ, c = .nx ρ := by
  cases c with
  | nx ρ => exact ⟨ρ, rfl⟩
  | _ => cases h
set_option genInjectivity false in
set_option genSizeOf false in
set_option genCtorIdx false in
structure zkO (n : Nat) (W : D) (p m : Int) (due : Nat) (ws ls : List D) : Prop where
  fneed : Zo [W, .int p, .int m] = some (.int (due : Int))
  fworst : v4 [W, .int p, .int m] = some (.lst ws)
  ffail : vV [W, .int p, .int m, .int ((due : Int) - 2)] = some (.lst ls)
  fst : ∀ (s : D) (z : Int) (o7 o8 o9 o10 o11 o12 o13 : Sl), zki (zl5 [.v s, .v (.int z), .v (.int (n : Int)), .v W, .v (.int m), .v (.int p), .v (.int (due : Int)), o7, o8, o9, o10, o11, o12, o13]) = true
  fall : ∀ (s : D) (z : Int) (o7 o8 o9 o12 o13 : Sl), ∀ h ∈ ws.take 20, zki (vn [.v s, .v (.int z), .v (.int (n : Int)), .v W, .v (.int m), .v (.int p), .v (.int (due : Int)), o7, o8, o9, .v (.lst ls), .v h, o12, o13]) = true
theorem XO {n : Nat} {W : D} {p m : Int} {due : Nat} (h : ∀ s z o7 o8 o9 o10 o11 o12 o13, chk s z o7 o8 o9 o10 o11 o12 o13 n W p m due = true) : ∃ ws ls, zkO n W p m due ws ls := by
  unfold chk at h
  cases e1 : yg [W, .int p, .int m] with
  | none => rw [e1] at h; cases h .non 0 .no .no .no .no .no .no .no
  | some x =>
    rw [e1] at h
    cases x with
    | lst es =>
      dsimp only at h
      cases e2 : es.getLast? with
      | none => rw [e2] at h; cases h .non 0 .no .no .no .no .no .no .no
      | some d =>
        rw [e2] at h
        dsimp only at h
        cases e3 : ZE [d] with
        | none => rw [e3] at h; cases h .non 0 .no .no .no .no .no .no .no
        | some ws =>
          rw [e3] at h
          dsimp only at h
          cases e4 : vV [W, .int p, .int m, .int ((due : Int) - 2)] with
          | none => rw [e4] at h; cases h .non 0 .no .no .no .no .no .no .no
          | some y =>
            rw [e4] at h
            cases y with
            | lst ls =>
              simp only [Bool.and_eq_true, decide_eq_true_eq, List.all_eq_true] at h
              have hd := (h .non 0 .no .no .no .no .no .no .no).1.1
              refine ⟨ws, ls, ?_, zf3 e1 e2 e3, e4, fun s z o7 o8 o9 o10 o11 o12 o13 => (h s z o7 o8 o9 o10 o11 o12 o13).1.2, fun s z o7 o8 o9 o12 o13 x hx => (h s z o7 o8 o9 .no .no o12 o13).2 x hx⟩
              rw [← hd]
              exact ziB (ls := .non) e1
            | _ => cases h .non 0 .no .no .no .no .no .no .no
    | _ => cases h .non 0 .no .no .no .no .no .no .no
theorem zgY {l ts : List Tie} (h : ts.Sublist l) : ts ∈ zf1 l := by
  induction h with
  | slnil => exact List.mem_singleton.mpr rfl
  | cons a _ ih => exact List.mem_append_left _ ih
  | cons_cons a _ ih => exact List.mem_append_right _ (List.mem_map.mpr ⟨_, ih, rfl⟩)
theorem Xx {n : Nat} {t : Tie} (h : 0 ≤ t.1 ∧ t.1 < t.2 ∧ t.2 < (n : Int)) : t ∈ zC n := by
  unfold zC
  rw [List.mem_flatMap]
  refine ⟨t.1.toNat, List.mem_range.mpr (by omega), List.mem_map.mpr ⟨(t.2 - t.1 - 1).toNat, List.mem_range.mpr (by omega), Prod.ext ?_ ?_⟩⟩
  · show ((t.1.toNat : Nat) : Int) = t.1
    omega
  · show ((t.1.toNat : Nat) : Int) + 1 + (((t.2 - t.1 - 1).toNat : Nat) : Int) = t.2
    omega
theorem zbG {a b : Tie} (h : ltP a b) : a ≠ b := fun e => by
  subst e
  unfold ltP at h
  omega
theorem zhT {n : Nat} {ts : List Tie} (h8 : n ≤ 8) (ok : zcW (n : Int) ts) : ts ∈ zf1 (zC n) := by
  have hp := (vb n h8).1
  have e : ts = (zC n).filter fun t => decide (t ∈ ts) := by
    refine List.Perm.eq_of_pairwise (le := ltP) (fun a b _ _ h1 h2 => absurd h2 (by unfold ltP at *; omega)) ok.srt (hp.filter _) ?_
    refine (List.perm_ext_iff_of_nodup (ok.srt.imp zbG) ((hp.filter _).imp zbG)).mpr fun t => ?_
    rw [List.mem_filter, decide_eq_true_eq]
    exact ⟨fun h => ⟨Xx (by have := ok.rng t h; omega), h⟩, fun h => h.2⟩
  rw [e]
  exact zgY List.filter_sublist
theorem zk1 {n : Nat} {ts : List Tie} (h : ∀ x : Int, 1 ≤ x → x < n → ∃ t ∈ ts, t.2 = x) : zi2 n ts = true := by
  refine List.all_eq_true.mpr fun x hx => ?_
  have hx := List.mem_range.mp hx
  cases x with
  | zero => rfl
  | succ x =>
    obtain ⟨t, ht, e⟩ := h ((x + 1 : Nat) : Int) (by omega) (by omega)
    rw [Bool.or_eq_true]
    exact .inr (List.any_eq_true.mpr ⟨t, ht, beq_iff_eq.mpr e⟩)
noncomputable def vp : List (List Tie) := [[(0, 1)]]
noncomputable def XW : List (List Tie × Nat × Nat × Nat) := [([(0, 1)], 0, 1, 2), ([(0, 1)], 0, 2, 4), ([(0, 1)], 1, 1, 2), ([(0, 1)], 1, 2, 4)]
theorem zmn : (zf1 (zC 2)).filter (zi2 2) = vp := by decide +kernel
theorem zl1 : (vp.all fun W => (zC 2).all fun t => W.contains t || vp.contains (xE (W ++ [t]))) = true := by decide +kernel
theorem zml : (XW.all fun e => (zC 2).all fun t => e.1.contains t || XW.all fun f => !(f.1 == xE (e.1 ++ [t]) && f.2.1 == e.2.1 && f.2.2.1 == e.2.2.1) || Nat.ble f.2.2.2 e.2.2.2) = true := by decide +kernel
theorem ziO {j k : Nat} (hj : j < 2) (hk : k = 1 ∨ k = 2) : ∃ due, ([(0, 1)], j, k, due) ∈ XW ∧ ∀ s z o7 o8 o9 o10 o11 o12 o13, chk s z o7 o8 o9 o10 o11 o12 o13 2 (zm 2 [(0, 1)]) (j : Int) (k : Int) due = true := by
  have hj' : j = 0 ∨ j = 1 := by omega
  rcases hj' with rfl | rfl <;> rcases hk with rfl | rfl
  · exact ⟨_, by decide, zcq⟩
  · exact ⟨_, by decide, zc1⟩
  · exact ⟨_, by decide, zcI⟩
  · exact ⟨_, by decide, zcf⟩
theorem zkr {j k : Nat} {ts : List Tie} (hl : ts ∈ vp) (hj : j < 2) (hk : k = 1 ∨ k = 2) : ∃ due, (ts, j, k, due) ∈ XW ∧ ∀ s z o7 o8 o9 o10 o11 o12 o13, chk s z o7 o8 o9 o10 o11 o12 o13 2 (zm 2 ts) (j : Int) (k : Int) due = true := by
  simp only [vp, List.mem_cons, List.not_mem_nil, or_false] at hl
  subst hl
  · exact ziO hj hk
noncomputable def vx : List (List Tie) := [[(0, 1), (1, 2)], [(0, 1), (0, 2)], [(0, 1), (0, 2), (1, 2)]]
noncomputable def YU : List (List Tie × Nat × Nat × Nat) := [([(0, 1), (1, 2)], 0, 1, 4), ([(0, 1), (1, 2)], 0, 2, 8), ([(0, 1), (1, 2)], 1, 1, 3), ([(0, 1), (1, 2)], 1, 2, 5), ([(0, 1), (1, 2)], 2, 1, 4), ([(0, 1), (1, 2)], 2, 2, 8), ([(0, 1), (0, 2)], 0, 1, 3), ([(0, 1), (0, 2)], 0, 2, 5), ([(0, 1), (0, 2)], 1, 1, 4), ([(0, 1), (0, 2)], 1, 2, 8), ([(0, 1), (0, 2)], 2, 1, 4), ([(0, 1), (0, 2)], 2, 2, 8), ([(0, 1), (0, 2), (1, 2)], 0, 1, 3), ([(0, 1), (0, 2), (1, 2)], 0, 2, 5), ([(0, 1), (0, 2), (1, 2)], 1, 1, 3), ([(0, 1), (0, 2), (1, 2)], 1, 2, 5), ([(0, 1), (0, 2), (1, 2)], 2, 1, 3), ([(0, 1), (0, 2), (1, 2)], 2, 2, 5)]
theorem zmf : (zf1 (zC 3)).filter (zi2 3) = vx := by decide +kernel
theorem zlJ : (vx.all fun W => (zC 3).all fun t => W.contains t || vx.contains (xE (W ++ [t]))) = true := by decide +kernel
theorem zlU : (YU.all fun e => (zC 3).all fun t => e.1.contains t || YU.all fun f => !(f.1 == xE (e.1 ++ [t]) && f.2.1 == e.2.1 && f.2.2.1 == e.2.2.1) || Nat.ble f.2.2.2 e.2.2.2) = true := by decide +kernel
theorem zin {j k : Nat} (hj : j < 3) (hk : k = 1 ∨ k = 2) : ∃ due, ([(0, 1), (1, 2)], j, k, due) ∈ YU ∧ ∀ s z o7 o8 o9 o10 o11 o12 o13, chk s z o7 o8 o9 o10 o11 o12 o13 3 (zm 3 [(0, 1), (1, 2)]) (j : Int) (k : Int) due = true := by
  have hj' : j = 0 ∨ j = 1 ∨ j = 2 := by omega
  rcases hj' with rfl | rfl | rfl <;> rcases hk with rfl | rfl
  · exact ⟨_, by decide, zdc⟩
  · exact ⟨_, by decide, zb8⟩
  · exact ⟨_, by decide, zbd⟩
  · exact ⟨_, by decide, zb4⟩
  · exact ⟨_, by decide, zbT⟩
  · exact ⟨_, by decide, za7⟩
theorem zh9 {j k : Nat} (hj : j < 3) (hk : k = 1 ∨ k = 2) : ∃ due, ([(0, 1), (0, 2)], j, k, due) ∈ YU ∧ ∀ s z o7 o8 o9 o10 o11 o12 o13, chk s z o7 o8 o9 o10 o11 o12 o13 3 (zm 3 [(0, 1), (0, 2)]) (j : Int) (k : Int) due = true := by
  have hj' : j = 0 ∨ j = 1 ∨ j = 2 := by omega
  rcases hj' with rfl | rfl | rfl <;> rcases hk with rfl | rfl
  · exact ⟨_, by decide, zcw⟩
  · exact ⟨_, by decide, zcQ⟩
  · exact ⟨_, by decide, zcP⟩
  · exact ⟨_, by decide, zcH⟩
  · exact ⟨_, by decide, zcN⟩
  · exact ⟨_, by decide, zct⟩
theorem zif {j k : Nat} (hj : j < 3) (hk : k = 1 ∨ k = 2) : ∃ due, ([(0, 1), (0, 2), (1, 2)], j, k, due) ∈ YU ∧ ∀ s z o7 o8 o9 o10 o11 o12 o13, chk s z o7 o8 o9 o10 o11 o12 o13 3 (zm 3 [(0, 1), (0, 2), (1, 2)]) (j : Int) (k : Int) due = true := by
  have hj' : j = 0 ∨ j = 1 ∨ j = 2 := by omega
  rcases hj' with rfl | rfl | rfl <;> rcases hk with rfl | rfl
  · exact ⟨_, by decide, za4⟩
  · exact ⟨_, by decide, zaW⟩
  · exact ⟨_, by decide, zaK⟩
  · exact ⟨_, by decide, zc0⟩
  · exact ⟨_, by decide, zcS⟩
  · exact ⟨_, by decide, zco⟩
theorem zle {j k : Nat} {ts : List Tie} (hl : ts ∈ vx) (hj : j < 3) (hk : k = 1 ∨ k = 2) : ∃ due, (ts, j, k, due) ∈ YU ∧ ∀ s z o7 o8 o9 o10 o11 o12 o13, chk s z o7 o8 o9 o10 o11 o12 o13 3 (zm 3 ts) (j : Int) (k : Int) due = true := by
  simp only [vx, List.mem_cons, List.not_mem_nil, or_false] at hl
  rcases hl with rfl | rfl | rfl
  · exact zin hj hk
  · exact zh9 hj hk
  · exact zif hj hk
noncomputable def vv : List (List Tie) := [[(0, 1), (1, 2), (2, 3)], [(0, 1), (1, 2), (1, 3)], [(0, 1), (1, 2), (1, 3), (2, 3)], [(0, 1), (0, 3), (1, 2)], [(0, 1), (0, 3), (1, 2), (2, 3)], [(0, 1), (0, 3), (1, 2), (1, 3)], [(0, 1), (0, 3), (1, 2), (1, 3), (2, 3)], [(0, 1), (0, 2), (2, 3)], [(0, 1), (0, 2), (1, 3)], [(0, 1), (0, 2), (1, 3), (2, 3)], [(0, 1), (0, 2), (1, 2), (2, 3)], [(0, 1), (0, 2), (1, 2), (1, 3)], [(0, 1), (0, 2), (1, 2), (1, 3), (2, 3)], [(0, 1), (0, 2), (0, 3)], [(0, 1), (0, 2), (0, 3), (2, 3)], [(0, 1), (0, 2), (0, 3), (1, 3)], [(0, 1), (0, 2), (0, 3), (1, 3), (2, 3)], [(0, 1), (0, 2), (0, 3), (1, 2)], [(0, 1), (0, 2), (0, 3), (1, 2), (2, 3)], [(0, 1), (0, 2), (0, 3), (1, 2), (1, 3)], [(0, 1), (0, 2), (0, 3), (1, 2), (1, 3), (2, 3)]]
noncomputable def zN : List (List Tie × Nat × Nat × Nat) := [([(0, 1), (1, 2), (2, 3)], 0, 1, 8), ([(0, 1), (1, 2), (2, 3)], 0, 2, 16), ([(0, 1), (1, 2), (2, 3)], 1, 1, 5), ([(0, 1), (1, 2), (2, 3)], 1, 2, 9), ([(0, 1), (1, 2), (2, 3)], 2, 1, 5), ([(0, 1), (1, 2), (2, 3)], 2, 2, 9), ([(0, 1), (1, 2), (2, 3)], 3, 1, 8), ([(0, 1), (1, 2), (2, 3)], 3, 2, 16), ([(0, 1), (1, 2), (1, 3)], 0, 1, 5), ([(0, 1), (1, 2), (1, 3)], 0, 2, 9), ([(0, 1), (1, 2), (1, 3)], 1, 1, 4), ([(0, 1), (1, 2), (1, 3)], 1, 2, 6), ([(0, 1), (1, 2), (1, 3)], 2, 1, 5), ([(0, 1), (1, 2), (1, 3)], 2, 2, 9), ([(0, 1), (1, 2), (1, 3)], 3, 1, 5), ([(0, 1), (1, 2), (1, 3)], 3, 2, 9), ([(0, 1), (1, 2), (1, 3), (2, 3)], 0, 1, 5), ([(0, 1), (1, 2), (1, 3), (2, 3)], 0, 2, 9), ([(0, 1), (1, 2), (1, 3), (2, 3)], 1, 1, 4), ([(0, 1), (1, 2), (1, 3), (2, 3)], 1, 2, 6), ([(0, 1), (1, 2), (1, 3), (2, 3)], 2, 1, 5), ([(0, 1), (1, 2), (1, 3), (2, 3)], 2, 2, 9), ([(0, 1), (1, 2), (1, 3), (2, 3)], 3, 1, 5), ([(0, 1), (1, 2), (1, 3), (2, 3)], 3, 2, 9), ([(0, 1), (0, 3), (1, 2)], 0, 1, 5), ([(0, 1), (0, 3), (1, 2)], 0, 2, 9), ([(0, 1), (0, 3), (1, 2)], 1, 1, 5), ([(0, 1), (0, 3), (1, 2)], 1, 2, 9), ([(0, 1), (0, 3), (1, 2)], 2, 1, 8), ([(0, 1), (0, 3), (1, 2)], 2, 2, 16), ([(0, 1), (0, 3), (1, 2)], 3, 1, 8), ([(0, 1), (0, 3), (1, 2)], 3, 2, 16), ([(0, 1), (0, 3), (1, 2), (2, 3)], 0, 1, 4), ([(0, 1), (0, 3), (1, 2), (2, 3)], 0, 2, 8), ([(0, 1), (0, 3), (1, 2), (2, 3)], 1, 1, 4), ([(0, 1), (0, 3), (1, 2), (2, 3)], 1, 2, 8), ([(0, 1), (0, 3), (1, 2), (2, 3)], 2, 1, 4), ([(0, 1), (0, 3), (1, 2), (2, 3)], 2, 2, 8), ([(0, 1), (0, 3), (1, 2), (2, 3)], 3, 1, 4), ([(0, 1), (0, 3), (1, 2), (2, 3)], 3, 2, 8), ([(0, 1), (0, 3), (1, 2), (1, 3)], 0, 1, 5), ([(0, 1), (0, 3), (1, 2), (1, 3)], 0, 2, 9), ([(0, 1), (0, 3), (1, 2), (1, 3)], 1, 1, 4), ([(0, 1), (0, 3), (1, 2), (1, 3)], 1, 2, 6), ([(0, 1), (0, 3), (1, 2), (1, 3)], 2, 1, 5), ([(0, 1), (0, 3), (1, 2), (1, 3)], 2, 2, 9), ([(0, 1), (0, 3), (1, 2), (1, 3)], 3, 1, 5), ([(0, 1), (0, 3), (1, 2), (1, 3)], 3, 2, 9), ([(0, 1), (0, 3), (1, 2), (1, 3), (2, 3)], 0, 1, 4), ([(0, 1), (0, 3), (1, 2), (1, 3), (2, 3)], 0, 2, 8), ([(0, 1), (0, 3), (1, 2), (1, 3), (2, 3)], 1, 1, 4), ([(0, 1), (0, 3), (1, 2), (1, 3), (2, 3)], 1, 2, 6), ([(0, 1), (0, 3), (1, 2), (1, 3), (2, 3)], 2, 1, 4), ([(0, 1), (0, 3), (1, 2), (1, 3), (2, 3)], 2, 2, 8), ([(0, 1), (0, 3), (1, 2), (1, 3), (2, 3)], 3, 1, 4), ([(0, 1), (0, 3), (1, 2), (1, 3), (2, 3)], 3, 2, 6), ([(0, 1), (0, 2), (2, 3)], 0, 1, 5), ([(0, 1), (0, 2), (2, 3)], 0, 2, 9), ([(0, 1), (0, 2), (2, 3)], 1, 1, 8), ([(0, 1), (0, 2), (2, 3)], 1, 2, 16), ([(0, 1), (0, 2), (2, 3)], 2, 1, 5), ([(0, 1), (0, 2), (2, 3)], 2, 2, 9), ([(0, 1), (0, 2), (2, 3)], 3, 1, 8), ([(0, 1), (0, 2), (2, 3)], 3, 2, 16), ([(0, 1), (0, 2), (1, 3)], 0, 1, 5), ([(0, 1), (0, 2), (1, 3)], 0, 2, 9), ([(0, 1), (0, 2), (1, 3)], 1, 1, 5), ([(0, 1), (0, 2), (1, 3)], 1, 2, 9), ([(0, 1), (0, 2), (1, 3)], 2, 1, 8), ([(0, 1), (0, 2), (1, 3)], 2, 2, 16), ([(0, 1), (0, 2), (1, 3)], 3, 1, 8), ([(0, 1), (0, 2), (1, 3)], 3, 2, 16), ([(0, 1), (0, 2), (1, 3), (2, 3)], 0, 1, 4), ([(0, 1), (0, 2), (1, 3), (2, 3)], 0, 2, 8), ([(0, 1), (0, 2), (1, 3), (2, 3)], 1, 1, 4), ([(0, 1), (0, 2), (1, 3), (2, 3)], 1, 2, 8), ([(0, 1), (0, 2), (1, 3), (2, 3)], 2, 1, 4), ([(0, 1), (0, 2), (1, 3), (2, 3)], 2, 2, 8), ([(0, 1), (0, 2), (1, 3), (2, 3)], 3, 1, 4), ([(0, 1), (0, 2), (1, 3), (2, 3)], 3, 2, 8), ([(0, 1), (0, 2), (1, 2), (2, 3)], 0, 1, 5), ([(0, 1), (0, 2), (1, 2), (2, 3)], 0, 2, 9), ([(0, 1), (0, 2), (1, 2), (2, 3)], 1, 1, 5), ([(0, 1), (0, 2), (1, 2), (2, 3)], 1, 2, 9), ([(0, 1), (0, 2), (1, 2), (2, 3)], 2, 1, 4), ([(0, 1), (0, 2), (1, 2), (2, 3)], 2, 2, 6), ([(0, 1), (0, 2), (1, 2), (2, 3)], 3, 1, 5), ([(0, 1), (0, 2), (1, 2), (2, 3)], 3, 2, 9), ([(0, 1), (0, 2), (1, 2), (1, 3)], 0, 1, 5), ([(0, 1), (0, 2), (1, 2), (1, 3)], 0, 2, 9), ([(0, 1), (0, 2), (1, 2), (1, 3)], 1, 1, 4), ([(0, 1), (0, 2), (1, 2), (1, 3)], 1, 2, 6), ([(0, 1), (0, 2), (1, 2), (1, 3)], 2, 1, 5), ([(0, 1), (0, 2), (1, 2), (1, 3)], 2, 2, 9), ([(0, 1), (0, 2), (1, 2), (1, 3)], 3, 1, 5), ([(0, 1), (0, 2), (1, 2), (1, 3)], 3, 2, 9), ([(0, 1), (0, 2), (1, 2), (1, 3), (2, 3)], 0, 1, 4), ([(0, 1), (0, 2), (1, 2), (1, 3), (2, 3)], 0, 2, 8), ([(0, 1), (0, 2), (1, 2), (1, 3), (2, 3)], 1, 1, 4), ([(0, 1), (0, 2), (1, 2), (1, 3), (2, 3)], 1, 2, 6), ([(0, 1), (0, 2), (1, 2), (1, 3), (2, 3)], 2, 1, 4), ([(0, 1), (0, 2), (1, 2), (1, 3), (2, 3)], 2, 2, 6), ([(0, 1), (0, 2), (1, 2), (1, 3), (2, 3)], 3, 1, 4), ([(0, 1), (0, 2), (1, 2), (1, 3), (2, 3)], 3, 2, 8), ([(0, 1), (0, 2), (0, 3)], 0, 1, 4), ([(0, 1), (0, 2), (0, 3)], 0, 2, 6), ([(0, 1), (0, 2), (0, 3)], 1, 1, 5), ([(0, 1), (0, 2), (0, 3)], 1, 2, 9), ([(0, 1), (0, 2), (0, 3)], 2, 1, 5), ([(0, 1), (0, 2), (0, 3)], 2, 2, 9), ([(0, 1), (0, 2), (0, 3)], 3, 1, 5), ([(0, 1), (0, 2), (0, 3)], 3, 2, 9), ([(0, 1), (0, 2), (0, 3), (2, 3)], 0, 1, 4), ([(0, 1), (0, 2), (0, 3), (2, 3)], 0, 2, 6), ([(0, 1), (0, 2), (0, 3), (2, 3)], 1, 1, 5), ([(0, 1), (0, 2), (0, 3), (2, 3)], 1, 2, 9), ([(0, 1), (0, 2), (0, 3), (2, 3)], 2, 1, 5), ([(0, 1), (0, 2), (0, 3), (2, 3)], 2, 2, 9), ([(0, 1), (0, 2), (0, 3), (2, 3)], 3, 1, 5), ([(0, 1), (0, 2), (0, 3), (2, 3)], 3, 2, 9), ([(0, 1), (0, 2), (0, 3), (1, 3)], 0, 1, 4), ([(0, 1), (0, 2), (0, 3), (1, 3)], 0, 2, 6), ([(0, 1), (0, 2), (0, 3), (1, 3)], 1, 1, 5), ([(0, 1), (0, 2), (0, 3), (1, 3)], 1, 2, 9), ([(0, 1), (0, 2), (0, 3), (1, 3)], 2, 1, 5), ([(0, 1), (0, 2), (0, 3), (1, 3)], 2, 2, 9), ([(0, 1), (0, 2), (0, 3), (1, 3)], 3, 1, 5), ([(0, 1), (0, 2), (0, 3), (1, 3)], 3, 2, 9), ([(0, 1), (0, 2), (0, 3), (1, 3), (2, 3)], 0, 1, 4), ([(0, 1), (0, 2), (0, 3), (1, 3), (2, 3)], 0, 2, 6), ([(0, 1), (0, 2), (0, 3), (1, 3), (2, 3)], 1, 1, 4), ([(0, 1), (0, 2), (0, 3), (1, 3), (2, 3)], 1, 2, 8), ([(0, 1), (0, 2), (0, 3), (1, 3), (2, 3)], 2, 1, 4), ([(0, 1), (0, 2), (0, 3), (1, 3), (2, 3)], 2, 2, 8), ([(0, 1), (0, 2), (0, 3), (1, 3), (2, 3)], 3, 1, 4), ([(0, 1), (0, 2), (0, 3), (1, 3), (2, 3)], 3, 2, 6), ([(0, 1), (0, 2), (0, 3), (1, 2)], 0, 1, 4), ([(0, 1), (0, 2), (0, 3), (1, 2)], 0, 2, 6), ([(0, 1), (0, 2), (0, 3), (1, 2)], 1, 1, 5), ([(0, 1), (0, 2), (0, 3), (1, 2)], 1, 2, 9), ([(0, 1), (0, 2), (0, 3), (1, 2)], 2, 1, 5), ([(0, 1), (0, 2), (0, 3), (1, 2)], 2, 2, 9), ([(0, 1), (0, 2), (0, 3), (1, 2)], 3, 1, 5), ([(0, 1), (0, 2), (0, 3), (1, 2)], 3, 2, 9), ([(0, 1), (0, 2), (0, 3), (1, 2), (2, 3)], 0, 1, 4), ([(0, 1), (0, 2), (0, 3), (1, 2), (2, 3)], 0, 2, 6), ([(0, 1), (0, 2), (0, 3), (1, 2), (2, 3)], 1, 1, 4), ([(0, 1), (0, 2), (0, 3), (1, 2), (2, 3)], 1, 2, 8), ([(0, 1), (0, 2), (0, 3), (1, 2), (2, 3)], 2, 1, 4), ([(0, 1), (0, 2), (0, 3), (1, 2), (2, 3)], 2, 2, 6), ([(0, 1), (0, 2), (0, 3), (1, 2), (2, 3)], 3, 1, 4), ([(0, 1), (0, 2), (0, 3), (1, 2), (2, 3)], 3, 2, 8), ([(0, 1), (0, 2), (0, 3), (1, 2), (1, 3)], 0, 1, 4), ([(0, 1), (0, 2), (0, 3), (1, 2), (1, 3)], 0, 2, 6), ([(0, 1), (0, 2), (0, 3), (1, 2), (1, 3)], 1, 1, 4), ([(0, 1), (0, 2), (0, 3), (1, 2), (1, 3)], 1, 2, 6), ([(0, 1), (0, 2), (0, 3), (1, 2), (1, 3)], 2, 1, 4), ([(0, 1), (0, 2), (0, 3), (1, 2), (1, 3)], 2, 2, 8), ([(0, 1), (0, 2), (0, 3), (1, 2), (1, 3)], 3, 1, 4), ([(0, 1), (0, 2), (0, 3), (1, 2), (1, 3)], 3, 2, 8), ([(0, 1), (0, 2), (0, 3), (1, 2), (1, 3), (2, 3)], 0, 1, 4), ([(0, 1), (0, 2), (0, 3), (1, 2), (1, 3), (2, 3)], 0, 2, 6), ([(0, 1), (0, 2), (0, 3), (1, 2), (1, 3), (2, 3)], 1, 1, 4), ([(0, 1), (0, 2), (0, 3), (1, 2), (1, 3), (2, 3)], 1, 2, 6), ([(0, 1), (0, 2), (0, 3), (1, 2), (1, 3), (2, 3)], 2, 1, 4), ([(0, 1), (0, 2), (0, 3), (1, 2), (1, 3), (2, 3)], 2, 2, 6), ([(0, 1), (0, 2), (0, 3), (1, 2), (1, 3), (2, 3)], 3, 1, 4), ([(0, 1), (0, 2), (0, 3), (1, 2), (1, 3), (2, 3)], 3, 2, 6)]
theorem zl0 : (zf1 (zC 4)).filter (zi2 4) = vv := by decide +kernel
theorem zlV : (vv.all fun W => (zC 4).all fun t => W.contains t || vv.contains (xE (W ++ [t]))) = true := by decide +kernel
theorem zl3 : (zN.all fun e => (zC 4).all fun t => e.1.contains t || zN.all fun f => !(f.1 == xE (e.1 ++ [t]) && f.2.1 == e.2.1 && f.2.2.1 == e.2.2.1) || Nat.ble f.2.2.2 e.2.2.2) = true := by decide +kernel
theorem ziF {j k : Nat} (hj : j < 4) (hk : k = 1 ∨ k = 2) : ∃ due, ([(0, 1), (1, 2), (2, 3)], j, k, due) ∈ zN ∧ ∀ s z o7 o8 o9 o10 o11 o12 o13, chk s z o7 o8 o9 o10 o11 o12 o13 4 (zm 4 [(0, 1), (1, 2), (2, 3)]) (j : Int) (k : Int) due = true := by
  have hj' : j = 0 ∨ j = 1 ∨ j = 2 ∨ j = 3 := by omega
  rcases hj' with rfl | rfl | rfl | rfl <;> rcases hk with rfl | rfl
  · exact ⟨_, by decide, zaI⟩
  · exact ⟨_, by decide, zcx⟩
  · exact ⟨_, by decide, zbF⟩
  · exact ⟨_, by decide, zb5⟩
  · exact ⟨_, by decide, zbH⟩
  · exact ⟨_, by decide, zbv⟩
  · exact ⟨_, by decide, zbD⟩
  · exact ⟨_, by decide, za8⟩
theorem ziq {j k : Nat} (hj : j < 4) (hk : k = 1 ∨ k = 2) : ∃ due, ([(0, 1), (1, 2), (1, 3)], j, k, due) ∈ zN ∧ ∀ s z o7 o8 o9 o10 o11 o12 o13, chk s z o7 o8 o9 o10 o11 o12 o13 4 (zm 4 [(0, 1), (1, 2), (1, 3)]) (j : Int) (k : Int) due = true := by
  have hj' : j = 0 ∨ j = 1 ∨ j = 2 ∨ j = 3 := by omega
  rcases hj' with rfl | rfl | rfl | rfl <;> rcases hk with rfl | rfl
  · exact ⟨_, by decide, zaH⟩
  · exact ⟨_, by decide, zbz⟩
  · exact ⟨_, by decide, zaN⟩
  · exact ⟨_, by decide, zbs⟩
  · exact ⟨_, by decide, zbq⟩
  · exact ⟨_, by decide, zcY⟩
  · exact ⟨_, by decide, zbm⟩
  · exact ⟨_, by decide, zcU⟩
theorem zje {j k : Nat} (hj : j < 4) (hk : k = 1 ∨ k = 2) : ∃ due, ([(0, 1), (1, 2), (1, 3), (2, 3)], j, k, due) ∈ zN ∧ ∀ s z o7 o8 o9 o10 o11 o12 o13, chk s z o7 o8 o9 o10 o11 o12 o13 4 (zm 4 [(0, 1), (1, 2), (1, 3), (2, 3)]) (j : Int) (k : Int) due = true := by
  have hj' : j = 0 ∨ j = 1 ∨ j = 2 ∨ j = 3 := by omega
  rcases hj' with rfl | rfl | rfl | rfl <;> rcases hk with rfl | rfl
  · exact ⟨_, by decide, zcd⟩
  · exact ⟨_, by decide, zba⟩
  · exact ⟨_, by decide, zda⟩
  · exact ⟨_, by decide, zcs⟩
  · exact ⟨_, by decide, zdb⟩
  · exact ⟨_, by decide, zaR⟩
  · exact ⟨_, by decide, za3⟩
  · exact ⟨_, by decide, za2⟩
theorem zi1 {j k : Nat} (hj : j < 4) (hk : k = 1 ∨ k = 2) : ∃ due, ([(0, 1), (0, 3), (1, 2)], j, k, due) ∈ zN ∧ ∀ s z o7 o8 o9 o10 o11 o12 o13, chk s z o7 o8 o9 o10 o11 o12 o13 4 (zm 4 [(0, 1), (0, 3), (1, 2)]) (j : Int) (k : Int) due = true := by
  have hj' : j = 0 ∨ j = 1 ∨ j = 2 ∨ j = 3 := by omega
  rcases hj' with rfl | rfl | rfl | rfl <;> rcases hk with rfl | rfl
  · exact ⟨_, by decide, zcm⟩
  · exact ⟨_, by decide, zbj⟩
  · exact ⟨_, by decide, zbP⟩
  · exact ⟨_, by decide, zca⟩
  · exact ⟨_, by decide, zci⟩
  · exact ⟨_, by decide, za1⟩
  · exact ⟨_, by decide, zb3⟩
  · exact ⟨_, by decide, zcO⟩
theorem zim {j k : Nat} (hj : j < 4) (hk : k = 1 ∨ k = 2) : ∃ due, ([(0, 1), (0, 3), (1, 2), (2, 3)], j, k, due) ∈ zN ∧ ∀ s z o7 o8 o9 o10 o11 o12 o13, chk s z o7 o8 o9 o10 o11 o12 o13 4 (zm 4 [(0, 1), (0, 3), (1, 2), (2, 3)]) (j : Int) (k : Int) due = true := by
  have hj' : j = 0 ∨ j = 1 ∨ j = 2 ∨ j = 3 := by omega
  rcases hj' with rfl | rfl | rfl | rfl <;> rcases hk with rfl | rfl
  · exact ⟨_, by decide, zbE⟩
  · exact ⟨_, by decide, zcV⟩
  · exact ⟨_, by decide, zce⟩
  · exact ⟨_, by decide, za6⟩
  · exact ⟨_, by decide, zaQ⟩
  · exact ⟨_, by decide, zcA⟩
  · exact ⟨_, by decide, zcZ⟩
  · exact ⟨_, by decide, zcv⟩
theorem ziv {j k : Nat} (hj : j < 4) (hk : k = 1 ∨ k = 2) : ∃ due, ([(0, 1), (0, 3), (1, 2), (1, 3)], j, k, due) ∈ zN ∧ ∀ s z o7 o8 o9 o10 o11 o12 o13, chk s z o7 o8 o9 o10 o11 o12 o13 4 (zm 4 [(0, 1), (0, 3), (1, 2), (1, 3)]) (j : Int) (k : Int) due = true := by
  have hj' : j = 0 ∨ j = 1 ∨ j = 2 ∨ j = 3 := by omega
  rcases hj' with rfl | rfl | rfl | rfl <;> rcases hk with rfl | rfl
  · exact ⟨_, by decide, zcF⟩
  · exact ⟨_, by decide, zc4⟩
  · exact ⟨_, by decide, zaG⟩
  · exact ⟨_, by decide, zcB⟩
  · exact ⟨_, by decide, za5⟩
  · exact ⟨_, by decide, zc3⟩
  · exact ⟨_, by decide, za9⟩
  · exact ⟨_, by decide, zaZ⟩
theorem ziD {j k : Nat} (hj : j < 4) (hk : k = 1 ∨ k = 2) : ∃ due, ([(0, 1), (0, 3), (1, 2), (1, 3), (2, 3)], j, k, due) ∈ zN ∧ ∀ s z o7 o8 o9 o10 o11 o12 o13, chk s z o7 o8 o9 o10 o11 o12 o13 4 (zm 4 [(0, 1), (0, 3), (1, 2), (1, 3), (2, 3)]) (j : Int) (k : Int) due = true := by
  have hj' : j = 0 ∨ j = 1 ∨ j = 2 ∨ j = 3 := by omega
  rcases hj' with rfl | rfl | rfl | rfl <;> rcases hk with rfl | rfl
  · exact ⟨_, by decide, zcu⟩
  · exact ⟨_, by decide, zcj⟩
  · exact ⟨_, by decide, zc5⟩
  · exact ⟨_, by decide, zbr⟩
  · exact ⟨_, by decide, zcn⟩
  · exact ⟨_, by decide, zby⟩
  · exact ⟨_, by decide, zbn⟩
  · exact ⟨_, by decide, zaS⟩
theorem zhX {j k : Nat} (hj : j < 4) (hk : k = 1 ∨ k = 2) : ∃ due, ([(0, 1), (0, 2), (2, 3)], j, k, due) ∈ zN ∧ ∀ s z o7 o8 o9 o10 o11 o12 o13, chk s z o7 o8 o9 o10 o11 o12 o13 4 (zm 4 [(0, 1), (0, 2), (2, 3)]) (j : Int) (k : Int) due = true := by
  have hj' : j = 0 ∨ j = 1 ∨ j = 2 ∨ j = 3 := by omega
  rcases hj' with rfl | rfl | rfl | rfl <;> rcases hk with rfl | rfl
  · exact ⟨_, by decide, zb0⟩
  · exact ⟨_, by decide, zbb⟩
  · exact ⟨_, by decide, zcz⟩
  · exact ⟨_, by decide, zbS⟩
  · exact ⟨_, by decide, zbY⟩
  · exact ⟨_, by decide, zbt⟩
  · exact ⟨_, by decide, zbK⟩
  · exact ⟨_, by decide, zch⟩
theorem zjh {j k : Nat} (hj : j < 4) (hk : k = 1 ∨ k = 2) : ∃ due, ([(0, 1), (0, 2), (1, 3)], j, k, due) ∈ zN ∧ ∀ s z o7 o8 o9 o10 o11 o12 o13, chk s z o7 o8 o9 o10 o11 o12 o13 4 (zm 4 [(0, 1), (0, 2), (1, 3)]) (j : Int) (k : Int) due = true := by
  have hj' : j = 0 ∨ j = 1 ∨ j = 2 ∨ j = 3 := by omega
  rcases hj' with rfl | rfl | rfl | rfl <;> rcases hk with rfl | rfl
  · exact ⟨_, by decide, za0⟩
  · exact ⟨_, by decide, zcR⟩
  · exact ⟨_, by decide, zbo⟩
  · exact ⟨_, by decide, zcy⟩
  · exact ⟨_, by decide, zbO⟩
  · exact ⟨_, by decide, zb9⟩
  · exact ⟨_, by decide, zaV⟩
  · exact ⟨_, by decide, zbx⟩
theorem zjr {j k : Nat} (hj : j < 4) (hk : k = 1 ∨ k = 2) : ∃ due, ([(0, 1), (0, 2), (1, 3), (2, 3)], j, k, due) ∈ zN ∧ ∀ s z o7 o8 o9 o10 o11 o12 o13, chk s z o7 o8 o9 o10 o11 o12 o13 4 (zm 4 [(0, 1), (0, 2), (1, 3), (2, 3)]) (j : Int) (k : Int) due = true := by
  have hj' : j = 0 ∨ j = 1 ∨ j = 2 ∨ j = 3 := by omega
  rcases hj' with rfl | rfl | rfl | rfl <;> rcases hk with rfl | rfl
  · exact ⟨_, by decide, zbc⟩
  · exact ⟨_, by decide, zc6⟩
  · exact ⟨_, by decide, zck⟩
  · exact ⟨_, by decide, zde⟩
  · exact ⟨_, by decide, zbN⟩
  · exact ⟨_, by decide, zbW⟩
  · exact ⟨_, by decide, zbw⟩
  · exact ⟨_, by decide, zaM⟩
theorem zf7 {j k : Nat} (hj : j < 4) (hk : k = 1 ∨ k = 2) : ∃ due, ([(0, 1), (0, 2), (1, 2), (2, 3)], j, k, due) ∈ zN ∧ ∀ s z o7 o8 o9 o10 o11 o12 o13, chk s z o7 o8 o9 o10 o11 o12 o13 4 (zm 4 [(0, 1), (0, 2), (1, 2), (2, 3)]) (j : Int) (k : Int) due = true := by
  have hj' : j = 0 ∨ j = 1 ∨ j = 2 ∨ j = 3 := by omega
  rcases hj' with rfl | rfl | rfl | rfl <;> rcases hk with rfl | rfl
  · exact ⟨_, by decide, Ww⟩
  · exact ⟨_, by decide, Vx⟩
  · exact ⟨_, by decide, Wv⟩
  · exact ⟨_, by decide, WU⟩
  · exact ⟨_, by decide, zat⟩
  · exact ⟨_, by decide, Vz⟩
  · exact ⟨_, by decide, W6⟩
  · exact ⟨_, by decide, VJ⟩
theorem zgK {j k : Nat} (hj : j < 4) (hk : k = 1 ∨ k = 2) : ∃ due, ([(0, 1), (0, 2), (1, 2), (1, 3)], j, k, due) ∈ zN ∧ ∀ s z o7 o8 o9 o10 o11 o12 o13, chk s z o7 o8 o9 o10 o11 o12 o13 4 (zm 4 [(0, 1), (0, 2), (1, 2), (1, 3)]) (j : Int) (k : Int) due = true := by
  have hj' : j = 0 ∨ j = 1 ∨ j = 2 ∨ j = 3 := by omega
  rcases hj' with rfl | rfl | rfl | rfl <;> rcases hk with rfl | rfl
  · exact ⟨_, by decide, zak⟩
  · exact ⟨_, by decide, Vp⟩
  · exact ⟨_, by decide, Wq⟩
  · exact ⟨_, by decide, VE⟩
  · exact ⟨_, by decide, VO⟩
  · exact ⟨_, by decide, VA⟩
  · exact ⟨_, by decide, zaf⟩
  · exact ⟨_, by decide, Wz⟩
theorem zhe {j k : Nat} (hj : j < 4) (hk : k = 1 ∨ k = 2) : ∃ due, ([(0, 1), (0, 2), (1, 2), (1, 3), (2, 3)], j, k, due) ∈ zN ∧ ∀ s z o7 o8 o9 o10 o11 o12 o13, chk s z o7 o8 o9 o10 o11 o12 o13 4 (zm 4 [(0, 1), (0, 2), (1, 2), (1, 3), (2, 3)]) (j : Int) (k : Int) due = true := by
  have hj' : j = 0 ∨ j = 1 ∨ j = 2 ∨ j = 3 := by omega
  rcases hj' with rfl | rfl | rfl | rfl <;> rcases hk with rfl | rfl
  · exact ⟨_, by decide, Wu⟩
  · exact ⟨_, by decide, Wy⟩
  · exact ⟨_, by decide, WO⟩
  · exact ⟨_, by decide, WH⟩
  · exact ⟨_, by decide, WX⟩
  · exact ⟨_, by decide, WQ⟩
  · exact ⟨_, by decide, V7⟩
  · exact ⟨_, by decide, Vk⟩
theorem zgp {j k : Nat} (hj : j < 4) (hk : k = 1 ∨ k = 2) : ∃ due, ([(0, 1), (0, 2), (0, 3)], j, k, due) ∈ zN ∧ ∀ s z o7 o8 o9 o10 o11 o12 o13, chk s z o7 o8 o9 o10 o11 o12 o13 4 (zm 4 [(0, 1), (0, 2), (0, 3)]) (j : Int) (k : Int) due = true := by
  have hj' : j = 0 ∨ j = 1 ∨ j = 2 ∨ j = 3 := by omega
  rcases hj' with rfl | rfl | rfl | rfl <;> rcases hk with rfl | rfl
  · exact ⟨_, by decide, zaq⟩
  · exact ⟨_, by decide, Vb⟩
  · exact ⟨_, by decide, VV⟩
  · exact ⟨_, by decide, Vu⟩
  · exact ⟨_, by decide, V8⟩
  · exact ⟨_, by decide, WL⟩
  · exact ⟨_, by decide, zab⟩
  · exact ⟨_, by decide, Wr⟩
theorem zgR {j k : Nat} (hj : j < 4) (hk : k = 1 ∨ k = 2) : ∃ due, ([(0, 1), (0, 2), (0, 3), (2, 3)], j, k, due) ∈ zN ∧ ∀ s z o7 o8 o9 o10 o11 o12 o13, chk s z o7 o8 o9 o10 o11 o12 o13 4 (zm 4 [(0, 1), (0, 2), (0, 3), (2, 3)]) (j : Int) (k : Int) due = true := by
  have hj' : j = 0 ∨ j = 1 ∨ j = 2 ∨ j = 3 := by omega
  rcases hj' with rfl | rfl | rfl | rfl <;> rcases hk with rfl | rfl
  · exact ⟨_, by decide, Vo⟩
  · exact ⟨_, by decide, V2⟩
  · exact ⟨_, by decide, Vr⟩
  · exact ⟨_, by decide, WE⟩
  · exact ⟨_, by decide, V1⟩
  · exact ⟨_, by decide, Wp⟩
  · exact ⟨_, by decide, VW⟩
  · exact ⟨_, by decide, zaw⟩
theorem zgm {j k : Nat} (hj : j < 4) (hk : k = 1 ∨ k = 2) : ∃ due, ([(0, 1), (0, 2), (0, 3), (1, 3)], j, k, due) ∈ zN ∧ ∀ s z o7 o8 o9 o10 o11 o12 o13, chk s z o7 o8 o9 o10 o11 o12 o13 4 (zm 4 [(0, 1), (0, 2), (0, 3), (1, 3)]) (j : Int) (k : Int) due = true := by
  have hj' : j = 0 ∨ j = 1 ∨ j = 2 ∨ j = 3 := by omega
  rcases hj' with rfl | rfl | rfl | rfl <;> rcases hk with rfl | rfl
  · exact ⟨_, by decide, WZ⟩
  · exact ⟨_, by decide, V3⟩
  · exact ⟨_, by decide, zaC⟩
  · exact ⟨_, by decide, zaD⟩
  · exact ⟨_, by decide, VQ⟩
  · exact ⟨_, by decide, zaa⟩
  · exact ⟨_, by decide, W9⟩
  · exact ⟨_, by decide, zay⟩
theorem zf5 {j k : Nat} (hj : j < 4) (hk : k = 1 ∨ k = 2) : ∃ due, ([(0, 1), (0, 2), (0, 3), (1, 3), (2, 3)], j, k, due) ∈ zN ∧ ∀ s z o7 o8 o9 o10 o11 o12 o13, chk s z o7 o8 o9 o10 o11 o12 o13 4 (zm 4 [(0, 1), (0, 2), (0, 3), (1, 3), (2, 3)]) (j : Int) (k : Int) due = true := by
  have hj' : j = 0 ∨ j = 1 ∨ j = 2 ∨ j = 3 := by omega
  rcases hj' with rfl | rfl | rfl | rfl <;> rcases hk with rfl | rfl
  · exact ⟨_, by decide, V0⟩
  · exact ⟨_, by decide, zag⟩
  · exact ⟨_, by decide, W4⟩
  · exact ⟨_, by decide, WF⟩
  · exact ⟨_, by decide, VD⟩
  · exact ⟨_, by decide, WB⟩
  · exact ⟨_, by decide, WJ⟩
  · exact ⟨_, by decide, Ws⟩
theorem zgG {j k : Nat} (hj : j < 4) (hk : k = 1 ∨ k = 2) : ∃ due, ([(0, 1), (0, 2), (0, 3), (1, 2)], j, k, due) ∈ zN ∧ ∀ s z o7 o8 o9 o10 o11 o12 o13, chk s z o7 o8 o9 o10 o11 o12 o13 4 (zm 4 [(0, 1), (0, 2), (0, 3), (1, 2)]) (j : Int) (k : Int) due = true := by
  have hj' : j = 0 ∨ j = 1 ∨ j = 2 ∨ j = 3 := by omega
  rcases hj' with rfl | rfl | rfl | rfl <;> rcases hk with rfl | rfl
  · exact ⟨_, by decide, WM⟩
  · exact ⟨_, by decide, Vw⟩
  · exact ⟨_, by decide, zac⟩
  · exact ⟨_, by decide, WV⟩
  · exact ⟨_, by decide, VS⟩
  · exact ⟨_, by decide, WT⟩
  · exact ⟨_, by decide, VF⟩
  · exact ⟨_, by decide, Wx⟩
theorem zgt {j k : Nat} (hj : j < 4) (hk : k = 1 ∨ k = 2) : ∃ due, ([(0, 1), (0, 2), (0, 3), (1, 2), (2, 3)], j, k, due) ∈ zN ∧ ∀ s z o7 o8 o9 o10 o11 o12 o13, chk s z o7 o8 o9 o10 o11 o12 o13 4 (zm 4 [(0, 1), (0, 2), (0, 3), (1, 2), (2, 3)]) (j : Int) (k : Int) due = true := by
  have hj' : j = 0 ∨ j = 1 ∨ j = 2 ∨ j = 3 := by omega
  rcases hj' with rfl | rfl | rfl | rfl <;> rcases hk with rfl | rfl
  · exact ⟨_, by decide, W2⟩
  · exact ⟨_, by decide, Vf⟩
  · exact ⟨_, by decide, V6⟩
  · exact ⟨_, by decide, Wt⟩
  · exact ⟨_, by decide, W3⟩
  · exact ⟨_, by decide, WN⟩
  · exact ⟨_, by decide, V5⟩
  · exact ⟨_, by decide, zan⟩
theorem zgq {j k : Nat} (hj : j < 4) (hk : k = 1 ∨ k = 2) : ∃ due, ([(0, 1), (0, 2), (0, 3), (1, 2), (1, 3)], j, k, due) ∈ zN ∧ ∀ s z o7 o8 o9 o10 o11 o12 o13, chk s z o7 o8 o9 o10 o11 o12 o13 4 (zm 4 [(0, 1), (0, 2), (0, 3), (1, 2), (1, 3)]) (j : Int) (k : Int) due = true := by
  have hj' : j = 0 ∨ j = 1 ∨ j = 2 ∨ j = 3 := by omega
  rcases hj' with rfl | rfl | rfl | rfl <;> rcases hk with rfl | rfl
  · exact ⟨_, by decide, WK⟩
  · exact ⟨_, by decide, Ve⟩
  · exact ⟨_, by decide, VT⟩
  · exact ⟨_, by decide, Vh⟩
  · exact ⟨_, by decide, zad⟩
  · exact ⟨_, by decide, VX⟩
  · exact ⟨_, by decide, Vs⟩
  · exact ⟨_, by decide, Vq⟩
theorem zg7 {j k : Nat} (hj : j < 4) (hk : k = 1 ∨ k = 2) : ∃ due, ([(0, 1), (0, 2), (0, 3), (1, 2), (1, 3), (2, 3)], j, k, due) ∈ zN ∧ ∀ s z o7 o8 o9 o10 o11 o12 o13, chk s z o7 o8 o9 o10 o11 o12 o13 4 (zm 4 [(0, 1), (0, 2), (0, 3), (1, 2), (1, 3), (2, 3)]) (j : Int) (k : Int) due = true := by
  have hj' : j = 0 ∨ j = 1 ∨ j = 2 ∨ j = 3 := by omega
  rcases hj' with rfl | rfl | rfl | rfl <;> rcases hk with rfl | rfl
  · exact ⟨_, by decide, W8⟩
  · exact ⟨_, by decide, WG⟩
  · exact ⟨_, by decide, VR⟩
  · exact ⟨_, by decide, VB⟩
  · exact ⟨_, by decide, VU⟩
  · exact ⟨_, by decide, W0⟩
  · exact ⟨_, by decide, Vi⟩
  · exact ⟨_, by decide, W5⟩
theorem zll {j k : Nat} {ts : List Tie} (hl : ts ∈ vv) (hj : j < 4) (hk : k = 1 ∨ k = 2) : ∃ due, (ts, j, k, due) ∈ zN ∧ ∀ s z o7 o8 o9 o10 o11 o12 o13, chk s z o7 o8 o9 o10 o11 o12 o13 4 (zm 4 ts) (j : Int) (k : Int) due = true := by
  simp only [vv, List.mem_cons, List.not_mem_nil, or_false] at hl
  rcases hl with rfl | rfl | rfl | rfl | rfl | rfl | rfl | rfl | rfl | rfl | rfl | rfl | rfl | rfl | rfl | rfl | rfl | rfl | rfl | rfl | rfl
  · exact ziF hj hk
  · exact ziq hj hk
  · exact zje hj hk
  · exact zi1 hj hk
  · exact zim hj hk
  · exact ziv hj hk
  · exact ziD hj hk
  · exact zhX hj hk
  · exact zjh hj hk
  · exact zjr hj hk
  · exact zf7 hj hk
  · exact zgK hj hk
  · exact zhe hj hk
  · exact zgp hj hk
  · exact zgR hj hk
  · exact zgm hj hk
  · exact zf5 hj hk
  · exact zgG hj hk
  · exact zgt hj hk
  · exact zgq hj hk
  · exact zg7 hj hk
theorem zb6 (t : Tie) (ts : List Tie) : Z9 (zk t) (.tup (ts.map zk)) = some (.bl (!decide (t ∈ ts))) := by
  have e := zdi t ts
  show (zgT (zk t) (ts.map zk)).map (fun b => D.bl (!b)) = _
  have e2 : (zgT (zk t) (ts.map zk)).map D.bl = some (.bl (decide (t ∈ ts))) := e
  obtain ⟨b, h1, h2⟩ := Option.map_eq_some_iff.mp e2
  injection h2 with h2
  rw [h1, ← h2]
  rfl
theorem zkw (l : List Tie) : zkW (.lst (l.map zk)) (.lst []) = some (.bl (!decide (l = []))) := by
  have hk : okE 20 (.lst (l.map zk)) = true := by
    show (l.map zk).all (okE 19) = true
    rw [List.all_map, List.all_eq_true]
    exact fun t _ => rfl
  show (if (okE 20 (.lst (l.map zk)) && true) = true then _ else none) = _
  rw [hk, if_pos (show (true && true) = true from rfl)]
  cases l <;> rfl
theorem zb7 {ts : List Tie} (h : ts.length < 64) : Zg [.tup (ts.map zk)] = some ((xE ts).map zk) := by
  show (if (ts.map zk).length < 64 then (YW (ts.map zk)).map (fun ts => (YM ts).map prD) else none) = _
  rw [if_pos (by rw [List.length_map]; exact h), show YW (ts.map zk) = some ts from ZZ ts, Vt]
  rfl
set_option genInjectivity false in
set_option genSizeOf false in
set_option genCtorIdx false in
structure zfW (n : Nat) (ts : List Tie) (j k due : Nat) : Prop where
  le : ts.length ≤ 28
  set : ∃ ws ls, zkO n (zm (n : Int) ts) (j : Int) (k : Int) due ws ls
  mono : ∀ t ∈ zC n, t ∉ ts → ∃ due', Zo [zm (n : Int) (xE (ts ++ [t])), .int (j : Int), .int (k : Int)] = some (.int ((due' : Nat) : Int)) ∧ due' ≤ due
theorem zf8 {s : D} {z : Int} {n j k due : Nat} {ts : List Tie} {o6 o7 o8 o9 o10 o11 o12 o13 : Sl} (hn : 1 ≤ n) (hn8 : n ≤ 8) (S : zfW n ts j k due) {I B C : SE → Prop} {R : D → Prop} (hI : ∀ o6 o7 o8 o9 o10 o11 o12 o13, I [.v s, .v (.int z), .v (.int (n : Int)), .v (zm (n : Int) ts), .v (.int (k : Int)), .v (.int (j : Int)), o6, o7, o8, o9, o10, o11, o12, o13]) :
    ((zW (xF false 6 (zt 3 Zo (zc (zd 3) (zc (zd 5) (zc (zd 4) zu)))))
    (zW (xF false 7 (eFn zgW (zc (xR (fLC (XR Y2 (zc (zd 2) zu)) b1 wA (zt 3 zgn (zc (zd 4) (zc (zd 6) (zc (zd 0) zu)))))) zu)))
    (zW (sIf (zcE (tOf (zn ltD (zd 6) (zn YS (zd 4) (zn ixD (xR (xl (zc (eC (.int 1)) (zc (eC (.int 2)) (zc (eC (.int 4)) (zc (eC (.int 8)) zu)))))) (zd 7))))) (tOf (zn ltD (zd 6) (zn Xv (zn we (zd 4) (zd 2)) (eC (.int 1)))))) (yK (eC (.bl false))) yd)
    (zW (xF false 8 (xR (fLC (iOf (zt 1 zO (zc (zd 2) zu))) b1 (tOf (zn Z9 (zd 0) (zn ixD (zd 4) (eC (.int 1))))) (zd 0))))
    (zW (sIf (tOf (zn zkW (zd 8) (xR (xl zu)))) (zW (xF false 9 (eFn yU (zc (xR (fFn Zg (zc (zn we (zn ixD (zd 3) (eC (.int 1))) (Yu (zc (zn ixD (zd 8) (zn xM (zt 2 zD (zc (zd 1) (zc (eC (.int 11)) zu))) (eFn ZF (zc (zd 8) zu)))) zu))) zu))) zu)))
    (sIf (tOf (zn gtD (zt 3 Zo (zc (Yu (zc (zd 2) (zc (zd 9) zu))) (zc (zd 5) (zc (zd 4) zu)))) (zd 6))) (yK (eC (.bl false))) yd)) yd)
    (zW (xF false 10 (zt 4 vV (zc (zd 3) (zc (zd 5) (zc (zd 4) (zc (zn Xv (zd 6) (eC (.int 2))) zu))))))
    (Zt (iOf (eSl slD (zt 3 v4 (zc (zd 3) (zc (zd 5) (zc (zd 4) zu)))) vJ (vM (eC (.int 20))))) (yJ 11) vn))))))) [.v s, .v (.int z), .v (.int (n : Int)), .v (zm (n : Int) ts), .v (.int (k : Int)), .v (.int (j : Int)), o6, o7, o8, o9, o10, o11, o12, o13]).w I B C R := by
  obtain ⟨ws, ls, T⟩ := S.set
  refine yP (ρ' := [.v s, .v (.int z), .v (.int (n : Int)), .v (zm (n : Int) ts), .v (.int (k : Int)), .v (.int (j : Int)), .v (.int (due : Int)), o7, o8, o9, o10, o11, o12, o13]) (Z3 (ds := [_, _, _]) rfl T.fneed) ?_
  obtain ⟨ρ', e7⟩ := zfw (T.fst s z o7 o8 o9 o10 o11 o12 o13)
  unfold zl5 at e7
  obtain ⟨ρ1, h7, e7⟩ := zep e7
  obtain ⟨d7, rfl⟩ := zld h7
  have e8 := zjG e7
  subst e8
  refine yP h7 (yP e7 ?_)
  obtain ⟨la, hla⟩ : ∃ la, ((zC n).filter fun t => !decide (t ∈ ts)) = la := ⟨_, rfl⟩
  have hp28 := (vb n hn8).2.2
  have hl28 : la.length ≤ 28 := by rw [← hla]; exact Nat.le_trans (List.length_filter_le _ _) hp28
  have e9 : xR (fLC (iOf (zt 1 zO (zc (zd 2) zu))) b1 (tOf (zn Z9 (zd 0) (zn ixD (zd 4) (eC (.int 1))))) (zd 0)) (visF [.v s, .v (.int z), .v (.int (n : Int)), .v (zm (n : Int) ts), .v (.int (k : Int)), .v (.int (j : Int)), .v (.int (due : Int)), .v d7, o8, o9, o10, o11, o12, o13]) = some (.lst (la.map zk)) := by
    rw [← hla]
    have ep : zO [.int (n : Int)] = some (.lst ((zC n).map zk)) := by
      show (if decide (0 ≤ (n : Int) ∧ (n : Int) ≤ 8) = true then some (D.lst ((zC (n : Int).toNat).map zk)) else none) = _
      rw [if_pos (decide_eq_true ⟨by omega, by omega⟩), Int.toNat_natCast]
    refine zfI ?_
    unfold fLC
    rw [show iOf (zt 1 zO (zc (zd 2) zu)) (visF [.v s, .v (.int z), .v (.int (n : Int)), .v (zm (n : Int) ts), .v (.int (k : Int)), .v (.int (j : Int)), .v (.int (due : Int)), .v d7, o8, o9, o10, o11, o12, o13]) = some ((zC n).map zk) from zeS (YT (ds := [.int (n : Int)]) rfl ep) rfl, Option.bind_some, if_pos (YB (by rw [List.length_map]; omega))]
    exact vw (c := zk) (p := fun t => !decide (t ∈ ts)) (y := zk) (zC n) fun t _ => ⟨[some (zk t)], rfl, zh6 (xC (x := zk t) (y := .tup (ts.map zk)) rfl rfl (zb6 t ts)), fun _ => rfl⟩
  refine yP (ρ' := [.v s, .v (.int z), .v (.int (n : Int)), .v (zm (n : Int) ts), .v (.int (k : Int)), .v (.int (j : Int)), .v (.int (due : Int)), .v d7, .v (.lst (la.map zk)), o9, o10, o11, o12, o13]) (zfP e9) ?_
  have last : ∀ o9 : Sl, ((zW (xF false 10 (zt 4 vV (zc (zd 3) (zc (zd 5) (zc (zd 4) (zc (zn Xv (zd 6) (eC (.int 2))) zu))))))
    (Zt (iOf (eSl slD (zt 3 v4 (zc (zd 3) (zc (zd 5) (zc (zd 4) zu)))) vJ (vM (eC (.int 20))))) (yJ 11) vn)) [.v s, .v (.int z), .v (.int (n : Int)), .v (zm (n : Int) ts), .v (.int (k : Int)), .v (.int (j : Int)), .v (.int (due : Int)), .v d7, .v (.lst (la.map zk)), o9, o10, o11, o12, o13]).w I B C R := fun o9 => by
    refine yP (ρ' := [.v s, .v (.int z), .v (.int (n : Int)), .v (zm (n : Int) ts), .v (.int (k : Int)), .v (.int (j : Int)), .v (.int (due : Int)), .v d7, .v (.lst (la.map zk)), o9, .v (.lst ls), o11, o12, o13]) (Z3 (ds := [_, _, _, .int ((due : Int) - 2)]) rfl T.ffail) ?_
    refine zgo (ds := ws.take 20) (fun _ ρ => ∃ o11 o12 o13 : Sl, ρ = [.v s, .v (.int z), .v (.int (n : Int)), .v (zm (n : Int) ts), .v (.int (k : Int)), .v (.int (j : Int)), .v (.int (due : Int)), .v d7, .v (.lst (la.map zk)), o9, .v (.lst ls), o11, o12, o13]) ?_ ⟨_, _, _, rfl⟩ ?_ ?_
    · refine zeS (d := .lst (ws.take 20)) ?_ rfl
      unfold eSl
      rw [show zt 3 v4 (zc (zd 3) (zc (zd 5) (zc (zd 4) zu))) (visF [.v s, .v (.int z), .v (.int (n : Int)), .v (zm (n : Int) ts), .v (.int (k : Int)), .v (.int (j : Int)), .v (.int (due : Int)), .v d7, .v (.lst (la.map zk)), o9, .v (.lst ls), o11, o12, o13]) = some (.lst ws) from YT (ds := [zm (n : Int) ts, .int (j : Int), .int (k : Int)]) rfl T.fworst]
      show some (D.lst (zaF ws none (some ((20 : Nat) : Int)))) = _
      rw [zfm]
    · rintro i d ρ hd ⟨o11, o12, o13, rfl⟩
      obtain ⟨ρ', e3⟩ := zfw (T.fall s z (.v d7) (.v (.lst (la.map zk))) o9 o12 o13 d (List.mem_of_getElem? hd))
      obtain ⟨y12, y13, rfl⟩ := zmt e3
      exact ⟨_, rfl, zbL e3 ⟨_, _, _, rfl⟩⟩
    · rintro ρ ⟨o11, o12, o13, rfl⟩
      exact hI _ _ _ _ _ _ _ _
  refine Zu (ze5 (c := !decide (la = [])) (zh6 (xC (x := .lst (la.map zk)) (y := .lst []) rfl rfl (zkw la))) (fun c => ?_) (fun _ => zbL rfl (last o9)))
  have hne : la ≠ [] := fun e => by rw [decide_eq_true e] at c; cases c
  have hpos := List.length_pos_iff.mpr hne
  obtain ⟨i, hi⟩ : ∃ i : Int, zel z 11 % (la.length : Int) = i := ⟨_, rfl⟩
  obtain ⟨i0, i1⟩ := Yk (by omega) hi
  obtain ⟨t, ht⟩ : ∃ t, la[i.toNat]? = some t := ⟨_, List.getElem?_eq_getElem (by omega)⟩
  have htm := List.mem_of_getElem? ht
  rw [← hla, List.mem_filter, Bool.not_eq_true', decide_eq_false_iff_not] at htm
  obtain ⟨due', en, hle⟩ := S.mono t htm.1 htm.2
  have ei : zn ixD (zd 8) (zn xM (zt 2 zD (zc (zd 1) (zc (eC (.int 11)) zu))) (eFn ZF (zc (zd 8) zu))) (visF [.v s, .v (.int z), .v (.int (n : Int)), .v (zm (n : Int) ts), .v (.int (k : Int)), .v (.int (j : Int)), .v (.int (due : Int)), .v d7, .v (.lst (la.map zk)), o9, o10, o11, o12, o13]) = some (zk t) := by
    refine xC (x := .lst (la.map zk)) (y := .int i) rfl (xC (x := .int (zel z 11)) (y := .int (la.length : Int)) rfl (zi7 (ds := [.lst (la.map zk)]) rfl ?_) ?_) (zj1 i0 (by rw [List.getElem?_map, ht]; rfl))
    · show some (D.int (((la.map zk).length : Nat) : Int)) = _
      rw [List.length_map]
    · rw [y6 (by omega), hi]
  have e10 : eFn yU (zc (xR (fFn Zg (zc (zn we (zn ixD (zd 3) (eC (.int 1))) (Yu (zc (zn ixD (zd 8) (zn xM (zt 2 zD (zc (zd 1) (zc (eC (.int 11)) zu))) (eFn ZF (zc (zd 8) zu)))) zu))) zu))) zu) (visF [.v s, .v (.int z), .v (.int (n : Int)), .v (zm (n : Int) ts), .v (.int (k : Int)), .v (.int (j : Int)), .v (.int (due : Int)), .v d7, .v (.lst (la.map zk)), o9, o10, o11, o12, o13]) = some (.tup ((xE (ts ++ [t])).map zk)) := by
    have hl := S.le
    refine zi7 (ds := [.lst ((xE (ts ++ [t])).map zk)]) (v8 (zfI (zhA (ds := [.tup ((ts ++ [t]).map zk)]) (v8 (xC (x := .tup (ts.map zk)) (y := .tup [zk t]) rfl (zj8 (v8 ei XC) (by show 1 ≤ 1000; decide)) ?_) XC) (zb7 (by rw [List.length_append]; show _ + 1 < 64; omega)))) XC) rfl
    show (if lim ((ts.map zk).length + [zk t].length) = true then some (D.tup (ts.map zk ++ [zk t])) else none) = _
    rw [if_pos (YB (by rw [List.length_map]; show _ + 1 ≤ 1000; omega)), List.map_append]
    rfl
  refine yP (ρ' := [.v s, .v (.int z), .v (.int (n : Int)), .v (zm (n : Int) ts), .v (.int (k : Int)), .v (.int (j : Int)), .v (.int (due : Int)), .v d7, .v (.lst (la.map zk)), .v (.tup ((xE (ts ++ [t])).map zk)), o10, o11, o12, o13]) (zfP e10) ?_
  refine ze5 (c := false) ?_ (fun z => by cases z) (fun _ => zbL rfl (last _))
  refine (zh6 (xC (x := .int ((due' : Nat) : Int)) (y := .int (due : Int)) (YT (ds := [zm (n : Int) (xE (ts ++ [t])), .int (j : Int), .int (k : Int)]) rfl en) rfl rfl)).trans ?_
  show some (decide ((due : Int) < ((due' : Nat) : Int))) = _
  rw [decide_eq_false (by omega)]
theorem ziS {j k : Nat} {ts : List Tie} (hs : ts ∈ zf1 (zC 2)) (hh : zi2 2 ts = true) (hj : j < 2) (hk : k = 1 ∨ k = 2) (hlen : ts.length ≤ 28) : ∃ due, zfW 2 ts j k due := by
  have hl : ts ∈ vp := by rw [← zmn]; exact List.mem_filter.mpr ⟨hs, hh⟩
  obtain ⟨due, hmem, hc⟩ := zkr hl hj hk
  refine ⟨due, hlen, XO hc, fun t ht hnt => ?_⟩
  have h1 := List.all_eq_true.mp (List.all_eq_true.mp zl1 ts hl) t ht
  have hnc : ts.contains t = false := by
    cases e : ts.contains t with
    | false => rfl
    | true => exact absurd (List.contains_iff_mem.mp e) hnt
  rw [hnc, Bool.false_or] at h1
  obtain ⟨due', hmem', hc'⟩ := zkr (List.contains_iff_mem.mp h1) hj hk
  obtain ⟨ws, ls, T⟩ := XO hc'
  have h2 := List.all_eq_true.mp (List.all_eq_true.mp zml _ hmem) t ht
  dsimp only at h2
  rw [hnc, Bool.false_or] at h2
  have h3 := List.all_eq_true.mp h2 _ hmem'
  dsimp only at h3
  rw [beq_self_eq_true, beq_self_eq_true, beq_self_eq_true] at h3
  exact ⟨due', T.fneed, Nat.le_of_ble_eq_true h3⟩
theorem zjq {j k : Nat} {ts : List Tie} (hs : ts ∈ zf1 (zC 3)) (hh : zi2 3 ts = true) (hj : j < 3) (hk : k = 1 ∨ k = 2) (hlen : ts.length ≤ 28) : ∃ due, zfW 3 ts j k due := by
  have hl : ts ∈ vx := by rw [← zmf]; exact List.mem_filter.mpr ⟨hs, hh⟩
  obtain ⟨due, hmem, hc⟩ := zle hl hj hk
  refine ⟨due, hlen, XO hc, fun t ht hnt => ?_⟩
  have h1 := List.all_eq_true.mp (List.all_eq_true.mp zlJ ts hl) t ht
  have hnc : ts.contains t = false := by
    cases e : ts.contains t with
    | false => rfl
    | true => exact absurd (List.contains_iff_mem.mp e) hnt
  rw [hnc, Bool.false_or] at h1
  obtain ⟨due', hmem', hc'⟩ := zle (List.contains_iff_mem.mp h1) hj hk
  obtain ⟨ws, ls, T⟩ := XO hc'
  have h2 := List.all_eq_true.mp (List.all_eq_true.mp zlU _ hmem) t ht
  dsimp only at h2
  rw [hnc, Bool.false_or] at h2
  have h3 := List.all_eq_true.mp h2 _ hmem'
  dsimp only at h3
  rw [beq_self_eq_true, beq_self_eq_true, beq_self_eq_true] at h3
  exact ⟨due', T.fneed, Nat.le_of_ble_eq_true h3⟩
theorem zis {j k : Nat} {ts : List Tie} (hs : ts ∈ zf1 (zC 4)) (hh : zi2 4 ts = true) (hj : j < 4) (hk : k = 1 ∨ k = 2) (hlen : ts.length ≤ 28) : ∃ due, zfW 4 ts j k due := by
  have hl : ts ∈ vv := by rw [← zl0]; exact List.mem_filter.mpr ⟨hs, hh⟩
  obtain ⟨due, hmem, hc⟩ := zll hl hj hk
  refine ⟨due, hlen, XO hc, fun t ht hnt => ?_⟩
  have h1 := List.all_eq_true.mp (List.all_eq_true.mp zlV ts hl) t ht
  have hnc : ts.contains t = false := by
    cases e : ts.contains t with
    | false => rfl
    | true => exact absurd (List.contains_iff_mem.mp e) hnt
  rw [hnc, Bool.false_or] at h1
  obtain ⟨due', hmem', hc'⟩ := zll (List.contains_iff_mem.mp h1) hj hk
  obtain ⟨ws, ls, T⟩ := XO hc'
  have h2 := List.all_eq_true.mp (List.all_eq_true.mp zl3 _ hmem) t ht
  dsimp only at h2
  rw [hnc, Bool.false_or] at h2
  have h3 := List.all_eq_true.mp h2 _ hmem'
  dsimp only at h3
  rw [beq_self_eq_true, beq_self_eq_true, beq_self_eq_true] at h3
  exact ⟨due', T.fneed, Nat.le_of_ble_eq_true h3⟩
theorem zir (s : D) (z : Int) (o2 o3 o4 o5 o6 o7 o8 o9 o10 o11 o12 o13 : Sl) (n b : SE → Prop) (r : D → Prop) (I : SE → Prop) (hI : ∀ o2 o3 o4 o5 o6 o7 o8 o9 o10 o11 o12 o13, I [.v s, .v (.int z), o2, o3, o4, o5, o6, o7, o8, o9, o10, o11, o12, o13]) : (Wj [.v s, .v (.int z), o2, o3, o4, o5, o6, o7, o8, o9, o10, o11, o12, o13]).w I b n r := by
  obtain ⟨q, hq⟩ : ∃ q : Int, z / 64 % 3 = q := ⟨_, rfl⟩
  obtain ⟨q0, q1⟩ := Yk (by decide) hq
  obtain ⟨m, hm⟩ : ∃ m : Int, 2 + q = m := ⟨_, rfl⟩
  obtain ⟨ts, ew, ok, has⟩ := VL (n := m) (c := z / 192) (by omega) (by omega)
  obtain ⟨p, hp⟩ : ∃ p : Int, zel z 10 % m = p := ⟨_, rfl⟩
  obtain ⟨p0, p1⟩ := Yk (by omega) hp
  obtain ⟨e, he⟩ : ∃ e : Int, z / 4 % 2 = e := ⟨_, rfl⟩
  obtain ⟨e0, e1⟩ := Yk (by decide) he
  unfold Wj
  refine yP (ρ' := [.v s, .v (.int z), .v (.int m), o3, o4, o5, o6, o7, o8, o9, o10, o11, o12, o13]) (zfP (xC (x := .int 2) (y := .int q) rfl (xC (x := .int (z / 64)) (y := .int 3) (xC (x := .int z) (y := .int 64) rfl rfl (Yw (by decide) (by decide))) rfl (by rw [y6 (by decide), hq])) (by rw [xG, hm]))) ?_
  refine yP (ρ' := [.v s, .v (.int z), .v (.int m), .v (zm m ts), o4, o5, o6, o7, o8, o9, o10, o11, o12, o13]) (Z3 (ds := [.int m, .int (z / 192)]) (v8 rfl (v8 (xC (x := .int z) (y := .int 192) rfl rfl (Yw (by decide) (by decide))) XC)) ew) ?_
  refine yP (ρ' := [.v s, .v (.int z), .v (.int m), .v (zm m ts), .v (.int (1 + e)), o5, o6, o7, o8, o9, o10, o11, o12, o13]) (zfP (xC (x := .int 1) (y := .int e) rfl (xC (x := .int (z / 4)) (y := .int 2) (xC (x := .int z) (y := .int 4) rfl rfl (Yw (by decide) (by decide))) rfl (by rw [y6 (by decide), he])) xG)) ?_
  refine yP (ρ' := [.v s, .v (.int z), .v (.int m), .v (zm m ts), .v (.int (1 + e)), .v (.int p), o6, o7, o8, o9, o10, o11, o12, o13]) (zfP (xC (x := .int (zel z 10)) (y := .int m) rfl rfl (by rw [y6 (by omega), hp]))) ?_
  obtain ⟨k, rfl⟩ : ∃ k : Nat, m = (k : Int) := ⟨m.toNat, by omega⟩
  obtain ⟨j, rfl⟩ : ∃ j : Nat, p = (j : Int) := ⟨p.toNat, by omega⟩
  obtain ⟨u, hu⟩ : ∃ u : Nat, 1 + e = (u : Int) := ⟨(1 + e).toNat, by omega⟩
  rw [hu]
  have hs := zhT (by omega) ok
  have hh := zk1 has
  have hlen : ts.length ≤ 28 := by
    have nd : ts.Nodup := ok.srt.imp zbG
    refine Nat.le_trans (nd.length_le_of_subset (l₂ := zC k) fun t ht => Xx ?_) (vb k (by omega)).2.2
    have := ok.rng t ht
    omega
  obtain ⟨due, S⟩ : ∃ due, zfW k ts j u due := by
    have hk : k = 2 ∨ k = 3 ∨ k = 4 := by omega
    rcases hk with rfl | rfl | rfl
    · exact ziS hs hh (by omega) (by omega) hlen
    · exact zjq hs hh (by omega) (by omega) hlen
    · exact zis hs hh (by omega) (by omega) hlen
  exact zf8 (by omega) (by omega) S fun _ _ _ _ _ _ _ _ => hI _ _ _ _ _ _ _ _ _ _ _ _
theorem zgj (ns : List Int) (h : ns.length ≤ 63) : zkQ [.scr ns] = some (.bl true) := by
  refine zet (ρ := [.v (.scr ns), .no, .no, .no, .no, .no, .no, .no, .no, .no, .no, .no, .no, .no]) rfl ?_
  unfold zgC
  obtain ⟨xs, hxs⟩ : ∃ xs : List Int, (zaF ns none (some 3)) ++ [0, 7] = xs := ⟨_, rfl⟩
  have hl : ((zaF ns none (some 3)).map D.int).length + [D.int 0, .int 7].length ≤ 1000 := by rw [List.length_map]; have := zgs ns none (some 3); show _ + 2 ≤ 1000; omega
  refine Zu (zgo (ds := xs.map .int) (fun i ρ => ∃ o1 o2 o3 o4 o5 o6 o7 o8 o9 o10 o11 o12 o13, ρ = [.v (.scr ns), o1, o2, o3, o4, o5, o6, o7, o8, o9, o10, o11, o12, o13]) ?_ ⟨_, _, _, _, _, _, _, _, _, _, _, _, _, rfl⟩ ?_ ?_)
  · refine zeS (d := .lst (xs.map .int)) (xC (x := .lst ((zaF ns none (some 3)).map D.int)) (y := .lst [.int 0, .int 7]) rfl rfl ?_) rfl
    rw [zdp hl, ← hxs, List.map_append]
    rfl
  · rintro i d ρ hd ⟨o1, o2, o3, o4, o5, o6, o7, o8, o9, o10, o11, o12, o13, rfl⟩
    rw [List.getElem?_map] at hd
    obtain ⟨z, hz, rfl⟩ := Option.map_eq_some_iff.mp hd
    exact ⟨_, rfl, zir _ _ _ _ _ _ _ _ _ _ _ _ _ _ _ _ _ _ fun _ _ _ _ _ _ _ _ _ _ _ _ => ⟨_, _, _, _, _, _, _, _, _, _, _, _, _, rfl⟩⟩
  · rintro ρ ⟨o1, o2, o3, o4, o5, o6, o7, o8, o9, o10, o11, o12, o13, rfl⟩
    exact Wo rfl rfl
theorem zkK (T : Txt K mg ad) : yY P w K mg base CX0 30 ad.f_law ad.e_law ["script"] (zfk K) := by
  letI : KK := ⟨K⟩
  have G_far := zlg (P := P) (w := w) (base := base) T
  have G_fails := zgH (P := P) (w := w) (base := base) T
  have G_need := ziM (P := P) (w := w) (base := base) T
  have G_worst := zg3 (P := P) (w := w) (base := base) T
  have G__law_pairs := Yv (P := P) (w := w) (base := base) T
  have G__law_stir := vg (P := P) (w := w) (base := base) T
  have G__law_joined_by := Y5 (P := P) (w := w) (base := base) T
  have G__law_may := zcC (P := P) (w := w) (base := base) T
  have G__law_moved := X5 (P := P) (w := w) (base := base) T
  refine (zkD (p := zkQ) (yw (N := ["script", "cell", "many", "web", "m", "place", "due", "ties", "lacking", "more", "lesser", "heap", "k", "step"]) (ps := ["script"]) T.d_law.fn xU (g := zgC) fun cdv A outer s H E hr => ?_) zgj).mono (j := 13) (by decide)
  unfold zgC Wj vn zbk zcT
  exact (zf (w8 PassesOwn.never rfl (vf (yz (vB (za 0 (pv 0)) Y4 (YY (zh zi))) (wf (xS (zb (zh zi) (zb (zh zi) zg)))))) (yk (zB (i := 1) xU.nd rfl (Or.inl rfl))) (zf (yA (m := false) (i := 2) xU.nd rfl (Or.inl rfl) (yz (zh zi) (xY (YJ (za 1 (pv 1)) (zh zi)) (zh zi))))
      (zf (yA (m := false) (i := 3) xU.nd rfl (Or.inr rfl) (zo (G__law_joined_by.mono (by decide)) hr rfl T.d__law_joined_by.at_ T.d__law_joined_by.kp T.d__law_joined_by.bd (zb (za 2 (pv 2)) (zb (YJ (za 1 (pv 1)) (zh zi)) zg))))
      (zf (yA (m := false) (i := 4) xU.nd rfl (Or.inl rfl) (yz (zh zi) (xY (YJ (za 1 (pv 1)) (zh zi)) (zh zi))))
      (zf (yA (m := false) (i := 5) xU.nd rfl (Or.inr rfl) (xY (zo (G__law_stir.mono (by decide)) hr rfl T.d__law_stir.at_ T.d__law_stir.kp T.d__law_stir.bd (zb (za 1 (pv 1)) (zb (zh zi) zg))) (za 2 (pv 2))))
      (zf (yA (m := false) (i := 6) xU.nd rfl (Or.inl rfl) (zo (G_need.mono (by decide)) hr rfl T.d_need.at_ T.d_need.kp T.d_need.bd (zb (za 3 (pv 3)) (zb (za 5 (pv 5)) (zb (za 4 (pv 4)) zg)))))
      (zf (yA (m := false) (i := 7) xU.nd rfl (Or.inl rfl) (yj (ze2 rfl) zgd rfl T.z_max zfq (zb (wf (zdy (L := ["other"]) (M := ["script", "cell", "many", "web", "m", "place", "due", "ties", "lacking", "more", "lesser", "heap", "k", "step"]) rfl (YG (by rfl) (by rfl) (by rfl) (by with_unfolding_all rfl) (by rfl) (by rfl) (by kernel_rfl) (all_cons rfl (all_cons rfl wC))) (ZN rfl T.z_range (zb (za 2 (pv 2)) zg)) gs1 rb1 (fun _ _ _ _ => (zB (i := 0) zmd rfl (Or.inl rfl) (.inr rfl))) (fun _ _ _ _ => (zo (G_far.mono (by decide)) hr rfl T.d_far.at_ T.d_far.kp T.d_far.bd (zb (za 4 (pv 4)) (zb (za 6 (pv 6)) (zb (za 0 (pv 0)) zg))))))) zg)))
      (zf (xq (zeo (zeT (zF zfo zJ (zM _) (za 6 (pv 6)) (Z5 (za 4 (pv 4)) (zG (wf (xS (zb (zh zi) (zb (zh zi) (zb (zh zi) (zb (zh zi) zg)))))) (za 7 (pv 7)) (fun _ _ => rfl)))) (zal (zF zfo zJ (zM _) (za 6 (pv 6)) (Zd (yz (za 4 (pv 4)) (za 2 (pv 2))) (zh zi)))))) (zj (zA (vL vI))) zL)
      (zf (zhW (m := false) (i := 8) (ziY (L := ["tie"]) (M := ["script", "cell", "many", "web", "m", "place", "due", "ties", "lacking", "more", "lesser", "heap", "k", "step"]) xU.nd rfl (Or.inl rfl) rfl (YG (by rfl) (by rfl) (by rfl) (by with_unfolding_all rfl) (by rfl) (by rfl) (by kernel_rfl) (all_cons rfl wC)) (vf (zo (G__law_pairs.mono (by decide)) hr rfl T.d__law_pairs.at_ T.d__law_pairs.kp T.d__law_pairs.bd (zb (za 2 (pv 2)) zg))) gs1 rb1 (fun _ _ _ _ => (zB (i := 0) zlQ rfl (Or.inl rfl) (.inr rfl))) (fun _ _ _ _ => (zF (Z8 hr) ZV (by with_unfolding_all rfl) (za 0 (pv 0)) (zG (za 4 (pv 4)) (zh zi) (fun _ _ => rfl)))) (fun _ _ _ _ => (za 0 (pv 0)))))
      (zf (xq (zF (zk7 hr) zit (zM _) (za 8 (pv 8)) (wf (xS zg))) (zf (yA (m := false) (i := 9) xU.nd rfl (Or.inl rfl) (xP yf xN rfl T.z_tuple xh (zb (wf (zdV rfl T.z_sorted (zb (yz (zG (za 3 (pv 3)) (zh zi) (fun _ _ => rfl)) (wP (zb (zG (za 8 (pv 8)) (xY (zo (G__law_stir.mono (by decide)) hr rfl T.d__law_stir.at_ T.d__law_stir.kp T.d__law_stir.bd (zb (za 1 (pv 1)) (zb (zh zi) zg))) (yj zQ wg rfl T.z_len ve (zb (za 8 (pv 8)) zg))) (fun _ _ => rfl)) zg))) zg))) zg)))
      (zj (xq (zF Xs zJ (zM _) (zo (G_need.mono (by decide)) hr rfl T.d_need.at_ T.d_need.kp T.d_need.bd (zb (wP (zb (za 2 (pv 2)) (zb (za 9 (pv 9)) zg))) (zb (za 5 (pv 5)) (zb (za 4 (pv 4)) zg)))) (za 6 (pv 6))) (zj (zA (vL vI))) zL))) zL)
      (zf (yA (m := false) (i := 10) xU.nd rfl (Or.inl rfl) (zo (G_fails.mono (by decide)) hr rfl T.d_fails.at_ T.d_fails.kp T.d_fails.bd (zb (za 3 (pv 3)) (zb (za 5 (pv 5)) (zb (za 4 (pv 4)) (zb (Zd (za 6 (pv 6)) (zh zi)) zg))))))
      (zj (w8 PassesOwn.never rfl (vf (vB (zo (G_worst.mono (by decide)) hr rfl T.d_worst.at_ T.d_worst.kp T.d_worst.bd (zb (za 3 (pv 3)) (zb (za 5 (pv 5)) (zb (za 4 (pv 4)) zg)))) Y4 (YY (zh zi)))) (yk (zB (i := 11) xU.nd rfl (Or.inl rfl))) (zf (xq (zeo (zeT (zF zkf zJ (zM _) (zG (za 11 (pv 11)) (za 5 (pv 5)) (fun _ _ => rfl)) (za 4 (pv 4))) (zal (zF zg5 zdE (zM _) (yj (zez rfl) zib rfl T.z_sum zkF (zb (za 11 (pv 11)) zg)) (Zd (za 6 (pv 6)) (zh zi)))))) (zj (zA (vL vI))) zL)
      (zf (Zv PassesOwn.never rfl rfl T.z_range (zb (za 2 (pv 2)) zg) (yk (zB (i := 12) xU.nd rfl (Or.inl rfl))) (zj (xq (zeo (Z0 (zF Xs zJ (zM _) (zG (za 11 (pv 11)) (za 12 (pv 12)) (fun _ _ => rfl)) (zh zi)) (v7 (zF (Z8 hr) ZV (by with_unfolding_all rfl) (yz (yz (vB (za 11 (pv 11)) Y4 (YY (za 12 (pv 12)))) (wP (zb (Zd (zG (za 11 (pv 11)) (za 12 (pv 12)) (fun _ _ => rfl)) (zh zi)) zg))) (vB (za 11 (pv 11)) (YY (yz (za 12 (pv 12)) (zh zi))) Y4)) (za 10 (pv 10)))))) (zj (zA (vL vI))) zL)))
      (zj (w8 PassesOwn.never rfl (vf (zo (G__law_may.mono (by decide)) hr rfl T.d__law_may.at_ T.d__law_may.kp T.d__law_may.bd (zb (za 3 (pv 3)) (zb (za 11 (pv 11)) zg)))) (yk (zB (i := 13) xU.nd rfl (Or.inl rfl))) (zj (xq (zF (Z8 hr) ZV (by with_unfolding_all rfl) (zo (G__law_moved.mono (by decide)) hr rfl T.d__law_moved.at_ T.d__law_moved.kp T.d__law_moved.bd (zb (za 11 (pv 11)) (zb (za 13 (pv 13)) zg))) (za 10 (pv 10))) (zj (zA (vL vI))) zL)))))))))))))))))))
      (zj (zA (vL vI))))
end
theorem Z4 {us : List Value} (h : us.length = 1) : ∃ x0, us = [x0] := by
  cases us with
  | nil => cases h
  | cons x0 us =>
    cases us with
    | nil => exact ⟨x0, rfl⟩
    | cons _ _ => cases h
theorem Yo {us : List Value} (h : us.length = 2) : ∃ x0 x1, us = [x0, x1] := by
  cases us with
  | nil => cases h
  | cons x0 us =>
    cases us with
    | nil => cases h
    | cons x1 us =>
      cases us with
      | nil => exact ⟨x0, x1, rfl⟩
      | cons _ _ => cases h
theorem WW {us : List Value} (h : us.length = 3) : ∃ x0 x1 x2, us = [x0, x1, x2] := by
  cases us with
  | nil => cases h
  | cons x0 us =>
    cases us with
    | nil => cases h
    | cons x1 us =>
      cases us with
      | nil => cases h
      | cons x2 us =>
        cases us with
        | nil => exact ⟨x0, x1, x2, rfl⟩
        | cons _ _ => cases h
theorem zig {us : List Value} (h : us.length = 4) : ∃ x0 x1 x2 x3, us = [x0, x1, x2, x3] := by
  cases us with
  | nil => cases h
  | cons x0 us =>
    cases us with
    | nil => cases h
    | cons x1 us =>
      cases us with
      | nil => cases h
      | cons x2 us =>
        cases us with
        | nil => cases h
        | cons x3 us =>
          cases us with
          | nil => exact ⟨x0, x1, x2, x3, rfl⟩
          | cons _ _ => cases h
theorem all_mk {l : PySem.W.OpenLaw} {w : World} {K : PySem.W.Frag} {h : Heap} {mg : Str → Option Value} {fa f0 f1 f2 f3 f4 f5 f6 f7 f8 f9 f10 f11 f12 f13 f14 f15 f16 f17 f18 f19 f20 f21 f22 f23 f24 f25 f26 f27 f28 f29 f30 f31 f32 f33 f34 f35 : Addr} (X : K.In h) (G : h.Ns mainGlobals mg) (hfa : mg "law" = some (.ref fa))
    {od0 an0 od1 an1 od2 an2 od3 an3 od4 an4 od5 an5 od6 an6 od7 an7 od8 an8 od9 an9 od10 an10 od11 an11 od12 an12 od13 an13 od14 an14 od15 an15 od16 an16 od17 an17 od18 an18 od19 an19 od20 an20 od21 an21 od22 an22 od23 an23 od24 an24 od25 an25 od26 an26 od27 an27 od28 an28 od29 an29 od30 an30 od31 an31 od32 an32 od33 an33 od34 an34 od35 an35 : Option Addr} {sl0 sl1 sl2 sl3 sl4 sl5 sl6 sl7 sl8 sl9 sl10 sl11 sl12 sl13 sl14 sl15 sl16 sl17 sl18 sl19 sl20 sl21 sl22 sl23 sl24 sl25 sl26 sl27 sl28 sl29 sl30 sl31 sl32 sl33 sl34 sl35 : Array (Option Value)} {oc0 kV0 dc0 pm0 cd0 ct0 oc1 kV1 dc1 pm1 cd1 ct1 oc2 kV2 dc2 pm2 cd2 ct2 oc3 kV3 dc3 pm3 cd3 ct3 oc4 kV4 dc4 pm4 cd4 ct4 oc5 kV5 dc5 pm5 cd5 ct5 oc6 kV6 dc6 pm6 cd6 ct6 oc7 kV7 dc7 pm7 cd7 ct7 oc8 kV8 dc8 pm8 cd8 ct8 oc9 kV9 dc9 pm9 cd9 ct9 oc10 kV10 dc10 pm10 cd10 ct10 oc11 kV11 dc11 pm11 cd11 ct11 oc12 kV12 dc12 pm12 cd12 ct12 oc13 kV13 dc13 pm13 cd13 ct13 oc14 kV14 dc14 pm14 cd14 ct14 oc15 kV15 dc15 pm15 cd15 ct15 oc16 kV16 dc16 pm16 cd16 ct16 oc17 kV17 dc17 pm17 cd17 ct17 oc18 kV18 dc18 pm18 cd18 ct18 oc19 kV19 dc19 pm19 cd19 ct19 oc20 kV20 dc20 pm20 cd20 ct20 oc21 kV21 dc21 pm21 cd21 ct21 oc22 kV22 dc22 pm22 cd22 ct22 oc23 kV23 dc23 pm23 cd23 ct23 oc24 kV24 dc24 pm24 cd24 ct24 oc25 kV25 dc25 pm25 cd25 ct25 oc26 kV26 dc26 pm26 cd26 ct26 oc27 kV27 dc27 pm27 cd27 ct27 oc28 kV28 dc28 pm28 cd28 ct28 oc29 kV29 dc29 pm29 cd29 ct29 oc30 kV30 dc30 pm30 cd30 ct30 oc31 kV31 dc31 pm31 cd31 ct31 oc32 kV32 dc32 pm32 cd32 ct32 oc33 kV33 dc33 pm33 cd33 ct33 oc34 kV34 dc34 pm34 cd34 ct34 oc35 kV35 dc35 pm35 cd35 ct35 : Value} {tk0 : Tok} {tk1 : Tok} {tk2 : Tok} {tk3 : Tok}
    (a0 : PySem.W.nsIn K mainGlobals "is_whole" = some (some (.ref f0))) (l0 : K.lookup f0 = some ⟨oc0, od0, .func (PySem.W.fnOf "is_whole" "is_whole" (zx y0) (zv y0) (ze y0) .none kV0 dc0 pm0 an0 cd0 ct0), sl0⟩) (c0 : PySem.W.codeIn K cd0 "is_whole" = true) (k0 : PySem.W.keepIn K (.ref f0) = true)
    (a1 : PySem.W.nsIn K mainGlobals "is_whole_within" = some (some (.ref f1))) (l1 : K.lookup f1 = some ⟨oc1, od1, .func (PySem.W.fnOf "is_whole_within" "is_whole_within" (zx zK) (zv zK) (ze zK) .none kV1 dc1 pm1 an1 cd1 ct1), sl1⟩) (c1 : PySem.W.codeIn K cd1 "is_whole_within" = true) (k1 : PySem.W.keepIn K (.ref f1) = true)
    (a2 : PySem.W.nsIn K mainGlobals "must_be_within" = some (some (.ref f2))) (l2 : K.lookup f2 = some ⟨oc2, od2, .func (PySem.W.fnOf "must_be_within" "must_be_within" (zx zT) (zv zT) (ze zT) .none kV2 dc2 pm2 an2 cd2 ct2), sl2⟩) (c2 : PySem.W.codeIn K cd2 "must_be_within" = true) (k2 : PySem.W.keepIn K (.ref f2) = true)
    (a3 : PySem.W.nsIn K mainGlobals "must_be_at_most" = some (some (.ref f3))) (l3 : K.lookup f3 = some ⟨oc3, od3, .func (PySem.W.fnOf "must_be_at_most" "must_be_at_most" (zx zI) (zv zI) (ze zI) .none kV3 dc3 pm3 an3 cd3 ct3), sl3⟩) (c3 : PySem.W.codeIn K cd3 "must_be_at_most" = true) (k3 : PySem.W.keepIn K (.ref f3) = true)
    (a4 : PySem.W.nsIn K mainGlobals "is_place_count" = some (some (.ref f4))) (l4 : K.lookup f4 = some ⟨oc4, od4, .func (PySem.W.fnOf "is_place_count" "is_place_count" (zx zR) (zv zR) (ze zR) .none kV4 dc4 pm4 an4 cd4 ct4), sl4⟩) (c4 : PySem.W.codeIn K cd4 "is_place_count" = true) (k4 : PySem.W.keepIn K (.ref f4) = true)
    (a5 : PySem.W.nsIn K mainGlobals "is_place" = some (some (.ref f5))) (l5 : K.lookup f5 = some ⟨oc5, od5, .func (PySem.W.fnOf "is_place" "is_place" (zx xc) (zv xc) (ze xc) .none kV5 dc5 pm5 an5 cd5 ct5), sl5⟩) (c5 : PySem.W.codeIn K cd5 "is_place" = true) (k5 : PySem.W.keepIn K (.ref f5) = true)
    (a6 : PySem.W.nsIn K mainGlobals "is_pair" = some (some (.ref f6))) (l6 : K.lookup f6 = some ⟨oc6, od6, .func (PySem.W.fnOf "is_pair" "is_pair" (zx xL) (zv xL) (ze xL) .none kV6 dc6 pm6 an6 cd6 ct6), sl6⟩) (c6 : PySem.W.codeIn K cd6 "is_pair" = true) (k6 : PySem.W.keepIn K (.ref f6) = true)
    (a7 : PySem.W.nsIn K mainGlobals "are_ties" = some (some (.ref f7))) (l7 : K.lookup f7 = some ⟨oc7, od7, .func (PySem.W.fnOf "are_ties" "are_ties" (zx y4) (zv y4) (ze y4) .none kV7 dc7 pm7 an7 cd7 ct7), sl7⟩) (c7 : PySem.W.codeIn K cd7 "are_ties" = true) (k7 : PySem.W.keepIn K (.ref f7) = true)
    (a8 : PySem.W.nsIn K mainGlobals "is_web" = some (some (.ref f8))) (l8 : K.lookup f8 = some ⟨oc8, od8, .func (PySem.W.fnOf "is_web" "is_web" (zx wt) (zv wt) (ze wt) .none kV8 dc8 pm8 an8 cd8 ct8), sl8⟩) (c8 : PySem.W.codeIn K cd8 "is_web" = true) (k8 : PySem.W.keepIn K (.ref f8) = true)
    (a9 : PySem.W.nsIn K mainGlobals "must_be_web" = some (some (.ref f9))) (l9 : K.lookup f9 = some ⟨oc9, od9, .func (PySem.W.fnOf "must_be_web" "must_be_web" (zx yo) (zv yo) (ze yo) .none kV9 dc9 pm9 an9 cd9 ct9), sl9⟩) (c9 : PySem.W.codeIn K cd9 "must_be_web" = true) (k9 : PySem.W.keepIn K (.ref f9) = true)
    (a10 : PySem.W.nsIn K mainGlobals "must_be_place" = some (some (.ref f10))) (l10 : K.lookup f10 = some ⟨oc10, od10, .func (PySem.W.fnOf "must_be_place" "must_be_place" (zx zY) (zv zY) (ze zY) .none kV10 dc10 pm10 an10 cd10 ct10), sl10⟩) (c10 : PySem.W.codeIn K cd10 "must_be_place" = true) (k10 : PySem.W.keepIn K (.ref f10) = true)
    (a11 : PySem.W.nsIn K mainGlobals "tie_between" = some (some (.ref f11))) (l11 : K.lookup f11 = some ⟨oc11, od11, .func (PySem.W.fnOf "tie_between" "tie_between" (zx yu) (zv yu) (ze yu) .none kV11 dc11 pm11 an11 cd11 ct11), sl11⟩) (c11 : PySem.W.codeIn K cd11 "tie_between" = true) (k11 : PySem.W.keepIn K (.ref f11) = true)
    (a12 : PySem.W.nsIn K mainGlobals "neighbours" = some (some (.ref f12))) (l12 : K.lookup f12 = some ⟨oc12, od12, .func (PySem.W.fnOf "neighbours" "neighbours" (zx yC) (zv yC) (ze yC) .none kV12 dc12 pm12 an12 cd12 ct12), sl12⟩) (c12 : PySem.W.codeIn K cd12 "neighbours" = true) (k12 : PySem.W.keepIn K (.ref f12) = true)
    (a13 : PySem.W.nsIn K mainGlobals "ties_away" = some (some (.ref f13))) (l13 : K.lookup f13 = some ⟨oc13, od13, .func (PySem.W.fnOf "ties_away" "ties_away" (zx yM) (zv yM) (ze yM) .none kV13 dc13 pm13 an13 cd13 ct13), sl13⟩) (c13 : PySem.W.codeIn K cd13 "ties_away" = true) (k13 : PySem.W.keepIn K (.ref f13) = true)
    (a14 : PySem.W.nsIn K mainGlobals "far" = some (some (.ref f14))) (l14 : K.lookup f14 = some ⟨oc14, od14, .func (PySem.W.fnOf "far" "far" (zx XI) (zv XI) (ze XI) .none kV14 dc14 pm14 an14 cd14 ct14), sl14⟩) (c14 : PySem.W.codeIn K cd14 "far" = true) (k14 : PySem.W.keepIn K (.ref f14) = true)
    (a15 : PySem.W.nsIn K mainGlobals "pieces" = some (some (.ref f15))) (l15 : K.lookup f15 = some ⟨oc15, od15, .func (PySem.W.fnOf "pieces" "pieces" (zx wm) (zv wm) (ze wm) .none kV15 dc15 pm15 an15 cd15 ct15), sl15⟩) (c15 : PySem.W.codeIn K cd15 "pieces" = true) (k15 : PySem.W.keepIn K (.ref f15) = true)
    (a16 : PySem.W.nsIn K mainGlobals "is_joined" = some (some (.ref f16))) (l16 : K.lookup f16 = some ⟨oc16, od16, .func (PySem.W.fnOf "is_joined" "is_joined" (zx yN) (zv yN) (ze yN) .none kV16 dc16 pm16 an16 cd16 ct16), sl16⟩) (c16 : PySem.W.codeIn K cd16 "is_joined" = true) (k16 : PySem.W.keepIn K (.ref f16) = true)
    (a17 : PySem.W.nsIn K mainGlobals "all_steps" = some (some (.ref f17))) (l17 : K.lookup f17 = some ⟨oc17, od17, .func (PySem.W.fnOf "all_steps" "all_steps" (zx yO) (zv yO) (ze yO) .none kV17 dc17 pm17 an17 cd17 ct17), sl17⟩) (c17 : PySem.W.codeIn K cd17 "all_steps" = true) (k17 : PySem.W.keepIn K (.ref f17) = true)
    (a18 : PySem.W.nsIn K mainGlobals "stepped" = some (some (.ref f18))) (l18 : K.lookup f18 = some ⟨oc18, od18, .func (PySem.W.fnOf "stepped" "stepped" (zx xK) (zv xK) (ze xK) .none kV18 dc18 pm18 an18 cd18 ct18), sl18⟩) (c18 : PySem.W.codeIn K cd18 "stepped" = true) (k18 : PySem.W.keepIn K (.ref f18) = true)
    (a19 : PySem.W.nsIn K mainGlobals "must_be_counted" = some (some (.ref f19))) (l19 : K.lookup f19 = some ⟨oc19, od19, .func (PySem.W.fnOf "must_be_counted" "must_be_counted" (zx zH) (zv zH) (ze zH) .none kV19 dc19 pm19 an19 cd19 ct19), sl19⟩) (c19 : PySem.W.codeIn K cd19 "must_be_counted" = true) (k19 : PySem.W.keepIn K (.ref f19) = true)
    (a20 : PySem.W.nsIn K mainGlobals "must_be_wanted" = some (some (.ref f20))) (l20 : K.lookup f20 = some ⟨oc20, od20, .func (PySem.W.fnOf "must_be_wanted" "must_be_wanted" (zx zV) (zv zV) (ze zV) .none kV20 dc20 pm20 an20 cd20 ct20), sl20⟩) (c20 : PySem.W.codeIn K cd20 "must_be_wanted" = true) (k20 : PySem.W.keepIn K (.ref f20) = true)
    (a21 : PySem.W.nsIn K mainGlobals "grown" = some (some (.ref f21))) (l21 : K.lookup f21 = some ⟨oc21, od21, .func (PySem.W.fnOf "grown" "grown" (zx vy) (zv vy) (ze vy) .none kV21 dc21 pm21 an21 cd21 ct21), sl21⟩) (c21 : PySem.W.codeIn K cd21 "grown" = true) (k21 : PySem.W.keepIn K (.ref f21) = true)
    (a22 : PySem.W.nsIn K mainGlobals "leads_to" = some (some (.ref f22))) (l22 : K.lookup f22 = some ⟨oc22, od22, .func (PySem.W.fnOf "leads_to" "leads_to" (zx xf) (zv xf) (ze xf) .none kV22 dc22 pm22 an22 cd22 ct22), sl22⟩) (c22 : PySem.W.codeIn K cd22 "leads_to" = true) (k22 : PySem.W.keepIn K (.ref f22) = true)
    (a23 : PySem.W.nsIn K mainGlobals "level_above" = some (some (.ref f23))) (l23 : K.lookup f23 = some ⟨oc23, od23, .func (PySem.W.fnOf "level_above" "level_above" (zx yr) (zv yr) (ze yr) .none kV23 dc23 pm23 an23 cd23 ct23), sl23⟩) (c23 : PySem.W.codeIn K cd23 "level_above" = true) (k23 : PySem.W.keepIn K (.ref f23) = true)
    (a24 : PySem.W.nsIn K mainGlobals "failing_levels" = some (some (.ref f24))) (l24 : K.lookup f24 = some ⟨oc24, od24, .func (PySem.W.fnOf "failing_levels" "failing_levels" (zx zS) (zv zS) (ze zS) .none kV24 dc24 pm24 an24 cd24 ct24), sl24⟩) (c24 : PySem.W.codeIn K cd24 "failing_levels" = true) (k24 : PySem.W.keepIn K (.ref f24) = true)
    (a25 : PySem.W.nsIn K mainGlobals "fails" = some (some (.ref f25))) (l25 : K.lookup f25 = some ⟨oc25, od25, .func (PySem.W.fnOf "fails" "fails" (zx vA) (zv vA) (ze vA) .none kV25 dc25 pm25 an25 cd25 ct25), sl25⟩) (c25 : PySem.W.codeIn K cd25 "fails" = true) (k25 : PySem.W.keepIn K (.ref f25) = true)
    (a26 : PySem.W.nsIn K mainGlobals "all_failing" = some (some (.ref f26))) (l26 : K.lookup f26 = some ⟨oc26, od26, .func (PySem.W.fnOf "all_failing" "all_failing" (zx yt) (zv yt) (ze yt) .none kV26 dc26 pm26 an26 cd26 ct26), sl26⟩) (c26 : PySem.W.codeIn K cd26 "all_failing" = true) (k26 : PySem.W.keepIn K (.ref f26) = true)
    (a27 : PySem.W.nsIn K mainGlobals "need" = some (some (.ref f27))) (l27 : K.lookup f27 = some ⟨oc27, od27, .func (PySem.W.fnOf "need" "need" (zx YO) (zv YO) (ze YO) .none kV27 dc27 pm27 an27 cd27 ct27), sl27⟩) (c27 : PySem.W.codeIn K cd27 "need" = true) (k27 : PySem.W.keepIn K (.ref f27) = true)
    (a28 : PySem.W.nsIn K mainGlobals "worst" = some (some (.ref f28))) (l28 : K.lookup f28 = some ⟨oc28, od28, .func (PySem.W.fnOf "worst" "worst" (zx vE) (zv vE) (ze vE) .none kV28 dc28 pm28 an28 cd28 ct28), sl28⟩) (c28 : PySem.W.codeIn K cd28 "worst" = true) (k28 : PySem.W.keepIn K (.ref f28) = true)
    (a29 : PySem.W.nsIn K mainGlobals "_law_pairs" = some (some (.ref f29))) (l29 : K.lookup f29 = some ⟨oc29, od29, .func (PySem.W.fnOf "_law_pairs" "_law_pairs" (zx yE) (zv yE) (ze yE) .none kV29 dc29 pm29 an29 cd29 ct29), sl29⟩) (c29 : PySem.W.codeIn K cd29 "_law_pairs" = true) (k29 : PySem.W.keepIn K (.ref f29) = true)
    (a30 : PySem.W.nsIn K mainGlobals "_law_stir" = some (some (.ref f30))) (l30 : K.lookup f30 = some ⟨oc30, od30, .func (PySem.W.fnOf "_law_stir" "_law_stir" (zx yL) (zv yL) (ze yL) .none kV30 dc30 pm30 an30 cd30 ct30), sl30⟩) (c30 : PySem.W.codeIn K cd30 "_law_stir" = true) (k30 : PySem.W.keepIn K (.ref f30) = true)
    (a31 : PySem.W.nsIn K mainGlobals "_law_web_by" = some (some (.ref f31))) (l31 : K.lookup f31 = some ⟨oc31, od31, .func (PySem.W.fnOf "_law_web_by" "_law_web_by" (zx yq) (zv yq) (ze yq) .none kV31 dc31 pm31 an31 cd31 ct31), sl31⟩) (c31 : PySem.W.codeIn K cd31 "_law_web_by" = true) (k31 : PySem.W.keepIn K (.ref f31) = true)
    (a32 : PySem.W.nsIn K mainGlobals "_law_joined_by" = some (some (.ref f32))) (l32 : K.lookup f32 = some ⟨oc32, od32, .func (PySem.W.fnOf "_law_joined_by" "_law_joined_by" (zx zU) (zv zU) (ze zU) .none kV32 dc32 pm32 an32 cd32 ct32), sl32⟩) (c32 : PySem.W.codeIn K cd32 "_law_joined_by" = true) (k32 : PySem.W.keepIn K (.ref f32) = true)
    (a33 : PySem.W.nsIn K mainGlobals "_law_may" = some (some (.ref f33))) (l33 : K.lookup f33 = some ⟨oc33, od33, .func (PySem.W.fnOf "_law_may" "_law_may" (zx yZ) (zv yZ) (ze yZ) .none kV33 dc33 pm33 an33 cd33 ct33), sl33⟩) (c33 : PySem.W.codeIn K cd33 "_law_may" = true) (k33 : PySem.W.keepIn K (.ref f33) = true)
    (a34 : PySem.W.nsIn K mainGlobals "_law_moved" = some (some (.ref f34))) (l34 : K.lookup f34 = some ⟨oc34, od34, .func (PySem.W.fnOf "_law_moved" "_law_moved" (zx yD) (zv yD) (ze yD) .none kV34 dc34 pm34 an34 cd34 ct34), sl34⟩) (c34 : PySem.W.codeIn K cd34 "_law_moved" = true) (k34 : PySem.W.keepIn K (.ref f34) = true)
    (a35 : PySem.W.nsIn K mainGlobals "law" = some (some (.ref f35))) (l35 : K.lookup f35 = some ⟨oc35, od35, .func (PySem.W.fnOf "law" "law" (zx XA) (zv XA) (ze XA) .none kV35 dc35 pm35 an35 cd35 ct35), sl35⟩) (c35 : PySem.W.codeIn K cd35 "law" = true) (k35 : PySem.W.keepIn K (.ref f35) = true)
    (gg0 : PySem.W.nsIn K mainGlobals "MOST_PLACES" = some (some (.int 8 tk0)))
    (gg1 : PySem.W.nsIn K mainGlobals "MOST_STONES" = some (some (.int 300 tk1)))
    (gg2 : PySem.W.nsIn K mainGlobals "MOST_WANTED" = some (some (.int 3 tk2)))
    (gg3 : PySem.W.nsIn K mainGlobals "MOST_COUNTED" = some (some (.int 6 tk3)))
    (z0 : PySem.W.nsIn K mainGlobals "bool" = some none)
    (z1 : PySem.W.nsIn K mainGlobals "enumerate" = some none)
    (z2 : PySem.W.nsIn K mainGlobals "int" = some none)
    (z3 : PySem.W.nsIn K mainGlobals "isinstance" = some none)
    (z4 : PySem.W.nsIn K mainGlobals "len" = some none)
    (z5 : PySem.W.nsIn K mainGlobals "list" = some none)
    (z6 : PySem.W.nsIn K mainGlobals "max" = some none)
    (z7 : PySem.W.nsIn K mainGlobals "min" = some none)
    (z8 : PySem.W.nsIn K mainGlobals "range" = some none)
    (z9 : PySem.W.nsIn K mainGlobals "sorted" = some none)
    (z10 : PySem.W.nsIn K mainGlobals "sum" = some none)
    (z11 : PySem.W.nsIn K mainGlobals "tuple" = some none)
    : ∃ fd : FuncData, (∀ (s : Shared) (v : Value), BindsTo s fd ⟨[v], []⟩ [("script", v)]) ∧ ∀ base : Heap, K.In base → base.Ns mainGlobals mg → yY l.prog w K mg base CX0 30 fa fd ["script"] (zfk K) := by
  have e := hfa.symm.trans (PySem.W.mg_of X G a35)
  cases e
  have F0 := zE (st := y0) l0 c0 k0
  have F1 := zE (st := zK) l1 c1 k1
  have F2 := zE (st := zT) l2 c2 k2
  have F3 := zE (st := zI) l3 c3 k3
  have F4 := zE (st := zR) l4 c4 k4
  have F5 := zE (st := xc) l5 c5 k5
  have F6 := zE (st := xL) l6 c6 k6
  have F7 := zE (st := y4) l7 c7 k7
  have F8 := zE (st := wt) l8 c8 k8
  have F9 := zE (st := yo) l9 c9 k9
  have F10 := zE (st := zY) l10 c10 k10
  have F11 := zE (st := yu) l11 c11 k11
  have F12 := zE (st := yC) l12 c12 k12
  have F13 := zE (st := yM) l13 c13 k13
  have F14 := zE (st := XI) l14 c14 k14
  have F15 := zE (st := wm) l15 c15 k15
  have F16 := zE (st := yN) l16 c16 k16
  have F17 := zE (st := yO) l17 c17 k17
  have F18 := zE (st := xK) l18 c18 k18
  have F19 := zE (st := zH) l19 c19 k19
  have F20 := zE (st := zV) l20 c20 k20
  have F21 := zE (st := vy) l21 c21 k21
  have F22 := zE (st := xf) l22 c22 k22
  have F23 := zE (st := yr) l23 c23 k23
  have F24 := zE (st := zS) l24 c24 k24
  have F25 := zE (st := vA) l25 c25 k25
  have F26 := zE (st := yt) l26 c26 k26
  have F27 := zE (st := YO) l27 c27 k27
  have F28 := zE (st := vE) l28 c28 k28
  have F29 := zE (st := yE) l29 c29 k29
  have F30 := zE (st := yL) l30 c30 k30
  have F31 := zE (st := yq) l31 c31 k31
  have F32 := zE (st := zU) l32 c32 k32
  have F33 := zE (st := yZ) l33 c33 k33
  have F34 := zE (st := yD) l34 c34 k34
  have F35 := zE (st := XA) l35 c35 k35
  have T : Txt K mg ⟨_, _, _, _, _, _, _, _, _, _, _, _, _, _, _, _, _, _, _, _, _, _, _, _, _, _, _, _, _, _, _, _, _, _, _, _, _, _, _, _, _, _, _, _, _, _, _, _, _, _, _, _, _, _, _, _, _, _, _, _, _, _, _, _, _, _, _, _, _, _, _, _, tk0, tk1, tk2, tk3⟩ := ⟨
    ⟨F0, F0.binds (ps := ["thing"]) (fun _ _ _ _ _ _ us hl => by obtain ⟨_, rfl⟩ := Z4 hl; rfl), PySem.W.mg_of X G a0⟩,
    ⟨F1, F1.binds (ps := ["thing", "least", "most"]) (fun _ _ _ _ _ _ us hl => by obtain ⟨_, _, _, rfl⟩ := WW hl; rfl), PySem.W.mg_of X G a1⟩,
    ⟨F2, F2.binds (ps := ["thing", "least", "most"]) (fun _ _ _ _ _ _ us hl => by obtain ⟨_, _, _, rfl⟩ := WW hl; rfl), PySem.W.mg_of X G a2⟩,
    ⟨F3, F3.binds (ps := ["many", "most"]) (fun _ _ _ _ _ _ us hl => by obtain ⟨_, _, rfl⟩ := Yo hl; rfl), PySem.W.mg_of X G a3⟩,
    ⟨F4, F4.binds (ps := ["thing"]) (fun _ _ _ _ _ _ us hl => by obtain ⟨_, rfl⟩ := Z4 hl; rfl), PySem.W.mg_of X G a4⟩,
    ⟨F5, F5.binds (ps := ["many", "thing"]) (fun _ _ _ _ _ _ us hl => by obtain ⟨_, _, rfl⟩ := Yo hl; rfl), PySem.W.mg_of X G a5⟩,
    ⟨F6, F6.binds (ps := ["many", "thing"]) (fun _ _ _ _ _ _ us hl => by obtain ⟨_, _, rfl⟩ := Yo hl; rfl), PySem.W.mg_of X G a6⟩,
    ⟨F7, F7.binds (ps := ["many", "thing"]) (fun _ _ _ _ _ _ us hl => by obtain ⟨_, _, rfl⟩ := Yo hl; rfl), PySem.W.mg_of X G a7⟩,
    ⟨F8, F8.binds (ps := ["thing"]) (fun _ _ _ _ _ _ us hl => by obtain ⟨_, rfl⟩ := Z4 hl; rfl), PySem.W.mg_of X G a8⟩,
    ⟨F9, F9.binds (ps := ["thing"]) (fun _ _ _ _ _ _ us hl => by obtain ⟨_, rfl⟩ := Z4 hl; rfl), PySem.W.mg_of X G a9⟩,
    ⟨F10, F10.binds (ps := ["web", "thing"]) (fun _ _ _ _ _ _ us hl => by obtain ⟨_, _, rfl⟩ := Yo hl; rfl), PySem.W.mg_of X G a10⟩,
    ⟨F11, F11.binds (ps := ["one", "other"]) (fun _ _ _ _ _ _ us hl => by obtain ⟨_, _, rfl⟩ := Yo hl; rfl), PySem.W.mg_of X G a11⟩,
    ⟨F12, F12.binds (ps := ["web", "place"]) (fun _ _ _ _ _ _ us hl => by obtain ⟨_, _, rfl⟩ := Yo hl; rfl), PySem.W.mg_of X G a12⟩,
    ⟨F13, F13.binds (ps := ["web", "start"]) (fun _ _ _ _ _ _ us hl => by obtain ⟨_, _, rfl⟩ := Yo hl; rfl), PySem.W.mg_of X G a13⟩,
    ⟨F14, F14.binds (ps := ["web", "one", "other"]) (fun _ _ _ _ _ _ us hl => by obtain ⟨_, _, _, rfl⟩ := WW hl; rfl), PySem.W.mg_of X G a14⟩,
    ⟨F15, F15.binds (ps := ["web"]) (fun _ _ _ _ _ _ us hl => by obtain ⟨_, rfl⟩ := Z4 hl; rfl), PySem.W.mg_of X G a15⟩,
    ⟨F16, F16.binds (ps := ["web"]) (fun _ _ _ _ _ _ us hl => by obtain ⟨_, rfl⟩ := Z4 hl; rfl), PySem.W.mg_of X G a16⟩,
    ⟨F17, F17.binds (ps := ["web"]) (fun _ _ _ _ _ _ us hl => by obtain ⟨_, rfl⟩ := Z4 hl; rfl), PySem.W.mg_of X G a17⟩,
    ⟨F18, F18.binds (ps := ["heap", "step"]) (fun _ _ _ _ _ _ us hl => by obtain ⟨_, _, rfl⟩ := Yo hl; rfl), PySem.W.mg_of X G a18⟩,
    ⟨F19, F19.binds (ps := ["web"]) (fun _ _ _ _ _ _ us hl => by obtain ⟨_, rfl⟩ := Z4 hl; rfl), PySem.W.mg_of X G a19⟩,
    ⟨F20, F20.binds (ps := ["web", "place", "m"]) (fun _ _ _ _ _ _ us hl => by obtain ⟨_, _, _, rfl⟩ := WW hl; rfl), PySem.W.mg_of X G a20⟩,
    ⟨F21, F21.binds (ps := ["heap"]) (fun _ _ _ _ _ _ us hl => by obtain ⟨_, rfl⟩ := Z4 hl; rfl), PySem.W.mg_of X G a21⟩,
    ⟨F22, F22.binds (ps := ["heap", "steps", "level"]) (fun _ _ _ _ _ _ us hl => by obtain ⟨_, _, _, rfl⟩ := WW hl; rfl), PySem.W.mg_of X G a22⟩,
    ⟨F23, F23.binds (ps := ["level", "steps", "place", "m"]) (fun _ _ _ _ _ _ us hl => by obtain ⟨_, _, _, _, rfl⟩ := zig hl; rfl), PySem.W.mg_of X G a23⟩,
    ⟨F24, F24.binds (ps := ["web", "place", "m", "most"]) (fun _ _ _ _ _ _ us hl => by obtain ⟨_, _, _, _, rfl⟩ := zig hl; rfl), PySem.W.mg_of X G a24⟩,
    ⟨F25, F25.binds (ps := ["web", "place", "m", "stones"]) (fun _ _ _ _ _ _ us hl => by obtain ⟨_, _, _, _, rfl⟩ := zig hl; rfl), PySem.W.mg_of X G a25⟩,
    ⟨F26, F26.binds (ps := ["web", "place", "m"]) (fun _ _ _ _ _ _ us hl => by obtain ⟨_, _, _, rfl⟩ := WW hl; rfl), PySem.W.mg_of X G a26⟩,
    ⟨F27, F27.binds (ps := ["web", "place", "m"]) (fun _ _ _ _ _ _ us hl => by obtain ⟨_, _, _, rfl⟩ := WW hl; rfl), PySem.W.mg_of X G a27⟩,
    ⟨F28, F28.binds (ps := ["web", "place", "m"]) (fun _ _ _ _ _ _ us hl => by obtain ⟨_, _, _, rfl⟩ := WW hl; rfl), PySem.W.mg_of X G a28⟩,
    ⟨F29, F29.binds (ps := ["many"]) (fun _ _ _ _ _ _ us hl => by obtain ⟨_, rfl⟩ := Z4 hl; rfl), PySem.W.mg_of X G a29⟩,
    ⟨F30, F30.binds (ps := ["cell", "k"]) (fun _ _ _ _ _ _ us hl => by obtain ⟨_, _, rfl⟩ := Yo hl; rfl), PySem.W.mg_of X G a30⟩,
    ⟨F31, F31.binds (ps := ["many", "cell"]) (fun _ _ _ _ _ _ us hl => by obtain ⟨_, _, rfl⟩ := Yo hl; rfl), PySem.W.mg_of X G a31⟩,
    ⟨F32, F32.binds (ps := ["many", "cell"]) (fun _ _ _ _ _ _ us hl => by obtain ⟨_, _, rfl⟩ := Yo hl; rfl), PySem.W.mg_of X G a32⟩,
    ⟨F33, F33.binds (ps := ["web", "heap"]) (fun _ _ _ _ _ _ us hl => by obtain ⟨_, _, rfl⟩ := Yo hl; rfl), PySem.W.mg_of X G a33⟩,
    ⟨F34, F34.binds (ps := ["heap", "step"]) (fun _ _ _ _ _ _ us hl => by obtain ⟨_, _, rfl⟩ := Yo hl; rfl), PySem.W.mg_of X G a34⟩,
    ⟨F35, F35.binds (ps := ["script"]) (fun _ _ _ _ _ _ us hl => by obtain ⟨_, rfl⟩ := Z4 hl; rfl), PySem.W.mg_of X G a35⟩,
    PySem.W.mg_of X G gg0,
    PySem.W.mg_of X G gg1,
    PySem.W.mg_of X G gg2,
    PySem.W.mg_of X G gg3,
    PySem.W.mg_none_of X G z0,
    PySem.W.mg_none_of X G z1,
    PySem.W.mg_none_of X G z2,
    PySem.W.mg_none_of X G z3,
    PySem.W.mg_none_of X G z4,
    PySem.W.mg_none_of X G z5,
    PySem.W.mg_none_of X G z6,
    PySem.W.mg_none_of X G z7,
    PySem.W.mg_none_of X G z8,
    PySem.W.mg_none_of X G z9,
    PySem.W.mg_none_of X G z10,
    PySem.W.mg_none_of X G z11⟩
  exact ⟨_, fun s v => .of_eq rfl, fun base _ _ => zkK T⟩
theorem walk {l : PySem.W.OpenLaw} {q : Program} {loose : List Str} {XP : (Str → Option Value) → Heap → Prop} {YP : World → Heap → Prop} {d : DefRec} {K : Params → PySem.W.Frag} (hn : l.most = some 63) (hdf : d.params.defaults = [])
    (hY : ∀ (w : World) (h : Heap), YP w h → (K w.params).In h)
    (F : ∀ (w : World) (mg : Str → Option Value) (fa : Addr) (h : Heap), (K w.params).In h → h.Ns mainGlobals mg → mg d.name = some (.ref fa) →
      ∃ fd : FuncData, (∀ (s : Shared) (u : Value), BindsTo s fd ⟨[u], []⟩ [("script", u)]) ∧ ∀ base : Heap, (K w.params).In base → base.Ns mainGlobals mg → yY l.prog w (K w.params) mg base CX0 30 fa fd ["script"] (zfk (K w.params))) :
    PySem.W.WalkO q loose XP YP l.row.toRowW d [] (fun f vs => PySem.call f vs) :=
  L2.walk_of (n := 63) (k := 30) (x := "script") (CX := fun _ => CX0) (sp := fun w => zfk (K w.params)) hn (by decide) hdf ⟨rfl, by decide, by decide⟩ hY F (fun _ _ a ns hl _ hS => ⟨a, ns, rfl, hS, hl, fun _ => rfl⟩) fun _ _ _ _ _ z => z
end Mz
open PySem PySem.W PyProof.Rows
theorem PySem.W.Fast.tw13797168452208225364 : True := trivial
theorem PySem.W.Fast.tw8277521431185302630 : True := trivial
theorem PySem.W.Fast.tw3948542291484086747 : True := trivial
theorem PySem.W.Fast.tw12292775372187884738 : True := trivial
theorem PySem.W.Fast.tw10007066781630227802 : True := trivial
theorem PySem.W.Fast.tw2255843374190558168 : True := trivial
theorem PySem.W.Fast.tw3884804926849330691 : True := trivial
theorem PySem.W.Fast.tw8583878356293767021 : True := trivial
theorem PySem.W.Fast.tw11132971189125241587 : True := trivial
theorem PySem.W.Fast.tw2104339667996294543 : True := trivial
theorem PySem.W.Fast.tw7489480567005006220 : True := trivial
theorem PySem.W.Fast.tw3791301438967870807 : True := trivial
theorem PySem.W.Fast.tw9621899397458637139 : True := trivial
theorem PySem.W.Fast.tw6486283443475432655 : True := trivial
theorem PySem.W.Fast.tw7329125935604287853 : True := trivial
theorem PySem.W.Fast.tw15493752485500674168 : True := trivial
theorem PySem.W.Fast.tw2597706758072339415 : True := trivial
theorem PySem.W.Fast.tw9449209533856787838 : True := trivial
theorem PySem.W.Fast.tw8296052372243502796 : True := trivial
theorem PySem.W.Fast.tw7259933720327270168 : True := trivial
theorem PySem.W.Fast.tw15835523436868232576 : True := trivial
set_option maxRecDepth 100000 in
set_option maxHeartbeats 0 in
theorem PySem.Challenge.cw_twoforone_k64_whole_needs_hang_together_holds : PySem.Challenge.rw_twoforone_k64_whole_needs_hang_together.Holds := by
  w_on; o_law; k_head; (case hw => w_witness2)
  k_fill
  refine Mz.walk (l := PySem.Challenge.rw_twoforone_k64_whole_needs_hang_together) rfl rfl (fun w h Y => PySem.W.kIn_of Y) ?F
  case F =>
    intro w mg fa h KX G hmg
    refine' Mz.all_mk KX G hmg ?a0 ?l0 ?c0 ?k0 ?a1 ?l1 ?c1 ?k1 ?a2 ?l2 ?c2 ?k2 ?a3 ?l3 ?c3 ?k3 ?a4 ?l4 ?c4 ?k4 ?a5 ?l5 ?c5 ?k5 ?a6 ?l6 ?c6 ?k6 ?a7 ?l7 ?c7 ?k7 ?a8 ?l8 ?c8 ?k8 ?a9 ?l9 ?c9 ?k9 ?a10 ?l10 ?c10 ?k10 ?a11 ?l11 ?c11 ?k11 ?a12 ?l12 ?c12 ?k12 ?a13 ?l13 ?c13 ?k13 ?a14 ?l14 ?c14 ?k14 ?a15 ?l15 ?c15 ?k15 ?a16 ?l16 ?c16 ?k16 ?a17 ?l17 ?c17 ?k17 ?a18 ?l18 ?c18 ?k18 ?a19 ?l19 ?c19 ?k19 ?a20 ?l20 ?c20 ?k20 ?a21 ?l21 ?c21 ?k21 ?a22 ?l22 ?c22 ?k22 ?a23 ?l23 ?c23 ?k23 ?a24 ?l24 ?c24 ?k24 ?a25 ?l25 ?c25 ?k25 ?a26 ?l26 ?c26 ?k26 ?a27 ?l27 ?c27 ?k27 ?a28 ?l28 ?c28 ?k28 ?a29 ?l29 ?c29 ?k29 ?a30 ?l30 ?c30 ?k30 ?a31 ?l31 ?c31 ?k31 ?a32 ?l32 ?c32 ?k32 ?a33 ?l33 ?c33 ?k33 ?a34 ?l34 ?c34 ?k34 ?a35 ?l35 ?c35 ?k35 ?gg0 ?gg1 ?gg2 ?gg3 ?z0 ?z1 ?z2 ?z3 ?z4 ?z5 ?z6 ?z7 ?z8 ?z9 ?z10 ?z11
    (case a0 => k_is)
    (case l0 => k_is)
    (case c0 => k_is)
    (case k0 => k_is)
    (case a1 => k_is)
    (case l1 => k_is)
    (case c1 => k_is)
    (case k1 => k_is)
    (case a2 => k_is)
    (case l2 => k_is)
    (case c2 => k_is)
    (case k2 => k_is)
    (case a3 => k_is)
    (case l3 => k_is)
    (case c3 => k_is)
    (case k3 => k_is)
    (case a4 => k_is)
    (case l4 => k_is)
    (case c4 => k_is)
    (case k4 => k_is)
    (case a5 => k_is)
    (case l5 => k_is)
    (case c5 => k_is)
    (case k5 => k_is)
    (case a6 => k_is)
    (case l6 => k_is)
    (case c6 => k_is)
    (case k6 => k_is)
    (case a7 => k_is)
    (case l7 => k_is)
    (case c7 => k_is)
    (case k7 => k_is)
    (case a8 => k_is)
    (case l8 => k_is)
    (case c8 => k_is)
    (case k8 => k_is)
    (case a9 => k_is)
    (case l9 => k_is)
    (case c9 => k_is)
    (case k9 => k_is)
    (case a10 => k_is)
    (case l10 => k_is)
    (case c10 => k_is)
    (case k10 => k_is)
    (case a11 => k_is)
    (case l11 => k_is)
    (case c11 => k_is)
    (case k11 => k_is)
    (case a12 => k_is)
    (case l12 => k_is)
    (case c12 => k_is)
    (case k12 => k_is)
    (case a13 => k_is)
    (case l13 => k_is)
    (case c13 => k_is)
    (case k13 => k_is)
    (case a14 => k_is)
    (case l14 => k_is)
    (case c14 => k_is)
    (case k14 => k_is)
    (case a15 => k_is)
    (case l15 => k_is)
    (case c15 => k_is)
    (case k15 => k_is)
    (case a16 => k_is)
    (case l16 => k_is)
    (case c16 => k_is)
    (case k16 => k_is)
    (case a17 => k_is)
    (case l17 => k_is)
    (case c17 => k_is)
    (case k17 => k_is)
    (case a18 => k_is)
    (case l18 => k_is)
    (case c18 => k_is)
    (case k18 => k_is)
    (case a19 => k_is)
    (case l19 => k_is)
    (case c19 => k_is)
    (case k19 => k_is)
    (case a20 => k_is)
    (case l20 => k_is)
    (case c20 => k_is)
    (case k20 => k_is)
    (case a21 => k_is)
    (case l21 => k_is)
    (case c21 => k_is)
    (case k21 => k_is)
    (case a22 => k_is)
    (case l22 => k_is)
    (case c22 => k_is)
    (case k22 => k_is)
    (case a23 => k_is)
    (case l23 => k_is)
    (case c23 => k_is)
    (case k23 => k_is)
    (case a24 => k_is)
    (case l24 => k_is)
    (case c24 => k_is)
    (case k24 => k_is)
    (case a25 => k_is)
    (case l25 => k_is)
    (case c25 => k_is)
    (case k25 => k_is)
    (case a26 => k_is)
    (case l26 => k_is)
    (case c26 => k_is)
    (case k26 => k_is)
    (case a27 => k_is)
    (case l27 => k_is)
    (case c27 => k_is)
    (case k27 => k_is)
    (case a28 => k_is)
    (case l28 => k_is)
    (case c28 => k_is)
    (case k28 => k_is)
    (case a29 => k_is)
    (case l29 => k_is)
    (case c29 => k_is)
    (case k29 => k_is)
    (case a30 => k_is)
    (case l30 => k_is)
    (case c30 => k_is)
    (case k30 => k_is)
    (case a31 => k_is)
    (case l31 => k_is)
    (case c31 => k_is)
    (case k31 => k_is)
    (case a32 => k_is)
    (case l32 => k_is)
    (case c32 => k_is)
    (case k32 => k_is)
    (case a33 => k_is)
    (case l33 => k_is)
    (case c33 => k_is)
    (case k33 => k_is)
    (case a34 => k_is)
    (case l34 => k_is)
    (case c34 => k_is)
    (case k34 => k_is)
    (case a35 => k_is)
    (case l35 => k_is)
    (case c35 => k_is)
    (case k35 => k_is)
    (case gg0 => k_is)
    (case gg1 => k_is)
    (case gg2 => k_is)
    (case gg3 => k_is)
    (case z0 => k_is)
    (case z1 => k_is)
    (case z2 => k_is)
    (case z3 => k_is)
    (case z4 => k_is)
    (case z5 => k_is)
    (case z6 => k_is)
    (case z7 => k_is)
    (case z8 => k_is)
    (case z9 => k_is)
    (case z10 => k_is)
    (case z11 => k_is)
