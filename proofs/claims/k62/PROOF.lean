import PyProof.Rows.All
import Wide.All
import OpenK.AllK
import Wide.FinOn
import Lean
import PyProof.EqAt
import PyProof.EqKinds
import PyProof.TupleCall
import PyProof.NeKinds
import PySem.Challenge.RW_twoforone_k62_needs_that_are_known
set_option Elab.async false
set_option linter.all false
set_option maxRecDepth 100000
set_option maxHeartbeats 4000000
namespace L2
open PySem PySem.Spec PyProof.Rows
noncomputable abbrev Key := Sum Int Str
noncomputable def znQ : Key → Value → Bool
  | .inl k, v => Value.isInt k v
  | .inr x, v => Value.isStrOf x v
noncomputable def keyH (w : World) : Key → Int
  | .inl k => hashInt k
  | .inr x => hashStr w x
theorem yo : ∀ {k : Key} {v : Value}, znQ k v = true → (∃ i t, k = Sum.inl i ∧ v = Value.int i t) ∨ (∃ x t, k = Sum.inr x ∧ v = Value.str x t)
  | .inl i, v, h => by
    obtain ⟨t, e⟩ := Value.isInt_shape (k := i) (v := v) h
    exact .inl ⟨i, t, rfl, e⟩
  | .inr x, v, h => by
    obtain ⟨t, e⟩ := Value.isStrOf_shape (x := x) (v := v) h
    exact .inr ⟨x, t, rfl, e⟩
theorem zoo (i : Int) (t : Tok) : znQ (.inl i) (.int i t) = true := by simp [znQ, Value.isInt]
theorem zoD (x : Str) (t : Tok) : znQ (.inr x) (.str x t) = true := by simp [znQ, Value.isStrOf]
theorem zsK (a b : Int) : decide ((Sum.inl a : Key) = Sum.inl b) = (a == b) := by
  by_cases e : a = b
  · subst e; simp
  · have h : ¬ (Sum.inl a : Key) = Sum.inl b := fun q => e (Sum.inl.inj q)
    rw [decide_eq_false h]
    exact (beq_eq_false_iff_ne.mpr e).symm
theorem zt2 (a b : Str) : decide ((Sum.inr a : Key) = Sum.inr b) = decide (a = b) := by
  by_cases e : a = b
  · subst e; simp
  · have h : ¬ (Sum.inr a : Key) = Sum.inr b := fun q => e (Sum.inr.inj q)
    rw [decide_eq_false h, decide_eq_false e]
theorem zsT (a : Int) (b : Str) : decide ((Sum.inl a : Key) = Sum.inr b) = false := decide_eq_false (fun q => nomatch q)
theorem ztE (a : Str) (b : Int) : decide ((Sum.inr a : Key) = Sum.inl b) = false := decide_eq_false (fun q => nomatch q)
noncomputable def yS (prog : Program) (w : World) : PySem.KeyKind prog w Key where
  is := znQ
  hash := keyH w
  inj := fun v a b ha hb => by
    rcases yo ha with ⟨i, t, rfl, rfl⟩ | ⟨x, t, rfl, rfl⟩
    · rcases yo hb with ⟨j, u, rfl, e⟩ | ⟨y, u, rfl, e⟩
      · injection e with e1 _; rw [e1]
      · exact nomatch e
    · rcases yo hb with ⟨j, u, rfl, e⟩ | ⟨y, u, rfl, e⟩
      · exact nomatch e
      · injection e with e1 _; rw [e1]
  byValue := fun k v h => by
    rcases yo h with ⟨i, t, rfl, rfl⟩ | ⟨x, t, rfl, rfl⟩ <;> rfl
  pyHash := fun hv h => by
    rcases yo hv with ⟨i, t, rfl, rfl⟩ | ⟨x, t, rfl, rfl⟩
    · exact wpAny_pyHash_int h
    · exact wpAny_pyHash_str h
  eqBool := fun hu hv h => by
    rcases yo hu with ⟨i, t, rfl, rfl⟩ | ⟨x, t, rfl, rfl⟩
    · rcases yo hv with ⟨j, u, rfl, rfl⟩ | ⟨y, u, rfl, rfl⟩
      · rw [zsK] at h; exact wpAny_eqBool_int h
      · rw [zsT] at h; exact SeqAt.EqAt.int_str i t y u _ _ _ _ h
    · rcases yo hv with ⟨j, u, rfl, rfl⟩ | ⟨y, u, rfl, rfl⟩
      · rw [ztE] at h; exact SeqAt.EqAt.str_int x t j u _ _ _ _ h
      · rw [zt2] at h; exact wpAny_eqBool_str h
  «strs» := fun k x t v h => by
    rcases yo h with ⟨i, u, rfl, e⟩ | ⟨y, u, rfl, e⟩
    · exact nomatch e
    · injection e with e1 _
      subst e1
      cases v <;> rfl
theorem zl6 (prog : Program) (w : World) (i : Int) (t : Tok) : (yS prog w).is (.inl i) (.int i t) = true := zoo i t
theorem zmb (prog : Program) (w : World) (x : Str) (t : Tok) : (yS prog w).is (.inr x) (.str x t) = true := zoD x t
end L2
namespace L2
open PySem PySem.Spec PyProof.Rows
inductive V where
  | non | bl (b : Bool) | int (i : Int) | str (x : Str) | byt (b : Array UInt8) | flt (b : UInt64) | ref (a : Addr) | ty (n : String)
  deriving DecidableEq
noncomputable def yY : V → Value → Prop
  | .non, u => u = Value.none
  | .bl b, u => u = Value.bool b
  | .int i, u => ∃ t, u = Value.int i t
  | .str x, u => ∃ t, u = Value.str x t
  | .byt b, u => ∃ t, u = Value.bytes b t
  | .flt b, u => ∃ t, u = Value.float b t
  | .ref a, u => u = Value.ref a
  | .ty n, u => u = Value.type n
noncomputable abbrev yG : List V → List Value → Prop := Paired yY
theorem yG.length {xs : List V} {us : List Value} (r : yG xs us) : xs.length = us.length := Paired.length r
theorem yG.get : ∀ {xs : List V} {us : List Value} {i : Nat} {x : V}, yG xs us → xs[i]? = some x → ∃ u, us[i]? = some u ∧ yY x u
  | _, _, _, _, .nil, e => by simp at e
  | _, _, 0, _, .cons r _, e => by simp at e; subst e; exact ⟨_, rfl, r⟩
  | _, _, i + 1, x, .cons _ t, e => by
    obtain ⟨u, h1, h2⟩ := yG.get (i := i) (x := x) t (by simpa using e)
    exact ⟨u, by simpa using h1, h2⟩
theorem yG.set {x : V} {u : Value} (r : yY x u) : ∀ {xs : List V} {us : List Value} (i : Nat), yG xs us → yG (xs.set i x) (us.set i u)
  | _, _, _, .nil => .nil
  | _, _, 0, .cons _ t => .cons r t
  | _, _, i + 1, .cons q t => .cons q (yG.set r i t)
theorem yG.append : ∀ {xs ys : List V} {us ws : List Value}, yG xs us → yG ys ws → yG (xs ++ ys) (us ++ ws) := by
  intro xs ys us ws h s
  induction h with
  | nil => exact s
  | cons r t ih => exact .cons r ih
theorem yG.take : ∀ {xs : List V} {us : List Value} (n : Nat), yG xs us → yG (xs.take n) (us.take n)
  | _, _, 0, _ => .nil
  | _, _, _ + 1, .nil => .nil
  | _, _, n + 1, .cons r t => .cons r (yG.take n t)
theorem yG.drop : ∀ {xs : List V} {us : List Value} (n : Nat), yG xs us → yG (xs.drop n) (us.drop n)
  | _, _, 0, r => r
  | _, _, _ + 1, .nil => .nil
  | _, _, n + 1, .cons _ t => yG.drop n t
noncomputable def zrE : Option V → Option Value → Prop
  | some v, some u => yY v u
  | none, none => True
  | _, _ => False
noncomputable def KV {κ : Type} : List (κ × V) → List (κ × Value) → Prop := Paired fun (p : κ × V) (q : κ × Value) => p.1 = q.1 ∧ yY p.2 q.2
noncomputable def kV : Key → V
  | .inl i => .int i
  | .inr x => .str x
inductive HO where
    | lst (xs : List V)
    | tup (xs : List V)
    | dK (kvs : List (Key × V)) | dT (kvs : List (List Key × V))
    | set (S : Int → Bool) (n : Nat)
    | ins (C dx : Addr) (fs : List (Str × V))
    | own (x : Addr)
    | xd (fs : List (Str × V))
    | met (f x : Addr)
    | rng (lo hi : Int)
    | frz (o : Obj) (u : HO)
    | tbl (ps : Array Value)
    | ext (φ : Heap → Prop)
noncomputable abbrev Hp := Addr → Option HO
noncomputable def upd (H : Hp) (a : Addr) (o : HO) : Hp := fun b => if b = a then some o else H b
theorem zy {H : Hp} {a : Addr} {o : HO} : upd H a o a = some o := by unfold upd; rw [if_pos rfl]
theorem zA {H : Hp} {a b : Addr} {o : HO} (h : b ≠ a) : upd H a o b = H b := by unfold upd; rw [if_neg h]
theorem zmL {H : Hp} {a : Addr} {o u : HO} : upd (upd H a o) a u = upd H a u := by
  funext b; unfold upd; split <;> rfl
theorem zsf {H : Hp} {a b : Addr} {o u : HO} (h : H a = some o) (h' : H b = some u) (d : o ≠ u) : a ≠ b := by
  intro e; subst e; rw [h] at h'; exact d (Option.some.inj h')
theorem zx {H : Hp} {a b : Addr} {o : HO} (h : H a = some o) (h' : H b = none) : a ≠ b := by
  intro e; subst e; rw [h] at h'; cases h'
section
variable (P : Program) (w : World)
noncomputable def yV (H : Hp) (h : Heap) (a : Addr) : HO → Prop
  | .lst xs => xs.length ≤ sizeLine ∧ ∃ (its : List Value) (n : Nat), yG xs its ∧ h.get? a = some { cls := .type "list", data := .seq its.toArray n }
  | .tup xs => xs.length ≤ sizeLine ∧ ∃ its : List Value, yG xs its ∧ IsTup h a its.toArray
  | .dK kvs => kvs.length ≤ sizeLine ∧ (a == sysModules) = false ∧ ∃ vs, KV kvs vs ∧ h.DictOf (yS P w) a vs
  | .dT kvs => kvs.length ≤ sizeLine ∧ (a == sysModules) = false ∧ ∃ xs : List (List Key × Addr × Value),
      Paired (fun (p : List Key × V) (q : List Key × Addr × Value) => p.1 = q.1 ∧ H q.2.1 = some (.tup (p.1.map kV)) ∧ yY p.2 q.2.2) kvs xs ∧
      ∃ o es ep, h.get? a = some o ∧ o.ExactDict ∧ o.data = .dict es ep ∧ es.toList = xs.map (entryOfKey (tupleKind (yS P w))) ∧ (xs.map (·.1)).Nodup
  | .set S n => h.SetOf (intKind P w) a S n
  | .ins C dx fs => H dx = some (.own a) ∧ fs.length ≤ 1000 ∧ dx ≠ a ∧ h.get? a = some (PySem.W.instObj C dx) ∧
      ∃ mA, h.Ns1 dx mA ∧ (∀ f, zrE (fs.lookup f) (mA f)) ∧ PySem.Within mA (fs.map (·.1))
  | .own _ => ∃ o, h.get? a = some o
  | .xd fs => ∃ mA, h.Ns1 a mA ∧ ∀ f, zrE (fs.lookup f) (mA f)
  | .rng lo hi => ∃ t u v, h.get? a = some { cls := .type "range", data := .fields #[.int lo t, .int hi u, .int 1 v] }
  | .frz o u => h.get? a = some o ∧ yV H h a u
  | .tbl ps => h.get? a = some { cls := .none, data := .fields ps }
  | .met f x => h.get? a = some (PySem.W.methodObj (.ref f) (.ref x))
  | .ext φ => φ h ∧ (∃ o, h.get? a = some o) ∧ ∀ h1 h2 : Heap, φ h1 → (∀ o, h1.get? a = some o → h2.get? a = some o) → φ h2
noncomputable def HOk (H : Hp) (h : Heap) : Prop := ∀ a o, H a = some o → yV P w H h a o
end
section
variable {P : Program} {w : World} {H H' : Hp} {h h' : Heap} {a : Addr} {o : HO}
theorem yV.lt (x : yV P w H h a o) : a < h.objs.size := by
  cases o with
  | lst xs => obtain ⟨_, _, _, _, e⟩ := x; exact Heap.lt_size e
  | tup xs => obtain ⟨_, _, _, p⟩ := x; exact p.lt
  | dK kvs => obtain ⟨_, _, _, _, o, _, _, e, _⟩ := x; exact Heap.lt_size e
  | dT kvs => obtain ⟨_, _, _, _, o, _, _, e, _⟩ := x; exact Heap.lt_size e
  | set S n => obtain ⟨o, _, _, _, e, _⟩ := x; exact Heap.lt_size e
  | ins C dx fs => obtain ⟨_, _, _, e, _⟩ := x; exact Heap.lt_size e
  | own y => obtain ⟨_, e⟩ := x; exact Heap.lt_size e
  | xd fs => obtain ⟨_, ⟨_, _, _, e, _⟩, _⟩ := x; exact Heap.lt_size e
  | rng lo hi => obtain ⟨_, _, _, e⟩ := x; exact Heap.lt_size e
  | frz ob u => obtain ⟨e, _⟩ := x; exact Heap.lt_size e
  | tbl ps => exact Heap.lt_size (show h.get? a = some _ from x)
  | met f y => exact Heap.lt_size (show h.get? a = some _ from x)
  | ext φ => obtain ⟨_, ⟨_, e⟩, _⟩ := x; exact Heap.lt_size e
theorem Paired.mapP {α β : Type} {F G : α → β → Prop} : ∀ {l₁ : List α} {l₂ : List β}, Paired F l₁ l₂ → (∀ a b, F a b → G a b) → Paired G l₁ l₂ := by
  intro l1 l2 h f
  induction h with
  | nil => exact .nil
  | cons r t ih => exact .cons (f _ _ r) ih
theorem yV.stay (x : yV P w H h a o) (k : ∀ b u, (b = a ∨ H b = some (.own a)) → h.get? b = some u → h'.get? b = some u)
    (ho : ∀ b, H b = some (.own a) → H' b = some (.own a)) (ht : ∀ b xs, H b = some (.tup xs) → H' b = some (.tup xs)) : yV P w H' h' a o := by
  induction o with
  | lst xs => obtain ⟨z, its, n, r, e⟩ := x; exact ⟨z, its, n, r, k _ _ (.inl rfl) e⟩
  | tup xs => obtain ⟨z, its, r, ob, e, c⟩ := x; exact ⟨z, its, r, ob, k _ _ (.inl rfl) e, c⟩
  | dK kvs => obtain ⟨z, y, vs, r, ob, es, ep, e, c⟩ := x; exact ⟨z, y, vs, r, ob, es, ep, k _ _ (.inl rfl) e, c⟩
  | dT kvs =>
    obtain ⟨z, y, xs, r, ob, es, ep, e, c⟩ := x
    exact ⟨z, y, xs, Paired.mapP r fun p q z => ⟨z.1, ht _ _ z.2.1, z.2.2⟩, ob, es, ep, k _ _ (.inl rfl) e, c⟩
  | set S n => obtain ⟨ob, es, ep, t, e, c⟩ := x; exact ⟨ob, es, ep, t, k _ _ (.inl rfl) e, c⟩
  | ins C dx fs =>
    obtain ⟨d, z, ne, e, mA, ⟨od, es, ep, e2, c⟩, r⟩ := x
    exact ⟨ho _ d, z, ne, k _ _ (.inl rfl) e, mA, ⟨od, es, ep, k _ _ (.inr d) e2, c⟩, r⟩
  | own y => obtain ⟨ob, e⟩ := x; exact ⟨ob, k _ _ (.inl rfl) e⟩
  | xd fs => obtain ⟨mA, ⟨od, es, ep, e, c⟩, r⟩ := x; exact ⟨mA, ⟨od, es, ep, k _ _ (.inl rfl) e, c⟩, r⟩
  | rng lo hi => obtain ⟨t, u, v, e⟩ := x; exact ⟨t, u, v, k _ _ (.inl rfl) e⟩
  | frz ob u ih => obtain ⟨e, q⟩ := x; exact ⟨k _ _ (.inl rfl) e, ih q⟩
  | tbl ps =>
    have e : h.get? a = some { cls := .none, data := .fields ps } := x
    show h'.get? a = some { cls := .none, data := .fields ps }
    exact k a _ (.inl rfl) e
  | met f y =>
    have e : h.get? a = some (PySem.W.methodObj (.ref f) (.ref y)) := x
    show h'.get? a = some (PySem.W.methodObj (.ref f) (.ref y))
    exact k a _ (.inl rfl) e
  | ext φ => obtain ⟨p, ⟨o, e⟩, st⟩ := x; exact ⟨st _ _ p fun o q => k _ _ (.inl rfl) q, ⟨o, k _ _ (.inl rfl) e⟩, st⟩
theorem HOk.lt (x : HOk P w H h) (e : H a = some o) : a < h.objs.size := (x a o e).lt
theorem HOk.fresh (x : HOk P w H h) (e : h.objs.size ≤ a) : H a = none := by
  cases q : H a with
  | none => rfl
  | some u => exact absurd (Nat.lt_of_lt_of_le (x.lt q) e) (Nat.lt_irrefl _)
theorem HOk.kept (x : HOk P w H h) (k : ∀ b u, h.get? b = some u → h'.get? b = some u) : HOk P w H h' := fun a o e =>
  (x a o e).stay (fun b u _ q => k b u q) (fun _ q => q) fun _ _ q => q
theorem HOk.laid (x : HOk P w H h) (k : ∀ b u, h.get? b = some u → h'.get? b = some u) (hp : h.objs.size ≤ a) (new : yV P w (upd H a o) h' a o) : HOk P w (upd H a o) h' := fun b u e => by
  have hn := x.fresh hp
  by_cases hb : b = a
  · subst hb; rw [zy] at e; cases e; exact new
  · rw [zA hb] at e
    exact (x b u e).stay (fun c v _ q => k c v q) (fun c q => by rw [zA (zx q hn)]; exact q) fun c xs q => by rw [zA (zx q hn)]; exact q
end
noncomputable def Rd (H : Hp) (a : Addr) (u : HO) : Prop := H a = some u ∨ ∃ o, H a = some (.frz o u)
theorem Rd.ok {P : Program} {w : World} {H : Hp} {h : Heap} {a : Addr} {u : HO} (r : Rd H a u) (x : HOk P w H h) : yV P w H h a u := by
  rcases r with r | ⟨o, r⟩
  · exact x a u r
  · obtain ⟨_, q⟩ := x a _ r
    exact q
noncomputable def Mut : Option HO → Prop
  | some (.lst _) => True
  | some (.dK _) => True
  | some (.dT _) => True
  | some (.set _ _) => True
  | some (.ins _ _ _) => True
  | some (.ext _) => True
  | _ => False
section
variable {P : Program} {w : World} {H : Hp} {h h' : Heap} {x e : Addr} {o' : HO}
theorem HOk.write (ok : HOk P w H h) (mu : Mut (H x)) (he : e = x ∨ H e = some (.own x)) (k : ∀ b u, b ≠ e → h.get? b = some u → h'.get? b = some u) (heo : ∃ u, h'.get? e = some u)
    (new : yV P w (upd H x o') h' x o') : HOk P w (upd H x o') h' := fun b u q => by
  have nown : ∀ c y, H c = some (.own y) → c ≠ x := fun c y r z => by subst z; rw [r] at mu; exact mu
  have ntup : ∀ c xs, H c = some (.tup xs) → c ≠ x := fun c xs r z => by subst z; rw [r] at mu; exact mu
  by_cases hb : b = x
  · subst hb; rw [zy] at q; cases q; exact new
  · rw [zA hb] at q
    by_cases hbe : b = e
    · have q' : H b = some (.own x) := by
        rcases he with z | z
        · exact absurd (hbe.trans z) hb
        · rw [hbe]; exact z
      rw [q] at q'; cases q'
      obtain ⟨v, hv⟩ := heo
      exact ⟨v, by rw [hbe]; exact hv⟩
    · refine (ok b u q).stay (fun c v hc r => k c v ?_ r) (fun c r => by rw [zA (nown c b r)]; exact r) fun c xs r => by rw [zA (ntup c xs r)]; exact r
      rcases hc with rfl | hc
      · exact hbe
      · rintro rfl
        rcases he with z | z
        · exact nown c b hc z
        · rw [hc] at z; cases z; exact hb rfl
end
set_option genInjectivity false in
set_option genSizeOf false in
set_option genCtorIdx false in
structure Un (fs ex : List Addr) (H H' : Hp) (h h' : Heap) : Prop where
  keep : ∀ b o, h.get? b = some o → H b = none → b ∉ fs → b ∉ ex → h'.get? b = some o
  slot : ∀ b o, h.get? b = some o → H b = none → b ∈ fs → b ∉ ex → ∃ sl, h'.get? b = some { o with slots := sl }
  free : ∀ b o, h.get? b = some o → H b = none → b ∉ ex → H' b = none
  there : ∀ b o, h.get? b = some o → b ∉ ex → ∃ o', h'.get? b = some o'
  tups : ∀ b xs, H b = some (.tup xs) → H' b = some (.tup xs)
  frzs : ∀ b o u, H b = some (.frz o u) → H' b = some (.frz o u)
  tbls : ∀ b ps, H b = some (.tbl ps) → ∃ more, H' b = some (.tbl (ps ++ more))
section
variable {fs fs' ex ex' : List Addr} {H H1 H2 : Hp} {h h1 h2 h' : Heap} {a x e : Addr} {o : HO}
theorem Un.any (u : Un fs ex H H1 h h1) {b : Addr} {ob : Obj} (q : h.get? b = some ob) (n : H b = none) (hx : b ∉ ex) : ∃ sl, h1.get? b = some { ob with slots := sl } := by
  by_cases hb : b ∈ fs
  · exact u.slot b ob q n hb hx
  · exact ⟨ob.slots, u.keep b ob q n hb hx⟩
theorem Un.kept (k : ∀ b u, h.get? b = some u → h'.get? b = some u) : Un fs ex H H h h' :=
  ⟨fun b ob q _ _ _ => k b ob q, fun b ob q _ _ _ => ⟨ob.slots, k b ob q⟩, fun _ _ _ n _ => n, fun b ob q _ => ⟨ob, k b ob q⟩, fun _ _ q => q, fun _ _ _ q => q, fun _ ps q => ⟨#[], by rw [q]; simp⟩⟩
theorem Un.refl : Un fs ex H H h h := Un.kept fun _ _ q => q
theorem Un.laid (k : ∀ b u, h.get? b = some u → h'.get? b = some u) (hp : h.objs.size ≤ a) (hn : H a = none) : Un fs ex H (upd H a o) h h' where
  keep := fun b u q _ _ _ => k b u q
  slot := fun b u q _ _ _ => ⟨u.slots, k b u q⟩
  free := fun b u q n _ => by rw [zA (Nat.ne_of_lt (Nat.lt_of_lt_of_le (Heap.lt_size q) hp))]; exact n
  there := fun b u q _ => ⟨u, k b u q⟩
  tups := fun b xs q => by rw [zA (zx q hn)]; exact q
  frzs := fun b u xs q => by rw [zA (zx q hn)]; exact q
  tbls := fun b ps q => ⟨#[], by rw [zA (zx q hn), q]; simp⟩
theorem Un.write (mu : Mut (H x)) (he : e = x ∨ H e = some (.own x)) (k : ∀ b u, b ≠ e → h.get? b = some u → h'.get? b = some u) (heo : ∃ u, h'.get? e = some u) : Un fs ex H (upd H x o) h h' := by
  have hx : ∀ b, H b = none → b ≠ x := fun b n z => by subst z; rw [n] at mu; exact mu
  have hb : ∀ b, H b = none → b ≠ e := fun b n z => by
    subst z
    rcases he with r | r
    · exact hx b n r
    · rw [n] at r; cases r
  have hm : ∀ b u, H b = some u → ¬ Mut (some u) → b ≠ x := fun b u q nm z => by subst z; rw [q] at mu; exact nm mu
  refine ⟨fun b u q n _ _ => k b u (hb b n) q, fun b u q n _ _ => ⟨u.slots, k b u (hb b n) q⟩, fun b u q n _ => by rw [zA (hx b n)]; exact n, fun b u q _ => ?_,
    fun b xs q => by rw [zA (hm b _ q fun z => z)]; exact q, fun b u xs q => by rw [zA (hm b _ q fun z => z)]; exact q, fun b ps q => ⟨#[], by rw [zA (hm b _ q fun z => z), q]; simp⟩⟩
  by_cases hbe : b = e
  · subst hbe; exact heo
  · exact ⟨u, k b u hbe q⟩
end
noncomputable def trk (h : Heap) (H : Hp) : List Addr := (List.range h.objs.size).filter fun a => (H a).isSome
noncomputable def zqa (h : Heap) (H : Hp) : Heap := PySem.W.hideAll h (trk h H)
theorem zoU (h : Heap) (H : Hp) : (zqa h H).objs.size = h.objs.size := PySem.W.hideAll_size _ _
theorem zpY {h : Heap} {H : Hp} {b : Addr} {o : Obj} (e : h.get? b = some o) (n : H b = none) : (zqa h H).get? b = some o :=
  PySem.W.hideAll_get _ e fun hm => by
    have q : (H b).isSome = true := (List.mem_filter.mp hm).2
    rw [n] at q; simp at q
theorem zrP {h : Heap} {H : Hp} {b : Addr} {o : Obj} (e : (zqa h H).get? b = some o) : h.get? b = some o ∧ H b = none := by
  have e' : h.get? b = some o := PySem.W.of_hideAll (trk h H) e
  refine ⟨e', ?_⟩
  cases q : H b with
  | none => rfl
  | some x =>
    have hm : b ∈ trk h H := List.mem_filter.mpr ⟨List.mem_range.mpr (Heap.lt_size e'), by simp [q]⟩
    have z : (zqa h H).get? b = none := PySem.W.hideAll_none (trk h H) hm
    rw [z] at e; cases e
noncomputable def zro (g h : Heap) (L : Addr) : List (Addr × Obj) := (List.range h.objs.size).filterMap fun a => if a = L ∨ (g.get? a).isSome = true then none else (h.get? a).map fun o => (a, o)
noncomputable def rest (g h : Heap) (L d : Addr) : List (Addr × Obj) := (zro g h L).filter fun p => decide (p.1 ≠ d)
end L2
namespace L2
open PySem PySem.Spec PyProof.Rows
structure Mod (K : PySem.W.Frag) (mg : Str → Option Value) (base : Heap) : Prop where
  kin : K.In base
  glob : base.Ns mainGlobals mg
  blt : ∃ mb, base.Ns builtinsNs mb ∧ ∀ x : Str, x ≠ "__name__" → mb x = bootBuiltins x
  nolimit : base.NoLimit
structure Cx where
  prog : Program
  w : World
  K : PySem.W.Frag
  mg : Str → Option Value
  base : Heap
  A : Around
  N : List Str
  s₀ : Shared
  H₀ : Hp
  env : Env
  outer : List Env
  stack : List Env
  ex : List Addr
  fn : Str → Bool
  calm : Bool
  pn : List (Addr × Obj)
  xe : Value → Shared → Prop
noncomputable def frs (l : List Env) : List Addr := l.filterMap (·.frame)
noncomputable abbrev Cx.fs (X : Cx) : List Addr := frs X.outer
noncomputable def Vis (sc : Scope) (x : Str) : Prop := sc.names.lookup x = some .local ∨ sc.names.lookup x = some .cell ∨ sc.names.lookup x = some .free
noncomputable def Loc (sc : Scope) (x : Str) : Prop := sc.names.lookup x = some .local ∨ sc.names.lookup x = some .cell
noncomputable def Look (env : Env) (h : Heap) (m : Str → Option Value) (x : Str) (u : Value) : Prop :=
  (env.kindOf x = some .local ∧ m x = some u) ∨ ((env.kindOf x = some .cell ∨ env.kindOf x = some .free) ∧ ∃ c, env.cells.lookup x = some c ∧ h.IsCell c (some u))
set_option genInjectivity false in
set_option genSizeOf false in
set_option genCtorIdx false in
structure Cx.Ok (X : Cx) : Prop where
  mod : Mod X.K X.mg X.base
  kind : X.env.scope.kind = .function
  glob : X.env.globals = mainGlobals
  blt : X.env.builtins = builtinsNs
  above : X.s₀.heap.objs.size ≤ X.env.locals
  inj : ∀ x y c, X.env.cells.lookup x = some c → X.env.cells.lookup y = some c → x = y
  has : ∀ x, (X.env.kindOf x = some .cell ∨ X.env.kindOf x = some .free) → ∃ c, X.env.cells.lookup x = some c
  cab : ∀ x c, X.fn x = true → X.env.cells.lookup x = some c → X.s₀.heap.objs.size ≤ c
  hd : X.calm = true → X.A.handled = none
  frames : X.A.frames = some X.stack
  stk : X.stack = X.outer ∨ (X.stack = X.env :: X.outer ∧ X.env.frame = some X.env.locals)
  exf : ∀ b ∈ X.ex, b ≠ X.env.locals ∧ ∀ x c, X.env.cells.lookup x = some c → c ≠ b
  bs : ∀ b o, X.base.get? b = some o → X.s₀.heap.get? b = some o ∧ X.H₀ b = none
  bsz : X.base.objs.size ≤ X.s₀.heap.objs.size
  noex : ∀ b o, X.base.get? b = some o → b ∉ X.ex
  exfs : ∀ b ∈ X.ex, b ∉ X.fs
  funs : X.s₀.heap.FunFrames X.base X.outer
  frf : ∀ b ∈ X.fs, X.H₀ b = none
set_option genInjectivity false in
set_option genSizeOf false in
set_option genCtorIdx false in
structure Inv (X : Cx) (pins : List (Addr × Obj)) (σ : List (Option V)) (H : Hp) (s : Shared) : Prop where
  ok : X.Ok
  os : s.os = X.s₀.os
  bare : AllBare s.gens
  base : Un X.fs X.ex X.H₀ H X.s₀.heap s.heap
  loc : ∃ m, s.heap.Ns X.env.locals m ∧ ∀ (i : Nat) (x : Str) (v : V), X.N[i]? = some x → σ[i]? = some (some v) → Vis X.env.scope x → ∃ u, yY v u ∧ Look X.env s.heap m x u
  cell : ∀ x c, X.env.cells.lookup x = some c → ∃ v, s.heap.IsCell c v
  free : H X.env.locals = none
  freeC : ∀ x c, X.env.cells.lookup x = some c → H c = none
  pin : ∀ p ∈ X.pn ++ pins, s.heap.get? p.1 = some p.2 ∧ H p.1 = none ∧ p.1 ≠ X.env.locals ∧ p.1 ∉ X.fs ∧ ∀ v, p.2.data ≠ .cell v
  hok : HOk X.prog X.w H s.heap
  len : σ.length = X.N.length
section
variable {X : Cx} {pins : List (Addr × Obj)} {σ : List (Option V)} {H H' : Hp} {s : Shared} {h' : Heap}
theorem Cx.Ok.nofr (ok : X.Ok) {b : Addr} {o : Obj} (e : X.base.get? b = some o) : b ∉ X.fs := fun hb => by
  have := (ok.funs.mem hb).1
  rw [e] at this; cases this
theorem Inv.bs (I : Inv X pins σ H s) : ∀ b o, X.base.get? b = some o → s.heap.get? b = some o ∧ H b = none := fun b o e =>
  ⟨I.base.keep b o (I.ok.bs b o e).1 (I.ok.bs b o e).2 (I.ok.nofr e) (I.ok.noex b o e), I.base.free b o (I.ok.bs b o e).1 (I.ok.bs b o e).2 (I.ok.noex b o e)⟩
theorem Inv.bk (I : Inv X pins σ H s) : ∀ b o, X.base.get? b = some o → s.heap.get? b = some o := fun b o e => (I.bs b o e).1
theorem Inv.mod (I : Inv X pins σ H s) : Mod X.K X.mg X.base := I.ok.mod
theorem Inv.kIn (I : Inv X pins σ H s) : X.K.In s.heap := I.ok.mod.kin.keeps I.bk
theorem Inv.fr (I : Inv X pins σ H s) : ∃ m, Fr X.base X.env.locals s.heap m :=
  let ⟨m, hn, _⟩ := I.loc
  ⟨m, hn, I.bk, Nat.le_trans I.ok.bsz I.ok.above⟩
theorem Inv.lt (I : Inv X pins σ H s) : X.env.locals < s.heap.objs.size := let ⟨_, hn, _⟩ := I.loc; hn.lt
theorem Inv.sz (I : Inv X pins σ H s) : X.s₀.heap.objs.size ≤ s.heap.objs.size := Nat.le_trans I.ok.above (Nat.le_of_lt I.lt)
theorem Inv.nofs (I : Inv X pins σ H s) {a : Addr} (h : s.heap.objs.size ≤ a) : a ∉ X.fs := fun hb => by
  obtain ⟨_, o, ho, _⟩ := I.ok.funs.mem hb
  exact absurd (Nat.lt_of_lt_of_le (Heap.lt_size ho) (Nat.le_trans I.sz h)) (Nat.lt_irrefl _)
theorem Inv.cne (I : Inv X pins σ H s) : ∀ x c, X.env.cells.lookup x = some c → c ≠ X.env.locals := fun x c e z => by
  obtain ⟨v, o, ho, hd⟩ := I.cell x c e
  obtain ⟨m, ⟨o', es, ep, ho', hd', _⟩, _⟩ := I.loc
  rw [z, ho'] at ho; cases ho; rw [hd'] at hd; cases hd
theorem Inv.funs (I : Inv X pins σ H s) : s.heap.FunFrames X.base X.outer := by
  have all : ∀ (l : List Env), (∀ b ∈ frs l, b ∈ X.fs) → X.s₀.heap.FunFrames X.base l → s.heap.FunFrames X.base l := by
    intro l
    induction l with
    | nil => intro _ _; trivial
    | cons env r ih =>
      intro hs hl
      obtain ⟨hk, ⟨L, o, hf, hn, ho, hd⟩, hr⟩ := hl
      have hL : L ∈ X.fs := hs L (by unfold frs; rw [List.filterMap_cons, hf]; exact List.mem_cons_self)
      obtain ⟨sl, e⟩ := I.base.slot L o ho (I.ok.frf L hL) hL fun z => I.ok.exfs L z hL
      exact ⟨hk, ⟨L, _, hf, hn, e, hd⟩, ih (fun b hb => hs b (by unfold frs; rw [List.filterMap_cons, hf]; exact List.mem_cons_of_mem _ hb)) hr⟩
  exact all X.outer (fun _ hb => hb) I.ok.funs
theorem Inv.stack (I : Inv X pins σ H s) : s.heap.FunFrames X.base X.stack := by
  rcases I.ok.stk with e | ⟨e, hf⟩
  · rw [e]; exact I.funs
  · rw [e]
    obtain ⟨m, hn, _⟩ := I.loc
    refine .cons (by rw [I.ok.kind]; decide) hf hn ?_ I.funs
    exact Heap.get?_none_of_le (Nat.le_trans I.ok.bsz I.ok.above)
theorem Inv.stkSub (I : Inv X pins σ H s) : ∀ b ∈ frs X.stack, b ∈ X.env.locals :: X.fs := fun b hb => by
  rcases I.ok.stk with e | ⟨e, hf⟩
  · rw [e] at hb; exact List.mem_cons_of_mem _ hb
  · rw [e] at hb
    unfold frs at hb
    rw [List.filterMap_cons, hf] at hb
    exact hb
theorem Inv.stkFree (I : Inv X pins σ H s) : ∀ b ∈ frs X.stack, H b = none := fun b hb => by
  rcases List.mem_cons.mp (I.stkSub b hb) with e | hb
  · rw [e]; exact I.free
  · obtain ⟨_, o, ho, _⟩ := I.ok.funs.mem hb
    exact I.base.free b o ho (I.ok.frf b hb) fun z => I.ok.exfs b z hb
theorem Inv.step {g' : Array GenState} {t' : Nat} {d' : Drawn} {ch : List Addr} (I : Inv X pins σ H s)
    (hch : ∀ b ∈ ch, (b ∈ X.ex ∨ X.s₀.heap.objs.size ≤ b) ∧ b ≠ X.env.locals ∧ (∀ x c, X.env.cells.lookup x = some c → c ≠ b) ∧ ∀ p ∈ X.pn ++ pins, p.1 ≠ b)
    (keep : ∀ b o, b ≠ X.env.locals → b ∉ X.fs → b ∉ ch → s.heap.get? b = some o → H b = none → h'.get? b = some o)
    (slot : ∀ b o, b ≠ X.env.locals → b ∈ X.fs → b ∉ ch → s.heap.get? b = some o → H b = none → ∃ sl, h'.get? b = some { o with slots := sl }) (free : ∀ b o, b ∉ ch → s.heap.get? b = some o → H b = none → H' b = none)
    (there : ∀ b o, b ∉ ch → s.heap.get? b = some o → ∃ o', h'.get? b = some o')
    (tups : ∀ b xs, H b = some (.tup xs) → H' b = some (.tup xs)) (frzs : ∀ b o u, H b = some (.frz o u) → H' b = some (.frz o u)) (tbls : ∀ b ps, H b = some (.tbl ps) → ∃ more, H' b = some (.tbl (ps ++ more)))
    (ns : ∀ m, s.heap.Ns X.env.locals m → h'.Ns X.env.locals m) (hok : HOk X.prog X.w H' h') (hg : AllBare g') :
    Inv X pins σ H' { s with heap := h', gens := g', drawn := d', toks := t' } := by
  have neL : ∀ b o, X.s₀.heap.get? b = some o → b ≠ X.env.locals := fun b o e => Nat.ne_of_lt (Nat.lt_of_lt_of_le (Heap.lt_size e) I.ok.above)
  have neC : ∀ b o, X.s₀.heap.get? b = some o → b ∉ X.ex → b ∉ ch := fun b o e hx hb => by
    rcases (hch b hb).1 with z | z
    · exact hx z
    · exact absurd (Nat.lt_of_lt_of_le (Heap.lt_size e) z) (Nat.lt_irrefl _)
  have cellK : ∀ x c, X.env.cells.lookup x = some c → ∀ v, s.heap.IsCell c v → h'.IsCell c v := fun x c e v ⟨o, ho, hd⟩ => by
    have nch : c ∉ ch := fun z => (hch c z).2.2.1 x c e rfl
    by_cases hc : c ∈ X.fs
    · obtain ⟨sl, q⟩ := slot c o (I.cne x c e) hc nch ho (I.freeC x c e)
      exact ⟨_, q, hd⟩
    · exact ⟨o, keep c o (I.cne x c e) hc nch ho (I.freeC x c e), hd⟩
  refine ⟨I.ok, I.os, hg, ⟨fun b o e n hb hx => ?_, fun b o e n hb hx => ?_, fun b o e n hx => ?_, fun b o e hx => ?_, fun b xs e => tups b xs (I.base.tups b xs e), fun b o xs e => frzs b o xs (I.base.frzs b o xs e), fun b ps e => ?_⟩, ?_, fun x c e => ?_, ?_, fun x c e => ?_, fun p hp => ?_, hok, I.len⟩
  · exact keep b o (neL b o e) hb (neC b o e hx) (I.base.keep b o e n hb hx) (I.base.free b o e n hx)
  · obtain ⟨sl, e1⟩ := I.base.slot b o e n hb hx
    obtain ⟨sl', e2⟩ := slot b _ (neL b o e) hb (neC b o e hx) e1 (I.base.free b o e n hx)
    exact ⟨sl', e2⟩
  · obtain ⟨o', e1⟩ := I.base.there b o e hx
    exact free b o' (neC b o e hx) e1 (I.base.free b o e n hx)
  · obtain ⟨o', e1⟩ := I.base.there b o e hx
    exact there b o' (neC b o e hx) e1
  · obtain ⟨m1, e1⟩ := I.base.tbls b ps e
    obtain ⟨m2, e2⟩ := tbls b _ e1
    exact ⟨m1 ++ m2, by rw [e2, Array.append_assoc]⟩
  · obtain ⟨m, hn, hl⟩ := I.loc
    refine ⟨m, ns m hn, fun i x v e1 e2 e3 => ?_⟩
    obtain ⟨u, r, l⟩ := hl i x v e1 e2 e3
    refine ⟨u, r, ?_⟩
    rcases l with l | ⟨k, c, e, z⟩
    · exact .inl l
    · exact .inr ⟨k, c, e, cellK x c e _ z⟩
  · obtain ⟨v, z⟩ := I.cell x c e
    exact ⟨v, cellK x c e v z⟩
  · obtain ⟨m, ⟨o, _, _, ho, _⟩, _⟩ := I.loc
    exact free _ o (fun z => (hch _ z).2.1 rfl) ho I.free
  · obtain ⟨v, o, ho, hd⟩ := I.cell x c e
    exact free c o (fun z => (hch c z).2.2.1 x c e rfl) ho (I.freeC x c e)
  · obtain ⟨e, n, ne, nf, d⟩ := I.pin p hp
    have nch : p.1 ∉ ch := fun z => (hch p.1 z).2.2.2 p hp rfl
    exact ⟨keep p.1 p.2 ne nf nch e n, free p.1 p.2 nch e n, ne, nf, d⟩
theorem Inv.un {t' : Nat} (I : Inv X pins σ H s) (u : Un X.fs [] H H' s.heap h') (hok : HOk X.prog X.w H' h') : Inv X pins σ H' { s with heap := h', toks := t' } := by
  obtain ⟨m, ⟨o, es, ep, ho, r⟩, _⟩ := id I.loc
  obtain ⟨sl, hL⟩ := u.any ho I.free (by simp)
  exact I.step (g' := s.gens) (d' := s.drawn) (ch := []) (fun _ z => nomatch z) (fun b o _ hb _ e n => u.keep b o e n hb (by simp)) (fun b o _ hb _ e n => u.slot b o e n hb (by simp)) (fun b o _ e n => u.free b o e n (by simp)) (fun b o _ e => u.there b o e (by simp)) u.tups u.frzs u.tbls (fun m' hm => by
    obtain ⟨o', es', ep', ho', r'⟩ := hm
    rw [ho] at ho'; cases ho'
    exact ⟨_, es', ep', hL, r'⟩) hok I.bare
theorem Inv.call {g' : Array GenState} {t' : Nat} {d' : Drawn} {ch : List Addr} (I : Inv X pins σ H s) (u : Un (frs X.stack) ch H H' s.heap h') (hok : HOk X.prog X.w H' h') (hg : AllBare g')
    (hch : ∀ b ∈ ch, (b ∈ X.ex ∨ X.s₀.heap.objs.size ≤ b) ∧ b ≠ X.env.locals ∧ (∀ x c, X.env.cells.lookup x = some c → c ≠ b) ∧ ∀ p ∈ X.pn ++ pins, p.1 ≠ b) :
    Inv X pins σ H' { s with heap := h', gens := g', drawn := d', toks := t' } := by
  obtain ⟨m, ⟨o, es, ep, ho, r⟩, _⟩ := id I.loc
  obtain ⟨sl, hL⟩ := u.any ho I.free fun z => (hch _ z).2.1 rfl
  exact I.step (ch := ch) hch (fun b o hL hb hc e n => u.keep b o e n (fun z => (List.mem_cons.mp (I.stkSub b z)).elim hL hb) hc) (fun b o _ _ hc e n => u.any e n hc) (fun b o hc e n => u.free b o e n hc) (fun b o hc e => u.there b o e hc) u.tups u.frzs u.tbls (fun m' hm => by
    obtain ⟨o', es', ep', ho', r'⟩ := hm
    rw [ho] at ho'; cases ho'
    exact ⟨_, es', ep', hL, r'⟩) hok hg
theorem Inv.turned {t' : Nat} {it : Addr} (I : Inv X pins σ H s) (k : ∀ b o, b ≠ it → s.heap.get? b = some o → h'.get? b = some o) (hn : H it = none) (hL : it ≠ X.env.locals)
    (h1 : it ∈ X.ex ∨ X.s₀.heap.objs.size ≤ it) (h2 : ∀ x c, X.env.cells.lookup x = some c → c ≠ it) (h3 : ∀ p ∈ X.pn ++ pins, p.1 ≠ it) : Inv X pins σ H { s with heap := h', toks := t' } := by
  have nit : ∀ b u, H b = some u → b ≠ it := fun b u e z => by rw [z, hn] at e; cases e
  refine I.step (g' := s.gens) (d' := s.drawn) (ch := [it]) (fun b hb => ?_) (fun b o _ _ hc e _ => k b o (fun z => hc (by simp [z])) e) (fun b o _ _ hc e _ => ⟨o.slots, k b o (fun z => hc (by simp [z])) e⟩) (fun _ _ _ _ n => n)
    (fun b o hc e => ⟨o, k b o (fun z => hc (by simp [z])) e⟩) (fun _ _ e => e) (fun _ _ _ e => e) (fun b ps e => ⟨#[], by rw [e]; simp⟩) (fun m hm => ?_) (fun b u e => ?_) I.bare
  · have e : b = it := by simpa using hb
    subst e
    exact ⟨h1, hL, h2, h3⟩
  · obtain ⟨o, es, ep, ho, r⟩ := hm
    exact ⟨o, es, ep, k _ o (Ne.symm hL) ho, r⟩
  · refine (I.hok b u e).stay (fun c v hc q => k c v ?_ q) (fun _ q => q) fun _ _ q => q
    rcases hc with z | z
    · rw [z]; exact nit b u e
    · exact nit c _ z
theorem Inv.tok (I : Inv X pins σ H s) (t : Nat) : Inv X pins σ H { s with toks := t } := I.un (h' := s.heap) (t' := t) Un.refl I.hok
theorem Inv.kept {t' : Nat} (I : Inv X pins σ H s) (k : ∀ b u, s.heap.get? b = some u → h'.get? b = some u) : Inv X pins σ H { s with heap := h', toks := t' } := I.un (Un.kept k) (I.hok.kept k)
theorem Inv.laid {a : Addr} {o : HO} {t' : Nat} (I : Inv X pins σ H s) (k : ∀ b u, s.heap.get? b = some u → h'.get? b = some u) (hp : s.heap.objs.size ≤ a) (new : yV X.prog X.w (upd H a o) h' a o) :
    Inv X pins σ (upd H a o) { s with heap := h', toks := t' } := I.un (Un.laid k hp (I.hok.fresh hp)) (I.hok.laid k hp new)
theorem Inv.write {x e : Addr} {o : HO} {t' : Nat} (I : Inv X pins σ H s) (mu : Mut (H x)) (he : e = x ∨ H e = some (.own x)) (k : ∀ b u, b ≠ e → s.heap.get? b = some u → h'.get? b = some u) (heo : ∃ u, h'.get? e = some u)
    (new : yV X.prog X.w (upd H x o) h' x o) : Inv X pins σ (upd H x o) { s with heap := h', toks := t' } := I.un (Un.write mu he k heo) (I.hok.write mu he k heo new)
theorem Inv.weak {σ' : List (Option V)} (I : Inv X pins σ H s) (hl : σ'.length = σ.length) (w : ∀ (i : Nat) v, σ'[i]? = some (some v) → σ[i]? = some (some v)) : Inv X pins σ' H s :=
  ⟨I.ok, I.os, I.bare, I.base, let ⟨m, hn, hl'⟩ := I.loc; ⟨m, hn, fun i x v e1 e2 e3 => hl' i x v e1 (w i v e2) e3⟩, I.cell, I.free, I.freeC, I.pin, I.hok, hl.trans I.len⟩
theorem Inv.pins_of {pins' : List (Addr × Obj)} (I : Inv X pins σ H s) (h : ∀ p ∈ pins', s.heap.get? p.1 = some p.2 ∧ H p.1 = none ∧ p.1 ≠ X.env.locals ∧ p.1 ∉ X.fs ∧ ∀ v, p.2.data ≠ .cell v) : Inv X pins' σ H s :=
  ⟨I.ok, I.os, I.bare, I.base, I.loc, I.cell, I.free, I.freeC, fun p hp => (List.mem_append.mp hp).elim (fun z => I.pin p (List.mem_append_left _ z)) (h p), I.hok, I.len⟩
theorem znd {N : List Str} (hN : N.Nodup) {i j : Nat} {x : Str} (a : N[i]? = some x) (b : N[j]? = some x) : i = j := by
  obtain ⟨h1, e1⟩ := List.getElem?_eq_some_iff.mp a
  obtain ⟨h2, e2⟩ := List.getElem?_eq_some_iff.mp b
  exact (List.getElem_inj hN).mp (e1.trans e2.symm)
theorem zoS {M : Model} {A : Around} {E : Value → Shared → Prop} {i : Nat} {x : Str} {v : V} {u : Value} {Q : Unit → Shared → Prop} (I : Inv X pins σ H s) (hN : X.N.Nodup) (hi : X.N[i]? = some x) (hx : Loc X.env.scope x) (r : yY v u)
    (h : ∀ s', Inv X pins (σ.set i (some v)) H s' → (∃ a, Heap.SameBut a s.heap s'.heap ∧ (a = X.env.locals ∨ X.env.cells.lookup x = some a)) → Q () s') (hf : X.fn x = true ∨ X.env.scope.names.lookup x = some .local := by first | exact .inl rfl | exact .inr rfl | assumption) : wpAny M A (storeName X.env x u) Q E s := by
  obtain ⟨m, hn, hl⟩ := id I.loc
  have hcls : (X.env.scope.kind == .class || (X.env.scope.kind == .module && X.env.locals != X.env.globals)) = false := by rw [I.ok.kind]; rfl
  have hiσ : i < σ.length := by rw [I.len]; exact (List.getElem?_eq_some_iff.mp hi).1
  have cne := I.cne
  have tracked : ∀ {a : Addr} {h' : Heap}, (∃ o, s.heap.get? a = some o ∧ H a = none) → Heap.SameBut a s.heap h' → HOk X.prog X.w H h' := fun {a h'} ha hs b ob e => by
    obtain ⟨_, _, hfree⟩ := ha
    refine (I.hok b ob e).stay (fun c w' hc q => (hs.2 c ?_).trans q) (fun _ q => q) fun _ _ q => q
    rintro rfl
    rcases hc with rfl | hc
    · rw [hfree] at e; cases e
    · rw [hfree] at hc; cases hc
  rcases hx with hk | hk
  · refine wpAny_storeName_local hk hn (fun h' hn' hs => ?_) hcls
    obtain ⟨oL, _, _, hoL, _⟩ := id hn
    refine h _ ⟨I.ok, I.os, I.bare, ⟨fun b o e n hb hx => ?_, fun b o e n hb hx => ?_, I.base.free, fun b o e hx => ?_, I.base.tups, I.base.frzs, I.base.tbls⟩, ⟨_, hn', fun j y v' e1 e2 e3 => ?_⟩, fun y c e => ?_, I.free, I.freeC, fun p hp => ?_, tracked ⟨oL, hoL, I.free⟩ hs, by simpa using I.len⟩ ⟨_, hs, .inl rfl⟩
    · exact (hs.2 b (Nat.ne_of_lt (Nat.lt_of_lt_of_le (Heap.lt_size e) I.ok.above))).trans (I.base.keep b o e n hb hx)
    · obtain ⟨sl, e1⟩ := I.base.slot b o e n hb hx
      exact ⟨sl, (hs.2 b (Nat.ne_of_lt (Nat.lt_of_lt_of_le (Heap.lt_size e) I.ok.above))).trans e1⟩
    · obtain ⟨o', e1⟩ := I.base.there b o e hx
      exact ⟨o', (hs.2 b (Nat.ne_of_lt (Nat.lt_of_lt_of_le (Heap.lt_size e) I.ok.above))).trans e1⟩
    · by_cases hj : j = i
      · subst hj
        rw [hi] at e1; cases e1
        rw [List.getElem?_set_self hiσ] at e2
        cases e2
        exact ⟨u, r, .inl ⟨hk, by simp⟩⟩
      · rw [List.getElem?_set_ne (Ne.symm hj)] at e2
        obtain ⟨u', r', q⟩ := hl j y v' e1 e2 e3
        refine ⟨u', r', ?_⟩
        rcases q with ⟨k, e⟩ | ⟨k, c, e, z⟩
        · refine .inl ⟨k, ?_⟩
          have : y ≠ x := fun e => hj (znd hN e1 (e ▸ hi))
          simp [this, e]
        · exact .inr ⟨k, c, e, z.sameBut hs (cne y c e)⟩
    · obtain ⟨w', z⟩ := I.cell y c e
      exact ⟨w', z.sameBut hs (cne y c e)⟩
    · obtain ⟨e, n, ne, nf, d⟩ := I.pin p hp
      exact ⟨(hs.2 p.1 ne).trans e, n, ne, nf, d⟩
  · have hfn : X.fn x = true := by
      rcases hf with z | z
      · exact z
      · rw [z] at hk; cases hk
    obtain ⟨c, hc⟩ := I.ok.has x (.inl hk)
    obtain ⟨w', z⟩ := I.cell x c hc
    refine wpAny_storeName_cell I.ok.kind hk hc z (fun h' hc' hs => ?_)
    obtain ⟨oc, hoc, hocd⟩ := id z
    refine h { s with heap := h' } ⟨I.ok, I.os, I.bare, ⟨fun b o e n hb hx => ?_, fun b o e n hb hx => ?_, I.base.free, fun b o e hx => ?_, I.base.tups, I.base.frzs, I.base.tbls⟩, ⟨m, hn.sameBut hs (Ne.symm (cne x c hc)), fun j y v' e1 e2 e3 => ?_⟩, fun y c' e => ?_, I.free, I.freeC, fun p hp => ?_, tracked ⟨oc, hoc, I.freeC x c hc⟩ hs, by simpa using I.len⟩ ⟨c, hs, .inr hc⟩
    · exact (hs.2 b (Nat.ne_of_lt (Nat.lt_of_lt_of_le (Heap.lt_size e) (I.ok.cab x c hfn hc)))).trans (I.base.keep b o e n hb hx)
    · obtain ⟨sl, e1⟩ := I.base.slot b o e n hb hx
      exact ⟨sl, (hs.2 b (Nat.ne_of_lt (Nat.lt_of_lt_of_le (Heap.lt_size e) (I.ok.cab x c hfn hc)))).trans e1⟩
    · obtain ⟨o', e1⟩ := I.base.there b o e hx
      exact ⟨o', (hs.2 b (Nat.ne_of_lt (Nat.lt_of_lt_of_le (Heap.lt_size e) (I.ok.cab x c hfn hc)))).trans e1⟩
    · by_cases hj : j = i
      · subst hj
        rw [hi] at e1; cases e1
        rw [List.getElem?_set_self hiσ] at e2
        cases e2
        exact ⟨u, r, .inr ⟨.inl hk, c, hc, hc'⟩⟩
      · rw [List.getElem?_set_ne (Ne.symm hj)] at e2
        obtain ⟨u', r', q⟩ := hl j y v' e1 e2 e3
        refine ⟨u', r', ?_⟩
        rcases q with q | ⟨k, c', e, z'⟩
        · exact .inl q
        · refine .inr ⟨k, c', e, z'.sameBut hs ?_⟩
          rintro rfl
          exact hj (znd hN e1 (I.ok.inj _ _ _ e hc ▸ hi))
    · by_cases hcc : c' = c
      · subst hcc; exact ⟨_, hc'⟩
      · obtain ⟨w2, z2⟩ := I.cell y c' e
        exact ⟨w2, z2.sameBut hs hcc⟩
    · obtain ⟨e, n, ne, nf, d⟩ := I.pin p hp
      refine ⟨(hs.2 p.1 ?_).trans e, n, ne, nf, d⟩
      intro q
      rw [q, hoc] at e
      have q' : oc = p.2 := Option.some.inj e
      exact d w' (by rw [← q']; exact hocd)
theorem zm8 {M : Model} {A : Around} {E : Value → Shared → Prop} {i : Nat} {x : Str} {v : V} {u : Value} {Q : Unit → Shared → Prop} (I : Inv X pins σ H s) (hN : X.N.Nodup) (hi : X.N[i]? = some x) (hx : Loc X.env.scope x) (r : yY v u)
    (h : ∀ s', Inv X pins (σ.set i (some v)) H s' → Q () s') (hf : X.fn x = true ∨ X.env.scope.names.lookup x = some .local := by first | exact .inl rfl | exact .inr rfl | assumption) : wpAny M A (storeName X.env x u) Q E s :=
  zoS I hN hi hx r (fun s' I' _ => h s' I') hf
theorem Inv.call' {s' : Shared} {ch : List Addr} (I : Inv X pins σ H s) (ho : s'.os = s.os) (u : Un (frs X.stack) ch H H' s.heap s'.heap) (hok : HOk X.prog X.w H' s'.heap) (hg : AllBare s'.gens)
    (hch : ∀ b ∈ ch, (b ∈ X.ex ∨ X.s₀.heap.objs.size ≤ b) ∧ b ≠ X.env.locals ∧ (∀ x c, X.env.cells.lookup x = some c → c ≠ b) ∧ ∀ p ∈ X.pn ++ pins, p.1 ≠ b) : Inv X pins σ H' s' := by
  obtain ⟨h', g', d', t', o'⟩ := s'
  have e : o' = s.os := ho
  subst e
  exact I.call (g' := g') (t' := t') (d' := d') u hok hg hch
end
noncomputable abbrev XK := Value → Option Addr → Hp → Prop
noncomputable abbrev St := List (Option V)
noncomputable abbrev VK := V → Hp → Prop
noncomputable abbrev TE := St → Hp → VK → Prop
noncomputable abbrev TT := St → Hp → (Bool → Hp → Prop) → Prop
noncomputable abbrev TA := St → Hp → (List V → Hp → Prop) → Prop
structure zpN where
  nx : St → Hp → Prop
  rt : VK
  bk : St → Hp → Prop := fun _ _ => False
  ct : St → Hp → Prop := fun _ _ => False
noncomputable abbrev TS := zpN → St → Hp → Prop
noncomputable def EP (X : Cx) (pins : List (Addr × Obj)) (σ : St) (Q : VK) (u : Value) (s' : Shared) : Prop := ∃ v H', Inv X pins σ H' s' ∧ yY v u ∧ Q v H'
noncomputable def TP (X : Cx) (pins : List (Addr × Obj)) (σ : St) (Q : Bool → Hp → Prop) (b : Bool) (s' : Shared) : Prop := ∃ H', Inv X pins σ H' s' ∧ Q b H'
noncomputable def AP (X : Cx) (pins : List (Addr × Obj)) (σ : St) (Q : List V → Hp → Prop) (us : List Value) (s' : Shared) : Prop := ∃ vs H', Inv X pins σ H' s' ∧ yG vs us ∧ Q vs H'
noncomputable def SP (X : Cx) (pins : List (Addr × Obj)) (D : zpN) (f : Flow) (s' : Shared) : Prop :=
  match f with
  | .next => ∃ σ' H', Inv X pins σ' H' s' ∧ D.nx σ' H'
  | .brk => ∃ σ' H', Inv X pins σ' H' s' ∧ D.bk σ' H'
  | .cont => ∃ σ' H', Inv X pins σ' H' s' ∧ D.ct σ' H'
  | .ret u => ∃ v σ' H', Inv X pins σ' H' s' ∧ yY v u ∧ D.rt v H'
noncomputable def PE (X : Cx) (e : Expr) (t : TE) : Prop :=
  ∀ (pins : List (Addr × Obj)) (s : Shared) (σ : St) (H : Hp) (Q : VK), Inv X pins σ H s → t σ H Q → wpAny (model X.prog X.w) X.A (eval e X.env) (EP X pins σ Q) X.xe s
noncomputable def PT (X : Cx) (e : Expr) (t : TT) : Prop :=
  ∀ (pins : List (Addr × Obj)) (s : Shared) (σ : St) (H : Hp) (Q : Bool → Hp → Prop), Inv X pins σ H s → t σ H Q → wpAny (model X.prog X.w) X.A (isTrue e X.env (eval e X.env)) (TP X pins σ Q) X.xe s
noncomputable def PW (X : Cx) (e : Expr) (t : TT) : Prop :=
  ∀ (whole : Sem Value) (pins : List (Addr × Obj)) (s : Shared) (σ : St) (H : Hp) (Q : Bool → Hp → Prop), Inv X pins σ H s → t σ H Q → wpAny (model X.prog X.w) X.A (isTrue e X.env whole) (TP X pins σ Q) X.xe s
theorem PW.pt {X : Cx} {e : Expr} {t : TT} (h : PW X e t) : PT X e t := h _
noncomputable def PA (X : Cx) (es : List Expr) (t : TA) : Prop :=
  ∀ (pos : Pos) (pins : List (Addr × Obj)) (s : Shared) (σ : St) (H : Hp) (Q : List V → Hp → Prop), Inv X pins σ H s → t σ H Q → wpAny (model X.prog X.w) X.A (spliced (backTo pos (starEach es X.env))) (AP X pins σ Q) X.xe s
noncomputable def PS (X : Cx) (st : Stmt) (t : TS) : Prop :=
  ∀ (pins : List (Addr × Obj)) (s : Shared) (σ : St) (H : Hp) (D : zpN), Inv X pins σ H s → t D σ H → wpAny (model X.prog X.w) X.A (exec st X.env) (SP X pins D) X.xe s
noncomputable def PSs (X : Cx) (st : List Stmt) (t : TS) : Prop :=
  ∀ (pins : List (Addr × Obj)) (s : Shared) (σ : St) (H : Hp) (D : zpN), Inv X pins σ H s → t D σ H → wpAny (model X.prog X.w) X.A (execs st X.env) (SP X pins D) X.xe s
theorem thn {α : Type} {t : Sem α} {Q Q' : α → Shared → Prop} {M : Model} {A : Around} {E : Value → Shared → Prop} {s : Shared} (h : wpAny M A t Q E s) (hQ : ∀ a s, Q a s → Q' a s) : wpAny M A t Q' E s := wpAny_mono h hQ fun _ _ x => x
end L2
namespace L2
open PySem PySem.Spec PyProof.Rows
section
variable {X : Cx}
theorem bin {a b : Expr} {ta tb : TE} (ha : PE X a ta) (hb : PE X b tb) {pins : List (Addr × Obj)} {s : Shared} {σ : St} {H : Hp} {R : V → V → Hp → Prop} (I : Inv X pins σ H s) (h : ta σ H fun x H1 => tb σ H1 fun y H2 => R x y H2)
    {α : Type} {Q : α → Shared → Prop} {f : Value → Value → Sem α}
    (hf : ∀ v u s2 x y H2, Inv X pins σ H2 s2 → yY x v → yY y u → R x y H2 → wpAny (model X.prog X.w) X.A (f v u) Q X.xe s2) :
    wpAny (model X.prog X.w) X.A (eval a X.env) (fun v s₁ => wpAny (model X.prog X.w) X.A (eval b X.env) (fun u s₂ => wpAny (model X.prog X.w) X.A (f v u) Q X.xe s₂) X.xe s₁) X.xe s := by
  refine thn (ha pins s σ H _ I h) fun v s1 hh9 => ?_
  obtain ⟨x, H1, I1, r1, q1⟩ := hh9
  refine thn (hb pins s1 σ H1 _ I1 q1) fun u s2 hh9 => ?_
  obtain ⟨y, H2, I2, r2, q2⟩ := hh9
  exact hf v u s2 x y H2 I2 r1 r2 q2
noncomputable def zrk (i : Nat) : TE := fun σ H Q => ∃ v, σ[i]? = some (some v) ∧ Q v H
noncomputable def tC (v : V) : TE := fun _ H Q => Q v H
theorem zt6 {i : Nat} {x : Str} {pos : Pos} (hN : X.N[i]? = some x) (hv : Vis X.env.scope x) (hd : (x == ("__debug__" : Str)) = false := by decide) (hcd : (x == ("__classdict__" : Str)) = false := by decide) : PE X (.Name x pos) (zrk i) := by
  intro pins s σ H Q I h
  obtain ⟨v, e, h⟩ := h
  obtain ⟨m, hn, hl⟩ := I.loc
  obtain ⟨u, r, l⟩ := hl i x v hN e hv
  have fin : EP X pins σ Q u s := ⟨v, H, I, r, h⟩
  rcases l with ⟨hk, hm⟩ | ⟨hk, c, hc, hcell⟩
  · exact wpAny_Name (wpAny_loadName_local I.ok.kind hk hn hm fin) hd
  · rcases hk with hk | hk
    · exact wpAny_Name (wpAny_loadName_cell I.ok.kind hk hc hcell fin) hd
    · exact wpAny_Name (wpAny_loadName_free I.ok.kind hk hc hcell fin hcd) hd
theorem zn {i j pos} : PE X (.Constant (.int i) j pos) (tC (.int i)) := fun _ _ _ H _ I h => wpAny_Constant_int ⟨.int i, H, I.tok _, ⟨_, rfl⟩, h⟩
theorem xN {b j pos} : PE X (.Constant (.bool b) j pos) (tC (.bl b)) := fun _ _ _ H _ I h => Constant_bool ⟨.bl b, H, I, rfl, h⟩
theorem zcV {j pos} : PE X (.Constant .none j pos) (tC .non) := fun _ _ _ H _ I h => Constant_none ⟨.non, H, I, rfl, h⟩
theorem xB {x j pos} : PE X (.Constant (.str x) j pos) (tC (.str x)) := fun _ _ _ H _ I h => Calls.Constant_str ⟨.str x, H, I.tok _, ⟨_, rfl⟩, h⟩
noncomputable def Gl (X : Cx) (x : Str) : Prop := X.env.kindOf x = some .globalImplicit
theorem zmW {E : Value → Shared → Prop} {pins : List (Addr × Obj)} {s : Shared} {σ : St} {H : Hp} {x : Str} {u : Value} {pos : Pos} {Q : Value → Shared → Prop} (I : Inv X pins σ H s) (hg : Gl X x) (hm : X.mg x = some u) (h : Q u s)
    (hd : (x == ("__debug__" : Str)) = false := by decide) : wpAny (model X.prog X.w) X.A (eval (.Name x pos) X.env) Q E s :=
  Calls.Name_function_global I.ok.kind hg (Calls.loadGlobal_global (by rw [I.ok.glob]; exact I.mod.glob.keeps I.bk) hm h) hd
theorem Vk {E : Value → Shared → Prop} {pins : List (Addr × Obj)} {s : Shared} {σ : St} {H : Hp} {x : Str} {u : Value} {pos : Pos} {Q : Value → Shared → Prop} (I : Inv X pins σ H s) (hg : Gl X x) (hm : X.mg x = none) (hv : bootBuiltins x = some u) (h : Q u s)
    (hn : x ≠ "__name__" := by decide) (hd : (x == ("__debug__" : Str)) = false := by decide) : wpAny (model X.prog X.w) X.A (eval (.Name x pos) X.env) Q E s := by
  obtain ⟨mb, h1, h2⟩ := I.mod.blt
  exact Calls.Name_function_global I.ok.kind hg (Calls.loadGlobal_builtin (by rw [I.ok.glob]; exact I.mod.glob.keeps I.bk) hm (by rw [I.ok.blt]; exact h1.keeps I.bk) ((h2 x hn).trans hv) h) hd
theorem zcu {x : Str} {v : V} {u : Value} {pos : Pos} (hg : Gl X x) (hm : X.mg x = some u) (r : yY v u) (hd : (x == ("__debug__" : Str)) = false := by decide) : PE X (.Name x pos) (tC v) :=
  fun _ _ _ H _ I h => zmW I hg hm ⟨v, H, I, r, h⟩ hd
theorem yC {x : Str} {v : V} {u : Value} {pos : Pos} (hg : Gl X x) (hm : X.mg x = none) (hv : bootBuiltins x = some u) (r : yY v u) (hn : x ≠ "__name__" := by decide) (hd : (x == ("__debug__" : Str)) = false := by decide) : PE X (.Name x pos) (tC v) :=
  fun _ _ _ H _ I h => Vk I hg hm hv ⟨v, H, I, r, h⟩ hn hd
variable {a b : Expr} {ta tb : TE} {pos : Pos}
noncomputable def PC (X : Cx) (op : CmpOp) (a b : Expr) (t : TE) : Prop :=
  ∀ (pins : List (Addr × Obj)) (s : Shared) (σ : St) (H : Hp) (Q : VK), Inv X pins σ H s → t σ H Q →
    wpAny (model X.prog X.w) X.A (eval a X.env) (fun v s₁ => wpAny (model X.prog X.w) X.A (eval b X.env) (fun u s₂ => wpAny (model X.prog X.w) X.A (compareOp op v u) (EP X pins σ Q) X.xe s₂) X.xe s₁) X.xe s
theorem zqz (b : Expr) {op : CmpOp} (h : op ≠ .In) (h2 : op ≠ .NotIn) : behindInMarks op b = false := by
  have e1 : (op == CmpOp.In) = false := by cases op <;> first | rfl | exact absurd rfl h
  have e2 : (op == CmpOp.NotIn) = false := by cases op <;> first | rfl | exact absurd rfl h2
  cases b <;> simp [behindInMarks, e1, e2]
noncomputable def tB (t : TE) : TT := fun σ H Q => t σ H fun x H1 => ∃ c, x = .bl c ∧ Q c H1
theorem pt_cmp {op : CmpOp} {t : TE} (h : PC X op a b t) (h1 : behindInMarks op b = false := by first | exact zqz _ (by decide) (by decide) | rfl) : PT X (.Compare a [op] [b] pos) (tB t) := by
  intro pins s σ H Q I hw
  refine wpAny_isTrue_Compare1 (thn (h pins s σ H _ I hw) fun v s1 h1 => thn h1 fun u s2 h2 => thn h2 fun c s3 hh9 => ?_) h1
  obtain ⟨x, H1, I1, r1, q1⟩ := hh9
  obtain ⟨d, rfl, q⟩ := q1
  cases r1
  exact wpAny_truthy_bool ⟨H1, I1, q⟩
theorem zs8 {e : Expr} {t : TE} (h : PE X e t) (he : ∀ whole, isTrue e X.env whole = (do let v ← whole; standAt e.pos; holding [v] (truthy v)) := by intro _; rfl) : PT X e (tB t) := by
  intro pins s σ H Q I hw
  refine isTrue_plain (thn (h pins s σ H _ I hw) fun v s1 hh9 => ?_) (he _)
  obtain ⟨x, H1, I1, r1, q1⟩ := hh9
  obtain ⟨d, rfl, q⟩ := q1
  cases r1
  exact wpAny_truthy_bool ⟨H1, I1, q⟩
variable {tA tB' : TT} {rest : List Expr}
noncomputable def tAnd (t u : TT) : TT := fun σ H Q => t σ H fun c H1 => if c = true then u σ H1 Q else Q false H1
noncomputable def tOr (t u : TT) : TT := fun σ H Q => t σ H fun c H1 => if c = true then Q true H1 else u σ H1 Q
noncomputable def tNot (t : TT) : TT := fun σ H Q => t σ H fun c H1 => Q (!c) H1
theorem zrS (ha : PT X a tA) : PW X (.BoolOp .And [a] pos) tA := by
  intro wh pins s σ H Q I h
  refine isTrue_and (thn (ha pins s σ H Q I h) fun c s1 e => ?_)
  cases c with
  | true => exact isTrue_and_nil e
  | false => exact e
theorem ztP (ha : PT X a tA) : PW X (.BoolOp .Or [a] pos) tA := by
  intro wh pins s σ H Q I h
  refine isTrue_or (thn (ha pins s σ H Q I h) fun c s1 e => ?_)
  cases c with
  | false => exact isTrue_or_nil e
  | true => exact e
theorem ztw (ha : PT X a tA) (hb : PW X (.BoolOp .And (b :: rest) pos) tB') : PW X (.BoolOp .And (a :: b :: rest) pos) (tAnd tA tB') := by
  intro wh pins s σ H Q I h
  refine isTrue_and (thn (ha pins s σ H _ I h) fun c s1 hh9 => ?_)
  obtain ⟨H1, I1, q1⟩ := hh9
  cases c with
  | true => exact hb wh pins s1 σ H1 Q I1 q1
  | false => exact ⟨H1, I1, q1⟩
theorem zvq (ha : PT X a tA) (hb : PW X (.BoolOp .Or (b :: rest) pos) tB') : PW X (.BoolOp .Or (a :: b :: rest) pos) (tOr tA tB') := by
  intro wh pins s σ H Q I h
  refine isTrue_or (thn (ha pins s σ H _ I h) fun c s1 hh9 => ?_)
  obtain ⟨H1, I1, q1⟩ := hh9
  cases c with
  | true => exact ⟨H1, I1, q1⟩
  | false => exact hb wh pins s1 σ H1 Q I1 q1
theorem zti (ha : PT X a tA) : PT X (.UnaryOp .Not a pos) (tNot tA) := by
  intro pins s σ H Q I h
  exact isTrue_not (ha pins s σ H (fun c H1 => Q (!c) H1) I h)
noncomputable def zuU (ta tb : TE) : TE := fun σ H Q => ta σ H fun x H1 => ∃ c, x = .bl c ∧ if c = true then tb σ H1 Q else Q (.bl false) H1
noncomputable def tOrV (ta tb : TE) : TE := fun σ H Q => ta σ H fun x H1 => ∃ c, x = .bl c ∧ if c = true then Q (.bl true) H1 else tb σ H1 Q
noncomputable def zuR (ta : TE) : TE := fun σ H Q => ta σ H fun x H1 => ∃ c, x = .bl c ∧ Q (.bl (!c)) H1
theorem zua {op} {t : TE} (h : PE X a t) : PE X (.BoolOp op [a] pos) t := fun pins s σ H Q I hw => BoolOp_one (h pins s σ H Q I hw)
theorem ztD (ha : PE X a ta) (hb : PE X (.BoolOp .And (b :: rest) pos) tb) : PE X (.BoolOp .And (a :: b :: rest) pos) (zuU ta tb) := by
  intro pins s σ H Q I h
  refine BoolOp_and (thn (ha pins s σ H _ I h) fun v s1 hh9 => ?_)
  obtain ⟨x, H1, I1, r1, q1⟩ := hh9
  obtain ⟨c, rfl, q1⟩ := q1
  cases r1
  refine wpAny_truthy_bool ?_
  cases c with
  | true => exact hb pins s1 σ H1 Q I1 q1
  | false => exact ⟨.bl false, H1, I1, rfl, q1⟩
theorem zu1 (ha : PE X a ta) (hb : PE X (.BoolOp .Or (b :: rest) pos) tb) : PE X (.BoolOp .Or (a :: b :: rest) pos) (tOrV ta tb) := by
  intro pins s σ H Q I h
  refine BoolOp_or (thn (ha pins s σ H _ I h) fun v s1 hh9 => ?_)
  obtain ⟨x, H1, I1, r1, q1⟩ := hh9
  obtain ⟨c, rfl, q1⟩ := q1
  cases r1
  refine wpAny_truthy_bool ?_
  cases c with
  | false => exact hb pins s1 σ H1 Q I1 q1
  | true => exact ⟨.bl true, H1, I1, rfl, q1⟩
theorem ztA (ha : PE X a ta) : PE X (.UnaryOp .Not a pos) (zuR ta) := by
  intro pins s σ H Q I h
  refine UnaryOp_ (thn (ha pins s σ H _ I h) fun v s1 hh9 => ?_)
  obtain ⟨x, H1, I1, r1, q1⟩ := hh9
  obtain ⟨c, rfl, q1⟩ := q1
  cases r1
  exact not_of (wpAny_truthy_bool ⟨.bl (!c), H1, I1, rfl, q1⟩)
end
end L2
namespace L2
open PySem PySem.Spec PyProof.Rows
noncomputable def SqL (K : PySem.W.Frag) (H : Hp) (a : Addr) (xs : List V) : Prop :=
  Rd H a (.lst xs) ∨
    ∃ (o : Obj) (its : Array Value) (n : Nat), K.lookup a = some o ∧ o.cls = .type "list" ∧ o.dict = none ∧ o.data = .seq its n ∧ its.size ≤ sizeLine ∧ yG xs its.toList
noncomputable def SqT (K : PySem.W.Frag) (H : Hp) (a : Addr) (xs : List V) : Prop :=
  Rd H a (.tup xs) ∨
    ∃ (o : Obj) (its : Array Value) (n : Nat), K.lookup a = some o ∧ o.cls = .type "tuple" ∧ o.data = .seq its n ∧ its.size ≤ sizeLine ∧ yG xs its.toList
noncomputable def absV : Value → Option V
  | .none => some .non
  | .bool b => some (.bl b)
  | .int i _ => some (.int i)
  | .str x _ => some (.str x)
  | .bytes b _ => some (.byt b)
  | .float b _ => some (.flt b)
  | .ref a => some (.ref a)
  | .type n => some (.ty n)
  | _ => none
theorem yY.abs {x : V} {u : Value} (r : yY x u) : absV u = some x := by
  cases x with
  | non => cases r; rfl
  | bl _ => cases r; rfl
  | int _ => obtain ⟨t, rfl⟩ := r; rfl
  | str _ => obtain ⟨t, rfl⟩ := r; rfl
  | byt _ => obtain ⟨t, rfl⟩ := r; rfl
  | flt _ => obtain ⟨t, rfl⟩ := r; rfl
  | ref _ => cases r; rfl
  | ty _ => cases r; rfl
theorem yY.inj {x y : V} {u : Value} (r : yY x u) (q : yY y u) : x = y := Option.some.inj (r.abs.symm.trans q.abs)
theorem yG.inj : ∀ {xs ys : List V} {us : List Value}, yG xs us → yG ys us → xs = ys := by
  intro xs ys us h
  induction h generalizing ys with
  | nil => intro h2; cases h2; rfl
  | cons r t ih => intro h2; cases h2 with | cons r' t' => rw [r.inj r', ih t']
section
variable {X : Cx} {pins : List (Addr × Obj)} {σ : St} {H : Hp} {s : Shared} {a : Addr} {xs ys : List V}
theorem SqL.of {K : PySem.W.Frag} (h : H a = some (.lst xs)) : SqL K H a xs := .inl (.inl h)
theorem SqT.of {K : PySem.W.Frag} (h : H a = some (.tup xs)) : SqT K H a xs := .inl (.inl h)
theorem Inv.list (I : Inv X pins σ H s) (h : SqL X.K H a xs) : ∃ its : List Value, yG xs its ∧ PlainL s.heap a its.toArray ∧ xs.length ≤ sizeLine := by
  rcases h with h | ⟨o, its, n, hk, hc, hd, hs, hz, r⟩
  · obtain ⟨z, its, n, r, e⟩ := h.ok I.hok
    exact ⟨its, r, ⟨_, n, e, rfl, rfl, rfl⟩, z⟩
  · refine ⟨its.toList, r, ⟨o, n, I.kIn a o hk, hc, hd, by simpa using hs⟩, ?_⟩
    have e := r.length
    simp only [Array.length_toList] at e
    omega
theorem Inv.tuple (I : Inv X pins σ H s) (h : SqT X.K H a xs) : ∃ its : List Value, yG xs its ∧ IsTup s.heap a its.toArray ∧ xs.length ≤ sizeLine := by
  rcases h with h | ⟨o, its, n, hk, hc, hs, hz, r⟩
  · obtain ⟨z, its, r, p⟩ := h.ok I.hok
    exact ⟨its, r, p, z⟩
  · refine ⟨its.toList, r, ⟨o, I.kIn a o hk, hc, n, by simpa using hs⟩, ?_⟩
    have e := r.length
    simp only [Array.length_toList] at e
    omega
theorem Inv.list_inj (I : Inv X pins σ H s) (h : SqL X.K H a xs) (h' : SqL X.K H a ys) : xs = ys := by
  obtain ⟨its, r, ⟨o, n, e, _, _, d⟩, _⟩ := I.list h
  obtain ⟨its', r', ⟨o', n', e', _, _, d'⟩, _⟩ := I.list h'
  rw [e] at e'; cases e'
  rw [d] at d'
  injection d' with d1 _
  have : its = its' := by simpa using congrArg Array.toList d1
  subst this
  exact r.inj r'
theorem Inv.tuple_inj (I : Inv X pins σ H s) (h : SqT X.K H a xs) (h' : SqT X.K H a ys) : xs = ys := by
  obtain ⟨its, r, ⟨o, e, _, n, d⟩, _⟩ := I.tuple h
  obtain ⟨its', r', ⟨o', e', _, n', d'⟩, _⟩ := I.tuple h'
  rw [e] at e'; cases e'
  rw [d] at d'
  injection d' with d1 _
  have : its = its' := by simpa using congrArg Array.toList d1
  subst this
  exact r.inj r'
end
noncomputable abbrev Cx.wish (X : Cx) (E : Value → Shared → Prop) : Cx := { X with xe := E }
noncomputable abbrev Cx.nox (X : Cx) : Cx := X.wish fun _ _ => False
theorem Cx.Ok.wish {X : Cx} (ok : X.Ok) (E : Value → Shared → Prop) : (X.wish E).Ok :=
  ⟨ok.mod, ok.kind, ok.glob, ok.blt, ok.above, ok.inj, ok.has, ok.cab, ok.hd, ok.frames, ok.stk, ok.exf, ok.bs, ok.bsz, ok.noex, ok.exfs, ok.funs, ok.frf⟩
theorem Cx.Ok.unwish {X : Cx} {E : Value → Shared → Prop} (ok : (X.wish E).Ok) : X.Ok :=
  ⟨ok.mod, ok.kind, ok.glob, ok.blt, ok.above, ok.inj, ok.has, ok.cab, ok.hd, ok.frames, ok.stk, ok.exf, ok.bs, ok.bsz, ok.noex, ok.exfs, ok.funs, ok.frf⟩
section
variable {X : Cx} {pins : List (Addr × Obj)} {σ : St} {H : Hp} {s : Shared} {E : Value → Shared → Prop}
theorem Inv.wish (I : Inv X pins σ H s) (E : Value → Shared → Prop) : Inv (X.wish E) pins σ H s := ⟨I.ok.wish E, I.os, I.bare, I.base, I.loc, I.cell, I.free, I.freeC, I.pin, I.hok, I.len⟩
theorem Inv.unwish (I : Inv (X.wish E) pins σ H s) : Inv X pins σ H s := ⟨I.ok.unwish, I.os, I.bare, I.base, I.loc, I.cell, I.free, I.freeC, I.pin, I.hok, I.len⟩
theorem SP.unwish {D : zpN} {f : Flow} {s' : Shared} (h : SP (X.wish E) pins D f s') : SP X pins D f s' := by
  cases f with
  | next => obtain ⟨σ', H', I, q⟩ := h; exact ⟨σ', H', I.unwish, q⟩
  | brk => obtain ⟨σ', H', I, q⟩ := h; exact ⟨σ', H', I.unwish, q⟩
  | cont => obtain ⟨σ', H', I, q⟩ := h; exact ⟨σ', H', I.unwish, q⟩
  | ret u => obtain ⟨v, σ', H', I, r, q⟩ := h; exact ⟨v, σ', H', I.unwish, r, q⟩
theorem PSs.nox {st : List Stmt} {t : TS} (h : PSs X.nox st t) : PSs X st t := fun pins s σ H D I hw =>
  wpAny_mono (h pins s σ H D (I.wish _) hw) (fun _ _ q => q.unwish) fun _ _ z => False.elim z
end
section
variable {X : Cx} {st : Stmt} {rest : List Stmt} {t u : TS} {e : Expr} {te : TE} {pos : Pos}
noncomputable def zvn : TS := fun D σ H => D.nx σ H
noncomputable def tSeq (t u : TS) : TS := fun D σ H => t { D with nx := u D } σ H
theorem zso : PSs X [] zvn := fun _ _ σ H _ I h => wpAny_execs_nil ⟨σ, H, I, h⟩
theorem zqd (h1 : PS X st t) (h2 : PSs X rest u) : PSs X (st :: rest) (tSeq t u) := by
  intro pins s σ H D I h
  refine wpAny_execs_cons (thn (h1 pins s σ H { D with nx := u D } I h) fun f s1 q => ?_)
  cases f with
  | next =>
    obtain ⟨σ', H', I', q⟩ := q
    exact h2 pins s1 σ' H' D I' q
  | ret v => exact q
  | brk => exact q
  | cont => exact q
theorem zrY (h1 : PS X st t) : PSs X [st] t := by
  intro pins s σ H D I h
  refine wpAny_execs_cons (thn (h1 pins s σ H D I h) fun f s1 q => ?_)
  cases f with
  | next => exact wpAny_execs_nil q
  | ret v => exact q
  | brk => exact q
  | cont => exact q
theorem Inv.quiet {pins : List (Addr × Obj)} {σ : St} {H : Hp} {s : Shared} (I : Inv X pins σ H s) : interactive X.env = false := by simp [interactive, I.ok.kind]
noncomputable def zu2 (te : TE) : TS := fun D σ H => te σ H fun _ H1 => D.nx σ H1
theorem zl8 (he : PE X e te) (hs : swapsWith e none pos.line X.env = pure false := by rfl) : PS X (.Expr e pos) (zu2 te) := by
  intro pins s σ H D I h
  exact wpAny_Expr_any (thn (he pins s σ H _ I h) fun v s1 ⟨x, H1, I1, r1, q1⟩ => ⟨σ, H1, I1, q1⟩) I.quiet hs
noncomputable def tRet (te : TE) : TS := fun D σ H => te σ H D.rt
theorem ztt (he : PE X e te) : PS X (.Return (some e) pos) (tRet te) := by
  intro pins s σ H D I h
  exact wpAny_Return_some (thn (he pins s σ H _ I h) fun v s1 ⟨x, H1, I1, r1, q1⟩ => ⟨x, σ, H1, I1, r1, q1⟩)
noncomputable def tIfS (c : TT) (t u : TS) : TS := fun D σ H => c σ H fun b H1 => if b = true then t D σ H1 else u D σ H1
theorem zuF {c : Expr} {a b : List Stmt} {tc : TT} (hc : PT X c tc) (ha : PSs X a t) (hb : PSs X b u) : PS X (.If c a b pos) (tIfS tc t u) := by
  intro pins s σ H D I h
  refine wpAny_If (thn (hc pins s σ H _ I h) fun d s1 hh9 => ?_)
  obtain ⟨H1, I1, q1⟩ := hh9
  cases d with
  | true => exact ha pins s1 σ H1 D I1 q1
  | false => exact hb pins s1 σ H1 D I1 q1
noncomputable def zsR : TS := fun _ _ _ => False
theorem zqM : PS X st zsR := fun _ _ _ _ _ _ h => h.elim
end
noncomputable abbrev TG := V → St → Hp → (St → Hp → Prop) → Prop
noncomputable abbrev TGs := List V → St → Hp → (St → Hp → Prop) → Prop
noncomputable def PG (X : Cx) (target : Expr) (t : TG) : Prop :=
  ∀ (pins : List (Addr × Obj)) (s : Shared) (σ : St) (H : Hp) (v : V) (u : Value) (Q : St → Hp → Prop), Inv X pins σ H s → yY v u → t v σ H Q →
    wpAny (model X.prog X.w) X.A (assign target X.env u) (fun _ s' => ∃ σ' H', Inv X pins σ' H' s' ∧ Q σ' H') X.xe s
noncomputable def PGs (X : Cx) (ts : List Expr) (t : TGs) : Prop :=
  ∀ (pins : List (Addr × Obj)) (s : Shared) (σ : St) (H : Hp) (vs : List V) (us : List Value) (Q : St → Hp → Prop), Inv X pins σ H s → yG vs us → t vs σ H Q →
    wpAny (model X.prog X.w) X.A (assignInOrder ((assignEach ts X.env).map (·.2)) us) (fun _ s' => ∃ σ' H', Inv X pins σ' H' s' ∧ Q σ' H') X.xe s
noncomputable abbrev zu3 := V → V → V → Hp → (Hp → Prop) → Prop
noncomputable def PSet (X : Cx) (t : zu3) : Prop :=
  ∀ (pins : List (Addr × Obj)) (s : Shared) (σ : St) (H : Hp) (o i v : V) (ov iv u : Value) (Q : Hp → Prop), Inv X pins σ H s → yY o ov → yY i iv → yY v u → t o i v H Q →
    wpAny (model X.prog X.w) X.A (setItem ov iv u) (fun _ s' => ∃ H', Inv X pins σ H' s' ∧ Q H') X.xe s
section
variable {X : Cx} {pos : Pos}
noncomputable def zbQ (i : Nat) : TG := fun v σ H Q => Q (σ.set i (some v)) H
theorem zU {i : Nat} {x : Str} (hN : X.N.Nodup) (hi : X.N[i]? = some x) (hx : Loc X.env.scope x) (hf : X.fn x = true ∨ X.env.scope.names.lookup x = some .local := by first | exact .inl rfl | exact .inr rfl | assumption) : PG X (.Name x pos) (zbQ i) := by
  intro pins s σ H v u Q I r h
  exact wpAny_assign_Name (zm8 I hN hi hx r (fun s' I' => ⟨_, H, I', h⟩) hf)
noncomputable def zuq : TGs := fun vs σ H Q => vs = [] ∧ Q σ H
noncomputable def zmU (t : TG) (u : TGs) : TGs := fun vs σ H Q => ∃ v r, vs = v :: r ∧ t v σ H fun σ' H' => u r σ' H' Q
theorem zoP : PGs X [] zuq := by
  intro pins s σ H vs us Q I r h
  obtain ⟨e, h⟩ := h
  subst e
  cases r
  exact assignInOrder_nil ⟨σ, H, I, h⟩
theorem zfn {e : Expr} {es : List Expr} {t : TG} {u : TGs} (h1 : PG X e t) (h2 : PGs X es u)
    (hs : (assignEach (e :: es) X.env).map (·.2) = assign e X.env :: (assignEach es X.env).map (·.2) := by rfl) : PGs X (e :: es) (zmU t u) := by
  intro pins s σ H vs us Q I r h
  obtain ⟨v, vr, e1, h⟩ := h
  subst e1
  cases r with
  | cons r rr =>
    rw [hs]
    refine assignInOrder_cons (thn (h1 pins s σ H _ _ _ I r h) fun _ s1 hh9 => ?_)
    obtain ⟨σ1, H1, I1, q1⟩ := hh9
    exact h2 pins s1 σ1 H1 _ _ Q I1 rr q1
noncomputable def zus (K : PySem.W.Frag) (n : Nat) (t : TGs) : TG := fun v σ H Q => ∃ a xs, v = .ref a ∧ SqT K H a xs ∧ xs.length = n ∧ t xs σ H Q
theorem zqU {es : List Expr} {k : Nat} {t : TGs} {n : Nat} (hc : X.calm = true) (h : PGs X es t)
    (hn : (assignEach es X.env).length = n := by rfl) (hst : (assignEach es X.env).findIdx? (·.1) = none := by rfl) : PG X (.Tuple es k pos) (zus X.K n t) := by
  intro pins s σ H v u Q I r hw
  obtain ⟨a, xs, e1, hq, hl, hw⟩ := hw
  subst e1
  cases r
  obtain ⟨its, rv, ht, hz⟩ := I.tuple hq
  refine assign_Tuple_tuple (I.ok.hd hc) ht (by simp [hn, ← hl, rv.length]) hst fun h' hx => ?_
  have I1 : Inv X pins σ H { s with heap := h' } := I.kept (t' := s.toks) fun b o e => hx b o (Nat.ne_of_lt (Heap.lt_size e)) e
  exact h pins _ σ H xs _ Q I1 (by simpa using rv) hw
noncomputable def gSub (to ti : TE) (t : zu3) : TG := fun v σ H Q => to σ H fun o H1 => ti σ H1 fun i H2 => t o i v H2 fun H3 => Q σ H3
theorem zto {o i : Expr} {to ti : TE} {t : zu3} (ho : PE X o to) (hi : PE X i ti) (hs : PSet X t)
    (ha : ∀ v, assign (.Subscript o i pos) X.env v = (do
      let ov ← holding [v] (eval o X.env)
      let iv ← holding [v, ov] (eval i X.env)
      standAt pos
      holding [v, ov, iv] (setItem ov iv v)
      release [v, ov, iv] []) := by intro _; rfl) : PG X (.Subscript o i pos) (gSub to ti t) := by
  intro pins s σ H v u Q I r h
  rw [ha]
  refine wpAny_bind (wpAny_holding (thn (ho pins s σ H _ I h) fun ov s1 hh9 => ?_))
  obtain ⟨x, H1, I1, r1, q1⟩ := hh9
  refine wpAny_bind (wpAny_holding (thn (hi pins s1 σ H1 _ I1 q1) fun iv s2 hh9 => ?_))
  obtain ⟨y, H2, I2, r2, q2⟩ := hh9
  refine wpAny_bind (wpAny_standAt (wpAny_bind (wpAny_holding (thn (hs pins s2 σ H2 x y v ov iv u _ I2 r1 r2 r q2) fun _ s3 hh9 => ?_))))
  obtain ⟨H3, I3, q3⟩ := hh9
  exact wpAny_release ⟨σ, H3, I3, q3⟩
noncomputable def tAsg (te : TE) (g : TG) : TS := fun D σ H => te σ H fun x H1 => g x σ H1 D.nx
theorem ztV {tg e : Expr} {te : TE} {g : TG} (he : PE X e te) (hg : PG X tg g) (hs : swapsWithSole [tg] e pos.line X.env = pure false := by rfl) (hw : swappedStores [tg] e X.env = pure none := by rfl)
    (h1 : (assignEach [tg] X.env).map (·.2) = [assign tg X.env] := by rfl) : PS X (.Assign [tg] e pos) (tAsg te g) := by
  intro pins s σ H D I h
  refine wpAny_Assign_stores (thn (he pins s σ H _ I h) fun v s1 hh9 => ?_) hs hw
  obtain ⟨x, H1, I1, r1, q1⟩ := hh9
  rw [h1]
  exact thn (hg pins s1 σ H1 x v _ I1 r1 q1) fun _ s2 q => q
theorem zna {i : Nat} {x : Str} {e : Expr} {te : TE} {pos' : Pos} (hN : X.N.Nodup) (hi : X.N[i]? = some x) (hx : Loc X.env.scope x) (he : PE X e te) (hs : swapsWith e (some (.Name x pos')) pos.line X.env = pure false := by rfl) (hf : X.fn x = true ∨ X.env.scope.names.lookup x = some .local := by first | exact .inl rfl | exact .inr rfl | assumption) :
    PS X (.Assign [.Name x pos'] e pos) (tAsg te (zbQ i)) := by
  intro pins s σ H D I h
  refine wpAny_Assign_Name (thn (he pins s σ H _ I h) fun v s1 hh9 => ?_) hs
  obtain ⟨y, H1, I1, r1, q1⟩ := hh9
  exact zm8 I1 hN hi hx r1 (fun s2 I2 => ⟨_, H1, I2, q1⟩) hf
end
section
variable {X : Cx} {pos : Pos}
noncomputable def zsP (c : TT) (tb : TS) : TS := fun D σ H => ∃ W : Nat → St → Hp → Prop, (∃ m, W m σ H) ∧ ∀ m σ H, W m σ H →
  c σ H fun b H1 => if b = true then ∃ N : St → Hp → Prop, (∀ σ' H', N σ' H' → ∃ m', m' < m ∧ W m' σ' H') ∧ tb { D with nx := N, ct := N, bk := D.nx } σ H1 else D.nx σ H1
theorem zqc {c : Expr} {body : List Stmt} {tc : TT} {tb : TS} (hp : PassesOwn (model X.prog X.w) X.A X.env X.xe) (hc : PT X c tc) (hb : PSs X body tb) : PS X (.While c body [] pos) (zsP tc tb) := by
  intro pins s σ H D I h
  obtain ⟨W, ⟨m0, w0⟩, turn⟩ := h
  refine wpAny_While (codeAny_whileLoop (fun n s' => ∃ σ' H', Inv X pins σ' H' s' ∧ W n σ' H') ?_ m0 ⟨σ, H, I, w0⟩)
  rintro n s1 ⟨σ1, H1, I1, w1⟩
  refine wpAny_passesOwn hp (thn (hc pins s1 σ1 H1 _ I1 (turn n σ1 H1 w1)) fun b s2 hh9 => ?_)
  obtain ⟨H2, I2, q2⟩ := hh9
  cases b with
  | true =>
    obtain ⟨N, hN, q2⟩ := q2
    rw [if_pos rfl]
    refine wpAny_passesOwn hp (thn (hb pins s2 σ1 H2 _ I2 q2) fun f s3 q3 => ?_)
    cases f with
    | next =>
      obtain ⟨σ3, H3, I3, n3⟩ := q3
      obtain ⟨m', hm, w3⟩ := hN σ3 H3 n3
      exact ⟨m', hm, σ3, H3, I3, w3⟩
    | cont =>
      obtain ⟨σ3, H3, I3, n3⟩ := q3
      obtain ⟨m', hm, w3⟩ := hN σ3 H3 n3
      exact ⟨m', hm, σ3, H3, I3, w3⟩
    | brk => exact q3
    | ret v => exact q3
  | false =>
    rw [if_neg Bool.false_ne_true]
    exact wpAny_execs_nil ⟨σ1, H2, I2, q2⟩
end
structure It where
  go : Nat → Hp → Prop
  yld : Nat → Hp → V → Hp → Prop
  stop : Nat → Hp → Prop
noncomputable def zne (X : Cx) (pins : List (Addr × Obj)) (H : Hp) (b : Addr) : Prop :=
  H b = none ∧ b ≠ X.env.locals ∧ b ∉ X.fs ∧ (b ∈ X.ex ∨ X.s₀.heap.objs.size ≤ b) ∧ (∀ x c, X.env.cells.lookup x = some c → c ≠ b) ∧ ∀ p ∈ X.pn ++ pins, p.1 ≠ b
theorem Inv.fpOk {X : Cx} {pins : List (Addr × Obj)} {σ : St} {H H' : Hp} {s : Shared} {b : Addr} (I : Inv X pins σ H s) (hb : s.heap.objs.size ≤ b) (hn : H' b = none) : zne X pins H' b := by
  refine ⟨hn, Nat.ne_of_gt (Nat.lt_of_lt_of_le I.lt hb), I.nofs hb, .inr (Nat.le_trans I.sz hb), fun x c e z => ?_, fun p hp z => ?_⟩
  · obtain ⟨v, q⟩ := I.cell x c e
    exact absurd (Nat.lt_of_lt_of_le q.lt (by rw [z]; exact hb)) (Nat.lt_irrefl _)
  · exact absurd (Nat.lt_of_lt_of_le (Heap.lt_size (I.pin p hp).1) (by rw [z]; exact hb)) (Nat.lt_irrefl _)
set_option genInjectivity false in
set_option genSizeOf false in
set_option genCtorIdx false in
structure zqX (P : Program) (w : World) (K : PySem.W.Frag) (tg : Expr) (J : It) (fp : List Addr) (it : Addr) (tn : Nat → Heap → Prop) : Prop where
  mem : it ∈ fp
  obj : ∀ i h, tn i h → ∀ b ∈ fp, ∃ o, h.get? b = some o ∧ ∀ v, o.data ≠ .cell v
  keep : ∀ i h h', tn i h → (∀ b ∈ fp, ∀ o, h.get? b = some o → h'.get? b = some o) → tn i h'
  item : ∀ (X : Cx), X.prog = P → X.w = w → X.K = K → X.calm = true → ∀ (i : Nat) (pins : List (Addr × Obj)) (s : Shared) (σ : St) (H : Hp) (E : Value → Shared → Prop), Inv X pins σ H s → (∀ b ∈ fp, zne X pins H b) → tn i s.heap → J.go i H →
    wpAny (model P w) X.A (pyNext (.ref it)) (fun r s1 => ∃ u, r = some u ∧
      wpAny (model P w) X.A (letOwnedTupleGo tg (.ref it) u) (fun _ s2 => ∃ x H', Inv X pins σ H' s2 ∧ yY x u ∧ J.yld i H x H' ∧ tn (i + 1) s2.heap ∧ ∀ b ∈ fp, H' b = none) E s1) E s
  done : ∀ (X : Cx), X.prog = P → X.w = w → X.K = K → X.calm = true → ∀ (i : Nat) (pins : List (Addr × Obj)) (s : Shared) (σ : St) (H : Hp) (E : Value → Shared → Prop), Inv X pins σ H s → (∀ b ∈ fp, zne X pins H b) → tn i s.heap → J.stop i H →
    wpAny (model P w) X.A (pyNext (.ref it)) (fun r s1 => r = none ∧ Inv X pins σ H s1) E s
  self : ∀ (A : Around) (i : Nat) (s : Shared) (Q : Value → Shared → Prop) (E : Value → Shared → Prop), tn i s.heap → Q (.ref it) s → wpAny (model P w) A (pyIter (.ref it)) Q E s
noncomputable abbrev TI := St → Hp → (It → Hp → Prop) → Prop
noncomputable def PIE (X : Cx) (pins : List (Addr × Obj)) (σ : St) (tg : Expr) (R : It → Hp → Prop) (itv : Value) (s2 : Shared) : Prop :=
  ∃ (it : Addr) (fp : List Addr) (tn : Nat → Heap → Prop) (J : It) (H' : Hp), itv = .ref it ∧ Inv X pins σ H' s2 ∧ zqX X.prog X.w X.K tg J fp it tn ∧ tn 0 s2.heap ∧ (∀ b ∈ fp, zne X pins H' b) ∧ R J H'
noncomputable def PI (X : Cx) (tg iter : Expr) (wi : TI) : Prop :=
  ∀ (pins : List (Addr × Obj)) (s : Shared) (σ : St) (H : Hp) (R : It → Hp → Prop), Inv X pins σ H s → wi σ H R →
    wpAny (model X.prog X.w) X.A (eval iter X.env) (fun v s1 => wpAny (model X.prog X.w) X.A (pyIter v) (PIE X pins σ tg R) X.xe s1) X.xe s
theorem zp9 {M : Model} {A : Around} {E : Value → Shared → Prop} {s : Shared} {tg : Expr} {it : Addr} {u : Value} {o : Obj} {n : String} {vs : Array Value} {Q : Unit → Shared → Prop} (ho : s.heap.get? it = some o) (hc : o.cls = .type n) (hd : o.data = .fields vs)
    (hn : ["enumerate", "zip", "dict_itemiterator", "dict_reverseitemiterator", "odict_iterator", "itertools.zip_longest", "itertools.pairwise"].contains n = false) (hQ : Q () s) : wpAny M A (letOwnedTupleGo tg (.ref it) u) Q E s := by
  unfold letOwnedTupleGo
  cases tg <;> first
    | exact wpAny_pure hQ
    | (cases u <;> first
        | exact wpAny_pure hQ
        | (refine wpAny_bind (wpAny_load ho ?_)
           rw [hc, hd]
           show wpAny M A (if (["enumerate", "zip", "dict_itemiterator", "dict_reverseitemiterator", "odict_iterator", "itertools.zip_longest", "itertools.pairwise"].contains n && vs[0]? == some (rawInt _)) = true then _ else _) Q E s
           rw [if_neg (by intro h; rw [hn, Bool.false_and] at h; cases h)]
           exact wpAny_pure hQ))
noncomputable def Itl (K : PySem.W.Frag) (a : Addr) : It :=
  ⟨fun i H => ∃ xs x, SqL K H a xs ∧ xs[i]? = some x, fun i H x H' => H' = H ∧ ∀ xs, SqL K H a xs → xs[i]? = some x, fun i H => ∃ xs, SqL K H a xs ∧ xs.length ≤ i⟩
noncomputable def Itt (K : PySem.W.Frag) (a : Addr) : It :=
  ⟨fun i H => ∃ xs x, SqT K H a xs ∧ xs[i]? = some x, fun i H x H' => H' = H ∧ ∀ xs, SqT K H a xs → xs[i]? = some x, fun i H => ∃ xs, SqT K H a xs ∧ xs.length ≤ i⟩
noncomputable def Itr (lo : Int) (n : Nat) : It := ⟨fun i _ => i < n, fun i H x H' => H' = H ∧ x = .int (lo + i), fun i _ => n ≤ i⟩
theorem zot {P : Program} {w : World} {K : PySem.W.Frag} {tg : Expr} (a it : Addr) : zqX P w K tg (Itl K a) [it] it (fun i h => h.IsListIter it a i) where
  mem := by simp
  obj := fun i h st b hb => by
    have e : b = it := by simpa using hb
    subst e
    obtain ⟨o, e, c, d⟩ := st
    exact ⟨o, e, fun v z => by rw [d] at z; cases z⟩
  keep := fun i h h' st k => st.at fun o e => k it (by simp) o e
  item := by
    intro X hP hw hK hc i pins s σ H E I hf st hg
    subst hP hw hK
    obtain ⟨xs, x, hq, hx⟩ := hg
    obtain ⟨its, rv, p, hz⟩ := I.list hq
    obtain ⟨u, hu, ru⟩ := rv.get hx
    obtain ⟨f0, f1, f2, f3, f4, f5⟩ := hf it (by simp)
    refine wpAny_pyNext_list_item st p.isList (x := u) (by simpa using hu) fun h' st' sb => ?_
    have I1 : Inv X pins σ H { s with heap := h' } := I.turned (t' := s.toks) (fun b o hb e => (sb.2 b hb).trans e) f0 f1 f3 f4 f5
    obtain ⟨o, e, c, d⟩ := id st'
    exact ⟨u, rfl, zp9 (s := { s with heap := h' }) e c d (by decide) ⟨x, H, I1, ru, ⟨rfl, fun ys hy => by rw [I.list_inj hy hq]; exact hx⟩, st', fun b hb => (hf b hb).1⟩⟩
  done := by
    intro X hP hw hK hc i pins s σ H E I hf st hg
    subst hP hw hK
    obtain ⟨xs, hq, hx⟩ := hg
    obtain ⟨its, rv, p, hz⟩ := I.list hq
    obtain ⟨f0, f1, f2, f3, f4, f5⟩ := hf it (by simp)
    have hl := rv.length
    exact wpAny_pyNext_list_end (I.ok.hd hc) st p.isList (by simp; omega) fun h' eb => ⟨rfl, I.turned (t' := s.toks) (fun b o hb e => eb b o hb e) f0 f1 f3 f4 f5⟩
  self := fun _ _ _ _ _ st h => wpAny_pyIter_listiter st h
theorem znN {P : Program} {w : World} {K : PySem.W.Frag} {tg : Expr} (a it : Addr) : zqX P w K tg (Itt K a) [it] it (fun i h => h.IsTupleIter it a i) where
  mem := by simp
  obj := fun i h st b hb => by
    have e : b = it := by simpa using hb
    subst e
    obtain ⟨o, e, c, d⟩ := st
    exact ⟨o, e, fun v z => by rw [d] at z; cases z⟩
  keep := fun i h h' st k => st.at fun o e => k it (by simp) o e
  item := by
    intro X hP hw hK hc i pins s σ H E I hf st hg
    subst hP hw hK
    obtain ⟨xs, x, hq, hx⟩ := hg
    obtain ⟨its, rv, p, hz⟩ := I.tuple hq
    obtain ⟨u, hu, ru⟩ := rv.get hx
    obtain ⟨f0, f1, f2, f3, f4, f5⟩ := hf it (by simp)
    refine wpAny_pyNext_tuple_item st (show s.heap.IsTuple a its.toArray from p) (x := u) (by simpa using hu) fun h' st' sb => ?_
    have I1 : Inv X pins σ H { s with heap := h' } := I.turned (t' := s.toks) (fun b o hb e => (sb.2 b hb).trans e) f0 f1 f3 f4 f5
    obtain ⟨o, e, c, d⟩ := id st'
    exact ⟨u, rfl, zp9 (s := { s with heap := h' }) e c d (by decide) ⟨x, H, I1, ru, ⟨rfl, fun ys hy => by rw [I.tuple_inj hy hq]; exact hx⟩, st', fun b hb => (hf b hb).1⟩⟩
  done := by
    intro X hP hw hK hc i pins s σ H E I hf st hg
    subst hP hw hK
    obtain ⟨xs, hq, hx⟩ := hg
    obtain ⟨its, rv, p, hz⟩ := I.tuple hq
    obtain ⟨f0, f1, f2, f3, f4, f5⟩ := hf it (by simp)
    have hl := rv.length
    exact wpAny_pyNext_tuple_end (I.ok.hd hc) st (show s.heap.IsTuple a its.toArray from p) (by simp; omega) fun h' eb => ⟨rfl, I.turned (t' := s.toks) (fun b o hb e => eb b o hb e) f0 f1 f3 f4 f5⟩
  self := fun _ _ _ _ _ st h => wpAny_pyIter_tupleiter st h
theorem znT {P : Program} {w : World} {K : PySem.W.Frag} {tg : Expr} (it : Addr) (lo : Int) (n : Nat) : zqX P w K tg (Itr lo n) [it] it (fun i h => IsRangeIter h it (lo + (i : Nat) * 1) ((n : Int) - (i : Nat)) 1) where
  mem := by simp
  obj := fun i h st b hb => by
    have e : b = it := by simpa using hb
    subst e
    exact ⟨_, st, fun v z => by
      have z' : Data.fields _ = Data.cell v := z
      cases z'⟩
  keep := fun i h h' st k => k it (by simp) _ st
  item := by
    intro X hP hw hK hc i pins s σ H E I hf st hg
    subst hP hw hK
    obtain ⟨f0, f1, f2, f3, f4, f5⟩ := hf it (by simp)
    have W := Walks.range (prog := X.prog) (w := X.w) (I.ok.hd hc) it lo 1 n
    refine W.item i s _ _ hg st fun v h' tk hv st' kk => ?_
    obtain ⟨t, rfl⟩ := hv
    have I1 : Inv X pins σ H { s with heap := h', toks := tk } := I.turned (fun b o hb e => kk b o (by simpa using hb) e) f0 f1 f3 f4 f5
    refine ⟨_, rfl, zp9 (s := { s with heap := h', toks := tk }) (n := "range_iterator") st' rfl rfl (by decide) ⟨.int (lo + i), H, I1, ⟨t, ?_⟩, ⟨rfl, rfl⟩, st', fun b hb => (hf b hb).1⟩⟩
    rw [Int.mul_one]
  done := by
    intro X hP hw hK hc i pins s σ H E I hf st hg
    subst hP hw hK
    obtain ⟨f0, f1, f2, f3, f4, f5⟩ := hf it (by simp)
    exact wpAny_pyNext_range_end (I.ok.hd hc) st (by have : n ≤ i := hg; omega) fun h' eb => ⟨rfl, I.turned (t' := s.toks) (fun b o hb e => eb b o hb e) f0 f1 f3 f4 f5⟩
  self := fun _ _ _ _ _ st h => wpAny_pyIter_rangeiter st h
end L2
namespace L2
open PySem PySem.Spec PyProof.Rows
section
variable {X : Cx} {tg : Expr}
theorem znh {pins : List (Addr × Obj)} {σ : St} {H : Hp} {s : Shared} {R : It → Hp → Prop} {E : Value → Shared → Prop} {lo hi : Int} {t u v : Tok} {tk : Nat} (I : Inv X pins σ H s) (h1 : -(2 ^ 62) ≤ lo) (h2 : lo < 2 ^ 62) (h3 : -(2 ^ 62) ≤ hi) (h4 : hi < 2 ^ 62)
    (q : R (Itr lo (hi - lo).toNat) H) : wpAny (model X.prog X.w) X.A (pyIter (.ref s.heap.objs.size)) (PIE X pins σ tg R) E { s with heap := s.heap.push { cls := .type "range", data := .fields #[.int lo t, .int hi u, .int 1 v] }, toks := tk } := by
  refine wpAny_pyIter_range (IsRange.new ..) (small_one h1 h2 h3 h4) ?_
  have I1 : Inv X pins σ H { s with heap := s.heap.push { cls := .type "range", data := .fields #[.int lo t, .int hi u, .int 1 v] }, toks := tk } := I.kept fun b o e => Heap.get?_push_of_some _ e
  refine ⟨(s.heap.push { cls := .type "range", data := .fields #[.int lo t, .int hi u, .int 1 v] }).objs.size, [(s.heap.push { cls := .type "range", data := .fields #[.int lo t, .int hi u, .int 1 v] }).objs.size], _, _, H, rfl,
    I1.kept (t' := tk) fun b o e => Heap.get?_push_of_some _ e, znT _ lo (hi - lo).toNat, ?_, fun b hb => ?_, q⟩
  · have e1 : lo + ((0 : Nat) : Int) * 1 = lo := by simp
    have e2 : (((hi - lo).toNat : Nat) : Int) - ((0 : Nat) : Int) = Builtin.Range.rangeSize lo hi 1 := by rw [rangeSize_one]; split <;> omega
    show IsRangeIter _ _ (lo + ((0 : Nat) : Int) * 1) ((((hi - lo).toNat : Nat) : Int) - ((0 : Nat) : Int)) 1
    rw [e1, e2]
    exact Heap.get?_push_size _ rfl
  · have e : b = (s.heap.push { cls := .type "range", data := .fields #[.int lo t, .int hi u, .int 1 v] }).objs.size := by simpa using hb
    subst e
    exact I1.fpOk (Nat.le_refl _) (I1.hok.fresh (Nat.le_refl _))
noncomputable def zuV (ta : TA) : TI := fun σ H R => ta σ H fun vs H1 => ∃ j : Int, vs = [.int j] ∧ -(2 ^ 62) ≤ j ∧ j < 2 ^ 62 ∧ R (Itr 0 j.toNat) H1
noncomputable def zuN (ta : TA) : TI := fun σ H R => ta σ H fun vs H1 => ∃ i j : Int, vs = [.int i, .int j] ∧ (-(2 ^ 62) ≤ i ∧ i < 2 ^ 62 ∧ -(2 ^ 62) ≤ j ∧ j < 2 ^ 62) ∧ R (Itr i (j - i).toNat) H1
theorem zlf {a : Expr} {ta : TA} {p pos : Pos} (hg : Gl X "range") (hm : X.mg "range" = none) (ha : PA X [a] ta) (hs : starEach [a] X.env = [(false, eval a X.env)] := by rfl) : PI X tg (.Call (.Name "range" p) [a] [] pos) (zuV ta) := by
  intro pins s σ H R I h
  refine Call_ (Vk I hg hm boot_range (PyProof.Rows.callWith_type1 (thn (ha pos pins s σ H _ I h) fun us s1 hh9 => ?_) hs rfl))
  obtain ⟨vs, H1, I1, r1, q1⟩ := hh9
  obtain ⟨j, e, q1, q2, q⟩ := q1
  subst e
  cases r1 with
  | cons r rr =>
    cases rr
    obtain ⟨t, rfl⟩ := r
    exact call_range_1 (znh I1 (by omega) (by omega) q1 q2 (by simpa using q))
theorem zk3 {a b : Expr} {ta : TA} {p pos : Pos} (hg : Gl X "range") (hm : X.mg "range" = none) (ha : PA X [a, b] ta) (hs : starEach [a, b] X.env = [(false, eval a X.env), (false, eval b X.env)] := by rfl) (hs2 : starEach [b] X.env = [(false, eval b X.env)] := by rfl) :
    PI X tg (.Call (.Name "range" p) [a, b] [] pos) (zuN ta) := by
  intro pins s σ H R I h
  refine Call_ (Vk I hg hm boot_range (PyProof.Rows.callWith_type1 (thn (ha pos pins s σ H _ I h) fun us s1 hh9 => ?_) (by rw [hs, hs2]) (by rw [hs2]; rfl)))
  obtain ⟨vs, H1, I1, r1, q1⟩ := hh9
  obtain ⟨i, j, e, ⟨q1, q2, q3, q4⟩, q⟩ := q1
  subst e
  cases r1 with
  | cons r rr =>
    cases rr with
    | cons r' rr =>
      cases rr
      obtain ⟨t, rfl⟩ := r
      obtain ⟨t', rfl⟩ := r'
      exact call_range_2 (znh I1 q1 q2 q3 q4 q)
noncomputable def tFor (wi : TI) (g : TG) (tb : TS) : TS := fun D σ H => wi σ H fun J H1 => ∃ W : Nat → Nat → St → Hp → Prop, (∃ m, W 0 m σ H1) ∧ ∀ i m σ H, W i m σ H →
  (J.stop i H ∧ D.nx σ H) ∨ (J.go i H ∧ ∃ N : St → Hp → Prop, (∀ σ' H', N σ' H' → ∃ m', m' < m ∧ W (i + 1) m' σ' H') ∧ ∀ x H', J.yld i H x H' → g x σ H' fun σ2 H2 => tb { D with nx := N, ct := N, bk := D.nx } σ2 H2)
noncomputable def zcY (fp : List Addr) (h : Heap) : List (Addr × Obj) := fp.filterMap fun b => (h.get? b).map fun o => (b, o)
theorem Ve {fp : List Addr} {h : Heap} {b : Addr} {o : Obj} (hb : b ∈ fp) (e : h.get? b = some o) : (b, o) ∈ zcY fp h := List.mem_filterMap.mpr ⟨b, hb, by rw [e]; rfl⟩
theorem zoW {fp : List Addr} {h : Heap} {p : Addr × Obj} (hp : p ∈ zcY fp h) : p.1 ∈ fp ∧ h.get? p.1 = some p.2 := by
  obtain ⟨b, hb, e⟩ := List.mem_filterMap.mp hp
  cases q : h.get? b with
  | none => rw [q] at e; cases e
  | some o =>
    rw [q] at e
    have e' : (b, o) = p := Option.some.inj e
    subst e'
    exact ⟨hb, q⟩
theorem Inv.pinned {pins : List (Addr × Obj)} {σ : St} {H : Hp} {s : Shared} {fp : List Addr} (I : Inv X pins σ H s) (hf : ∀ b ∈ fp, zne X pins H b) (ho : ∀ b ∈ fp, ∃ o, s.heap.get? b = some o ∧ ∀ v, o.data ≠ .cell v) : Inv X (pins ++ zcY fp s.heap) σ H s :=
  I.pins_of fun p hp => (List.mem_append.mp hp).elim (fun z => I.pin p (List.mem_append_right _ z)) fun z => by
    obtain ⟨hb, e⟩ := zoW z
    obtain ⟨f0, f1, f2, _⟩ := hf p.1 hb
    obtain ⟨o, e', d⟩ := ho p.1 hb
    rw [e] at e'; cases e'
    exact ⟨e, f0, f1, f2, d⟩
theorem Inv.unpinned {pins pl : List (Addr × Obj)} {σ : St} {H : Hp} {s : Shared} (I : Inv X (pins ++ pl) σ H s) : Inv X pins σ H s := I.pins_of fun p hp => I.pin p (List.mem_append_right _ (List.mem_append_left _ hp))
theorem zo7 {iter : Expr} {body : List Stmt} {wi : TI} {g : TG} {tb : TS} {pos : Pos} (hp : PassesOwn (model X.prog X.w) X.A X.env X.xe) (hc : X.calm = true) (hi : PI X tg iter wi) (hg : PG X tg g) (hb : PSs X body tb)
    (hs : ∀ x, foldedSetIterable iter X.env x = pure x := by intro _; rfl) : PS X (.For tg iter body [] pos) (tFor wi g tb) := by
  intro pins s σ H D I h
  refine wpAny_For (thn (hi pins s σ H _ I h) fun v s1 h1 => thn h1 fun itv s2 h2 => ?_) hs
  obtain ⟨it, fp, tn, J, H2, e, I2, T, st2, f2, W, ⟨m0, w0⟩, turn⟩ := h2
  subst e
  -- what stays true of the iterator's objects through the loop
  have stat : ∀ {H' : Hp}, (∀ b ∈ fp, H' b = none) → ∀ b ∈ fp, zne X pins H' b := fun hn b hb => ⟨hn b hb, (f2 b hb).2⟩
  refine codeAny_forLoop_any (fun n s' => ∃ i σ' H', Inv X pins σ' H' s' ∧ tn i s'.heap ∧ (∀ b ∈ fp, H' b = none) ∧ W i n σ' H') ?_ m0 ⟨0, σ, H2, I2, st2, fun b hb => (f2 b hb).1, w0⟩
  rintro n s3 ⟨i, σ3, H3, I3, st3, fr3, w3⟩
  rcases turn i n σ3 H3 w3 with ⟨stop, qn⟩ | ⟨go, N, hN, step⟩
  · refine wpAny_passesOwn hp (thn (T.done X rfl rfl rfl hc i pins s3 σ3 H3 X.xe I3 (stat fr3) st3 stop) fun r s4 hh9 => ?_)
    obtain ⟨hr, I4⟩ := hh9
    subst hr
    exact wpAny_execs_nil ⟨σ3, H3, I4, qn⟩
  · refine wpAny_passesOwn hp (thn (T.item X rfl rfl rfl hc i pins s3 σ3 H3 X.xe I3 (stat fr3) st3 go) fun r s4 hh9 => ?_)
    obtain ⟨u, hr, h4⟩ := hh9
    subst hr
    refine wpAny_passesOwn hp (thn h4 fun _ s5 hh9 => ?_)
    obtain ⟨x, H5, I5, r5, y5, st5, fr5⟩ := hh9
    have I5' := I5.pinned (stat fr5) (T.obj _ _ st5)
    refine wpAny_passesOwn hp (thn (hg _ s5 σ3 H5 x u _ I5' r5 (step x H5 y5)) fun _ s6 hh9 => ?_)
    obtain ⟨σ6, H6, I6, q6⟩ := hh9
    refine wpAny_passesOwn hp (thn (hb _ s6 σ6 H6 _ I6 q6) fun f s7 q7 => ?_)
    have again : ∀ {σ7 : St} {H7 : Hp}, Inv X (pins ++ zcY fp s5.heap) σ7 H7 s7 → N σ7 H7 → ∃ m, m < n ∧ ∃ i σ' H', Inv X pins σ' H' s7 ∧ tn i s7.heap ∧ (∀ b ∈ fp, H' b = none) ∧ W i m σ' H' := fun {σ7 H7} I7 n7 => by
      obtain ⟨m', hm, w7⟩ := hN σ7 H7 n7
      refine ⟨m', hm, i + 1, σ7, H7, I7.unpinned, T.keep _ _ _ st5 fun b hb o e => (I7.pin (b, o) (List.mem_append_right _ (List.mem_append_right _ (Ve hb e)))).1, fun b hb => ?_, w7⟩
      obtain ⟨o, e, d⟩ := T.obj _ _ st5 b hb
      exact (I7.pin (b, o) (List.mem_append_right _ (List.mem_append_right _ (Ve hb e)))).2.1
    cases f with
    | next => obtain ⟨σ7, H7, I7, n7⟩ := q7; exact again I7 n7
    | cont => obtain ⟨σ7, H7, I7, n7⟩ := q7; exact again I7 n7
    | brk => obtain ⟨σ7, H7, I7, q7⟩ := q7; exact ⟨σ7, H7, I7.unpinned, q7⟩
    | ret v => obtain ⟨x7, σ7, H7, I7, r7, q7⟩ := q7; exact ⟨x7, σ7, H7, I7.unpinned, r7, q7⟩
end
end L2
namespace L2
open PySem PySem.Spec PyProof.Rows
noncomputable abbrev R2 := V → V → Hp → VK → Prop
noncomputable def OpR (X : Cx) (f : Value → Value → Sem Value) (r : R2) : Prop :=
  ∀ (pins : List (Addr × Obj)) (s : Shared) (σ : St) (H : Hp) (x y : V) (v u : Value) (Q : VK), Inv X pins σ H s → yY x v → yY y u → r x y H Q →
    wpAny (model X.prog X.w) X.A (f v u) (EP X pins σ Q) X.xe s
noncomputable def VH (X : Cx) (f : Value) (r : List V → Hp → VK → Prop) : Prop :=
  ∀ (pins : List (Addr × Obj)) (s : Shared) (σ : St) (H : Hp) (xs : List V) (us : List Value) (Q : VK), Inv X pins σ H s → yG xs us → r xs H Q →
    wpAny (model X.prog X.w) X.A (call f us) (EP X pins σ Q) X.xe s
noncomputable def tOp (r : R2) (ta tb : TE) : TE := fun σ H Q => ta σ H fun x H1 => tb σ H1 fun y H2 => r x y H2 Q
noncomputable def rI (C : Int → Int → Prop) (g : Int → Int → V) : R2 := fun x y H Q => ∃ i j, x = .int i ∧ y = .int j ∧ C i j ∧ Q (g i j) H
noncomputable def rI0 (g : Int → Int → V) : R2 := fun x y H Q => ∃ i j, x = .int i ∧ y = .int j ∧ Q (g i j) H
section
variable {X : Cx} {a b c : Expr} {ta tb tc : TE} {pos : Pos}
theorem zvp (ha : PE X a ta) (hb : PE X b tb) {pins : List (Addr × Obj)} {s : Shared} {σ : St} {H : Hp} {R : V → V → Hp → Prop} (I : Inv X pins σ H s)
    (h : ta σ H fun x H1 => tb σ H1 fun y H2 => R x y H2) {Q : Value → Shared → Prop} {f : Value → Value → Sem Value}
    (hf : ∀ v u s2 x y H2, Inv X pins σ H2 s2 → yY x v → yY y u → R x y H2 → wpAny (model X.prog X.w) X.A (f v u) Q X.xe s2) :
    wpAny (model X.prog X.w) X.A (eval a X.env) (fun v s₁ => wpAny (model X.prog X.w) X.A (eval b X.env) (fun u s₂ => wpAny (model X.prog X.w) X.A (f v u) Q X.xe s₂) X.xe s₁) X.xe s := by
  refine thn (ha pins s σ H _ I h) fun v s1 hh9 => ?_
  obtain ⟨x, H1, I1, r1, q1⟩ := hh9
  refine thn (hb pins s1 σ H1 _ I1 q1) fun u s2 hh9 => ?_
  obtain ⟨y, H2, I2, r2, q2⟩ := hh9
  exact hf v u s2 x y H2 I2 r1 r2 q2
theorem zt3 {op : Operator} {r : R2} (ho : OpR X (binaryOp op) r) (ha : PE X a ta) (hb : PE X b tb) : PE X (.BinOp a op b pos) (tOp r ta tb) := by
  intro pins s σ H Q I h
  exact wpAny_BinOp (zvp ha hb I h fun v u s2 x y H2 I2 rx ry q => ho pins s2 σ H2 x y v u Q I2 rx ry q)
theorem opI {f : Value → Value → Sem Value} {C : Int → Int → Prop} {g : Int → Int → Int}
    (rule : ∀ (i j : Int) (t u : Tok) (s : Shared) (Q : Value → Shared → Prop) (E : Value → Shared → Prop), C i j → Q (.int (g i j) s.toks) { s with toks := s.toks + 1 } → wpAny (model X.prog X.w) X.A (f (.int i t) (.int j u)) Q E s) :
    OpR X f (rI C fun i j => .int (g i j)) := by
  intro pins s σ H x y v u Q I rx ry h
  obtain ⟨i, j, rfl, rfl, hc, q⟩ := h
  obtain ⟨t, rfl⟩ := rx
  obtain ⟨t', rfl⟩ := ry
  exact rule i j t t' s _ _ hc ⟨.int (g i j), H, I.tok _, ⟨_, rfl⟩, q⟩
theorem zuK {f : Value → Value → Sem Value} {g : Int → Int → Int}
    (rule : ∀ (i j : Int) (t u : Tok) (s : Shared) (Q : Value → Shared → Prop) (E : Value → Shared → Prop), Q (.int (g i j) s.toks) { s with toks := s.toks + 1 } → wpAny (model X.prog X.w) X.A (f (.int i t) (.int j u)) Q E s) :
    OpR X f (rI0 fun i j => .int (g i j)) := by
  intro pins s σ H x y v u Q I rx ry h
  obtain ⟨i, j, rfl, rfl, q⟩ := h
  obtain ⟨t, rfl⟩ := rx
  obtain ⟨t', rfl⟩ := ry
  exact rule i j t t' s _ _ ⟨.int (g i j), H, I.tok _, ⟨_, rfl⟩, q⟩
theorem zuk {f : Value → Value → Sem Value} {g : Int → Int → Bool}
    (rule : ∀ (i j : Int) (t u : Tok) (s : Shared) (Q : Value → Shared → Prop) (E : Value → Shared → Prop), Q (.bool (g i j)) s → wpAny (model X.prog X.w) X.A (f (.int i t) (.int j u)) Q E s) :
    OpR X f (rI0 fun i j => .bl (g i j)) := by
  intro pins s σ H x y v u Q I rx ry h
  obtain ⟨i, j, rfl, rfl, q⟩ := h
  obtain ⟨t, rfl⟩ := rx
  obtain ⟨t', rfl⟩ := ry
  exact rule i j t t' s _ _ ⟨.bl (g i j), H, I, rfl, q⟩
noncomputable def zu8 (i j : Int) : Prop := (-(2 ^ 64) < i ∧ i < 2 ^ 64) ∨ (-(2 ^ 64) < j ∧ j < 2 ^ 64)
theorem zu8.ok {i j : Int} (h : zu8 i j) : IntMulOk i j := by
  rcases h with ⟨h1, h2⟩ | ⟨h1, h2⟩
  · exact .of_left (intBits_le_64 h1 h2)
  · exact .of_right (intBits_le_64 h1 h2)
theorem zui : OpR X (binaryOp .Add) (rI0 fun i j => .int (i + j)) := zuK fun _ _ _ _ _ _ _ q => add_int q
theorem ztu : OpR X (binaryOp .Sub) (rI0 fun i j => .int (i - j)) := zuK fun _ _ _ _ _ _ _ q => sub_int q
theorem ztg : OpR X (binaryOp .Mult) (rI zu8 fun i j => .int (i * j)) := opI fun _ _ _ _ _ _ _ hc q => mul_int q hc.ok
theorem zs1 : OpR X (binaryOp .Mod) (rI (fun _ j => 0 < j) fun i j => .int (i % j)) := opI fun i j _ _ _ _ _ hc q => by
  have h1 : (0 : Int) < j := hc
  exact mod_int' (by omega) (by rw [Int.fmod_eq_emod_of_nonneg i (by omega)]; exact q)
theorem zt0 : OpR X (binaryOp .BitXor) (rI0 fun i j => .int (Builtin.bitXor i j)) := zuK fun _ _ _ _ _ _ _ q => xor_int q
end
noncomputable def scal : V → V → Bool
  | .non, .non => true | .non, .int _ => true | .int _, .non => true | .non, .bl _ => true | .bl _, .non => true | .non, .str _ => true | .str _, .non => true
  | .int _, .int _ => true | .bl _, .bl _ => true | .str _, .str _ => true | .byt _, .byt _ => true
  | .int _, .str _ => true | .str _, .int _ => true | .bl _, .str _ => true | .str _, .bl _ => true
  | _, _ => false
noncomputable def rEq : R2 := fun x y H Q => scal x y = true ∧ Q (.bl (decide (x = y))) H
noncomputable def rNe : R2 := fun x y H Q => scal x y = true ∧ Q (.bl (!decide (x = y))) H
theorem zpH {i j : Int} : decide (V.int i = V.int j) = (i == j) := by
  rw [Bool.eq_iff_iff]
  simp
theorem zqS {i j : Bool} : decide (V.bl i = V.bl j) = (i == j) := by
  rw [Bool.eq_iff_iff]
  simp
theorem zol {i j : Str} : decide (V.str i = V.str j) = (i == j) := by
  rw [Bool.eq_iff_iff]
  simp
theorem zox {i j : Array UInt8} : decide (V.byt i = V.byt j) = (i.toList == j.toList) := by
  rw [Bool.eq_iff_iff]
  cases i
  cases j
  simp
section
variable {X : Cx} {a b c : Expr} {ta tb tc : TE} {pos : Pos}
theorem ye {pins : List (Addr × Obj)} {σ : St} {H : Hp} {s : Shared} {Q : VK} {k k' : Bool} (I : Inv X pins σ H s) (q : Q (.bl k) H) (e : k = k') : EP X pins σ Q (.bool k') s := by
  subst e
  exact ⟨.bl k, H, I, rfl, q⟩
theorem zuA : OpR X (compareOp .Eq) rEq := by
  intro pins s σ H x y v u Q I rx ry h
  obtain ⟨hs, q⟩ := h
  cases x with
  | non =>
    cases rx
    cases y with
    | non => cases ry; exact PySem.EqNone.eq_none_none (ye I q (by simp))
    | bl j => cases ry; exact PySem.EqNone.eq_none_bool (ye I q (by simp))
    | int j => obtain ⟨t', rfl⟩ := ry; exact PySem.EqNone.eq_none_int (ye I q (by simp))
    | str j => obtain ⟨t', rfl⟩ := ry; exact PySem.EqNone.eq_none_str (ye I q (by simp))
    | _ => exact absurd (show false = true from hs) Bool.false_ne_true
  | bl i =>
    cases rx
    cases y with
    | non => cases ry; exact PySem.EqNone.eq_bool_none (ye I q (by simp))
    | bl j => cases ry; exact eq_bool (ye I q zqS)
    | str j => obtain ⟨t', rfl⟩ := ry; exact PySem.EqMixed.eq_bool_str (ye I q (by simp))
    | _ => exact absurd (show false = true from hs) Bool.false_ne_true
  | int i =>
    obtain ⟨t, rfl⟩ := rx
    cases y with
    | non => cases ry; exact PySem.EqNone.eq_int_none (ye I q (by simp))
    | int j => obtain ⟨t', rfl⟩ := ry; exact eq_int (ye I q zpH)
    | str j => obtain ⟨t', rfl⟩ := ry; exact PySem.EqMixed.eq_int_str (ye I q (by simp))
    | _ => exact absurd (show false = true from hs) Bool.false_ne_true
  | str i =>
    obtain ⟨t, rfl⟩ := rx
    cases y with
    | non => cases ry; exact PySem.EqNone.eq_str_none (ye I q (by simp))
    | bl j => cases ry; exact PySem.EqMixed.eq_str_bool (ye I q (by simp))
    | int j => obtain ⟨t', rfl⟩ := ry; exact PySem.EqMixed.eq_str_int (ye I q (by simp))
    | str j => obtain ⟨t', rfl⟩ := ry; exact eq_str (ye I q zol)
    | _ => exact absurd (show false = true from hs) Bool.false_ne_true
  | byt i =>
    obtain ⟨t, rfl⟩ := rx
    cases y with
    | byt j => obtain ⟨t', rfl⟩ := ry; exact PySem.W.eq_bytes (ye I q zox)
    | _ => exact absurd (show false = true from hs) Bool.false_ne_true
  | _ => cases y <;> exact absurd (show false = true from hs) Bool.false_ne_true
theorem zmz : OpR X (compareOp .NotEq) rNe := by
  intro pins s σ H x y v u Q I rx ry h
  obtain ⟨hs, q⟩ := h
  cases x with
  | non =>
    cases rx
    cases y with
    | non => cases ry; exact PySem.EqNone.ne_none_none (ye I q (by simp))
    | bl j => cases ry; exact PySem.EqNone.ne_none_bool (ye I q (by simp))
    | int j => obtain ⟨t', rfl⟩ := ry; exact PySem.EqNone.ne_none_int (ye I q (by simp))
    | str j => obtain ⟨t', rfl⟩ := ry; exact PySem.EqNone.ne_none_str (ye I q (by simp))
    | _ => exact absurd (show false = true from hs) Bool.false_ne_true
  | bl i =>
    cases rx
    cases y with
    | non => cases ry; exact PySem.EqNone.ne_bool_none (ye I q (by simp))
    | bl j => cases ry; exact ne_bool (ye I q (congrArg not zqS))
    | str j => obtain ⟨t', rfl⟩ := ry; exact PySem.EqMixed.ne_bool_str (ye I q (by simp))
    | _ => exact absurd (show false = true from hs) Bool.false_ne_true
  | int i =>
    obtain ⟨t, rfl⟩ := rx
    cases y with
    | non => cases ry; exact PySem.EqNone.ne_int_none (ye I q (by simp))
    | int j => obtain ⟨t', rfl⟩ := ry; exact ne_int (ye I q (congrArg not zpH))
    | str j => obtain ⟨t', rfl⟩ := ry; exact PySem.EqMixed.ne_int_str (ye I q (by simp))
    | _ => exact absurd (show false = true from hs) Bool.false_ne_true
  | str i =>
    obtain ⟨t, rfl⟩ := rx
    cases y with
    | non => cases ry; exact PySem.EqNone.ne_str_none (ye I q (by simp))
    | bl j => cases ry; exact PySem.EqMixed.ne_str_bool (ye I q (by simp))
    | int j => obtain ⟨t', rfl⟩ := ry; exact PySem.EqMixed.ne_str_int (ye I q (by simp))
    | str j => obtain ⟨t', rfl⟩ := ry; exact ne_str (ye I q (congrArg not zol))
    | _ => exact absurd (show false = true from hs) Bool.false_ne_true
  | byt i =>
    obtain ⟨t, rfl⟩ := rx
    cases y with
    | byt j => obtain ⟨t', rfl⟩ := ry; exact PySem.W.ne_bytes (ye I q (congrArg not zox))
    | _ => exact absurd (show false = true from hs) Bool.false_ne_true
  | _ => cases y <;> exact absurd (show false = true from hs) Bool.false_ne_true
theorem zrU : OpR X (compareOp .Lt) (rI0 fun i j => .bl (decide (i < j))) := zuk fun _ _ _ _ _ _ _ q => lt_int q
theorem zpr : OpR X (compareOp .LtE) (rI0 fun i j => .bl (decide (i ≤ j))) := zuk fun _ _ _ _ _ _ _ q => le_int q
theorem zj2 : OpR X (compareOp .Gt) (rI0 fun i j => .bl (decide (j < i))) := zuk fun _ _ _ _ _ _ _ q => gt_int q
theorem zuZ : OpR X (compareOp .GtE) (rI0 fun i j => .bl (decide (j ≤ i))) := zuk fun _ _ _ _ _ _ _ q => ge_int q
theorem ztF : OpR X (compareOp .Is) (fun x y H Q => y = .non ∧ Q (.bl (decide (x = .non))) H) := by
  intro pins s σ H x y v u Q I rx ry h
  obtain ⟨rfl, q⟩ := h
  cases ry
  refine is_none_gen (ye I q ?_)
  cases x <;> first
    | (cases rx; rfl)
    | (obtain ⟨t, rfl⟩ := rx; rfl)
theorem zrw : OpR X (compareOp .IsNot) (fun x y H Q => y = .non ∧ Q (.bl (!decide (x = .non))) H) := by
  intro pins s σ H x y v u Q I rx ry h
  obtain ⟨rfl, q⟩ := h
  cases ry
  refine isnot_none_gen (ye I q ?_)
  cases x <;> first
    | (cases rx; rfl)
    | (obtain ⟨t, rfl⟩ := rx; rfl)
theorem OpR.or {f : Value → Value → Sem Value} {r r' : R2} (h : OpR X f r) (h' : OpR X f r') : OpR X f (fun x y H Q => r x y H Q ∨ r' x y H Q) := by
  intro pins s σ H x y v u Q I rx ry q
  rcases q with q | q
  · exact h pins s σ H x y v u Q I rx ry q
  · exact h' pins s σ H x y v u Q I rx ry q
theorem zJ (b : Expr) {op : CmpOp} (h : op ≠ .In := by decide) (h2 : op ≠ .NotIn := by decide) : behindInMarks op b = false := by
  have e1 : (op == CmpOp.In) = false := by cases op <;> first | rfl | exact absurd rfl h
  have e2 : (op == CmpOp.NotIn) = false := by cases op <;> first | rfl | exact absurd rfl h2
  cases b <;> simp [behindInMarks, e1, e2]
theorem zpv {op : CmpOp} {r : R2} (ho : OpR X (compareOp op) r) (ha : PE X a ta) (hb : PE X b tb) (hm : behindInMarks op b = false) : PE X (.Compare a [op] [b] pos) (tOp r ta tb) := by
  intro pins s σ H Q I h
  exact wpAny_Compare1 (zvp ha hb I h fun v u s2 x y H2 I2 rx ry q => ho pins s2 σ H2 x y v u Q I2 rx ry q) hm
noncomputable def zt4 (t : TE) : TT := fun σ H Q => t σ H fun x H' => ∃ k, x = .bl k ∧ Q k H'
theorem zsy {op : CmpOp} {r : R2} (ho : OpR X (compareOp op) r) (ha : PE X a ta) (hb : PE X b tb) (hm : behindInMarks op b = false) : PT X (.Compare a [op] [b] pos) (zt4 (tOp r ta tb)) := by
  intro pins s σ H Q I h
  refine wpAny_isTrue_Compare1 (thn (ha pins s σ H _ I h) fun v s1 ⟨x, H1, I1, r1, q1⟩ => thn (hb pins s1 σ H1 _ I1 q1) fun u s2 ⟨y, H2, I2, r2, q2⟩ =>
    thn (ho pins s2 σ H2 x y v u _ I2 r1 r2 q2) fun c s3 ⟨z, H3, I3, r3, k, e, q3⟩ => ?_) hm
  subst e
  cases r3
  exact wpAny_truthy_bool ⟨H3, I3, q3⟩
noncomputable def zov (r r' : R2) (ta tb tc : TE) : TE := fun σ H Q => ta σ H fun x H1 => tb σ H1 fun y H2 => r x y H2 fun z H3 => ∃ k, z = .bl k ∧
  (if k = true then tc σ H3 fun w' H4 => r' y w' H4 Q else Q (.bl false) H3)
theorem zqH {op op' : CmpOp} {r r' : R2} (ho : OpR X (compareOp op) r) (ho' : OpR X (compareOp op') r') (ha : PE X a ta) (hb : PE X b tb) (hc : PE X c tc)
    (hm : lastMarks [op, op'] [b, c] = false := by with_unfolding_all rfl) : PE X (.Compare a [op, op'] [b, c] pos) (zov r r' ta tb tc) := by
  intro pins s σ H Q I h
  refine Compare_chain (thn (ha pins s σ H _ I h) fun v s1 ⟨x, H1, I1, r1, q1⟩ => chain_link (thn (hb pins s1 σ H1 _ I1 q1) fun u s2 ⟨y, H2, I2, r2, q2⟩ =>
    thn (ho pins s2 σ H2 x y v u _ I2 r1 r2 q2) fun d s3 ⟨z, H3, I3, r3, k, e, q3⟩ => ?_)) hm
  subst e
  cases r3
  refine wpAny_truthy_bool ?_
  cases k with
  | false => exact ite_ff ⟨.bl false, H3, I3, rfl, q3⟩
  | true => exact ite_tt (chain_last (thn (hc pins s3 σ H3 _ I3 q3) fun w' s4 ⟨z', H4, I4, r4, q4⟩ => ho' pins s4 σ H4 y z' u w' Q I4 r2 r4 q4))
theorem zb6 : (sizeLine : Nat) < 2 ^ 63 := by rw [sizeLine_eq]; decide
theorem znL : OpR X (binaryOp .Add) (fun x y H Q => ∃ i j, x = .str i ∧ y = .str j ∧ i.length + j.length ≤ sizeLine ∧ Q (.str (i ++ j)) H) := by
  intro pins s σ H x y v u Q I rx ry h
  obtain ⟨i, j, rfl, rfl, hz, q⟩ := h
  obtain ⟨t, rfl⟩ := rx
  obtain ⟨t', rfl⟩ := ry
  exact add_str (fun t' tk => ⟨.str (i ++ j), H, I.tok _, ⟨_, rfl⟩, q⟩) hz
theorem zcK {x : V} {us : List Value} (r : yG [x] us) : ∃ u, us = [u] ∧ yY x u := by
  cases r with
  | cons r1 r2 => cases r2; exact ⟨_, rfl, r1⟩
theorem zp8 {x y : V} {us : List Value} (r : yG [x, y] us) : ∃ u w', us = [u, w'] ∧ yY x u ∧ yY y w' := by
  cases r with
  | cons r1 r2 =>
    cases r2 with
    | cons r3 r4 => cases r4; exact ⟨_, _, rfl, r1, r3⟩
theorem zpm (hc : X.calm = true) : VH X (.builtin "max") (fun xs H Q => ∃ i j, xs = [.int i, .int j] ∧ Q (.int (if j > i then j else i)) H) := by
  intro pins s σ H xs us Q I r h
  obtain ⟨i, j, rfl, q⟩ := h
  obtain ⟨u, w', rfl, ⟨t, rfl⟩, ⟨t', rfl⟩⟩ := zp8 r
  refine max_two_ints (I.ok.hd hc) fun h' tk k => ⟨_, H, I.kept k, ?_, q⟩
  by_cases hj : j > i
  · rw [if_pos hj, if_pos hj]; exact ⟨_, rfl⟩
  · rw [if_neg hj, if_neg hj]; exact ⟨_, rfl⟩
theorem zpc (hc : X.calm = true) : VH X (.builtin "min") (fun xs H Q => ∃ i j, xs = [.int i, .int j] ∧ Q (.int (if j < i then j else i)) H) := by
  intro pins s σ H xs us Q I r h
  obtain ⟨i, j, rfl, q⟩ := h
  obtain ⟨u, w', rfl, ⟨t, rfl⟩, ⟨t', rfl⟩⟩ := zp8 r
  refine min_two_ints (I.ok.hd hc) fun h' tk k => ⟨_, H, I.kept k, ?_, q⟩
  by_cases hj : j < i
  · rw [if_pos hj, if_pos hj]; exact ⟨_, rfl⟩
  · rw [if_neg hj, if_neg hj]; exact ⟨_, rfl⟩
theorem zoY : VH X (.type "int") (fun xs H Q => (∃ i, xs = [.int i] ∧ Q (.int i) H) ∨ ∃ k, xs = [.bl k] ∧ Q (.int (if k then 1 else 0)) H) := by
  intro pins s σ H xs us Q I r h
  rcases h with ⟨i, rfl, q⟩ | ⟨k, rfl, q⟩
  · obtain ⟨u, rfl, t, rfl⟩ := zcK r
    exact call_int_int ⟨.int i, H, I, ⟨_, rfl⟩, q⟩
  · obtain ⟨u, rfl, r1⟩ := zcK r
    cases r1
    exact call_int_bool ⟨.int (if k then 1 else 0), H, I.tok _, ⟨_, rfl⟩, q⟩
end
end L2
namespace L2
open PySem PySem.Spec PyProof.Rows
set_option genInjectivity false in
set_option genSizeOf false in
set_option genCtorIdx false in
structure zve (h : Heap) (x dx C : Addr) (mA : Str → Option Value) : Prop where
  obj : h.get? x = some (PySem.W.instObj C dx)
  ns : h.Ns1 dx mA
  ne : dx ≠ x
theorem zpw {h : Heap} {dx : Addr} {mA : Str → Option Value} (n : h.Ns1 dx mA) : ∃ od, h.get? dx = some od ∧ ∀ name, PySem.W.lookIn name od = some (mA name) := by
  obtain ⟨o, es, ep, ho, hd, hk, _, hm⟩ := n
  refine ⟨o, ho, fun name => ?_⟩
  have e := hm name
  unfold nsFind findBy at e
  rw [← Array.find?_toList] at e
  unfold PySem.W.lookIn
  rw [hd]
  dsimp only
  split
  · rename_i y q
    rw [q] at e
    exact congrArg some e
  · rename_i q
    rw [q] at e
    have a : es.toList.any (·.refKey) = false := by
      rw [List.any_eq_false]
      intro y hy
      obtain ⟨z, t, hkey⟩ := hk y (Array.mem_toList_iff.mp hy)
      simp [DictEntry.refKey, hkey]
    have a' : ¬ es.toList.any (·.refKey) = true := by rw [a]; exact Bool.false_ne_true
    rw [if_neg a']
    exact congrArg some e
theorem zve.look {h : Heap} {x dx C : Addr} {mA : Str → Option Value} (I : zve h x dx C mA) : ∃ od, PySem.W.InstAt h x (PySem.W.instObj C dx) C (some od) ∧ ∀ name, PySem.W.lookIn name od = some (mA name) :=
  let ⟨od, ho, hl⟩ := zpw I.ns
  ⟨od, ⟨I.obj, rfl, rfl, ho⟩, hl⟩
section
variable {prog : Program} {w : World} {A : Around} {E : Value → Shared → Prop} {s : Shared} {K : PySem.W.Frag} {x dx C f : Addr} {mA : Str → Option Value} {name : Str} {v : Value}
end
section
variable {P : Program} {w : World} {H H' : Hp} {h h' : Heap} {a C dx : Addr} {fs fs' : List (Str × V)}
theorem zsb (hok : HOk P w H h) (e : H a = some (.ins C dx fs)) : ∃ mA, zve h a dx C mA ∧ (∀ f, zrE (fs.lookup f) (mA f)) ∧ PySem.Within mA (fs.map (·.1)) ∧ fs.length ≤ 1000 ∧ H dx = some (.own a) := by
  obtain ⟨d, z, ne, ob, mA, n, r, q⟩ := (show yV P w H h a (.ins C dx fs) from hok a _ e)
  exact ⟨mA, ⟨ob, n, ne⟩, r, q, z, d⟩
end
set_option genInjectivity false in
set_option genSizeOf false in
set_option genCtorIdx false in
structure Cls (K : PySem.W.Frag) (C : Addr) : Prop where
  pg : PySem.W.plainGet K C Str.empty = true
  hd : PySem.W.hasDictIn K C = true
  po : PySem.W.plainOver K C = true
  sa : PySem.W.findIn K (.ref C) "__setattr__" = some (some (.builtin "object.__setattr__"))
theorem Cls.get {K : PySem.W.Frag} {C : Addr} (c : Cls K C) (f : Str) : PySem.W.plainGet K C f = true := c.pg
section
variable {X : Cx} {pins : List (Addr × Obj)} {σ : St} {H : Hp} {s : Shared} {a C dx : Addr} {fs : List (Str × V)} {f : Str} {v : V} {A : Around} {E : Value → Shared → Prop}
end
section
variable {X : Cx} {o e value : Expr} {f : Str} {pos pos' tpos : Pos} {ta tv : TE}
end
section
variable {X : Cx} {pins : List (Addr × Obj)} {σ : St} {H : Hp} {s : Shared} {A : Around} {E : Value → Shared → Prop} {Q : Value → Shared → Prop} {c : Value} {b : Bool}
inductive znl (K : PySem.W.Frag) (H : Hp) : V → Value → Prop where
  | non : znl K H .non (.type "NoneType")
  | bl (x : Bool) : znl K H (.bl x) (.type "bool")
  | int (i : Int) : znl K H (.int i) (.type "int")
  | str (x : Str) : znl K H (.str x) (.type "str")
  | flt (x : UInt64) : znl K H (.flt x) (.type "float")
  | lst {a : Addr} {xs : List V} (e : H a = some (.lst xs)) : znl K H (.ref a) (.type "list")
  | frz {a : Addr} {o : Obj} {xs : List V} (e : H a = some (.frz o (.lst xs))) : znl K H (.ref a) (.type "list")
  | tup {a : Addr} {xs : List V} (e : H a = some (.tup xs)) : znl K H (.ref a) (.type "tuple")
  | dK {a : Addr} {kvs : List (Key × V)} (e : H a = some (.dK kvs)) : znl K H (.ref a) (.type "dict")
  | dT {a : Addr} {kvs : List (List Key × V)} (e : H a = some (.dT kvs)) : znl K H (.ref a) (.type "dict")
  | ins {a C dx : Addr} {fs : List (Str × V)} (e : H a = some (.ins C dx fs)) (cl : Cls K C) (ha : PySem.W.findIn K (.ref C) "__class__" = some (some (.builtin "object.__class__")))
      (hn : PySem.W.specialIn K (.builtin "object.__class__") "__get__" = some (some (.builtin "getset_descriptor.__get__"))) (htk : PySem.W.takesIn K (.builtin "object.__class__") = some true)
      (hm : PySem.W.mroIn K C (.type "object") = some true) : znl K H (.ref a) (.ref C)
theorem zo9 {x : V} {u t : Value} (I : Inv X pins σ H s) (rx : yY x u) (ty : znl X.K H x t) (e : PySem.W.kitOne X.K t c = some b) (h : ∀ tk, Q (.bool b) { s with toks := tk }) :
    wpAny (model X.prog X.w) A (call (.builtin "isinstance") [u, c]) Q E s := by
  cases ty with
  | non => cases (show u = Value.none from rx); exact PySem.W.kia_one PySem.W.kitx_none I.kIn True.intro e (fun z => nomatch z) h
  | bl y => cases (show u = Value.bool y from rx); exact PySem.W.kia_one PySem.W.kitx_bool I.kIn True.intro e (fun z => nomatch z) h
  | int i => obtain ⟨t, q⟩ := (show ∃ t, u = Value.int i t from rx); cases q; exact PySem.W.kia_one PySem.W.kitx_int I.kIn True.intro e (fun z => nomatch z) h
  | str y => obtain ⟨t, q⟩ := (show ∃ t, u = Value.str y t from rx); cases q; exact PySem.W.kia_one PySem.W.kitx_str I.kIn True.intro e (fun z => nomatch z) h
  | flt y => obtain ⟨t, q⟩ := (show ∃ t, u = Value.float y t from rx); cases q; exact PySem.W.kia_one PySem.W.kitx_float I.kIn True.intro e (fun z => nomatch z) h
  | @lst a xs ea =>
    cases (show u = Value.ref a from rx)
    obtain ⟨_, _, n, _, h1⟩ := (show yV X.prog X.w H s.heap a (.lst xs) from I.hok a _ ea)
    exact PySem.W.kia_one PySem.W.kitx_list I.kIn ⟨_, h1, rfl⟩ e (fun z => nomatch z) h
  | @frz a ob xs ea =>
    cases (show u = Value.ref a from rx)
    obtain ⟨_, _, _, n, _, h1⟩ := (show yV X.prog X.w H s.heap a (.frz ob (.lst xs)) from I.hok a _ ea)
    exact PySem.W.kia_one PySem.W.kitx_list I.kIn ⟨_, h1, rfl⟩ e (fun z => nomatch z) h
  | @tup a xs ea =>
    cases (show u = Value.ref a from rx)
    obtain ⟨_, _, _, p⟩ := (show yV X.prog X.w H s.heap a (.tup xs) from I.hok a _ ea)
    obtain ⟨o, h1, h2, _⟩ := p
    exact PySem.W.kia_one PySem.W.kitx_tuple I.kIn ⟨o, h1, h2⟩ e (fun z => nomatch z) h
  | @dK a kvs ea =>
    cases (show u = Value.ref a from rx)
    obtain ⟨_, _, vs, _, p⟩ := (show yV X.prog X.w H s.heap a (.dK kvs) from I.hok a _ ea)
    obtain ⟨o, es, ep, h1, h2, _⟩ := p
    exact PySem.W.kia_one PySem.W.kitx_dict I.kIn ⟨o, h1, h2.1⟩ e (fun z => nomatch z) h
  | @dT a kvs ea =>
    cases (show u = Value.ref a from rx)
    obtain ⟨_, _, xs, _, o, es, ep, h1, h2, _⟩ := (show yV X.prog X.w H s.heap a (.dT kvs) from I.hok a _ ea)
    exact PySem.W.kia_one PySem.W.kitx_dict I.kIn ⟨o, h1, h2.1⟩ e (fun z => nomatch z) h
  | @ins a C dx fs ea cl ha hn htk hm =>
    cases (show u = Value.ref a from rx)
    obtain ⟨mA, O, _⟩ := zsb I.hok ea
    obtain ⟨od, J, _⟩ := O.look
    exact PySem.W.kia_one (PySem.W.kitx_own (cl.get _) cl.hd ha hn htk hm) I.kIn J e (fun z => nomatch z) h
end
end L2
namespace L2
open PySem PySem.Spec PyProof.Rows
set_option genInjectivity false in
set_option genSizeOf false in
set_option genCtorIdx false in
structure zau (k : Nat) (A : Around) : Prop where
  hd : A.handled = none
  dp : A.depth + 3 * k + 5 < recursionLimit
  un : A.units + 16 * k + 200 < cLine
theorem zau.mono {j k : Nat} {A : Around} (r : zau k A) (h : j ≤ k) : zau j A := ⟨r.hd, by have := r.dp; omega, by have := r.un; omega⟩
theorem zau.deeper {k : Nat} {A : Around} (r : zau (k + 1) A) (env : Env) : zau k (A.deeper env) :=
  ⟨r.hd, by have := r.dp; show A.depth + 1 + 3 * k + 5 < _; omega, by have := r.un; show A.units + 3 + 16 * k + 200 < _; omega⟩
theorem zau.depth {k : Nat} {A : Around} (r : zau k A) : A.depth < recursionLimit := by have := r.dp; omega
theorem zau.units {k : Nat} {A : Around} (r : zau k A) : A.units + 64 < cLine := by have := r.un; omega
theorem zau.units0 {k : Nat} {A : Around} (r : zau k A) : A.units < cLine := by have := r.un; omega
noncomputable def tNil : TA := fun _ H Q => Q [] H
noncomputable def zvt (ta : TE) (tr : TA) : TA := fun σ H Q => ta σ H fun x H1 => tr σ H1 fun xs H2 => Q (x :: xs) H2
section
variable {X : Cx} {e : Expr} {es : List Expr} {te : TE} {t : TA} {pos : Pos}
theorem zle : PA X [] tNil := fun _ _ _ _ H Q I h => Calls.spliced_nil ⟨[], H, I, .nil, h⟩
theorem zbm (ha : PE X e te) (hr : PA X es t) (hs : starEach (e :: es) X.env = (false, eval e X.env) :: starEach es X.env := by rfl) : PA X (e :: es) (zvt te t) := by
  intro pos pins s σ H Q I h
  rw [hs]
  show wpAny _ _ (spliced ((false, eval e X.env) :: backTo pos (starEach es X.env))) _ _ s
  refine Calls.spliced_cons (thn (ha pins s σ H _ I h) fun u s1 hh9 => ?_)
  obtain ⟨x, H1, I1, r1, q1⟩ := hh9
  exact thn (hr pos pins s1 σ H1 _ I1 q1) fun us s2 ⟨xs, H2, I2, r2, q2⟩ => ⟨x :: xs, H2, I2, .cons r1 r2, q2⟩
noncomputable def tTup (t : TA) : TE := fun σ H Q => t σ H fun xs H1 => xs.length ≤ sizeLine ∧ ∀ p, H1 p = none → Q (.ref p) (upd H1 p (.tup xs))
noncomputable def tLst (t : TA) : TE := fun σ H Q => t σ H fun xs H1 => xs.length ≤ sizeLine ∧ ∀ p, H1 p = none → Q (.ref p) (upd H1 p (.lst xs))
theorem zue {x1} (h : PA X es t) : PE X (.Tuple es x1 pos) (tTup t) := by
  intro pins s σ H Q I hq
  refine wpAny_Tuple_spliced (thn (h pos pins s σ H _ I hq) fun us s1 ⟨xs, H1, I1, r, z, q⟩ => ⟨by rw [← r.length]; exact z, ?_⟩)
  have hf : H1 s1.heap.objs.size = none := I1.hok.fresh (Nat.le_refl _)
  refine ⟨.ref s1.heap.objs.size, upd H1 s1.heap.objs.size (.tup xs), I1.laid (t' := s1.toks) (fun b u e => Heap.get?_push_of_some _ e) (Nat.le_refl _) ?_, rfl, q _ hf⟩
  exact ⟨z, us, r, ⟨_, Heap.get?_push_size _ rfl, rfl, _, rfl⟩⟩
theorem ztz (h : PA X es t) : PE X (.List es pos) (tLst t) := by
  intro pins s σ H Q I hq
  refine wpAny_List_spliced (thn (h pos pins s σ H _ I hq) fun us s1 ⟨xs, H1, I1, r, z, q⟩ => ⟨by rw [← r.length]; exact z, ?_⟩)
  have hf : H1 s1.heap.objs.size = none := I1.hok.fresh (Nat.le_refl _)
  refine ⟨.ref s1.heap.objs.size, upd H1 s1.heap.objs.size (.lst xs), I1.laid (t' := s1.toks) (fun b u e => Heap.get?_push_of_some _ e) (Nat.le_refl _) ?_, rfl, q _ hf⟩
  exact ⟨z, us, 0, r, Heap.get?_push_size _ rfl⟩
end
noncomputable abbrev Sp := List V → Hp → VK → XK → Prop
noncomputable abbrev CXT := List Env → Hp → Shared → XK → Value → Shared → Prop
structure zul (P : Program) (w : World) (K : PySem.W.Frag) (mg : Str → Option Value) (base : Heap) (A : Around) (outer : List Env) (s : Shared) (H : Hp) : Prop where
  frames : A.frames = some outer
  mod : Mod K mg base
  bs : ∀ b o, base.get? b = some o → s.heap.get? b = some o ∧ H b = none
  bsz : base.objs.size ≤ s.heap.objs.size
  funs : s.heap.FunFrames base outer
  frf : ∀ b ∈ frs outer, H b = none
  hok : HOk P w H s.heap
  bare : AllBare s.gens
noncomputable def CE (outer : List Env) (P : Program) (w : World) (H : Hp) (s : Shared) (Q : VK) (u : Value) (s' : Shared) : Prop :=
  ∃ v H', s'.os = s.os ∧ AllBare s'.gens ∧ Un (frs outer) [] H H' s.heap s'.heap ∧ HOk P w H' s'.heap ∧ yY v u ∧ Q v H'
noncomputable def CR (CX : CXT) (outer : List Env) (P : Program) (w : World) (H : Hp) (s : Shared) (Q : VK) (E : XK) (r : Result) (s' : Shared) : Prop :=
  match r with
  | .ok (.ret u) => CE outer P w H s Q u s'
  | .ok _ => False
  | .error e => CX outer H s E e s'
set_option genInjectivity false in
set_option genSizeOf false in
set_option genCtorIdx false in
structure xk (P : Program) (w : World) (K : PySem.W.Frag) (mg : Str → Option Value) (base : Heap) (CX : CXT) (k : Nat) (f : Addr) (fd : FuncData) (ps : List Str) (sp : Sp) : Prop where
  len : ∀ vs H Q E, sp vs H Q E → vs.length = ps.length
  run : ∀ (A : Around) (outer : List Env) (s : Shared) (H : Hp) (args : Args) (us : List Value) (vs : List V) (Q : VK) (E : XK), zau k A → zul P w K mg base A outer s H → BindsTo s fd args (ps.zip us) → yG vs us → sp vs H Q E →
    codeAny (model P w) A (.call (.ref f) args) (CR CX outer P w H s Q E) s
theorem xk.mono {P : Program} {w : World} {K : PySem.W.Frag} {mg : Str → Option Value} {base : Heap} {CX : CXT} {j k : Nat} {f : Addr} {fd : FuncData} {ps : List Str} {sp : Sp} (F : xk P w K mg base CX j f fd ps sp) (h : j ≤ k) :
    xk P w K mg base CX k f fd ps sp := ⟨F.len, fun A outer s H args us vs Q E hr => F.run A outer s H args us vs Q E (hr.mono h)⟩
theorem xk.imp {P : Program} {w : World} {K : PySem.W.Frag} {mg : Str → Option Value} {base : Heap} {CX : CXT} {k : Nat} {f : Addr} {fd : FuncData} {ps : List Str} {sp sp' : Sp} (F : xk P w K mg base CX k f fd ps sp)
    (h : ∀ vs H Q E, sp' vs H Q E → sp vs H Q E) : xk P w K mg base CX k f fd ps sp' :=
  ⟨fun vs H Q E q => F.len vs H Q E (h _ _ _ _ q), fun A outer s H args us vs Q E hr he hb hv hs => F.run A outer s H args us vs Q E hr he hb hv (h _ _ _ _ hs)⟩
section
variable {X : Cx} {pins : List (Addr × Obj)} {σ : St} {H : Hp} {s s' : Shared}
theorem Inv.env0 (I : Inv X pins σ H s) : zul X.prog X.w X.K X.mg X.base X.A X.stack s H :=
  ⟨I.ok.frames, I.ok.mod, I.bs, Nat.le_trans I.ok.bsz I.sz, I.stack, I.stkFree, I.hok, I.bare⟩
theorem Inv.after {Q : VK} {u : Value} (I : Inv X pins σ H s) (h : CE X.stack X.prog X.w H s Q u s') : EP X pins σ Q u s' := by
  obtain ⟨v, H', os, bare, un, hok, r, q⟩ := h
  obtain ⟨hh, g, d, t, os'⟩ := s'
  obtain rfl : os' = s.os := os
  exact ⟨v, H', I.call (h' := hh) (g' := g) (d' := d) (t' := t) (ch := []) un hok bare (fun b z => absurd z (by simp)), r, q⟩
end
noncomputable def zuP (sp : Sp) (dvs : List V) (E : XK) (t : TA) : TE := fun σ H Q => t σ H fun vs H1 => sp (vs ++ dvs) H1 Q E
noncomputable def zm2 (K : PySem.W.Frag) (fd : FuncData) (ps : List Str) (ds : List Value) : Prop :=
  ∀ (s : Shared) (us : List Value), K.In s.heap → (us ++ ds).length = ps.length → BindsTo s fd ⟨us, []⟩ (ps.zip (us ++ ds))
theorem zm2.all {K : PySem.W.Frag} {fd : FuncData} {ps : List Str} (h : ∀ us : List Value, us.length = ps.length → bindArgs fd ⟨us, []⟩ = pure (ps.zip us)) : zm2 K fd ps [] := fun s us _ hl => by
  rw [List.append_nil] at hl ⊢
  exact .of_eq (h us hl)
noncomputable def zpd (CX : CXT) (X : Cx) (E : XK) : Prop := ∀ (pins : List (Addr × Obj)) (σ : St) (H : Hp) (s : Shared) (e : Value) (s' : Shared), Inv X pins σ H s → CX X.stack H s E e s' → X.xe e s'
section
variable {X : Cx} {CX : CXT} {k : Nat} {f C : Addr} {fd : FuncData} {ps : List Str} {sp : Sp} {dvs : List V} {ds : List Value} {E : XK} {x m : Str} {p pos apos : Pos} {e o : Expr} {es : List Expr} {ta : TE} {t : TA}
theorem ztM {pins : List (Addr × Obj)} {σ : St} {H : Hp} {s : Shared} {Q : VK} {us : List Value} {vs : List V} (F : xk X.prog X.w X.K X.mg X.base CX k f fd ps sp) (hr : zau k X.A) (hb : zm2 X.K fd ps ds) (hd : yG dvs ds) (hx : zpd CX X E)
    (I : Inv X pins σ H s) (r : yG vs us) (h : sp (vs ++ dvs) H Q E) : wpAny (model X.prog X.w) X.A (call (.ref f) us) (EP X pins σ Q) X.xe s := by
  have r2 : yG (vs ++ dvs) (us ++ ds) := r.append hd
  have hl : (us ++ ds).length = ps.length := by rw [← r2.length]; exact F.len _ _ _ _ h
  refine wpAny_call (codeAny_mono (F.run X.A X.stack s H ⟨us, []⟩ (us ++ ds) (vs ++ dvs) Q E hr I.env0 (hb s us I.kIn hl) r2 h) fun r s' hq => ?_)
  cases r with
  | error e => exact hx pins σ H s e s' I hq
  | ok fl =>
    cases fl with
    | ret u => exact I.after hq
    | next => exact False.elim hq
    | brk => exact False.elim hq
    | cont => exact False.elim hq
theorem zsa (F : xk X.prog X.w X.K X.mg X.base CX k f fd ps sp) (hr : zau k X.A) (hg : Gl X x) (hm : X.mg x = some (.ref f)) (hk : PySem.W.keepIn X.K (.ref f) = true) (hb : zm2 X.K fd ps ds) (hd : yG dvs ds) (hx : zpd CX X E)
    (ha : PA X (e :: es) t) (hdb : (x == ("__debug__" : Str)) = false := by decide) (he : starEach (e :: es) X.env = (false, eval e X.env) :: starEach es X.env := by rfl) (hpl : (backTo pos (starEach es X.env)).any (·.1) = false := by rfl) :
    PE X (.Call (.Name x p) (e :: es) [] pos) (zuP sp dvs E t) := by
  intro pins s σ H Q I h
  refine wpAny_Call_Name_kw (zmW I hg hm ?_ hdb)
  refine PySem.W.callWith_K (h₀ := X.base) I.ok.mod.kin hk (thn (ha pos pins s σ H _ I h) fun us s1 ⟨vs, H1, I1, r, q⟩ => ⟨I1.kIn, ?_⟩) he hpl
  exact ztM F hr hb hd hx I1 r q
end
section
variable {X : Cx} {CX : CXT} {k : Nat} {f C : Addr} {fd : FuncData} {ps ks : List Str} {sp : Sp} {E : XK} {x m : Str} {p pos apos kpos : Pos} {e o : Expr} {es : List Expr} {kws : List Keyword} {te ta : TE} {t tk : TA} {nm : Option Str}
variable {g : List Value → List Value → List Value} {gV : List V → List V → List V}
end
structure zF (N P : List Str) (sc : Scope) : Prop where
  kind : sc.kind = .function
  co : sc.isCoroutine = false
  gen : sc.isGenerator = false
  nd : N.Nodup
  pre : N.take P.length = P
  par : ∀ x ∈ P, sc.names.lookup x = some .local ∨ sc.names.lookup x = some .cell
  nofree : ∀ y ∈ sc.names, y.2 ≠ .free
theorem zkt {kindOf : Str → Option NameKind} {x : Str} : ∀ {binds : List (Str × Value)} {m : Str → Option Value}, (∀ v, (x, v) ∉ binds) → bindL kindOf binds m x = m x
  | [], _, _ => rfl
  | (n, v) :: r, m, h => by
    unfold bindL
    rw [zkt fun w hw => h w (List.mem_cons_of_mem _ hw)]
    split
    · have : x ≠ n := by rintro rfl; exact h v List.mem_cons_self
      simp [this]
    · rfl
theorem zkf {kindOf : Str → Option NameKind} {x : Str} : ∀ {binds : List (Str × Value)} {m : Str → Option Value}, (∀ v, (x, v) ∉ binds) → bindC kindOf binds m x = m x
  | [], _, _ => rfl
  | (n, v) :: r, m, h => by
    unfold bindC
    rw [zkf fun w hw => h w (List.mem_cons_of_mem _ hw)]
    split
    · rfl
    · have : x ≠ n := by rintro rfl; exact h v List.mem_cons_self
      simp [this]
theorem zkn {kindOf : Str → Option NameKind} {x : Str} {v : Value} : ∀ {P : List Str} {vs : List Value} {i : Nat} {m : Str → Option Value}, P.Nodup → P[i]? = some x → vs[i]? = some v → kindOf x = some .local →
    bindL kindOf (P.zip vs) m x = some v
  | [], _, _, _, _, h, _, _ => by simp at h
  | _ :: _, [], _, _, _, _, h, _ => by simp at h
  | p :: P, w :: vs, 0, m, nd, h1, h2, hk => by
    simp at h1 h2; subst h1; subst h2
    show bindL kindOf ((p, w) :: P.zip vs) m p = _
    unfold bindL
    rw [zkt fun v hv => (List.nodup_cons.mp nd).1 (List.of_mem_zip hv).1, if_pos hk]
    simp
  | p :: P, w :: vs, i + 1, m, nd, h1, h2, hk => by
    show bindL kindOf ((p, w) :: P.zip vs) m x = _
    unfold bindL
    exact zkn (i := i) (List.nodup_cons.mp nd).2 (by simpa using h1) (by simpa using h2) hk
theorem zlk {kindOf : Str → Option NameKind} {x : Str} {v : Value} : ∀ {P : List Str} {vs : List Value} {i : Nat} {m : Str → Option Value}, P.Nodup → P[i]? = some x → vs[i]? = some v → kindOf x ≠ some .local →
    bindC kindOf (P.zip vs) m x = some v
  | [], _, _, _, _, h, _, _ => by simp at h
  | _ :: _, [], _, _, _, _, h, _ => by simp at h
  | p :: P, w :: vs, 0, m, nd, h1, h2, hk => by
    simp at h1 h2; subst h1; subst h2
    show bindC kindOf ((p, w) :: P.zip vs) m p = _
    unfold bindC
    rw [zkf fun v hv => (List.nodup_cons.mp nd).1 (List.of_mem_zip hv).1, if_neg hk]
    simp
  | p :: P, w :: vs, i + 1, m, nd, h1, h2, hk => by
    show bindC kindOf ((p, w) :: P.zip vs) m x = _
    unfold bindC
    exact zlk (i := i) (List.nodup_cons.mp nd).2 (by simpa using h1) (by simpa using h2) hk
noncomputable def start (N : List Str) (vs : List V) : St := vs.map some ++ List.replicate (N.length - vs.length) none
noncomputable def zq2 (CX : CXT) (P : Program) (w : World) (K : PySem.W.Frag) (mg : Str → Option Value) (base : Heap) (N : List Str) (qual : Str) (scope : Scope) (f : Addr) (cd : Value) (A : Around) (outer : List Env) (s : Shared) (H : Hp) (E : XK) : Cx where
  prog := P
  w := w
  K := K
  mg := mg
  base := base
  A := A.deeper (envOfC qual scope s.heap.objs.size f cd)
  N := N
  s₀ := s
  H₀ := H
  env := envOfC qual scope s.heap.objs.size f cd
  outer := outer
  stack := envOfC qual scope s.heap.objs.size f cd :: outer
  ex := []
  calm := true
  fn := fun _ => true
  pn := []
  xe := fun e s' => wpAny (model P w) (A.deeper (envOfC qual scope s.heap.objs.size f cd)) (leaving (envOfC qual scope s.heap.objs.size f cd) e) (fun _ s'' => CX outer H s E e s'') (fun e' s'' => CX outer H s E e' s'') s'
theorem znD {sc : Scope} {n : Nat} {x : Str} (h : sc.names.lookup x = some .cell) : ∃ c, (cellsFrom n sc.names []).lookup x = some c := by
  have q := PySem.W.cellsFrom_some sc.names n [] (.inl h)
  exact Option.isSome_iff_exists.mp q
theorem zoy {CX : CXT} {P : Program} {w : World} {K : PySem.W.Frag} {mg : Str → Option Value} {base : Heap} {N ps : List Str} {qual : Str} {scope : Scope} {f : Addr} {cd : Value} {A : Around} {outer : List Env} {s s1 : Shared} {H : Hp} {E : XK} {us : List Value} {vs : List V}
    (S : zF N ps scope) (hd : A.handled = none) (e0 : zul P w K mg base A outer s H) (hl : vs.length = ps.length) (r : yG vs us)
    (x : InCallC s s.heap.objs.size (bindL (envOfC qual scope s.heap.objs.size f cd).kindOf (ps.zip us) fun _ => none) (cellsFrom (s.heap.objs.size + 1) scope.names []) (bindC (envOfC qual scope s.heap.objs.size f cd).kindOf (ps.zip us) fun _ => none) s1) :
    Inv (zq2 CX P w K mg base N qual scope f cd A outer s H E) [] (start N vs) H s1 := by
  have hpl : ps.length ≤ N.length := by have := congrArg List.length S.pre; rw [List.length_take] at this; omega
  obtain ⟨h1, tk, rfl, hk⟩ := x.done
  have noA : ∀ b : Addr, b ∉ (zq2 CX P w K mg base N qual scope f cd A outer s H E).ex := fun b z => absurd (show b ∈ ([] : List Addr) from z) (by simp)
  refine ⟨⟨e0.mod, S.kind, rfl, rfl, Nat.le_refl _, fun y z c h1 h2 => ?_, fun y hy => ?_, fun y c _ h => ?_, fun _ => hd, Around.frames_deeper e0.frames, .inr ⟨rfl, rfl⟩, fun b z => absurd z (noA b), e0.bs, e0.bsz, fun b _ _ => noA b, fun b z => absurd z (noA b), e0.funs, e0.frf⟩,
    rfl, e0.bare, Un.kept hk, ⟨_, x.toInCall.ns, fun i y v h1 h2 h3 => ?_⟩, fun y c h => ⟨_, x.cell y c h⟩, e0.hok.fresh (Nat.le_refl _), fun y c h => ?_, fun p hp => absurd (show p ∈ ([] : List (Addr × Obj)) from hp) (by simp), e0.hok.kept hk, ?_⟩
  · exact name_of_addr x.apart (PySem.mem_of_lookup h1) (PySem.mem_of_lookup h2)
  · have hy : scope.names.lookup y = some .cell ∨ scope.names.lookup y = some .free := hy
    rcases hy with hy | hy
    · exact znD hy
    · exact absurd rfl (S.nofree _ (PySem.mem_of_lookup hy))
  · exact Nat.le_of_lt (x.above y c (PySem.mem_of_lookup h))
  · have hi : i < vs.length := by
      unfold start at h2
      by_cases hi : i < vs.length
      · exact hi
      · rw [List.getElem?_append_right (by simpa using hi)] at h2
        rw [List.getElem?_replicate] at h2
        split at h2 <;> cases h2
    have ha : vs[i]? = some v := by
      unfold start at h2
      rw [List.getElem?_append_left (by simpa using hi), List.getElem?_map] at h2
      cases e : vs[i]? with
      | none => rw [e] at h2; cases h2
      | some a => rw [e] at h2; cases h2; rfl
    obtain ⟨u, hu, rv⟩ := r.get ha
    have hp : ps[i]? = some y := by
      rw [← S.pre, List.getElem?_take_of_lt (by omega)]; exact h1
    have ndP : ps.Nodup := by rw [← S.pre]; exact S.nd.sublist (List.take_sublist _ _)
    refine ⟨u, rv, ?_⟩
    rcases S.par y (List.mem_of_getElem? hp) with k | k
    · exact .inl ⟨k, zkn ndP hp hu k⟩
    · obtain ⟨c, e⟩ := znD (n := s.heap.objs.size + 1) k
      refine .inr ⟨.inl k, c, e, ?_⟩
      have q := x.cell y c e
      rw [zlk ndP hp hu (by show scope.names.lookup y ≠ _; rw [k]; decide)] at q
      exact q
  · exact e0.hok.fresh (Nat.le_of_lt (x.above y c (PySem.mem_of_lookup h)))
  · unfold start
    show _ = N.length
    rw [List.length_append, List.length_map, List.length_replicate]
    omega
theorem zvi {CX : CXT} {P : Program} {w : World} {K : PySem.W.Frag} {mg : Str → Option Value} {base : Heap} {k : Nat} {f : Addr} {name qual : Str} {params : Arguments} {body : List Stmt} {scope : Scope} {dV kV doc pm cdv ct oc : Value} {an od : Option Addr}
    {osl : Array (Option Value)} {N ps : List Str} {sp : Sp} (lk : K.lookup f = some ⟨oc, od, .func (PySem.W.fnOf name qual params body scope dV kV doc pm an cdv ct), osl⟩) (hcd : PySem.W.codeIn K cdv qual = true) (S : zF N ps scope)
    (len : ∀ vs H Q E, sp vs H Q E → vs.length = ps.length)
    (hbody : ∀ (A : Around) (outer : List Env) (s : Shared) (H : Hp) (vs : List V) (Q : VK) (E : XK), zau k (A.deeper (envOfC qual scope s.heap.objs.size f cdv)) → sp vs H Q E →
      ∃ t, PSs (zq2 CX P w K mg base N qual scope f cdv A outer s H E) body t ∧ t { nx := fun _ H' => Q .non H', rt := Q } (start N vs) H) :
    xk P w K mg base CX (k + 1) f (PySem.W.fnOf name qual params body scope dV kV doc pm an cdv ct) ps sp := by
  refine ⟨len, fun A outer s H args us vs Q E hr e0 hb r hsp => ?_⟩
  have hl := len _ _ _ _ hsp
  have KX : K.In s.heap := e0.mod.kin.keeps fun b o e => (e0.bs b o e).1
  have lim : s.heap.NoLimit := e0.mod.nolimit.keeps fun b o e => (e0.bs b o e).1
  have hkind : ∀ y ∈ ps.zip us, scope.names.lookup y.1 = some .local ∨ (scope.names.lookup y.1 = some .cell ∧ ((cellsFrom (s.heap.objs.size + 1) scope.names []).lookup y.1).isSome = true) := fun ⟨n, v⟩ hy => by
    rcases S.par n (List.of_mem_zip hy).1 with q | q
    · exact .inl q
    · exact .inr ⟨q, PySem.W.cellsFrom_some _ _ _ (.inl q)⟩
  refine codeAny_call_function hr.depth (KX _ _ lk) rfl S.co S.gen rfl (PySem.W.codeRec_of KX hcd) (hb _ _ _ _ ?_)
  refine wpAny_newFunctionEnv_cells S.kind hkind fun env he s1 x => ?_
  subst he
  refine ⟨lim.keeps x.toInCall.keep, codeAny_func ?_⟩
  obtain ⟨t, ht, hq⟩ := hbody A outer s H vs Q E (hr.deeper _) hsp
  have I : Inv (zq2 CX P w K mg base N qual scope f cdv A outer s H E) [] (start N vs) H s1 := zoy S hr.hd e0 hl r x
  refine wpAny_mono (ht [] s1 (start N vs) H _ I hq) (fun fl s' hs => ?_) fun e s' hs => hs
  have fin : ∀ {σ' : St} {H' : Hp} {v : V} {u : Value}, Inv (zq2 CX P w K mg base N qual scope f cdv A outer s H E) [] σ' H' s' → yY v u → Q v H' → CE outer P w H s Q u s' :=
    fun {σ' H' v u} J rv q => ⟨v, H', J.os, J.bare, J.base, J.hok, rv, q⟩
  cases fl with
  | ret u =>
    obtain ⟨v, σ', H', J, rv, q⟩ := hs
    exact fin J rv q
  | next =>
    obtain ⟨σ', H', J, q⟩ := hs
    exact fin (v := V.non) (u := Value.none) J rfl q
  | brk =>
    obtain ⟨_, _, _, q⟩ := hs
    exact False.elim q
  | cont =>
    obtain ⟨_, _, _, q⟩ := hs
    exact False.elim q
end L2
namespace L2
open PySem PySem.Spec PyProof.Rows
section
variable {X : Cx} {x : Str} {p pos : Pos} {e : Expr} {es : List Expr} {t : TA} {id T : String} {r : List V → Hp → VK → Prop}
noncomputable def tCB (r : List V → Hp → VK → Prop) (t : TA) : TE := fun σ H Q => t σ H fun vs H1 => r vs H1 Q
theorem zno (hc : VH X (.builtin id) r) (hg : Gl X x) (hm : X.mg x = none) (hv : bootBuiltins x = some (.builtin id)) (ha : PA X (e :: es) t) (hn : x ≠ "__name__" := by decide) (hdb : (x == ("__debug__" : Str)) = false := by decide)
    (he : starEach (e :: es) X.env = (false, eval e X.env) :: starEach es X.env := by rfl) (hpl : (backTo pos (starEach es X.env)).any (·.1) = false := by rfl) : PE X (.Call (.Name x p) (e :: es) [] pos) (tCB r t) := by
  intro pins s σ H Q I h
  refine wpAny_Call_Name_kw (Vk I hg hm hv ?_ hn hdb)
  exact PyProof.Rows.callWith_builtin1 (thn (ha pos pins s σ H _ I h) fun us s1 ⟨vs, H1, I1, r1, q1⟩ => hc pins s1 σ H1 vs us Q I1 r1 q1) he hpl
theorem zla (hc : VH X (.type T) r) (hg : Gl X x) (hm : X.mg x = none) (hv : bootBuiltins x = some (.type T)) (ha : PA X (e :: es) t) (hn : x ≠ "__name__" := by decide) (hdb : (x == ("__debug__" : Str)) = false := by decide)
    (he : starEach (e :: es) X.env = (false, eval e X.env) :: starEach es X.env := by rfl) (hpl : (backTo pos (starEach es X.env)).any (·.1) = false := by rfl) : PE X (.Call (.Name x p) (e :: es) [] pos) (tCB r t) := by
  intro pins s σ H Q I h
  refine wpAny_Call_Name_kw (Vk I hg hm hv ?_ hn hdb)
  exact PyProof.Rows.callWith_type1 (thn (ha pos pins s σ H _ I h) fun us s1 ⟨vs, H1, I1, r1, q1⟩ => hc pins s1 σ H1 vs us Q I1 r1 q1) he hpl
end
end L2
namespace HT
open PySem PyProof.Rows
theorem zp1 (A : Around) (s : Shared) (a : Int) (t : Tok) (c : Int) (u : Tok) : ∃ e, SeqAt.EqAt A s (.int a t) (.int c u) e ∧ (e = true ↔ a = c) :=
  ⟨(a == c), SeqAt.EqAt.int_int a t c u, by simp⟩
section
open PySem.SeqAt
open PySem.AutoSeq1 (wpAny_loadPart')
open PySem.MeetsSeq PySem.MeetsSeq2 PySem.MeetsSeq3
end
section
variable {prog : Program} {w : World} {A : Around} {E : Value → Shared → Prop} {s : Shared}
theorem cat_tup {t b : Addr} {vs ws : List Value} {Q : Value → Shared → Prop} (ht : IsTup s.heap t vs.toArray) (hb : IsTup s.heap b ws.toArray) (hv : vs ≠ [])
    (h1 : ws = [] → Q (.ref t) s) (h2 : ws ≠ [] → Q (.ref s.heap.objs.size) { s with heap := s.heap.push { cls := .type "tuple", data := .seq (vs ++ ws).toArray } })
    (hsz : vs.length + ws.length ≤ sizeLine) : wpAny (model prog w) A (binaryOp .Add (.ref t) (.ref b)) Q E s := by
  obtain ⟨⟨cls, dd, data, sl⟩, ho, hc, n, hd⟩ := id ht
  obtain ⟨⟨cls2, dd2, data2, sl2⟩, ho2, hc2, n2, hd2⟩ := id hb
  simp only at hc hd hc2 hd2
  subst hc hd hc2 hd2
  have e : vs.toArray ++ ws.toArray = (vs ++ ws).toArray := by simp
  by_cases hw : ws = []
  · exact concat_meets ⟨_, ho, rfl⟩ ⟨_, ho2, rfl⟩ noFill_tuple_add seq_tuple_add PySem.F.slot_tuple_add PySem.F.entry_tuple_add (PySem.F.args_tuple_add_2 _ _)
      (tuple_addW1 t b vs.toArray ws.toArray n n2 dd dd2 sl sl2 (by simpa using hv) (by simp [hw])) ⟨ho, ho2, h1 hw⟩
  · refine concat_meets ⟨_, ho, rfl⟩ ⟨_, ho2, rfl⟩ noFill_tuple_add seq_tuple_add PySem.F.slot_tuple_add PySem.F.entry_tuple_add (PySem.F.args_tuple_add_2 _ _)
      (tuple_addW2 t b vs.toArray ws.toArray n n2 dd dd2 sl sl2 (by simpa using hv) (by simpa using hw) (by rw [List.size_toArray, List.size_toArray]; exact hsz)) ⟨ho, ho2, ?_⟩
    rw [e]
    exact h2 hw
noncomputable def sIx (n d : Nat) : Option Int → Nat
  | none => d
  | some v => if v < 0 then (v + (n : Int)).toNat else min v.toNat n
theorem ztn (n d : Nat) (hd : d ≤ n) (o : Option Int) : sIx n d o ≤ n := by
  cases o with
  | none => exact hd
  | some v =>
    show (if v < 0 then (v + (n : Int)).toNat else min v.toNat n) ≤ n
    by_cases hv : v < 0
    · rw [if_pos hv]; omega
    · rw [if_neg hv]; exact Nat.min_le_right _ _
theorem zoA (v : Int) (n d : Nat) : (if v < 0 then max (v + (n : Int)) 0 else min v (n : Int)) = ((sIx n d (some v) : Nat) : Int) := by
  show (if v < 0 then max (v + (n : Int)) 0 else min v (n : Int)) = (((if v < 0 then (v + (n : Int)).toNat else min v.toNat n) : Nat) : Int)
  by_cases hv : v < 0
  · simp only [if_pos hv]; omega
  · simp only [if_neg hv]; omega
theorem zod (lo hi : Option Int) (n : Nat) : Builtin.Slice.sliceAdjust lo hi 1 (n : Int) = (((sIx n 0 lo : Nat) : Int), ((sIx n n hi : Nat) : Int)) := by
  have h1 : ¬ ((1 : Int) < 0) := by omega
  unfold Builtin.Slice.sliceAdjust
  simp only [h1, if_false]
  refine Prod.ext ?_ ?_
  · cases lo with
    | none => rfl
    | some v => exact zoA v n 0
  · cases hi with
    | none => rfl
    | some v => exact zoA v n n
theorem zob (i j : Nat) : Builtin.Slice.slicePlaces (i : Int) (j : Int) 1 = j - i := by
  unfold Builtin.Slice.slicePlaces
  have h1 : (1 : Int) > 0 := by omega
  simp only [h1, if_true, Int.ediv_one]
  split <;> omega
theorem zcW {v : Value} {o : Option Int} {Q : Option Int → Shared → Prop} (p : IsPart v o) (h : Q o s) : wpAny (model prog w) A (Builtin.Slice.slicePartIndex v) Q E s := by
  cases p with
  | none => exact slicePart_none h
  | int i t => exact slicePart_int h
theorem XM {sl : Addr} {vl vu : Value} {lo hi : Option Int} {n : Nat} {Q : Int × Int × Nat → Shared → Prop} (hs : s.heap.IsSliceOf sl vl vu .none) (pl : IsPart vl lo) (pu : IsPart vu hi)
    (h : Q (((sIx n 0 lo : Nat) : Int), 1, sIx n n hi - sIx n 0 lo) s) : wpAny (model prog w) A (Builtin.Slice.sliceApplied (.ref sl) (pure (n : Int))) Q E s := by
  obtain ⟨os, hos, hcs, hds⟩ := id hs
  unfold Builtin.Slice.sliceApplied Builtin.Slice.sliceFields
  refine wpAny_bind (wpAny_bind (wpAny_field hos hds (x := vl) rfl (wpAny_bind (wpAny_field hos hds (x := vu) rfl (wpAny_bind (wpAny_field hos hds (x := .none) rfl (wpAny_pure ?_)))))))
  refine wpAny_bind (slicePart_none ?_)
  show wpAny _ _ (if ((1 : Int) == 0) = true then _ else _) _ _ s
  rw [if_neg (by decide)]
  refine wpAny_bind (zcW pl (wpAny_bind (zcW pu (wpAny_bind (wpAny_pure ?_)))))
  show wpAny _ _ (match Builtin.Slice.sliceAdjust lo hi 1 (n : Int) with | (lo, hi) => pure (lo, (1 : Int), Builtin.Slice.slicePlaces lo hi 1)) _ _ s
  rw [zod lo hi n]
  show wpAny _ _ (pure (((sIx n 0 lo : Nat) : Int), (1 : Int), Builtin.Slice.slicePlaces ((sIx n 0 lo : Nat) : Int) ((sIx n n hi : Nat) : Int) 1)) _ _ s
  rw [zob]
  exact wpAny_pure h
theorem zpU (xs : Array Value) (i k : Nat) : ((List.range k).filterMap fun (m : Nat) => xs[((i : Int) + (m : Int) * 1).toNat]?).toArray = ((xs.toList.drop i).take k).toArray := by
  have e : (fun (m : Nat) => xs[((i : Int) + (m : Int) * 1).toNat]?) = fun m => xs[i + m]? := by
    funext m
    have : ((i : Int) + (m : Int) * 1).toNat = i + m := by omega
    rw [this]
  rw [e]
  have := pick_run xs i k
  rw [List.filterMap_map] at this
  have e2 : ((fun x => xs[x]?) ∘ fun x => i + x) = fun m => xs[i + m]? := rfl
  rw [e2] at this
  rw [this]
theorem getItem_tuple_cut {t sl : Addr} {items : Array Value} {vl vu : Value} {lo hi : Option Int} {Q : Value → Shared → Prop} (ht : IsTup s.heap t items) (hs : s.heap.IsSliceOf sl vl vu .none) (pl : IsPart vl lo) (pu : IsPart vu hi)
    (hw : ¬ (sIx items.size 0 lo = 0 ∧ sIx items.size items.size hi = items.size))
    (h : Q (.ref s.heap.objs.size) { s with heap := s.heap.push { cls := .type "tuple", data := .seq ((items.toList.drop (sIx items.size 0 lo)).take (sIx items.size items.size hi - sIx items.size 0 lo)).toArray } })
    (hsz : items.size ≤ sizeLine) : wpAny (model prog w) A (getItem (.ref t) (.ref sl)) Q E s := by
  have htake : sizeOk (.seq ((items.toList.drop (sIx items.size 0 lo)).take (sIx items.size items.size hi - sIx items.size 0 lo)).toArray) := by
    show ((items.toList.drop (sIx items.size 0 lo)).take (sIx items.size items.size hi - sIx items.size 0 lo)).toArray.size ≤ sizeLine
    rw [List.size_toArray, List.length_take, List.length_drop, Array.length_toList]
    omega
  have hj : sIx items.size items.size hi ≤ items.size := ztn _ _ (Nat.le_refl _) hi
  obtain ⟨os, hos, hcs, hds⟩ := id hs
  have hTs : s.TypeIs (.ref sl) "slice" := ⟨os, hos, hcs⟩
  unfold getItem
  try with_reducible refine wpAny_holding ?_
  first | refine wpAny_bind (wpAny_pure ?_) | skip
  refine wpAny_bind (wpAny_sequenceKey ht.typeIs (by decide) ?_)
  refine wpAny_bind (wpAny_callSpecial?_slot (name := Str.ofString "__getitem__") ht.typeIs PyProof.Rows.slot_tuple_getitem
    (wpAny_call_entry PyProof.Rows.slot_tuple_getitem ht.typeIs entry_tuple_getitem ?_ (args_tuple_getitem _ _)))
  show wpAny _ _ (Builtin.Tuple.tupleItemsOf (.ref t) >>= _) _ _ s
  refine wpAny_bind (tupleItemsOf_ ht ?_)
  refine wpAny_bind (wpAny_typeOf hTs ?_)
  rw [if_pos (by decide)]
  refine wpAny_bind (XM hs pl pu ?_)
  have hno : ¬ ((((sIx items.size 0 lo : Nat) : Int) == 0 && (1 : Int) == 1 && (sIx items.size items.size hi - sIx items.size 0 lo) == items.size) = true) := by
    intro q
    rw [Bool.and_eq_true, Bool.and_eq_true] at q
    have q1 : ((sIx items.size 0 lo : Nat) : Int) = 0 := eq_of_beq q.1.1
    have q2 : sIx items.size items.size hi - sIx items.size 0 lo = items.size := eq_of_beq q.2
    exact hw ⟨by omega, by omega⟩
  show wpAny _ _ (if (((sIx items.size 0 lo : Nat) : Int) == 0 && (1 : Int) == 1 && (sIx items.size items.size hi - sIx items.size 0 lo) == items.size) = true then _ else _) _ _ s
  rw [if_neg hno, zpU]
  first
    | exact wpAny_bind (m := Builtin.Tuple.tupleExact _) (wpAny_newObj_type (wpAny_pure ⟨_, rfl, wpAny_pure h⟩) htake)
    | exact wpAny_bind (m := Builtin.Tuple.tupleExact _) (wpAny_newObj_type (wpAny_bind (wpAny_pure (wpAny_pure ⟨_, rfl, wpAny_pure h⟩))) htake)
    | exact wpAny_bind (wpAny_bind (m := Builtin.Tuple.tupleExact _) (wpAny_newObj_type (wpAny_pure (wpAny_pure ⟨_, rfl, wpAny_pure h⟩)) htake))
    | exact wpAny_bind (wpAny_bind (m := Builtin.Tuple.tupleExact _) (wpAny_newObj_type (wpAny_pure ⟨_, rfl, wpAny_pure h⟩) htake))
end
end HT
namespace L2
open PySem PySem.Spec PyProof.Rows
noncomputable abbrev TO := St → Hp → (Option Int → Hp → Prop) → Prop
noncomputable def PO (X : Cx) (e : Option Expr) (t : TO) : Prop :=
  ∀ (pins : List (Addr × Obj)) (s : Shared) (σ : St) (H : Hp) (Q : Option Int → Hp → Prop), Inv X pins σ H s → t σ H Q →
    wpAny (model X.prog X.w) X.A (evalPart e X.env) (fun u s' => ∃ o H', Inv X pins σ H' s' ∧ IsPart u o ∧ Q o H') X.xe s
noncomputable def zrV : TO := fun _ H Q => Q none H
noncomputable def zvd (t : TE) : TO := fun σ H Q => t σ H fun x H1 => ∃ i, x = .int i ∧ Q (some i) H1
theorem zcL {ns : List Int} : ∀ {us : List Value}, yG (ns.map V.int) us → IntsAre us ns := by
  induction ns with
  | nil => intro us r; rw [List.map_nil] at r; cases r; exact .nil
  | cons n ns ih =>
    intro us r
    rw [List.map_cons] at r
    cases r with
    | cons r1 r2 =>
      obtain ⟨t, e⟩ := r1
      subst e
      exact .cons n t (ih r2)
section
variable {X : Cx} {e : Expr} {te : TE} {lo hi : Option Expr} {tl th : TO} {pos p2 : Pos}
theorem zru : PO X none zrV := by
  intro pins s σ H Q I h
  rw [evalPart_none]
  exact wpAny_pure ⟨none, H, I, .none, h⟩
theorem zrC (h : PE X e te) : PO X (some e) (zvd te) := by
  intro pins s σ H Q I hw
  rw [evalPart_some]
  refine thn (h pins s σ H _ I hw) fun u s1 hh9 => ?_
  obtain ⟨x, H1, I1, r1, q1⟩ := hh9
  obtain ⟨i, rfl, q⟩ := q1
  obtain ⟨t, rfl⟩ := r1
  exact ⟨some i, H1, I1, .int i t, q⟩
noncomputable def SlR (X : Cx) (r : V → Option Int → Option Int → Hp → VK → Prop) : Prop :=
  ∀ (pins : List (Addr × Obj)) (s : Shared) (σ : St) (H : Hp) (x : V) (v vl vu : Value) (lo hi : Option Int) (sl : Addr) (Q : VK), Inv X pins σ H s → yY x v → s.heap.IsSliceOf sl vl vu .none → IsPart vl lo → IsPart vu hi → r x lo hi H Q →
    ∃ T id, typeLookup (.type T) "__getitem__" = pure (some (.builtin id)) ∧ s.TypeIs v T ∧ wpAny (model X.prog X.w) X.A (getItem v (.ref sl)) (EP X pins σ Q) X.xe s
theorem SlR.or {r r' : V → Option Int → Option Int → Hp → VK → Prop} (h : SlR X r) (h' : SlR X r') : SlR X (fun x lo hi H Q => r x lo hi H Q ∨ r' x lo hi H Q) := by
  intro pins s σ H x v vl vu lo hi sl Q I rx hs pl pu q
  rcases q with q | q
  · exact h pins s σ H x v vl vu lo hi sl Q I rx hs pl pu q
  · exact h' pins s σ H x v vl vu lo hi sl Q I rx hs pl pu q
noncomputable def tSl (r : V → Option Int → Option Int → Hp → VK → Prop) (te : TE) (tl th : TO) : TE := fun σ H Q => te σ H fun x H1 => tl σ H1 fun l H2 => th σ H2 fun u H3 => r x l u H3 Q
theorem zqo {r : V → Option Int → Option Int → Hp → VK → Prop} (hr : SlR X r) (he : PE X e te) (hl : PO X lo tl) (hu : PO X hi th) : PE X (.Subscript e (.Slice lo hi none p2) pos) (tSl r te tl th) := by
  intro pins s σ H Q I h
  refine Subscript_ (thn (he pins s σ H _ I h) fun v s1 hh9 => ?_)
  obtain ⟨x, H1, I1, r1, q1⟩ := hh9
  refine wpAny_Slice (thn (hl pins s1 σ H1 _ I1 q1) fun vl s2 ⟨l, H2, I2, pl, q2⟩ => thn (hu pins s2 σ H2 _ I2 q2) fun vu s3 hh9 => ?_)
  obtain ⟨u, H3, I3, pu, q3⟩ := hh9
  rw [evalPart_none]
  refine wpAny_pure ?_
  have I4 : Inv X pins σ H3 { s3 with heap := s3.heap.push { cls := .type "slice", data := .fields #[vl, vu, .none] } } := I3.kept (t' := s3.toks) fun b ob q => Heap.get?_push_of_some _ q
  obtain ⟨T, id, hT, ht, hg⟩ := hr pins { s3 with heap := s3.heap.push { cls := .type "slice", data := .fields #[vl, vu, .none] } } σ H3 x v vl vu l u s3.heap.objs.size Q I4 r1 (Heap.IsSliceOf.new ..) pl pu q3
  show wpAny (model X.prog X.w) X.A (subscriptTail e (.Slice lo hi none p2) v (.ref s3.heap.objs.size)) (EP X pins σ Q) X.xe { s3 with heap := s3.heap.push { cls := .type "slice", data := .fields #[vl, vu, .none] } }
  exact tail_any (ops := [.ref s3.heap.objs.size, v]) ht hT hg (by with_unfolding_all rfl)
noncomputable def zmg (xs : List V) (lo hi : Option Int) : List V := (xs.drop (HT.sIx xs.length 0 lo)).take (HT.sIx xs.length xs.length hi - HT.sIx xs.length 0 lo)
theorem zb1 (xs : List V) (lo hi : Option Int) : (zmg xs lo hi).length ≤ xs.length := by
  unfold zmg
  rw [List.length_take, List.length_drop]
  omega
noncomputable def rSlT (K : PySem.W.Frag) : V → Option Int → Option Int → Hp → VK → Prop := fun x lo hi H Q => ∃ a xs, x = .ref a ∧ SqT K H a xs ∧
  ¬ (HT.sIx xs.length 0 lo = 0 ∧ HT.sIx xs.length xs.length hi = xs.length) ∧ ∀ p, H p = none → Q (.ref p) (upd H p (.tup (zmg xs lo hi)))
theorem ztl : SlR X (rSlT X.K) := by
  intro pins s σ H x v vl vu lo hi sl Q I rx hs pl pu h
  obtain ⟨a, xs, rfl, hx, hw, q⟩ := h
  cases rx
  obtain ⟨its, r, ht, hz⟩ := I.tuple hx
  have hlen : its.toArray.size = xs.length := by rw [List.size_toArray]; exact r.length.symm
  refine ⟨"tuple", _, PyProof.Rows.slot_tuple_getitem.lookup, ht.typeIs, ?_⟩
  refine HT.getItem_tuple_cut ht hs pl pu (by rw [hlen]; exact hw) ?_ (by rw [hlen]; exact hz)
  rw [hlen]
  refine ⟨.ref s.heap.objs.size, _, I.laid (t' := s.toks) (o := .tup (zmg xs lo hi)) (fun b ob q => Heap.get?_push_of_some _ q) (Nat.le_refl _) ?_, rfl, q _ (I.hok.fresh (Nat.le_refl _))⟩
  exact ⟨Nat.le_trans (zb1 xs lo hi) hz, _, (r.drop (HT.sIx xs.length 0 lo)).take (HT.sIx xs.length xs.length hi - HT.sIx xs.length 0 lo), IsTup.new _ _⟩
noncomputable def zuO (K : PySem.W.Frag) : R2 := fun x y H Q => ∃ a b xs ys, x = .ref a ∧ y = .ref b ∧ SqT K H a xs ∧ SqT K H b ys ∧ xs ≠ [] ∧ xs.length + ys.length ≤ sizeLine ∧
  (ys = [] → Q (.ref a) H) ∧ (ys ≠ [] → ∀ p, H p = none → Q (.ref p) (upd H p (.tup (xs ++ ys))))
theorem yG.nil_iff {xs : List V} {us : List Value} (r : yG xs us) : us = [] ↔ xs = [] := by
  cases r with
  | nil => simp
  | cons _ _ => simp
theorem zrZ : OpR X (binaryOp .Add) (zuO X.K) := by
  intro pins s σ H x y v u Q I rx ry h
  obtain ⟨a, b, xs, ys, rfl, rfl, ha, hb, hx, hz, q1, q2⟩ := h
  cases rx
  cases ry
  obtain ⟨its, r1, p1, _⟩ := I.tuple ha
  obtain ⟨its2, r2, p2, _⟩ := I.tuple hb
  refine HT.cat_tup p1 p2 (fun z => hx (r1.nil_iff.mp z)) (fun z => ⟨.ref a, H, I, rfl, q1 (r2.nil_iff.mp z)⟩) (fun z => ?_) (by rw [← r1.length, ← r2.length]; exact hz)
  refine ⟨.ref s.heap.objs.size, _, I.laid (t' := s.toks) (o := .tup (xs ++ ys)) (fun b ob q => Heap.get?_push_of_some _ q) (Nat.le_refl _) ?_, rfl, q2 (fun w => z (r2.nil_iff.mpr w)) _ (I.hok.fresh (Nat.le_refl _))⟩
  exact ⟨by rw [List.length_append]; exact hz, _, r1.append r2, IsTup.new _ _⟩
end
end L2
namespace L2
open PySem PySem.Spec PyProof.Rows
noncomputable def ixN (n : Nat) (i : Int) : Option Nat := if 0 ≤ i then (if i < n then some i.toNat else none) else if -(n : Int) ≤ i then some (i + n).toNat else none
noncomputable def atI {α : Type} (xs : List α) (i : Int) : Option α := (ixN xs.length i).bind fun j => xs[j]?
theorem zpq {n : Nat} {i : Int} {j : Nat} (h : ixN n i = some j) : seqIndex? i n = some j ∧ j < n ∧ -(n : Int) ≤ i ∧ i < n := by
  unfold ixN at h
  by_cases h0 : 0 ≤ i
  · rw [if_pos h0] at h
    by_cases h1 : i < n
    · rw [if_pos h1] at h
      have e : i.toNat = j := Option.some.inj h
      exact ⟨by rw [seqIndex_of h0 h1, e], by omega, by omega, h1⟩
    · rw [if_neg h1] at h; cases h
  · rw [if_neg h0] at h
    by_cases h1 : -(n : Int) ≤ i
    · rw [if_pos h1] at h
      have e : (i + n).toNat = j := Option.some.inj h
      exact ⟨by rw [seqIndex_neg (by omega) h1, e], by omega, h1, by omega⟩
    · rw [if_neg h1] at h; cases h
theorem zeu {α : Type} {xs : List α} {i : Int} {v : α} (h : atI xs i = some v) : ∃ j, seqIndex? i xs.length = some j ∧ xs[j]? = some v ∧ j < xs.length ∧ -(xs.length : Int) ≤ i ∧ i < xs.length := by
  unfold atI at h
  cases e : ixN xs.length i with
  | none => rw [e] at h; cases h
  | some j =>
    rw [e] at h
    obtain ⟨h1, h2, h3, h4⟩ := zpq e
    exact ⟨j, h1, h, h2, h3, h4⟩
noncomputable def zhp (b : Expr) : Prop := ∀ o i, subscripted b false o i = operate [o, i] (getItem o i)
noncomputable def IxR (X : Cx) (r : R2) : Prop :=
  ∀ (value slice : Expr) (pins : List (Addr × Obj)) (s : Shared) (σ : St) (H : Hp) (x y : V) (v u : Value) (Q : VK), Inv X pins σ H s → yY x v → yY y u → r x y H Q →
    subscripted slice false v u = operate [v, u] (getItem v u) → wpAny (model X.prog X.w) X.A (subscriptTail value slice v u) (EP X pins σ Q) X.xe s
noncomputable def MtR (X : Cx) (id : String) (r : V → List V → Hp → VK → Prop) : Prop :=
  ∀ (pins : List (Addr × Obj)) (s : Shared) (σ : St) (H : Hp) (x : V) (xs : List V) (v : Value) (us : List Value) (Q : VK), Inv X pins σ H s → yY x v → yG xs us → r x xs H Q →
    wpAny (model X.prog X.w) X.A (call (.builtin id) (v :: us)) (EP X pins σ Q) X.xe s
section
variable {X : Cx} {a b : Expr} {ta tb : TE} {pos : Pos}
theorem IxR.or {r r' : R2} (h : IxR X r) (h' : IxR X r') : IxR X (fun x y H Q => r x y H Q ∨ r' x y H Q) := by
  intro value slice pins s σ H x y v u Q I rx ry q hs
  rcases q with q | q
  · exact h value slice pins s σ H x y v u Q I rx ry q hs
  · exact h' value slice pins s σ H x y v u Q I rx ry q hs
theorem zs3 {r : R2} (hr : IxR X r) (ha : PE X a ta) (hb : PE X b tb) (hs : zhp b) : PE X (.Subscript a b pos) (tOp r ta tb) := by
  intro pins s σ H Q I h
  exact Subscript_ (zvp ha hb I h fun v u s2 x y H2 I2 rx ry q => hr a b pins s2 σ H2 x y v u Q I2 rx ry q (hs _ _))
noncomputable def rIxL (K : PySem.W.Frag) : R2 := fun x y H Q => ∃ p xs i v, x = .ref p ∧ y = .int i ∧ SqL K H p xs ∧ atI xs i = some v ∧ Q v H
noncomputable def rIxT (K : PySem.W.Frag) : R2 := fun x y H Q => ∃ p xs i v, x = .ref p ∧ y = .int i ∧ SqT K H p xs ∧ atI xs i = some v ∧ Q v H
noncomputable def rIxS : R2 := fun x y H Q => ∃ z i c, x = .str z ∧ y = .int i ∧ z.length ≤ sizeLine ∧ atI z.cps.toList i = some c ∧ Q (.str ⟨#[c]⟩) H
theorem zsh : IxR X (rIxL X.K) := by
  intro value slice pins s σ H x y v u Q I rx ry h hs
  obtain ⟨p, xs, i, z, rfl, rfl, hq, he, q⟩ := h
  cases rx
  obtain ⟨t, rfl⟩ := ry
  obtain ⟨its, r, pl, hz⟩ := I.list hq
  obtain ⟨j, h1, h2, h3, h4, h5⟩ := zeu he
  obtain ⟨w, ew, rw'⟩ := r.get h2
  have hl := r.length
  have hn := zb6
  have fin : EP X pins σ Q w s := ⟨z, H, I, rw', q⟩
  by_cases h0 : 0 ≤ i
  · have hj : i.toNat = j := by
      rw [seqIndex_of h0 h5] at h1
      exact Option.some.inj h1
    exact item_listR pl.isList h0 (by omega) (by rw [hj]; simpa using ew) fin hs
  · have hj : (i + (its.toArray.size : Int)).toNat = j := by
      rw [seqIndex_neg (by omega) h4] at h1
      rw [List.size_toArray, ← hl]
      exact Option.some.inj h1
    exact subscriptTail_builtinR (x := w) pl.isList.typeIs slot_list_getitem.lookup
      (wpAny_getItem_list_neg (Q := fun r s' => r = w ∧ EP X pins σ Q r s') pl.isList (by omega) (by rw [List.size_toArray] <;> omega) (by omega) (by rw [hj]; simpa using ew) ⟨rfl, fin⟩) hs
theorem zs4 : IxR X (rIxT X.K) := by
  intro value slice pins s σ H x y v u Q I rx ry h hs
  obtain ⟨p, xs, i, z, rfl, rfl, hq, he, q⟩ := h
  cases rx
  obtain ⟨t, rfl⟩ := ry
  obtain ⟨its, r, pl, hz⟩ := I.tuple hq
  obtain ⟨j, h1, h2, h3, h4, h5⟩ := zeu he
  obtain ⟨w, ew, rw'⟩ := r.get h2
  have hl := r.length
  have hn := zb6
  have fin : EP X pins σ Q w s := ⟨z, H, I, rw', q⟩
  exact subscriptTail_builtinR (x := w) pl.typeIs slot_tuple_getitem.lookup
    (getItem_tuple (j := j) (Q := fun r s' => r = w ∧ EP X pins σ Q r s') pl (by omega) (by omega) (by rw [List.size_toArray, ← hl]; exact h1) (by simpa using ew) ⟨rfl, fin⟩) hs
theorem ztZ : IxR X rIxS := by
  intro value slice pins s σ H x y v u Q I rx ry h hs
  obtain ⟨z, i, c, rfl, rfl, hz, he, q⟩ := h
  obtain ⟨t, rfl⟩ := rx
  obtain ⟨t', rfl⟩ := ry
  obtain ⟨j, h1, h2, h3, h4, h5⟩ := zeu he
  have hl : z.cps.toList.length = z.length := by simp [Str.length]
  rw [hl] at h1 h4 h5
  have hn := zb6
  exact tail_any (typeIs_str s z t) slot_str_getitem.lookup (getItem_str (c := c) (by
    have e1 : decide (i < -(2 ^ 63 : Int)) = false := decide_eq_false (by omega)
    have e2 : decide (i ≥ 2 ^ 63) = false := decide_eq_false (by omega)
    rw [e1, e2, Bool.or_false]) (by rw [h1]; simpa using h2) ⟨.str ⟨#[c]⟩, H, I.tok _, ⟨_, rfl⟩, q⟩) hs
noncomputable def rIx (K : PySem.W.Frag) : R2 := fun x y H Q => rIxL K x y H Q ∨ rIxT K x y H Q ∨ rIxS x y H Q
theorem zuc : IxR X (rIx X.K) := zsh.or (zs4.or ztZ)
theorem znP (its : List Value) (n j : Nat) (u : Value) : Obj.mapSeq (·.setIfInBounds j u) { cls := .type "list", data := .seq its.toArray n } = { cls := .type "list", data := .seq (its.set j u).toArray n } := by
  simp [Obj.mapSeq]
theorem Inv.lst {pins : List (Addr × Obj)} {σ : St} {H : Hp} {s : Shared} {p : Addr} {xs : List V} (I : Inv X pins σ H s) (h : H p = some (.lst xs)) :
    ∃ (its : List Value) (n : Nat), yG xs its ∧ s.heap.get? p = some { cls := .type "list", data := .seq its.toArray n } ∧ xs.length ≤ sizeLine := by
  obtain ⟨z, its, n, r, e⟩ := I.hok p _ h
  exact ⟨its, n, r, e, z⟩
theorem Inv.lstUpd {pins : List (Addr × Obj)} {σ : St} {H : Hp} {s : Shared} {p : Addr} {xs ys : List V} {its its' : List Value} {n n' : Nat} {f : Obj → Obj} (I : Inv X pins σ H s) (h : H p = some (.lst xs))
    (ho : s.heap.get? p = some { cls := .type "list", data := .seq its.toArray n }) (hf : f { cls := .type "list", data := .seq its.toArray n } = { cls := .type "list", data := .seq its'.toArray n' }) (r : yG ys its') (hz : ys.length ≤ sizeLine) (t : Nat) :
    Inv X pins σ (upd H p (.lst ys)) { s with heap := s.heap.update p f, toks := t } := by
  have e : (s.heap.update p f).get? p = some { cls := .type "list", data := .seq its'.toArray n' } := by
    rw [Heap.get?_update_self f ho (by rw [hf] <;> rfl), hf]
  refine I.write (x := p) (e := p) (by rw [h]; trivial) (.inl rfl) (fun b u hb q => (Heap.get?_update_other _ _ (Ne.symm hb)).trans q) ⟨_, e⟩ ?_
  exact ⟨hz, its', n', r, e⟩
noncomputable def zu4 : V → V → V → Hp → (Hp → Prop) → Prop := fun o i v H Q => ∃ p xs k j, o = .ref p ∧ i = .int k ∧ H p = some (.lst xs) ∧ ixN xs.length k = some j ∧ Q (upd H p (.lst (xs.set j v)))
theorem zpZ : PSet X zu4 := by
  intro pins s σ H o i v ov iv u Q I ro ri rv h
  obtain ⟨p, xs, k, j, rfl, rfl, hp, hj, q⟩ := h
  cases ro
  obtain ⟨t, rfl⟩ := ri
  obtain ⟨its, n, r, ho, hz⟩ := I.lst hp
  obtain ⟨h1, h2, h3, h4⟩ := zpq hj
  have hl := r.length
  have hn := zb6
  have I' : Inv X pins σ (upd H p (.lst (xs.set j v))) { s with heap := s.heap.update p (Obj.mapSeq (·.setIfInBounds j u)) } :=
    I.lstUpd hp ho (znP its n j u) (r.set rv j) (by rw [List.length_set]; exact hz) s.toks
  by_cases h0 : 0 ≤ k
  · have hk : k.toNat = j := by
      rw [seqIndex_of h0 h4] at h1
      exact Option.some.inj h1
    exact PySem.W.ki_setAt ho h0 (by omega) (by rw [List.size_toArray, ← hl]; exact h4) (by rw [hk]; exact ⟨_, I', q⟩)
  · have hk : (k + (its.toArray.size : Int)).toNat = j := by
      rw [seqIndex_neg (by omega) h3] at h1
      rw [List.size_toArray, ← hl]
      exact Option.some.inj h1
    exact PySem.W.ki_setBack ho (by omega) (by rw [List.size_toArray, ← hl]; exact h3) (by omega) (by rw [hk]; exact ⟨_, I', q⟩)
theorem zjU (lo hi : Option Int) (n : Nat) : (sliceBounds lo hi none n).1 = ((HT.sIx n 0 lo : Nat) : Int) ∧ (sliceBounds lo hi none n).2.1 = ((HT.sIx n n hi : Nat) : Int) ∧ (sliceBounds lo hi none n).2.2 = 1 := by
  refine ⟨?_, ?_, rfl⟩
  · cases lo with
    | none => simp [sliceBounds, HT.sIx]
    | some i =>
      simp only [sliceBounds, HT.sIx, Option.getD_none, show (1 : Int) > 0 by decide, if_true]
      by_cases h : i < 0
      · simp only [h, if_true] <;> omega
      · simp only [h, if_false] <;> omega
  · cases hi with
    | none => simp [sliceBounds, HT.sIx]
    | some i =>
      simp only [sliceBounds, HT.sIx, Option.getD_none, show (1 : Int) > 0 by decide, if_true]
      by_cases h : i < 0
      · simp only [h, if_true] <;> omega
      · simp only [h, if_false] <;> omega
theorem zhc (its : List Value) (lo hi : Option Int) : slicePick its.toArray lo hi none = ((its.drop (HT.sIx its.length 0 lo)).take (HT.sIx its.length its.length hi - HT.sIx its.length 0 lo)).toArray := by
  obtain ⟨h1, h2, h3⟩ := zjU lo hi its.toArray.size
  unfold slicePick
  rw [h1, h2, h3]
  simp only [sliceRange_one, pick_run, List.size_toArray] <;> rfl
noncomputable def rSlL (K : PySem.W.Frag) : V → Option Int → Option Int → Hp → VK → Prop := fun x lo hi H Q => ∃ a xs, x = .ref a ∧ SqL K H a xs ∧ ∀ p, H p = none → Q (.ref p) (upd H p (.lst (zmg xs lo hi)))
theorem zrI : SlR X (rSlL X.K) := by
  intro pins s σ H x v vl vu lo hi sl Q I rx hs pl pu h
  obtain ⟨a, xs, rfl, hx, q⟩ := h
  cases rx
  obtain ⟨its, r, ht, hz⟩ := I.list hx
  have hlen := r.length
  refine ⟨"list", _, slot_list_getitem.lookup, ht.isList.typeIs, ?_⟩
  refine wpAny_getItem_list_slice ht.isList hs pl pu .none (by simp) ?_ (by rw [List.size_toArray] <;> omega)
  rw [zhc, ← hlen]
  refine ⟨.ref s.heap.objs.size, _, I.laid (t' := s.toks) (o := .lst (zmg xs lo hi)) (fun b ob q => Heap.get?_push_of_some _ q) (Nat.le_refl _) ?_, rfl, q _ (I.hok.fresh (Nat.le_refl _))⟩
  exact ⟨Nat.le_trans (zb1 xs lo hi) hz, _, 0, (r.drop (HT.sIx xs.length 0 lo)).take (HT.sIx xs.length xs.length hi - HT.sIx xs.length 0 lo), Heap.get?_push_size _ rfl⟩
noncomputable def zrp : V → Bool
  | .non => true
  | .bl _ => true
  | .int _ => true
  | .str _ => true
  | _ => false
noncomputable def eqV : V → V → Bool
  | .non, .non => true
  | .bl a, .bl b => a == b
  | .bl a, .int b => (if a then 1 else 0) == b
  | .int a, .bl b => a == (if b then 1 else 0)
  | .int a, .int b => a == b
  | .str a, .str b => a == b
  | _, _ => false
theorem zq9 {A : Around} {s : Shared} {y x : V} {u v : Value} (ry : yY y u) (rx : yY x v) (fy : zrp y = true) (fx : zrp x = true) : SeqAt.EqAt A s u v (eqV y x) := by
  cases y with
  | non =>
    cases ry
    cases x with
    | non => cases rx; exact SeqAt.EqAt.same _
    | bl b => cases rx; exact SeqAt.EqAt.none_bool b
    | int b => obtain ⟨t, rfl⟩ := rx; exact SeqAt.EqAt.none_int b t
    | str b => obtain ⟨t, rfl⟩ := rx; exact SeqAt.EqAt.none_str b t
    | _ => exact absurd (show false = true from fx) Bool.false_ne_true
  | bl a =>
    cases ry
    cases x with
    | non => cases rx; exact SeqAt.EqAt.bool_none a
    | bl b => cases rx; exact SeqAt.EqAt.bool_bool a b
    | int b => obtain ⟨t, rfl⟩ := rx; exact SeqAt.EqAt.bool_int a b t
    | str b => obtain ⟨t, rfl⟩ := rx; exact SeqAt.EqAt.bool_str a b t
    | _ => exact absurd (show false = true from fx) Bool.false_ne_true
  | int a =>
    obtain ⟨t', rfl⟩ := ry
    cases x with
    | non => cases rx; exact SeqAt.EqAt.int_none a t'
    | bl b => cases rx; exact SeqAt.EqAt.int_bool a t' b
    | int b => obtain ⟨t, rfl⟩ := rx; exact SeqAt.EqAt.int_int a t' b t
    | str b => obtain ⟨t, rfl⟩ := rx; exact SeqAt.EqAt.int_str a t' b t
    | _ => exact absurd (show false = true from fx) Bool.false_ne_true
  | str a =>
    obtain ⟨t', rfl⟩ := ry
    cases x with
    | non => cases rx; exact SeqAt.EqAt.str_none a t'
    | bl b => cases rx; exact SeqAt.EqAt.str_bool a t' b
    | int b => obtain ⟨t, rfl⟩ := rx; exact SeqAt.EqAt.str_int a t' b t
    | str b => obtain ⟨t, rfl⟩ := rx; exact SeqAt.EqAt.str_str a t' b t
    | _ => exact absurd (show false = true from fx) Bool.false_ne_true
  | _ => exact absurd (show false = true from fy) Bool.false_ne_true
theorem zP : VH X (.builtin "len") (fun xs H Q => ∃ p ys, xs = [.ref p] ∧ (SqL X.K H p ys ∨ SqT X.K H p ys) ∧ Q (.int ys.length) H) := by
  intro pins s σ H xs us Q I r h
  obtain ⟨p, ys, rfl, hq, q⟩ := h
  obtain ⟨u, rfl, rx⟩ := zcK r
  cases rx
  have hn := zb6
  rcases hq with hq | hq
  · obtain ⟨its, r', pl, hz⟩ := I.list hq
    have hlen := r'.length
    exact Calls.call_len_list pl.isList (by simp only [List.size_toArray] <;> omega) ⟨.int ys.length, H, I.tok _, ⟨s.toks + 1, by rw [List.size_toArray, hlen]⟩, q⟩
  · obtain ⟨its, r', pl, hz⟩ := I.tuple hq
    have hlen := r'.length
    exact len_tuple pl (by simp only [List.size_toArray] <;> omega) ⟨.int ys.length, H, I.tok _, ⟨s.toks + 1, by rw [List.size_toArray, hlen]⟩, q⟩
theorem zkw : VH X (.type "list") (fun xs H Q => ∃ p ys, xs = [.ref p] ∧ (SqL X.K H p ys ∨ SqT X.K H p ys) ∧ ∀ l, H l = none → Q (.ref l) (upd H l (.lst ys))) := by
  intro pins s σ H xs us Q I r h
  obtain ⟨p, ys, rfl, hq, q⟩ := h
  obtain ⟨u, rfl, rx⟩ := zcK r
  cases rx
  have fin : ∀ (its : List Value), yG ys its → ys.length ≤ sizeLine → ∀ (h' : Heap) (c' : Nat), (∀ b o', s.heap.get? b = some o' → h'.get? b = some o') →
      h'.get? s.heap.objs.size = some { cls := .type "list", dict := none, data := .seq its.toArray c', slots := #[] } → EP X pins σ Q (.ref s.heap.objs.size) { s with heap := h' } := fun its r' hz h' c' kp e =>
    ⟨.ref s.heap.objs.size, _, I.laid (t' := s.toks) kp (Nat.le_refl _) (show yV X.prog X.w _ h' _ (.lst ys) from ⟨hz, its, c', r', e⟩), rfl, q _ (I.hok.fresh (Nat.le_refl _))⟩
  rcases hq with hq | hq
  · obtain ⟨its, r', pl, hz⟩ := I.list hq
    have hlen := r'.length
    obtain ⟨o, ho, hc, n, hd⟩ := pl.isList
    exact call_list_seq p (.inl rfl) ho hc hd (fun h' c' kp e => fin its r' hz h' c' kp e) (by simp only [List.size_toArray] <;> omega)
  · obtain ⟨its, r', pl, hz⟩ := I.tuple hq
    have hlen := r'.length
    obtain ⟨o, ho, hc, n, hd⟩ := pl
    exact call_list_seq p (.inr rfl) ho hc hd (fun h' c' kp e => fin its r' hz h' c' kp e) (by simp only [List.size_toArray] <;> omega)
theorem xS : VH X (.type "tuple") (fun xs H Q => ∃ p ys, xs = [.ref p] ∧ ((SqL X.K H p ys ∧ ∀ l, H l = none → Q (.ref l) (upd H l (.tup ys))) ∨ (SqT X.K H p ys ∧ Q (.ref p) H))) := by
  intro pins s σ H xs us Q I r h
  obtain ⟨p, ys, rfl, h⟩ := h
  obtain ⟨u, rfl, rx⟩ := zcK r
  cases rx
  rcases h with ⟨hq, q⟩ | ⟨hq, q⟩
  · obtain ⟨its, r', pl, hz⟩ := I.list hq
    have hlen := r'.length
    refine call_tuple_list pl.isList (fun h' kp => ?_) (by simp only [List.size_toArray] <;> omega)
    have I1 : Inv X pins σ H { s with heap := h' } := I.kept (t' := s.toks) kp
    have I2 : Inv X pins σ (upd H h'.objs.size (.tup ys)) { s with heap := h'.push { cls := .type "tuple", data := .seq its.toArray } } :=
      I1.laid (t' := s.toks) (fun b o e => Heap.get?_push_of_some _ e) (Nat.le_refl _) (show yV X.prog X.w _ _ _ (.tup ys) from ⟨hz, its, r', IsTup.new _ _⟩)
    exact ⟨.ref h'.objs.size, _, I2, rfl, q _ (I1.hok.fresh (Nat.le_refl _))⟩
  · obtain ⟨its, r', pl, hz⟩ := I.tuple hq
    exact call_tuple_same pl ⟨.ref p, H, I, rfl, q⟩
noncomputable def tyV (K : PySem.W.Frag) (T : String) (x : V) (H : Hp) : Prop := match x with
  | .str _ => T = "str"
  | .int _ => T = "int"
  | .ref p => (T = "list" ∧ ∃ xs, SqL K H p xs) ∨ (T = "tuple" ∧ ∃ o, K.lookup p = some o ∧ o.cls = .type "tuple" ∧ o.dict = none) ∨
      (T = "dict" ∧ ((∃ kvs, H p = some (.dK kvs)) ∨ ∃ kvs, H p = some (.dT kvs))) ∨ (T = "set" ∧ ∃ S n, H p = some (.set S n))
  | _ => False
theorem ztc {pins : List (Addr × Obj)} {σ : St} {H : Hp} {s : Shared} {T : String} {x : V} {v : Value} (I : Inv X pins σ H s) (r : yY x v) (ty : tyV X.K T x H) :
    s.TypeIs v T ∧ ∀ a, v = .ref a → ∃ ob, s.heap.get? a = some ob ∧ ob.dict = none := by
  cases x with
  | str z =>
    obtain ⟨t, rfl⟩ := r
    cases (show T = "str" from ty)
    exact ⟨typeIs_str s z t, fun _ e => nomatch e⟩
  | int i =>
    obtain ⟨t, rfl⟩ := r
    cases (show T = "int" from ty)
    exact ⟨typeIs_int s i t, fun _ e => nomatch e⟩
  | ref p =>
    cases r
    rcases ty with ⟨rfl, xs, hq⟩ | ⟨rfl, o, hk, hc, hd⟩ | ⟨rfl, hk⟩ | ⟨rfl, S, n, hk⟩
    · obtain ⟨its, _, pl, _⟩ := I.list hq
      refine ⟨pl.isList.typeIs, fun a e => ?_⟩
      cases e
      obtain ⟨o, n, e, c, hd, _⟩ := pl
      exact ⟨o, e, hd⟩
    · refine ⟨⟨o, I.kIn p o hk, hc⟩, fun a e => ?_⟩
      cases e
      exact ⟨o, I.kIn _ o hk, hd⟩
    · have z : ∃ o, s.heap.get? p = some o ∧ o.ExactDict := by
        rcases hk with ⟨kvs, hk⟩ | ⟨kvs, hk⟩
        · obtain ⟨_, _, _, _, o, _, _, e, ex, _⟩ := I.hok p _ hk
          exact ⟨o, e, ex⟩
        · obtain ⟨_, _, _, _, o, _, _, e, ex, _⟩ := I.hok p _ hk
          exact ⟨o, e, ex⟩
      obtain ⟨o, e, ex⟩ := z
      refine ⟨⟨o, e, ex.1⟩, fun a e2 => ?_⟩
      cases e2
      exact ⟨o, e, ex.2.1⟩
    · obtain ⟨o, _, _, _, e, ex, _⟩ := I.hok p _ hk
      refine ⟨⟨o, e, ex.1⟩, fun a e2 => ?_⟩
      cases e2
      exact ⟨o, e, ex.2.1⟩
  | _ => exact False.elim ty
noncomputable def tBM (K : PySem.W.Frag) (T : String) (r : V → List V → Hp → VK → Prop) (to : TE) (t : TA) : TE := fun σ H Q => to σ H fun x H1 => tyV K T x H1 ∧ t σ H1 fun xs H2 => r x xs H2 Q
variable {o e : Expr} {es : List Expr} {to : TE} {t : TA} {name : Str} {apos cpos : Pos} {T id : String} {r : V → List V → Hp → VK → Prop}
theorem zpG (pa : PlainAttrs T) (slot : Slot T name id) (hty : typeOf (.builtin id) = pure (.type "method_descriptor")) (hm : MtR X id r) (ho : PE X o to) (ha : PA X (e :: es) t)
    (hbase : attributeBase o name X.env (eval o X.env) = eval o X.env := by rfl)
    (hfew : ((backTo cpos (starEach (e :: es) X.env)).all (fun x => !x.1) && (backToKw cpos (keywordEach [] X.env)).all (fun x => x.1.isSome)
      && decide ((e :: es).length + ([] : List Keyword).length + (if ([] : List Keyword).isEmpty then 0 else 1) < 30)) = true := by rfl)
    (hline : (apos.endLine == cpos.line) = true := by rfl) (hs : starEach (e :: es) X.env = (false, eval e X.env) :: starEach es X.env := by rfl) (hplain : (backTo cpos (starEach es X.env)).any (·.1) = false := by rfl) :
    PE X (.Call (.Attribute o name apos) (e :: es) [] cpos) (tBM X.K T r to t) := by
  intro pins s σ H Q I h
  refine wpAny_Call_method_late hbase hfew hline rfl (thn (ho pins s σ H _ I h) fun v s1 hh9 => ?_)
  obtain ⟨x, H1, I1, r1, ty, q1⟩ := hh9
  obtain ⟨h1, h2⟩ := ztc I1 r1 ty
  refine ⟨T, id, pa, slot, hty, h1, h2, ?_⟩
  have hA := ha cpos pins s1 σ H1 _ I1 q1
  rw [hs] at hA ⊢
  refine Calls.callWith_builtin (by show (false || (backTo cpos (starEach es X.env)).any (·.1)) = false; rw [hplain] <;> rfl) (Calls.evalArgs_plain ?_)
  exact thn hA fun us s2 ⟨vs, H2, I2, r2, q2⟩ => hm pins s2 σ H2 x vs v us Q I2 r1 r2 q2
/- xs.append(e), list.index on a module's tuple .. are MtR facts of 06m -/
end
end L2
namespace L2
open PySem PySem.Spec PyProof.Rows
noncomputable def MtM (X : Cx) (id : String) (r : V → List V → Hp → VK → Prop) : Prop :=
  ∀ (pins : List (Addr × Obj)) (s : Shared) (σ : St) (H : Hp) (x : V) (xs : List V) (v : Value) (us : List Value) (Q : VK), Inv X pins σ H s → yY x v → yG xs us → r x xs H Q →
    wpAny (model X.prog X.w) X.A (call (.builtin id) (v :: us)) (EP X pins σ Q) X.xe s
theorem yG.one : ∀ {x : V} {us : List Value}, yG [x] us → ∃ u, us = [u] ∧ yY x u := by
  intro x us h
  cases h with | cons r t => cases t; exact ⟨_, rfl, r⟩
theorem yG.rep {xs : List V} {us : List Value} (h : yG xs us) : ∀ k : Nat, yG (List.replicate k xs).flatten (List.replicate k us).flatten
  | 0 => .nil
  | k + 1 => by
    rw [List.replicate_succ, List.replicate_succ, List.flatten_cons, List.flatten_cons]
    exact yG.append h (yG.rep h k)
theorem zkK (its : List Value) : ∀ (k : Nat) (acc : List Value),
    List.foldl (fun x1 x2 => x1 ++ x2) acc.toArray (List.replicate k its.toArray) = (acc ++ (List.replicate k its).flatten).toArray
  | 0, acc => by simp
  | k + 1, acc => by
    have e : acc.toArray ++ its.toArray = (acc ++ its).toArray := by simp
    have e2 : (acc ++ its) ++ (List.replicate k its).flatten = acc ++ (List.replicate (k + 1) its).flatten := by
      rw [List.replicate_succ, List.flatten_cons, List.append_assoc]
    rw [← e2, ← zkK its k (acc ++ its), ← e, List.replicate_succ, List.foldl_cons]
section
variable {X : Cx} {pins : List (Addr × Obj)} {σ : St} {H : Hp} {s : Shared} {l b : Addr} {xs ys zs : List V}
theorem Inv.lset {its its' : List Value} {n : Nat} {f : Array Value → Array Value} {t' : Nat} (I : Inv X pins σ H s) (hH : H l = some (.lst xs))
    (e : s.heap.get? l = some { cls := .type "list", data := .seq its.toArray n }) (hf : f its.toArray = its'.toArray) (hv : yG ys its') (hz : ys.length ≤ sizeLine) :
    Inv X pins σ (upd H l (.lst ys)) { s with heap := s.heap.update l (Obj.mapSeq f), toks := t' } := by
  have q := PySem.IsL.update e f
  rw [hf] at q
  refine I.write (x := l) (e := l) (by rw [hH]; exact trivial) (.inl rfl) (fun b' u hb hu => (Heap.get?_update_other s.heap (Obj.mapSeq f) (Ne.symm hb)).trans hu) ⟨_, q⟩ ?_
  exact ⟨hz, its', _, hv, q⟩
theorem Inv.lnew {its : List Value} {t' : Nat} (I : Inv X pins σ H s) (hv : yG ys its) (hz : ys.length ≤ sizeLine) :
    Inv X pins σ (upd H s.heap.objs.size (.lst ys)) { s with heap := s.heap.push { cls := .type "list", data := .seq its.toArray }, toks := t' } :=
  I.laid (fun _ _ q => Heap.get?_push_of_some _ q) (Nat.le_refl _) ⟨hz, its, 0, hv, Heap.get?_push_size _ rfl⟩
theorem Inv.fresh (I : Inv X pins σ H s) : H s.heap.objs.size = none := I.hok.fresh (Nat.le_refl _)
theorem Inv.lstM (I : Inv X pins σ H s) (hH : H l = some (.lst xs)) : xs.length ≤ sizeLine ∧ ∃ (its : List Value) (n : Nat), yG xs its ∧ xs.length = its.length ∧ s.heap.get? l = some { cls := .type "list", data := .seq its.toArray n } := by
  obtain ⟨z, its, n, r, e⟩ := I.hok l _ hH
  exact ⟨z, its, n, r, r.length, e⟩
theorem znm {n : Nat} (h : n ≤ sizeLine) : Builtin.List.listTooLong n = false := by
  unfold Builtin.List.listTooLong
  exact decide_eq_false (by omega)
end
section
variable {X : Cx}
noncomputable def zpn : V → List V → Hp → VK → Prop := fun x vs H Q => ∃ l xs y, x = .ref l ∧ vs = [y] ∧ H l = some (.lst xs) ∧ xs.length < sizeLine ∧ Q .non (upd H l (.lst (xs ++ [y])))
theorem zcq : MtM X "list.append" zpn := by
  intro pins s σ H x vs v us Q I rx rv h
  obtain ⟨l, xs, y, rfl, rfl, hH, hz, q⟩ := h
  cases rx
  obtain ⟨u, rfl, ru⟩ := rv.one
  obtain ⟨z, its, n, r, hl, e⟩ := I.lstM hH
  refine call_meets F.slot_list_append ⟨_, e, rfl⟩ F.entry_list_append (F.args_list_append_2 _ _) (PySem.list_append l its.toArray n u (by rw [List.size_toArray]; omega)) ⟨e, ?_⟩
  refine ⟨.non, _, I.lset (its' := its ++ [u]) hH e (by simp) (r.append (.cons ru .nil)) ?_, rfl, q⟩
  rw [List.length_append, List.length_singleton]
  omega
noncomputable def zo3 : V → List V → Hp → VK → Prop := fun x vs H Q => ∃ l b xs zs, x = .ref l ∧ vs = [.ref b] ∧ H l = some (.lst xs) ∧ H b = some (.lst zs) ∧ xs.length + zs.length ≤ sizeLine ∧ Q .non (upd H l (.lst (xs ++ zs)))
theorem zkv : MtM X "list.extend" zo3 := by
  intro pins s σ H x vs v us Q I rx rv h
  obtain ⟨l, b, xs, zs, rfl, rfl, hH, hB, hz, q⟩ := h
  cases rx
  obtain ⟨u, rfl, ru⟩ := rv.one
  cases ru
  obtain ⟨z, its, n, r, hl, e⟩ := I.lstM hH
  obtain ⟨z2, its2, n2, r2, hl2, e2⟩ := I.lstM hB
  have hsz : its.toArray.size + its2.toArray.size ≤ sizeLine := by rw [List.size_toArray, List.size_toArray]; omega
  have hlong : ¬ (!its.toArray.isEmpty && Builtin.List.listTooLong (its.toArray.size + its2.toArray.size)) = true := by
    rw [znm hsz, Bool.and_false]
    exact Bool.false_ne_true
  refine call_meets F.slot_list_extend ⟨_, e, rfl⟩ F.entry_list_extend (F.args_list_extend_2 _ _)
    (AutoSeq1.list_extend_list_list_0 l its.toArray n b its2.toArray n2 hlong (by rw [List.size_toArray]; omega) (by omega)) ⟨e, e2, ?_⟩
  refine ⟨.non, _, I.lset (its' := its ++ its2) hH e (by simp) (r.append r2) ?_, rfl, q⟩
  rw [List.length_append]
  omega
noncomputable def rCat : R2 := fun x y H Q => ∃ l b xs zs, x = .ref l ∧ y = .ref b ∧ H l = some (.lst xs) ∧ H b = some (.lst zs) ∧ xs.length + zs.length ≤ sizeLine ∧ ∀ p, H p = none → Q (.ref p) (upd H p (.lst (xs ++ zs)))
theorem ztH : OpR X (binaryOp .Add) rCat := by
  intro pins s σ H x y v u Q I rx ry h
  obtain ⟨l, b, xs, zs, rfl, rfl, hH, hB, hz, q⟩ := h
  cases rx
  cases ry
  obtain ⟨z, its, n, r, hl, e⟩ := I.lstM hH
  obtain ⟨z2, its2, n2, r2, hl2, e2⟩ := I.lstM hB
  refine PySem.P.add_list e e2 ?_ (by rw [List.size_toArray, List.size_toArray]; omega)
  have ea : its.toArray ++ its2.toArray = (its ++ its2).toArray := by simp
  rw [ea]
  exact ⟨.ref _, _, I.lnew (t' := s.toks) (r.append r2) (by rw [List.length_append]; omega), rfl, q _ I.fresh⟩
noncomputable def rRep : R2 := fun x y H Q => ∃ l k xs, x = .ref l ∧ y = .int k ∧ H l = some (.lst xs) ∧ -(2 ^ 63) ≤ k ∧ k < 2 ^ 63 ∧ xs.length * k.toNat ≤ sizeLine ∧
  ∀ p, H p = none → Q (.ref p) (upd H p (.lst (List.replicate k.toNat xs).flatten))
theorem zrD {α : Type} (xs : List α) (k : Nat) : (List.replicate k xs).flatten.length = k * xs.length := by
  induction k with
  | zero => simp
  | succ k ih => rw [List.replicate_succ, List.flatten_cons, List.length_append, ih, Nat.succ_mul, Nat.add_comm]
theorem zqR : OpR X (binaryOp .Mult) rRep := by
  intro pins s σ H x y v u Q I rx ry h
  obtain ⟨l, k, xs, rfl, rfl, hH, h1, h2, hz, q⟩ := h
  cases rx
  obtain ⟨t, rfl⟩ := ry
  obtain ⟨z, its, n, r, hl, e⟩ := I.lstM hH
  have hlen : its.toArray.size * k.toNat ≤ sizeLine := by rw [List.size_toArray, ← hl]; exact hz
  have hcap : ¬ its.toArray.size * k.toNat > (2 ^ 63 - 1) / 8 := by
    have : (sizeLine : Nat) ≤ (2 ^ 63 - 1) / 8 := by decide
    omega
  have hfit : ¬ (!Builtin.List.listFitsIndex k) = true := by
    rw [fitsIndex_both h1 h2]
    exact Bool.false_ne_true
  have hlong : ¬ Builtin.List.listTooLong (its.toArray.size * k.toNat) = true := by
    rw [znm hlen]
    exact Bool.false_ne_true
  have hnew : List.foldl (fun x1 x2 => x1 ++ x2) #[] (List.replicate (if its.toArray.isEmpty = true then 0 else k.toNat) its.toArray) = (List.replicate k.toNat its).flatten.toArray := by
    have f0 : ∀ m : Nat, List.foldl (fun x1 x2 => x1 ++ x2) #[] (List.replicate m its.toArray) = (List.replicate m its).flatten.toArray := fun m => by
      have := zkK its m []
      rw [List.nil_append] at this
      exact this
    rw [f0]
    cases its with
    | nil => simp
    | cons a r' => rw [if_neg (by simp)]
  refine wpAny_binaryOp_repeat_ref (T := "list") (U := "int") (by decide) ⟨_, e, rfl⟩ (fun s' => typeIs_int s' k t) noFill_list_mul F.fills_int_mul F.slot_int_rmul repeat_list F.slot_int_index.lookup
    (call_meets F.slot_int_rmul (typeIs_int s k t) F.entry_int_rmul (F.args_int_rmul_2 _ _) (int___rmul___int_list k t l its.toArray n)
      ⟨e, rfl, ⟨_, e, rfl⟩, call_meets F.slot_list_mul ⟨_, e, rfl⟩ F.entry_list_mul (F.args_list_mul_2 _ _) (AutoListH.list___mul___list_int_3 l its.toArray n k t hfit hcap hlong) ⟨e, ?_⟩⟩)
  rw [hnew]
  exact ⟨.ref _, _, I.lnew (t' := s.toks) (r.rep k.toNat) (by rw [zrD, Nat.mul_comm]; exact hz), rfl, q _ I.fresh⟩
end
section
variable {prog : Program} {w : World} {A : Around} {E : Value → Shared → Prop} {s : Shared}
end
section
variable {X : Cx}
end
end L2
namespace Att
open PySem PySem.W PySem.Calls PyProof.Rows
theorem zb0 {P : Params} {h : Heap} : ∀ (ns : List Int) (vs : List Value), WellAll P h vs (ns.map WData.int) → IntsAre vs ns := by
  intro ns
  induction ns with
  | nil =>
    intro vs w
    rw [List.map_nil] at w
    cases w
    exact .nil
  | cons n ns ih =>
    intro vs w
    rw [List.map_cons] at w
    cases w with
    | cons a b =>
      cases a
      exact .cons _ _ (ih _ b)
theorem zpx {l : OpenLaw} {n : Nat} (hn : l.most = some n) {P : Params} {h : Heap} {args : List WData} {vals : List Value}
    (hpre : l.row.toRowW.claim.pre args = true) (hwl : WellAll P h vals args) :
    ∃ a vs ns, vals = [Value.ref a] ∧ args = [WData.list (ns.map WData.int)] ∧ h.get? a = some { cls := .type "list", data := .seq vs.toArray } ∧ IntsAre vs ns ∧ ns.length ≤ n := by
  have hsh : WShape.hasAll [] args [.list .int] = true := (pre_splitW hpre).1
  have hc : l.pre.holds [] { args := args } = true := (pre_splitW hpre).2
  obtain ⟨d, r, rfl, h1, h2⟩ := hasAllW_cons hsh
  obtain rfl := hasAllW_nil h2
  obtain ⟨xs, rfl, h3⟩ := hasW_list h1
  obtain ⟨ns, rfl⟩ := items_int h3
  have hlen : ns.length ≤ n := by
    unfold OpenLaw.pre at hc
    have h4 : (WTm.not (.lt (.lit (.int (n : Int))) (.len (.arg 0)))).holds [] { args := [.list (ns.map .int)] } = true := by
      have h4 := (holds_andW hc).1
      rw [hn] at h4
      exact h4
    have h5 := condW_of h4 (w_not (w_lt w_lit (w_len_list (w_arg rfl))))
    rw [List.length_map] at h5
    refine Nat.le_of_not_lt fun q => ?_
    have q' : (n : Int) < ((ns.length : Nat) : Int) := by omega
    first
      | (rw [decide_eq_true q'] at h5; exact absurd h5 (by decide))
      | (simp at h5; omega)
  cases hwl with
  | cons w1 w2 =>
    cases w2
    cases w1 with
    | list ho hall => exact ⟨_, _, ns, rfl, rfl, ho, zb0 ns _ hall, hlen⟩
theorem zoF (l : OpenLaw) (args : List WData) : l.row.toRowW.claim.post args (.bool true) args = true :=
  postW_of (r := l.row.toRowW) (X := (true == true))
    (show WShape.has [] (.bool true) .bool = true by first | rfl | decide | simp [WShape.has, WShape.arms, WShape.armsAll])
    (show (WTm.eq .res (.lit (.bool true))).value [] { args := args, res := some (.bool true), after := args } = some (.bool (true == true)) from w_eq_bool (w_res rfl) w_lit) rfl
theorem attach_call {l : OpenLaw} {n : Nat} {q : Program} {loose : List Str} {XP : (Str → Option Value) → Heap → Prop} {YP : World → Heap → Prop} {d : DefRec}
    (hn : l.most = some n) (hdf : d.params.defaults = [])
    (call : ∀ (w : World) (s₀ s₁ : Shared) (mg mb : Str → Option Value) (fa : Addr) (o : Obj) (pm cd doc : Value) (a : Addr) (vs : List Value) (ns : List Int),
      Ground q loose [] XP w s₀ mg mb s₁.heap → YP w s₁.heap →
      s₁.heap.get? fa = some o → o.data = .func (docDef d.name d.params d.body d.scope pm cd doc) → s₁.heap.CodeRec cd d.name → mg d.name = some (.ref fa) →
      s₁.heap.get? a = some { cls := .type "list", data := .seq vs.toArray } → IntsAre vs ns → ns.length ≤ n → s₁.gens = #[] →
      codeAny (model l.prog w) callerA (.call (.ref fa) ⟨[.ref a], []⟩) (fun r s' => r = .ok (.ret (.bool true)) ∧ OldK s₁.heap s'.heap ∧ s'.os = s₁.os ∧ AllBare s'.gens) s₁) :
    WalkO q loose XP YP l.row.toRowW d [] (fun f vs => PySem.call f vs) := by
  intro w s₀ s₁ mg mb G Y fa o pm cd doc dV kV ho hd hcd hD hmg hg args vals as hpre hlay hrd hwl hlo
  obtain rfl : dV = .none := Dflts.none hD hdf
  obtain rfl : kV = .none := Dflts.noKw hD
  obtain ⟨a, vs, ns, rfl, rfl, hobj, hints, hlen⟩ := zpx hn hpre hwl
  refine enter_call (codeAny_mono (call w s₀ s₁ mg mb fa o pm cd doc a vs ns G Y ho (fd_plain hd) hcd hmg hobj hints hlen hg) fun r s' hq => ?_)
  obtain ⟨rfl, h2, h3, h4⟩ := hq
  exact ⟨.inl ⟨.bool true, .bool true, [], rfl, fun _ => rfl, .bool true, zoF l _, fun _ => ⟨List.Pairwise.nil, fun _ hm => (nomatch hm)⟩⟩, h2, h3, h4⟩
section
variable {prog : Program} {w : World} {A : Around} {E : Value → Shared → Prop} {s : Shared} {K : Frag}
noncomputable def ledger (h : Heap) (L d : Addr) : List (Addr × Obj) := (List.range h.objs.size).filterMap fun a => if a = L ∨ a = d then none else (h.get? a).map fun o => (a, o)
end
end Att
namespace L2
open PySem PySem.Spec PyProof.Rows
theorem zpg : ∀ {vs : List Value} {ns : List Int}, IntsAre vs ns → yG (ns.map V.int) vs := by
  intro vs ns h
  induction h with
  | nil => exact .nil
  | cons n t h ih => exact .cons ⟨t, rfl⟩ ih
noncomputable def zuS (H : Hp) : Prop := ∀ b, H b = none ∨ ∃ o xs, H b = some (.frz o (.lst xs))
theorem zqw {P : Program} {w : World} {K : PySem.W.Frag} {mg mb : Str → Option Value} {CX : CXT} {k : Nat} {fa a : Addr} {fd : FuncData} {x : Str} {sp : Sp} {s₁ : Shared} {vs : List Value} {ns : List Int}
    (KX : K.In s₁.heap) (hns : s₁.heap.Ns mainGlobals mg) (hb : s₁.heap.Ns builtinsNs mb) (hbb : ∀ x : Str, x ≠ "__name__" → mb x = bootBuiltins x) (hlim : s₁.heap.NoLimit) (hg : s₁.gens = #[])
    (ha : s₁.heap.get? a = some { cls := .type "list", data := .seq vs.toArray }) (hi : IntsAre vs ns) (hl : ns.length ≤ sizeLine) (hr : zau k callerA)
    (F : ∀ base : Heap, K.In base → base.Ns mainGlobals mg → xk P w K mg base CX k fa fd [x] sp) (hbind : ∀ (s : Shared) (u : Value), BindsTo s fd ⟨[u], []⟩ [(x, u)])
    (hsp : ∀ H : Hp, zuS H → SqL K H a (ns.map V.int) → sp [.ref a] H (fun v _ => v = .bl true) fun _ _ _ => False)
    (hCX : ∀ H e s', CX [] H s₁ (fun _ _ _ => False) e s' → False) :
    codeAny (model P w) callerA (.call (.ref fa) ⟨[.ref a], []⟩) (fun r s' => r = .ok (.ret (.bool true)) ∧ OldK s₁.heap s'.heap ∧ s'.os = s₁.os ∧ AllBare s'.gens) s₁ := by
  have rv := zpg hi
  have lenV := hi.length
  -- from an abstract heap in which nothing but the script may be tracked
  have core : ∀ H : Hp, zuS H → SqL K H a (ns.map V.int) → HOk P w H s₁.heap → (∀ b, H b ≠ none → b = a) → (H a ≠ none → K.lookup a = none) →
      codeAny (model P w) callerA (.call (.ref fa) ⟨[.ref a], []⟩) (fun r s' => r = .ok (.ret (.bool true)) ∧ OldK s₁.heap s'.heap ∧ s'.os = s₁.os ∧ AllBare s'.gens) s₁ := by
    intro H hO hS hok hA hK
    have base_of : ∀ {b : Addr} {o : Obj}, s₁.heap.get? b = some o → H b = none → (zqa s₁.heap H).get? b = some o := fun e n => zpY e n
    have noA : ∀ {b : Addr} {o : Obj} {es : Array DictEntry} {ep : Nat}, s₁.heap.get? b = some o → o.data = .dict es ep → H b = none := fun {b o es ep} e d => by
      cases q : H b with
      | none => rfl
      | some u =>
        have e' : b = a := hA b (by rw [q]; simp)
        subst e'
        rw [ha] at e; cases e
        have d' : Data.seq vs.toArray _ = Data.dict es ep := d
        cases d'
    have nsK : ∀ {b : Addr} {m : Str → Option Value}, s₁.heap.Ns b m → (zqa s₁.heap H).Ns b m := fun {b m} ⟨o, es, ep, e, d, r⟩ => ⟨o, es, ep, base_of e (noA e d), d, r⟩
    have hKb : K.In (zqa s₁.heap H) := fun b o e => base_of (KX b o e) (by
      cases q : H b with
      | none => rfl
      | some u =>
        have e' : b = a := hA b (by rw [q]; simp)
        subst e'
        rw [hK (by rw [q]; simp)] at e; cases e)
    have hM : Mod K mg (zqa s₁.heap H) := ⟨hKb, nsK hns, ⟨mb, nsK hb, hbb⟩, let ⟨mc, h1, h2⟩ := hlim; ⟨mc, nsK h1, h2⟩⟩
    have e0 : zul P w K mg (zqa s₁.heap H) callerA [] s₁ H := ⟨rfl, hM, fun b o e => zrP e, Nat.le_of_eq (zoU _ _), trivial, fun b hb => absurd (show b ∈ ([] : List Addr) from hb) (by simp), hok, .of_eq hg⟩
    refine codeAny_mono ((F _ hKb (nsK hns)).run callerA [] s₁ H ⟨[.ref a], []⟩ [.ref a] [.ref a] _ _ hr e0 (hbind s₁ (.ref a)) (.cons rfl .nil) (hsp H hO hS)) fun r s' h => ?_
    cases r with
    | error e => exact (hCX H e s' h).elim
    | ok fl =>
      cases fl with
      | next => exact False.elim h
      | brk => exact False.elim h
      | cont => exact False.elim h
      | ret u =>
        obtain ⟨v, H', os, bare, un, hok', r', q⟩ := h
        have q' : v = .bl true := q
        subst q'
        obtain rfl : u = Value.bool true := r'
        refine ⟨rfl, OldK.of_keep fun b o e => ?_, os, bare⟩
        cases q : H b with
        | none => exact un.keep b o e q (by intro z; exact absurd (show b ∈ ([] : List Addr) from z) (by simp)) (by simp)
        | some u =>
          rcases hO b with z | ⟨ob, xs, z⟩
          · rw [q] at z; cases z
          · have z2 := un.frzs b ob _ z
            obtain ⟨e1, _⟩ := hok b _ z
            obtain ⟨e2, _⟩ := hok' b _ z2
            rw [e] at e1; cases e1
            exact e2
  cases hk : K.lookup a with
  | some o =>
    -- the script is one of the module's own objects
    have e := KX a o hk
    rw [ha] at e
    cases e
    refine core (fun _ => none) (fun _ => .inl rfl) (.inr ⟨_, vs.toArray, _, hk, rfl, rfl, rfl, by rw [List.size_toArray, lenV]; exact hl, by simpa using rv⟩) (fun b u z => by have z' : (none : Option HO) = some u := z; cases z') (fun b z => absurd rfl z) fun z => absurd rfl z
  | none =>
    refine core (fun b => if b = a then some (.frz { cls := .type "list", data := .seq vs.toArray } (.lst (ns.map V.int))) else none) (fun b => ?_) (.inl (.inr ⟨{ cls := .type "list", data := .seq vs.toArray }, if_pos rfl⟩)) (fun b u z => ?_) (fun b z => ?_) fun _ => hk
    · by_cases hb : b = a
      · exact .inr ⟨_, _, if_pos hb⟩
      · exact .inl (if_neg hb)
    · by_cases hb : b = a
      · have z' := (if_pos hb).symm.trans z
        cases z'
        subst hb
        exact ⟨ha, by rw [List.length_map]; exact hl, vs, _, rv, ha⟩
      · have z' := (if_neg hb).symm.trans z
        cases z'
    · by_cases hb : b = a
      · exact hb
      · exact absurd (if_neg hb) z
end L2
namespace L2
open PySem PySem.Spec PyProof.Rows
theorem walk_of {l : PySem.W.OpenLaw} {n k : Nat} {q : Program} {loose : List Str} {XP : (Str → Option Value) → Heap → Prop} {YP : World → Heap → Prop} {d : DefRec} {K : Params → PySem.W.Frag} {CX : World → CXT} {sp : World → Sp} {x : Str}
    (hn : l.most = some n) (hn2 : n ≤ sizeLine) (hdf : d.params.defaults = []) (hr : zau k callerA)
    (hY : ∀ (w : World) (h : Heap), YP w h → (K w.params).In h)
    (F : ∀ (w : World) (mg : Str → Option Value) (fa : Addr) (h : Heap), (K w.params).In h → h.Ns mainGlobals mg → mg d.name = some (.ref fa) →
      ∃ fd : FuncData, (∀ (s : Shared) (u : Value), BindsTo s fd ⟨[u], []⟩ [(x, u)]) ∧
        ∀ base : Heap, (K w.params).In base → base.Ns mainGlobals mg → xk l.prog w (K w.params) mg base (CX w) k fa fd [x] (sp w))
    (hsp : ∀ (w : World) (H : Hp) (a : Addr) (ns : List Int), ns.length ≤ n → zuS H → SqL (K w.params) H a (ns.map V.int) → sp w [.ref a] H (fun v _ => v = .bl true) fun _ _ _ => False)
    (hCX : ∀ (w : World) (H : Hp) (s : Shared) (e : Value) (s' : Shared), CX w [] H s (fun _ _ _ => False) e s' → False) :
    PySem.W.WalkO q loose XP YP l.row.toRowW d [] (fun f vs => PySem.call f vs) := by
  refine Att.attach_call hn hdf fun w s₀ s₁ mg mb fa o pm cd doc a vs ns G Y ho hd hcd hmg hobj hints hlen hg => ?_
  have KX := hY w _ Y
  obtain ⟨fd, hb, hF⟩ := F w mg fa _ KX G.T.g hmg
  exact zqw KX G.T.g G.T.b G.T.builtins G.T.nolimit hg hobj hints (Nat.le_trans hlen hn2) hr hF hb (fun H hO hS => hsp w H a ns hlen hO hS) fun H e s' => hCX w H s₁ e s'
end L2
namespace L2
open PySem PySem.Spec PyProof.Rows
noncomputable def zG (s : Stmt) : Arguments := match s with
  | .FunctionDef _ a _ _ _ _ _ _ _ _ => a
  | _ => { posonlyargs := [], args := [], vararg := none, kwonlyargs := [], kw_defaults := [], kwarg := none, defaults := [] }
noncomputable def zE (s : Stmt) : List Stmt := match s with
  | .FunctionDef _ _ b _ _ _ _ _ _ _ => b
  | _ => []
noncomputable def zi (s : Stmt) : Scope := match s with
  | .FunctionDef _ _ _ _ _ _ sc _ _ _ => sc
  | _ => { kind := .function, names := [], isGenerator := false, isCoroutine := false }
noncomputable abbrev CX0 : CXT := fun _ _ _ _ _ _ => False
noncomputable abbrev E0 : XK := fun _ _ _ => False
theorem zuM {X : Cx} : zpd CX0 X E0 := fun _ _ _ _ _ _ _ h => h.elim
set_option genInjectivity false in
set_option genSizeOf false in
set_option genCtorIdx false in
structure Fun (K : PySem.W.Frag) (x qual : Str) (st : Stmt) (f : Addr) (fd : FuncData) : Prop where
  ex : ∃ (oc : Value) (od : Option Addr) (kV doc pm : Value) (an : Option Addr) (cdv ct : Value) (osl : Array (Option Value)),
    fd = PySem.W.fnOf x qual (zG st) (zE st) (zi st) .none kV doc pm an cdv ct ∧ K.lookup f = some ⟨oc, od, .func fd, osl⟩ ∧ PySem.W.codeIn K cdv qual = true
  kp : PySem.W.keepIn K (.ref f) = true
section
variable {P : Program} {w : World} {K : PySem.W.Frag} {mg : Str → Option Value} {base : Heap}
theorem Fun.ok {x qual : Str} {st : Stmt} {f : Addr} {fd : FuncData} {N ps : List Str} {k : Nat} {sp : Sp} (F : Fun K x qual st f fd) (S : zF N ps (zi st)) (len : ∀ vs H Q E, sp vs H Q E → vs.length = ps.length)
    (hbody : ∀ (cdv : Value) (A : Around) (outer : List Env) (s : Shared) (H : Hp) (vs : List V) (Q : VK) (E : XK), zau k (A.deeper (envOfC qual (zi st) s.heap.objs.size f cdv)) → sp vs H Q E →
      ∃ t, PSs (zq2 CX0 P w K mg base N qual (zi st) f cdv A outer s H E).nox (zE st) t ∧ t { nx := fun _ H' => Q .non H', rt := Q } (start N vs) H) : xk P w K mg base CX0 (k + 1) f fd ps sp := by
  obtain ⟨oc, od, kV, doc, pm, an, cdv, ct, osl, rfl, lk, hcd⟩ := F.ex
  refine zvi lk hcd S len fun A outer s H vs Q E hr hsp => ?_
  obtain ⟨t, h, q⟩ := hbody cdv A outer s H vs Q E hr hsp
  exact ⟨t, h.nox, q⟩
theorem Fun.binds {x qual : Str} {st : Stmt} {f : Addr} {fd : FuncData} {ps : List Str} (F : Fun K x qual st f fd)
    (h : ∀ (kV doc pm : Value) (an : Option Addr) (cdv ct : Value) (us : List Value), us.length = ps.length → bindArgs (PySem.W.fnOf x qual (zG st) (zE st) (zi st) .none kV doc pm an cdv ct) ⟨us, []⟩ = pure (ps.zip us)) : zm2 K fd ps [] := by
  obtain ⟨oc, od, kV, doc, pm, an, cdv, ct, osl, rfl, lk, hcd⟩ := F.ex
  exact .all (h kV doc pm an cdv ct)
theorem zV {x qual : Str} {st : Stmt} {f : Addr} {oc : Value} {od an : Option Addr} {osl : Array (Option Value)} {kV doc pm cdv ct : Value} (l : K.lookup f = some ⟨oc, od, .func (PySem.W.fnOf x qual (zG st) (zE st) (zi st) .none kV doc pm an cdv ct), osl⟩)
    (c : PySem.W.codeIn K cdv qual = true) (k : PySem.W.keepIn K (.ref f) = true) : Fun K x qual st f (PySem.W.fnOf x qual (zG st) (zE st) (zi st) .none kV doc pm an cdv ct) := ⟨⟨oc, od, kV, doc, pm, an, cdv, ct, osl, rfl, l, c⟩, k⟩
end
theorem zrv {A : Around} {k : Nat} (hr : zau k A) : A.units + 1 < cLine := Nat.lt_of_le_of_lt (Nat.add_le_add_left (by decide : 1 ≤ 64) _) hr.units
theorem zcz {n : Nat} (h : n ≤ 1000) : n < sizeLine := Nat.lt_of_le_of_lt h (by decide)
section
variable {X : Cx}
theorem pv (i : Nat) {x : Str} {pos : Pos} (hN : X.N[i]? = some x := by rfl) (hv : Vis X.env.scope x := by first | exact Or.inl rfl | exact Or.inr (Or.inl rfl) | exact Or.inr (Or.inr rfl)) (hd : (x == ("__debug__" : Str)) = false := by decide)
    (hcd : (x == ("__classdict__" : Str)) = false := by decide) : PE X (.Name x pos) (zrk i) := zt6 hN hv hd hcd
end
noncomputable def yW (H H' : Hp) : Prop := ∀ b o, H b = some o → H' b = some o
theorem yW.refl (H : Hp) : yW H H := fun _ _ h => h
theorem yW.trans {H H1 H2 : Hp} (a : yW H H1) (b : yW H1 H2) : yW H H2 := fun c o h => b c o (a c o h)
theorem yW.free {H H' : Hp} (e : yW H H') {l : Addr} (h : H' l = Option.none) : H l = Option.none := by
  cases q : H l with
  | none => rfl
  | some o =>
    rw [e l o q] at h
    cases h
theorem yW.seq {K : PySem.W.Frag} {H H' : Hp} {a : Addr} {xs : List V} (e : yW H H') (h : SqL K H a xs) : SqL K H' a xs := by
  rcases h with (h | ⟨o, h⟩) | h
  · exact .inl (.inl (e _ _ h))
  · exact .inl (.inr ⟨o, e _ _ h⟩)
  · exact .inr h
end L2
namespace L2
open PySem PySem.Spec PyProof.Rows
end L2
namespace L2
open PySem PySem.Spec PyProof.Rows
section
variable (P : Program) (w : World)
end
section
variable {P : Program} {w : World} {H H' : Hp} {h h' : Heap} {a : Addr} {o : HO}
end
section
variable {P : Program} {w : World} {H : Hp} {h h' : Heap} {x e : Addr} {o' : HO}
end
section
variable {fs fs' ex ex' : List Addr} {H H1 H2 : Hp} {h h1 h2 h' : Heap} {a x e : Addr} {o : HO}
end
end L2
namespace L2
open PySem PySem.Spec PyProof.Rows
section
variable {X : Cx} {pins : List (Addr × Obj)} {σ : List (Option V)} {H H' : Hp} {s : Shared} {h' : Heap}
end
end L2
namespace L2
open PySem PySem.Spec PyProof.Rows
section
variable {X : Cx}
variable {a b : Expr} {ta tb : TE} {pos : Pos}
variable {tA tB' : TT} {rest : List Expr}
end
end L2
namespace L2
open PySem PySem.Spec PyProof.Rows
section
variable {X : Cx} {pins : List (Addr × Obj)} {σ : St} {H : Hp} {s : Shared} {a : Addr} {xs ys : List V}
end
section
variable {X : Cx} {pins : List (Addr × Obj)} {σ : St} {H : Hp} {s : Shared} {E : Value → Shared → Prop}
end
section
variable {X : Cx} {st : Stmt} {rest : List Stmt} {t u : TS} {e : Expr} {te : TE} {pos : Pos}
end
section
variable {X : Cx} {pos : Pos}
end
section
variable {X : Cx} {pos : Pos}
end
end L2
namespace L2
open PySem PySem.Spec PyProof.Rows
section
variable {X : Cx} {tg : Expr}
end
end L2
namespace L2
open PySem PySem.Spec PyProof.Rows
section
variable {X : Cx} {a b c : Expr} {ta tb tc : TE} {pos : Pos}
end
section
variable {X : Cx} {a b c : Expr} {ta tb tc : TE} {pos : Pos}
end
end L2
namespace L2
open PySem PySem.Spec PyProof.Rows
section
variable {prog : Program} {w : World} {A : Around} {E : Value → Shared → Prop} {s : Shared} {K : PySem.W.Frag} {x dx C f : Addr} {mA : Str → Option Value} {name : Str} {v : Value}
end
section
variable {P : Program} {w : World} {H H' : Hp} {h h' : Heap} {a C dx : Addr} {fs fs' : List (Str × V)}
end
section
variable {X : Cx} {pins : List (Addr × Obj)} {σ : St} {H : Hp} {s : Shared} {a C dx : Addr} {fs : List (Str × V)} {f : Str} {v : V} {A : Around} {E : Value → Shared → Prop}
end
section
variable {X : Cx} {o e value : Expr} {f : Str} {pos pos' tpos : Pos} {ta tv : TE}
end
section
variable {X : Cx} {pins : List (Addr × Obj)} {σ : St} {H : Hp} {s : Shared} {A : Around} {E : Value → Shared → Prop} {Q : Value → Shared → Prop} {c : Value} {b : Bool}
end
end L2
namespace L2
open PySem PySem.Spec PyProof.Rows
section
variable {X : Cx} {e : Expr} {es : List Expr} {te : TE} {t : TA} {pos : Pos}
end
section
variable {X : Cx} {pins : List (Addr × Obj)} {σ : St} {H : Hp} {s s' : Shared}
end
section
variable {X : Cx} {CX : CXT} {k : Nat} {f C : Addr} {fd : FuncData} {ps : List Str} {sp : Sp} {dvs : List V} {ds : List Value} {E : XK} {x m : Str} {p pos apos : Pos} {e o : Expr} {es : List Expr} {ta : TE} {t : TA}
end
section
variable {X : Cx} {CX : CXT} {k : Nat} {f C : Addr} {fd : FuncData} {ps ks : List Str} {sp : Sp} {E : XK} {x m : Str} {p pos apos kpos : Pos} {e o : Expr} {es : List Expr} {kws : List Keyword} {te ta : TE} {t tk : TA} {nm : Option Str}
variable {g : List Value → List Value → List Value} {gV : List V → List V → List V}
end
end L2
namespace L2
open PySem PySem.Spec PyProof.Rows
section
variable {X : Cx} {x : Str} {p pos : Pos} {e : Expr} {es : List Expr} {t : TA} {id T : String} {r : List V → Hp → VK → Prop}
end
end L2
namespace L2
open PySem PySem.Spec PyProof.Rows
section
variable {κ : Type} [DecidableEq κ]
noncomputable def znp (kvs : List (κ × V)) (k : κ) : Option V := (kvs.find? fun kv => decide (kv.1 = k)).map (·.2)
noncomputable def zlZ (kvs : List (κ × V)) (k : κ) (v : V) : List (κ × V) :=
  if (kvs.any fun kv => decide (kv.1 = k)) = true then kvs.map (fun kv => if kv.1 = k then (kv.1, v) else kv) else kvs ++ [(k, v)]
theorem zbV {p : κ × V} {r : List (κ × V)} {k : κ} (e : p.1 = k) : znp (p :: r) k = some p.2 := by simp [znp, List.find?_cons, e]
theorem zbW {p : κ × V} {r : List (κ × V)} {k : κ} (e : ¬ p.1 = k) : znp (p :: r) k = znp r k := by simp [znp, List.find?_cons, e]
theorem zhf (k : κ) : ∀ kvs : List (κ × V), (kvs.any fun kv => decide (kv.1 = k)) = (znp kvs k).isSome
  | [] => rfl
  | p :: r => by
    rw [List.any_cons]
    by_cases e : p.1 = k
    · simp only [zbV e, decide_eq_true e, Bool.true_or, Option.isSome_some]
    · rw [zbW e, decide_eq_false e, Bool.false_or]; exact zhf k r
theorem zci (kvs : List (κ × V)) (k : κ) (v : V) : (zlZ kvs k v).length ≤ kvs.length + 1 := by
  unfold zlZ
  split
  · rw [List.length_map]; omega
  · rw [List.length_append, List.length_cons, List.length_nil]; omega
theorem zrE.isSome_eq {o : Option V} {u : Option Value} (r : zrE o u) : o.isSome = u.isSome := by
  cases o with
  | none => cases u with
    | none => rfl
    | some _ => exact (show False from r).elim
  | some _ => cases u with
    | none => exact (show False from r).elim
    | some _ => rfl
theorem KV.val {kvs : List (κ × V)} {vs : List (κ × Value)} (r : KV kvs vs) (k : κ) : zrE (znp kvs k) (valueAt vs k) := by
  unfold KV at r
  induction r with
  | nil => exact True.intro
  | @cons p q ps qs h t ih =>
    obtain ⟨h1, h2⟩ := h
    by_cases e : p.1 = k
    · have e' : q.1 = k := h1.symm.trans e
      have b : valueAt (q :: qs) k = some q.2 := by simp [valueAt, List.find?_cons, e']
      rw [zbV e, b]; exact h2
    · have e' : ¬ q.1 = k := fun z => e (h1.trans z)
      have b : valueAt (q :: qs) k = valueAt qs k := by simp [valueAt, List.find?_cons, e']
      rw [zbW e, b]; exact ih
theorem KV.any {kvs : List (κ × V)} {vs : List (κ × Value)} (r : KV kvs vs) (k : κ) : (kvs.any fun kv => decide (kv.1 = k)) = vs.any fun kv => decide (kv.1 = k) := by
  unfold KV at r
  induction r with
  | nil => rfl
  | cons h t ih => rw [List.any_cons, List.any_cons, ih, h.1]
theorem KV.repl {kvs : List (κ × V)} {vs : List (κ × Value)} (r : KV kvs vs) (k : κ) {y : V} {u : Value} (ry : yY y u) :
    KV (kvs.map fun kv => if kv.1 = k then (kv.1, y) else kv) (vs.map fun kv => if kv.1 = k then (kv.1, u) else kv) := by
  unfold KV at r ⊢
  induction r with
  | nil => exact .nil
  | @cons p q ps qs h t ih =>
    rw [List.map_cons, List.map_cons]
    refine .cons ?_ ih
    obtain ⟨h1, h2⟩ := h
    by_cases e : p.1 = k
    · rw [if_pos e, if_pos (h1.symm.trans e)]; exact ⟨h1, ry⟩
    · rw [if_neg e, if_neg (fun z => e (h1.trans z))]; exact ⟨h1, h2⟩
theorem KV.put {kvs : List (κ × V)} {vs : List (κ × Value)} (r : KV kvs vs) (k : κ) {y : V} {u : Value} (ry : yY y u) : KV (zlZ kvs k y) (stored vs k u) := by
  unfold zlZ stored
  rw [r.any k]
  by_cases e : (vs.any fun kv => decide (kv.1 = k)) = true
  · rw [if_pos e, if_pos e]; exact r.repl k ry
  · rw [if_neg e, if_neg e]; exact Paired.snoc r ⟨rfl, ry⟩
theorem KV.keys {kvs : List (κ × V)} {vs : List (κ × Value)} (r : KV kvs vs) : kvs.map (·.1) = vs.map (·.1) := by
  unfold KV at r
  induction r with
  | nil => rfl
  | cons h t ih => rw [List.map_cons, List.map_cons, ih, h.1]
theorem KV.length {kvs : List (κ × V)} {vs : List (κ × Value)} (r : KV kvs vs) : kvs.length = vs.length := Paired.length r
end
theorem zr6 {P : Program} {w : World} {k : Key} {u : Value} (r : yY (kV k) u) : (yS P w).is k u = true := by
  cases k with
  | inl i => obtain ⟨t, e⟩ := (show ∃ t, u = Value.int i t from r); subst e; exact zl6 P w i t
  | inr x => obtain ⟨t, e⟩ := (show ∃ t, u = Value.str x t from r); subst e; exact zmb P w x t
theorem zjb {P : Program} {w : World} : ∀ {ks : List Key} {us : List Value}, yG (ks.map kV) us → ItemsAre (yS P w) ks us
  | [], _, r => by rw [List.map_nil] at r; cases r; exact .nil
  | k :: ks, _, r => by
    rw [List.map_cons] at r
    cases r with
    | cons h t => exact .cons (zr6 h) (zjb t)
noncomputable abbrev KT (H : Hp) : List (List Key × V) → List (List Key × Addr × Value) → Prop := Paired fun p q => p.1 = q.1 ∧ H q.2.1 = some (.tup (p.1.map kV)) ∧ yY p.2 q.2.2
theorem KT.val {H : Hp} {kvs : List (List Key × V)} {xs : List (List Key × Addr × Value)} (r : KT H kvs xs) (k : List Key) : zrE (znp kvs k) ((atKey xs k).map (·.2)) := by
  induction r with
  | nil => exact True.intro
  | @cons p q ps qs h t ih =>
    obtain ⟨h1, _, h2⟩ := h
    by_cases e : p.1 = k
    · have e' : q.1 = k := h1.symm.trans e
      have b : atKey (q :: qs) k = some q.2 := by simp [atKey, List.find?_cons, e']
      rw [zbV e, b]; exact h2
    · have e' : ¬ q.1 = k := fun z => e (h1.trans z)
      have b : atKey (q :: qs) k = atKey qs k := by simp [atKey, List.find?_cons, e']
      rw [zbW e, b]; exact ih
theorem KT.repl {H : Hp} {kvs : List (List Key × V)} {xs : List (List Key × Addr × Value)} (r : KT H kvs xs) (k : List Key) {y : V} {u : Value} (ry : yY y u) :
    KT H (kvs.map fun kv => if kv.1 = k then (kv.1, y) else kv) (xs.map (putAt k u)) := by
  induction r with
  | nil => exact .nil
  | @cons p q ps qs h t ih =>
    rw [List.map_cons, List.map_cons]
    refine .cons ?_ ih
    obtain ⟨h1, h2, h3⟩ := h
    unfold putAt
    by_cases e : p.1 = k
    · rw [if_pos e, if_pos (h1.symm.trans e)]; exact ⟨h1, h2, ry⟩
    · rw [if_neg e, if_neg (fun z => e (h1.trans z))]; exact ⟨h1, h2, h3⟩
theorem KT.put {H : Hp} {kvs : List (List Key × V)} {xs : List (List Key × Addr × Value)} (r : KT H kvs xs) (k : List Key) {b : Addr} {y : V} {u : Value} (hb : H b = some (.tup (k.map kV))) (ry : yY y u) :
    KT H (zlZ kvs k y) (storedH xs k b u) := by
  have e : (kvs.any fun kv => decide (kv.1 = k)) = (atKey xs k).isSome := by
    rw [zhf, (r.val k).isSome_eq, Option.isSome_map]
  unfold zlZ storedH
  rw [e]
  by_cases q : (atKey xs k).isSome = true
  · rw [if_pos q, if_pos q]; exact r.repl k ry
  · rw [if_neg q, if_neg q]; exact Paired.snoc r ⟨rfl, hb, ry⟩
theorem KT.keeps {H H' : Hp} {kvs : List (List Key × V)} {xs : List (List Key × Addr × Value)} (r : KT H kvs xs) (ht : ∀ b ys, H b = some (.tup ys) → H' b = some (.tup ys)) : KT H' kvs xs :=
  Paired.mapP r fun _ _ z => ⟨z.1, ht _ _ z.2.1, z.2.2⟩
section
variable {P : Program} {w : World} {H : Hp} {h : Heap} {a : Addr}
theorem ztk {u : HO} (ok : HOk P w H h) (e : Rd H a u) : yV P w H h a u := e.ok ok
theorem ztW {kvs : List (Key × V)} (ok : HOk P w H h) (e : Rd H a (.dK kvs)) : kvs.length ≤ sizeLine ∧ (a == sysModules) = false ∧ ∃ vs, KV kvs vs ∧ h.DictOf (yS P w) a vs :=
  show yV P w H h a (.dK kvs) from ztk ok e
theorem zuW {kvs : List (Key × V)} (ok : HOk P w H h) (e : H a = some (.dK kvs)) : kvs.length ≤ sizeLine ∧ (a == sysModules) = false ∧ ∃ vs, KV kvs vs ∧ h.DictOf (yS P w) a vs := ztW ok (.inl e)
theorem znr {ks : List Key} (ok : HOk P w H h) (e : H a = some (.tup (ks.map kV))) : (tupleKind (yS P w)).is h ks a := by
  obtain ⟨_, its, r, o, h1, h2, n, h3⟩ := (show yV P w H h a (.tup (ks.map kV)) from ok a _ e)
  exact ⟨o, its.toArray, n, h1, h2, h3, by simpa using zjb r⟩
theorem zrt {kvs : List (List Key × V)} (ok : HOk P w H h) (e : Rd H a (.dT kvs)) : kvs.length ≤ sizeLine ∧ (a == sysModules) = false ∧
    ∃ xs, KT H kvs xs ∧ h.DictOfH (tupleKind (yS P w)) a xs := by
  obtain ⟨z, y, xs, r, o, es, ep, h1, h2, h3, h4, h5⟩ := (show yV P w H h a (.dT kvs) from ztk ok e)
  refine ⟨z, y, xs, r, o, es, ep, h1, h2, h3, h4, fun x hx => ?_, h5⟩
  have all : ∀ {l : List (List Key × V)} {m : List (List Key × Addr × Value)}, KT H l m → ∀ x ∈ m, (tupleKind (yS P w)).is h x.1 x.2.1 := by
    intro l m q
    induction q with
    | nil => intro x hx; exact nomatch hx
    | @cons p q ps qs hq t ih =>
      intro x hx
      rcases List.mem_cons.mp hx with e | hx
      · subst e
        exact znr ok (by rw [← hq.1]; exact hq.2.1)
      · exact ih x hx
  exact all r x hx
theorem zsL {kvs : List (List Key × V)} (ok : HOk P w H h) (e : H a = some (.dT kvs)) : kvs.length ≤ sizeLine ∧ (a == sysModules) = false ∧
    ∃ xs, KT H kvs xs ∧ h.DictOfH (tupleKind (yS P w)) a xs := zrt ok (.inl e)
end
noncomputable def zvl (H : Hp) (a : Addr) (y : V) (r : Option V) : Prop :=
  (∃ kvs k, Rd H a (.dK kvs) ∧ y = kV k ∧ r = znp kvs k) ∨ ∃ kvs k b, Rd H a (.dT kvs) ∧ y = .ref b ∧ H b = some (.tup (k.map kV)) ∧ r = znp kvs k
noncomputable def zqk (H : Hp) (a : Addr) (y v : V) (H' : Hp) : Prop :=
  (∃ kvs k, H a = some (.dK kvs) ∧ y = kV k ∧ kvs.length < sizeLine ∧ H' = upd H a (.dK (zlZ kvs k v))) ∨
  ∃ kvs k b, H a = some (.dT kvs) ∧ y = .ref b ∧ H b = some (.tup (k.map kV)) ∧ kvs.length < sizeLine ∧ H' = upd H a (.dT (zlZ kvs k v))
theorem zqk.k {H : Hp} {a : Addr} {kvs : List (Key × V)} {k : Key} {v : V} (e : H a = some (.dK kvs)) (hl : kvs.length < sizeLine) : zqk H a (kV k) v (upd H a (.dK (zlZ kvs k v))) := .inl ⟨kvs, k, e, rfl, hl, rfl⟩
theorem zqk.t {H : Hp} {a b : Addr} {kvs : List (List Key × V)} {k : List Key} {v : V} (e : H a = some (.dT kvs)) (eb : H b = some (.tup (k.map kV))) (hl : kvs.length < sizeLine) :
    zqk H a (.ref b) v (upd H a (.dT (zlZ kvs k v))) := .inr ⟨kvs, k, b, e, rfl, eb, hl, rfl⟩
section
variable {X : Cx} {pins : List (Addr × Obj)} {σ : St} {H : Hp} {s : Shared} {a : Addr} {y v : V} {u r : Value} {o : Option V} {A : Around} {E : Value → Shared → Prop}
theorem Inv.big (I : Inv X pins σ H s) : sysModules < s.heap.objs.size := by
  have h : mainGlobals < s.heap.objs.size := (I.mod.glob.keeps I.bk).lt
  exact Nat.lt_trans (by decide) h
theorem zsA {Q : Value → Shared → Prop} (hu : A.units + 1 < cLine) (I : Inv X pins σ H s) (g : zvl H a y o) (ry : yY y u) (h : ∀ s', Inv X pins σ H s' → Q (.bool (!o.isSome)) s') :
    wpAny (model X.prog X.w) A (compareOp .NotIn u (.ref a)) Q E s := by
  rcases g with ⟨kvs, k, e, ey, l⟩ | ⟨kvs, k, b, e, ey, eb, l⟩
  · subst ey
    obtain ⟨z, hd, vs, rel, dd⟩ := ztW I.hok e
    refine wpAny_notIn_of (zr6 ry) hd dd.mapOf ?_
    rw [← (rel.val k).isSome_eq, ← l]
    exact h _ (I.tok _)
  · subst ey
    cases (show u = Value.ref b from ry)
    obtain ⟨z, hd, xs, rel, dd⟩ := zrt I.hok e
    refine wpAny_notIn_heap (tupleKind_room_in1 hu) (znr I.hok eb) hd dd ?_
    have q := (rel.val k).isSome_eq
    rw [Option.isSome_map] at q
    rw [← q, ← l]
    exact h _ (I.tok _)
theorem zmN {h' : Heap} {t' : Nat} {ob : HO} (I : Inv X pins σ H s) (mu : Mut (H a)) (hs : Heap.SameBut a s.heap h') (he : ∃ q, h'.get? a = some q) (new : yV X.prog X.w (upd H a ob) h' a ob) :
    Inv X pins σ (upd H a ob) { s with heap := h', toks := t' } :=
  I.write (x := a) (e := a) mu (.inl rfl) (fun b q hb z => (hs.2 b hb).trans z) he new
theorem zth {P : Program} {w : World} {H' : Hp} {h' : Heap} {kvs : List (Key × V)} {vs : List (Key × Value)} (z : kvs.length ≤ sizeLine) (hd : (a == sysModules) = false) (rel : KV kvs vs) (dd : h'.DictOf (yS P w) a vs) :
    yV P w H' h' a (.dK kvs) := ⟨z, hd, vs, rel, dd⟩
theorem zpy {H' : Hp} {Q : Unit → Shared → Prop} (hu : A.units + 1 < cLine) (I : Inv X pins σ H s) (g : zqk H a y v H') (ry : yY y u) (rv : yY v r) (h : ∀ s', Inv X pins σ H' s' → Q () s') :
    wpAny (model X.prog X.w) A (setItem (.ref a) u r) Q E s := by
  rcases g with ⟨kvs, k, e, ey, l, eH⟩ | ⟨kvs, k, b, e, ey, eb, l, eH⟩
  · subst ey eH
    obtain ⟨z, hd, vs, rel, dd⟩ := zuW I.hok e
    have hz : vs.length ≤ sizeLine := by rw [← rel.length]; exact z
    have hl : (zlZ kvs k v).length ≤ sizeLine := by have := zci kvs k v; omega
    refine wpAny_setItem_pairs (hsz := hz) (zr6 ry) dd fun h' dd' hs => h _ ?_
    have he : ∃ q, h'.get? a = some q := let ⟨q, _, _, hq, _⟩ := dd'; ⟨q, hq⟩
    exact zmN I (by rw [e]; exact True.intro) hs he (zth hl hd (rel.put k rv) dd')
  · subst ey eH
    cases (show u = Value.ref b from ry)
    obtain ⟨z, hd, xs, rel, dd⟩ := zsL I.hok e
    have hz : xs.length ≤ sizeLine := by rw [← Paired.length rel]; exact z
    have hl : (zlZ kvs k v).length ≤ sizeLine := by have := zci kvs k v; omega
    refine wpAny_setItem_heap (hsz := hz) (tupleKind_room_in1 hu) (znr I.hok eb) dd fun h' dd' hs => h _ ?_
    obtain ⟨q, es, ep, hq, h2, h3, h4, _, h5⟩ := dd'
    refine zmN I (by rw [e]; exact True.intro) hs ⟨q, hq⟩ ⟨hl, hd, _, (rel.put k eb rv).keeps fun c ys ec => ?_, q, es, ep, hq, h2, h3, h4, h5⟩
    rw [zA (zsf ec e (fun z => nomatch z))]
    exact ec
end
section
variable {X : Cx} {pins : List (Addr × Obj)} {σ : St} {H : Hp} {s : Shared} {a : Addr} {kvs : List (Key × V)} {k : Key} {u : Value} {A : Around} {E : Value → Shared → Prop}
end
noncomputable def zva (td ty tv : TE) : TS := fun D σ H => tv σ H fun v H1 => td σ H1 fun x H2 => ty σ H2 fun y H3 => ∃ a H4, x = .ref a ∧ zqk H3 a y v H4 ∧ D.nx σ H4
section
variable {X : Cx} {o i e value : Expr} {pos pos' tpos : Pos} {td ty tv : TE}
theorem zrB (hu : X.A.units + 1 < cLine) (ho : PE X o td) (hi : PE X i ty) (hv : PE X value tv) (hs : swapsWith value (some (.Subscript o i pos')) pos.line X.env = pure false) :
    PS X (.Assign [.Subscript o i pos'] value pos) (zva td ty tv) := by
  intro pins s σ H D I h
  refine wpAny_Assign_Subscript (thn (hv pins s σ H _ I h) fun r s1 ⟨v, H1, I1, rv, q1⟩ => thn (ho pins s1 σ H1 _ I1 q1) fun u s2 ⟨x, H2, I2, rx, q2⟩ => thn (hi pins s2 σ H2 _ I2 q2) fun iv s3 hh9 => ?_) hs
  obtain ⟨y, H3, I3, ry, a, H4, ex, g, q3⟩ := hh9
  subst ex
  obtain rfl : u = Value.ref a := rx
  exact zpy hu I3 g ry rv fun s4 I4 => ⟨σ, H4, I4, q3⟩
end
theorem zpL {P : Program} {w : World} {H : Hp} (h : Heap) (hb : sysModules < h.objs.size) : yV P w H (h.push { cls := .type "dict", data := .dict #[] }) h.objs.size (.dK []) :=
  ⟨Nat.zero_le _, beq_eq_false_iff_ne.mpr (Ne.symm (Nat.ne_of_lt hb)), [], .nil, Heap.DictOf.new h⟩
theorem zng {P : Program} {w : World} {H : Hp} (h : Heap) (hb : sysModules < h.objs.size) : yV P w H (h.push { cls := .type "dict", data := .dict #[] }) h.objs.size (.dT []) :=
  ⟨Nat.zero_le _, beq_eq_false_iff_ne.mpr (Ne.symm (Nat.ne_of_lt hb)), [], .nil, _, #[], 0, Heap.get?_push_size _ rfl, ⟨rfl, rfl, rfl⟩, rfl, rfl, List.nodup_nil⟩
noncomputable def ztQ : TE := fun _ H Q => ∀ p, H p = none → Q (.ref p) (upd H p (.dK []))
noncomputable def zuh : TE := fun _ H Q => ∀ p, H p = none → Q (.ref p) (upd H p (.dT []))
section
variable {X : Cx} {pos : Pos}
theorem zqn : PE X (.Dict [] [] pos) ztQ := fun pins s σ H Q I h =>
  wpAny_Dict_empty ⟨.ref s.heap.objs.size, _, I.laid (a := s.heap.objs.size) (o := .dK []) (t' := s.toks) (fun _ _ q => Heap.get?_push_of_some _ q) (Nat.le_refl _) (zpL s.heap I.big), rfl, h _ (I.hok.fresh (Nat.le_refl _))⟩
theorem zqC : PE X (.Dict [] [] pos) zuh := fun pins s σ H Q I h =>
  wpAny_Dict_empty ⟨.ref s.heap.objs.size, _, I.laid (a := s.heap.objs.size) (o := .dT []) (t' := s.toks) (fun _ _ q => Heap.get?_push_of_some _ q) (Nat.le_refl _) (zng s.heap I.big), rfl, h _ (I.hok.fresh (Nat.le_refl _))⟩
end
section
variable {X : Cx} {pins : List (Addr × Obj)} {σ : St} {H : Hp} {s : Shared} {a : Addr} {y d : V} {u r : Value} {o : Option V} {A : Around} {E : Value → Shared → Prop}
end
section
variable {X : Cx} {o e f : Expr} {apos cpos : Pos} {td ty tx : TE}
end
section
variable {X : Cx} {pins : List (Addr × Obj)} {σ : St} {H : Hp} {s : Shared} {a : Addr} {kvs : List (Key × V)} {A : Around} {E : Value → Shared → Prop}
end
section
variable {X : Cx} {pins : List (Addr × Obj)} {σ : St} {H : Hp} {s : Shared} {a : Addr} {y : V} {u : Value} {A : Around} {E : Value → Shared → Prop}
end
end L2
namespace Att
open PySem PySem.W PySem.Calls PyProof.Rows
section
variable {prog : Program} {w : World} {A : Around} {E : Value → Shared → Prop} {s : Shared} {K : Frag}
end
end Att
namespace L2
open PySem PySem.Spec PyProof.Rows
end L2
namespace L2
open PySem PySem.Spec PyProof.Rows
end L2
namespace L2
open PySem PySem.Spec PyProof.Rows
section
variable {P : Program} {w : World} {K : PySem.W.Frag} {mg : Str → Option Value} {base : Heap}
end
section
variable {X : Cx}
end
section
variable {κ : Type} [DecidableEq κ]
end
end L2
namespace L2
open PySem PySem.Spec PyProof.Rows
theorem zmE {X : Cx} : VH X (.builtin "isinstance") (fun xs H Q => ∃ x n t b, xs = [x, .ty n] ∧ znl X.K H x t ∧ PySem.W.kitOne X.K t (.type n) = some b ∧ Q (.bl b) H) := by
  intro pins s σ H xs us Q I r h
  obtain ⟨x, n, t, b, rfl, ty, e, q⟩ := h
  obtain ⟨u, w', rfl, rx, rt⟩ := zp8 r
  cases (show w' = Value.type n from rt)
  exact zo9 I rx ty e fun tk => ⟨.bl b, H, I.tok _, rfl, q⟩
theorem zpO {X : Cx} : OpR X (compareOp .Is) (fun x y H Q => ∃ i j, x = .bl i ∧ y = .bl j ∧ Q (.bl (i == j)) H) := by
  intro pins s σ H x y v u Q I rx ry h
  obtain ⟨i, j, rfl, rfl, q⟩ := h
  cases rx
  cases ry
  refine wpAny_is_plain (by rfl) ⟨.bl (i == j), H, I, ?_, q⟩
  cases i <;> cases j <;> rfl
theorem zmj {X : Cx} : OpR X (compareOp .IsNot) (fun x y H Q => ∃ i j, x = .bl i ∧ y = .bl j ∧ Q (.bl (!(i == j))) H) := by
  intro pins s σ H x y v u Q I rx ry h
  obtain ⟨i, j, rfl, rfl, q⟩ := h
  cases rx
  cases ry
  refine wpAny_isNot_plain (by rfl) ⟨.bl (!(i == j)), H, I, ?_, q⟩
  cases i <;> cases j <;> rfl
noncomputable def zq8 (K : PySem.W.Frag) : R2 := fun x y H Q => ∃ a b xs ys, x = .ref a ∧ y = .ref b ∧ SqT K H a xs ∧ SqT K H b ys ∧ xs.length + ys.length ≤ sizeLine ∧
  (xs = [] → Q (.ref b) H) ∧ (xs ≠ [] → ys = [] → Q (.ref a) H) ∧ (xs ≠ [] → ys ≠ [] → ∀ p, H p = none → Q (.ref p) (upd H p (.tup (xs ++ ys))))
theorem zqE {X : Cx} : OpR X (binaryOp .Add) (zq8 X.K) := by
  intro pins s σ H x y v u Q I rx ry h
  obtain ⟨a, b, xs, ys, rfl, rfl, ha, hb, hz, q0, q1, q2⟩ := h
  by_cases hx : xs = []
  · subst hx
    cases rx
    cases ry
    obtain ⟨its, r, p, _⟩ := I.tuple ha
    obtain ⟨its', r', p', _⟩ := I.tuple hb
    cases r
    obtain ⟨⟨cls, dd, data, sl⟩, ho, hc, n, hd⟩ := id p
    obtain ⟨⟨cls2, dd2, data2, sl2⟩, ho2, hc2, n2, hd2⟩ := id p'
    simp only at hc hd hc2 hd2
    subst hc hd hc2 hd2
    exact concat_meets ⟨_, ho, rfl⟩ ⟨_, ho2, rfl⟩ noFill_tuple_add seq_tuple_add PySem.F.slot_tuple_add PySem.F.entry_tuple_add (PySem.F.args_tuple_add_2 _ _)
      (tuple_addW0 a b #[] its'.toArray n n2 dd dd2 sl sl2 rfl) ⟨ho, ho2, ⟨.ref b, H, I, rfl, q0 rfl⟩⟩
  · refine zrZ pins s σ H (.ref a) (.ref b) v u Q I rx ry ⟨a, b, xs, ys, rfl, rfl, ha, hb, hx, hz, ?_⟩
    exact ⟨fun e => q1 hx e, fun e => q2 hx e⟩
end L2
namespace L2
open PySem PySem.Spec PyProof.Rows
inductive zbO : St → St → Prop where
  | nil : zbO [] []
  | non {a : Option V} {s t : St} : zbO s t → zbO (none :: s) (a :: t)
  | same {a : Option V} {s t : St} : zbO s t → zbO (a :: s) (a :: t)
theorem zbO.refl : ∀ s : St, zbO s s
  | [] => .nil
  | _ :: r => .same (zbO.refl r)
theorem zbO.length {s t : St} (h : zbO s t) : s.length = t.length := by
  induction h with
  | nil => rfl
  | non _ ih => simp [ih]
  | same _ ih => simp [ih]
theorem zbO.get {s t : St} (h : zbO s t) : ∀ (i : Nat) (v : V), s[i]? = some (some v) → t[i]? = some (some v) := by
  induction h with
  | nil => intro i v e; exact e
  | non _ ih =>
    intro i v e
    cases i with
    | zero => simp at e
    | succ i => simpa using ih i v (by simpa using e)
  | same _ ih =>
    intro i v e
    cases i with
    | zero => simpa using e
    | succ i => simpa using ih i v (by simpa using e)
theorem zbO.set {n : Nat} {v : V} : ∀ {s t : St}, zbO s t → s[n]? = some none → zbO s (t.set n (some v))
  | _, _, .nil, _ => .nil
  | _, _, .non (a := a) h, e => by
    cases n with
    | zero => exact .non h
    | succ n => exact .non (zbO.set h (by simpa using e))
  | _, _, .same (a := a) h, e => by
    cases n with
    | zero =>
      have e' : a = none := by simpa using e
      subst e'
      exact .non h
    | succ n => exact .same (zbO.set h (by simpa using e))
theorem Inv.sub {X : Cx} {pins : List (Addr × Obj)} {σ σ' : St} {H : Hp} {s : Shared} (I : Inv X pins σ H s) (h : zbO σ' σ) : Inv X pins σ' H s := I.weak h.length h.get
noncomputable def PIf (X : Cx) (ifs : List Expr) (t : TT) : Prop :=
  ∀ (pins : List (Addr × Obj)) (s : Shared) (σ : St) (H : Hp) (Q : Bool → Hp → Prop), Inv X pins σ H s → t σ H Q →
    wpAny (model X.prog X.w) X.A (forIn ifs true fun c r => if r = true then do let ok ← isTrue c X.env (eval c X.env); pure (ForInStep.yield ok) else pure (ForInStep.yield r)) (TP X pins σ Q) X.xe s
noncomputable def tYes : TT := fun _ H Q => Q true H
theorem zrn {X : Cx} : PIf X [] tYes := by
  intro pins s σ H Q I h
  rw [List.forIn_nil]
  exact wpAny_pure ⟨H, I, h⟩
theorem zrm {X : Cx} {c : Expr} {t : TT} (hc : PT X c t) : PIf X [c] t := by
  intro pins s σ H Q I h
  rw [List.forIn_cons]
  refine wpAny_bind ?_
  rw [if_pos rfl]
  refine wpAny_bind (thn (hc pins s σ H Q I h) fun b s1 q => wpAny_pure ?_)
  show wpAny _ _ (forIn [] b _) _ _ _
  rw [List.forIn_nil]
  exact wpAny_pure q
section
variable {prog : Program} {w : World} {A : Around} {R : Result → Shared → Prop} {s : Shared}
theorem Vi {elt target iter : Expr} {ifs : List Expr} {scope : Scope} {pos : Pos} {it acc : Value} {env : Env} (I : Nat → Shared → Prop)
    (turn : ∀ n s, I n s → wpAny (model prog w) A (pyNext it) (fun r s₁ => match r with
      | none => R (.ok .next) s₁
      | some v => wpAny (model prog w) A (letOwnedTupleGo target it v) (fun _ s₁' => wpAny (model prog w) A (assign target env v) (fun _ s₂ =>
          wpAny (model prog w) A (forIn ifs true fun c r => if r = true then do let ok ← isTrue c env (eval c env); pure (ForInStep.yield ok) else pure (ForInStep.yield r)) (fun ok s₃ =>
            if ok = true then wpAny (model prog w) A (eval elt env) (fun x s₄ =>
              wpAny (model prog w) A (call (.builtin "list.append") [acc, x]) (fun _ s₅ => ∃ m, m < n ∧ I m s₅) (fun _ _ => False) s₄) (fun _ _ => False) s₃
            else ∃ m, m < n ∧ I m s₃) (fun _ _ => False) s₂) (fun _ _ => False) s₁') (fun _ _ => False) s₁) (fun _ _ => False) s)
    (n : Nat) (h : I n s) :
    codeAny (model prog w) A (.compLoop (.ListComp elt [⟨target, iter, ifs, 0⟩] scope pos) 0 it acc env) R s := by
  refine codeAny_loop rfl I (fun n s hI => ?_) n h
  show wpAny _ A ((compTurn (.ListComp elt [⟨target, iter, ifs, 0⟩] scope pos) 0 it acc env).onRaise (fun x => do noteFrame x env; theTreesLotGoes x)) _ _ s
  refine wpAny_noted ?_
  rw [compTurn_list]
  refine wpAny_bind (wpAny_standAt (wpAny_bind (wpAny_mono (turn n s hI) (fun r s₁ h₁ => ?_) fun _ _ h' => h'.elim)))
  cases r with
  | none => exact wpAny_pure h₁
  | some v =>
    refine wpAny_bind (wpAny_mono h₁ (fun _ s₁' h₁' => ?_) fun _ _ h' => h'.elim)
    refine wpAny_bind (wpAny_mono h₁' (fun _ s₂ h₂ => wpAny_bind (wpAny_mono h₂ (fun ok s₃ h₃ => ?_) fun _ _ h' => h'.elim)) fun _ _ h' => h'.elim)
    cases ok with
    | false => exact wpAny_pure ⟨rfl, h₃⟩
    | true =>
      exact wpAny_bind (wpAny_bind (wpAny_mono h₃ (fun x s₄ h₄ => wpAny_bind (wpAny_mono h₄ (fun _ s₅ h₅ => wpAny_pure (wpAny_pure ⟨rfl, h₅⟩)) fun _ _ h' => h'.elim)) fun _ _ h' => h'.elim))
end
noncomputable def tLC (wi : TI) (n : Nat) (g : TG) (tt : TT) (te : TE) : TE := fun σ H Q => wi σ H fun J H1 => ∀ D, H1 D = none → ∃ W : Nat → Nat → List V → Hp → Prop, (∃ m, W 0 m [] (upd H1 D (.lst []))) ∧
  ∀ i m ys H2, W i m ys H2 → (J.stop i H2 ∧ Q (.ref D) H2) ∨ (J.go i H2 ∧ ys.length < sizeLine ∧ ∀ x H3, J.yld i H2 x H3 → g x (List.replicate n none ++ σ) H3 fun σ2 H4 => tt σ2 H4 fun b H5 =>
    if b = true then te σ2 H5 fun y H6 => H6 D = some (.lst ys) ∧ ∃ m', m' < m ∧ W (i + 1) m' (ys ++ [y]) (upd H6 D (.lst (ys ++ [y]))) else ∃ m', m' < m ∧ W (i + 1) m' ys H5)
theorem Vj {α : Type} : ∀ {l : List (Str × α)} {y : Str}, y ∈ l.map Prod.fst → ∃ c, l.lookup y = some c
  | [], _, h => by simp at h
  | (k, v) :: r, y, h => by
    by_cases e : y = k
    · exact ⟨v, by simp [List.lookup, e]⟩
    · obtain ⟨c, hc⟩ := Vj (l := r) (y := y) (by simpa [e] using h)
      have hb : (y == k) = false := beq_eq_false_iff_ne.mpr e
      exact ⟨c, by simp only [List.lookup, hb]; exact hc⟩
theorem Zr {α : Type} {P : α → Prop} : ∀ p ∈ ([] : List α), P p := fun _ h => nomatch h
theorem all_cons {α : Type} {P : α → Prop} {a : α} {l : List α} (h : P a) (t : ∀ p ∈ l, P p) : ∀ p ∈ a :: l, P p := fun p hp => by
  rcases List.mem_cons.mp hp with e | hp
  · rw [e]; exact h
  · exact t p hp
theorem gs1 (σ : St) (v : V) (H : Hp) (Q : St → Hp → Prop) (h : zbQ 0 v (List.replicate 1 none ++ σ) H Q) : zbQ 0 v (List.replicate 1 none ++ σ) H (fun σ2 H2 => zbO (List.replicate 1 none ++ σ) σ2 ∧ Q σ2 H2) := ⟨.set (.refl _) rfl, h⟩
theorem gs2 {K : PySem.W.Frag} (σ : St) (v : V) (H : Hp) (Q : St → Hp → Prop) (h : zus K 2 (zmU (zbQ 0) (zmU (zbQ 1) zuq)) v (List.replicate 2 none ++ σ) H Q) :
    zus K 2 (zmU (zbQ 0) (zmU (zbQ 1) zuq)) v (List.replicate 2 none ++ σ) H (fun σ2 H2 => zbO (List.replicate 2 none ++ σ) σ2 ∧ Q σ2 H2) := by
  obtain ⟨a, xs, e, hq, hl, x, r, e1, y, r2, e2, e3, q⟩ := h
  exact ⟨a, xs, e, hq, hl, x, r, e1, y, r2, e2, e3, .set (.set (.refl _) rfl) rfl, q⟩
end L2
namespace L2
open PySem PySem.Spec PyProof.Rows
noncomputable def zog (X : Cx) (L M : List Str) (scope : Scope) (cl : List (Str × Addr)) (s₀ : Shared) (H₀ : Hp) (ex : List Addr) (pn : List (Addr × Obj)) : Cx :=
  { X with N := L ++ M, s₀ := s₀, H₀ := H₀, env := compEnvC scope cl s₀.heap.objs.size X.env, outer := X.stack, stack := X.stack, ex := ex, fn := fun _ => false, pn := pn, xe := fun _ _ => False }
structure wa (X : Cx) (L M : List Str) (scope : Scope) (cl : List (Str × Addr)) : Prop where
  clos : closureFor scope X.env = pure cl
  cell : ∀ y ∈ scope.names, y.2 ≠ .cell
  kind : scope.kind = .function
  names : ∀ y ∈ scope.names, y.2 = .local → scope.names.lookup y.1 = some .local
  sub : ∀ y c, cl.lookup y = some c → X.env.cells.lookup y = some c
  has : ∀ y, ((relabel scope X.env).names.lookup y = some .cell ∨ (relabel scope X.env).names.lookup y = some .free) → ∃ c, cl.lookup y = some c
  mlen : M.length = X.N.length
  msk : ∀ (i : Nat) y, M[i]? = some y → Vis (relabel scope X.env) y → X.N[i]? = some y
  vis : ∀ (i : Nat) y, M[i]? = some y → Vis (relabel scope X.env) y → ((relabel scope X.env).names.lookup y = some .cell ∨ (relabel scope X.env).names.lookup y = some .free)
  out : ∀ (i : Nat) y, M[i]? = some y → Vis (relabel scope X.env) y → Vis X.env.scope y ∧ X.env.kindOf y ≠ some .local
theorem Inv.letGo {X : Cx} {pins : List (Addr × Obj)} {σ : St} {H : Hp} {s : Shared} {C : Addr} {h' : Heap} (I : Inv X pins σ H s) (f : zne X pins H C) (sb : Heap.SameBut C s.heap h') : Inv X pins σ H { s with heap := h' } := by
  obtain ⟨f0, f1, f2, f3, f4, f5⟩ := f
  have ne : ∀ b, b ∉ [C] → b ≠ C := fun b hb z => hb (by rw [z]; exact List.mem_singleton.mpr rfl)
  refine I.call' (s' := { s with heap := h' }) (ch := [C]) rfl ⟨fun b o e _ _ hx => (sb.2 b (ne b hx)).trans e, fun b o e _ _ hx => ⟨o.slots, (sb.2 b (ne b hx)).trans e⟩, fun _ _ _ n _ => n, fun b o e hx => ⟨o, (sb.2 b (ne b hx)).trans e⟩, fun _ _ q => q, fun _ _ _ q => q, fun _ ps q => ⟨#[], by rw [q]; simp⟩⟩ ?_ I.bare fun b hb => ?_
  · intro b ob e
    refine (I.hok b ob e).stay (fun c v hc q => (sb.2 c ?_).trans q) (fun _ q => q) fun _ _ q => q
    rintro rfl
    rcases hc with z | z
    · rw [← z, f0] at e; cases e
    · rw [f0] at z; cases z
  · rw [List.mem_singleton.mp hb]
    exact ⟨f3, f1, f4, f5⟩
theorem zsr {use : Option (Value → Sem Unit)} {Qf : Value → Shared → Prop} {X : Cx} {elt tg iter : Expr} {ifs : List Expr} {L M : List Str} {scope : Scope} {cl : List (Str × Addr)} {pos : Pos} {wi : TI} {g : TG} {tt : TT} {te : TE}
    (hc : X.calm = true) (S : wa X L M scope cl) (hi : PI X tg iter wi)
    (hgS : ∀ (σ : St) (v : V) (H : Hp) (Q : St → Hp → Prop), g v (List.replicate L.length none ++ σ) H Q → g v (List.replicate L.length none ++ σ) H (fun σ2 H2 => zbO (List.replicate L.length none ++ σ) σ2 ∧ Q σ2 H2))
    (hg : ∀ s₀ H₀ ex pn, PG (zog X L M scope cl s₀ H₀ ex pn) tg g) (ht : ∀ s₀ H₀ ex pn, PIf (zog X L M scope cl s₀ H₀ ex pn) ifs tt) (he : ∀ s₀ H₀ ex pn, PE (zog X L M scope cl s₀ H₀ ex pn) elt te)
    (hs : ∀ x, foldedSetIterable iter X.env x = pure x := by intro _; rfl) :
    ∀ (pos' : Pos) (pins : List (Addr × Obj)) (s : Shared) (σ : St) (H : Hp) (Q : VK), Inv X pins σ H s → tLC wi L.length g tt te σ H Q →
      (∀ (D C : Addr) (H' : Hp) (s' : Shared), Inv X pins σ H' s' → (∃ m, s'.heap.Ns C m) → zne X pins H' C → Q (.ref D) H' → compPost (model X.prog X.w) X.A X.xe use Qf (.ref D) C (.ok .next) s') →
      wpAny (model X.prog X.w) X.A (comprehension (.ListComp elt [⟨tg, iter, ifs, 0⟩] scope pos) scope X.env pos' (newList []) false (eval iter X.env) use) Qf X.xe s := by
  intro pos' pins s σ H Q I h fin
  refine wpAny_comprehension_free (use := use) rfl hs S.clos S.kind S.names (thn (hi pins s σ H _ I h) fun v s1 h1 => thn h1 fun itv s2 h2 => ?_)
  obtain ⟨it, fp, tn, J, H2, e, I2, T, st2, f2, q⟩ := h2
  subst e
  have hD : H2 s2.heap.objs.size = none := I2.hok.fresh (Nat.le_refl _)
  obtain ⟨W, ⟨m0, w0⟩, turn⟩ := q _ hD
  refine wpAny_newObj_type (wpAny_newFunctionEnv S.cell (by intro y hy; simp at hy) (fun h₁ hns₁ hsb₁ => ?_) S.kind)
  have I3 : Inv X pins σ (upd H2 s2.heap.objs.size (.lst [])) { s2 with heap := s2.heap.push { cls := .type "list", data := .seq ([] : List Value).toArray } } := by
    refine I2.laid (t' := s2.toks) (fun b u e => Heap.get?_push_of_some _ e) (Nat.le_refl _) ?_
    exact ⟨Nat.zero_le _, [], 0, .nil, Heap.get?_push_size _ rfl⟩
  generalize hs3 : ({ s2 with heap := s2.heap.push { cls := .type "list", data := .seq ([] : List Value).toArray } } : Shared) = s3 at I3 hns₁ hsb₁ ⊢
  have hobj : ∀ b ∈ fp, b < s2.heap.objs.size := fun b hb => by
    obtain ⟨o, ho, _⟩ := T.obj _ _ st2 b hb
    exact Heap.lt_size ho
  have hz3 : s3.heap.objs.size = s2.heap.objs.size + 1 := by rw [← hs3]; exact Heap.size_push ..
  have k23 : ∀ b o, s2.heap.get? b = some o → s3.heap.get? b = some o := fun b o e => by rw [← hs3]; exact Heap.get?_push_of_some _ e
  have k34 : ∀ b o, s3.heap.get? b = some o → h₁.get? b = some o := fun b o e => (hsb₁.2 b (Nat.ne_of_lt (Heap.lt_size e))).trans (Heap.get?_push_of_some _ e)
  generalize hH3 : upd H2 s2.heap.objs.size (.lst []) = H3 at I3 w0
  have hfp3 : ∀ b ∈ fp, H3 b = none := fun b hb => by
    rw [← hH3, zA (Nat.ne_of_lt (hobj b hb))]
    exact (f2 b hb).1
  have nfs : ∀ b ∈ fp, b ∉ frs X.stack := fun b hb z => by
    obtain ⟨_, n1, n2, _⟩ := f2 b hb
    rcases List.mem_cons.mp (I3.stkSub b z) with e | e
    · exact n1 e
    · exact n2 e
  let Y : Cx := zog X L M scope cl s3 H3 fp (X.pn ++ pins)
  have OkY : Y.Ok := by
    refine ⟨I.ok.mod, S.kind, I.ok.glob, I.ok.blt, Nat.le_refl _, fun x y c h1 h2 => I.ok.inj x y c (S.sub x c h1) (S.sub y c h2), fun x hx => S.has x hx, (fun x c h _ => absurd h Bool.false_ne_true), I.ok.hd, I.ok.frames, .inl rfl, fun b hb => ⟨?_, fun x c e z => ?_⟩,
      fun b o e => I3.bs b o e, Nat.le_trans I.ok.bsz I3.sz, fun b o e hb => ?_, nfs, I3.stack, I3.stkFree⟩
    · show b ≠ s3.heap.objs.size
      exact Nat.ne_of_lt (Nat.lt_of_lt_of_le (hobj b hb) (by rw [hz3]; exact Nat.le_succ _))
    · exact (f2 b hb).2.2.2.2.1 x c (S.sub x c e) z
    · rcases (f2 b hb).2.2.2.1 with z | z
      · exact I.ok.noex b o e z
      · have h1 := Heap.lt_size e
        have h2 := I.ok.bsz
        exact absurd (Nat.lt_of_lt_of_le h1 (Nat.le_trans h2 z)) (Nat.lt_irrefl _)
  have I4 : Inv Y [] (List.replicate L.length none ++ σ) H3 { s3 with heap := h₁, toks := s3.toks + ([] : List (Str × Value)).length } := by
    refine ⟨OkY, rfl, I3.bare, Un.kept k34, ⟨_, hns₁, fun i y v e1 e2 e3 => ?_⟩, fun x c e => ?_, I3.hok.fresh (Nat.le_refl _), fun x c e => I3.freeC x c (S.sub x c e), fun p hp => ?_, I3.hok.kept k34, ?_⟩
    · have hi : ¬ i < L.length := fun hlt => by
        rw [List.getElem?_append_left (by simpa using hlt), List.getElem?_replicate] at e2
        split at e2 <;> cases e2
      have e0' : M[i - L.length]? = some y := by
        have e1 : (L ++ M)[i]? = some y := e1
        rw [List.getElem?_append_right (by omega)] at e1
        exact e1
      have e2' : σ[i - L.length]? = some (some v) := by rw [List.getElem?_append_right (by simpa using Nat.le_of_not_lt hi)] at e2; simpa using e2
      have e1' := S.msk _ y e0' e3
      obtain ⟨ov, ok⟩ := S.out _ y e0' e3
      obtain ⟨m, hn, hl⟩ := I3.loc
      obtain ⟨u, ru, lk⟩ := hl _ y v e1' e2' ov
      refine ⟨u, ru, ?_⟩
      rcases lk with ⟨hk, _⟩ | ⟨_, c, hc', hcell⟩
      · exact absurd hk ok
      · have kn := S.vis _ y e0' e3
        obtain ⟨c', hc2⟩ := S.has y kn
        have := S.sub y c' hc2
        rw [hc'] at this
        cases this
        refine .inr ⟨kn, c, hc2, ?_⟩
        obtain ⟨o, ho, hd⟩ := hcell
        exact ⟨o, k34 _ _ ho, hd⟩
    · obtain ⟨v, o, ho, hd⟩ := I3.cell x c (S.sub x c e)
      exact ⟨v, o, k34 _ _ ho, hd⟩
    · have hp' : p ∈ X.pn ++ pins := List.append_nil (X.pn ++ pins) ▸ hp
      obtain ⟨a1, a2, a3, a4, a5⟩ := I3.pin p hp'
      refine ⟨k34 _ _ a1, a2, Nat.ne_of_lt (Heap.lt_size a1), fun z => ?_, a5⟩
      rcases List.mem_cons.mp (I3.stkSub p.1 z) with e | e
      · exact a3 e
      · exact a4 e
    · show (List.replicate L.length none ++ σ).length = (L ++ M).length
      rw [List.length_append, List.length_append, List.length_replicate, I.len, S.mlen]
  have fpY : ∀ {H' : Hp}, (∀ b ∈ fp, H' b = none) → ∀ b ∈ fp, zne Y [] H' b := fun {H'} hn b hb => by
    refine ⟨hn b hb, (OkY.exf b hb).1, nfs b hb, .inl hb, (OkY.exf b hb).2, fun p hp => ?_⟩
    have hp' : p ∈ X.pn ++ pins := List.append_nil (X.pn ++ pins) ▸ hp
    exact (f2 b hb).2.2.2.2.2 p hp'
  have st4 : tn 0 h₁ := T.keep _ _ _ st2 fun b hb o e => k34 b o (k23 b o e)
  -- behind the loop
  have back : ∀ (H' : Hp) (s' : Shared), Inv Y [] (List.replicate L.length none ++ σ) H' s' → Q (.ref s2.heap.objs.size) H' → compPost (model X.prog X.w) X.A X.xe use Qf (.ref s2.heap.objs.size) s3.heap.objs.size (.ok .next) s' := fun H' s' J' q' => by
    obtain ⟨m, hn, _⟩ := J'.loc
    refine fin _ _ H' s' (I3.call' (ch := fp) J'.os J'.base J'.hok J'.bare fun b hb => ?_) ⟨m, hn⟩ (I3.fpOk (Nat.le_refl _) J'.free) q'
    obtain ⟨_, n1, _, n3, n4, n5⟩ := f2 b hb
    exact ⟨n3, n1, n4, n5⟩
  have loop : codeAny (model X.prog X.w) X.A (.compLoop (.ListComp elt [⟨tg, iter, ifs, 0⟩] scope pos) 0 (.ref it) (.ref s2.heap.objs.size) (compEnvC scope cl s3.heap.objs.size X.env))
      (compPost (model X.prog X.w) X.A X.xe use Qf (.ref s2.heap.objs.size) s3.heap.objs.size) { s3 with heap := h₁, toks := s3.toks + ([] : List (Str × Value)).length } := by
    refine Vi (fun n s' => ∃ i ys H', Inv Y [] (List.replicate L.length none ++ σ) H' s' ∧ tn i s'.heap ∧ (∀ b ∈ fp, H' b = none) ∧ W i n ys H') ?_ m0 ⟨0, [], H3, I4, st4, hfp3, w0⟩
    rintro n s5 ⟨i, ys, H5, I5, st5, fr5, w5⟩
    rcases turn i n ys H5 w5 with ⟨stop, qn⟩ | ⟨go, hlen, step⟩
    · refine thn (T.done Y rfl rfl rfl hc i [] s5 _ H5 _ I5 (fpY fr5) st5 stop) fun r s6 hh9 => ?_
      obtain ⟨hr, I6⟩ := hh9
      subst hr
      exact back H5 s6 I6 qn
    · refine thn (T.item Y rfl rfl rfl hc i [] s5 _ H5 _ I5 (fpY fr5) st5 go) fun r s6 hh9 => ?_
      obtain ⟨u, hr, h6⟩ := hh9
      subst hr
      refine thn h6 fun _ s7 hh9 => ?_
      obtain ⟨x, H7, I7, r7, y7, st7, fr7⟩ := hh9
      have I7' := I7.pinned (fpY fr7) (T.obj _ _ st7)
      have g7 := hgS σ x H7 _ (step x H7 y7)
      refine thn (hg _ _ _ _ _ s7 _ H7 x u _ I7' r7 g7) fun _ s8 hh9 => ?_
      obtain ⟨σ8, H8, I8, sub8, q8⟩ := hh9
      have again : ∀ {σ9 : St} {H9 : Hp} {s9 : Shared} {zs : List V}, Inv Y ([] ++ zcY fp s7.heap) σ9 H9 s9 → zbO (List.replicate L.length none ++ σ) σ9 → (∃ m', m' < n ∧ W (i + 1) m' zs H9) →
          ∃ m, m < n ∧ ∃ i ys H', Inv Y [] (List.replicate L.length none ++ σ) H' s9 ∧ tn i s9.heap ∧ (∀ b ∈ fp, H' b = none) ∧ W i m ys H' := fun {σ9 H9 s9 zs} I9 sub9 w9 => by
        obtain ⟨m', hm, w9⟩ := w9
        refine ⟨m', hm, i + 1, zs, H9, (I9.sub sub9).unpinned, T.keep _ _ _ st7 fun b hb o e => (I9.pin (b, o) (List.mem_append_right _ (List.mem_append_right _ (Ve hb e)))).1, fun b hb => ?_, w9⟩
        obtain ⟨o, e, d⟩ := T.obj _ _ st7 b hb
        exact (I9.pin (b, o) (List.mem_append_right _ (List.mem_append_right _ (Ve hb e)))).2.1
      refine thn (ht _ _ _ _ _ s8 σ8 H8 _ I8 q8) fun b s9 hh9 => ?_
      obtain ⟨H9, I9, q9⟩ := hh9
      cases b with
      | false =>
        rw [if_neg Bool.false_ne_true] at q9
        rw [if_neg Bool.false_ne_true]
        exact again I9 sub8 q9
      | true =>
        rw [if_pos rfl] at q9
        rw [if_pos rfl]
        refine thn (he _ _ _ _ _ s9 σ8 H9 _ I9 q9) fun y s10 hh9 => ?_
        obtain ⟨yv, H10, I10, r10, hD10, w10⟩ := hh9
        obtain ⟨z10, its, k, rv, e10⟩ : ys.length ≤ sizeLine ∧ ∃ (its : List Value) (n : Nat), yG ys its ∧ s10.heap.get? s2.heap.objs.size = some { cls := .type "list", data := .seq its.toArray n } := I10.hok _ _ hD10
        have hl10 : s10.heap.PlainList s2.heap.objs.size its.toArray := ⟨k, e10⟩
        refine wpAny_list_append_plain (hsz := by rw [List.size_toArray, ← rv.length]; exact z10) hl10 fun h11 hl11 sb11 => ?_
        obtain ⟨k', e11⟩ := hl11
        have I11 : Inv Y ([] ++ zcY fp s7.heap) σ8 (upd H10 s2.heap.objs.size (.lst (ys ++ [yv]))) { s10 with heap := h11 } := by
          refine I10.write (x := s2.heap.objs.size) (e := s2.heap.objs.size) (t' := s10.toks) (by rw [hD10]; exact True.intro) (.inl rfl) (fun b u hb e => (sb11.2 b hb).trans e) ⟨_, e11⟩ ?_
          refine ⟨by rw [List.length_append]; show ys.length + 1 ≤ sizeLine; exact hlen, its ++ [y], k', rv.append (.cons r10 .nil), ?_⟩
          rw [e11]
          simp
        exact again I11 sub8 w10
  exact codeAny_compStart_list loop (T.self _ 0 _ _ _ st4 loop)
theorem zq1 {X : Cx} {elt tg iter : Expr} {ifs : List Expr} {L M : List Str} {scope : Scope} {cl : List (Str × Addr)} {pos : Pos} {wi : TI} {g : TG} {tt : TT} {te : TE}
    (hc : X.calm = true) (S : wa X L M scope cl) (hi : PI X tg iter wi)
    (hgS : ∀ (σ : St) (v : V) (H : Hp) (Q : St → Hp → Prop), g v (List.replicate L.length none ++ σ) H Q → g v (List.replicate L.length none ++ σ) H (fun σ2 H2 => zbO (List.replicate L.length none ++ σ) σ2 ∧ Q σ2 H2))
    (hg : ∀ s₀ H₀ ex pn, PG (zog X L M scope cl s₀ H₀ ex pn) tg g) (ht : ∀ s₀ H₀ ex pn, PIf (zog X L M scope cl s₀ H₀ ex pn) ifs tt) (he : ∀ s₀ H₀ ex pn, PE (zog X L M scope cl s₀ H₀ ex pn) elt te)
    (hs : ∀ x, foldedSetIterable iter X.env x = pure x := by intro _; rfl) :
    PE X (.ListComp elt [⟨tg, iter, ifs, 0⟩] scope pos) (tLC wi L.length g tt te) := by
  intro pins s σ H Q I h
  rw [eval_ListComp]
  refine zsr hc S hi hgS hg ht he hs _ pins s σ H Q I h fun D C H' s' I' ⟨m, hn⟩ f q => ⟨m, hn, fun h' sb => ⟨.ref D, _, I'.letGo f sb, rfl, q⟩⟩
noncomputable def zc0 (names rn dn : List (Str × NameKind)) (N M cn : List Str) : Bool :=
  names.all (fun y => decide (y.2 ≠ .cell)) && names.all (fun y => decide (y.2 = .local → names.lookup y.1 = some .local)) &&
  rn.all (fun y => decide ((y.2 = .cell ∨ y.2 = .free) → y.1 ∈ cn)) &&
  (M.length == N.length) && (M.zip N).all (fun p => decide ((rn.lookup p.1 = some .local ∨ rn.lookup p.1 = some .cell ∨ rn.lookup p.1 = some .free) → p.1 = p.2)) &&
  M.all (fun y => decide ((rn.lookup y = some .local ∨ rn.lookup y = some .cell ∨ rn.lookup y = some .free) →
    (rn.lookup y = some .cell ∨ rn.lookup y = some .free) ∧ (dn.lookup y = some .local ∨ dn.lookup y = some .cell ∨ dn.lookup y = some .free) ∧ dn.lookup y ≠ some .local))
theorem zaJ {X : Cx} {L N M cn : List Str} {scope : Scope} {cl : List (Str × Addr)} {rn dn : List (Str × NameKind)} (hr : (relabel scope X.env).names = rn) (hd : X.env.scope.names = dn) (hN : X.N = N)
    (clos : closureFor scope X.env = pure cl) (kind : scope.kind = .function) (hc : cl.map Prod.fst = cn) (good : zc0 scope.names rn dn N M cn = true) (sub : ∀ p ∈ cl, X.env.cells.lookup p.1 = some p.2) : wa X L M scope cl := by
  unfold zc0 at good
  simp only [Bool.and_eq_true, List.all_eq_true, decide_eq_true_eq] at good
  obtain ⟨⟨⟨⟨⟨g1, g2⟩, g3⟩, g5⟩, g6⟩, g4⟩ := good
  have g5 : M.length = N.length := by simpa using g5
  refine ⟨clos, g1, kind, g2, fun y c h => sub (y, c) (PySem.mem_of_lookup h), fun y h => ?_, by rw [hN]; exact g5, fun i y e v => ?_, fun i y e v => ?_, fun i y e v => ?_⟩
  · rw [hr] at h
    have hy : y ∈ cn := by
      rcases h with h | h
      · exact g3 _ (PySem.mem_of_lookup h) (.inl rfl)
      · exact g3 _ (PySem.mem_of_lookup h) (.inr rfl)
    exact Vj (by rw [hc]; exact hy)
  · unfold Vis at v
    rw [hr] at v
    have hi := (List.getElem?_eq_some_iff.mp e).1
    have hj : i < N.length := by rw [← g5]; exact hi
    have hz : (M.zip N)[i]? = some (y, N[i]) := by
      rw [List.getElem?_zip_eq_some]
      exact ⟨e, List.getElem?_eq_getElem hj⟩
    have := g6 _ (List.mem_of_getElem? hz) v
    rw [hN, List.getElem?_eq_getElem hj]
    exact congrArg some this.symm
  · unfold Vis at v
    rw [hr] at v ⊢
    exact (g4 y (List.mem_of_getElem? e) v).1
  · unfold Vis at v
    rw [hr] at v
    obtain ⟨_, k1, k2⟩ := g4 y (List.mem_of_getElem? e) v
    refine ⟨?_, ?_⟩
    · unfold Vis; rw [hd]; exact k1
    · show X.env.scope.names.lookup y ≠ _; rw [hd]; exact k2
end L2
namespace PySem
open Sem (wp)
open AutoSeq1 (wpAny_loadPart')
section
variable {prog : Program} {w : World} {A : Around} {E : Value → Shared → Prop} {s : Shared}
theorem WP {it l : Addr} {i : Nat} {items} {x : Value} {Q : Value → Shared → Prop} (hit : s.heap.IsTupleIter it l i)
    (hl : s.heap.IsTuple l items) (hx : items[i]? = some x)
    (hQ : ∀ h', h'.IsTupleIter it l (i + 1) → Heap.SameBut it s.heap h' → Q x { s with heap := h' }) :
    wpAny (model prog w) A (Builtin.SmallTypes.nextOf (.ref it)) Q E s := by
  obtain ⟨o, ho, hc, hd⟩ := id hit
  obtain ⟨ol, hol, _, nl, hdl⟩ := hl
  unfold Builtin.SmallTypes.nextOf
  refine wpAny_bind (wpAny_callSpecial?_slot (name := Str.ofString "__next__") hit.typeIs F.slot_tuple_iterator_next
    (wpAny_call_entry F.slot_tuple_iterator_next hit.typeIs F.entry_tuple_iterator_next ?_ (F.args_tuple_iterator_next_1 _)))
  show wpAny _ _ (field (.ref it) 0 >>= _) _ _ s
  refine wpAny_bind (wpAny_field ho hd (x := .ref l) rfl ?_)
  show wpAny _ _ (if (Value.ref l == Value.none) = true then _ else _) _ _ s
  rw [if_neg (show ¬ ((Value.ref l == Value.none) = true) from Bool.false_ne_true)]
  show wpAny _ _ (field (.ref it) 1 >>= _) _ _ s
  refine wpAny_bind (wpAny_field ho hd (x := .int i 0) rfl ?_)
  show wpAny _ _ (seqItems? (.ref l) >>= _) _ _ s
  refine wpAny_bind (wpAny_seqItems hol hdl ?_)
  simp only [Int.toNat_natCast, hx]
  refine wpAny_bind (wpAny_setField ho hd (by simp) (wpAny_pure ⟨x, rfl, wpAny_pure (hQ _ ?_ (Heap.SameBut.update ..))⟩))
  exact ⟨_, Heap.get?_update_self _ ho (Obj.isFreed_of_fields (Obj.data_mapFields hd _)), (Obj.cls_mapFields ..).trans hc, by
    rw [Obj.data_mapFields hd]; simp [rawInt]⟩
theorem xO {it l : Addr} {i : Nat} {items} {Q : Value → Shared → Prop} (hh : A.handled = none)
    (hit : s.heap.IsTupleIter it l i) (hl : s.heap.IsTuple l items) (hx : items[i]? = none)
    (hE : ∀ h' e, Heap.ExtBut it s.heap h' → (∃ o, h'.get? e = some o ∧ o.cls = .type "StopIteration") → E (.ref e) { s with heap := h' }) :
    wpAny (model prog w) A (Builtin.SmallTypes.nextOf (.ref it)) Q E s := by
  obtain ⟨o, ho, hc, hd⟩ := id hit
  obtain ⟨ol, hol, _, nl, hdl⟩ := hl
  unfold Builtin.SmallTypes.nextOf
  refine wpAny_bind (wpAny_callSpecial?_slot (name := Str.ofString "__next__") hit.typeIs F.slot_tuple_iterator_next
    (wpAny_call_entry F.slot_tuple_iterator_next hit.typeIs F.entry_tuple_iterator_next ?_ (F.args_tuple_iterator_next_1 _)))
  show wpAny _ _ (field (.ref it) 0 >>= _) _ _ s
  refine wpAny_bind (wpAny_field ho hd (x := .ref l) rfl ?_)
  show wpAny _ _ (if (Value.ref l == Value.none) = true then _ else _) _ _ s
  rw [if_neg (show ¬ ((Value.ref l == Value.none) = true) from Bool.false_ne_true)]
  show wpAny _ _ (field (.ref it) 1 >>= _) _ _ s
  refine wpAny_bind (wpAny_field ho hd (x := .int i 0) rfl ?_)
  show wpAny _ _ (seqItems? (.ref l) >>= _) _ _ s
  refine wpAny_bind (wpAny_seqItems hol hdl ?_)
  simp only [Int.toNat_natCast, hx]
  refine wpAny_bind (wpAny_rule (wpAny_bind (wpAny_setField ho hd (by simp) ?_)))
  show wpAny _ _ (newExc (.type "StopIteration") [] >>= _) _ _ _
  refine wpAny_bind ?_
  simp only [newExc, newTuple]
  refine wpAny_bind (wpAny_newObj_type ?_ (by size_fits))
  refine wpAny_bind (m := firstArgMember _ _) (wpAny_of_eq (a := Value.none) (by first | rfl | (simp only [firstArgMember]; rfl)) ?_)
  refine wpAny_newObj_type ?_ (by size_fits)
  simp only [raiseNew]
  refine wpAny_bind (wpAny_handled ?_)
  first | rw [show A.in1.handled = none from hh] | rw [hh]
  refine wpAny_bind (wpAny_pure (wpAny_throw ?_))
  exact hE _ _ (((Heap.SameBut.update ..).extBut.push _).push _) ⟨_, Heap.get?_push_size _ rfl, rfl⟩
end
theorem Vg {prog : Program} {w : World} {A : Around} {E : Value → Shared → Prop} {s : Shared} {e it l : Addr} {i : Nat} {items : Array Value} {old : Value} {Q : Option Value → Shared → Prop} (hh : A.handled = none)
    (he : IsEnum s.heap e it i old) (hit : s.heap.IsTupleIter it l i) (hl : s.heap.IsTuple l items) (hx : items[i]? = none)
    (hQ : ∀ h', Heap.ExtBut it s.heap h' → Q none { s with heap := h' }) : wpAny (model prog w) A (pyNext (.ref e)) Q E s := by
  have hT : s.TypeIs (.ref e) "enumerate" := ⟨_, he, rfl⟩
  unfold pyNext
  refine wpAny_bind (wpAny_attempt (wpAny_callSpecial?_slot (name := Str.ofString "__next__") hT F.slot_enumerate_next
    (wpAny_call_entry F.slot_enumerate_next hT F.entry_enumerate_next ?_ (F.args_enumerate_next_1 _))))
  show wpAny _ _ (field (.ref e) 2 >>= _) _ _ _
  refine wpAny_bind (wpAny_field he rfl (x := .ref it) rfl ?_)
  refine wpAny_bind (xO hh hit hl hx fun h' x he' hx' => ?_)
  obtain ⟨o, ho, hc⟩ := hx'
  refine wpAny_bind (wpAny_isInstance (T := "StopIteration") (b := true) ⟨o, ho, hc⟩ isSubtype_stop ?_)
  exact wpAny_pure (hQ _ he')
theorem XU {prog : Program} {w : World} {A : Around} (hh : A.handled = none) (it l : Addr) (hne : l ≠ it) (items : Array Value) :
    Draws prog w A it [it, l] items.size (fun i v => items[i]? = some v) (fun i h => h.IsTupleIter it l i ∧ h.IsTuple l items) where
  live := fun _ _ st => let ⟨o, ho, _⟩ := st.1; ⟨o, ho⟩
  frame := fun _ _ _ st hk => by
    obtain ⟨⟨o, ho, r⟩, ⟨o2, ho2, r2⟩⟩ := st
    exact ⟨⟨o, hk it (by simp) o ho, r⟩, ⟨o2, hk l (by simp) o2 ho2, r2⟩⟩
  item := fun i s Q E hi st hQ => by
    refine WP st.1 st.2 (x := items[i]) (by simp [hi]) fun h' hit' hs' => ?_
    exact hQ _ h' s.toks (by simp [hi]) ⟨hit', st.2.extBut hs'.extBut hne⟩ hs'
  done := fun s Q E st hE => xO hh st.1 st.2 (by simp) hE
theorem za6 (l : Addr) (items : Array Value) (n : Nat) (dd : Option Addr) (sl : Array (Option Value)) :
    Meets (Builtin.«enumerate.__new__» ⟨[.type "enumerate", .ref l], []⟩) (fun _ R s => s.heap.get? l = some { cls := .type "tuple", dict := dd, data := .seq items n, slots := sl } ∧
      R (.ok (.ret (.ref (s.heap.push { cls := .type "tuple_iterator", data := .fields #[.ref l, .int 0 0] }).objs.size)))
        { s with heap := (s.heap.push { cls := .type "tuple_iterator", data := .fields #[.ref l, .int 0 0] }).push { cls := .type "enumerate", data := .fields #[.none, .bool false, .ref s.heap.objs.size, rawInt 0, .none, .none] } }) :=
  .of_wp fun prog w A R s h => by
    obtain ⟨hp, g, d, tk, os⟩ := s; obtain ⟨hl, h⟩ := h
    have hsub := sub_enumerate
    have hL : Heap.IsTuple (Shared.heap ⟨hp, g, d, tk, os⟩) l items := ⟨_, hl, rfl, n, rfl⟩
    wp_walk using wpAny_loadPart' hl
    refine wpAny_stack_any fun st => wpAny_pure ?_
    split
    · rename_i c _ _ _ _ _
      cases (c == Value.type "enumerate")
      · wp_walk using wpAny_loadPart' hl, wpAny_pyIter_tuple hL
        exact ⟨_, rfl, h⟩
      · wp_walk using wpAny_loadPart' hl, wpAny_pyIter_tuple hL
        exact ⟨_, rfl, h⟩
    · wp_walk using wpAny_loadPart' hl, wpAny_pyIter_tuple hL
      exact ⟨_, rfl, h⟩
section
variable {prog : Program} {w : World} {A : Around} {E : Value → Shared → Prop} {s : Shared}
theorem Vh {l : Addr} {items : Array Value} {Q : Value → Shared → Prop}
    (hl : s.heap.IsTuple l items)
    (h : ∀ h', IsEnum h' (s.heap.objs.size + 1) s.heap.objs.size 0 .none → h'.IsTupleIter s.heap.objs.size l 0 → h'.objs.size = s.heap.objs.size + 2 →
      (∀ b o, s.heap.get? b = some o → h'.get? b = some o) → Q (.ref (s.heap.objs.size + 1)) { s with heap := h' }) :
    wpAny (model prog w) A (call (.type "enumerate") [.ref l]) Q E s := by
  obtain ⟨⟨cls, dd, data, sl⟩, ho, hc, n, hd⟩ := hl
  simp only at hc hd
  subst hc hd
  refine callType_new F.called_enumerate (by decide) (F.typeCall_enumerate_1 _) (F.newCall_enumerate_1 _) (fun obj => F.args_object_init_2 obj _) F.entry_enumerate_new
    (za6 l items n dd sl) ⟨ho, ?_⟩
  have hz : (s.heap.push { cls := .type "tuple_iterator", data := .fields #[.ref l, .int 0 0] }).objs.size = s.heap.objs.size + 1 := Heap.size_push ..
  show _ ∧ _
  rw [hz]
  have he : IsEnum ((s.heap.push { cls := .type "tuple_iterator", data := .fields #[.ref l, .int 0 0] }).push
      { cls := .type "enumerate", data := .fields #[.none, .bool false, .ref s.heap.objs.size, rawInt 0, .none, .none] }) (s.heap.objs.size + 1) s.heap.objs.size 0 .none := by
    have := Heap.get?_push_size (s.heap.push { cls := .type "tuple_iterator", data := .fields #[.ref l, .int 0 0] })
      (o := { cls := .type "enumerate", data := .fields #[.none, .bool false, .ref s.heap.objs.size, rawInt 0, .none, .none] }) rfl
    rw [hz] at this; exact this
  refine ⟨⟨_, he, rfl⟩, h _ he ⟨_, Heap.get?_push_of_some _ (Heap.get?_push_size _ rfl), rfl, rfl⟩ (by rw [Heap.size_push, hz]) fun b o x => Heap.get?_push_of_some _ (Heap.get?_push_of_some _ x)⟩
end
end PySem
namespace L2
open PySem PySem.Spec PyProof.Rows
section
variable {X : Cx} {pins : List (Addr × Obj)} {σ : St} {H : Hp} {s : Shared} {h' : Heap}
theorem Inv.grown {ch : List Addr} {T : Addr} {o : HO} {t' : Nat} (I : Inv X pins σ H s) (hch : ∀ b ∈ ch, zne X pins H b) (hT : s.heap.objs.size ≤ T) (k : ∀ b u, b ∉ ch → s.heap.get? b = some u → h'.get? b = some u)
    (new : yV X.prog X.w (upd H T o) h' T o) : Inv X pins σ (upd H T o) { s with heap := h', toks := t' } := by
  have hn : H T = none := I.hok.fresh hT
  have neT : ∀ b u, s.heap.get? b = some u → b ≠ T := fun b u e => Nat.ne_of_lt (Nat.lt_of_lt_of_le (Heap.lt_size e) hT)
  have nch : ∀ b u, H b = some u → b ∉ ch := fun b u e z => by rw [(hch b z).1] at e; cases e
  refine I.step (g' := s.gens) (d' := s.drawn) (ch := ch) (fun b hb => ?_) (fun b u _ _ hc e _ => k b u hc e) (fun b u _ _ hc e _ => ⟨u.slots, k b u hc e⟩) (fun b u _ e n => by rw [zA (neT b u e)]; exact n)
    (fun b u hc e => ⟨u, k b u hc e⟩) (fun b xs e => by rw [zA (zx e hn)]; exact e) (fun b u xs e => by rw [zA (zx e hn)]; exact e) (fun b ps e => ⟨#[], by rw [zA (zx e hn), e]; simp⟩) (fun m hm => ?_) (fun b u e => ?_) I.bare
  · obtain ⟨_, n1, _, n3, n4, n5⟩ := hch b hb
    exact ⟨n3, n1, n4, n5⟩
  · obtain ⟨ob, es, ep, ho, r⟩ := hm
    exact ⟨ob, es, ep, k _ ob (fun z => (hch _ z).2.1 rfl) ho, r⟩
  · by_cases hb : b = T
    · subst hb; rw [zy] at e; cases e; exact new
    · rw [zA hb] at e
      refine (I.hok b u e).stay (fun c v hc q => k c v ?_ q) (fun c q => by rw [zA (zx q hn)]; exact q) fun c xs q => by rw [zA (zx q hn)]; exact q
      rcases hc with z | z
      · rw [z]; exact nch b u e
      · exact nch c _ z
theorem Inv.turnedN {ch : List Addr} {t' : Nat} (I : Inv X pins σ H s) (hch : ∀ b ∈ ch, zne X pins H b) (k : ∀ b u, b ∉ ch → s.heap.get? b = some u → h'.get? b = some u) : Inv X pins σ H { s with heap := h', toks := t' } := by
  have nch : ∀ b u, H b = some u → b ∉ ch := fun b u e z => by rw [(hch b z).1] at e; cases e
  refine I.step (g' := s.gens) (d' := s.drawn) (ch := ch) (fun b hb => ?_) (fun b u _ _ hc e _ => k b u hc e) (fun b u _ _ hc e _ => ⟨u.slots, k b u hc e⟩) (fun b u _ e n => n)
    (fun b u hc e => ⟨u, k b u hc e⟩) (fun b xs e => e) (fun b u xs e => e) (fun b ps e => ⟨#[], by rw [e]; simp⟩) (fun m hm => ?_) (fun b u e => ?_) I.bare
  · obtain ⟨_, n1, _, n3, n4, n5⟩ := hch b hb
    exact ⟨n3, n1, n4, n5⟩
  · obtain ⟨ob, es, ep, ho, r⟩ := hm
    exact ⟨ob, es, ep, k _ ob (fun z => (hch _ z).2.1 rfl) ho, r⟩
  · refine (I.hok b u e).stay (fun c v hc q => k c v ?_ q) (fun c q => q) fun c xs q => q
    rcases hc with z | z
    · rw [z]; exact nch b u e
    · exact nch c _ z
end
noncomputable def Iel (K : PySem.W.Frag) (a : Addr) : It :=
  ⟨fun i H => ∃ xs x, SqL K H a xs ∧ xs[i]? = some x, fun i H v H' => ∃ T x, v = .ref T ∧ H T = none ∧ H' = upd H T (.tup [.int i, x]) ∧ ∀ xs, SqL K H a xs → xs[i]? = some x, fun i H => ∃ xs, SqL K H a xs ∧ xs.length ≤ i⟩
noncomputable def Iet (K : PySem.W.Frag) (a : Addr) : It :=
  ⟨fun i H => ∃ xs x, SqT K H a xs ∧ xs[i]? = some x, fun i H v H' => ∃ T x, v = .ref T ∧ H T = none ∧ H' = upd H T (.tup [.int i, x]) ∧ ∀ xs, SqT K H a xs → xs[i]? = some x, fun i H => ∃ xs, SqT K H a xs ∧ xs.length ≤ i⟩
theorem zn8 {P : Program} {w : World} {K : PySem.W.Frag} {es : List Expr} {k : Nat} {tp : Pos} (a e it : Addr) (hne : e ≠ it) :
    zqX P w K (.Tuple es k tp) (Iel K a) [e, it] e (fun i h => (∃ old, IsEnum h e it i old) ∧ h.IsListIter it a i) where
  mem := by simp
  obj := fun i h st b hb => by
    obtain ⟨⟨old, he⟩, o, ho, _, hd⟩ := st
    rcases List.mem_cons.mp hb with rfl | hb
    · exact ⟨_, he, fun v z => by cases z⟩
    · rw [List.mem_singleton.mp hb]
      exact ⟨o, ho, fun v z => by rw [hd] at z; cases z⟩
  keep := fun i h h' st kk => by
    obtain ⟨⟨old, he⟩, hit⟩ := st
    exact ⟨⟨old, kk e (by simp) _ he⟩, hit.at fun o q => kk it (by simp) o q⟩
  item := by
    intro X hP hw hK hc i pins s σ H E I hf st hg
    subst hP hw hK
    obtain ⟨⟨old, he⟩, hit⟩ := st
    obtain ⟨xs, x, hq, hx⟩ := hg
    obtain ⟨its, rv, p, hz⟩ := I.list hq
    obtain ⟨u, hu, ru⟩ := rv.get hx
    refine wpAny_pyNext_enum_item he hit p.isList (x := u) (by simpa using hu) hne fun h1 ho1 hit1 hT1 hz1 hk1 => ?_
    refine ⟨_, rfl, wpAny_letOwnedTupleGo_enum ho1 fun h2 he2 hs2 => ?_⟩
    have hfr : H s.heap.objs.size = none := I.hok.fresh (Nat.le_refl _)
    have neE : s.heap.objs.size ≠ e := Nat.ne_of_gt (Heap.lt_size he)
    have hT2 : h2.get? s.heap.objs.size = some { cls := .type "tuple", data := .seq #[.int i s.toks, u] } := (hs2.2 _ neE).trans hT1
    refine ⟨.ref s.heap.objs.size, upd H s.heap.objs.size (.tup [.int i, x]), ?_, rfl, ⟨_, x, rfl, hfr, rfl, fun ys hy => by rw [I.list_inj hy hq]; exact hx⟩, ⟨⟨_, by simpa using he2⟩, hit1.at fun o q => (hs2.2 it (Ne.symm hne)).trans q⟩, fun b hb => ?_⟩
    · refine I.grown (ch := [e, it]) hf (Nat.le_refl _) (fun b v hb q => ?_) ?_
      · have n1 : b ≠ e := fun z => hb (by simp [z])
        have n2 : b ≠ it := fun z => hb (by simp [z])
        exact (hs2.2 b n1).trans (hk1 b v n1 n2 q)
      · exact ⟨by show 2 ≤ sizeLine; decide, [.int i s.toks, u], .cons ⟨_, rfl⟩ (.cons ru .nil), ⟨_, hT2, rfl, 0, rfl⟩⟩
    · obtain ⟨o, hb2, _⟩ : ∃ o, s.heap.get? b = some o ∧ True := by
        rcases List.mem_cons.mp hb with rfl | hb
        · exact ⟨_, he, trivial⟩
        · rw [List.mem_singleton.mp hb]
          obtain ⟨o, ho, _⟩ := hit
          exact ⟨o, ho, trivial⟩
      rw [zA (Nat.ne_of_lt (Heap.lt_size hb2))]
      exact (hf b hb).1
  done := by
    intro X hP hw hK hc i pins s σ H E I hf st hg
    subst hP hw hK
    obtain ⟨⟨old, he⟩, hit⟩ := st
    obtain ⟨xs, hq, hx⟩ := hg
    obtain ⟨its, rv, p, hz⟩ := I.list hq
    have hl := rv.length
    exact wpAny_pyNext_enum_end (I.ok.hd hc) he hit p.isList (by simp; omega) fun h1 hx1 => ⟨rfl, I.turnedN (ch := [e, it]) (t' := s.toks) hf fun b v hb q => hx1 b v (fun z => hb (by simp [z])) q⟩
  self := fun _ _ _ _ _ st h => wpAny_pyIter_enum st.1.choose_spec h
theorem zn4 {P : Program} {w : World} {K : PySem.W.Frag} {es : List Expr} {k : Nat} {tp : Pos} (a e it : Addr) (hne : e ≠ it) (hai : a ≠ it) (hae : a ≠ e) :
    zqX P w K (.Tuple es k tp) (Iet K a) [e, it] e (fun i h => (∃ old, IsEnum h e it i old) ∧ h.IsTupleIter it a i) where
  mem := by simp
  obj := fun i h st b hb => by
    obtain ⟨⟨old, he⟩, o, ho, _, hd⟩ := st
    rcases List.mem_cons.mp hb with rfl | hb
    · exact ⟨_, he, fun v z => by cases z⟩
    · rw [List.mem_singleton.mp hb]
      exact ⟨o, ho, fun v z => by rw [hd] at z; cases z⟩
  keep := fun i h h' st kk => by
    obtain ⟨⟨old, he⟩, o, ho, r⟩ := st
    exact ⟨⟨old, kk e (by simp) _ he⟩, o, kk it (by simp) o ho, r⟩
  item := by
    intro X hP hw hK hc i pins s σ H E I hf st hg
    subst hP hw hK
    obtain ⟨⟨old, he⟩, hit⟩ := st
    obtain ⟨xs, x, hq, hx⟩ := hg
    obtain ⟨its, rv, p, hz⟩ := I.tuple hq
    obtain ⟨u, hu, ru⟩ := rv.get hx
    have p' : s.heap.IsTuple a its.toArray := p
    have D := XU (prog := X.prog) (w := X.w) (A := X.A.in1) (I.ok.hd hc) it a hai its.toArray
    have hlt : i < its.toArray.size := by
      obtain ⟨h1, _⟩ := List.getElem?_eq_some_iff.mp hu
      simpa using h1
    refine wpAny_pyNext_enum_itemD D he ⟨hit, p'⟩ hlt hne (by simp [hne, Ne.symm hae]) fun u' h1 tk hP1 ho1 hit1 hT1 hz1 hk1 => ?_
    have eu : u' = u := by
      have : its[i]? = some u' := by simpa using hP1
      rw [hu] at this
      exact (Option.some.inj this).symm
    subst eu
    refine ⟨_, rfl, wpAny_letOwnedTupleGo_enum ho1 fun h2 he2 hs2 => ?_⟩
    have hfr : H s.heap.objs.size = none := I.hok.fresh (Nat.le_refl _)
    have neE : s.heap.objs.size ≠ e := Nat.ne_of_gt (Heap.lt_size he)
    have hT2 : h2.get? s.heap.objs.size = some { cls := .type "tuple", data := .seq #[.int i tk, u'] } := (hs2.2 _ neE).trans hT1
    refine ⟨.ref s.heap.objs.size, upd H s.heap.objs.size (.tup [.int i, x]), ?_, rfl, ⟨_, x, rfl, hfr, rfl, fun ys hy => by rw [I.tuple_inj hy hq]; exact hx⟩, ⟨⟨_, by simpa using he2⟩, ?_⟩, fun b hb => ?_⟩
    · refine I.grown (ch := [e, it]) hf (Nat.le_refl _) (fun b v hb q => ?_) ?_
      · have n1 : b ≠ e := fun z => hb (by simp [z])
        have n2 : b ≠ it := fun z => hb (by simp [z])
        exact (hs2.2 b n1).trans (hk1 b v n1 n2 q)
      · exact ⟨by show 2 ≤ sizeLine; decide, [.int i tk, u'], .cons ⟨_, rfl⟩ (.cons ru .nil), ⟨_, hT2, rfl, 0, rfl⟩⟩
    · obtain ⟨o, ho, r⟩ := hit1.1
      exact ⟨o, (hs2.2 it (Ne.symm hne)).trans ho, r⟩
    · obtain ⟨o, hb2, _⟩ : ∃ o, s.heap.get? b = some o ∧ True := by
        rcases List.mem_cons.mp hb with rfl | hb
        · exact ⟨_, he, trivial⟩
        · rw [List.mem_singleton.mp hb]
          obtain ⟨o, ho, _⟩ := hit
          exact ⟨o, ho, trivial⟩
      rw [zA (Nat.ne_of_lt (Heap.lt_size hb2))]
      exact (hf b hb).1
  done := by
    intro X hP hw hK hc i pins s σ H E I hf st hg
    subst hP hw hK
    obtain ⟨⟨old, he⟩, hit⟩ := st
    obtain ⟨xs, hq, hx⟩ := hg
    obtain ⟨its, rv, p, hz⟩ := I.tuple hq
    have hl := rv.length
    have p' : s.heap.IsTuple a its.toArray := p
    exact Vg (I.ok.hd hc) he hit p' (by simp; omega) fun h1 hx1 => ⟨rfl, I.turnedN (ch := [e, it]) (t' := s.toks) hf fun b v hb q => hx1 b v (fun z => hb (by simp [z])) q⟩
  self := fun _ _ _ _ _ st h => wpAny_pyIter_enum st.1.choose_spec h
noncomputable def zvw (K : PySem.W.Frag) (ta : TA) : TI := fun σ H R => ta σ H fun vs H1 => ∃ a, vs = [.ref a] ∧ ((∃ xs, H1 a = some (.lst xs) ∧ R (Iel K a) H1) ∨ (∃ xs, SqT K H1 a xs ∧ R (Iet K a) H1))
theorem zsc {X : Cx} {es : List Expr} {k : Nat} {tp : Pos} {a : Expr} {ta : TA} {p pos : Pos} (hg : Gl X "enumerate") (hm : X.mg "enumerate" = none) (hb : bootBuiltins "enumerate" = some (.type "enumerate")) (ha : PA X [a] ta)
    (hs : starEach [a] X.env = [(false, eval a X.env)] := by rfl) : PI X (.Tuple es k tp) (.Call (.Name "enumerate" p) [a] [] pos) (zvw X.K ta) := by
  intro pins s σ H R I h
  refine Call_ (Vk I hg hm hb (PyProof.Rows.callWith_type1 (thn (ha pos pins s σ H _ I h) fun us s1 hh9 => ?_) hs rfl))
  obtain ⟨vs, H1, I1, r1, q1⟩ := hh9
  obtain ⟨l, e, q⟩ := q1
  subst e
  obtain ⟨u, rfl, ru⟩ := zcK r1
  cases ru
  have hn : ∀ b, s1.heap.objs.size ≤ b → zne X pins H1 b := fun b hb => I1.fpOk hb (I1.hok.fresh hb)
  have hne : s1.heap.objs.size + 1 ≠ s1.heap.objs.size := by omega
  have hfp : ∀ b ∈ [s1.heap.objs.size + 1, s1.heap.objs.size], zne X pins H1 b := fun b hb => by
    rcases List.mem_cons.mp hb with rfl | hb
    · exact hn _ (Nat.le_succ _)
    · rw [List.mem_singleton.mp hb]; exact hn _ (Nat.le_refl _)
  rcases q with ⟨xs, hx, q⟩ | ⟨xs, hx, q⟩
  · obtain ⟨_, its, n, _, e⟩ : xs.length ≤ sizeLine ∧ ∃ (its : List Value) (n : Nat), yG xs its ∧ s1.heap.get? l = some { cls := .type "list", data := .seq its.toArray n } := I1.hok _ _ hx
    refine call_enumerate_1 e fun h2 he hit hz hk => wpAny_pyIter_enum he ?_
    exact ⟨_, _, _, _, H1, rfl, I1.kept (t' := s1.toks) hk, zn8 l _ _ hne, ⟨⟨_, he⟩, hit⟩, hfp, q⟩
  · obtain ⟨its, _, p1, _⟩ := I1.tuple hx
    have lt : l < s1.heap.objs.size := by
      obtain ⟨o, ho, _⟩ := p1
      exact Heap.lt_size ho
    refine Vh (show s1.heap.IsTuple l its.toArray from p1) fun h2 he hit hz hk => wpAny_pyIter_enum he ?_
    exact ⟨_, _, _, _, H1, rfl, I1.kept (t' := s1.toks) hk, zn4 l _ _ hne (Nat.ne_of_lt lt) (Nat.ne_of_lt (Nat.lt_succ_of_lt lt)), ⟨⟨_, he⟩, hit⟩, hfp, q⟩
end L2
namespace HT
open PySem PyProof.Rows
noncomputable def lexLe : List Int → List Int → Bool
  | [], _ => true
  | _ :: _, [] => false
  | x :: xs, y :: ys => if x = y then lexLe xs ys else decide (x ≤ y)
theorem zoc (x y : Int) (xs ys : List Int) : lexLe (x :: xs) (y :: ys) = if x = y then lexLe xs ys else decide (x ≤ y) := rfl
theorem zpP (A : Around) (s : Shared) (a : Int) (t : Tok) (c : Int) (u : Tok) (prog : Program) (w : World) (E : Value → Shared → Prop) (Q : Value → Shared → Prop) (h : Q (.bool (decide (a ≤ c))) s) :
    wpAny (model prog w) A (richCompare .LtE (.int a t) (.int c u)) Q E s :=
  (PyProof.Rows.le_int h : wpAny (model prog w) A (compareOp .LtE (.int a t) (.int c u)) Q E s)
section
open PySem.SeqAt
open PySem.AutoSeq1 (wpAny_loadPart')
open PySem.MeetsSeq PySem.MeetsSeq2 PySem.MeetsSeq3
theorem zdc (l b : Addr) (items items2 : Array Value) (n n2 : Nat) (dd dd2 : Option Addr) (sl sl2 : Array (Option Value)) (ns ms : List Int) (hi : IntsAre items.toList ns) (hj : IntsAre items2.toList ms) :
    Meets (Builtin.«tuple.__le__» ⟨[.ref l, .ref b], []⟩)
      (fun _ R s => s.heap.get? l = some { cls := .type "tuple", dict := dd, data := .seq items n, slots := sl } ∧ s.heap.get? b = some { cls := .type "tuple", dict := dd2, data := .seq items2 n2, slots := sl2 } ∧
        R (.ok (.ret (.bool (lexLe ns ms)))) s) :=
  .of_wp fun prog w A R s h => by
    obtain ⟨hp, g, d, tk, os⟩ := s; obtain ⟨hl, hb, h⟩ := h
    have f2 := AutoSeq1.sub_tuple_tuple
    have z1 : items.size = ns.length := by rw [← hi.length]; simp
    have z2 : items2.size = ms.length := by rw [← hj.length]; simp
    wp_walk using wpAny_loadPart' hl, wpAny_loadPart' hb, wpAny_forIn_list _ (fun rest b s' => b.1 = none ∧ s' = ⟨hp, g, d, tk, os⟩ ∧ ∃ (vs ws : List Value) (ns' ms' : List Int), rest = vs.zip ws ∧
      IntsAre vs ns' ∧ IntsAre ws ms' ∧ ns'.length + items2.size = ms'.length + items.size ∧ R (.ok (.ret (.bool (lexLe ns' ms')))) ⟨hp, g, d, tk, os⟩) _
    case turn =>
      rintro ⟨y, x⟩ rest b s' ⟨hb', rfl, vs, ws, ns', ms', hz, hvi, hwi, hlen, hR⟩
      cases hvi with
      | nil => rw [List.zip_nil_left] at hz; cases hz
      | cons a t hvi' =>
        cases hwi with
        | nil => rw [List.zip_nil_right] at hz; cases hz
        | cons c u hwi' =>
          rw [List.zip_cons_cons] at hz
          injection hz with hyx hrest
          injection hyx with hy hx
          subst hy hx
          rw [zoc] at hR
          simp only [List.length_cons] at hlen
          obtain ⟨e, he, hiff⟩ := zp1 A.in1 ⟨hp, g, d, tk, os⟩ a t c u
          refine wpAny_bind (he prog w _ _ ?_)
          cases e with
          | true =>
            rw [if_pos (hiff.mp rfl)] at hR
            wp_walk
            exact ⟨rfl, rfl, _, _, _, _, hrest, hvi', hwi', by omega, hR⟩
          | false =>
            rw [if_neg (fun q => absurd (hiff.mpr q) Bool.false_ne_true)] at hR
            have hri := zpP A.in1 ⟨hp, g, d, tk, os⟩ a t c u prog w
            wp_walk using hri
            exact ⟨_, rfl, by simpa using hR⟩
    case fin =>
      rintro ⟨b1, b2⟩ s' ⟨hb', rfl, vs, ws, ns', ms', hz, hvi, hwi, hlen, hR⟩
      simp only at hb'
      subst hb'
      have hv : lexLe ns' ms' = decide (items.size ≤ items2.size) := by
        cases hvi with
        | nil =>
          simp only [List.length_nil] at hlen
          show true = _
          exact (decide_eq_true (by omega)).symm
        | cons a t hv =>
          cases hwi with
          | nil =>
            simp only [List.length_nil, List.length_cons] at hlen
            show false = _
            exact (decide_eq_false (by omega)).symm
          | cons c u hw =>
            rw [List.zip_cons_cons] at hz
            cases hz
      rw [hv] at hR
      wp_walk
      exact ⟨_, rfl, by simpa [Builtin.Tuple.tupleCompareSizes] using hR⟩
    case h =>
      exact ⟨rfl, rfl, items.toList, items2.toList, ns, ms, rfl, hi, hj, by omega, h⟩
end
section
variable {prog : Program} {w : World} {A : Around} {E : Value → Shared → Prop} {s : Shared}
theorem le_tupInts {l b : Addr} {items items2 : Array Value} {ns ms : List Int} {Q : Value → Shared → Prop} (hl : IsTup s.heap l items) (hb : IsTup s.heap b items2) (hi : IntsAre items.toList ns) (hj : IntsAre items2.toList ms)
    (hu : A.units < cLine) (h : Q (.bool (lexLe ns ms)) s) : wpAny (model prog w) A (compareOp .LtE (.ref l) (.ref b)) Q E s := by
  obtain ⟨⟨cls, dd, data, sl⟩, ho, hc, n, hd⟩ := id hl
  obtain ⟨⟨cls2, dd2, data2, sl2⟩, ho2, hc2, n2, hd2⟩ := id hb
  simp only at hc hd hc2 hd2
  subst hc hd hc2 hd2
  exact richCompare_meets_room (op := .LtE) ⟨_, ho, rfl⟩ ⟨_, ho2, rfl⟩ PySem.F.slot_tuple_le PySem.F.entry_tuple_le (PySem.F.args_tuple_le_2 _ _) (zdc l b items items2 n n2 dd dd2 sl sl2 ns ms hi hj)
    ⟨ho, ho2, show Value.bool (lexLe ns ms) ≠ Value.notImplemented ∧ Q (.bool (lexLe ns ms)) s from ⟨(fun x => nomatch x), h⟩⟩ hu
end
end HT
namespace L2
open PySem PySem.Spec PyProof.Rows
noncomputable def rLeT (K : PySem.W.Frag) : R2 := fun x y H Q => ∃ a b ns ms, x = .ref a ∧ y = .ref b ∧ SqT K H a (ns.map V.int) ∧ SqT K H b (ms.map V.int) ∧ Q (.bl (HT.lexLe ns ms)) H
theorem zsJ {X : Cx} (hu : X.A.units < cLine) : OpR X (compareOp .LtE) (rLeT X.K) := by
  intro pins s σ H x y v u Q I rx ry h
  obtain ⟨a, b, ns, ms, rfl, rfl, ha, hb, q⟩ := h
  cases rx
  cases ry
  obtain ⟨its, r1, p1, _⟩ := I.tuple ha
  obtain ⟨its2, r2, p2, _⟩ := I.tuple hb
  have i1 : IntsAre its.toArray.toList ns := zcL r1
  have i2 : IntsAre its2.toArray.toList ms := zcL r2
  exact HT.le_tupInts p1 p2 i1 i2 hu ⟨.bl (HT.lexLe ns ms), H, I, rfl, q⟩
end L2
namespace HT
open PySem PyProof.Rows
section
variable {prog : Program} {w : World} {A : Around} {E : Value → Shared → Prop} {s : Shared}
theorem own_getItem_whole {t sl : Addr} {items : Array Value} {vl vu : Value} {lo hi : Option Int} {Q : Value → Shared → Prop} (ht : IsTup s.heap t items) (hs : s.heap.IsSliceOf sl vl vu .none) (pl : IsPart vl lo) (pu : IsPart vu hi)
    (hw : sIx items.size 0 lo = 0 ∧ sIx items.size items.size hi = items.size) (h : Q (.ref t) s) : wpAny (model prog w) A (getItem (.ref t) (.ref sl)) Q E s := by
  obtain ⟨os, hos, hcs, hds⟩ := id hs
  have hTs : s.TypeIs (.ref sl) "slice" := ⟨os, hos, hcs⟩
  unfold getItem
  try with_reducible refine wpAny_holding ?_
  first | refine wpAny_bind (wpAny_pure ?_) | skip
  refine wpAny_bind (wpAny_sequenceKey ht.typeIs (by decide) ?_)
  refine wpAny_bind (wpAny_callSpecial?_slot (name := Str.ofString "__getitem__") ht.typeIs PyProof.Rows.slot_tuple_getitem
    (wpAny_call_entry PyProof.Rows.slot_tuple_getitem ht.typeIs entry_tuple_getitem ?_ (args_tuple_getitem _ _)))
  show wpAny _ _ (Builtin.Tuple.tupleItemsOf (.ref t) >>= _) _ _ s
  refine wpAny_bind (tupleItemsOf_ ht ?_)
  refine wpAny_bind (wpAny_typeOf hTs ?_)
  rw [if_pos (by decide)]
  refine wpAny_bind (XM hs pl pu ?_)
  have hyes : (((sIx items.size 0 lo : Nat) : Int) == 0 && (1 : Int) == 1 && (sIx items.size items.size hi - sIx items.size 0 lo) == items.size) = true := by
    rw [hw.1, hw.2]
    simp
  show wpAny _ _ (if (((sIx items.size 0 lo : Nat) : Int) == 0 && (1 : Int) == 1 && (sIx items.size items.size hi - sIx items.size 0 lo) == items.size) = true then _ else _) _ _ s
  rw [if_pos hyes]
  refine wpAny_bind (m := Builtin.Tuple.tupleIsExact (.ref t)) ?_
  unfold Builtin.Tuple.tupleIsExact
  refine wpAny_bind (wpAny_typeOf ht.typeIs (wpAny_pure ?_))
  rw [if_pos (by decide)]
  refine wpAny_bind (wpAny_rule ?_)
  first
    | exact wpAny_pure ⟨_, rfl, wpAny_pure h⟩
    | exact wpAny_bind (wpAny_pure (wpAny_pure ⟨_, rfl, wpAny_pure h⟩))
end
end HT
namespace L2
open PySem PySem.Spec PyProof.Rows
end L2
namespace PySem
open Sem (wp)
theorem xj {prog : Program} {w : World} {A : Around} {it a : Addr} {fp : List Addr} {n k : Nat} {P : Nat → Value → Prop} {St : Nat → Heap → Prop} (D : Draws prog w A it fp n P St) {h h' : Heap} (st : St k h) (sb : Heap.SameBut a h h') (na : a ∉ fp) : St k h' :=
  D.frame _ _ _ st fun b hb o e => (sb.2 b fun z => na (z ▸ hb)).trans e
set_option genInjectivity false in
set_option genSizeOf false in
set_option genCtorIdx false in
structure zqb (z TI TO i1 i2 : Addr) (fp1 fp2 : List Addr) : Prop where
  nd : [z, TI, TO, i1, i2].Nodup
  z1 : z ∉ fp1
  z2 : z ∉ fp2
  o1 : TO ∉ fp1
  o2 : TO ∉ fp2
  i12 : i1 ∉ fp2
  i21 : i2 ∉ fp1
section
variable {prog : Program} {w : World} {A : Around} {E : Value → Shared → Prop} {s : Shared} {z TI TO i1 i2 : Addr} {fp1 fp2 : List Addr} {n1 n2 k1 k2 : Nat} {P1 P2 : Nat → Value → Prop} {St1 St2 : Nat → Heap → Prop} {a b : Value}
theorem zkr {Q : Value → Shared → Prop} (D1 : Draws prog w A i1 fp1 n1 P1 St1) (D2 : Draws prog w A i2 fp2 n2 P2 St2) (ap : zqb z TI TO i1 i2 fp1 fp2)
    (hz : IsZip s.heap z TI TO .none) (hTI : IsPair s.heap TI (.ref i1) (.ref i2)) (hTO : IsPair s.heap TO a b) (h1 : St1 k1 s.heap) (h2 : St2 k2 s.heap) (l1 : k1 < n1) (l2 : k2 < n2)
    (hQ : ∀ x y h' tk, P1 k1 x → P2 k2 y → IsZip h' z TI TO (rawInt s.heap.objs.size) → IsPair h' TO x y → St1 (k1 + 1) h' → St2 (k2 + 1) h' → IsPair h' s.heap.objs.size x y →
      (∀ c o, c ∉ [z, TO, i1, i2] → s.heap.get? c = some o → h'.get? c = some o) → Q (.ref s.heap.objs.size) { s with heap := h', toks := tk }) :
    wpAny (model prog w) A (Builtin.«zip.__next__» ⟨[.ref z], []⟩) (fun fin s' => ∃ v, fin = .done (.ret v) ∧ Q v s') E s := by
  obtain ⟨nd, az1, az2, ao1, ao2, a12, a21⟩ := ap
  simp only [List.nodup_cons, List.mem_cons, List.not_mem_nil, or_false, not_or, not_false_eq_true, List.nodup_nil, and_true] at nd
  obtain ⟨⟨n1', n2', n3', n4'⟩, ⟨n5, n6, n7⟩, ⟨n8, n9⟩, n10⟩ := nd
  show wpAny _ _ (field (.ref z) 2 >>= _) _ _ _
  refine wpAny_bind (wpAny_field hz rfl (x := .bool false) rfl ?_)
  show wpAny _ _ (field (.ref z) 3 >>= _) _ _ _
  refine wpAny_bind (wpAny_field hz rfl (x := .ref TI) rfl (wpAny_bind (wpAny_seqItems hTI rfl ?_)))
  show wpAny _ _ (Builtin.SmallTypes.ownedTupleIsFree (.ref z) >>= _) _ _ _
  refine wpAny_bind ?_
  unfold Builtin.SmallTypes.ownedTupleIsFree
  refine wpAny_bind (wpAny_field hz rfl (x := .none) rfl (wpAny_pure ?_))
  simp only [if_true]
  refine wpAny_bind (wpAny_rule (wpAny_bind (wpAny_field hz rfl (x := .ref TO) rfl (wpAny_bind (wpAny_setField_rec hz (by simp) fun g1 z1 b1 => ?_)))))
  refine wpAny_bind ?_
  simp only [List.zipIdx_cons, List.zipIdx_nil, List.forIn_cons, List.forIn_nil]
  refine wpAny_bind (wpAny_bind (wpAny_onRaise ?_))
  show wpAny _ _ (Builtin.SmallTypes.nextOf (.ref i1) >>= _) _ _ _
  refine wpAny_bind (D1.item k1 _ _ _ l1 (xj D1 h1 b1 az1) fun x g2 tk2 px st2 b2 => wpAny_pure ?_)
  have o2 : IsPair g2 TO a b := (b2.2 TO n8).trans ((b1.2 TO (Ne.symm n2')).trans hTO)
  refine wpAny_bind (wpAny_seqItems o2 rfl (wpAny_bind (wpAny_updateSeq_pair o2 fun g3 o3 b3 => ?_)))
  refine wpAny_bind (wpAny_letGo (wpAny_pure ?_))
  refine wpAny_bind (wpAny_bind (wpAny_onRaise ?_))
  show wpAny _ _ (Builtin.SmallTypes.nextOf (.ref i2) >>= _) _ _ _
  have s23 : St2 k2 g3 := xj D2 (xj D2 (xj D2 h2 b1 az2) b2 a12) b3 ao2
  refine wpAny_bind (D2.item k2 _ _ _ l2 s23 fun y g4 tk4 py st4 b4 => wpAny_pure ?_)
  have o4 : IsPair g4 TO x b := (b4.2 TO n9).trans o3
  refine wpAny_bind (wpAny_seqItems o4 rfl (wpAny_bind (wpAny_updateSeq_pair o4 fun g5 o5 b5 => ?_)))
  replace o5 : IsPair g5 TO x y := o5
  refine wpAny_bind (wpAny_letGo (wpAny_pure (wpAny_pure ?_)))
  refine wpAny_bind (wpAny_seqItems o5 rfl ?_)
  show wpAny _ _ (newTuple [x, y] >>= _) _ _ _
  refine wpAny_bind (wpAny_newTuple ?_)
  have hsz : g5.objs.size = s.heap.objs.size := by rw [b5.1, b4.1, b3.1, b2.1, b1.1]
  have z5 : IsZip g5 z TI TO .ellipsis := (b5.2 z n2').trans ((b4.2 z n4').trans ((b3.2 z n2').trans ((b2.2 z n3').trans z1)))
  have zlt : z < g5.objs.size := Heap.lt_size z5
  show wpAny _ _ (Builtin.SmallTypes.ownedTupleHandOut (.ref z) (.ref g5.objs.size) >>= _) _ _ _
  refine wpAny_bind ?_
  unfold Builtin.SmallTypes.ownedTupleHandOut
  have z6 : IsZip (g5.push { cls := .type "tuple", data := .seq #[x, y] }) z TI TO .ellipsis := Heap.get?_push_of_some _ z5
  refine wpAny_bind (wpAny_setField_rec z6 (by simp) fun g7 z7 b7 => ?_)
  refine wpAny_setField_rec z7 (by simp) fun g8 z8 b8 => ?_
  have up : ∀ c o, c ≠ z → g5.get? c = some o → g8.get? c = some o := fun c o n e => (b8.2 c n).trans ((b7.2 c n).trans (Heap.get?_push_of_some _ e))
  have t8 : IsPair g8 g5.objs.size x y := (b8.2 _ (Nat.ne_of_gt zlt)).trans ((b7.2 _ (Nat.ne_of_gt zlt)).trans (Heap.get?_push_size _ rfl))
  have e8 : IsZip g8 z TI TO (rawInt g5.objs.size) := z8
  rw [hsz] at e8 t8
  refine wpAny_pure ⟨_, rfl, ?_⟩
  show Q (.ref g5.objs.size) _
  rw [hsz]
  have f1 : St1 (k1 + 1) g5 := xj D1 (xj D1 (xj D1 st2 b3 ao1) b4 a21) b5 ao1
  have f2 : St2 (k2 + 1) g5 := xj D2 st4 b5 ao2
  refine hQ x y g8 _ px py e8 (up _ _ (Ne.symm n2') o5) (D1.frame _ _ _ f1 fun c hc o e => up c o (fun q => az1 (q ▸ hc)) e) (D2.frame _ _ _ f2 fun c hc o e => up c o (fun q => az2 (q ▸ hc)) e) t8 fun c o hc e => ?_
  simp only [List.mem_cons, List.not_mem_nil, or_false, not_or] at hc
  obtain ⟨c1, c2, c3, c4⟩ := hc
  exact up c o c1 ((b5.2 c c2).trans ((b4.2 c c4).trans ((b3.2 c c2).trans ((b2.2 c c3).trans ((b1.2 c c1).trans e)))))
theorem zmn {Q : Fin → Shared → Prop} (D1 : Draws prog w A i1 fp1 n1 P1 St1) (az1 : z ∉ fp1) (nz : i1 ≠ z)
    (hz : IsZip s.heap z TI TO .none) (hTI : IsPair s.heap TI (.ref i1) (.ref i2)) (h1 : St1 n1 s.heap)
    (hE : ∀ h' e, (∀ c o, c ≠ z → c ≠ i1 → s.heap.get? c = some o → h'.get? c = some o) → (∃ o, h'.get? e = some o ∧ o.cls = .type "StopIteration") → E (.ref e) { s with heap := h' }) :
    wpAny (model prog w) A (Builtin.«zip.__next__» ⟨[.ref z], []⟩) Q E s := by
  show wpAny _ _ (field (.ref z) 2 >>= _) _ _ _
  refine wpAny_bind (wpAny_field hz rfl (x := .bool false) rfl ?_)
  show wpAny _ _ (field (.ref z) 3 >>= _) _ _ _
  refine wpAny_bind (wpAny_field hz rfl (x := .ref TI) rfl (wpAny_bind (wpAny_seqItems hTI rfl ?_)))
  show wpAny _ _ (Builtin.SmallTypes.ownedTupleIsFree (.ref z) >>= _) _ _ _
  refine wpAny_bind ?_
  unfold Builtin.SmallTypes.ownedTupleIsFree
  refine wpAny_bind (wpAny_field hz rfl (x := .none) rfl (wpAny_pure ?_))
  simp only [if_true]
  refine wpAny_bind (wpAny_rule (wpAny_bind (wpAny_field hz rfl (x := .ref TO) rfl (wpAny_bind (wpAny_setField_rec hz (by simp) fun g1 z1 b1 => ?_)))))
  refine wpAny_bind ?_
  simp only [List.zipIdx_cons, List.zipIdx_nil, List.forIn_cons, List.forIn_nil]
  refine wpAny_bind (wpAny_bind (wpAny_onRaise ?_))
  show wpAny _ _ (Builtin.SmallTypes.nextOf (.ref i1) >>= _) _ _ _
  refine wpAny_bind (D1.done _ _ _ (xj D1 h1 b1 az1) fun g2 e b2 he => ?_)
  obtain ⟨oe, hoe, hce⟩ := he
  have z2 : IsZip g2 z TI TO .ellipsis := b2 _ _ (Ne.symm nz) z1
  have nez : e ≠ z := fun q => by subst q; rw [z2] at hoe; cases hoe; simp at hce
  exact wpAny_setField_rec z2 (by simp) fun g3 _ b3 => hE g3 e (fun c o c1 c2 q => (b3.2 c c1).trans (b2 c o c2 ((b1.2 c c1).trans q))) ⟨oe, (b3.2 e nez).trans hoe, hce⟩
end
noncomputable def zet (b : Bool) (h : Heap) (it l : Addr) (k : Nat) : Prop := if b = true then h.IsListIter it l k else h.IsTupleIter it l k
noncomputable def zn5 (b : Bool) (h : Heap) (l : Addr) (items : Array Value) : Prop := if b = true then h.IsList l items else h.IsTuple l items
theorem zbY {prog : Program} {w : World} {A : Around} (hh : A.handled = none) (b : Bool) (it l : Addr) (hne : l ≠ it) (items : Array Value) :
    Draws prog w A it [it, l] items.size (fun i v => items[i]? = some v) (fun i h => zet b h it l i ∧ zn5 b h l items) := by
  cases b with
  | true => exact Draws.list hh it l hne items
  | false => exact XU hh it l hne items
noncomputable def zoT (b : Bool) (l : Addr) : Obj := { cls := .type (if b = true then "list_iterator" else "tuple_iterator"), data := .fields #[.ref l, .int 0 0] }
noncomputable abbrev zpA (h : Heap) (b1 : Bool) (l1 : Addr) : Heap := h.push (zoT b1 l1)
noncomputable abbrev zpB (h : Heap) (b1 b2 : Bool) (l1 l2 : Addr) : Heap := (zpA h b1 l1).push (zoT b2 l2)
noncomputable abbrev zpC (h : Heap) (b1 b2 : Bool) (l1 l2 : Addr) : Heap := (zpB h b1 b2 l1 l2).push (Obj.mk (.type "tuple") none (.seq #[.ref h.objs.size, .ref (zpA h b1 l1).objs.size]) #[])
noncomputable abbrev zpD (h : Heap) (b1 b2 : Bool) (l1 l2 : Addr) : Heap := (zpC h b1 b2 l1 l2).push (Obj.mk (.type "tuple") none (.seq #[.none, .none]) #[])
noncomputable abbrev zpE (h : Heap) (b1 b2 : Bool) (l1 l2 : Addr) : Heap := (zpD h b1 b2 l1 l2).push (Obj.mk (.type "zip") none (.fields #[.none, .bool false, .bool false, .ref (zpB h b1 b2 l1 l2).objs.size, .ref (zpC h b1 b2 l1 l2).objs.size]) #[])
theorem zlE (b1 b2 : Bool) (l1 l2 : Addr) (xs ys : Array Value) :
    Meets (Builtin.«zip.__new__» ⟨[.type "zip", .ref l1, .ref l2], []⟩) (fun _ R s => zn5 b1 s.heap l1 xs ∧ zn5 b2 s.heap l2 ys ∧
      R (.ok (.ret (.ref (zpD s.heap b1 b2 l1 l2).objs.size))) { s with heap := zpE s.heap b1 b2 l1 l2 }) :=
  .of_wp fun prog w A R s h => by
    obtain ⟨hp, g, d, tk, os⟩ := s; obtain ⟨hl1, hl2, h⟩ := h
    have hsub := sub_zip
    cases b1 with
    | true =>
      have hL1 : Heap.IsList (Shared.heap ⟨hp, g, d, tk, os⟩) l1 xs := hl1
      cases b2 with
      | true =>
        have hL2 : Heap.IsList (Shared.heap ⟨hp.push { cls := .type "list_iterator", data := .fields #[.ref l1, .int 0 0] }, g, d, tk, os⟩) l2 ys := Heap.IsList.push hl2 _
        wp_walk using wpAny_pyIter_list hL1, wpAny_pyIter_list hL2
        exact ⟨_, rfl, h⟩
      | false =>
        have hL2 : Heap.IsTuple (Shared.heap ⟨hp.push { cls := .type "list_iterator", data := .fields #[.ref l1, .int 0 0] }, g, d, tk, os⟩) l2 ys := Heap.IsTuple.push hl2 _
        wp_walk using wpAny_pyIter_list hL1, wpAny_pyIter_tuple hL2
        exact ⟨_, rfl, h⟩
    | false =>
      have hL1 : Heap.IsTuple (Shared.heap ⟨hp, g, d, tk, os⟩) l1 xs := hl1
      cases b2 with
      | true =>
        have hL2 : Heap.IsList (Shared.heap ⟨hp.push { cls := .type "tuple_iterator", data := .fields #[.ref l1, .int 0 0] }, g, d, tk, os⟩) l2 ys := Heap.IsList.push hl2 _
        wp_walk using wpAny_pyIter_tuple hL1, wpAny_pyIter_list hL2
        exact ⟨_, rfl, h⟩
      | false =>
        have hL2 : Heap.IsTuple (Shared.heap ⟨hp.push { cls := .type "tuple_iterator", data := .fields #[.ref l1, .int 0 0] }, g, d, tk, os⟩) l2 ys := Heap.IsTuple.push hl2 _
        wp_walk using wpAny_pyIter_tuple hL1, wpAny_pyIter_tuple hL2
        exact ⟨_, rfl, h⟩
end PySem
namespace PySem
section
variable {prog : Program} {w : World} {A : Around} {E : Value → Shared → Prop} {s : Shared}
theorem zkE {b1 b2 : Bool} {l1 l2 : Addr} {xs ys : Array Value} {Q : Value → Shared → Prop} (hl1 : zn5 b1 s.heap l1 xs) (hl2 : zn5 b2 s.heap l2 ys)
    (h : ∀ h', IsZip h' (s.heap.objs.size + 4) (s.heap.objs.size + 2) (s.heap.objs.size + 3) .none → IsPair h' (s.heap.objs.size + 2) (.ref s.heap.objs.size) (.ref (s.heap.objs.size + 1)) →
      IsPair h' (s.heap.objs.size + 3) .none .none → zet b1 h' s.heap.objs.size l1 0 → zet b2 h' (s.heap.objs.size + 1) l2 0 →
      (∀ c o, s.heap.get? c = some o → h'.get? c = some o) → Q (.ref (s.heap.objs.size + 4)) { s with heap := h' }) :
    wpAny (model prog w) A (call (.type "zip") [.ref l1, .ref l2]) Q E s := by
  refine callType_new F.called_zip (by decide) (F.typeCall_zip_2 _ _) (F.newCall_zip_2 _ _) (fun obj => F.args_object_init_3 obj _ _) F.entry_zip_new
    (zlE b1 b2 l1 l2 xs ys) ⟨hl1, hl2, ?_⟩
  have z1 : (zpA s.heap b1 l1).objs.size = s.heap.objs.size + 1 := Heap.size_push ..
  have z2 : (zpB s.heap b1 b2 l1 l2).objs.size = s.heap.objs.size + 2 := by rw [Heap.size_push, z1]
  have z3 : (zpC s.heap b1 b2 l1 l2).objs.size = s.heap.objs.size + 3 := by rw [Heap.size_push, z2]
  have z4 : (zpD s.heap b1 b2 l1 l2).objs.size = s.heap.objs.size + 4 := by rw [Heap.size_push, z3]
  have g5 : (zpE s.heap b1 b2 l1 l2).get? (zpD s.heap b1 b2 l1 l2).objs.size = some _ := Heap.get?_push_size _ rfl
  have g4 : (zpE s.heap b1 b2 l1 l2).get? (zpC s.heap b1 b2 l1 l2).objs.size = some _ := Heap.get?_push_of_some _ (Heap.get?_push_size _ rfl)
  have g3 : (zpE s.heap b1 b2 l1 l2).get? (zpB s.heap b1 b2 l1 l2).objs.size = some _ := Heap.get?_push_of_some _ (Heap.get?_push_of_some _ (Heap.get?_push_size _ rfl))
  have g2 : (zpE s.heap b1 b2 l1 l2).get? (zpA s.heap b1 l1).objs.size = some (zoT b2 l2) := Heap.get?_push_of_some _ (Heap.get?_push_of_some _ (Heap.get?_push_of_some _ (Heap.get?_push_size _ rfl)))
  have g1 : (zpE s.heap b1 b2 l1 l2).get? s.heap.objs.size = some (zoT b1 l1) := Heap.get?_push_of_some _ (Heap.get?_push_of_some _ (Heap.get?_push_of_some _ (Heap.get?_push_of_some _ (Heap.get?_push_size _ rfl))))
  show _ ∧ _
  rw [z2, z3, z4] at g5
  rw [z1, z2] at g3
  rw [z3] at g4
  rw [z1] at g2
  rw [z4]
  have it0 : ∀ {b : Bool} {l c : Addr}, (zpE s.heap b1 b2 l1 l2).get? c = some (zoT b l) → zet b (zpE s.heap b1 b2 l1 l2) c l 0 := fun {b l c} e => by
    cases b
    · exact ⟨_, e, rfl, rfl⟩
    · exact ⟨_, e, rfl, rfl⟩
  exact ⟨⟨_, g5, rfl⟩, h _ g5 g3 g4 (it0 g1) (it0 g2) fun c o x =>
    Heap.get?_push_of_some _ (Heap.get?_push_of_some _ (Heap.get?_push_of_some _ (Heap.get?_push_of_some _ (Heap.get?_push_of_some _ x))))⟩
variable {z TI TO i1 i2 : Addr} {fp1 fp2 : List Addr} {n1 n2 k1 k2 : Nat} {P1 P2 : Nat → Value → Prop} {St1 St2 : Nat → Heap → Prop} {a b : Value}
theorem VL {Q : Option Value → Shared → Prop} (D1 : Draws prog w A.in1 i1 fp1 n1 P1 St1) (D2 : Draws prog w A.in1 i2 fp2 n2 P2 St2) (ap : zqb z TI TO i1 i2 fp1 fp2)
    (hz : IsZip s.heap z TI TO .none) (hTI : IsPair s.heap TI (.ref i1) (.ref i2)) (hTO : IsPair s.heap TO a b) (h1 : St1 k1 s.heap) (h2 : St2 k2 s.heap) (l1 : k1 < n1) (l2 : k2 < n2)
    (hQ : ∀ x y h' tk, P1 k1 x → P2 k2 y → IsZip h' z TI TO (rawInt s.heap.objs.size) → IsPair h' TO x y → St1 (k1 + 1) h' → St2 (k2 + 1) h' → IsPair h' s.heap.objs.size x y →
      (∀ c o, c ∉ [z, TO, i1, i2] → s.heap.get? c = some o → h'.get? c = some o) → Q (some (.ref s.heap.objs.size)) { s with heap := h', toks := tk }) :
    wpAny (model prog w) A (pyNext (.ref z)) Q E s := by
  have hT : s.TypeIs (.ref z) "zip" := ⟨_, hz, rfl⟩
  unfold pyNext
  exact wpAny_bind (wpAny_attempt (wpAny_callSpecial?_slot (name := Str.ofString "__next__") hT F.slot_zip_next
    (wpAny_call_entry F.slot_zip_next hT F.entry_zip_next
      (zkr D1 D2 ap hz hTI hTO h1 h2 l1 l2 fun x y h' tk a1 a2 a3 a4 a5 a6 a7 a8 => wpAny_pure (hQ x y h' tk a1 a2 a3 a4 a5 a6 a7 a8)) (F.args_zip_next_1 _))))
theorem zaY {Q : Option Value → Shared → Prop} (D1 : Draws prog w A.in1 i1 fp1 n1 P1 St1) (az1 : z ∉ fp1) (nz : i1 ≠ z)
    (hz : IsZip s.heap z TI TO .none) (hTI : IsPair s.heap TI (.ref i1) (.ref i2)) (h1 : St1 n1 s.heap)
    (hQ : ∀ h', (∀ c o, c ≠ z → c ≠ i1 → s.heap.get? c = some o → h'.get? c = some o) → Q none { s with heap := h' }) : wpAny (model prog w) A (pyNext (.ref z)) Q E s := by
  have hT : s.TypeIs (.ref z) "zip" := ⟨_, hz, rfl⟩
  unfold pyNext
  refine wpAny_bind (wpAny_attempt (wpAny_callSpecial?_slot (name := Str.ofString "__next__") hT F.slot_zip_next
    (wpAny_call_entry F.slot_zip_next hT F.entry_zip_next (zmn D1 az1 nz hz hTI h1 fun h' e hk he => ?_) (F.args_zip_next_1 _))))
  obtain ⟨o, ho, hc⟩ := he
  refine wpAny_bind (wpAny_isInstance (T := "StopIteration") (b := true) ⟨o, ho, hc⟩ isSubtype_stop ?_)
  exact wpAny_pure (hQ _ hk)
end
end PySem
namespace L2
open PySem PySem.Spec PyProof.Rows
noncomputable def Sq (b : Bool) (K : PySem.W.Frag) (H : Hp) (a : Addr) (xs : List V) : Prop := if b = true then SqL K H a xs else SqT K H a xs
theorem Inv.sq {X : Cx} {pins : List (Addr × Obj)} {σ : St} {H : Hp} {s : Shared} {a : Addr} {xs : List V} {b : Bool} (I : Inv X pins σ H s) (h : Sq b X.K H a xs) : ∃ its : List Value, yG xs its ∧ zn5 b s.heap a its.toArray ∧ a < s.heap.objs.size := by
  cases b with
  | true =>
    obtain ⟨its, r, p, _⟩ := I.list (show SqL X.K H a xs from h)
    exact ⟨its, r, p.isList, by obtain ⟨o, n, ho, _⟩ := p; exact Heap.lt_size ho⟩
  | false =>
    obtain ⟨its, r, p, _⟩ := I.tuple (show SqT X.K H a xs from h)
    exact ⟨its, r, p, by obtain ⟨o, ho, _⟩ := p; exact Heap.lt_size ho⟩
theorem Inv.sq_inj {X : Cx} {pins : List (Addr × Obj)} {σ : St} {H : Hp} {s : Shared} {a : Addr} {xs ys : List V} {b : Bool} (I : Inv X pins σ H s) (h : Sq b X.K H a xs) (h' : Sq b X.K H a ys) : xs = ys := by
  cases b with
  | true => exact I.list_inj h h'
  | false => exact I.tuple_inj h h'
noncomputable def Izp (K : PySem.W.Frag) (b1 b2 : Bool) (l1 l2 : Addr) : It :=
  ⟨fun i H => ∃ xs ys x y, Sq b1 K H l1 xs ∧ Sq b2 K H l2 ys ∧ xs[i]? = some x ∧ ys[i]? = some y,
   fun i H v H' => ∃ T x y, v = .ref T ∧ H T = none ∧ H' = upd H T (.tup [x, y]) ∧ (∀ xs, Sq b1 K H l1 xs → xs[i]? = some x) ∧ (∀ ys, Sq b2 K H l2 ys → ys[i]? = some y),
   fun i H => ∃ xs, Sq b1 K H l1 xs ∧ i = xs.length⟩
theorem V6 {b : Bool} {h : Heap} {it l : Addr} {k : Nat} (x : zet b h it l k) : ∃ o, h.get? it = some o ∧ ∀ v, o.data ≠ .cell v := by
  cases b
  · obtain ⟨o, ho, _, hd⟩ := x
    exact ⟨o, ho, fun v z => by rw [hd] at z; cases z⟩
  · obtain ⟨o, ho, _, hd⟩ := x
    exact ⟨o, ho, fun v z => by rw [hd] at z; cases z⟩
theorem zbS {b : Bool} {h h' : Heap} {it l : Addr} {k : Nat} (x : zet b h it l k) (e : ∀ o, h.get? it = some o → h'.get? it = some o) : zet b h' it l k := by
  cases b
  · obtain ⟨o, ho, r⟩ := x
    exact ⟨o, e o ho, r⟩
  · obtain ⟨o, ho, r⟩ := x
    exact ⟨o, e o ho, r⟩
theorem zqj {P : Program} {w : World} {K : PySem.W.Frag} {es : List Expr} {k : Nat} {tp : Pos} (b1 b2 : Bool) (l1 l2 z TI TO i1 i2 : Addr) (ap : zqb z TI TO i1 i2 [i1, l1] [i2, l2]) (n1 : l1 ≠ i1) (n2 : l2 ≠ i2) :
    zqX P w K (.Tuple es k tp) (Izp K b1 b2 l1 l2) [z, TI, TO, i1, i2] z (fun i h => IsZip h z TI TO .none ∧ IsPair h TI (.ref i1) (.ref i2) ∧ (∃ a b, IsPair h TO a b) ∧ zet b1 h i1 l1 i ∧ zet b2 h i2 l2 i) where
  mem := by simp
  obj := fun i h st b hb => by
    obtain ⟨hz, hTI, ⟨a, c, hTO⟩, h1, h2⟩ := st
    simp only [List.mem_cons, List.not_mem_nil, or_false] at hb
    rcases hb with rfl | rfl | rfl | rfl | rfl
    · exact ⟨_, hz, fun v z => by cases z⟩
    · exact ⟨_, hTI, fun v z => by cases z⟩
    · exact ⟨_, hTO, fun v z => by cases z⟩
    · exact V6 h1
    · exact V6 h2
  keep := fun i h h' st kk => by
    obtain ⟨hz, hTI, ⟨a, c, hTO⟩, h1, h2⟩ := st
    exact ⟨kk z (by simp) _ hz, kk TI (by simp) _ hTI, ⟨a, c, kk TO (by simp) _ hTO⟩, zbS h1 fun o q => kk i1 (by simp) o q, zbS h2 fun o q => kk i2 (by simp) o q⟩
  item := by
    intro X hP hw hK hc i pins s σ H E I hf st hg
    subst hP hw hK
    obtain ⟨hz, hTI, ⟨a, c, hTO⟩, h1, h2⟩ := st
    obtain ⟨xs, ys, x, y, hq1, hq2, hx, hy⟩ := hg
    obtain ⟨its, rv, p, _⟩ := I.sq hq1
    obtain ⟨its2, rv2, p2, _⟩ := I.sq hq2
    obtain ⟨u, hu, ru⟩ := rv.get hx
    obtain ⟨u2, hu2, ru2⟩ := rv2.get hy
    have hl1 : i < its.toArray.size := by simpa using (List.getElem?_eq_some_iff.mp hu).1
    have hl2 : i < its2.toArray.size := by simpa using (List.getElem?_eq_some_iff.mp hu2).1
    have hh : X.A.in1.handled = none := I.ok.hd hc
    refine VL (zbY hh b1 i1 l1 n1 its.toArray) (zbY hh b2 i2 l2 n2 its2.toArray) ap hz hTI hTO ⟨h1, p⟩ ⟨h2, p2⟩ hl1 hl2 fun v1 v2 h' tk e1 e2 hz' hTO' s1 s2 hT' hk => ?_
    have eu : v1 = u := by
      have : its[i]? = some v1 := by simpa using e1
      rw [hu] at this
      exact (Option.some.inj this).symm
    have eu2 : v2 = u2 := by
      have : its2[i]? = some v2 := by simpa using e2
      rw [hu2] at this
      exact (Option.some.inj this).symm
    subst eu eu2
    obtain ⟨nd, az1, az2, ao1, ao2, a12, a21⟩ := ap
    simp only [List.nodup_cons, List.mem_cons, List.not_mem_nil, or_false, not_or, not_false_eq_true, List.nodup_nil, and_true] at nd
    obtain ⟨⟨m1, m2, m3, m4⟩, ⟨m5, m6, m7⟩, ⟨m8, m9⟩, m10⟩ := nd
    refine ⟨_, rfl, wpAny_letOwnedTupleGo_zip hz' fun h2' hz2 hs2 => ?_⟩
    have hfr : H s.heap.objs.size = none := I.hok.fresh (Nat.le_refl _)
    have neZ : s.heap.objs.size ≠ z := Nat.ne_of_gt (Heap.lt_size hz)
    have hT2 : IsPair h2' s.heap.objs.size v1 v2 := (hs2.2 _ neZ).trans hT'
    have hTI' : IsPair h' TI (.ref i1) (.ref i2) := hk TI _ (by simp [Ne.symm m1, m5, m6, m7]) hTI
    have lt : ∀ b ∈ [z, TI, TO, i1, i2], b < s.heap.objs.size := fun b hb => by
      simp only [List.mem_cons, List.not_mem_nil, or_false] at hb
      rcases hb with rfl | rfl | rfl | rfl | rfl
      · exact Heap.lt_size hz
      · exact Heap.lt_size hTI
      · exact Heap.lt_size hTO
      · obtain ⟨o, ho, _⟩ := V6 h1; exact Heap.lt_size ho
      · obtain ⟨o, ho, _⟩ := V6 h2; exact Heap.lt_size ho
    refine ⟨.ref s.heap.objs.size, upd H s.heap.objs.size (.tup [x, y]), ?_, rfl, ⟨_, x, y, rfl, hfr, rfl, fun zs hz => by rw [I.sq_inj hz hq1]; exact hx, fun zs hz => by rw [I.sq_inj hz hq2]; exact hy⟩,
      ⟨hz2, (hs2.2 TI (Ne.symm m1)).trans hTI', ⟨_, _, (hs2.2 TO (Ne.symm m2)).trans hTO'⟩, zbS s1.1 fun o q => (hs2.2 i1 (Ne.symm m3)).trans q, zbS s2.1 fun o q => (hs2.2 i2 (Ne.symm m4)).trans q⟩, fun b hb => ?_⟩
    · refine I.grown (ch := [z, TI, TO, i1, i2]) hf (Nat.le_refl _) (fun b v hb q => ?_) ?_
      · have nb : b ≠ z := fun w => hb (by simp [w])
        refine (hs2.2 b nb).trans (hk b v (fun w => hb ?_) q)
        simp only [List.mem_cons, List.not_mem_nil, or_false] at w ⊢
        rcases w with w | w | w | w
        · exact .inl w
        · exact .inr (.inr (.inl w))
        · exact .inr (.inr (.inr (.inl w)))
        · exact .inr (.inr (.inr (.inr w)))
      · exact ⟨by show 2 ≤ sizeLine; decide, [v1, v2], .cons ru (.cons ru2 .nil), ⟨_, hT2, rfl, 0, rfl⟩⟩
    · rw [zA (Nat.ne_of_lt (lt b hb))]
      exact (hf b hb).1
  done := by
    intro X hP hw hK hc i pins s σ H E I hf st hg
    subst hP hw hK
    obtain ⟨hz, hTI, ⟨a, c, hTO⟩, h1, h2⟩ := st
    obtain ⟨xs, hq, rfl⟩ := hg
    obtain ⟨its, rv, p, _⟩ := I.sq hq
    have hl := rv.length
    have hh : X.A.in1.handled = none := I.ok.hd hc
    have D := zbY (prog := X.prog) (w := X.w) hh b1 i1 l1 n1 its.toArray
    refine zaY D ap.z1 ?_ hz hTI ⟨by rw [List.size_toArray, ← hl]; exact h1, p⟩ fun h' hk => ⟨rfl, I.turnedN (ch := [z, TI, TO, i1, i2]) (t' := s.toks) hf fun b v hb q => hk b v (fun w => hb (by simp [w])) (fun w => hb (by simp [w])) q⟩
    have nd := ap.nd
    simp only [List.nodup_cons, List.mem_cons, List.not_mem_nil, or_false, not_or, not_false_eq_true, List.nodup_nil, and_true] at nd
    exact Ne.symm nd.1.2.2.1
  self := fun _ _ _ _ _ st h => wpAny_pyIter_zip st.1 h
noncomputable def iZip (K : PySem.W.Frag) (ta : TA) : TI := fun σ H R => ta σ H fun vs H1 => ∃ b1 b2 l1 l2 xs ys, vs = [.ref l1, .ref l2] ∧ Sq b1 K H1 l1 xs ∧ Sq b2 K H1 l2 ys ∧ R (Izp K b1 b2 l1 l2) H1
theorem zsQ {X : Cx} {es : List Expr} {k : Nat} {tp : Pos} {a b : Expr} {ta : TA} {p pos : Pos} (hg : Gl X "zip") (hm : X.mg "zip" = none) (hb : bootBuiltins "zip" = some (.type "zip")) (ha : PA X [a, b] ta)
    (hs : starEach [a, b] X.env = [(false, eval a X.env), (false, eval b X.env)] := by rfl) (hs2 : starEach [b] X.env = [(false, eval b X.env)] := by rfl) : PI X (.Tuple es k tp) (.Call (.Name "zip" p) [a, b] [] pos) (iZip X.K ta) := by
  intro pins s σ H R I h
  refine Call_ (Vk I hg hm hb (PyProof.Rows.callWith_type1 (thn (ha pos pins s σ H _ I h) fun us s1 hh9 => ?_) (by rw [hs, hs2]) (by rw [hs2]; rfl)))
  obtain ⟨vs, H1, I1, r1, q1⟩ := hh9
  obtain ⟨b1, b2, l1, l2, xs, ys, e, hq1, hq2, q⟩ := q1
  subst e
  obtain ⟨u, u2, rfl, ru, ru2⟩ := zp8 r1
  cases ru
  cases ru2
  obtain ⟨its, rv, p1, lt1⟩ := I1.sq hq1
  obtain ⟨its2, rv2, p2, lt2⟩ := I1.sq hq2
  refine zkE p1 p2 fun h2 hz hTI hTO hi1 hi2 hk => wpAny_pyIter_zip hz ?_
  have hn : ∀ b, s1.heap.objs.size ≤ b → zne X pins H1 b := fun b hb => I1.fpOk hb (I1.hok.fresh hb)
  have ap : zqb (s1.heap.objs.size + 4) (s1.heap.objs.size + 2) (s1.heap.objs.size + 3) s1.heap.objs.size (s1.heap.objs.size + 1) [s1.heap.objs.size, l1] [s1.heap.objs.size + 1, l2] := by
    have q1 : l1 ≠ s1.heap.objs.size := Nat.ne_of_lt lt1
    have q2 : ∀ j : Nat, s1.heap.objs.size + j ≠ l1 := fun j e => Nat.lt_irrefl _ (Nat.lt_of_lt_of_le (by rw [← e] at lt1; exact lt1) (Nat.le_add_right _ _))
    have q3 : ∀ j : Nat, s1.heap.objs.size + j ≠ l2 := fun j e => Nat.lt_irrefl _ (Nat.lt_of_lt_of_le (by rw [← e] at lt2; exact lt2) (Nat.le_add_right _ _))
    have ne : ∀ i j : Nat, i ≠ j → s1.heap.objs.size + i ≠ s1.heap.objs.size + j := fun i j h e => h (Nat.add_left_cancel e)
    have n0 : ∀ i : Nat, i ≠ 0 → s1.heap.objs.size + i ≠ s1.heap.objs.size := fun i h e => h (Nat.add_left_cancel (n := s1.heap.objs.size) (m := i) (k := 0) e)
    refine ⟨?_, ?_, ?_, ?_, ?_, ?_, ?_⟩
    · simp only [List.nodup_cons, List.mem_cons, List.not_mem_nil, or_false, not_or, not_false_eq_true, List.nodup_nil, and_true]
      exact ⟨⟨ne 4 2 (by decide), ne 4 3 (by decide), n0 4 (by decide), ne 4 1 (by decide)⟩, ⟨ne 2 3 (by decide), n0 2 (by decide), ne 2 1 (by decide)⟩, ⟨n0 3 (by decide), ne 3 1 (by decide)⟩, Ne.symm (n0 1 (by decide))⟩
    · simp only [List.mem_cons, List.not_mem_nil, or_false, not_or]; exact ⟨n0 4 (by decide), q2 4⟩
    · simp only [List.mem_cons, List.not_mem_nil, or_false, not_or]; exact ⟨ne 4 1 (by decide), q3 4⟩
    · simp only [List.mem_cons, List.not_mem_nil, or_false, not_or]; exact ⟨n0 3 (by decide), q2 3⟩
    · simp only [List.mem_cons, List.not_mem_nil, or_false, not_or]; exact ⟨ne 3 1 (by decide), q3 3⟩
    · simp only [List.mem_cons, List.not_mem_nil, or_false, not_or]; exact ⟨Ne.symm (n0 1 (by decide)), q3 0⟩
    · simp only [List.mem_cons, List.not_mem_nil, or_false, not_or]; exact ⟨n0 1 (by decide), q2 1⟩
  refine ⟨_, _, _, _, H1, rfl, I1.kept (t' := s1.toks) hk, zqj b1 b2 l1 l2 _ _ _ _ _ ap (Nat.ne_of_lt lt1) (Nat.ne_of_lt (Nat.lt_succ_of_lt lt2)), ⟨hz, hTI, ⟨_, _, hTO⟩, hi1, hi2⟩, fun b hb => ?_, q⟩
  simp only [List.mem_cons, List.not_mem_nil, or_false] at hb
  rcases hb with rfl | rfl | rfl | rfl | rfl
  · exact hn _ (Nat.le_add_right _ _)
  · exact hn _ (Nat.le_add_right _ _)
  · exact hn _ (Nat.le_add_right _ _)
  · exact hn _ (Nat.le_refl _)
  · exact hn _ (Nat.le_add_right _ _)
end L2
namespace OwnSort
open PySem PyProof.Rows
section pure
variable {κ : KeyKind} {xs : Array Keyed}
theorem turned {n : Nat} (hn : n ≤ xs.size) (h : NonIncK κ xs n) : SortedToK κ (mirror xs 0 n ((n - 0) / 2)) n := fun i j hij hj => by
  rw [KK_mirror hn, KK_mirror hn, if_pos ⟨by omega, by omega⟩, if_pos ⟨by omega, by omega⟩]
  exact h _ _ (by omega) (by omega)
end pure
section
variable {prog : Program} {w : World} {A : Around} {E : Value → Shared → Prop} {s : Shared} {a₀ : Array Keyed} {κ : KeyKind} {k : SortKind} {st : SortSt}
end
end OwnSort
namespace OwnSort
open PySem PyProof.Rows
noncomputable abbrev Pr := Int × Int
noncomputable def ztv (s t : Pr) : Bool := decide (s.1 < t.1 ∨ (s.1 = t.1 ∧ s.2 < t.2))
noncomputable def TP (h : Heap) (v : Value) (t : Pr) : Prop := ∃ a o n tx ty, v = .ref a ∧ h.get? a = some o ∧ o.cls = .type "tuple" ∧ o.data = .seq #[.int t.1 tx, .int t.2 ty] n
open Classical in
noncomputable def keyP (h : Heap) (v : Value) : Option Pr := if x : ∃ t, TP h v t then some x.choose else none
@[reducible] noncomputable def kindP (h : Heap) : KeyKind where
  α := Pr
  blt := ztv
  irrefl a := by unfold ztv; exact decide_eq_false (by omega)
  trans a b c h1 h2 := by unfold ztv at *; rw [decide_eq_true_eq] at *; omega
  negTrans a b c h := by unfold ztv at *; rw [decide_eq_true_eq] at *; rw [decide_eq_true_eq]; omega
  total a b h1 h2 := by
    unfold ztv at *
    rw [decide_eq_false_iff_not] at *
    exact Prod.ext (by omega) (by omega)
  keyOf := keyP h
  dflt := (0, 0)
section
variable {prog : Program} {w : World} {A : Around} {E : Value → Shared → Prop} {s : Shared}
end
end OwnSort
namespace OwnSort
open PySem PyProof.Rows
section
variable {prog : Program} {w : World} {A : Around} {E : Value → Shared → Prop} {s : Shared}
end
end OwnSort
namespace Dl
open PySem L2
class KK where
  K : PySem.W.Frag
inductive D where
  | non | bl (b : Bool) | int (i : Int) | str (x : Str) | tup (ds : List D) | lst (ds : List D) | scr (ns : List Int)
    | dct (z t : Bool) (ks : List (List Key)) (vs : List D)
  deriving Inhabited
section
variable [KK]
noncomputable def zjN (o : HO) (t : Bool) (ks : List (List Key)) (xs : List V) : Prop :=
  if t = true then ∃ kvs, o = .dT kvs ∧ kvs.map (·.1) = ks ∧ kvs.map (·.2) = xs else ∃ kvs : List (Key × V), o = .dK kvs ∧ kvs.map (fun p => [p.1]) = ks ∧ kvs.map (·.2) = xs
noncomputable def zkY (H : Hp) (a : Addr) (z t : Bool) (ks : List (List Key)) (xs : List V) : Prop :=
  ∃ u, zjN u t ks xs ∧ if z = true then ∃ ob, H a = some (.frz ob u) else H a = some u
theorem zkY.mono {H H' : Hp} {a : Addr} {z t : Bool} {ks : List (List Key)} {xs : List V} (s : yW H H') (h : zkY H a z t ks xs) : zkY H' a z t ks xs := by
  obtain ⟨u, h1, h2⟩ := h
  refine ⟨u, h1, ?_⟩
  cases z with
  | true =>
    rw [if_pos rfl] at h2 ⊢
    obtain ⟨ob, h2⟩ := h2
    exact ⟨ob, s _ _ h2⟩
  | false =>
    rw [if_neg Bool.false_ne_true] at h2 ⊢
    exact s _ _ h2
theorem zkY.rd {H : Hp} {a : Addr} {z t : Bool} {ks : List (List Key)} {xs : List V} (h : zkY H a z t ks xs) : ∃ u, zjN u t ks xs ∧ Rd H a u := by
  obtain ⟨u, h1, h2⟩ := h
  refine ⟨u, h1, ?_⟩
  cases z with
  | true =>
    rw [if_pos rfl] at h2
    obtain ⟨ob, h2⟩ := h2
    exact .inr ⟨ob, h2⟩
  | false =>
    rw [if_neg Bool.false_ne_true] at h2
    exact .inl h2
mutual
noncomputable def At (H : Hp) : D → V → Prop
  | .non, v => v = .non
  | .bl b, v => v = .bl b
  | .int i, v => v = .int i
  | .str x, v => v = .str x
  | .tup ds, v => ∃ a xs, v = .ref a ∧ H a = some (.tup xs) ∧ AtL H ds xs
  | .lst ds, v => ∃ a xs, v = .ref a ∧ H a = some (.lst xs) ∧ AtL H ds xs
  | .scr ns, v => ∃ a, v = .ref a ∧ SqL KK.K H a (ns.map V.int)
  | .dct z t ks vs, v => ∃ a xs, v = .ref a ∧ zkY H a z t ks xs ∧ AtL H vs xs
noncomputable def AtL (H : Hp) : List D → List V → Prop
  | [], xs => xs = []
  | d :: ds, xs => ∃ x r, xs = x :: r ∧ At H d x ∧ AtL H ds r
end
mutual
theorem At.mono {H H' : Hp} (s : yW H H') : ∀ {d : D} {v : V}, At H d v → At H' d v
  | .non, _, h => by unfold At at h ⊢; exact h
  | .bl _, _, h => by unfold At at h ⊢; exact h
  | .int _, _, h => by unfold At at h ⊢; exact h
  | .str _, _, h => by unfold At at h ⊢; exact h
  | .tup ds, _, h => by
    unfold At at h ⊢
    obtain ⟨a, xs, e, hx, hl⟩ := h
    exact ⟨a, xs, e, s _ _ hx, AtL.mono s hl⟩
  | .lst ds, _, h => by
    unfold At at h ⊢
    obtain ⟨a, xs, e, hx, hl⟩ := h
    exact ⟨a, xs, e, s _ _ hx, AtL.mono s hl⟩
  | .scr ns, _, h => by
    unfold At at h ⊢
    obtain ⟨a, e, hx⟩ := h
    exact ⟨a, e, s.seq hx⟩
  | .dct z t ks vs, _, h => by
    unfold At at h ⊢
    obtain ⟨a, xs, e, hx, hl⟩ := h
    exact ⟨a, xs, e, hx.mono s, AtL.mono s hl⟩
theorem AtL.mono {H H' : Hp} (s : yW H H') : ∀ {ds : List D} {xs : List V}, AtL H ds xs → AtL H' ds xs
  | [], _, h => by unfold AtL at h ⊢; exact h
  | d :: ds, _, h => by
    unfold AtL at h ⊢
    obtain ⟨x, r, e, h1, h2⟩ := h
    exact ⟨x, r, e, At.mono s h1, AtL.mono s h2⟩
end
mutual
noncomputable def noL : D → Bool
  | .tup ds => zut ds
  | .lst _ => false
  | .scr _ => false
  | .dct _ _ _ _ => false
  | _ => true
noncomputable def zut : List D → Bool
  | [] => true
  | d :: ds => noL d && zut ds
end
mutual
theorem At.flat {G F : Hp} (h : ∀ q xs, G q = some (.tup xs) → F q = some (.tup xs)) : ∀ {d : D} {v : V}, noL d = true → At G d v → At F d v
  | .non, _, _, a => by unfold At at a ⊢; exact a
  | .bl _, _, _, a => by unfold At at a ⊢; exact a
  | .int _, _, _, a => by unfold At at a ⊢; exact a
  | .str _, _, _, a => by unfold At at a ⊢; exact a
  | .tup ds, _, n, a => by
    unfold At at a ⊢
    unfold noL at n
    obtain ⟨p, xs, e, hx, hl⟩ := a
    exact ⟨p, xs, e, h _ _ hx, AtL.flat h n hl⟩
  | .lst ds, _, n, _ => by unfold noL at n; cases n
  | .scr ds, _, n, _ => by unfold noL at n; cases n
  | .dct _ _ _ _, _, n, _ => by unfold noL at n; cases n
theorem AtL.flat {G F : Hp} (h : ∀ q xs, G q = some (.tup xs) → F q = some (.tup xs)) : ∀ {ds : List D} {xs : List V}, zut ds = true → AtL G ds xs → AtL F ds xs
  | [], _, _, a => by unfold AtL at a ⊢; exact a
  | d :: ds, _, n, a => by
    unfold AtL at a ⊢
    unfold zut at n
    rw [Bool.and_eq_true] at n
    obtain ⟨x, r, e, h1, h2⟩ := a
    exact ⟨x, r, e, At.flat h n.1 h1, AtL.flat h n.2 h2⟩
end
section
variable {H H' : Hp} {d : D} {ds es : List D} {v x : V} {xs ys : List V}
theorem At.int {i : Int} : At H (.int i) (.int i) := by unfold At; rfl
theorem At.bl {b : Bool} : At H (.bl b) (.bl b) := by unfold At; rfl
theorem At.non : At H .non .non := by unfold At; rfl
theorem At.str {y : Str} : At H (.str y) (.str y) := by unfold At; rfl
theorem At.tup {a : Addr} (h : H a = some (.tup xs)) (hl : AtL H ds xs) : At H (.tup ds) (.ref a) := by unfold At; exact ⟨a, xs, rfl, h, hl⟩
theorem At.lst {a : Addr} (h : H a = some (.lst xs)) (hl : AtL H ds xs) : At H (.lst ds) (.ref a) := by unfold At; exact ⟨a, xs, rfl, h, hl⟩
theorem AtL.nil : AtL H [] [] := by unfold AtL; rfl
theorem AtL.cons (h : At H d x) (hl : AtL H ds xs) : AtL H (d :: ds) (x :: xs) := by unfold AtL; exact ⟨x, xs, rfl, h, hl⟩
theorem At.int_inv {i : Int} (h : At H (.int i) v) : v = .int i := by unfold At at h; exact h
theorem At.bl_inv {b : Bool} (h : At H (.bl b) v) : v = .bl b := by unfold At at h; exact h
theorem At.non_inv (h : At H .non v) : v = .non := by unfold At at h; exact h
theorem At.str_inv {y : Str} (h : At H (.str y) v) : v = .str y := by unfold At at h; exact h
theorem At.tup_inv (h : At H (.tup ds) v) : ∃ a xs, v = .ref a ∧ H a = some (.tup xs) ∧ AtL H ds xs := by unfold At at h; exact h
theorem At.lst_inv (h : At H (.lst ds) v) : ∃ a xs, v = .ref a ∧ H a = some (.lst xs) ∧ AtL H ds xs := by unfold At at h; exact h
theorem At.scr_inv {ns : List Int} (h : At H (.scr ns) v) : ∃ a, v = .ref a ∧ SqL KK.K H a (ns.map V.int) := by unfold At at h; exact h
theorem At.dct_inv {z t : Bool} {ks : List (List Key)} {vs : List D} (h : At H (.dct z t ks vs) v) : ∃ a xs, v = .ref a ∧ zkY H a z t ks xs ∧ AtL H vs xs := by unfold At at h; exact h
theorem AtL.nil_inv (h : AtL H [] xs) : xs = [] := by unfold AtL at h; exact h
theorem AtL.cons_inv (h : AtL H (d :: ds) xs) : ∃ x r, xs = x :: r ∧ At H d x ∧ AtL H ds r := by unfold AtL at h; exact h
theorem AtL.length : ∀ {ds : List D} {xs : List V}, AtL H ds xs → xs.length = ds.length
  | [], _, h => by rw [h.nil_inv]; rfl
  | _ :: _, _, h => by
    obtain ⟨x, r, rfl, _, h2⟩ := h.cons_inv
    rw [List.length_cons, List.length_cons, AtL.length h2]
theorem AtL.get : ∀ {ds : List D} {xs : List V} {i : Nat} {d : D}, AtL H ds xs → ds[i]? = some d → ∃ x, xs[i]? = some x ∧ At H d x
  | [], _, _, _, _, e => by simp at e
  | _ :: _, _, i, _, h, e => by
    obtain ⟨x, r, rfl, h1, h2⟩ := h.cons_inv
    cases i with
    | zero =>
      simp at e
      subst e
      exact ⟨x, rfl, h1⟩
    | succ i =>
      obtain ⟨y, hy, ha⟩ := AtL.get (i := i) h2 (by simpa using e)
      exact ⟨y, by simpa using hy, ha⟩
theorem AtL.append : ∀ {ds es : List D} {xs ys : List V}, AtL H ds xs → AtL H es ys → AtL H (ds ++ es) (xs ++ ys)
  | [], _, _, _, h, k => by rw [h.nil_inv]; exact k
  | _ :: _, _, _, _, h, k => by
    obtain ⟨x, r, rfl, h1, h2⟩ := h.cons_inv
    exact .cons h1 (AtL.append h2 k)
theorem AtL.snoc (h : AtL H ds xs) (k : At H d v) : AtL H (ds ++ [d]) (xs ++ [v]) := h.append (.cons k .nil)
theorem AtL.take : ∀ (n : Nat) {ds : List D} {xs : List V}, AtL H ds xs → AtL H (ds.take n) (xs.take n)
  | 0, _, _, _ => by simpa using AtL.nil
  | n + 1, [], _, h => by rw [h.nil_inv]; simpa using AtL.nil
  | n + 1, _ :: _, _, h => by
    obtain ⟨x, r, rfl, h1, h2⟩ := h.cons_inv
    rw [List.take_succ_cons, List.take_succ_cons]
    exact .cons h1 (AtL.take n h2)
theorem AtL.drop : ∀ (n : Nat) {ds : List D} {xs : List V}, AtL H ds xs → AtL H (ds.drop n) (xs.drop n)
  | 0, _, _, h => h
  | n + 1, [], _, h => by rw [h.nil_inv]; simpa using AtL.nil
  | n + 1, _ :: _, _, h => by
    obtain ⟨x, r, rfl, h1, h2⟩ := h.cons_inv
    rw [List.drop_succ_cons, List.drop_succ_cons]
    exact AtL.drop n h2
theorem AtL.set : ∀ (n : Nat) {ds : List D} {xs : List V}, AtL H ds xs → At H d v → AtL H (ds.set n d) (xs.set n v)
  | _, [], _, h, _ => by rw [h.nil_inv]; simpa using AtL.nil
  | 0, _ :: _, _, h, k => by
    obtain ⟨x, r, rfl, h1, h2⟩ := h.cons_inv
    exact .cons k h2
  | n + 1, _ :: _, _, h, k => by
    obtain ⟨x, r, rfl, h1, h2⟩ := h.cons_inv
    exact .cons h1 (AtL.set n h2 k)
theorem AtL.rep (h : AtL H ds xs) : ∀ k : Nat, AtL H (List.replicate k ds).flatten (List.replicate k xs).flatten
  | 0 => .nil
  | k + 1 => by
    rw [List.replicate_succ, List.replicate_succ, List.flatten_cons, List.flatten_cons]
    exact h.append (AtL.rep h k)
theorem AtL.ints (ns : List Int) : AtL H (ns.map D.int) (ns.map V.int) := by
  induction ns with
  | nil => exact .nil
  | cons n r ih => exact .cons .int ih
theorem AtL.of_ints : ∀ {ns : List Int} {xs : List V}, AtL H (ns.map D.int) xs → xs = ns.map V.int
  | [], _, h => h.nil_inv
  | n :: r, _, h => by
    obtain ⟨x, r', rfl, h1, h2⟩ := AtL.cons_inv (by simpa using h)
    rw [h1.int_inv, AtL.of_ints h2]
    rfl
end
noncomputable def tyN : D → String
  | .non => "NoneType" | .bl _ => "bool" | .int _ => "int" | .str _ => "str" | .tup _ => "tuple" | .lst _ => "list" | .scr _ => "list" | .dct _ _ _ _ => "dict"
noncomputable def Hid (F' : Hp) (p : Addr) (o : HO) : Prop := F' p = none ∨ ((∃ xs, o = .tup xs) ∧ F' p = some o)
noncomputable def Keep (F H F' H' : Hp) : Prop := ∀ p o, F p = none → H p = some o → Hid F' p o ∧ H' p = some o
set_option genInjectivity false in
set_option genSizeOf false in
set_option genCtorIdx false in
structure Gr (F H F' H' : Hp) : Prop where
  ff : yW F F'
  fh : yW F' H'
  kp : Keep F H F' H'
theorem Gr.refl {F H : Hp} (s : yW F H) : Gr F H F H := ⟨yW.refl _, s, fun _ _ a b => ⟨.inl a, b⟩⟩
theorem Gr.trans {F H F1 H1 F2 H2 : Hp} (a : Gr F H F1 H1) (b : Gr F1 H1 F2 H2) : Gr F H F2 H2 :=
  ⟨a.ff.trans b.ff, b.fh, fun p o e1 e2 => by
    obtain ⟨x, y⟩ := a.kp p o e1 e2
    rcases x with x | ⟨x1, x2⟩
    · exact b.kp p o x y
    · exact ⟨.inr ⟨x1, b.ff _ _ x2⟩, b.fh _ _ (b.ff _ _ x2)⟩⟩
theorem Gr.kl {F H F' H' : Hp} {p : Addr} {o : HO} (g : Gr F H F' H') (n : ∀ xs, o ≠ .tup xs) (e1 : F p = none) (e2 : H p = some o) : F' p = none ∧ H' p = some o := by
  obtain ⟨x, y⟩ := g.kp p o e1 e2
  rcases x with x | ⟨⟨xs, x1⟩, _⟩
  · exact ⟨x, y⟩
  · exact absurd x1 (n xs)
theorem Gr.alloc {F H : Hp} {p : Addr} (s : yW F H) (h : H p = none) (o : HO) : Gr F H (upd F p o) (upd H p o) := by
  have hF : F p = none := s.free h
  refine ⟨fun b u q => ?_, fun b u q => ?_, fun b u q r => ?_⟩
  · rw [zA (zx q hF)]; exact q
  · by_cases e : b = p
    · subst e; rw [zy] at q ⊢; exact q
    · rw [zA e] at q ⊢; exact s b u q
  · have e : b ≠ p := zx r h
    rw [zA e]; exact ⟨.inl (by rw [zA e]; exact q), r⟩
theorem Gr.hide {F H : Hp} {p : Addr} (s : yW F H) (h : H p = none) (o : HO) : Gr F H F (upd H p o) := by
  refine ⟨yW.refl _, fun b u q => ?_, fun b u q r => ?_⟩
  · rw [zA (zx (s b u q) h)]; exact s b u q
  · have e : b ≠ p := zx r h
    rw [zA e]; exact ⟨.inl q, r⟩
theorem Gr.show {F H : Hp} {p : Addr} {o : HO} {F0 H0 : Hp} (g : Gr F0 H0 F H) (h0 : H0 p = none) (hF : F p = none) (h : H p = some o) : Gr F0 H0 (upd F p o) H := by
  refine ⟨fun b u q => ?_, fun b u q => ?_, fun b u q r => ?_⟩
  · have := g.ff b u q
    rw [zA (zx this hF)]; exact this
  · by_cases e : b = p
    · subst e; rw [zy] at q; rw [← q]; exact h
    · rw [zA e] at q; exact g.fh b u q
  · have e : b ≠ p := zx r h0
    obtain ⟨x, y⟩ := g.kp b u q r
    refine ⟨?_, y⟩
    unfold Hid
    rw [zA e]
    exact x
noncomputable abbrev Ev := List (Option D)
noncomputable def VAt (F : Hp) (ρ : Ev) (σ : St) : Prop := ∀ (i : Nat) (d : D), ρ[i]? = some (some d) → ∃ v, σ[i]? = some (some v) ∧ At F d v
theorem VAt.mono {F F' : Hp} {ρ : Ev} {σ : St} (h : VAt F ρ σ) (s : yW F F') : VAt F' ρ σ := fun i d e => let ⟨v, e1, a⟩ := h i d e; ⟨v, e1, a.mono s⟩
noncomputable def RE (t : TE) (f : Ev → Option D) : Prop :=
  ∀ (σ : St) (ρ : Ev) (F H : Hp) (d : D) (Q : VK), yW F H → VAt F ρ σ → f ρ = some d → (∀ F' H' v, Gr F H F' H' → At F' d v → Q v H') → t σ H Q
noncomputable def RT (t : TT) (f : Ev → Option Bool) : Prop :=
  ∀ (σ : St) (ρ : Ev) (F H : Hp) (b : Bool) (Q : Bool → Hp → Prop), yW F H → VAt F ρ σ → f ρ = some b → (∀ F' H', Gr F H F' H' → Q b H') → t σ H Q
noncomputable def RA (t : TA) (f : Ev → Option (List D)) : Prop :=
  ∀ (σ : St) (ρ : Ev) (F H : Hp) (ds : List D) (Q : List V → Hp → Prop), yW F H → VAt F ρ σ → f ρ = some ds → (∀ F' H' vs, Gr F H F' H' → AtL F' ds vs → Q vs H') → t σ H Q
noncomputable def RF (t : TE) (f : Ev → Option (List D)) : Prop :=
  ∀ (σ : St) (ρ : Ev) (F H : Hp) (ds : List D) (Q : VK), yW F H → VAt F ρ σ → f ρ = some ds → (∀ F' H' p xs, Gr F H F' H' → H p = none → F' p = none → H' p = some (.lst xs) → AtL F' ds xs → Q (.ref p) H') → t σ H Q
noncomputable def ED (X : Cx) (e : Expr) (f : Ev → Option D) : Prop := ∃ t, PE X e t ∧ RE t f
noncomputable def TD (X : Cx) (e : Expr) (f : Ev → Option Bool) : Prop := ∃ t, PT X e t ∧ RT t f
noncomputable def WD (X : Cx) (e : Expr) (f : Ev → Option Bool) : Prop := ∃ t, PW X e t ∧ RT t f
noncomputable def AD (X : Cx) (es : List Expr) (f : Ev → Option (List D)) : Prop := ∃ t, PA X es t ∧ RA t f
noncomputable def FL (X : Cx) (e : Expr) (f : Ev → Option (List D)) : Prop := ∃ t, PE X e t ∧ RF t f
section
variable {X : Cx} {a b c : Expr} {pos : Pos}
noncomputable def zbf (f : Ev → Option (List D)) : Ev → Option D := fun ρ => (f ρ).map .lst
theorem XR {f : Ev → Option (List D)} (h : FL X a f) : ED X a (zbf f) := by
  obtain ⟨t, ht, r⟩ := h
  refine ⟨t, ht, fun σ ρ F H d Q s va e q => ?_⟩
  obtain ⟨ds, e1, rfl⟩ := Option.map_eq_some_iff.mp e
  refine r σ ρ F H ds Q s va e1 fun F' H' p xs g h0 hF hH hx => ?_
  have g2 := g.show h0 hF hH
  exact q _ _ _ g2 (At.lst zy (hx.mono (fun b u e => by rw [zA (zx e hF)]; exact e)))
noncomputable def zp (i : Nat) : Ev → Option D := fun ρ => (ρ[i]?).getD none
theorem zd (i : Nat) (h : PE X a (zrk i)) : ED X a (zp i) := by
  refine ⟨_, h, fun σ ρ F H d Q s va e q => ?_⟩
  have e' : ρ[i]? = some (some d) := by
    unfold zp at e
    cases h : ρ[i]? with
    | none => rw [h] at e; cases e
    | some x => rw [h] at e; cases x with
      | none => cases e
      | some y => cases e; rfl
  obtain ⟨v, e1, a1⟩ := va i d e'
  exact ⟨v, e1, q _ _ _ (.refl s) a1⟩
noncomputable def eC (d : D) : Ev → Option D := fun _ => some d
theorem zm {i : Int} (h : PE X a (tC (.int i))) : ED X a (eC (.int i)) := ⟨_, h, fun _ _ _ _ _ _ s _ e q => by cases e; exact q _ _ _ (.refl s) .int⟩
theorem xE {i : Bool} (h : PE X a (tC (.bl i))) : ED X a (eC (.bl i)) := ⟨_, h, fun _ _ _ _ _ _ s _ e q => by cases e; exact q _ _ _ (.refl s) .bl⟩
theorem xz {i : Str} (h : PE X a (tC (.str i))) : ED X a (eC (.str i)) := ⟨_, h, fun _ _ _ _ _ _ s _ e q => by cases e; exact q _ _ _ (.refl s) .str⟩
theorem zcZ (h : PE X a (tC .non)) : ED X a (eC .non) := ⟨_, h, fun _ _ _ _ _ _ s _ e q => by cases e; exact q _ _ _ (.refl s) .non⟩
noncomputable def OpD (r : R2) (g : D → D → Option D) : Prop :=
  ∀ (F H : Hp) (x y : V) (d e z : D) (Q : VK), yW F H → At F d x → At F e y → g d e = some z → (∀ F' H' v, Gr F H F' H' → At F' z v → Q v H') → r x y H Q
noncomputable def zH (g : D → D → Option D) (f h : Ev → Option D) : Ev → Option D := fun ρ => (f ρ).bind fun x => (h ρ).bind fun y => g x y
theorem zp5 {r : R2} {g : D → D → Option D} {ta tb : TE} {f h : Ev → Option D} (hg : OpD r g) (ra : RE ta f) (rb : RE tb h) : RE (tOp r ta tb) (zH g f h) := by
  intro σ ρ F H z Q s va e q
  obtain ⟨x, e1, e⟩ := Option.bind_eq_some_iff.mp e
  obtain ⟨y, e2, e⟩ := Option.bind_eq_some_iff.mp e
  refine ra σ ρ F H x _ s va e1 fun F1 H1 v g1 a1 => ?_
  refine rb σ ρ F1 H1 y _ g1.fh (va.mono g1.ff) e2 fun F2 H2 u g2 a2 => ?_
  exact hg F2 H2 v u x y z Q g2.fh (a1.mono g2.ff) a2 e fun F3 H3 w g3 a3 => q F3 H3 w ((g1.trans g2).trans g3) a3
theorem zkp {op : Operator} {r : R2} {g : D → D → Option D} {f h : Ev → Option D} (ho : OpR X (binaryOp op) r) (hg : OpD r g) (ha : ED X a f) (hb : ED X b h) : ED X (.BinOp a op b pos) (zH g f h) :=
  let ⟨_, pa, ra⟩ := ha
  let ⟨_, pb, rb⟩ := hb
  ⟨_, zt3 ho pa pb, zp5 hg ra rb⟩
theorem xP {op : CmpOp} {r : R2} {g : D → D → Option D} {f h : Ev → Option D} (ho : OpR X (compareOp op) r) (hg : OpD r g) (hm : behindInMarks op b = false) (ha : ED X a f) (hb : ED X b h) : ED X (.Compare a [op] [b] pos) (zH g f h) :=
  let ⟨_, pa, ra⟩ := ha
  let ⟨_, pb, rb⟩ := hb
  ⟨_, zpv ho pa pb hm, zp5 hg ra rb⟩
noncomputable def asB : D → Option Bool
  | .bl b => some b
  | _ => none
theorem zat {d : D} {b : Bool} (h : asB d = some b) : d = .bl b := by
  cases d <;> first | (cases h; rfl) | cases h
noncomputable def tOf (f : Ev → Option D) : Ev → Option Bool := fun ρ => (f ρ).bind asB
theorem ztq {t : TE} {f : Ev → Option D} (r : RE t f) : RT (zt4 t) (tOf f) := by
  intro σ ρ F H b Q s va e q
  obtain ⟨x, e1, e⟩ := Option.bind_eq_some_iff.mp e
  cases zat e
  exact r σ ρ F H _ _ s va e1 fun F1 H1 v g1 a1 => ⟨b, a1.bl_inv, q F1 H1 g1⟩
theorem zT {op : CmpOp} {r : R2} {g : D → D → Option D} {f h : Ev → Option D} (ho : OpR X (compareOp op) r) (hg : OpD r g) (hm : behindInMarks op b = false) (ha : ED X a f) (hb : ED X b h) : TD X (.Compare a [op] [b] pos) (tOf (zH g f h)) :=
  let ⟨_, pa, ra⟩ := ha
  let ⟨_, pb, rb⟩ := hb
  ⟨_, zsy ho pa pb hm, ztq (zp5 hg ra rb)⟩
theorem yE {f : Ev → Option D} (ha : ED X a f) (he : ∀ whole, isTrue a X.env whole = (do let v ← whole; standAt a.pos; holding [v] (truthy v)) := by intro _; rfl) : TD X a (tOf f) :=
  let ⟨_, pa, ra⟩ := ha
  ⟨_, zs8 pa he, ztq ra⟩
noncomputable def zaZ (f g : Ev → Option Bool) : Ev → Option Bool := fun ρ => (f ρ).bind fun c => if c = true then g ρ else some false
noncomputable def zqW (f g : Ev → Option Bool) : Ev → Option Bool := fun ρ => (f ρ).bind fun c => if c = true then some true else g ρ
noncomputable def xQ (f : Ev → Option Bool) : Ev → Option Bool := fun ρ => (f ρ).map (!·)
theorem Vo {f : Ev → Option Bool} (ha : TD X a f) : WD X (.BoolOp .And [a] pos) f := let ⟨_, pa, ra⟩ := ha; ⟨_, zrS pa, ra⟩
theorem zcX {f : Ev → Option Bool} (ha : TD X a f) : WD X (.BoolOp .Or [a] pos) f := let ⟨_, pa, ra⟩ := ha; ⟨_, ztP pa, ra⟩
theorem zcl {rest : List Expr} {f g : Ev → Option Bool} (ha : TD X a f) (hb : WD X (.BoolOp .And (b :: rest) pos) g) : WD X (.BoolOp .And (a :: b :: rest) pos) (zaZ f g) := by
  obtain ⟨ta, pa, ra⟩ := ha
  obtain ⟨tb, pb, rb⟩ := hb
  refine ⟨_, ztw pa pb, fun σ ρ F H z Q s va e q => ?_⟩
  obtain ⟨x, e1, e⟩ := Option.bind_eq_some_iff.mp e
  refine ra σ ρ F H x _ s va e1 fun F1 H1 g1 => ?_
  cases x with
  | true =>
    rw [if_pos rfl] at e ⊢
    exact rb σ ρ F1 H1 z Q g1.fh (va.mono g1.ff) e fun F2 H2 g2 => q F2 H2 (g1.trans g2)
  | false =>
    rw [if_neg Bool.false_ne_true] at e ⊢
    cases e
    exact q F1 H1 g1
theorem zn3 {rest : List Expr} {f g : Ev → Option Bool} (ha : TD X a f) (hb : WD X (.BoolOp .Or (b :: rest) pos) g) : WD X (.BoolOp .Or (a :: b :: rest) pos) (zqW f g) := by
  obtain ⟨ta, pa, ra⟩ := ha
  obtain ⟨tb, pb, rb⟩ := hb
  refine ⟨_, zvq pa pb, fun σ ρ F H z Q s va e q => ?_⟩
  obtain ⟨x, e1, e⟩ := Option.bind_eq_some_iff.mp e
  refine ra σ ρ F H x _ s va e1 fun F1 H1 g1 => ?_
  cases x with
  | false =>
    rw [if_neg Bool.false_ne_true] at e ⊢
    exact rb σ ρ F1 H1 z Q g1.fh (va.mono g1.ff) e fun F2 H2 g2 => q F2 H2 (g1.trans g2)
  | true =>
    rw [if_pos rfl] at e ⊢
    cases e
    exact q F1 H1 g1
theorem znW {f : Ev → Option Bool} (h : WD X a f) : TD X a f := let ⟨_, p, r⟩ := h; ⟨_, p.pt, r⟩
theorem y9 {f : Ev → Option Bool} (ha : TD X a f) : TD X (.UnaryOp .Not a pos) (xQ f) := by
  obtain ⟨ta, pa, ra⟩ := ha
  refine ⟨_, zti pa, fun σ ρ F H z Q s va e q => ?_⟩
  obtain ⟨x, e1, rfl⟩ := Option.map_eq_some_iff.mp e
  exact ra σ ρ F H x _ s va e1 fun F1 H1 g1 => q F1 H1 g1
noncomputable def zjZ (f g : Ev → Option D) : Ev → Option D := fun ρ => ((f ρ).bind asB).bind fun c => if c = true then g ρ else some (.bl false)
noncomputable def eOr (f g : Ev → Option D) : Ev → Option D := fun ρ => ((f ρ).bind asB).bind fun c => if c = true then some (.bl true) else g ρ
noncomputable def zup (f : Ev → Option D) : Ev → Option D := fun ρ => ((f ρ).bind asB).map fun c => .bl (!c)
theorem XT {op} {f : Ev → Option D} (ha : ED X a f) : ED X (.BoolOp op [a] pos) f := let ⟨_, pa, ra⟩ := ha; ⟨_, zua pa, ra⟩
theorem XO {rest : List Expr} {f g : Ev → Option D} (ha : ED X a f) (hb : ED X (.BoolOp .And (b :: rest) pos) g) : ED X (.BoolOp .And (a :: b :: rest) pos) (zjZ f g) := by
  obtain ⟨ta, pa, ra⟩ := ha
  obtain ⟨tb, pb, rb⟩ := hb
  refine ⟨_, ztD pa pb, fun σ ρ F H z Q s va e q => ?_⟩
  obtain ⟨x, e1, e⟩ := Option.bind_eq_some_iff.mp e
  obtain ⟨y, e1, e2⟩ := Option.bind_eq_some_iff.mp e1
  cases zat e2
  refine ra σ ρ F H _ _ s va e1 fun F1 H1 v g1 a1 => ⟨x, a1.bl_inv, ?_⟩
  cases x with
  | true =>
    rw [if_pos rfl] at e ⊢
    exact rb σ ρ F1 H1 z Q g1.fh (va.mono g1.ff) e fun F2 H2 w g2 a2 => q F2 H2 w (g1.trans g2) a2
  | false =>
    rw [if_neg Bool.false_ne_true] at e ⊢
    cases e
    exact q F1 H1 _ g1 .bl
theorem zvs {rest : List Expr} {f g : Ev → Option D} (ha : ED X a f) (hb : ED X (.BoolOp .Or (b :: rest) pos) g) : ED X (.BoolOp .Or (a :: b :: rest) pos) (eOr f g) := by
  obtain ⟨ta, pa, ra⟩ := ha
  obtain ⟨tb, pb, rb⟩ := hb
  refine ⟨_, zu1 pa pb, fun σ ρ F H z Q s va e q => ?_⟩
  obtain ⟨x, e1, e⟩ := Option.bind_eq_some_iff.mp e
  obtain ⟨y, e1, e2⟩ := Option.bind_eq_some_iff.mp e1
  cases zat e2
  refine ra σ ρ F H _ _ s va e1 fun F1 H1 v g1 a1 => ⟨x, a1.bl_inv, ?_⟩
  cases x with
  | false =>
    rw [if_neg Bool.false_ne_true] at e ⊢
    exact rb σ ρ F1 H1 z Q g1.fh (va.mono g1.ff) e fun F2 H2 w g2 a2 => q F2 H2 w (g1.trans g2) a2
  | true =>
    rw [if_pos rfl] at e ⊢
    cases e
    exact q F1 H1 _ g1 .bl
theorem zqT {f : Ev → Option D} (ha : ED X a f) : ED X (.UnaryOp .Not a pos) (zup f) := by
  obtain ⟨ta, pa, ra⟩ := ha
  refine ⟨_, ztA pa, fun σ ρ F H z Q s va e q => ?_⟩
  obtain ⟨x, e1, rfl⟩ := Option.map_eq_some_iff.mp e
  obtain ⟨y, e1, e2⟩ := Option.bind_eq_some_iff.mp e1
  cases zat e2
  exact ra σ ρ F H _ _ s va e1 fun F1 H1 v g1 a1 => ⟨x, a1.bl_inv, q F1 H1 _ g1 .bl⟩
noncomputable def eIf (t : Ev → Option Bool) (f g : Ev → Option D) : Ev → Option D := fun ρ => (t ρ).bind fun c => if c = true then f ρ else g ρ
noncomputable def eUn (g : D → Option D) (f : Ev → Option D) : Ev → Option D := fun ρ => (f ρ).bind g
noncomputable def negD : D → Option D
  | .int i => some (.int (-i))
  | _ => none
noncomputable def zC : Ev → Option (List D) := fun _ => some []
noncomputable def zg (f : Ev → Option D) (g : Ev → Option (List D)) : Ev → Option (List D) := fun ρ => (f ρ).bind fun d => (g ρ).map (d :: ·)
theorem zh : AD X [] zC := ⟨_, zle, fun _ _ _ _ _ _ s _ e q => by cases e; exact q _ _ _ (.refl s) .nil⟩
theorem zc {e : Expr} {es : List Expr} {f : Ev → Option D} {g : Ev → Option (List D)} (ha : ED X e f) (hr : AD X es g) (hs : starEach (e :: es) X.env = (false, eval e X.env) :: starEach es X.env := by rfl) : AD X (e :: es) (zg f g) := by
  obtain ⟨ta, pa, ra⟩ := ha
  obtain ⟨tb, pb, rb⟩ := hr
  refine ⟨_, zbm pa pb hs, fun σ ρ F H z Q s va e q => ?_⟩
  obtain ⟨x, e1, e⟩ := Option.bind_eq_some_iff.mp e
  obtain ⟨ds, e2, rfl⟩ := Option.map_eq_some_iff.mp e
  refine ra σ ρ F H x _ s va e1 fun F1 H1 v g1 a1 => ?_
  exact rb σ ρ F1 H1 ds _ g1.fh (va.mono g1.ff) e2 fun F2 H2 w g2 a2 => q F2 H2 _ (g1.trans g2) (.cons (a1.mono g2.ff) a2)
noncomputable def lim (n : Nat) : Bool := decide (n ≤ sizeLine)
noncomputable def XS (g : Ev → Option (List D)) : Ev → Option D := fun ρ => (g ρ).bind fun ds => if lim ds.length = true then some (.tup ds) else none
noncomputable def XQ (g : Ev → Option (List D)) : Ev → Option (List D) := fun ρ => (g ρ).bind fun ds => if lim ds.length = true then some ds else none
theorem yF {es : List Expr} {x1} {g : Ev → Option (List D)} (h : AD X es g) : ED X (.Tuple es x1 pos) (XS g) := by
  obtain ⟨ta, pa, ra⟩ := h
  refine ⟨_, zue pa, fun σ ρ F H z Q s va e q => ?_⟩
  obtain ⟨ds, e1, e⟩ := Option.bind_eq_some_iff.mp e
  split at e <;> cases e
  rename_i hl
  refine ra σ ρ F H ds _ s va e1 fun F1 H1 vs g1 a1 => ⟨by rw [a1.length]; exact of_decide_eq_true hl, fun p hp => ?_⟩
  have g2 := Gr.alloc g1.fh hp (.tup vs)
  exact q _ _ _ (g1.trans g2) (.tup zy (a1.mono g2.ff))
theorem XL {es : List Expr} {g : Ev → Option (List D)} (h : AD X es g) : FL X (.List es pos) (XQ g) := by
  obtain ⟨ta, pa, ra⟩ := h
  refine ⟨_, ztz pa, fun σ ρ F H z Q s va e q => ?_⟩
  obtain ⟨ds, e1, e⟩ := Option.bind_eq_some_iff.mp e
  split at e <;> cases e
  rename_i hl
  refine ra σ ρ F H _ _ s va e1 fun F1 H1 vs g1 a1 => ⟨by rw [a1.length]; exact of_decide_eq_true hl, fun p hp => ?_⟩
  have g2 := Gr.hide g1.fh hp (.lst vs)
  have h0 : H p = none := by
    cases e : H p with
    | none => rfl
    | some o =>
      cases e2 : F p with
      | none => rw [(g1.kp p o e2 e).2] at hp; cases hp
      | some u => rw [g1.fh _ _ (g1.ff _ _ e2)] at hp; cases hp
  exact q _ _ _ _ (g1.trans g2) h0 (g1.fh.free hp) zy a1
end
end
end Dl
namespace Dl
open PySem L2
variable [KK]
inductive Sl where
  | no | v (d : D) | o (ds : List D) | m (t : Bool) (ks : List (List Key)) (vs : List D)
  deriving Inhabited
noncomputable abbrev SE := List Sl
noncomputable def Sl.f : Sl → Option D
  | .v d => some d
  | _ => none
noncomputable def Sl.g : Sl → Option D
  | .v d => some d
  | .o ds => some (.lst ds)
  | .m t ks vs => some (.dct false t ks vs)
  | .no => none
noncomputable def Sl.isO : Sl → Bool
  | .o _ => true
  | .m _ _ _ => true
  | _ => false
noncomputable def visF (ρ : SE) : Ev := ρ.map Sl.f
noncomputable def visG (ρ : SE) : Ev := ρ.map Sl.g
noncomputable def zm5 (F : Hp) (o : HO) : Sl → Prop
  | .o ds => ∃ xs, o = .lst xs ∧ AtL F ds xs
  | .m t ks ds => ∃ xs, zjN o t ks xs ∧ AtL F ds xs
  | _ => False
theorem zm5.mono {F F' : Hp} {o : HO} {s : Sl} (h : zm5 F o s) (k : yW F F') : zm5 F' o s := by
  cases s with
  | no => exact h
  | v d => exact h
  | o ds => obtain ⟨xs, e, a⟩ := h; exact ⟨xs, e, a.mono k⟩
  | m t ks ds => obtain ⟨xs, e, a⟩ := h; exact ⟨xs, e, a.mono k⟩
theorem zm5.isO {F : Hp} {o : HO} {s : Sl} (h : zm5 F o s) : s.isO = true := by
  cases s with
  | no => exact h.elim
  | v d => exact h.elim
  | o ds => rfl
  | m t ks ds => rfl
theorem zm5.ntup {F : Hp} {o : HO} {s : Sl} (h : zm5 F o s) (xs : List V) : o ≠ .tup xs := by
  cases s with
  | no => exact h.elim
  | v d => exact h.elim
  | o ds => obtain ⟨ys, rfl, _⟩ := h; intro e; cases e
  | m t ks ds =>
    obtain ⟨ys, e, _⟩ := h
    unfold zjN at e
    split at e
    · obtain ⟨kvs, rfl, _⟩ := e; intro e; cases e
    · obtain ⟨kvs, rfl, _⟩ := e; intro e; cases e
theorem zm5.at {F G : Hp} {o : HO} {s : Sl} {d : D} {p : Addr} (h : zm5 F o s) (e : s.g = some d) (hp : G p = some o) (k : yW F G) : At G d (.ref p) := by
  cases s with
  | no => exact h.elim
  | v d => exact h.elim
  | o ds =>
    cases e
    obtain ⟨xs, rfl, a⟩ := h
    exact .lst hp (a.mono k)
  | m t ks ds =>
    cases e
    obtain ⟨xs, e, a⟩ := h
    unfold At
    exact ⟨p, xs, rfl, ⟨o, e, hp⟩, a.mono k⟩
set_option genInjectivity false in
set_option genSizeOf false in
set_option genCtorIdx false in
structure Rl (Fb Hb F H : Hp) (ρ : SE) (σ : St) : Prop where
  gr : Gr Fb Hb F H
  vals : ∀ (i : Nat) (d : D), ρ[i]? = some (.v d) → ∃ v, σ[i]? = some (some v) ∧ At F d v
  ows : ∀ (i : Nat) (s : Sl), ρ[i]? = some s → s.isO = true → ∃ p o, σ[i]? = some (some (.ref p)) ∧ Hb p = none ∧ F p = none ∧ H p = some o ∧ zm5 F o s
  dis : ∀ (i j : Nat) (p : Addr) (s t : Sl), ρ[i]? = some s → ρ[j]? = some t → s.isO = true → t.isO = true → σ[i]? = some (some (.ref p)) → σ[j]? = some (some (.ref p)) → i = j
  len : ρ.length = σ.length
section
variable {Fb Hb F H F' H' : Hp} {ρ ρ' : SE} {σ σ' : St}
theorem Rl.owns (r : Rl Fb Hb F H ρ σ) (i : Nat) (ds : List D) (e : ρ[i]? = some (.o ds)) : ∃ p xs, σ[i]? = some (some (.ref p)) ∧ Hb p = none ∧ F p = none ∧ H p = some (.lst xs) ∧ AtL F ds xs := by
  obtain ⟨p, o, e1, e2, e3, e4, xs, rfl, a⟩ := r.ows i _ e rfl
  exact ⟨p, xs, e1, e2, e3, e4, a⟩
theorem Rl.grow (r : Rl Fb Hb F H ρ σ) (g : Gr F H F' H') : Rl Fb Hb F' H' ρ σ := by
  refine ⟨r.gr.trans g, fun i d e => ?_, fun i s e h => ?_, r.dis, r.len⟩
  · obtain ⟨v, e1, a⟩ := r.vals i d e
    exact ⟨v, e1, a.mono g.ff⟩
  · obtain ⟨p, o, e1, e2, e3, e4, a⟩ := r.ows i s e h
    obtain ⟨k1, k2⟩ := g.kl a.ntup e3 e4
    exact ⟨p, o, e1, e2, k1, k2, a.mono g.ff⟩
theorem Rl.visF (r : Rl Fb Hb F H ρ σ) : VAt F (visF ρ) σ := fun i d e => by
  unfold Dl.visF at e
  rw [List.getElem?_map] at e
  cases h : ρ[i]? with
  | none => rw [h] at e; cases e
  | some x =>
    rw [h] at e
    cases x with
    | no => cases e
    | v d' =>
      cases e
      exact r.vals i d h
    | o ds => cases e
    | m t ks ds => cases e
noncomputable def Own (ρ : SE) (σ : St) (p : Addr) : Prop := ∃ (i : Nat) (s : Sl), ρ[i]? = some s ∧ s.isO = true ∧ σ[i]? = some (some (.ref p))
open Classical in
noncomputable def gOf (ρ : SE) (σ : St) (F H : Hp) : Hp := fun p => if Own ρ σ p then H p else F p
open Classical in
noncomputable def fOf (ρ : SE) (σ : St) (G : Hp) : Hp := fun p => if Own ρ σ p then none else G p
theorem Rl.own (r : Rl Fb Hb F H ρ σ) {p : Addr} (h : Own ρ σ p) : Hb p = none ∧ F p = none ∧ ∃ o, H p = some o ∧ ∀ xs, o ≠ .tup xs := by
  obtain ⟨i, s, e1, e2, e3⟩ := h
  obtain ⟨q, o, e4, e5, e6, e7, a⟩ := r.ows i s e1 e2
  rw [e3] at e4
  cases e4
  exact ⟨e5, e6, o, e7, a.ntup⟩
theorem Rl.notown (r : Rl Fb Hb F H ρ σ) {q : Addr} (h : H q = none) (j : Nat) (s : Sl) (e1 : ρ[j]? = some s) (e2 : s.isO = true) : σ[j]? ≠ some (some (.ref q)) := fun e => by
  obtain ⟨p, o, f1, _, _, f4, _⟩ := r.ows j s e1 e2
  rw [e] at f1
  cases f1
  rw [h] at f4
  cases f4
theorem Rl.notbase (r : Rl Fb Hb F H ρ σ) {q : Addr} (h : H q = none) : Hb q = none := by
  cases z : Hb q with
  | none => rfl
  | some o =>
    cases z2 : Fb q with
    | none => rw [(r.gr.kp q o z2 z).2] at h; cases h
    | some u => rw [r.gr.fh _ _ (r.gr.ff _ _ z2)] at h; cases h
theorem Rl.fg (r : Rl Fb Hb F H ρ σ) : yW F (gOf ρ σ F H) := fun p o e => by
  unfold gOf
  split
  · exact r.gr.fh p o e
  · exact e
theorem Rl.gh (r : Rl Fb Hb F H ρ σ) : yW (gOf ρ σ F H) H := fun p o e => by
  unfold gOf at e
  split at e
  · exact e
  · exact r.gr.fh p o e
theorem Rl.visG (r : Rl Fb Hb F H ρ σ) : VAt (gOf ρ σ F H) (visG ρ) σ := fun i d e => by
  unfold Dl.visG at e
  rw [List.getElem?_map] at e
  cases h : ρ[i]? with
  | none => rw [h] at e; cases e
  | some x =>
    rw [h] at e
    have e : x.g = some d := Option.some.inj e
    have own : x.isO = true → ∃ v, σ[i]? = some (some v) ∧ At (gOf ρ σ F H) d v := fun hx => by
      obtain ⟨p, o, e1, e2, e3, e4, a⟩ := r.ows i x h hx
      refine ⟨_, e1, a.at e ?_ r.fg⟩
      unfold gOf
      rw [if_pos ⟨i, x, h, hx, e1⟩]
      exact e4
    cases x with
    | no => cases e
    | v d' =>
      cases e
      obtain ⟨v, e1, a⟩ := r.vals i d h
      exact ⟨v, e1, a.mono r.fg⟩
    | o ds => exact own rfl
    | m t ks ds => exact own rfl
theorem Rl.back {G' : Hp} (r : Rl Fb Hb F H ρ σ) (g : Gr (gOf ρ σ F H) H G' H') : Gr F H (fOf ρ σ G') H' ∧ ∀ q xs, G' q = some (.tup xs) → fOf ρ σ G' q = some (.tup xs) := by
  refine ⟨⟨fun p o e => ?_, fun p o e => ?_, fun p o e1 e2 => ?_⟩, fun q xs e => ?_⟩
  · unfold fOf
    rw [if_neg (fun h => by rw [(r.own h).2.1] at e; cases e)]
    exact g.ff p o (r.fg p o e)
  · unfold fOf at e
    split at e
    · cases e
    · exact g.fh p o e
  · by_cases h : Own ρ σ p
    · refine ⟨.inl (by unfold fOf; rw [if_pos h]), g.fh p o (g.ff p o ?_)⟩
      unfold gOf
      rw [if_pos h]
      exact e2
    · obtain ⟨x, y⟩ := g.kp p o (by unfold gOf; rw [if_neg h]; exact e1) e2
      refine ⟨?_, y⟩
      unfold Hid fOf
      rw [if_neg h]
      exact x
  · unfold fOf
    rw [if_neg (fun h => ?_)]
    · exact e
    · obtain ⟨_, _, o, e2, n⟩ := r.own h
      have : G' q = some o := g.ff q _ (by unfold gOf; rw [if_pos h]; exact e2)
      rw [this] at e
      cases e
      exact n xs rfl
theorem Rl.out {G' : Hp} (r : Rl Fb Hb F H ρ σ) (g : Gr (gOf ρ σ F H) H G' H') : Gr Fb Hb G' H' := by
  refine ⟨fun p o e => g.ff p o (r.fg p o (r.gr.ff p o e)), g.fh, fun p o e1 e2 => ?_⟩
  obtain ⟨k1, k2⟩ := r.gr.kp p o e1 e2
  have e3 : gOf ρ σ F H p = F p := by
    unfold gOf
    rw [if_neg (fun h => by rw [(r.own h).1] at e2; cases e2)]
  rcases k1 with k1 | ⟨k1, k3⟩
  · exact g.kp p o (by rw [e3]; exact k1) k2
  · have := g.ff p o (by rw [e3]; exact k3)
    exact ⟨.inr ⟨k1, this⟩, g.fh _ _ this⟩
theorem Rl.set (r : Rl Fb Hb F H ρ σ) {i : Nat} {d : D} {v : V} (a : At F d v) : Rl Fb Hb F H (ρ.set i (.v d)) (σ.set i (some v)) := by
  have nj : ∀ {j : Nat} {s : Sl}, (ρ.set i (.v d))[j]? = some s → s.isO = true → i ≠ j := fun {j s} h ho e => by
    subst e
    rw [List.getElem?_set] at h
    simp only [if_true] at h
    split at h <;> cases h
    cases ho
  refine ⟨r.gr, fun j e h => ?_, fun j s h ho => ?_, fun j k p s t h1 h2 o1 o2 h3 h4 => ?_, by simp [r.len]⟩
  · by_cases hj : i = j
    · subst hj
      rw [List.getElem?_set] at h
      simp only [if_true] at h
      split at h
      · rename_i hl
        cases h
        refine ⟨v, ?_, a⟩
        rw [List.getElem?_set]
        simp [← r.len, hl]
      · cases h
    · rw [List.getElem?_set_ne hj] at h ⊢
      exact r.vals j e h
  · have hj := nj h ho
    rw [List.getElem?_set_ne hj] at h ⊢
    exact r.ows j s h ho
  · have a1 := nj h1 o1
    have a2 := nj h2 o2
    rw [List.getElem?_set_ne a1] at h1 h3
    rw [List.getElem?_set_ne a2] at h2 h4
    exact r.dis j k p s t h1 h2 o1 o2 h3 h4
theorem Rl.setW (r : Rl Fb Hb F H ρ σ) {i : Nat} {w : Sl} {p : Addr} {o : HO} (h0 : Hb p = none) (hF : F p = none) (hH : H p = some o) (a : zm5 F o w)
    (nw : ∀ (j : Nat) (s : Sl), ρ[j]? = some s → s.isO = true → σ[j]? ≠ some (some (.ref p))) : Rl Fb Hb F H (ρ.set i w) (σ.set i (some (.ref p))) := by
  have at_i : ∀ {s : Sl}, (ρ.set i w)[i]? = some s → i < ρ.length ∧ s = w := fun {s} h => by
    rw [List.getElem?_set] at h
    simp only [if_true] at h
    split at h
    · rename_i hl
      cases h
      exact ⟨hl, rfl⟩
    · cases h
  have st_i : i < ρ.length → (σ.set i (some (V.ref p)))[i]? = some (some (.ref p)) := fun hl => by
    rw [List.getElem?_set]
    simp [← r.len, hl]
  refine ⟨r.gr, fun j e h => ?_, fun j s h ho => ?_, fun j k q s t h1 h2 o1 o2 h3 h4 => ?_, by simp [r.len]⟩
  · by_cases hj : i = j
    · subst hj
      have e := (at_i h).2
      have := a.isO
      rw [← e] at this
      cases this
    · rw [List.getElem?_set_ne hj] at h ⊢
      exact r.vals j e h
  · by_cases hj : i = j
    · subst hj
      obtain ⟨hl, e⟩ := at_i h
      subst e
      exact ⟨p, o, st_i hl, h0, hF, hH, a⟩
    · rw [List.getElem?_set_ne hj] at h ⊢
      exact r.ows j s h ho
  · by_cases hj : i = j
    · subst hj
      by_cases hk : i = k
      · exact hk
      · obtain ⟨hl, _⟩ := at_i h1
        rw [st_i hl] at h3
        cases h3
        rw [List.getElem?_set_ne hk] at h2 h4
        exact absurd h4 (nw k t h2 o2)
    · by_cases hk : i = k
      · subst hk
        obtain ⟨hl, _⟩ := at_i h2
        rw [st_i hl] at h4
        cases h4
        rw [List.getElem?_set_ne hj] at h1 h3
        exact absurd h3 (nw j s h1 o1)
      · rw [List.getElem?_set_ne hj] at h1 h3
        rw [List.getElem?_set_ne hk] at h2 h4
        exact r.dis j k q s t h1 h2 o1 o2 h3 h4
theorem Rl.setO (r : Rl Fb Hb F H ρ σ) {i : Nat} {ds : List D} {p : Addr} {xs : List V} (h0 : Hb p = none) (hF : F p = none) (hH : H p = some (.lst xs)) (a : AtL F ds xs)
    (nw : ∀ (j : Nat) (s : Sl), ρ[j]? = some s → s.isO = true → σ[j]? ≠ some (some (.ref p))) : Rl Fb Hb F H (ρ.set i (.o ds)) (σ.set i (some (.ref p))) := r.setW h0 hF hH ⟨xs, rfl, a⟩ nw
theorem Rl.mutW (r : Rl Fb Hb F H ρ σ) {i : Nat} {w w' : Sl} {p : Addr} {o' : HO} (e : ρ[i]? = some w) (hw : w.isO = true) (e1 : σ[i]? = some (some (.ref p))) (a : zm5 F o' w') : Rl Fb Hb F (upd H p o') (ρ.set i w') σ := by
  obtain ⟨q, o, e2, h0, hF, hH, _⟩ := r.ows i w e hw
  rw [e1] at e2
  cases e2
  have hi : i < ρ.length := (List.getElem?_eq_some_iff.mp e).1
  have neP : ∀ {j : Nat} {s : Sl} {q : Addr}, i ≠ j → ρ[j]? = some s → s.isO = true → σ[j]? = some (some (.ref q)) → q ≠ p := fun {j s q} hne h1 ho h2 z => by
    subst z
    exact hne (r.dis i j q w s e h1 hw ho e1 h2)
  refine ⟨⟨r.gr.ff, fun b o z => ?_, fun b o z1 z2 => ?_⟩, fun j d h => ?_, fun j s h ho => ?_, fun j k q s t h1 h2 o1 o2 h3 h4 => ?_, by simp [r.len]⟩
  · rw [zA (zx z hF)]
    exact r.gr.fh b o z
  · rw [zA (zx z2 h0)]
    exact r.gr.kp b o z1 z2
  · by_cases hj : i = j
    · subst hj
      rw [List.getElem?_set_self hi] at h
      cases h
      exact (Bool.noConfusion a.isO)
    · rw [List.getElem?_set_ne hj] at h
      exact r.vals j d h
  · by_cases hj : i = j
    · subst hj
      rw [List.getElem?_set_self hi] at h
      cases h
      exact ⟨p, o', e1, h0, hF, zy, a⟩
    · rw [List.getElem?_set_ne hj] at h
      obtain ⟨q, z, f1, f2, f3, f4, f5⟩ := r.ows j s h ho
      refine ⟨q, z, f1, f2, f3, ?_, f5⟩
      rw [zA (neP hj h ho f1)]
      exact f4
  · have back : ∀ {j : Nat} {s : Sl}, (ρ.set i w')[j]? = some s → s.isO = true → ∃ s', ρ[j]? = some s' ∧ s'.isO = true := fun {j s} h ho => by
      by_cases hj : i = j
      · subst hj; exact ⟨w, e, hw⟩
      · rw [List.getElem?_set_ne hj] at h; exact ⟨s, h, ho⟩
    obtain ⟨f1, g1, g1'⟩ := back h1 o1
    obtain ⟨f2, g2, g2'⟩ := back h2 o2
    exact r.dis j k q f1 f2 g1 g2 g1' g2' h3 h4
theorem Rl.mutate (r : Rl Fb Hb F H ρ σ) {i : Nat} {ds es : List D} {p : Addr} {ys : List V} (e : ρ[i]? = some (.o ds)) (e1 : σ[i]? = some (some (.ref p))) (a : AtL F es ys) : Rl Fb Hb F (upd H p (.lst ys)) (ρ.set i (.o es)) σ :=
  r.mutW e rfl e1 ⟨ys, rfl, a⟩
noncomputable def Sl.fz : Sl → Sl
  | .o ds => .v (.lst ds)
  | .m t ks vs => .v (.dct false t ks vs)
  | s => s
noncomputable def zur (ρ : SE) (i : Nat) : SE := ρ.set i ((ρ[i]?).getD .no).fz
theorem Rl.freeze (r : Rl Fb Hb F H ρ σ) (i : Nat) : ∃ F', Rl Fb Hb F' H (zur ρ i) σ := by
  unfold zur
  cases h : ρ[i]? with
  | none =>
    refine ⟨F, ?_⟩
    rw [List.set_eq_of_length_le (List.getElem?_eq_none_iff.mp h)]
    exact r
  | some s =>
    have hi : i < ρ.length := (List.getElem?_eq_some_iff.mp h).1
    have same : s.fz = s → ∃ F', Rl Fb Hb F' H (ρ.set i ((some s).getD .no).fz) σ := fun e => by
      refine ⟨F, ?_⟩
      show Rl Fb Hb F H (ρ.set i s.fz) σ
      rw [e]
      have : ρ.set i s = ρ := by
        apply List.ext_getElem?
        intro j
        by_cases hj : i = j
        · subst hj; rw [List.getElem?_set_self hi, h]
        · rw [List.getElem?_set_ne hj]
      rw [this]
      exact r
    have give : ∀ d, s.isO = true → s.g = some d → s.fz = .v d → ∃ F', Rl Fb Hb F' H (ρ.set i ((some s).getD .no).fz) σ := fun d ho hg hz => by
      obtain ⟨p, o, e1, e2, e3, e4, a⟩ := r.ows i s h ho
      have sF : yW F (upd F p o) := fun b u e => by rw [zA (zx e e3)]; exact e
      show ∃ F', Rl Fb Hb F' H (ρ.set i s.fz) σ
      rw [hz]
      have nj : ∀ {j : Nat} {t : Sl}, (ρ.set i (.v d))[j]? = some t → t.isO = true → i ≠ j := fun {j t} h ht e => by
        subst e
        rw [List.getElem?_set_self hi] at h
        cases h
        cases ht
      refine ⟨upd F p o, r.gr.show e2 e3 e4, fun j e z => ?_, fun j t z ht => ?_, fun j k q t u h1 h2 o1 o2 h3 h4 => ?_, by simp [r.len]⟩
      · by_cases hj : i = j
        · subst hj
          rw [List.getElem?_set_self hi] at z
          cases z
          exact ⟨_, e1, a.at hg zy sF⟩
        · rw [List.getElem?_set_ne hj] at z
          obtain ⟨v, f1, f2⟩ := r.vals j e z
          exact ⟨v, f1, f2.mono sF⟩
      · have hj := nj z ht
        rw [List.getElem?_set_ne hj] at z
        obtain ⟨q, y, f1, f2, f3, f4, f5⟩ := r.ows j t z ht
        refine ⟨q, y, f1, f2, ?_, f4, f5.mono sF⟩
        rw [zA (fun w => hj (r.dis i j p s t h z ho ht e1 (by rw [← w]; exact f1)))]
        exact f3
      · have a1 := nj h1 o1
        have a2 := nj h2 o2
        rw [List.getElem?_set_ne a1] at h1
        rw [List.getElem?_set_ne a2] at h2
        exact r.dis j k q t u h1 h2 o1 o2 h3 h4
    cases s with
    | no => exact same rfl
    | v d => exact same rfl
    | o ds => exact give _ rfl rfl rfl
    | m t ks ds => exact give _ rfl rfl rfl
end
inductive Ctl where
  | nx (ρ : SE) | rt (d : D) | bk (ρ : SE) | ct (ρ : SE) | no
  deriving Inhabited
noncomputable def SOk (Fb Hb : Hp) (E : zpN) : Ctl → Prop
  | .nx ρ => ∀ F H σ, Rl Fb Hb F H ρ σ → E.nx σ H
  | .bk ρ => ∀ F H σ, Rl Fb Hb F H ρ σ → E.bk σ H
  | .ct ρ => ∀ F H σ, Rl Fb Hb F H ρ σ → E.ct σ H
  | .rt d => ∀ F H v, Gr Fb Hb F H → At F d v → E.rt v H
  | .no => False
noncomputable def RS (t : TS) (g : SE → Ctl) : Prop := ∀ (Fb Hb F H : Hp) (ρ : SE) (σ : St) (E : zpN), Rl Fb Hb F H ρ σ → SOk Fb Hb E (g ρ) → t E σ H
noncomputable def SD (X : Cx) (st : Stmt) (g : SE → Ctl) : Prop := ∃ t, PS X st t ∧ RS t g
noncomputable def SDs (X : Cx) (sts : List Stmt) (g : SE → Ctl) : Prop := ∃ t, PSs X sts t ∧ RS t g
section
variable {X : Cx} {st : Stmt} {sts : List Stmt} {a b c e : Expr} {pos pos' : Pos}
noncomputable def yk : SE → Ctl := .nx
noncomputable def yr (g h : SE → Ctl) : SE → Ctl := fun ρ => match g ρ with
  | .nx ρ' => h ρ'
  | .rt d => .rt d
  | .bk ρ' => .bk ρ'
  | .ct ρ' => .ct ρ'
  | .no => .no
theorem zD : SDs X [] yk := ⟨_, zso, fun _ _ F H ρ σ E r h => h F H σ r⟩
theorem zj {g h : SE → Ctl} (h1 : SD X st g) (h2 : SDs X sts h) : SDs X (st :: sts) (yr g h) := by
  obtain ⟨t, p, r⟩ := h1
  obtain ⟨u, p2, r2⟩ := h2
  refine ⟨_, zqd p p2, fun Fb Hb F H ρ σ E rl k => ?_⟩
  refine r Fb Hb F H ρ σ { E with nx := u E } rl ?_
  unfold yr at k
  cases e : g ρ with
  | nx ρ' =>
    rw [e] at k
    exact fun F' H' σ' rl' => r2 Fb Hb F' H' ρ' σ' E rl' k
  | rt d => rw [e] at k; exact k
  | bk d => rw [e] at k; exact k
  | ct d => rw [e] at k; exact k
  | no => rw [e] at k; exact k
theorem zl {g : SE → Ctl} (h1 : SD X st g) : SDs X [st] g := let ⟨_, p, r⟩ := h1; ⟨_, zrY p, r⟩
noncomputable def sFz (i : Nat) (g : SE → Ctl) : SE → Ctl := fun ρ => g (zur ρ i)
theorem zcm {g : SE → Ctl} (i : Nat) (h : SDs X sts g) : SDs X sts (sFz i g) := by
  obtain ⟨t, p, r⟩ := h
  refine ⟨_, p, fun Fb Hb F H ρ σ E rl k => ?_⟩
  obtain ⟨F', rl'⟩ := rl.freeze i
  exact r Fb Hb F' H _ σ E rl' k
noncomputable def sNo : SE → Ctl := fun _ => .no
theorem Vd : SD X st sNo := ⟨_, zqM, fun _ _ _ _ _ _ _ _ h => h.elim⟩
noncomputable def yT (f : Ev → Option D) : SE → Ctl := fun ρ => match f (visG ρ) with
  | some d => .rt d
  | none => .no
theorem zB {f : Ev → Option D} (h : ED X e f) : SD X (.Return (some e) pos) (yT f) := by
  obtain ⟨t, p, r⟩ := h
  refine ⟨_, ztt p, fun Fb Hb F H ρ σ E rl k => ?_⟩
  unfold yT at k
  cases h : f (visG ρ) with
  | none => rw [h] at k; exact k.elim
  | some d =>
    rw [h] at k
    exact r σ _ _ H d _ rl.gh rl.visG h fun F' H' v g av => k F' H' v (rl.out g) av
noncomputable def zvm : SE → Ctl := fun _ => .rt .non
noncomputable def vEv (m : Bool) (f : Ev → Option D) (ρ : SE) : Option D := if m = true then (f (visG ρ)).bind fun d => if noL d = true then some d else none else f (visF ρ)
theorem RE.at {Fb Hb F H : Hp} {ρ : SE} {σ : St} {m : Bool} {f : Ev → Option D} {t : TE} {d : D} {Q : VK} (r : RE t f) (rl : Rl Fb Hb F H ρ σ) (h : vEv m f ρ = some d) (q : ∀ F' H' v, Gr F H F' H' → At F' d v → Q v H') : t σ H Q := by
  unfold vEv at h
  cases m with
  | false =>
    rw [if_neg Bool.false_ne_true] at h
    exact r σ _ _ H d _ rl.gr.fh rl.visF h q
  | true =>
    rw [if_pos rfl] at h
    obtain ⟨d', h1, h2⟩ := Option.bind_eq_some_iff.mp h
    split at h2 <;> cases h2
    rename_i hn
    refine r σ _ _ H d _ rl.gh rl.visG h1 fun F' H' v g av => ?_
    obtain ⟨g2, fl⟩ := rl.back g
    exact q _ H' v g2 (av.flat fl hn)
noncomputable def zbR (m : Bool) (i : Nat) (f : Ev → Option D) : SE → Ctl := fun ρ => match vEv m f ρ with
  | some d => .nx (ρ.set i (.v d))
  | none => .no
theorem xy {m : Bool} {i : Nat} {x : Str} {f : Ev → Option D} (hN : X.N.Nodup) (hi : X.N[i]? = some x) (hx : Loc X.env.scope x) (he : ED X e f) (hs : swapsWith e (some (.Name x pos')) pos.line X.env = pure false := by rfl)
    (hf : X.fn x = true ∨ X.env.scope.names.lookup x = some .local := by first | exact .inl rfl | exact .inr rfl | assumption) : SD X (.Assign [.Name x pos'] e pos) (zbR m i f) := by
  obtain ⟨t, p, r⟩ := he
  refine ⟨_, zna hN hi hx p hs hf, fun Fb Hb F H ρ σ E rl k => ?_⟩
  unfold zbR at k
  cases h : vEv m f ρ with
  | none => rw [h] at k; exact k.elim
  | some d =>
    rw [h] at k
    exact r.at rl h fun F' H' v g av => k F' H' _ ((rl.grow g).set av)
noncomputable def znI (f : Ev → Option D) : SE → Ctl := fun ρ => match f (visG ρ) with
  | some _ => .nx ρ
  | none => .no
theorem X8 {f : Ev → Option D} (he : ED X e f) (hs : swapsWith e none pos.line X.env = pure false := by rfl) : SD X (.Expr e pos) (znI f) := by
  obtain ⟨t, p, r⟩ := he
  refine ⟨_, zl8 p hs, fun Fb Hb F H ρ σ E rl k => ?_⟩
  unfold znI at k
  cases h : f (visG ρ) with
  | none => rw [h] at k; exact k.elim
  | some d =>
    rw [h] at k
    exact r σ _ _ H d _ rl.gh rl.visG h fun F' H' v g av => k _ H' σ (rl.grow (rl.back g).1)
noncomputable def zoi (i : Nat) (f : Ev → Option (List D)) : SE → Ctl := fun ρ => match f (visF ρ) with
  | some ds => .nx (ρ.set i (.o ds))
  | none => .no
theorem zce {i : Nat} {x : Str} {f : Ev → Option (List D)} (hN : X.N.Nodup) (hi : X.N[i]? = some x) (hx : Loc X.env.scope x) (he : FL X e f) (hs : swapsWith e (some (.Name x pos')) pos.line X.env = pure false := by rfl)
    (hf : X.fn x = true ∨ X.env.scope.names.lookup x = some .local := by first | exact .inl rfl | exact .inr rfl | assumption) : SD X (.Assign [.Name x pos'] e pos) (zoi i f) := by
  obtain ⟨t, p, r⟩ := he
  refine ⟨_, zna hN hi hx p hs hf, fun Fb Hb F H ρ σ E rl k => ?_⟩
  unfold zoi at k
  cases h : f (visF ρ) with
  | none => rw [h] at k; exact k.elim
  | some ds =>
    rw [h] at k
    refine r σ _ _ H ds _ rl.gr.fh rl.visF h fun F' H' q xs g h0 hF hH hx => ?_
    have rl2 := rl.grow g
    exact k F' H' _ (rl2.setO (rl.notbase h0) hF hH hx (rl.notown h0))
noncomputable def sIf (t : Ev → Option Bool) (g h : SE → Ctl) : SE → Ctl := fun ρ => match t (visG ρ) with
  | some true => g ρ
  | some false => h ρ
  | none => .no
theorem yq {as bs : List Stmt} {t : Ev → Option Bool} {g h : SE → Ctl} (hc : TD X c t) (ha : SDs X as g) (hb : SDs X bs h) : SD X (.If c as bs pos) (sIf t g h) := by
  obtain ⟨tc, pc, rc⟩ := hc
  obtain ⟨ta, pa, ra⟩ := ha
  obtain ⟨tb, pb, rb⟩ := hb
  refine ⟨_, zuF pc pa pb, fun Fb Hb F H ρ σ E rl k => ?_⟩
  unfold sIf at k
  cases h : t (visG ρ) with
  | none => rw [h] at k; exact k.elim
  | some d =>
    rw [h] at k
    refine rc σ _ _ H d _ rl.gh rl.visG h fun F' H' g => ?_
    have rl2 := rl.grow (rl.back g).1
    cases d with
    | true => rw [if_pos rfl]; exact ra Fb Hb _ H' ρ σ E rl2 k
    | false => rw [if_neg Bool.false_ne_true]; exact rb Fb Hb _ H' ρ σ E rl2 k
noncomputable def WG (t : Ev → Option Bool) (g : SE → Ctl) : Nat → SE → Ctl
  | 0, _ => .no
  | n + 1, ρ => match t (visG ρ) with
    | some true => match g ρ with
      | .nx ρ' => WG t g n ρ'
      | .ct ρ' => WG t g n ρ'
      | .bk ρ' => .nx ρ'
      | .rt d => .rt d
      | .no => .no
    | some false => .nx ρ
    | none => .no
theorem znz {as : List Stmt} {t : Ev → Option Bool} {g : SE → Ctl} (n : Nat) (hp : PassesOwn (model X.prog X.w) X.A X.env X.xe) (hc : TD X c t) (ha : SDs X as g) : SD X (.While c as [] pos) (WG t g n) := by
  obtain ⟨tc, pc, rc⟩ := hc
  obtain ⟨ta, pa, ra⟩ := ha
  refine ⟨_, zqc hp pc pa, fun Fb Hb F H ρ σ E rl k => ?_⟩
  refine ⟨fun m σ H => ∃ F ρ, Rl Fb Hb F H ρ σ ∧ SOk Fb Hb E (WG t g m ρ), ⟨n, F, ρ, rl, k⟩, ?_⟩
  rintro m σ H ⟨F, ρ, rl, k⟩
  cases m with
  | zero => exact k.elim
  | succ m =>
    unfold WG at k
    cases h : t (visG ρ) with
    | none => rw [h] at k; exact k.elim
    | some d =>
      rw [h] at k
      refine rc σ _ _ H d _ rl.gh rl.visG h fun F' H' gr => ?_
      have rl2 := rl.grow (rl.back gr).1
      cases d with
      | false => rw [if_neg Bool.false_ne_true]; exact k _ H' σ rl2
      | true =>
        rw [if_pos rfl]
        refine ⟨fun σ H => ∃ F ρ, Rl Fb Hb F H ρ σ ∧ SOk Fb Hb E (WG t g m ρ), fun σ' H' w => ⟨m, Nat.lt_succ_self m, w⟩, ?_⟩
        refine ra Fb Hb _ H' ρ σ _ rl2 ?_
        dsimp only at k
        cases hg : g ρ with
        | nx ρ' => rw [hg] at k; exact fun F2 H2 σ2 r2 => ⟨F2, ρ', r2, k⟩
        | ct ρ' => rw [hg] at k; exact fun F2 H2 σ2 r2 => ⟨F2, ρ', r2, k⟩
        | bk ρ' => rw [hg] at k; exact k
        | rt d => rw [hg] at k; exact k
        | no => rw [hg] at k; exact k.elim
noncomputable def RG (t : TG) (b : D → SE → Option SE) : Prop := ∀ (Fb Hb F H : Hp) (ρ ρ' : SE) (σ : St) (d : D) (v : V) (Q : St → Hp → Prop), Rl Fb Hb F H ρ σ → At F d v → b d ρ = some ρ' → (∀ σ', Rl Fb Hb F H ρ' σ' → Q σ' H) → t v σ H Q
noncomputable def RGs (t : TGs) (b : List D → SE → Option SE) : Prop := ∀ (Fb Hb F H : Hp) (ρ ρ' : SE) (σ : St) (ds : List D) (vs : List V) (Q : St → Hp → Prop), Rl Fb Hb F H ρ σ → AtL F ds vs → b ds ρ = some ρ' → (∀ σ', Rl Fb Hb F H ρ' σ' → Q σ' H) → t vs σ H Q
noncomputable def BD (X : Cx) (tg : Expr) (b : D → SE → Option SE) : Prop := ∃ t, PG X tg t ∧ RG t b
noncomputable def BDs (X : Cx) (tgs : List Expr) (b : List D → SE → Option SE) : Prop := ∃ t, PGs X tgs t ∧ RGs t b
noncomputable def xD (i : Nat) : D → SE → Option SE := fun d ρ => some (ρ.set i (.v d))
theorem yP {i : Nat} (h : PG X a (zbQ i)) : BD X a (xD i) := by
  refine ⟨_, h, fun Fb Hb F H ρ ρ' σ d v Q rl av e q => ?_⟩
  cases e
  exact q _ (rl.set av)
noncomputable def zra : List D → SE → Option SE
  | [], ρ => some ρ
  | _, _ => none
noncomputable def V0 (b : D → SE → Option SE) (c : List D → SE → Option SE) : List D → SE → Option SE
  | d :: ds, ρ => (b d ρ).bind (c ds)
  | [], _ => none
theorem zhm : BDs X [] zra := by
  refine ⟨_, zoP, fun Fb Hb F H ρ ρ' σ ds vs Q rl av e q => ?_⟩
  cases ds with
  | nil => cases e; exact ⟨av.nil_inv, q _ rl⟩
  | cons _ _ => cases e
theorem x5 {es : List Expr} {b : D → SE → Option SE} {c : List D → SE → Option SE} (h1 : BD X e b) (h2 : BDs X es c)
    (hs : (assignEach (e :: es) X.env).map (·.2) = assign e X.env :: (assignEach es X.env).map (·.2) := by rfl) : BDs X (e :: es) (V0 b c) := by
  obtain ⟨t, p, r⟩ := h1
  obtain ⟨u, p2, r2⟩ := h2
  refine ⟨_, zfn p p2 hs, fun Fb Hb F H ρ ρ' σ ds vs Q rl av e q => ?_⟩
  cases ds with
  | nil => cases e
  | cons d ds =>
    obtain ⟨x, xs, rfl, a1, a2⟩ := av.cons_inv
    obtain ⟨ρ1, e1, e2⟩ := Option.bind_eq_some_iff.mp e
    exact ⟨x, xs, rfl, r Fb Hb F H ρ ρ1 σ d x _ rl a1 e1 fun σ1 rl1 => r2 Fb Hb F H ρ1 ρ' σ1 ds xs Q rl1 a2 e2 q⟩
noncomputable def zqm (n : Nat) (c : List D → SE → Option SE) : D → SE → Option SE
  | .tup ds, ρ => if ds.length = n then c ds ρ else none
  | _, _ => none
theorem znx {es : List Expr} {k : Nat} {n : Nat} {c : List D → SE → Option SE} (hc : X.calm = true) (h : BDs X es c)
    (hn : (assignEach es X.env).length = n := by rfl) (hst : (assignEach es X.env).findIdx? (·.1) = none := by rfl) : BD X (.Tuple es k pos) (zqm n c) := by
  obtain ⟨t, p, r⟩ := h
  refine ⟨_, zqU hc p hn hst, fun Fb Hb F H ρ ρ' σ d v Q rl av e q => ?_⟩
  cases d with
  | tup ds =>
    unfold zqm at e
    dsimp only at e
    split at e
    · rename_i hl
      obtain ⟨a, xs, rfl, hx, al⟩ := av.tup_inv
      exact ⟨a, xs, rfl, SqT.of (rl.gr.fh _ _ hx), by rw [al.length]; exact hl, r Fb Hb F H ρ ρ' σ ds xs Q rl al e q⟩
    · cases e
  | _ => cases e
noncomputable def sAsg (m : Bool) (f : Ev → Option D) (b : D → SE → Option SE) : SE → Ctl := fun ρ => match (vEv m f ρ).bind fun d => b d ρ with
  | some ρ' => .nx ρ'
  | none => .no
noncomputable def zsg (m : Bool) (i : Nat) (fk fe : Ev → Option D) : SE → Ctl := fun ρ => match (vEv m fe ρ).bind fun d => (fk (visG ρ)).bind fun k => match ρ[i]?, k with
    | some (.o ds), .int k => (ixN ds.length k).map fun j => ρ.set i (.o (ds.set j d))
    | _, _ => none with
  | some ρ' => .nx ρ'
  | none => .no
theorem znG {m : Bool} {i : Nat} {ko : Expr} {fk fe : Ev → Option D} (he : ED X e fe) (ho : PE X a (zrk i)) (hk : ED X ko fk) (hs : swapsWithSole [.Subscript a ko pos'] e pos.line X.env = pure false := by rfl) (hw : swappedStores [.Subscript a ko pos'] e X.env = pure none := by rfl)
    (h1 : (assignEach [.Subscript a ko pos'] X.env).map (·.2) = [assign (.Subscript a ko pos') X.env] := by rfl)
    (ha : ∀ v, assign (.Subscript a ko pos') X.env v = (do
      let ov ← holding [v] (eval a X.env)
      let iv ← holding [v, ov] (eval ko X.env)
      standAt pos'
      holding [v, ov, iv] (setItem ov iv v)
      release [v, ov, iv] []) := by intro _; rfl) : SD X (.Assign [.Subscript a ko pos'] e pos) (zsg m i fk fe) := by
  obtain ⟨t, p, r⟩ := he
  obtain ⟨tk, pk, rk⟩ := hk
  refine ⟨_, ztV p (zto ho pk zpZ ha) hs hw h1, fun Fb Hb F H ρ σ E rl k => ?_⟩
  unfold zsg at k
  cases h : (vEv m fe ρ).bind fun d => (fk (visG ρ)).bind fun k => match ρ[i]?, k with
    | some (.o ds), .int k => (ixN ds.length k).map fun j => ρ.set i (.o (ds.set j d))
    | _, _ => none with
  | none => rw [h] at k; exact k.elim
  | some ρ' =>
    rw [h] at k
    obtain ⟨d, e1, e2⟩ := Option.bind_eq_some_iff.mp h
    obtain ⟨kd, e3, e2⟩ := Option.bind_eq_some_iff.mp e2
    cases hs : ρ[i]? with
    | none => rw [hs] at e2; cases e2
    | some sl =>
      rw [hs] at e2
      cases sl with
      | no => cases e2
      | v _ => cases e2
      | m _ _ _ => cases e2
      | o ds =>
        cases kd with
        | int kk =>
          obtain ⟨j, e4, rfl⟩ := Option.map_eq_some_iff.mp e2
          refine r.at rl e1 fun F' H' v g av => ?_
          have rl2 := rl.grow g
          obtain ⟨q, xs, f1, _⟩ := rl2.owns i ds hs
          refine ⟨_, f1, ?_⟩
          refine rk σ _ _ H' _ _ rl2.gh rl2.visG e3 fun F3 H3 v3 g3 av3 => ?_
          obtain ⟨gb, _⟩ := rl2.back g3
          have rl3 := rl2.grow gb
          obtain ⟨q3, xs3, f1', _, _, f4, f5⟩ := rl3.owns i ds hs
          rw [f1] at f1'
          cases f1'
          refine ⟨q, xs3, kk, j, rfl, av3.int_inv, f4, by rw [f5.length]; exact e4, ?_⟩
          exact k _ _ σ (rl3.mutate hs f1 (f5.set j (av.mono gb.ff)))
        | _ => cases e2
end
end Dl
namespace L2
open PySem PySem.Spec PyProof.Rows
section
variable {X : Cx} {tg : Expr}
noncomputable def iSeq (K : PySem.W.Frag) (tl : TE) : TI := fun σ H R => tl σ H fun x H1 => (∃ a, x = .ref a ∧ (∃ xs, SqL K H1 a xs) ∧ R (Itl K a) H1) ∨ (∃ a, x = .ref a ∧ (∃ xs, SqT K H1 a xs) ∧ R (Itt K a) H1)
theorem zs7 {l : Expr} {tl : TE} (hl : PE X l tl) : PI X tg l (iSeq X.K tl) := by
  intro pins s σ H R I h
  refine thn (hl pins s σ H _ I h) fun v s1 hh9 => ?_
  obtain ⟨x, H1, I1, r1, q1⟩ := hh9
  rcases q1 with ⟨a, e, ⟨xs, hq⟩, q⟩ | ⟨a, e, ⟨xs, hq⟩, q⟩
  · subst e
    cases r1
    obtain ⟨its, rv, p, hz⟩ := I1.list hq
    refine wpAny_pyIter_list p.isList ?_
    refine ⟨s1.heap.objs.size, [s1.heap.objs.size], _, _, H1, rfl, I1.kept (t' := s1.toks) fun b o e => Heap.get?_push_of_some _ e, zot a _, ⟨_, Heap.get?_push_size _ rfl, rfl, rfl⟩, fun b hb => ?_, q⟩
    have e : b = s1.heap.objs.size := by simpa using hb
    subst e
    exact I1.fpOk (Nat.le_refl _) (I1.hok.fresh (Nat.le_refl _))
  · subst e
    cases r1
    obtain ⟨its, rv, p, hz⟩ := I1.tuple hq
    refine wpAny_pyIter_tuple (show s1.heap.IsTuple a its.toArray from p) ?_
    refine ⟨s1.heap.objs.size, [s1.heap.objs.size], _, _, H1, rfl, I1.kept (t' := s1.toks) fun b o e => Heap.get?_push_of_some _ e, znN a _, ⟨_, Heap.get?_push_size _ rfl, rfl, rfl⟩, fun b hb => ?_, q⟩
    have e : b = s1.heap.objs.size := by simpa using hb
    subst e
    exact I1.fpOk (Nat.le_refl _) (I1.hok.fresh (Nat.le_refl _))
end
end L2
namespace Dl
open PySem L2
variable [KK]
noncomputable def zsE (J : It) (F : Hp) (ds : List D) : Prop := ∀ (i : Nat) (F2 H2 : Hp), yW F F2 → yW F2 H2 → (i = ds.length → J.stop i H2) ∧
  ∀ d, ds[i]? = some d → J.go i H2 ∧ ∀ x H3, J.yld i H2 x H3 → ∃ F3, Gr F2 H2 F3 H3 ∧ At F3 d x
noncomputable def RI (wi : TI) (f : Ev → Option (List D)) : Prop :=
  ∀ (σ : St) (ρ : Ev) (F H : Hp) (ds : List D) (R : It → Hp → Prop), yW F H → VAt F ρ σ → f ρ = some ds → (∀ F' H' J, Gr F H F' H' → zsE J F' ds → R J H') → wi σ H R
noncomputable def ID (X : Cx) (tg iter : Expr) (f : Ev → Option (List D)) : Prop := ∃ wi, PI X tg iter wi ∧ RI wi f
noncomputable def zdd : D → Option (List D)
  | .lst ds => some ds
  | .tup ds => some ds
  | _ => none
section
variable {X : Cx} {tg a b c e : Expr} {pos : Pos}
theorem ztd {K : PySem.W.Frag} {F : Hp} {p : Addr} {xs : List V} {ds : List D} (h : F p = some (.lst xs)) (al : AtL F ds xs) : zsE (Itl K p) F ds := by
  intro i F2 H2 s1 s2
  have q : SqL K H2 p xs := SqL.of (s2 _ _ (s1 _ _ h))
  refine ⟨fun hl => ⟨xs, q, by rw [al.length, hl]; exact Nat.le_refl _⟩, fun d hd => ?_⟩
  obtain ⟨x, hx, ax⟩ := al.get hd
  refine ⟨⟨xs, x, q, hx⟩, fun y H3 hy => ?_⟩
  obtain ⟨rfl, hy⟩ := hy
  have := hy xs q
  rw [hx] at this
  cases this
  exact ⟨F2, .refl s2, ax.mono s1⟩
theorem zsX {K : PySem.W.Frag} {F : Hp} {p : Addr} {xs : List V} {ds : List D} (h : F p = some (.tup xs)) (al : AtL F ds xs) : zsE (Itt K p) F ds := by
  intro i F2 H2 s1 s2
  have q : SqT K H2 p xs := SqT.of (s2 _ _ (s1 _ _ h))
  refine ⟨fun hl => ⟨xs, q, by rw [al.length, hl]; exact Nat.le_refl _⟩, fun d hd => ?_⟩
  obtain ⟨x, hx, ax⟩ := al.get hd
  refine ⟨⟨xs, x, q, hx⟩, fun y H3 hy => ?_⟩
  obtain ⟨rfl, hy⟩ := hy
  have := hy xs q
  rw [hx] at this
  cases this
  exact ⟨F2, .refl s2, ax.mono s1⟩
noncomputable def iOf (f : Ev → Option D) : Ev → Option (List D) := fun ρ => (f ρ).bind zdd
theorem zb7 {f : Ev → Option D} (ha : ED X a f) : ID X tg a (iOf f) := by
  obtain ⟨t, p, r⟩ := ha
  refine ⟨_, zs7 p, fun σ ρ F H ds R s va e q => ?_⟩
  obtain ⟨d, e1, e2⟩ := Option.bind_eq_some_iff.mp e
  refine r σ ρ F H d _ s va e1 fun F1 H1 v g1 a1 => ?_
  cases d <;> try cases e2
  · obtain ⟨p, xs, rfl, hx, al⟩ := a1.tup_inv
    exact .inr ⟨p, rfl, ⟨xs, SqT.of (g1.fh _ _ hx)⟩, q F1 H1 _ g1 (zsX hx al)⟩
  · obtain ⟨p, xs, rfl, hx, al⟩ := a1.lst_inv
    exact .inl ⟨p, rfl, ⟨xs, SqL.of (g1.fh _ _ hx)⟩, q F1 H1 _ g1 (ztd hx al)⟩
noncomputable def zm6 (lo : Int) (n : Nat) : List D := (List.range n).map fun k : Nat => .int (lo + k)
theorem znf {F : Hp} (lo : Int) (n : Nat) : zsE (Itr lo n) F (zm6 lo n) := by
  intro i F2 H2 s1 s2
  have hlen : (zm6 lo n).length = n := by unfold zm6; simp
  refine ⟨fun hl => by rw [hlen] at hl; rw [hl]; exact Nat.le_refl _, fun d hd => ?_⟩
  have hi : i < n := by
    have := (List.getElem?_eq_some_iff.mp hd).1
    omega
  refine ⟨hi, fun y H3 hy => ?_⟩
  obtain ⟨rfl, rfl⟩ := hy
  refine ⟨F2, .refl s2, ?_⟩
  unfold zm6 at hd
  rw [List.getElem?_map, List.getElem?_range hi] at hd
  cases hd
  exact .int
@[irreducible] noncomputable def zsN (j : Int) : Bool := decide (-(2 ^ 62) ≤ j ∧ j < 2 ^ 62)
omit [KK] in
theorem y0 {j : Int} : zsN j = true ↔ -(2 ^ 62) ≤ j ∧ j < 2 ^ 62 := by unfold zsN; exact decide_eq_true_iff
noncomputable def zmS : List D → Option (List D)
  | [.int j] => if zsN j = true then some (zm6 0 j.toNat) else none
  | _ => none
noncomputable def zll : List D → Option (List D)
  | [.int i, .int j] => if zsN i = true ∧ zsN j = true then some (zm6 i (j - i).toNat) else none
  | _ => none
noncomputable def zoh (g : List D → Option (List D)) (f : Ev → Option (List D)) : Ev → Option (List D) := fun ρ => (f ρ).bind g
theorem zar {p : Pos} {f : Ev → Option (List D)} (hg : Gl X "range") (hm : X.mg "range" = none) (ha : AD X [a] f) (hs : starEach [a] X.env = [(false, eval a X.env)] := by rfl) : ID X tg (.Call (.Name "range" p) [a] [] pos) (zoh zmS f) := by
  obtain ⟨t, pa, r⟩ := ha
  refine ⟨_, zlf hg hm pa hs, fun σ ρ F H ds R s va e q => ?_⟩
  obtain ⟨d, e1, e2⟩ := Option.bind_eq_some_iff.mp e
  refine r σ ρ F H d _ s va e1 fun F1 H1 v g1 a1 => ?_
  unfold zmS at e2
  split at e2
  · split at e2
    · cases e2
      rename_i hc
      obtain ⟨x, r', rfl, ax, ar⟩ := a1.cons_inv
      cases ar.nil_inv
      exact ⟨_, by rw [ax.int_inv], (y0.mp hc).1, (y0.mp hc).2, q F1 H1 _ g1 (znf 0 _)⟩
    · cases e2
  · cases e2
theorem zca {p : Pos} {f : Ev → Option (List D)} (hg : Gl X "range") (hm : X.mg "range" = none) (ha : AD X [a, b] f) (hs : starEach [a, b] X.env = [(false, eval a X.env), (false, eval b X.env)] := by rfl) (hs2 : starEach [b] X.env = [(false, eval b X.env)] := by rfl) :
    ID X tg (.Call (.Name "range" p) [a, b] [] pos) (zoh zll f) := by
  obtain ⟨t, pa, r⟩ := ha
  refine ⟨_, zk3 hg hm pa hs hs2, fun σ ρ F H ds R s va e q => ?_⟩
  obtain ⟨d, e1, e2⟩ := Option.bind_eq_some_iff.mp e
  refine r σ ρ F H d _ s va e1 fun F1 H1 v g1 a1 => ?_
  unfold zll at e2
  split at e2
  · split at e2
    · cases e2
      rename_i hc
      obtain ⟨x, r', rfl, ax, ar⟩ := a1.cons_inv
      obtain ⟨y, r', rfl, ay, ar⟩ := ar.cons_inv
      cases ar.nil_inv
      exact ⟨_, _, by rw [ax.int_inv, ay.int_inv], ⟨(y0.mp hc.1).1, (y0.mp hc.1).2, (y0.mp hc.2).1, (y0.mp hc.2).2⟩, q F1 H1 _ g1 (znf _ _)⟩
    · cases e2
  · cases e2
noncomputable def zkB (n : Nat) : List D → List D
  | [] => []
  | d :: ds => .tup [.int n, d] :: zkB (n + 1) ds
omit [KK] in
theorem zjy (ds : List D) : ∀ (n i : Nat), (zkB n ds)[i]? = (ds[i]?).map fun d => .tup [.int ((n + i : Nat) : Int), d] := by
  induction ds with
  | nil => intro n i; simp [zkB]
  | cons d ds ih =>
    intro n i
    cases i with
    | zero => simp [zkB]
    | succ i =>
      show (zkB (n + 1) ds)[i]? = (ds[i]?).map _
      rw [ih]
      have : n + 1 + i = n + (i + 1) := by omega
      rw [this]
omit [KK] in
theorem zbJ (ds : List D) : ∀ n, (zkB n ds).length = ds.length := by
  induction ds with
  | nil => intro n; rfl
  | cons d ds ih => intro n; simp [zkB, ih]
noncomputable def zm7 (f : Ev → Option (List D)) : Ev → Option (List D) := fun ρ => (f ρ).bind fun as => match as with
  | [d] => (zdd d).map (zkB 0)
  | _ => none
theorem zo6 {es : List Expr} {k : Nat} {tp p : Pos} {f : Ev → Option (List D)} (hg : Gl X "enumerate") (hm : X.mg "enumerate" = none) (hb : bootBuiltins "enumerate" = some (.type "enumerate")) (ha : AD X [a] f)
    (hs : starEach [a] X.env = [(false, eval a X.env)] := by rfl) : ID X (.Tuple es k tp) (.Call (.Name "enumerate" p) [a] [] pos) (zm7 f) := by
  obtain ⟨t, pa, r⟩ := ha
  refine ⟨_, zsc hg hm hb pa hs, fun σ ρ F H ds R s va e q => ?_⟩
  obtain ⟨as, e1, e2⟩ := Option.bind_eq_some_iff.mp e
  refine r σ ρ F H as _ s va e1 fun F1 H1 v g1 a1 => ?_
  split at e2
  · obtain ⟨x, r', rfl, ax, ar⟩ := a1.cons_inv
    cases ar.nil_inv
    obtain ⟨es, e3, rfl⟩ := Option.map_eq_some_iff.mp e2
    rename_i d
    cases d <;> try cases e3
    · obtain ⟨p, xs, rfl, hx, al⟩ := ax.tup_inv
      refine ⟨p, rfl, .inr ⟨xs, SqT.of (g1.fh _ _ hx), q F1 H1 _ g1 fun i F2 H2 s1 s2 => ?_⟩⟩
      have qq : SqT X.K H2 p xs := SqT.of (s2 _ _ (s1 _ _ hx))
      refine ⟨fun hl => ⟨xs, qq, by rw [al.length, hl, zbJ]; exact Nat.le_refl _⟩, fun d hd => ?_⟩
      rw [zjy] at hd
      obtain ⟨d', hd', rfl⟩ := Option.map_eq_some_iff.mp hd
      obtain ⟨x, hxi, ax⟩ := al.get hd'
      refine ⟨⟨xs, x, qq, hxi⟩, fun y H3 hy => ?_⟩
      obtain ⟨T, y, rfl, hT, rfl, hy⟩ := hy
      have := hy xs qq
      rw [hxi] at this
      cases this
      have g3 := Gr.alloc s2 hT (.tup [.int i, x])
      exact ⟨_, g3, .tup zy (.cons (by rw [Nat.zero_add]; exact .int) (.cons (ax.mono (s1.trans g3.ff)) .nil))⟩
    · obtain ⟨p, xs, rfl, hx, al⟩ := ax.lst_inv
      refine ⟨p, rfl, .inl ⟨xs, g1.fh _ _ hx, q F1 H1 _ g1 fun i F2 H2 s1 s2 => ?_⟩⟩
      have qq : SqL X.K H2 p xs := SqL.of (s2 _ _ (s1 _ _ hx))
      refine ⟨fun hl => ⟨xs, qq, by rw [al.length, hl, zbJ]; exact Nat.le_refl _⟩, fun d hd => ?_⟩
      rw [zjy] at hd
      obtain ⟨d', hd', rfl⟩ := Option.map_eq_some_iff.mp hd
      obtain ⟨x, hxi, ax⟩ := al.get hd'
      refine ⟨⟨xs, x, qq, hxi⟩, fun y H3 hy => ?_⟩
      obtain ⟨T, y, rfl, hT, rfl, hy⟩ := hy
      have := hy xs qq
      rw [hxi] at this
      cases this
      have g3 := Gr.alloc s2 hT (.tup [.int i, x])
      exact ⟨_, g3, .tup zy (.cons (by rw [Nat.zero_add]; exact .int) (.cons (ax.mono (s1.trans g3.ff)) .nil))⟩
  · cases e2
noncomputable def hb2 (F1 Hb : Hp) : Hp := fun p => match F1 p with
  | some o => some o
  | none => Hb p
theorem zbU {F1 Hb : Hp} {p : Addr} (h : F1 p = none) : hb2 F1 Hb p = Hb p := by unfold hb2; rw [h]
theorem zp7 {F1 Hb : Hp} {p : Addr} {o : HO} (h : F1 p = some o) : hb2 F1 Hb p = some o := by unfold hb2; rw [h]
theorem Gr.up {Fb Hb F1 H1 F H : Hp} (g1 : Gr Fb Hb F1 H1) (g : Gr F1 (hb2 F1 Hb) F H) : Gr Fb Hb F H := by
  refine ⟨g1.ff.trans g.ff, g.fh, fun p o e1 e2 => ?_⟩
  rcases (g1.kp p o e1 e2).1 with n | ⟨n1, n2⟩
  · exact g.kp p o n (by rw [zbU n]; exact e2)
  · exact ⟨.inr ⟨n1, g.ff _ _ n2⟩, g.fh _ _ (g.ff _ _ n2)⟩
theorem Gr.dn {Fb Hb F1 F H : Hp} (g : Gr Fb Hb F H) (s1 : yW Fb F1) (s : yW F1 F) : Gr F1 (hb2 F1 Hb) F H := by
  refine ⟨s, g.fh, fun p o e1 e2 => ?_⟩
  rw [zbU e1] at e2
  exact g.kp p o (s1.free e1) e2
theorem Rl.up {Fb Hb F1 H1 F H : Hp} {ρ : SE} {σ : St} (g1 : Gr Fb Hb F1 H1) (r : Rl F1 (hb2 F1 Hb) F H ρ σ) : Rl Fb Hb F H ρ σ := by
  refine ⟨g1.up r.gr, r.vals, fun i s e ho => ?_, r.dis, r.len⟩
  obtain ⟨p, o, e1, e2, e3⟩ := r.ows i s e ho
  refine ⟨p, o, e1, ?_, e3⟩
  cases h : F1 p with
  | none => rw [zbU h] at e2; exact e2
  | some o => rw [zp7 h] at e2; cases e2
theorem Rl.dn {Fb Hb F1 F H : Hp} {ρ : SE} {σ : St} (r : Rl Fb Hb F H ρ σ) (s1 : yW Fb F1) (s : yW F1 F) : Rl F1 (hb2 F1 Hb) F H ρ σ := by
  refine ⟨r.gr.dn s1 s, r.vals, fun i t e ho => ?_, r.dis, r.len⟩
  obtain ⟨p, o, e1, e2, e3, e4⟩ := r.ows i t e ho
  refine ⟨p, o, e1, ?_, e3, e4⟩
  rw [zbU (s.free e3)]
  exact e2
noncomputable def zpa (b : D → SE → Option SE) (g : SE → Ctl) : List D → SE → Ctl
  | [], ρ => .nx ρ
  | d :: ds, ρ => match b d ρ with
    | none => .no
    | some ρ1 => match g ρ1 with
      | .nx ρ' => zpa b g ds ρ'
      | .ct ρ' => zpa b g ds ρ'
      | .bk ρ' => .nx ρ'
      | .rt d => .rt d
      | .no => .no
noncomputable def zlm (f : Ev → Option (List D)) (b : D → SE → Option SE) (g : SE → Ctl) : SE → Ctl := fun ρ => match f (visF ρ) with
  | some ds => zpa b g ds ρ
  | none => .no
theorem zpf {Fb Hb F1 H1 : Hp} {ρ : SE} {σ : St} {E : zpN} {J : It} {g : TG} {tb : TS} {ds : List D} {b : D → SE → Option SE} {gb : SE → Ctl} (hit : zsE J F1 ds) (rg : RG g b) (rb : RS tb gb) (rl0 : Rl Fb Hb F1 H1 ρ σ) (k : SOk Fb Hb E (zpa b gb ds ρ)) :
    ∃ W : Nat → Nat → St → Hp → Prop, (∃ m, W 0 m σ H1) ∧ ∀ i m σ H, W i m σ H →
      (J.stop i H ∧ E.nx σ H) ∨ (J.go i H ∧ ∃ N : St → Hp → Prop, (∀ σ' H', N σ' H' → ∃ m', m' < m ∧ W (i + 1) m' σ' H') ∧ ∀ x H', J.yld i H x H' → g x σ H' fun σ2 H2 => tb { E with nx := N, ct := N, bk := E.nx } σ2 H2) := by
  refine ⟨fun i m σ H => m = ds.length - i ∧ i ≤ ds.length ∧ ∃ F ρ, yW F1 F ∧ Rl Fb Hb F H ρ σ ∧ SOk Fb Hb E (zpa b gb (ds.drop i) ρ), ⟨ds.length, by simp, Nat.zero_le _, F1, ρ, yW.refl _, rl0, k⟩, ?_⟩
  rintro i m σ H ⟨rfl, hi, F, ρ, s1, rl, k⟩
  obtain ⟨stop, go⟩ := hit i F H s1 rl.gr.fh
  by_cases hlt : i < ds.length
  · have hd : ds.drop i = ds[i] :: ds.drop (i + 1) := List.drop_eq_getElem_cons hlt
    rw [hd] at k
    unfold zpa at k
    obtain ⟨g1, g2⟩ := go ds[i] (by simp [hlt])
    refine .inr ⟨g1, fun σ H => ∃ F ρ, yW F1 F ∧ Rl Fb Hb F H ρ σ ∧ SOk Fb Hb E (zpa b gb (ds.drop (i + 1)) ρ), fun σ' H' w => ⟨ds.length - (i + 1), by omega, rfl, hlt, w⟩, fun x H' hy => ?_⟩
    obtain ⟨F3, g3, a3⟩ := g2 x H' hy
    cases hb : b ds[i] ρ with
    | none => rw [hb] at k; exact k.elim
    | some ρ1 =>
      rw [hb] at k
      dsimp only at k
      refine rg Fb Hb F3 H' ρ ρ1 σ _ x _ (rl.grow g3) a3 hb fun σ2 rl2 => ?_
      have s3 := s1.trans g3.ff
      refine rb F1 (hb2 F1 Hb) F3 H' ρ1 σ2 _ (rl2.dn rl0.gr.ff s3) ?_
      cases hg : gb ρ1 with
      | nx ρ' => rw [hg] at k; exact fun F4 H4 σ4 r4 => ⟨F4, ρ', r4.gr.ff, r4.up rl0.gr, k⟩
      | ct ρ' => rw [hg] at k; exact fun F4 H4 σ4 r4 => ⟨F4, ρ', r4.gr.ff, r4.up rl0.gr, k⟩
      | bk ρ' => rw [hg] at k; exact fun F4 H4 σ4 r4 => k F4 H4 σ4 (r4.up rl0.gr)
      | rt d => rw [hg] at k; exact fun F4 H4 v g4 a4 => k F4 H4 v (rl0.gr.up g4) a4
      | no => rw [hg] at k; exact k.elim
  · have e : i = ds.length := by omega
    subst e
    rw [List.drop_length] at k
    exact .inl ⟨stop rfl, k F H σ rl⟩
theorem zba {iter : Expr} {body : List Stmt} {f : Ev → Option (List D)} {b : D → SE → Option SE} {g : SE → Ctl} (hp : PassesOwn (model X.prog X.w) X.A X.env X.xe) (hc : X.calm = true) (hi : ID X tg iter f) (hg : BD X tg b) (hb : SDs X body g)
    (hs : ∀ x, foldedSetIterable iter X.env x = pure x := by intro _; rfl) : SD X (.For tg iter body [] pos) (zlm f b g) := by
  obtain ⟨wi, pi, ri⟩ := hi
  obtain ⟨tg', pg, rg⟩ := hg
  obtain ⟨tb, pb, rb⟩ := hb
  refine ⟨_, zo7 hp hc pi pg pb hs, fun Fb Hb F H ρ σ E rl k => ?_⟩
  unfold zlm at k
  cases h : f (visF ρ) with
  | none => rw [h] at k; exact k.elim
  | some ds =>
    rw [h] at k
    exact ri σ _ _ H ds _ rl.gr.fh rl.visF h fun F1 H1 J g1 ok => zpf ok rg rb (rl.grow g1) k
end
noncomputable def lcD (b : D → Option (List (Option D))) (t : Ev → Option Bool) (f : Ev → Option D) (ρ : Ev) : List D → Option (List D)
  | [] => some []
  | d :: ds => (b d).bind fun own => (t (own ++ ρ)).bind fun c => if c = true then (f (own ++ ρ)).bind fun y => (lcD b t f ρ ds).map (y :: ·) else lcD b t f ρ ds
noncomputable def fLC (i : Ev → Option (List D)) (b : D → Option (List (Option D))) (t : Ev → Option Bool) (f : Ev → Option D) : Ev → Option (List D) := fun ρ => (i ρ).bind fun ds => if lim ds.length = true then lcD b t f ρ ds else none
noncomputable def b1 : D → Option (List (Option D)) := fun d => some [some d]
noncomputable def b2 : D → Option (List (Option D))
  | .tup [x, y] => some [some x, some y]
  | _ => none
noncomputable def RB (n : Nat) (t : TG) (b : D → Option (List (Option D))) : Prop := ∀ (σ : St) (ρ : Ev) (F H : Hp) (d : D) (v : V) (own : List (Option D)) (Q : St → Hp → Prop), yW F H → VAt F ρ σ → At F d v → b d = some own → (∀ σ', VAt F (own ++ ρ) σ' → Q σ' H) → t v (List.replicate n none ++ σ) H Q
noncomputable def zj7 : Ev → Option Bool := fun _ => some true
theorem ztS : RT tYes zj7 := fun _ _ _ _ _ _ s _ e q => by cases e; exact q _ _ (.refl s)
theorem zug {wi : TI} {n : Nat} {g : TG} {tt : TT} {te : TE} {fi : Ev → Option (List D)} {b : D → Option (List (Option D))} {ft : Ev → Option Bool} {fe : Ev → Option D} (ri : RI wi fi) (rg : RB n g b) (rt : RT tt ft) (re : RE te fe) :
    RF (tLC wi n g tt te) (fLC fi b ft fe) := by
  intro σ ρ F H out Q s va e q
  obtain ⟨ds, e1, e2⟩ := Option.bind_eq_some_iff.mp e
  split at e2 <;> try cases e2
  rename_i hlim
  have hlim : ds.length ≤ sizeLine := of_decide_eq_true hlim
  refine ri σ ρ F H ds _ s va e1 fun F1 H1 J g1 ok => ?_
  intro P hP
  have hF1 : F1 P = none := g1.fh.free hP
  have hH0 : H P = none := by
    cases e : H P with
    | none => rfl
    | some o =>
      cases e2 : F P with
      | none => rw [(g1.kp P o e2 e).2] at hP; cases hP
      | some u => rw [g1.fh _ _ (g1.ff _ _ e2)] at hP; cases hP
  refine ⟨fun i m ys H2 => m = ds.length - i ∧ i ≤ ds.length ∧ ∃ F2 done, Gr F1 H1 F2 H2 ∧ Gr F1 (upd H1 P (.lst [])) F2 (upd H2 P (.lst [])) ∧ F2 P = none ∧ H2 P = some (.lst ys) ∧ AtL F2 done ys ∧ done.length ≤ i ∧ ∃ more, lcD b ft fe ρ (ds.drop i) = some more ∧ done ++ more = out, ⟨ds.length, by simp, Nat.zero_le _, F1, [], Gr.hide g1.fh hP _, ?_, hF1, zy, .nil, Nat.zero_le _, out, e2, rfl⟩, ?_⟩
  · rw [zmL]
    exact .refl fun b u z => by rw [zA (zx z hF1)]; exact g1.fh b u z
  rintro i m ys H2 ⟨rfl, hi, F2, done, g2, g2', hF2, hH2, al, hdl, more, hm, hout⟩
  obtain ⟨stop, go⟩ := ok i F2 H2 g2.ff g2.fh
  by_cases hlt : i < ds.length
  · have hd : ds.drop i = ds[i] :: ds.drop (i + 1) := List.drop_eq_getElem_cons hlt
    rw [hd] at hm
    unfold lcD at hm
    obtain ⟨own, hb, hm⟩ := Option.bind_eq_some_iff.mp hm
    obtain ⟨cb, hc, hm⟩ := Option.bind_eq_some_iff.mp hm
    obtain ⟨k1, k2⟩ := go ds[i] (by simp [hlt])
    refine .inr ⟨k1, by rw [al.length]; omega, fun x H3 hy => ?_⟩
    obtain ⟨F3, g3, a3⟩ := k2 x H3 hy
    refine rg σ ρ F3 H3 ds[i] x own _ g3.fh (va.mono (g1.ff.trans (g2.ff.trans g3.ff))) a3 hb fun σ4 va4 => ?_
    refine rt σ4 _ F3 H3 cb _ g3.fh va4 hc fun F5 H5 g5 => ?_
    have g35 := g3.trans g5
    obtain ⟨n5, h5⟩ := g35.kl (fun _ e => by cases e) hF2 hH2
    have keep2 : ∀ {F6 H6 : Hp} {o : HO}, Gr F2 H2 F6 H6 → F6 P = none → Gr F1 (upd H1 P (.lst [])) F6 (upd (upd H6 P o) P (.lst [])) := fun {F6 H6 o} g6 n6 => by
      rw [zmL]
      refine ⟨g2.ff.trans g6.ff, fun b u z => ?_, fun b u z1 z2 => ?_⟩
      · rw [zA (zx z n6)]; exact g6.fh b u z
      · by_cases hbP : b = P
        · subst hbP
          rw [zy] at z2 ⊢
          exact ⟨.inl n6, z2⟩
        · rw [zA hbP] at z2 ⊢
          exact (g2.trans g6).kp b u z1 z2
    have keep1 : ∀ {F6 H6 : Hp} {o : HO}, Gr F2 H2 F6 H6 → F6 P = none → Gr F1 H1 F6 (upd H6 P o) := fun {F6 H6 o} g6 n6 => by
      refine ⟨g2.ff.trans g6.ff, fun b u z => ?_, fun b u z1 z2 => ?_⟩
      · rw [zA (zx z n6)]; exact g6.fh b u z
      · rw [zA (zx z2 hP)]
        exact (g2.trans g6).kp b u z1 z2
    cases cb with
    | false =>
      rw [if_neg Bool.false_ne_true] at hm ⊢
      have ups : H5 = upd H5 P (.lst ys) := by
        funext b
        by_cases hbP : b = P
        · subst hbP; rw [zy]; exact h5
        · rw [zA hbP]
      refine ⟨ds.length - (i + 1), by omega, rfl, hlt, F5, done, ?_, ?_, n5, h5, al.mono g35.ff, by omega, more, hm, hout⟩
      · rw [ups]; exact keep1 g35 n5
      · have := keep2 (o := .lst ys) g35 n5
        rw [← ups] at this
        exact this
    | true =>
      rw [if_pos rfl] at hm ⊢
      obtain ⟨y, hy, hm⟩ := Option.bind_eq_some_iff.mp hm
      obtain ⟨rest, hm', rfl⟩ := Option.map_eq_some_iff.mp hm
      refine re σ4 _ F5 H5 y _ g5.fh (va4.mono g5.ff) hy fun F6 H6 v g6 a6 => ?_
      have g36 := g35.trans g6
      obtain ⟨n6, h6⟩ := g36.kl (fun _ e => by cases e) hF2 hH2
      refine ⟨h6, ds.length - (i + 1), by omega, rfl, hlt, F6, done ++ [y], keep1 g36 n6, keep2 g36 n6, n6, zy, (al.mono g36.ff).snoc a6, by rw [List.length_append]; simp; omega, rest, hm', by rw [← hout, List.append_assoc]; rfl⟩
  · have e : i = ds.length := by omega
    subst e
    rw [List.drop_length] at hm
    cases hm
    rw [List.append_nil] at hout
    subst hout
    exact .inl ⟨stop rfl, q F2 H2 P ys (g1.trans g2) hH0 hF2 hH2 al⟩
theorem rb1 : RB 1 (zbQ 0) b1 := by
  intro σ ρ F H d v own Q s va av e q
  cases e
  refine q _ fun i d' h => ?_
  cases i with
  | zero => cases h; exact ⟨v, rfl, av⟩
  | succ i => exact va i d' h
theorem rb2 {K : PySem.W.Frag} : RB 2 (zus K 2 (zmU (zbQ 0) (zmU (zbQ 1) zuq))) b2 := by
  intro σ ρ F H d v own Q s va av e q
  unfold b2 at e
  split at e <;> cases e
  obtain ⟨p, xs, rfl, hx, al⟩ := av.tup_inv
  obtain ⟨x, r, rfl, ax, al⟩ := al.cons_inv
  obtain ⟨y, r, rfl, ay, al⟩ := al.cons_inv
  cases al.nil_inv
  refine ⟨p, _, rfl, SqT.of (s _ _ hx), rfl, x, _, rfl, y, _, rfl, rfl, ?_⟩
  refine q _ fun i d' h => ?_
  match i, h with
  | 0, h => cases h; exact ⟨x, rfl, ax⟩
  | 1, h => cases h; exact ⟨y, rfl, ay⟩
  | i + 2, h => exact va i d' h
noncomputable def tCan (f : Ev → Option D) : TE := fun σ H Q => ∃ ρ F d, yW F H ∧ VAt F ρ σ ∧ f ρ = some d ∧ ∀ F' H' v, Gr F H F' H' → At F' d v → Q v H'
noncomputable def zta (f : Ev → Option Bool) : TT := fun σ H Q => ∃ ρ F d, yW F H ∧ VAt F ρ σ ∧ f ρ = some d ∧ ∀ F' H', Gr F H F' H' → Q d H'
theorem ED.can {X : Cx} {e : Expr} {f : Ev → Option D} (h : ED X e f) : PE X e (tCan f) := by
  obtain ⟨t, p, r⟩ := h
  rintro pins s σ H Q I ⟨ρ, F, d, h1, h2, h3, h4⟩
  exact p pins s σ H Q I (r σ ρ F H d Q h1 h2 h3 h4)
theorem TD.can {X : Cx} {e : Expr} {f : Ev → Option Bool} (h : TD X e f) : PT X e (zta f) := by
  obtain ⟨t, p, r⟩ := h
  rintro pins s σ H Q I ⟨ρ, F, d, h1, h2, h3, h4⟩
  exact p pins s σ H Q I (r σ ρ F H d Q h1 h2 h3 h4)
theorem zrd {f : Ev → Option D} : RE (tCan f) f := fun _ ρ F _ d _ h1 h2 h3 h4 => ⟨ρ, F, d, h1, h2, h3, h4⟩
theorem zt5 {f : Ev → Option Bool} : RT (zta f) f := fun _ ρ F _ d _ h1 h2 h3 h4 => ⟨ρ, F, d, h1, h2, h3, h4⟩
theorem znq {X : Cx} {elt tg iter : Expr} {L M : List Str} {scope : Scope} {cl : List (Str × Addr)} {pos : Pos} {fi : Ev → Option (List D)} {b : D → Option (List (Option D))} {fe : Ev → Option D} {g : TG}
    (hc : X.calm = true) (S : wa X L M scope cl) (hi : ID X tg iter fi)
    (hgS : ∀ (σ : St) (v : V) (H : Hp) (Q : St → Hp → Prop), g v (List.replicate L.length none ++ σ) H Q → g v (List.replicate L.length none ++ σ) H (fun σ2 H2 => zbO (List.replicate L.length none ++ σ) σ2 ∧ Q σ2 H2))
    (hrb : RB L.length g b)
    (hg : ∀ s₀ H₀ ex pn, PG (zog X L M scope cl s₀ H₀ ex pn) tg g) (he : ∀ s₀ H₀ ex pn, ED (zog X L M scope cl s₀ H₀ ex pn) elt fe)
    (hs : ∀ x, foldedSetIterable iter X.env x = pure x := by intro _; rfl) : FL X (.ListComp elt [⟨tg, iter, [], 0⟩] scope pos) (fLC fi b zj7 fe) := by
  obtain ⟨wi, pi, ri⟩ := hi
  exact ⟨_, zq1 hc S pi hgS hg (fun _ _ _ _ => zrn) (fun _ _ _ _ => (he _ _ _ _).can) hs, zug ri hrb ztS zrd⟩
theorem zk9 {X : Cx} {elt tg iter c : Expr} {L M : List Str} {scope : Scope} {cl : List (Str × Addr)} {pos : Pos} {fi : Ev → Option (List D)} {b : D → Option (List (Option D))} {ft : Ev → Option Bool} {fe : Ev → Option D} {g : TG}
    (hc : X.calm = true) (S : wa X L M scope cl) (hi : ID X tg iter fi)
    (hgS : ∀ (σ : St) (v : V) (H : Hp) (Q : St → Hp → Prop), g v (List.replicate L.length none ++ σ) H Q → g v (List.replicate L.length none ++ σ) H (fun σ2 H2 => zbO (List.replicate L.length none ++ σ) σ2 ∧ Q σ2 H2))
    (hrb : RB L.length g b)
    (hg : ∀ s₀ H₀ ex pn, PG (zog X L M scope cl s₀ H₀ ex pn) tg g) (ht : ∀ s₀ H₀ ex pn, TD (zog X L M scope cl s₀ H₀ ex pn) c ft) (he : ∀ s₀ H₀ ex pn, ED (zog X L M scope cl s₀ H₀ ex pn) elt fe)
    (hs : ∀ x, foldedSetIterable iter X.env x = pure x := by intro _; rfl) : FL X (.ListComp elt [⟨tg, iter, [c], 0⟩] scope pos) (fLC fi b ft fe) := by
  obtain ⟨wi, pi, ri⟩ := hi
  exact ⟨_, zq1 hc S pi hgS hg (fun _ _ _ _ => zrm (ht _ _ _ _).can) (fun _ _ _ _ => (he _ _ _ _).can) hs, zug ri hrb zt5 zrd⟩
noncomputable def fnD (n : Nat) (g : SE → Ctl) (ds : List D) : Option D := match g (ds.map .v ++ List.replicate (n - ds.length) .no) with
  | .rt d => some d
  | .nx _ => some .non
  | _ => none
noncomputable def spD (m : Nat) (p : List D → Option D) : Sp := fun vs H Q _ => ∃ ds d F, ds.length = m ∧ yW F H ∧ AtL F ds vs ∧ p ds = some d ∧ ∀ F' H' v, Gr F H F' H' → At F' d v → Q v H'
theorem zqt {F H : Hp} {N : List Str} {ds : List D} {vs : List V} (s : yW F H) (a : AtL F ds vs) : Rl F H F H (ds.map .v ++ List.replicate (N.length - ds.length) .no) (L2.start N vs) := by
  have hl := a.length
  have noO : ∀ (i : Nat) (t : Sl), (ds.map Sl.v ++ List.replicate (N.length - ds.length) Sl.no)[i]? = some t → t.isO = true → False := fun i t h ho => by
    by_cases hi : i < ds.length
    · rw [List.getElem?_append_left (by simpa using hi), List.getElem?_map] at h
      cases e : ds[i]? with
      | none => rw [e] at h; cases h
      | some d => rw [e] at h; cases h; cases ho
    · rw [List.getElem?_append_right (by simpa using hi), List.getElem?_replicate] at h
      split at h <;> cases h
      cases ho
  refine ⟨.refl s, fun i d h => ?_, fun i t h ho => (noO i t h ho).elim, fun i j p t u h _ ho => (noO i t h ho).elim, ?_⟩
  · by_cases hi : i < ds.length
    · rw [List.getElem?_append_left (by simpa using hi), List.getElem?_map] at h
      cases e : ds[i]? with
      | none => rw [e] at h; cases h
      | some d' =>
        rw [e] at h
        cases h
        obtain ⟨x, hx, ax⟩ := a.get e
        refine ⟨x, ?_, ax⟩
        unfold L2.start
        rw [List.getElem?_append_left (by simpa [hl] using hi), List.getElem?_map, hx]
        rfl
    · rw [List.getElem?_append_right (by simpa using hi), List.getElem?_replicate] at h
      split at h <;> cases h
  · unfold L2.start
    simp [hl]
theorem yR {P : Program} {w : World} {K : PySem.W.Frag} {mg : Str → Option Value} {base : Heap} {x qual : Str} {st : Stmt} {f : Addr} {fd : FuncData} {N ps : List Str} {k : Nat} {g : SE → Ctl} (Fu : Fun K x qual st f fd) (S : zF N ps (zi st))
    (hb : ∀ (cdv : Value) (A : Around) (outer : List Env) (s : Shared) (H : Hp) (E : XK), zau k (A.deeper (PyProof.Rows.envOfC qual (zi st) s.heap.objs.size f cdv)) → SDs (zq2 CX0 P w K mg base N qual (zi st) f cdv A outer s H E).nox (zE st) g) :
    xk P w K mg base CX0 (k + 1) f fd ps (spD ps.length (fnD N.length g)) := by
  refine Fu.ok S (fun vs H Q E h => ?_) fun cdv A outer s H vs Q E hr h => ?_
  · obtain ⟨ds, d, F, hl, _, a, _⟩ := h
    rw [a.length]; exact hl
  · obtain ⟨ds, d, F, hl, sm, a, e, q⟩ := h
    obtain ⟨t, p, r⟩ := hb cdv A outer s H E hr
    refine ⟨t, p, r F H F H _ _ _ (zqt sm a) ?_⟩
    unfold fnD at e
    cases hg : g (ds.map .v ++ List.replicate (N.length - ds.length) .no) with
    | rt d' => rw [hg] at e; cases e; exact fun F' H' v g av => q F' H' v g av
    | nx ρ => rw [hg] at e; cases e; exact fun F' H' σ rl => q F' H' _ rl.gr .non
    | bk ρ => rw [hg] at e; cases e
    | ct ρ => rw [hg] at e; cases e
    | no => rw [hg] at e; cases e
noncomputable def zK (m : Nat) (p : List D → Option D) (f : Ev → Option (List D)) : Ev → Option D := fun ρ => (f ρ).bind fun ds => if ds.length = m then p ds else none
theorem zr {X : Cx} {x : Str} {k m : Nat} {f : Addr} {fd : FuncData} {ps : List Str} {p : List D → Option D} {e : Expr} {es : List Expr} {pp pos : Pos} {fa : Ev → Option (List D)} (F : xk X.prog X.w X.K X.mg X.base CX0 k f fd ps (spD m p)) (hr : zau k X.A) (hg : Gl X x) (hm : X.mg x = some (.ref f)) (hk : PySem.W.keepIn X.K (.ref f) = true) (hb : zm2 X.K fd ps [])
    (ha : AD X (e :: es) fa) (hdb : (x == ("__debug__" : Str)) = false := by decide) (he : starEach (e :: es) X.env = (false, eval e X.env) :: starEach es X.env := by rfl) (hpl : (backTo pos (starEach es X.env)).any (·.1) = false := by rfl) :
    ED X (.Call (.Name x pp) (e :: es) [] pos) (zK m p fa) := by
  obtain ⟨t, pa, r⟩ := ha
  refine ⟨_, zsa F hr hg hm hk hb .nil zuM pa hdb he hpl, fun σ ρ F0 H d Q s va e q => ?_⟩
  obtain ⟨ds, e1, e2⟩ := Option.bind_eq_some_iff.mp e
  split at e2 <;> try cases e2
  rename_i hl
  refine r σ ρ F0 H ds _ s va e1 fun F1 H1 vs g1 a1 => ?_
  refine ⟨ds, d, F1, hl, g1.fh, by rw [List.append_nil]; exact a1, e2, fun F' H' v g av => q F' H' v (g1.trans g) av⟩
end Dl
namespace Dl
open PySem L2
variable [KK]
section
variable {X : Cx} {a b c e : Expr} {pos : Pos}
theorem ziQ : bootBuiltins "isinstance" = some (.builtin "isinstance") := by decide +kernel
theorem xY : bootBuiltins "len" = some (.builtin "len") := by decide +kernel
theorem ztr : bootBuiltins "min" = some (.builtin "min") := by decide +kernel
theorem zop : bootBuiltins "max" = some (.builtin "max") := by decide +kernel
theorem zuf : bootBuiltins "all" = some (.builtin "all") := by decide +kernel
theorem znj : bootBuiltins "int" = some (.type "int") := by decide +kernel
theorem zc5 : bootBuiltins "bool" = some (.type "bool") := by decide +kernel
theorem xg : bootBuiltins "tuple" = some (.type "tuple") := by decide +kernel
theorem zeP : bootBuiltins "list" = some (.type "list") := by decide +kernel
theorem zpp : bootBuiltins "str" = some (.type "str") := by decide +kernel
theorem zbG : bootBuiltins "enumerate" = some (.type "enumerate") := by decide +kernel
theorem ztO : bootBuiltins "zip" = some (.type "zip") := by decide +kernel
noncomputable def zsD (C : Int → Int → Bool) (g : Int → Int → Int) : D → D → Option D
  | .int i, .int j => if C i j = true then some (.int (g i j)) else none
  | _, _ => none
noncomputable def zlR (g : Int → Int → Int) : D → D → Option D
  | .int i, .int j => some (.int (g i j))
  | _, _ => none
noncomputable def zsI (g : Int → Int → Bool) : D → D → Option D
  | .int i, .int j => some (.bl (g i j))
  | _, _ => none
theorem znE {C : Int → Int → Prop} {Cb : Int → Int → Bool} {g : Int → Int → Int} (h : ∀ i j, Cb i j = true → C i j) : OpD (rI C fun i j => .int (g i j)) (zsD Cb g) := by
  intro F H x y d e z Q s ax ay ez q
  cases d <;> try cases ez
  cases e <;> try cases ez
  unfold zsD at ez
  dsimp only at ez
  split at ez <;> cases ez
  rename_i hc
  exact ⟨_, _, ax.int_inv, ay.int_inv, h _ _ hc, q F H _ (.refl s) .int⟩
theorem zch {g : Int → Int → Int} : OpD (rI0 fun i j => .int (g i j)) (zlR g) := by
  intro F H x y d e z Q s ax ay ez q
  cases d <;> try cases ez
  cases e <;> try cases ez
  exact ⟨_, _, ax.int_inv, ay.int_inv, q F H _ (.refl s) .int⟩
theorem yD {g : Int → Int → Bool} : OpD (rI0 fun i j => .bl (g i j)) (zsI g) := by
  intro F H x y d e z Q s ax ay ez q
  cases d <;> try cases ez
  cases e <;> try cases ez
  exact ⟨_, _, ax.int_inv, ay.int_inv, q F H _ (.refl s) .bl⟩
theorem zk1 {r r' : R2} {g g' : D → D → Option D} (h : OpD r g) (h' : OpD r' g') : OpD (fun x y H Q => r x y H Q ∨ r' x y H Q) (fun d e => (g d e).or (g' d e)) := by
  intro F H x y d e z Q s ax ay ez q
  dsimp only at ez
  cases hg : g d e with
  | some z' => rw [hg] at ez; cases ez; exact .inl (h F H x y d e z Q s ax ay hg q)
  | none => rw [hg] at ez; exact .inr (h' F H x y d e z Q s ax ay ez q)
noncomputable def zsU : D → D → Option D
  | .tup a, .tup b => if lim (a.length + b.length) = true then some (.tup (a ++ b)) else none
  | _, _ => none
noncomputable def ztp : D → D → Option (List D)
  | .lst a, .lst b => if lim (a.length + b.length) = true then some (a ++ b) else none
  | _, _ => none
noncomputable def zoX (d e : D) : Option D := (ztp d e).map .lst
noncomputable def ztR : D → D → Option D
  | .str a, .str b => if lim (a.length + b.length) = true then some (.str (a ++ b)) else none
  | _, _ => none
theorem zqp {K : PySem.W.Frag} : OpD (zq8 K) zsU := by
  intro F H x y d e z Q s ax ay ez q
  cases d <;> try cases ez
  cases e <;> try cases ez
  unfold zsU at ez
  dsimp only at ez
  split at ez <;> cases ez
  rename_i hl
  obtain ⟨p, xs, rfl, hx, al⟩ := ax.tup_inv
  obtain ⟨p2, ys, rfl, hy, bl⟩ := ay.tup_inv
  refine ⟨p, p2, xs, ys, rfl, rfl, SqT.of (s _ _ hx), SqT.of (s _ _ hy), by rw [al.length, bl.length]; exact of_decide_eq_true hl, fun e1 => ?_, fun _ e2 => ?_, fun _ _ r hr => ?_⟩
  · subst e1
    have : (_ : List D) = [] := List.length_eq_zero_iff.mp al.length.symm
    subst this
    exact q F H _ (.refl s) (.tup hy bl)
  · subst e2
    have : (_ : List D) = [] := List.length_eq_zero_iff.mp bl.length.symm
    subst this
    rw [List.append_nil] at q
    exact q F H _ (.refl s) (.tup hx al)
  · have g := Gr.alloc s hr (.tup (xs ++ ys))
    exact q _ _ _ g (.tup zy ((al.append bl).mono g.ff))
theorem zqI : OpD rCat zoX := by
  intro F H x y d e z Q s ax ay ez q
  cases d <;> try cases ez
  cases e <;> try cases ez
  unfold zoX ztp at ez
  dsimp only at ez
  split at ez <;> cases ez
  rename_i hl
  obtain ⟨p, xs, rfl, hx, al⟩ := ax.lst_inv
  obtain ⟨p2, ys, rfl, hy, bl⟩ := ay.lst_inv
  refine ⟨p, p2, xs, ys, rfl, rfl, s _ _ hx, s _ _ hy, by rw [al.length, bl.length]; exact of_decide_eq_true hl, fun r hr => ?_⟩
  have g := Gr.alloc s hr (.lst (xs ++ ys))
  exact q _ _ _ g (.lst zy ((al.append bl).mono g.ff))
theorem zqD : OpD (fun x y H Q => ∃ i j, x = .str i ∧ y = .str j ∧ i.length + j.length ≤ sizeLine ∧ Q (.str (i ++ j)) H) ztR := by
  intro F H x y d e z Q s ax ay ez q
  cases d <;> try cases ez
  cases e <;> try cases ez
  unfold ztR at ez
  dsimp only at ez
  split at ez <;> cases ez
  rename_i hl
  exact ⟨_, _, ax.str_inv, ay.str_inv, of_decide_eq_true hl, q F H _ (.refl s) .str⟩
noncomputable def zi8 : D → D → Option D
  | .int i, .int j => some (.int (i + j))
  | .tup a, .tup b => if lim (a.length + b.length) = true then some (.tup (a ++ b)) else none
  | .lst a, .lst b => if lim (a.length + b.length) = true then some (.lst (a ++ b)) else none
  | .str a, .str b => if lim (a.length + b.length) = true then some (.str (a ++ b)) else none
  | _, _ => none
theorem zmf {r : R2} {g g' : D → D → Option D} (h : OpD r g) (k : ∀ d e z, g' d e = some z → g d e = some z) : OpD r g' := fun F H x y d e z Q s ax ay ez q => h F H x y d e z Q s ax ay (k d e z ez) q
theorem XJ {f h : Ev → Option D} (ha : ED X a f) (hb : ED X b h) : ED X (.BinOp a .Add b pos) (zH zi8 f h) :=
  zkp (((zui.or zqE).or ztH).or znL) (zmf (zk1 (zk1 (zk1 (zch (g := fun i j => i + j)) zqp) zqI) zqD) fun d e z h => by
    cases d <;> try cases h
    all_goals cases e <;> try cases h
    · rfl
    · unfold zi8 at h; dsimp only at h; split at h <;> cases h; rename_i hl; simp [zlR, zsU, hl, zoX, ztp, ztR]
    · unfold zi8 at h; dsimp only at h; split at h <;> cases h; rename_i hl; simp [zlR, zsU, hl, zoX, ztp, ztR]
    · unfold zi8 at h; dsimp only at h; split at h <;> cases h; rename_i hl; simp [zlR, zsU, hl, zoX, ztp, ztR]) ha hb
noncomputable def fBin (g : D → D → Option (List D)) (f h : Ev → Option D) : Ev → Option (List D) := fun ρ => (f ρ).bind fun x => (h ρ).bind fun y => g x y
theorem zph {F H F1 H1 : Hp} {p : Addr} (g1 : Gr F H F1 H1) (hp : H1 p = none) : H p = none := by
  cases e : H p with
  | none => rfl
  | some o =>
    cases e2 : F p with
    | none => rw [(g1.kp p o e2 e).2] at hp; cases hp
    | some u => rw [g1.fh _ _ (g1.ff _ _ e2)] at hp; cases hp
noncomputable def zs6 (i j : Int) : Bool := decide ((-(2 ^ 64) < i ∧ i < 2 ^ 64) ∨ (-(2 ^ 64) < j ∧ j < 2 ^ 64))
noncomputable def zsF : D → D → Option (List D)
  | .lst a, .int k => if -(2 ^ 63) ≤ k ∧ k < 2 ^ 63 ∧ lim (a.length * k.toNat) = true then some (List.replicate k.toNat a).flatten else none
  | _, _ => none
noncomputable def zqs (d e : D) : Option D := (zsF d e).map .lst
noncomputable def zpT : D → D → Option D
  | .int i, .int j => if zs6 i j = true then some (.int (i * j)) else none
  | .lst a, .int k => if -(2 ^ 63) ≤ k ∧ k < 2 ^ 63 ∧ lim (a.length * k.toNat) = true then some (.lst (List.replicate k.toNat a).flatten) else none
  | _, _ => none
theorem zpQ : OpD rRep zqs := by
  intro F H x y d e z Q s ax ay ez q
  cases d <;> try cases ez
  cases e <;> try cases ez
  unfold zqs zsF at ez
  dsimp only at ez
  split at ez <;> cases ez
  rename_i hl
  obtain ⟨p, xs, rfl, hx, al⟩ := ax.lst_inv
  refine ⟨p, _, xs, rfl, ay.int_inv, s _ _ hx, hl.1, hl.2.1, by rw [al.length]; exact of_decide_eq_true hl.2.2, fun r hr => ?_⟩
  rename_i ds k
  have g := Gr.alloc s hr (.lst (List.replicate k.toNat xs).flatten)
  exact q _ _ _ g (.lst zy ((al.rep _).mono g.ff))
theorem zo1 {f h : Ev → Option D} (ha : ED X a f) (hb : ED X b h) : ED X (.BinOp a .Mult b pos) (zH zpT f h) :=
  zkp (ztg.or zqR) (zmf (zk1 (znE (Cb := zs6) (g := fun i j => i * j) fun i j h => by have h' := of_decide_eq_true (show decide ((-(2 ^ 64) < i ∧ i < 2 ^ 64) ∨ (-(2 ^ 64) < j ∧ j < 2 ^ 64)) = true from h); exact h') zpQ) fun d e z h => by
    cases d <;> try cases h
    all_goals cases e <;> try cases h
    · unfold zpT at h; dsimp only at h; split at h <;> cases h; rename_i hl; simp [zsD, hl]
    · unfold zpT at h; dsimp only at h; split at h <;> cases h; rename_i hl; show (zqs _ _) = _; unfold zqs zsF; dsimp only; rw [if_pos hl]; rfl) ha hb
theorem zt7 {f h : Ev → Option D} (ha : ED X a f) (hb : ED X b h) : FL X (.BinOp a .Mult b pos) (fBin zsF f h) := by
  obtain ⟨ta, pa, ra⟩ := ha
  obtain ⟨tb, pb, rb⟩ := hb
  refine ⟨_, zt3 zqR pa pb, fun σ ρ F H z Q s va e q => ?_⟩
  obtain ⟨x, e1, e3⟩ := Option.bind_eq_some_iff.mp e
  obtain ⟨y, e2, ez⟩ := Option.bind_eq_some_iff.mp e3
  clear e e3
  refine ra σ ρ F H x _ s va e1 fun F1 H1 v g1 a1 => ?_
  refine rb σ ρ F1 H1 y _ g1.fh (va.mono g1.ff) e2 fun F2 H2 u g2 a2 => ?_
  cases x <;> try cases ez
  cases y <;> try cases ez
  unfold zsF at ez
  dsimp only at ez
  split at ez <;> cases ez
  rename_i hl
  obtain ⟨p, xs, rfl, hx, al⟩ := (a1.mono g2.ff).lst_inv
  refine ⟨p, _, xs, rfl, a2.int_inv, g2.fh _ _ hx, hl.1, hl.2.1, by rw [al.length]; exact of_decide_eq_true hl.2.2, fun r hr => ?_⟩
  exact q _ _ _ _ ((g1.trans g2).trans (Gr.hide g2.fh hr _)) (zph (g1.trans g2) hr) (g2.fh.free hr) zy (al.rep _)
noncomputable def zpJ := zlR fun i j => i - j
noncomputable def zuH := zsD (fun _ j => decide (0 < j ∧ j < 1606938044258990275541962092341162602522202993782792835301376)) fun i j => i / j
noncomputable def ztJ := zsD (fun _ j => decide (0 < j)) fun i j => i % j
noncomputable def xorD := zlR fun i j => Builtin.bitXor i j
theorem zbx {f h : Ev → Option D} (ha : ED X a f) (hb : ED X b h) : ED X (.BinOp a .Sub b pos) (zH zpJ f h) := zkp ztu zch ha hb
theorem zt1 {f h : Ev → Option D} (ha : ED X a f) (hb : ED X b h) : ED X (.BinOp a .Mod b pos) (zH ztJ f h) := zkp zs1 (znE fun _ _ h => by have h' := of_decide_eq_true h; exact h') ha hb
theorem zs9 {f h : Ev → Option D} (ha : ED X a f) (hb : ED X b h) : ED X (.BinOp a .BitXor b pos) (zH xorD f h) := zkp zt0 zch ha hb
noncomputable def ltD := zsI fun i j => decide (i < j)
noncomputable def leD := zsI fun i j => decide (i ≤ j)
noncomputable def gtD := zsI fun i j => decide (j < i)
noncomputable def geD := zsI fun i j => decide (j ≤ i)
noncomputable def eqS : D → D → Option Bool
  | .non, .non => some true
  | .int i, .int j => some (decide (i = j))
  | .bl i, .bl j => some (decide (i = j))
  | .str i, .str j => some (decide (i = j))
  | .non, .int _ => some false | .int _, .non => some false | .non, .bl _ => some false | .bl _, .non => some false | .non, .str _ => some false | .str _, .non => some false
  | .int _, .str _ => some false | .str _, .int _ => some false | .bl _, .str _ => some false | .str _, .bl _ => some false
  | _, _ => none
noncomputable def eqD (d e : D) : Option D := (eqS d e).map .bl
noncomputable def neD (d e : D) : Option D := (eqS d e).map fun c => .bl (!c)
theorem zq5 : OpD rEq eqD := by
  intro F H x y d e z Q s ax ay ez q
  obtain ⟨c, e1, rfl⟩ := Option.map_eq_some_iff.mp ez
  cases d <;> cases e <;> try cases e1
  · cases ax.non_inv; cases ay.non_inv; exact ⟨rfl, q F H _ (.refl s) .bl⟩
  · cases ax.non_inv; cases ay.bl_inv; exact ⟨rfl, q F H _ (.refl s) .bl⟩
  · cases ax.non_inv; cases ay.int_inv; exact ⟨rfl, q F H _ (.refl s) .bl⟩
  · cases ax.non_inv; cases ay.str_inv; exact ⟨rfl, q F H _ (.refl s) .bl⟩
  · cases ax.bl_inv; cases ay.non_inv; exact ⟨rfl, q F H _ (.refl s) .bl⟩
  · cases ax.bl_inv; cases ay.bl_inv; refine ⟨rfl, ?_⟩; rw [show ∀ i j : Bool, decide (V.bl i = V.bl j) = decide (i = j) from fun i j => by simp]; exact q F H _ (.refl s) .bl
  · cases ax.bl_inv; cases ay.str_inv; exact ⟨rfl, q F H _ (.refl s) .bl⟩
  · cases ax.int_inv; cases ay.non_inv; exact ⟨rfl, q F H _ (.refl s) .bl⟩
  · cases ax.int_inv; cases ay.int_inv; refine ⟨rfl, ?_⟩; rw [show ∀ i j : Int, decide (V.int i = V.int j) = decide (i = j) from fun i j => by simp]; exact q F H _ (.refl s) .bl
  · cases ax.int_inv; cases ay.str_inv; exact ⟨rfl, q F H _ (.refl s) .bl⟩
  · cases ax.str_inv; cases ay.non_inv; exact ⟨rfl, q F H _ (.refl s) .bl⟩
  · cases ax.str_inv; cases ay.bl_inv; exact ⟨rfl, q F H _ (.refl s) .bl⟩
  · cases ax.str_inv; cases ay.int_inv; exact ⟨rfl, q F H _ (.refl s) .bl⟩
  · cases ax.str_inv; cases ay.str_inv; refine ⟨rfl, ?_⟩; rw [show ∀ i j : Str, decide (V.str i = V.str j) = decide (i = j) from fun i j => by simp]; exact q F H _ (.refl s) .bl
theorem zcv : OpD rNe neD := by
  intro F H x y d e z Q s ax ay ez q
  obtain ⟨c, e1, rfl⟩ := Option.map_eq_some_iff.mp ez
  have := zq5 F H x y d e (.bl c) (fun v H' => ∃ b, v = .bl b ∧ Q (.bl (!b)) H') s ax ay (by unfold eqD; rw [e1]; rfl) fun F' H' v g av => ⟨c, av.bl_inv, q F' H' _ g .bl⟩
  obtain ⟨h1, b, h2, h3⟩ := this
  cases h2
  exact ⟨h1, h3⟩
noncomputable def zsG : D → D → Option D
  | d, .non => some (.bl (match d with | .non => true | _ => false))
  | .bl a, .bl b => some (.bl (a == b))
  | _, _ => none
noncomputable def zcd : D → D → Option D
  | d, .non => some (.bl (match d with | .non => false | _ => true))
  | .bl a, .bl b => some (.bl (!(a == b)))
  | _, _ => none
theorem zoR {F : Hp} {d : D} {x : V} (h : At F d x) : decide (x = V.non) = (match d with | .non => true | _ => false) := by
  cases d with
  | non => cases h.non_inv; rfl
  | bl b => cases h.bl_inv; rfl
  | int b => cases h.int_inv; rfl
  | str b => cases h.str_inv; rfl
  | tup ds => obtain ⟨a, xs, rfl, _⟩ := h.tup_inv; rfl
  | lst ds => obtain ⟨a, xs, rfl, _⟩ := h.lst_inv; rfl
  | scr ds => obtain ⟨a, rfl, _⟩ := h.scr_inv; rfl
  | dct z t ks vs => obtain ⟨a, xs, rfl, _⟩ := h.dct_inv; rfl
theorem zmx : OpD (fun x y H Q => (y = .non ∧ Q (.bl (decide (x = .non))) H) ∨ ∃ i j, x = .bl i ∧ y = .bl j ∧ Q (.bl (i == j)) H) zsG := by
  intro F H x y d e z Q s ax ay ez q
  unfold zsG at ez
  split at ez
  · cases ez
    refine .inl ⟨ay.non_inv, ?_⟩
    rw [zoR ax]
    have := q F H _ (.refl s) .bl
    cases d <;> exact this
  · cases ez
    exact .inr ⟨_, _, ax.bl_inv, ay.bl_inv, q F H _ (.refl s) .bl⟩
  · cases ez
theorem zcP : OpD (fun x y H Q => (y = .non ∧ Q (.bl (!decide (x = .non))) H) ∨ ∃ i j, x = .bl i ∧ y = .bl j ∧ Q (.bl (!(i == j))) H) zcd := by
  intro F H x y d e z Q s ax ay ez q
  unfold zcd at ez
  split at ez
  · cases ez
    refine .inl ⟨ay.non_inv, ?_⟩
    rw [zoR ax]
    have := q F H _ (.refl s) .bl
    cases d <;> exact this
  · cases ez
    exact .inr ⟨_, _, ax.bl_inv, ay.bl_inv, q F H _ (.refl s) .bl⟩
  · cases ez
theorem zow : OpR X (compareOp .Is) (fun x y H Q => (y = .non ∧ Q (.bl (decide (x = .non))) H) ∨ ∃ i j, x = .bl i ∧ y = .bl j ∧ Q (.bl (i == j)) H) := ztF.or zpO
theorem zjs : OpR X (compareOp .IsNot) (fun x y H Q => (y = .non ∧ Q (.bl (!decide (x = .non))) H) ∨ ∃ i j, x = .bl i ∧ y = .bl j ∧ Q (.bl (!(i == j))) H) := zrw.or zmj
noncomputable def znv (g g' : D → D → Option D) (f h k : Ev → Option D) : Ev → Option D := fun ρ => (f ρ).bind fun x => (h ρ).bind fun y => ((g x y).bind asB).bind fun c => if c = true then (k ρ).bind fun z => g' y z else some (.bl false)
theorem zqu {r r' : R2} {g g' : D → D → Option D} {ta tb tc : TE} {f h k : Ev → Option D} (hg : OpD r g) (hg' : OpD r' g') (ra : RE ta f) (rb : RE tb h) (rc : RE tc k) : RE (zov r r' ta tb tc) (znv g g' f h k) := by
  intro σ ρ F H z Q s va e q
  obtain ⟨x, e1, e⟩ := Option.bind_eq_some_iff.mp e
  obtain ⟨y, e2, e⟩ := Option.bind_eq_some_iff.mp e
  obtain ⟨c, e3, e⟩ := Option.bind_eq_some_iff.mp e
  obtain ⟨cd, e3, e4⟩ := Option.bind_eq_some_iff.mp e3
  cases zat e4
  refine ra σ ρ F H x _ s va e1 fun F1 H1 v g1 a1 => ?_
  refine rb σ ρ F1 H1 y _ g1.fh (va.mono g1.ff) e2 fun F2 H2 u g2 a2 => ?_
  refine hg F2 H2 v u x y _ _ g2.fh (a1.mono g2.ff) a2 e3 fun F3 H3 w g3 a3 => ⟨c, a3.bl_inv, ?_⟩
  have g123 := (g1.trans g2).trans g3
  cases c with
  | true =>
    rw [if_pos rfl] at e ⊢
    obtain ⟨z', e5, e6⟩ := Option.bind_eq_some_iff.mp e
    refine rc σ ρ F3 H3 z' _ g3.fh (va.mono g123.ff) e5 fun F4 H4 w4 g4 a4 => ?_
    exact hg' F4 H4 u w4 y z' z Q g4.fh (a2.mono (g3.ff.trans g4.ff)) a4 e6 fun F5 H5 w5 g5 a5 => q F5 H5 w5 ((g123.trans g4).trans g5) a5
  | false =>
    rw [if_neg Bool.false_ne_true] at e ⊢
    cases e
    exact q F3 H3 _ g123 .bl
theorem zp0 {op op' : CmpOp} {r r' : R2} {g g' : D → D → Option D} {f h k : Ev → Option D} (ho : OpR X (compareOp op) r) (ho' : OpR X (compareOp op') r') (hg : OpD r g) (hg' : OpD r' g') (ha : ED X a f) (hb : ED X b h) (hc : ED X c k)
    (pch : ∀ {ta tb tc : TE}, PE X a ta → PE X b tb → PE X c tc → PE X (.Compare a [op, op'] [b, c] pos) (zov r r' ta tb tc)) : ED X (.Compare a [op, op'] [b, c] pos) (znv g g' f h k) :=
  let ⟨_, pa, ra⟩ := ha
  let ⟨_, pb, rb⟩ := hb
  let ⟨_, pc, rc⟩ := hc
  ⟨_, pch pa pb pc, zqu hg hg' ra rb rc⟩
noncomputable def znA : List D → Option (List Int)
  | [] => some []
  | .int b :: ds => (znA ds).map (b :: ·)
  | _ => none
omit [KK] in
theorem zcy : ∀ {ds : List D} {bs : List Int}, znA ds = some bs → ds = bs.map .int
  | [], bs, h => by cases h; rfl
  | d :: ds, bs, h => by
    cases d <;> try cases h
    obtain ⟨cs, h1, rfl⟩ := Option.map_eq_some_iff.mp h
    rw [zcy h1]
    rfl
noncomputable def leT : D → D → Option D
  | .tup a, .tup b => (znA a).bind fun ns => (znA b).map fun ms => .bl (HT.lexLe ns ms)
  | _, _ => none
theorem zrj {K : PySem.W.Frag} : OpD (rLeT K) leT := by
  intro F H x y d e z Q s ax ay ez q
  cases d <;> try cases ez
  cases e <;> try cases ez
  obtain ⟨ns, e1, e2⟩ := Option.bind_eq_some_iff.mp ez
  obtain ⟨ms, e3, rfl⟩ := Option.map_eq_some_iff.mp e2
  rw [zcy e1] at ax
  rw [zcy e3] at ay
  obtain ⟨p, xs, rfl, hx, al⟩ := ax.tup_inv
  obtain ⟨p2, ys, rfl, hy, bl⟩ := ay.tup_inv
  cases al.of_ints
  cases bl.of_ints
  exact ⟨p, p2, ns, ms, rfl, rfl, SqT.of (s _ _ hx), SqT.of (s _ _ hy), q F H _ (.refl s) .bl⟩
noncomputable def ixD : D → D → Option D
  | .lst ds, .int i => atI ds i
  | .tup ds, .int i => atI ds i
  | .scr ns, .int i => (atI ns i).map .int
  | _, _ => none
theorem AtL.atI {F : Hp} {ds : List D} {xs : List V} {i : Int} {d : D} (al : AtL F ds xs) (h : L2.atI ds i = some d) : ∃ x, L2.atI xs i = some x ∧ At F d x := by
  unfold L2.atI at h ⊢
  obtain ⟨j, e1, e2⟩ := Option.bind_eq_some_iff.mp h
  obtain ⟨x, hx, ax⟩ := al.get e2
  exact ⟨x, by rw [al.length, e1]; exact hx, ax⟩
theorem ztY : OpD (rIx KK.K) ixD := by
  intro F H x y d e z Q s ax ay ez q
  cases e <;> try (cases d <;> cases ez)
  cases ay.int_inv
  cases d with
  | lst ds =>
    obtain ⟨p, xs, rfl, hx, al⟩ := ax.lst_inv
    obtain ⟨v, e1, av⟩ := al.atI ez
    exact .inl ⟨p, xs, _, v, rfl, rfl, SqL.of (s _ _ hx), e1, q F H _ (.refl s) av⟩
  | tup ds =>
    obtain ⟨p, xs, rfl, hx, al⟩ := ax.tup_inv
    obtain ⟨v, e1, av⟩ := al.atI ez
    exact .inr (.inl ⟨p, xs, _, v, rfl, rfl, SqT.of (s _ _ hx), e1, q F H _ (.refl s) av⟩)
  | scr ns =>
    obtain ⟨p, rfl, hx⟩ := ax.scr_inv
    obtain ⟨n, e1, rfl⟩ := Option.map_eq_some_iff.mp ez
    refine .inl ⟨p, ns.map V.int, _, .int n, rfl, rfl, s.seq hx, ?_, q F H _ (.refl s) .int⟩
    unfold L2.atI at e1 ⊢
    rw [List.length_map]
    obtain ⟨j, e2, e3⟩ := Option.bind_eq_some_iff.mp e1
    rw [e2]
    show (ns.map V.int)[j]? = _
    rw [List.getElem?_map, e3]
    rfl
  | _ => cases ez
theorem yf {f h : Ev → Option D} (ha : ED X a f) (hb : ED X b h) (hs : zhp b) (hK : X.K = KK.K := by rfl) : ED X (.Subscript a b pos) (zH ixD f h) :=
  let ⟨_, pa, ra⟩ := ha
  let ⟨_, pb, rb⟩ := hb
  ⟨_, zs3 zuc pa pb hs, zp5 (by rw [hK]; exact ztY) ra rb⟩
noncomputable def zqV {α : Type} (xs : List α) (lo hi : Option Int) : List α := (xs.drop (HT.sIx xs.length 0 lo)).take (HT.sIx xs.length xs.length hi - HT.sIx xs.length 0 lo)
theorem AtL.cut {F : Hp} {ds : List D} {xs : List V} {lo hi : Option Int} (al : AtL F ds xs) : AtL F (zqV ds lo hi) (zmg xs lo hi) := by
  unfold zqV zmg
  rw [al.length]
  exact (al.drop _).take _
noncomputable def OD (X : Cx) (e : Option Expr) (f : Ev → Option (Option Int)) : Prop := ∃ t, PO X e t ∧ ∀ (σ : St) (ρ : Ev) (F H : Hp) (i : Option Int) (Q : Option Int → Hp → Prop), yW F H → VAt F ρ σ → f ρ = some i → (∀ F' H', Gr F H F' H' → Q i H') → t σ H Q
noncomputable def zpX : Ev → Option (Option Int) := fun _ => some none
noncomputable def asI : D → Option Int
  | .int i => some i
  | _ => none
noncomputable def zp2 (f : Ev → Option D) : Ev → Option (Option Int) := fun ρ => ((f ρ).bind asI).map some
theorem zpu : OD X none zpX := ⟨_, zru, fun _ _ _ _ _ _ s _ e q => by cases e; exact q _ _ (.refl s)⟩
theorem zoB {f : Ev → Option D} (h : ED X e f) : OD X (some e) (zp2 f) := by
  obtain ⟨t, p, r⟩ := h
  refine ⟨_, zrC p, fun σ ρ F H i Q s va e q => ?_⟩
  obtain ⟨j, e1, rfl⟩ := Option.map_eq_some_iff.mp e
  obtain ⟨d, e1, e2⟩ := Option.bind_eq_some_iff.mp e1
  cases d <;> cases e2
  exact r σ ρ F H _ _ s va e1 fun F1 H1 v g1 a1 => ⟨_, a1.int_inv, q F1 H1 g1⟩
noncomputable def slD : D → Option Int → Option Int → Option D
  | .lst ds, lo, hi => some (.lst (zqV ds lo hi))
  | .scr ns, lo, hi => some (.lst ((zqV ns lo hi).map .int))
  | .tup ds, lo, hi => some (.tup (zqV ds lo hi))
  | _, _, _ => none
noncomputable def eSl (g : D → Option Int → Option Int → Option D) (f : Ev → Option D) (l h : Ev → Option (Option Int)) : Ev → Option D := fun ρ => (f ρ).bind fun d => (l ρ).bind fun lo => (h ρ).bind fun hi => g d lo hi
omit [KK] in
theorem zqF {ns : List Int} {lo hi : Option Int} : zmg (ns.map V.int) lo hi = (zqV ns lo hi).map V.int := by
  unfold zmg zqV
  rw [List.length_map, List.map_take, List.map_drop]
end
end Dl
namespace L2
open PySem PySem.Spec PyProof.Rows
noncomputable def rSlN : V → Option Int → Option Int → Hp → VK → Prop := fun x lo hi H Q => ∃ a xs, x = .ref a ∧ H a = some (.tup xs) ∧ (zmg xs lo hi = xs → Q (.ref a) H) ∧ ∀ p, H p = none → Q (.ref p) (upd H p (.tup (zmg xs lo hi)))
theorem zrQ {X : Cx} : SlR X rSlN := by
  intro pins s σ H x v vl vu lo hi sl Q I rx hs pl pu h
  obtain ⟨a, xs, rfl, hx, q1, q2⟩ := h
  by_cases hw : HT.sIx xs.length 0 lo = 0 ∧ HT.sIx xs.length xs.length hi = xs.length
  · cases rx
    obtain ⟨its, r, ht, hz⟩ := I.tuple (SqT.of hx)
    have hlen : its.toArray.size = xs.length := by rw [List.size_toArray]; exact r.length.symm
    refine ⟨"tuple", _, PyProof.Rows.slot_tuple_getitem.lookup, ht.typeIs, ?_⟩
    refine HT.own_getItem_whole ht hs pl pu (by rw [hlen]; exact hw) ⟨.ref a, H, I, rfl, q1 ?_⟩
    unfold zmg
    rw [hw.1, hw.2, List.drop_zero, Nat.sub_zero, List.take_length]
  · exact ztl pins s σ H (.ref a) v vl vu lo hi sl Q I rx hs pl pu ⟨a, xs, rfl, SqT.of hx, hw, q2⟩
end L2
namespace Dl
open PySem L2
variable [KK]
section
variable {X : Cx} {a b c e : Expr} {pos : Pos}
theorem zm9 {lo hi : Option Expr} {p2 : Pos} {f : Ev → Option D} {l h : Ev → Option (Option Int)} (ha : ED X a f) (hl : OD X lo l) (hh : OD X hi h) (hK : X.K = KK.K := by rfl) : ED X (.Subscript a (.Slice lo hi none p2) pos) (eSl slD f l h) := by
  obtain ⟨ta, pa, ra⟩ := ha
  obtain ⟨tl, ppl, rl⟩ := hl
  obtain ⟨th, ph, rh⟩ := hh
  refine ⟨_, zqo (zrI.or zrQ) pa ppl ph, fun σ ρ F H z Q s va e q => ?_⟩
  obtain ⟨d, e1, e⟩ := Option.bind_eq_some_iff.mp e
  obtain ⟨i, e2, e⟩ := Option.bind_eq_some_iff.mp e
  obtain ⟨j, e3, e⟩ := Option.bind_eq_some_iff.mp e
  refine ra σ ρ F H d _ s va e1 fun F1 H1 v g1 a1 => ?_
  refine rl σ ρ F1 H1 i _ g1.fh (va.mono g1.ff) e2 fun F2 H2 g2 => ?_
  refine rh σ ρ F2 H2 j _ g2.fh (va.mono (g1.ff.trans g2.ff)) e3 fun F3 H3 g3 => ?_
  have g123 := (g1.trans g2).trans g3
  have a3 := a1.mono (g2.ff.trans g3.ff)
  cases d <;> try cases e
  · obtain ⟨p, xs, rfl, hx, al⟩ := a3.tup_inv
    refine .inr ⟨p, xs, rfl, g3.fh _ _ hx, fun ec => ?_, fun r hr => ?_⟩
    · have := al.cut (lo := i) (hi := j)
      rw [ec] at this
      exact q F3 H3 _ g123 (.tup hx this)
    · have g := Gr.alloc g3.fh hr (.tup (zmg xs i j))
      exact q _ _ _ (g123.trans g) (.tup zy (al.cut.mono g.ff))
  · obtain ⟨p, xs, rfl, hx, al⟩ := a3.lst_inv
    refine .inl ⟨p, xs, rfl, SqL.of (g3.fh _ _ hx), fun r hr => ?_⟩
    have g := Gr.alloc g3.fh hr (.lst (zmg xs i j))
    exact q _ _ _ (g123.trans g) (.lst zy (al.cut.mono g.ff))
  · rename_i ns _ _
    obtain ⟨p, rfl, hx⟩ := a3.scr_inv
    refine .inl ⟨p, _, rfl, (by rw [hK]; exact g3.fh.seq hx), fun r hr => ?_⟩
    rw [zqF]
    have g := Gr.alloc g3.fh hr (.lst ((zqV ns i j).map V.int))
    exact q _ _ _ (g123.trans g) (.lst zy (.ints _))
noncomputable def CaD (r : List V → Hp → VK → Prop) (g : List D → Option D) : Prop := ∀ (F H : Hp) (vs : List V) (ds : List D) (z : D) (Q : VK), yW F H → AtL F ds vs → g ds = some z → (∀ F' H' v, Gr F H F' H' → At F' z v → Q v H') → r vs H Q
noncomputable def eFn (g : List D → Option D) (f : Ev → Option (List D)) : Ev → Option D := fun ρ => (f ρ).bind g
noncomputable def fFn (g : List D → Option (List D)) (f : Ev → Option (List D)) : Ev → Option (List D) := fun ρ => (f ρ).bind g
theorem yb {x : Str} {id : String} {p : Pos} {es : List Expr} {r : List V → Hp → VK → Prop} {g : List D → Option D} {f : Ev → Option (List D)} (hc : VH X (.builtin id) r) (hg : CaD r g) (hgl : Gl X x) (hm : X.mg x = none) (hv : bootBuiltins x = some (.builtin id)) (ha : AD X (e :: es) f)
    (hn : x ≠ "__name__" := by decide) (hdb : (x == ("__debug__" : Str)) = false := by decide) (he : starEach (e :: es) X.env = (false, eval e X.env) :: starEach es X.env := by rfl) (hpl : (backTo pos (starEach es X.env)).any (·.1) = false := by rfl) :
    ED X (.Call (.Name x p) (e :: es) [] pos) (eFn g f) := by
  obtain ⟨t, pa, ra⟩ := ha
  refine ⟨_, zno hc hgl hm hv pa hn hdb he hpl, fun σ ρ F H z Q s va e q => ?_⟩
  obtain ⟨ds, e1, e2⟩ := Option.bind_eq_some_iff.mp e
  refine ra σ ρ F H ds _ s va e1 fun F1 H1 vs g1 a1 => ?_
  exact hg F1 H1 vs ds z Q g1.fh a1 e2 fun F' H' v g av => q F' H' v (g1.trans g) av
theorem W1 {x : Str} {T : String} {p : Pos} {es : List Expr} {r : List V → Hp → VK → Prop} {g : List D → Option D} {f : Ev → Option (List D)} (hc : VH X (.type T) r) (hg : CaD r g) (hgl : Gl X x) (hm : X.mg x = none) (hv : bootBuiltins x = some (.type T)) (ha : AD X (e :: es) f)
    (hn : x ≠ "__name__" := by decide) (hdb : (x == ("__debug__" : Str)) = false := by decide) (he : starEach (e :: es) X.env = (false, eval e X.env) :: starEach es X.env := by rfl) (hpl : (backTo pos (starEach es X.env)).any (·.1) = false := by rfl) :
    ED X (.Call (.Name x p) (e :: es) [] pos) (eFn g f) := by
  obtain ⟨t, pa, ra⟩ := ha
  refine ⟨_, zla hc hgl hm hv pa hn hdb he hpl, fun σ ρ F H z Q s va e q => ?_⟩
  obtain ⟨ds, e1, e2⟩ := Option.bind_eq_some_iff.mp e
  refine ra σ ρ F H ds _ s va e1 fun F1 H1 vs g1 a1 => ?_
  exact hg F1 H1 vs ds z Q g1.fh a1 e2 fun F' H' v g av => q F' H' v (g1.trans g) av
noncomputable def zi9 : List D → Option D
  | [.lst ds] => some (.int ds.length)
  | [.tup ds] => some (.int ds.length)
  | [.scr ds] => some (.int ds.length)
  | _ => none
theorem xi : CaD (fun xs H Q => ∃ p ys, xs = [.ref p] ∧ (SqL KK.K H p ys ∨ SqT KK.K H p ys) ∧ Q (.int ys.length) H) zi9 := by
  intro F H vs ds z Q s al e q
  unfold zi9 at e
  split at e <;> cases e
  all_goals
    obtain ⟨x, r, rfl, ax, ar⟩ := al.cons_inv
    cases ar.nil_inv
  · obtain ⟨p, xs, rfl, hx, bl⟩ := ax.lst_inv
    exact ⟨p, xs, rfl, .inl (SqL.of (s _ _ hx)), by rw [bl.length]; exact q F H _ (.refl s) .int⟩
  · obtain ⟨p, xs, rfl, hx, bl⟩ := ax.tup_inv
    exact ⟨p, xs, rfl, .inr (SqT.of (s _ _ hx)), by rw [bl.length]; exact q F H _ (.refl s) .int⟩
  · obtain ⟨p, rfl, hx⟩ := ax.scr_inv
    exact ⟨p, _, rfl, .inl ((s.seq hx)), by rw [List.length_map]; exact q F H _ (.refl s) .int⟩
noncomputable def zs0 : List D → Option D
  | [.int i, .int j] => some (.int (if j > i then j else i))
  | _ => none
noncomputable def zsO : List D → Option D
  | [.int i, .int j] => some (.int (if j < i then j else i))
  | _ => none
theorem znF {g : Int → Int → Int} : CaD (fun xs H Q => ∃ i j, xs = [.int i, .int j] ∧ Q (.int (g i j)) H) (fun ds => match ds with | [.int i, .int j] => some (.int (g i j)) | _ => none) := by
  intro F H vs ds z Q s al e q
  dsimp only at e
  split at e <;> cases e
  obtain ⟨x, r, rfl, ax, ar⟩ := al.cons_inv
  obtain ⟨y, r, rfl, ay, ar⟩ := ar.cons_inv
  cases ar.nil_inv
  exact ⟨_, _, by rw [ax.int_inv, ay.int_inv], q F H _ (.refl s) .int⟩
theorem zqA : CaD (fun xs H Q => ∃ i j, xs = [.int i, .int j] ∧ Q (.int (if j > i then j else i)) H) zs0 := znF (g := fun i j => if j > i then j else i)
theorem zp6 : CaD (fun xs H Q => ∃ i j, xs = [.int i, .int j] ∧ Q (.int (if j < i then j else i)) H) zsO := znF (g := fun i j => if j < i then j else i)
noncomputable def zad : List D → Option D
  | [.lst ds] => some (.tup ds)
  | [.tup ds] => some (.tup ds)
  | _ => none
theorem zaq {K : PySem.W.Frag} : CaD (fun xs H Q => ∃ p ys, xs = [.ref p] ∧ ((SqL K H p ys ∧ ∀ l, H l = none → Q (.ref l) (upd H l (.tup ys))) ∨ (SqT K H p ys ∧ Q (.ref p) H))) zad := by
  intro F H vs ds z Q s al e q
  unfold zad at e
  split at e <;> cases e
  all_goals
    obtain ⟨x, r, rfl, ax, ar⟩ := al.cons_inv
    cases ar.nil_inv
  · obtain ⟨p, xs, rfl, hx, bl⟩ := ax.lst_inv
    refine ⟨p, xs, rfl, .inl ⟨SqL.of (s _ _ hx), fun l hl => ?_⟩⟩
    have g := Gr.alloc s hl (.tup xs)
    exact q _ _ _ g (.tup zy (bl.mono g.ff))
  · obtain ⟨p, xs, rfl, hx, bl⟩ := ax.tup_inv
    exact ⟨p, xs, rfl, .inr ⟨SqT.of (s _ _ hx), q F H _ (.refl s) (.tup hx bl)⟩⟩
noncomputable def zqq : List D → Option (List D)
  | [.lst ds] => some ds
  | [.tup ds] => some ds
  | [.scr ns] => some (ns.map .int)
  | _ => none
theorem zrF {p : Pos} {f : Ev → Option (List D)} (hgl : Gl X "list") (hm : X.mg "list" = none) (ha : AD X [e] f) (hK : X.K = KK.K := by rfl)
    (he : starEach [e] X.env = (false, eval e X.env) :: starEach [] X.env := by rfl) (hpl : (backTo pos (starEach [] X.env)).any (·.1) = false := by rfl) : FL X (.Call (.Name "list" p) [e] [] pos) (fFn zqq f) := by
  obtain ⟨t, pa, ra⟩ := ha
  refine ⟨_, zla zkw hgl hm zeP pa (by decide) (by decide) he hpl, fun σ ρ F H z Q s va e q => ?_⟩
  obtain ⟨ds, e1, e2⟩ := Option.bind_eq_some_iff.mp e
  refine ra σ ρ F H ds _ s va e1 fun F1 H1 vs g1 a1 => ?_
  unfold zqq at e2
  split at e2 <;> cases e2
  all_goals
    obtain ⟨x, r, rfl, ax, ar⟩ := a1.cons_inv
    cases ar.nil_inv
  · obtain ⟨p, xs, rfl, hx, bl⟩ := ax.lst_inv
    exact ⟨p, xs, rfl, .inl (SqL.of (g1.fh _ _ hx)), fun l hl => q _ _ _ _ (g1.trans (Gr.hide g1.fh hl _)) (zph g1 hl) (g1.fh.free hl) zy bl⟩
  · obtain ⟨p, xs, rfl, hx, bl⟩ := ax.tup_inv
    exact ⟨p, xs, rfl, .inr (SqT.of (g1.fh _ _ hx)), fun l hl => q _ _ _ _ (g1.trans (Gr.hide g1.fh hl _)) (zph g1 hl) (g1.fh.free hl) zy bl⟩
  · obtain ⟨p, rfl, hx⟩ := ax.scr_inv
    exact ⟨p, _, rfl, .inl (by rw [hK]; exact g1.fh.seq hx), fun l hl => q _ _ _ _ (g1.trans (Gr.hide g1.fh hl _)) (zph g1 hl) (g1.fh.free hl) zy (.ints _)⟩
inductive TyD (K : PySem.W.Frag) (H : Hp) : V → Value → Prop where
  | of {v : V} {t : Value} (h : znl K H v t) : TyD K H v t
  | dd {a : Addr} {u : HO} (h : Rd H a u) (d : (∃ kvs, u = .dK kvs) ∨ ∃ kvs, u = .dT kvs) : TyD K H (.ref a) (.type "dict")
theorem zjd {X : Cx} : VH X (.builtin "isinstance") (fun xs H Q => ∃ x n t b, xs = [x, .ty n] ∧ TyD X.K H x t ∧ PySem.W.kitOne X.K t (.type n) = some b ∧ Q (.bl b) H) := by
  intro pins s σ H xs us Q I r h
  obtain ⟨x, n, t, b, rfl, ty, e, q⟩ := h
  cases ty with
  | of ty => exact zmE pins s σ H _ us Q I r ⟨x, n, t, b, rfl, ty, e, q⟩
  | @dd a u h d =>
    cases r with
    | cons r1 r2 =>
      cases r2 with
      | cons r3 r4 =>
        cases r4
        cases r1
        cases r3
        have ok := h.ok I.hok
        rcases d with ⟨kvs, rfl⟩ | ⟨kvs, rfl⟩
        · obtain ⟨_, _, vs, _, p⟩ := (show yV X.prog X.w H s.heap a (.dK kvs) from ok)
          obtain ⟨o, es, ep, h1, h2, _⟩ := p
          exact PySem.W.kia_one PySem.W.kitx_dict I.kIn ⟨o, h1, h2.1⟩ e (fun z => nomatch z) fun tk => ⟨.bl b, H, I.tok tk, rfl, q⟩
        · obtain ⟨_, _, xs, _, o, es, ep, h1, h2, _⟩ := (show yV X.prog X.w H s.heap a (.dT kvs) from ok)
          exact PySem.W.kia_one PySem.W.kitx_dict I.kIn ⟨o, h1, h2.1⟩ e (fun z => nomatch z) fun tk => ⟨.bl b, H, I.tok tk, rfl, q⟩
theorem At.ty {K : PySem.W.Frag} {F H : Hp} (s : yW F H) : ∀ {d : D} {v : V}, At F d v → (∀ ns, d ≠ .scr ns) → TyD K H v (.type (tyN d))
  | .non, _, h, _ => by cases h.non_inv; exact .of .non
  | .bl b, _, h, _ => by cases h.bl_inv; exact .of (.bl b)
  | .int i, _, h, _ => by cases h.int_inv; exact .of (.int i)
  | .str x, _, h, _ => by cases h.str_inv; exact .of (.str x)
  | .tup ds, _, h, _ => by obtain ⟨a, xs, rfl, e, _⟩ := h.tup_inv; exact .of (.tup (s _ _ e))
  | .lst ds, _, h, _ => by obtain ⟨a, xs, rfl, e, _⟩ := h.lst_inv; exact .of (.lst (s _ _ e))
  | .scr ns, _, _, n => absurd rfl (n ns)
  | .dct z t ks vs, _, h, _ => by
    obtain ⟨a, xs, rfl, d, _⟩ := h.dct_inv
    obtain ⟨u, e1, e2⟩ := (d.mono s).rd
    exact .dd e2 (by
      unfold zjN at e1
      split at e1
      · obtain ⟨kvs, rfl, _⟩ := e1; exact .inr ⟨kvs, rfl⟩
      · obtain ⟨kvs, rfl, _⟩ := e1; exact .inl ⟨kvs, rfl⟩)
inductive Ty where
  | int | bool | tuple | list | str
noncomputable def Ty.nm : Ty → String
  | .int => "int" | .bool => "bool" | .tuple => "tuple" | .list => "list" | .str => "str"
noncomputable def isT : Ty → D → Bool
  | .int, .int _ => true | .int, .bl _ => true
  | .bool, .bl _ => true
  | .tuple, .tup _ => true
  | .list, .lst _ => true
  | .str, .str _ => true
  | _, _ => false
noncomputable def x8 (n : Ty) : D → Option D
  | .scr _ => none
  | d => some (.bl (isT n d))
theorem zte (K : PySem.W.Frag) (n : Ty) (d : D) (h : ∀ ns, d ≠ .scr ns) : PySem.W.kitOne K (.type (tyN d)) (.type n.nm) = some (isT n d) := by
  cases n <;> cases d <;> first | exact absurd rfl (h _) | kernel_rfl
theorem zR {p : Pos} {f : Ev → Option D} (n : Ty) (hgl : Gl X "isinstance") (hm : X.mg "isinstance" = none) (ha : ED X a f) (hb : PE X b (tC (.ty n.nm)))
    (hs : starEach [a, b] X.env = (false, eval a X.env) :: starEach [b] X.env := by rfl) (hs2 : starEach [b] X.env = (false, eval b X.env) :: starEach [] X.env := by rfl) (hpl : (backTo pos (starEach [b] X.env)).any (·.1) = false := by rfl) :
    ED X (.Call (.Name "isinstance" p) [a, b] [] pos) (eUn (x8 n) f) := by
  obtain ⟨t, pa, ra⟩ := ha
  refine ⟨_, zno zjd hgl hm ziQ (zbm pa (zbm hb zle hs2) hs) (by decide) (by decide) hs hpl, fun σ ρ F H z Q s va e q => ?_⟩
  obtain ⟨d, e1, e2⟩ := Option.bind_eq_some_iff.mp e
  refine ra σ ρ F H d _ s va e1 fun F1 H1 v g1 a1 => ?_
  have ns : ∀ ns, d ≠ .scr ns := fun ns h => by subst h; cases e2
  have e3 : z = .bl (isT n d) := by
    cases d <;> first | exact (Option.some.inj e2).symm | exact absurd rfl (ns _)
  subst e3
  exact ⟨v, n.nm, _, _, rfl, a1.ty g1.fh ns, zte _ n d ns, q F1 H1 _ g1 .bl⟩
noncomputable def zrf (m : Bool) (i : Nat) (f : Ev → Option D) : SE → Ctl := fun ρ => match (vEv m f ρ).bind fun d => match ρ[i]? with
    | some (.o ds) => if decide (ds.length < sizeLine) = true then some (ρ.set i (.o (ds ++ [d]))) else none
    | _ => none with
  | some ρ' => .nx ρ'
  | none => .no
theorem zoV {m : Bool} {i : Nat} {p pos' : Pos} {f : Ev → Option D} (ho : PE X a (zrk i)) (he : ED X e f)
    (hp : ∀ {ta : TE} {t : TA}, PE X a ta → PA X [e] t → PE X (.Call (.Attribute a "append" p) [e] [] pos') (tBM X.K "list" zpn ta t)) (hsw : swapsWith (.Call (.Attribute a "append" p) [e] [] pos') none pos.line X.env = pure false := by rfl)
    (hs : starEach [e] X.env = (false, eval e X.env) :: starEach [] X.env := by rfl) : SD X (.Expr (.Call (.Attribute a "append" p) [e] [] pos') pos) (zrf m i f) := by
  obtain ⟨t, pe, re⟩ := he
  refine ⟨_, zl8 (hp ho (zbm pe zle hs)) hsw, fun Fb Hb F H ρ σ E rl k => ?_⟩
  unfold zrf at k
  cases h : (vEv m f ρ).bind fun d => match ρ[i]? with
    | some (.o ds) => if decide (ds.length < sizeLine) = true then some (ρ.set i (.o (ds ++ [d]))) else none
    | _ => none with
  | none => rw [h] at k; exact k.elim
  | some ρ' =>
    rw [h] at k
    obtain ⟨d, e1, e2⟩ := Option.bind_eq_some_iff.mp h
    cases hs : ρ[i]? with
    | none => rw [hs] at e2; cases e2
    | some sl =>
      rw [hs] at e2
      cases sl with
      | no => cases e2
      | v _ => cases e2
      | m _ _ _ => cases e2
      | o ds =>
        dsimp only at e2
        split at e2 <;> cases e2
        rename_i hl
        obtain ⟨q, xs, f1, f2, f3, f4, f5⟩ := rl.owns i ds hs
        refine ⟨_, f1, .inl ⟨rfl, xs, SqL.of f4⟩, ?_⟩
        refine re.at rl e1 fun F' H' v g av => ?_
        have rl2 := rl.grow g
        obtain ⟨q2, xs2, f1', _, _, f4', f5'⟩ := rl2.owns i ds hs
        rw [f1] at f1'
        cases f1'
        refine ⟨q, xs2, v, rfl, rfl, f4', by rw [f5'.length]; exact of_decide_eq_true hl, ?_⟩
        exact k _ _ σ (rl2.mutate hs f1 (f5'.snoc av))
noncomputable def zub (i : Nat) (f : Ev → Option D) : SE → Ctl := fun ρ => match (f (visF ρ)).bind fun d => match ρ[i]?, d with
    | some (.o ds), .lst es => if lim (ds.length + es.length) = true then some (ρ.set i (.o (ds ++ es))) else none
    | _, _ => none with
  | some ρ' => .nx ρ'
  | none => .no
theorem zq3 {i : Nat} {p pos' : Pos} {f : Ev → Option D} (ho : PE X a (zrk i)) (he : ED X e f)
    (hp : ∀ {ta : TE} {t : TA}, PE X a ta → PA X [e] t → PE X (.Call (.Attribute a "extend" p) [e] [] pos') (tBM X.K "list" zo3 ta t)) (hsw : swapsWith (.Call (.Attribute a "extend" p) [e] [] pos') none pos.line X.env = pure false := by rfl)
    (hs : starEach [e] X.env = (false, eval e X.env) :: starEach [] X.env := by rfl) : SD X (.Expr (.Call (.Attribute a "extend" p) [e] [] pos') pos) (zub i f) := by
  obtain ⟨t, pe, re⟩ := he
  refine ⟨_, zl8 (hp ho (zbm pe zle hs)) hsw, fun Fb Hb F H ρ σ E rl k => ?_⟩
  unfold zub at k
  cases h : (f (visF ρ)).bind fun d => match ρ[i]?, d with
    | some (.o ds), .lst es => if lim (ds.length + es.length) = true then some (ρ.set i (.o (ds ++ es))) else none
    | _, _ => none with
  | none => rw [h] at k; exact k.elim
  | some ρ' =>
    rw [h] at k
    obtain ⟨d, e1, e2⟩ := Option.bind_eq_some_iff.mp h
    cases hs : ρ[i]? with
    | none => rw [hs] at e2; cases e2
    | some sl =>
      rw [hs] at e2
      cases sl with
      | no => cases e2
      | v _ => cases e2
      | m _ _ _ => cases e2
      | o ds =>
        cases d with
        | lst es =>
          dsimp only at e2
          split at e2 <;> cases e2
          rename_i hl
          obtain ⟨q, xs, f1, f2, f3, f4, f5⟩ := rl.owns i ds hs
          refine ⟨_, f1, .inl ⟨rfl, xs, SqL.of f4⟩, ?_⟩
          refine re σ _ _ H _ _ rl.gr.fh rl.visF e1 fun F' H' v g av => ?_
          have rl2 := rl.grow g
          obtain ⟨q2, xs2, f1', _, _, f4', f5'⟩ := rl2.owns i ds hs
          rw [f1] at f1'
          cases f1'
          obtain ⟨pb, zs, rfl, hz, bl⟩ := av.lst_inv
          refine ⟨q, pb, xs2, zs, rfl, rfl, f4', g.fh _ _ hz, by rw [f5'.length, bl.length]; exact of_decide_eq_true hl, ?_⟩
          exact k _ _ σ (rl2.mutate hs f1 (f5'.append bl))
        | _ => cases e2
end
end Dl
namespace Dl
open PySem L2
variable [KK]
noncomputable def okE : Nat → D → Bool
  | _, .scr _ => false
  | _, .dct _ _ _ _ => false
  | 0, .tup _ => false
  | 0, .lst _ => false
  | n + 1, .tup ds => ds.all (okE n)
  | n + 1, .lst ds => ds.all (okE n)
  | _, _ => true
noncomputable def eqN : Nat → D → D → Bool
  | _, .non, .non => true
  | _, .bl a, .bl b => a == b
  | _, .bl a, .int b => (if a then 1 else 0) == b
  | _, .int a, .bl b => a == (if b then 1 else 0)
  | _, .int a, .int b => a == b
  | _, .str a, .str b => a == b
  | n + 1, .tup a, .tup b => (List.zipWith (eqN n) a b).all id && a.length == b.length
  | n + 1, .lst a, .lst b => (List.zipWith (eqN n) a b).all id && a.length == b.length
  | _, _, _ => false
omit [KK] in
theorem zlY {n : Nat} : ∀ (a b : List D), (List.zipWith (eqN n) a b).all id = (List.range (min a.length b.length)).all fun j => eqN n (a.getD j .non) (b.getD j .non) := by
  intro a b
  have : List.zipWith (eqN n) a b = (List.range (min a.length b.length)).map fun j => eqN n (a.getD j .non) (b.getD j .non) := by
    apply List.ext_getElem
    · simp
    · intro i h1 h2
      simp at h1 h2
      have g1 : i < a.length := Nat.lt_of_lt_of_le h1 (Nat.min_le_left _ _)
      have g2 : i < b.length := Nat.lt_of_lt_of_le h1 (Nat.min_le_right _ _)
      simp [g1, g2]
  rw [this, List.all_map]
  rfl
omit [KK] in
noncomputable def vOf : D → V
  | .bl b => .bl b
  | .int i => .int i
  | .str t => .str t
  | _ => .non
theorem xK {F : Hp} {d : D} {x : V} (h : okE 0 d = true) (a : At F d x) : x = vOf d := by
  cases d with
  | non => exact a.non_inv
  | bl b => exact a.bl_inv
  | int b => exact a.int_inv
  | str b => exact a.str_inv
  | _ => cases h
omit [KK] in
theorem zbT {d : D} (h : okE 0 d = true) : zrp (vOf d) = true := by
  cases d <;> first | rfl | cases h
omit [KK] in
theorem zfo {d : D} {p : Addr} (h : okE 0 d = true) (e : vOf d = .ref p) : False := by
  cases d <;> first | (cases h; done) | (cases e; done)
noncomputable def dOfV : V → D
  | .bl b => .bl b
  | .int i => .int i
  | .str t => .str t
  | _ => .non
omit [KK] in
theorem zo8 {d : D} (h : okE 0 d = true) : dOfV (vOf d) = d := by
  cases d <;> first | rfl | (cases h; done)
omit [KK] in
theorem zo4 {d e : D} (h1 : okE 0 d = true) (h2 : okE 0 e = true) (h : vOf d = vOf e) : d = e := by
  rw [← zo8 h1, h, zo8 h2]
omit [KK] in
theorem xC {n : Nat} {d : D} (h : okE (n + 1) d = true) : okE 0 d = true ∨ (∃ ds, d = .tup ds ∧ ds.all (okE n) = true) ∨ ∃ ds, d = .lst ds ∧ ds.all (okE n) = true := by
  cases d with
  | tup ds => exact .inr (.inl ⟨ds, rfl, h⟩)
  | lst ds => exact .inr (.inr ⟨ds, rfl, h⟩)
  | scr _ => cases h
  | dct _ _ _ _ => cases h
  | _ => exact .inl rfl
theorem zpo {F : Hp} {n : Nat} (ih : ∀ {d e : D} {v : V}, okE n d = true → okE n e = true → At F d v → At F e v → d = e) : ∀ {xs : List V} {ds es : List D}, ds.all (okE n) = true → es.all (okE n) = true → AtL F ds xs → AtL F es xs → ds = es := by
  intro xs
  induction xs with
  | nil =>
    intro ds es _ _ a1 a2
    exact (List.length_eq_zero_iff.mp a1.length.symm).trans (List.length_eq_zero_iff.mp a2.length.symm).symm
  | cons x xs ih2 =>
    intro ds es h1 h2 a1 a2
    cases ds with
    | nil => cases a1.nil_inv
    | cons d ds => cases es with
      | nil => cases a2.nil_inv
      | cons e es =>
        obtain ⟨y, r, e1, b1, c1⟩ := a1.cons_inv
        obtain ⟨y2, r2, e2, b2, c2⟩ := a2.cons_inv
        cases e1
        cases e2
        rw [List.all_cons, Bool.and_eq_true] at h1 h2
        rw [ih2 h1.2 h2.2 c1 c2, ih h1.1 h2.1 b1 b2]
theorem zrb {F : Hp} : ∀ (n : Nat) {d e : D} {v : V}, okE n d = true → okE n e = true → At F d v → At F e v → d = e := by
  intro n
  induction n with
  | zero =>
    intro d e v h1 h2 a1 a2
    exact zo4 h1 h2 ((xK h1 a1).symm.trans (xK h2 a2))
  | succ n ih =>
    intro d e v h1 h2 a1 a2
    rcases xC h1 with f1 | ⟨ds, rfl, k1⟩ | ⟨ds, rfl, k1⟩
    · have e1 := xK f1 a1
      rcases xC h2 with f2 | ⟨es, rfl, _⟩ | ⟨es, rfl, _⟩
      · exact zo4 f1 f2 (e1.symm.trans (xK f2 a2))
      · obtain ⟨p, xs, e2, _⟩ := a2.tup_inv
        exact (zfo f1 (e1.symm.trans e2)).elim
      · obtain ⟨p, xs, e2, _⟩ := a2.lst_inv
        exact (zfo f1 (e1.symm.trans e2)).elim
    · obtain ⟨p, xs, e0, hx, al⟩ := a1.tup_inv
      rcases xC h2 with f2 | ⟨es, rfl, k2⟩ | ⟨es, rfl, k2⟩
      · exact (zfo f2 ((xK f2 a2).symm.trans e0)).elim
      · obtain ⟨q, ys, e1, hy, bl⟩ := a2.tup_inv
        cases e0.symm.trans e1
        cases hx.symm.trans hy
        rw [zpo ih k1 k2 al bl]
      · obtain ⟨q, ys, e1, hy, bl⟩ := a2.lst_inv
        cases e0.symm.trans e1
        cases hx.symm.trans hy
    · obtain ⟨p, xs, e0, hx, al⟩ := a1.lst_inv
      rcases xC h2 with f2 | ⟨es, rfl, k2⟩ | ⟨es, rfl, k2⟩
      · exact (zfo f2 ((xK f2 a2).symm.trans e0)).elim
      · obtain ⟨q, ys, e1, hy, bl⟩ := a2.tup_inv
        cases e0.symm.trans e1
        cases hx.symm.trans hy
      · obtain ⟨q, ys, e1, hy, bl⟩ := a2.lst_inv
        cases e0.symm.trans e1
        cases hx.symm.trans hy
        rw [zpo ih k1 k2 al bl]
omit [KK] in
theorem zqx : ∀ (n : Nat) {d : D}, okE n d = true → eqN n d d = true := by
  intro n
  induction n with
  | zero =>
    intro d h
    cases d with
    | tup _ => cases h
    | lst _ => cases h
    | scr _ => cases h
    | dct _ _ _ _ => cases h
    | _ => first | rfl | exact decide_eq_true rfl | exact beq_self_eq_true _
  | succ n ih =>
    have ihl : ∀ {ds : List D}, ds.all (okE n) = true → (List.zipWith (eqN n) ds ds).all id = true := by
      intro ds
      induction ds with
      | nil => intro _; rfl
      | cons d ds ih2 =>
        intro h
        rw [List.all_cons, Bool.and_eq_true] at h
        rw [List.zipWith_cons_cons, List.all_cons, ih2 h.2, Bool.and_true]
        exact ih h.1
    intro d h
    cases d with
    | tup ds => show ((List.zipWith (eqN n) ds ds).all id && ds.length == ds.length) = true; rw [ihl h]; simp
    | lst ds => show ((List.zipWith (eqN n) ds ds).all id && ds.length == ds.length) = true; rw [ihl h]; simp
    | scr _ => cases h
    | dct _ _ _ _ => cases h
    | _ => first | rfl | exact decide_eq_true rfl | exact beq_self_eq_true _
theorem zq7 {F : Hp} (n : Nat) {d e : D} {v : V} (h1 : okE n d = true) (h2 : okE n e = true) (a1 : At F d v) (a2 : At F e v) : eqN n d e = true := by
  rw [zrb n h1 h2 a1 a2]
  exact zqx n h2
omit [KK] in
theorem ZO {n : Nat} {ds : List D} {j : Nat} (h : ds.all (okE n) = true) (hj : j < ds.length) : okE n (ds.getD j .non) = true := by
  have : ds.getD j .non = ds[j] := by simp [hj]
  rw [this]
  exact List.all_eq_true.mp h _ (List.getElem_mem hj)
theorem AtL.nth {F : Hp} {ds : List D} {xs : List V} {us : List Value} {j : Nat} (al : AtL F ds xs) (r : yG xs us) (h : j < us.length) : ∃ x, At F (ds.getD j .non) x ∧ yY x us[j] := by
  have hl := al.length
  have hl2 := r.length
  have hj : j < ds.length := by omega
  obtain ⟨x, hx, ax⟩ := al.get (i := j) (d := ds[j]) (by simp [hj])
  obtain ⟨u, hu, ru⟩ := r.get hx
  refine ⟨x, by rw [show ds.getD j .non = ds[j] by simp [hj]]; exact ax, ?_⟩
  have : us[j]? = some us[j] := by simp [h]
  rw [hu] at this
  cases this
  exact ru
omit [KK] in
theorem znB {n : Nat} {d e : D} (h1 : okE 0 d = true) (h2 : okE 0 e = true) : eqN n d e = eqV (vOf d) (vOf e) := by
  cases n <;> cases d <;> first | (cases h1; done) | skip
  all_goals cases e <;> first | (cases h2; done) | rfl
omit [KK] in
theorem zni {n : Nat} {d : D} (ds : List D) (h : okE 0 d = true) : eqN (n + 1) d (.tup ds) = false ∧ eqN (n + 1) d (.lst ds) = false ∧ eqN (n + 1) (.tup ds) d = false ∧ eqN (n + 1) (.lst ds) d = false := by
  cases d <;> first | exact ⟨rfl, rfl, rfl, rfl⟩ | cases h
omit [KK] in
theorem zdb {A : Around} {s : Shared} {d : D} {u : Value} {p : Addr} {its : Array Value} (h : okE 0 d = true) (r : yY (vOf d) u) (hu : A.units < cLine) :
    (s.heap.IsTuple p its → SeqAt.EqAt A s u (.ref p) false ∧ SeqAt.EqAt A s (.ref p) u false) ∧ (s.heap.IsList p its → SeqAt.EqAt A s u (.ref p) false ∧ SeqAt.EqAt A s (.ref p) u false) := by
  cases d with
  | non => cases r; exact ⟨fun ht => ⟨.none_tuple ht hu, .tuple_none ht hu⟩, fun ht => ⟨.none_list ht hu, .list_none ht hu⟩⟩
  | bl b => cases r; exact ⟨fun ht => ⟨.bool_tuple b ht hu, .tuple_bool b ht hu⟩, fun ht => ⟨.bool_list b ht hu, .list_bool b ht hu⟩⟩
  | int b => obtain ⟨t, rfl⟩ := r; exact ⟨fun ht => ⟨.int_tuple b t ht hu, .tuple_int b t ht hu⟩, fun ht => ⟨.int_list b t ht hu, .list_int b t ht hu⟩⟩
  | str b => obtain ⟨t, rfl⟩ := r; exact ⟨fun ht => ⟨.str_tuple b t ht hu, .tuple_str b t ht hu⟩, fun ht => ⟨.str_list b t ht hu, .list_str b t ht hu⟩⟩
  | _ => cases h
theorem zio {X : Cx} {pins : List (Addr × Obj)} {σ : St} {F H : Hp} {s : Shared} (I : Inv X pins σ H s) (sm : yW F H) {ds : List D} {x : V} {u : Value} (a : At F (.tup ds) x) (r : yY x u) : ∃ p its xs, u = .ref p ∧ x = .ref p ∧ yG xs its ∧ AtL F ds xs ∧ s.heap.IsTuple p its.toArray := by
  obtain ⟨p, xs, rfl, hx, al⟩ := a.tup_inv
  cases r
  obtain ⟨its, rv, ht, hz⟩ := I.tuple (SqT.of (sm _ _ hx))
  exact ⟨p, its, xs, rfl, rfl, rv, al, ht⟩
theorem zh5 {X : Cx} {pins : List (Addr × Obj)} {σ : St} {F H : Hp} {s : Shared} (I : Inv X pins σ H s) (sm : yW F H) {ds : List D} {x : V} {u : Value} (a : At F (.lst ds) x) (r : yY x u) : ∃ p its xs, u = .ref p ∧ x = .ref p ∧ yG xs its ∧ AtL F ds xs ∧ s.heap.IsList p its.toArray := by
  obtain ⟨p, xs, rfl, hx, al⟩ := a.lst_inv
  cases r
  obtain ⟨its, rv, ht, hz⟩ := I.list (SqL.of (sm _ _ hx))
  exact ⟨p, its, xs, rfl, rfl, rv, al, ht.isList⟩
omit [KK] in
theorem zoC {n : Nat} (ds es : List D) : ((List.zipWith (eqN n) ds es).all id && ds.length == es.length) = ((List.range (min ds.length es.length)).all (fun j => eqN n (ds.getD j .non) (es.getD j .non)) && ds.length == es.length) := by rw [zlY]
theorem zoM {X : Cx} {pins : List (Addr × Obj)} {σ : St} {F H : Hp} {s : Shared} (I : Inv X pins σ H s) (sm : yW F H) : ∀ (n : Nat) {A : Around} {d e : D} {x y : V} {u v : Value}, okE n d = true → okE n e = true → At F d x → At F e y → yY x u → yY y v → A.units + n < cLine → SeqAt.EqAt A s u v (eqN n d e) := by
  intro n
  induction n with
  | zero =>
    intro A d e x y u v h1 h2 a1 a2 r1 r2 hu
    cases xK h1 a1
    cases xK h2 a2
    rw [znB h1 h2]
    exact zq9 r1 r2 (zbT h1) (zbT h2)
  | succ n ih =>
    intro A d e x y u v h1 h2 a1 a2 r1 r2 hu
    have hu0 : A.units < cLine := Nat.lt_of_le_of_lt (Nat.le_add_right _ _) hu
    have hu1 : A.units + 1 + n < cLine := by rw [Nat.add_assoc, Nat.add_comm 1 n]; exact hu
    rcases xC h1 with f1 | ⟨ds, rfl, k1⟩ | ⟨ds, rfl, k1⟩
    · cases xK f1 a1
      rcases xC h2 with f2 | ⟨es, rfl, k2⟩ | ⟨es, rfl, k2⟩
      · cases xK f2 a2
        rw [znB f1 f2]
        exact zq9 r1 r2 (zbT f1) (zbT f2)
      · obtain ⟨q, its2, ys, rfl, _, _, _, ht2⟩ := zio I sm a2 r2
        rw [(zni es f1).1]
        exact ((zdb f1 r1 hu0).1 ht2).1
      · obtain ⟨q, its2, ys, rfl, _, _, _, ht2⟩ := zh5 I sm a2 r2
        rw [(zni es f1).2.1]
        exact ((zdb f1 r1 hu0).2 ht2).1
    · obtain ⟨p, its, xs, rfl, hxp, rv, al, ht⟩ := zio I sm a1 r1
      rcases xC h2 with f2 | ⟨es, rfl, k2⟩ | ⟨es, rfl, k2⟩
      · cases xK f2 a2
        rw [(zni ds f2).2.2.1]
        exact ((zdb f2 r2 hu0).1 ht).2
      · obtain ⟨q, its2, ys, rfl, hyq, rv2, bl, ht2⟩ := zio I sm a2 r2
        by_cases hpq : p = q
        · subst hpq
          rw [hxp] at a1
          rw [hyq] at a2
          rw [zq7 (n + 1) h1 h2 a1 a2]
          exact .same _
        · have hl1 : its.toArray.size = ds.length := by rw [List.size_toArray, ← rv.length, al.length]
          have hl2 : its2.toArray.size = es.length := by rw [List.size_toArray, ← rv2.length, bl.length]
          have := SeqAt.RcAt.tuples (A := A) (e := fun j => eqN n (ds.getD j .non) (es.getD j .non)) ht ht2 hu0 fun j g1 g2 => by
            obtain ⟨x', ax, rx⟩ := al.nth rv (j := j) g1
            obtain ⟨y', ay, ry⟩ := bl.nth rv2 (j := j) g2
            exact ih (ZO k1 (hl1 ▸ g1)) (ZO k2 (hl2 ▸ g2)) ax ay rx ry hu1
          rw [hl1, hl2] at this
          rw [show eqN (n + 1) (.tup ds) (.tup es) = _ from zoC ds es]
          exact SeqAt.EqAt.of_refs hpq this
      · obtain ⟨q, its2, ys, rfl, _, _, _, ht2⟩ := zh5 I sm a2 r2
        exact .tuple_list ht ht2 hu0
    · obtain ⟨p, its, xs, rfl, hxp, rv, al, ht⟩ := zh5 I sm a1 r1
      rcases xC h2 with f2 | ⟨es, rfl, k2⟩ | ⟨es, rfl, k2⟩
      · cases xK f2 a2
        rw [(zni ds f2).2.2.2]
        exact ((zdb f2 r2 hu0).2 ht).2
      · obtain ⟨q, its2, ys, rfl, _, _, _, ht2⟩ := zio I sm a2 r2
        exact .list_tuple ht ht2 hu0
      · obtain ⟨q, its2, ys, rfl, hyq, rv2, bl, ht2⟩ := zh5 I sm a2 r2
        by_cases hpq : p = q
        · subst hpq
          rw [hxp] at a1
          rw [hyq] at a2
          rw [zq7 (n + 1) h1 h2 a1 a2]
          exact .same _
        · have hl1 : its.toArray.size = ds.length := by rw [List.size_toArray, ← rv.length, al.length]
          have hl2 : its2.toArray.size = es.length := by rw [List.size_toArray, ← rv2.length, bl.length]
          rw [show eqN (n + 1) (.lst ds) (.lst es) = _ from zoC ds es]
          by_cases hle : ds.length = es.length
          · have := SeqAt.RcAt.lists (A := A) (e := fun j => eqN n (ds.getD j .non) (es.getD j .non)) ht ht2 (by rw [hl1, hl2, hle]) hu0 fun j g1 g2 => by
              obtain ⟨x', ax, rx⟩ := al.nth rv (j := j) g1
              obtain ⟨y', ay, ry⟩ := bl.nth rv2 (j := j) g2
              exact ih (ZO k1 (hl1 ▸ g1)) (ZO k2 (hl2 ▸ g2)) ax ay rx ry hu1
            rw [hl1] at this
            rw [← hle, Nat.min_self, beq_self_eq_true, Bool.and_true]
            exact SeqAt.EqAt.of_refs hpq this
          · have := SeqAt.RcAt.lists_lengths (A := A) ht ht2 (by rw [hl1, hl2]; exact bne_iff_ne.mpr hle) hu0
            rw [beq_eq_false_iff_ne.mpr hle, Bool.and_false]
            exact SeqAt.EqAt.of_refs hpq this
noncomputable def zvb (d : D) (es : List D) : Option Bool := if okE 20 d = true ∧ es.all (okE 20) = true then some (es.any fun e => eqN 20 e d) else none
noncomputable def inD (d e : D) : Option D := (zdd e).bind fun es => (zvb d es).map .bl
open Classical in
noncomputable def zpI (F : Hp) (d : D) (u : Value) : Bool := decide (∃ d0 x, At F d0 x ∧ yY x u ∧ okE 20 d0 = true ∧ eqN 20 d0 d = true)
open Classical in
theorem zoJ {F : Hp} {d d0 : D} {x : V} {u : Value} (a : At F d0 x) (r : yY x u) (k : okE 20 d0 = true) : zpI F d u = eqN 20 d0 d := by
  unfold zpI
  cases h : eqN 20 d0 d with
  | true => exact decide_eq_true ⟨d0, x, a, r, k, h⟩
  | false =>
    refine decide_eq_false ?_
    rintro ⟨d1, y, a1, r1, k1, h1⟩
    have e := r1.inj r
    subst e
    rw [zrb 20 k1 k a1 a] at h1
    rw [h1] at h
    cases h
theorem zdt {F : Hp} {d : D} : ∀ {ds : List D} {xs : List V} {us : List Value}, AtL F ds xs → yG xs us → ds.all (okE 20) = true → us.any (zpI F d) = ds.any fun e => eqN 20 e d
  | [], _, _, al, r, _ => by cases al.nil_inv; cases r; rfl
  | e :: ds, _, _, al, r, k => by
    obtain ⟨x, xs, rfl, a1, a2⟩ := al.cons_inv
    cases r with
    | cons r1 r2 =>
      rw [List.all_cons, Bool.and_eq_true] at k
      rw [List.any_cons, List.any_cons, zoJ a1 r1 k.1, zdt a2 r2 k.2]
section
variable {X : Cx}
noncomputable def rInD (neg : Bool) : R2 := fun x y H Q => ∃ F d e es b, yW F H ∧ At F d x ∧ At F e y ∧ zdd e = some es ∧ zvb d es = some b ∧ Q (.bl (if neg then !b else b)) H
theorem zrc {k : Nat} (hr : zau k X.A) : OpR X (compareOp .In) (rInD false) := by
  intro pins s σ H x y v u Q I rx ry h
  obtain ⟨F, d, e, es, b, sm, a1, a2, hs, hb, q⟩ := h
  unfold zvb at hb
  split at hb <;> cases hb
  rename_i hk
  have hu : X.A.in1.units + 20 < cLine := by have := hr.un; show X.A.units + 1 + 20 < cLine; omega
  have mem : ∀ {xs : List V} {us : List Value}, AtL F es xs → yG xs us → ∀ z ∈ us, SeqAt.EqAt X.A.in1 s z v (zpI F d z) := fun {xs us} al r z hz => by
    obtain ⟨j, hj, rfl⟩ := List.getElem_of_mem hz
    obtain ⟨x', ax, rx'⟩ := al.nth r hj
    have hj' : j < es.length := by have := al.length; have := r.length; omega
    have k2 := ZO hk.2 hj'
    rw [zoJ ax rx' k2]
    exact zoM I sm 20 k2 hk.1 ax a1 rx' rx hu
  cases e <;> cases hs
  · obtain ⟨p, xs, rfl, hx, al⟩ := a2.tup_inv
    cases ry
    obtain ⟨its, r, pl, hz⟩ := I.tuple (SqT.of (sm _ _ hx))
    refine SeqAt.in_tupleAt (zpI F d) pl (fun z hz => mem al r z (by simpa using hz)) ⟨.bl _, H, I, rfl, ?_⟩
    rw [show its.toArray.any (zpI F d) = its.any (zpI F d) by simp, zdt al r hk.2]
    exact q
  · obtain ⟨p, xs, rfl, hx, al⟩ := a2.lst_inv
    cases ry
    obtain ⟨its, r, pl, hz⟩ := I.list (SqL.of (sm _ _ hx))
    refine SeqAt.in_listAt (zpI F d) pl.isList (fun z hz => mem al r z (by simpa using hz)) ⟨.bl _, H, I, rfl, ?_⟩
    rw [show its.toArray.any (zpI F d) = its.any (zpI F d) by simp, zdt al r hk.2]
    exact q
theorem zqY : OpD (rInD false) inD := by
  intro F H x y d e z Q s ax ay ez q
  obtain ⟨es, e1, e2⟩ := Option.bind_eq_some_iff.mp ez
  obtain ⟨b, e3, rfl⟩ := Option.map_eq_some_iff.mp e2
  exact ⟨F, d, e, es, b, s, ax, ay, e1, e3, q F H _ (.refl s) .bl⟩
noncomputable def eqG (d e : D) : Option Bool := match d, e with
  | .tup _, .tup _ => if okE 20 d = true ∧ okE 20 e = true then some (eqN 20 d e) else none
  | .lst _, .lst _ => if okE 20 d = true ∧ okE 20 e = true then some (eqN 20 d e) else none
  | _, _ => eqS d e
noncomputable def VI (d e : D) : Option D := (eqG d e).map .bl
noncomputable def zum : R2 := fun x y H Q => ∃ F d e, yW F H ∧ At F d x ∧ At F e y ∧ ((∃ ds es, d = .tup ds ∧ e = .tup es) ∨ (∃ ds es, d = .lst ds ∧ e = .lst es)) ∧ okE 20 d = true ∧ okE 20 e = true ∧ Q (.bl (eqN 20 d e)) H
theorem ztj {k : Nat} (hr : zau k X.A) : OpR X (compareOp .Eq) zum := by
  intro pins s σ H x y v u Q I rx ry h
  obtain ⟨F, d, e, sm, a1, a2, hk, k1, k2, q⟩ := h
  have hu : X.A.units + 30 < cLine := by have := hr.un; omega
  rcases hk with ⟨ds, es, rfl, rfl⟩ | ⟨ds, es, rfl, rfl⟩
  · obtain ⟨p, xs, rfl, hx, al⟩ := a1.tup_inv
    obtain ⟨p2, ys, rfl, hy, bl⟩ := a2.tup_inv
    cases rx
    cases ry
    obtain ⟨its, r, ht, hz⟩ := I.tuple (SqT.of (sm _ _ hx))
    obtain ⟨its2, r2, ht2, hz2⟩ := I.tuple (SqT.of (sm _ _ hy))
    have hl1 : its.toArray.size = ds.length := by rw [List.size_toArray, ← r.length, al.length]
    have hl2 : its2.toArray.size = es.length := by rw [List.size_toArray, ← r2.length, bl.length]
    refine SeqAt.eq_tupleAt (e := fun j => eqN 19 (ds.getD j .non) (es.getD j .non)) (show s.heap.IsTuple p its.toArray from ht) (show s.heap.IsTuple p2 its2.toArray from ht2) (by omega) (fun j g1 g2 => ?_) ⟨.bl _, H, I, rfl, ?_⟩
    · obtain ⟨x', ax, rx⟩ := al.nth r (j := j) (by simpa using g1)
      obtain ⟨y', ay, ry⟩ := bl.nth r2 (j := j) (by simpa using g2)
      exact zoM I sm 19 (ZO k1 (by rw [← hl1]; exact g1)) (ZO k2 (by rw [← hl2]; exact g2)) ax ay (by simpa using rx) (by simpa using ry) (Nat.lt_of_le_of_lt (show X.A.units + 20 ≤ X.A.units + 30 from Nat.add_le_add_left (by decide) _) hu)
    · rw [hl1, hl2, ← zlY]
      exact q
  · obtain ⟨p, xs, rfl, hx, al⟩ := a1.lst_inv
    obtain ⟨p2, ys, rfl, hy, bl⟩ := a2.lst_inv
    cases rx
    cases ry
    obtain ⟨its, r, ht, hz⟩ := I.list (SqL.of (sm _ _ hx))
    obtain ⟨its2, r2, ht2, hz2⟩ := I.list (SqL.of (sm _ _ hy))
    have hl1 : its.toArray.size = ds.length := by rw [List.size_toArray, ← r.length, al.length]
    have hl2 : its2.toArray.size = es.length := by rw [List.size_toArray, ← r2.length, bl.length]
    have e1 : eqN 20 (.lst ds) (.lst es) = ((List.range (min ds.length es.length)).all (fun j => eqN 19 (ds.getD j .non) (es.getD j .non)) && ds.length == es.length) := by
      show ((List.zipWith (eqN 19) ds es).all id && ds.length == es.length) = _
      rw [zlY]
    by_cases hle : ds.length = es.length
    · refine SeqAt.eq_listAt (e := fun j => eqN 19 (ds.getD j .non) (es.getD j .non)) ht.isList ht2.isList (by rw [hl1, hl2]; exact hle) (Nat.lt_of_le_of_lt (Nat.le_add_right _ 30) hu) (fun j g1 g2 => ?_) ⟨.bl _, H, I, rfl, ?_⟩
      · obtain ⟨x', ax, rx⟩ := al.nth r (j := j) (by simpa using g1)
        obtain ⟨y', ay, ry⟩ := bl.nth r2 (j := j) (by simpa using g2)
        exact zoM I sm 19 (ZO k1 (by rw [← hl1]; exact g1)) (ZO k2 (by rw [← hl2]; exact g2)) ax ay (by simpa using rx) (by simpa using ry) (Nat.lt_of_le_of_lt (show X.A.units + 20 ≤ X.A.units + 30 from Nat.add_le_add_left (by decide) _) hu)
      · rw [hl1]
        rw [e1, ← hle, Nat.min_self] at q
        simpa using q
    · refine SeqAt.eq_list_lengthsAt ht.isList ht2.isList (by rw [hl1, hl2]; simpa using hle) (Nat.lt_of_le_of_lt (Nat.le_add_right _ 30) hu) ⟨.bl _, H, I, rfl, ?_⟩
      have : (ds.length == es.length) = false := by simpa using hle
      rw [e1, this, Bool.and_false] at q
      exact q
theorem zrG : OpD zum (fun d e => match d, e with
  | .tup _, .tup _ => if okE 20 d = true ∧ okE 20 e = true then some (.bl (eqN 20 d e)) else none
  | .lst _, .lst _ => if okE 20 d = true ∧ okE 20 e = true then some (.bl (eqN 20 d e)) else none
  | _, _ => none) := by
  intro F H x y d e z Q s ax ay ez q
  dsimp only at ez
  split at ez
  · split at ez <;> cases ez
    rename_i hk
    exact ⟨F, _, _, s, ax, ay, .inl ⟨_, _, rfl, rfl⟩, hk.1, hk.2, q F H _ (.refl s) .bl⟩
  · split at ez <;> cases ez
    rename_i hk
    exact ⟨F, _, _, s, ax, ay, .inr ⟨_, _, rfl, rfl⟩, hk.1, hk.2, q F H _ (.refl s) .bl⟩
  · cases ez
theorem yO {k : Nat} (hr : zau k X.A) : OpR X (compareOp .Eq) (fun x y H Q => rEq x y H Q ∨ zum x y H Q) := zuA.or (ztj hr)
theorem yd : OpD (fun x y H Q => rEq x y H Q ∨ zum x y H Q) VI := by
  refine zmf (zk1 zq5 zrG) fun d e z h => ?_
  obtain ⟨b, hb, rfl⟩ := Option.map_eq_some_iff.mp h
  unfold eqG at hb
  split at hb
  · split at hb <;> cases hb
    rename_i hk
    show (Option.or none (if okE 20 _ = true ∧ okE 20 _ = true then some (D.bl (eqN 20 _ _)) else none)) = _
    rw [if_pos hk]
    rfl
  · split at hb <;> cases hb
    rename_i hk
    show (Option.or none (if okE 20 _ = true ∧ okE 20 _ = true then some (D.bl (eqN 20 _ _)) else none)) = _
    rw [if_pos hk]
    rfl
  · show ((eqD d e).or _) = _
    unfold eqD
    rw [hb]
    rfl
theorem seq_walk {pins : List (Addr × Obj)} {σ : St} {H : Hp} {s : Shared} {a : Addr} {xs : List V} {A : Around} {Q : Value → Shared → Prop} {E : Value → Shared → Prop} (I : Inv X pins σ H s) (hh : A.handled = none) (h : SqL X.K H a xs ∨ SqT X.K H a xs)
    (k : ∀ (it : Addr) (its : List Value) (fp wr : List Addr) (St : Nat → Heap → Prop) (s₂ : Shared), yG xs its → Walks X.prog X.w A it fp wr its.length (fun i v => its[i]? = some v) St → St 0 s₂.heap → (∀ b ∈ fp, b < s₂.heap.objs.size) →
      (∀ (h' : Heap) (tk : Nat), (∀ b o, b ∉ wr → s₂.heap.get? b = some o → h'.get? b = some o) → Inv X pins σ H { s₂ with heap := h', toks := tk }) → Q (.ref it) s₂) :
    wpAny (model X.prog X.w) A (pyIter (.ref a)) Q E s := by
  have back : ∀ {o : Obj} {s₂ : Shared}, s₂ = { s with heap := s.heap.push o } → ∀ (h' : Heap) (tk : Nat), (∀ b u, b ∉ [s.heap.objs.size] → s₂.heap.get? b = some u → h'.get? b = some u) → Inv X pins σ H { s₂ with heap := h', toks := tk } := fun {o s₂} e h' tk kk => by
    subst e
    exact I.kept (t' := tk) fun b u z => kk b u (by simpa using Nat.ne_of_lt (Heap.lt_size z)) (Heap.get?_push_of_some _ z)
  rcases h with h | h
  · obtain ⟨its, rv, p, hz⟩ := I.list h
    have lt : a < s.heap.objs.size := by obtain ⟨o, n, ho, _⟩ := p; exact Heap.lt_size ho
    refine wpAny_pyIter_list p.isList ?_
    have W := Walks.list (prog := X.prog) (w := X.w) (A := A) hh s.heap.objs.size a (Nat.ne_of_lt lt) its.toArray
    refine k s.heap.objs.size its [s.heap.objs.size, a] [s.heap.objs.size] (fun i h => h.IsListIter s.heap.objs.size a i ∧ h.IsList a its.toArray) _ rv (by simpa using W) ⟨⟨_, Heap.get?_push_size _ rfl, rfl, rfl⟩, p.isList.at fun o e => Heap.get?_push_of_some _ e⟩ (fun b hb => ?_) (back rfl)
    show b < (s.heap.push _).objs.size
    rw [Heap.size_push]
    rcases List.mem_cons.mp hb with rfl | hb
    · exact Nat.lt_succ_self _
    · rw [List.mem_singleton.mp hb]; exact Nat.lt_succ_of_lt lt
  · obtain ⟨its, rv, p, hz⟩ := I.tuple h
    have p' : s.heap.IsTuple a its.toArray := p
    have lt : a < s.heap.objs.size := by obtain ⟨o, ho, _⟩ := p; exact Heap.lt_size ho
    refine wpAny_pyIter_tuple p' ?_
    have W := Walks.tuple (prog := X.prog) (w := X.w) (A := A) hh s.heap.objs.size a (Nat.ne_of_lt lt) its.toArray
    refine k s.heap.objs.size its [s.heap.objs.size, a] [s.heap.objs.size] (fun i h => h.IsTupleIter s.heap.objs.size a i ∧ h.IsTuple a its.toArray) _ rv (by simpa using W) ⟨⟨_, Heap.get?_push_size _ rfl, rfl, rfl⟩, p'.at fun o e => Heap.get?_push_of_some _ e⟩ (fun b hb => ?_) (back rfl)
    show b < (s.heap.push _).objs.size
    rw [Heap.size_push]
    rcases List.mem_cons.mp hb with rfl | hb
    · exact Nat.lt_succ_self _
    · rw [List.mem_singleton.mp hb]; exact Nat.lt_succ_of_lt lt
end
end Dl
namespace Dl
open PySem L2
variable [KK]
omit [KK] in
theorem zoN {bs : List Bool} : (List.range bs.length).all (fun i => bs.getD i false) = bs.all id := by
  have : bs = (List.range bs.length).map fun i => bs.getD i false := by
    apply List.ext_getElem
    · simp
    · intro i h1 h2
      simp [h1]
  conv => rhs; rw [this]
  rw [List.all_map]
  rfl
section
variable {X : Cx}
omit [KK] in
theorem zrK {bs : List Bool} {its : List Value} {i : Nat} {v : Value} (r : yG (bs.map V.bl) its) (h : its[i]? = some v) : v = .bool (bs.getD i false) := by
  have hl := r.length
  have hi : i < its.length := (List.getElem?_eq_some_iff.mp h).1
  rw [List.length_map] at hl
  obtain ⟨u, hu, ru⟩ := r.get (i := i) (x := .bl (bs[i]'(by omega))) (by rw [List.getElem?_map]; simp [show i < bs.length by omega])
  rw [h] at hu
  cases hu
  cases ru
  simp [show i < bs.length by omega]
omit [KK] in
theorem vals_int {ns : List Int} {its : List Value} {i : Nat} {v : Value} (r : yG (ns.map V.int) its) (h : its[i]? = some v) : ∃ t, v = .int (ns.getD i 0) t := by
  have hl := r.length
  have hi : i < its.length := (List.getElem?_eq_some_iff.mp h).1
  rw [List.length_map] at hl
  obtain ⟨u, hu, ru⟩ := r.get (i := i) (x := .int (ns[i]'(by omega))) (by rw [List.getElem?_map]; simp [show i < ns.length by omega])
  rw [h] at hu
  cases hu
  obtain ⟨t, rfl⟩ := ru
  exact ⟨t, by simp [show i < ns.length by omega]⟩
theorem zoH (hc : X.calm = true) : VH X (.builtin "all") (fun xs H Q => ∃ (p : Addr) (bs : List Bool), xs = [.ref p] ∧ (SqL X.K H p (bs.map V.bl) ∨ SqT X.K H p (bs.map V.bl)) ∧ Q (.bl (bs.all id)) H) := by
  intro pins s σ H xs us Q I r h
  obtain ⟨p, bs, rfl, hq, q⟩ := h
  obtain ⟨u, rfl, ru⟩ := zcK r
  cases ru
  refine call_all_walk (seq_walk I (I.ok.hd hc) hq fun it its fp wr St s₂ rv W st fpl back => ?_)
  have hl := rv.length
  rw [List.length_map] at hl
  refine ⟨it, fp, wr, _, _, St, fun i => bs.getD i false, rfl, W, st, fun i v s Q E hv hQ => ?_, fun h' tk kk => ⟨.bl _, H, back h' tk kk, rfl, ?_⟩⟩
  · rw [zrK rv hv]
    exact wpAny_truthy_bool hQ
  · rw [← hl, zoN]
    exact q
noncomputable def maxL (ns : List Int) : Int := (ns.max?).getD 0
omit [KK] in
theorem best_ge (f : Nat → Int) : ∀ k i, i ≤ k → f i ≤ f (argBest (fun i j => decide (f j < f i)) k) ∧ argBest (fun i j => decide (f j < f i)) k ≤ k := by
  intro k
  induction k with
  | zero => intro i hi; have : i = 0 := by omega
            subst this; exact ⟨Int.le_refl _, Nat.le_refl _⟩
  | succ k ih =>
    intro i hi
    unfold argBest
    obtain ⟨h1, h2⟩ := ih (min i k) (Nat.min_le_right _ _)
    split
    · rename_i hc
      have hc : f (argBest (fun i j => decide (f j < f i)) k) < f (k + 1) := of_decide_eq_true hc
      refine ⟨?_, Nat.le_refl _⟩
      by_cases hik : i ≤ k
      · rw [Nat.min_eq_left hik] at h1; omega
      · have : i = k + 1 := by omega
        subst this; exact Int.le_refl _
    · rename_i hc
      have hc : ¬ f (argBest (fun i j => decide (f j < f i)) k) < f (k + 1) := fun z => hc (decide_eq_true z)
      refine ⟨?_, by omega⟩
      by_cases hik : i ≤ k
      · rw [Nat.min_eq_left hik] at h1; exact h1
      · have : i = k + 1 := by omega
        subst this; omega
omit [KK] in
theorem max_is {ns : List Int} {m : Int} (h1 : m ∈ ns) (h2 : ∀ x ∈ ns, x ≤ m) : maxL ns = m := by
  unfold maxL
  rw [List.max?_eq_some_iff.mpr ⟨h1, h2⟩]
  rfl
omit [KK] in
theorem getD_mem {ns : List Int} {k : Nat} (h : k < ns.length) : ns.getD k 0 ∈ ns := by
  rw [List.getD_eq_getElem?_getD, List.getElem?_eq_getElem h]
  exact List.getElem_mem h
omit [KK] in
theorem getD_at {ns : List Int} {k : Nat} (h : k < ns.length) : ns.getD k 0 = ns[k] := by
  rw [List.getD_eq_getElem?_getD, List.getElem?_eq_getElem h]
  rfl
theorem zpz (hc : X.calm = true) : VH X (.builtin "max") (fun xs H Q => ∃ (p : Addr) (ns : List Int), xs = [.ref p] ∧ (SqL X.K H p (ns.map V.int) ∨ SqT X.K H p (ns.map V.int)) ∧ ns ≠ [] ∧ Q (.int (maxL ns)) H) := by
  intro pins s σ H xs us Q I r h
  obtain ⟨p, ns, rfl, hq, hne, q⟩ := h
  obtain ⟨u, rfl, ru⟩ := zcK r
  cases ru
  refine call_max_walk (seq_walk I (I.ok.hd hc) hq fun it its fp wr St s₂ rv W st fpl back => ?_)
  have hl := rv.length
  rw [List.length_map] at hl
  have hpos : 0 < ns.length := List.length_pos_iff.mpr hne
  refine ⟨it, fp, wr, _, _, St, fun i j => decide (ns.getD j 0 < ns.getD i 0), rfl, W, st, fpl, by omega, fun i j vi vj s Q E hi hj hQ => ?_, fun v h' tk hv kk => ?_⟩
  · obtain ⟨t1, rfl⟩ := vals_int rv hi
    obtain ⟨t2, rfl⟩ := vals_int rv hj
    exact PyProof.Rows.gt_int hQ
  · obtain ⟨t, rfl⟩ := vals_int rv hv
    refine ⟨.int (maxL ns), H, back h' tk kk, ⟨t, ?_⟩, q⟩
    have key := best_ge (fun i => ns.getD i 0) (its.length - 1)
    have hb : argBest (fun i j => decide (ns.getD j 0 < ns.getD i 0)) (its.length - 1) < ns.length := by
      have := (key 0 (Nat.zero_le _)).2
      omega
    rw [max_is (m := ns.getD (argBest (fun i j => decide (ns.getD j 0 < ns.getD i 0)) (its.length - 1)) 0)]
    · exact getD_mem hb
    · intro x hx
      obtain ⟨j, hj, rfl⟩ := List.getElem_of_mem hx
      have := (key j (by omega)).1
      rw [← getD_at hj]
      exact this
noncomputable def zuT : List D → Option (List Bool)
  | [] => some []
  | .bl b :: ds => (zuT ds).map (b :: ·)
  | _ => none
noncomputable def zuo : List D → Option (List Int)
  | [] => some []
  | .int b :: ds => (zuo ds).map (b :: ·)
  | _ => none
omit [KK] in
theorem zpF : ∀ {ds : List D} {bs : List Bool}, zuT ds = some bs → ds = bs.map .bl
  | [], bs, h => by cases h; rfl
  | d :: ds, bs, h => by
    cases d <;> try cases h
    obtain ⟨cs, h1, rfl⟩ := Option.map_eq_some_iff.mp h
    rw [zpF h1]
    rfl
omit [KK] in
theorem zlx : ∀ {ds : List D} {bs : List Int}, zuo ds = some bs → ds = bs.map .int
  | [], bs, h => by cases h; rfl
  | d :: ds, bs, h => by
    cases d <;> try cases h
    obtain ⟨cs, h1, rfl⟩ := Option.map_eq_some_iff.mp h
    rw [zlx h1]
    rfl
theorem AtL.of_bls {H : Hp} : ∀ {ns : List Bool} {xs : List V}, AtL H (ns.map D.bl) xs → xs = ns.map V.bl
  | [], _, h => h.nil_inv
  | n :: r, _, h => by
    obtain ⟨x, r', rfl, h1, h2⟩ := AtL.cons_inv (by simpa using h)
    rw [h1.bl_inv, AtL.of_bls h2]
    rfl
noncomputable def zuu {α : Type} (as : List D → Option α) (g : α → Option D) : List D → Option D
  | [d] => ((zdd d).bind as).bind g
  | _ => none
theorem zo0 {K : PySem.W.Frag} {F H : Hp} {vs : List V} {ds : List D} {z : D} {α : Type} {as : List D → Option α} {g : α → Option D} (s : yW F H) (al : AtL F ds vs) (e : zuu as g ds = some z) :
    ∃ p es xs b, vs = [.ref p] ∧ (SqL K H p xs ∨ SqT K H p xs) ∧ AtL F es xs ∧ as es = some b ∧ g b = some z := by
  unfold zuu at e
  split at e
  · obtain ⟨b, e1, e2⟩ := Option.bind_eq_some_iff.mp e
    obtain ⟨es, e3, e4⟩ := Option.bind_eq_some_iff.mp e1
    obtain ⟨x, r, rfl, ax, ar⟩ := al.cons_inv
    cases ar.nil_inv
    rename_i d
    cases d <;> cases e3
    · obtain ⟨p, xs, rfl, hx, bl⟩ := ax.tup_inv
      exact ⟨p, _, xs, b, rfl, .inr (SqT.of (s _ _ hx)), bl, e4, e2⟩
    · obtain ⟨p, xs, rfl, hx, bl⟩ := ax.lst_inv
      exact ⟨p, _, xs, b, rfl, .inl (SqL.of (s _ _ hx)), bl, e4, e2⟩
  · cases e
noncomputable def allD := zuu zuT fun bs => some (.bl (bs.all id))
noncomputable def zrz := zuu zuo fun ns => if ns = [] then none else some (.int (maxL ns))
theorem zr9 {K : PySem.W.Frag} : CaD (fun xs H Q => ∃ (p : Addr) (bs : List Bool), xs = [.ref p] ∧ (SqL K H p (bs.map V.bl) ∨ SqT K H p (bs.map V.bl)) ∧ Q (.bl (bs.all id)) H) allD := by
  intro F H vs ds z Q s al e q
  obtain ⟨p, es, xs, bs, rfl, hq, bl, e1, e2⟩ := zo0 (K := K) s al e
  cases e2
  rw [zpF e1] at bl
  rw [bl.of_bls] at hq
  exact ⟨p, bs, rfl, hq, q F H _ (.refl s) .bl⟩
theorem zqN {K : PySem.W.Frag} : CaD (fun xs H Q => ∃ (p : Addr) (ns : List Int), xs = [.ref p] ∧ (SqL K H p (ns.map V.int) ∨ SqT K H p (ns.map V.int)) ∧ ns ≠ [] ∧ Q (.int (maxL ns)) H) zrz := by
  intro F H vs ds z Q s al e q
  obtain ⟨p, es, xs, bs, rfl, hq, bl, e1, e2⟩ := zo0 (K := K) s al e
  split at e2 <;> cases e2
  rename_i hne
  rw [zlx e1] at bl
  rw [bl.of_ints] at hq
  exact ⟨p, bs, rfl, hq, hne, q F H _ (.refl s) .int⟩
end
end Dl
namespace Dl
open PySem L2
variable [KK]
section
variable {X : Cx} {tg a b c e : Expr} {pos : Pos}
noncomputable def zpK : List D → List D → List D
  | x :: xs, y :: ys => .tup [x, y] :: zpK xs ys
  | _, _ => []
omit [KK] in
theorem znC : ∀ (xs ys : List D) (i : Nat), (zpK xs ys)[i]? = match xs[i]?, ys[i]? with | some x, some y => some (.tup [x, y]) | _, _ => none
  | [], ys, i => by simp [zpK]
  | x :: xs, [], i => by simp [zpK]
  | x :: xs, y :: ys, 0 => by simp [zpK]
  | x :: xs, y :: ys, i + 1 => by simpa [zpK] using znC xs ys i
omit [KK] in
theorem zb9 : ∀ (xs ys : List D), xs.length ≤ ys.length → (zpK xs ys).length = xs.length
  | [], ys, _ => by simp [zpK]
  | x :: xs, [], h => by simp at h
  | x :: xs, y :: ys, h => by simp [zpK, zb9 xs ys (by simpa using h)]
noncomputable def zsl (f : Ev → Option (List D)) : Ev → Option (List D) := fun ρ => (f ρ).bind fun as => match as with
  | [d, e] => (zdd d).bind fun xs => (zdd e).bind fun ys => if xs.length ≤ ys.length then some (zpK xs ys) else none
  | _ => none
theorem ztx {K : PySem.W.Frag} {F H : Hp} {d : D} {v : V} {ds : List D} (s : yW F H) (h : At F d v) (e : zdd d = some ds) : ∃ b p xs, v = .ref p ∧ (∀ {F' H' : Hp}, yW F F' → yW F' H' → Sq b K H' p xs) ∧ AtL F ds xs := by
  cases d <;> cases e
  · obtain ⟨p, xs, rfl, hx, al⟩ := h.tup_inv
    exact ⟨false, p, xs, rfl, fun s1 s2 => SqT.of (s2 _ _ (s1 _ _ hx)), al⟩
  · obtain ⟨p, xs, rfl, hx, al⟩ := h.lst_inv
    exact ⟨true, p, xs, rfl, fun s1 s2 => SqL.of (s2 _ _ (s1 _ _ hx)), al⟩
theorem ztG {es : List Expr} {k : Nat} {tp p : Pos} {f : Ev → Option (List D)} (hg : Gl X "zip") (hm : X.mg "zip" = none) (ha : AD X [a, b] f)
    (hs : starEach [a, b] X.env = [(false, eval a X.env), (false, eval b X.env)] := by rfl) (hs2 : starEach [b] X.env = [(false, eval b X.env)] := by rfl) : ID X (.Tuple es k tp) (.Call (.Name "zip" p) [a, b] [] pos) (zsl f) := by
  obtain ⟨t, pa, r⟩ := ha
  refine ⟨_, zsQ hg hm ztO pa hs hs2, fun σ ρ F H ds R s va e q => ?_⟩
  obtain ⟨as, e1, e2⟩ := Option.bind_eq_some_iff.mp e
  refine r σ ρ F H as _ s va e1 fun F1 H1 v g1 a1 => ?_
  split at e2
  · obtain ⟨x, r', rfl, ax, ar⟩ := a1.cons_inv
    obtain ⟨y, r', rfl, ay, ar⟩ := ar.cons_inv
    cases ar.nil_inv
    obtain ⟨xs, e3, e2'⟩ := Option.bind_eq_some_iff.mp e2
    obtain ⟨ys, e4, e2''⟩ := Option.bind_eq_some_iff.mp e2'
    clear e2 e2' e
    split at e2'' <;> cases e2''
    rename_i hle
    obtain ⟨b1, p1, us, rfl, sq1, al⟩ := ztx (K := X.K) g1.fh ax e3
    obtain ⟨b2, p2, ws, rfl, sq2, bl⟩ := ztx (K := X.K) g1.fh ay e4
    refine ⟨b1, b2, p1, p2, us, ws, rfl, sq1 (yW.refl _) g1.fh, sq2 (yW.refl _) g1.fh, q F1 H1 _ g1 fun i F2 H2 s1 s2 => ?_⟩
    have q1 := sq1 s1 s2
    have q2 := sq2 s1 s2
    refine ⟨fun hl => ⟨us, q1, by rw [hl, zb9 _ _ hle, al.length]⟩, fun d hd => ?_⟩
    rw [znC] at hd
    cases h1 : xs[i]? with
    | none => rw [h1] at hd; cases hd
    | some x =>
      cases h2 : ys[i]? with
      | none => rw [h1, h2] at hd; cases hd
      | some y =>
        rw [h1, h2] at hd
        cases hd
        obtain ⟨u, hu, au⟩ := al.get h1
        obtain ⟨u2, hu2, au2⟩ := bl.get h2
        refine ⟨⟨us, ws, u, u2, q1, q2, hu, hu2⟩, fun z H3 hz => ?_⟩
        obtain ⟨T, x', y', rfl, hT, rfl, hx', hy'⟩ := hz
        have e5 := hx' us q1
        have e6 := hy' ws q2
        rw [hu] at e5
        rw [hu2] at e6
        cases e5
        cases e6
        have g3 := Gr.alloc s2 hT (.tup [u, u2])
        exact ⟨_, g3, .tup zy (.cons (au.mono (s1.trans g3.ff)) (.cons (au2.mono (s1.trans g3.ff)) .nil))⟩
  · cases e2
noncomputable def zav (g : List D → Option (List D)) (f : Ev → Option (List D)) (b : D → SE → Option SE) (h : SE → Ctl) : SE → Ctl := fun ρ => match (f (visG ρ)).bind g with
  | some ds => zpa b h ds ρ
  | none => .no
theorem zgZ {p pos' : Pos} {body : List Stmt} {f : Ev → Option (List D)} {b' : D → SE → Option SE} {g : SE → Ctl} (hp : PassesOwn (model X.prog X.w) X.A X.env X.xe) (hc : X.calm = true) (hgl : Gl X "range") (hm : X.mg "range" = none) (ha : AD X [a] f) (hg : BD X tg b') (hb : SDs X body g)
    (hs0 : starEach [a] X.env = [(false, eval a X.env)] := by rfl) (hs : ∀ x, foldedSetIterable (.Call (.Name "range" p) [a] [] pos) X.env x = pure x := by intro _; rfl) : SD X (.For tg (.Call (.Name "range" p) [a] [] pos) body [] pos') (zav zmS f b' g) := by
  obtain ⟨t, pa, r⟩ := ha
  obtain ⟨tg', pg, rg⟩ := hg
  obtain ⟨tb, pb, rb⟩ := hb
  refine ⟨_, zo7 hp hc (zlf hgl hm pa hs0) pg pb hs, fun Fb Hb F H ρ σ E rl k => ?_⟩
  unfold zav at k
  cases h : (f (visG ρ)).bind zmS with
  | none => rw [h] at k; exact k.elim
  | some ds =>
    rw [h] at k
    obtain ⟨as, e1, e2⟩ := Option.bind_eq_some_iff.mp h
    refine r σ _ _ H as _ rl.gh rl.visG e1 fun F1 H1 vs g1 a1 => ?_
    have rl2 := rl.grow (rl.back g1).1
    unfold zmS at e2
    split at e2
    · split at e2 <;> cases e2
      rename_i hc
      obtain ⟨x, r', rfl, ax, ar⟩ := a1.cons_inv
      cases ar.nil_inv
      exact ⟨_, by rw [ax.int_inv], (y0.mp hc).1, (y0.mp hc).2, zpf (znf 0 _) rg rb rl2 k⟩
    · cases e2
theorem zp3 {p pos' : Pos} {body : List Stmt} {f : Ev → Option (List D)} {b' : D → SE → Option SE} {g : SE → Ctl} (hp : PassesOwn (model X.prog X.w) X.A X.env X.xe) (hc : X.calm = true) (hgl : Gl X "range") (hm : X.mg "range" = none) (ha : AD X [a, b] f) (hg : BD X tg b') (hb : SDs X body g)
    (hs0 : starEach [a, b] X.env = [(false, eval a X.env), (false, eval b X.env)] := by rfl) (hs2 : starEach [b] X.env = [(false, eval b X.env)] := by rfl) (hs : ∀ x, foldedSetIterable (.Call (.Name "range" p) [a, b] [] pos) X.env x = pure x := by intro _; rfl) : SD X (.For tg (.Call (.Name "range" p) [a, b] [] pos) body [] pos') (zav zll f b' g) := by
  obtain ⟨t, pa, r⟩ := ha
  obtain ⟨tg', pg, rg⟩ := hg
  obtain ⟨tb, pb, rb⟩ := hb
  refine ⟨_, zo7 hp hc (zk3 hgl hm pa hs0 hs2) pg pb hs, fun Fb Hb F H ρ σ E rl k => ?_⟩
  unfold zav at k
  cases h : (f (visG ρ)).bind zll with
  | none => rw [h] at k; exact k.elim
  | some ds =>
    rw [h] at k
    obtain ⟨as, e1, e2⟩ := Option.bind_eq_some_iff.mp h
    refine r σ _ _ H as _ rl.gh rl.visG e1 fun F1 H1 vs g1 a1 => ?_
    have rl2 := rl.grow (rl.back g1).1
    unfold zll at e2
    split at e2
    · split at e2 <;> cases e2
      rename_i hc
      obtain ⟨x, r', rfl, ax, ar⟩ := a1.cons_inv
      obtain ⟨y, r', rfl, ay, ar⟩ := ar.cons_inv
      cases ar.nil_inv
      exact ⟨_, _, by rw [ax.int_inv, ay.int_inv], ⟨(y0.mp hc.1).1, (y0.mp hc.1).2, (y0.mp hc.2).1, (y0.mp hc.2).2⟩, zpf (znf _ _) rg rb rl2 k⟩
    · cases e2
end
theorem zrx {P : Program} {w : World} {K : PySem.W.Frag} {mg : Str → Option Value} {base : Heap} {f : Addr} {fd : FuncData} {ps : List Str} {k m : Nat} : xk P w K mg base CX0 k f fd ps (spD m fun _ => none) := by
  refine ⟨fun vs H Q E h => ?_, fun A outer s H args us vs Q E _ _ _ _ h => ?_⟩
  · obtain ⟨_, _, _, _, _, _, e, _⟩ := h
    cases e
  · obtain ⟨_, _, _, _, _, _, e, _⟩ := h
    cases e
noncomputable def zux (n : Nat) (g : (List D → Option D) → SE → Ctl) : Nat → List D → Option D
  | 0 => fun _ => none
  | k + 1 => fnD n (g (zux n g k))
theorem zs2 {P : Program} {w : World} {K : PySem.W.Frag} {mg : Str → Option Value} {base : Heap} {x qual : Str} {st : Stmt} {f : Addr} {fd : FuncData} {N ps : List Str} {k0 : Nat} {g : (List D → Option D) → SE → Ctl} (Fu : Fun K x qual st f fd) (S : zF N ps (zi st))
    (hb : ∀ (k : Nat) (r : List D → Option D), xk P w K mg base CX0 (k0 + k) f fd ps (spD ps.length r) → ∀ (cdv : Value) (A : Around) (outer : List Env) (s : Shared) (H : Hp) (E : XK), zau (k0 + k) (A.deeper (PyProof.Rows.envOfC qual (zi st) s.heap.objs.size f cdv)) → SDs (zq2 CX0 P w K mg base N qual (zi st) f cdv A outer s H E).nox (zE st) (g r)) :
    ∀ n, xk P w K mg base CX0 (k0 + n) f fd ps (spD ps.length (zux N.length g n)) := by
  intro n
  induction n with
  | zero => exact zrx
  | succ n ih => exact yR Fu S fun cdv A outer s H E hr => hb n _ ih cdv A outer s H E hr
noncomputable def zoz (K : PySem.W.Frag) : Sp := fun vs H Q _ => ∃ (a : Addr) (ns : List Int), vs = [.ref a] ∧ SqL K H a (ns.map V.int) ∧ ns.length ≤ 63 ∧ ∀ H', Q (.bl true) H'
end Dl
namespace Dl
open PySem L2
theorem zsS {P : Program} {w : World} {K : PySem.W.Frag} {mg : Str → Option Value} {base : Heap} {f : Addr} {fd : FuncData} {ps : List Str} {k : Nat} {p : List D → Option D} (F : xk P w K mg base CX0 k f fd ps (@spD ⟨K⟩ 1 p)) (h : ∀ ns : List Int, ns.length ≤ 63 → p [.scr ns] = some (.bl true)) :
    xk P w K mg base CX0 k f fd ps (zoz K) := by
  letI : KK := ⟨K⟩
  refine F.imp fun vs H Q E hs => ?_
  obtain ⟨a, ns, rfl, hq, hl, q⟩ := hs
  refine ⟨[.scr ns], .bl true, H, rfl, yW.refl _, .cons ?_ .nil, h ns hl, fun F' H' v _ av => ?_⟩
  · unfold At
    exact ⟨a, rfl, hq⟩
  · rw [av.bl_inv]
    exact q H'
structure Def (K : PySem.W.Frag) (mg : Str → Option Value) (x : Str) (st : Stmt) (ps : List Str) (f : Addr) (fd : FuncData) : Prop where
  fn : Fun K x x st f fd
  bd : zm2 K fd ps []
  at_ : mg x = some (.ref f)
theorem Def.kp {K : PySem.W.Frag} {mg : Str → Option Value} {x : Str} {st : Stmt} {ps : List Str} {f : Addr} {fd : FuncData} (d : Def K mg x st ps f fd) : PySem.W.keepIn K (.ref f) = true := d.fn.kp
end Dl
namespace Dl
open PySem L2
inductive Ctl.w : Ctl → (SE → Prop) → (SE → Prop) → (SE → Prop) → (D → Prop) → Prop where
  | nx {ρ : SE} {n b k : SE → Prop} {r : D → Prop} : n ρ → Ctl.w (.nx ρ) n b k r
  | bk {ρ : SE} {n b k : SE → Prop} {r : D → Prop} : b ρ → Ctl.w (.bk ρ) n b k r
  | ct {ρ : SE} {n b k : SE → Prop} {r : D → Prop} : k ρ → Ctl.w (.ct ρ) n b k r
  | rt {d : D} {n b k : SE → Prop} {r : D → Prop} : r d → Ctl.w (.rt d) n b k r
section
variable {ρ : SE} {d : D} {n b k : SE → Prop} {r : D → Prop}
theorem Ctl.w.nxi (h : Ctl.w (.nx ρ) n b k r) : n ρ := by cases h; assumption
theorem Ctl.w.bki (h : Ctl.w (.bk ρ) n b k r) : b ρ := by cases h; assumption
theorem Ctl.w.cti (h : Ctl.w (.ct ρ) n b k r) : k ρ := by cases h; assumption
theorem Ctl.w.rti (h : Ctl.w (.rt d) n b k r) : r d := by cases h; assumption
theorem Ctl.w.noi (h : Ctl.w .no n b k r) : False := by cases h
end
noncomputable abbrev noP : SE → Prop := fun _ => False
section
variable {g h : SE → Ctl} {ρ ρ' : SE} {n b k : SE → Prop} {r : D → Prop}
theorem zcE (e : (g ρ).w (fun ρ' => (h ρ').w n b k r) b k r) : (yr g h ρ).w n b k r := by
  unfold yr
  cases hg : g ρ with
  | nx ρ' => rw [hg] at e; exact e.nxi
  | bk ρ' => rw [hg] at e; exact .bk e.bki
  | ct ρ' => rw [hg] at e; exact .ct e.cti
  | rt d => rw [hg] at e; exact .rt e.rti
  | no => rw [hg] at e; exact e.noi.elim
theorem zt (e : g ρ = .nx ρ') (q : (h ρ').w n b k r) : (yr g h ρ).w n b k r := zcE (by rw [e]; exact .nx q)
theorem zcC (e : g ρ = .nx ρ') (q : n ρ') : (g ρ).w n b k r := by rw [e]; exact .nx q
theorem zri {d : D} (e : g ρ = .rt d) (q : r d) : (g ρ).w n b k r := by rw [e]; exact .rt q
theorem w_fz {i : Nat} (e : zur ρ i = ρ') (q : (g ρ').w n b k r) : (sFz i g ρ).w n b k r := by
  unfold sFz
  rw [e]
  exact q
theorem zok {bd : D → SE → Option SE} (I : Nat → SE → Prop) : ∀ (ds : List D) (j : Nat) (ρ : SE), I j ρ →
    (∀ i d ρ, ds[i]? = some d → I (j + i) ρ → ∃ ρ1, bd d ρ = some ρ1 ∧ (g ρ1).w (I (j + i + 1)) n (I (j + i + 1)) r) → (∀ ρ, I (j + ds.length) ρ → n ρ) → (zpa bd g ds ρ).w n b k r
  | [], j, ρ, h0, _, fin => .nx (fin ρ h0)
  | d :: ds, j, ρ, h0, step, fin => by
    obtain ⟨ρ1, e1, e2⟩ := step 0 d ρ rfl h0
    unfold zpa
    rw [e1]
    dsimp only
    have next : ∀ ρ', I (j + 1) ρ' → (zpa bd g ds ρ').w n b k r := fun ρ' h' => zok I ds (j + 1) ρ' h'
      (fun i d' ρ hd hI => by
        have := step (i + 1) d' ρ (by simpa using hd) (by rw [show j + (i + 1) = j + 1 + i by omega]; exact hI)
        rwa [show j + (i + 1) + 1 = j + 1 + i + 1 by omega] at this)
      (fun ρ hI => fin ρ (by rw [List.length_cons, show j + (ds.length + 1) = j + 1 + ds.length by omega]; exact hI))
    cases hg : g ρ1 with
    | nx ρ' => rw [hg] at e2; exact next ρ' e2.nxi
    | ct ρ' => rw [hg] at e2; exact next ρ' e2.cti
    | bk ρ' => rw [hg] at e2; exact .nx e2.bki
    | rt d' => rw [hg] at e2; exact .rt e2.rti
    | no => rw [hg] at e2; exact e2.noi.elim
theorem ztf {f : Ev → Option (List D)} {bd : D → SE → Option SE} {ds : List D} (I : Nat → SE → Prop) (e : f (visF ρ) = some ds) (h0 : I 0 ρ)
    (step : ∀ i d ρ, ds[i]? = some d → I i ρ → ∃ ρ1, bd d ρ = some ρ1 ∧ (g ρ1).w (I (i + 1)) n (I (i + 1)) r) (fin : ∀ ρ, I ds.length ρ → n ρ) : (zlm f bd g ρ).w n b k r := by
  unfold zlm
  rw [e]
  exact zok I ds 0 ρ h0 (fun i d ρ hd hI => by rw [Nat.zero_add] at hI ⊢; exact step i d ρ hd hI) (fun ρ hI => fin ρ (by rw [Nat.zero_add] at hI; exact hI))
theorem zps {f : Ev → Option (List D)} {bd : D → SE → Option SE} {rg : List D → Option (List D)} {lo : Int} {c : Nat} (I : Nat → SE → Prop) (e : (f (visG ρ)).bind rg = some (zm6 lo c)) (h0 : I 0 ρ)
    (step : ∀ (i : Nat) ρ, i < c → I i ρ → ∃ ρ1, bd (.int (lo + i)) ρ = some ρ1 ∧ (g ρ1).w (I (i + 1)) n (I (i + 1)) r) (fin : ∀ ρ, I c ρ → n ρ) : (zav rg f bd g ρ).w n b k r := by
  unfold zav
  rw [e]
  refine zok I (zm6 lo c) 0 ρ h0 (fun i d ρ hd hI => ?_) (fun ρ hI => fin ρ ?_)
  · rw [Nat.zero_add] at hI ⊢
    unfold zm6 at hd
    rw [List.getElem?_map] at hd
    by_cases hi : i < c
    · rw [List.getElem?_range hi] at hd
      cases hd
      exact step i ρ hi hI
    · rw [List.getElem?_eq_none (by simpa using hi)] at hd
      cases hd
  · rw [Nat.zero_add] at hI
    rwa [show (zm6 lo c).length = c by unfold zm6; simp] at hI
end
theorem ztN {m : Nat} {g : SE → Ctl} {ds : List D} {d : D} {ρ : SE} (e : ds.map .v ++ List.replicate (m - ds.length) .no = ρ) (q : (g ρ).w (fun _ => d = .non) noP noP (fun d' => d' = d)) : fnD m g ds = some d := by
  unfold fnD
  rw [e]
  cases hg : g ρ with
  | nx ρ' => rw [hg] at q; rw [show d = .non from q.nxi]
  | rt d' => rw [hg] at q; rw [show d' = d from q.rti]
  | bk _ => rw [hg] at q; exact q.bki.elim
  | ct _ => rw [hg] at q; exact q.cti.elim
  | no => rw [hg] at q; exact q.noi.elim
theorem zsW {m : Bool} {i : Nat} {f : Ev → Option D} {ρ : SE} {ds : List D} {d : D} (h1 : vEv m f ρ = some d) (h2 : ρ[i]? = some (.o ds)) (h3 : ds.length ≤ 1000) : zrf m i f ρ = .nx (ρ.set i (.o (ds ++ [d]))) := by
  unfold zrf
  rw [h1, h2]
  show (match (if decide (ds.length < sizeLine) = true then some (ρ.set i (.o (ds ++ [d]))) else none) with | some ρ' => Ctl.nx ρ' | none => Ctl.no) = _
  rw [if_pos (decide_eq_true (zcz h3))]
theorem zou {b : D → Option (List (Option D))} {t : Ev → Option Bool} {f : Ev → Option D} {ρ : Ev} {α : Type} (c : α → D) (y : α → D) : ∀ (xs : List α), (∀ x ∈ xs, ∃ own, b (c x) = some own ∧ t (own ++ ρ) = some true ∧ f (own ++ ρ) = some (y x)) → lcD b t f ρ (xs.map c) = some (xs.map y)
  | [], _ => rfl
  | x :: xs, h => by
    obtain ⟨own, h1, h2, h3⟩ := h x List.mem_cons_self
    show lcD b t f ρ (c x :: xs.map c) = _
    unfold lcD
    rw [h1]
    simp only [Option.bind_some, h2, if_true, h3, zou c y xs fun z hz => h z (List.mem_cons_of_mem _ hz)]
    rfl
theorem ztB {n : Nat} (h : n ≤ 1000) : lim n = true := by
  unfold lim
  exact decide_eq_true (Nat.le_of_lt (zcz h))
theorem zmp (lo : Int) (n : Nat) : (zm6 lo n).length = n := by unfold zm6; simp
end Dl
namespace Dl
open PySem L2
noncomputable abbrev Pr := Int × Int
variable [KK]
section
variable {X : Cx} {e : Expr} {pos : Pos}
end
end Dl
namespace Dl
open PySem L2
variable [KK]
noncomputable def zuI : List D → Option D
  | [.int i] => some (.int i)
  | [.bl k] => some (.int (if k then 1 else 0))
  | _ => none
theorem zpV : CaD (fun xs H Q => (∃ i, xs = [.int i] ∧ Q (.int i) H) ∨ ∃ k, xs = [.bl k] ∧ Q (.int (if k then 1 else 0)) H) zuI := by
  intro F H vs ds z Q s al e q
  unfold zuI at e
  split at e <;> cases e
  all_goals
    obtain ⟨x, r, rfl, ax, ar⟩ := al.cons_inv
    cases ar.nil_inv
  · exact .inl ⟨_, by rw [ax.int_inv], q F H _ (.refl s) .int⟩
  · exact .inr ⟨_, by rw [ax.bl_inv], q F H _ (.refl s) .int⟩
end Dl
namespace L2
open PySem PySem.Spec PyProof.Rows
section
variable {X : Cx}
end
end L2
namespace Dl
open PySem L2
section
variable [KK] {X : Cx} {a e k : Expr} {pos : Pos}
end
end Dl
namespace Dl
open PySem L2
end Dl
namespace L2
open PySem PySem.Spec PyProof.Rows
section
variable {X : Cx} {tg : Expr}
end
end L2
namespace Dl
open PySem L2
section
variable [KK] {X : Cx} {a b c e : Expr} {tg : Expr} {pos : Pos}
end
end Dl
namespace Dl
open PySem L2
variable [KK]
section
variable {X : Cx} {st : Stmt} {sts : List Stmt} {a e : Expr} {pos : Pos}
end
end Dl
namespace Dl
open PySem L2
variable [KK]
section
variable {X : Cx} {a b : Expr} {pos : Pos}
end
end Dl
namespace Dl
open PySem L2
variable [KK]
section
variable {X : Cx} {a e : Expr}
end
end Dl
namespace Dl
open PySem L2
noncomputable def zvr : D → Option Key
  | .int i => some (.inl i)
  | .str x => some (.inr x)
  | _ => none
noncomputable def zqL : List D → Option (List Key)
  | [] => some []
  | d :: ds => (zvr d).bind fun k => (zqL ds).map (k :: ·)
noncomputable def zun : D → Option (List Key)
  | .tup ds => zqL ds
  | _ => none
noncomputable def zst (t : Bool) (d : D) : Option (List Key) := if t = true then zun d else (zvr d).map ([·])
noncomputable def zsM : Int → Int → Bool
  | .ofNat a, .ofNat b => Nat.beq a b
  | .negSucc a, .negSucc b => Nat.beq a b
  | _, _ => false
theorem zhd {a b : Int} : zsM a b = true ↔ a = b := by
  cases a with
  | ofNat a => cases b with
    | ofNat b => exact ⟨fun h => (by rw [Nat.eq_of_beq_eq_true h]), fun h => (by cases h; exact Nat.beq_refl a)⟩
    | negSucc b => exact ⟨fun h => (by cases h), fun h => (by cases h)⟩
  | negSucc a => cases b with
    | ofNat b => exact ⟨fun h => (by cases h), fun h => (by cases h)⟩
    | negSucc b => exact ⟨fun h => (by rw [Nat.eq_of_beq_eq_true h]), fun h => (by cases h; exact Nat.beq_refl a)⟩
noncomputable def zpW : Key → Key → Bool
  | .inl i, .inl j => zsM i j
  | .inr a, .inr b => decide (a = b)
  | _, _ => false
noncomputable def zuw : List Key → List Key → Bool
  | [], [] => true
  | a :: r, b :: s => match zpW a b with
    | true => zuw r s
    | false => false
  | _, _ => false
theorem zj0 {a b : Key} : zpW a b = true ↔ a = b := by
  cases a with
  | inl i => cases b with
    | inl j => exact ⟨fun h => (by rw [zhd.mp h]), fun h => (by cases h; exact zhd.mpr rfl)⟩
    | inr b => exact ⟨fun h => (by cases h), fun h => (by cases h)⟩
  | inr i => cases b with
    | inl j => exact ⟨fun h => (by cases h), fun h => (by cases h)⟩
    | inr b => exact ⟨fun h => (by rw [of_decide_eq_true h]), fun h => (by cases h; exact decide_eq_true rfl)⟩
theorem znt {x y : List Key} : zuw x y = true ↔ x = y := by
  induction x generalizing y with
  | nil => cases y with
    | nil => exact ⟨fun _ => rfl, fun _ => rfl⟩
    | cons b s => exact ⟨fun h => (by cases h), fun h => (by cases h)⟩
  | cons a r ih => cases y with
    | nil => exact ⟨fun h => (by cases h), fun h => (by cases h)⟩
    | cons b s =>
      show (match zpW a b with | true => zuw r s | false => false) = true ↔ _
      cases h : zpW a b with
      | true => rw [zj0.mp h]; exact ih.trans ⟨fun h => (by rw [h]), fun h => (by cases h; rfl)⟩
      | false => exact ⟨fun h => (by cases h), fun e => (by cases e; rw [zj0.mpr rfl] at h; cases h)⟩
noncomputable def zoL (x y : List Key) : Decidable (x = y) := match h : zuw x y with
  | true => .isTrue (znt.mp h)
  | false => .isFalse fun e => by rw [znt.mpr e] at h; cases h
noncomputable def zdZ : List (List Key) → List D → List Key → Option D
  | k' :: ks, v :: vs, k => @ite _ (k' = k) (zoL k' k) (some v) (zdZ ks vs k)
  | _, _, _ => none
noncomputable def zuv : List (List Key) → List D → List Key → D → List D
  | k' :: ks, v :: vs, k, d => (@ite _ (k' = k) (zoL k' k) d v) :: zuv ks vs k d
  | _, _, _, _ => []
noncomputable def zqK (ks : List (List Key)) (vs : List D) (k : List Key) : List (List Key) := if (zdZ ks vs k).isSome = true then ks else ks ++ [k]
noncomputable def zqe (ks : List (List Key)) (vs : List D) (k : List Key) (d : D) : List D := if (zdZ ks vs k).isSome = true then zuv ks vs k d else vs ++ [d]
theorem zje {k' k : List Key} {ks : List (List Key)} {v : D} {vs : List D} : zdZ (k' :: ks) (v :: vs) k = if k' = k then some v else zdZ ks vs k := by
  show @ite _ (k' = k) (zoL k' k) (some v) (zdZ ks vs k) = _
  by_cases h : k' = k
  · rw [if_pos h, if_pos h]
  · rw [if_neg h, if_neg h]
section
variable [KK]
theorem zme {F : Hp} {d : D} {k : Key} {y : V} (h : zvr d = some k) (a : At F d y) : y = kV k := by
  cases d with
  | int i => cases h; exact a.int_inv
  | str x => cases h; exact a.str_inv
  | _ => cases h
theorem znw {F : Hp} : ∀ {ds : List D} {ks : List Key} {ys : List V}, zqL ds = some ks → AtL F ds ys → ys = ks.map kV
  | [], _, _, h, a => by cases h; exact a.nil_inv
  | d :: ds, _, _, h, a => by
    obtain ⟨k, h1, h2⟩ := Option.bind_eq_some_iff.mp h
    obtain ⟨r, h3, rfl⟩ := Option.map_eq_some_iff.mp h2
    obtain ⟨x, xs, rfl, a1, a2⟩ := a.cons_inv
    rw [zme h1 a1, znw h3 a2]
    rfl
theorem zmC {F : Hp} {d : D} {k : List Key} {y : V} (h : zun d = some k) (a : At F d y) : ∃ b, y = .ref b ∧ F b = some (.tup (k.map kV)) := by
  cases d with
  | tup ds =>
    obtain ⟨b, ys, rfl, hb, al⟩ := a.tup_inv
    rw [znw (show zqL ds = some k from h) al] at hb
    exact ⟨b, rfl, hb⟩
  | _ => cases h
section
variable {κ : Type} [DecidableEq κ] (f : κ → List Key) (hf : ∀ a b, f a = f b → a = b)
include hf
theorem zfe {F : Hp} {k : κ} : ∀ {kvs : List (κ × V)} {vs : List D}, AtL F vs (kvs.map (·.2)) →
    (∀ d, zdZ (kvs.map fun p => f p.1) vs (f k) = some d → ∃ x, znp kvs k = some x ∧ At F d x) ∧ (zdZ (kvs.map fun p => f p.1) vs (f k) = none → znp kvs k = none)
  | [], _, _ => ⟨fun d h => (by cases h), fun _ => rfl⟩
  | p :: kvs, [], a => by cases a.nil_inv
  | p :: kvs, v :: vs, a => by
    obtain ⟨x, r, e, a1, a2⟩ := a.cons_inv
    cases e
    have ih := zfe (k := k) a2
    by_cases h : p.1 = k
    · rw [zbV h]
      have e : zdZ ((p :: kvs).map fun p => f p.1) (v :: vs) (f k) = some v := by
        rw [List.map_cons, zje, if_pos (by rw [h])]
      rw [e]
      exact ⟨fun d z => (by cases z; exact ⟨_, rfl, a1⟩), fun z => (by cases z)⟩
    · rw [zbW h]
      have e : zdZ ((p :: kvs).map fun p => f p.1) (v :: vs) (f k) = zdZ (kvs.map fun p => f p.1) vs (f k) := by
        rw [List.map_cons, zje, if_neg (fun z => h (hf _ _ z))]
      rw [e]
      exact ih
theorem zqG {F : Hp} {k : κ} {kvs : List (κ × V)} {vs : List D} (a : AtL F vs (kvs.map (·.2))) : (zdZ (kvs.map fun p => f p.1) vs (f k)).isSome = (znp kvs k).isSome := by
  obtain ⟨h1, h2⟩ := zfe f hf (k := k) a
  cases h : zdZ (kvs.map fun p => f p.1) vs (f k) with
  | none => rw [h2 h]; rfl
  | some d => obtain ⟨x, e, _⟩ := h1 d h; rw [e]; rfl
theorem zoq {F : Hp} {k : κ} {d : D} {y : V} (ad : At F d y) : ∀ {kvs : List (κ × V)} {vs : List D}, AtL F vs (kvs.map (·.2)) →
    AtL F (zuv (kvs.map fun p => f p.1) vs (f k) d) ((kvs.map fun kv => if kv.1 = k then (kv.1, y) else kv).map (·.2))
  | [], _, _ => by unfold zuv; exact .nil
  | p :: kvs, [], a => by cases a.nil_inv
  | p :: kvs, v :: vs, a => by
    obtain ⟨x, r, e, a1, a2⟩ := a.cons_inv
    cases e
    have ih := zoq (k := k) ad a2
    rw [List.map_cons, List.map_cons]
    refine AtL.cons ?_ ih
    by_cases h : p.1 = k
    · rw [if_pos h, if_pos (by rw [h])]; exact ad
    · rw [if_neg h, if_neg (fun z => h (hf _ _ z))]; exact a1
theorem zoZ {F : Hp} {k : κ} {d : D} {y : V} (ad : At F d y) {kvs : List (κ × V)} {vs : List D} (a : AtL F vs (kvs.map (·.2))) :
    (zlZ kvs k y).map (fun p => f p.1) = zqK (kvs.map fun p => f p.1) vs (f k) ∧ AtL F (zqe (kvs.map fun p => f p.1) vs (f k) d) ((zlZ kvs k y).map (·.2)) := by
  unfold zlZ zqK zqe
  rw [zqG f hf a, zhf]
  cases h : (znp kvs k).isSome with
  | true =>
    rw [if_pos rfl, if_pos rfl, if_pos rfl]
    refine ⟨?_, zoq f hf ad a⟩
    rw [List.map_map]
    refine List.map_congr_left fun p _ => ?_
    by_cases e : p.1 = k
    · show f (if p.1 = k then (p.1, y) else p).1 = _; rw [if_pos e]
    · show f (if p.1 = k then (p.1, y) else p).1 = _; rw [if_neg e]
  | false =>
    rw [if_neg Bool.false_ne_true, if_neg Bool.false_ne_true, if_neg Bool.false_ne_true, List.map_append, List.map_append]
    exact ⟨rfl, a.append (.cons ad .nil)⟩
end
theorem zpk (a b : Key) (h : [a] = [b]) : a = b := by cases h; rfl
theorem zqZ (a b : List Key) (h : a = b) : a = b := h
theorem zsC {F H : Hp} {a : Addr} {z t : Bool} {ks : List (List Key)} {xs : List V} {vs : List D} {kd : D} {k : List Key} {y : V} (s : yW F H) (hd : zkY F a z t ks xs) (al : AtL F vs xs) (hk : zst t kd = some k) (ak : At F kd y) :
    ∃ o, zvl H a y o ∧ (∀ d, zdZ ks vs k = some d → ∃ x, o = some x ∧ At F d x) ∧ (zdZ ks vs k = none → o = none) := by
  obtain ⟨u, hd, rd⟩ := (hd.mono s).rd
  unfold zjN at hd
  unfold zst at hk
  cases t with
  | true =>
    rw [if_pos rfl] at hd hk
    obtain ⟨kvs, rfl, rfl, rfl⟩ := hd
    obtain ⟨b, rfl, hb⟩ := zmC hk ak
    exact ⟨_, .inr ⟨kvs, k, b, rd, rfl, s _ _ hb, rfl⟩, zfe (fun k => k) zqZ al⟩
  | false =>
    rw [if_neg Bool.false_ne_true] at hd hk
    obtain ⟨kvs, rfl, rfl, rfl⟩ := hd
    obtain ⟨k0, h2, rfl⟩ := Option.map_eq_some_iff.mp hk
    rw [zme h2 ak]
    exact ⟨_, .inl ⟨kvs, k0, rd, rfl, rfl⟩, zfe (fun k => [k]) zpk al⟩
theorem zrJ {F H : Hp} {a : Addr} {o : HO} {t : Bool} {ks : List (List Key)} {xs : List V} {vs : List D} {kd d : D} {k : List Key} {y v : V} {G : Hp} (h : H a = some o) (hd : zjN o t ks xs) (al : AtL F vs xs) (hk : zst t kd = some k) (ak : At G kd y) (s : yW G H) (ad : At F d v)
    (hl : ks.length < sizeLine) : ∃ o', zqk H a y v (upd H a o') ∧ zm5 F o' (.m t (zqK ks vs k) (zqe ks vs k d)) := by
  unfold zjN at hd
  unfold zst at hk
  cases t with
  | true =>
    rw [if_pos rfl] at hd hk
    obtain ⟨kvs, rfl, rfl, rfl⟩ := hd
    obtain ⟨b, rfl, hb⟩ := zmC hk ak
    obtain ⟨q1, q2⟩ := zoZ (fun k => k) zqZ (k := k) ad al
    refine ⟨_, zqk.t h (s _ _ hb) (by simpa using hl), _, ?_, q2⟩
    unfold zjN
    rw [if_pos rfl]
    exact ⟨_, rfl, q1, rfl⟩
  | false =>
    rw [if_neg Bool.false_ne_true] at hd hk
    obtain ⟨kvs, rfl, rfl, rfl⟩ := hd
    obtain ⟨k0, h2, rfl⟩ := Option.map_eq_some_iff.mp hk
    rw [zme h2 ak]
    obtain ⟨q1, q2⟩ := zoZ (fun k => [k]) zpk (k := k0) ad al
    refine ⟨_, zqk.k h (by simpa using hl), _, ?_, q2⟩
    unfold zjN
    rw [if_neg Bool.false_ne_true]
    exact ⟨_, rfl, q1, rfl⟩
noncomputable def dgetD : D → D → Option D
  | .dct _ t ks vs, kd => (zst t kd).bind fun k => zdZ ks vs k
  | _, _ => none
noncomputable def dinD (neg : Bool) : D → D → Option D
  | kd, .dct _ t ks vs => (zst t kd).map fun k => .bl (neg != (zdZ ks vs k).isSome)
  | _, _ => none
section
variable {X : Cx} {a b c : Expr} {pos apos : Pos}
noncomputable def rDIn (neg : Bool) : R2 := fun x y H Q => ∃ a o, y = .ref a ∧ zvl H a x o ∧ Q (.bl (neg != o.isSome)) H
theorem zoj {k : Nat} (hr : zau k X.A) : OpR X (compareOp .NotIn) (rDIn true) := by
  intro pins s σ H x y v u Q I rx ry h
  obtain ⟨a, o, rfl, g, q⟩ := h
  obtain rfl : u = Value.ref a := ry
  exact zsA (zrv hr) I g rx fun s3 I3 => ⟨.bl (!o.isSome), H, I3, rfl, by simpa using q⟩
theorem zsp {neg : Bool} : OpD (rDIn neg) (dinD neg) := by
  intro F H x y d e z Q s a1 a2 h q
  cases e with
  | dct z' t ks vs =>
    obtain ⟨k, h1, rfl⟩ := Option.map_eq_some_iff.mp h
    obtain ⟨p, xs, rfl, hd, al⟩ := a2.dct_inv
    obtain ⟨o, hg, h3, h4⟩ := zsC s hd al h1 a1
    refine ⟨p, o, rfl, hg, ?_⟩
    have e : (zdZ ks vs k).isSome = o.isSome := by
      cases h : zdZ ks vs k with
      | none => rw [h4 h]; rfl
      | some d => obtain ⟨w, rfl, _⟩ := h3 d h; rfl
    rw [← e]
    exact q F H _ (.refl s) .bl
  | _ => cases h
end
section
variable {X : Cx} {a e ko : Expr} {pos pos' : Pos} {st : Stmt}
noncomputable def zsj (t : Bool) (i : Nat) : SE → Ctl := fun ρ => .nx (ρ.set i (.m t [] []))
theorem zrW {t : Bool} {i : Nat} {x : Str} (hN : X.N.Nodup) (hi : X.N[i]? = some x) (hx : Loc X.env.scope x) (hs : swapsWith (.Dict [] [] pos) (some (.Name x pos')) pos.line X.env = pure false := by rfl)
    (hf : X.fn x = true ∨ X.env.scope.names.lookup x = some .local := by first | exact .inl rfl | exact .inr rfl | assumption) {p2 : Pos} (hs : swapsWith (.Dict [] [] p2) (some (.Name x pos')) pos.line X.env = pure false := by rfl) : SD X (.Assign [.Name x pos'] (.Dict [] [] p2) pos) (zsj t i) := by
  have go : ∀ (o : HO), zm5 (fun _ => none) o (.m t [] []) → ∀ (Fb Hb F H : Hp) (ρ : SE) (σ : St) (E : zpN), Rl Fb Hb F H ρ σ → SOk Fb Hb E (zsj t i ρ) → ∀ p, H p = none → E.nx (σ.set i (some (.ref p))) (upd H p o) := fun o ho Fb Hb F H ρ σ E rl k p hp => by
    have g := Gr.hide rl.gr.fh hp o
    refine k F _ _ ((rl.grow g).setW (rl.notbase hp) (rl.gr.fh.free hp) zy (ho.mono fun _ _ z => by cases z) (rl.notown hp))
  cases t with
  | true =>
    refine ⟨_, zna hN hi hx zqC hs hf, fun Fb Hb F H ρ σ E rl k => ?_⟩
    refine fun p hp => go (.dT []) ⟨[], ?_, .nil⟩ Fb Hb F H ρ σ E rl k p hp
    unfold zjN
    rw [if_pos rfl]
    exact ⟨[], rfl, rfl, rfl⟩
  | false =>
    refine ⟨_, zna hN hi hx zqn hs hf, fun Fb Hb F H ρ σ E rl k => ?_⟩
    refine fun p hp => go (.dK []) ⟨[], ?_, .nil⟩ Fb Hb F H ρ σ E rl k p hp
    unfold zjN
    rw [if_neg Bool.false_ne_true]
    exact ⟨[], rfl, rfl, rfl⟩
noncomputable def zuX (ρ : SE) (i : Nat) (kd d : D) : Option SE := match ρ[i]? with
  | some (.m t ks vs) => (zst t kd).bind fun k => if decide (ks.length < sizeLine) = true then some (ρ.set i (.m t (zqK ks vs k) (zqe ks vs k d))) else none
  | _ => none
noncomputable def zrA (m : Bool) (i : Nat) (fk fe : Ev → Option D) : SE → Ctl := fun ρ => match (vEv m fe ρ).bind fun d => (fk (visG ρ)).bind fun kd => zuX ρ i kd d with
  | some ρ' => .nx ρ'
  | none => .no
theorem zsk {k : Nat} {m : Bool} {i : Nat} {fk fe : Ev → Option D} (hr : zau k X.A) (he : ED X e fe) (ho : PE X a (zrk i)) (hk : ED X ko fk) (hs : swapsWith e (some (.Subscript a ko pos')) pos.line X.env = pure false := by rfl) : SD X (.Assign [.Subscript a ko pos'] e pos) (zrA m i fk fe) := by
  obtain ⟨t, p, r⟩ := he
  obtain ⟨tk, pk, rk⟩ := hk
  refine ⟨_, zrB (zrv hr) ho pk p hs, fun Fb Hb F H ρ σ E rl k => ?_⟩
  unfold zrA at k
  cases h : (vEv m fe ρ).bind fun d => (fk (visG ρ)).bind fun kd => zuX ρ i kd d with
  | none => rw [h] at k; exact k.elim
  | some ρ' =>
    rw [h] at k
    obtain ⟨d, e1, e2⟩ := Option.bind_eq_some_iff.mp h
    obtain ⟨kd, e3, e2⟩ := Option.bind_eq_some_iff.mp e2
    unfold zuX at e2
    split at e2
    · rename_i tt ks vs hs
      obtain ⟨kk, e4, e5⟩ := Option.bind_eq_some_iff.mp e2
      have hl : decide (ks.length < sizeLine) = true := by
        cases hh : decide (ks.length < sizeLine) with
        | true => rfl
        | false => rw [hh, if_neg Bool.false_ne_true] at e5; cases e5
      rw [if_pos hl] at e5
      cases e5
      refine r.at rl e1 fun F' H' v g av => ?_
      have rl2 := rl.grow g
      obtain ⟨q, o, f1, _⟩ := rl2.ows i _ hs rfl
      refine ⟨_, f1, ?_⟩
      refine rk σ _ _ H' _ _ rl2.gh rl2.visG e3 fun F3 H3 v3 g3 av3 => ?_
      obtain ⟨gb, _⟩ := rl2.back g3
      have rl3 := rl2.grow gb
      obtain ⟨q3, o3, f1', _, _, f4, xs, f5, f6⟩ := rl3.ows i _ hs rfl
      rw [f1] at f1'
      cases f1'
      obtain ⟨o', hp, hw⟩ := zrJ f4 f5 f6 e4 av3 g3.fh (av.mono gb.ff) (of_decide_eq_true hl)
      exact ⟨q, _, rfl, hp, k _ _ σ (rl3.mutW hs rfl f1 hw)⟩
    · cases e2
end
end
end Dl
namespace Dl
open PySem L2
variable [KK]
section
variable {X : Cx} {a b e : Expr} {pos pos' : Pos}
end
end Dl
namespace Dl
open PySem L2
variable [KK]
section
variable {X : Cx}
end
end Dl
namespace L2
open PySem PySem.Spec PyProof.Rows
section
variable {prog : Program} {w : World} {A : Around} {E : Value → Shared → Prop} {s : Shared} {d it : Addr} {o : Obj} {es : Array DictEntry} {ep i : Nat}
theorem zqf {Q : Value → Shared → Prop} (hs : (d == sysModules) = false) (ho : s.heap.get? d = some o) (hc : o.ExactDict) (hd : o.data = .dict es ep)
    (hQ : Q (.ref s.heap.objs.size) { s with heap := s.heap.push { cls := .type "dict_keyiterator", data := .fields #[.ref d, .int 0 0, .int es.size 0, .int ep 0] } }) : wpAny (model prog w) A (pyIter (.ref d)) Q E s := by
  have hT : s.TypeIs (.ref d) "dict" := ⟨o, ho, hc.1⟩
  refine wpAny_pyIter_slot hT PySem.F.slot_dict_iter (wpAny_call_entry PySem.F.slot_dict_iter hT PySem.F.entry_dict_iter ?_ (PySem.F.args_dict_iter_1 _))
  unfold Builtin.«dict.__iter__»
  refine wpAny_bind ?_
  unfold Builtin.Dict.dictSlotNone
  refine wpAny_bind (wpAny_notOrdered_dict hT ?_)
  show wpAny _ _ (pure (Value.ref d)) _ _ s
  refine wpAny_pure ?_
  show wpAny _ _ (Builtin.Dict.showsAll d >>= _) _ _ s
  unfold Builtin.Dict.showsAll
  rw [if_neg (by rw [hs]; exact Bool.false_ne_true)]
  refine wpAny_bind (wpAny_pure (wpAny_bind (wpAny_dictEntries ho hd (wpAny_bind (wpAny_dictEpoch ho hd ?_)))))
  refine wpAny_bind (wpAny_newObj_type (wpAny_pure ⟨_, rfl, "dict_keyiterator", _, ⟨_, Heap.get?_push_size _ rfl, rfl⟩, PySem.F.slot_dict_keyiterator_next.lookup, ?_⟩))
  simpa [rawInt] using hQ
theorem zqP {e : DictEntry} {Q : Option Value → Shared → Prop} (hit : s.heap.IsKeyIter it d i es.size ep) (ho : s.heap.get? d = some o) (hd : o.data = .dict es ep) (hx : es[i]? = some e)
    (hQ : ∀ h', h'.IsKeyIter it d (i + 1) es.size ep → Heap.SameBut it s.heap h' → Q (some e.key) { s with heap := h' }) : wpAny (model prog w) A (pyNext (.ref it)) Q E s := by
  obtain ⟨oi, hoi, hci, hdi⟩ := id hit
  unfold pyNext
  refine wpAny_bind (wpAny_attempt (wpAny_callSpecial?_slot (name := Str.ofString "__next__") hit.typeIs PySem.F.slot_dict_keyiterator_next
    (wpAny_call_entry PySem.F.slot_dict_keyiterator_next hit.typeIs PySem.F.entry_dict_keyiterator_next ?_ (PySem.F.args_dict_keyiterator_next_1 _))))
  refine wpAny_bind (wpAny_pure ?_)
  refine wpAny_bind ?_
  refine wpAny_bind ?_
  first | refine wpAny_bind (wpAny_typeNameOfWhole_keyiter hit.typeIs (wpAny_pure ?_)) | refine wpAny_bind (wpAny_typeNameOf_keyiter hit.typeIs (wpAny_pure ?_))
  refine wpAny_bind (wpAny_fieldsOf hoi hdi ?_)
  have hown : Builtin.Dict_items.ownsTuple "dict_keyiterator" = false := by decide
  simp only [hown, Bool.false_eq_true, if_false]
  show wpAny _ _ (if (Value.ref d == Value.none) = true then _ else _) _ _ s
  rw [if_neg (show ¬ ((Value.ref d == Value.none) = true) from Bool.false_ne_true)]
  refine wpAny_bind (wpAny_pure (wpAny_bind (wpAny_dictEntries ho hd ?_)))
  rw [if_neg (by simp)]
  refine wpAny_bind (wpAny_pure (wpAny_bind (wpAny_dictEpoch ho hd ?_)))
  rw [if_neg (by simp)]
  refine wpAny_pure ?_
  simp only [show ¬ ((i : Int) < 0) from by omega, if_false, Int.toNat_natCast, hx]
  refine wpAny_bind ?_
  first | refine wpAny_bind (wpAny_typeNameOfWhole_keyiter hit.typeIs (wpAny_pure ?_)) | refine wpAny_bind (wpAny_typeNameOf_keyiter hit.typeIs (wpAny_pure ?_))
  refine wpAny_bind (wpAny_isOneOf_keyiter hit.typeIs ?_)
  show wpAny _ _ (setField (.ref it) 1 (rawInt ((i : Int) + 1)) >>= _) _ _ s
  refine wpAny_bind (wpAny_setField hoi hdi (by simp) ?_)
  have hit' : (s.heap.update it (Obj.mapFields (·.setIfInBounds 1 (rawInt ((i : Int) + 1))))).IsKeyIter it d (i + 1) es.size ep :=
    ⟨_, Heap.get?_update_self _ hoi (Obj.isFreed_of_fields (Obj.data_mapFields hdi _)), (Obj.cls_mapFields ..).trans hci, by rw [Obj.data_mapFields hdi]; simp [rawInt]⟩
  refine wpAny_bind (wpAny_holding ?_)
  refine wpAny_bind (wpAny_isOneOf_keyiter (s := { s with heap := s.heap.update it (Obj.mapFields (·.setIfInBounds 1 (rawInt ((i : Int) + 1)))) }) hit'.typeIs ?_)
  show wpAny _ _ (pure e.key) _ _ _
  exact wpAny_pure (wpAny_pure ⟨_, rfl, wpAny_pure (hQ _ hit' (Heap.SameBut.update ..))⟩)
theorem zss {Q : Option Value → Shared → Prop} (hh : A.handled = none) (hit : s.heap.IsKeyIter it d i es.size ep) (ho : s.heap.get? d = some o) (hd : o.data = .dict es ep) (hx : es.size ≤ i)
    (hQ : ∀ h', Heap.ExtBut it s.heap h' → Q none { s with heap := h' }) : wpAny (model prog w) A (pyNext (.ref it)) Q E s := by
  obtain ⟨oi, hoi, hci, hdi⟩ := id hit
  unfold pyNext
  refine wpAny_bind (wpAny_attempt (wpAny_callSpecial?_slot (name := Str.ofString "__next__") hit.typeIs PySem.F.slot_dict_keyiterator_next
    (wpAny_call_entry PySem.F.slot_dict_keyiterator_next hit.typeIs PySem.F.entry_dict_keyiterator_next ?_ (PySem.F.args_dict_keyiterator_next_1 _))))
  refine wpAny_bind (wpAny_pure ?_)
  refine wpAny_bind ?_
  refine wpAny_bind ?_
  first | refine wpAny_bind (wpAny_typeNameOfWhole_keyiter hit.typeIs (wpAny_pure ?_)) | refine wpAny_bind (wpAny_typeNameOf_keyiter hit.typeIs (wpAny_pure ?_))
  refine wpAny_bind (wpAny_fieldsOf hoi hdi ?_)
  have hown : Builtin.Dict_items.ownsTuple "dict_keyiterator" = false := by decide
  simp only [hown, Bool.false_eq_true, if_false]
  show wpAny _ _ (if (Value.ref d == Value.none) = true then _ else _) _ _ s
  rw [if_neg (show ¬ ((Value.ref d == Value.none) = true) from Bool.false_ne_true)]
  refine wpAny_bind (wpAny_pure (wpAny_bind (wpAny_dictEntries ho hd ?_)))
  rw [if_neg (by simp)]
  refine wpAny_bind (wpAny_pure (wpAny_bind (wpAny_dictEpoch ho hd ?_)))
  rw [if_neg (by simp)]
  refine wpAny_pure ?_
  simp only [show ¬ ((i : Int) < 0) from by omega, if_false, Int.toNat_natCast, Array.getElem?_eq_none hx]
  refine wpAny_bind ?_
  first | refine wpAny_bind (wpAny_typeNameOfWhole_keyiter hit.typeIs (wpAny_pure ?_)) | refine wpAny_bind (wpAny_typeNameOf_keyiter hit.typeIs (wpAny_pure ?_))
  show wpAny _ _ (setField (.ref it) 0 .none >>= _) _ _ s
  refine wpAny_bind (wpAny_setField hoi hdi (by simp) ?_)
  show wpAny _ _ (newExc (.type "StopIteration") [] >>= _) _ _ _
  refine wpAny_bind ?_
  simp only [newExc, newTuple]
  refine wpAny_bind (wpAny_newObj_type ?_ (by size_fits))
  refine wpAny_bind (m := firstArgMember _ _) (wpAny_of_eq (a := Value.none) (by first | rfl | (simp only [firstArgMember]; rfl)) ?_)
  refine wpAny_newObj_type ?_ (by size_fits)
  simp only [raiseNew]
  refine wpAny_bind (wpAny_handled ?_)
  rw [show A.in1.handled = none from hh]
  refine wpAny_bind (wpAny_pure (wpAny_throw ?_))
  refine wpAny_bind (wpAny_isInstance (T := "StopIteration") (b := true) ⟨_, Heap.get?_push_size _ rfl, rfl⟩ isSubtype_stop ?_)
  exact wpAny_pure (hQ _ (((Heap.SameBut.update ..).extBut.push _).push _))
end
noncomputable def zsY : HO → Nat
  | .dK kvs => kvs.length
  | .dT kvs => kvs.length
  | _ => 0
noncomputable def zmB (u : HO) : Prop := (∃ kvs, u = .dK kvs) ∨ ∃ kvs, u = .dT kvs
noncomputable def ztU (H : Hp) (u : HO) (i : Nat) (x : V) : Prop := match u with
  | .dK kvs => ∃ p, kvs[i]? = some p ∧ x = kV p.1
  | .dT kvs => ∃ p b, kvs[i]? = some p ∧ x = .ref b ∧ H b = some (.tup (p.1.map kV))
  | _ => False
theorem ztL {P : Program} {w : World} {k : Key} {v : Value} (h : (yS P w).is k v = true) : yY (kV k) v := by
  rcases yo h with ⟨i, t, rfl, rfl⟩ | ⟨x, t, rfl, rfl⟩
  · exact ⟨t, rfl⟩
  · exact ⟨t, rfl⟩
structure DObj (H : Hp) (a : Addr) (ob : Obj) (u : HO) (es : Array DictEntry) (ep : Nat) : Prop where
  sys : (a == sysModules) = false
  exact_ : ob.ExactDict
  data : ob.data = .dict es ep
  size : es.size = zsY u
theorem zmJ {P : Program} {w : World} {H : Hp} {h : Heap} {a : Addr} {ob : Obj} {u : HO} (ok : yV P w H h a (.frz ob u)) (hu : zmB u) : h.get? a = some ob ∧ ∃ es ep, DObj H a ob u es ep ∧ ∀ (i : Nat) (e : DictEntry), es[i]? = some e → ∃ x, yY x e.key ∧ ztU H u i x := by
  obtain ⟨e0, ok⟩ := ok
  rcases hu with ⟨kvs, rfl⟩ | ⟨kvs, rfl⟩
  · obtain ⟨_, sys, vs, kv, o, es, ep, e1, ex, dt, ko, pr, nd⟩ := ok
    rw [e0] at e1
    cases e1
    have hl : es.size = vs.length := by rw [← pr.length]; simp
    refine ⟨e0, es, ep, ⟨sys, ex, dt, by rw [hl, ← kv.length]; rfl⟩, fun i e he => ?_⟩
    have hi : i < kvs.length := by
      have := (Array.getElem?_eq_some_iff.mp he).1
      rw [kv.length]; omega
    have hv : i < vs.length := by rw [← kv.length]; exact hi
    have h1 := pr.get? (i := i) (e := e) (k := vs[i].1) (v := vs[i].2) (by simpa using he) (by simp [hv])
    have hk : kvs[i].1 = vs[i].1 := by
      have := congrArg (fun l => l[i]?) kv.keys
      simp only [List.getElem?_map] at this
      rw [List.getElem?_eq_getElem hi, List.getElem?_eq_getElem hv] at this
      exact Option.some.inj this
    exact ⟨kV kvs[i].1, by rw [hk]; exact ztL h1.1, kvs[i], List.getElem?_eq_getElem hi, rfl⟩
  · obtain ⟨_, sys, xs, pr, o, es, ep, e1, ex, dt, he, nd⟩ := ok
    rw [e0] at e1
    cases e1
    have hl : es.size = xs.length := by rw [← Array.length_toList, he, List.length_map]
    have hp := Paired.length pr
    refine ⟨e0, es, ep, ⟨sys, ex, dt, by rw [hl, ← hp]; rfl⟩, fun i e hei => ?_⟩
    have hx : i < xs.length := by
      have := (Array.getElem?_eq_some_iff.mp hei).1
      omega
    have hi : i < kvs.length := by omega
    have e2 : e = entryOfKey (tupleKind (yS P w)) xs[i] := by
      have : es.toList[i]? = some e := by simpa using hei
      rw [he, List.getElem?_map, List.getElem?_eq_getElem hx] at this
      exact (Option.some.inj this).symm
    have rel : ∀ {l : List (List Key × V)} {m : List (List Key × Addr × Value)}, Paired (fun p q => p.1 = q.1 ∧ H q.2.1 = some (.tup (p.1.map kV)) ∧ yY p.2 q.2.2) l m → ∀ (j : Nat) (h1 : j < l.length) (h2 : j < m.length), l[j].1 = m[j].1 ∧ H m[j].2.1 = some (.tup (l[j].1.map kV)) := fun {l m} r => by
      induction r with
      | nil => intro j h1; simp at h1
      | cons h t ih =>
        intro j h1 h2
        cases j with
        | zero => exact ⟨h.1, h.2.1⟩
        | succ j => exact ih j (by simpa using h1) (by simpa using h2)
    obtain ⟨_, r2⟩ := rel pr i hi hx
    subst e2
    exact ⟨.ref xs[i].2.1, rfl, kvs[i], xs[i].2.1, List.getElem?_eq_getElem hi, rfl, r2⟩
noncomputable def Itf (a : Addr) (ob : Obj) (u : HO) : It :=
  ⟨fun i H => H a = some (.frz ob u) ∧ i < zsY u, fun i H x H' => H' = H ∧ ztU H u i x, fun i H => H a = some (.frz ob u) ∧ zsY u ≤ i⟩
theorem zoI {P : Program} {w : World} {K : PySem.W.Frag} {tg : Expr} {a it : Addr} {ob : Obj} {u : HO} {es : Array DictEntry} {ep : Nat} (hu : zmB u) (hn : es.size = zsY u) (hd : ob.data = .dict es ep) : zqX P w K tg (Itf a ob u) [it] it (fun i h => h.IsKeyIter it a i es.size ep) where
  mem := by simp
  obj := fun i h st b hb => by
    have e : b = it := by simpa using hb
    subst e
    obtain ⟨o, e, c, d⟩ := st
    exact ⟨o, e, fun v z => by rw [d] at z; cases z⟩
  keep := fun i h h' st k => by
    obtain ⟨o, e, r⟩ := st
    exact ⟨o, k it (by simp) o e, r⟩
  item := by
    intro X hP hw hK hc i pins s σ H E I hf st hg
    subst hP hw hK
    obtain ⟨e1, hi⟩ := hg
    obtain ⟨e0, es', ep', D, ky⟩ := zmJ (I.hok a _ e1) hu
    have e2 := D.data
    rw [hd] at e2
    cases e2
    obtain ⟨f0, f1, f2, f3, f4, f5⟩ := hf it (by simp)
    have hlt : i < es.size := by omega
    obtain ⟨x, rx, kx⟩ := ky i es[i] (Array.getElem?_eq_getElem hlt)
    refine zqP st e0 hd (Array.getElem?_eq_getElem hlt) fun h' st' sb => ?_
    have I1 : Inv X pins σ H { s with heap := h' } := I.turned (t' := s.toks) (fun b o hb e => (sb.2 b hb).trans e) f0 f1 f3 f4 f5
    obtain ⟨o, e, c, d⟩ := id st'
    exact ⟨_, rfl, zp9 (s := { s with heap := h' }) e c d (by decide) ⟨x, H, I1, rx, ⟨rfl, kx⟩, st', fun b hb => (hf b hb).1⟩⟩
  done := by
    intro X hP hw hK hc i pins s σ H E I hf st hg
    subst hP hw hK
    obtain ⟨e1, hi⟩ := hg
    obtain ⟨e0, es', ep', D, ky⟩ := zmJ (I.hok a _ e1) hu
    obtain ⟨f0, f1, f2, f3, f4, f5⟩ := hf it (by simp)
    exact zss (I.ok.hd hc) st e0 hd (by omega) fun h' eb => ⟨rfl, I.turned (t' := s.toks) (fun b o hb e => eb b o hb e) f0 f1 f3 f4 f5⟩
  self := fun _ _ _ _ _ st h => wpAny_pyIter_keyiter st h
section
variable {X : Cx} {tg : Expr}
noncomputable def zuQ (tl : TE) : TI := fun σ H R => tl σ H fun x H1 => ∃ a ob u, x = .ref a ∧ H1 a = some (.frz ob u) ∧ zmB u ∧ R (Itf a ob u) H1
theorem zr8 {l : Expr} {tl : TE} (hl : PE X l tl) : PI X tg l (zuQ tl) := by
  intro pins s σ H R I h
  refine thn (hl pins s σ H _ I h) fun v s1 hh9 => ?_
  obtain ⟨x, H1, I1, r1, q1⟩ := hh9
  obtain ⟨a, ob, u, e, e1, hu, q⟩ := q1
  subst e
  cases r1
  obtain ⟨e0, es, ep, D, _⟩ := zmJ (I1.hok a _ e1) hu
  refine zqf D.sys e0 D.exact_ D.data ?_
  refine ⟨s1.heap.objs.size, [s1.heap.objs.size], _, _, H1, rfl, I1.kept (t' := s1.toks) fun b o e => Heap.get?_push_of_some _ e, zoI hu D.size D.data, ⟨_, Heap.get?_push_size _ rfl, rfl, rfl⟩, fun b hb => ?_, q⟩
  have e : b = s1.heap.objs.size := by simpa using hb
  subst e
  exact I1.fpOk (Nat.le_refl _) (I1.hok.fresh (Nat.le_refl _))
theorem Inv.frz {pins : List (Addr × Obj)} {σ : St} {H : Hp} {s : Shared} {p : Addr} {u : HO} (I : Inv X pins σ H s) (e : H p = some u) (hu : zmB u) : ∃ ob, Inv X pins σ (upd H p (.frz ob u)) s := by
  have ok := I.hok p u e
  have mu : Mut (H p) := by
    rw [e]
    rcases hu with ⟨kvs, rfl⟩ | ⟨kvs, rfl⟩ <;> exact True.intro
  rcases hu with ⟨kvs, rfl⟩ | ⟨kvs, rfl⟩
  · obtain ⟨z, sys, vs, kv, o, es, ep, e1, r⟩ := ok
    refine ⟨o, I.write (h' := s.heap) (t' := s.toks) mu (.inl rfl) (fun b u _ e => e) ⟨o, e1⟩ ⟨e1, z, sys, vs, kv, o, es, ep, e1, r⟩⟩
  · obtain ⟨z, sys, xs, pr, o, es, ep, e1, r⟩ := ok
    refine ⟨o, I.write (h' := s.heap) (t' := s.toks) mu (.inl rfl) (fun b u _ e => e) ⟨o, e1⟩ ⟨e1, z, sys, xs, ?_, o, es, ep, e1, r⟩⟩
    exact KT.keeps pr fun b ys eb => by
      rw [zA (zsf eb e (fun z => nomatch z))]
      exact eb
noncomputable def tFrz (i : Nat) (t : TS) : TS := fun E σ H => ∃ p u, σ[i]? = some (some (.ref p)) ∧ H p = some u ∧ zmB u ∧ ∀ ob, t E σ (upd H p (.frz ob u))
theorem zr4 {sts : List Stmt} {t : TS} (i : Nat) (h : PSs X sts t) : PSs X sts (tFrz i t) := by
  intro pins s σ H E I q
  obtain ⟨p, u, _, e, hu, q⟩ := q
  obtain ⟨ob, I2⟩ := I.frz e hu
  exact h pins s σ _ E I2 (q ob)
noncomputable def zrh (z : Bool) (tk tv : TE) : TE := fun σ H Q => ∀ p, H p = none → tk σ (upd H p (.dT [])) fun x H1 => tv σ H1 fun y H2 => H2 p = some (.dT []) ∧ ∃ b k, x = .ref b ∧ H2 b = some (.tup (k.map kV)) ∧
  if z = true then ∀ ob, Q (.ref p) (upd H2 p (.frz ob (.dT [(k, y)]))) else Q (.ref p) (upd H2 p (.dT [(k, y)]))
theorem zpR {z : Bool} {k v : Expr} {pos : Pos} {tk tv : TE} (hu : X.A.units + 1 < cLine) (hk : PE X k tk) (hv : PE X v tv) : PE X (.Dict [some k] [v] pos) (zrh z tk tv) := by
  intro pins s σ H Q I q
  have hn := I.hok.fresh (Nat.le_refl s.heap.objs.size)
  have I1 := I.laid (a := s.heap.objs.size) (o := .dT []) (h' := s.heap.push { cls := .type "dict", data := .dict #[] }) (t' := s.toks) (fun _ _ q => Heap.get?_push_of_some _ q) (Nat.le_refl _) (zng s.heap I.big)
  refine wpAny_Dict_any (by rfl) rfl (by simp) (by simp) ?_
  refine pairTrees_cons_walk (thn (hk pins _ σ _ _ I1 (q _ hn)) fun u s1 ⟨x, H1, I1, rx, q1⟩ => thn (hv pins s1 σ H1 _ I1 q1) fun w2 s2 hh9 => ?_)
  obtain ⟨y, H2, I2, ry, q2⟩ := hh9
  obtain ⟨e, b, kk, ex, eb, q2⟩ := q2
  subst ex
  obtain rfl : u = Value.ref b := rx
  refine pairTrees_nil_walk ?_
  unfold storeAll
  simp only [List.forIn_cons, List.forIn_nil]
  obtain ⟨zz, hd, xs, rel, dd⟩ := zsL I2.hok e
  cases rel
  refine wpAny_bind (wpAny_bind (wpAny_dictSet_heap (hsz := Nat.zero_le _) (show (tupleKind (yS X.prog X.w)).room X.A from Nat.lt_of_succ_lt hu) (znr I2.hok eb) dd fun h' dd' hs => wpAny_pure (wpAny_pure ?_)))
  have dd2 := dd'
  obtain ⟨q, es, ep, hq, h2, h3, h4, _, h5⟩ := dd'
  have I3 := zmN (t' := s2.toks + (tupleKind (yS X.prog X.w)).draws kk) (ob := .dT [(kk, y)]) I2 (by rw [e]; exact True.intro) hs ⟨q, hq⟩ ⟨by show 1 ≤ sizeLine; decide, hd, _, ((show KT H2 [] [] from .nil).put kk eb ry).keeps fun c ys ec => by
    rw [zA (zsf ec e (fun z => nomatch z))]
    exact ec, q, es, ep, hq, h2, h3, h4, h5⟩
  cases z with
  | false => exact ⟨.ref s.heap.objs.size, _, I3, rfl, by rw [if_neg Bool.false_ne_true] at q2; exact q2⟩
  | true =>
    rw [if_pos rfl] at q2
    obtain ⟨ob, I4⟩ := I3.frz (p := s.heap.objs.size) (u := .dT [(kk, y)]) zy (.inr ⟨_, rfl⟩)
    rw [zmL] at I4
    exact ⟨.ref s.heap.objs.size, _, I4, rfl, q2 ob⟩
end
end L2
namespace Dl
open PySem L2
noncomputable def k1D : Key → D
  | .inl i => .int i
  | .inr x => .str x
noncomputable def zq0 (t : Bool) (k : List Key) : D := if t = true then .tup (k.map k1D) else match k with
  | [a] => k1D a
  | _ => .non
noncomputable def zre : D → Option (List D)
  | .dct true t ks _ => some (ks.map (zq0 t))
  | _ => none
section
variable [KK]
theorem zq4 {F : Hp} (k : Key) : At F (k1D k) (kV k) := by
  cases k with
  | inl i => exact .int
  | inr x => exact .str
theorem zpl {F : Hp} : ∀ ks : List Key, AtL F (ks.map k1D) (ks.map kV)
  | [] => .nil
  | k :: ks => .cons (zq4 k) (zpl ks)
theorem zmY {u : HO} {t : Bool} {ks : List (List Key)} {xs : List V} (h : zjN u t ks xs) : zmB u ∧ zsY u = ks.length := by
  unfold zjN at h
  cases t with
  | true => rw [if_pos rfl] at h; obtain ⟨kvs, rfl, rfl, _⟩ := h; exact ⟨.inr ⟨_, rfl⟩, by rw [List.length_map]; rfl⟩
  | false => rw [if_neg Bool.false_ne_true] at h; obtain ⟨kvs, rfl, rfl, _⟩ := h; exact ⟨.inl ⟨_, rfl⟩, by rw [List.length_map]; rfl⟩
theorem Gr.see {F H : Hp} {b : Addr} {ys : List V} (s : yW F H) (h : H b = some (.tup ys)) : ∃ F', Gr F H F' H ∧ F' b = some (.tup ys) := by
  cases e : F b with
  | some o =>
    have := s _ _ e
    rw [h] at this
    cases this
    exact ⟨F, .refl s, e⟩
  | none =>
    refine ⟨upd F b (.tup ys), ⟨fun p o z => ?_, fun p o z => ?_, fun p o z1 z2 => ⟨?_, z2⟩⟩, zy⟩
    · rw [zA (zx z e)]; exact z
    · by_cases hp : p = b
      · subst hp; rw [zy] at z; cases z; exact h
      · rw [zA hp] at z; exact s p o z
    · by_cases hp : p = b
      · subst hp
        rw [h] at z2
        cases z2
        exact .inr ⟨⟨_, rfl⟩, zy⟩
      · exact .inl (by rw [zA hp]; exact z1)
theorem ztK {F : Hp} {a : Addr} {ob : Obj} {u : HO} {t : Bool} {ks : List (List Key)} {xs : List V} (h : F a = some (.frz ob u)) (hd : zjN u t ks xs) : zsE (Itf a ob u) F (ks.map (zq0 t)) := by
  intro i F2 H2 s1 s2
  have e2 := s2 _ _ (s1 _ _ h)
  obtain ⟨_, hl⟩ := zmY hd
  refine ⟨fun hi => ⟨e2, by rw [hl, hi, List.length_map]; exact Nat.le_refl _⟩, fun d hdi => ?_⟩
  rw [List.getElem?_map] at hdi
  obtain ⟨k, hk, rfl⟩ := Option.map_eq_some_iff.mp hdi
  refine ⟨⟨e2, by rw [hl]; exact (List.getElem?_eq_some_iff.mp hk).1⟩, fun x H3 hy => ?_⟩
  obtain ⟨rfl, hy⟩ := hy
  unfold zjN at hd
  cases t with
  | true =>
    rw [if_pos rfl] at hd
    obtain ⟨kvs, rfl, rfl, _⟩ := hd
    obtain ⟨p, b, hp, rfl, hb⟩ := hy
    rw [List.getElem?_map, hp] at hk
    cases hk
    obtain ⟨F3, g, hF⟩ := Gr.see s2 hb
    exact ⟨F3, g, .tup hF (zpl _)⟩
  | false =>
    rw [if_neg Bool.false_ne_true] at hd
    obtain ⟨kvs, rfl, rfl, _⟩ := hd
    obtain ⟨p, hp, rfl⟩ := hy
    rw [List.getElem?_map, hp] at hk
    cases hk
    exact ⟨F2, .refl s2, zq4 _⟩
section
variable {X : Cx} {tg a b e k v : Expr} {pos pos' : Pos} {sts : List Stmt}
noncomputable def iDct (f : Ev → Option D) : Ev → Option (List D) := fun ρ => (f ρ).bind zre
theorem zrr {f : Ev → Option D} (ha : ED X a f) : ID X tg a (iDct f) := by
  obtain ⟨t, p, r⟩ := ha
  refine ⟨_, zr8 p, fun σ ρ F H ds R s va e q => ?_⟩
  obtain ⟨d, e1, e2⟩ := Option.bind_eq_some_iff.mp e
  refine r σ ρ F H d _ s va e1 fun F1 H1 v g1 a1 => ?_
  unfold zre at e2
  split at e2
  · cases e2
    obtain ⟨p, xs, rfl, ⟨u, hd, hz⟩, _⟩ := a1.dct_inv
    rw [if_pos rfl] at hz
    obtain ⟨ob, hz⟩ := hz
    exact ⟨p, ob, u, rfl, g1.fh _ _ hz, (zmY hd).1, q F1 H1 _ g1 (ztK hz hd)⟩
  · cases e2
noncomputable def zu5 (i : Nat) (g : SE → Ctl) : SE → Ctl := fun ρ => match ρ[i]? with
  | some (.m t ks vs) => g (ρ.set i (.v (.dct true t ks vs)))
  | _ => .no
theorem Rl.fzM {Fb Hb F H : Hp} {ρ : SE} {σ : St} {i : Nat} {t : Bool} {ks : List (List Key)} {vs : List D} (r : Rl Fb Hb F H ρ σ) (h : ρ[i]? = some (.m t ks vs)) :
    ∃ p u, σ[i]? = some (some (.ref p)) ∧ H p = some u ∧ zmB u ∧ ∀ ob, Rl Fb Hb (upd F p (.frz ob u)) (upd H p (.frz ob u)) (ρ.set i (.v (.dct true t ks vs))) σ := by
  obtain ⟨p, u, e1, e2, e3, e4, xs, hd, al⟩ := r.ows i _ h rfl
  refine ⟨p, u, e1, e4, (zmY hd).1, fun ob => ?_⟩
  have hi : i < ρ.length := (List.getElem?_eq_some_iff.mp h).1
  have sF : yW F (upd F p (.frz ob u)) := fun b o e => by rw [zA (zx e e3)]; exact e
  have nj : ∀ {j : Nat} {s : Sl}, (ρ.set i (.v (.dct true t ks vs)))[j]? = some s → s.isO = true → i ≠ j := fun {j s} h ht e => by
    subst e
    rw [List.getElem?_set_self hi] at h
    cases h
    cases ht
  refine ⟨⟨r.gr.ff.trans sF, fun b o z => ?_, fun b o z1 z2 => ?_⟩, fun j d z => ?_, fun j s z ht => ?_, fun j k q s s' h1 h2 o1 o2 h3 h4 => ?_, by simp [r.len]⟩
  · by_cases hb : b = p
    · subst hb; rw [zy] at z ⊢; exact z
    · rw [zA hb] at z ⊢; exact r.gr.fh b o z
  · have hb : b ≠ p := zx z2 e2
    obtain ⟨x, y⟩ := r.gr.kp b o z1 z2
    refine ⟨?_, by rw [zA hb]; exact y⟩
    unfold Hid
    rw [zA hb]
    exact x
  · by_cases hj : i = j
    · subst hj
      rw [List.getElem?_set_self hi] at z
      cases z
      refine ⟨_, e1, ?_⟩
      unfold At
      exact ⟨p, xs, rfl, ⟨u, hd, by rw [if_pos rfl]; exact ⟨ob, zy⟩⟩, al.mono sF⟩
    · rw [List.getElem?_set_ne hj] at z
      obtain ⟨v, f1, f2⟩ := r.vals j d z
      exact ⟨v, f1, f2.mono sF⟩
  · have hj := nj z ht
    rw [List.getElem?_set_ne hj] at z
    obtain ⟨q, y, f1, f2, f3, f4, f5⟩ := r.ows j s z ht
    have hq : q ≠ p := fun w => hj (r.dis i j p _ s h z rfl ht e1 (by rw [← w]; exact f1))
    exact ⟨q, y, f1, f2, by rw [zA hq]; exact f3, by rw [zA hq]; exact f4, f5.mono sF⟩
  · have a1 := nj h1 o1
    have a2 := nj h2 o2
    rw [List.getElem?_set_ne a1] at h1
    rw [List.getElem?_set_ne a2] at h2
    exact r.dis j k q s s' h1 h2 o1 o2 h3 h4
theorem zrs {g : SE → Ctl} (i : Nat) (h : SDs X sts g) : SDs X sts (zu5 i g) := by
  obtain ⟨t, p, r⟩ := h
  refine ⟨_, zr4 i p, fun Fb Hb F H ρ σ E rl k => ?_⟩
  unfold zu5 at k
  split at k
  · rename_i tt ks vs hs
    obtain ⟨q, u, e1, e2, e3, e4⟩ := rl.fzM hs
    exact ⟨q, u, e1, e2, e3, fun ob => r Fb Hb _ _ _ σ E (e4 ob) k⟩
  · exact k.elim
noncomputable def zns (fk fv : Ev → Option D) : Ev → Option D := fun ρ => (fk ρ).bind fun kd => (fv ρ).bind fun d => (zun kd).map fun k => .dct true true [k] [d]
theorem zon {z : Bool} {tk tv : TE} {fk fv : Ev → Option D} {σ : St} {ρ : Ev} {F H : Hp} {kd d : D} {kk : List Key} {Q : VK} (rk : RE tk fk) (rv : RE tv fv) (s : yW F H) (va : VAt F ρ σ) (e1 : fk ρ = some kd) (e2 : fv ρ = some d) (e3 : zun kd = some kk)
    (q : ∀ F2 H2 p y, Gr F H F2 H2 → H p = none → F2 p = none → H2 p = some (.dT []) → At F2 d y → if z = true then ∀ ob, Q (.ref p) (upd H2 p (.frz ob (.dT [(kk, y)]))) else Q (.ref p) (upd H2 p (.dT [(kk, y)]))) : zrh z tk tv σ H Q := by
  intro p hp
  have g0 := Gr.hide s hp (.dT [])
  refine rk σ ρ F _ kd _ g0.fh va e1 fun F1 H1 x g1 a1 => ?_
  refine rv σ ρ F1 H1 d _ g1.fh (va.mono g1.ff) e2 fun F2 H2 y g2 a2 => ?_
  have g12 := g1.trans g2
  obtain ⟨n2, h2⟩ := g12.kl (o := .dT []) (fun _ e => by cases e) (s.free hp) zy
  obtain ⟨b, rfl, hb⟩ := zmC e3 a1
  exact ⟨h2, b, kk, rfl, g2.fh _ _ (g2.ff _ _ hb), q F2 H2 p y (g0.trans g12) hp n2 h2 a2⟩
theorem zqi {n : Nat} {fk fv : Ev → Option D} (hr : zau n X.A) (hk : ED X k fk) (hv : ED X v fv) : ED X (.Dict [some k] [v] pos) (zns fk fv) := by
  obtain ⟨tk, pk, rk⟩ := hk
  obtain ⟨tv, pv, rv⟩ := hv
  refine ⟨_, zpR (z := true) (zrv hr) pk pv, fun σ ρ F H z Q s va e q => ?_⟩
  obtain ⟨kd, e1, e⟩ := Option.bind_eq_some_iff.mp e
  obtain ⟨d, e2, e⟩ := Option.bind_eq_some_iff.mp e
  obtain ⟨kk, e3, rfl⟩ := Option.map_eq_some_iff.mp e
  refine zon rk rv s va e1 e2 e3 fun F2 H2 p y g hp n2 h2 ay => ?_
  rw [if_pos rfl]
  intro ob
  have sF : yW F2 (upd F2 p (.frz ob (.dT [(kk, y)]))) := fun b o e => by rw [zA (zx e n2)]; exact e
  refine q (upd F2 p (.frz ob (.dT [(kk, y)]))) _ _ ⟨g.ff.trans sF, fun b o z => ?_, fun b o z1 z2 => ?_⟩ ?_
  · by_cases hb : b = p
    · subst hb; rw [zy] at z ⊢; exact z
    · rw [zA hb] at z ⊢; exact g.fh b o z
  · have hb : b ≠ p := zx z2 hp
    obtain ⟨x, y⟩ := g.kp b o z1 z2
    refine ⟨?_, by rw [zA hb]; exact y⟩
    unfold Hid
    rw [zA hb]
    exact x
  · unfold At
    refine ⟨p, [y], rfl, ⟨.dT [(kk, y)], ?_, by rw [if_pos rfl]; exact ⟨ob, zy⟩⟩, .cons (ay.mono sF) .nil⟩
    unfold zjN
    rw [if_pos rfl]
    exact ⟨_, rfl, rfl, rfl⟩
end
end
end Dl
namespace OwnRep
open PySem Builtin
end OwnRep
namespace L2
open PySem
section
variable {X : Cx}
end
end L2
namespace Dl
open PySem L2
section
variable [KK]
section
variable {X : Cx} {a b : Expr} {pos : Pos}
end
end
end Dl
namespace L2
open PySem PySem.Spec PyProof.Rows
end L2
namespace Dl
open PySem L2
variable [KK]
end Dl
namespace PySem
open Sem (wp)
namespace OwnRev
end OwnRev
section
variable {prog : Program} {w : World} {A : Around} {E : Value → Shared → Prop} {s : Shared}
end
end PySem
namespace L2
open PySem PySem.Spec PyProof.Rows
end L2
namespace Dl
open PySem L2 PySem.Spec PyProof.Rows
variable [KK] {X : Cx} {e : Expr}
end Dl
namespace OwnSet
open PySem
end OwnSet
namespace OwnSet
open PySem
section
variable {prog : Program} {w : World} {A : Around} {E : Value → Shared → Prop} {s : Shared}
end
end OwnSet
namespace OwnSet
open PySem
section
variable {prog : Program} {w : World} {A : Around} {E : Value → Shared → Prop} {s : Shared}
end
section
variable {prog : Program} {w : World} {A : Around} {R : Result → Shared → Prop} {I : Addr} {fp wr : List Addr} {G : Array GenState → Array GenState → Prop} {n : Nat} {P : Nat → Value → Prop} {St : Nat → Shared → Prop}
end
section
variable {prog : Program} {w : World} {A : Around} {E : Value → Shared → Prop} {s : Shared}
end
end OwnSet
namespace OwnSet
open PySem
section
variable {prog : Program} {w : World} {A : Around} {E : Value → Shared → Prop} {s : Shared}
end
end OwnSet
namespace OwnSet
open PySem
section
variable {prog : Program} {w : World} {A : Around} {E : Value → Shared → Prop} {s : Shared}
end
end OwnSet
namespace OwnSet
open PySem
section
variable {prog : Program} {w : World} {A : Around} {E : Value → Shared → Prop} {s : Shared}
end
end OwnSet
namespace OwnSet
open PySem
section
variable {prog : Program} {w : World} {A : Around} {E : Value → Shared → Prop} {s : Shared}
end
end OwnSet
namespace OwnSet
open PySem
section
variable {prog : Program} {w : World} {A : Around} {E : Value → Shared → Prop} {s : Shared}
end
end OwnSet
namespace OwnSet
open PySem PyProof.Rows
section
variable {prog : Program} {w : World} {A : Around} {E : Value → Shared → Prop} {s : Shared}
end
end OwnSet
namespace L2
open PySem PySem.Spec PyProof.Rows
end L2
namespace Dl
open PySem L2 PySem.Spec PyProof.Rows
variable [KK] {X : Cx} {e : Expr}
end Dl
namespace Dl
open PySem L2 PySem.Spec PyProof.Rows
variable [KK] {X : Cx} {a b : Expr} {pos apos : Pos}
end Dl
namespace L2
open PySem PySem.Spec PyProof.Rows
theorem znc {h₀ : Heap} {k : Str} {P : Value → Prop} : ∀ {D : List (Str × KTD.Dat)}, (∀ d, KTD.datumAt k D = some d → KTD.Opened h₀ P d) → KTD.EachL h₀ k P D
  | [], _ => trivial
  | [(x, d)], h => fun e => h d (by show (if decide (k = x) = true then some d else none) = _; rw [if_pos (decide_eq_true e)])
  | (x, d) :: q :: D, h => by
    show if decide (k = x) = true then KTD.Opened h₀ P d else KTD.EachL h₀ k P (q :: D)
    by_cases e : k = x
    · rw [if_pos (decide_eq_true e)]
      exact h d (by show (if decide (k = x) = true then some d else _) = _; rw [if_pos (decide_eq_true e)])
    · rw [if_neg (by rw [decide_eq_false e]; exact Bool.false_ne_true)]
      refine znc fun d' h' => h d' ?_
      show (if decide (k = x) = true then some d else KTD.datumAt k (q :: D)) = _
      rw [if_neg (by rw [decide_eq_false e]; exact Bool.false_ne_true), h']
theorem zcR : ∀ {ns : List Int} {vs : List Value}, KTD.Flats vs (ns.map PyData.int) → yG (ns.map V.int) vs
  | [], _, h => by cases h; exact .nil
  | n :: ns, _, h => by
    cases h with
    | cons h1 h2 =>
      obtain ⟨t, rfl⟩ := h1.int_inv
      exact .cons ⟨t, rfl⟩ (zcR h2)
section
variable {X : Cx} {a : Addr} {D : List (Str × KTD.Dat)} {nm : Str} {b : Expr} {p pos : Pos} {tb : TE}
noncomputable def zsV (a : Addr) (D : List (Str × KTD.Dat)) : R2 := fun x y H Q => ∃ s, x = .str s ∧ y = .ref a ∧ Q (.bl (KTD.inKeys s D)) H
theorem zqQ (T : ∀ h : Heap, X.K.In h → KTD.TextTab h a D) : OpR X (compareOp .In) (zsV a D) := by
  intro pins s σ H x y v u Q I rx ry h
  obtain ⟨z, rfl, rfl, q⟩ := h
  obtain ⟨t, rfl⟩ := rx
  cases ry
  exact KTD.in_text ⟨T _ I.kIn, fun _ _ e => e⟩ ⟨.bl _, H, I.tok _, rfl, q⟩
noncomputable def tTab (D : List (Str × KTD.Dat)) (base : Heap) (tb : TE) : TE := fun σ H Q => tb σ H fun y H1 => ∃ (z : Str) (ns : List Int), y = .str z ∧ KTD.datumAt z D = some (.tup (ns.map PyData.int)) ∧ ∀ p its, IsTup base p (List.toArray its) → yG (ns.map V.int) its → Q (.ref p) H1
theorem zuj (T : ∀ h : Heap, X.K.In h → KTD.TextTab h a D) (hg : Gl X nm) (hm : X.mg nm = some (.ref a)) (hb : PE X b tb) (hs : zhp b) (hd : (nm == ("__debug__" : Str)) = false := by decide) : PE X (.Subscript (.Name nm p) b pos) (tTab D X.base tb) := by
  intro pins s σ H Q I h
  refine Subscript_ (zmW I hg hm (thn (hb pins s σ H _ I h) fun u s1 hq => ?_) hd)
  obtain ⟨y, H1, I1, ry, z, ns, rfl, hz, q⟩ := hq
  obtain ⟨t, rfl⟩ := ry
  have hin : KTD.inKeys z D = true := by rw [← KTD.isSome_datumAt, hz]; rfl
  refine KTD.item_text (h₀ := X.base) ⟨T _ I.mod.kin, I1.bk⟩ hin (znc fun d hd => ?_) (hs _ _) (by intro _; with_unfolding_all rfl)
  rw [hz] at hd
  cases hd
  exact fun p its h1 h2 => ⟨.ref p, H1, I1.tok _, rfl, q p its h1 (zcR h2)⟩
noncomputable def rIxB (base : Heap) : R2 := fun x y H Q => ∃ p its xs i v, x = .ref p ∧ y = .int i ∧ IsTup base p (List.toArray its) ∧ yG xs its ∧ xs.length ≤ sizeLine ∧ atI xs i = some v ∧ Q v H
theorem zrN : IxR X (rIxB X.base) := by
  intro value slice pins s σ H x y v u Q I rx ry h hs
  obtain ⟨p, its, xs, i, z, rfl, rfl, hq, r, hz, he, q⟩ := h
  cases rx
  obtain ⟨t, rfl⟩ := ry
  have pl : IsTup s.heap p its.toArray := by
    obtain ⟨o, ho, hc, n, hd⟩ := hq
    exact ⟨o, I.bk _ _ ho, hc, n, hd⟩
  obtain ⟨j, h1, h2, h3, h4, h5⟩ := zeu he
  obtain ⟨w, ew, rw'⟩ := r.get h2
  have hl := r.length
  have hn := zb6
  have fin : EP X pins σ Q w s := ⟨z, H, I, rw', q⟩
  exact subscriptTail_builtinR (x := w) pl.typeIs slot_tuple_getitem.lookup
    (getItem_tuple (j := j) (Q := fun r s' => r = w ∧ EP X pins σ Q r s') pl (by omega) (by omega) (by rw [List.size_toArray, ← hl]; exact h1) (by simpa using ew) ⟨rfl, fin⟩) hs
end
end L2
namespace Dl
open PySem L2 PySem.Spec PyProof.Rows
variable [KK] {X : Cx} {a : Addr} {T : List (Str × KTD.Dat)} {nm : Str} {b : Expr} {p p2 p3 pos : Pos} {f : Ev → Option D}
noncomputable abbrev zqv := List (Str × List Int)
noncomputable def zjr (t : zqv) : List (Str × KTD.Dat) := t.map fun q => (q.1, .tup (q.2.map PyData.int))
noncomputable def zb4 : zqv → Str → Option (List Int)
  | [], _ => none
  | q :: t, x => if x = q.1 then some q.2 else zb4 t x
omit [KK] in
theorem zb2 (x : Str) : ∀ t : zqv, KTD.datumAt x (zjr t) = (zb4 t x).map fun ns => KTD.Dat.tup (ns.map PyData.int)
  | [] => rfl
  | q :: t => by
    show (if decide (x = q.1) = true then some (KTD.Dat.tup (q.2.map PyData.int)) else KTD.datumAt x (zjr t)) = (if x = q.1 then some q.2 else zb4 t x).map _
    by_cases h : x = q.1
    · rw [if_pos (decide_eq_true h), if_pos h]; rfl
    · rw [if_neg (by rw [decide_eq_false h]; exact Bool.false_ne_true), if_neg h, zb2 x t]
noncomputable def zrg (t : zqv) : D → Option D
  | .str x => some (.bl (zb4 t x).isSome)
  | _ => none
noncomputable def zoQ (t : zqv) (i : Int) : D → Option D
  | .str x => (zb4 t x).bind fun ns => (atI ns i).map D.int
  | _ => none
theorem zpS {t : zqv} (T : ∀ h : Heap, X.K.In h → KTD.TextTab h a (zjr t)) (hg : Gl X nm) (hm : X.mg nm = some (.ref a)) (hb : ED X b f) (hk : behindInMarks .In (.Name nm p) = false := by with_unfolding_all rfl) (hd : (nm == ("__debug__" : Str)) = false := by decide) :
    ED X (.Compare b [.In] [.Name nm p] pos) (eUn (zrg t) f) := by
  obtain ⟨tb, pb, rb⟩ := hb
  refine ⟨_, zpv (zqQ T) pb (zcu (v := .ref a) hg hm rfl hd) hk, fun σ ρ F H z Q s va e q => ?_⟩
  obtain ⟨d, e1, e2⟩ := Option.bind_eq_some_iff.mp e
  refine rb σ ρ F H d _ s va e1 fun F1 H1 v g1 a1 => ?_
  cases d with
  | str x =>
    cases e2
    cases a1.str_inv
    refine ⟨x, rfl, rfl, ?_⟩
    rw [← KTD.isSome_datumAt, zb2, Option.isSome_map]
    exact q F1 H1 _ g1 .bl
  | _ => cases e2
theorem znn {t : zqv} {i : Int} {j : Nat} (T : ∀ h : Heap, X.K.In h → KTD.TextTab h a (zjr t)) (hl : ∀ q ∈ t, q.2.length ≤ sizeLine) (hg : Gl X nm) (hm : X.mg nm = some (.ref a)) (hb : ED X b f) (hs : zhp b) (hd : (nm == ("__debug__" : Str)) = false := by decide) :
    ED X (.Subscript (.Subscript (.Name nm p) b p2) (.Constant (.int i) j p3) pos) (eUn (zoQ t i) f) := by
  obtain ⟨tb, pb, rb⟩ := hb
  refine ⟨_, zs3 zrN (zuj T hg hm pb hs hd) zn (fun _ _ => rfl), fun σ ρ F H z Q s va e q => ?_⟩
  obtain ⟨d, e1, e2⟩ := Option.bind_eq_some_iff.mp e
  refine rb σ ρ F H d _ s va e1 fun F1 H1 v g1 a1 => ?_
  cases d with
  | str x =>
    obtain ⟨ns, h1, h2⟩ := Option.bind_eq_some_iff.mp e2
    obtain ⟨n, h3, rfl⟩ := Option.map_eq_some_iff.mp h2
    cases a1.str_inv
    have hmem : ∀ t : zqv, (∀ q ∈ t, q.2.length ≤ sizeLine) → zb4 t x = some ns → ns.length ≤ sizeLine := by
      intro t
      induction t with
      | nil => intro _ h; cases h
      | cons q t ih =>
        intro hl h
        unfold zb4 at h
        split at h
        · cases h; exact hl q List.mem_cons_self
        · exact ih (fun r hr => hl r (List.mem_cons_of_mem _ hr)) h
    refine ⟨x, ns, rfl, by rw [zb2, h1]; rfl, fun p its h4 h5 => ⟨p, its, ns.map V.int, i, .int n, rfl, rfl, h4, h5, by rw [List.length_map]; exact hmem t hl h1, ?_, q F1 H1 _ g1 .int⟩⟩
    have : ∀ (xs : List Int), atI xs i = some n → atI (xs.map V.int) i = some (V.int n) := fun xs h => by
      unfold atI at h ⊢
      rw [List.length_map]
      cases hi : ixN xs.length i with
      | none => rw [hi] at h; cases h
      | some k =>
        rw [hi] at h
        show (xs.map V.int)[k]? = _
        have h : xs[k]? = some n := h
        rw [List.getElem?_map, h]
        rfl
    exact this ns h3
  | _ => cases e2
end Dl
namespace L2
open PySem PySem.Spec PyProof.Rows
noncomputable def tLRg (ta : TE) : TE := fun σ H Q => ta σ H fun x H1 => ∃ j : Nat, x = .int (j : Int) ∧ j ≤ 1000 ∧ ∀ l, H1 l = none → Q (.ref l) (upd H1 l (.lst ((List.range j).map fun k : Nat => V.int (k : Int))))
theorem znO {acc : Array Value} {j : Nat} (h : ItemsOf (fun i v => ∃ t, v = Value.int (0 + (i : Int) * 1) t) acc j) : yG ((List.range j).map fun k : Nat => V.int (k : Int)) acc.toList := by
  have gen : ∀ (vs : List Value) (a : Nat), (∀ i v, vs[i]? = some v → ∃ t, v = Value.int (0 + ((a + i : Nat) : Int) * 1) t) → yG ((List.range' a vs.length).map fun k : Nat => V.int (k : Int)) vs := by
    intro vs
    induction vs with
    | nil => intro a _; exact .nil
    | cons v vs ih =>
      intro a h
      refine .cons ?_ (ih (a + 1) fun i v hv => ?_)
      · obtain ⟨t, rfl⟩ := h 0 v rfl
        exact ⟨t, by rw [show (0 : Int) + ((a + 0 : Nat) : Int) * 1 = (a : Int) by omega]⟩
      · have := h (i + 1) v (by simpa using hv)
        rwa [show a + (i + 1) = a + 1 + i by omega] at this
  have := gen acc.toList 0 fun i v hv => by
    rw [Nat.zero_add]
    exact h.2 i v (by simpa using hv)
  rw [Array.length_toList, h.1] at this
  rwa [List.range_eq_range']
theorem zkH {X : Cx} {a : Expr} {ta : TE} {p1 p2 pos1 pos2 : Pos} (hc : X.calm = true) (hg1 : Gl X "list") (hm1 : X.mg "list" = none) (hb1 : bootBuiltins "list" = some (.type "list")) (hg2 : Gl X "range") (hm2 : X.mg "range" = none) (ha : PE X a ta)
    (hs : starEach [a] X.env = [(false, eval a X.env)] := by rfl) (hs2 : starEach [.Call (.Name "range" p2) [a] [] pos2] X.env = [(false, eval (.Call (.Name "range" p2) [a] [] pos2) X.env)] := by rfl) : PE X (.Call (.Name "list" p1) [.Call (.Name "range" p2) [a] [] pos2] [] pos1) (tLRg ta) := by
  intro pins s σ H Q I h
  refine Call_ (Vk I hg1 hm1 hb1 (PyProof.Rows.callWith_type1 (Q := EP X pins σ Q) ?_ hs2 rfl))
  rw [hs2]
  show wpAny _ _ (spliced ((false, eval (.Call (.Name "range" p2) [a] [] pos2) X.env) :: [])) _ _ _
  refine Calls.spliced_cons ?_
  refine Call_ (Vk I hg2 hm2 boot_range (PyProof.Rows.callWith_type1 ?_ hs rfl))
  rw [hs]
  show wpAny _ _ (spliced ((false, eval a X.env) :: [])) _ _ _
  refine Calls.spliced_cons (thn (ha pins s σ H _ I h) fun v s1 hh9 => ?_)
  obtain ⟨x, H1, I1, r1, q1⟩ := hh9
  obtain ⟨j, rfl, hj, q⟩ := q1
  obtain ⟨t, rfl⟩ := r1
  refine Calls.spliced_nil ?_
  refine call_range_1 ?_
  refine Calls.spliced_nil ?_
  refine call_list_range (n := j) (I.ok.hd hc) (IsRange.new ..) (small_one (by decide) (by decide) (by omega) (by omega)) (by rw [rangeSize_one]; split <;> omega) (by omega) fun h' tk acc c' k hS hacc => ?_
  have I2 : Inv X pins σ H1 { s1 with heap := s1.heap.push { cls := .type "range", data := .fields #[.int 0 s1.toks, .int (j : Int) t, .int 1 (s1.toks + 1)] }, toks := s1.toks + 1 + 1 } := I1.kept fun b o e => Heap.get?_push_of_some _ e
  have rl := znO hacc
  refine ⟨.ref (s1.heap.push { cls := .type "range", data := .fields #[.int 0 s1.toks, .int (j : Int) t, .int 1 (s1.toks + 1)] }).objs.size, _, I2.laid (t' := tk) (fun b o e => k b o e) (Nat.le_refl _) (show yV X.prog X.w _ h' _ (.lst ((List.range j).map fun k : Nat => V.int (k : Int))) from ⟨?_, acc.toList, c', rl, by simpa using hS⟩), rfl, q _ (I2.hok.fresh (Nat.le_refl _))⟩
  rw [List.length_map, List.length_range]
  exact Nat.le_of_lt (zcz hj)
end L2
namespace Dl
open PySem L2 PySem.Spec PyProof.Rows
variable [KK] {X : Cx} {e : Expr}
noncomputable def lrD : D → Option (List D)
  | .int j => if 0 ≤ j ∧ j ≤ 1000 then some ((List.range j.toNat).map fun k : Nat => .int (k : Int)) else none
  | _ => none
noncomputable def fLR (f : Ev → Option D) : Ev → Option (List D) := fun ρ => (f ρ).bind lrD
theorem zbI {p1 p2 pos1 pos2 : Pos} {f : Ev → Option D} (hc : X.calm = true) (hg1 : Gl X "list") (hm1 : X.mg "list" = none) (hg2 : Gl X "range") (hm2 : X.mg "range" = none) (ha : ED X e f)
    (hs : starEach [e] X.env = [(false, eval e X.env)] := by rfl) (hs2 : starEach [.Call (.Name "range" p2) [e] [] pos2] X.env = [(false, eval (.Call (.Name "range" p2) [e] [] pos2) X.env)] := by rfl) :
    FL X (.Call (.Name "list" p1) [.Call (.Name "range" p2) [e] [] pos2] [] pos1) (fLR f) := by
  obtain ⟨t, pa, ra⟩ := ha
  refine ⟨_, zkH hc hg1 hm1 zeP hg2 hm2 pa hs hs2, fun σ ρ F H z Q s va e q => ?_⟩
  obtain ⟨d, e1, e2⟩ := Option.bind_eq_some_iff.mp e
  refine ra σ ρ F H d _ s va e1 fun F1 H1 v g1 a1 => ?_
  cases d with
  | int j =>
    have e2 : (if 0 ≤ j ∧ j ≤ 1000 then some ((List.range j.toNat).map fun k : Nat => D.int (k : Int)) else none) = some z := e2
    by_cases hj : 0 ≤ j ∧ j ≤ 1000
    · rw [if_pos hj] at e2
      cases e2
      cases a1.int_inv
      refine ⟨j.toNat, by rw [Int.toNat_of_nonneg hj.1], by omega, fun l hl => q _ _ _ _ (g1.trans (Gr.hide g1.fh hl _)) (zph g1 hl) (g1.fh.free hl) zy ?_⟩
      have := AtL.ints (H := F1) ((List.range j.toNat).map fun k : Nat => (k : Int))
      rwa [List.map_map, List.map_map] at this
    · rw [if_neg hj] at e2; cases e2
  | _ => cases e2
end Dl
namespace L2
open PySem PySem.Spec PyProof.Rows
end L2
namespace Dl
open PySem L2 PySem.Spec PyProof.Rows
variable [KK] {X : Cx} {a e ko : Expr} {pos tpos : Pos}
end Dl
namespace PySem
open Sem (wp)
section
variable {prog : Program} {w : World} {A : Around} {E : Value → Shared → Prop} {s : Shared} {z TI TO i1 i2 i3 : Addr} {fp1 fp2 fp3 : List Addr} {n1 n2 n3 k1 k2 k3 : Nat} {P1 P2 P3 : Nat → Value → Prop} {St1 St2 St3 : Nat → Heap → Prop} {a b c : Value}
end
section
variable {prog : Program} {w : World} {A : Around} {E : Value → Shared → Prop} {s : Shared}
variable {z TI TO i1 i2 i3 : Addr} {fp1 fp2 fp3 : List Addr} {n1 n2 n3 k1 k2 k3 : Nat} {P1 P2 P3 : Nat → Value → Prop} {St1 St2 St3 : Nat → Heap → Prop} {a b c : Value}
end
end PySem
namespace L2
open PySem PySem.Spec PyProof.Rows
end L2
namespace Dl
open PySem L2 PySem.Spec PyProof.Rows
variable [KK] {X : Cx} {a b c : Expr} {pos : Pos}
end Dl
namespace Dl
open PySem L2
variable [KK]
section
variable {X : Cx} {st : Stmt} {sts : List Stmt} {a b c e tg : Expr} {pos pos' : Pos}
end
end Dl
namespace L2
open PySem PySem.Spec PyProof.Rows
section
variable {P : Program} {w : World} {H H' : Hp} {h h' : Heap} {a : Addr} {o : HO}
end
section
variable {X : Cx} {pins : List (Addr × Obj)} {σ : St} {H H' : Hp} {s s' : Shared} {E : XK} {e : Value} {M : Model} {E2 : Value → Shared → Prop}
end
end L2
namespace L2
open PySem PySem.Spec PyProof.Rows
end L2
namespace Dl
open PySem L2
variable [KK]
section
variable (E : XK) (cl : Nat → Addr)
end
section
variable {E : XK} {cl : Nat → Addr} {X : Cx} {a b c e : Expr} {es : List Expr} {st : Stmt} {sts : List Stmt} {pos pos' : Pos}
end
end Dl
namespace L2
open PySem PySem.Spec PyProof.Rows
section
variable {X : Cx} {pins : List (Addr × Obj)} {σ : St} {H H' : Hp} {s s' : Shared} {E : XK} {e : Value} {E2 : Value → Shared → Prop} {B h3 : Heap}
end
end L2
namespace L2
open PySem PySem.Spec PyProof.Rows
section
variable {X : Cx} {pins : List (Addr × Obj)} {σ : St} {H H' : Hp} {s s' : Shared} {E : Value → Shared → Prop} {e : Value} {M : Model} {A : Around}
end
end L2
namespace L2
open PySem PySem.Spec PyProof.Rows
section
variable {X : Cx} {pins ps : List (Addr × Obj)} {σ : St} {H H' : Hp} {s s' : Shared}
end
end L2
namespace L2
open PySem PySem.Spec PyProof.Rows PySem.W PySem.Calls PySem.Builtin PySem.Builtin.Getset_descriptor
section
variable {prog : Program} {w : World} {A : Around} {E : Value → Shared → Prop} {K : PySem.W.Frag} {h : Heap} {g : Array GenState} {d : Drawn} {t : Nat} {os : OsState} {a C : Addr} {o : Obj}
end
end L2
namespace L2
open PySem PySem.Spec PyProof.Rows
section
variable {P : Program} {w : World} {K : PySem.W.Frag} {mg : Str → Option Value} {base : Heap}
end
end L2
namespace L2
open PySem PySem.Spec PyProof.Rows PySem.SeqAt
end L2
namespace L2
open PySem PySem.Spec PyProof.Rows
end L2
namespace Dl
open PySem L2
variable [KK]
section
variable {E : XK} {cl : Nat → Addr} {X : Cx} {e : Expr} {es : List Expr}
end
end Dl
namespace L2
open PySem PySem.Spec PyProof.Rows
section
variable {K : PySem.W.Frag} {σ : St} {H H0 : Hp} {a C : Addr}
end
end L2
namespace Dl
open PySem L2
variable [KK]
end Dl
namespace OwnSort
open PySem PyProof.Rows
section
variable {prog : Program} {w : World} {A : Around} {E : Value → Shared → Prop} {s : Shared}
end
end OwnSort
namespace Dl
open PySem L2
variable [KK]
section
variable {X : Cx} {e : Expr} {pos : Pos}
end
end Dl
namespace Dl
open PySem L2
variable [KK]
section
variable {E : XK} {cl : Nat → Addr} {X : Cx} {a b : Expr} {pos : Pos}
end
end Dl
namespace L2
open PySem PySem.Spec PyProof.Rows
section
variable {prog : Program} {w : World} {A : Around} {E : Value → Shared → Prop} {s : Shared}
end
section
variable {X : Cx} {e st : Expr} {te : TE} {t3 : TO} {pos p2 : Pos}
end
end L2
namespace Dl
open PySem L2
variable [KK]
end Dl
namespace L2
open PySem PySem.Spec PyProof.Rows
end L2
namespace Dl
open PySem L2
end Dl
namespace PySem
section
variable {prog : Program} {w : World} {A : Around} {R : Result → Shared → Prop} {it S : Addr} {fp wr : List Addr} {n : Nat} {P : Nat → Value → Prop} {St : Nat → Heap → Prop} {kw : List (Str × Value)}
theorem Yb : (toString "max" ++ toString ".loop" : String) = "max.loop" := by decide
theorem zcj {s : Shared} (k : wpAny (model prog w) A.in1 (Builtin.«max.loop» ⟨[.ref it, .none, .ref S], kw⟩) (fun fin s' => match fin with | .done f => R (.ok f) s' | .again c' => c'.quiet = true ∧ codeAny (model prog w) A c' R s') (fun e s' => R (.error e) s') s) :
    codeAny (model prog w) A (.builtin "max.loop" ⟨[.ref it, .none, .ref S], kw⟩) R s := codeAny_builtin F.entry_max_loop (by rw [Around.under_plainId F.plain_max_loop _]; exact k)
theorem zo5 (W : Walks prog w A.in1 it fp wr n P St) (bt : Nat → Nat → Bool) (cm : CmpOf prog w A.in1 .Gt P bt) (nf : S ∉ fp) : ∀ (left j : Nat) (s : Shared) (v0 : Value) (c : Nat), j + 1 + left = n → St (j + 1) s.heap → P (argBest bt j) v0 →
      s.heap.get? S = some { cls := .type "list", dict := none, data := .seq #[v0, v0] c, slots := #[] } →
      (∀ v g tk, P (argBest bt (n - 1)) v → (∀ b o, b ∉ wr → b ≠ S → s.heap.get? b = some o → g.get? b = some o) → R (.ok (.ret v)) { s with heap := g, toks := tk }) →
    codeAny (model prog w) A (.builtin "max.loop" ⟨[.ref it, .none, .ref S], kw⟩) R s := by
  have nw : S ∉ wr := fun z => nf (W.sub _ z)
  intro left
  induction left with
  | zero =>
    intro j s v0 c e st p0 hS k
    have ej : j + 1 = n := e
    refine zcj ?_
    show wpAny _ A.in1 (seqItems? (.ref S) >>= _) _ _ s; refine wpAny_bind (wpAny_seqItems hS rfl ?_)
    show wpAny _ A.in1 (tryCatch (pyNext (.ref it)) _ >>= _) _ _ s; refine wpAny_bind (wpAny_tryCatch (W.done s _ _ (ej ▸ st) fun g tk kk => ?_))
    show wpAny _ A.in1 (updateSeq S (fun _ => #[]) >>= _) _ _ _; refine wpAny_bind (wpAny_updateSeq (kk S _ nw hS) rfl (wpAny_bind (wpAny_letGo (wpAny_pure (k v0 _ tk (ej ▸ p0) fun b o b1 b2 q => ?_)))))
    exact (Heap.get?_update_other _ _ (Ne.symm b2)).trans (kk b o b1 q)
  | succ left ih =>
    intro j s v0 c e st p0 hS k
    refine zcj ?_
    show wpAny _ A.in1 (seqItems? (.ref S) >>= _) _ _ s; refine wpAny_bind (wpAny_seqItems hS rfl ?_)
    show wpAny _ A.in1 (tryCatch (pyNext (.ref it)) _ >>= _) _ _ s; refine wpAny_bind (wpAny_tryCatch (W.item (j + 1) s _ _ (by omega) st fun v g tk pv st' kk => ?_))
    have hS' := kk S _ nw hS
    show wpAny _ A.in1 (tryCatch (holding [v, v] (richCompare .Gt v v0 >>= _)) _ >>= _) _ _ _; refine wpAny_bind (wpAny_tryCatch (wpAny_holding (wpAny_bind (cm (j + 1) (argBest bt j) v v0 _ _ _ pv p0 (wpAny_bind (wpAny_holding (wpAny_truthy_bool (wpAny_bind (wpAny_letGo (wpAny_pure ?_))))))))))
    cases hb : bt (j + 1) (argBest bt j) with
    | true =>
      simp only [if_true]; refine wpAny_bind (wpAny_updateSeq hS' rfl (wpAny_bind (wpAny_letGo ?_)))
      rw [Yb]; refine wpAny_pure ⟨plainId_quiet F.plain_max_loop _, ih (j + 1) _ v _ (by omega) (W.frame _ _ _ st' fun b bf o q => ?_) (by rw [argBest, if_pos hb]; exact pv) (Heap.get?_update_self _ hS' rfl) fun v1 g1 tk1 p1 kk1 => ?_⟩
      · exact (Heap.get?_update_other _ _ (fun z : S = b => nf (z ▸ bf))).trans q
      · exact k v1 g1 tk1 p1 fun b o b1 b2 q => kk1 b o b1 b2 ((Heap.get?_update_other _ _ (Ne.symm b2)).trans (kk b o b1 q))
    | false =>
      simp only [Bool.false_eq_true, if_false]; refine wpAny_bind (wpAny_letGo ?_)
      rw [Yb]; exact wpAny_pure ⟨plainId_quiet F.plain_max_loop _, ih (j + 1) _ v0 c (by omega) st' (by rw [argBest, if_neg (by rw [hb]; exact Bool.false_ne_true)]; exact p0) hS' fun v1 g1 tk1 p1 kk1 => k v1 g1 tk1 p1 fun b o b1 b2 q => kk1 b o b1 b2 (kk b o b1 q)⟩
theorem zqB {s : Shared} {c : Nat} {d : Value} (W : Walks prog w A.in1 it fp wr n P St) (bt : Nat → Nat → Bool) (cm : CmpOf prog w A.in1 .Gt P bt) (nf : S ∉ fp) (st : St 0 s.heap)
    (hS : s.heap.get? S = some { cls := .type "list", dict := none, data := .seq #[] c, slots := #[] })
    (k : ∀ v g tk, (if n = 0 then v = d else P (argBest bt (n - 1)) v) → (∀ b o, b ∉ wr → b ≠ S → s.heap.get? b = some o → g.get? b = some o) → R (.ok (.ret v)) { s with heap := g, toks := tk }) :
    codeAny (model prog w) A (.builtin "max.loop" ⟨[.ref it, .none, .ref S], [("default", d)]⟩) R s := by
  have nw : S ∉ wr := fun z => nf (W.sub _ z)
  refine zcj ?_
  show wpAny _ A.in1 (seqItems? (.ref S) >>= _) _ _ s; refine wpAny_bind (wpAny_seqItems hS rfl ?_)
  show wpAny _ A.in1 (tryCatch (pyNext (.ref it)) _ >>= _) _ _ s
  by_cases hn : n = 0
  · refine wpAny_bind (wpAny_tryCatch (W.done s _ _ (hn ▸ st) fun g tk kk => ?_))
    show wpAny _ A.in1 (rule _ >>= _) _ _ _; exact wpAny_bind (wpAny_rule (wpAny_pure (k d g tk (by rw [if_pos hn]) fun b o b1 _ q => kk b o b1 q)))
  · refine wpAny_bind (wpAny_tryCatch (W.item 0 s _ _ (Nat.pos_of_ne_zero hn) st fun v g tk pv st' kk => ?_))
    have hS' := kk S _ nw hS
    show wpAny _ A.in1 (updateSeq S (fun _ => #[v, v]) >>= _) _ _ _; refine wpAny_bind (wpAny_updateSeq hS' rfl ?_)
    rw [Yb]; refine wpAny_pure ⟨plainId_quiet F.plain_max_loop _, zo5 W bt cm nf (n - 1) 0 _ v _ (by omega) (W.frame _ _ _ st' fun b bf o q => ?_) pv (Heap.get?_update_self _ hS' rfl) fun v1 g1 tk1 p1 kk1 => ?_⟩
    · exact (Heap.get?_update_other _ _ (fun z : S = b => nf (z ▸ bf))).trans q
    · exact k v1 g1 tk1 (by rw [if_neg hn]; exact p1) fun b o b1 b2 q => kk1 b o b1 b2 ((Heap.get?_update_other _ _ (Ne.symm b2)).trans (kk b o b1 q))
end
theorem zms (x d : Value) : argsOk "max" ⟨[x], [(Str.ofString "default", d)]⟩ := by unfold argsOk; kernel_rfl
theorem ziO {prog : Program} {w : World} {A : Around} {E : Value → Shared → Prop} {s : Shared} {x d : Value} {Q : Value → Shared → Prop}
    (h : wpAny (model prog w) A.in1 (pyIter x) (fun i s₂ => ∃ it fp wr n P St bt, i = .ref it ∧ Walks prog w A.in1 it fp wr n P St ∧ St 0 s₂.heap ∧ (∀ b ∈ fp, b < s₂.heap.objs.size) ∧ CmpOf prog w A.in1 .Gt P bt ∧
      ∀ v g tk, (if n = 0 then v = d else P (argBest bt (n - 1)) v) → (∀ b o, b ∉ wr → s₂.heap.get? b = some o → g.get? b = some o) → Q v { s₂ with heap := g, toks := tk }) E s) :
    wpAny (model prog w) A (call (.builtin "max") [x] [(Str.ofString "default", d)]) Q E s := by
  refine PyProof.Rows.kmk_tree F.kind_max F.plain_max F.entry_max (zms x d) ?_
  show wpAny _ A.in1 (Builtin.Builtins.bindParams "max" ["key", "default"] 0 ⟨[], [(Str.ofString "default", d)]⟩ >>= _) _ _ s
  refine wpAny_bind (wpAny_of_eq (show Builtin.Builtins.bindParams "max" ["key", "default"] 0 ⟨[], [(Str.ofString "default", d)]⟩ = pure [none, some d] from rfl) (wpAny_bind (wpAny_pure ?_)))
  refine wpAny_bind (wpAny_mono h (fun i s₂ h₂ => ?_) fun _ _ e => e)
  obtain ⟨it, fp, wr, n, P, St, bt, rfl, W, st, hfp, cm, k⟩ := h₂
  refine wpAny_bind (wpAny_newObj_type ?_)
  have nf : s₂.heap.objs.size ∉ fp := fun z => Nat.lt_irrefl _ (hfp _ z)
  rw [Yb]
  refine wpAny_pure ⟨plainId_quiet F.plain_max_loop _, zqB W bt cm nf (W.frame _ _ _ st fun b _ o e => Heap.get?_push_of_some _ e) (Heap.get?_push_size _ rfl) fun v g tk p kk => ?_⟩
  exact k v g tk p fun b o b1 e => kk b o b1 (Nat.ne_of_lt (Heap.lt_size e)) (Heap.get?_push_of_some _ e)
end PySem
namespace PySem
open Sem (wp)
theorem zlj {prog : Program} {w : World} {d : Addr} (hd : (d == sysModules) = false) :
    MeetsIn prog w (Builtin.«dict.__len__» ⟨[.ref d], []⟩) (fun _ R s => ∃ o es ep, s.heap.get? d = some o ∧ o.data = .dict es ep ∧ R (.ok (.ret (.int es.size s.toks))) { s with toks := s.toks + 1 }) :=
  .of_wp fun A R s ⟨o, es, ep, ho, hdat, h⟩ => by
    show wpAny _ _ (dictSize d >>= _) _ _ s; unfold dictSize; refine wpAny_bind (wpAny_bind (wpAny_dictEntries ho hdat (wpAny_pure ?_)))
    show wpAny _ _ (Builtin.Dict.pendingCount d >>= _) _ _ s; refine wpAny_bind (wpAny_pendingCount_other hd (wpAny_ret_mkInt ?_))
    simpa using h
theorem zgh {prog : Program} {w : World} {A : Around} {E : Value → Shared → Prop} {s : Shared} {d : Addr} {o : Obj} {es : Array DictEntry} {ep : Nat} {Q : Value → Shared → Prop} (hd : (d == sysModules) = false) (ho : s.heap.get? d = some o) (hc : o.cls = .type "dict") (hdat : o.data = .dict es ep) (hz : (es.size : Int) < 2 ^ 63)
    (h : Q (.int es.size (s.toks + 1)) { s with toks := s.toks + 1 + 1 }) : wpAny (model prog w) A (call (.builtin "len") [.ref d]) Q E s := by
  have ty : s.TypeIs (.ref d) "dict" := ⟨o, ho, hc⟩
  refine Calls.call_function_entry kind_len plain_len entry_len (args_len1 _) ?_
  unfold Builtin.«len»
  refine wpAny_bind (m := oneArg "len" _) (wpAny_pure (wpAny_bind (m := callSpecial? (.ref d) (Str.ofString "__len__")) (wpAny_callSpecial?_slot (name := Str.ofString "__len__") ty F.slot_dict_len (call_meetsIn F.slot_dict_len ty F.entry_dict_len (F.args_dict_len_1 _) (zlj hd) ⟨o, es, ep, ho, hdat, ?_⟩))))
  show wpAny _ _ _ _ _ { s with toks := s.toks + 1 }; refine wpAny_bind (wpAny_holding (wpAny_pure (wpAny_bind (wpAny_letGo ?_))))
  show wpAny _ _ (if ((es.size : Nat) : Int) < 0 then _ else _) _ _ _; rw [if_neg (by omega)]
  show wpAny _ _ (if ((es.size : Nat) : Int) ≥ 2 ^ 63 then _ else _) _ _ _; rw [if_neg (by omega)]
  exact wpAny_bind (wpAny_mkInt (wpAny_pure ⟨_, rfl, h⟩))
end PySem
namespace L2
open PySem PySem.Spec PyProof.Rows
section
variable {X : Cx} {e de : Expr} {p pos kp : Pos} {t : TA} {td : TE}
noncomputable def zvf (K : PySem.W.Frag) (t : TA) (td : TE) : TE := fun σ H Q => t σ H fun vs H1 => td σ H1 fun y H2 => ∃ (a : Addr) (ns : List Int) (k : Int), vs = [.ref a] ∧ y = .int k ∧ SqL K H2 a (ns.map V.int) ∧ Q (.int (if ns = [] then k else Dl.maxL ns)) H2
theorem zrM (hc : X.calm = true) (hg : Gl X "max") (hm : X.mg "max" = none) (hv : bootBuiltins "max" = some (.builtin "max")) (ha : PA X [e] t) (hd : PE X de td) (he : backTo pos (starEach [e] X.env) = (false, eval e X.env) :: backTo pos (starEach [] X.env) := by rfl) (hpl : (backTo pos (starEach [e] X.env)).any (·.1) = false := by rfl) :
    PE X (.Call (.Name "max" p) [e] [⟨some "default", de, kp⟩] pos) (zvf X.K t td) := by
  intro pins s σ H Q I h
  refine wpAny_Call_Name_kw (Vk I hg hm hv ?_ (by decide) (by decide))
  refine PyProof.Rows.callWith_kw (thn (ha pos pins s σ H _ I h) fun us s1 ⟨vs, H1, I1, r1, q1⟩ => PyProof.Rows.kws_cons (thn (hd pins s1 σ H1 _ I1 q1) fun ud s2 ⟨y, H2, I2, r2, q2⟩ => PyProof.Rows.kws_nil ?_)) he hpl
  obtain ⟨a, ns, k, rfl, rfl, hq, q⟩ := q2
  obtain ⟨u, rfl, ru⟩ := zcK r1
  cases ru
  obtain ⟨tk0, rfl⟩ := r2
  letI : Dl.KK := ⟨X.K⟩
  refine ziO (Dl.seq_walk I2 (I2.ok.hd hc) (.inl hq) fun it its fp wr St s₂ rv W st fpl back => ?_)
  have hl := rv.length
  rw [List.length_map] at hl
  refine ⟨it, fp, wr, _, _, St, fun i j => decide (ns.getD j 0 < ns.getD i 0), rfl, W, st, fpl, fun i j vi vj s Q E hi hj hQ => ?_, fun v h' tk hv kk => ?_⟩
  · obtain ⟨t1, rfl⟩ := Dl.vals_int rv hi
    obtain ⟨t2, rfl⟩ := Dl.vals_int rv hj
    exact PyProof.Rows.gt_int hQ
  · by_cases hn : ns = []
    · subst hn
      have h0 : its.length = 0 := hl.symm
      rw [if_pos h0] at hv
      subst hv
      exact ⟨.int k, H2, back h' tk kk, ⟨tk0, rfl⟩, by rw [if_pos rfl] at q; exact q⟩
    · have hpos : 0 < ns.length := List.length_pos_iff.mpr hn
      rw [if_neg (by omega)] at hv
      obtain ⟨t, rfl⟩ := Dl.vals_int rv hv
      rw [if_neg hn] at q
      refine ⟨.int (Dl.maxL ns), H2, back h' tk kk, ⟨t, ?_⟩, q⟩
      have key := Dl.best_ge (fun i => ns.getD i 0) (its.length - 1)
      have hb : argBest (fun i j => decide (ns.getD j 0 < ns.getD i 0)) (its.length - 1) < ns.length := by
        have := (key 0 (Nat.zero_le _)).2
        omega
      rw [Dl.max_is (m := ns.getD (argBest (fun i j => decide (ns.getD j 0 < ns.getD i 0)) (its.length - 1)) 0) (Dl.getD_mem hb)]
      intro x hx
      obtain ⟨j, hj, rfl⟩ := List.getElem_of_mem hx
      have := (key j (by omega)).1
      rw [← Dl.getD_at hj]
      exact this
end
noncomputable def ztC : List V → Hp → VK → Prop := fun vs H Q => ∃ (a : Addr) (kvs : List (List Key × V)), vs = [.ref a] ∧ Rd H a (.dT kvs) ∧ Q (.int kvs.length) H
theorem zoE {X : Cx} : VH X (.builtin "len") ztC := by
  intro pins s σ H vs us Q I r h
  obtain ⟨a, kvs, rfl, hr, q⟩ := h
  obtain ⟨u, rfl, ru⟩ := zcK r
  cases ru
  obtain ⟨hz, hs, xs, kt, o, es, ep, ho, hx, hdat, he, _⟩ := zrt I.hok hr
  have hl : es.size = kvs.length := (size_of_entries he).trans kt.length.symm
  have h63 := zb6
  refine zgh hs ho hx.1 hdat (by omega) ⟨.int kvs.length, H, I.tok _, ⟨_, by rw [hl]⟩, q⟩
end L2
namespace Dl
open PySem L2
variable [KK]
section
variable {X : Cx} {e de : Expr} {p pos kp : Pos}
noncomputable def zr5 : D → D → Option D
  | .lst ds, .int k => (zuo ds).map fun ns => .int (if ns = [] then k else maxL ns)
  | _, _ => none
theorem zr7 {f h : Ev → Option D} (hc : X.calm = true) (hg : Gl X "max") (hm : X.mg "max" = none) (ha : ED X e f) (hd : ED X de h) (hs : starEach [e] X.env = (false, eval e X.env) :: starEach [] X.env := by rfl) (he : backTo pos (starEach [e] X.env) = (false, eval e X.env) :: backTo pos (starEach [] X.env) := by rfl) (hpl : (backTo pos (starEach [e] X.env)).any (·.1) = false := by rfl) :
    ED X (.Call (.Name "max" p) [e] [⟨some "default", de, kp⟩] pos) (zH zr5 f h) := by
  obtain ⟨ta, pa, ra⟩ := ha
  obtain ⟨td, pd, rd⟩ := hd
  refine ⟨_, zrM hc hg hm zop (zbm pa zle hs) pd he hpl, fun σ ρ F H z Q s va e q => ?_⟩
  obtain ⟨d, e1, e⟩ := Option.bind_eq_some_iff.mp e
  obtain ⟨k, e2, e3⟩ := Option.bind_eq_some_iff.mp e
  refine ra σ ρ F H d _ s va e1 fun F1 H1 v g1 a1 => ?_
  refine rd σ ρ F1 H1 k _ g1.fh (va.mono g1.ff) e2 fun F2 H2 y g2 a2 => ?_
  unfold zr5 at e3
  split at e3 <;> try cases e3
  obtain ⟨ns, hn, rfl⟩ := Option.map_eq_some_iff.mp e3
  cases zlx hn
  obtain ⟨a, xs, rfl, hx, al⟩ := (a1.mono g2.ff).lst_inv
  cases al.of_ints
  exact ⟨a, ns, _, rfl, a2.int_inv, SqL.of (g2.fh _ _ hx), q F2 H2 _ (g1.trans g2) .int⟩
noncomputable def zoO : List D → Option D
  | [.dct _ true ks _] => some (.int ks.length)
  | _ => none
theorem zqh : CaD ztC zoO := by
  intro F H vs ds z Q s al e q
  unfold zoO at e
  split at e <;> cases e
  obtain ⟨x, r, rfl, ax, ar⟩ := al.cons_inv
  cases ar.nil_inv
  unfold At at ax
  obtain ⟨a, xs, rfl, ⟨u, hu, hz⟩, _⟩ := ax
  obtain ⟨kvs, rfl, hk, _⟩ := hu
  have hr : Rd H a (.dT kvs) := by
    split at hz
    · obtain ⟨ob, hz⟩ := hz
      exact .inr ⟨ob, s _ _ hz⟩
    · exact .inl (s _ _ hz)
  exact ⟨a, kvs, rfl, hr, by rw [show (kvs.length : Int) = ((kvs.map (·.1)).length : Nat) by rw [List.length_map], hk]; exact q F H _ (.refl s) .int⟩
end
end Dl
namespace Mz
open PySem Dl
noncomputable abbrev Tie := Int × Int
noncomputable def ltP (s t : Tie) : Prop := s.1 < t.1 ∨ (s.1 = t.1 ∧ s.2 < t.2)
noncomputable instance (s t : Tie) : Decidable (ltP s t) := by unfold ltP; infer_instance
end Mz
namespace Mz
open Dl
end Mz
namespace Mz
open Dl
theorem VP {P : Nat → Prop} : ∀ k, P k → ∃ j, P j ∧ ∀ i, P i → j ≤ i := by
  intro k
  induction k using Nat.strongRecOn with
  | _ k ih =>
    intro h
    by_cases c : ∃ i, i < k ∧ P i
    · obtain ⟨i, hi, h2⟩ := c
      exact ih i hi h2
    · exact ⟨k, h, fun i hi => Nat.le_of_not_lt fun z => c ⟨i, z, hi⟩⟩
theorem ztX {n : Nat} {i : Int} (h0 : 0 ≤ i) (h1 : i < n) : L2.ixN n i = some i.toNat := by
  unfold L2.ixN
  rw [if_pos h0, if_pos h1]
theorem ztm {α : Type} {xs : List α} {i : Int} {x : α} (h0 : 0 ≤ i) (h : xs[i.toNat]? = some x) : L2.atI xs i = some x := by
  have := (List.getElem?_eq_some_iff.mp h).1
  unfold L2.atI
  rw [ztX h0 (by omega)]
  exact h
theorem zcc {m : Bool} {i : Nat} {f : Ev → Option D} {ρ ρ' : SE} {d : D} (h : vEv m f ρ = some d) (h2 : ρ.set i (.v d) = ρ' := by rfl) : zbR m i f ρ = .nx ρ' := by
  unfold zbR
  rw [h, ← h2]
theorem zm4 {f : Ev → Option D} {ρ : SE} {d : D} (h : f (visG ρ) = some d) : znI f ρ = .nx ρ := by
  unfold znI
  rw [h]
theorem zlF {f : Ev → Option D} {ρ : SE} {d : D} (h : f (visG ρ) = some d) : yT f ρ = .rt d := by
  unfold yT
  rw [h]
theorem zr0 {i : Nat} {f : Ev → Option (List D)} {ρ ρ' : SE} {ds : List D} (h : f (visF ρ) = some ds) (h2 : ρ.set i (.o ds) = ρ' := by rfl) : zoi i f ρ = .nx ρ' := by
  unfold zoi
  rw [h, ← h2]
theorem zsB {a b : Int} : neD (.int a) (.int b) = some (.bl (!decide (a = b))) := rfl
theorem zqr {a b : Int} : VI (.int a) (.int b) = some (.bl (decide (a = b))) := rfl
theorem zr2 {a b : Bool} : VI (.bl a) (.bl b) = some (.bl (decide (a = b))) := rfl
theorem zqy {a b : PySem.Str} : VI (.str a) (.str b) = some (.bl (decide (a = b))) := rfl
theorem zqg {a b : Int} : zi8 (.int a) (.int b) = some (.int (a + b)) := rfl
end Mz
namespace Mz
open Dl
section
variable {ρ : Ev} {f g h : Ev → Option D} {a : Ev → Option (List D)} {t u : Ev → Option Bool} {d e x y z : D} {ds es : List D} {b c : Bool}
theorem zo : zC ρ = some [] := rfl
theorem zb (h1 : f ρ = some d) (h2 : a ρ = some ds) : zg f a ρ = some (d :: ds) := by unfold zg; rw [h1, h2]; rfl
theorem zf {n : Nat} {p : List D → Option D} (h1 : a ρ = some ds) (h2 : p ds = some d) (hl : ds.length = n := by rfl) : zK n p a ρ = some d := by
  unfold zK
  rw [h1, Option.bind_some, if_pos hl, h2]
theorem zbA {k : D → D → Option D} (h1 : f ρ = some x) (h2 : g ρ = some y) (h3 : k x y = some z) : zH k f g ρ = some z := by unfold zH; rw [h1, h2]; exact h3
theorem zts (h1 : a ρ = some ds) : zbf a ρ = some (.lst ds) := by unfold zbf; rw [h1]; rfl
theorem zqO {k : List D → Option D} (h1 : a ρ = some ds) (h2 : k ds = some d) : eFn k a ρ = some d := by unfold eFn; rw [h1]; exact h2
theorem ztb (h1 : f ρ = some (.bl b)) (h2 : g ρ = some (.bl c)) : zjZ f g ρ = some (.bl (b && c)) := by unfold zjZ; rw [h1, h2]; cases b <;> rfl
theorem zW (h1 : f ρ = some (.bl b)) : tOf f ρ = some b := by unfold tOf; rw [h1]; rfl
theorem zL (h1 : t ρ = some b) : xQ t ρ = some (!b) := by unfold xQ; rw [h1]; rfl
theorem yB (h1 : t ρ = some false) : zaZ t u ρ = some false := by unfold zaZ; rw [h1]; rfl
theorem zS (h1 : t ρ = some true) (h2 : u ρ = some c) : zaZ t u ρ = some c := by unfold zaZ; rw [h1]; exact h2
end
end Mz
namespace Mz
open PySem L2 Dl
noncomputable def zaV : zqv := [("row", [1, 8]), ("ring", [3, 8]), ("cube", [0, 3]), ("full", [1, 8]), ("star", [1, 7])]
noncomputable def top (i : Nat) : Stmt := PySem.Challenge.pw_twoforone_k62_needs_that_are_known.main.body.getD i (.Pass ⟨0, 0, 0, 0⟩)
noncomputable abbrev xq : Stmt := top 11
noncomputable abbrev zY : Stmt := top 12
noncomputable abbrev yj : Stmt := top 13
noncomputable abbrev zX : Stmt := top 14
noncomputable abbrev yi : Stmt := top 15
noncomputable abbrev xv : Stmt := top 16
noncomputable abbrev xW : Stmt := top 18
noncomputable abbrev xu : Stmt := top 19
noncomputable abbrev wb : Stmt := top 20
noncomputable abbrev yI : Stmt := top 21
noncomputable abbrev yl : Stmt := top 22
noncomputable abbrev yK : Stmt := top 23
noncomputable abbrev yU : Stmt := top 24
noncomputable abbrev y6 : Stmt := top 25
noncomputable abbrev we : Stmt := top 26
noncomputable abbrev y8 : Stmt := top 27
noncomputable abbrev xf : Stmt := top 29
noncomputable abbrev xX : Stmt := top 30
noncomputable abbrev zZ : Stmt := top 34
noncomputable abbrev yh : Stmt := top 35
noncomputable abbrev Vf : Stmt := top 36
noncomputable abbrev xl : Stmt := top 37
noncomputable abbrev yJ : Stmt := top 38
noncomputable abbrev yg : Stmt := top 39
noncomputable abbrev yH : Stmt := top 40
noncomputable abbrev zbe : Stmt := top 41
noncomputable abbrev xm : Stmt := top 42
noncomputable abbrev xV : Stmt := top 45
noncomputable abbrev xb : Stmt := top 46
noncomputable abbrev xc : Stmt := top 47
noncomputable abbrev xp : Stmt := top 48
noncomputable abbrev xT : Stmt := top 49
noncomputable abbrev yu : Stmt := top 51
noncomputable abbrev xa : Stmt := top 52
noncomputable abbrev zcN : Stmt := top 53
theorem zlM : zF ["thing"] ["thing"] (zi xq) := ⟨rfl, rfl, rfl, by decide +kernel, rfl, by decide +kernel, by decide +kernel⟩
theorem zaG : zF ["thing", "least", "most"] ["thing", "least", "most"] (zi zY) := ⟨rfl, rfl, rfl, by decide +kernel, rfl, by decide +kernel, by decide +kernel⟩
theorem zbg : zF ["thing", "least", "most"] ["thing", "least", "most"] (zi yj) := ⟨rfl, rfl, rfl, by decide +kernel, rfl, by decide +kernel, by decide +kernel⟩
theorem za5 : zF ["many", "most"] ["many", "most"] (zi zX) := ⟨rfl, rfl, rfl, by decide +kernel, rfl, by decide +kernel, by decide +kernel⟩
theorem zbr : zF ["thing"] ["thing"] (zi yi) := ⟨rfl, rfl, rfl, by decide +kernel, rfl, by decide +kernel, by decide +kernel⟩
theorem zmc : zF ["many", "thing"] ["many", "thing"] (zi xv) := ⟨rfl, rfl, rfl, by decide +kernel, rfl, by decide +kernel, by decide +kernel⟩
theorem znK : zF ["many", "thing"] ["many", "thing"] (zi xW) := ⟨rfl, rfl, rfl, by decide +kernel, rfl, by decide +kernel, by decide +kernel⟩
theorem Vl : zF ["many", "thing", "at", "tie"] ["many", "thing"] (zi xu) := ⟨rfl, rfl, rfl, by decide +kernel, rfl, by decide +kernel, by decide +kernel⟩
theorem zpj : zF ["thing"] ["thing"] (zi wb) := ⟨rfl, rfl, rfl, by decide +kernel, rfl, by decide +kernel, by decide +kernel⟩
theorem zcJ : zF ["thing"] ["thing"] (zi yI) := ⟨rfl, rfl, rfl, by decide +kernel, rfl, by decide +kernel, by decide +kernel⟩
theorem zbN : zF ["web", "thing"] ["web", "thing"] (zi yl) := ⟨rfl, rfl, rfl, by decide +kernel, rfl, by decide +kernel, by decide +kernel⟩
theorem zcH : zF ["one", "other"] ["one", "other"] (zi yK) := ⟨rfl, rfl, rfl, by decide +kernel, rfl, by decide +kernel, by decide +kernel⟩
theorem zd0 : zF ["web", "place"] ["web", "place"] (zi yU) := ⟨rfl, rfl, rfl, by decide +kernel, rfl, by decide +kernel, by decide +kernel⟩
theorem yQ : zF ["web", "start", "away", "rim", "further", "place", "other"] ["web", "start"] (zi y6) := ⟨rfl, rfl, rfl, by decide +kernel, rfl, by decide +kernel, by decide +kernel⟩
theorem WC : zF ["web", "found", "start", "away", "piece"] ["web"] (zi we) := ⟨rfl, rfl, rfl, by decide +kernel, rfl, by decide +kernel, by decide +kernel⟩
theorem zj3 : zF ["web"] ["web"] (zi y8) := ⟨rfl, rfl, rfl, by decide +kernel, rfl, by decide +kernel, by decide +kernel⟩
theorem WT : zF ["web", "found", "place"] ["web"] (zi xf) := ⟨rfl, rfl, rfl, by decide +kernel, rfl, by decide +kernel, by decide +kernel⟩
theorem zcM : zF ["heap", "step", "stones"] ["heap", "step"] (zi xX) := ⟨rfl, rfl, rfl, by decide +kernel, rfl, by decide +kernel, by decide +kernel⟩
theorem zaO : zF ["web"] ["web"] (zi zZ) := ⟨rfl, rfl, rfl, by decide +kernel, rfl, by decide +kernel, by decide +kernel⟩
theorem zbp : zF ["web", "place", "m"] ["web", "place", "m"] (zi yh) := ⟨rfl, rfl, rfl, by decide +kernel, rfl, by decide +kernel, by decide +kernel⟩
theorem znb : zF ["heap", "last"] ["heap"] (zi Vf) := ⟨rfl, rfl, rfl, by decide +kernel, rfl, by decide +kernel, by decide +kernel⟩
theorem zco : zF ["heap", "steps", "level", "step"] ["heap", "steps", "level"] (zi xl) := ⟨rfl, rfl, rfl, by decide +kernel, rfl, by decide +kernel, by decide +kernel⟩
theorem xx : zF ["level", "steps", "place", "m", "above", "heap", "more"] ["level", "steps", "place", "m"] (zi yJ) := ⟨rfl, rfl, rfl, by decide +kernel, rfl, by decide +kernel, by decide +kernel⟩
theorem yz : zF ["web", "place", "m", "most", "steps", "levels", "level"] ["web", "place", "m", "most"] (zi yg) := ⟨rfl, rfl, rfl, by decide +kernel, rfl, by decide +kernel, by decide +kernel⟩
theorem zcG : zF ["web", "place", "m"] ["web", "place", "m"] (zi yH) := ⟨rfl, rfl, rfl, by decide +kernel, rfl, by decide +kernel, by decide +kernel⟩
theorem zsn : zF ["web", "place", "m"] ["web", "place", "m"] (zi zbe) := ⟨rfl, rfl, rfl, by decide +kernel, rfl, by decide +kernel, by decide +kernel⟩
theorem VB : zF ["web", "m", "needs", "greatest"] ["web", "m"] (zi xm) := ⟨rfl, rfl, rfl, by decide +kernel, rfl, by decide +kernel, by decide +kernel⟩
theorem znY : zF ["thing"] ["thing"] (zi xV) := ⟨rfl, rfl, rfl, by decide +kernel, rfl, by decide +kernel, by decide +kernel⟩
theorem zbw : zF ["thing", "word"] ["thing"] (zi xb) := ⟨rfl, rfl, rfl, by decide +kernel, rfl, by decide +kernel, by decide +kernel⟩
theorem zkz : zF ["word", "size"] ["word", "size"] (zi xc) := ⟨rfl, rfl, rfl, by decide +kernel, rfl, by decide +kernel, by decide +kernel⟩
theorem zly : zF ["word", "size", "one", "other"] ["word", "size", "one", "other"] (zi xp) := ⟨rfl, rfl, rfl, by decide +kernel, rfl, by decide +kernel, by decide +kernel⟩
theorem xU : zF ["kind", "word", "size", "many", "ties", "one"] ["kind"] (zi xT) := ⟨rfl, rfl, rfl, by decide +kernel, rfl, by decide +kernel, by decide +kernel⟩
theorem zcg : zF ["script", "k"] ["script", "k"] (zi yu) := ⟨rfl, rfl, rfl, by decide +kernel, rfl, by decide +kernel, by decide +kernel⟩
theorem Wk : zF ["found", "due", "one", "other"] ["found", "due"] (zi xa) := ⟨rfl, rfl, rfl, by decide +kernel, rfl, by decide +kernel, by decide +kernel⟩
theorem zan : zF ["script", "m", "n", "twos", "due", "d"] ["script"] (zi zcN) := ⟨rfl, rfl, rfl, by decide +kernel, rfl, by decide +kernel, by decide +kernel⟩
set_option genInjectivity false in
set_option genSizeOf false in
set_option genCtorIdx false in
structure Adr where
  f_is_whole : Addr
  e_is_whole : FuncData
  f_is_whole_within : Addr
  e_is_whole_within : FuncData
  f_must_be_within : Addr
  e_must_be_within : FuncData
  f_must_be_at_most : Addr
  e_must_be_at_most : FuncData
  f_is_place_count : Addr
  e_is_place_count : FuncData
  f_is_place : Addr
  e_is_place : FuncData
  f_is_pair : Addr
  e_is_pair : FuncData
  f_are_ties : Addr
  e_are_ties : FuncData
  f_is_web : Addr
  e_is_web : FuncData
  f_must_be_web : Addr
  e_must_be_web : FuncData
  f_must_be_place : Addr
  e_must_be_place : FuncData
  f_tie_between : Addr
  e_tie_between : FuncData
  f_neighbours : Addr
  e_neighbours : FuncData
  f_ties_away : Addr
  e_ties_away : FuncData
  f_pieces : Addr
  e_pieces : FuncData
  f_is_joined : Addr
  e_is_joined : FuncData
  f_all_steps : Addr
  e_all_steps : FuncData
  f_stepped : Addr
  e_stepped : FuncData
  f_must_be_counted : Addr
  e_must_be_counted : FuncData
  f_must_be_wanted : Addr
  e_must_be_wanted : FuncData
  f_grown : Addr
  e_grown : FuncData
  f_leads_to : Addr
  e_leads_to : FuncData
  f_level_above : Addr
  e_level_above : FuncData
  f_failing_levels : Addr
  e_failing_levels : FuncData
  f_all_failing : Addr
  e_all_failing : FuncData
  f_need : Addr
  e_need : FuncData
  f_need_all : Addr
  e_need_all : FuncData
  f_is_over : Addr
  e_is_over : FuncData
  f_kind_good : Addr
  e_kind_good : FuncData
  f_places_of : Addr
  e_places_of : FuncData
  f_are_tied : Addr
  e_are_tied : FuncData
  f_web_for : Addr
  e_web_for : FuncData
  f__law_cell_at : Addr
  e__law_cell_at : FuncData
  f__law_same : Addr
  e__law_same : FuncData
  f_law : Addr
  e_law : FuncData
  t_MOST_PLACES : Tok
  t_MOST_STONES : Tok
  t_MOST_WANTED : Tok
  t_MOST_COUNTED : Tok
  s_SIZES : Addr
set_option genInjectivity false in
set_option genSizeOf false in
set_option genCtorIdx false in
structure Txt (K : PySem.W.Frag) (mg : Str → Option Value) (ad : Adr) : Prop where
  d_is_whole : Def K mg "is_whole" xq ["thing"] ad.f_is_whole ad.e_is_whole
  d_is_whole_within : Def K mg "is_whole_within" zY ["thing", "least", "most"] ad.f_is_whole_within ad.e_is_whole_within
  d_must_be_within : Def K mg "must_be_within" yj ["thing", "least", "most"] ad.f_must_be_within ad.e_must_be_within
  d_must_be_at_most : Def K mg "must_be_at_most" zX ["many", "most"] ad.f_must_be_at_most ad.e_must_be_at_most
  d_is_place_count : Def K mg "is_place_count" yi ["thing"] ad.f_is_place_count ad.e_is_place_count
  d_is_place : Def K mg "is_place" xv ["many", "thing"] ad.f_is_place ad.e_is_place
  d_is_pair : Def K mg "is_pair" xW ["many", "thing"] ad.f_is_pair ad.e_is_pair
  d_are_ties : Def K mg "are_ties" xu ["many", "thing"] ad.f_are_ties ad.e_are_ties
  d_is_web : Def K mg "is_web" wb ["thing"] ad.f_is_web ad.e_is_web
  d_must_be_web : Def K mg "must_be_web" yI ["thing"] ad.f_must_be_web ad.e_must_be_web
  d_must_be_place : Def K mg "must_be_place" yl ["web", "thing"] ad.f_must_be_place ad.e_must_be_place
  d_tie_between : Def K mg "tie_between" yK ["one", "other"] ad.f_tie_between ad.e_tie_between
  d_neighbours : Def K mg "neighbours" yU ["web", "place"] ad.f_neighbours ad.e_neighbours
  d_ties_away : Def K mg "ties_away" y6 ["web", "start"] ad.f_ties_away ad.e_ties_away
  d_pieces : Def K mg "pieces" we ["web"] ad.f_pieces ad.e_pieces
  d_is_joined : Def K mg "is_joined" y8 ["web"] ad.f_is_joined ad.e_is_joined
  d_all_steps : Def K mg "all_steps" xf ["web"] ad.f_all_steps ad.e_all_steps
  d_stepped : Def K mg "stepped" xX ["heap", "step"] ad.f_stepped ad.e_stepped
  d_must_be_counted : Def K mg "must_be_counted" zZ ["web"] ad.f_must_be_counted ad.e_must_be_counted
  d_must_be_wanted : Def K mg "must_be_wanted" yh ["web", "place", "m"] ad.f_must_be_wanted ad.e_must_be_wanted
  d_grown : Def K mg "grown" Vf ["heap"] ad.f_grown ad.e_grown
  d_leads_to : Def K mg "leads_to" xl ["heap", "steps", "level"] ad.f_leads_to ad.e_leads_to
  d_level_above : Def K mg "level_above" yJ ["level", "steps", "place", "m"] ad.f_level_above ad.e_level_above
  d_failing_levels : Def K mg "failing_levels" yg ["web", "place", "m", "most"] ad.f_failing_levels ad.e_failing_levels
  d_all_failing : Def K mg "all_failing" yH ["web", "place", "m"] ad.f_all_failing ad.e_all_failing
  d_need : Def K mg "need" zbe ["web", "place", "m"] ad.f_need ad.e_need
  d_need_all : Def K mg "need_all" xm ["web", "m"] ad.f_need_all ad.e_need_all
  d_is_over : Def K mg "is_over" xV ["thing"] ad.f_is_over ad.e_is_over
  d_kind_good : Def K mg "kind_good" xb ["thing"] ad.f_kind_good ad.e_kind_good
  d_places_of : Def K mg "places_of" xc ["word", "size"] ad.f_places_of ad.e_places_of
  d_are_tied : Def K mg "are_tied" xp ["word", "size", "one", "other"] ad.f_are_tied ad.e_are_tied
  d_web_for : Def K mg "web_for" xT ["kind"] ad.f_web_for ad.e_web_for
  d__law_cell_at : Def K mg "_law_cell_at" yu ["script", "k"] ad.f__law_cell_at ad.e__law_cell_at
  d__law_same : Def K mg "_law_same" xa ["found", "due"] ad.f__law_same ad.e__law_same
  d_law : Def K mg "law" zcN ["script"] ad.f_law ad.e_law
  g_MOST_PLACES : mg "MOST_PLACES" = some (Value.int 8 ad.t_MOST_PLACES)
  g_MOST_STONES : mg "MOST_STONES" = some (Value.int 300 ad.t_MOST_STONES)
  g_MOST_WANTED : mg "MOST_WANTED" = some (Value.int 3 ad.t_MOST_WANTED)
  g_MOST_COUNTED : mg "MOST_COUNTED" = some (Value.int 6 ad.t_MOST_COUNTED)
  z_all : mg "all" = none
  z_bool : mg "bool" = none
  z_enumerate : mg "enumerate" = none
  z_int : mg "int" = none
  z_isinstance : mg "isinstance" = none
  z_len : mg "len" = none
  z_list : mg "list" = none
  z_max : mg "max" = none
  z_min : mg "min" = none
  z_range : mg "range" = none
  z_str : mg "str" = none
  z_tuple : mg "tuple" = none
  z_zip : mg "zip" = none
  g_SIZES : mg "SIZES" = some (Value.ref ad.s_SIZES)
  b_SIZES : ∀ h : Heap, K.In h → PyProof.Rows.KTD.TextTab h ad.s_SIZES (zjr zaV)
theorem zu7 : (["other", "web", "place"] : List Str).Nodup := by decide +kernel
theorem zvh : (["place", "web", "found", "start", "away", "piece"] : List Str).Nodup := by decide +kernel
theorem zuE : (["other", "web", "found", "place"] : List Str).Nodup := by decide +kernel
theorem zvo : (["place", "heap", "last"] : List Str).Nodup := by decide +kernel
theorem zty : (["place", "stones", "heap", "last"] : List Str).Nodup := by decide +kernel
theorem zud : (["place", "web", "m", "needs", "greatest"] : List Str).Nodup := by decide +kernel
theorem zuy : (["place", "thing"] : List Str).Nodup := by decide +kernel
theorem zuJ : (["other", "kind", "word", "size", "many", "ties", "one"] : List Str).Nodup := by decide +kernel
section
variable {P : Program} {w : World} {K : PySem.W.Frag} {mg : Str → Option Value} {base : Heap} {ad : Adr}
noncomputable def xw : SE → Ctl :=
  (yr (sIf (tOf (zH ltD (zp 1) (eFn zi9 (zg (zp 0) zC)))) (yT (zH ixD (zp 0) (zp 1))) yk)
    (yT (eC (.int 0))))
noncomputable def yX : List D → Option D := fnD 2 xw
theorem zn1 (ns : List Int) : ∃ c : Int, yX [.scr ns, .int 0] = some (.int c) := by
  cases ns with
  | nil => exact ⟨0, rfl⟩
  | cons n ns =>
    refine ⟨n, ?_⟩
    have e : atI (n :: ns) 0 = some n := ztm (Int.le_refl _) rfl
    simp [yX, xw, fnD, yr, yT, zvm, sIf, zbR, znI, sNo, yk, sAsg, zoi, zrf, zub, zsg, vEv, visF, visG, Sl.f, Sl.g, zp, eC, zH, zjZ, eOr, zup, eIf, eUn, negD, XS, zbf, XQ, zg, zC, zK, eFn, fFn, tOf, zaZ, zqW, xQ, asB, asI, zqg, zpJ, zpT, zuH, ztJ, zsD, zlR, ltD, leD, gtD, geD, zsI, zqr, zr2, zqy, zsB, zsG, zcd, ixD, zi9, x8, isT, eSl, zpX, zp2, znv, zdd, iOf, zlm, zav, zoh, zmS, zll, zm7, zsl, fLC, zj7, zad, zqq, xD, zqm, V0, zra, b1, b2, e]
theorem zcx (T : Txt K mg ad) : xk P w K mg base CX0 1 ad.f__law_cell_at ad.e__law_cell_at ["script", "k"] (@spD ⟨K⟩ 2 yX) := by
  letI : KK := ⟨K⟩
  refine yR (N := ["script", "k"]) (ps := ["script", "k"]) T.d__law_cell_at.fn zcg (g := xw) fun cdv A outer s H E hr => ?_
  unfold xw
  exact (zj (yq (zT zrU yD (zJ _) (zd 1 (pv 1)) (yb zP xi rfl T.z_len xY (zc (zd 0 (pv 0)) zh))) (zl (zB (yf (zd 0 (pv 0)) (zd 1 (pv 1)) (fun _ _ => rfl)))) zD)
      (zl (zB (zm zn))))
end
section
variable {P : Program} {w : World} {K : PySem.W.Frag} {mg : Str → Option Value} {base : Heap} {ad : Adr}
noncomputable def zbt : SE → Ctl :=
  (yT (zjZ (eUn (x8 .int) (zp 0)) (zup (eUn (x8 .bool) (zp 0)))))
noncomputable def zcT : List D → Option D := fnD 1 zbt
theorem zl1 (T : Txt K mg ad) : xk P w K mg base CX0 1 ad.f_is_whole ad.e_is_whole ["thing"] (@spD ⟨K⟩ 1 zcT) := by
  letI : KK := ⟨K⟩
  refine yR (N := ["thing"]) (ps := ["thing"]) T.d_is_whole.fn zlM (g := zbt) fun cdv A outer s H E hr => ?_
  unfold zbt
  exact (zl (zB (XO (zR .int rfl T.z_isinstance (zd 0 (pv 0)) (yC (v := .ty "int") rfl T.z_int znj rfl)) (XT (zqT (zR .bool rfl T.z_isinstance (zd 0 (pv 0)) (yC (v := .ty "bool") rfl T.z_bool zc5 rfl)))))))
noncomputable def xt : SE → Ctl :=
  (yT (zjZ (zK 1 zcT (zg (zp 0) zC)) (znv leD leD (zp 1) (zp 0) (zp 2))))
noncomputable def yA : List D → Option D := fnD 3 xt
theorem yN (T : Txt K mg ad) : xk P w K mg base CX0 2 ad.f_is_whole_within ad.e_is_whole_within ["thing", "least", "most"] (@spD ⟨K⟩ 3 yA) := by
  letI : KK := ⟨K⟩
  have G_is_whole := zl1 (P := P) (w := w) (base := base) T
  refine yR (N := ["thing", "least", "most"]) (ps := ["thing", "least", "most"]) T.d_is_whole_within.fn zaG (g := xt) fun cdv A outer s H E hr => ?_
  unfold xt
  exact (zl (zB (XO (zr (G_is_whole.mono (by decide)) hr rfl T.d_is_whole.at_ T.d_is_whole.kp T.d_is_whole.bd (zc (zd 0 (pv 0)) zh)) (XT (zp0 zpr zpr yD yD (zd 1 (pv 1)) (zd 0 (pv 0)) (zd 2 (pv 2)) (fun a b c => zqH zpr zpr a b c))))))
noncomputable def xL : SE → Ctl :=
  (sIf (xQ (tOf (zK 3 yA (zg (zp 0) (zg (zp 1) (zg (zp 2) zC)))))) sNo yk)
noncomputable def XN : List D → Option D := fnD 3 xL
theorem zbl (T : Txt K mg ad) : xk P w K mg base CX0 3 ad.f_must_be_within ad.e_must_be_within ["thing", "least", "most"] (@spD ⟨K⟩ 3 XN) := by
  letI : KK := ⟨K⟩
  have G_is_whole_within := yN (P := P) (w := w) (base := base) T
  refine yR (N := ["thing", "least", "most"]) (ps := ["thing", "least", "most"]) T.d_must_be_within.fn zbg (g := xL) fun cdv A outer s H E hr => ?_
  unfold xL
  exact (zl (yq (y9 (yE (zr (G_is_whole_within.mono (by decide)) hr rfl T.d_is_whole_within.at_ T.d_is_whole_within.kp T.d_is_whole_within.bd (zc (zd 0 (pv 0)) (zc (zd 1 (pv 1)) (zc (zd 2 (pv 2)) zh)))))) (zl Vd) zD))
noncomputable def xr : SE → Ctl :=
  (sIf (tOf (zH gtD (zp 0) (zp 1))) sNo yk)
noncomputable def x9 : List D → Option D := fnD 2 xr
theorem V4 (T : Txt K mg ad) : xk P w K mg base CX0 1 ad.f_must_be_at_most ad.e_must_be_at_most ["many", "most"] (@spD ⟨K⟩ 2 x9) := by
  letI : KK := ⟨K⟩
  refine yR (N := ["many", "most"]) (ps := ["many", "most"]) T.d_must_be_at_most.fn za5 (g := xr) fun cdv A outer s H E hr => ?_
  unfold xr
  exact (zl (yq (zT zj2 yD (zJ _) (zd 0 (pv 0)) (zd 1 (pv 1))) (zl Vd) zD))
noncomputable def xI : SE → Ctl :=
  (yT (zK 3 yA (zg (zp 0) (zg (eC (.int 1)) (zg (eC (.int 8)) zC)))))
noncomputable def xM : List D → Option D := fnD 1 xI
theorem wc (T : Txt K mg ad) : xk P w K mg base CX0 3 ad.f_is_place_count ad.e_is_place_count ["thing"] (@spD ⟨K⟩ 1 xM) := by
  letI : KK := ⟨K⟩
  have G_is_whole_within := yN (P := P) (w := w) (base := base) T
  refine yR (N := ["thing"]) (ps := ["thing"]) T.d_is_place_count.fn zbr (g := xI) fun cdv A outer s H E hr => ?_
  unfold xI
  exact (zl (zB (zr (G_is_whole_within.mono (by decide)) hr rfl T.d_is_whole_within.at_ T.d_is_whole_within.kp T.d_is_whole_within.bd (zc (zd 0 (pv 0)) (zc (zm zn) (zc (zm (zcu (v := .int 8) rfl T.g_MOST_PLACES ⟨_, rfl⟩)) zh))))))
noncomputable def zbk : SE → Ctl :=
  (yT (zK 3 yA (zg (zp 1) (zg (eC (.int 0)) (zg (zH zpJ (zp 0) (eC (.int 1))) zC)))))
noncomputable def wd : List D → Option D := fnD 2 zbk
theorem Vn (T : Txt K mg ad) : xk P w K mg base CX0 3 ad.f_is_place ad.e_is_place ["many", "thing"] (@spD ⟨K⟩ 2 wd) := by
  letI : KK := ⟨K⟩
  have G_is_whole_within := yN (P := P) (w := w) (base := base) T
  refine yR (N := ["many", "thing"]) (ps := ["many", "thing"]) T.d_is_place.fn zmc (g := zbk) fun cdv A outer s H E hr => ?_
  unfold zbk
  exact (zl (zB (zr (G_is_whole_within.mono (by decide)) hr rfl T.d_is_whole_within.at_ T.d_is_whole_within.kp T.d_is_whole_within.bd (zc (zd 1 (pv 1)) (zc (zm zn) (zc (zbx (zd 0 (pv 0)) (zm zn)) zh))))))
noncomputable def zcs : SE → Ctl :=
  (yr (sIf (zqW (xQ (tOf (eUn (x8 .tuple) (zp 1)))) (tOf (zH neD (eFn zi9 (zg (zp 1) zC)) (eC (.int 2))))) (yT (eC (.bl false))) yk)
    (yT (zjZ (zK 2 wd (zg (zp 0) (zg (zH ixD (zp 1) (eC (.int 0))) zC))) (zjZ (zK 2 wd (zg (zp 0) (zg (zH ixD (zp 1) (eC (.int 1))) zC))) (zH neD (zH ixD (zp 1) (eC (.int 0))) (zH ixD (zp 1) (eC (.int 1))))))))
noncomputable def zjD : List D → Option D := fnD 2 zcs
theorem znU (T : Txt K mg ad) : xk P w K mg base CX0 4 ad.f_is_pair ad.e_is_pair ["many", "thing"] (@spD ⟨K⟩ 2 zjD) := by
  letI : KK := ⟨K⟩
  have G_is_place := Vn (P := P) (w := w) (base := base) T
  refine yR (N := ["many", "thing"]) (ps := ["many", "thing"]) T.d_is_pair.fn znK (g := zcs) fun cdv A outer s H E hr => ?_
  unfold zcs
  exact (zj (yq (znW (zn3 (y9 (yE (zR .tuple rfl T.z_isinstance (zd 1 (pv 1)) (yC (v := .ty "tuple") rfl T.z_tuple xg rfl)))) (zcX (zT zmz zcv (zJ _) (yb zP xi rfl T.z_len xY (zc (zd 1 (pv 1)) zh)) (zm zn))))) (zl (zB (xE xN))) zD)
      (zl (zB (XO (zr (G_is_place.mono (by decide)) hr rfl T.d_is_place.at_ T.d_is_place.kp T.d_is_place.bd (zc (zd 0 (pv 0)) (zc (yf (zd 1 (pv 1)) (zm zn) (fun _ _ => rfl)) zh))) (XO (zr (G_is_place.mono (by decide)) hr rfl T.d_is_place.at_ T.d_is_place.kp T.d_is_place.bd (zc (zd 0 (pv 0)) (zc (yf (zd 1 (pv 1)) (zm zn) (fun _ _ => rfl)) zh))) (XT (xP zmz zcv (zJ _) (yf (zd 1 (pv 1)) (zm zn) (fun _ _ => rfl)) (yf (zd 1 (pv 1)) (zm zn) (fun _ _ => rfl)))))))))
noncomputable def zbM : SE → Ctl :=
  (yr (sIf (zqW (xQ (tOf (zK 2 zjD (zg (zp 0) (zg (zp 3) zC))))) (tOf (zH gtD (zH ixD (zp 3) (eC (.int 0))) (zH ixD (zp 3) (eC (.int 1)))))) (yT (eC (.bl false))) yk)
    (sIf (zaZ (tOf (zH gtD (zp 2) (eC (.int 0)))) (tOf (zH leT (zp 3) (zH ixD (zp 1) (zH zpJ (zp 2) (eC (.int 1))))))) (yT (eC (.bl false))) yk))
noncomputable def zbs : SE → Ctl :=
  (yr (sIf (xQ (tOf (eUn (x8 .tuple) (zp 1)))) (yT (eC (.bl false))) yk)
    (yr (zlm (zm7 (zg (zp 1) zC)) (zqm 2 (V0 (xD 2) (V0 (xD 3) zra))) zbM)
    (yT (eC (.bl true)))))
noncomputable def zcU : List D → Option D := fnD 4 zbs
theorem zlq (T : Txt K mg ad) : xk P w K mg base CX0 5 ad.f_are_ties ad.e_are_ties ["many", "thing"] (@spD ⟨K⟩ 2 zcU) := by
  letI : KK := ⟨K⟩
  have G_is_pair := znU (P := P) (w := w) (base := base) T
  refine yR (N := ["many", "thing", "at", "tie"]) (ps := ["many", "thing"]) T.d_are_ties.fn Vl (g := zbs) fun cdv A outer s H E hr => ?_
  unfold zbs zbM
  exact (zj (yq (y9 (yE (zR .tuple rfl T.z_isinstance (zd 1 (pv 1)) (yC (v := .ty "tuple") rfl T.z_tuple xg rfl)))) (zl (zB (xE xN))) zD)
      (zj (zba PassesOwn.never rfl (zo6 rfl T.z_enumerate zbG (zc (zd 1 (pv 1)) zh)) (znx rfl (x5 (yP (zU (i := 2) Vl.nd rfl (Or.inl rfl))) (x5 (yP (zU (i := 3) Vl.nd rfl (Or.inl rfl))) zhm))) (zj (yq (znW (zn3 (y9 (yE (zr (G_is_pair.mono (by decide)) hr rfl T.d_is_pair.at_ T.d_is_pair.kp T.d_is_pair.bd (zc (zd 0 (pv 0)) (zc (zd 3 (pv 3)) zh))))) (zcX (zT zj2 yD (zJ _) (yf (zd 3 (pv 3)) (zm zn) (fun _ _ => rfl)) (yf (zd 3 (pv 3)) (zm zn) (fun _ _ => rfl)))))) (zl (zB (xE xN))) zD)
      (zl (yq (znW (zcl (zT zj2 yD (zJ _) (zd 2 (pv 2)) (zm zn)) (Vo (zT (zsJ hr.units0) zrj (zJ _) (zd 3 (pv 3)) (yf (zd 1 (pv 1)) (zbx (zd 2 (pv 2)) (zm zn)) (fun _ _ => rfl)))))) (zl (zB (xE xN))) zD))))
      (zl (zB (xE xN)))))
noncomputable def zhG : SE → Ctl :=
  (yr (sIf (zqW (xQ (tOf (eUn (x8 .tuple) (zp 0)))) (tOf (zH neD (eFn zi9 (zg (zp 0) zC)) (eC (.int 2))))) (yT (eC (.bl false))) yk)
    (yT (zjZ (zK 1 xM (zg (zH ixD (zp 0) (eC (.int 0))) zC)) (zK 2 zcU (zg (zH ixD (zp 0) (eC (.int 0))) (zg (zH ixD (zp 0) (eC (.int 1))) zC))))))
noncomputable def zny : List D → Option D := fnD 1 zhG
theorem zos (T : Txt K mg ad) : xk P w K mg base CX0 6 ad.f_is_web ad.e_is_web ["thing"] (@spD ⟨K⟩ 1 zny) := by
  letI : KK := ⟨K⟩
  have G_is_place_count := wc (P := P) (w := w) (base := base) T
  have G_are_ties := zlq (P := P) (w := w) (base := base) T
  refine yR (N := ["thing"]) (ps := ["thing"]) T.d_is_web.fn zpj (g := zhG) fun cdv A outer s H E hr => ?_
  unfold zhG
  exact (zj (yq (znW (zn3 (y9 (yE (zR .tuple rfl T.z_isinstance (zd 0 (pv 0)) (yC (v := .ty "tuple") rfl T.z_tuple xg rfl)))) (zcX (zT zmz zcv (zJ _) (yb zP xi rfl T.z_len xY (zc (zd 0 (pv 0)) zh)) (zm zn))))) (zl (zB (xE xN))) zD)
      (zl (zB (XO (zr (G_is_place_count.mono (by decide)) hr rfl T.d_is_place_count.at_ T.d_is_place_count.kp T.d_is_place_count.bd (zc (yf (zd 0 (pv 0)) (zm zn) (fun _ _ => rfl)) zh)) (XT (zr (G_are_ties.mono (by decide)) hr rfl T.d_are_ties.at_ T.d_are_ties.kp T.d_are_ties.bd (zc (yf (zd 0 (pv 0)) (zm zn) (fun _ _ => rfl)) (zc (yf (zd 0 (pv 0)) (zm zn) (fun _ _ => rfl)) zh))))))))
noncomputable def Zt : SE → Ctl :=
  (sIf (xQ (tOf (zK 1 zny (zg (zp 0) zC)))) sNo yk)
noncomputable def xh : List D → Option D := fnD 1 Zt
theorem x6 (T : Txt K mg ad) : xk P w K mg base CX0 7 ad.f_must_be_web ad.e_must_be_web ["thing"] (@spD ⟨K⟩ 1 xh) := by
  letI : KK := ⟨K⟩
  have G_is_web := zos (P := P) (w := w) (base := base) T
  refine yR (N := ["thing"]) (ps := ["thing"]) T.d_must_be_web.fn zcJ (g := Zt) fun cdv A outer s H E hr => ?_
  unfold Zt
  exact (zl (yq (y9 (yE (zr (G_is_web.mono (by decide)) hr rfl T.d_is_web.at_ T.d_is_web.kp T.d_is_web.bd (zc (zd 0 (pv 0)) zh)))) (zl Vd) zD))
noncomputable def xZ : SE → Ctl :=
  (sIf (xQ (tOf (zK 2 wd (zg (zH ixD (zp 0) (eC (.int 0))) (zg (zp 1) zC))))) sNo yk)
noncomputable def Wg : List D → Option D := fnD 2 xZ
theorem zbP (T : Txt K mg ad) : xk P w K mg base CX0 4 ad.f_must_be_place ad.e_must_be_place ["web", "thing"] (@spD ⟨K⟩ 2 Wg) := by
  letI : KK := ⟨K⟩
  have G_is_place := Vn (P := P) (w := w) (base := base) T
  refine yR (N := ["web", "thing"]) (ps := ["web", "thing"]) T.d_must_be_place.fn zbN (g := xZ) fun cdv A outer s H E hr => ?_
  unfold xZ
  exact (zl (yq (y9 (yE (zr (G_is_place.mono (by decide)) hr rfl T.d_is_place.at_ T.d_is_place.kp T.d_is_place.bd (zc (yf (zd 0 (pv 0)) (zm zn) (fun _ _ => rfl)) (zc (zd 1 (pv 1)) zh))))) (zl Vd) zD))
noncomputable def Y6 : SE → Ctl :=
  (yT (XS (zg (eFn zsO (zg (zp 0) (zg (zp 1) zC))) (zg (eFn zs0 (zg (zp 0) (zg (zp 1) zC))) zC))))
noncomputable def za2 : List D → Option D := fnD 2 Y6
theorem zcI (T : Txt K mg ad) : xk P w K mg base CX0 1 ad.f_tie_between ad.e_tie_between ["one", "other"] (@spD ⟨K⟩ 2 za2) := by
  letI : KK := ⟨K⟩
  refine yR (N := ["one", "other"]) (ps := ["one", "other"]) T.d_tie_between.fn zcH (g := Y6) fun cdv A outer s H E hr => ?_
  unfold Y6
  exact (zl (zB (yF (zc (yb (zpc rfl) zp6 rfl T.z_min ztr (zc (zd 0 (pv 0)) (zc (zd 1 (pv 1)) zh))) (zc (yb (zpm rfl) zqA rfl T.z_max zop (zc (zd 0 (pv 0)) (zc (zd 1 (pv 1)) zh))) zh)))))
noncomputable def Wh : SE → Ctl :=
  (yT (zbf (fLC (zoh zmS (zg (zH ixD (zp 0) (eC (.int 0))) zC)) b1 (tOf (zH inD (zK 2 za2 (zg (zp 2) (zg (zp 0) zC))) (zH ixD (zp 1) (eC (.int 1))))) (zp 0))))
noncomputable def WK : List D → Option D := fnD 2 Wh
theorem VS (T : Txt K mg ad) : xk P w K mg base CX0 2 ad.f_neighbours ad.e_neighbours ["web", "place"] (@spD ⟨K⟩ 2 WK) := by
  letI : KK := ⟨K⟩
  have G_tie_between := zcI (P := P) (w := w) (base := base) T
  refine yR (N := ["web", "place"]) (ps := ["web", "place"]) T.d_neighbours.fn zd0 (g := Wh) fun cdv A outer s H E hr => ?_
  unfold Wh
  exact (zl (zB (XR (zk9 (L := ["other"]) (M := ["web", "place"]) rfl (zaJ (by rfl) (by rfl) (by rfl) (by with_unfolding_all rfl) (by rfl) (by rfl) (by kernel_rfl) (all_cons rfl (all_cons rfl Zr))) (zar rfl T.z_range (zc (yf (zd 0 (pv 0)) (zm zn) (fun _ _ => rfl)) zh)) gs1 rb1 (fun _ _ _ _ => (zU (i := 0) zu7 rfl (Or.inl rfl) (.inr rfl))) (fun _ _ _ _ => (zT (zrc hr) zqY (by with_unfolding_all rfl) (zr (G_tie_between.mono (by decide)) hr rfl T.d_tie_between.at_ T.d_tie_between.kp T.d_tie_between.bd (zc (zd 2 (pv 2)) (zc (zd 0 (pv 0)) zh))) (yf (zd 1 (pv 1)) (zm zn) (fun _ _ => rfl)))) (fun _ _ _ _ => (zd 0 (pv 0)))))))
noncomputable def zaX : SE → Ctl :=
  (sIf (tOf (zH zsG (zH ixD (zp 2) (zp 6)) (eC .non))) (yr (zsg true 2 (zp 6) (zH zi8 (zH ixD (zp 2) (zp 5)) (eC (.int 1))))
    (zrf false 4 (zp 6))) yk)
noncomputable def zaH : SE → Ctl :=
  (zlm (iOf (zK 2 WK (zg (zp 0) (zg (zp 5) zC)))) (xD 6) zaX)
noncomputable def zac : SE → Ctl :=
  (yr (zoi 4 (XQ zC))
    (yr (zlm (iOf (zp 3)) (xD 5) zaH)
    (sFz 4 (zbR false 3 (zp 4)))))
noncomputable def Vu : SE → Ctl :=
  (yr (zoi 2 (fBin zsF (zbf (XQ (zg (eC .non) zC))) (zH ixD (zp 0) (eC (.int 0)))))
    (yr (zsg false 2 (zp 1) (eC (.int 0)))
    (yr (zbR false 3 (zbf (XQ (zg (zp 1) zC))))
    (yr (WG (tOf (zH gtD (eFn zi9 (zg (zp 3) zC)) (eC (.int 0)))) zac 10)
    (sFz 2 (yT (zp 2)))))))
noncomputable def zct : List D → Option D := fnD 7 Vu
theorem zko (T : Txt K mg ad) : xk P w K mg base CX0 3 ad.f_ties_away ad.e_ties_away ["web", "start"] (@spD ⟨K⟩ 2 zct) := by
  letI : KK := ⟨K⟩
  have G_neighbours := VS (P := P) (w := w) (base := base) T
  refine yR (N := ["web", "start", "away", "rim", "further", "place", "other"]) (ps := ["web", "start"]) T.d_ties_away.fn yQ (g := Vu) fun cdv A outer s H E hr => ?_
  unfold Vu zac zaH zaX
  exact (zj (zce (i := 2) yQ.nd rfl (Or.inl rfl) (zt7 (XR (XL (zc (zcZ zcV) zh))) (yf (zd 0 (pv 0)) (zm zn) (fun _ _ => rfl))))
      (zj (znG (m := false) (zm zn) (pv 2) (zd 1 (pv 1)))
      (zj (xy (m := false) (i := 3) yQ.nd rfl (Or.inl rfl) (XR (XL (zc (zd 1 (pv 1)) zh))))
      (zj (znz 10 PassesOwn.never (zT zj2 yD (zJ _) (yb zP xi rfl T.z_len xY (zc (zd 3 (pv 3)) zh)) (zm zn)) (zj (zce (i := 4) yQ.nd rfl (Or.inl rfl) (XL zh))
      (zj (zba PassesOwn.never rfl (zb7 (zd 3 (pv 3))) (yP (zU (i := 5) yQ.nd rfl (Or.inl rfl))) (zl (zba PassesOwn.never rfl (zb7 (zr (G_neighbours.mono (by decide)) hr rfl T.d_neighbours.at_ T.d_neighbours.kp T.d_neighbours.bd (zc (zd 0 (pv 0)) (zc (zd 5 (pv 5)) zh)))) (yP (zU (i := 6) yQ.nd rfl (Or.inl rfl))) (zl (yq (zT zow zmx (zJ _) (yf (zd 2 (pv 2)) (zd 6 (pv 6)) (fun _ _ => rfl)) (zcZ zcV)) (zj (znG (m := true) (XJ (yf (zd 2 (pv 2)) (zd 5 (pv 5)) (fun _ _ => rfl)) (zm zn)) (pv 2) (zd 6 (pv 6)))
      (zl (zoV (m := false) (pv 4) (zd 6 (pv 6)) (fun a b => zpG PySem.F.plainAttrs_list PySem.F.slot_list_append PySem.F.type_list_append zcq a b)))) zD)))))
      (zcm 4 (zl (xy (m := false) (i := 3) yQ.nd rfl (Or.inl rfl) (zd 4 (pv 4))))))))
      (zcm 2 (zl (zB (zd 2 (pv 2)))))))))
noncomputable def zcO : SE → Ctl :=
  (yr (zbR false 3 (zK 2 zct (zg (zp 0) (zg (zp 2) zC))))
    (yr (zbR false 4 (eFn zad (zg (zbf (fLC (zoh zmS (zg (zH ixD (zp 0) (eC (.int 0))) zC)) b1 (tOf (zH zcd (zH ixD (zp 4) (zp 0)) (eC .non))) (zp 0))) zC)))
    (sIf (tOf (zH VI (zH ixD (zp 4) (eC (.int 0))) (zp 2))) (zrf false 1 (zp 4)) yk)))
noncomputable def zfE : SE → Ctl :=
  (yr (znI (zK 1 xh (zg (zp 0) zC)))
    (yr (zoi 1 (XQ zC))
    (yr (zav zmS (zg (zH ixD (zp 0) (eC (.int 0))) zC) (xD 2) zcO)
    (sFz 1 (yT (zp 1))))))
noncomputable def znk : List D → Option D := fnD 5 zfE
theorem zpi (T : Txt K mg ad) : xk P w K mg base CX0 8 ad.f_pieces ad.e_pieces ["web"] (@spD ⟨K⟩ 1 znk) := by
  letI : KK := ⟨K⟩
  have G_must_be_web := x6 (P := P) (w := w) (base := base) T
  have G_ties_away := zko (P := P) (w := w) (base := base) T
  refine yR (N := ["web", "found", "start", "away", "piece"]) (ps := ["web"]) T.d_pieces.fn WC (g := zfE) fun cdv A outer s H E hr => ?_
  unfold zfE zcO
  exact (zj (X8 (zr (G_must_be_web.mono (by decide)) hr rfl T.d_must_be_web.at_ T.d_must_be_web.kp T.d_must_be_web.bd (zc (zd 0 (pv 0)) zh)))
      (zj (zce (i := 1) WC.nd rfl (Or.inl rfl) (XL zh))
      (zj (zgZ PassesOwn.never rfl rfl T.z_range (zc (yf (zd 0 (pv 0)) (zm zn) (fun _ _ => rfl)) zh) (yP (zU (i := 2) WC.nd rfl (Or.inl rfl))) (zj (xy (m := false) (i := 3) WC.nd rfl (Or.inr rfl) (zr (G_ties_away.mono (by decide)) hr rfl T.d_ties_away.at_ T.d_ties_away.kp T.d_ties_away.bd (zc (zd 0 (pv 0)) (zc (zd 2 (pv 2)) zh))))
      (zj (xy (m := false) (i := 4) WC.nd rfl (Or.inl rfl) (W1 xS zaq rfl T.z_tuple xg (zc (XR (zk9 (L := ["place"]) (M := ["web", "found", "start", "away", "piece"]) rfl (zaJ (by rfl) (by rfl) (by rfl) (by with_unfolding_all rfl) (by rfl) (by rfl) (by kernel_rfl) (all_cons rfl Zr)) (zar rfl T.z_range (zc (yf (zd 0 (pv 0)) (zm zn) (fun _ _ => rfl)) zh)) gs1 rb1 (fun _ _ _ _ => (zU (i := 0) zvh rfl (Or.inl rfl) (.inr rfl))) (fun _ _ _ _ => (zT zjs zcP (zJ _) (yf (zd 4 (pv 4)) (zd 0 (pv 0)) (fun _ _ => rfl)) (zcZ zcV))) (fun _ _ _ _ => (zd 0 (pv 0))))) zh)))
      (zl (yq (zT (yO hr) yd (zJ _) (yf (zd 4 (pv 4)) (zm zn) (fun _ _ => rfl)) (zd 2 (pv 2))) (zl (zoV (m := false) (pv 1) (zd 4 (pv 4)) (fun a b => zpG PySem.F.plainAttrs_list PySem.F.slot_list_append PySem.F.type_list_append zcq a b))) zD)))))
      (zcm 1 (zl (zB (zd 1 (pv 1))))))))
noncomputable def Vy : SE → Ctl :=
  (yT (zH VI (eFn zi9 (zg (zK 1 znk (zg (zp 0) zC)) zC)) (eC (.int 1))))
noncomputable def zcb : List D → Option D := fnD 1 Vy
theorem zjh (T : Txt K mg ad) : xk P w K mg base CX0 9 ad.f_is_joined ad.e_is_joined ["web"] (@spD ⟨K⟩ 1 zcb) := by
  letI : KK := ⟨K⟩
  have G_pieces := zpi (P := P) (w := w) (base := base) T
  refine yR (N := ["web"]) (ps := ["web"]) T.d_is_joined.fn zj3 (g := Vy) fun cdv A outer s H E hr => ?_
  unfold Vy
  exact (zl (zB (xP (yO hr) yd (zJ _) (yb zP xi rfl T.z_len xY (zc (zr (G_pieces.mono (by decide)) hr rfl T.d_pieces.at_ T.d_pieces.kp T.d_pieces.bd (zc (zd 0 (pv 0)) zh)) zh)) (zm zn))))
noncomputable def zaN : SE → Ctl :=
  (zub 1 (zbf (fLC (iOf (zK 2 WK (zg (zp 0) (zg (zp 2) zC)))) b1 zj7 (XS (zg (zp 3) (zg (zp 0) zC))))))
noncomputable def Vs : SE → Ctl :=
  (yr (zoi 1 (XQ zC))
    (yr (zav zmS (zg (zH ixD (zp 0) (eC (.int 0))) zC) (xD 2) zaN)
    (sFz 1 (yT (zp 1)))))
noncomputable def Vt : List D → Option D := fnD 3 Vs
theorem zkj (T : Txt K mg ad) : xk P w K mg base CX0 3 ad.f_all_steps ad.e_all_steps ["web"] (@spD ⟨K⟩ 1 Vt) := by
  letI : KK := ⟨K⟩
  have G_neighbours := VS (P := P) (w := w) (base := base) T
  refine yR (N := ["web", "found", "place"]) (ps := ["web"]) T.d_all_steps.fn WT (g := Vs) fun cdv A outer s H E hr => ?_
  unfold Vs zaN
  exact (zj (zce (i := 1) WT.nd rfl (Or.inl rfl) (XL zh))
      (zj (zgZ PassesOwn.never rfl rfl T.z_range (zc (yf (zd 0 (pv 0)) (zm zn) (fun _ _ => rfl)) zh) (yP (zU (i := 2) WT.nd rfl (Or.inr rfl))) (zl (zq3 (pv 1) (XR (znq (L := ["other"]) (M := ["web", "found", "place"]) rfl (zaJ (by rfl) (by rfl) (by rfl) (by with_unfolding_all rfl) (by rfl) (by rfl) (by kernel_rfl) (all_cons rfl Zr)) (zb7 (zr (G_neighbours.mono (by decide)) hr rfl T.d_neighbours.at_ T.d_neighbours.kp T.d_neighbours.bd (zc (zd 0 (pv 0)) (zc (zd 2 (pv 2)) zh)))) gs1 rb1 (fun _ _ _ _ => (zU (i := 0) zuE rfl (Or.inl rfl) (.inr rfl))) (fun _ _ _ _ => (yF (zc (zd 3 (pv 3)) (zc (zd 0 (pv 0)) zh)))))) (fun a b => zpG PySem.F.plainAttrs_list PySem.F.slot_list_extend PySem.F.type_list_extend zkv a b))))
      (zcm 1 (zl (zB (zd 1 (pv 1)))))))
noncomputable def zcw : SE → Ctl :=
  (yr (zoi 2 (fFn zqq (zg (zp 0) zC)))
    (yr (zsg true 2 (zH ixD (zp 1) (eC (.int 0))) (zH zpJ (zH ixD (zp 2) (zH ixD (zp 1) (eC (.int 0)))) (eC (.int 2))))
    (yr (zsg true 2 (zH ixD (zp 1) (eC (.int 1))) (zH zi8 (zH ixD (zp 2) (zH ixD (zp 1) (eC (.int 1)))) (eC (.int 1))))
    (sFz 2 (yT (eFn zad (zg (zp 2) zC)))))))
noncomputable def zjM : List D → Option D := fnD 3 zcw
theorem zoa (T : Txt K mg ad) : xk P w K mg base CX0 1 ad.f_stepped ad.e_stepped ["heap", "step"] (@spD ⟨K⟩ 2 zjM) := by
  letI : KK := ⟨K⟩
  refine yR (N := ["heap", "step", "stones"]) (ps := ["heap", "step"]) T.d_stepped.fn zcM (g := zcw) fun cdv A outer s H E hr => ?_
  unfold zcw
  exact (zj (zce (i := 2) zcM.nd rfl (Or.inl rfl) (zrF rfl T.z_list (zc (zd 0 (pv 0)) zh)))
      (zj (znG (m := true) (zbx (yf (zd 2 (pv 2)) (yf (zd 1 (pv 1)) (zm zn) (fun _ _ => rfl)) (fun _ _ => rfl)) (zm zn)) (pv 2) (yf (zd 1 (pv 1)) (zm zn) (fun _ _ => rfl)))
      (zj (znG (m := true) (XJ (yf (zd 2 (pv 2)) (yf (zd 1 (pv 1)) (zm zn) (fun _ _ => rfl)) (fun _ _ => rfl)) (zm zn)) (pv 2) (yf (zd 1 (pv 1)) (zm zn) (fun _ _ => rfl)))
      (zcm 2 (zl (zB (W1 xS zaq rfl T.z_tuple xg (zc (zd 2 (pv 2)) zh))))))))
noncomputable def xn : SE → Ctl :=
  (yr (sIf (xQ (tOf (zK 1 zcb (zg (zp 0) zC)))) sNo yk)
    (znI (zK 2 x9 (zg (zH ixD (zp 0) (eC (.int 0))) (zg (eC (.int 6)) zC)))))
noncomputable def xo : List D → Option D := fnD 1 xn
theorem za8 (T : Txt K mg ad) : xk P w K mg base CX0 10 ad.f_must_be_counted ad.e_must_be_counted ["web"] (@spD ⟨K⟩ 1 xo) := by
  letI : KK := ⟨K⟩
  have G_must_be_at_most := V4 (P := P) (w := w) (base := base) T
  have G_is_joined := zjh (P := P) (w := w) (base := base) T
  refine yR (N := ["web"]) (ps := ["web"]) T.d_must_be_counted.fn zaO (g := xn) fun cdv A outer s H E hr => ?_
  unfold xn
  exact (zj (yq (y9 (yE (zr (G_is_joined.mono (by decide)) hr rfl T.d_is_joined.at_ T.d_is_joined.kp T.d_is_joined.bd (zc (zd 0 (pv 0)) zh)))) (zl Vd) zD)
      (zl (X8 (zr (G_must_be_at_most.mono (by decide)) hr rfl T.d_must_be_at_most.at_ T.d_must_be_at_most.kp T.d_must_be_at_most.bd (zc (yf (zd 0 (pv 0)) (zm zn) (fun _ _ => rfl)) (zc (zm (zcu (v := .int 6) rfl T.g_MOST_COUNTED ⟨_, rfl⟩)) zh))))))
noncomputable def xH : SE → Ctl :=
  (yr (znI (zK 1 xh (zg (zp 0) zC)))
    (yr (znI (zK 2 Wg (zg (zp 0) (zg (zp 1) zC))))
    (znI (zK 3 XN (zg (zp 2) (zg (eC (.int 1)) (zg (eC (.int 3)) zC)))))))
noncomputable def xF : List D → Option D := fnD 3 xH
theorem zbn (T : Txt K mg ad) : xk P w K mg base CX0 8 ad.f_must_be_wanted ad.e_must_be_wanted ["web", "place", "m"] (@spD ⟨K⟩ 3 xF) := by
  letI : KK := ⟨K⟩
  have G_must_be_within := zbl (P := P) (w := w) (base := base) T
  have G_must_be_web := x6 (P := P) (w := w) (base := base) T
  have G_must_be_place := zbP (P := P) (w := w) (base := base) T
  refine yR (N := ["web", "place", "m"]) (ps := ["web", "place", "m"]) T.d_must_be_wanted.fn zbp (g := xH) fun cdv A outer s H E hr => ?_
  unfold xH
  exact (zj (X8 (zr (G_must_be_web.mono (by decide)) hr rfl T.d_must_be_web.at_ T.d_must_be_web.kp T.d_must_be_web.bd (zc (zd 0 (pv 0)) zh)))
      (zj (X8 (zr (G_must_be_place.mono (by decide)) hr rfl T.d_must_be_place.at_ T.d_must_be_place.kp T.d_must_be_place.bd (zc (zd 0 (pv 0)) (zc (zd 1 (pv 1)) zh))))
      (zl (X8 (zr (G_must_be_within.mono (by decide)) hr rfl T.d_must_be_within.at_ T.d_must_be_within.kp T.d_must_be_within.bd (zc (zd 2 (pv 2)) (zc (zm zn) (zc (zm (zcu (v := .int 3) rfl T.g_MOST_WANTED ⟨_, rfl⟩)) zh))))))))
noncomputable def zma : SE → Ctl :=
  (yr (zbR false 1 (zH zr5 (zbf (fLC (zm7 (zg (zp 0) zC)) b2 (tOf (zH gtD (zp 1) (eC (.int 0)))) (zp 0))) (eC (.int 0))))
    (yT (zbf (fLC (zoh zll (zg (zp 1) (zg (eFn zi9 (zg (zp 0) zC)) zC))) b1 zj7 (zH zi8 (zH zi8 (eSl slD (zp 1) zpX (zp2 (zp 0))) (XS (zg (zH zi8 (zH ixD (zp 1) (zp 0)) (eC (.int 1))) zC))) (eSl slD (zp 1) (zp2 (zH zi8 (zp 0) (eC (.int 1)))) zpX))))))
noncomputable def zom : List D → Option D := fnD 2 zma
theorem zp4 (T : Txt K mg ad) : xk P w K mg base CX0 1 ad.f_grown ad.e_grown ["heap"] (@spD ⟨K⟩ 1 zom) := by
  letI : KK := ⟨K⟩
  refine yR (N := ["heap", "last"]) (ps := ["heap"]) T.d_grown.fn znb (g := zma) fun cdv A outer s H E hr => ?_
  unfold zma
  exact (zj (xy (m := false) (i := 1) znb.nd rfl (Or.inl rfl) (zr7 rfl rfl T.z_max (XR (zk9 (L := ["place", "stones"]) (M := ["heap", "last"]) rfl (zaJ (by rfl) (by rfl) (by rfl) (by with_unfolding_all rfl) (by rfl) (by rfl) (by kernel_rfl) Zr) (zo6 rfl T.z_enumerate zbG (zc (zd 0 (pv 0)) zh)) gs2 rb2 (fun _ _ _ _ => (zqU rfl (zfn (zU (i := 0) zty rfl (Or.inl rfl) (.inr rfl)) (zfn (zU (i := 1) zty rfl (Or.inl rfl) (.inr rfl)) zoP)))) (fun _ _ _ _ => (zT zj2 yD (zJ _) (zd 1 (pv 1)) (zm zn))) (fun _ _ _ _ => (zd 0 (pv 0))))) (zm zn)))
      (zl (zB (XR (znq (L := ["place"]) (M := ["heap", "last"]) rfl (zaJ (by rfl) (by rfl) (by rfl) (by with_unfolding_all rfl) (by rfl) (by rfl) (by kernel_rfl) (all_cons rfl Zr)) (zca rfl T.z_range (zc (zd 1 (pv 1)) (zc (yb zP xi rfl T.z_len xY (zc (zd 0 (pv 0)) zh)) zh))) gs1 rb1 (fun _ _ _ _ => (zU (i := 0) zvo rfl (Or.inl rfl) (.inr rfl))) (fun _ _ _ _ => (XJ (XJ (zm9 (zd 1 (pv 1)) zpu (zoB (zd 0 (pv 0)))) (yF (zc (XJ (yf (zd 1 (pv 1)) (zd 0 (pv 0)) (fun _ _ => rfl)) (zm zn)) zh))) (zm9 (zd 1 (pv 1)) (zoB (XJ (zd 0 (pv 0)) (zm zn))) zpu))))))))
noncomputable def zbB : SE → Ctl :=
  (sIf (zaZ (tOf (zH geD (zH ixD (zp 0) (zH ixD (zp 3) (eC (.int 0)))) (eC (.int 2)))) (tOf (zH (dinD true) (zK 2 zjM (zg (zp 0) (zg (zp 3) zC))) (zp 2)))) (yT (eC (.bl false))) yk)
noncomputable def zbv : SE → Ctl :=
  (yr (zlm (iOf (zp 1)) (xD 3) zbB)
    (yT (eC (.bl true))))
noncomputable def zcS : List D → Option D := fnD 4 zbv
theorem zmF (T : Txt K mg ad) : xk P w K mg base CX0 2 ad.f_leads_to ad.e_leads_to ["heap", "steps", "level"] (@spD ⟨K⟩ 3 zcS) := by
  letI : KK := ⟨K⟩
  have G_stepped := zoa (P := P) (w := w) (base := base) T
  refine yR (N := ["heap", "steps", "level", "step"]) (ps := ["heap", "steps", "level"]) T.d_leads_to.fn zco (g := zbv) fun cdv A outer s H E hr => ?_
  unfold zbv zbB
  exact (zj (zba PassesOwn.never rfl (zb7 (zd 1 (pv 1))) (yP (zU (i := 3) zco.nd rfl (Or.inl rfl))) (zl (yq (znW (zcl (zT zuZ yD (zJ _) (yf (zd 0 (pv 0)) (yf (zd 3 (pv 3)) (zm zn) (fun _ _ => rfl)) (fun _ _ => rfl)) (zm zn)) (Vo (zT (zoj hr) zsp (by with_unfolding_all rfl) (zr (G_stepped.mono (by decide)) hr rfl T.d_stepped.at_ T.d_stepped.kp T.d_stepped.bd (zc (zd 0 (pv 0)) (zc (zd 3 (pv 3)) zh))) (zd 2 (pv 2)))))) (zl (zB (xE xN))) zD)))
      (zl (zB (xE xN))))
noncomputable def XX : SE → Ctl :=
  (sIf (zaZ (tOf (zH ltD (zH ixD (zp 6) (zp 2)) (zp 3))) (tOf (zK 3 zcS (zg (zp 6) (zg (zp 1) (zg (zp 0) zC)))))) (zrA false 4 (zp 6) (eC (.bl true))) yk)
noncomputable def Wa : SE → Ctl :=
  (zlm (iOf (zK 1 zom (zg (zp 5) zC))) (xD 6) XX)
noncomputable def Z7 : SE → Ctl :=
  (yr (zsj true 4)
    (yr (zlm (iDct (zp 0)) (xD 5) Wa)
    (zu5 4 (yT (zp 4)))))
noncomputable def za : List D → Option D := fnD 7 Z7
theorem zcD (T : Txt K mg ad) : xk P w K mg base CX0 3 ad.f_level_above ad.e_level_above ["level", "steps", "place", "m"] (@spD ⟨K⟩ 4 za) := by
  letI : KK := ⟨K⟩
  have G_grown := zp4 (P := P) (w := w) (base := base) T
  have G_leads_to := zmF (P := P) (w := w) (base := base) T
  refine yR (N := ["level", "steps", "place", "m", "above", "heap", "more"]) (ps := ["level", "steps", "place", "m"]) T.d_level_above.fn xx (g := Z7) fun cdv A outer s H E hr => ?_
  unfold Z7 Wa XX
  exact (zj (zrW (t := true) (i := 4) xx.nd rfl (Or.inl rfl))
      (zj (zba PassesOwn.never rfl (zrr (zd 0 (pv 0))) (yP (zU (i := 5) xx.nd rfl (Or.inl rfl))) (zl (zba PassesOwn.never rfl (zb7 (zr (G_grown.mono (by decide)) hr rfl T.d_grown.at_ T.d_grown.kp T.d_grown.bd (zc (zd 5 (pv 5)) zh))) (yP (zU (i := 6) xx.nd rfl (Or.inl rfl))) (zl (yq (znW (zcl (zT zrU yD (zJ _) (yf (zd 6 (pv 6)) (zd 2 (pv 2)) (fun _ _ => rfl)) (zd 3 (pv 3))) (Vo (yE (zr (G_leads_to.mono (by decide)) hr rfl T.d_leads_to.at_ T.d_leads_to.kp T.d_leads_to.bd (zc (zd 6 (pv 6)) (zc (zd 1 (pv 1)) (zc (zd 0 (pv 0)) zh)))))))) (zl (zsk (m := false) hr (xE xN) (pv 4) (zd 6 (pv 6)))) zD)))))
      (zrs 4 (zl (zB (zd 4 (pv 4)))))))
noncomputable def ym : SE → Ctl :=
  (yr (zrf false 5 (zp 6))
    (zbR false 6 (zK 4 za (zg (zp 6) (zg (zp 4) (zg (zp 1) (zg (zp 2) zC)))))))
noncomputable def yZ : SE → Ctl :=
  (yr (zbR false 4 (zK 1 Vt (zg (zp 0) zC)))
    (yr (zoi 5 (XQ zC))
    (yr (zbR false 6 (zns (eFn zad (zg (zH zpT (zbf (XQ (zg (eC (.int 0)) zC))) (zH ixD (zp 0) (eC (.int 0)))) zC)) (eC (.bl true))))
    (yr (WG (zaZ (tOf (zH gtD (eFn zoO (zg (zp 6) zC)) (eC (.int 0)))) (tOf (zH leD (eFn zi9 (zg (zp 5) zC)) (zp 3)))) ym 40)
    (sFz 5 (yT (zp 5)))))))
noncomputable def xG : List D → Option D := fnD 7 yZ
theorem zbi (T : Txt K mg ad) : xk P w K mg base CX0 4 ad.f_failing_levels ad.e_failing_levels ["web", "place", "m", "most"] (@spD ⟨K⟩ 4 xG) := by
  letI : KK := ⟨K⟩
  have G_all_steps := zkj (P := P) (w := w) (base := base) T
  have G_level_above := zcD (P := P) (w := w) (base := base) T
  refine yR (N := ["web", "place", "m", "most", "steps", "levels", "level"]) (ps := ["web", "place", "m", "most"]) T.d_failing_levels.fn yz (g := yZ) fun cdv A outer s H E hr => ?_
  unfold yZ ym
  exact (zj (xy (m := false) (i := 4) yz.nd rfl (Or.inl rfl) (zr (G_all_steps.mono (by decide)) hr rfl T.d_all_steps.at_ T.d_all_steps.kp T.d_all_steps.bd (zc (zd 0 (pv 0)) zh)))
      (zj (zce (i := 5) yz.nd rfl (Or.inl rfl) (XL zh))
      (zj (xy (m := false) (i := 6) yz.nd rfl (Or.inl rfl) (zqi hr (W1 xS zaq rfl T.z_tuple xg (zc (zo1 (XR (XL (zc (zm zn) zh))) (yf (zd 0 (pv 0)) (zm zn) (fun _ _ => rfl))) zh)) (xE xN)))
      (zj (znz 40 PassesOwn.never (znW (zcl (zT zj2 yD (zJ _) (yb zoE zqh rfl T.z_len xY (zc (zd 6 (pv 6)) zh)) (zm zn)) (Vo (zT zpr yD (zJ _) (yb zP xi rfl T.z_len xY (zc (zd 5 (pv 5)) zh)) (zd 3 (pv 3)))))) (zj (zoV (m := false) (pv 5) (zd 6 (pv 6)) (fun a b => zpG PySem.F.plainAttrs_list PySem.F.slot_list_append PySem.F.type_list_append zcq a b))
      (zl (xy (m := false) (i := 6) yz.nd rfl (Or.inl rfl) (zr (G_level_above.mono (by decide)) hr rfl T.d_level_above.at_ T.d_level_above.kp T.d_level_above.bd (zc (zd 6 (pv 6)) (zc (zd 4 (pv 4)) (zc (zd 1 (pv 1)) (zc (zd 2 (pv 2)) zh)))))))))
      (zcm 5 (zl (zB (zd 5 (pv 5)))))))))
noncomputable def xR : SE → Ctl :=
  (yr (znI (zK 3 xF (zg (zp 0) (zg (zp 1) (zg (zp 2) zC)))))
    (yr (znI (zK 1 xo (zg (zp 0) zC)))
    (yT (zK 4 xG (zg (zp 0) (zg (zp 1) (zg (zp 2) (zg (eC (.int 300)) zC))))))))
noncomputable def Yn : List D → Option D := fnD 3 xR
theorem zcF (T : Txt K mg ad) : xk P w K mg base CX0 11 ad.f_all_failing ad.e_all_failing ["web", "place", "m"] (@spD ⟨K⟩ 3 Yn) := by
  letI : KK := ⟨K⟩
  have G_must_be_counted := za8 (P := P) (w := w) (base := base) T
  have G_must_be_wanted := zbn (P := P) (w := w) (base := base) T
  have G_failing_levels := zbi (P := P) (w := w) (base := base) T
  refine yR (N := ["web", "place", "m"]) (ps := ["web", "place", "m"]) T.d_all_failing.fn zcG (g := xR) fun cdv A outer s H E hr => ?_
  unfold xR
  exact (zj (X8 (zr (G_must_be_wanted.mono (by decide)) hr rfl T.d_must_be_wanted.at_ T.d_must_be_wanted.kp T.d_must_be_wanted.bd (zc (zd 0 (pv 0)) (zc (zd 1 (pv 1)) (zc (zd 2 (pv 2)) zh)))))
      (zj (X8 (zr (G_must_be_counted.mono (by decide)) hr rfl T.d_must_be_counted.at_ T.d_must_be_counted.kp T.d_must_be_counted.bd (zc (zd 0 (pv 0)) zh)))
      (zl (zB (zr (G_failing_levels.mono (by decide)) hr rfl T.d_failing_levels.at_ T.d_failing_levels.kp T.d_failing_levels.bd (zc (zd 0 (pv 0)) (zc (zd 1 (pv 1)) (zc (zd 2 (pv 2)) (zc (zm (zcu (v := .int 300) rfl T.g_MOST_STONES ⟨_, rfl⟩)) zh)))))))))
noncomputable def znu : SE → Ctl :=
  (yT (eFn zi9 (zg (zK 3 Yn (zg (zp 0) (zg (zp 1) (zg (zp 2) zC)))) zC)))
noncomputable def zu : List D → Option D := fnD 3 znu
theorem zo2 (T : Txt K mg ad) : xk P w K mg base CX0 12 ad.f_need ad.e_need ["web", "place", "m"] (@spD ⟨K⟩ 3 zu) := by
  letI : KK := ⟨K⟩
  have G_all_failing := zcF (P := P) (w := w) (base := base) T
  refine yR (N := ["web", "place", "m"]) (ps := ["web", "place", "m"]) T.d_need.fn zsn (g := znu) fun cdv A outer s H E hr => ?_
  unfold znu
  exact (zl (zB (yb zP xi rfl T.z_len xY (zc (zr (G_all_failing.mono (by decide)) hr rfl T.d_all_failing.at_ T.d_all_failing.kp T.d_all_failing.bd (zc (zd 0 (pv 0)) (zc (zd 1 (pv 1)) (zc (zd 2 (pv 2)) zh)))) zh))))
noncomputable def Vc : SE → Ctl :=
  (yr (znI (zK 1 xh (zg (zp 0) zC)))
    (yr (zbR false 2 (zbf (fLC (zoh zmS (zg (zH ixD (zp 0) (eC (.int 0))) zC)) b1 zj7 (zK 3 zu (zg (zp 1) (zg (zp 0) (zg (zp 2) zC)))))))
    (yr (zbR false 3 (eFn zrz (zg (zp 2) zC)))
    (yT (XS (zg (zp 3) (zg (zbf (fLC (zoh zmS (zg (zH ixD (zp 0) (eC (.int 0))) zC)) b1 (tOf (zH VI (zH ixD (zp 3) (zp 0)) (zp 4))) (zp 0))) zC)))))))
noncomputable def yw : List D → Option D := fnD 4 Vc
theorem zmr (T : Txt K mg ad) : xk P w K mg base CX0 13 ad.f_need_all ad.e_need_all ["web", "m"] (@spD ⟨K⟩ 2 yw) := by
  letI : KK := ⟨K⟩
  have G_must_be_web := x6 (P := P) (w := w) (base := base) T
  have G_need := zo2 (P := P) (w := w) (base := base) T
  refine yR (N := ["web", "m", "needs", "greatest"]) (ps := ["web", "m"]) T.d_need_all.fn VB (g := Vc) fun cdv A outer s H E hr => ?_
  unfold Vc
  exact (zj (X8 (zr (G_must_be_web.mono (by decide)) hr rfl T.d_must_be_web.at_ T.d_must_be_web.kp T.d_must_be_web.bd (zc (zd 0 (pv 0)) zh)))
      (zj (xy (m := false) (i := 2) VB.nd rfl (Or.inr rfl) (XR (znq (L := ["place"]) (M := ["web", "m", "needs", "greatest"]) rfl (zaJ (by rfl) (by rfl) (by rfl) (by with_unfolding_all rfl) (by rfl) (by rfl) (by kernel_rfl) (all_cons rfl (all_cons rfl Zr))) (zar rfl T.z_range (zc (yf (zd 0 (pv 0)) (zm zn) (fun _ _ => rfl)) zh)) gs1 rb1 (fun _ _ _ _ => (zU (i := 0) zud rfl (Or.inl rfl) (.inr rfl))) (fun _ _ _ _ => (zr (G_need.mono (by decide)) hr rfl T.d_need.at_ T.d_need.kp T.d_need.bd (zc (zd 1 (pv 1)) (zc (zd 0 (pv 0)) (zc (zd 2 (pv 2)) zh))))))))
      (zj (xy (m := false) (i := 3) VB.nd rfl (Or.inr rfl) (yb (zpz rfl) zqN rfl T.z_max zop (zc (zd 2 (pv 2)) zh)))
      (zl (zB (yF (zc (zd 3 (pv 3)) (zc (XR (zk9 (L := ["place"]) (M := ["web", "m", "needs", "greatest"]) rfl (zaJ (by rfl) (by rfl) (by rfl) (by with_unfolding_all rfl) (by rfl) (by rfl) (by kernel_rfl) (all_cons rfl (all_cons rfl Zr))) (zar rfl T.z_range (zc (yf (zd 0 (pv 0)) (zm zn) (fun _ _ => rfl)) zh)) gs1 rb1 (fun _ _ _ _ => (zU (i := 0) zud rfl (Or.inl rfl) (.inr rfl))) (fun _ _ _ _ => (zT (yO hr) yd (zJ _) (yf (zd 3 (pv 3)) (zd 0 (pv 0)) (fun _ _ => rfl)) (zd 4 (pv 4)))) (fun _ _ _ _ => (zd 0 (pv 0))))) zh))))))))
noncomputable def zb8 : SE → Ctl :=
  (yr (sIf (zqW (xQ (tOf (eUn (x8 .tuple) (zp 0)))) (xQ (tOf (zK 1 xM (zg (eFn zi9 (zg (zp 0) zC)) zC))))) (yT (eC (.bl false))) yk)
    (yr (sIf (tOf (zH zcd (zH ixD (zp 0) (eC (.int 0))) (eC .non))) (yT (eC (.bl false))) yk)
    (yT (eFn allD (zg (zbf (fLC (zoh zll (zg (eC (.int 1)) (zg (eFn zi9 (zg (zp 0) zC)) zC))) b1 zj7 (zK 2 wd (zg (zp 0) (zg (zH ixD (zp 1) (zp 0)) zC))))) zC)))))
noncomputable def zkC : List D → Option D := fnD 1 zb8
theorem znJ (T : Txt K mg ad) : xk P w K mg base CX0 4 ad.f_is_over ad.e_is_over ["thing"] (@spD ⟨K⟩ 1 zkC) := by
  letI : KK := ⟨K⟩
  have G_is_place_count := wc (P := P) (w := w) (base := base) T
  have G_is_place := Vn (P := P) (w := w) (base := base) T
  refine yR (N := ["thing"]) (ps := ["thing"]) T.d_is_over.fn znY (g := zb8) fun cdv A outer s H E hr => ?_
  unfold zb8
  exact (zj (yq (znW (zn3 (y9 (yE (zR .tuple rfl T.z_isinstance (zd 0 (pv 0)) (yC (v := .ty "tuple") rfl T.z_tuple xg rfl)))) (zcX (y9 (yE (zr (G_is_place_count.mono (by decide)) hr rfl T.d_is_place_count.at_ T.d_is_place_count.kp T.d_is_place_count.bd (zc (yb zP xi rfl T.z_len xY (zc (zd 0 (pv 0)) zh)) zh))))))) (zl (zB (xE xN))) zD)
      (zj (yq (zT zjs zcP (zJ _) (yf (zd 0 (pv 0)) (zm zn) (fun _ _ => rfl)) (zcZ zcV)) (zl (zB (xE xN))) zD)
      (zl (zB (yb (zoH rfl) zr9 rfl T.z_all zuf (zc (XR (znq (L := ["place"]) (M := ["thing"]) rfl (zaJ (by rfl) (by rfl) (by rfl) (by with_unfolding_all rfl) (by rfl) (by rfl) (by kernel_rfl) (all_cons rfl Zr)) (zca rfl T.z_range (zc (zm zn) (zc (yb zP xi rfl T.z_len xY (zc (zd 0 (pv 0)) zh)) zh))) gs1 rb1 (fun _ _ _ _ => (zU (i := 0) zuy rfl (Or.inl rfl) (.inr rfl))) (fun _ _ _ _ => (zr (G_is_place.mono (by decide)) hr rfl T.d_is_place.at_ T.d_is_place.kp T.d_is_place.bd (zc (zd 0 (pv 0)) (zc (yf (zd 1 (pv 1)) (zd 0 (pv 0)) (fun _ _ => rfl)) zh)))))) zh))))))
noncomputable def VD : SE → Ctl :=
  (yr (sIf (zqW (xQ (tOf (eUn (x8 .tuple) (zp 0)))) (tOf (zH neD (eFn zi9 (zg (zp 0) zC)) (eC (.int 2))))) (yT (eC (.bl false))) yk)
    (yr (zbR false 1 (zH ixD (zp 0) (eC (.int 0))))
    (yr (sIf (xQ (tOf (eUn (x8 .str) (zp 1)))) (yT (eC (.bl false))) yk)
    (yr (sIf (tOf (zH VI (zp 1) (eC (.str "tree")))) (yT (zK 1 zkC (zg (zH ixD (zp 0) (eC (.int 1))) zC))) yk)
    (yT (zjZ (eUn (zrg zaV) (zp 1)) (zK 3 yA (zg (zH ixD (zp 0) (eC (.int 1))) (zg (eUn (zoQ zaV 0) (zp 1)) (zg (eUn (zoQ zaV 1) (zp 1)) zC))))))))))
noncomputable def zb5 : List D → Option D := fnD 2 VD
theorem zjK (T : Txt K mg ad) : xk P w K mg base CX0 5 ad.f_kind_good ad.e_kind_good ["thing"] (@spD ⟨K⟩ 1 zb5) := by
  letI : KK := ⟨K⟩
  have G_is_whole_within := yN (P := P) (w := w) (base := base) T
  have G_is_over := znJ (P := P) (w := w) (base := base) T
  refine yR (N := ["thing", "word"]) (ps := ["thing"]) T.d_kind_good.fn zbw (g := VD) fun cdv A outer s H E hr => ?_
  unfold VD
  exact (zj (yq (znW (zn3 (y9 (yE (zR .tuple rfl T.z_isinstance (zd 0 (pv 0)) (yC (v := .ty "tuple") rfl T.z_tuple xg rfl)))) (zcX (zT zmz zcv (zJ _) (yb zP xi rfl T.z_len xY (zc (zd 0 (pv 0)) zh)) (zm zn))))) (zl (zB (xE xN))) zD)
      (zj (xy (m := false) (i := 1) zbw.nd rfl (Or.inl rfl) (yf (zd 0 (pv 0)) (zm zn) (fun _ _ => rfl)))
      (zj (yq (y9 (yE (zR .str rfl T.z_isinstance (zd 1 (pv 1)) (yC (v := .ty "str") rfl T.z_str zpp rfl)))) (zl (zB (xE xN))) zD)
      (zj (yq (zT (yO hr) yd (zJ _) (zd 1 (pv 1)) (xz xB)) (zl (zB (zr (G_is_over.mono (by decide)) hr rfl T.d_is_over.at_ T.d_is_over.kp T.d_is_over.bd (zc (yf (zd 0 (pv 0)) (zm zn) (fun _ _ => rfl)) zh)))) zD)
      (zl (zB (XO (zpS T.b_SIZES rfl T.g_SIZES (zd 1 (pv 1))) (XT (zr (G_is_whole_within.mono (by decide)) hr rfl T.d_is_whole_within.at_ T.d_is_whole_within.kp T.d_is_whole_within.bd (zc (yf (zd 0 (pv 0)) (zm zn) (fun _ _ => rfl)) (zc (znn T.b_SIZES (by decide) rfl T.g_SIZES (zd 1 (pv 1)) (fun _ _ => rfl)) (zc (znn T.b_SIZES (by decide) rfl T.g_SIZES (zd 1 (pv 1)) (fun _ _ => rfl)) zh))))))))))))
noncomputable def Vr : SE → Ctl :=
  (yr (sIf (tOf (zH VI (zp 0) (eC (.str "cube")))) (yT (zH ixD (XS (zg (eC (.int 1)) (zg (eC (.int 2)) (zg (eC (.int 4)) (zg (eC (.int 8)) zC))))) (zp 1))) yk)
    (yr (sIf (tOf (zH VI (zp 0) (eC (.str "star")))) (yT (zH zi8 (zp 1) (eC (.int 1)))) yk)
    (yr (sIf (tOf (zH VI (zp 0) (eC (.str "tree")))) (yT (eFn zi9 (zg (zp 1) zC))) yk)
    (yT (zp 1)))))
noncomputable def zcA : List D → Option D := fnD 2 Vr
theorem zkJ (T : Txt K mg ad) : xk P w K mg base CX0 1 ad.f_places_of ad.e_places_of ["word", "size"] (@spD ⟨K⟩ 2 zcA) := by
  letI : KK := ⟨K⟩
  refine yR (N := ["word", "size"]) (ps := ["word", "size"]) T.d_places_of.fn zkz (g := Vr) fun cdv A outer s H E hr => ?_
  unfold Vr
  exact (zj (yq (zT (yO hr) yd (zJ _) (zd 0 (pv 0)) (xz xB)) (zl (zB (yf (yF (zc (zm zn) (zc (zm zn) (zc (zm zn) (zc (zm zn) zh))))) (zd 1 (pv 1)) (fun _ _ => rfl)))) zD)
      (zj (yq (zT (yO hr) yd (zJ _) (zd 0 (pv 0)) (xz xB)) (zl (zB (XJ (zd 1 (pv 1)) (zm zn)))) zD)
      (zj (yq (zT (yO hr) yd (zJ _) (zd 0 (pv 0)) (xz xB)) (zl (zB (yb zP xi rfl T.z_len xY (zc (zd 1 (pv 1)) zh)))) zD)
      (zl (zB (zd 1 (pv 1)))))))
noncomputable def zbu : SE → Ctl :=
  (yr (sIf (tOf (zH VI (zp 0) (eC (.str "row")))) (yT (zH VI (zp 3) (zH zi8 (zp 2) (eC (.int 1))))) yk)
    (yr (sIf (tOf (zH VI (zp 0) (eC (.str "ring")))) (yT (eOr (zH VI (zp 3) (zH zi8 (zp 2) (eC (.int 1)))) (zjZ (zH VI (zp 2) (eC (.int 0))) (zH VI (zp 3) (zH zpJ (zp 1) (eC (.int 1))))))) yk)
    (yr (sIf (tOf (zH VI (zp 0) (eC (.str "cube")))) (yT (zH inD (zH xorD (zp 2) (zp 3)) (XS (zg (eC (.int 1)) (zg (eC (.int 2)) (zg (eC (.int 4)) zC)))))) yk)
    (yr (sIf (tOf (zH VI (zp 0) (eC (.str "star")))) (yT (zH VI (zp 2) (eC (.int 0)))) yk)
    (yr (sIf (tOf (zH VI (zp 0) (eC (.str "tree")))) (yT (zH VI (zH ixD (zp 1) (zp 3)) (zp 2))) yk)
    (yT (eC (.bl true))))))))
noncomputable def zcQ : List D → Option D := fnD 4 zbu
theorem zmi (T : Txt K mg ad) : xk P w K mg base CX0 1 ad.f_are_tied ad.e_are_tied ["word", "size", "one", "other"] (@spD ⟨K⟩ 4 zcQ) := by
  letI : KK := ⟨K⟩
  refine yR (N := ["word", "size", "one", "other"]) (ps := ["word", "size", "one", "other"]) T.d_are_tied.fn zly (g := zbu) fun cdv A outer s H E hr => ?_
  unfold zbu
  exact (zj (yq (zT (yO hr) yd (zJ _) (zd 0 (pv 0)) (xz xB)) (zl (zB (xP (yO hr) yd (zJ _) (zd 3 (pv 3)) (XJ (zd 2 (pv 2)) (zm zn))))) zD)
      (zj (yq (zT (yO hr) yd (zJ _) (zd 0 (pv 0)) (xz xB)) (zl (zB (zvs (xP (yO hr) yd (zJ _) (zd 3 (pv 3)) (XJ (zd 2 (pv 2)) (zm zn))) (XT (XO (xP (yO hr) yd (zJ _) (zd 2 (pv 2)) (zm zn)) (XT (xP (yO hr) yd (zJ _) (zd 3 (pv 3)) (zbx (zd 1 (pv 1)) (zm zn))))))))) zD)
      (zj (yq (zT (yO hr) yd (zJ _) (zd 0 (pv 0)) (xz xB)) (zl (zB (xP (zrc hr) zqY (by with_unfolding_all rfl) (zs9 (zd 2 (pv 2)) (zd 3 (pv 3))) (yF (zc (zm zn) (zc (zm zn) (zc (zm zn) zh))))))) zD)
      (zj (yq (zT (yO hr) yd (zJ _) (zd 0 (pv 0)) (xz xB)) (zl (zB (xP (yO hr) yd (zJ _) (zd 2 (pv 2)) (zm zn)))) zD)
      (zj (yq (zT (yO hr) yd (zJ _) (zd 0 (pv 0)) (xz xB)) (zl (zB (xP (yO hr) yd (zJ _) (yf (zd 1 (pv 1)) (zd 3 (pv 3)) (fun _ _ => rfl)) (zd 2 (pv 2))))) zD)
      (zl (zB (xE xN))))))))
noncomputable def zcf : SE → Ctl :=
  (zub 4 (zbf (fLC (zoh zll (zg (zH zi8 (zp 5) (eC (.int 1))) (zg (zp 3) zC))) b1 (tOf (zK 4 zcQ (zg (zp 2) (zg (zp 3) (zg (zp 6) (zg (zp 0) zC)))))) (XS (zg (zp 6) (zg (zp 0) zC))))))
noncomputable def zcp : SE → Ctl :=
  (yr (sIf (xQ (tOf (zK 1 zb5 (zg (zp 0) zC)))) sNo yk)
    (yr (zbR false 1 (zH ixD (zp 0) (eC (.int 0))))
    (yr (zbR false 2 (zH ixD (zp 0) (eC (.int 1))))
    (yr (zbR false 3 (zK 2 zcA (zg (zp 1) (zg (zp 2) zC))))
    (yr (zoi 4 (XQ zC))
    (yr (zav zmS (zg (zp 3) zC) (xD 5) zcf)
    (sFz 4 (yT (XS (zg (zp 3) (zg (eFn zad (zg (zp 4) zC)) zC)))))))))))
noncomputable def zw : List D → Option D := fnD 6 zcp
theorem zoe (T : Txt K mg ad) : xk P w K mg base CX0 6 ad.f_web_for ad.e_web_for ["kind"] (@spD ⟨K⟩ 1 zw) := by
  letI : KK := ⟨K⟩
  have G_kind_good := zjK (P := P) (w := w) (base := base) T
  have G_places_of := zkJ (P := P) (w := w) (base := base) T
  have G_are_tied := zmi (P := P) (w := w) (base := base) T
  refine yR (N := ["kind", "word", "size", "many", "ties", "one"]) (ps := ["kind"]) T.d_web_for.fn xU (g := zcp) fun cdv A outer s H E hr => ?_
  unfold zcp zcf
  exact (zj (yq (y9 (yE (zr (G_kind_good.mono (by decide)) hr rfl T.d_kind_good.at_ T.d_kind_good.kp T.d_kind_good.bd (zc (zd 0 (pv 0)) zh)))) (zl Vd) zD)
      (zj (xy (m := false) (i := 1) xU.nd rfl (Or.inr rfl) (yf (zd 0 (pv 0)) (zm zn) (fun _ _ => rfl)))
      (zj (xy (m := false) (i := 2) xU.nd rfl (Or.inr rfl) (yf (zd 0 (pv 0)) (zm zn) (fun _ _ => rfl)))
      (zj (xy (m := false) (i := 3) xU.nd rfl (Or.inl rfl) (zr (G_places_of.mono (by decide)) hr rfl T.d_places_of.at_ T.d_places_of.kp T.d_places_of.bd (zc (zd 1 (pv 1)) (zc (zd 2 (pv 2)) zh))))
      (zj (zce (i := 4) xU.nd rfl (Or.inl rfl) (XL zh))
      (zj (zgZ PassesOwn.never rfl rfl T.z_range (zc (zd 3 (pv 3)) zh) (yP (zU (i := 5) xU.nd rfl (Or.inr rfl))) (zl (zq3 (pv 4) (XR (zk9 (L := ["other"]) (M := ["kind", "word", "size", "many", "ties", "one"]) rfl (zaJ (by rfl) (by rfl) (by rfl) (by with_unfolding_all rfl) (by rfl) (by rfl) (by kernel_rfl) (all_cons rfl (all_cons rfl (all_cons rfl Zr)))) (zca rfl T.z_range (zc (XJ (zd 5 (pv 5)) (zm zn)) (zc (zd 3 (pv 3)) zh))) gs1 rb1 (fun _ _ _ _ => (zU (i := 0) zuJ rfl (Or.inl rfl) (.inr rfl))) (fun _ _ _ _ => (yE (zr (G_are_tied.mono (by decide)) hr rfl T.d_are_tied.at_ T.d_are_tied.kp T.d_are_tied.bd (zc (zd 2 (pv 2)) (zc (zd 3 (pv 3)) (zc (zd 6 (pv 6)) (zc (zd 0 (pv 0)) zh))))))) (fun _ _ _ _ => (yF (zc (zd 6 (pv 6)) (zc (zd 0 (pv 0)) zh)))))) (fun a b => zpG PySem.F.plainAttrs_list PySem.F.slot_list_extend PySem.F.type_list_extend zkv a b))))
      (zcm 4 (zl (zB (yF (zc (zd 3 (pv 3)) (zc (W1 xS zaq rfl T.z_tuple xg (zc (zd 4 (pv 4)) zh)) zh))))))))))))
noncomputable def zaj (r : List D → Option D) : SE → Ctl :=
  (sIf (xQ (tOf (zK 2 r (zg (zp 2) (zg (zp 3) zC))))) (yT (eC (.bl false))) yk)
noncomputable def vI (r : List D → Option D) : SE → Ctl :=
  (yr (sIf (tOf (zH zsG (zp 1) (eC .non))) (yT (zH zsG (zp 0) (eC .non))) yk)
    (yr (sIf (tOf (eUn (x8 .bool) (zp 1))) (yT (zjZ (eUn (x8 .bool) (zp 0)) (zH VI (zp 0) (zp 1)))) yk)
    (yr (sIf (tOf (eUn (x8 .int) (zp 1))) (yT (zjZ (eUn (x8 .int) (zp 0)) (zjZ (zup (eUn (x8 .bool) (zp 0))) (zH VI (zp 0) (zp 1))))) yk)
    (yr (sIf (tOf (eUn (x8 .str) (zp 1))) (yT (zjZ (eUn (x8 .str) (zp 0)) (zH VI (zp 0) (zp 1)))) yk)
    (yr (sIf (zqW (tOf (zH neD (eUn (x8 .list) (zp 1)) (eUn (x8 .list) (zp 0)))) (tOf (zH neD (eUn (x8 .tuple) (zp 1)) (eUn (x8 .tuple) (zp 0))))) (yT (eC (.bl false))) yk)
    (yr (sIf (tOf (zH neD (eFn zi9 (zg (zp 0) zC)) (eFn zi9 (zg (zp 1) zC)))) (yT (eC (.bl false))) yk)
    (yr (zlm (zsl (zg (zp 0) (zg (zp 1) zC))) (zqm 2 (V0 (xD 2) (V0 (xD 3) zra))) (zaj r))
    (yT (eC (.bl true))))))))))
noncomputable def y1 : List D → Option D := zux 4 vI 3
theorem zlh (T : Txt K mg ad) : xk P w K mg base CX0 4 ad.f__law_same ad.e__law_same ["found", "due"] (@spD ⟨K⟩ 2 y1) := by
  letI : KK := ⟨K⟩
  have R : ∀ n, xk P w K mg base CX0 (1 + n) ad.f__law_same ad.e__law_same ["found", "due"] (spD 2 (zux 4 vI n)) := by
    refine zs2 (P := P) (w := w) (mg := mg) (base := base) (k0 := 1) (g := vI) T.d__law_same.fn Wk fun k r hrec cdv A outer s H E hr => ?_
    unfold vI zaj
    exact (zj (yq (zT zow zmx (zJ _) (zd 1 (pv 1)) (zcZ zcV)) (zl (zB (xP zow zmx (zJ _) (zd 0 (pv 0)) (zcZ zcV)))) zD)
      (zj (yq (yE (zR .bool rfl T.z_isinstance (zd 1 (pv 1)) (yC (v := .ty "bool") rfl T.z_bool zc5 rfl))) (zl (zB (XO (zR .bool rfl T.z_isinstance (zd 0 (pv 0)) (yC (v := .ty "bool") rfl T.z_bool zc5 rfl)) (XT (xP (yO hr) yd (zJ _) (zd 0 (pv 0)) (zd 1 (pv 1))))))) zD)
      (zj (yq (yE (zR .int rfl T.z_isinstance (zd 1 (pv 1)) (yC (v := .ty "int") rfl T.z_int znj rfl))) (zl (zB (XO (zR .int rfl T.z_isinstance (zd 0 (pv 0)) (yC (v := .ty "int") rfl T.z_int znj rfl)) (XO (zqT (zR .bool rfl T.z_isinstance (zd 0 (pv 0)) (yC (v := .ty "bool") rfl T.z_bool zc5 rfl))) (XT (xP (yO hr) yd (zJ _) (zd 0 (pv 0)) (zd 1 (pv 1)))))))) zD)
      (zj (yq (yE (zR .str rfl T.z_isinstance (zd 1 (pv 1)) (yC (v := .ty "str") rfl T.z_str zpp rfl))) (zl (zB (XO (zR .str rfl T.z_isinstance (zd 0 (pv 0)) (yC (v := .ty "str") rfl T.z_str zpp rfl)) (XT (xP (yO hr) yd (zJ _) (zd 0 (pv 0)) (zd 1 (pv 1))))))) zD)
      (zj (yq (znW (zn3 (zT zmz zcv (zJ _) (zR .list rfl T.z_isinstance (zd 1 (pv 1)) (yC (v := .ty "list") rfl T.z_list zeP rfl)) (zR .list rfl T.z_isinstance (zd 0 (pv 0)) (yC (v := .ty "list") rfl T.z_list zeP rfl))) (zcX (zT zmz zcv (zJ _) (zR .tuple rfl T.z_isinstance (zd 1 (pv 1)) (yC (v := .ty "tuple") rfl T.z_tuple xg rfl)) (zR .tuple rfl T.z_isinstance (zd 0 (pv 0)) (yC (v := .ty "tuple") rfl T.z_tuple xg rfl)))))) (zl (zB (xE xN))) zD)
      (zj (yq (zT zmz zcv (zJ _) (yb zP xi rfl T.z_len xY (zc (zd 0 (pv 0)) zh)) (yb zP xi rfl T.z_len xY (zc (zd 1 (pv 1)) zh))) (zl (zB (xE xN))) zD)
      (zj (zba PassesOwn.never rfl (ztG rfl T.z_zip (zc (zd 0 (pv 0)) (zc (zd 1 (pv 1)) zh))) (znx rfl (x5 (yP (zU (i := 2) Wk.nd rfl (Or.inl rfl))) (x5 (yP (zU (i := 3) Wk.nd rfl (Or.inl rfl))) zhm))) (zl (yq (y9 (yE (zr hrec hr rfl T.d__law_same.at_ T.d__law_same.kp T.d__law_same.bd (zc (zd 2 (pv 2)) (zc (zd 3 (pv 3)) zh))))) (zl (zB (xE xN))) zD)))
      (zl (zB (xE xN))))))))))
  exact R 3
noncomputable def zbc : SE → Ctl :=
  (sIf (xQ (tOf (zK 2 y1 (zg (zK 2 yw (zg (zK 1 zw (zg (XS (zg (eC (.str "cube")) (zg (zp 5) zC))) zC)) (zg (eC (.int 1)) zC))) (zg (XS (zg (zp 4) (zg (zbf (fLR (zp 4))) zC))) zC))))) (yT (eC (.bl false))) yk)
noncomputable def VJ : SE → Ctl :=
  (sIf (xQ (tOf (zK 2 y1 (zg (zK 2 yw (zg (zK 1 zw (zg (XS (zg (eC (.str "ring")) (zg (zp 2) zC))) zC)) (zg (eC (.int 1)) zC))) (zg (XS (zg (zp 4) (zg (zbf (fLR (zp 2))) zC))) zC))))) (yT (eC (.bl false))) yk)
noncomputable def zM : SE → Ctl :=
  (yr (zbR false 3 (zH ixD (zbf (XQ (zg (eC (.int 1)) (zg (eC (.int 2)) (zg (eC (.int 4)) (zg (eC (.int 8)) (zg (eC (.int 16)) zC))))))) (zH zpJ (zp 2) (eC (.int 1)))))
    (yr (sIf (zaZ (tOf (zH ltD (zp 2) (eC (.int 5)))) (xQ (tOf (zK 2 y1 (zg (zK 3 zu (zg (zK 1 zw (zg (XS (zg (eC (.str "row")) (zg (zp 2) zC))) zC)) (zg (eC (.int 0)) (zg (zp 1) zC)))) (zg (zH zpT (zp 1) (zp 3)) zC)))))) (yT (eC (.bl false))) yk)
    (yr (sIf (zaZ (tOf (zH VI (zp 2) (eC (.int 5)))) (xQ (tOf (zK 2 y1 (zg (zK 3 zu (zg (zK 1 zw (zg (XS (zg (eC (.str "row")) (zg (zp 2) zC))) zC)) (zg (eC (.int 4)) (zg (eC (.int 1)) zC)))) (zg (eC (.int 16)) zC)))))) (yT (eC (.bl false))) yk)
    (yr (zbR false 4 (zH ixD (zbf (XQ (zg (zp 1) (zg (zH zpJ (zH zi8 (zH zpT (eC (.int 2)) (zp 1)) (zp 2)) (eC (.int 2))) zC)))) (eFn zuI (zg (zH gtD (zp 2) (eC (.int 1))) zC))))
    (yr (sIf (xQ (tOf (zK 2 y1 (zg (zK 3 zu (zg (zK 1 zw (zg (XS (zg (eC (.str "full")) (zg (zp 2) zC))) zC)) (zg (zH zpJ (zp 2) (eC (.int 1))) (zg (zp 1) zC)))) (zg (zp 4) zC))))) (yT (eC (.bl false))) yk)
    (sIf (zaZ (tOf (zH gtD (zp 2) (eC (.int 1)))) (xQ (tOf (zK 2 y1 (zg (zK 3 zu (zg (zK 1 zw (zg (XS (zg (eC (.str "star")) (zg (zH zpJ (zp 2) (eC (.int 1))) zC))) zC)) (zg (eC (.int 0)) (zg (zp 1) zC)))) (zg (zp 4) zC)))))) (yT (eC (.bl false))) yk))))))
noncomputable def zqJ : SE → Ctl :=
  (yr (zbR false 1 (zH zi8 (eC (.int 1)) (zH ztJ (zK 2 yX (zg (zp 0) (zg (eC (.int 0)) zC))) (eC (.int 3)))))
    (yr (zav zll (zg (eC (.int 1)) (zg (eC (.int 6)) zC)) (xD 2) zM)
    (yr (zlm (iOf (zbf (XQ (zg (XS (zg (eC (.int 3)) (zg (eC (.int 3)) zC))) (zg (XS (zg (eC (.int 4)) (zg (eC (.int 4)) zC))) (zg (XS (zg (eC (.int 5)) (zg (eC (.int 5)) zC))) (zg (XS (zg (eC (.int 6)) (zg (eC (.int 8)) zC))) zC))))))) (zqm 2 (V0 (xD 2) (V0 (xD 4) zra))) VJ)
    (yr (zlm (iOf (zbf (XQ (zg (XS (zg (eC (.int 0)) (zg (eC (.int 1)) zC))) (zg (XS (zg (eC (.int 1)) (zg (eC (.int 2)) zC))) (zg (XS (zg (eC (.int 2)) (zg (eC (.int 4)) zC))) zC)))))) (zqm 2 (V0 (xD 5) (V0 (xD 4) zra))) zbc)
    (yT (zjZ (zH VI (zK 3 zu (zg (zK 1 zw (zg (XS (zg (eC (.str "full")) (zg (eC (.int 6)) zC))) zC)) (zg (eC (.int 0)) (zg (eC (.int 1)) zC)))) (eC (.int 6))) (zH VI (zK 3 zu (zg (zK 1 zw (zg (XS (zg (eC (.str "star")) (zg (eC (.int 5)) zC))) zC)) (zg (eC (.int 0)) (zg (eC (.int 1)) zC)))) (eC (.int 6)))))))))
noncomputable def zt9 : List D → Option D := fnD 6 zqJ
theorem zN {t : Ev → Option Bool} {g : SE → Ctl} {ρ : SE} (h : t (visG ρ) = some false) : sIf t g yk ρ = .nx ρ := by unfold sIf; rw [h]; rfl
theorem sv {f : Ev → Option D} {ρ : SE} {d : D} (h : f (visF ρ) = some d) : vEv false f ρ = some d := h
noncomputable def zcn (n : Int) (ts : List (Int × Int)) : D := .tup [.int n, .tup (ts.map fun t => .tup [.int t.1, .int t.2])]
noncomputable def mkL (z : Bool) (ks : List (List Int)) : D := .dct z true (ks.map fun k => k.map Sum.inl) (ks.map fun _ => .bl true)
noncomputable def zsH : List Key → List Int → Bool
  | [], [] => true
  | .inl i :: r, j :: s => match zsM i j with
    | true => zsH r s
    | false => false
  | _, _ => false
theorem zrR : ∀ {k : List Key} {h : List Int}, zsH k h = true → k = h.map Sum.inl := by
  intro k
  induction k with
  | nil => intro h e; cases h with
    | nil => rfl
    | cons _ _ => cases e
  | cons a r ih => intro h e; cases h with
    | nil => cases a <;> cases e
    | cons j s => cases a with
      | inr x => cases e
      | inl i =>
        change (match zsM i j with | true => zsH r s | false => false) = true at e
        cases hq : zsM i j with
        | false => rw [hq] at e; cases e
        | true => rw [hq] at e; rw [zhd.mp hq, ih e]; rfl
noncomputable def lvQ : List (List Key) → List D → List (List Int) → Bool
  | [], [], [] => true
  | k :: ks, .bl true :: vs, h :: hs => match zsH k h with
    | true => lvQ ks vs hs
    | false => false
  | _, _, _ => false
theorem zt8 : ∀ {ks : List (List Key)} {vs : List D} {hs : List (List Int)}, lvQ ks vs hs = true → ks = hs.map (fun k => k.map Sum.inl) ∧ vs = hs.map fun _ => D.bl true := by
  intro ks
  induction ks with
  | nil => intro vs hs e; cases vs with
    | nil => cases hs with
      | nil => exact ⟨rfl, rfl⟩
      | cons _ _ => cases e
    | cons _ _ => cases e
  | cons k ks ih => intro vs hs e; cases vs with
    | nil => cases e
    | cons v vs => cases v with
      | bl b => cases b with
        | false => cases e
        | true => cases hs with
          | nil => cases e
          | cons h hs =>
            change (match zsH k h with | true => lvQ ks vs hs | false => false) = true at e
            cases hq : zsH k h with
            | false => rw [hq] at e; cases e
            | true =>
              rw [hq] at e
              obtain ⟨e1, e2⟩ := ih e
              rw [e1, e2, zrR hq]
              exact ⟨rfl, rfl⟩
      | _ => cases e
noncomputable def zk (o : Option D) (hs : List (List Int)) : Bool := match o with
  | some (.dct true true ks vs) => lvQ ks vs hs
  | _ => false
theorem zrH {o : Option D} {hs : List (List Int)} (h : zk o hs = true) : o = some (mkL true hs) := by
  unfold zk at h
  split at h
  · obtain ⟨e1, e2⟩ := zt8 h
    rw [e1, e2]
    rfl
  · cases h
noncomputable def chk (f : D → Option D) : Bool → List (List Int) → List (List (List Int)) → Bool
  | _, cur, [] => cur.isEmpty
  | z, cur, nx :: rest => !cur.isEmpty && (zk (f (mkL z cur)) nx && chk f true nx rest)
noncomputable abbrev whT : Ev → Option Bool := (zaZ (tOf (zH gtD (eFn zoO (zg (zp 6) zC)) (eC (.int 0)))) (tOf (zH leD (eFn zi9 (zg (zp 5) zC)) (zp 3))))
theorem zq6 (z : Bool) (cur : List (List Int)) : zoO [mkL z cur] = some (.int (cur.length : Nat)) := by
  show some (D.int (((cur.map fun k : List Int => (k.map Sum.inl : List Key)).length : Nat) : Int)) = _
  rw [List.length_map]
theorem zpM {W P M ST : D} : ∀ (rest : List (List (List Int))) (z : Bool) (cur : List (List Int)) (pre : List D) (fu : Nat), chk (fun d => za [d, ST, P, M]) z cur rest = true → rest.length < fu → pre.length + rest.length ≤ 300 →
    ∃ L d', L.length = pre.length + rest.length ∧ WG whT ym fu [.v W, .v P, .v M, .v (.int 300), .v ST, .o pre, .v (mkL z cur)] = .nx [.v W, .v P, .v M, .v (.int 300), .v ST, .o L, .v d'] := by
  intro rest
  induction rest with
  | nil =>
    intro z cur pre fu h hf hp
    obtain ⟨n, rfl⟩ : ∃ n, fu = n + 1 := ⟨fu - 1, by omega⟩
    have hc : cur = [] := List.isEmpty_iff.mp h
    subst hc
    refine ⟨pre, mkL z [], rfl, ?_⟩
    unfold WG
    rw [show whT (visG [.v W, .v P, .v M, .v (.int 300), .v ST, .o pre, .v (mkL z [])]) = some false from yB (zW (zbA (x := .int 0) (y := .int 0) (zqO (ds := [mkL z []]) rfl (zq6 z [])) rfl rfl))]
  | cons nx rest ih =>
    intro z cur pre fu h hf hp
    obtain ⟨n, rfl⟩ : ∃ n, fu = n + 1 := ⟨fu - 1, by omega⟩
    rw [List.length_cons] at hf hp
    have h : (!cur.isEmpty && (zk (za [mkL z cur, ST, P, M]) nx && chk (fun d => za [d, ST, P, M]) true nx rest)) = true := h
    rw [Bool.and_eq_true, Bool.and_eq_true] at h
    obtain ⟨h1, h2, h3⟩ := h
    have e2 := zrH h2
    have hpos : 0 < cur.length := by
      cases cur with
      | nil => cases h1
      | cons _ _ => exact Nat.succ_pos _
    obtain ⟨L, d', hL, e⟩ := ih true nx (pre ++ [mkL z cur]) n h3 (by omega) (by rw [List.length_append]; show pre.length + 1 + rest.length ≤ 300; omega)
    refine ⟨L, d', by rw [hL, List.length_append]; show pre.length + 1 + rest.length = pre.length + (rest.length + 1); omega, ?_⟩
    unfold WG
    have t1 : gtD (.int (cur.length : Nat)) (.int 0) = some (.bl true) := by
      show some (D.bl (decide ((0 : Int) < (cur.length : Nat)))) = _
      rw [decide_eq_true (by omega)]
    have t2 : leD (.int (pre.length : Nat)) (.int 300) = some (.bl true) := by
      show some (D.bl (decide (((pre.length : Nat) : Int) ≤ 300))) = _
      rw [decide_eq_true (by omega)]
    rw [show whT (visG [.v W, .v P, .v M, .v (.int 300), .v ST, .o pre, .v (mkL z cur)]) = some true from zS (zW (zbA (x := .int (cur.length : Nat)) (y := .int 0) (zqO (ds := [mkL z cur]) rfl (zq6 z cur)) rfl t1)) (zW (zbA (x := .int (pre.length : Nat)) (y := .int 300) (zqO (ds := [.lst pre]) rfl rfl) rfl t2))]
    have eb : ym [.v W, .v P, .v M, .v (.int 300), .v ST, .o pre, .v (mkL z cur)] = .nx [.v W, .v P, .v M, .v (.int 300), .v ST, .o (pre ++ [mkL z cur]), .v (mkL true nx)] := by
      unfold ym yr
      rw [zsW (m := false) (i := 5) (ds := pre) (d := mkL z cur) (f := zp 6) (ρ := [.v W, .v P, .v M, .v (.int 300), .v ST, .o pre, .v (mkL z cur)]) rfl rfl (by omega)]
      exact zcc (d := mkL true nx) (sv (zf (ds := [mkL z cur, ST, P, M]) rfl e2))
    rw [eb]
    exact e
theorem zq {W P M ST : D} {zs : List Int} {rest : List (List (List Int))} (e1 : xF [W, P, M] = some .non) (e2 : xo [W] = some .non) (e3 : Vt [W] = some ST)
    (e4 : (zns (eFn zad (zg (zH zpT (zbf (XQ (zg (eC (.int 0)) zC))) (zH ixD (zp 0) (eC (.int 0)))) zC)) (eC (.bl true))) [some W, some P, some M, some (.int 300), some ST, none, none] = some (mkL true [zs])) (hc : chk (fun d => za [d, ST, P, M]) true [zs] rest = true) (hl : rest.length ≤ 39) : zu [W, P, M] = some (.int (rest.length : Nat)) := by
  obtain ⟨L, d', hL, ew⟩ := zpM (W := W) rest true [zs] [] 40 hc (by omega) (by show 0 + rest.length ≤ 300; omega)
  have ef : xG [W, P, M, .int 300] = some (.lst L) := by
    refine ztN (ρ := [.v W, .v P, .v M, .v (.int 300), .no, .no, .no]) rfl ?_
    unfold yZ
    have es : zbR false 6 (zns (eFn zad (zg (zH zpT (zbf (XQ (zg (eC (.int 0)) zC))) (zH ixD (zp 0) (eC (.int 0)))) zC)) (eC (.bl true))) [.v W, .v P, .v M, .v (.int 300), .v ST, .o [], .no] = .nx [.v W, .v P, .v M, .v (.int 300), .v ST, .o [], .v (mkL true [zs])] := zcc (d := mkL true [zs]) e4
    refine zt (zcc (d := ST) (sv (zf (ds := [W]) rfl e3))) (zt (zr0 (ds := []) rfl) (zt es (zt ew ?_)))
    exact w_fz (ρ' := [.v W, .v P, .v M, .v (.int 300), .v ST, .v (.lst L), .v d']) rfl (zri rfl rfl)
  have ea : Yn [W, P, M] = some (.lst L) := by
    refine ztN (ρ := [.v W, .v P, .v M]) rfl ?_
    unfold xR
    exact zt (zm4 (d := .non) (zf (ds := [W, P, M]) rfl e1)) (zt (zm4 (d := .non) (zf (ds := [W]) rfl e2)) (zri (zlF (zf (ds := [W, P, M, .int 300]) rfl ef)) rfl))
  refine ztN (ρ := [.v W, .v P, .v M]) rfl ?_
  unfold znu
  refine zri (zlF (zqO (ds := [.lst L]) (zb (zf (ds := [W, P, M]) rfl ea) zo) (d := .int (rest.length : Nat)) ?_)) rfl
  show some (D.int (L.length : Nat)) = _
  rw [hL]
  show some (D.int ((0 + rest.length : Nat) : Int)) = _
  rw [Nat.zero_add]
noncomputable def zuL : SE → Ctl := yr (zbR false 3 (eFn zrz (zg (zp 2) zC))) (yT (XS (zg (zp 3) (zg (zbf (fLC (zoh zmS (zg (zH ixD (zp 0) (eC (.int 0))) zC)) b1 (tOf (zH VI (zH ixD (zp 3) (zp 0)) (zp 4))) (zp 0))) zC))))
theorem zcB {W d : D} {n : Nat} {v : Int} (e1 : xh [W] = some .non) (hW : ixD W (.int 0) = some (.int (n : Nat))) (hn : n ≤ 8) (h : ∀ j : Nat, j < n → zu [W, .int (j : Int), .int 1] = some (.int v))
    (hr : zuL [.v W, .v (.int 1), .v (.lst (List.replicate n (.int v))), .no] = .rt d) : yw [W, .int 1] = some d := by
  refine ztN (ρ := [.v W, .v (.int 1), .no, .no]) rfl ?_
  unfold Vc
  refine zt (zm4 (d := .non) (zf (ds := [W]) rfl e1)) (zt (ρ' := [.v W, .v (.int 1), .v (.lst (List.replicate n (.int v))), .no]) (zcc (sv (zts ?_))) (zri hr rfl))
  unfold fLC zoh
  have ea : zg (zH ixD (zp 0) (eC (.int 0))) zC (visF [.v W, .v (.int 1), .no, .no]) = some [.int (n : Nat)] := zb (zbA (x := W) (y := .int 0) rfl rfl hW) zo
  have er : zmS [.int (n : Nat)] = some (zm6 0 n) := by
    have c : n = 0 ∨ n = 1 ∨ n = 2 ∨ n = 3 ∨ n = 4 ∨ n = 5 ∨ n = 6 ∨ n = 7 ∨ n = 8 := by omega
    rcases c with rfl | rfl | rfl | rfl | rfl | rfl | rfl | rfl | rfl <;> kernel_rfl
  rw [ea, Option.bind_some, er, Option.bind_some, if_pos (ztB (by rw [zmp]; omega))]
  have em := zou (b := b1) (t := zj7) (f := zK 3 zu (zg (zp 1) (zg (zp 0) (zg (zp 2) zC)))) (ρ := visF [.v W, .v (.int 1), .no, .no]) (fun j : Nat => D.int (0 + (j : Int))) (fun _ => D.int v) (List.range n) (fun j hj => ⟨[some (.int (0 + (j : Int)))], rfl, rfl, by
    rw [Int.zero_add]
    exact zf (ds := [W, .int (j : Int), .int 1]) rfl (h j (List.mem_range.mp hj))⟩)
  refine Eq.trans em ?_
  rw [List.map_const', List.length_range]
theorem zO {f : D → Option D} {z : Bool} : chk f z [] [] = true := rfl
theorem ze {f : D → Option D} {z : Bool} {cur nx : List (List Int)} {rest : List (List (List Int))} (h1 : cur.isEmpty = false) (h2 : zk (f (mkL z cur)) nx = true) (h3 : chk f true nx rest = true) : chk f z cur (nx :: rest) = true := by
  show (!cur.isEmpty && (zk (f (mkL z cur)) nx && chk f true nx rest)) = true
  rw [h1, h2, h3]
  rfl
noncomputable def dec : Nat → Nat → List Int
  | 0, _ => []
  | w + 1, n => Int.ofNat (n % 32) :: dec w (n / 32)
noncomputable def lv (w : Nat) (cs : List Nat) : List (List Int) := cs.map (dec w)
noncomputable def zeK : D := zcn 1 []
noncomputable def zpe : D := .lst (([] : List (Int × Int)).map fun t => .tup [.int t.1, .int t.2])
theorem zsz : zw [.tup [.str "cube", .int 0]] = some zeK := by kernel_rfl
noncomputable def zcr : D := zcn 2 [(0, 1)]
noncomputable def zbq : D := .lst (([(0, 1), (1, 0)] : List (Int × Int)).map fun t => .tup [.int t.1, .int t.2])
theorem zsv : zw [.tup [.str "cube", .int 1]] = some zcr := by kernel_rfl
noncomputable def VG : D := zcn 4 [(0, 1), (0, 2), (1, 3), (2, 3)]
noncomputable def yy : D := .lst (([(0, 1), (0, 2), (1, 0), (1, 3), (2, 0), (2, 3), (3, 1), (3, 2)] : List (Int × Int)).map fun t => .tup [.int t.1, .int t.2])
theorem zsi : zw [.tup [.str "cube", .int 2]] = some VG := by kernel_rfl
noncomputable def Vp : D := zcn 1 []
noncomputable def Zx : D := .lst (([] : List (Int × Int)).map fun t => .tup [.int t.1, .int t.2])
theorem zmZ : zw [.tup [.str "full", .int 1]] = some Vp := by kernel_rfl
noncomputable def VM : D := zcn 2 [(0, 1)]
noncomputable def y3 : D := .lst (([(0, 1), (1, 0)] : List (Int × Int)).map fun t => .tup [.int t.1, .int t.2])
theorem zmH : zw [.tup [.str "full", .int 2]] = some VM := by kernel_rfl
noncomputable def VF : D := zcn 3 [(0, 1), (0, 2), (1, 2)]
noncomputable def yL : D := .lst (([(0, 1), (0, 2), (1, 0), (1, 2), (2, 0), (2, 1)] : List (Int × Int)).map fun t => .tup [.int t.1, .int t.2])
theorem zl5 : zw [.tup [.str "full", .int 3]] = some VF := by kernel_rfl
noncomputable def Vm : D := zcn 4 [(0, 1), (0, 2), (0, 3), (1, 2), (1, 3), (2, 3)]
noncomputable def yp : D := .lst (([(0, 1), (0, 2), (0, 3), (1, 0), (1, 2), (1, 3), (2, 0), (2, 1), (2, 3), (3, 0), (3, 1), (3, 2)] : List (Int × Int)).map fun t => .tup [.int t.1, .int t.2])
theorem zmQ : zw [.tup [.str "full", .int 4]] = some Vm := by kernel_rfl
noncomputable def Vv : D := zcn 5 [(0, 1), (0, 2), (0, 3), (0, 4), (1, 2), (1, 3), (1, 4), (2, 3), (2, 4), (3, 4)]
noncomputable def ya : D := .lst (([(0, 1), (0, 2), (0, 3), (0, 4), (1, 0), (1, 2), (1, 3), (1, 4), (2, 0), (2, 1), (2, 3), (2, 4), (3, 0), (3, 1), (3, 2), (3, 4), (4, 0), (4, 1), (4, 2), (4, 3)] : List (Int × Int)).map fun t => .tup [.int t.1, .int t.2])
theorem zl7 : zw [.tup [.str "full", .int 5]] = some Vv := by kernel_rfl
noncomputable def zlT : D := zcn 6 [(0, 1), (0, 2), (0, 3), (0, 4), (0, 5), (1, 2), (1, 3), (1, 4), (1, 5), (2, 3), (2, 4), (2, 5), (3, 4), (3, 5), (4, 5)]
noncomputable def Vq : D := .lst (([(0, 1), (0, 2), (0, 3), (0, 4), (0, 5), (1, 0), (1, 2), (1, 3), (1, 4), (1, 5), (2, 0), (2, 1), (2, 3), (2, 4), (2, 5), (3, 0), (3, 1), (3, 2), (3, 4), (3, 5), (4, 0), (4, 1), (4, 2), (4, 3), (4, 5), (5, 0), (5, 1), (5, 2), (5, 3), (5, 4)] : List (Int × Int)).map fun t => .tup [.int t.1, .int t.2])
theorem zrO : zw [.tup [.str "full", .int 6]] = some zlT := by kernel_rfl
noncomputable def zbh : D := zcn 3 [(0, 1), (0, 2), (1, 2)]
noncomputable def xJ : D := .lst (([(0, 1), (0, 2), (1, 0), (1, 2), (2, 0), (2, 1)] : List (Int × Int)).map fun t => .tup [.int t.1, .int t.2])
theorem zrL : zw [.tup [.str "ring", .int 3]] = some zbh := by kernel_rfl
noncomputable def VA : D := zcn 4 [(0, 1), (0, 3), (1, 2), (2, 3)]
noncomputable def yx : D := .lst (([(0, 1), (0, 3), (1, 0), (1, 2), (2, 1), (2, 3), (3, 0), (3, 2)] : List (Int × Int)).map fun t => .tup [.int t.1, .int t.2])
theorem zsu : zw [.tup [.str "ring", .int 4]] = some VA := by kernel_rfl
noncomputable def Wb : D := zcn 5 [(0, 1), (0, 4), (1, 2), (2, 3), (3, 4)]
noncomputable def zQ : D := .lst (([(0, 1), (0, 4), (1, 0), (1, 2), (2, 1), (2, 3), (3, 2), (3, 4), (4, 0), (4, 3)] : List (Int × Int)).map fun t => .tup [.int t.1, .int t.2])
theorem zrl : zw [.tup [.str "ring", .int 5]] = some Wb := by kernel_rfl
noncomputable def Xu : D := zcn 6 [(0, 1), (0, 5), (1, 2), (2, 3), (3, 4), (4, 5)]
noncomputable def zv : D := .lst (([(0, 1), (0, 5), (1, 0), (1, 2), (2, 1), (2, 3), (3, 2), (3, 4), (4, 3), (4, 5), (5, 0), (5, 4)] : List (Int × Int)).map fun t => .tup [.int t.1, .int t.2])
theorem zry : zw [.tup [.str "ring", .int 6]] = some Xu := by kernel_rfl
noncomputable def zck : D := zcn 1 []
noncomputable def V7 : D := .lst (([] : List (Int × Int)).map fun t => .tup [.int t.1, .int t.2])
theorem zoK : zw [.tup [.str "row", .int 1]] = some zck := by kernel_rfl
noncomputable def zbZ : D := zcn 2 [(0, 1)]
noncomputable def x4 : D := .lst (([(0, 1), (1, 0)] : List (Int × Int)).map fun t => .tup [.int t.1, .int t.2])
theorem zoG : zw [.tup [.str "row", .int 2]] = some zbZ := by kernel_rfl
noncomputable def zb3 : D := zcn 3 [(0, 1), (1, 2)]
noncomputable def yt : D := .lst (([(0, 1), (1, 0), (1, 2), (2, 1)] : List (Int × Int)).map fun t => .tup [.int t.1, .int t.2])
theorem zpt : zw [.tup [.str "row", .int 3]] = some zb3 := by kernel_rfl
noncomputable def zbX : D := zcn 4 [(0, 1), (1, 2), (2, 3)]
noncomputable def zI : D := .lst (([(0, 1), (1, 0), (1, 2), (2, 1), (2, 3), (3, 2)] : List (Int × Int)).map fun t => .tup [.int t.1, .int t.2])
theorem zpb : zw [.tup [.str "row", .int 4]] = some zbX := by kernel_rfl
noncomputable def zjR : D := zcn 5 [(0, 1), (1, 2), (2, 3), (3, 4)]
noncomputable def xA : D := .lst (([(0, 1), (1, 0), (1, 2), (2, 1), (2, 3), (3, 2), (3, 4), (4, 3)] : List (Int × Int)).map fun t => .tup [.int t.1, .int t.2])
theorem zor : zw [.tup [.str "row", .int 5]] = some zjR := by kernel_rfl
noncomputable def VC : D := zcn 2 [(0, 1)]
noncomputable def y4 : D := .lst (([(0, 1), (1, 0)] : List (Int × Int)).map fun t => .tup [.int t.1, .int t.2])
theorem zlp : zw [.tup [.str "star", .int 1]] = some VC := by kernel_rfl
noncomputable def VE : D := zcn 3 [(0, 1), (0, 2)]
noncomputable def yM : D := .lst (([(0, 1), (0, 2), (1, 0), (2, 0)] : List (Int × Int)).map fun t => .tup [.int t.1, .int t.2])
theorem zmh : zw [.tup [.str "star", .int 2]] = some VE := by kernel_rfl
noncomputable def Vz : D := zcn 4 [(0, 1), (0, 2), (0, 3)]
noncomputable def yn : D := .lst (([(0, 1), (0, 2), (0, 3), (1, 0), (2, 0), (3, 0)] : List (Int × Int)).map fun t => .tup [.int t.1, .int t.2])
theorem zmy : zw [.tup [.str "star", .int 3]] = some Vz := by kernel_rfl
noncomputable def Vw : D := zcn 5 [(0, 1), (0, 2), (0, 3), (0, 4)]
noncomputable def yc : D := .lst (([(0, 1), (0, 2), (0, 3), (0, 4), (1, 0), (2, 0), (3, 0), (4, 0)] : List (Int × Int)).map fun t => .tup [.int t.1, .int t.2])
theorem zmw : zw [.tup [.str "star", .int 4]] = some Vw := by kernel_rfl
noncomputable def zmD : D := zcn 6 [(0, 1), (0, 2), (0, 3), (0, 4), (0, 5)]
noncomputable def Vx : D := .lst (([(0, 1), (0, 2), (0, 3), (0, 4), (0, 5), (1, 0), (2, 0), (3, 0), (4, 0), (5, 0)] : List (Int × Int)).map fun t => .tup [.int t.1, .int t.2])
theorem zrq : zw [.tup [.str "star", .int 5]] = some zmD := by kernel_rfl
noncomputable def zjp : List (List Int) := lv 1 [0]
noncomputable def zbK : List (List Int) := lv 1 []
theorem zki : zk (za [mkL true zjp, V7, .int 0, .int 1]) zbK = true := by kernel_rfl
theorem zof : zu [zck, .int 0, .int 1] = some (.int 1) := zq (ST := V7) (zs := dec 1 0) (rest := [zbK]) (by kernel_rfl) (by kernel_rfl) (by kernel_rfl) (by kernel_rfl) (ze rfl zki zO) (Nat.le_of_ble_eq_true rfl)
noncomputable def zke : List (List Int) := lv 2 [0]
noncomputable def Wv : List (List Int) := lv 2 [32]
noncomputable def zbF : List (List Int) := lv 2 []
theorem zky : zk (za [mkL true zke, x4, .int 0, .int 1]) Wv = true := by kernel_rfl
theorem zlc : zk (za [mkL true Wv, x4, .int 0, .int 1]) zbF = true := by kernel_rfl
theorem zn9 : zu [zbZ, .int 0, .int 1] = some (.int 2) := zq (ST := x4) (zs := dec 2 0) (rest := [Wv, zbF]) (by kernel_rfl) (by kernel_rfl) (by kernel_rfl) (by kernel_rfl) (ze rfl zky (ze rfl zlc zO)) (Nat.le_of_ble_eq_true rfl)
noncomputable def zkZ : List (List Int) := lv 3 [0]
noncomputable def X9 : List (List Int) := lv 3 [32, 1024]
noncomputable def WQ : List (List Int) := lv 3 [1056, 2048]
noncomputable def WY : List (List Int) := lv 3 [3072]
noncomputable def zbC : List (List Int) := lv 3 []
theorem zk4 : zk (za [mkL true zkZ, yt, .int 0, .int 1]) X9 = true := by kernel_rfl
theorem zkL : zk (za [mkL true X9, yt, .int 0, .int 1]) WQ = true := by kernel_rfl
theorem zkl : zk (za [mkL true WQ, yt, .int 0, .int 1]) WY = true := by kernel_rfl
theorem zkg : zk (za [mkL true WY, yt, .int 0, .int 1]) zbC = true := by kernel_rfl
theorem znM : zu [zb3, .int 0, .int 1] = some (.int 4) := zq (ST := yt) (zs := dec 3 0) (rest := [X9, WQ, WY, zbC]) (by kernel_rfl) (by kernel_rfl) (by kernel_rfl) (by kernel_rfl) (ze rfl zk4 (ze rfl zkL (ze rfl zkl (ze rfl zkg zO)))) (Nat.le_of_ble_eq_true rfl)
noncomputable def zjg : List (List Int) := lv 4 [0]
noncomputable def X3 : List (List Int) := lv 4 [32, 1024, 32768]
noncomputable def WB : List (List Int) := lv 4 [1056, 32800, 2048, 33792, 65536]
noncomputable def Wo : List (List Int) := lv 4 [33824, 65568, 3072, 34816, 66560, 98304]
noncomputable def WR : List (List Int) := lv 4 [98336, 35840, 67584, 99328, 131072]
noncomputable def WV : List (List Int) := lv 4 [100352, 132096, 163840]
noncomputable def WX : List (List Int) := lv 4 [164864, 196608]
noncomputable def W7 : List (List Int) := lv 4 [229376]
noncomputable def zbH : List (List Int) := lv 4 []
theorem zlb : zk (za [mkL true zjg, zI, .int 0, .int 1]) X3 = true := by kernel_rfl
theorem zkR : zk (za [mkL true X3, zI, .int 0, .int 1]) WB = true := by kernel_rfl
theorem zjJ : zk (za [mkL true WB, zI, .int 0, .int 1]) Wo = true := by kernel_rfl
theorem zj9 : zk (za [mkL true Wo, zI, .int 0, .int 1]) WR = true := by kernel_rfl
theorem zji : zk (za [mkL true WR, zI, .int 0, .int 1]) WV = true := by kernel_rfl
theorem zj5 : zk (za [mkL true WV, zI, .int 0, .int 1]) WX = true := by kernel_rfl
theorem zj8 : zk (za [mkL true WX, zI, .int 0, .int 1]) W7 = true := by kernel_rfl
theorem zkO : zk (za [mkL true W7, zI, .int 0, .int 1]) zbH = true := by kernel_rfl
theorem znH : zu [zbX, .int 0, .int 1] = some (.int 8) := zq (ST := zI) (zs := dec 4 0) (rest := [X3, WB, Wo, WR, WV, WX, W7, zbH]) (by kernel_rfl) (by kernel_rfl) (by kernel_rfl) (by kernel_rfl) (ze rfl zlb (ze rfl zkR (ze rfl zjJ (ze rfl zj9 (ze rfl zji (ze rfl zj5 (ze rfl zj8 (ze rfl zkO zO)))))))) (Nat.le_of_ble_eq_true rfl)
noncomputable def ziw : List (List Int) := lv 1 [0]
noncomputable def VY : List (List Int) := lv 1 []
theorem ziE : zk (za [mkL true ziw, Zx, .int 0, .int 1]) VY = true := by kernel_rfl
theorem zmP : zu [Vp, .int 0, .int 1] = some (.int 1) := zq (ST := Zx) (zs := dec 1 0) (rest := [VY]) (by kernel_rfl) (by kernel_rfl) (by kernel_rfl) (by kernel_rfl) (ze rfl ziE zO) (Nat.le_of_ble_eq_true rfl)
noncomputable def zeH : List (List Int) := lv 2 [0]
noncomputable def vk : List (List Int) := lv 2 [1]
noncomputable def VQ : List (List Int) := lv 2 []
theorem zgC : zk (za [mkL true zeH, y3, .int 1, .int 1]) vk = true := by kernel_rfl
theorem zgN : zk (za [mkL true vk, y3, .int 1, .int 1]) VQ = true := by kernel_rfl
theorem zmG : zu [VM, .int 1, .int 1] = some (.int 2) := zq (ST := y3) (zs := dec 2 0) (rest := [vk, VQ]) (by kernel_rfl) (by kernel_rfl) (by kernel_rfl) (by kernel_rfl) (ze rfl zgC (ze rfl zgN zO)) (Nat.le_of_ble_eq_true rfl)
noncomputable def zeZ : List (List Int) := lv 3 [0]
noncomputable def Z0 : List (List Int) := lv 3 [1, 32]
noncomputable def wO : List (List Int) := lv 3 [33]
noncomputable def VU : List (List Int) := lv 3 []
theorem zeg : zk (za [mkL true zeZ, yL, .int 2, .int 1]) Z0 = true := by kernel_rfl
theorem ziD : zk (za [mkL true Z0, yL, .int 2, .int 1]) wO = true := by kernel_rfl
theorem zgK : zk (za [mkL true wO, yL, .int 2, .int 1]) VU = true := by kernel_rfl
theorem zml : zu [VF, .int 2, .int 1] = some (.int 3) := zq (ST := yL) (zs := dec 3 0) (rest := [Z0, wO, VU]) (by kernel_rfl) (by kernel_rfl) (by kernel_rfl) (by kernel_rfl) (ze rfl zeg (ze rfl ziD (ze rfl zgK zO))) (Nat.le_of_ble_eq_true rfl)
noncomputable def zdK : List (List Int) := lv 4 [0]
noncomputable def YS : List (List Int) := lv 4 [1, 32, 1024]
noncomputable def XC : List (List Int) := lv 4 [33, 1025, 1056]
noncomputable def YK : List (List Int) := lv 4 [1057]
noncomputable def VV : List (List Int) := lv 4 []
theorem zha : zk (za [mkL true zdK, yp, .int 3, .int 1]) YS = true := by kernel_rfl
theorem ze9 : zk (za [mkL true YS, yp, .int 3, .int 1]) XC = true := by kernel_rfl
theorem zgS : zk (za [mkL true XC, yp, .int 3, .int 1]) YK = true := by kernel_rfl
theorem zhH : zk (za [mkL true YK, yp, .int 3, .int 1]) VV = true := by kernel_rfl
theorem zmR : zu [Vm, .int 3, .int 1] = some (.int 4) := zq (ST := yp) (zs := dec 4 0) (rest := [YS, XC, YK, VV]) (by kernel_rfl) (by kernel_rfl) (by kernel_rfl) (by kernel_rfl) (ze rfl zha (ze rfl ze9 (ze rfl zgS (ze rfl zhH zO)))) (Nat.le_of_ble_eq_true rfl)
noncomputable def zd9 : List (List Int) := lv 5 [0]
noncomputable def vG : List (List Int) := lv 5 [1, 32, 1024, 32768]
noncomputable def vU : List (List Int) := lv 5 [33, 1025, 32769, 1056, 32800, 33792]
noncomputable def Zs : List (List Int) := lv 5 [1057, 32801, 33793, 33824]
noncomputable def YH : List (List Int) := lv 5 [33825]
noncomputable def zaK : List (List Int) := lv 5 []
theorem zhU : zk (za [mkL true zd9, ya, .int 4, .int 1]) vG = true := by kernel_rfl
theorem zgk : zk (za [mkL true vG, ya, .int 4, .int 1]) vU = true := by kernel_rfl
theorem zdv : zk (za [mkL true vU, ya, .int 4, .int 1]) Zs = true := by kernel_rfl
theorem zhn : zk (za [mkL true Zs, ya, .int 4, .int 1]) YH = true := by kernel_rfl
theorem zdw : zk (za [mkL true YH, ya, .int 4, .int 1]) zaK = true := by kernel_rfl
theorem zmI : zu [Vv, .int 4, .int 1] = some (.int 5) := zq (ST := ya) (zs := dec 5 0) (rest := [vG, vU, Zs, YH, zaK]) (by kernel_rfl) (by kernel_rfl) (by kernel_rfl) (by kernel_rfl) (ze rfl zhU (ze rfl zgk (ze rfl zdv (ze rfl zhn (ze rfl zdw zO))))) (Nat.le_of_ble_eq_true rfl)
noncomputable def zgW : List (List Int) := lv 2 [0]
noncomputable def Y3 : List (List Int) := lv 2 [32]
noncomputable def zaW : List (List Int) := lv 2 []
theorem zgj : zk (za [mkL true zgW, y4, .int 0, .int 1]) Y3 = true := by kernel_rfl
theorem zdf : zk (za [mkL true Y3, y4, .int 0, .int 1]) zaW = true := by kernel_rfl
theorem zlU : zu [VC, .int 0, .int 1] = some (.int 2) := zq (ST := y4) (zs := dec 2 0) (rest := [Y3, zaW]) (by kernel_rfl) (by kernel_rfl) (by kernel_rfl) (by kernel_rfl) (ze rfl zgj (ze rfl zdf zO)) (Nat.le_of_ble_eq_true rfl)
noncomputable def ziV : List (List Int) := lv 3 [0]
noncomputable def wT : List (List Int) := lv 3 [32, 1024]
noncomputable def Xz : List (List Int) := lv 3 [1056]
noncomputable def zaM : List (List Int) := lv 3 []
theorem ziS : zk (za [mkL true ziV, yM, .int 0, .int 1]) wT = true := by kernel_rfl
theorem zgT : zk (za [mkL true wT, yM, .int 0, .int 1]) Xz = true := by kernel_rfl
theorem ziU : zk (za [mkL true Xz, yM, .int 0, .int 1]) zaM = true := by kernel_rfl
theorem zl4 : zu [VE, .int 0, .int 1] = some (.int 3) := zq (ST := yM) (zs := dec 3 0) (rest := [wT, Xz, zaM]) (by kernel_rfl) (by kernel_rfl) (by kernel_rfl) (by kernel_rfl) (ze rfl ziS (ze rfl zgT (ze rfl ziU zO))) (Nat.le_of_ble_eq_true rfl)
noncomputable def zd3 : List (List Int) := lv 4 [0]
noncomputable def vO : List (List Int) := lv 4 [32, 1024, 32768]
noncomputable def vq : List (List Int) := lv 4 [1056, 32800, 33792]
noncomputable def Xe : List (List Int) := lv 4 [33824]
noncomputable def zaF : List (List Int) := lv 4 []
theorem zhK : zk (za [mkL true zd3, yn, .int 0, .int 1]) vO = true := by kernel_rfl
theorem zh1 : zk (za [mkL true vO, yn, .int 0, .int 1]) vq = true := by kernel_rfl
theorem zdp : zk (za [mkL true vq, yn, .int 0, .int 1]) Xe = true := by kernel_rfl
theorem zg5 : zk (za [mkL true Xe, yn, .int 0, .int 1]) zaF = true := by kernel_rfl
theorem zmK : zu [Vz, .int 0, .int 1] = some (.int 4) := zq (ST := yn) (zs := dec 4 0) (rest := [vO, vq, Xe, zaF]) (by kernel_rfl) (by kernel_rfl) (by kernel_rfl) (by kernel_rfl) (ze rfl zhK (ze rfl zh1 (ze rfl zdp (ze rfl zg5 zO)))) (Nat.le_of_ble_eq_true rfl)
noncomputable def zhw : List (List Int) := lv 5 [0]
noncomputable def wf : List (List Int) := lv 5 [32, 1024, 32768, 1048576]
noncomputable def YY : List (List Int) := lv 5 [1056, 32800, 1048608, 33792, 1049600, 1081344]
noncomputable def Z6 : List (List Int) := lv 5 [33824, 1049632, 1081376, 1082368]
noncomputable def vT : List (List Int) := lv 5 [1082400]
noncomputable def zab : List (List Int) := lv 5 []
theorem zhr : zk (za [mkL true zhw, yc, .int 0, .int 1]) wf = true := by kernel_rfl
theorem zf6 : zk (za [mkL true wf, yc, .int 0, .int 1]) YY = true := by kernel_rfl
theorem zif : zk (za [mkL true YY, yc, .int 0, .int 1]) Z6 = true := by kernel_rfl
theorem ziJ : zk (za [mkL true Z6, yc, .int 0, .int 1]) vT = true := by kernel_rfl
theorem zgR : zk (za [mkL true vT, yc, .int 0, .int 1]) zab = true := by kernel_rfl
theorem zmX : zu [Vw, .int 0, .int 1] = some (.int 5) := zq (ST := yc) (zs := dec 5 0) (rest := [wf, YY, Z6, vT, zab]) (by kernel_rfl) (by kernel_rfl) (by kernel_rfl) (by kernel_rfl) (ze rfl zhr (ze rfl zf6 (ze rfl zif (ze rfl ziJ (ze rfl zgR zO))))) (Nat.le_of_ble_eq_true rfl)
noncomputable def zk0 : List (List Int) := lv 1 [0]
noncomputable def X1 : List (List Int) := lv 1 [1]
noncomputable def zbD : List (List Int) := lv 1 []
theorem zkV : zk (za [mkL true zk0, V7, .int 0, .int 2]) X1 = true := by kernel_rfl
theorem zjF : zk (za [mkL true X1, V7, .int 0, .int 2]) zbD = true := by kernel_rfl
theorem zn0 : zu [zck, .int 0, .int 2] = some (.int 2) := zq (ST := V7) (zs := dec 1 0) (rest := [X1, zbD]) (by kernel_rfl) (by kernel_rfl) (by kernel_rfl) (by kernel_rfl) (ze rfl zkV (ze rfl zjF zO)) (Nat.le_of_ble_eq_true rfl)
noncomputable def zjP : List (List Int) := lv 2 [0]
noncomputable def WE : List (List Int) := lv 2 [1, 32]
noncomputable def Ws : List (List Int) := lv 2 [33, 64]
noncomputable def Wj : List (List Int) := lv 2 [96]
noncomputable def zbz : List (List Int) := lv 2 []
theorem zku : zk (za [mkL true zjP, x4, .int 0, .int 2]) WE = true := by kernel_rfl
theorem zjT : zk (za [mkL true WE, x4, .int 0, .int 2]) Ws = true := by kernel_rfl
theorem zkW : zk (za [mkL true Ws, x4, .int 0, .int 2]) Wj = true := by kernel_rfl
theorem zkI : zk (za [mkL true Wj, x4, .int 0, .int 2]) zbz = true := by kernel_rfl
theorem znV : zu [zbZ, .int 0, .int 2] = some (.int 4) := zq (ST := x4) (zs := dec 2 0) (rest := [WE, Ws, Wj, zbz]) (by kernel_rfl) (by kernel_rfl) (by kernel_rfl) (by kernel_rfl) (ze rfl zku (ze rfl zjT (ze rfl zkW (ze rfl zkI zO)))) (Nat.le_of_ble_eq_true rfl)
noncomputable def zjj : List (List Int) := lv 3 [0]
noncomputable def WF : List (List Int) := lv 3 [1, 32, 1024]
noncomputable def X6 : List (List Int) := lv 3 [33, 1025, 64, 1056, 2048]
noncomputable def Vb : List (List Int) := lv 3 [1057, 2049, 96, 1088, 2080, 3072]
noncomputable def Wt : List (List Int) := lv 3 [3073, 1120, 2112, 3104, 4096]
noncomputable def W2 : List (List Int) := lv 3 [3136, 4128, 5120]
noncomputable def X0 : List (List Int) := lv 3 [5152, 6144]
noncomputable def WZ : List (List Int) := lv 3 [7168]
noncomputable def zbE : List (List Int) := lv 3 []
theorem zka : zk (za [mkL true zjj, yt, .int 0, .int 2]) WF = true := by kernel_rfl
theorem zjl : zk (za [mkL true WF, yt, .int 0, .int 2]) X6 = true := by kernel_rfl
theorem zjc : zk (za [mkL true X6, yt, .int 0, .int 2]) Vb = true := by kernel_rfl
theorem zld : zk (za [mkL true Vb, yt, .int 0, .int 2]) Wt = true := by kernel_rfl
theorem zk8 : zk (za [mkL true Wt, yt, .int 0, .int 2]) W2 = true := by kernel_rfl
theorem zkF : zk (za [mkL true W2, yt, .int 0, .int 2]) X0 = true := by kernel_rfl
theorem zjL : zk (za [mkL true X0, yt, .int 0, .int 2]) WZ = true := by kernel_rfl
theorem zkU : zk (za [mkL true WZ, yt, .int 0, .int 2]) zbE = true := by kernel_rfl
theorem znX : zu [zb3, .int 0, .int 2] = some (.int 8) := zq (ST := yt) (zs := dec 3 0) (rest := [WF, X6, Vb, Wt, W2, X0, WZ, zbE]) (by kernel_rfl) (by kernel_rfl) (by kernel_rfl) (by kernel_rfl) (ze rfl zka (ze rfl zjl (ze rfl zjc (ze rfl zld (ze rfl zk8 (ze rfl zkF (ze rfl zjL (ze rfl zkU zO)))))))) (Nat.le_of_ble_eq_true rfl)
noncomputable def zjS : List (List Int) := lv 4 [0]
noncomputable def Wm : List (List Int) := lv 4 [1, 32, 1024, 32768]
noncomputable def X7 : List (List Int) := lv 4 [33, 1025, 32769, 64, 1056, 32800, 2048, 33792, 65536]
noncomputable def WS : List (List Int) := lv 4 [1057, 32801, 2049, 33793, 65537, 96, 1088, 32832, 2080, 33824, 65568, 3072, 34816, 66560, 98304]
noncomputable def W8 : List (List Int) := lv 4 [33825, 65569, 3073, 34817, 66561, 98305, 1120, 32864, 2112, 33856, 65600, 3104, 34848, 66592, 98336, 4096, 35840, 67584, 99328, 131072]
noncomputable def W5 : List (List Int) := lv 4 [98337, 35841, 67585, 99329, 131073, 33888, 65632, 3136, 34880, 66624, 98368, 4128, 35872, 67616, 99360, 131104, 5120, 36864, 68608, 100352, 132096, 163840]
noncomputable def Wi : List (List Int) := lv 4 [100353, 132097, 163841, 98400, 35904, 67648, 99392, 131136, 5152, 36896, 68640, 100384, 132128, 163872, 6144, 37888, 69632, 101376, 133120, 164864, 196608]
noncomputable def Wr : List (List Int) := lv 4 [164865, 196609, 100416, 132160, 163904, 37920, 69664, 101408, 133152, 164896, 196640, 7168, 38912, 70656, 102400, 134144, 165888, 197632, 229376]
noncomputable def X4 : List (List Int) := lv 4 [229377, 164928, 196672, 102432, 134176, 165920, 197664, 229408, 39936, 71680, 103424, 135168, 166912, 198656, 230400, 262144]
noncomputable def Wl : List (List Int) := lv 4 [229440, 166944, 198688, 230432, 262176, 104448, 136192, 167936, 199680, 231424, 263168, 294912]
noncomputable def ZA : List (List Int) := lv 4 [231456, 263200, 294944, 168960, 200704, 232448, 264192, 295936, 327680]
noncomputable def vD : List (List Int) := lv 4 [295968, 327712, 233472, 265216, 296960, 328704, 360448]
noncomputable def YU : List (List Int) := lv 4 [360480, 297984, 329728, 361472, 393216]
noncomputable def Zp : List (List Int) := lv 4 [362496, 394240, 425984]
noncomputable def YJ : List (List Int) := lv 4 [427008, 458752]
noncomputable def wn : List (List Int) := lv 4 [491520]
noncomputable def VO : List (List Int) := lv 4 []
theorem zkN : zk (za [mkL true zjS, zI, .int 0, .int 2]) Wm = true := by kernel_rfl
theorem zjG : zk (za [mkL true Wm, zI, .int 0, .int 2]) X7 = true := by kernel_rfl
theorem zjk : zk (za [mkL true X7, zI, .int 0, .int 2]) WS = true := by kernel_rfl
theorem zjY : zk (za [mkL true WS, zI, .int 0, .int 2]) W8 = true := by kernel_rfl
theorem zjV : zk (za [mkL true W8, zI, .int 0, .int 2]) W5 = true := by kernel_rfl
theorem zkS : zk (za [mkL true W5, zI, .int 0, .int 2]) Wi = true := by kernel_rfl
theorem zjB : zk (za [mkL true Wi, zI, .int 0, .int 2]) Wr = true := by kernel_rfl
theorem zk2 : zk (za [mkL true Wr, zI, .int 0, .int 2]) X4 = true := by kernel_rfl
theorem zjX : zk (za [mkL true X4, zI, .int 0, .int 2]) Wl = true := by kernel_rfl
theorem zkb : zk (za [mkL true Wl, zI, .int 0, .int 2]) ZA = true := by kernel_rfl
theorem zg7 : zk (za [mkL true ZA, zI, .int 0, .int 2]) vD = true := by kernel_rfl
theorem zhe : zk (za [mkL true vD, zI, .int 0, .int 2]) YU = true := by kernel_rfl
theorem zgo : zk (za [mkL true YU, zI, .int 0, .int 2]) Zp = true := by kernel_rfl
theorem zge : zk (za [mkL true Zp, zI, .int 0, .int 2]) YJ = true := by kernel_rfl
theorem zhL : zk (za [mkL true YJ, zI, .int 0, .int 2]) wn = true := by kernel_rfl
theorem zdA : zk (za [mkL true wn, zI, .int 0, .int 2]) VO = true := by kernel_rfl
theorem zn7 : zu [zbX, .int 0, .int 2] = some (.int 16) := zq (ST := zI) (zs := dec 4 0) (rest := [Wm, X7, WS, W8, W5, Wi, Wr, X4, Wl, ZA, vD, YU, Zp, YJ, wn, VO]) (by kernel_rfl) (by kernel_rfl) (by kernel_rfl) (by kernel_rfl) (ze rfl zkN (ze rfl zjG (ze rfl zjk (ze rfl zjY (ze rfl zjV (ze rfl zkS (ze rfl zjB (ze rfl zk2 (ze rfl zjX (ze rfl zkb (ze rfl zg7 (ze rfl zhe (ze rfl zgo (ze rfl zge (ze rfl zhL (ze rfl zdA zO)))))))))))))))) (Nat.le_of_ble_eq_true rfl)
noncomputable def zix : List (List Int) := lv 1 [0]
noncomputable def YN : List (List Int) := lv 1 [1]
noncomputable def zak : List (List Int) := lv 1 []
theorem zgn : zk (za [mkL true zix, Zx, .int 0, .int 2]) YN = true := by kernel_rfl
theorem zeD : zk (za [mkL true YN, Zx, .int 0, .int 2]) zak = true := by kernel_rfl
theorem zmV : zu [Vp, .int 0, .int 2] = some (.int 2) := zq (ST := Zx) (zs := dec 1 0) (rest := [YN, zak]) (by kernel_rfl) (by kernel_rfl) (by kernel_rfl) (by kernel_rfl) (ze rfl zgn (ze rfl zeD zO)) (Nat.le_of_ble_eq_true rfl)
noncomputable def zdE : List (List Int) := lv 2 [0]
noncomputable def XA : List (List Int) := lv 2 [1, 32]
noncomputable def Z9 : List (List Int) := lv 2 [2, 33]
noncomputable def vg : List (List Int) := lv 2 [3]
noncomputable def zae : List (List Int) := lv 2 []
theorem zih : zk (za [mkL true zdE, y3, .int 1, .int 2]) XA = true := by kernel_rfl
theorem zeA : zk (za [mkL true XA, y3, .int 1, .int 2]) Z9 = true := by kernel_rfl
theorem zhX : zk (za [mkL true Z9, y3, .int 1, .int 2]) vg = true := by kernel_rfl
theorem ziR : zk (za [mkL true vg, y3, .int 1, .int 2]) zae = true := by kernel_rfl
theorem zlB : zu [VM, .int 1, .int 2] = some (.int 4) := zq (ST := y3) (zs := dec 2 0) (rest := [XA, Z9, vg, zae]) (by kernel_rfl) (by kernel_rfl) (by kernel_rfl) (by kernel_rfl) (ze rfl zih (ze rfl zeA (ze rfl zhX (ze rfl ziR zO)))) (Nat.le_of_ble_eq_true rfl)
noncomputable def zds : List (List Int) := lv 3 [0]
noncomputable def vM : List (List Int) := lv 3 [1, 32, 1024]
noncomputable def wR : List (List Int) := lv 3 [2, 33, 1025, 64, 1056]
noncomputable def Xk : List (List Int) := lv 3 [3, 34, 65, 1057, 96]
noncomputable def vc : List (List Int) := lv 3 [35, 97]
noncomputable def zay : List (List Int) := lv 3 []
theorem zdS : zk (za [mkL true zds, yL, .int 2, .int 2]) vM = true := by kernel_rfl
theorem zgi : zk (za [mkL true vM, yL, .int 2, .int 2]) wR = true := by kernel_rfl
theorem zfj : zk (za [mkL true wR, yL, .int 2, .int 2]) Xk = true := by kernel_rfl
theorem zg3 : zk (za [mkL true Xk, yL, .int 2, .int 2]) vc = true := by kernel_rfl
theorem zft : zk (za [mkL true vc, yL, .int 2, .int 2]) zay = true := by kernel_rfl
theorem zlP : zu [VF, .int 2, .int 2] = some (.int 5) := zq (ST := yL) (zs := dec 3 0) (rest := [vM, wR, Xk, vc, zay]) (by kernel_rfl) (by kernel_rfl) (by kernel_rfl) (by kernel_rfl) (ze rfl zdS (ze rfl zgi (ze rfl zfj (ze rfl zg3 (ze rfl zft zO))))) (Nat.le_of_ble_eq_true rfl)
noncomputable def zfB : List (List Int) := lv 4 [0]
noncomputable def Zz : List (List Int) := lv 4 [1, 32, 1024, 32768]
noncomputable def wF : List (List Int) := lv 4 [2, 33, 1025, 32769, 64, 1056, 32800, 2048, 33792]
noncomputable def wQ : List (List Int) := lv 4 [3, 34, 1026, 65, 1057, 32801, 2049, 33793, 96, 1088, 2080, 33824, 3072]
noncomputable def Zu : List (List Int) := lv 4 [35, 1027, 1058, 97, 1089, 2081, 33825, 3073, 1120, 3104]
noncomputable def Y7 : List (List Int) := lv 4 [1059, 1121, 3105]
noncomputable def zaP : List (List Int) := lv 4 []
theorem zeU : zk (za [mkL true zfB, yp, .int 3, .int 2]) Zz = true := by kernel_rfl
theorem zfy : zk (za [mkL true Zz, yp, .int 3, .int 2]) wF = true := by kernel_rfl
theorem zg6 : zk (za [mkL true wF, yp, .int 3, .int 2]) wQ = true := by kernel_rfl
theorem zei : zk (za [mkL true wQ, yp, .int 3, .int 2]) Zu = true := by kernel_rfl
theorem zd8 : zk (za [mkL true Zu, yp, .int 3, .int 2]) Y7 = true := by kernel_rfl
theorem zhC : zk (za [mkL true Y7, yp, .int 3, .int 2]) zaP = true := by kernel_rfl
theorem zmk : zu [Vm, .int 3, .int 2] = some (.int 6) := zq (ST := yp) (zs := dec 4 0) (rest := [Zz, wF, wQ, Zu, Y7, zaP]) (by kernel_rfl) (by kernel_rfl) (by kernel_rfl) (by kernel_rfl) (ze rfl zeU (ze rfl zfy (ze rfl zg6 (ze rfl zei (ze rfl zd8 (ze rfl zhC zO)))))) (Nat.le_of_ble_eq_true rfl)
noncomputable def zeW : List (List Int) := lv 5 [0]
noncomputable def Zm : List (List Int) := lv 5 [1, 32, 1024, 32768, 1048576]
noncomputable def ZD : List (List Int) := lv 5 [2, 33, 1025, 32769, 1048577, 64, 1056, 32800, 1048608, 2048, 33792, 1049600, 65536, 1081344]
noncomputable def vC : List (List Int) := lv 5 [3, 34, 1026, 32770, 65, 1057, 32801, 1048609, 2049, 33793, 1049601, 65537, 1081345, 96, 1088, 32832, 2080, 33824, 1049632, 65568, 1081376, 3072, 34816, 66560, 1082368, 98304]
noncomputable def vt : List (List Int) := lv 5 [35, 1027, 32771, 1058, 32802, 33794, 97, 1089, 32833, 2081, 33825, 1049633, 65569, 1081377, 3073, 34817, 66561, 1082369, 98305, 1120, 32864, 33856, 3104, 34848, 66592, 1082400, 98336, 35840, 99328]
noncomputable def ZB : List (List Int) := lv 5 [1059, 32803, 33795, 33826, 1121, 32865, 33857, 3105, 34849, 66593, 1082401, 98337, 35841, 99329, 33888, 35872, 99360]
noncomputable def ve : List (List Int) := lv 5 [33827, 33889, 35873, 99361]
noncomputable def zal : List (List Int) := lv 5 []
theorem zeI : zk (za [mkL true zeW, ya, .int 4, .int 2]) Zm = true := by kernel_rfl
theorem zfF : zk (za [mkL true Zm, ya, .int 4, .int 2]) ZD = true := by kernel_rfl
theorem zeh : zk (za [mkL true ZD, ya, .int 4, .int 2]) vC = true := by kernel_rfl
theorem ziZ : zk (za [mkL true vC, ya, .int 4, .int 2]) vt = true := by kernel_rfl
theorem zig : zk (za [mkL true vt, ya, .int 4, .int 2]) ZB = true := by kernel_rfl
theorem ziX : zk (za [mkL true ZB, ya, .int 4, .int 2]) ve = true := by kernel_rfl
theorem zf9 : zk (za [mkL true ve, ya, .int 4, .int 2]) zal = true := by kernel_rfl
theorem zlJ : zu [Vv, .int 4, .int 2] = some (.int 7) := zq (ST := ya) (zs := dec 5 0) (rest := [Zm, ZD, vC, vt, ZB, ve, zal]) (by kernel_rfl) (by kernel_rfl) (by kernel_rfl) (by kernel_rfl) (ze rfl zeI (ze rfl zfF (ze rfl zeh (ze rfl ziZ (ze rfl zig (ze rfl ziX (ze rfl zf9 zO))))))) (Nat.le_of_ble_eq_true rfl)
noncomputable def zht : List (List Int) := lv 2 [0]
noncomputable def ZS : List (List Int) := lv 2 [1, 32]
noncomputable def vW : List (List Int) := lv 2 [33, 64]
noncomputable def vL : List (List Int) := lv 2 [96]
noncomputable def zaA : List (List Int) := lv 2 []
theorem zeF : zk (za [mkL true zht, y4, .int 0, .int 2]) ZS = true := by kernel_rfl
theorem zfh : zk (za [mkL true ZS, y4, .int 0, .int 2]) vW = true := by kernel_rfl
theorem zfm : zk (za [mkL true vW, y4, .int 0, .int 2]) vL = true := by kernel_rfl
theorem zhD : zk (za [mkL true vL, y4, .int 0, .int 2]) zaA = true := by kernel_rfl
theorem zlO : zu [VC, .int 0, .int 2] = some (.int 4) := zq (ST := y4) (zs := dec 2 0) (rest := [ZS, vW, vL, zaA]) (by kernel_rfl) (by kernel_rfl) (by kernel_rfl) (by kernel_rfl) (ze rfl zeF (ze rfl zfh (ze rfl zfm (ze rfl zhD zO)))) (Nat.le_of_ble_eq_true rfl)
noncomputable def zdy : List (List Int) := lv 3 [0]
noncomputable def Z4 : List (List Int) := lv 3 [1, 32, 1024]
noncomputable def vf : List (List Int) := lv 3 [33, 1025, 64, 1056, 2048]
noncomputable def wL : List (List Int) := lv 3 [1057, 96, 1088, 2080, 3072]
noncomputable def vw : List (List Int) := lv 3 [1120, 3104]
noncomputable def V3 : List (List Int) := lv 3 []
theorem zeE : zk (za [mkL true zdy, yM, .int 0, .int 2]) Z4 = true := by kernel_rfl
theorem zhv : zk (za [mkL true Z4, yM, .int 0, .int 2]) vf = true := by kernel_rfl
theorem ze6 : zk (za [mkL true vf, yM, .int 0, .int 2]) wL = true := by kernel_rfl
theorem zdl : zk (za [mkL true wL, yM, .int 0, .int 2]) vw = true := by kernel_rfl
theorem zhz : zk (za [mkL true vw, yM, .int 0, .int 2]) V3 = true := by kernel_rfl
theorem zmq : zu [VE, .int 0, .int 2] = some (.int 5) := zq (ST := yM) (zs := dec 3 0) (rest := [Z4, vf, wL, vw, V3]) (by kernel_rfl) (by kernel_rfl) (by kernel_rfl) (by kernel_rfl) (ze rfl zeE (ze rfl zhv (ze rfl ze6 (ze rfl zdl (ze rfl zhz zO))))) (Nat.le_of_ble_eq_true rfl)
noncomputable def zgV : List (List Int) := lv 4 [0]
noncomputable def Yf : List (List Int) := lv 4 [1, 32, 1024, 32768]
noncomputable def Yz : List (List Int) := lv 4 [33, 1025, 32769, 64, 1056, 32800, 2048, 33792, 65536]
noncomputable def Zw : List (List Int) := lv 4 [1057, 32801, 33793, 96, 1088, 32832, 2080, 33824, 65568, 3072, 34816, 66560, 98304]
noncomputable def YE : List (List Int) := lv 4 [33825, 1120, 32864, 33856, 3104, 34848, 66592, 98336, 35840, 99328]
noncomputable def Y5 : List (List Int) := lv 4 [33888, 35872, 99360]
noncomputable def zaS : List (List Int) := lv 4 []
theorem zgP : zk (za [mkL true zgV, yn, .int 0, .int 2]) Yf = true := by kernel_rfl
theorem zib : zk (za [mkL true Yf, yn, .int 0, .int 2]) Yz = true := by kernel_rfl
theorem zg4 : zk (za [mkL true Yz, yn, .int 0, .int 2]) Zw = true := by kernel_rfl
theorem zia : zk (za [mkL true Zw, yn, .int 0, .int 2]) YE = true := by kernel_rfl
theorem zhg : zk (za [mkL true YE, yn, .int 0, .int 2]) Y5 = true := by kernel_rfl
theorem zgy : zk (za [mkL true Y5, yn, .int 0, .int 2]) zaS = true := by kernel_rfl
theorem zmd : zu [Vz, .int 0, .int 2] = some (.int 6) := zq (ST := yn) (zs := dec 4 0) (rest := [Yf, Yz, Zw, YE, Y5, zaS]) (by kernel_rfl) (by kernel_rfl) (by kernel_rfl) (by kernel_rfl) (ze rfl zgP (ze rfl zib (ze rfl zg4 (ze rfl zia (ze rfl zhg (ze rfl zgy zO)))))) (Nat.le_of_ble_eq_true rfl)
noncomputable def ziN : List (List Int) := lv 5 [0]
noncomputable def YO : List (List Int) := lv 5 [1, 32, 1024, 32768, 1048576]
noncomputable def Yv : List (List Int) := lv 5 [33, 1025, 32769, 1048577, 64, 1056, 32800, 1048608, 2048, 33792, 1049600, 65536, 1081344, 2097152]
noncomputable def Zv : List (List Int) := lv 5 [1057, 32801, 1048609, 33793, 1049601, 1081345, 96, 1088, 32832, 1048640, 2080, 33824, 1049632, 65568, 1081376, 2097184, 3072, 34816, 1050624, 66560, 1082368, 2098176, 98304, 1114112, 2129920, 3145728]
noncomputable def Y2 : List (List Int) := lv 5 [33825, 1049633, 1081377, 1082369, 1120, 32864, 1048672, 33856, 1049664, 1081408, 3104, 34848, 1050656, 66592, 1082400, 2098208, 98336, 1114144, 2129952, 3145760, 35840, 1051648, 1083392, 99328, 1115136, 2130944, 3146752, 1146880, 3178496]
noncomputable def XB : List (List Int) := lv 5 [1082401, 33888, 1049696, 1081440, 1082432, 35872, 1051680, 1083424, 99360, 1115168, 2130976, 3146784, 1146912, 3178528, 1084416, 1147904, 3179520]
noncomputable def vb : List (List Int) := lv 5 [1082464, 1084448, 1147936, 3179552]
noncomputable def zaz : List (List Int) := lv 5 []
theorem zfT : zk (za [mkL true ziN, yc, .int 0, .int 2]) YO = true := by kernel_rfl
theorem zfL : zk (za [mkL true YO, yc, .int 0, .int 2]) Yv = true := by kernel_rfl
theorem zgp : zk (za [mkL true Yv, yc, .int 0, .int 2]) Zv = true := by kernel_rfl
theorem ziB : zk (za [mkL true Zv, yc, .int 0, .int 2]) Y2 = true := by kernel_rfl
theorem zfb : zk (za [mkL true Y2, yc, .int 0, .int 2]) XB = true := by kernel_rfl
theorem zf5 : zk (za [mkL true XB, yc, .int 0, .int 2]) vb = true := by kernel_rfl
theorem zdk : zk (za [mkL true vb, yc, .int 0, .int 2]) zaz = true := by kernel_rfl
theorem zl3 : zu [Vw, .int 0, .int 2] = some (.int 7) := zq (ST := yc) (zs := dec 5 0) (rest := [YO, Yv, Zv, Y2, XB, vb, zaz]) (by kernel_rfl) (by kernel_rfl) (by kernel_rfl) (by kernel_rfl) (ze rfl zfT (ze rfl zfL (ze rfl zgp (ze rfl ziB (ze rfl zfb (ze rfl zf5 (ze rfl zdk zO))))))) (Nat.le_of_ble_eq_true rfl)
noncomputable def zkT : List (List Int) := lv 1 [0]
noncomputable def WU : List (List Int) := lv 1 [1]
noncomputable def W0 : List (List Int) := lv 1 [2]
noncomputable def zbL : List (List Int) := lv 1 []
theorem zk5 : zk (za [mkL true zkT, V7, .int 0, .int 3]) WU = true := by kernel_rfl
theorem zjo : zk (za [mkL true WU, V7, .int 0, .int 3]) W0 = true := by kernel_rfl
theorem zkD : zk (za [mkL true W0, V7, .int 0, .int 3]) zbL = true := by kernel_rfl
theorem znR : zu [zck, .int 0, .int 3] = some (.int 3) := zq (ST := V7) (zs := dec 1 0) (rest := [WU, W0, zbL]) (by kernel_rfl) (by kernel_rfl) (by kernel_rfl) (by kernel_rfl) (ze rfl zk5 (ze rfl zjo (ze rfl zkD zO))) (Nat.le_of_ble_eq_true rfl)
noncomputable def zli : List (List Int) := lv 2 [0]
noncomputable def W3 : List (List Int) := lv 2 [1, 32]
noncomputable def Wd : List (List Int) := lv 2 [2, 33, 64]
noncomputable def Wp : List (List Int) := lv 2 [34, 65, 96]
noncomputable def Ww : List (List Int) := lv 2 [97, 128]
noncomputable def Wu : List (List Int) := lv 2 [160]
noncomputable def zby : List (List Int) := lv 2 []
theorem zjz : zk (za [mkL true zli, x4, .int 0, .int 3]) W3 = true := by kernel_rfl
theorem zjO : zk (za [mkL true W3, x4, .int 0, .int 3]) Wd = true := by kernel_rfl
theorem zkQ : zk (za [mkL true Wd, x4, .int 0, .int 3]) Wp = true := by kernel_rfl
theorem zk6 : zk (za [mkL true Wp, x4, .int 0, .int 3]) Ww = true := by kernel_rfl
theorem zlg : zk (za [mkL true Ww, x4, .int 0, .int 3]) Wu = true := by kernel_rfl
theorem zk7 : zk (za [mkL true Wu, x4, .int 0, .int 3]) zby = true := by kernel_rfl
theorem zn6 : zu [zbZ, .int 0, .int 3] = some (.int 6) := zq (ST := x4) (zs := dec 2 0) (rest := [W3, Wd, Wp, Ww, Wu, zby]) (by kernel_rfl) (by kernel_rfl) (by kernel_rfl) (by kernel_rfl) (ze rfl zjz (ze rfl zjO (ze rfl zkQ (ze rfl zk6 (ze rfl zlg (ze rfl zk7 zO)))))) (Nat.le_of_ble_eq_true rfl)
noncomputable def zkc : List (List Int) := lv 3 [0]
noncomputable def W9 : List (List Int) := lv 3 [1, 32, 1024]
noncomputable def WJ : List (List Int) := lv 3 [2, 33, 1025, 64, 1056, 2048]
noncomputable def W6 : List (List Int) := lv 3 [34, 1026, 65, 1057, 2049, 96, 1088, 2080, 3072]
noncomputable def Wf : List (List Int) := lv 3 [1058, 2050, 97, 1089, 2081, 3073, 128, 1120, 2112, 3104, 4096]
noncomputable def XV : List (List Int) := lv 3 [3074, 1121, 2113, 3105, 4097, 160, 1152, 2144, 3136, 4128, 5120]
noncomputable def WO : List (List Int) := lv 3 [3137, 4129, 5121, 1184, 2176, 3168, 4160, 5152, 6144]
noncomputable def XW : List (List Int) := lv 3 [5153, 6145, 3200, 4192, 5184, 6176, 7168]
noncomputable def Wz : List (List Int) := lv 3 [7169, 5216, 6208, 7200, 8192]
noncomputable def WH : List (List Int) := lv 3 [7232, 8224, 9216]
noncomputable def XF : List (List Int) := lv 3 [9248, 10240]
noncomputable def Xi : List (List Int) := lv 3 [11264]
noncomputable def zah : List (List Int) := lv 3 []
theorem zjE : zk (za [mkL true zkc, yt, .int 0, .int 3]) W9 = true := by kernel_rfl
theorem zkX : zk (za [mkL true W9, yt, .int 0, .int 3]) WJ = true := by kernel_rfl
theorem zkm : zk (za [mkL true WJ, yt, .int 0, .int 3]) W6 = true := by kernel_rfl
theorem zjW : zk (za [mkL true W6, yt, .int 0, .int 3]) Wf = true := by kernel_rfl
theorem zjm : zk (za [mkL true Wf, yt, .int 0, .int 3]) XV = true := by kernel_rfl
theorem zj4 : zk (za [mkL true XV, yt, .int 0, .int 3]) WO = true := by kernel_rfl
theorem zjx : zk (za [mkL true WO, yt, .int 0, .int 3]) XW = true := by kernel_rfl
theorem zks : zk (za [mkL true XW, yt, .int 0, .int 3]) Wz = true := by kernel_rfl
theorem zkM : zk (za [mkL true Wz, yt, .int 0, .int 3]) WH = true := by kernel_rfl
theorem zjw : zk (za [mkL true WH, yt, .int 0, .int 3]) XF = true := by kernel_rfl
theorem zdB : zk (za [mkL true XF, yt, .int 0, .int 3]) Xi = true := by kernel_rfl
theorem zfA : zk (za [mkL true Xi, yt, .int 0, .int 3]) zah = true := by kernel_rfl
theorem znZ : zu [zb3, .int 0, .int 3] = some (.int 12) := zq (ST := yt) (zs := dec 3 0) (rest := [W9, WJ, W6, Wf, XV, WO, XW, Wz, WH, XF, Xi, zah]) (by kernel_rfl) (by kernel_rfl) (by kernel_rfl) (by kernel_rfl) (ze rfl zjE (ze rfl zkX (ze rfl zkm (ze rfl zjW (ze rfl zjm (ze rfl zj4 (ze rfl zjx (ze rfl zks (ze rfl zkM (ze rfl zjw (ze rfl zdB (ze rfl zfA zO)))))))))))) (Nat.le_of_ble_eq_true rfl)
noncomputable def zjq : List (List Int) := lv 4 [0]
noncomputable def X5 : List (List Int) := lv 4 [1, 32, 1024, 32768]
noncomputable def We : List (List Int) := lv 4 [2, 33, 1025, 32769, 64, 1056, 32800, 2048, 33792, 65536]
noncomputable def Wc : List (List Int) := lv 4 [34, 1026, 32770, 65, 1057, 32801, 2049, 33793, 65537, 96, 1088, 32832, 2080, 33824, 65568, 3072, 34816, 66560, 98304]
noncomputable def Wq : List (List Int) := lv 4 [1058, 32802, 2050, 33794, 65538, 97, 1089, 32833, 2081, 33825, 65569, 3073, 34817, 66561, 98305, 128, 1120, 32864, 2112, 33856, 65600, 3104, 34848, 66592, 98336, 4096, 35840, 67584, 99328, 131072]
noncomputable def XY : List (List Int) := lv 4 [33826, 65570, 3074, 34818, 66562, 98306, 1121, 32865, 2113, 33857, 65601, 3105, 34849, 66593, 98337, 4097, 35841, 67585, 99329, 131073, 160, 1152, 32896, 2144, 33888, 65632, 3136, 34880, 66624, 98368, 4128, 35872, 67616, 99360, 131104, 5120, 36864, 68608, 100352, 132096, 163840]
noncomputable def X2 : List (List Int) := lv 4 [98338, 35842, 67586, 99330, 131074, 33889, 65633, 3137, 34881, 66625, 98369, 4129, 35873, 67617, 99361, 131105, 5121, 36865, 68609, 100353, 132097, 163841, 1184, 32928, 2176, 33920, 65664, 3168, 34912, 66656, 98400, 4160, 35904, 67648, 99392, 131136, 5152, 36896, 68640, 100384, 132128, 163872, 6144, 37888, 69632, 101376, 133120, 164864, 196608]
noncomputable def WM : List (List Int) := lv 4 [100354, 132098, 163842, 98401, 35905, 67649, 99393, 131137, 5153, 36897, 68641, 100385, 132129, 163873, 6145, 37889, 69633, 101377, 133121, 164865, 196609, 33952, 65696, 3200, 34944, 66688, 98432, 4192, 35936, 67680, 99424, 131168, 5184, 36928, 68672, 100416, 132160, 163904, 6176, 37920, 69664, 101408, 133152, 164896, 196640, 7168, 38912, 70656, 102400, 134144, 165888, 197632, 229376]
noncomputable def Wn : List (List Int) := lv 4 [164866, 196610, 100417, 132161, 163905, 37921, 69665, 101409, 133153, 164897, 196641, 7169, 38913, 70657, 102401, 134145, 165889, 197633, 229377, 98464, 35968, 67712, 99456, 131200, 5216, 36960, 68704, 100448, 132192, 163936, 6208, 37952, 69696, 101440, 133184, 164928, 196672, 7200, 38944, 70688, 102432, 134176, 165920, 197664, 229408, 8192, 39936, 71680, 103424, 135168, 166912, 198656, 230400, 262144]
noncomputable def W4 : List (List Int) := lv 4 [229378, 164929, 196673, 102433, 134177, 165921, 197665, 229409, 39937, 71681, 103425, 135169, 166913, 198657, 230401, 262145, 100480, 132224, 163968, 37984, 69728, 101472, 133216, 164960, 196704, 7232, 38976, 70720, 102464, 134208, 165952, 197696, 229440, 8224, 39968, 71712, 103456, 135200, 166944, 198688, 230432, 262176, 9216, 40960, 72704, 104448, 136192, 167936, 199680, 231424, 263168, 294912]
noncomputable def XD : List (List Int) := lv 4 [229441, 166945, 198689, 230433, 262177, 104449, 136193, 167937, 199681, 231425, 263169, 294913, 164992, 196736, 102496, 134240, 165984, 197728, 229472, 40000, 71744, 103488, 135232, 166976, 198720, 230464, 262208, 9248, 40992, 72736, 104480, 136224, 167968, 199712, 231456, 263200, 294944, 10240, 41984, 73728, 105472, 137216, 168960, 200704, 232448, 264192, 295936, 327680]
noncomputable def wC : List (List Int) := lv 4 [231457, 263201, 294945, 168961, 200705, 232449, 264193, 295937, 327681, 229504, 167008, 198752, 230496, 262240, 104512, 136256, 168000, 199744, 231488, 263232, 294976, 42016, 73760, 105504, 137248, 168992, 200736, 232480, 264224, 295968, 327712, 11264, 43008, 74752, 106496, 138240, 169984, 201728, 233472, 265216, 296960, 328704, 360448]
noncomputable def YR : List (List Int) := lv 4 [295969, 327713, 233473, 265217, 296961, 328705, 360449, 231520, 263264, 295008, 169024, 200768, 232512, 264256, 296000, 327744, 106528, 138272, 170016, 201760, 233504, 265248, 296992, 328736, 360480, 44032, 75776, 107520, 139264, 171008, 202752, 234496, 266240, 297984, 329728, 361472, 393216]
noncomputable def Y9 : List (List Int) := lv 4 [360481, 297985, 329729, 361473, 393217, 296032, 327776, 233536, 265280, 297024, 328768, 360512, 171040, 202784, 234528, 266272, 298016, 329760, 361504, 393248, 108544, 140288, 172032, 203776, 235520, 267264, 299008, 330752, 362496, 394240, 425984]
noncomputable def Xc : List (List Int) := lv 4 [362497, 394241, 425985, 360544, 298048, 329792, 361536, 393280, 235552, 267296, 299040, 330784, 362528, 394272, 426016, 173056, 204800, 236544, 268288, 300032, 331776, 363520, 395264, 427008, 458752]
noncomputable def Xx : List (List Int) := lv 4 [427009, 458753, 362560, 394304, 426048, 300064, 331808, 363552, 395296, 427040, 458784, 237568, 269312, 301056, 332800, 364544, 396288, 428032, 459776, 491520]
noncomputable def Ze : List (List Int) := lv 4 [491521, 427072, 458816, 364576, 396320, 428064, 459808, 491552, 302080, 333824, 365568, 397312, 429056, 460800, 492544, 524288]
noncomputable def Z5 : List (List Int) := lv 4 [491584, 429088, 460832, 492576, 524320, 366592, 398336, 430080, 461824, 493568, 525312, 557056]
noncomputable def wB : List (List Int) := lv 4 [493600, 525344, 557088, 431104, 462848, 494592, 526336, 558080, 589824]
noncomputable def ZU : List (List Int) := lv 4 [558112, 589856, 495616, 527360, 559104, 590848, 622592]
noncomputable def vd : List (List Int) := lv 4 [622624, 560128, 591872, 623616, 655360]
noncomputable def Yu : List (List Int) := lv 4 [624640, 656384, 688128]
noncomputable def Yr : List (List Int) := lv 4 [689152, 720896]
noncomputable def ZQ : List (List Int) := lv 4 [753664]
noncomputable def za0 : List (List Int) := lv 4 []
theorem zjH : zk (za [mkL true zjq, zI, .int 0, .int 3]) X5 = true := by kernel_rfl
theorem zjA : zk (za [mkL true X5, zI, .int 0, .int 3]) We = true := by kernel_rfl
theorem zkk : zk (za [mkL true We, zI, .int 0, .int 3]) Wc = true := by kernel_rfl
theorem zkh : zk (za [mkL true Wc, zI, .int 0, .int 3]) Wq = true := by kernel_rfl
theorem zkG : zk (za [mkL true Wq, zI, .int 0, .int 3]) XY = true := by kernel_rfl
theorem zjf : zk (za [mkL true XY, zI, .int 0, .int 3]) X2 = true := by kernel_rfl
theorem zjt : zk (za [mkL true X2, zI, .int 0, .int 3]) WM = true := by kernel_rfl
theorem zkq : zk (za [mkL true WM, zI, .int 0, .int 3]) Wn = true := by kernel_rfl
theorem zjC : zk (za [mkL true Wn, zI, .int 0, .int 3]) W4 = true := by kernel_rfl
theorem zkP : zk (za [mkL true W4, zI, .int 0, .int 3]) XD = true := by kernel_rfl
theorem zg1 : zk (za [mkL true XD, zI, .int 0, .int 3]) wC = true := by kernel_rfl
theorem zfz : zk (za [mkL true wC, zI, .int 0, .int 3]) YR = true := by kernel_rfl
theorem zf1 : zk (za [mkL true YR, zI, .int 0, .int 3]) Y9 = true := by kernel_rfl
theorem zi5 : zk (za [mkL true Y9, zI, .int 0, .int 3]) Xc = true := by kernel_rfl
theorem zfU : zk (za [mkL true Xc, zI, .int 0, .int 3]) Xx = true := by kernel_rfl
theorem ziI : zk (za [mkL true Xx, zI, .int 0, .int 3]) Ze = true := by kernel_rfl
theorem zgU : zk (za [mkL true Ze, zI, .int 0, .int 3]) Z5 = true := by kernel_rfl
theorem zeT : zk (za [mkL true Z5, zI, .int 0, .int 3]) wB = true := by kernel_rfl
theorem zgl : zk (za [mkL true wB, zI, .int 0, .int 3]) ZU = true := by kernel_rfl
theorem zdx : zk (za [mkL true ZU, zI, .int 0, .int 3]) vd = true := by kernel_rfl
theorem ziK : zk (za [mkL true vd, zI, .int 0, .int 3]) Yu = true := by kernel_rfl
theorem zi4 : zk (za [mkL true Yu, zI, .int 0, .int 3]) Yr = true := by kernel_rfl
theorem zem : zk (za [mkL true Yr, zI, .int 0, .int 3]) ZQ = true := by kernel_rfl
theorem zfk : zk (za [mkL true ZQ, zI, .int 0, .int 3]) za0 = true := by kernel_rfl
theorem zn2 : zu [zbX, .int 0, .int 3] = some (.int 24) := zq (ST := zI) (zs := dec 4 0) (rest := [X5, We, Wc, Wq, XY, X2, WM, Wn, W4, XD, wC, YR, Y9, Xc, Xx, Ze, Z5, wB, ZU, vd, Yu, Yr, ZQ, za0]) (by kernel_rfl) (by kernel_rfl) (by kernel_rfl) (by kernel_rfl) (ze rfl zjH (ze rfl zjA (ze rfl zkk (ze rfl zkh (ze rfl zkG (ze rfl zjf (ze rfl zjt (ze rfl zkq (ze rfl zjC (ze rfl zkP (ze rfl zg1 (ze rfl zfz (ze rfl zf1 (ze rfl zi5 (ze rfl zfU (ze rfl ziI (ze rfl zgU (ze rfl zeT (ze rfl zgl (ze rfl zdx (ze rfl ziK (ze rfl zi4 (ze rfl zem (ze rfl zfk zO)))))))))))))))))))))))) (Nat.le_of_ble_eq_true rfl)
noncomputable def zeL : List (List Int) := lv 1 [0]
noncomputable def wq : List (List Int) := lv 1 [1]
noncomputable def w8 : List (List Int) := lv 1 [2]
noncomputable def zag : List (List Int) := lv 1 []
theorem zeC : zk (za [mkL true zeL, Zx, .int 0, .int 3]) wq = true := by kernel_rfl
theorem zf4 : zk (za [mkL true wq, Zx, .int 0, .int 3]) w8 = true := by kernel_rfl
theorem zf2 : zk (za [mkL true w8, Zx, .int 0, .int 3]) zag = true := by kernel_rfl
theorem zlA : zu [Vp, .int 0, .int 3] = some (.int 3) := zq (ST := Zx) (zs := dec 1 0) (rest := [wq, w8, zag]) (by kernel_rfl) (by kernel_rfl) (by kernel_rfl) (by kernel_rfl) (ze rfl zeC (ze rfl zf4 (ze rfl zf2 zO))) (Nat.le_of_ble_eq_true rfl)
noncomputable def zdu : List (List Int) := lv 2 [0]
noncomputable def Z2 : List (List Int) := lv 2 [1, 32]
noncomputable def Zb : List (List Int) := lv 2 [2, 33, 64]
noncomputable def vy : List (List Int) := lv 2 [3, 34, 65]
noncomputable def Yd : List (List Int) := lv 2 [4, 35]
noncomputable def wV : List (List Int) := lv 2 [5]
noncomputable def zas : List (List Int) := lv 2 []
theorem zfD : zk (za [mkL true zdu, y3, .int 1, .int 3]) Z2 = true := by kernel_rfl
theorem ziM : zk (za [mkL true Z2, y3, .int 1, .int 3]) Zb = true := by kernel_rfl
theorem zff : zk (za [mkL true Zb, y3, .int 1, .int 3]) vy = true := by kernel_rfl
theorem ze8 : zk (za [mkL true vy, y3, .int 1, .int 3]) Yd = true := by kernel_rfl
theorem zdT : zk (za [mkL true Yd, y3, .int 1, .int 3]) wV = true := by kernel_rfl
theorem zdz : zk (za [mkL true wV, y3, .int 1, .int 3]) zas = true := by kernel_rfl
theorem zmt : zu [VM, .int 1, .int 3] = some (.int 6) := zq (ST := y3) (zs := dec 2 0) (rest := [Z2, Zb, vy, Yd, wV, zas]) (by kernel_rfl) (by kernel_rfl) (by kernel_rfl) (by kernel_rfl) (ze rfl zfD (ze rfl ziM (ze rfl zff (ze rfl ze8 (ze rfl zdT (ze rfl zdz zO)))))) (Nat.le_of_ble_eq_true rfl)
noncomputable def zgE : List (List Int) := lv 3 [0]
noncomputable def Zi : List (List Int) := lv 3 [1, 32, 1024]
noncomputable def vX : List (List Int) := lv 3 [2, 33, 1025, 64, 1056, 2048]
noncomputable def Yy : List (List Int) := lv 3 [3, 34, 1026, 65, 1057, 2049, 96, 1088, 2080]
noncomputable def Y8 : List (List Int) := lv 3 [4, 35, 1027, 66, 1058, 97, 1089, 2081, 128, 1120]
noncomputable def vY : List (List Int) := lv 3 [5, 36, 67, 1059, 98, 129, 1121, 160]
noncomputable def YV : List (List Int) := lv 3 [37, 99, 161]
noncomputable def zaT : List (List Int) := lv 3 []
theorem zdP : zk (za [mkL true zgE, yL, .int 2, .int 3]) Zi = true := by kernel_rfl
theorem zeN : zk (za [mkL true Zi, yL, .int 2, .int 3]) vX = true := by kernel_rfl
theorem zes : zk (za [mkL true vX, yL, .int 2, .int 3]) Yy = true := by kernel_rfl
theorem zeb : zk (za [mkL true Yy, yL, .int 2, .int 3]) Y8 = true := by kernel_rfl
theorem zgH : zk (za [mkL true Y8, yL, .int 2, .int 3]) vY = true := by kernel_rfl
theorem zfR : zk (za [mkL true vY, yL, .int 2, .int 3]) YV = true := by kernel_rfl
theorem zfX : zk (za [mkL true YV, yL, .int 2, .int 3]) zaT = true := by kernel_rfl
theorem zlL : zu [VF, .int 2, .int 3] = some (.int 7) := zq (ST := yL) (zs := dec 3 0) (rest := [Zi, vX, Yy, Y8, vY, YV, zaT]) (by kernel_rfl) (by kernel_rfl) (by kernel_rfl) (by kernel_rfl) (ze rfl zdP (ze rfl zeN (ze rfl zes (ze rfl zeb (ze rfl zgH (ze rfl zfR (ze rfl zfX zO))))))) (Nat.le_of_ble_eq_true rfl)
noncomputable def zfq : List (List Int) := lv 4 [0]
noncomputable def Xg : List (List Int) := lv 4 [1, 32, 1024, 32768]
noncomputable def Xv : List (List Int) := lv 4 [2, 33, 1025, 32769, 64, 1056, 32800, 2048, 33792, 65536]
noncomputable def Yq : List (List Int) := lv 4 [3, 34, 1026, 32770, 65, 1057, 32801, 2049, 33793, 65537, 96, 1088, 32832, 2080, 33824, 65568, 3072, 34816, 66560]
noncomputable def ZP : List (List Int) := lv 4 [4, 35, 1027, 32771, 66, 1058, 32802, 2050, 33794, 97, 1089, 32833, 2081, 33825, 65569, 3073, 34817, 66561, 128, 1120, 32864, 2112, 33856, 3104, 34848, 66592, 4096, 35840]
noncomputable def Zl : List (List Int) := lv 4 [5, 36, 1028, 67, 1059, 32803, 2051, 33795, 98, 1090, 2082, 33826, 3074, 129, 1121, 32865, 2113, 33857, 3105, 34849, 66593, 4097, 35841, 160, 1152, 2144, 33888, 3136, 4128, 35872, 5120]
noncomputable def ZV : List (List Int) := lv 4 [37, 1029, 1060, 99, 1091, 2083, 33827, 3075, 1122, 3106, 161, 1153, 2145, 33889, 3137, 4129, 35873, 5121, 1184, 3168, 5152]
noncomputable def Zf : List (List Int) := lv 4 [1061, 1123, 3107, 1185, 3169, 5153]
noncomputable def zaL : List (List Int) := lv 4 []
theorem zeB : zk (za [mkL true zfq, yp, .int 3, .int 3]) Xg = true := by kernel_rfl
theorem zii : zk (za [mkL true Xg, yp, .int 3, .int 3]) Xv = true := by kernel_rfl
theorem zdO : zk (za [mkL true Xv, yp, .int 3, .int 3]) Yq = true := by kernel_rfl
theorem ze1 : zk (za [mkL true Yq, yp, .int 3, .int 3]) ZP = true := by kernel_rfl
theorem zh7 : zk (za [mkL true ZP, yp, .int 3, .int 3]) Zl = true := by kernel_rfl
theorem zhy : zk (za [mkL true Zl, yp, .int 3, .int 3]) ZV = true := by kernel_rfl
theorem zdD : zk (za [mkL true ZV, yp, .int 3, .int 3]) Zf = true := by kernel_rfl
theorem ze0 : zk (za [mkL true Zf, yp, .int 3, .int 3]) zaL = true := by kernel_rfl
theorem zln : zu [Vm, .int 3, .int 3] = some (.int 8) := zq (ST := yp) (zs := dec 4 0) (rest := [Xg, Xv, Yq, ZP, Zl, ZV, Zf, zaL]) (by kernel_rfl) (by kernel_rfl) (by kernel_rfl) (by kernel_rfl) (ze rfl zeB (ze rfl zii (ze rfl zdO (ze rfl ze1 (ze rfl zh7 (ze rfl zhy (ze rfl zdD (ze rfl ze0 zO)))))))) (Nat.le_of_ble_eq_true rfl)
noncomputable def zc1 : List (List Int) := lv 5 [0]
noncomputable def vE : List (List Int) := lv 5 [1, 32, 1024, 32768, 1048576]
noncomputable def YW : List (List Int) := lv 5 [2, 33, 1025, 32769, 1048577, 64, 1056, 32800, 1048608, 2048, 33792, 1049600, 65536, 1081344, 2097152]
noncomputable def v7 : List (List Int) := lv 5 [3, 34, 1026, 32770, 1048578, 65, 1057, 32801, 1048609, 2049, 33793, 1049601, 65537, 1081345, 2097153, 96, 1088, 32832, 1048640, 2080, 33824, 1049632, 65568, 1081376, 2097184, 3072, 34816, 1050624, 66560, 1082368, 2098176, 98304, 1114112, 2129920]
noncomputable def wx : List (List Int) := lv 5 [4, 35, 1027, 32771, 1048579, 66, 1058, 32802, 1048610, 2050, 33794, 1049602, 65538, 1081346, 97, 1089, 32833, 1048641, 2081, 33825, 1049633, 65569, 1081377, 2097185, 3073, 34817, 1050625, 66561, 1082369, 2098177, 98305, 1114113, 2129921, 128, 1120, 32864, 1048672, 2112, 33856, 1049664, 65600, 1081408, 3104, 34848, 1050656, 66592, 1082400, 2098208, 98336, 1114144, 2129952, 4096, 35840, 1051648, 67584, 1083392, 99328, 1115136, 2130944, 131072, 1146880]
noncomputable def wY : List (List Int) := lv 5 [5, 36, 1028, 32772, 67, 1059, 32803, 1048611, 2051, 33795, 1049603, 65539, 1081347, 98, 1090, 32834, 2082, 33826, 1049634, 65570, 1081378, 3074, 34818, 66562, 1082370, 98306, 129, 1121, 32865, 1048673, 2113, 33857, 1049665, 65601, 1081409, 3105, 34849, 1050657, 66593, 1082401, 2098209, 98337, 1114145, 2129953, 4097, 35841, 1051649, 67585, 1083393, 99329, 1115137, 2130945, 131073, 1146881, 160, 1152, 32896, 2144, 33888, 1049696, 65632, 1081440, 3136, 34880, 66624, 1082432, 98368, 4128, 35872, 1051680, 67616, 1083424, 99360, 1115168, 2130976, 131104, 1146912, 5120, 36864, 68608, 1084416, 100352, 132096, 1147904, 163840]
noncomputable def Y1 : List (List Int) := lv 5 [37, 1029, 32773, 1060, 32804, 33796, 99, 1091, 32835, 2083, 33827, 1049635, 65571, 1081379, 3075, 34819, 66563, 1082371, 98307, 1122, 32866, 33858, 3106, 34850, 66594, 1082402, 98338, 35842, 99330, 161, 1153, 32897, 2145, 33889, 1049697, 65633, 1081441, 3137, 34881, 66625, 1082433, 98369, 4129, 35873, 1051681, 67617, 1083425, 99361, 1115169, 2130977, 131105, 1146913, 5121, 36865, 68609, 1084417, 100353, 132097, 1147905, 163841, 1184, 32928, 33920, 3168, 34912, 66656, 1082464, 98400, 35904, 99392, 5152, 36896, 68640, 1084448, 100384, 132128, 1147936, 163872, 37888, 101376, 164864]
noncomputable def ZC : List (List Int) := lv 5 [1061, 32805, 33797, 33828, 1123, 32867, 33859, 3107, 34851, 66595, 1082403, 98339, 35843, 99331, 33890, 35874, 99362, 1185, 32929, 33921, 3169, 34913, 66657, 1082465, 98401, 35905, 99393, 5153, 36897, 68641, 1084449, 100385, 132129, 1147937, 163873, 37889, 101377, 164865, 33952, 35936, 99424, 37920, 101408, 164896]
noncomputable def v4 : List (List Int) := lv 5 [33829, 33891, 35875, 99363, 33953, 35937, 99425, 37921, 101409, 164897]
noncomputable def za3 : List (List Int) := lv 5 []
theorem zgt : zk (za [mkL true zc1, ya, .int 4, .int 3]) vE = true := by kernel_rfl
theorem zgB : zk (za [mkL true vE, ya, .int 4, .int 3]) YW = true := by kernel_rfl
theorem zfr : zk (za [mkL true YW, ya, .int 4, .int 3]) v7 = true := by kernel_rfl
theorem zgF : zk (za [mkL true v7, ya, .int 4, .int 3]) wx = true := by kernel_rfl
theorem zic : zk (za [mkL true wx, ya, .int 4, .int 3]) wY = true := by kernel_rfl
theorem zeM : zk (za [mkL true wY, ya, .int 4, .int 3]) Y1 = true := by kernel_rfl
theorem zfS : zk (za [mkL true Y1, ya, .int 4, .int 3]) ZC = true := by kernel_rfl
theorem zfW : zk (za [mkL true ZC, ya, .int 4, .int 3]) v4 = true := by kernel_rfl
theorem zeO : zk (za [mkL true v4, ya, .int 4, .int 3]) za3 = true := by kernel_rfl
theorem zmo : zu [Vv, .int 4, .int 3] = some (.int 9) := zq (ST := ya) (zs := dec 5 0) (rest := [vE, YW, v7, wx, wY, Y1, ZC, v4, za3]) (by kernel_rfl) (by kernel_rfl) (by kernel_rfl) (by kernel_rfl) (ze rfl zgt (ze rfl zgB (ze rfl zfr (ze rfl zgF (ze rfl zic (ze rfl zeM (ze rfl zfS (ze rfl zfW (ze rfl zeO zO))))))))) (Nat.le_of_ble_eq_true rfl)
noncomputable def zdM : List (List Int) := lv 2 [0]
noncomputable def YB : List (List Int) := lv 2 [1, 32]
noncomputable def Zh : List (List Int) := lv 2 [2, 33, 64]
noncomputable def YI : List (List Int) := lv 2 [34, 65, 96]
noncomputable def wZ : List (List Int) := lv 2 [97, 128]
noncomputable def Yp : List (List Int) := lv 2 [160]
noncomputable def zaU : List (List Int) := lv 2 []
theorem zhQ : zk (za [mkL true zdM, y4, .int 0, .int 3]) YB = true := by kernel_rfl
theorem zc2 : zk (za [mkL true YB, y4, .int 0, .int 3]) Zh = true := by kernel_rfl
theorem zej : zk (za [mkL true Zh, y4, .int 0, .int 3]) YI = true := by kernel_rfl
theorem zhN : zk (za [mkL true YI, y4, .int 0, .int 3]) wZ = true := by kernel_rfl
theorem zc6 : zk (za [mkL true wZ, y4, .int 0, .int 3]) Yp = true := by kernel_rfl
theorem zh9 : zk (za [mkL true Yp, y4, .int 0, .int 3]) zaU = true := by kernel_rfl
theorem zlV : zu [VC, .int 0, .int 3] = some (.int 6) := zq (ST := y4) (zs := dec 2 0) (rest := [YB, Zh, YI, wZ, Yp, zaU]) (by kernel_rfl) (by kernel_rfl) (by kernel_rfl) (by kernel_rfl) (ze rfl zhQ (ze rfl zc2 (ze rfl zej (ze rfl zhN (ze rfl zc6 (ze rfl zh9 zO)))))) (Nat.le_of_ble_eq_true rfl)
noncomputable def zfa : List (List Int) := lv 3 [0]
noncomputable def w6 : List (List Int) := lv 3 [1, 32, 1024]
noncomputable def Yx : List (List Int) := lv 3 [2, 33, 1025, 64, 1056, 2048]
noncomputable def Xl : List (List Int) := lv 3 [34, 1026, 65, 1057, 2049, 96, 1088, 2080, 3072]
noncomputable def Xq : List (List Int) := lv 3 [1058, 97, 1089, 2081, 3073, 128, 1120, 2112, 3104, 4096]
noncomputable def ZT : List (List Int) := lv 3 [1121, 3105, 160, 1152, 2144, 3136, 4128, 5120]
noncomputable def Ys : List (List Int) := lv 3 [1184, 3168, 5152]
noncomputable def za7 : List (List Int) := lv 3 []
theorem zg2 : zk (za [mkL true zfa, yM, .int 0, .int 3]) w6 = true := by kernel_rfl
theorem zi2 : zk (za [mkL true w6, yM, .int 0, .int 3]) Yx = true := by kernel_rfl
theorem zhY : zk (za [mkL true Yx, yM, .int 0, .int 3]) Xl = true := by kernel_rfl
theorem zfZ : zk (za [mkL true Xl, yM, .int 0, .int 3]) Xq = true := by kernel_rfl
theorem zgO : zk (za [mkL true Xq, yM, .int 0, .int 3]) ZT = true := by kernel_rfl
theorem ziq : zk (za [mkL true ZT, yM, .int 0, .int 3]) Ys = true := by kernel_rfl
theorem zhS : zk (za [mkL true Ys, yM, .int 0, .int 3]) za7 = true := by kernel_rfl
theorem zlQ : zu [VE, .int 0, .int 3] = some (.int 7) := zq (ST := yM) (zs := dec 3 0) (rest := [w6, Yx, Xl, Xq, ZT, Ys, za7]) (by kernel_rfl) (by kernel_rfl) (by kernel_rfl) (by kernel_rfl) (ze rfl zg2 (ze rfl zi2 (ze rfl zhY (ze rfl zfZ (ze rfl zgO (ze rfl ziq (ze rfl zhS zO))))))) (Nat.le_of_ble_eq_true rfl)
noncomputable def zdV : List (List Int) := lv 4 [0]
noncomputable def YT : List (List Int) := lv 4 [1, 32, 1024, 32768]
noncomputable def ZM : List (List Int) := lv 4 [2, 33, 1025, 32769, 64, 1056, 32800, 2048, 33792, 65536]
noncomputable def wk : List (List Int) := lv 4 [34, 1026, 32770, 65, 1057, 32801, 2049, 33793, 65537, 96, 1088, 32832, 2080, 33824, 65568, 3072, 34816, 66560, 98304]
noncomputable def Yo : List (List Int) := lv 4 [1058, 32802, 33794, 97, 1089, 32833, 2081, 33825, 65569, 3073, 34817, 66561, 98305, 128, 1120, 32864, 2112, 33856, 65600, 3104, 34848, 66592, 98336, 4096, 35840, 67584, 99328, 131072]
noncomputable def v8 : List (List Int) := lv 4 [33826, 1121, 32865, 33857, 3105, 34849, 66593, 98337, 35841, 99329, 160, 1152, 32896, 2144, 33888, 65632, 3136, 34880, 66624, 98368, 4128, 35872, 67616, 99360, 131104, 5120, 36864, 68608, 100352, 132096, 163840]
noncomputable def ZJ : List (List Int) := lv 4 [33889, 35873, 99361, 1184, 32928, 33920, 3168, 34912, 66656, 98400, 35904, 99392, 5152, 36896, 68640, 100384, 132128, 163872, 37888, 101376, 164864]
noncomputable def Y4 : List (List Int) := lv 4 [33952, 35936, 99424, 37920, 101408, 164896]
noncomputable def zaC : List (List Int) := lv 4 []
theorem zdG : zk (za [mkL true zdV, yn, .int 0, .int 3]) YT = true := by kernel_rfl
theorem zfM : zk (za [mkL true YT, yn, .int 0, .int 3]) ZM = true := by kernel_rfl
theorem zhq : zk (za [mkL true ZM, yn, .int 0, .int 3]) wk = true := by kernel_rfl
theorem ziz : zk (za [mkL true wk, yn, .int 0, .int 3]) Yo = true := by kernel_rfl
theorem zhi : zk (za [mkL true Yo, yn, .int 0, .int 3]) v8 = true := by kernel_rfl
theorem zgQ : zk (za [mkL true v8, yn, .int 0, .int 3]) ZJ = true := by kernel_rfl
theorem zhx : zk (za [mkL true ZJ, yn, .int 0, .int 3]) Y4 = true := by kernel_rfl
theorem zhk : zk (za [mkL true Y4, yn, .int 0, .int 3]) zaC = true := by kernel_rfl
theorem zlH : zu [Vz, .int 0, .int 3] = some (.int 8) := zq (ST := yn) (zs := dec 4 0) (rest := [YT, ZM, wk, Yo, v8, ZJ, Y4, zaC]) (by kernel_rfl) (by kernel_rfl) (by kernel_rfl) (by kernel_rfl) (ze rfl zdG (ze rfl zfM (ze rfl zhq (ze rfl ziz (ze rfl zhi (ze rfl zgQ (ze rfl zhx (ze rfl zhk zO)))))))) (Nat.le_of_ble_eq_true rfl)
noncomputable def zc4 : List (List Int) := lv 5 [0]
noncomputable def Xy : List (List Int) := lv 5 [1, 32, 1024, 32768, 1048576]
noncomputable def wy : List (List Int) := lv 5 [2, 33, 1025, 32769, 1048577, 64, 1056, 32800, 1048608, 2048, 33792, 1049600, 65536, 1081344, 2097152]
noncomputable def YD : List (List Int) := lv 5 [34, 1026, 32770, 1048578, 65, 1057, 32801, 1048609, 2049, 33793, 1049601, 65537, 1081345, 2097153, 96, 1088, 32832, 1048640, 2080, 33824, 1049632, 65568, 1081376, 2097184, 3072, 34816, 1050624, 66560, 1082368, 2098176, 98304, 1114112, 2129920, 3145728]
noncomputable def Xb : List (List Int) := lv 5 [1058, 32802, 1048610, 33794, 1049602, 1081346, 97, 1089, 32833, 1048641, 2081, 33825, 1049633, 65569, 1081377, 2097185, 3073, 34817, 1050625, 66561, 1082369, 2098177, 98305, 1114113, 2129921, 3145729, 128, 1120, 32864, 1048672, 2112, 33856, 1049664, 65600, 1081408, 2097216, 3104, 34848, 1050656, 66592, 1082400, 2098208, 98336, 1114144, 2129952, 3145760, 4096, 35840, 1051648, 67584, 1083392, 2099200, 99328, 1115136, 2130944, 3146752, 131072, 1146880, 2162688, 3178496, 4194304]
noncomputable def Z8 : List (List Int) := lv 5 [33826, 1049634, 1081378, 1082370, 1121, 32865, 1048673, 33857, 1049665, 1081409, 3105, 34849, 1050657, 66593, 1082401, 2098209, 98337, 1114145, 2129953, 3145761, 35841, 1051649, 1083393, 99329, 1115137, 2130945, 3146753, 1146881, 3178497, 160, 1152, 32896, 1048704, 2144, 33888, 1049696, 65632, 1081440, 2097248, 3136, 34880, 1050688, 66624, 1082432, 2098240, 98368, 1114176, 2129984, 3145792, 4128, 35872, 1051680, 67616, 1083424, 2099232, 99360, 1115168, 2130976, 3146784, 131104, 1146912, 2162720, 3178528, 4194336, 5120, 36864, 1052672, 68608, 1084416, 2100224, 100352, 1116160, 2131968, 3147776, 132096, 1147904, 2163712, 3179520, 4195328, 163840, 1179648, 2195456, 3211264, 4227072, 5242880]
noncomputable def Xt : List (List Int) := lv 5 [1082402, 33889, 1049697, 1081441, 1082433, 35873, 1051681, 1083425, 99361, 1115169, 2130977, 3146785, 1146913, 3178529, 1084417, 1147905, 3179521, 1184, 32928, 1048736, 33920, 1049728, 1081472, 3168, 34912, 1050720, 66656, 1082464, 2098272, 98400, 1114208, 2130016, 3145824, 35904, 1051712, 1083456, 99392, 1115200, 2131008, 3146816, 1146944, 3178560, 5152, 36896, 1052704, 68640, 1084448, 2100256, 100384, 1116192, 2132000, 3147808, 132128, 1147936, 2163744, 3179552, 4195360, 163872, 1179680, 2195488, 3211296, 4227104, 5242912, 37888, 1053696, 1085440, 101376, 1117184, 2132992, 3148800, 1148928, 3180544, 164864, 1180672, 2196480, 3212288, 4228096, 5243904, 1212416, 3244032, 5275648]
noncomputable def wP : List (List Int) := lv 5 [1082465, 1084449, 1147937, 3179553, 33952, 1049760, 1081504, 1082496, 35936, 1051744, 1083488, 99424, 1115232, 2131040, 3146848, 1146976, 3178592, 1084480, 1147968, 3179584, 37920, 1053728, 1085472, 101408, 1117216, 2133024, 3148832, 1148960, 3180576, 164896, 1180704, 2196512, 3212320, 4228128, 5243936, 1212448, 3244064, 5275680, 1086464, 1149952, 3181568, 1213440, 3245056, 5276672]
noncomputable def vV : List (List Int) := lv 5 [1082528, 1084512, 1148000, 3179616, 1086496, 1149984, 3181600, 1213472, 3245088, 5276704]
noncomputable def zaQ : List (List Int) := lv 5 []
theorem zhJ : zk (za [mkL true zc4, yc, .int 0, .int 3]) Xy = true := by kernel_rfl
theorem zf3 : zk (za [mkL true Xy, yc, .int 0, .int 3]) wy = true := by kernel_rfl
theorem ziF : zk (za [mkL true wy, yc, .int 0, .int 3]) YD = true := by kernel_rfl
theorem zhA : zk (za [mkL true YD, yc, .int 0, .int 3]) Xb = true := by kernel_rfl
theorem zdq : zk (za [mkL true Xb, yc, .int 0, .int 3]) Z8 = true := by kernel_rfl
theorem zda : zk (za [mkL true Z8, yc, .int 0, .int 3]) Xt = true := by kernel_rfl
theorem zgY : zk (za [mkL true Xt, yc, .int 0, .int 3]) wP = true := by kernel_rfl
theorem zeY : zk (za [mkL true wP, yc, .int 0, .int 3]) vV = true := by kernel_rfl
theorem zg0 : zk (za [mkL true vV, yc, .int 0, .int 3]) zaQ = true := by kernel_rfl
theorem zlo : zu [Vw, .int 0, .int 3] = some (.int 9) := zq (ST := yc) (zs := dec 5 0) (rest := [Xy, wy, YD, Xb, Z8, Xt, wP, vV, zaQ]) (by kernel_rfl) (by kernel_rfl) (by kernel_rfl) (by kernel_rfl) (ze rfl zhJ (ze rfl zf3 (ze rfl ziF (ze rfl zhA (ze rfl zdq (ze rfl zda (ze rfl zgY (ze rfl zeY (ze rfl zg0 zO))))))))) (Nat.le_of_ble_eq_true rfl)
noncomputable def zj6 : List (List Int) := lv 5 [0]
noncomputable def WW : List (List Int) := lv 5 [1, 32, 1024, 32768]
noncomputable def Wx : List (List Int) := lv 5 [2, 33, 1025, 32769, 64, 1056, 32800, 2048, 33792]
noncomputable def WN : List (List Int) := lv 5 [3, 34, 1026, 32770, 65, 1057, 32801, 2049, 33793, 96, 1088, 32832, 2080, 33824, 3072]
noncomputable def WL : List (List Int) := lv 5 [4, 35, 1027, 32771, 66, 1058, 32802, 2050, 33794, 97, 1089, 32833, 2081, 33825, 3073, 128, 1120, 32864, 2112, 3104]
noncomputable def Wy : List (List Int) := lv 5 [5, 36, 1028, 32772, 67, 1059, 32803, 2051, 33795, 98, 1090, 32834, 2082, 3074, 129, 1121, 32865, 2113, 3105, 160, 1152, 2144]
noncomputable def Va : List (List Int) := lv 5 [6, 37, 1029, 32773, 68, 1060, 32804, 2052, 99, 1091, 32835, 2083, 3075, 130, 1122, 2114, 161, 1153, 2145, 192, 1184]
noncomputable def WA : List (List Int) := lv 5 [7, 38, 1030, 32774, 69, 1061, 32805, 2053, 100, 1092, 2084, 131, 1123, 2115, 162, 1154, 193, 1185, 224]
noncomputable def XZ : List (List Int) := lv 5 [8, 39, 1031, 32775, 70, 1062, 2054, 101, 1093, 2085, 132, 1124, 163, 1155, 194, 225]
noncomputable def WI : List (List Int) := lv 5 [9, 40, 1032, 71, 1063, 2055, 102, 1094, 133, 1125, 164, 195]
noncomputable def YQ : List (List Int) := lv 5 [10, 41, 1033, 72, 1064, 103, 1095, 134, 165]
noncomputable def wj : List (List Int) := lv 5 [11, 42, 1034, 73, 1065, 104, 135]
noncomputable def YZ : List (List Int) := lv 5 [12, 43, 1035, 74, 105]
noncomputable def Zk : List (List Int) := lv 5 [13, 44, 75]
noncomputable def Zo : List (List Int) := lv 5 [14, 45]
noncomputable def Xm : List (List Int) := lv 5 [15]
noncomputable def zam : List (List Int) := lv 5 []
theorem zj1 : zk (za [mkL true zj6, xA, .int 4, .int 1]) WW = true := by kernel_rfl
theorem zjv : zk (za [mkL true WW, xA, .int 4, .int 1]) Wx = true := by kernel_rfl
theorem zjI : zk (za [mkL true Wx, xA, .int 4, .int 1]) WN = true := by kernel_rfl
theorem zkA : zk (za [mkL true WN, xA, .int 4, .int 1]) WL = true := by kernel_rfl
theorem zjQ : zk (za [mkL true WL, xA, .int 4, .int 1]) Wy = true := by kernel_rfl
theorem zja : zk (za [mkL true Wy, xA, .int 4, .int 1]) Va = true := by kernel_rfl
theorem zkx : zk (za [mkL true Va, xA, .int 4, .int 1]) WA = true := by kernel_rfl
theorem zjn : zk (za [mkL true WA, xA, .int 4, .int 1]) XZ = true := by kernel_rfl
theorem zkd : zk (za [mkL true XZ, xA, .int 4, .int 1]) WI = true := by kernel_rfl
theorem zju : zk (za [mkL true WI, xA, .int 4, .int 1]) YQ = true := by kernel_rfl
theorem zhW : zk (za [mkL true YQ, xA, .int 4, .int 1]) wj = true := by kernel_rfl
theorem zgJ : zk (za [mkL true wj, xA, .int 4, .int 1]) YZ = true := by kernel_rfl
theorem zgs : zk (za [mkL true YZ, xA, .int 4, .int 1]) Zk = true := by kernel_rfl
theorem zfJ : zk (za [mkL true Zk, xA, .int 4, .int 1]) Zo = true := by kernel_rfl
theorem zeJ : zk (za [mkL true Zo, xA, .int 4, .int 1]) Xm = true := by kernel_rfl
theorem zey : zk (za [mkL true Xm, xA, .int 4, .int 1]) zam = true := by kernel_rfl
theorem zbj : zu [zjR, .int 4, .int 1] = some (.int 16) := zq (ST := xA) (zs := dec 5 0) (rest := [WW, Wx, WN, WL, Wy, Va, WA, XZ, WI, YQ, wj, YZ, Zk, Zo, Xm, zam]) (by kernel_rfl) (by kernel_rfl) (by kernel_rfl) (by kernel_rfl) (ze rfl zj1 (ze rfl zjv (ze rfl zjI (ze rfl zkA (ze rfl zjQ (ze rfl zja (ze rfl zkx (ze rfl zjn (ze rfl zkd (ze rfl zju (ze rfl zhW (ze rfl zgJ (ze rfl zgs (ze rfl zfJ (ze rfl zeJ (ze rfl zey zO)))))))))))))))) (Nat.le_of_ble_eq_true rfl)
noncomputable def zeS : List (List Int) := lv 3 [0]
noncomputable def wG : List (List Int) := lv 3 [32, 1024]
noncomputable def Xw : List (List Int) := lv 3 [1056]
noncomputable def zbb : List (List Int) := lv 3 []
theorem zfH : zk (za [mkL true zeS, xJ, .int 0, .int 1]) wG = true := by kernel_rfl
theorem zhF : zk (za [mkL true wG, xJ, .int 0, .int 1]) Xw = true := by kernel_rfl
theorem zeR : zk (za [mkL true Xw, xJ, .int 0, .int 1]) zbb = true := by kernel_rfl
theorem zmA : zu [zbh, .int 0, .int 1] = some (.int 3) := zq (ST := xJ) (zs := dec 3 0) (rest := [wG, Xw, zbb]) (by kernel_rfl) (by kernel_rfl) (by kernel_rfl) (by kernel_rfl) (ze rfl zfH (ze rfl zhF (ze rfl zeR zO))) (Nat.le_of_ble_eq_true rfl)
noncomputable def zf0 : List (List Int) := lv 3 [0]
noncomputable def wM : List (List Int) := lv 3 [1, 1024]
noncomputable def wJ : List (List Int) := lv 3 [1025]
noncomputable def zaI : List (List Int) := lv 3 []
theorem zed : zk (za [mkL true zf0, xJ, .int 1, .int 1]) wM = true := by kernel_rfl
theorem ze3 : zk (za [mkL true wM, xJ, .int 1, .int 1]) wJ = true := by kernel_rfl
theorem zez : zk (za [mkL true wJ, xJ, .int 1, .int 1]) zaI = true := by kernel_rfl
theorem zm0 : zu [zbh, .int 1, .int 1] = some (.int 3) := zq (ST := xJ) (zs := dec 3 0) (rest := [wM, wJ, zaI]) (by kernel_rfl) (by kernel_rfl) (by kernel_rfl) (by kernel_rfl) (ze rfl zed (ze rfl ze3 (ze rfl zez zO))) (Nat.le_of_ble_eq_true rfl)
noncomputable def zgx : List (List Int) := lv 3 [0]
noncomputable def wD : List (List Int) := lv 3 [1, 32]
noncomputable def vx : List (List Int) := lv 3 [33]
noncomputable def zaw : List (List Int) := lv 3 []
theorem zfC : zk (za [mkL true zgx, xJ, .int 2, .int 1]) wD = true := by kernel_rfl
theorem zfv : zk (za [mkL true wD, xJ, .int 2, .int 1]) vx = true := by kernel_rfl
theorem ziy : zk (za [mkL true vx, xJ, .int 2, .int 1]) zaw = true := by kernel_rfl
theorem zlr : zu [zbh, .int 2, .int 1] = some (.int 3) := zq (ST := xJ) (zs := dec 3 0) (rest := [wD, vx, zaw]) (by kernel_rfl) (by kernel_rfl) (by kernel_rfl) (by kernel_rfl) (ze rfl zfC (ze rfl zfv (ze rfl ziy zO))) (Nat.le_of_ble_eq_true rfl)
noncomputable def zfl : List (List Int) := lv 4 [0]
noncomputable def wK : List (List Int) := lv 4 [32, 1024, 32768]
noncomputable def wt : List (List Int) := lv 4 [1056, 32800, 2048, 33792]
noncomputable def ww : List (List Int) := lv 4 [33824, 3072]
noncomputable def V5 : List (List Int) := lv 4 []
theorem zfV : zk (za [mkL true zfl, yx, .int 0, .int 1]) wK = true := by kernel_rfl
theorem zdi : zk (za [mkL true wK, yx, .int 0, .int 1]) wt = true := by kernel_rfl
theorem zh0 : zk (za [mkL true wt, yx, .int 0, .int 1]) ww = true := by kernel_rfl
theorem zg9 : zk (za [mkL true ww, yx, .int 0, .int 1]) V5 = true := by kernel_rfl
theorem zmu : zu [VA, .int 0, .int 1] = some (.int 4) := zq (ST := yx) (zs := dec 4 0) (rest := [wK, wt, ww, V5]) (by kernel_rfl) (by kernel_rfl) (by kernel_rfl) (by kernel_rfl) (ze rfl zfV (ze rfl zdi (ze rfl zh0 (ze rfl zg9 zO)))) (Nat.le_of_ble_eq_true rfl)
noncomputable def zfP : List (List Int) := lv 4 [0]
noncomputable def ZF : List (List Int) := lv 4 [1, 1024, 32768]
noncomputable def vS : List (List Int) := lv 4 [1025, 32769, 33792, 65536]
noncomputable def wS : List (List Int) := lv 4 [33793, 98304]
noncomputable def V1 : List (List Int) := lv 4 []
theorem zhI : zk (za [mkL true zfP, yx, .int 1, .int 1]) ZF = true := by kernel_rfl
theorem ziC : zk (za [mkL true ZF, yx, .int 1, .int 1]) vS = true := by kernel_rfl
theorem zh8 : zk (za [mkL true vS, yx, .int 1, .int 1]) wS = true := by kernel_rfl
theorem zhl : zk (za [mkL true wS, yx, .int 1, .int 1]) V1 = true := by kernel_rfl
theorem zlK : zu [VA, .int 1, .int 1] = some (.int 4) := zq (ST := yx) (zs := dec 4 0) (rest := [ZF, vS, wS, V1]) (by kernel_rfl) (by kernel_rfl) (by kernel_rfl) (by kernel_rfl) (ze rfl zhI (ze rfl ziC (ze rfl zh8 (ze rfl zhl zO)))) (Nat.le_of_ble_eq_true rfl)
noncomputable def zhb : List (List Int) := lv 4 [0]
noncomputable def Yi : List (List Int) := lv 4 [1, 32, 32768]
noncomputable def vN : List (List Int) := lv 4 [2, 33, 32769, 32800]
noncomputable def YG : List (List Int) := lv 4 [3, 32801]
noncomputable def zaD : List (List Int) := lv 4 []
theorem zh6 : zk (za [mkL true zhb, yx, .int 2, .int 1]) Yi = true := by kernel_rfl
theorem zdN : zk (za [mkL true Yi, yx, .int 2, .int 1]) vN = true := by kernel_rfl
theorem zi3 : zk (za [mkL true vN, yx, .int 2, .int 1]) YG = true := by kernel_rfl
theorem zgr : zk (za [mkL true YG, yx, .int 2, .int 1]) zaD = true := by kernel_rfl
theorem zlz : zu [VA, .int 2, .int 1] = some (.int 4) := zq (ST := yx) (zs := dec 4 0) (rest := [Yi, vN, YG, zaD]) (by kernel_rfl) (by kernel_rfl) (by kernel_rfl) (by kernel_rfl) (ze rfl zh6 (ze rfl zdN (ze rfl zi3 (ze rfl zgr zO)))) (Nat.le_of_ble_eq_true rfl)
noncomputable def zdC : List (List Int) := lv 4 [0]
noncomputable def wv : List (List Int) := lv 4 [1, 32, 1024]
noncomputable def vF : List (List Int) := lv 4 [33, 1025, 64, 1056]
noncomputable def Yh : List (List Int) := lv 4 [1057, 96]
noncomputable def zaE : List (List Int) := lv 4 []
theorem zdQ : zk (za [mkL true zdC, yx, .int 3, .int 1]) wv = true := by kernel_rfl
theorem zf8 : zk (za [mkL true wv, yx, .int 3, .int 1]) vF = true := by kernel_rfl
theorem zc3 : zk (za [mkL true vF, yx, .int 3, .int 1]) Yh = true := by kernel_rfl
theorem zh3 : zk (za [mkL true Yh, yx, .int 3, .int 1]) zaE = true := by kernel_rfl
theorem zm3 : zu [VA, .int 3, .int 1] = some (.int 4) := zq (ST := yx) (zs := dec 4 0) (rest := [wv, vF, Yh, zaE]) (by kernel_rfl) (by kernel_rfl) (by kernel_rfl) (by kernel_rfl) (ze rfl zdQ (ze rfl zf8 (ze rfl zc3 (ze rfl zh3 zO)))) (Nat.le_of_ble_eq_true rfl)
noncomputable def zeQ : List (List Int) := lv 5 [0]
noncomputable def vB : List (List Int) := lv 5 [32, 1024, 32768, 1048576]
noncomputable def Ye : List (List Int) := lv 5 [1056, 32800, 1048608, 2048, 33792, 1049600, 65536, 1081344]
noncomputable def Z1 : List (List Int) := lv 5 [33824, 1049632, 65568, 1081376, 3072, 34816, 1050624, 66560, 1082368, 98304]
noncomputable def ZY : List (List Int) := lv 5 [1082400, 98336, 35840, 1051648, 67584, 99328]
noncomputable def zao : List (List Int) := lv 5 []
theorem zfQ : zk (za [mkL true zeQ, zQ, .int 0, .int 1]) vB = true := by kernel_rfl
theorem zd1 : zk (za [mkL true vB, zQ, .int 0, .int 1]) Ye = true := by kernel_rfl
theorem zel : zk (za [mkL true Ye, zQ, .int 0, .int 1]) Z1 = true := by kernel_rfl
theorem zdR : zk (za [mkL true Z1, zQ, .int 0, .int 1]) ZY = true := by kernel_rfl
theorem zeo : zk (za [mkL true ZY, zQ, .int 0, .int 1]) zao = true := by kernel_rfl
theorem zl0 : zu [Wb, .int 0, .int 1] = some (.int 5) := zq (ST := zQ) (zs := dec 5 0) (rest := [vB, Ye, Z1, ZY, zao]) (by kernel_rfl) (by kernel_rfl) (by kernel_rfl) (by kernel_rfl) (ze rfl zfQ (ze rfl zd1 (ze rfl zel (ze rfl zdR (ze rfl zeo zO))))) (Nat.le_of_ble_eq_true rfl)
noncomputable def zgG : List (List Int) := lv 5 [0]
noncomputable def wI : List (List Int) := lv 5 [1, 1024, 32768, 1048576]
noncomputable def ZN : List (List Int) := lv 5 [1025, 32769, 1048577, 33792, 1049600, 65536, 1081344, 2097152]
noncomputable def vK : List (List Int) := lv 5 [33793, 1049601, 65537, 1081345, 1082368, 2098176, 98304, 1114112, 2129920, 3145728]
noncomputable def ZZ : List (List Int) := lv 5 [1082369, 98305, 3146752, 1146880, 2162688, 3178496]
noncomputable def zap : List (List Int) := lv 5 []
theorem zdF : zk (za [mkL true zgG, zQ, .int 1, .int 1]) wI = true := by kernel_rfl
theorem ze7 : zk (za [mkL true wI, zQ, .int 1, .int 1]) ZN = true := by kernel_rfl
theorem zfw : zk (za [mkL true ZN, zQ, .int 1, .int 1]) vK = true := by kernel_rfl
theorem zit : zk (za [mkL true vK, zQ, .int 1, .int 1]) ZZ = true := by kernel_rfl
theorem zdh : zk (za [mkL true ZZ, zQ, .int 1, .int 1]) zap = true := by kernel_rfl
theorem zlD : zu [Wb, .int 1, .int 1] = some (.int 5) := zq (ST := zQ) (zs := dec 5 0) (rest := [wI, ZN, vK, ZZ, zap]) (by kernel_rfl) (by kernel_rfl) (by kernel_rfl) (by kernel_rfl) (ze rfl zdF (ze rfl ze7 (ze rfl zfw (ze rfl zit (ze rfl zdh zO))))) (Nat.le_of_ble_eq_true rfl)
noncomputable def zee : List (List Int) := lv 5 [0]
noncomputable def Xn : List (List Int) := lv 5 [1, 32, 32768, 1048576]
noncomputable def Zj : List (List Int) := lv 5 [2, 33, 32769, 1048577, 32800, 1048608, 1081344, 2097152]
noncomputable def vZ : List (List Int) := lv 5 [3, 32770, 1048578, 32801, 1048609, 1081345, 2097153, 1081376, 2097184, 3145728]
noncomputable def Xs : List (List Int) := lv 5 [32771, 1048579, 2097154, 1081377, 3145729, 3145760]
noncomputable def za9 : List (List Int) := lv 5 []
theorem zea : zk (za [mkL true zee, zQ, .int 2, .int 1]) Xn = true := by kernel_rfl
theorem zgm : zk (za [mkL true Xn, zQ, .int 2, .int 1]) Zj = true := by kernel_rfl
theorem zdX : zk (za [mkL true Zj, zQ, .int 2, .int 1]) vZ = true := by kernel_rfl
theorem ziG : zk (za [mkL true vZ, zQ, .int 2, .int 1]) Xs = true := by kernel_rfl
theorem zhR : zk (za [mkL true Xs, zQ, .int 2, .int 1]) za9 = true := by kernel_rfl
theorem zlS : zu [Wb, .int 2, .int 1] = some (.int 5) := zq (ST := zQ) (zs := dec 5 0) (rest := [Xn, Zj, vZ, Xs, za9]) (by kernel_rfl) (by kernel_rfl) (by kernel_rfl) (by kernel_rfl) (ze rfl zea (ze rfl zgm (ze rfl zdX (ze rfl ziG (ze rfl zhR zO))))) (Nat.le_of_ble_eq_true rfl)
noncomputable def zeG : List (List Int) := lv 5 [0]
noncomputable def ZK : List (List Int) := lv 5 [1, 32, 1024, 1048576]
noncomputable def wA : List (List Int) := lv 5 [2, 33, 1025, 1048577, 64, 1056, 1048608, 1049600]
noncomputable def Xh : List (List Int) := lv 5 [3, 34, 1026, 65, 1057, 1048609, 1049601, 96, 1048640, 1049632]
noncomputable def Xa : List (List Int) := lv 5 [35, 1027, 66, 97, 1049633, 1048672]
noncomputable def zax : List (List Int) := lv 5 []
theorem zef : zk (za [mkL true zeG, zQ, .int 3, .int 1]) ZK = true := by kernel_rfl
theorem zfc : zk (za [mkL true ZK, zQ, .int 3, .int 1]) wA = true := by kernel_rfl
theorem zgD : zk (za [mkL true wA, zQ, .int 3, .int 1]) Xh = true := by kernel_rfl
theorem zid : zk (za [mkL true Xh, zQ, .int 3, .int 1]) Xa = true := by kernel_rfl
theorem zfK : zk (za [mkL true Xa, zQ, .int 3, .int 1]) zax = true := by kernel_rfl
theorem zlX : zu [Wb, .int 3, .int 1] = some (.int 5) := zq (ST := zQ) (zs := dec 5 0) (rest := [ZK, wA, Xh, Xa, zax]) (by kernel_rfl) (by kernel_rfl) (by kernel_rfl) (by kernel_rfl) (ze rfl zef (ze rfl zfc (ze rfl zgD (ze rfl zid (ze rfl zfK zO))))) (Nat.le_of_ble_eq_true rfl)
noncomputable def zim : List (List Int) := lv 5 [0]
noncomputable def Yt : List (List Int) := lv 5 [1, 32, 1024, 32768]
noncomputable def wX : List (List Int) := lv 5 [33, 1025, 32769, 64, 1056, 32800, 2048, 33792]
noncomputable def wo : List (List Int) := lv 5 [1057, 32801, 2049, 33793, 96, 1088, 32832, 2080, 33824, 3072]
noncomputable def wl : List (List Int) := lv 5 [33825, 3073, 1120, 32864, 2112, 3104]
noncomputable def V9 : List (List Int) := lv 5 []
theorem zg8 : zk (za [mkL true zim, zQ, .int 4, .int 1]) Yt = true := by kernel_rfl
theorem ziL : zk (za [mkL true Yt, zQ, .int 4, .int 1]) wX = true := by kernel_rfl
theorem zi1 : zk (za [mkL true wX, zQ, .int 4, .int 1]) wo = true := by kernel_rfl
theorem zhV : zk (za [mkL true wo, zQ, .int 4, .int 1]) wl = true := by kernel_rfl
theorem zfi : zk (za [mkL true wl, zQ, .int 4, .int 1]) V9 = true := by kernel_rfl
theorem zmM : zu [Wb, .int 4, .int 1] = some (.int 5) := zq (ST := zQ) (zs := dec 5 0) (rest := [Yt, wX, wo, wl, V9]) (by kernel_rfl) (by kernel_rfl) (by kernel_rfl) (by kernel_rfl) (ze rfl zg8 (ze rfl ziL (ze rfl zi1 (ze rfl zhV (ze rfl zfi zO))))) (Nat.le_of_ble_eq_true rfl)
noncomputable def zdJ : List (List Int) := lv 6 [0]
noncomputable def Xp : List (List Int) := lv 6 [32, 1024, 32768, 1048576, 33554432]
noncomputable def wu : List (List Int) := lv 6 [1056, 32800, 1048608, 33554464, 2048, 33792, 1049600, 33555456, 65536, 1081344, 33587200, 2097152, 34603008]
noncomputable def vz : List (List Int) := lv 6 [33824, 1049632, 33555488, 65568, 1081376, 33587232, 2097184, 34603040, 3072, 34816, 1050624, 33556480, 66560, 1082368, 33588224, 2098176, 34604032, 98304, 1114112, 33619968, 2129920, 34635776, 3145728]
noncomputable def YF : List (List Int) := lv 6 [1082400, 33588256, 2098208, 34604064, 98336, 1114144, 33620000, 2129952, 34635808, 3145760, 35840, 1051648, 33557504, 67584, 1083392, 33589248, 2099200, 34605056, 99328, 1115136, 33620992, 2130944, 34636800, 3146752, 131072, 1146880, 33652736, 2162688, 3178496]
noncomputable def wE : List (List Int) := lv 6 [34636832, 3146784, 1146912, 33652768, 2162720, 3178528, 1084416, 33590272, 2100224, 34606080, 100352, 1116160, 33622016, 2131968, 3147776, 132096, 1147904, 33653760, 2163712, 3179520, 163840, 1179648, 2195456]
noncomputable def wm : List (List Int) := lv 6 [3148800, 1148928, 2164736, 164864, 1180672, 2196480, 196608, 1212416]
noncomputable def vA : List (List Int) := lv 6 [1213440, 229376]
noncomputable def VR : List (List Int) := lv 6 []
theorem zdY : zk (za [mkL true zdJ, zv, .int 0, .int 1]) Xp = true := by kernel_rfl
theorem zer : zk (za [mkL true Xp, zv, .int 0, .int 1]) wu = true := by kernel_rfl
theorem zeX : zk (za [mkL true wu, zv, .int 0, .int 1]) vz = true := by kernel_rfl
theorem zdL : zk (za [mkL true vz, zv, .int 0, .int 1]) YF = true := by kernel_rfl
theorem zhP : zk (za [mkL true YF, zv, .int 0, .int 1]) wE = true := by kernel_rfl
theorem zgb : zk (za [mkL true wE, zv, .int 0, .int 1]) wm = true := by kernel_rfl
theorem zgI : zk (za [mkL true wm, zv, .int 0, .int 1]) vA = true := by kernel_rfl
theorem zfx : zk (za [mkL true vA, zv, .int 0, .int 1]) VR = true := by kernel_rfl
theorem zlv : zu [Xu, .int 0, .int 1] = some (.int 8) := zq (ST := zv) (zs := dec 6 0) (rest := [Xp, wu, vz, YF, wE, wm, vA, VR]) (by kernel_rfl) (by kernel_rfl) (by kernel_rfl) (by kernel_rfl) (ze rfl zdY (ze rfl zer (ze rfl zeX (ze rfl zdL (ze rfl zhP (ze rfl zgb (ze rfl zgI (ze rfl zfx zO)))))))) (Nat.le_of_ble_eq_true rfl)
noncomputable def ze4 : List (List Int) := lv 6 [0]
noncomputable def wU : List (List Int) := lv 6 [1, 1024, 32768, 1048576, 33554432]
noncomputable def vH : List (List Int) := lv 6 [1025, 32769, 1048577, 33554433, 33792, 1049600, 33555456, 65536, 1081344, 33587200, 2097152, 34603008, 67108864]
noncomputable def wN : List (List Int) := lv 6 [33793, 1049601, 33555457, 65537, 1081345, 33587201, 2097153, 34603009, 1082368, 33588224, 2098176, 34604032, 67109888, 98304, 1114112, 33619968, 2129920, 34635776, 67141632, 3145728, 35651584, 68157440, 100663296]
noncomputable def YC : List (List Int) := lv 6 [1082369, 33588225, 2098177, 34604033, 98305, 1114113, 33619969, 2129921, 34635777, 3145729, 34636800, 67142656, 3146752, 35652608, 68158464, 100664320, 1146880, 33652736, 2162688, 34668544, 67174400, 3178496, 35684352, 68190208, 100696064, 4194304, 36700160, 69206016, 101711872]
noncomputable def Xd : List (List Int) := lv 6 [34636801, 3146753, 1146881, 33652737, 2162689, 3178497, 100697088, 36701184, 69207040, 101712896, 34701312, 67207168, 3211264, 35717120, 68222976, 100728832, 4227072, 36732928, 69238784, 101744640, 5242880, 37748736, 70254592]
noncomputable def Zn : List (List Int) := lv 6 [100761600, 36765696, 69271552, 5275648, 37781504, 70287360, 6291456, 38797312]
noncomputable def Za : List (List Int) := lv 6 [38830080, 7340032]
noncomputable def VN : List (List Int) := lv 6 []
theorem zdH : zk (za [mkL true ze4, zv, .int 1, .int 1]) wU = true := by kernel_rfl
theorem zir : zk (za [mkL true wU, zv, .int 1, .int 1]) vH = true := by kernel_rfl
theorem zgv : zk (za [mkL true vH, zv, .int 1, .int 1]) wN = true := by kernel_rfl
theorem zdo : zk (za [mkL true wN, zv, .int 1, .int 1]) YC = true := by kernel_rfl
theorem zgc : zk (za [mkL true YC, zv, .int 1, .int 1]) Xd = true := by kernel_rfl
theorem zf7 : zk (za [mkL true Xd, zv, .int 1, .int 1]) Zn = true := by kernel_rfl
theorem zex : zk (za [mkL true Zn, zv, .int 1, .int 1]) Za = true := by kernel_rfl
theorem zhZ : zk (za [mkL true Za, zv, .int 1, .int 1]) VN = true := by kernel_rfl
theorem zlW : zu [Xu, .int 1, .int 1] = some (.int 8) := zq (ST := zv) (zs := dec 6 0) (rest := [wU, vH, wN, YC, Xd, Zn, Za, VN]) (by kernel_rfl) (by kernel_rfl) (by kernel_rfl) (by kernel_rfl) (ze rfl zdH (ze rfl zir (ze rfl zgv (ze rfl zdo (ze rfl zgc (ze rfl zf7 (ze rfl zex (ze rfl zhZ zO)))))))) (Nat.le_of_ble_eq_true rfl)
noncomputable def zdU : List (List Int) := lv 6 [0]
noncomputable def ZG : List (List Int) := lv 6 [1, 32, 32768, 1048576, 33554432]
noncomputable def Zy : List (List Int) := lv 6 [2, 33, 32769, 1048577, 33554433, 32800, 1048608, 33554464, 1081344, 33587200, 2097152, 34603008, 67108864]
noncomputable def Y0 : List (List Int) := lv 6 [3, 32770, 1048578, 33554434, 32801, 1048609, 33554465, 1081345, 33587201, 2097153, 34603009, 67108865, 1081376, 33587232, 2097184, 34603040, 67108896, 34635776, 67141632, 3145728, 35651584, 68157440, 100663296]
noncomputable def ZW : List (List Int) := lv 6 [32771, 1048579, 33554435, 1081346, 33587202, 2097154, 34603010, 67108866, 1081377, 33587233, 2097185, 34603041, 34635777, 67141633, 3145729, 35651585, 68157441, 100663297, 34635808, 67141664, 3145760, 35651616, 68157472, 100663328, 100696064, 36700160, 69206016, 101711872, 134217728]
noncomputable def YX : List (List Int) := lv 6 [1081347, 33587203, 2097155, 34603011, 67141634, 3145730, 35651586, 68157442, 100663298, 34635809, 3145761, 100696065, 36700161, 69206017, 101711873, 134217729, 100696096, 36700192, 69206048, 101711904, 102760448, 135266304, 167772160]
noncomputable def ZR : List (List Int) := lv 6 [3145731, 69206018, 101711874, 102760449, 135266305, 167772161, 168820736, 201326592]
noncomputable def Yj : List (List Int) := lv 6 [168820737, 234881024]
noncomputable def VW : List (List Int) := lv 6 []
theorem zen : zk (za [mkL true zdU, zv, .int 2, .int 1]) ZG = true := by kernel_rfl
theorem zdj : zk (za [mkL true ZG, zv, .int 2, .int 1]) Zy = true := by kernel_rfl
theorem zhh : zk (za [mkL true Zy, zv, .int 2, .int 1]) Y0 = true := by kernel_rfl
theorem ziA : zk (za [mkL true Y0, zv, .int 2, .int 1]) ZW = true := by kernel_rfl
theorem zhj : zk (za [mkL true ZW, zv, .int 2, .int 1]) YX = true := by kernel_rfl
theorem zgq : zk (za [mkL true YX, zv, .int 2, .int 1]) ZR = true := by kernel_rfl
theorem zfu : zk (za [mkL true ZR, zv, .int 2, .int 1]) Yj = true := by kernel_rfl
theorem zgw : zk (za [mkL true Yj, zv, .int 2, .int 1]) VW = true := by kernel_rfl
theorem zmv : zu [Xu, .int 2, .int 1] = some (.int 8) := zq (ST := zv) (zs := dec 6 0) (rest := [ZG, Zy, Y0, ZW, YX, ZR, Yj, VW]) (by kernel_rfl) (by kernel_rfl) (by kernel_rfl) (by kernel_rfl) (ze rfl zen (ze rfl zdj (ze rfl zhh (ze rfl ziA (ze rfl zhj (ze rfl zgq (ze rfl zfu (ze rfl zgw zO)))))))) (Nat.le_of_ble_eq_true rfl)
noncomputable def zd2 : List (List Int) := lv 6 [0]
noncomputable def v6 : List (List Int) := lv 6 [1, 32, 1024, 1048576, 33554432]
noncomputable def Zq : List (List Int) := lv 6 [2, 33, 1025, 1048577, 33554433, 64, 1056, 1048608, 33554464, 1049600, 33555456, 34603008, 67108864]
noncomputable def ZL : List (List Int) := lv 6 [3, 34, 1026, 1048578, 33554434, 65, 1057, 1048609, 33554465, 1049601, 33555457, 34603009, 67108865, 96, 1048640, 33554496, 1049632, 33555488, 34603040, 67108896, 34604032, 67109888, 100663296]
noncomputable def vJ : List (List Int) := lv 6 [4, 35, 1027, 1048579, 33554435, 66, 1048610, 33554466, 1049602, 33555458, 67108866, 97, 1048641, 33554497, 1049633, 33555489, 34603041, 67108897, 34604033, 67109889, 100663297, 1048672, 33554528, 34603072, 67108928, 34604064, 67109920, 100663328, 100664320]
noncomputable def XE : List (List Int) := lv 6 [5, 36, 33554436, 67, 1048611, 33554467, 1049603, 33555459, 67108867, 1048642, 33554498, 67108898, 67109890, 1048673, 33554529, 67108929, 34604065, 100663329, 100664321, 34603104, 67108960, 100663360, 100664352]
noncomputable def ZX : List (List Int) := lv 6 [6, 37, 33554437, 33554468, 33554499, 67108899, 67108930, 100663392]
noncomputable def Yw : List (List Int) := lv 6 [7, 33554469]
noncomputable def V8 : List (List Int) := lv 6 []
theorem zfY : zk (za [mkL true zd2, zv, .int 3, .int 1]) v6 = true := by kernel_rfl
theorem zhE : zk (za [mkL true v6, zv, .int 3, .int 1]) Zq = true := by kernel_rfl
theorem zi7 : zk (za [mkL true Zq, zv, .int 3, .int 1]) ZL = true := by kernel_rfl
theorem zi0 : zk (za [mkL true ZL, zv, .int 3, .int 1]) vJ = true := by kernel_rfl
theorem zd4 : zk (za [mkL true vJ, zv, .int 3, .int 1]) XE = true := by kernel_rfl
theorem zfO : zk (za [mkL true XE, zv, .int 3, .int 1]) ZX = true := by kernel_rfl
theorem ziT : zk (za [mkL true ZX, zv, .int 3, .int 1]) Yw = true := by kernel_rfl
theorem zc7 : zk (za [mkL true Yw, zv, .int 3, .int 1]) V8 = true := by kernel_rfl
theorem zlu : zu [Xu, .int 3, .int 1] = some (.int 8) := zq (ST := zv) (zs := dec 6 0) (rest := [v6, Zq, ZL, vJ, XE, ZX, Yw, V8]) (by kernel_rfl) (by kernel_rfl) (by kernel_rfl) (by kernel_rfl) (ze rfl zfY (ze rfl zhE (ze rfl zi7 (ze rfl zi0 (ze rfl zd4 (ze rfl zfO (ze rfl ziT (ze rfl zc7 zO)))))))) (Nat.le_of_ble_eq_true rfl)
noncomputable def ziv : List (List Int) := lv 6 [0]
noncomputable def XG : List (List Int) := lv 6 [1, 32, 1024, 32768, 33554432]
noncomputable def Xj : List (List Int) := lv 6 [2, 33, 1025, 32769, 33554433, 64, 1056, 32800, 33554464, 2048, 33792, 33555456, 33587200]
noncomputable def Yk : List (List Int) := lv 6 [3, 34, 1026, 32770, 65, 1057, 32801, 33554465, 2049, 33793, 33555457, 33587201, 96, 1088, 32832, 33554496, 2080, 33824, 33555488, 33587232, 3072, 33556480, 33588224]
noncomputable def vQ : List (List Int) := lv 6 [35, 1027, 32771, 66, 1058, 32802, 2050, 33794, 97, 1089, 32833, 2081, 33825, 33555489, 33587233, 3073, 33556481, 33588225, 128, 1120, 32864, 33554528, 2112, 33555520, 33587264, 3104, 33556512, 33588256, 33557504]
noncomputable def wW : List (List Int) := lv 6 [1059, 32803, 2051, 33795, 98, 1090, 32834, 2082, 3074, 129, 1121, 32865, 2113, 3105, 33588257, 33557505, 160, 1152, 2144, 33555552, 33587296, 33556544, 33557536]
noncomputable def Zg : List (List Int) := lv 6 [3075, 1122, 2114, 161, 1153, 2145, 192, 1184]
noncomputable def v5 : List (List Int) := lv 6 [1185, 224]
noncomputable def VX : List (List Int) := lv 6 []
theorem ziP : zk (za [mkL true ziv, zv, .int 4, .int 1]) XG = true := by kernel_rfl
theorem zdn : zk (za [mkL true XG, zv, .int 4, .int 1]) Xj = true := by kernel_rfl
theorem ziW : zk (za [mkL true Xj, zv, .int 4, .int 1]) Yk = true := by kernel_rfl
theorem zi6 : zk (za [mkL true Yk, zv, .int 4, .int 1]) vQ = true := by kernel_rfl
theorem zeV : zk (za [mkL true vQ, zv, .int 4, .int 1]) wW = true := by kernel_rfl
theorem zhB : zk (za [mkL true wW, zv, .int 4, .int 1]) Zg = true := by kernel_rfl
theorem zde : zk (za [mkL true Zg, zv, .int 4, .int 1]) v5 = true := by kernel_rfl
theorem zij : zk (za [mkL true v5, zv, .int 4, .int 1]) VX = true := by kernel_rfl
theorem zlN : zu [Xu, .int 4, .int 1] = some (.int 8) := zq (ST := zv) (zs := dec 6 0) (rest := [XG, Xj, Yk, vQ, wW, Zg, v5, VX]) (by kernel_rfl) (by kernel_rfl) (by kernel_rfl) (by kernel_rfl) (ze rfl ziP (ze rfl zdn (ze rfl ziW (ze rfl zi6 (ze rfl zeV (ze rfl zhB (ze rfl zde (ze rfl zij zO)))))))) (Nat.le_of_ble_eq_true rfl)
noncomputable def zeq : List (List Int) := lv 6 [0]
noncomputable def vo : List (List Int) := lv 6 [1, 32, 1024, 32768, 1048576]
noncomputable def vR : List (List Int) := lv 6 [33, 1025, 32769, 1048577, 64, 1056, 32800, 1048608, 2048, 33792, 1049600, 65536, 1081344]
noncomputable def wH : List (List Int) := lv 6 [1057, 32801, 1048609, 2049, 33793, 1049601, 65537, 1081345, 96, 1088, 32832, 1048640, 2080, 33824, 1049632, 65568, 1081376, 3072, 34816, 1050624, 66560, 1082368, 98304]
noncomputable def ZE : List (List Int) := lv 6 [33825, 1049633, 65569, 1081377, 3073, 34817, 1050625, 66561, 1082369, 98305, 1120, 32864, 1048672, 2112, 33856, 1049664, 65600, 1081408, 3104, 34848, 1050656, 66592, 1082400, 98336, 4096, 35840, 1051648, 67584, 99328]
noncomputable def wg : List (List Int) := lv 6 [1082401, 98337, 35841, 1051649, 67585, 99329, 33888, 1049696, 65632, 1081440, 3136, 34880, 1050688, 66624, 98368, 4128, 35872, 1051680, 67616, 99360, 5120, 36864, 68608]
noncomputable def Z3 : List (List Int) := lv 6 [98400, 35904, 67648, 5152, 36896, 68640, 6144, 37888]
noncomputable def Ym : List (List Int) := lv 6 [37920, 7168]
noncomputable def za4 : List (List Int) := lv 6 []
theorem zdm : zk (za [mkL true zeq, zv, .int 5, .int 1]) vo = true := by kernel_rfl
theorem zew : zk (za [mkL true vo, zv, .int 5, .int 1]) vR = true := by kernel_rfl
theorem zhM : zk (za [mkL true vR, zv, .int 5, .int 1]) wH = true := by kernel_rfl
theorem zhu : zk (za [mkL true wH, zv, .int 5, .int 1]) ZE = true := by kernel_rfl
theorem zd6 : zk (za [mkL true ZE, zv, .int 5, .int 1]) wg = true := by kernel_rfl
theorem zgz : zk (za [mkL true wg, zv, .int 5, .int 1]) Z3 = true := by kernel_rfl
theorem ziH : zk (za [mkL true Z3, zv, .int 5, .int 1]) Ym = true := by kernel_rfl
theorem zil : zk (za [mkL true Ym, zv, .int 5, .int 1]) za4 = true := by kernel_rfl
theorem zl9 : zu [Xu, .int 5, .int 1] = some (.int 8) := zq (ST := zv) (zs := dec 6 0) (rest := [vo, vR, wH, ZE, wg, Z3, Ym, za4]) (by kernel_rfl) (by kernel_rfl) (by kernel_rfl) (by kernel_rfl) (ze rfl zdm (ze rfl zew (ze rfl zhM (ze rfl zhu (ze rfl zd6 (ze rfl zgz (ze rfl ziH (ze rfl zil zO)))))))) (Nat.le_of_ble_eq_true rfl)
noncomputable def zfN : List (List Int) := lv 1 [0]
noncomputable def zai : List (List Int) := lv 1 []
theorem zec : zk (za [mkL true zfN, zpe, .int 0, .int 1]) zai = true := by kernel_rfl
theorem zmO : zu [zeK, .int 0, .int 1] = some (.int 1) := zq (ST := zpe) (zs := dec 1 0) (rest := [zai]) (by kernel_rfl) (by kernel_rfl) (by kernel_rfl) (by kernel_rfl) (ze rfl zec zO) (Nat.le_of_ble_eq_true rfl)
noncomputable def zfs : List (List Int) := lv 2 [0]
noncomputable def Zd : List (List Int) := lv 2 [32]
noncomputable def zaf : List (List Int) := lv 2 []
theorem zgu : zk (za [mkL true zfs, zbq, .int 0, .int 1]) Zd = true := by kernel_rfl
theorem zis : zk (za [mkL true Zd, zbq, .int 0, .int 1]) zaf = true := by kernel_rfl
theorem zlw : zu [zcr, .int 0, .int 1] = some (.int 2) := zq (ST := zbq) (zs := dec 2 0) (rest := [Zd, zaf]) (by kernel_rfl) (by kernel_rfl) (by kernel_rfl) (by kernel_rfl) (ze rfl zgu (ze rfl zis zO)) (Nat.le_of_ble_eq_true rfl)
noncomputable def zgd : List (List Int) := lv 2 [0]
noncomputable def YL : List (List Int) := lv 2 [1]
noncomputable def zaa : List (List Int) := lv 2 []
theorem zik : zk (za [mkL true zgd, zbq, .int 1, .int 1]) YL = true := by kernel_rfl
theorem zhs : zk (za [mkL true YL, zbq, .int 1, .int 1]) zaa = true := by kernel_rfl
theorem zls : zu [zcr, .int 1, .int 1] = some (.int 2) := zq (ST := zbq) (zs := dec 2 0) (rest := [YL, zaa]) (by kernel_rfl) (by kernel_rfl) (by kernel_rfl) (by kernel_rfl) (ze rfl zik (ze rfl zhs zO)) (Nat.le_of_ble_eq_true rfl)
noncomputable def zgf : List (List Int) := lv 4 [0]
noncomputable def Ya : List (List Int) := lv 4 [32, 1024, 32768]
noncomputable def Xo : List (List Int) := lv 4 [1056, 32800, 33792, 65536]
noncomputable def Yg : List (List Int) := lv 4 [33824, 98304]
noncomputable def VT : List (List Int) := lv 4 []
theorem zev : zk (za [mkL true zgf, yy, .int 0, .int 1]) Ya = true := by kernel_rfl
theorem zfG : zk (za [mkL true Ya, yy, .int 0, .int 1]) Xo = true := by kernel_rfl
theorem zc8 : zk (za [mkL true Xo, yy, .int 0, .int 1]) Yg = true := by kernel_rfl
theorem zh2 : zk (za [mkL true Yg, yy, .int 0, .int 1]) VT = true := by kernel_rfl
theorem zlG : zu [VG, .int 0, .int 1] = some (.int 4) := zq (ST := yy) (zs := dec 4 0) (rest := [Ya, Xo, Yg, VT]) (by kernel_rfl) (by kernel_rfl) (by kernel_rfl) (by kernel_rfl) (ze rfl zev (ze rfl zfG (ze rfl zc8 (ze rfl zh2 zO)))) (Nat.le_of_ble_eq_true rfl)
noncomputable def zd5 : List (List Int) := lv 4 [0]
noncomputable def XI : List (List Int) := lv 4 [1, 1024, 32768]
noncomputable def Yc : List (List Int) := lv 4 [1025, 32769, 2048, 33792]
noncomputable def vn : List (List Int) := lv 4 [33793, 3072]
noncomputable def za1 : List (List Int) := lv 4 []
theorem zgg : zk (za [mkL true zd5, yy, .int 1, .int 1]) XI = true := by kernel_rfl
theorem zc9 : zk (za [mkL true XI, yy, .int 1, .int 1]) Yc = true := by kernel_rfl
theorem zie : zk (za [mkL true Yc, yy, .int 1, .int 1]) vn = true := by kernel_rfl
theorem zhT : zk (za [mkL true vn, yy, .int 1, .int 1]) za1 = true := by kernel_rfl
theorem zmT : zu [VG, .int 1, .int 1] = some (.int 4) := zq (ST := yy) (zs := dec 4 0) (rest := [XI, Yc, vn, za1]) (by kernel_rfl) (by kernel_rfl) (by kernel_rfl) (by kernel_rfl) (ze rfl zgg (ze rfl zc9 (ze rfl zie (ze rfl zhT zO)))) (Nat.le_of_ble_eq_true rfl)
noncomputable def ze2 : List (List Int) := lv 4 [0]
noncomputable def vh : List (List Int) := lv 4 [1, 32, 32768]
noncomputable def YA : List (List Int) := lv 4 [33, 32769, 64, 32800]
noncomputable def vp : List (List Int) := lv 4 [32801, 96]
noncomputable def zaR : List (List Int) := lv 4 []
theorem zdg : zk (za [mkL true ze2, yy, .int 2, .int 1]) vh = true := by kernel_rfl
theorem zgX : zk (za [mkL true vh, yy, .int 2, .int 1]) YA = true := by kernel_rfl
theorem zhO : zk (za [mkL true YA, yy, .int 2, .int 1]) vp = true := by kernel_rfl
theorem zdI : zk (za [mkL true vp, yy, .int 2, .int 1]) zaR = true := by kernel_rfl
theorem zm1 : zu [VG, .int 2, .int 1] = some (.int 4) := zq (ST := yy) (zs := dec 4 0) (rest := [vh, YA, vp, zaR]) (by kernel_rfl) (by kernel_rfl) (by kernel_rfl) (by kernel_rfl) (ze rfl zdg (ze rfl zgX (ze rfl zhO (ze rfl zdI zO)))) (Nat.le_of_ble_eq_true rfl)
noncomputable def zin : List (List Int) := lv 4 [0]
noncomputable def Xr : List (List Int) := lv 4 [1, 32, 1024]
noncomputable def vm : List (List Int) := lv 4 [2, 33, 1025, 1056]
noncomputable def YM : List (List Int) := lv 4 [3, 1057]
noncomputable def VZ : List (List Int) := lv 4 []
theorem zga : zk (za [mkL true zin, yy, .int 3, .int 1]) Xr = true := by kernel_rfl
theorem zho : zk (za [mkL true Xr, yy, .int 3, .int 1]) vm = true := by kernel_rfl
theorem zgM : zk (za [mkL true vm, yy, .int 3, .int 1]) YM = true := by kernel_rfl
theorem zh4 : zk (za [mkL true YM, yy, .int 3, .int 1]) VZ = true := by kernel_rfl
theorem zlC : zu [VG, .int 3, .int 1] = some (.int 4) := zq (ST := yy) (zs := dec 4 0) (rest := [Xr, vm, YM, VZ]) (by kernel_rfl) (by kernel_rfl) (by kernel_rfl) (by kernel_rfl) (ze rfl zga (ze rfl zho (ze rfl zgM (ze rfl zh4 zO)))) (Nat.le_of_ble_eq_true rfl)
noncomputable def zep : List (List Int) := lv 6 [0]
noncomputable def ZI : List (List Int) := lv 6 [32, 1024, 32768, 1048576, 33554432]
noncomputable def XH : List (List Int) := lv 6 [1056, 32800, 1048608, 33554464, 33792, 1049600, 33555456, 1081344, 33587200, 34603008]
noncomputable def Yl : List (List Int) := lv 6 [33824, 1049632, 33555488, 1081376, 33587232, 34603040, 1082368, 33588224, 34604032, 34635776]
noncomputable def vP : List (List Int) := lv 6 [1082400, 33588256, 34604064, 34635808, 34636800]
noncomputable def Zc : List (List Int) := lv 6 [34636832]
noncomputable def zaB : List (List Int) := lv 6 []
theorem ze5 : zk (za [mkL true zep, Vq, .int 0, .int 1]) ZI = true := by kernel_rfl
theorem zdW : zk (za [mkL true ZI, Vq, .int 0, .int 1]) XH = true := by kernel_rfl
theorem zgL : zk (za [mkL true XH, Vq, .int 0, .int 1]) Yl = true := by kernel_rfl
theorem ziY : zk (za [mkL true Yl, Vq, .int 0, .int 1]) vP = true := by kernel_rfl
theorem zd7 : zk (za [mkL true vP, Vq, .int 0, .int 1]) Zc = true := by kernel_rfl
theorem zfp : zk (za [mkL true Zc, Vq, .int 0, .int 1]) zaB = true := by kernel_rfl
theorem zmm : zu [zlT, .int 0, .int 1] = some (.int 6) := zq (ST := Vq) (zs := dec 6 0) (rest := [ZI, XH, Yl, vP, Zc, zaB]) (by kernel_rfl) (by kernel_rfl) (by kernel_rfl) (by kernel_rfl) (ze rfl ze5 (ze rfl zdW (ze rfl zgL (ze rfl ziY (ze rfl zd7 (ze rfl zfp zO)))))) (Nat.le_of_ble_eq_true rfl)
noncomputable def zek : List (List Int) := lv 6 [0]
noncomputable def ZH : List (List Int) := lv 6 [32, 1024, 32768, 1048576, 33554432]
noncomputable def Xf : List (List Int) := lv 6 [1056, 32800, 1048608, 33554464, 33792, 1049600, 33555456, 1081344, 33587200, 34603008]
noncomputable def v9 : List (List Int) := lv 6 [33824, 1049632, 33555488, 1081376, 33587232, 34603040, 1082368, 33588224, 34604032, 34635776]
noncomputable def wz : List (List Int) := lv 6 [1082400, 33588256, 34604064, 34635808, 34636800]
noncomputable def vv : List (List Int) := lv 6 [34636832]
noncomputable def V2 : List (List Int) := lv 6 []
theorem zfd : zk (za [mkL true zek, Vx, .int 0, .int 1]) ZH = true := by kernel_rfl
theorem ziu : zk (za [mkL true ZH, Vx, .int 0, .int 1]) Xf = true := by kernel_rfl
theorem zdr : zk (za [mkL true Xf, Vx, .int 0, .int 1]) v9 = true := by kernel_rfl
theorem zgA : zk (za [mkL true v9, Vx, .int 0, .int 1]) wz = true := by kernel_rfl
theorem zfI : zk (za [mkL true wz, Vx, .int 0, .int 1]) vv = true := by kernel_rfl
theorem zfg : zk (za [mkL true vv, Vx, .int 0, .int 1]) V2 = true := by kernel_rfl
theorem zlI : zu [zmD, .int 0, .int 1] = some (.int 6) := zq (ST := Vx) (zs := dec 6 0) (rest := [ZH, Xf, v9, wz, vv, V2]) (by kernel_rfl) (by kernel_rfl) (by kernel_rfl) (by kernel_rfl) (ze rfl zfd (ze rfl ziu (ze rfl zdr (ze rfl zgA (ze rfl zfI (ze rfl zfg zO)))))) (Nat.le_of_ble_eq_true rfl)
theorem zse : yw [zeK, .int 1] = some (.tup [.int 1, .lst ((List.range 1).map fun j : Nat => .int (j : Int))]) := by
  refine zcB (n := 1) (v := 1) (by kernel_rfl) rfl (by decide) (fun j hj => ?_) (by kernel_rfl)
  have c : j = 0 := by omega
  subst c
  exact zmO
theorem zsm : yw [zcr, .int 1] = some (.tup [.int 2, .lst ((List.range 2).map fun j : Nat => .int (j : Int))]) := by
  refine zcB (n := 2) (v := 2) (by kernel_rfl) rfl (by decide) (fun j hj => ?_) (by kernel_rfl)
  have c : j = 0 ∨ j = 1 := by omega
  rcases c with rfl | rfl
  · exact zlw
  · exact zls
theorem zrX : yw [VG, .int 1] = some (.tup [.int 4, .lst ((List.range 4).map fun j : Nat => .int (j : Int))]) := by
  refine zcB (n := 4) (v := 4) (by kernel_rfl) rfl (by decide) (fun j hj => ?_) (by kernel_rfl)
  have c : j = 0 ∨ j = 1 ∨ j = 2 ∨ j = 3 := by omega
  rcases c with rfl | rfl | rfl | rfl
  · exact zlG
  · exact zmT
  · exact zm1
  · exact zlC
theorem zsq : yw [zbh, .int 1] = some (.tup [.int 3, .lst ((List.range 3).map fun j : Nat => .int (j : Int))]) := by
  refine zcB (n := 3) (v := 3) (by kernel_rfl) rfl (by decide) (fun j hj => ?_) (by kernel_rfl)
  have c : j = 0 ∨ j = 1 ∨ j = 2 := by omega
  rcases c with rfl | rfl | rfl
  · exact zmA
  · exact zm0
  · exact zlr
theorem zsd : yw [VA, .int 1] = some (.tup [.int 4, .lst ((List.range 4).map fun j : Nat => .int (j : Int))]) := by
  refine zcB (n := 4) (v := 4) (by kernel_rfl) rfl (by decide) (fun j hj => ?_) (by kernel_rfl)
  have c : j = 0 ∨ j = 1 ∨ j = 2 ∨ j = 3 := by omega
  rcases c with rfl | rfl | rfl | rfl
  · exact zmu
  · exact zlK
  · exact zlz
  · exact zm3
theorem zsw : yw [Wb, .int 1] = some (.tup [.int 5, .lst ((List.range 5).map fun j : Nat => .int (j : Int))]) := by
  refine zcB (n := 5) (v := 5) (by kernel_rfl) rfl (by decide) (fun j hj => ?_) (by kernel_rfl)
  have c : j = 0 ∨ j = 1 ∨ j = 2 ∨ j = 3 ∨ j = 4 := by omega
  rcases c with rfl | rfl | rfl | rfl | rfl
  · exact zl0
  · exact zlD
  · exact zlS
  · exact zlX
  · exact zmM
theorem zrT : yw [Xu, .int 1] = some (.tup [.int 8, .lst ((List.range 6).map fun j : Nat => .int (j : Int))]) := by
  refine zcB (n := 6) (v := 8) (by kernel_rfl) rfl (by decide) (fun j hj => ?_) (by kernel_rfl)
  have c : j = 0 ∨ j = 1 ∨ j = 2 ∨ j = 3 ∨ j = 4 ∨ j = 5 := by omega
  rcases c with rfl | rfl | rfl | rfl | rfl | rfl
  · exact zlv
  · exact zlW
  · exact zmv
  · exact zlu
  · exact zlN
  · exact zl9
theorem zvu {S : D} {o3 o4 o5 : Sl} {N B C : SE → Prop} {R : D → Prop} (q : N [.v S, .v (.int 1), .v (.int 1), .v (.int 1), .v (.int 1), o5]) : (zM [.v S, .v (.int 1), .v (.int 1), o3, o4, o5]).w N B C R := by
  unfold zM
  refine zt (ρ' := [.v S, .v (.int 1), .v (.int 1), .v (.int 1), o4, o5]) (by kernel_rfl) (zt (zN (zS rfl (zL (b := true) (zW (zf (ds := [.int 1, .int 1]) (zb (zf (ds := [zck, .int 0, .int 1]) (zb (zf (ds := [.tup [.str "row", .int 1]]) rfl zoK) (zb rfl (zb rfl zo))) zof) (zb rfl zo)) (by kernel_rfl)))))) (zt (zN (yB rfl)) (zt (ρ' := [.v S, .v (.int 1), .v (.int 1), .v (.int 1), .v (.int 1), o5]) (by kernel_rfl) (zt (zN (zL (b := true) (zW (zf (ds := [.int 1, .int 1]) (zb (zf (ds := [Vp, .int 0, .int 1]) (zb (zf (ds := [.tup [.str "full", .int 1]]) rfl zmZ) (zb rfl (zb rfl zo))) zmP) (zb rfl zo)) (by kernel_rfl))))) (zcC (zN (yB rfl)) q)))))
theorem zu6 {S : D} {o3 o4 o5 : Sl} {N B C : SE → Prop} {R : D → Prop} (q : N [.v S, .v (.int 1), .v (.int 2), .v (.int 2), .v (.int 2), o5]) : (zM [.v S, .v (.int 1), .v (.int 2), o3, o4, o5]).w N B C R := by
  unfold zM
  refine zt (ρ' := [.v S, .v (.int 1), .v (.int 2), .v (.int 2), o4, o5]) (by kernel_rfl) (zt (zN (zS rfl (zL (b := true) (zW (zf (ds := [.int 2, .int 2]) (zb (zf (ds := [zbZ, .int 0, .int 1]) (zb (zf (ds := [.tup [.str "row", .int 2]]) rfl zoG) (zb rfl (zb rfl zo))) zn9) (zb rfl zo)) (by kernel_rfl)))))) (zt (zN (yB rfl)) (zt (ρ' := [.v S, .v (.int 1), .v (.int 2), .v (.int 2), .v (.int 2), o5]) (by kernel_rfl) (zt (zN (zL (b := true) (zW (zf (ds := [.int 2, .int 2]) (zb (zf (ds := [VM, .int 1, .int 1]) (zb (zf (ds := [.tup [.str "full", .int 2]]) rfl zmH) (zb rfl (zb rfl zo))) zmG) (zb rfl zo)) (by kernel_rfl))))) (zcC (zN (zS rfl (zL (b := true) (zW (zf (ds := [.int 2, .int 2]) (zb (zf (ds := [VC, .int 0, .int 1]) (zb (zf (ds := [.tup [.str "star", .int 1]]) rfl zlp) (zb rfl (zb rfl zo))) zlU) (zb rfl zo)) (by kernel_rfl)))))) q)))))
theorem zu9 {S : D} {o3 o4 o5 : Sl} {N B C : SE → Prop} {R : D → Prop} (q : N [.v S, .v (.int 1), .v (.int 3), .v (.int 4), .v (.int 3), o5]) : (zM [.v S, .v (.int 1), .v (.int 3), o3, o4, o5]).w N B C R := by
  unfold zM
  refine zt (ρ' := [.v S, .v (.int 1), .v (.int 3), .v (.int 4), o4, o5]) (by kernel_rfl) (zt (zN (zS rfl (zL (b := true) (zW (zf (ds := [.int 4, .int 4]) (zb (zf (ds := [zb3, .int 0, .int 1]) (zb (zf (ds := [.tup [.str "row", .int 3]]) rfl zpt) (zb rfl (zb rfl zo))) znM) (zb rfl zo)) (by kernel_rfl)))))) (zt (zN (yB rfl)) (zt (ρ' := [.v S, .v (.int 1), .v (.int 3), .v (.int 4), .v (.int 3), o5]) (by kernel_rfl) (zt (zN (zL (b := true) (zW (zf (ds := [.int 3, .int 3]) (zb (zf (ds := [VF, .int 2, .int 1]) (zb (zf (ds := [.tup [.str "full", .int 3]]) rfl zl5) (zb rfl (zb rfl zo))) zml) (zb rfl zo)) (by kernel_rfl))))) (zcC (zN (zS rfl (zL (b := true) (zW (zf (ds := [.int 3, .int 3]) (zb (zf (ds := [VE, .int 0, .int 1]) (zb (zf (ds := [.tup [.str "star", .int 2]]) rfl zmh) (zb rfl (zb rfl zo))) zl4) (zb rfl zo)) (by kernel_rfl)))))) q)))))
theorem zvj {S : D} {o3 o4 o5 : Sl} {N B C : SE → Prop} {R : D → Prop} (q : N [.v S, .v (.int 1), .v (.int 4), .v (.int 8), .v (.int 4), o5]) : (zM [.v S, .v (.int 1), .v (.int 4), o3, o4, o5]).w N B C R := by
  unfold zM
  refine zt (ρ' := [.v S, .v (.int 1), .v (.int 4), .v (.int 8), o4, o5]) (by kernel_rfl) (zt (zN (zS rfl (zL (b := true) (zW (zf (ds := [.int 8, .int 8]) (zb (zf (ds := [zbX, .int 0, .int 1]) (zb (zf (ds := [.tup [.str "row", .int 4]]) rfl zpb) (zb rfl (zb rfl zo))) znH) (zb rfl zo)) (by kernel_rfl)))))) (zt (zN (yB rfl)) (zt (ρ' := [.v S, .v (.int 1), .v (.int 4), .v (.int 8), .v (.int 4), o5]) (by kernel_rfl) (zt (zN (zL (b := true) (zW (zf (ds := [.int 4, .int 4]) (zb (zf (ds := [Vm, .int 3, .int 1]) (zb (zf (ds := [.tup [.str "full", .int 4]]) rfl zmQ) (zb rfl (zb rfl zo))) zmR) (zb rfl zo)) (by kernel_rfl))))) (zcC (zN (zS rfl (zL (b := true) (zW (zf (ds := [.int 4, .int 4]) (zb (zf (ds := [Vz, .int 0, .int 1]) (zb (zf (ds := [.tup [.str "star", .int 3]]) rfl zmy) (zb rfl (zb rfl zo))) zmK) (zb rfl zo)) (by kernel_rfl)))))) q)))))
theorem zuG {S : D} {o3 o4 o5 : Sl} {N B C : SE → Prop} {R : D → Prop} (q : N [.v S, .v (.int 1), .v (.int 5), .v (.int 16), .v (.int 5), o5]) : (zM [.v S, .v (.int 1), .v (.int 5), o3, o4, o5]).w N B C R := by
  unfold zM
  refine zt (ρ' := [.v S, .v (.int 1), .v (.int 5), .v (.int 16), o4, o5]) (by kernel_rfl) (zt (zN (yB rfl)) (zt (zN (zS rfl (zL (b := true) (zW (zf (ds := [.int 16, .int 16]) (zb (zf (ds := [zjR, .int 4, .int 1]) (zb (zf (ds := [.tup [.str "row", .int 5]]) rfl zor) (zb rfl (zb rfl zo))) zbj) (zb rfl zo)) (by kernel_rfl)))))) (zt (ρ' := [.v S, .v (.int 1), .v (.int 5), .v (.int 16), .v (.int 5), o5]) (by kernel_rfl) (zt (zN (zL (b := true) (zW (zf (ds := [.int 5, .int 5]) (zb (zf (ds := [Vv, .int 4, .int 1]) (zb (zf (ds := [.tup [.str "full", .int 5]]) rfl zl7) (zb rfl (zb rfl zo))) zmI) (zb rfl zo)) (by kernel_rfl))))) (zcC (zN (zS rfl (zL (b := true) (zW (zf (ds := [.int 5, .int 5]) (zb (zf (ds := [Vw, .int 0, .int 1]) (zb (zf (ds := [.tup [.str "star", .int 4]]) rfl zmw) (zb rfl (zb rfl zo))) zmX) (zb rfl zo)) (by kernel_rfl)))))) q)))))
theorem zvg {S : D} {o3 o4 o5 : Sl} {N B C : SE → Prop} {R : D → Prop} (q : N [.v S, .v (.int 2), .v (.int 1), .v (.int 1), .v (.int 2), o5]) : (zM [.v S, .v (.int 2), .v (.int 1), o3, o4, o5]).w N B C R := by
  unfold zM
  refine zt (ρ' := [.v S, .v (.int 2), .v (.int 1), .v (.int 1), o4, o5]) (by kernel_rfl) (zt (zN (zS rfl (zL (b := true) (zW (zf (ds := [.int 2, .int 2]) (zb (zf (ds := [zck, .int 0, .int 2]) (zb (zf (ds := [.tup [.str "row", .int 1]]) rfl zoK) (zb rfl (zb rfl zo))) zn0) (zb rfl zo)) (by kernel_rfl)))))) (zt (zN (yB rfl)) (zt (ρ' := [.v S, .v (.int 2), .v (.int 1), .v (.int 1), .v (.int 2), o5]) (by kernel_rfl) (zt (zN (zL (b := true) (zW (zf (ds := [.int 2, .int 2]) (zb (zf (ds := [Vp, .int 0, .int 2]) (zb (zf (ds := [.tup [.str "full", .int 1]]) rfl zmZ) (zb rfl (zb rfl zo))) zmV) (zb rfl zo)) (by kernel_rfl))))) (zcC (zN (yB rfl)) q)))))
theorem zu0 {S : D} {o3 o4 o5 : Sl} {N B C : SE → Prop} {R : D → Prop} (q : N [.v S, .v (.int 2), .v (.int 2), .v (.int 2), .v (.int 4), o5]) : (zM [.v S, .v (.int 2), .v (.int 2), o3, o4, o5]).w N B C R := by
  unfold zM
  refine zt (ρ' := [.v S, .v (.int 2), .v (.int 2), .v (.int 2), o4, o5]) (by kernel_rfl) (zt (zN (zS rfl (zL (b := true) (zW (zf (ds := [.int 4, .int 4]) (zb (zf (ds := [zbZ, .int 0, .int 2]) (zb (zf (ds := [.tup [.str "row", .int 2]]) rfl zoG) (zb rfl (zb rfl zo))) znV) (zb rfl zo)) (by kernel_rfl)))))) (zt (zN (yB rfl)) (zt (ρ' := [.v S, .v (.int 2), .v (.int 2), .v (.int 2), .v (.int 4), o5]) (by kernel_rfl) (zt (zN (zL (b := true) (zW (zf (ds := [.int 4, .int 4]) (zb (zf (ds := [VM, .int 1, .int 2]) (zb (zf (ds := [.tup [.str "full", .int 2]]) rfl zmH) (zb rfl (zb rfl zo))) zlB) (zb rfl zo)) (by kernel_rfl))))) (zcC (zN (zS rfl (zL (b := true) (zW (zf (ds := [.int 4, .int 4]) (zb (zf (ds := [VC, .int 0, .int 2]) (zb (zf (ds := [.tup [.str "star", .int 1]]) rfl zlp) (zb rfl (zb rfl zo))) zlO) (zb rfl zo)) (by kernel_rfl)))))) q)))))
theorem zuB {S : D} {o3 o4 o5 : Sl} {N B C : SE → Prop} {R : D → Prop} (q : N [.v S, .v (.int 2), .v (.int 3), .v (.int 4), .v (.int 5), o5]) : (zM [.v S, .v (.int 2), .v (.int 3), o3, o4, o5]).w N B C R := by
  unfold zM
  refine zt (ρ' := [.v S, .v (.int 2), .v (.int 3), .v (.int 4), o4, o5]) (by kernel_rfl) (zt (zN (zS rfl (zL (b := true) (zW (zf (ds := [.int 8, .int 8]) (zb (zf (ds := [zb3, .int 0, .int 2]) (zb (zf (ds := [.tup [.str "row", .int 3]]) rfl zpt) (zb rfl (zb rfl zo))) znX) (zb rfl zo)) (by kernel_rfl)))))) (zt (zN (yB rfl)) (zt (ρ' := [.v S, .v (.int 2), .v (.int 3), .v (.int 4), .v (.int 5), o5]) (by kernel_rfl) (zt (zN (zL (b := true) (zW (zf (ds := [.int 5, .int 5]) (zb (zf (ds := [VF, .int 2, .int 2]) (zb (zf (ds := [.tup [.str "full", .int 3]]) rfl zl5) (zb rfl (zb rfl zo))) zlP) (zb rfl zo)) (by kernel_rfl))))) (zcC (zN (zS rfl (zL (b := true) (zW (zf (ds := [.int 5, .int 5]) (zb (zf (ds := [VE, .int 0, .int 2]) (zb (zf (ds := [.tup [.str "star", .int 2]]) rfl zmh) (zb rfl (zb rfl zo))) zmq) (zb rfl zo)) (by kernel_rfl)))))) q)))))
theorem zvc {S : D} {o3 o4 o5 : Sl} {N B C : SE → Prop} {R : D → Prop} (q : N [.v S, .v (.int 2), .v (.int 4), .v (.int 8), .v (.int 6), o5]) : (zM [.v S, .v (.int 2), .v (.int 4), o3, o4, o5]).w N B C R := by
  unfold zM
  refine zt (ρ' := [.v S, .v (.int 2), .v (.int 4), .v (.int 8), o4, o5]) (by kernel_rfl) (zt (zN (zS rfl (zL (b := true) (zW (zf (ds := [.int 16, .int 16]) (zb (zf (ds := [zbX, .int 0, .int 2]) (zb (zf (ds := [.tup [.str "row", .int 4]]) rfl zpb) (zb rfl (zb rfl zo))) zn7) (zb rfl zo)) (by kernel_rfl)))))) (zt (zN (yB rfl)) (zt (ρ' := [.v S, .v (.int 2), .v (.int 4), .v (.int 8), .v (.int 6), o5]) (by kernel_rfl) (zt (zN (zL (b := true) (zW (zf (ds := [.int 6, .int 6]) (zb (zf (ds := [Vm, .int 3, .int 2]) (zb (zf (ds := [.tup [.str "full", .int 4]]) rfl zmQ) (zb rfl (zb rfl zo))) zmk) (zb rfl zo)) (by kernel_rfl))))) (zcC (zN (zS rfl (zL (b := true) (zW (zf (ds := [.int 6, .int 6]) (zb (zf (ds := [Vz, .int 0, .int 2]) (zb (zf (ds := [.tup [.str "star", .int 3]]) rfl zmy) (zb rfl (zb rfl zo))) zmd) (zb rfl zo)) (by kernel_rfl)))))) q)))))
theorem zuz {S : D} {o3 o4 o5 : Sl} {N B C : SE → Prop} {R : D → Prop} (q : N [.v S, .v (.int 2), .v (.int 5), .v (.int 16), .v (.int 7), o5]) : (zM [.v S, .v (.int 2), .v (.int 5), o3, o4, o5]).w N B C R := by
  unfold zM
  refine zt (ρ' := [.v S, .v (.int 2), .v (.int 5), .v (.int 16), o4, o5]) (by kernel_rfl) (zt (zN (yB rfl)) (zt (zN (zS rfl (zL (b := true) (zW (zf (ds := [.int 16, .int 16]) (zb (zf (ds := [zjR, .int 4, .int 1]) (zb (zf (ds := [.tup [.str "row", .int 5]]) rfl zor) (zb rfl (zb rfl zo))) zbj) (zb rfl zo)) (by kernel_rfl)))))) (zt (ρ' := [.v S, .v (.int 2), .v (.int 5), .v (.int 16), .v (.int 7), o5]) (by kernel_rfl) (zt (zN (zL (b := true) (zW (zf (ds := [.int 7, .int 7]) (zb (zf (ds := [Vv, .int 4, .int 2]) (zb (zf (ds := [.tup [.str "full", .int 5]]) rfl zl7) (zb rfl (zb rfl zo))) zlJ) (zb rfl zo)) (by kernel_rfl))))) (zcC (zN (zS rfl (zL (b := true) (zW (zf (ds := [.int 7, .int 7]) (zb (zf (ds := [Vw, .int 0, .int 2]) (zb (zf (ds := [.tup [.str "star", .int 4]]) rfl zmw) (zb rfl (zb rfl zo))) zl3) (zb rfl zo)) (by kernel_rfl)))))) q)))))
theorem zuY {S : D} {o3 o4 o5 : Sl} {N B C : SE → Prop} {R : D → Prop} (q : N [.v S, .v (.int 3), .v (.int 1), .v (.int 1), .v (.int 3), o5]) : (zM [.v S, .v (.int 3), .v (.int 1), o3, o4, o5]).w N B C R := by
  unfold zM
  refine zt (ρ' := [.v S, .v (.int 3), .v (.int 1), .v (.int 1), o4, o5]) (by kernel_rfl) (zt (zN (zS rfl (zL (b := true) (zW (zf (ds := [.int 3, .int 3]) (zb (zf (ds := [zck, .int 0, .int 3]) (zb (zf (ds := [.tup [.str "row", .int 1]]) rfl zoK) (zb rfl (zb rfl zo))) znR) (zb rfl zo)) (by kernel_rfl)))))) (zt (zN (yB rfl)) (zt (ρ' := [.v S, .v (.int 3), .v (.int 1), .v (.int 1), .v (.int 3), o5]) (by kernel_rfl) (zt (zN (zL (b := true) (zW (zf (ds := [.int 3, .int 3]) (zb (zf (ds := [Vp, .int 0, .int 3]) (zb (zf (ds := [.tup [.str "full", .int 1]]) rfl zmZ) (zb rfl (zb rfl zo))) zlA) (zb rfl zo)) (by kernel_rfl))))) (zcC (zN (yB rfl)) q)))))
theorem zvk {S : D} {o3 o4 o5 : Sl} {N B C : SE → Prop} {R : D → Prop} (q : N [.v S, .v (.int 3), .v (.int 2), .v (.int 2), .v (.int 6), o5]) : (zM [.v S, .v (.int 3), .v (.int 2), o3, o4, o5]).w N B C R := by
  unfold zM
  refine zt (ρ' := [.v S, .v (.int 3), .v (.int 2), .v (.int 2), o4, o5]) (by kernel_rfl) (zt (zN (zS rfl (zL (b := true) (zW (zf (ds := [.int 6, .int 6]) (zb (zf (ds := [zbZ, .int 0, .int 3]) (zb (zf (ds := [.tup [.str "row", .int 2]]) rfl zoG) (zb rfl (zb rfl zo))) zn6) (zb rfl zo)) (by kernel_rfl)))))) (zt (zN (yB rfl)) (zt (ρ' := [.v S, .v (.int 3), .v (.int 2), .v (.int 2), .v (.int 6), o5]) (by kernel_rfl) (zt (zN (zL (b := true) (zW (zf (ds := [.int 6, .int 6]) (zb (zf (ds := [VM, .int 1, .int 3]) (zb (zf (ds := [.tup [.str "full", .int 2]]) rfl zmH) (zb rfl (zb rfl zo))) zmt) (zb rfl zo)) (by kernel_rfl))))) (zcC (zN (zS rfl (zL (b := true) (zW (zf (ds := [.int 6, .int 6]) (zb (zf (ds := [VC, .int 0, .int 3]) (zb (zf (ds := [.tup [.str "star", .int 1]]) rfl zlp) (zb rfl (zb rfl zo))) zlV) (zb rfl zo)) (by kernel_rfl)))))) q)))))
theorem zuC {S : D} {o3 o4 o5 : Sl} {N B C : SE → Prop} {R : D → Prop} (q : N [.v S, .v (.int 3), .v (.int 3), .v (.int 4), .v (.int 7), o5]) : (zM [.v S, .v (.int 3), .v (.int 3), o3, o4, o5]).w N B C R := by
  unfold zM
  refine zt (ρ' := [.v S, .v (.int 3), .v (.int 3), .v (.int 4), o4, o5]) (by kernel_rfl) (zt (zN (zS rfl (zL (b := true) (zW (zf (ds := [.int 12, .int 12]) (zb (zf (ds := [zb3, .int 0, .int 3]) (zb (zf (ds := [.tup [.str "row", .int 3]]) rfl zpt) (zb rfl (zb rfl zo))) znZ) (zb rfl zo)) (by kernel_rfl)))))) (zt (zN (yB rfl)) (zt (ρ' := [.v S, .v (.int 3), .v (.int 3), .v (.int 4), .v (.int 7), o5]) (by kernel_rfl) (zt (zN (zL (b := true) (zW (zf (ds := [.int 7, .int 7]) (zb (zf (ds := [VF, .int 2, .int 3]) (zb (zf (ds := [.tup [.str "full", .int 3]]) rfl zl5) (zb rfl (zb rfl zo))) zlL) (zb rfl zo)) (by kernel_rfl))))) (zcC (zN (zS rfl (zL (b := true) (zW (zf (ds := [.int 7, .int 7]) (zb (zf (ds := [VE, .int 0, .int 3]) (zb (zf (ds := [.tup [.str "star", .int 2]]) rfl zmh) (zb rfl (zb rfl zo))) zlQ) (zb rfl zo)) (by kernel_rfl)))))) q)))))
theorem zvv {S : D} {o3 o4 o5 : Sl} {N B C : SE → Prop} {R : D → Prop} (q : N [.v S, .v (.int 3), .v (.int 4), .v (.int 8), .v (.int 8), o5]) : (zM [.v S, .v (.int 3), .v (.int 4), o3, o4, o5]).w N B C R := by
  unfold zM
  refine zt (ρ' := [.v S, .v (.int 3), .v (.int 4), .v (.int 8), o4, o5]) (by kernel_rfl) (zt (zN (zS rfl (zL (b := true) (zW (zf (ds := [.int 24, .int 24]) (zb (zf (ds := [zbX, .int 0, .int 3]) (zb (zf (ds := [.tup [.str "row", .int 4]]) rfl zpb) (zb rfl (zb rfl zo))) zn2) (zb rfl zo)) (by kernel_rfl)))))) (zt (zN (yB rfl)) (zt (ρ' := [.v S, .v (.int 3), .v (.int 4), .v (.int 8), .v (.int 8), o5]) (by kernel_rfl) (zt (zN (zL (b := true) (zW (zf (ds := [.int 8, .int 8]) (zb (zf (ds := [Vm, .int 3, .int 3]) (zb (zf (ds := [.tup [.str "full", .int 4]]) rfl zmQ) (zb rfl (zb rfl zo))) zln) (zb rfl zo)) (by kernel_rfl))))) (zcC (zN (zS rfl (zL (b := true) (zW (zf (ds := [.int 8, .int 8]) (zb (zf (ds := [Vz, .int 0, .int 3]) (zb (zf (ds := [.tup [.str "star", .int 3]]) rfl zmy) (zb rfl (zb rfl zo))) zlH) (zb rfl zo)) (by kernel_rfl)))))) q)))))
theorem zuD {S : D} {o3 o4 o5 : Sl} {N B C : SE → Prop} {R : D → Prop} (q : N [.v S, .v (.int 3), .v (.int 5), .v (.int 16), .v (.int 9), o5]) : (zM [.v S, .v (.int 3), .v (.int 5), o3, o4, o5]).w N B C R := by
  unfold zM
  refine zt (ρ' := [.v S, .v (.int 3), .v (.int 5), .v (.int 16), o4, o5]) (by kernel_rfl) (zt (zN (yB rfl)) (zt (zN (zS rfl (zL (b := true) (zW (zf (ds := [.int 16, .int 16]) (zb (zf (ds := [zjR, .int 4, .int 1]) (zb (zf (ds := [.tup [.str "row", .int 5]]) rfl zor) (zb rfl (zb rfl zo))) zbj) (zb rfl zo)) (by kernel_rfl)))))) (zt (ρ' := [.v S, .v (.int 3), .v (.int 5), .v (.int 16), .v (.int 9), o5]) (by kernel_rfl) (zt (zN (zL (b := true) (zW (zf (ds := [.int 9, .int 9]) (zb (zf (ds := [Vv, .int 4, .int 3]) (zb (zf (ds := [.tup [.str "full", .int 5]]) rfl zl7) (zb rfl (zb rfl zo))) zmo) (zb rfl zo)) (by kernel_rfl))))) (zcC (zN (zS rfl (zL (b := true) (zW (zf (ds := [.int 9, .int 9]) (zb (zf (ds := [Vw, .int 0, .int 3]) (zb (zf (ds := [.tup [.str "star", .int 4]]) rfl zmw) (zb rfl (zb rfl zo))) zlo) (zb rfl zo)) (by kernel_rfl)))))) q)))))
theorem ztT {S : D} {N B C : SE → Prop} {R : D → Prop} (q : ∀ o2 o3 o4 o5, N [.v S, .v (.int 1), o2, o3, o4, o5]) : ((zav zll (zg (eC (.int 1)) (zg (eC (.int 6)) zC)) (xD 2) zM) [.v S, .v (.int 1), .no, .no, .no, .no]).w N B C R := by
  refine zps (lo := 1) (c := 5) (fun i ρ => ∃ o2 o3 o4 o5, ρ = [.v S, .v (.int 1), o2, o3, o4, o5]) (show zll [.int 1, .int 6] = _ by kernel_rfl) ⟨_, _, _, _, rfl⟩ ?_ (by rintro ρ ⟨o2, o3, o4, o5, rfl⟩; exact q _ _ _ _)
  rintro i ρ hi ⟨o2, o3, o4, o5, rfl⟩
  have c : i = 0 ∨ i = 1 ∨ i = 2 ∨ i = 3 ∨ i = 4 := by omega
  rcases c with rfl | rfl | rfl | rfl | rfl
  · exact ⟨_, rfl, zvu ⟨_, _, _, _, rfl⟩⟩
  · exact ⟨_, rfl, zu6 ⟨_, _, _, _, rfl⟩⟩
  · exact ⟨_, rfl, zu9 ⟨_, _, _, _, rfl⟩⟩
  · exact ⟨_, rfl, zvj ⟨_, _, _, _, rfl⟩⟩
  · exact ⟨_, rfl, zuG ⟨_, _, _, _, rfl⟩⟩
theorem ztI {S : D} {N B C : SE → Prop} {R : D → Prop} (q : ∀ o2 o3 o4 o5, N [.v S, .v (.int 2), o2, o3, o4, o5]) : ((zav zll (zg (eC (.int 1)) (zg (eC (.int 6)) zC)) (xD 2) zM) [.v S, .v (.int 2), .no, .no, .no, .no]).w N B C R := by
  refine zps (lo := 1) (c := 5) (fun i ρ => ∃ o2 o3 o4 o5, ρ = [.v S, .v (.int 2), o2, o3, o4, o5]) (show zll [.int 1, .int 6] = _ by kernel_rfl) ⟨_, _, _, _, rfl⟩ ?_ (by rintro ρ ⟨o2, o3, o4, o5, rfl⟩; exact q _ _ _ _)
  rintro i ρ hi ⟨o2, o3, o4, o5, rfl⟩
  have c : i = 0 ∨ i = 1 ∨ i = 2 ∨ i = 3 ∨ i = 4 := by omega
  rcases c with rfl | rfl | rfl | rfl | rfl
  · exact ⟨_, rfl, zvg ⟨_, _, _, _, rfl⟩⟩
  · exact ⟨_, rfl, zu0 ⟨_, _, _, _, rfl⟩⟩
  · exact ⟨_, rfl, zuB ⟨_, _, _, _, rfl⟩⟩
  · exact ⟨_, rfl, zvc ⟨_, _, _, _, rfl⟩⟩
  · exact ⟨_, rfl, zuz ⟨_, _, _, _, rfl⟩⟩
theorem zs5 {S : D} {N B C : SE → Prop} {R : D → Prop} (q : ∀ o2 o3 o4 o5, N [.v S, .v (.int 3), o2, o3, o4, o5]) : ((zav zll (zg (eC (.int 1)) (zg (eC (.int 6)) zC)) (xD 2) zM) [.v S, .v (.int 3), .no, .no, .no, .no]).w N B C R := by
  refine zps (lo := 1) (c := 5) (fun i ρ => ∃ o2 o3 o4 o5, ρ = [.v S, .v (.int 3), o2, o3, o4, o5]) (show zll [.int 1, .int 6] = _ by kernel_rfl) ⟨_, _, _, _, rfl⟩ ?_ (by rintro ρ ⟨o2, o3, o4, o5, rfl⟩; exact q _ _ _ _)
  rintro i ρ hi ⟨o2, o3, o4, o5, rfl⟩
  have c : i = 0 ∨ i = 1 ∨ i = 2 ∨ i = 3 ∨ i = 4 := by omega
  rcases c with rfl | rfl | rfl | rfl | rfl
  · exact ⟨_, rfl, zuY ⟨_, _, _, _, rfl⟩⟩
  · exact ⟨_, rfl, zvk ⟨_, _, _, _, rfl⟩⟩
  · exact ⟨_, rfl, zuC ⟨_, _, _, _, rfl⟩⟩
  · exact ⟨_, rfl, zvv ⟨_, _, _, _, rfl⟩⟩
  · exact ⟨_, rfl, zuD ⟨_, _, _, _, rfl⟩⟩
theorem zr3 {S : D} {o1 o2 o3 o4 o5 : Sl} {N B C : SE → Prop} {R : D → Prop} (q : ∀ o2 o4 o5, N [.v S, o1, o2, o3, o4, o5]) : ((zlm (iOf (zbf (XQ (zg (XS (zg (eC (.int 3)) (zg (eC (.int 3)) zC))) (zg (XS (zg (eC (.int 4)) (zg (eC (.int 4)) zC))) (zg (XS (zg (eC (.int 5)) (zg (eC (.int 5)) zC))) (zg (XS (zg (eC (.int 6)) (zg (eC (.int 8)) zC))) zC))))))) (zqm 2 (V0 (xD 2) (V0 (xD 4) zra))) VJ) [.v S, o1, o2, o3, o4, o5]).w N B C R := by
  refine ztf (ds := [.tup [.int 3, .int 3], .tup [.int 4, .int 4], .tup [.int 5, .int 5], .tup [.int 6, .int 8]]) (fun i ρ => ∃ o2 o4 o5, ρ = [.v S, o1, o2, o3, o4, o5]) rfl ⟨_, _, _, rfl⟩ ?_ (by rintro ρ ⟨o2, o4, o5, rfl⟩; exact q _ _ _)
  rintro i d ρ hd ⟨o2, o4, o5, rfl⟩
  have hi : i < 4 := (List.getElem?_eq_some_iff.mp hd).1
  have c : i = 0 ∨ i = 1 ∨ i = 2 ∨ i = 3 := by omega
  rcases c with rfl | rfl | rfl | rfl
  · cases hd
    refine ⟨[.v S, o1, .v (.int 3), o3, .v (.int 3), o5], rfl, ?_⟩
    unfold VJ
    exact zcC (zN (zL (b := true) (zW (zf (ds := [.tup [.int 3, .lst ((List.range 3).map fun j : Nat => .int (j : Int))], .tup [.int 3, .lst ((List.range 3).map fun j : Nat => .int (j : Int))]]) (zb (zf (ds := [zbh, .int 1]) (zb (zf (ds := [.tup [.str "ring", .int 3]]) rfl zrL) (zb rfl zo)) zsq) (zb (by kernel_rfl) zo)) (by kernel_rfl))))) ⟨_, _, _, rfl⟩
  · cases hd
    refine ⟨[.v S, o1, .v (.int 4), o3, .v (.int 4), o5], rfl, ?_⟩
    unfold VJ
    exact zcC (zN (zL (b := true) (zW (zf (ds := [.tup [.int 4, .lst ((List.range 4).map fun j : Nat => .int (j : Int))], .tup [.int 4, .lst ((List.range 4).map fun j : Nat => .int (j : Int))]]) (zb (zf (ds := [VA, .int 1]) (zb (zf (ds := [.tup [.str "ring", .int 4]]) rfl zsu) (zb rfl zo)) zsd) (zb (by kernel_rfl) zo)) (by kernel_rfl))))) ⟨_, _, _, rfl⟩
  · cases hd
    refine ⟨[.v S, o1, .v (.int 5), o3, .v (.int 5), o5], rfl, ?_⟩
    unfold VJ
    exact zcC (zN (zL (b := true) (zW (zf (ds := [.tup [.int 5, .lst ((List.range 5).map fun j : Nat => .int (j : Int))], .tup [.int 5, .lst ((List.range 5).map fun j : Nat => .int (j : Int))]]) (zb (zf (ds := [Wb, .int 1]) (zb (zf (ds := [.tup [.str "ring", .int 5]]) rfl zrl) (zb rfl zo)) zsw) (zb (by kernel_rfl) zo)) (by kernel_rfl))))) ⟨_, _, _, rfl⟩
  · cases hd
    refine ⟨[.v S, o1, .v (.int 6), o3, .v (.int 8), o5], rfl, ?_⟩
    unfold VJ
    exact zcC (zN (zL (b := true) (zW (zf (ds := [.tup [.int 8, .lst ((List.range 6).map fun j : Nat => .int (j : Int))], .tup [.int 8, .lst ((List.range 6).map fun j : Nat => .int (j : Int))]]) (zb (zf (ds := [Xu, .int 1]) (zb (zf (ds := [.tup [.str "ring", .int 6]]) rfl zry) (zb rfl zo)) zrT) (zb (by kernel_rfl) zo)) (by kernel_rfl))))) ⟨_, _, _, rfl⟩
theorem zr1 {S : D} {o1 o2 o3 o4 o5 : Sl} {N B C : SE → Prop} {R : D → Prop} (q : ∀ o2 o4 o5, N [.v S, o1, o2, o3, o4, o5]) : ((zlm (iOf (zbf (XQ (zg (XS (zg (eC (.int 0)) (zg (eC (.int 1)) zC))) (zg (XS (zg (eC (.int 1)) (zg (eC (.int 2)) zC))) (zg (XS (zg (eC (.int 2)) (zg (eC (.int 4)) zC))) zC)))))) (zqm 2 (V0 (xD 5) (V0 (xD 4) zra))) zbc) [.v S, o1, o2, o3, o4, o5]).w N B C R := by
  refine ztf (ds := [.tup [.int 0, .int 1], .tup [.int 1, .int 2], .tup [.int 2, .int 4]]) (fun i ρ => ∃ o2 o4 o5, ρ = [.v S, o1, o2, o3, o4, o5]) rfl ⟨_, _, _, rfl⟩ ?_ (by rintro ρ ⟨o2, o4, o5, rfl⟩; exact q _ _ _)
  rintro i d ρ hd ⟨o2, o4, o5, rfl⟩
  have hi : i < 3 := (List.getElem?_eq_some_iff.mp hd).1
  have c : i = 0 ∨ i = 1 ∨ i = 2 := by omega
  rcases c with rfl | rfl | rfl
  · cases hd
    refine ⟨[.v S, o1, o2, o3, .v (.int 1), .v (.int 0)], rfl, ?_⟩
    unfold zbc
    exact zcC (zN (zL (b := true) (zW (zf (ds := [.tup [.int 1, .lst ((List.range 1).map fun j : Nat => .int (j : Int))], .tup [.int 1, .lst ((List.range 1).map fun j : Nat => .int (j : Int))]]) (zb (zf (ds := [zeK, .int 1]) (zb (zf (ds := [.tup [.str "cube", .int 0]]) rfl zsz) (zb rfl zo)) zse) (zb (by kernel_rfl) zo)) (by kernel_rfl))))) ⟨_, _, _, rfl⟩
  · cases hd
    refine ⟨[.v S, o1, o2, o3, .v (.int 2), .v (.int 1)], rfl, ?_⟩
    unfold zbc
    exact zcC (zN (zL (b := true) (zW (zf (ds := [.tup [.int 2, .lst ((List.range 2).map fun j : Nat => .int (j : Int))], .tup [.int 2, .lst ((List.range 2).map fun j : Nat => .int (j : Int))]]) (zb (zf (ds := [zcr, .int 1]) (zb (zf (ds := [.tup [.str "cube", .int 1]]) rfl zsv) (zb rfl zo)) zsm) (zb (by kernel_rfl) zo)) (by kernel_rfl))))) ⟨_, _, _, rfl⟩
  · cases hd
    refine ⟨[.v S, o1, o2, o3, .v (.int 4), .v (.int 2)], rfl, ?_⟩
    unfold zbc
    exact zcC (zN (zL (b := true) (zW (zf (ds := [.tup [.int 4, .lst ((List.range 4).map fun j : Nat => .int (j : Int))], .tup [.int 4, .lst ((List.range 4).map fun j : Nat => .int (j : Int))]]) (zb (zf (ds := [VG, .int 1]) (zb (zf (ds := [.tup [.str "cube", .int 2]]) rfl zsi) (zb rfl zo)) zrX) (zb (by kernel_rfl) zo)) (by kernel_rfl))))) ⟨_, _, _, rfl⟩
theorem zl2 {S : D} {o1 o2 o3 o4 o5 : Sl} : (yT (zjZ (zH VI (zK 3 zu (zg (zK 1 zw (zg (XS (zg (eC (.str "full")) (zg (eC (.int 6)) zC))) zC)) (zg (eC (.int 0)) (zg (eC (.int 1)) zC)))) (eC (.int 6))) (zH VI (zK 3 zu (zg (zK 1 zw (zg (XS (zg (eC (.str "star")) (zg (eC (.int 5)) zC))) zC)) (zg (eC (.int 0)) (zg (eC (.int 1)) zC)))) (eC (.int 6))))) [.v S, o1, o2, o3, o4, o5] = .rt (.bl true) :=
  zlF (ztb (b := true) (c := true) (zbA (x := .int 6) (y := .int 6) (zf (ds := [zlT, .int 0, .int 1]) (zb (zf (ds := [.tup [.str "full", .int 6]]) rfl zrO) (zb rfl (zb rfl zo))) zmm) rfl rfl) (zbA (x := .int 6) (y := .int 6) (zf (ds := [zmD, .int 0, .int 1]) (zb (zf (ds := [.tup [.str "star", .int 5]]) rfl zrq) (zb rfl (zb rfl zo))) zlI) rfl rfl))
theorem zql : ∀ ns : List Int, ns.length ≤ 63 → zt9 [.scr ns] = some (.bl true) := by
  intro ns hns
  refine ztN (ρ := [.v (.scr ns), .no, .no, .no, .no, .no]) rfl ?_
  unfold zqJ
  obtain ⟨c, hc⟩ := zn1 ns
  have h0 := Int.emod_nonneg c (show (3 : Int) ≠ 0 by decide)
  have h3 := Int.emod_lt_of_pos c (show (0 : Int) < 3 by decide)
  have em : ztJ (.int c) (.int 3) = some (.int (c % 3)) := rfl
  refine zt (ρ' := [.v (.scr ns), .v (.int (1 + c % 3)), .no, .no, .no, .no]) (zcc (show zH zi8 (eC (.int 1)) (zH ztJ (zK 2 yX (zg (zp 0) (zg (eC (.int 0)) zC))) (eC (.int 3))) (visF [.v (.scr ns), .no, .no, .no, .no, .no]) = _ from zbA (x := .int 1) (y := .int (c % 3)) rfl (zbA (zf (ds := [.scr ns, .int 0]) rfl hc) rfl em) rfl)) ?_
  have c3 : c % 3 = 0 ∨ c % 3 = 1 ∨ c % 3 = 2 := by omega
  rcases c3 with e | e | e <;> rw [e]
  · exact zcE (ztT fun _ _ _ _ => zcE (zr3 fun _ _ _ => zcE (zr1 fun _ _ _ => zri zl2 rfl)))
  · exact zcE (ztI fun _ _ _ _ => zcE (zr3 fun _ _ _ => zcE (zr1 fun _ _ _ => zri zl2 rfl)))
  · exact zcE (zs5 fun _ _ _ _ => zcE (zr3 fun _ _ _ => zcE (zr1 fun _ _ _ => zri zl2 rfl)))
theorem zsZ (T : Txt K mg ad) : xk P w K mg base CX0 30 ad.f_law ad.e_law ["script"] (zoz K) := by
  letI : KK := ⟨K⟩
  have G_need := zo2 (P := P) (w := w) (base := base) T
  have G_need_all := zmr (P := P) (w := w) (base := base) T
  have G_web_for := zoe (P := P) (w := w) (base := base) T
  have G__law_cell_at := zcx (P := P) (w := w) (base := base) T
  have G__law_same := zlh (P := P) (w := w) (base := base) T
  refine (zsS (p := zt9) (yR (N := ["script", "m", "n", "twos", "due", "d"]) (ps := ["script"]) T.d_law.fn zan (g := zqJ) fun cdv A outer s H E hr => ?_) zql).mono (j := 14) (by decide)
  unfold zqJ zM VJ zbc
  exact (zj (xy (m := false) (i := 1) zan.nd rfl (Or.inl rfl) (XJ (zm zn) (zt1 (zr (G__law_cell_at.mono (by decide)) hr rfl T.d__law_cell_at.at_ T.d__law_cell_at.kp T.d__law_cell_at.bd (zc (zd 0 (pv 0)) (zc (zm zn) zh))) (zm zn))))
      (zj (zp3 PassesOwn.never rfl rfl T.z_range (zc (zm zn) (zc (zm zn) zh)) (yP (zU (i := 2) zan.nd rfl (Or.inl rfl))) (zj (xy (m := false) (i := 3) zan.nd rfl (Or.inl rfl) (yf (XR (XL (zc (zm zn) (zc (zm zn) (zc (zm zn) (zc (zm zn) (zc (zm zn) zh))))))) (zbx (zd 2 (pv 2)) (zm zn)) (fun _ _ => rfl)))
      (zj (yq (znW (zcl (zT zrU yD (zJ _) (zd 2 (pv 2)) (zm zn)) (Vo (y9 (yE (zr (G__law_same.mono (by decide)) hr rfl T.d__law_same.at_ T.d__law_same.kp T.d__law_same.bd (zc (zr (G_need.mono (by decide)) hr rfl T.d_need.at_ T.d_need.kp T.d_need.bd (zc (zr (G_web_for.mono (by decide)) hr rfl T.d_web_for.at_ T.d_web_for.kp T.d_web_for.bd (zc (yF (zc (xz xB) (zc (zd 2 (pv 2)) zh))) zh)) (zc (zm zn) (zc (zd 1 (pv 1)) zh)))) (zc (zo1 (zd 1 (pv 1)) (zd 3 (pv 3))) zh)))))))) (zl (zB (xE xN))) zD)
      (zj (yq (znW (zcl (zT (yO hr) yd (zJ _) (zd 2 (pv 2)) (zm zn)) (Vo (y9 (yE (zr (G__law_same.mono (by decide)) hr rfl T.d__law_same.at_ T.d__law_same.kp T.d__law_same.bd (zc (zr (G_need.mono (by decide)) hr rfl T.d_need.at_ T.d_need.kp T.d_need.bd (zc (zr (G_web_for.mono (by decide)) hr rfl T.d_web_for.at_ T.d_web_for.kp T.d_web_for.bd (zc (yF (zc (xz xB) (zc (zd 2 (pv 2)) zh))) zh)) (zc (zm zn) (zc (zm zn) zh)))) (zc (zm zn) zh)))))))) (zl (zB (xE xN))) zD)
      (zj (xy (m := false) (i := 4) zan.nd rfl (Or.inl rfl) (yf (XR (XL (zc (zd 1 (pv 1)) (zc (zbx (XJ (zo1 (zm zn) (zd 1 (pv 1))) (zd 2 (pv 2))) (zm zn)) zh)))) (W1 zoY zpV rfl T.z_int znj (zc (xP zj2 yD (zJ _) (zd 2 (pv 2)) (zm zn)) zh)) (fun _ _ => rfl)))
      (zj (yq (y9 (yE (zr (G__law_same.mono (by decide)) hr rfl T.d__law_same.at_ T.d__law_same.kp T.d__law_same.bd (zc (zr (G_need.mono (by decide)) hr rfl T.d_need.at_ T.d_need.kp T.d_need.bd (zc (zr (G_web_for.mono (by decide)) hr rfl T.d_web_for.at_ T.d_web_for.kp T.d_web_for.bd (zc (yF (zc (xz xB) (zc (zd 2 (pv 2)) zh))) zh)) (zc (zbx (zd 2 (pv 2)) (zm zn)) (zc (zd 1 (pv 1)) zh)))) (zc (zd 4 (pv 4)) zh))))) (zl (zB (xE xN))) zD)
      (zl (yq (znW (zcl (zT zj2 yD (zJ _) (zd 2 (pv 2)) (zm zn)) (Vo (y9 (yE (zr (G__law_same.mono (by decide)) hr rfl T.d__law_same.at_ T.d__law_same.kp T.d__law_same.bd (zc (zr (G_need.mono (by decide)) hr rfl T.d_need.at_ T.d_need.kp T.d_need.bd (zc (zr (G_web_for.mono (by decide)) hr rfl T.d_web_for.at_ T.d_web_for.kp T.d_web_for.bd (zc (yF (zc (xz xB) (zc (zbx (zd 2 (pv 2)) (zm zn)) zh))) zh)) (zc (zm zn) (zc (zd 1 (pv 1)) zh)))) (zc (zd 4 (pv 4)) zh)))))))) (zl (zB (xE xN))) zD))))))))
      (zj (zba PassesOwn.never rfl (zb7 (XR (XL (zc (yF (zc (zm zn) (zc (zm zn) zh))) (zc (yF (zc (zm zn) (zc (zm zn) zh))) (zc (yF (zc (zm zn) (zc (zm zn) zh))) (zc (yF (zc (zm zn) (zc (zm zn) zh))) zh))))))) (znx rfl (x5 (yP (zU (i := 2) zan.nd rfl (Or.inl rfl))) (x5 (yP (zU (i := 4) zan.nd rfl (Or.inl rfl))) zhm))) (zl (yq (y9 (yE (zr (G__law_same.mono (by decide)) hr rfl T.d__law_same.at_ T.d__law_same.kp T.d__law_same.bd (zc (zr (G_need_all.mono (by decide)) hr rfl T.d_need_all.at_ T.d_need_all.kp T.d_need_all.bd (zc (zr (G_web_for.mono (by decide)) hr rfl T.d_web_for.at_ T.d_web_for.kp T.d_web_for.bd (zc (yF (zc (xz xB) (zc (zd 2 (pv 2)) zh))) zh)) (zc (zm zn) zh))) (zc (yF (zc (zd 4 (pv 4)) (zc (XR (zbI rfl rfl T.z_list rfl T.z_range (zd 2 (pv 2)))) zh))) zh))))) (zl (zB (xE xN))) zD)))
      (zj (zba PassesOwn.never rfl (zb7 (XR (XL (zc (yF (zc (zm zn) (zc (zm zn) zh))) (zc (yF (zc (zm zn) (zc (zm zn) zh))) (zc (yF (zc (zm zn) (zc (zm zn) zh))) zh)))))) (znx rfl (x5 (yP (zU (i := 5) zan.nd rfl (Or.inl rfl))) (x5 (yP (zU (i := 4) zan.nd rfl (Or.inl rfl))) zhm))) (zl (yq (y9 (yE (zr (G__law_same.mono (by decide)) hr rfl T.d__law_same.at_ T.d__law_same.kp T.d__law_same.bd (zc (zr (G_need_all.mono (by decide)) hr rfl T.d_need_all.at_ T.d_need_all.kp T.d_need_all.bd (zc (zr (G_web_for.mono (by decide)) hr rfl T.d_web_for.at_ T.d_web_for.kp T.d_web_for.bd (zc (yF (zc (xz xB) (zc (zd 5 (pv 5)) zh))) zh)) (zc (zm zn) zh))) (zc (yF (zc (zd 4 (pv 4)) (zc (XR (zbI rfl rfl T.z_list rfl T.z_range (zd 4 (pv 4)))) zh))) zh))))) (zl (zB (xE xN))) zD)))
      (zl (zB (XO (xP (yO hr) yd (zJ _) (zr (G_need.mono (by decide)) hr rfl T.d_need.at_ T.d_need.kp T.d_need.bd (zc (zr (G_web_for.mono (by decide)) hr rfl T.d_web_for.at_ T.d_web_for.kp T.d_web_for.bd (zc (yF (zc (xz xB) (zc (zm zn) zh))) zh)) (zc (zm zn) (zc (zm zn) zh)))) (zm zn)) (XT (xP (yO hr) yd (zJ _) (zr (G_need.mono (by decide)) hr rfl T.d_need.at_ T.d_need.kp T.d_need.bd (zc (zr (G_web_for.mono (by decide)) hr rfl T.d_web_for.at_ T.d_web_for.kp T.d_web_for.bd (zc (yF (zc (xz xB) (zc (zm zn) zh))) zh)) (zc (zm zn) (zc (zm zn) zh)))) (zm zn))))))))))
end
theorem zbd {us : List Value} (h : us.length = 1) : ∃ x0, us = [x0] := by
  cases us with
  | nil => cases h
  | cons x0 us =>
    cases us with
    | nil => exact ⟨x0, rfl⟩
    | cons _ _ => cases h
theorem zbo {us : List Value} (h : us.length = 2) : ∃ x0 x1, us = [x0, x1] := by
  cases us with
  | nil => cases h
  | cons x0 us =>
    cases us with
    | nil => cases h
    | cons x1 us =>
      cases us with
      | nil => exact ⟨x0, x1, rfl⟩
      | cons _ _ => cases h
theorem znS {us : List Value} (h : us.length = 3) : ∃ x0 x1 x2, us = [x0, x1, x2] := by
  cases us with
  | nil => cases h
  | cons x0 us =>
    cases us with
    | nil => cases h
    | cons x1 us =>
      cases us with
      | nil => cases h
      | cons x2 us =>
        cases us with
        | nil => exact ⟨x0, x1, x2, rfl⟩
        | cons _ _ => cases h
theorem zsx {us : List Value} (h : us.length = 4) : ∃ x0 x1 x2 x3, us = [x0, x1, x2, x3] := by
  cases us with
  | nil => cases h
  | cons x0 us =>
    cases us with
    | nil => cases h
    | cons x1 us =>
      cases us with
      | nil => cases h
      | cons x2 us =>
        cases us with
        | nil => cases h
        | cons x3 us =>
          cases us with
          | nil => exact ⟨x0, x1, x2, x3, rfl⟩
          | cons _ _ => cases h
theorem all_mk {l : PySem.W.OpenLaw} {w : World} {K : PySem.W.Frag} {h : Heap} {mg : Str → Option Value} {fa f0 f1 f2 f3 f4 f5 f6 f7 f8 f9 f10 f11 f12 f13 f14 f15 f16 f17 f18 f19 f20 f21 f22 f23 f24 f25 f26 f27 f28 f29 f30 f31 f32 f33 f34 : Addr} (X : K.In h) (G : h.Ns mainGlobals mg) (hfa : mg "law" = some (.ref fa))
    {od0 an0 od1 an1 od2 an2 od3 an3 od4 an4 od5 an5 od6 an6 od7 an7 od8 an8 od9 an9 od10 an10 od11 an11 od12 an12 od13 an13 od14 an14 od15 an15 od16 an16 od17 an17 od18 an18 od19 an19 od20 an20 od21 an21 od22 an22 od23 an23 od24 an24 od25 an25 od26 an26 od27 an27 od28 an28 od29 an29 od30 an30 od31 an31 od32 an32 od33 an33 od34 an34 : Option Addr} {sl0 sl1 sl2 sl3 sl4 sl5 sl6 sl7 sl8 sl9 sl10 sl11 sl12 sl13 sl14 sl15 sl16 sl17 sl18 sl19 sl20 sl21 sl22 sl23 sl24 sl25 sl26 sl27 sl28 sl29 sl30 sl31 sl32 sl33 sl34 : Array (Option Value)} {oc0 kV0 dc0 pm0 cd0 ct0 oc1 kV1 dc1 pm1 cd1 ct1 oc2 kV2 dc2 pm2 cd2 ct2 oc3 kV3 dc3 pm3 cd3 ct3 oc4 kV4 dc4 pm4 cd4 ct4 oc5 kV5 dc5 pm5 cd5 ct5 oc6 kV6 dc6 pm6 cd6 ct6 oc7 kV7 dc7 pm7 cd7 ct7 oc8 kV8 dc8 pm8 cd8 ct8 oc9 kV9 dc9 pm9 cd9 ct9 oc10 kV10 dc10 pm10 cd10 ct10 oc11 kV11 dc11 pm11 cd11 ct11 oc12 kV12 dc12 pm12 cd12 ct12 oc13 kV13 dc13 pm13 cd13 ct13 oc14 kV14 dc14 pm14 cd14 ct14 oc15 kV15 dc15 pm15 cd15 ct15 oc16 kV16 dc16 pm16 cd16 ct16 oc17 kV17 dc17 pm17 cd17 ct17 oc18 kV18 dc18 pm18 cd18 ct18 oc19 kV19 dc19 pm19 cd19 ct19 oc20 kV20 dc20 pm20 cd20 ct20 oc21 kV21 dc21 pm21 cd21 ct21 oc22 kV22 dc22 pm22 cd22 ct22 oc23 kV23 dc23 pm23 cd23 ct23 oc24 kV24 dc24 pm24 cd24 ct24 oc25 kV25 dc25 pm25 cd25 ct25 oc26 kV26 dc26 pm26 cd26 ct26 oc27 kV27 dc27 pm27 cd27 ct27 oc28 kV28 dc28 pm28 cd28 ct28 oc29 kV29 dc29 pm29 cd29 ct29 oc30 kV30 dc30 pm30 cd30 ct30 oc31 kV31 dc31 pm31 cd31 ct31 oc32 kV32 dc32 pm32 cd32 ct32 oc33 kV33 dc33 pm33 cd33 ct33 oc34 kV34 dc34 pm34 cd34 ct34 : Value} {tk0 : Tok} {tk1 : Tok} {tk2 : Tok} {tk3 : Tok}
    {sz0 ep0 : Nat} {rr0_0 rr0_1 rr0_2 rr0_3 rr0_4 : Addr} {hh0_0 hh0_1 hh0_2 hh0_3 hh0_4 : Int} {tt0_0 tu0_0_0 tu0_0_1 tt0_1 tu0_1_0 tu0_1_1 tt0_2 tu0_2_0 tu0_2_1 tt0_3 tu0_3_0 tu0_3_1 tt0_4 tu0_4_0 tu0_4_1 : Tok} {nn0_0 nn0_1 nn0_2 nn0_3 nn0_4 : Nat} {oo0_0 oo0_1 oo0_2 oo0_3 oo0_4 : Option Addr} {ss0_0 ss0_1 ss0_2 ss0_3 ss0_4 : Array (Option Value)}
    (a0 : PySem.W.nsIn K mainGlobals "is_whole" = some (some (.ref f0))) (l0 : K.lookup f0 = some ⟨oc0, od0, .func (PySem.W.fnOf "is_whole" "is_whole" (zG xq) (zE xq) (zi xq) .none kV0 dc0 pm0 an0 cd0 ct0), sl0⟩) (c0 : PySem.W.codeIn K cd0 "is_whole" = true) (k0 : PySem.W.keepIn K (.ref f0) = true)
    (a1 : PySem.W.nsIn K mainGlobals "is_whole_within" = some (some (.ref f1))) (l1 : K.lookup f1 = some ⟨oc1, od1, .func (PySem.W.fnOf "is_whole_within" "is_whole_within" (zG zY) (zE zY) (zi zY) .none kV1 dc1 pm1 an1 cd1 ct1), sl1⟩) (c1 : PySem.W.codeIn K cd1 "is_whole_within" = true) (k1 : PySem.W.keepIn K (.ref f1) = true)
    (a2 : PySem.W.nsIn K mainGlobals "must_be_within" = some (some (.ref f2))) (l2 : K.lookup f2 = some ⟨oc2, od2, .func (PySem.W.fnOf "must_be_within" "must_be_within" (zG yj) (zE yj) (zi yj) .none kV2 dc2 pm2 an2 cd2 ct2), sl2⟩) (c2 : PySem.W.codeIn K cd2 "must_be_within" = true) (k2 : PySem.W.keepIn K (.ref f2) = true)
    (a3 : PySem.W.nsIn K mainGlobals "must_be_at_most" = some (some (.ref f3))) (l3 : K.lookup f3 = some ⟨oc3, od3, .func (PySem.W.fnOf "must_be_at_most" "must_be_at_most" (zG zX) (zE zX) (zi zX) .none kV3 dc3 pm3 an3 cd3 ct3), sl3⟩) (c3 : PySem.W.codeIn K cd3 "must_be_at_most" = true) (k3 : PySem.W.keepIn K (.ref f3) = true)
    (a4 : PySem.W.nsIn K mainGlobals "is_place_count" = some (some (.ref f4))) (l4 : K.lookup f4 = some ⟨oc4, od4, .func (PySem.W.fnOf "is_place_count" "is_place_count" (zG yi) (zE yi) (zi yi) .none kV4 dc4 pm4 an4 cd4 ct4), sl4⟩) (c4 : PySem.W.codeIn K cd4 "is_place_count" = true) (k4 : PySem.W.keepIn K (.ref f4) = true)
    (a5 : PySem.W.nsIn K mainGlobals "is_place" = some (some (.ref f5))) (l5 : K.lookup f5 = some ⟨oc5, od5, .func (PySem.W.fnOf "is_place" "is_place" (zG xv) (zE xv) (zi xv) .none kV5 dc5 pm5 an5 cd5 ct5), sl5⟩) (c5 : PySem.W.codeIn K cd5 "is_place" = true) (k5 : PySem.W.keepIn K (.ref f5) = true)
    (a6 : PySem.W.nsIn K mainGlobals "is_pair" = some (some (.ref f6))) (l6 : K.lookup f6 = some ⟨oc6, od6, .func (PySem.W.fnOf "is_pair" "is_pair" (zG xW) (zE xW) (zi xW) .none kV6 dc6 pm6 an6 cd6 ct6), sl6⟩) (c6 : PySem.W.codeIn K cd6 "is_pair" = true) (k6 : PySem.W.keepIn K (.ref f6) = true)
    (a7 : PySem.W.nsIn K mainGlobals "are_ties" = some (some (.ref f7))) (l7 : K.lookup f7 = some ⟨oc7, od7, .func (PySem.W.fnOf "are_ties" "are_ties" (zG xu) (zE xu) (zi xu) .none kV7 dc7 pm7 an7 cd7 ct7), sl7⟩) (c7 : PySem.W.codeIn K cd7 "are_ties" = true) (k7 : PySem.W.keepIn K (.ref f7) = true)
    (a8 : PySem.W.nsIn K mainGlobals "is_web" = some (some (.ref f8))) (l8 : K.lookup f8 = some ⟨oc8, od8, .func (PySem.W.fnOf "is_web" "is_web" (zG wb) (zE wb) (zi wb) .none kV8 dc8 pm8 an8 cd8 ct8), sl8⟩) (c8 : PySem.W.codeIn K cd8 "is_web" = true) (k8 : PySem.W.keepIn K (.ref f8) = true)
    (a9 : PySem.W.nsIn K mainGlobals "must_be_web" = some (some (.ref f9))) (l9 : K.lookup f9 = some ⟨oc9, od9, .func (PySem.W.fnOf "must_be_web" "must_be_web" (zG yI) (zE yI) (zi yI) .none kV9 dc9 pm9 an9 cd9 ct9), sl9⟩) (c9 : PySem.W.codeIn K cd9 "must_be_web" = true) (k9 : PySem.W.keepIn K (.ref f9) = true)
    (a10 : PySem.W.nsIn K mainGlobals "must_be_place" = some (some (.ref f10))) (l10 : K.lookup f10 = some ⟨oc10, od10, .func (PySem.W.fnOf "must_be_place" "must_be_place" (zG yl) (zE yl) (zi yl) .none kV10 dc10 pm10 an10 cd10 ct10), sl10⟩) (c10 : PySem.W.codeIn K cd10 "must_be_place" = true) (k10 : PySem.W.keepIn K (.ref f10) = true)
    (a11 : PySem.W.nsIn K mainGlobals "tie_between" = some (some (.ref f11))) (l11 : K.lookup f11 = some ⟨oc11, od11, .func (PySem.W.fnOf "tie_between" "tie_between" (zG yK) (zE yK) (zi yK) .none kV11 dc11 pm11 an11 cd11 ct11), sl11⟩) (c11 : PySem.W.codeIn K cd11 "tie_between" = true) (k11 : PySem.W.keepIn K (.ref f11) = true)
    (a12 : PySem.W.nsIn K mainGlobals "neighbours" = some (some (.ref f12))) (l12 : K.lookup f12 = some ⟨oc12, od12, .func (PySem.W.fnOf "neighbours" "neighbours" (zG yU) (zE yU) (zi yU) .none kV12 dc12 pm12 an12 cd12 ct12), sl12⟩) (c12 : PySem.W.codeIn K cd12 "neighbours" = true) (k12 : PySem.W.keepIn K (.ref f12) = true)
    (a13 : PySem.W.nsIn K mainGlobals "ties_away" = some (some (.ref f13))) (l13 : K.lookup f13 = some ⟨oc13, od13, .func (PySem.W.fnOf "ties_away" "ties_away" (zG y6) (zE y6) (zi y6) .none kV13 dc13 pm13 an13 cd13 ct13), sl13⟩) (c13 : PySem.W.codeIn K cd13 "ties_away" = true) (k13 : PySem.W.keepIn K (.ref f13) = true)
    (a14 : PySem.W.nsIn K mainGlobals "pieces" = some (some (.ref f14))) (l14 : K.lookup f14 = some ⟨oc14, od14, .func (PySem.W.fnOf "pieces" "pieces" (zG we) (zE we) (zi we) .none kV14 dc14 pm14 an14 cd14 ct14), sl14⟩) (c14 : PySem.W.codeIn K cd14 "pieces" = true) (k14 : PySem.W.keepIn K (.ref f14) = true)
    (a15 : PySem.W.nsIn K mainGlobals "is_joined" = some (some (.ref f15))) (l15 : K.lookup f15 = some ⟨oc15, od15, .func (PySem.W.fnOf "is_joined" "is_joined" (zG y8) (zE y8) (zi y8) .none kV15 dc15 pm15 an15 cd15 ct15), sl15⟩) (c15 : PySem.W.codeIn K cd15 "is_joined" = true) (k15 : PySem.W.keepIn K (.ref f15) = true)
    (a16 : PySem.W.nsIn K mainGlobals "all_steps" = some (some (.ref f16))) (l16 : K.lookup f16 = some ⟨oc16, od16, .func (PySem.W.fnOf "all_steps" "all_steps" (zG xf) (zE xf) (zi xf) .none kV16 dc16 pm16 an16 cd16 ct16), sl16⟩) (c16 : PySem.W.codeIn K cd16 "all_steps" = true) (k16 : PySem.W.keepIn K (.ref f16) = true)
    (a17 : PySem.W.nsIn K mainGlobals "stepped" = some (some (.ref f17))) (l17 : K.lookup f17 = some ⟨oc17, od17, .func (PySem.W.fnOf "stepped" "stepped" (zG xX) (zE xX) (zi xX) .none kV17 dc17 pm17 an17 cd17 ct17), sl17⟩) (c17 : PySem.W.codeIn K cd17 "stepped" = true) (k17 : PySem.W.keepIn K (.ref f17) = true)
    (a18 : PySem.W.nsIn K mainGlobals "must_be_counted" = some (some (.ref f18))) (l18 : K.lookup f18 = some ⟨oc18, od18, .func (PySem.W.fnOf "must_be_counted" "must_be_counted" (zG zZ) (zE zZ) (zi zZ) .none kV18 dc18 pm18 an18 cd18 ct18), sl18⟩) (c18 : PySem.W.codeIn K cd18 "must_be_counted" = true) (k18 : PySem.W.keepIn K (.ref f18) = true)
    (a19 : PySem.W.nsIn K mainGlobals "must_be_wanted" = some (some (.ref f19))) (l19 : K.lookup f19 = some ⟨oc19, od19, .func (PySem.W.fnOf "must_be_wanted" "must_be_wanted" (zG yh) (zE yh) (zi yh) .none kV19 dc19 pm19 an19 cd19 ct19), sl19⟩) (c19 : PySem.W.codeIn K cd19 "must_be_wanted" = true) (k19 : PySem.W.keepIn K (.ref f19) = true)
    (a20 : PySem.W.nsIn K mainGlobals "grown" = some (some (.ref f20))) (l20 : K.lookup f20 = some ⟨oc20, od20, .func (PySem.W.fnOf "grown" "grown" (zG Vf) (zE Vf) (zi Vf) .none kV20 dc20 pm20 an20 cd20 ct20), sl20⟩) (c20 : PySem.W.codeIn K cd20 "grown" = true) (k20 : PySem.W.keepIn K (.ref f20) = true)
    (a21 : PySem.W.nsIn K mainGlobals "leads_to" = some (some (.ref f21))) (l21 : K.lookup f21 = some ⟨oc21, od21, .func (PySem.W.fnOf "leads_to" "leads_to" (zG xl) (zE xl) (zi xl) .none kV21 dc21 pm21 an21 cd21 ct21), sl21⟩) (c21 : PySem.W.codeIn K cd21 "leads_to" = true) (k21 : PySem.W.keepIn K (.ref f21) = true)
    (a22 : PySem.W.nsIn K mainGlobals "level_above" = some (some (.ref f22))) (l22 : K.lookup f22 = some ⟨oc22, od22, .func (PySem.W.fnOf "level_above" "level_above" (zG yJ) (zE yJ) (zi yJ) .none kV22 dc22 pm22 an22 cd22 ct22), sl22⟩) (c22 : PySem.W.codeIn K cd22 "level_above" = true) (k22 : PySem.W.keepIn K (.ref f22) = true)
    (a23 : PySem.W.nsIn K mainGlobals "failing_levels" = some (some (.ref f23))) (l23 : K.lookup f23 = some ⟨oc23, od23, .func (PySem.W.fnOf "failing_levels" "failing_levels" (zG yg) (zE yg) (zi yg) .none kV23 dc23 pm23 an23 cd23 ct23), sl23⟩) (c23 : PySem.W.codeIn K cd23 "failing_levels" = true) (k23 : PySem.W.keepIn K (.ref f23) = true)
    (a24 : PySem.W.nsIn K mainGlobals "all_failing" = some (some (.ref f24))) (l24 : K.lookup f24 = some ⟨oc24, od24, .func (PySem.W.fnOf "all_failing" "all_failing" (zG yH) (zE yH) (zi yH) .none kV24 dc24 pm24 an24 cd24 ct24), sl24⟩) (c24 : PySem.W.codeIn K cd24 "all_failing" = true) (k24 : PySem.W.keepIn K (.ref f24) = true)
    (a25 : PySem.W.nsIn K mainGlobals "need" = some (some (.ref f25))) (l25 : K.lookup f25 = some ⟨oc25, od25, .func (PySem.W.fnOf "need" "need" (zG zbe) (zE zbe) (zi zbe) .none kV25 dc25 pm25 an25 cd25 ct25), sl25⟩) (c25 : PySem.W.codeIn K cd25 "need" = true) (k25 : PySem.W.keepIn K (.ref f25) = true)
    (a26 : PySem.W.nsIn K mainGlobals "need_all" = some (some (.ref f26))) (l26 : K.lookup f26 = some ⟨oc26, od26, .func (PySem.W.fnOf "need_all" "need_all" (zG xm) (zE xm) (zi xm) .none kV26 dc26 pm26 an26 cd26 ct26), sl26⟩) (c26 : PySem.W.codeIn K cd26 "need_all" = true) (k26 : PySem.W.keepIn K (.ref f26) = true)
    (a27 : PySem.W.nsIn K mainGlobals "is_over" = some (some (.ref f27))) (l27 : K.lookup f27 = some ⟨oc27, od27, .func (PySem.W.fnOf "is_over" "is_over" (zG xV) (zE xV) (zi xV) .none kV27 dc27 pm27 an27 cd27 ct27), sl27⟩) (c27 : PySem.W.codeIn K cd27 "is_over" = true) (k27 : PySem.W.keepIn K (.ref f27) = true)
    (a28 : PySem.W.nsIn K mainGlobals "kind_good" = some (some (.ref f28))) (l28 : K.lookup f28 = some ⟨oc28, od28, .func (PySem.W.fnOf "kind_good" "kind_good" (zG xb) (zE xb) (zi xb) .none kV28 dc28 pm28 an28 cd28 ct28), sl28⟩) (c28 : PySem.W.codeIn K cd28 "kind_good" = true) (k28 : PySem.W.keepIn K (.ref f28) = true)
    (a29 : PySem.W.nsIn K mainGlobals "places_of" = some (some (.ref f29))) (l29 : K.lookup f29 = some ⟨oc29, od29, .func (PySem.W.fnOf "places_of" "places_of" (zG xc) (zE xc) (zi xc) .none kV29 dc29 pm29 an29 cd29 ct29), sl29⟩) (c29 : PySem.W.codeIn K cd29 "places_of" = true) (k29 : PySem.W.keepIn K (.ref f29) = true)
    (a30 : PySem.W.nsIn K mainGlobals "are_tied" = some (some (.ref f30))) (l30 : K.lookup f30 = some ⟨oc30, od30, .func (PySem.W.fnOf "are_tied" "are_tied" (zG xp) (zE xp) (zi xp) .none kV30 dc30 pm30 an30 cd30 ct30), sl30⟩) (c30 : PySem.W.codeIn K cd30 "are_tied" = true) (k30 : PySem.W.keepIn K (.ref f30) = true)
    (a31 : PySem.W.nsIn K mainGlobals "web_for" = some (some (.ref f31))) (l31 : K.lookup f31 = some ⟨oc31, od31, .func (PySem.W.fnOf "web_for" "web_for" (zG xT) (zE xT) (zi xT) .none kV31 dc31 pm31 an31 cd31 ct31), sl31⟩) (c31 : PySem.W.codeIn K cd31 "web_for" = true) (k31 : PySem.W.keepIn K (.ref f31) = true)
    (a32 : PySem.W.nsIn K mainGlobals "_law_cell_at" = some (some (.ref f32))) (l32 : K.lookup f32 = some ⟨oc32, od32, .func (PySem.W.fnOf "_law_cell_at" "_law_cell_at" (zG yu) (zE yu) (zi yu) .none kV32 dc32 pm32 an32 cd32 ct32), sl32⟩) (c32 : PySem.W.codeIn K cd32 "_law_cell_at" = true) (k32 : PySem.W.keepIn K (.ref f32) = true)
    (a33 : PySem.W.nsIn K mainGlobals "_law_same" = some (some (.ref f33))) (l33 : K.lookup f33 = some ⟨oc33, od33, .func (PySem.W.fnOf "_law_same" "_law_same" (zG xa) (zE xa) (zi xa) .none kV33 dc33 pm33 an33 cd33 ct33), sl33⟩) (c33 : PySem.W.codeIn K cd33 "_law_same" = true) (k33 : PySem.W.keepIn K (.ref f33) = true)
    (a34 : PySem.W.nsIn K mainGlobals "law" = some (some (.ref f34))) (l34 : K.lookup f34 = some ⟨oc34, od34, .func (PySem.W.fnOf "law" "law" (zG zcN) (zE zcN) (zi zcN) .none kV34 dc34 pm34 an34 cd34 ct34), sl34⟩) (c34 : PySem.W.codeIn K cd34 "law" = true) (k34 : PySem.W.keepIn K (.ref f34) = true)
    (gg0 : PySem.W.nsIn K mainGlobals "MOST_PLACES" = some (some (.int 8 tk0)))
    (gg1 : PySem.W.nsIn K mainGlobals "MOST_STONES" = some (some (.int 300 tk1)))
    (gg2 : PySem.W.nsIn K mainGlobals "MOST_WANTED" = some (some (.int 3 tk2)))
    (gg3 : PySem.W.nsIn K mainGlobals "MOST_COUNTED" = some (some (.int 6 tk3)))
    (sa0 : PySem.W.nsIn K mainGlobals "SIZES" = some (some (.ref sz0))) (sb0 : K.lookup sz0 = some { cls := .type "dict", data := .dict #[{ hash := hh0_0, key := .str "row" tt0_0, val := .ref rr0_0 }, { hash := hh0_1, key := .str "ring" tt0_1, val := .ref rr0_1 }, { hash := hh0_2, key := .str "cube" tt0_2, val := .ref rr0_2 }, { hash := hh0_3, key := .str "full" tt0_3, val := .ref rr0_3 }, { hash := hh0_4, key := .str "star" tt0_4, val := .ref rr0_4 }] ep0 }) (sd0 : (sz0 == sysModules) = false)
    (sc0_0 : K.lookup rr0_0 = some { cls := .type "tuple", dict := oo0_0, data := .seq #[.int 1 tu0_0_0, .int 8 tu0_0_1] nn0_0, slots := ss0_0 })
    (sc0_1 : K.lookup rr0_1 = some { cls := .type "tuple", dict := oo0_1, data := .seq #[.int 3 tu0_1_0, .int 8 tu0_1_1] nn0_1, slots := ss0_1 })
    (sc0_2 : K.lookup rr0_2 = some { cls := .type "tuple", dict := oo0_2, data := .seq #[.int 0 tu0_2_0, .int 3 tu0_2_1] nn0_2, slots := ss0_2 })
    (sc0_3 : K.lookup rr0_3 = some { cls := .type "tuple", dict := oo0_3, data := .seq #[.int 1 tu0_3_0, .int 8 tu0_3_1] nn0_3, slots := ss0_3 })
    (sc0_4 : K.lookup rr0_4 = some { cls := .type "tuple", dict := oo0_4, data := .seq #[.int 1 tu0_4_0, .int 7 tu0_4_1] nn0_4, slots := ss0_4 })
    (z0 : PySem.W.nsIn K mainGlobals "all" = some none)
    (z1 : PySem.W.nsIn K mainGlobals "bool" = some none)
    (z2 : PySem.W.nsIn K mainGlobals "enumerate" = some none)
    (z3 : PySem.W.nsIn K mainGlobals "int" = some none)
    (z4 : PySem.W.nsIn K mainGlobals "isinstance" = some none)
    (z5 : PySem.W.nsIn K mainGlobals "len" = some none)
    (z6 : PySem.W.nsIn K mainGlobals "list" = some none)
    (z7 : PySem.W.nsIn K mainGlobals "max" = some none)
    (z8 : PySem.W.nsIn K mainGlobals "min" = some none)
    (z9 : PySem.W.nsIn K mainGlobals "range" = some none)
    (z10 : PySem.W.nsIn K mainGlobals "str" = some none)
    (z11 : PySem.W.nsIn K mainGlobals "tuple" = some none)
    (z12 : PySem.W.nsIn K mainGlobals "zip" = some none)
    : ∃ fd : FuncData, (∀ (s : Shared) (v : Value), BindsTo s fd ⟨[v], []⟩ [("script", v)]) ∧ ∀ base : Heap, K.In base → base.Ns mainGlobals mg → xk l.prog w K mg base CX0 30 fa fd ["script"] (zoz K) := by
  have e := hfa.symm.trans (PySem.W.mg_of X G a34)
  cases e
  have F0 := zV (st := xq) l0 c0 k0
  have F1 := zV (st := zY) l1 c1 k1
  have F2 := zV (st := yj) l2 c2 k2
  have F3 := zV (st := zX) l3 c3 k3
  have F4 := zV (st := yi) l4 c4 k4
  have F5 := zV (st := xv) l5 c5 k5
  have F6 := zV (st := xW) l6 c6 k6
  have F7 := zV (st := xu) l7 c7 k7
  have F8 := zV (st := wb) l8 c8 k8
  have F9 := zV (st := yI) l9 c9 k9
  have F10 := zV (st := yl) l10 c10 k10
  have F11 := zV (st := yK) l11 c11 k11
  have F12 := zV (st := yU) l12 c12 k12
  have F13 := zV (st := y6) l13 c13 k13
  have F14 := zV (st := we) l14 c14 k14
  have F15 := zV (st := y8) l15 c15 k15
  have F16 := zV (st := xf) l16 c16 k16
  have F17 := zV (st := xX) l17 c17 k17
  have F18 := zV (st := zZ) l18 c18 k18
  have F19 := zV (st := yh) l19 c19 k19
  have F20 := zV (st := Vf) l20 c20 k20
  have F21 := zV (st := xl) l21 c21 k21
  have F22 := zV (st := yJ) l22 c22 k22
  have F23 := zV (st := yg) l23 c23 k23
  have F24 := zV (st := yH) l24 c24 k24
  have F25 := zV (st := zbe) l25 c25 k25
  have F26 := zV (st := xm) l26 c26 k26
  have F27 := zV (st := xV) l27 c27 k27
  have F28 := zV (st := xb) l28 c28 k28
  have F29 := zV (st := xc) l29 c29 k29
  have F30 := zV (st := xp) l30 c30 k30
  have F31 := zV (st := xT) l31 c31 k31
  have F32 := zV (st := yu) l32 c32 k32
  have F33 := zV (st := xa) l33 c33 k33
  have F34 := zV (st := zcN) l34 c34 k34
  have T : Txt K mg ⟨_, _, _, _, _, _, _, _, _, _, _, _, _, _, _, _, _, _, _, _, _, _, _, _, _, _, _, _, _, _, _, _, _, _, _, _, _, _, _, _, _, _, _, _, _, _, _, _, _, _, _, _, _, _, _, _, _, _, _, _, _, _, _, _, _, _, _, _, _, _, tk0, tk1, tk2, tk3, sz0⟩ := ⟨
    ⟨F0, F0.binds (ps := ["thing"]) (fun _ _ _ _ _ _ us hl => by obtain ⟨_, rfl⟩ := zbd hl; rfl), PySem.W.mg_of X G a0⟩,
    ⟨F1, F1.binds (ps := ["thing", "least", "most"]) (fun _ _ _ _ _ _ us hl => by obtain ⟨_, _, _, rfl⟩ := znS hl; rfl), PySem.W.mg_of X G a1⟩,
    ⟨F2, F2.binds (ps := ["thing", "least", "most"]) (fun _ _ _ _ _ _ us hl => by obtain ⟨_, _, _, rfl⟩ := znS hl; rfl), PySem.W.mg_of X G a2⟩,
    ⟨F3, F3.binds (ps := ["many", "most"]) (fun _ _ _ _ _ _ us hl => by obtain ⟨_, _, rfl⟩ := zbo hl; rfl), PySem.W.mg_of X G a3⟩,
    ⟨F4, F4.binds (ps := ["thing"]) (fun _ _ _ _ _ _ us hl => by obtain ⟨_, rfl⟩ := zbd hl; rfl), PySem.W.mg_of X G a4⟩,
    ⟨F5, F5.binds (ps := ["many", "thing"]) (fun _ _ _ _ _ _ us hl => by obtain ⟨_, _, rfl⟩ := zbo hl; rfl), PySem.W.mg_of X G a5⟩,
    ⟨F6, F6.binds (ps := ["many", "thing"]) (fun _ _ _ _ _ _ us hl => by obtain ⟨_, _, rfl⟩ := zbo hl; rfl), PySem.W.mg_of X G a6⟩,
    ⟨F7, F7.binds (ps := ["many", "thing"]) (fun _ _ _ _ _ _ us hl => by obtain ⟨_, _, rfl⟩ := zbo hl; rfl), PySem.W.mg_of X G a7⟩,
    ⟨F8, F8.binds (ps := ["thing"]) (fun _ _ _ _ _ _ us hl => by obtain ⟨_, rfl⟩ := zbd hl; rfl), PySem.W.mg_of X G a8⟩,
    ⟨F9, F9.binds (ps := ["thing"]) (fun _ _ _ _ _ _ us hl => by obtain ⟨_, rfl⟩ := zbd hl; rfl), PySem.W.mg_of X G a9⟩,
    ⟨F10, F10.binds (ps := ["web", "thing"]) (fun _ _ _ _ _ _ us hl => by obtain ⟨_, _, rfl⟩ := zbo hl; rfl), PySem.W.mg_of X G a10⟩,
    ⟨F11, F11.binds (ps := ["one", "other"]) (fun _ _ _ _ _ _ us hl => by obtain ⟨_, _, rfl⟩ := zbo hl; rfl), PySem.W.mg_of X G a11⟩,
    ⟨F12, F12.binds (ps := ["web", "place"]) (fun _ _ _ _ _ _ us hl => by obtain ⟨_, _, rfl⟩ := zbo hl; rfl), PySem.W.mg_of X G a12⟩,
    ⟨F13, F13.binds (ps := ["web", "start"]) (fun _ _ _ _ _ _ us hl => by obtain ⟨_, _, rfl⟩ := zbo hl; rfl), PySem.W.mg_of X G a13⟩,
    ⟨F14, F14.binds (ps := ["web"]) (fun _ _ _ _ _ _ us hl => by obtain ⟨_, rfl⟩ := zbd hl; rfl), PySem.W.mg_of X G a14⟩,
    ⟨F15, F15.binds (ps := ["web"]) (fun _ _ _ _ _ _ us hl => by obtain ⟨_, rfl⟩ := zbd hl; rfl), PySem.W.mg_of X G a15⟩,
    ⟨F16, F16.binds (ps := ["web"]) (fun _ _ _ _ _ _ us hl => by obtain ⟨_, rfl⟩ := zbd hl; rfl), PySem.W.mg_of X G a16⟩,
    ⟨F17, F17.binds (ps := ["heap", "step"]) (fun _ _ _ _ _ _ us hl => by obtain ⟨_, _, rfl⟩ := zbo hl; rfl), PySem.W.mg_of X G a17⟩,
    ⟨F18, F18.binds (ps := ["web"]) (fun _ _ _ _ _ _ us hl => by obtain ⟨_, rfl⟩ := zbd hl; rfl), PySem.W.mg_of X G a18⟩,
    ⟨F19, F19.binds (ps := ["web", "place", "m"]) (fun _ _ _ _ _ _ us hl => by obtain ⟨_, _, _, rfl⟩ := znS hl; rfl), PySem.W.mg_of X G a19⟩,
    ⟨F20, F20.binds (ps := ["heap"]) (fun _ _ _ _ _ _ us hl => by obtain ⟨_, rfl⟩ := zbd hl; rfl), PySem.W.mg_of X G a20⟩,
    ⟨F21, F21.binds (ps := ["heap", "steps", "level"]) (fun _ _ _ _ _ _ us hl => by obtain ⟨_, _, _, rfl⟩ := znS hl; rfl), PySem.W.mg_of X G a21⟩,
    ⟨F22, F22.binds (ps := ["level", "steps", "place", "m"]) (fun _ _ _ _ _ _ us hl => by obtain ⟨_, _, _, _, rfl⟩ := zsx hl; rfl), PySem.W.mg_of X G a22⟩,
    ⟨F23, F23.binds (ps := ["web", "place", "m", "most"]) (fun _ _ _ _ _ _ us hl => by obtain ⟨_, _, _, _, rfl⟩ := zsx hl; rfl), PySem.W.mg_of X G a23⟩,
    ⟨F24, F24.binds (ps := ["web", "place", "m"]) (fun _ _ _ _ _ _ us hl => by obtain ⟨_, _, _, rfl⟩ := znS hl; rfl), PySem.W.mg_of X G a24⟩,
    ⟨F25, F25.binds (ps := ["web", "place", "m"]) (fun _ _ _ _ _ _ us hl => by obtain ⟨_, _, _, rfl⟩ := znS hl; rfl), PySem.W.mg_of X G a25⟩,
    ⟨F26, F26.binds (ps := ["web", "m"]) (fun _ _ _ _ _ _ us hl => by obtain ⟨_, _, rfl⟩ := zbo hl; rfl), PySem.W.mg_of X G a26⟩,
    ⟨F27, F27.binds (ps := ["thing"]) (fun _ _ _ _ _ _ us hl => by obtain ⟨_, rfl⟩ := zbd hl; rfl), PySem.W.mg_of X G a27⟩,
    ⟨F28, F28.binds (ps := ["thing"]) (fun _ _ _ _ _ _ us hl => by obtain ⟨_, rfl⟩ := zbd hl; rfl), PySem.W.mg_of X G a28⟩,
    ⟨F29, F29.binds (ps := ["word", "size"]) (fun _ _ _ _ _ _ us hl => by obtain ⟨_, _, rfl⟩ := zbo hl; rfl), PySem.W.mg_of X G a29⟩,
    ⟨F30, F30.binds (ps := ["word", "size", "one", "other"]) (fun _ _ _ _ _ _ us hl => by obtain ⟨_, _, _, _, rfl⟩ := zsx hl; rfl), PySem.W.mg_of X G a30⟩,
    ⟨F31, F31.binds (ps := ["kind"]) (fun _ _ _ _ _ _ us hl => by obtain ⟨_, rfl⟩ := zbd hl; rfl), PySem.W.mg_of X G a31⟩,
    ⟨F32, F32.binds (ps := ["script", "k"]) (fun _ _ _ _ _ _ us hl => by obtain ⟨_, _, rfl⟩ := zbo hl; rfl), PySem.W.mg_of X G a32⟩,
    ⟨F33, F33.binds (ps := ["found", "due"]) (fun _ _ _ _ _ _ us hl => by obtain ⟨_, _, rfl⟩ := zbo hl; rfl), PySem.W.mg_of X G a33⟩,
    ⟨F34, F34.binds (ps := ["script"]) (fun _ _ _ _ _ _ us hl => by obtain ⟨_, rfl⟩ := zbd hl; rfl), PySem.W.mg_of X G a34⟩,
    PySem.W.mg_of X G gg0,
    PySem.W.mg_of X G gg1,
    PySem.W.mg_of X G gg2,
    PySem.W.mg_of X G gg3,
    PySem.W.mg_none_of X G z0,
    PySem.W.mg_none_of X G z1,
    PySem.W.mg_none_of X G z2,
    PySem.W.mg_none_of X G z3,
    PySem.W.mg_none_of X G z4,
    PySem.W.mg_none_of X G z5,
    PySem.W.mg_none_of X G z6,
    PySem.W.mg_none_of X G z7,
    PySem.W.mg_none_of X G z8,
    PySem.W.mg_none_of X G z9,
    PySem.W.mg_none_of X G z10,
    PySem.W.mg_none_of X G z11,
    PySem.W.mg_none_of X G z12,
    PySem.W.mg_of X G sa0,
    fun h hK => ⟨sd0, _, _, _, hK _ _ sb0, ⟨rfl, rfl, rfl⟩, rfl, (.cons rfl ⟨_, _, rfl, ⟨_, hK _ _ sc0_0, rfl, _, rfl⟩, (.cons (.int _ _) (.cons (.int _ _) .nil))⟩ (.cons rfl ⟨_, _, rfl, ⟨_, hK _ _ sc0_1, rfl, _, rfl⟩, (.cons (.int _ _) (.cons (.int _ _) .nil))⟩ (.cons rfl ⟨_, _, rfl, ⟨_, hK _ _ sc0_2, rfl, _, rfl⟩, (.cons (.int _ _) (.cons (.int _ _) .nil))⟩ (.cons rfl ⟨_, _, rfl, ⟨_, hK _ _ sc0_3, rfl, _, rfl⟩, (.cons (.int _ _) (.cons (.int _ _) .nil))⟩ (.cons rfl ⟨_, _, rfl, ⟨_, hK _ _ sc0_4, rfl, _, rfl⟩, (.cons (.int _ _) (.cons (.int _ _) .nil))⟩ .nil)))))⟩⟩
  exact ⟨_, fun s v => .of_eq rfl, fun base _ _ => zsZ T⟩
theorem walk {l : PySem.W.OpenLaw} {q : Program} {loose : List Str} {XP : (Str → Option Value) → Heap → Prop} {YP : World → Heap → Prop} {d : DefRec} {K : Params → PySem.W.Frag} (hn : l.most = some 63) (hdf : d.params.defaults = [])
    (hY : ∀ (w : World) (h : Heap), YP w h → (K w.params).In h)
    (F : ∀ (w : World) (mg : Str → Option Value) (fa : Addr) (h : Heap), (K w.params).In h → h.Ns mainGlobals mg → mg d.name = some (.ref fa) →
      ∃ fd : FuncData, (∀ (s : Shared) (u : Value), BindsTo s fd ⟨[u], []⟩ [("script", u)]) ∧ ∀ base : Heap, (K w.params).In base → base.Ns mainGlobals mg → xk l.prog w (K w.params) mg base CX0 30 fa fd ["script"] (zoz (K w.params))) :
    PySem.W.WalkO q loose XP YP l.row.toRowW d [] (fun f vs => PySem.call f vs) :=
  L2.walk_of (n := 63) (k := 30) (x := "script") (CX := fun _ => CX0) (sp := fun w => zoz (K w.params)) hn (by decide) hdf ⟨rfl, by decide, by decide⟩ hY F (fun _ _ a ns hl _ hS => ⟨a, ns, rfl, hS, hl, fun _ => rfl⟩) fun _ _ _ _ _ z => z
end Mz
open PySem PySem.W PyProof.Rows
set_option maxRecDepth 100000 in
set_option maxHeartbeats 0 in
theorem PySem.Challenge.cw_twoforone_k62_needs_that_are_known_holds : PySem.Challenge.rw_twoforone_k62_needs_that_are_known.Holds := by
  w_on; o_law; k_head; (case hw => w_witness2)
  k_fill
  refine Mz.walk (l := PySem.Challenge.rw_twoforone_k62_needs_that_are_known) rfl rfl (fun w h Y => PySem.W.kIn_of Y) ?F
  case F =>
    intro w mg fa h KX G hmg
    refine' Mz.all_mk KX G hmg ?a0 ?l0 ?c0 ?k0 ?a1 ?l1 ?c1 ?k1 ?a2 ?l2 ?c2 ?k2 ?a3 ?l3 ?c3 ?k3 ?a4 ?l4 ?c4 ?k4 ?a5 ?l5 ?c5 ?k5 ?a6 ?l6 ?c6 ?k6 ?a7 ?l7 ?c7 ?k7 ?a8 ?l8 ?c8 ?k8 ?a9 ?l9 ?c9 ?k9 ?a10 ?l10 ?c10 ?k10 ?a11 ?l11 ?c11 ?k11 ?a12 ?l12 ?c12 ?k12 ?a13 ?l13 ?c13 ?k13 ?a14 ?l14 ?c14 ?k14 ?a15 ?l15 ?c15 ?k15 ?a16 ?l16 ?c16 ?k16 ?a17 ?l17 ?c17 ?k17 ?a18 ?l18 ?c18 ?k18 ?a19 ?l19 ?c19 ?k19 ?a20 ?l20 ?c20 ?k20 ?a21 ?l21 ?c21 ?k21 ?a22 ?l22 ?c22 ?k22 ?a23 ?l23 ?c23 ?k23 ?a24 ?l24 ?c24 ?k24 ?a25 ?l25 ?c25 ?k25 ?a26 ?l26 ?c26 ?k26 ?a27 ?l27 ?c27 ?k27 ?a28 ?l28 ?c28 ?k28 ?a29 ?l29 ?c29 ?k29 ?a30 ?l30 ?c30 ?k30 ?a31 ?l31 ?c31 ?k31 ?a32 ?l32 ?c32 ?k32 ?a33 ?l33 ?c33 ?k33 ?a34 ?l34 ?c34 ?k34 ?gg0 ?gg1 ?gg2 ?gg3 ?sa0 ?sb0 ?sd0 ?sc0_0 ?sc0_1 ?sc0_2 ?sc0_3 ?sc0_4 ?z0 ?z1 ?z2 ?z3 ?z4 ?z5 ?z6 ?z7 ?z8 ?z9 ?z10 ?z11 ?z12
    (case a0 => k_is)
    (case l0 => k_is)
    (case c0 => k_is)
    (case k0 => k_is)
    (case a1 => k_is)
    (case l1 => k_is)
    (case c1 => k_is)
    (case k1 => k_is)
    (case a2 => k_is)
    (case l2 => k_is)
    (case c2 => k_is)
    (case k2 => k_is)
    (case a3 => k_is)
    (case l3 => k_is)
    (case c3 => k_is)
    (case k3 => k_is)
    (case a4 => k_is)
    (case l4 => k_is)
    (case c4 => k_is)
    (case k4 => k_is)
    (case a5 => k_is)
    (case l5 => k_is)
    (case c5 => k_is)
    (case k5 => k_is)
    (case a6 => k_is)
    (case l6 => k_is)
    (case c6 => k_is)
    (case k6 => k_is)
    (case a7 => k_is)
    (case l7 => k_is)
    (case c7 => k_is)
    (case k7 => k_is)
    (case a8 => k_is)
    (case l8 => k_is)
    (case c8 => k_is)
    (case k8 => k_is)
    (case a9 => k_is)
    (case l9 => k_is)
    (case c9 => k_is)
    (case k9 => k_is)
    (case a10 => k_is)
    (case l10 => k_is)
    (case c10 => k_is)
    (case k10 => k_is)
    (case a11 => k_is)
    (case l11 => k_is)
    (case c11 => k_is)
    (case k11 => k_is)
    (case a12 => k_is)
    (case l12 => k_is)
    (case c12 => k_is)
    (case k12 => k_is)
    (case a13 => k_is)
    (case l13 => k_is)
    (case c13 => k_is)
    (case k13 => k_is)
    (case a14 => k_is)
    (case l14 => k_is)
    (case c14 => k_is)
    (case k14 => k_is)
    (case a15 => k_is)
    (case l15 => k_is)
    (case c15 => k_is)
    (case k15 => k_is)
    (case a16 => k_is)
    (case l16 => k_is)
    (case c16 => k_is)
    (case k16 => k_is)
    (case a17 => k_is)
    (case l17 => k_is)
    (case c17 => k_is)
    (case k17 => k_is)
    (case a18 => k_is)
    (case l18 => k_is)
    (case c18 => k_is)
    (case k18 => k_is)
    (case a19 => k_is)
    (case l19 => k_is)
    (case c19 => k_is)
    (case k19 => k_is)
    (case a20 => k_is)
    (case l20 => k_is)
    (case c20 => k_is)
    (case k20 => k_is)
    (case a21 => k_is)
    (case l21 => k_is)
    (case c21 => k_is)
    (case k21 => k_is)
    (case a22 => k_is)
    (case l22 => k_is)
    (case c22 => k_is)
    (case k22 => k_is)
    (case a23 => k_is)
    (case l23 => k_is)
    (case c23 => k_is)
    (case k23 => k_is)
    (case a24 => k_is)
    (case l24 => k_is)
    (case c24 => k_is)
    (case k24 => k_is)
    (case a25 => k_is)
    (case l25 => k_is)
    (case c25 => k_is)
    (case k25 => k_is)
    (case a26 => k_is)
    (case l26 => k_is)
    (case c26 => k_is)
    (case k26 => k_is)
    (case a27 => k_is)
    (case l27 => k_is)
    (case c27 => k_is)
    (case k27 => k_is)
    (case a28 => k_is)
    (case l28 => k_is)
    (case c28 => k_is)
    (case k28 => k_is)
    (case a29 => k_is)
    (case l29 => k_is)
    (case c29 => k_is)
    (case k29 => k_is)
    (case a30 => k_is)
    (case l30 => k_is)
    (case c30 => k_is)
    (case k30 => k_is)
    (case a31 => k_is)
    (case l31 => k_is)
    (case c31 => k_is)
    (case k31 => k_is)
    (case a32 => k_is)
    (case l32 => k_is)
    (case c32 => k_is)
    (case k32 => k_is)
    (case a33 => k_is)
    (case l33 => k_is)
    (case c33 => k_is)
    (case k33 => k_is)
    (case a34 => k_is)
    (case l34 => k_is)
    (case c34 => k_is)
    (case k34 => k_is)
    (case gg0 => k_is)
    (case gg1 => k_is)
    (case gg2 => k_is)
    (case gg3 => k_is)
    (case sa0 => k_is)
    (case sb0 => k_is)
    (case sd0 => decide)
    (case sc0_0 => k_is)
    (case sc0_1 => k_is)
    (case sc0_2 => k_is)
    (case sc0_3 => k_is)
    (case sc0_4 => k_is)
    (case z0 => k_is)
    (case z1 => k_is)
    (case z2 => k_is)
    (case z3 => k_is)
    (case z4 => k_is)
    (case z5 => k_is)
    (case z6 => k_is)
    (case z7 => k_is)
    (case z8 => k_is)
    (case z9 => k_is)
    (case z10 => k_is)
    (case z11 => k_is)
    (case z12 => k_is)
