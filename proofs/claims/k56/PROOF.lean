import PyProof.Rows.All
import Wide.All
import OpenK.AllK
import Wide.FinOn
import Lean
import PyProof.EqAt
import PyProof.EqKinds
import PyProof.TupleCall
import PyProof.NeKinds
import PySem.Challenge.RW_twoforone_k56_refused_of_rings_and_cubes
set_option Elab.async false
set_option linter.all false
set_option maxRecDepth 100000
set_option maxHeartbeats 4000000
namespace L2
open PySem PySem.Spec PyProof.Rows
noncomputable abbrev Key := Sum Int Str
noncomputable def zbv : Key → Value → Bool
  | .inl k, v => Value.isInt k v
  | .inr x, v => Value.isStrOf x v
noncomputable def keyH (w : World) : Key → Int
  | .inl k => hashInt k
  | .inr x => hashStr w x
theorem yn : ∀ {k : Key} {v : Value}, zbv k v = true → (∃ i t, k = Sum.inl i ∧ v = Value.int i t) ∨ (∃ x t, k = Sum.inr x ∧ v = Value.str x t)
  | .inl i, v, h => by
    obtain ⟨t, e⟩ := Value.isInt_shape (k := i) (v := v) h
    exact .inl ⟨i, t, rfl, e⟩
  | .inr x, v, h => by
    obtain ⟨t, e⟩ := Value.isStrOf_shape (x := x) (v := v) h
    exact .inr ⟨x, t, rfl, e⟩
theorem zce (i : Int) (t : Tok) : zbv (.inl i) (.int i t) = true := by simp [zbv, Value.isInt]
theorem zdd (x : Str) (t : Tok) : zbv (.inr x) (.str x t) = true := by simp [zbv, Value.isStrOf]
theorem zhz (a b : Int) : decide ((Sum.inl a : Key) = Sum.inl b) = (a == b) := by
  by_cases e : a = b
  · subst e; simp
  · have h : ¬ (Sum.inl a : Key) = Sum.inl b := fun q => e (Sum.inl.inj q)
    rw [decide_eq_false h]
    exact (beq_eq_false_iff_ne.mpr e).symm
theorem zgM (a b : Str) : decide ((Sum.inr a : Key) = Sum.inr b) = decide (a = b) := by
  by_cases e : a = b
  · subst e; simp
  · have h : ¬ (Sum.inr a : Key) = Sum.inr b := fun q => e (Sum.inr.inj q)
    rw [decide_eq_false h, decide_eq_false e]
theorem zg9 (a : Int) (b : Str) : decide ((Sum.inl a : Key) = Sum.inr b) = false := decide_eq_false (fun q => nomatch q)
theorem zgj (a : Str) (b : Int) : decide ((Sum.inr a : Key) = Sum.inl b) = false := decide_eq_false (fun q => nomatch q)
noncomputable def yS (prog : Program) (w : World) : PySem.KeyKind prog w Key where
  is := zbv
  hash := keyH w
  inj := fun v a b ha hb => by
    rcases yn ha with ⟨i, t, rfl, rfl⟩ | ⟨x, t, rfl, rfl⟩
    · rcases yn hb with ⟨j, u, rfl, e⟩ | ⟨y, u, rfl, e⟩
      · injection e with e1 _; rw [e1]
      · exact nomatch e
    · rcases yn hb with ⟨j, u, rfl, e⟩ | ⟨y, u, rfl, e⟩
      · exact nomatch e
      · injection e with e1 _; rw [e1]
  byValue := fun k v h => by
    rcases yn h with ⟨i, t, rfl, rfl⟩ | ⟨x, t, rfl, rfl⟩ <;> rfl
  pyHash := fun hv h => by
    rcases yn hv with ⟨i, t, rfl, rfl⟩ | ⟨x, t, rfl, rfl⟩
    · exact wpAny_pyHash_int h
    · exact wpAny_pyHash_str h
  eqBool := fun hu hv h => by
    rcases yn hu with ⟨i, t, rfl, rfl⟩ | ⟨x, t, rfl, rfl⟩
    · rcases yn hv with ⟨j, u, rfl, rfl⟩ | ⟨y, u, rfl, rfl⟩
      · rw [zhz] at h; exact wpAny_eqBool_int h
      · rw [zg9] at h; exact SeqAt.EqAt.int_str i t y u _ _ _ _ h
    · rcases yn hv with ⟨j, u, rfl, rfl⟩ | ⟨y, u, rfl, rfl⟩
      · rw [zgj] at h; exact SeqAt.EqAt.str_int x t j u _ _ _ _ h
      · rw [zgM] at h; exact wpAny_eqBool_str h
  «strs» := fun k x t v h => by
    rcases yn h with ⟨i, u, rfl, e⟩ | ⟨y, u, rfl, e⟩
    · exact nomatch e
    · injection e with e1 _
      subst e1
      cases v <;> rfl
theorem zai (prog : Program) (w : World) (i : Int) (t : Tok) : (yS prog w).is (.inl i) (.int i t) = true := zce i t
theorem zal (prog : Program) (w : World) (x : Str) (t : Tok) : (yS prog w).is (.inr x) (.str x t) = true := zdd x t
end L2
namespace L2
open PySem PySem.Spec PyProof.Rows
inductive V where
  | non | bl (b : Bool) | int (i : Int) | str (x : Str) | byt (b : Array UInt8) | flt (b : UInt64) | ref (a : Addr) | ty (n : String)
  deriving DecidableEq
noncomputable def yT : V → Value → Prop
  | .non, u => u = Value.none
  | .bl b, u => u = Value.bool b
  | .int i, u => ∃ t, u = Value.int i t
  | .str x, u => ∃ t, u = Value.str x t
  | .byt b, u => ∃ t, u = Value.bytes b t
  | .flt b, u => ∃ t, u = Value.float b t
  | .ref a, u => u = Value.ref a
  | .ty n, u => u = Value.type n
noncomputable abbrev yC : List V → List Value → Prop := Paired yT
theorem yC.length {xs : List V} {us : List Value} (r : yC xs us) : xs.length = us.length := Paired.length r
theorem yC.get : ∀ {xs : List V} {us : List Value} {i : Nat} {x : V}, yC xs us → xs[i]? = some x → ∃ u, us[i]? = some u ∧ yT x u
  | _, _, _, _, .nil, e => by simp at e
  | _, _, 0, _, .cons r _, e => by simp at e; subst e; exact ⟨_, rfl, r⟩
  | _, _, i + 1, x, .cons _ t, e => by
    obtain ⟨u, h1, h2⟩ := yC.get (i := i) (x := x) t (by simpa using e)
    exact ⟨u, by simpa using h1, h2⟩
theorem yC.set {x : V} {u : Value} (r : yT x u) : ∀ {xs : List V} {us : List Value} (i : Nat), yC xs us → yC (xs.set i x) (us.set i u)
  | _, _, _, .nil => .nil
  | _, _, 0, .cons _ t => .cons r t
  | _, _, i + 1, .cons q t => .cons q (yC.set r i t)
theorem yC.append : ∀ {xs ys : List V} {us ws : List Value}, yC xs us → yC ys ws → yC (xs ++ ys) (us ++ ws) := by
  intro xs ys us ws h s
  induction h with
  | nil => exact s
  | cons r t ih => exact .cons r ih
theorem yC.take : ∀ {xs : List V} {us : List Value} (n : Nat), yC xs us → yC (xs.take n) (us.take n)
  | _, _, 0, _ => .nil
  | _, _, _ + 1, .nil => .nil
  | _, _, n + 1, .cons r t => .cons r (yC.take n t)
theorem yC.drop : ∀ {xs : List V} {us : List Value} (n : Nat), yC xs us → yC (xs.drop n) (us.drop n)
  | _, _, 0, r => r
  | _, _, _ + 1, .nil => .nil
  | _, _, n + 1, .cons _ t => yC.drop n t
noncomputable def zcb : Option V → Option Value → Prop
  | some v, some u => yT v u
  | none, none => True
  | _, _ => False
noncomputable def KV {κ : Type} : List (κ × V) → List (κ × Value) → Prop := Paired fun (p : κ × V) (q : κ × Value) => p.1 = q.1 ∧ yT p.2 q.2
noncomputable def kV : Key → V
  | .inl i => .int i
  | .inr x => .str x
inductive HO where
    | lst (xs : List V)
    | tup (xs : List V)
    | dK (kvs : List (Key × V)) | dT (kvs : List (List Key × V))
    | set (S : Int → Bool) (n : Nat)
    | ins (C dx : Addr) (fs : List (Str × V))
    | own (x : Addr)
    | xd (fs : List (Str × V))
    | met (f x : Addr)
    | rng (lo hi : Int)
    | frz (o : Obj) (u : HO)
    | tbl (ps : Array Value)
    | ext (φ : Heap → Prop)
noncomputable abbrev Hp := Addr → Option HO
noncomputable def upd (H : Hp) (a : Addr) (o : HO) : Hp := fun b => if b = a then some o else H b
theorem zq {H : Hp} {a : Addr} {o : HO} : upd H a o a = some o := by unfold upd; rw [if_pos rfl]
theorem zn {H : Hp} {a b : Addr} {o : HO} (h : b ≠ a) : upd H a o b = H b := by unfold upd; rw [if_neg h]
theorem zay {H : Hp} {a : Addr} {o u : HO} : upd (upd H a o) a u = upd H a u := by
  funext b; unfold upd; split <;> rfl
theorem zf3 {H : Hp} {a b : Addr} {o u : HO} (h : H a = some o) (h' : H b = some u) (d : o ≠ u) : a ≠ b := by
  intro e; subst e; rw [h] at h'; exact d (Option.some.inj h')
theorem zl {H : Hp} {a b : Addr} {o : HO} (h : H a = some o) (h' : H b = none) : a ≠ b := by
  intro e; subst e; rw [h] at h'; cases h'
section
variable (P : Program) (w : World)
noncomputable def yV (H : Hp) (h : Heap) (a : Addr) : HO → Prop
  | .lst xs => xs.length ≤ sizeLine ∧ ∃ (its : List Value) (n : Nat), yC xs its ∧ h.get? a = some { cls := .type "list", data := .seq its.toArray n }
  | .tup xs => xs.length ≤ sizeLine ∧ ∃ its : List Value, yC xs its ∧ IsTup h a its.toArray
  | .dK kvs => kvs.length ≤ sizeLine ∧ (a == sysModules) = false ∧ ∃ vs, KV kvs vs ∧ h.DictOf (yS P w) a vs
  | .dT kvs => kvs.length ≤ sizeLine ∧ (a == sysModules) = false ∧ ∃ xs : List (List Key × Addr × Value),
      Paired (fun (p : List Key × V) (q : List Key × Addr × Value) => p.1 = q.1 ∧ H q.2.1 = some (.tup (p.1.map kV)) ∧ yT p.2 q.2.2) kvs xs ∧
      ∃ o es ep, h.get? a = some o ∧ o.ExactDict ∧ o.data = .dict es ep ∧ es.toList = xs.map (entryOfKey (tupleKind (yS P w))) ∧ (xs.map (·.1)).Nodup
  | .set S n => h.SetOf (intKind P w) a S n
  | .ins C dx fs => H dx = some (.own a) ∧ fs.length ≤ 1000 ∧ dx ≠ a ∧ h.get? a = some (PySem.W.instObj C dx) ∧
      ∃ mA, h.Ns1 dx mA ∧ (∀ f, zcb (fs.lookup f) (mA f)) ∧ PySem.Within mA (fs.map (·.1))
  | .own _ => ∃ o, h.get? a = some o
  | .xd fs => ∃ mA, h.Ns1 a mA ∧ ∀ f, zcb (fs.lookup f) (mA f)
  | .rng lo hi => ∃ t u v, h.get? a = some { cls := .type "range", data := .fields #[.int lo t, .int hi u, .int 1 v] }
  | .frz o u => h.get? a = some o ∧ yV H h a u
  | .tbl ps => h.get? a = some { cls := .none, data := .fields ps }
  | .met f x => h.get? a = some (PySem.W.methodObj (.ref f) (.ref x))
  | .ext φ => φ h ∧ (∃ o, h.get? a = some o) ∧ ∀ h1 h2 : Heap, φ h1 → (∀ o, h1.get? a = some o → h2.get? a = some o) → φ h2
noncomputable def HOk (H : Hp) (h : Heap) : Prop := ∀ a o, H a = some o → yV P w H h a o
end
section
variable {P : Program} {w : World} {H H' : Hp} {h h' : Heap} {a : Addr} {o : HO}
theorem yV.lt (x : yV P w H h a o) : a < h.objs.size := by
  cases o with
  | lst xs => obtain ⟨_, _, _, _, e⟩ := x; exact Heap.lt_size e
  | tup xs => obtain ⟨_, _, _, p⟩ := x; exact p.lt
  | dK kvs => obtain ⟨_, _, _, _, o, _, _, e, _⟩ := x; exact Heap.lt_size e
  | dT kvs => obtain ⟨_, _, _, _, o, _, _, e, _⟩ := x; exact Heap.lt_size e
  | set S n => obtain ⟨o, _, _, _, e, _⟩ := x; exact Heap.lt_size e
  | ins C dx fs => obtain ⟨_, _, _, e, _⟩ := x; exact Heap.lt_size e
  | own y => obtain ⟨_, e⟩ := x; exact Heap.lt_size e
  | xd fs => obtain ⟨_, ⟨_, _, _, e, _⟩, _⟩ := x; exact Heap.lt_size e
  | rng lo hi => obtain ⟨_, _, _, e⟩ := x; exact Heap.lt_size e
  | frz ob u => obtain ⟨e, _⟩ := x; exact Heap.lt_size e
  | tbl ps => exact Heap.lt_size (show h.get? a = some _ from x)
  | met f y => exact Heap.lt_size (show h.get? a = some _ from x)
  | ext φ => obtain ⟨_, ⟨_, e⟩, _⟩ := x; exact Heap.lt_size e
theorem Paired.mapP {α β : Type} {F G : α → β → Prop} : ∀ {l₁ : List α} {l₂ : List β}, Paired F l₁ l₂ → (∀ a b, F a b → G a b) → Paired G l₁ l₂ := by
  intro l1 l2 h f
  induction h with
  | nil => exact .nil
  | cons r t ih => exact .cons (f _ _ r) ih
theorem yV.stay (x : yV P w H h a o) (k : ∀ b u, (b = a ∨ H b = some (.own a)) → h.get? b = some u → h'.get? b = some u)
    (ho : ∀ b, H b = some (.own a) → H' b = some (.own a)) (ht : ∀ b xs, H b = some (.tup xs) → H' b = some (.tup xs)) : yV P w H' h' a o := by
  induction o with
  | lst xs => obtain ⟨z, its, n, r, e⟩ := x; exact ⟨z, its, n, r, k _ _ (.inl rfl) e⟩
  | tup xs => obtain ⟨z, its, r, ob, e, c⟩ := x; exact ⟨z, its, r, ob, k _ _ (.inl rfl) e, c⟩
  | dK kvs => obtain ⟨z, y, vs, r, ob, es, ep, e, c⟩ := x; exact ⟨z, y, vs, r, ob, es, ep, k _ _ (.inl rfl) e, c⟩
  | dT kvs =>
    obtain ⟨z, y, xs, r, ob, es, ep, e, c⟩ := x
    exact ⟨z, y, xs, Paired.mapP r fun p q z => ⟨z.1, ht _ _ z.2.1, z.2.2⟩, ob, es, ep, k _ _ (.inl rfl) e, c⟩
  | set S n => obtain ⟨ob, es, ep, t, e, c⟩ := x; exact ⟨ob, es, ep, t, k _ _ (.inl rfl) e, c⟩
  | ins C dx fs =>
    obtain ⟨d, z, ne, e, mA, ⟨od, es, ep, e2, c⟩, r⟩ := x
    exact ⟨ho _ d, z, ne, k _ _ (.inl rfl) e, mA, ⟨od, es, ep, k _ _ (.inr d) e2, c⟩, r⟩
  | own y => obtain ⟨ob, e⟩ := x; exact ⟨ob, k _ _ (.inl rfl) e⟩
  | xd fs => obtain ⟨mA, ⟨od, es, ep, e, c⟩, r⟩ := x; exact ⟨mA, ⟨od, es, ep, k _ _ (.inl rfl) e, c⟩, r⟩
  | rng lo hi => obtain ⟨t, u, v, e⟩ := x; exact ⟨t, u, v, k _ _ (.inl rfl) e⟩
  | frz ob u ih => obtain ⟨e, q⟩ := x; exact ⟨k _ _ (.inl rfl) e, ih q⟩
  | tbl ps =>
    have e : h.get? a = some { cls := .none, data := .fields ps } := x
    show h'.get? a = some { cls := .none, data := .fields ps }
    exact k a _ (.inl rfl) e
  | met f y =>
    have e : h.get? a = some (PySem.W.methodObj (.ref f) (.ref y)) := x
    show h'.get? a = some (PySem.W.methodObj (.ref f) (.ref y))
    exact k a _ (.inl rfl) e
  | ext φ => obtain ⟨p, ⟨o, e⟩, st⟩ := x; exact ⟨st _ _ p fun o q => k _ _ (.inl rfl) q, ⟨o, k _ _ (.inl rfl) e⟩, st⟩
theorem HOk.lt (x : HOk P w H h) (e : H a = some o) : a < h.objs.size := (x a o e).lt
theorem HOk.fresh (x : HOk P w H h) (e : h.objs.size ≤ a) : H a = none := by
  cases q : H a with
  | none => rfl
  | some u => exact absurd (Nat.lt_of_lt_of_le (x.lt q) e) (Nat.lt_irrefl _)
theorem HOk.kept (x : HOk P w H h) (k : ∀ b u, h.get? b = some u → h'.get? b = some u) : HOk P w H h' := fun a o e =>
  (x a o e).stay (fun b u _ q => k b u q) (fun _ q => q) fun _ _ q => q
theorem HOk.laid (x : HOk P w H h) (k : ∀ b u, h.get? b = some u → h'.get? b = some u) (hp : h.objs.size ≤ a) (new : yV P w (upd H a o) h' a o) : HOk P w (upd H a o) h' := fun b u e => by
  have hn := x.fresh hp
  by_cases hb : b = a
  · subst hb; rw [zq] at e; cases e; exact new
  · rw [zn hb] at e
    exact (x b u e).stay (fun c v _ q => k c v q) (fun c q => by rw [zn (zl q hn)]; exact q) fun c xs q => by rw [zn (zl q hn)]; exact q
end
noncomputable def Rd (H : Hp) (a : Addr) (u : HO) : Prop := H a = some u ∨ ∃ o, H a = some (.frz o u)
theorem Rd.ok {P : Program} {w : World} {H : Hp} {h : Heap} {a : Addr} {u : HO} (r : Rd H a u) (x : HOk P w H h) : yV P w H h a u := by
  rcases r with r | ⟨o, r⟩
  · exact x a u r
  · obtain ⟨_, q⟩ := x a _ r
    exact q
noncomputable def Mut : Option HO → Prop
  | some (.lst _) => True
  | some (.dK _) => True
  | some (.dT _) => True
  | some (.set _ _) => True
  | some (.ins _ _ _) => True
  | some (.ext _) => True
  | _ => False
section
variable {P : Program} {w : World} {H : Hp} {h h' : Heap} {x e : Addr} {o' : HO}
theorem HOk.write (ok : HOk P w H h) (mu : Mut (H x)) (he : e = x ∨ H e = some (.own x)) (k : ∀ b u, b ≠ e → h.get? b = some u → h'.get? b = some u) (heo : ∃ u, h'.get? e = some u)
    (new : yV P w (upd H x o') h' x o') : HOk P w (upd H x o') h' := fun b u q => by
  have nown : ∀ c y, H c = some (.own y) → c ≠ x := fun c y r z => by subst z; rw [r] at mu; exact mu
  have ntup : ∀ c xs, H c = some (.tup xs) → c ≠ x := fun c xs r z => by subst z; rw [r] at mu; exact mu
  by_cases hb : b = x
  · subst hb; rw [zq] at q; cases q; exact new
  · rw [zn hb] at q
    by_cases hbe : b = e
    · have q' : H b = some (.own x) := by
        rcases he with z | z
        · exact absurd (hbe.trans z) hb
        · rw [hbe]; exact z
      rw [q] at q'; cases q'
      obtain ⟨v, hv⟩ := heo
      exact ⟨v, by rw [hbe]; exact hv⟩
    · refine (ok b u q).stay (fun c v hc r => k c v ?_ r) (fun c r => by rw [zn (nown c b r)]; exact r) fun c xs r => by rw [zn (ntup c xs r)]; exact r
      rcases hc with rfl | hc
      · exact hbe
      · rintro rfl
        rcases he with z | z
        · exact nown c b hc z
        · rw [hc] at z; cases z; exact hb rfl
end
set_option genInjectivity false in
set_option genSizeOf false in
set_option genCtorIdx false in
structure Un (fs ex : List Addr) (H H' : Hp) (h h' : Heap) : Prop where
  keep : ∀ b o, h.get? b = some o → H b = none → b ∉ fs → b ∉ ex → h'.get? b = some o
  slot : ∀ b o, h.get? b = some o → H b = none → b ∈ fs → b ∉ ex → ∃ sl, h'.get? b = some { o with slots := sl }
  free : ∀ b o, h.get? b = some o → H b = none → b ∉ ex → H' b = none
  there : ∀ b o, h.get? b = some o → b ∉ ex → ∃ o', h'.get? b = some o'
  tups : ∀ b xs, H b = some (.tup xs) → H' b = some (.tup xs)
  frzs : ∀ b o u, H b = some (.frz o u) → H' b = some (.frz o u)
  tbls : ∀ b ps, H b = some (.tbl ps) → ∃ more, H' b = some (.tbl (ps ++ more))
section
variable {fs fs' ex ex' : List Addr} {H H1 H2 : Hp} {h h1 h2 h' : Heap} {a x e : Addr} {o : HO}
theorem Un.any (u : Un fs ex H H1 h h1) {b : Addr} {ob : Obj} (q : h.get? b = some ob) (n : H b = none) (hx : b ∉ ex) : ∃ sl, h1.get? b = some { ob with slots := sl } := by
  by_cases hb : b ∈ fs
  · exact u.slot b ob q n hb hx
  · exact ⟨ob.slots, u.keep b ob q n hb hx⟩
theorem Un.kept (k : ∀ b u, h.get? b = some u → h'.get? b = some u) : Un fs ex H H h h' :=
  ⟨fun b ob q _ _ _ => k b ob q, fun b ob q _ _ _ => ⟨ob.slots, k b ob q⟩, fun _ _ _ n _ => n, fun b ob q _ => ⟨ob, k b ob q⟩, fun _ _ q => q, fun _ _ _ q => q, fun _ ps q => ⟨#[], by rw [q]; simp⟩⟩
theorem Un.refl : Un fs ex H H h h := Un.kept fun _ _ q => q
theorem Un.laid (k : ∀ b u, h.get? b = some u → h'.get? b = some u) (hp : h.objs.size ≤ a) (hn : H a = none) : Un fs ex H (upd H a o) h h' where
  keep := fun b u q _ _ _ => k b u q
  slot := fun b u q _ _ _ => ⟨u.slots, k b u q⟩
  free := fun b u q n _ => by rw [zn (Nat.ne_of_lt (Nat.lt_of_lt_of_le (Heap.lt_size q) hp))]; exact n
  there := fun b u q _ => ⟨u, k b u q⟩
  tups := fun b xs q => by rw [zn (zl q hn)]; exact q
  frzs := fun b u xs q => by rw [zn (zl q hn)]; exact q
  tbls := fun b ps q => ⟨#[], by rw [zn (zl q hn), q]; simp⟩
theorem Un.write (mu : Mut (H x)) (he : e = x ∨ H e = some (.own x)) (k : ∀ b u, b ≠ e → h.get? b = some u → h'.get? b = some u) (heo : ∃ u, h'.get? e = some u) : Un fs ex H (upd H x o) h h' := by
  have hx : ∀ b, H b = none → b ≠ x := fun b n z => by subst z; rw [n] at mu; exact mu
  have hb : ∀ b, H b = none → b ≠ e := fun b n z => by
    subst z
    rcases he with r | r
    · exact hx b n r
    · rw [n] at r; cases r
  have hm : ∀ b u, H b = some u → ¬ Mut (some u) → b ≠ x := fun b u q nm z => by subst z; rw [q] at mu; exact nm mu
  refine ⟨fun b u q n _ _ => k b u (hb b n) q, fun b u q n _ _ => ⟨u.slots, k b u (hb b n) q⟩, fun b u q n _ => by rw [zn (hx b n)]; exact n, fun b u q _ => ?_,
    fun b xs q => by rw [zn (hm b _ q fun z => z)]; exact q, fun b u xs q => by rw [zn (hm b _ q fun z => z)]; exact q, fun b ps q => ⟨#[], by rw [zn (hm b _ q fun z => z), q]; simp⟩⟩
  by_cases hbe : b = e
  · subst hbe; exact heo
  · exact ⟨u, k b u hbe q⟩
end
noncomputable def trk (h : Heap) (H : Hp) : List Addr := (List.range h.objs.size).filter fun a => (H a).isSome
noncomputable def zdT (h : Heap) (H : Hp) : Heap := PySem.W.hideAll h (trk h H)
theorem zbL (h : Heap) (H : Hp) : (zdT h H).objs.size = h.objs.size := PySem.W.hideAll_size _ _
theorem zd3 {h : Heap} {H : Hp} {b : Addr} {o : Obj} (e : h.get? b = some o) (n : H b = none) : (zdT h H).get? b = some o :=
  PySem.W.hideAll_get _ e fun hm => by
    have q : (H b).isSome = true := (List.mem_filter.mp hm).2
    rw [n] at q; simp at q
theorem zfz {h : Heap} {H : Hp} {b : Addr} {o : Obj} (e : (zdT h H).get? b = some o) : h.get? b = some o ∧ H b = none := by
  have e' : h.get? b = some o := PySem.W.of_hideAll (trk h H) e
  refine ⟨e', ?_⟩
  cases q : H b with
  | none => rfl
  | some x =>
    have hm : b ∈ trk h H := List.mem_filter.mpr ⟨List.mem_range.mpr (Heap.lt_size e'), by simp [q]⟩
    have z : (zdT h H).get? b = none := PySem.W.hideAll_none (trk h H) hm
    rw [z] at e; cases e
noncomputable def zfB (g h : Heap) (L : Addr) : List (Addr × Obj) := (List.range h.objs.size).filterMap fun a => if a = L ∨ (g.get? a).isSome = true then none else (h.get? a).map fun o => (a, o)
noncomputable def rest (g h : Heap) (L d : Addr) : List (Addr × Obj) := (zfB g h L).filter fun p => decide (p.1 ≠ d)
end L2
namespace L2
open PySem PySem.Spec PyProof.Rows
structure Mod (K : PySem.W.Frag) (mg : Str → Option Value) (base : Heap) : Prop where
  kin : K.In base
  glob : base.Ns mainGlobals mg
  blt : ∃ mb, base.Ns builtinsNs mb ∧ ∀ x : Str, x ≠ "__name__" → mb x = bootBuiltins x
  nolimit : base.NoLimit
structure Cx where
  prog : Program
  w : World
  K : PySem.W.Frag
  mg : Str → Option Value
  base : Heap
  A : Around
  N : List Str
  s₀ : Shared
  H₀ : Hp
  env : Env
  outer : List Env
  stack : List Env
  ex : List Addr
  fn : Str → Bool
  calm : Bool
  pn : List (Addr × Obj)
  xe : Value → Shared → Prop
noncomputable def frs (l : List Env) : List Addr := l.filterMap (·.frame)
noncomputable abbrev Cx.fs (X : Cx) : List Addr := frs X.outer
noncomputable def Vis (sc : Scope) (x : Str) : Prop := sc.names.lookup x = some .local ∨ sc.names.lookup x = some .cell ∨ sc.names.lookup x = some .free
noncomputable def Loc (sc : Scope) (x : Str) : Prop := sc.names.lookup x = some .local ∨ sc.names.lookup x = some .cell
noncomputable def Look (env : Env) (h : Heap) (m : Str → Option Value) (x : Str) (u : Value) : Prop :=
  (env.kindOf x = some .local ∧ m x = some u) ∨ ((env.kindOf x = some .cell ∨ env.kindOf x = some .free) ∧ ∃ c, env.cells.lookup x = some c ∧ h.IsCell c (some u))
set_option genInjectivity false in
set_option genSizeOf false in
set_option genCtorIdx false in
structure Cx.Ok (X : Cx) : Prop where
  mod : Mod X.K X.mg X.base
  kind : X.env.scope.kind = .function
  glob : X.env.globals = mainGlobals
  blt : X.env.builtins = builtinsNs
  above : X.s₀.heap.objs.size ≤ X.env.locals
  inj : ∀ x y c, X.env.cells.lookup x = some c → X.env.cells.lookup y = some c → x = y
  has : ∀ x, (X.env.kindOf x = some .cell ∨ X.env.kindOf x = some .free) → ∃ c, X.env.cells.lookup x = some c
  cab : ∀ x c, X.fn x = true → X.env.cells.lookup x = some c → X.s₀.heap.objs.size ≤ c
  hd : X.calm = true → X.A.handled = none
  frames : X.A.frames = some X.stack
  stk : X.stack = X.outer ∨ (X.stack = X.env :: X.outer ∧ X.env.frame = some X.env.locals)
  exf : ∀ b ∈ X.ex, b ≠ X.env.locals ∧ ∀ x c, X.env.cells.lookup x = some c → c ≠ b
  bs : ∀ b o, X.base.get? b = some o → X.s₀.heap.get? b = some o ∧ X.H₀ b = none
  bsz : X.base.objs.size ≤ X.s₀.heap.objs.size
  noex : ∀ b o, X.base.get? b = some o → b ∉ X.ex
  exfs : ∀ b ∈ X.ex, b ∉ X.fs
  funs : X.s₀.heap.FunFrames X.base X.outer
  frf : ∀ b ∈ X.fs, X.H₀ b = none
set_option genInjectivity false in
set_option genSizeOf false in
set_option genCtorIdx false in
structure Inv (X : Cx) (pins : List (Addr × Obj)) (σ : List (Option V)) (H : Hp) (s : Shared) : Prop where
  ok : X.Ok
  os : s.os = X.s₀.os
  bare : AllBare s.gens
  base : Un X.fs X.ex X.H₀ H X.s₀.heap s.heap
  loc : ∃ m, s.heap.Ns X.env.locals m ∧ ∀ (i : Nat) (x : Str) (v : V), X.N[i]? = some x → σ[i]? = some (some v) → Vis X.env.scope x → ∃ u, yT v u ∧ Look X.env s.heap m x u
  cell : ∀ x c, X.env.cells.lookup x = some c → ∃ v, s.heap.IsCell c v
  free : H X.env.locals = none
  freeC : ∀ x c, X.env.cells.lookup x = some c → H c = none
  pin : ∀ p ∈ X.pn ++ pins, s.heap.get? p.1 = some p.2 ∧ H p.1 = none ∧ p.1 ≠ X.env.locals ∧ p.1 ∉ X.fs ∧ ∀ v, p.2.data ≠ .cell v
  hok : HOk X.prog X.w H s.heap
  len : σ.length = X.N.length
section
variable {X : Cx} {pins : List (Addr × Obj)} {σ : List (Option V)} {H H' : Hp} {s : Shared} {h' : Heap}
theorem Cx.Ok.nofr (ok : X.Ok) {b : Addr} {o : Obj} (e : X.base.get? b = some o) : b ∉ X.fs := fun hb => by
  have := (ok.funs.mem hb).1
  rw [e] at this; cases this
theorem Inv.bs (I : Inv X pins σ H s) : ∀ b o, X.base.get? b = some o → s.heap.get? b = some o ∧ H b = none := fun b o e =>
  ⟨I.base.keep b o (I.ok.bs b o e).1 (I.ok.bs b o e).2 (I.ok.nofr e) (I.ok.noex b o e), I.base.free b o (I.ok.bs b o e).1 (I.ok.bs b o e).2 (I.ok.noex b o e)⟩
theorem Inv.bk (I : Inv X pins σ H s) : ∀ b o, X.base.get? b = some o → s.heap.get? b = some o := fun b o e => (I.bs b o e).1
theorem Inv.mod (I : Inv X pins σ H s) : Mod X.K X.mg X.base := I.ok.mod
theorem Inv.kIn (I : Inv X pins σ H s) : X.K.In s.heap := I.ok.mod.kin.keeps I.bk
theorem Inv.fr (I : Inv X pins σ H s) : ∃ m, Fr X.base X.env.locals s.heap m :=
  let ⟨m, hn, _⟩ := I.loc
  ⟨m, hn, I.bk, Nat.le_trans I.ok.bsz I.ok.above⟩
theorem Inv.lt (I : Inv X pins σ H s) : X.env.locals < s.heap.objs.size := let ⟨_, hn, _⟩ := I.loc; hn.lt
theorem Inv.sz (I : Inv X pins σ H s) : X.s₀.heap.objs.size ≤ s.heap.objs.size := Nat.le_trans I.ok.above (Nat.le_of_lt I.lt)
theorem Inv.nofs (I : Inv X pins σ H s) {a : Addr} (h : s.heap.objs.size ≤ a) : a ∉ X.fs := fun hb => by
  obtain ⟨_, o, ho, _⟩ := I.ok.funs.mem hb
  exact absurd (Nat.lt_of_lt_of_le (Heap.lt_size ho) (Nat.le_trans I.sz h)) (Nat.lt_irrefl _)
theorem Inv.cne (I : Inv X pins σ H s) : ∀ x c, X.env.cells.lookup x = some c → c ≠ X.env.locals := fun x c e z => by
  obtain ⟨v, o, ho, hd⟩ := I.cell x c e
  obtain ⟨m, ⟨o', es, ep, ho', hd', _⟩, _⟩ := I.loc
  rw [z, ho'] at ho; cases ho; rw [hd'] at hd; cases hd
theorem Inv.funs (I : Inv X pins σ H s) : s.heap.FunFrames X.base X.outer := by
  have all : ∀ (l : List Env), (∀ b ∈ frs l, b ∈ X.fs) → X.s₀.heap.FunFrames X.base l → s.heap.FunFrames X.base l := by
    intro l
    induction l with
    | nil => intro _ _; trivial
    | cons env r ih =>
      intro hs hl
      obtain ⟨hk, ⟨L, o, hf, hn, ho, hd⟩, hr⟩ := hl
      have hL : L ∈ X.fs := hs L (by unfold frs; rw [List.filterMap_cons, hf]; exact List.mem_cons_self)
      obtain ⟨sl, e⟩ := I.base.slot L o ho (I.ok.frf L hL) hL fun z => I.ok.exfs L z hL
      exact ⟨hk, ⟨L, _, hf, hn, e, hd⟩, ih (fun b hb => hs b (by unfold frs; rw [List.filterMap_cons, hf]; exact List.mem_cons_of_mem _ hb)) hr⟩
  exact all X.outer (fun _ hb => hb) I.ok.funs
theorem Inv.stack (I : Inv X pins σ H s) : s.heap.FunFrames X.base X.stack := by
  rcases I.ok.stk with e | ⟨e, hf⟩
  · rw [e]; exact I.funs
  · rw [e]
    obtain ⟨m, hn, _⟩ := I.loc
    refine .cons (by rw [I.ok.kind]; decide) hf hn ?_ I.funs
    exact Heap.get?_none_of_le (Nat.le_trans I.ok.bsz I.ok.above)
theorem Inv.stkSub (I : Inv X pins σ H s) : ∀ b ∈ frs X.stack, b ∈ X.env.locals :: X.fs := fun b hb => by
  rcases I.ok.stk with e | ⟨e, hf⟩
  · rw [e] at hb; exact List.mem_cons_of_mem _ hb
  · rw [e] at hb
    unfold frs at hb
    rw [List.filterMap_cons, hf] at hb
    exact hb
theorem Inv.stkFree (I : Inv X pins σ H s) : ∀ b ∈ frs X.stack, H b = none := fun b hb => by
  rcases List.mem_cons.mp (I.stkSub b hb) with e | hb
  · rw [e]; exact I.free
  · obtain ⟨_, o, ho, _⟩ := I.ok.funs.mem hb
    exact I.base.free b o ho (I.ok.frf b hb) fun z => I.ok.exfs b z hb
theorem Inv.step {g' : Array GenState} {t' : Nat} {d' : Drawn} {ch : List Addr} (I : Inv X pins σ H s)
    (hch : ∀ b ∈ ch, (b ∈ X.ex ∨ X.s₀.heap.objs.size ≤ b) ∧ b ≠ X.env.locals ∧ (∀ x c, X.env.cells.lookup x = some c → c ≠ b) ∧ ∀ p ∈ X.pn ++ pins, p.1 ≠ b)
    (keep : ∀ b o, b ≠ X.env.locals → b ∉ X.fs → b ∉ ch → s.heap.get? b = some o → H b = none → h'.get? b = some o)
    (slot : ∀ b o, b ≠ X.env.locals → b ∈ X.fs → b ∉ ch → s.heap.get? b = some o → H b = none → ∃ sl, h'.get? b = some { o with slots := sl }) (free : ∀ b o, b ∉ ch → s.heap.get? b = some o → H b = none → H' b = none)
    (there : ∀ b o, b ∉ ch → s.heap.get? b = some o → ∃ o', h'.get? b = some o')
    (tups : ∀ b xs, H b = some (.tup xs) → H' b = some (.tup xs)) (frzs : ∀ b o u, H b = some (.frz o u) → H' b = some (.frz o u)) (tbls : ∀ b ps, H b = some (.tbl ps) → ∃ more, H' b = some (.tbl (ps ++ more)))
    (ns : ∀ m, s.heap.Ns X.env.locals m → h'.Ns X.env.locals m) (hok : HOk X.prog X.w H' h') (hg : AllBare g') :
    Inv X pins σ H' { s with heap := h', gens := g', drawn := d', toks := t' } := by
  have neL : ∀ b o, X.s₀.heap.get? b = some o → b ≠ X.env.locals := fun b o e => Nat.ne_of_lt (Nat.lt_of_lt_of_le (Heap.lt_size e) I.ok.above)
  have neC : ∀ b o, X.s₀.heap.get? b = some o → b ∉ X.ex → b ∉ ch := fun b o e hx hb => by
    rcases (hch b hb).1 with z | z
    · exact hx z
    · exact absurd (Nat.lt_of_lt_of_le (Heap.lt_size e) z) (Nat.lt_irrefl _)
  have cellK : ∀ x c, X.env.cells.lookup x = some c → ∀ v, s.heap.IsCell c v → h'.IsCell c v := fun x c e v ⟨o, ho, hd⟩ => by
    have nch : c ∉ ch := fun z => (hch c z).2.2.1 x c e rfl
    by_cases hc : c ∈ X.fs
    · obtain ⟨sl, q⟩ := slot c o (I.cne x c e) hc nch ho (I.freeC x c e)
      exact ⟨_, q, hd⟩
    · exact ⟨o, keep c o (I.cne x c e) hc nch ho (I.freeC x c e), hd⟩
  refine ⟨I.ok, I.os, hg, ⟨fun b o e n hb hx => ?_, fun b o e n hb hx => ?_, fun b o e n hx => ?_, fun b o e hx => ?_, fun b xs e => tups b xs (I.base.tups b xs e), fun b o xs e => frzs b o xs (I.base.frzs b o xs e), fun b ps e => ?_⟩, ?_, fun x c e => ?_, ?_, fun x c e => ?_, fun p hp => ?_, hok, I.len⟩
  · exact keep b o (neL b o e) hb (neC b o e hx) (I.base.keep b o e n hb hx) (I.base.free b o e n hx)
  · obtain ⟨sl, e1⟩ := I.base.slot b o e n hb hx
    obtain ⟨sl', e2⟩ := slot b _ (neL b o e) hb (neC b o e hx) e1 (I.base.free b o e n hx)
    exact ⟨sl', e2⟩
  · obtain ⟨o', e1⟩ := I.base.there b o e hx
    exact free b o' (neC b o e hx) e1 (I.base.free b o e n hx)
  · obtain ⟨o', e1⟩ := I.base.there b o e hx
    exact there b o' (neC b o e hx) e1
  · obtain ⟨m1, e1⟩ := I.base.tbls b ps e
    obtain ⟨m2, e2⟩ := tbls b _ e1
    exact ⟨m1 ++ m2, by rw [e2, Array.append_assoc]⟩
  · obtain ⟨m, hn, hl⟩ := I.loc
    refine ⟨m, ns m hn, fun i x v e1 e2 e3 => ?_⟩
    obtain ⟨u, r, l⟩ := hl i x v e1 e2 e3
    refine ⟨u, r, ?_⟩
    rcases l with l | ⟨k, c, e, z⟩
    · exact .inl l
    · exact .inr ⟨k, c, e, cellK x c e _ z⟩
  · obtain ⟨v, z⟩ := I.cell x c e
    exact ⟨v, cellK x c e v z⟩
  · obtain ⟨m, ⟨o, _, _, ho, _⟩, _⟩ := I.loc
    exact free _ o (fun z => (hch _ z).2.1 rfl) ho I.free
  · obtain ⟨v, o, ho, hd⟩ := I.cell x c e
    exact free c o (fun z => (hch c z).2.2.1 x c e rfl) ho (I.freeC x c e)
  · obtain ⟨e, n, ne, nf, d⟩ := I.pin p hp
    have nch : p.1 ∉ ch := fun z => (hch p.1 z).2.2.2 p hp rfl
    exact ⟨keep p.1 p.2 ne nf nch e n, free p.1 p.2 nch e n, ne, nf, d⟩
theorem Inv.un {t' : Nat} (I : Inv X pins σ H s) (u : Un X.fs [] H H' s.heap h') (hok : HOk X.prog X.w H' h') : Inv X pins σ H' { s with heap := h', toks := t' } := by
  obtain ⟨m, ⟨o, es, ep, ho, r⟩, _⟩ := id I.loc
  obtain ⟨sl, hL⟩ := u.any ho I.free (by simp)
  exact I.step (g' := s.gens) (d' := s.drawn) (ch := []) (fun _ z => nomatch z) (fun b o _ hb _ e n => u.keep b o e n hb (by simp)) (fun b o _ hb _ e n => u.slot b o e n hb (by simp)) (fun b o _ e n => u.free b o e n (by simp)) (fun b o _ e => u.there b o e (by simp)) u.tups u.frzs u.tbls (fun m' hm => by
    obtain ⟨o', es', ep', ho', r'⟩ := hm
    rw [ho] at ho'; cases ho'
    exact ⟨_, es', ep', hL, r'⟩) hok I.bare
theorem Inv.call {g' : Array GenState} {t' : Nat} {d' : Drawn} {ch : List Addr} (I : Inv X pins σ H s) (u : Un (frs X.stack) ch H H' s.heap h') (hok : HOk X.prog X.w H' h') (hg : AllBare g')
    (hch : ∀ b ∈ ch, (b ∈ X.ex ∨ X.s₀.heap.objs.size ≤ b) ∧ b ≠ X.env.locals ∧ (∀ x c, X.env.cells.lookup x = some c → c ≠ b) ∧ ∀ p ∈ X.pn ++ pins, p.1 ≠ b) :
    Inv X pins σ H' { s with heap := h', gens := g', drawn := d', toks := t' } := by
  obtain ⟨m, ⟨o, es, ep, ho, r⟩, _⟩ := id I.loc
  obtain ⟨sl, hL⟩ := u.any ho I.free fun z => (hch _ z).2.1 rfl
  exact I.step (ch := ch) hch (fun b o hL hb hc e n => u.keep b o e n (fun z => (List.mem_cons.mp (I.stkSub b z)).elim hL hb) hc) (fun b o _ _ hc e n => u.any e n hc) (fun b o hc e n => u.free b o e n hc) (fun b o hc e => u.there b o e hc) u.tups u.frzs u.tbls (fun m' hm => by
    obtain ⟨o', es', ep', ho', r'⟩ := hm
    rw [ho] at ho'; cases ho'
    exact ⟨_, es', ep', hL, r'⟩) hok hg
theorem Inv.turned {t' : Nat} {it : Addr} (I : Inv X pins σ H s) (k : ∀ b o, b ≠ it → s.heap.get? b = some o → h'.get? b = some o) (hn : H it = none) (hL : it ≠ X.env.locals)
    (h1 : it ∈ X.ex ∨ X.s₀.heap.objs.size ≤ it) (h2 : ∀ x c, X.env.cells.lookup x = some c → c ≠ it) (h3 : ∀ p ∈ X.pn ++ pins, p.1 ≠ it) : Inv X pins σ H { s with heap := h', toks := t' } := by
  have nit : ∀ b u, H b = some u → b ≠ it := fun b u e z => by rw [z, hn] at e; cases e
  refine I.step (g' := s.gens) (d' := s.drawn) (ch := [it]) (fun b hb => ?_) (fun b o _ _ hc e _ => k b o (fun z => hc (by simp [z])) e) (fun b o _ _ hc e _ => ⟨o.slots, k b o (fun z => hc (by simp [z])) e⟩) (fun _ _ _ _ n => n)
    (fun b o hc e => ⟨o, k b o (fun z => hc (by simp [z])) e⟩) (fun _ _ e => e) (fun _ _ _ e => e) (fun b ps e => ⟨#[], by rw [e]; simp⟩) (fun m hm => ?_) (fun b u e => ?_) I.bare
  · have e : b = it := by simpa using hb
    subst e
    exact ⟨h1, hL, h2, h3⟩
  · obtain ⟨o, es, ep, ho, r⟩ := hm
    exact ⟨o, es, ep, k _ o (Ne.symm hL) ho, r⟩
  · refine (I.hok b u e).stay (fun c v hc q => k c v ?_ q) (fun _ q => q) fun _ _ q => q
    rcases hc with z | z
    · rw [z]; exact nit b u e
    · exact nit c _ z
theorem Inv.tok (I : Inv X pins σ H s) (t : Nat) : Inv X pins σ H { s with toks := t } := I.un (h' := s.heap) (t' := t) Un.refl I.hok
theorem Inv.kept {t' : Nat} (I : Inv X pins σ H s) (k : ∀ b u, s.heap.get? b = some u → h'.get? b = some u) : Inv X pins σ H { s with heap := h', toks := t' } := I.un (Un.kept k) (I.hok.kept k)
theorem Inv.laid {a : Addr} {o : HO} {t' : Nat} (I : Inv X pins σ H s) (k : ∀ b u, s.heap.get? b = some u → h'.get? b = some u) (hp : s.heap.objs.size ≤ a) (new : yV X.prog X.w (upd H a o) h' a o) :
    Inv X pins σ (upd H a o) { s with heap := h', toks := t' } := I.un (Un.laid k hp (I.hok.fresh hp)) (I.hok.laid k hp new)
theorem Inv.write {x e : Addr} {o : HO} {t' : Nat} (I : Inv X pins σ H s) (mu : Mut (H x)) (he : e = x ∨ H e = some (.own x)) (k : ∀ b u, b ≠ e → s.heap.get? b = some u → h'.get? b = some u) (heo : ∃ u, h'.get? e = some u)
    (new : yV X.prog X.w (upd H x o) h' x o) : Inv X pins σ (upd H x o) { s with heap := h', toks := t' } := I.un (Un.write mu he k heo) (I.hok.write mu he k heo new)
theorem Inv.weak {σ' : List (Option V)} (I : Inv X pins σ H s) (hl : σ'.length = σ.length) (w : ∀ (i : Nat) v, σ'[i]? = some (some v) → σ[i]? = some (some v)) : Inv X pins σ' H s :=
  ⟨I.ok, I.os, I.bare, I.base, let ⟨m, hn, hl'⟩ := I.loc; ⟨m, hn, fun i x v e1 e2 e3 => hl' i x v e1 (w i v e2) e3⟩, I.cell, I.free, I.freeC, I.pin, I.hok, hl.trans I.len⟩
theorem Inv.pins_of {pins' : List (Addr × Obj)} (I : Inv X pins σ H s) (h : ∀ p ∈ pins', s.heap.get? p.1 = some p.2 ∧ H p.1 = none ∧ p.1 ≠ X.env.locals ∧ p.1 ∉ X.fs ∧ ∀ v, p.2.data ≠ .cell v) : Inv X pins' σ H s :=
  ⟨I.ok, I.os, I.bare, I.base, I.loc, I.cell, I.free, I.freeC, fun p hp => (List.mem_append.mp hp).elim (fun z => I.pin p (List.mem_append_left _ z)) (h p), I.hok, I.len⟩
theorem W1 {N : List Str} (hN : N.Nodup) {i j : Nat} {x : Str} (a : N[i]? = some x) (b : N[j]? = some x) : i = j := by
  obtain ⟨h1, e1⟩ := List.getElem?_eq_some_iff.mp a
  obtain ⟨h2, e2⟩ := List.getElem?_eq_some_iff.mp b
  exact (List.getElem_inj hN).mp (e1.trans e2.symm)
theorem zc5 {M : Model} {A : Around} {E : Value → Shared → Prop} {i : Nat} {x : Str} {v : V} {u : Value} {Q : Unit → Shared → Prop} (I : Inv X pins σ H s) (hN : X.N.Nodup) (hi : X.N[i]? = some x) (hx : Loc X.env.scope x) (r : yT v u)
    (h : ∀ s', Inv X pins (σ.set i (some v)) H s' → (∃ a, Heap.SameBut a s.heap s'.heap ∧ (a = X.env.locals ∨ X.env.cells.lookup x = some a)) → Q () s') (hf : X.fn x = true ∨ X.env.scope.names.lookup x = some .local := by first | exact .inl rfl | exact .inr rfl | assumption) : wpAny M A (storeName X.env x u) Q E s := by
  obtain ⟨m, hn, hl⟩ := id I.loc
  have hcls : (X.env.scope.kind == .class || (X.env.scope.kind == .module && X.env.locals != X.env.globals)) = false := by rw [I.ok.kind]; rfl
  have hiσ : i < σ.length := by rw [I.len]; exact (List.getElem?_eq_some_iff.mp hi).1
  have cne := I.cne
  have tracked : ∀ {a : Addr} {h' : Heap}, (∃ o, s.heap.get? a = some o ∧ H a = none) → Heap.SameBut a s.heap h' → HOk X.prog X.w H h' := fun {a h'} ha hs b ob e => by
    obtain ⟨_, _, hfree⟩ := ha
    refine (I.hok b ob e).stay (fun c w' hc q => (hs.2 c ?_).trans q) (fun _ q => q) fun _ _ q => q
    rintro rfl
    rcases hc with rfl | hc
    · rw [hfree] at e; cases e
    · rw [hfree] at hc; cases hc
  rcases hx with hk | hk
  · refine wpAny_storeName_local hk hn (fun h' hn' hs => ?_) hcls
    obtain ⟨oL, _, _, hoL, _⟩ := id hn
    refine h _ ⟨I.ok, I.os, I.bare, ⟨fun b o e n hb hx => ?_, fun b o e n hb hx => ?_, I.base.free, fun b o e hx => ?_, I.base.tups, I.base.frzs, I.base.tbls⟩, ⟨_, hn', fun j y v' e1 e2 e3 => ?_⟩, fun y c e => ?_, I.free, I.freeC, fun p hp => ?_, tracked ⟨oL, hoL, I.free⟩ hs, by simpa using I.len⟩ ⟨_, hs, .inl rfl⟩
    · exact (hs.2 b (Nat.ne_of_lt (Nat.lt_of_lt_of_le (Heap.lt_size e) I.ok.above))).trans (I.base.keep b o e n hb hx)
    · obtain ⟨sl, e1⟩ := I.base.slot b o e n hb hx
      exact ⟨sl, (hs.2 b (Nat.ne_of_lt (Nat.lt_of_lt_of_le (Heap.lt_size e) I.ok.above))).trans e1⟩
    · obtain ⟨o', e1⟩ := I.base.there b o e hx
      exact ⟨o', (hs.2 b (Nat.ne_of_lt (Nat.lt_of_lt_of_le (Heap.lt_size e) I.ok.above))).trans e1⟩
    · by_cases hj : j = i
      · subst hj
        rw [hi] at e1; cases e1
        rw [List.getElem?_set_self hiσ] at e2
        cases e2
        exact ⟨u, r, .inl ⟨hk, by simp⟩⟩
      · rw [List.getElem?_set_ne (Ne.symm hj)] at e2
        obtain ⟨u', r', q⟩ := hl j y v' e1 e2 e3
        refine ⟨u', r', ?_⟩
        rcases q with ⟨k, e⟩ | ⟨k, c, e, z⟩
        · refine .inl ⟨k, ?_⟩
          have : y ≠ x := fun e => hj (W1 hN e1 (e ▸ hi))
          simp [this, e]
        · exact .inr ⟨k, c, e, z.sameBut hs (cne y c e)⟩
    · obtain ⟨w', z⟩ := I.cell y c e
      exact ⟨w', z.sameBut hs (cne y c e)⟩
    · obtain ⟨e, n, ne, nf, d⟩ := I.pin p hp
      exact ⟨(hs.2 p.1 ne).trans e, n, ne, nf, d⟩
  · have hfn : X.fn x = true := by
      rcases hf with z | z
      · exact z
      · rw [z] at hk; cases hk
    obtain ⟨c, hc⟩ := I.ok.has x (.inl hk)
    obtain ⟨w', z⟩ := I.cell x c hc
    refine wpAny_storeName_cell I.ok.kind hk hc z (fun h' hc' hs => ?_)
    obtain ⟨oc, hoc, hocd⟩ := id z
    refine h { s with heap := h' } ⟨I.ok, I.os, I.bare, ⟨fun b o e n hb hx => ?_, fun b o e n hb hx => ?_, I.base.free, fun b o e hx => ?_, I.base.tups, I.base.frzs, I.base.tbls⟩, ⟨m, hn.sameBut hs (Ne.symm (cne x c hc)), fun j y v' e1 e2 e3 => ?_⟩, fun y c' e => ?_, I.free, I.freeC, fun p hp => ?_, tracked ⟨oc, hoc, I.freeC x c hc⟩ hs, by simpa using I.len⟩ ⟨c, hs, .inr hc⟩
    · exact (hs.2 b (Nat.ne_of_lt (Nat.lt_of_lt_of_le (Heap.lt_size e) (I.ok.cab x c hfn hc)))).trans (I.base.keep b o e n hb hx)
    · obtain ⟨sl, e1⟩ := I.base.slot b o e n hb hx
      exact ⟨sl, (hs.2 b (Nat.ne_of_lt (Nat.lt_of_lt_of_le (Heap.lt_size e) (I.ok.cab x c hfn hc)))).trans e1⟩
    · obtain ⟨o', e1⟩ := I.base.there b o e hx
      exact ⟨o', (hs.2 b (Nat.ne_of_lt (Nat.lt_of_lt_of_le (Heap.lt_size e) (I.ok.cab x c hfn hc)))).trans e1⟩
    · by_cases hj : j = i
      · subst hj
        rw [hi] at e1; cases e1
        rw [List.getElem?_set_self hiσ] at e2
        cases e2
        exact ⟨u, r, .inr ⟨.inl hk, c, hc, hc'⟩⟩
      · rw [List.getElem?_set_ne (Ne.symm hj)] at e2
        obtain ⟨u', r', q⟩ := hl j y v' e1 e2 e3
        refine ⟨u', r', ?_⟩
        rcases q with q | ⟨k, c', e, z'⟩
        · exact .inl q
        · refine .inr ⟨k, c', e, z'.sameBut hs ?_⟩
          rintro rfl
          exact hj (W1 hN e1 (I.ok.inj _ _ _ e hc ▸ hi))
    · by_cases hcc : c' = c
      · subst hcc; exact ⟨_, hc'⟩
      · obtain ⟨w2, z2⟩ := I.cell y c' e
        exact ⟨w2, z2.sameBut hs hcc⟩
    · obtain ⟨e, n, ne, nf, d⟩ := I.pin p hp
      refine ⟨(hs.2 p.1 ?_).trans e, n, ne, nf, d⟩
      intro q
      rw [q, hoc] at e
      have q' : oc = p.2 := Option.some.inj e
      exact d w' (by rw [← q']; exact hocd)
theorem WO {M : Model} {A : Around} {E : Value → Shared → Prop} {i : Nat} {x : Str} {v : V} {u : Value} {Q : Unit → Shared → Prop} (I : Inv X pins σ H s) (hN : X.N.Nodup) (hi : X.N[i]? = some x) (hx : Loc X.env.scope x) (r : yT v u)
    (h : ∀ s', Inv X pins (σ.set i (some v)) H s' → Q () s') (hf : X.fn x = true ∨ X.env.scope.names.lookup x = some .local := by first | exact .inl rfl | exact .inr rfl | assumption) : wpAny M A (storeName X.env x u) Q E s :=
  zc5 I hN hi hx r (fun s' I' _ => h s' I') hf
theorem Inv.call' {s' : Shared} {ch : List Addr} (I : Inv X pins σ H s) (ho : s'.os = s.os) (u : Un (frs X.stack) ch H H' s.heap s'.heap) (hok : HOk X.prog X.w H' s'.heap) (hg : AllBare s'.gens)
    (hch : ∀ b ∈ ch, (b ∈ X.ex ∨ X.s₀.heap.objs.size ≤ b) ∧ b ≠ X.env.locals ∧ (∀ x c, X.env.cells.lookup x = some c → c ≠ b) ∧ ∀ p ∈ X.pn ++ pins, p.1 ≠ b) : Inv X pins σ H' s' := by
  obtain ⟨h', g', d', t', o'⟩ := s'
  have e : o' = s.os := ho
  subst e
  exact I.call (g' := g') (t' := t') (d' := d') u hok hg hch
end
noncomputable abbrev XK := Value → Option Addr → Hp → Prop
noncomputable abbrev St := List (Option V)
noncomputable abbrev VK := V → Hp → Prop
noncomputable abbrev TE := St → Hp → VK → Prop
noncomputable abbrev TT := St → Hp → (Bool → Hp → Prop) → Prop
noncomputable abbrev TA := St → Hp → (List V → Hp → Prop) → Prop
structure V3 where
  nx : St → Hp → Prop
  rt : VK
  bk : St → Hp → Prop := fun _ _ => False
  ct : St → Hp → Prop := fun _ _ => False
noncomputable abbrev TS := V3 → St → Hp → Prop
noncomputable def EP (X : Cx) (pins : List (Addr × Obj)) (σ : St) (Q : VK) (u : Value) (s' : Shared) : Prop := ∃ v H', Inv X pins σ H' s' ∧ yT v u ∧ Q v H'
noncomputable def TP (X : Cx) (pins : List (Addr × Obj)) (σ : St) (Q : Bool → Hp → Prop) (b : Bool) (s' : Shared) : Prop := ∃ H', Inv X pins σ H' s' ∧ Q b H'
noncomputable def AP (X : Cx) (pins : List (Addr × Obj)) (σ : St) (Q : List V → Hp → Prop) (us : List Value) (s' : Shared) : Prop := ∃ vs H', Inv X pins σ H' s' ∧ yC vs us ∧ Q vs H'
noncomputable def SP (X : Cx) (pins : List (Addr × Obj)) (D : V3) (f : Flow) (s' : Shared) : Prop :=
  match f with
  | .next => ∃ σ' H', Inv X pins σ' H' s' ∧ D.nx σ' H'
  | .brk => ∃ σ' H', Inv X pins σ' H' s' ∧ D.bk σ' H'
  | .cont => ∃ σ' H', Inv X pins σ' H' s' ∧ D.ct σ' H'
  | .ret u => ∃ v σ' H', Inv X pins σ' H' s' ∧ yT v u ∧ D.rt v H'
noncomputable def PE (X : Cx) (e : Expr) (t : TE) : Prop :=
  ∀ (pins : List (Addr × Obj)) (s : Shared) (σ : St) (H : Hp) (Q : VK), Inv X pins σ H s → t σ H Q → wpAny (model X.prog X.w) X.A (eval e X.env) (EP X pins σ Q) X.xe s
noncomputable def PT (X : Cx) (e : Expr) (t : TT) : Prop :=
  ∀ (pins : List (Addr × Obj)) (s : Shared) (σ : St) (H : Hp) (Q : Bool → Hp → Prop), Inv X pins σ H s → t σ H Q → wpAny (model X.prog X.w) X.A (isTrue e X.env (eval e X.env)) (TP X pins σ Q) X.xe s
noncomputable def PW (X : Cx) (e : Expr) (t : TT) : Prop :=
  ∀ (whole : Sem Value) (pins : List (Addr × Obj)) (s : Shared) (σ : St) (H : Hp) (Q : Bool → Hp → Prop), Inv X pins σ H s → t σ H Q → wpAny (model X.prog X.w) X.A (isTrue e X.env whole) (TP X pins σ Q) X.xe s
theorem PW.pt {X : Cx} {e : Expr} {t : TT} (h : PW X e t) : PT X e t := h _
noncomputable def PA (X : Cx) (es : List Expr) (t : TA) : Prop :=
  ∀ (pos : Pos) (pins : List (Addr × Obj)) (s : Shared) (σ : St) (H : Hp) (Q : List V → Hp → Prop), Inv X pins σ H s → t σ H Q → wpAny (model X.prog X.w) X.A (spliced (backTo pos (starEach es X.env))) (AP X pins σ Q) X.xe s
noncomputable def PS (X : Cx) (st : Stmt) (t : TS) : Prop :=
  ∀ (pins : List (Addr × Obj)) (s : Shared) (σ : St) (H : Hp) (D : V3), Inv X pins σ H s → t D σ H → wpAny (model X.prog X.w) X.A (exec st X.env) (SP X pins D) X.xe s
noncomputable def PSs (X : Cx) (st : List Stmt) (t : TS) : Prop :=
  ∀ (pins : List (Addr × Obj)) (s : Shared) (σ : St) (H : Hp) (D : V3), Inv X pins σ H s → t D σ H → wpAny (model X.prog X.w) X.A (execs st X.env) (SP X pins D) X.xe s
theorem thn {α : Type} {t : Sem α} {Q Q' : α → Shared → Prop} {M : Model} {A : Around} {E : Value → Shared → Prop} {s : Shared} (h : wpAny M A t Q E s) (hQ : ∀ a s, Q a s → Q' a s) : wpAny M A t Q' E s := wpAny_mono h hQ fun _ _ x => x
end L2
namespace L2
open PySem PySem.Spec PyProof.Rows
section
variable {X : Cx}
theorem bin {a b : Expr} {ta tb : TE} (ha : PE X a ta) (hb : PE X b tb) {pins : List (Addr × Obj)} {s : Shared} {σ : St} {H : Hp} {R : V → V → Hp → Prop} (I : Inv X pins σ H s) (h : ta σ H fun x H1 => tb σ H1 fun y H2 => R x y H2)
    {α : Type} {Q : α → Shared → Prop} {f : Value → Value → Sem α}
    (hf : ∀ v u s2 x y H2, Inv X pins σ H2 s2 → yT x v → yT y u → R x y H2 → wpAny (model X.prog X.w) X.A (f v u) Q X.xe s2) :
    wpAny (model X.prog X.w) X.A (eval a X.env) (fun v s₁ => wpAny (model X.prog X.w) X.A (eval b X.env) (fun u s₂ => wpAny (model X.prog X.w) X.A (f v u) Q X.xe s₂) X.xe s₁) X.xe s := by
  refine thn (ha pins s σ H _ I h) fun v s1 hh9 => ?_
  obtain ⟨x, H1, I1, r1, q1⟩ := hh9
  refine thn (hb pins s1 σ H1 _ I1 q1) fun u s2 hh9 => ?_
  obtain ⟨y, H2, I2, r2, q2⟩ := hh9
  exact hf v u s2 x y H2 I2 r1 r2 q2
noncomputable def za2 (i : Nat) : TE := fun σ H Q => ∃ v, σ[i]? = some (some v) ∧ Q v H
noncomputable def tC (v : V) : TE := fun _ H Q => Q v H
theorem zhb {i : Nat} {x : Str} {pos : Pos} (hN : X.N[i]? = some x) (hv : Vis X.env.scope x) (hd : (x == ("__debug__" : Str)) = false := by decide) (hcd : (x == ("__classdict__" : Str)) = false := by decide) : PE X (.Name x pos) (za2 i) := by
  intro pins s σ H Q I h
  obtain ⟨v, e, h⟩ := h
  obtain ⟨m, hn, hl⟩ := I.loc
  obtain ⟨u, r, l⟩ := hl i x v hN e hv
  have fin : EP X pins σ Q u s := ⟨v, H, I, r, h⟩
  rcases l with ⟨hk, hm⟩ | ⟨hk, c, hc, hcell⟩
  · exact wpAny_Name (wpAny_loadName_local I.ok.kind hk hn hm fin) hd
  · rcases hk with hk | hk
    · exact wpAny_Name (wpAny_loadName_cell I.ok.kind hk hc hcell fin) hd
    · exact wpAny_Name (wpAny_loadName_free I.ok.kind hk hc hcell fin hcd) hd
theorem zg {i j pos} : PE X (.Constant (.int i) j pos) (tC (.int i)) := fun _ _ _ H _ I h => wpAny_Constant_int ⟨.int i, H, I.tok _, ⟨_, rfl⟩, h⟩
theorem xH {b j pos} : PE X (.Constant (.bool b) j pos) (tC (.bl b)) := fun _ _ _ H _ I h => Constant_bool ⟨.bl b, H, I, rfl, h⟩
theorem w6 {j pos} : PE X (.Constant .none j pos) (tC .non) := fun _ _ _ H _ I h => Constant_none ⟨.non, H, I, rfl, h⟩
theorem vf {x j pos} : PE X (.Constant (.str x) j pos) (tC (.str x)) := fun _ _ _ H _ I h => Calls.Constant_str ⟨.str x, H, I.tok _, ⟨_, rfl⟩, h⟩
noncomputable def Gl (X : Cx) (x : Str) : Prop := X.env.kindOf x = some .globalImplicit
theorem Zp {E : Value → Shared → Prop} {pins : List (Addr × Obj)} {s : Shared} {σ : St} {H : Hp} {x : Str} {u : Value} {pos : Pos} {Q : Value → Shared → Prop} (I : Inv X pins σ H s) (hg : Gl X x) (hm : X.mg x = some u) (h : Q u s)
    (hd : (x == ("__debug__" : Str)) = false := by decide) : wpAny (model X.prog X.w) X.A (eval (.Name x pos) X.env) Q E s :=
  Calls.Name_function_global I.ok.kind hg (Calls.loadGlobal_global (by rw [I.ok.glob]; exact I.mod.glob.keeps I.bk) hm h) hd
theorem YA {E : Value → Shared → Prop} {pins : List (Addr × Obj)} {s : Shared} {σ : St} {H : Hp} {x : Str} {u : Value} {pos : Pos} {Q : Value → Shared → Prop} (I : Inv X pins σ H s) (hg : Gl X x) (hm : X.mg x = none) (hv : bootBuiltins x = some u) (h : Q u s)
    (hn : x ≠ "__name__" := by decide) (hd : (x == ("__debug__" : Str)) = false := by decide) : wpAny (model X.prog X.w) X.A (eval (.Name x pos) X.env) Q E s := by
  obtain ⟨mb, h1, h2⟩ := I.mod.blt
  exact Calls.Name_function_global I.ok.kind hg (Calls.loadGlobal_builtin (by rw [I.ok.glob]; exact I.mod.glob.keeps I.bk) hm (by rw [I.ok.blt]; exact h1.keeps I.bk) ((h2 x hn).trans hv) h) hd
theorem yP {x : Str} {v : V} {u : Value} {pos : Pos} (hg : Gl X x) (hm : X.mg x = some u) (r : yT v u) (hd : (x == ("__debug__" : Str)) = false := by decide) : PE X (.Name x pos) (tC v) :=
  fun _ _ _ H _ I h => Zp I hg hm ⟨v, H, I, r, h⟩ hd
theorem wq {x : Str} {v : V} {u : Value} {pos : Pos} (hg : Gl X x) (hm : X.mg x = none) (hv : bootBuiltins x = some u) (r : yT v u) (hn : x ≠ "__name__" := by decide) (hd : (x == ("__debug__" : Str)) = false := by decide) : PE X (.Name x pos) (tC v) :=
  fun _ _ _ H _ I h => YA I hg hm hv ⟨v, H, I, r, h⟩ hn hd
variable {a b : Expr} {ta tb : TE} {pos : Pos}
noncomputable def PC (X : Cx) (op : CmpOp) (a b : Expr) (t : TE) : Prop :=
  ∀ (pins : List (Addr × Obj)) (s : Shared) (σ : St) (H : Hp) (Q : VK), Inv X pins σ H s → t σ H Q →
    wpAny (model X.prog X.w) X.A (eval a X.env) (fun v s₁ => wpAny (model X.prog X.w) X.A (eval b X.env) (fun u s₂ => wpAny (model X.prog X.w) X.A (compareOp op v u) (EP X pins σ Q) X.xe s₂) X.xe s₁) X.xe s
theorem zem (b : Expr) {op : CmpOp} (h : op ≠ .In) (h2 : op ≠ .NotIn) : behindInMarks op b = false := by
  have e1 : (op == CmpOp.In) = false := by cases op <;> first | rfl | exact absurd rfl h
  have e2 : (op == CmpOp.NotIn) = false := by cases op <;> first | rfl | exact absurd rfl h2
  cases b <;> simp [behindInMarks, e1, e2]
noncomputable def tB (t : TE) : TT := fun σ H Q => t σ H fun x H1 => ∃ c, x = .bl c ∧ Q c H1
theorem pt_cmp {op : CmpOp} {t : TE} (h : PC X op a b t) (h1 : behindInMarks op b = false := by first | exact zem _ (by decide) (by decide) | rfl) : PT X (.Compare a [op] [b] pos) (tB t) := by
  intro pins s σ H Q I hw
  refine wpAny_isTrue_Compare1 (thn (h pins s σ H _ I hw) fun v s1 h1 => thn h1 fun u s2 h2 => thn h2 fun c s3 hh9 => ?_) h1
  obtain ⟨x, H1, I1, r1, q1⟩ := hh9
  obtain ⟨d, rfl, q⟩ := q1
  cases r1
  exact wpAny_truthy_bool ⟨H1, I1, q⟩
theorem zeM {e : Expr} {t : TE} (h : PE X e t) (he : ∀ whole, isTrue e X.env whole = (do let v ← whole; standAt e.pos; holding [v] (truthy v)) := by intro _; rfl) : PT X e (tB t) := by
  intro pins s σ H Q I hw
  refine isTrue_plain (thn (h pins s σ H _ I hw) fun v s1 hh9 => ?_) (he _)
  obtain ⟨x, H1, I1, r1, q1⟩ := hh9
  obtain ⟨d, rfl, q⟩ := q1
  cases r1
  exact wpAny_truthy_bool ⟨H1, I1, q⟩
variable {tA tB' : TT} {rest : List Expr}
noncomputable def tAnd (t u : TT) : TT := fun σ H Q => t σ H fun c H1 => if c = true then u σ H1 Q else Q false H1
noncomputable def tOr (t u : TT) : TT := fun σ H Q => t σ H fun c H1 => if c = true then Q true H1 else u σ H1 Q
noncomputable def tNot (t : TT) : TT := fun σ H Q => t σ H fun c H1 => Q (!c) H1
theorem zfU (ha : PT X a tA) : PW X (.BoolOp .And [a] pos) tA := by
  intro wh pins s σ H Q I h
  refine isTrue_and (thn (ha pins s σ H Q I h) fun c s1 e => ?_)
  cases c with
  | true => exact isTrue_and_nil e
  | false => exact e
theorem zeH (ha : PT X a tA) : PW X (.BoolOp .Or [a] pos) tA := by
  intro wh pins s σ H Q I h
  refine isTrue_or (thn (ha pins s σ H Q I h) fun c s1 e => ?_)
  cases c with
  | false => exact isTrue_or_nil e
  | true => exact e
theorem zgY (ha : PT X a tA) (hb : PW X (.BoolOp .And (b :: rest) pos) tB') : PW X (.BoolOp .And (a :: b :: rest) pos) (tAnd tA tB') := by
  intro wh pins s σ H Q I h
  refine isTrue_and (thn (ha pins s σ H _ I h) fun c s1 hh9 => ?_)
  obtain ⟨H1, I1, q1⟩ := hh9
  cases c with
  | true => exact hb wh pins s1 σ H1 Q I1 q1
  | false => exact ⟨H1, I1, q1⟩
theorem zgF (ha : PT X a tA) (hb : PW X (.BoolOp .Or (b :: rest) pos) tB') : PW X (.BoolOp .Or (a :: b :: rest) pos) (tOr tA tB') := by
  intro wh pins s σ H Q I h
  refine isTrue_or (thn (ha pins s σ H _ I h) fun c s1 hh9 => ?_)
  obtain ⟨H1, I1, q1⟩ := hh9
  cases c with
  | true => exact ⟨H1, I1, q1⟩
  | false => exact hb wh pins s1 σ H1 Q I1 q1
theorem zeQ (ha : PT X a tA) : PT X (.UnaryOp .Not a pos) (tNot tA) := by
  intro pins s σ H Q I h
  exact isTrue_not (ha pins s σ H (fun c H1 => Q (!c) H1) I h)
noncomputable def zin (ta tb : TE) : TE := fun σ H Q => ta σ H fun x H1 => ∃ c, x = .bl c ∧ if c = true then tb σ H1 Q else Q (.bl false) H1
noncomputable def tOrV (ta tb : TE) : TE := fun σ H Q => ta σ H fun x H1 => ∃ c, x = .bl c ∧ if c = true then Q (.bl true) H1 else tb σ H1 Q
noncomputable def zhW (ta : TE) : TE := fun σ H Q => ta σ H fun x H1 => ∃ c, x = .bl c ∧ Q (.bl (!c)) H1
theorem zg6 {op} {t : TE} (h : PE X a t) : PE X (.BoolOp op [a] pos) t := fun pins s σ H Q I hw => BoolOp_one (h pins s σ H Q I hw)
theorem zgJ (ha : PE X a ta) (hb : PE X (.BoolOp .And (b :: rest) pos) tb) : PE X (.BoolOp .And (a :: b :: rest) pos) (zin ta tb) := by
  intro pins s σ H Q I h
  refine BoolOp_and (thn (ha pins s σ H _ I h) fun v s1 hh9 => ?_)
  obtain ⟨x, H1, I1, r1, q1⟩ := hh9
  obtain ⟨c, rfl, q1⟩ := q1
  cases r1
  refine wpAny_truthy_bool ?_
  cases c with
  | true => exact hb pins s1 σ H1 Q I1 q1
  | false => exact ⟨.bl false, H1, I1, rfl, q1⟩
theorem zir (ha : PE X a ta) (hb : PE X (.BoolOp .Or (b :: rest) pos) tb) : PE X (.BoolOp .Or (a :: b :: rest) pos) (tOrV ta tb) := by
  intro pins s σ H Q I h
  refine BoolOp_or (thn (ha pins s σ H _ I h) fun v s1 hh9 => ?_)
  obtain ⟨x, H1, I1, r1, q1⟩ := hh9
  obtain ⟨c, rfl, q1⟩ := q1
  cases r1
  refine wpAny_truthy_bool ?_
  cases c with
  | false => exact hb pins s1 σ H1 Q I1 q1
  | true => exact ⟨.bl true, H1, I1, rfl, q1⟩
theorem zgq (ha : PE X a ta) : PE X (.UnaryOp .Not a pos) (zhW ta) := by
  intro pins s σ H Q I h
  refine UnaryOp_ (thn (ha pins s σ H _ I h) fun v s1 hh9 => ?_)
  obtain ⟨x, H1, I1, r1, q1⟩ := hh9
  obtain ⟨c, rfl, q1⟩ := q1
  cases r1
  exact not_of (wpAny_truthy_bool ⟨.bl (!c), H1, I1, rfl, q1⟩)
noncomputable def tIf (t : TT) (ta tb : TE) : TE := fun σ H Q => t σ H fun c H1 => if c = true then ta σ H1 Q else tb σ H1 Q
theorem zdP {c : Expr} (hc : PT X c tA) (ha : PE X a ta) (hb : PE X b tb) : PE X (.IfExp c a b pos) (tIf tA ta tb) := by
  intro pins s σ H Q I h
  refine wpAny_IfExp (thn (hc pins s σ H _ I h) fun d s1 hh9 => ?_)
  obtain ⟨H1, I1, q1⟩ := hh9
  cases d with
  | true => exact ha pins s1 σ H1 Q I1 q1
  | false => exact hb pins s1 σ H1 Q I1 q1
end
end L2
namespace L2
open PySem PySem.Spec PyProof.Rows
noncomputable def SqL (K : PySem.W.Frag) (H : Hp) (a : Addr) (xs : List V) : Prop :=
  Rd H a (.lst xs) ∨
    ∃ (o : Obj) (its : Array Value) (n : Nat), K.lookup a = some o ∧ o.cls = .type "list" ∧ o.dict = none ∧ o.data = .seq its n ∧ its.size ≤ sizeLine ∧ yC xs its.toList
noncomputable def SqT (K : PySem.W.Frag) (H : Hp) (a : Addr) (xs : List V) : Prop :=
  Rd H a (.tup xs) ∨
    ∃ (o : Obj) (its : Array Value) (n : Nat), K.lookup a = some o ∧ o.cls = .type "tuple" ∧ o.data = .seq its n ∧ its.size ≤ sizeLine ∧ yC xs its.toList
noncomputable def absV : Value → Option V
  | .none => some .non
  | .bool b => some (.bl b)
  | .int i _ => some (.int i)
  | .str x _ => some (.str x)
  | .bytes b _ => some (.byt b)
  | .float b _ => some (.flt b)
  | .ref a => some (.ref a)
  | .type n => some (.ty n)
  | _ => none
theorem yT.abs {x : V} {u : Value} (r : yT x u) : absV u = some x := by
  cases x with
  | non => cases r; rfl
  | bl _ => cases r; rfl
  | int _ => obtain ⟨t, rfl⟩ := r; rfl
  | str _ => obtain ⟨t, rfl⟩ := r; rfl
  | byt _ => obtain ⟨t, rfl⟩ := r; rfl
  | flt _ => obtain ⟨t, rfl⟩ := r; rfl
  | ref _ => cases r; rfl
  | ty _ => cases r; rfl
theorem yT.inj {x y : V} {u : Value} (r : yT x u) (q : yT y u) : x = y := Option.some.inj (r.abs.symm.trans q.abs)
theorem yC.inj : ∀ {xs ys : List V} {us : List Value}, yC xs us → yC ys us → xs = ys := by
  intro xs ys us h
  induction h generalizing ys with
  | nil => intro h2; cases h2; rfl
  | cons r t ih => intro h2; cases h2 with | cons r' t' => rw [r.inj r', ih t']
section
variable {X : Cx} {pins : List (Addr × Obj)} {σ : St} {H : Hp} {s : Shared} {a : Addr} {xs ys : List V}
theorem SqL.of {K : PySem.W.Frag} (h : H a = some (.lst xs)) : SqL K H a xs := .inl (.inl h)
theorem SqT.of {K : PySem.W.Frag} (h : H a = some (.tup xs)) : SqT K H a xs := .inl (.inl h)
theorem Inv.list (I : Inv X pins σ H s) (h : SqL X.K H a xs) : ∃ its : List Value, yC xs its ∧ PlainL s.heap a its.toArray ∧ xs.length ≤ sizeLine := by
  rcases h with h | ⟨o, its, n, hk, hc, hd, hs, hz, r⟩
  · obtain ⟨z, its, n, r, e⟩ := h.ok I.hok
    exact ⟨its, r, ⟨_, n, e, rfl, rfl, rfl⟩, z⟩
  · refine ⟨its.toList, r, ⟨o, n, I.kIn a o hk, hc, hd, by simpa using hs⟩, ?_⟩
    have e := r.length
    simp only [Array.length_toList] at e
    omega
theorem Inv.tuple (I : Inv X pins σ H s) (h : SqT X.K H a xs) : ∃ its : List Value, yC xs its ∧ IsTup s.heap a its.toArray ∧ xs.length ≤ sizeLine := by
  rcases h with h | ⟨o, its, n, hk, hc, hs, hz, r⟩
  · obtain ⟨z, its, r, p⟩ := h.ok I.hok
    exact ⟨its, r, p, z⟩
  · refine ⟨its.toList, r, ⟨o, I.kIn a o hk, hc, n, by simpa using hs⟩, ?_⟩
    have e := r.length
    simp only [Array.length_toList] at e
    omega
theorem Inv.list_inj (I : Inv X pins σ H s) (h : SqL X.K H a xs) (h' : SqL X.K H a ys) : xs = ys := by
  obtain ⟨its, r, ⟨o, n, e, _, _, d⟩, _⟩ := I.list h
  obtain ⟨its', r', ⟨o', n', e', _, _, d'⟩, _⟩ := I.list h'
  rw [e] at e'; cases e'
  rw [d] at d'
  injection d' with d1 _
  have : its = its' := by simpa using congrArg Array.toList d1
  subst this
  exact r.inj r'
theorem Inv.tuple_inj (I : Inv X pins σ H s) (h : SqT X.K H a xs) (h' : SqT X.K H a ys) : xs = ys := by
  obtain ⟨its, r, ⟨o, e, _, n, d⟩, _⟩ := I.tuple h
  obtain ⟨its', r', ⟨o', e', _, n', d'⟩, _⟩ := I.tuple h'
  rw [e] at e'; cases e'
  rw [d] at d'
  injection d' with d1 _
  have : its = its' := by simpa using congrArg Array.toList d1
  subst this
  exact r.inj r'
end
noncomputable abbrev Cx.wish (X : Cx) (E : Value → Shared → Prop) : Cx := { X with xe := E }
noncomputable abbrev Cx.nox (X : Cx) : Cx := X.wish fun _ _ => False
theorem Cx.Ok.wish {X : Cx} (ok : X.Ok) (E : Value → Shared → Prop) : (X.wish E).Ok :=
  ⟨ok.mod, ok.kind, ok.glob, ok.blt, ok.above, ok.inj, ok.has, ok.cab, ok.hd, ok.frames, ok.stk, ok.exf, ok.bs, ok.bsz, ok.noex, ok.exfs, ok.funs, ok.frf⟩
theorem Cx.Ok.unwish {X : Cx} {E : Value → Shared → Prop} (ok : (X.wish E).Ok) : X.Ok :=
  ⟨ok.mod, ok.kind, ok.glob, ok.blt, ok.above, ok.inj, ok.has, ok.cab, ok.hd, ok.frames, ok.stk, ok.exf, ok.bs, ok.bsz, ok.noex, ok.exfs, ok.funs, ok.frf⟩
section
variable {X : Cx} {pins : List (Addr × Obj)} {σ : St} {H : Hp} {s : Shared} {E : Value → Shared → Prop}
theorem Inv.wish (I : Inv X pins σ H s) (E : Value → Shared → Prop) : Inv (X.wish E) pins σ H s := ⟨I.ok.wish E, I.os, I.bare, I.base, I.loc, I.cell, I.free, I.freeC, I.pin, I.hok, I.len⟩
theorem Inv.unwish (I : Inv (X.wish E) pins σ H s) : Inv X pins σ H s := ⟨I.ok.unwish, I.os, I.bare, I.base, I.loc, I.cell, I.free, I.freeC, I.pin, I.hok, I.len⟩
theorem SP.unwish {D : V3} {f : Flow} {s' : Shared} (h : SP (X.wish E) pins D f s') : SP X pins D f s' := by
  cases f with
  | next => obtain ⟨σ', H', I, q⟩ := h; exact ⟨σ', H', I.unwish, q⟩
  | brk => obtain ⟨σ', H', I, q⟩ := h; exact ⟨σ', H', I.unwish, q⟩
  | cont => obtain ⟨σ', H', I, q⟩ := h; exact ⟨σ', H', I.unwish, q⟩
  | ret u => obtain ⟨v, σ', H', I, r, q⟩ := h; exact ⟨v, σ', H', I.unwish, r, q⟩
theorem PSs.nox {st : List Stmt} {t : TS} (h : PSs X.nox st t) : PSs X st t := fun pins s σ H D I hw =>
  wpAny_mono (h pins s σ H D (I.wish _) hw) (fun _ _ q => q.unwish) fun _ _ z => False.elim z
end
section
variable {X : Cx} {st : Stmt} {rest : List Stmt} {t u : TS} {e : Expr} {te : TE} {pos : Pos}
noncomputable def zgS : TS := fun D σ H => D.nx σ H
noncomputable def tSeq (t u : TS) : TS := fun D σ H => t { D with nx := u D } σ H
theorem zbS : PSs X [] zgS := fun _ _ σ H _ I h => wpAny_execs_nil ⟨σ, H, I, h⟩
theorem wI (h1 : PS X st t) (h2 : PSs X rest u) : PSs X (st :: rest) (tSeq t u) := by
  intro pins s σ H D I h
  refine wpAny_execs_cons (thn (h1 pins s σ H { D with nx := u D } I h) fun f s1 q => ?_)
  cases f with
  | next =>
    obtain ⟨σ', H', I', q⟩ := q
    exact h2 pins s1 σ' H' D I' q
  | ret v => exact q
  | brk => exact q
  | cont => exact q
theorem Xp (h1 : PS X st t) : PSs X [st] t := by
  intro pins s σ H D I h
  refine wpAny_execs_cons (thn (h1 pins s σ H D I h) fun f s1 q => ?_)
  cases f with
  | next => exact wpAny_execs_nil q
  | ret v => exact q
  | brk => exact q
  | cont => exact q
theorem Inv.quiet {pins : List (Addr × Obj)} {σ : St} {H : Hp} {s : Shared} (I : Inv X pins σ H s) : interactive X.env = false := by simp [interactive, I.ok.kind]
noncomputable def zhU (te : TE) : TS := fun D σ H => te σ H fun _ H1 => D.nx σ H1
theorem WM (he : PE X e te) (hs : swapsWith e none pos.line X.env = pure false := by rfl) : PS X (.Expr e pos) (zhU te) := by
  intro pins s σ H D I h
  exact wpAny_Expr_any (thn (he pins s σ H _ I h) fun v s1 ⟨x, H1, I1, r1, q1⟩ => ⟨σ, H1, I1, q1⟩) I.quiet hs
noncomputable def zia (te : TE) : TS := fun D σ H => te σ H D.rt
theorem Vm (he : PE X e te) : PS X (.Return (some e) pos) (zia te) := by
  intro pins s σ H D I h
  exact wpAny_Return_some (thn (he pins s σ H _ I h) fun v s1 ⟨x, H1, I1, r1, q1⟩ => ⟨x, σ, H1, I1, r1, q1⟩)
noncomputable def tIfS (c : TT) (t u : TS) : TS := fun D σ H => c σ H fun b H1 => if b = true then t D σ H1 else u D σ H1
theorem zf2 {c : Expr} {a b : List Stmt} {tc : TT} (hc : PT X c tc) (ha : PSs X a t) (hb : PSs X b u) : PS X (.If c a b pos) (tIfS tc t u) := by
  intro pins s σ H D I h
  refine wpAny_If (thn (hc pins s σ H _ I h) fun d s1 hh9 => ?_)
  obtain ⟨H1, I1, q1⟩ := hh9
  cases d with
  | true => exact ha pins s1 σ H1 D I1 q1
  | false => exact hb pins s1 σ H1 D I1 q1
noncomputable def zgH : TS := fun _ _ _ => False
theorem zef : PS X st zgH := fun _ _ _ _ _ _ h => h.elim
end
noncomputable abbrev TG := V → St → Hp → (St → Hp → Prop) → Prop
noncomputable abbrev TGs := List V → St → Hp → (St → Hp → Prop) → Prop
noncomputable def PG (X : Cx) (target : Expr) (t : TG) : Prop :=
  ∀ (pins : List (Addr × Obj)) (s : Shared) (σ : St) (H : Hp) (v : V) (u : Value) (Q : St → Hp → Prop), Inv X pins σ H s → yT v u → t v σ H Q →
    wpAny (model X.prog X.w) X.A (assign target X.env u) (fun _ s' => ∃ σ' H', Inv X pins σ' H' s' ∧ Q σ' H') X.xe s
noncomputable def PGs (X : Cx) (ts : List Expr) (t : TGs) : Prop :=
  ∀ (pins : List (Addr × Obj)) (s : Shared) (σ : St) (H : Hp) (vs : List V) (us : List Value) (Q : St → Hp → Prop), Inv X pins σ H s → yC vs us → t vs σ H Q →
    wpAny (model X.prog X.w) X.A (assignInOrder ((assignEach ts X.env).map (·.2)) us) (fun _ s' => ∃ σ' H', Inv X pins σ' H' s' ∧ Q σ' H') X.xe s
noncomputable abbrev zim := V → V → V → Hp → (Hp → Prop) → Prop
noncomputable def PSet (X : Cx) (t : zim) : Prop :=
  ∀ (pins : List (Addr × Obj)) (s : Shared) (σ : St) (H : Hp) (o i v : V) (ov iv u : Value) (Q : Hp → Prop), Inv X pins σ H s → yT o ov → yT i iv → yT v u → t o i v H Q →
    wpAny (model X.prog X.w) X.A (setItem ov iv u) (fun _ s' => ∃ H', Inv X pins σ H' s' ∧ Q H') X.xe s
section
variable {X : Cx} {pos : Pos}
noncomputable def Yn (i : Nat) : TG := fun v σ H Q => Q (σ.set i (some v)) H
theorem zJ {i : Nat} {x : Str} (hN : X.N.Nodup) (hi : X.N[i]? = some x) (hx : Loc X.env.scope x) (hf : X.fn x = true ∨ X.env.scope.names.lookup x = some .local := by first | exact .inl rfl | exact .inr rfl | assumption) : PG X (.Name x pos) (Yn i) := by
  intro pins s σ H v u Q I r h
  exact wpAny_assign_Name (WO I hN hi hx r (fun s' I' => ⟨_, H, I', h⟩) hf)
noncomputable def zhL : TGs := fun vs σ H Q => vs = [] ∧ Q σ H
noncomputable def zaF (t : TG) (u : TGs) : TGs := fun vs σ H Q => ∃ v r, vs = v :: r ∧ t v σ H fun σ' H' => u r σ' H' Q
theorem zbQ : PGs X [] zhL := by
  intro pins s σ H vs us Q I r h
  obtain ⟨e, h⟩ := h
  subst e
  cases r
  exact assignInOrder_nil ⟨σ, H, I, h⟩
theorem WY {e : Expr} {es : List Expr} {t : TG} {u : TGs} (h1 : PG X e t) (h2 : PGs X es u)
    (hs : (assignEach (e :: es) X.env).map (·.2) = assign e X.env :: (assignEach es X.env).map (·.2) := by rfl) : PGs X (e :: es) (zaF t u) := by
  intro pins s σ H vs us Q I r h
  obtain ⟨v, vr, e1, h⟩ := h
  subst e1
  cases r with
  | cons r rr =>
    rw [hs]
    refine assignInOrder_cons (thn (h1 pins s σ H _ _ _ I r h) fun _ s1 hh9 => ?_)
    obtain ⟨σ1, H1, I1, q1⟩ := hh9
    exact h2 pins s1 σ1 H1 _ _ Q I1 rr q1
noncomputable def zhK (K : PySem.W.Frag) (n : Nat) (t : TGs) : TG := fun v σ H Q => ∃ a xs, v = .ref a ∧ SqT K H a xs ∧ xs.length = n ∧ t xs σ H Q
theorem zeK {es : List Expr} {k : Nat} {t : TGs} {n : Nat} (hc : X.calm = true) (h : PGs X es t)
    (hn : (assignEach es X.env).length = n := by rfl) (hst : (assignEach es X.env).findIdx? (·.1) = none := by rfl) : PG X (.Tuple es k pos) (zhK X.K n t) := by
  intro pins s σ H v u Q I r hw
  obtain ⟨a, xs, e1, hq, hl, hw⟩ := hw
  subst e1
  cases r
  obtain ⟨its, rv, ht, hz⟩ := I.tuple hq
  refine assign_Tuple_tuple (I.ok.hd hc) ht (by simp [hn, ← hl, rv.length]) hst fun h' hx => ?_
  have I1 : Inv X pins σ H { s with heap := h' } := I.kept (t' := s.toks) fun b o e => hx b o (Nat.ne_of_lt (Heap.lt_size e)) e
  exact h pins _ σ H xs _ Q I1 (by simpa using rv) hw
noncomputable def gSub (to ti : TE) (t : zim) : TG := fun v σ H Q => to σ H fun o H1 => ti σ H1 fun i H2 => t o i v H2 fun H3 => Q σ H3
theorem zgO {o i : Expr} {to ti : TE} {t : zim} (ho : PE X o to) (hi : PE X i ti) (hs : PSet X t)
    (ha : ∀ v, assign (.Subscript o i pos) X.env v = (do
      let ov ← holding [v] (eval o X.env)
      let iv ← holding [v, ov] (eval i X.env)
      standAt pos
      holding [v, ov, iv] (setItem ov iv v)
      release [v, ov, iv] []) := by intro _; rfl) : PG X (.Subscript o i pos) (gSub to ti t) := by
  intro pins s σ H v u Q I r h
  rw [ha]
  refine wpAny_bind (wpAny_holding (thn (ho pins s σ H _ I h) fun ov s1 hh9 => ?_))
  obtain ⟨x, H1, I1, r1, q1⟩ := hh9
  refine wpAny_bind (wpAny_holding (thn (hi pins s1 σ H1 _ I1 q1) fun iv s2 hh9 => ?_))
  obtain ⟨y, H2, I2, r2, q2⟩ := hh9
  refine wpAny_bind (wpAny_standAt (wpAny_bind (wpAny_holding (thn (hs pins s2 σ H2 x y v ov iv u _ I2 r1 r2 r q2) fun _ s3 hh9 => ?_))))
  obtain ⟨H3, I3, q3⟩ := hh9
  exact wpAny_release ⟨σ, H3, I3, q3⟩
noncomputable def zf8 (te : TE) (g : TG) : TS := fun D σ H => te σ H fun x H1 => g x σ H1 D.nx
theorem zg7 {tg e : Expr} {te : TE} {g : TG} (he : PE X e te) (hg : PG X tg g) (hs : swapsWithSole [tg] e pos.line X.env = pure false := by rfl) (hw : swappedStores [tg] e X.env = pure none := by rfl)
    (h1 : (assignEach [tg] X.env).map (·.2) = [assign tg X.env] := by rfl) : PS X (.Assign [tg] e pos) (zf8 te g) := by
  intro pins s σ H D I h
  refine wpAny_Assign_stores (thn (he pins s σ H _ I h) fun v s1 hh9 => ?_) hs hw
  obtain ⟨x, H1, I1, r1, q1⟩ := hh9
  rw [h1]
  exact thn (hg pins s1 σ H1 x v _ I1 r1 q1) fun _ s2 q => q
theorem ZZ {i : Nat} {x : Str} {e : Expr} {te : TE} {pos' : Pos} (hN : X.N.Nodup) (hi : X.N[i]? = some x) (hx : Loc X.env.scope x) (he : PE X e te) (hs : swapsWith e (some (.Name x pos')) pos.line X.env = pure false := by rfl) (hf : X.fn x = true ∨ X.env.scope.names.lookup x = some .local := by first | exact .inl rfl | exact .inr rfl | assumption) :
    PS X (.Assign [.Name x pos'] e pos) (zf8 te (Yn i)) := by
  intro pins s σ H D I h
  refine wpAny_Assign_Name (thn (he pins s σ H _ I h) fun v s1 hh9 => ?_) hs
  obtain ⟨y, H1, I1, r1, q1⟩ := hh9
  exact WO I1 hN hi hx r1 (fun s2 I2 => ⟨_, H1, I2, q1⟩) hf
end
section
variable {X : Cx} {pos : Pos}
noncomputable def zgn (c : TT) (tb : TS) : TS := fun D σ H => ∃ W : Nat → St → Hp → Prop, (∃ m, W m σ H) ∧ ∀ m σ H, W m σ H →
  c σ H fun b H1 => if b = true then ∃ N : St → Hp → Prop, (∀ σ' H', N σ' H' → ∃ m', m' < m ∧ W m' σ' H') ∧ tb { D with nx := N, ct := N, bk := D.nx } σ H1 else D.nx σ H1
theorem zdM {c : Expr} {body : List Stmt} {tc : TT} {tb : TS} (hp : PassesOwn (model X.prog X.w) X.A X.env X.xe) (hc : PT X c tc) (hb : PSs X body tb) : PS X (.While c body [] pos) (zgn tc tb) := by
  intro pins s σ H D I h
  obtain ⟨W, ⟨m0, w0⟩, turn⟩ := h
  refine wpAny_While (codeAny_whileLoop (fun n s' => ∃ σ' H', Inv X pins σ' H' s' ∧ W n σ' H') ?_ m0 ⟨σ, H, I, w0⟩)
  rintro n s1 ⟨σ1, H1, I1, w1⟩
  refine wpAny_passesOwn hp (thn (hc pins s1 σ1 H1 _ I1 (turn n σ1 H1 w1)) fun b s2 hh9 => ?_)
  obtain ⟨H2, I2, q2⟩ := hh9
  cases b with
  | true =>
    obtain ⟨N, hN, q2⟩ := q2
    rw [if_pos rfl]
    refine wpAny_passesOwn hp (thn (hb pins s2 σ1 H2 _ I2 q2) fun f s3 q3 => ?_)
    cases f with
    | next =>
      obtain ⟨σ3, H3, I3, n3⟩ := q3
      obtain ⟨m', hm, w3⟩ := hN σ3 H3 n3
      exact ⟨m', hm, σ3, H3, I3, w3⟩
    | cont =>
      obtain ⟨σ3, H3, I3, n3⟩ := q3
      obtain ⟨m', hm, w3⟩ := hN σ3 H3 n3
      exact ⟨m', hm, σ3, H3, I3, w3⟩
    | brk => exact q3
    | ret v => exact q3
  | false =>
    rw [if_neg Bool.false_ne_true]
    exact wpAny_execs_nil ⟨σ1, H2, I2, q2⟩
end
structure It where
  go : Nat → Hp → Prop
  yld : Nat → Hp → V → Hp → Prop
  stop : Nat → Hp → Prop
noncomputable def zaD (X : Cx) (pins : List (Addr × Obj)) (H : Hp) (b : Addr) : Prop :=
  H b = none ∧ b ≠ X.env.locals ∧ b ∉ X.fs ∧ (b ∈ X.ex ∨ X.s₀.heap.objs.size ≤ b) ∧ (∀ x c, X.env.cells.lookup x = some c → c ≠ b) ∧ ∀ p ∈ X.pn ++ pins, p.1 ≠ b
theorem Inv.fpOk {X : Cx} {pins : List (Addr × Obj)} {σ : St} {H H' : Hp} {s : Shared} {b : Addr} (I : Inv X pins σ H s) (hb : s.heap.objs.size ≤ b) (hn : H' b = none) : zaD X pins H' b := by
  refine ⟨hn, Nat.ne_of_gt (Nat.lt_of_lt_of_le I.lt hb), I.nofs hb, .inr (Nat.le_trans I.sz hb), fun x c e z => ?_, fun p hp z => ?_⟩
  · obtain ⟨v, q⟩ := I.cell x c e
    exact absurd (Nat.lt_of_lt_of_le q.lt (by rw [z]; exact hb)) (Nat.lt_irrefl _)
  · exact absurd (Nat.lt_of_lt_of_le (Heap.lt_size (I.pin p hp).1) (by rw [z]; exact hb)) (Nat.lt_irrefl _)
set_option genInjectivity false in
set_option genSizeOf false in
set_option genCtorIdx false in
structure zej (P : Program) (w : World) (K : PySem.W.Frag) (tg : Expr) (J : It) (fp : List Addr) (it : Addr) (tn : Nat → Heap → Prop) : Prop where
  mem : it ∈ fp
  obj : ∀ i h, tn i h → ∀ b ∈ fp, ∃ o, h.get? b = some o ∧ ∀ v, o.data ≠ .cell v
  keep : ∀ i h h', tn i h → (∀ b ∈ fp, ∀ o, h.get? b = some o → h'.get? b = some o) → tn i h'
  item : ∀ (X : Cx), X.prog = P → X.w = w → X.K = K → X.calm = true → ∀ (i : Nat) (pins : List (Addr × Obj)) (s : Shared) (σ : St) (H : Hp) (E : Value → Shared → Prop), Inv X pins σ H s → (∀ b ∈ fp, zaD X pins H b) → tn i s.heap → J.go i H →
    wpAny (model P w) X.A (pyNext (.ref it)) (fun r s1 => ∃ u, r = some u ∧
      wpAny (model P w) X.A (letOwnedTupleGo tg (.ref it) u) (fun _ s2 => ∃ x H', Inv X pins σ H' s2 ∧ yT x u ∧ J.yld i H x H' ∧ tn (i + 1) s2.heap ∧ ∀ b ∈ fp, H' b = none) E s1) E s
  done : ∀ (X : Cx), X.prog = P → X.w = w → X.K = K → X.calm = true → ∀ (i : Nat) (pins : List (Addr × Obj)) (s : Shared) (σ : St) (H : Hp) (E : Value → Shared → Prop), Inv X pins σ H s → (∀ b ∈ fp, zaD X pins H b) → tn i s.heap → J.stop i H →
    wpAny (model P w) X.A (pyNext (.ref it)) (fun r s1 => r = none ∧ Inv X pins σ H s1) E s
  self : ∀ (A : Around) (i : Nat) (s : Shared) (Q : Value → Shared → Prop) (E : Value → Shared → Prop), tn i s.heap → Q (.ref it) s → wpAny (model P w) A (pyIter (.ref it)) Q E s
noncomputable abbrev TI := St → Hp → (It → Hp → Prop) → Prop
noncomputable def PIE (X : Cx) (pins : List (Addr × Obj)) (σ : St) (tg : Expr) (R : It → Hp → Prop) (itv : Value) (s2 : Shared) : Prop :=
  ∃ (it : Addr) (fp : List Addr) (tn : Nat → Heap → Prop) (J : It) (H' : Hp), itv = .ref it ∧ Inv X pins σ H' s2 ∧ zej X.prog X.w X.K tg J fp it tn ∧ tn 0 s2.heap ∧ (∀ b ∈ fp, zaD X pins H' b) ∧ R J H'
noncomputable def PI (X : Cx) (tg iter : Expr) (wi : TI) : Prop :=
  ∀ (pins : List (Addr × Obj)) (s : Shared) (σ : St) (H : Hp) (R : It → Hp → Prop), Inv X pins σ H s → wi σ H R →
    wpAny (model X.prog X.w) X.A (eval iter X.env) (fun v s1 => wpAny (model X.prog X.w) X.A (pyIter v) (PIE X pins σ tg R) X.xe s1) X.xe s
theorem zdS {M : Model} {A : Around} {E : Value → Shared → Prop} {s : Shared} {tg : Expr} {it : Addr} {u : Value} {o : Obj} {n : String} {vs : Array Value} {Q : Unit → Shared → Prop} (ho : s.heap.get? it = some o) (hc : o.cls = .type n) (hd : o.data = .fields vs)
    (hn : ["enumerate", "zip", "dict_itemiterator", "dict_reverseitemiterator", "odict_iterator", "itertools.zip_longest", "itertools.pairwise"].contains n = false) (hQ : Q () s) : wpAny M A (letOwnedTupleGo tg (.ref it) u) Q E s := by
  unfold letOwnedTupleGo
  cases tg <;> first
    | exact wpAny_pure hQ
    | (cases u <;> first
        | exact wpAny_pure hQ
        | (refine wpAny_bind (wpAny_load ho ?_)
           rw [hc, hd]
           show wpAny M A (if (["enumerate", "zip", "dict_itemiterator", "dict_reverseitemiterator", "odict_iterator", "itertools.zip_longest", "itertools.pairwise"].contains n && vs[0]? == some (rawInt _)) = true then _ else _) Q E s
           rw [if_neg (by intro h; rw [hn, Bool.false_and] at h; cases h)]
           exact wpAny_pure hQ))
noncomputable def Itl (K : PySem.W.Frag) (a : Addr) : It :=
  ⟨fun i H => ∃ xs x, SqL K H a xs ∧ xs[i]? = some x, fun i H x H' => H' = H ∧ ∀ xs, SqL K H a xs → xs[i]? = some x, fun i H => ∃ xs, SqL K H a xs ∧ xs.length ≤ i⟩
noncomputable def Itt (K : PySem.W.Frag) (a : Addr) : It :=
  ⟨fun i H => ∃ xs x, SqT K H a xs ∧ xs[i]? = some x, fun i H x H' => H' = H ∧ ∀ xs, SqT K H a xs → xs[i]? = some x, fun i H => ∃ xs, SqT K H a xs ∧ xs.length ≤ i⟩
noncomputable def Itr (lo : Int) (n : Nat) : It := ⟨fun i _ => i < n, fun i H x H' => H' = H ∧ x = .int (lo + i), fun i _ => n ≤ i⟩
theorem zcD {P : Program} {w : World} {K : PySem.W.Frag} {tg : Expr} (a it : Addr) : zej P w K tg (Itl K a) [it] it (fun i h => h.IsListIter it a i) where
  mem := by simp
  obj := fun i h st b hb => by
    have e : b = it := by simpa using hb
    subst e
    obtain ⟨o, e, c, d⟩ := st
    exact ⟨o, e, fun v z => by rw [d] at z; cases z⟩
  keep := fun i h h' st k => st.at fun o e => k it (by simp) o e
  item := by
    intro X hP hw hK hc i pins s σ H E I hf st hg
    subst hP hw hK
    obtain ⟨xs, x, hq, hx⟩ := hg
    obtain ⟨its, rv, p, hz⟩ := I.list hq
    obtain ⟨u, hu, ru⟩ := rv.get hx
    obtain ⟨f0, f1, f2, f3, f4, f5⟩ := hf it (by simp)
    refine wpAny_pyNext_list_item st p.isList (x := u) (by simpa using hu) fun h' st' sb => ?_
    have I1 : Inv X pins σ H { s with heap := h' } := I.turned (t' := s.toks) (fun b o hb e => (sb.2 b hb).trans e) f0 f1 f3 f4 f5
    obtain ⟨o, e, c, d⟩ := id st'
    exact ⟨u, rfl, zdS (s := { s with heap := h' }) e c d (by decide) ⟨x, H, I1, ru, ⟨rfl, fun ys hy => by rw [I.list_inj hy hq]; exact hx⟩, st', fun b hb => (hf b hb).1⟩⟩
  done := by
    intro X hP hw hK hc i pins s σ H E I hf st hg
    subst hP hw hK
    obtain ⟨xs, hq, hx⟩ := hg
    obtain ⟨its, rv, p, hz⟩ := I.list hq
    obtain ⟨f0, f1, f2, f3, f4, f5⟩ := hf it (by simp)
    have hl := rv.length
    exact wpAny_pyNext_list_end (I.ok.hd hc) st p.isList (by simp; omega) fun h' eb => ⟨rfl, I.turned (t' := s.toks) (fun b o hb e => eb b o hb e) f0 f1 f3 f4 f5⟩
  self := fun _ _ _ _ _ st h => wpAny_pyIter_listiter st h
theorem zbG {P : Program} {w : World} {K : PySem.W.Frag} {tg : Expr} (a it : Addr) : zej P w K tg (Itt K a) [it] it (fun i h => h.IsTupleIter it a i) where
  mem := by simp
  obj := fun i h st b hb => by
    have e : b = it := by simpa using hb
    subst e
    obtain ⟨o, e, c, d⟩ := st
    exact ⟨o, e, fun v z => by rw [d] at z; cases z⟩
  keep := fun i h h' st k => st.at fun o e => k it (by simp) o e
  item := by
    intro X hP hw hK hc i pins s σ H E I hf st hg
    subst hP hw hK
    obtain ⟨xs, x, hq, hx⟩ := hg
    obtain ⟨its, rv, p, hz⟩ := I.tuple hq
    obtain ⟨u, hu, ru⟩ := rv.get hx
    obtain ⟨f0, f1, f2, f3, f4, f5⟩ := hf it (by simp)
    refine wpAny_pyNext_tuple_item st (show s.heap.IsTuple a its.toArray from p) (x := u) (by simpa using hu) fun h' st' sb => ?_
    have I1 : Inv X pins σ H { s with heap := h' } := I.turned (t' := s.toks) (fun b o hb e => (sb.2 b hb).trans e) f0 f1 f3 f4 f5
    obtain ⟨o, e, c, d⟩ := id st'
    exact ⟨u, rfl, zdS (s := { s with heap := h' }) e c d (by decide) ⟨x, H, I1, ru, ⟨rfl, fun ys hy => by rw [I.tuple_inj hy hq]; exact hx⟩, st', fun b hb => (hf b hb).1⟩⟩
  done := by
    intro X hP hw hK hc i pins s σ H E I hf st hg
    subst hP hw hK
    obtain ⟨xs, hq, hx⟩ := hg
    obtain ⟨its, rv, p, hz⟩ := I.tuple hq
    obtain ⟨f0, f1, f2, f3, f4, f5⟩ := hf it (by simp)
    have hl := rv.length
    exact wpAny_pyNext_tuple_end (I.ok.hd hc) st (show s.heap.IsTuple a its.toArray from p) (by simp; omega) fun h' eb => ⟨rfl, I.turned (t' := s.toks) (fun b o hb e => eb b o hb e) f0 f1 f3 f4 f5⟩
  self := fun _ _ _ _ _ st h => wpAny_pyIter_tupleiter st h
theorem zbA {P : Program} {w : World} {K : PySem.W.Frag} {tg : Expr} (it : Addr) (lo : Int) (n : Nat) : zej P w K tg (Itr lo n) [it] it (fun i h => IsRangeIter h it (lo + (i : Nat) * 1) ((n : Int) - (i : Nat)) 1) where
  mem := by simp
  obj := fun i h st b hb => by
    have e : b = it := by simpa using hb
    subst e
    exact ⟨_, st, fun v z => by
      have z' : Data.fields _ = Data.cell v := z
      cases z'⟩
  keep := fun i h h' st k => k it (by simp) _ st
  item := by
    intro X hP hw hK hc i pins s σ H E I hf st hg
    subst hP hw hK
    obtain ⟨f0, f1, f2, f3, f4, f5⟩ := hf it (by simp)
    have W := Walks.range (prog := X.prog) (w := X.w) (I.ok.hd hc) it lo 1 n
    refine W.item i s _ _ hg st fun v h' tk hv st' kk => ?_
    obtain ⟨t, rfl⟩ := hv
    have I1 : Inv X pins σ H { s with heap := h', toks := tk } := I.turned (fun b o hb e => kk b o (by simpa using hb) e) f0 f1 f3 f4 f5
    refine ⟨_, rfl, zdS (s := { s with heap := h', toks := tk }) (n := "range_iterator") st' rfl rfl (by decide) ⟨.int (lo + i), H, I1, ⟨t, ?_⟩, ⟨rfl, rfl⟩, st', fun b hb => (hf b hb).1⟩⟩
    rw [Int.mul_one]
  done := by
    intro X hP hw hK hc i pins s σ H E I hf st hg
    subst hP hw hK
    obtain ⟨f0, f1, f2, f3, f4, f5⟩ := hf it (by simp)
    exact wpAny_pyNext_range_end (I.ok.hd hc) st (by have : n ≤ i := hg; omega) fun h' eb => ⟨rfl, I.turned (t' := s.toks) (fun b o hb e => eb b o hb e) f0 f1 f3 f4 f5⟩
  self := fun _ _ _ _ _ st h => wpAny_pyIter_rangeiter st h
end L2
namespace L2
open PySem PySem.Spec PyProof.Rows
section
variable {X : Cx} {tg : Expr}
theorem za0 {pins : List (Addr × Obj)} {σ : St} {H : Hp} {s : Shared} {R : It → Hp → Prop} {E : Value → Shared → Prop} {lo hi : Int} {t u v : Tok} {tk : Nat} (I : Inv X pins σ H s) (h1 : -(2 ^ 62) ≤ lo) (h2 : lo < 2 ^ 62) (h3 : -(2 ^ 62) ≤ hi) (h4 : hi < 2 ^ 62)
    (q : R (Itr lo (hi - lo).toNat) H) : wpAny (model X.prog X.w) X.A (pyIter (.ref s.heap.objs.size)) (PIE X pins σ tg R) E { s with heap := s.heap.push { cls := .type "range", data := .fields #[.int lo t, .int hi u, .int 1 v] }, toks := tk } := by
  refine wpAny_pyIter_range (IsRange.new ..) (small_one h1 h2 h3 h4) ?_
  have I1 : Inv X pins σ H { s with heap := s.heap.push { cls := .type "range", data := .fields #[.int lo t, .int hi u, .int 1 v] }, toks := tk } := I.kept fun b o e => Heap.get?_push_of_some _ e
  refine ⟨(s.heap.push { cls := .type "range", data := .fields #[.int lo t, .int hi u, .int 1 v] }).objs.size, [(s.heap.push { cls := .type "range", data := .fields #[.int lo t, .int hi u, .int 1 v] }).objs.size], _, _, H, rfl,
    I1.kept (t' := tk) fun b o e => Heap.get?_push_of_some _ e, zbA _ lo (hi - lo).toNat, ?_, fun b hb => ?_, q⟩
  · have e1 : lo + ((0 : Nat) : Int) * 1 = lo := by simp
    have e2 : (((hi - lo).toNat : Nat) : Int) - ((0 : Nat) : Int) = Builtin.Range.rangeSize lo hi 1 := by rw [rangeSize_one]; split <;> omega
    show IsRangeIter _ _ (lo + ((0 : Nat) : Int) * 1) ((((hi - lo).toNat : Nat) : Int) - ((0 : Nat) : Int)) 1
    rw [e1, e2]
    exact Heap.get?_push_size _ rfl
  · have e : b = (s.heap.push { cls := .type "range", data := .fields #[.int lo t, .int hi u, .int 1 v] }).objs.size := by simpa using hb
    subst e
    exact I1.fpOk (Nat.le_refl _) (I1.hok.fresh (Nat.le_refl _))
noncomputable def zhR (ta : TA) : TI := fun σ H R => ta σ H fun vs H1 => ∃ j : Int, vs = [.int j] ∧ -(2 ^ 62) ≤ j ∧ j < 2 ^ 62 ∧ R (Itr 0 j.toNat) H1
noncomputable def zh1 (ta : TA) : TI := fun σ H R => ta σ H fun vs H1 => ∃ i j : Int, vs = [.int i, .int j] ∧ (-(2 ^ 62) ≤ i ∧ i < 2 ^ 62 ∧ -(2 ^ 62) ≤ j ∧ j < 2 ^ 62) ∧ R (Itr i (j - i).toNat) H1
theorem Vk {a : Expr} {ta : TA} {p pos : Pos} (hg : Gl X "range") (hm : X.mg "range" = none) (ha : PA X [a] ta) (hs : starEach [a] X.env = [(false, eval a X.env)] := by rfl) : PI X tg (.Call (.Name "range" p) [a] [] pos) (zhR ta) := by
  intro pins s σ H R I h
  refine Call_ (YA I hg hm boot_range (PyProof.Rows.callWith_type1 (thn (ha pos pins s σ H _ I h) fun us s1 hh9 => ?_) hs rfl))
  obtain ⟨vs, H1, I1, r1, q1⟩ := hh9
  obtain ⟨j, e, q1, q2, q⟩ := q1
  subst e
  cases r1 with
  | cons r rr =>
    cases rr
    obtain ⟨t, rfl⟩ := r
    exact call_range_1 (za0 I1 (by omega) (by omega) q1 q2 (by simpa using q))
theorem zcA {a b : Expr} {ta : TA} {p pos : Pos} (hg : Gl X "range") (hm : X.mg "range" = none) (ha : PA X [a, b] ta) (hs : starEach [a, b] X.env = [(false, eval a X.env), (false, eval b X.env)] := by rfl) (hs2 : starEach [b] X.env = [(false, eval b X.env)] := by rfl) :
    PI X tg (.Call (.Name "range" p) [a, b] [] pos) (zh1 ta) := by
  intro pins s σ H R I h
  refine Call_ (YA I hg hm boot_range (PyProof.Rows.callWith_type1 (thn (ha pos pins s σ H _ I h) fun us s1 hh9 => ?_) (by rw [hs, hs2]) (by rw [hs2]; rfl)))
  obtain ⟨vs, H1, I1, r1, q1⟩ := hh9
  obtain ⟨i, j, e, ⟨q1, q2, q3, q4⟩, q⟩ := q1
  subst e
  cases r1 with
  | cons r rr =>
    cases rr with
    | cons r' rr =>
      cases rr
      obtain ⟨t, rfl⟩ := r
      obtain ⟨t', rfl⟩ := r'
      exact call_range_2 (za0 I1 q1 q2 q3 q4 q)
noncomputable def tFor (wi : TI) (g : TG) (tb : TS) : TS := fun D σ H => wi σ H fun J H1 => ∃ W : Nat → Nat → St → Hp → Prop, (∃ m, W 0 m σ H1) ∧ ∀ i m σ H, W i m σ H →
  (J.stop i H ∧ D.nx σ H) ∨ (J.go i H ∧ ∃ N : St → Hp → Prop, (∀ σ' H', N σ' H' → ∃ m', m' < m ∧ W (i + 1) m' σ' H') ∧ ∀ x H', J.yld i H x H' → g x σ H' fun σ2 H2 => tb { D with nx := N, ct := N, bk := D.nx } σ2 H2)
noncomputable def Wg (fp : List Addr) (h : Heap) : List (Addr × Obj) := fp.filterMap fun b => (h.get? b).map fun o => (b, o)
theorem vd {fp : List Addr} {h : Heap} {b : Addr} {o : Obj} (hb : b ∈ fp) (e : h.get? b = some o) : (b, o) ∈ Wg fp h := List.mem_filterMap.mpr ⟨b, hb, by rw [e]; rfl⟩
theorem zcl {fp : List Addr} {h : Heap} {p : Addr × Obj} (hp : p ∈ Wg fp h) : p.1 ∈ fp ∧ h.get? p.1 = some p.2 := by
  obtain ⟨b, hb, e⟩ := List.mem_filterMap.mp hp
  cases q : h.get? b with
  | none => rw [q] at e; cases e
  | some o =>
    rw [q] at e
    have e' : (b, o) = p := Option.some.inj e
    subst e'
    exact ⟨hb, q⟩
theorem Inv.pinned {pins : List (Addr × Obj)} {σ : St} {H : Hp} {s : Shared} {fp : List Addr} (I : Inv X pins σ H s) (hf : ∀ b ∈ fp, zaD X pins H b) (ho : ∀ b ∈ fp, ∃ o, s.heap.get? b = some o ∧ ∀ v, o.data ≠ .cell v) : Inv X (pins ++ Wg fp s.heap) σ H s :=
  I.pins_of fun p hp => (List.mem_append.mp hp).elim (fun z => I.pin p (List.mem_append_right _ z)) fun z => by
    obtain ⟨hb, e⟩ := zcl z
    obtain ⟨f0, f1, f2, _⟩ := hf p.1 hb
    obtain ⟨o, e', d⟩ := ho p.1 hb
    rw [e] at e'; cases e'
    exact ⟨e, f0, f1, f2, d⟩
theorem Inv.unpinned {pins pl : List (Addr × Obj)} {σ : St} {H : Hp} {s : Shared} (I : Inv X (pins ++ pl) σ H s) : Inv X pins σ H s := I.pins_of fun p hp => I.pin p (List.mem_append_right _ (List.mem_append_left _ hp))
theorem ze0 {iter : Expr} {body : List Stmt} {wi : TI} {g : TG} {tb : TS} {pos : Pos} (hp : PassesOwn (model X.prog X.w) X.A X.env X.xe) (hc : X.calm = true) (hi : PI X tg iter wi) (hg : PG X tg g) (hb : PSs X body tb)
    (hs : ∀ x, foldedSetIterable iter X.env x = pure x := by intro _; rfl) : PS X (.For tg iter body [] pos) (tFor wi g tb) := by
  intro pins s σ H D I h
  refine wpAny_For (thn (hi pins s σ H _ I h) fun v s1 h1 => thn h1 fun itv s2 h2 => ?_) hs
  obtain ⟨it, fp, tn, J, H2, e, I2, T, st2, f2, W, ⟨m0, w0⟩, turn⟩ := h2
  subst e
  -- what stays true of the iterator's objects through the loop
  have stat : ∀ {H' : Hp}, (∀ b ∈ fp, H' b = none) → ∀ b ∈ fp, zaD X pins H' b := fun hn b hb => ⟨hn b hb, (f2 b hb).2⟩
  refine codeAny_forLoop_any (fun n s' => ∃ i σ' H', Inv X pins σ' H' s' ∧ tn i s'.heap ∧ (∀ b ∈ fp, H' b = none) ∧ W i n σ' H') ?_ m0 ⟨0, σ, H2, I2, st2, fun b hb => (f2 b hb).1, w0⟩
  rintro n s3 ⟨i, σ3, H3, I3, st3, fr3, w3⟩
  rcases turn i n σ3 H3 w3 with ⟨stop, qn⟩ | ⟨go, N, hN, step⟩
  · refine wpAny_passesOwn hp (thn (T.done X rfl rfl rfl hc i pins s3 σ3 H3 X.xe I3 (stat fr3) st3 stop) fun r s4 hh9 => ?_)
    obtain ⟨hr, I4⟩ := hh9
    subst hr
    exact wpAny_execs_nil ⟨σ3, H3, I4, qn⟩
  · refine wpAny_passesOwn hp (thn (T.item X rfl rfl rfl hc i pins s3 σ3 H3 X.xe I3 (stat fr3) st3 go) fun r s4 hh9 => ?_)
    obtain ⟨u, hr, h4⟩ := hh9
    subst hr
    refine wpAny_passesOwn hp (thn h4 fun _ s5 hh9 => ?_)
    obtain ⟨x, H5, I5, r5, y5, st5, fr5⟩ := hh9
    have I5' := I5.pinned (stat fr5) (T.obj _ _ st5)
    refine wpAny_passesOwn hp (thn (hg _ s5 σ3 H5 x u _ I5' r5 (step x H5 y5)) fun _ s6 hh9 => ?_)
    obtain ⟨σ6, H6, I6, q6⟩ := hh9
    refine wpAny_passesOwn hp (thn (hb _ s6 σ6 H6 _ I6 q6) fun f s7 q7 => ?_)
    have again : ∀ {σ7 : St} {H7 : Hp}, Inv X (pins ++ Wg fp s5.heap) σ7 H7 s7 → N σ7 H7 → ∃ m, m < n ∧ ∃ i σ' H', Inv X pins σ' H' s7 ∧ tn i s7.heap ∧ (∀ b ∈ fp, H' b = none) ∧ W i m σ' H' := fun {σ7 H7} I7 n7 => by
      obtain ⟨m', hm, w7⟩ := hN σ7 H7 n7
      refine ⟨m', hm, i + 1, σ7, H7, I7.unpinned, T.keep _ _ _ st5 fun b hb o e => (I7.pin (b, o) (List.mem_append_right _ (List.mem_append_right _ (vd hb e)))).1, fun b hb => ?_, w7⟩
      obtain ⟨o, e, d⟩ := T.obj _ _ st5 b hb
      exact (I7.pin (b, o) (List.mem_append_right _ (List.mem_append_right _ (vd hb e)))).2.1
    cases f with
    | next => obtain ⟨σ7, H7, I7, n7⟩ := q7; exact again I7 n7
    | cont => obtain ⟨σ7, H7, I7, n7⟩ := q7; exact again I7 n7
    | brk => obtain ⟨σ7, H7, I7, q7⟩ := q7; exact ⟨σ7, H7, I7.unpinned, q7⟩
    | ret v => obtain ⟨x7, σ7, H7, I7, r7, q7⟩ := q7; exact ⟨x7, σ7, H7, I7.unpinned, r7, q7⟩
end
end L2
namespace L2
open PySem PySem.Spec PyProof.Rows
noncomputable abbrev R2 := V → V → Hp → VK → Prop
noncomputable def OpR (X : Cx) (f : Value → Value → Sem Value) (r : R2) : Prop :=
  ∀ (pins : List (Addr × Obj)) (s : Shared) (σ : St) (H : Hp) (x y : V) (v u : Value) (Q : VK), Inv X pins σ H s → yT x v → yT y u → r x y H Q →
    wpAny (model X.prog X.w) X.A (f v u) (EP X pins σ Q) X.xe s
noncomputable def UnR (X : Cx) (f : Value → Sem Value) (r : V → Hp → VK → Prop) : Prop :=
  ∀ (pins : List (Addr × Obj)) (s : Shared) (σ : St) (H : Hp) (x : V) (v : Value) (Q : VK), Inv X pins σ H s → yT x v → r x H Q →
    wpAny (model X.prog X.w) X.A (f v) (EP X pins σ Q) X.xe s
noncomputable def YS (X : Cx) (f : Value) (r : List V → Hp → VK → Prop) : Prop :=
  ∀ (pins : List (Addr × Obj)) (s : Shared) (σ : St) (H : Hp) (xs : List V) (us : List Value) (Q : VK), Inv X pins σ H s → yC xs us → r xs H Q →
    wpAny (model X.prog X.w) X.A (call f us) (EP X pins σ Q) X.xe s
noncomputable def tOp (r : R2) (ta tb : TE) : TE := fun σ H Q => ta σ H fun x H1 => tb σ H1 fun y H2 => r x y H2 Q
noncomputable def tUn (r : V → Hp → VK → Prop) (ta : TE) : TE := fun σ H Q => ta σ H fun x H1 => r x H1 Q
noncomputable def rI (C : Int → Int → Prop) (g : Int → Int → V) : R2 := fun x y H Q => ∃ i j, x = .int i ∧ y = .int j ∧ C i j ∧ Q (g i j) H
noncomputable def rI0 (g : Int → Int → V) : R2 := fun x y H Q => ∃ i j, x = .int i ∧ y = .int j ∧ Q (g i j) H
noncomputable def rU (g : Int → V) : V → Hp → VK → Prop := fun x H Q => ∃ i, x = .int i ∧ Q (g i) H
section
variable {X : Cx} {a b c : Expr} {ta tb tc : TE} {pos : Pos}
theorem ziv (ha : PE X a ta) (hb : PE X b tb) {pins : List (Addr × Obj)} {s : Shared} {σ : St} {H : Hp} {R : V → V → Hp → Prop} (I : Inv X pins σ H s)
    (h : ta σ H fun x H1 => tb σ H1 fun y H2 => R x y H2) {Q : Value → Shared → Prop} {f : Value → Value → Sem Value}
    (hf : ∀ v u s2 x y H2, Inv X pins σ H2 s2 → yT x v → yT y u → R x y H2 → wpAny (model X.prog X.w) X.A (f v u) Q X.xe s2) :
    wpAny (model X.prog X.w) X.A (eval a X.env) (fun v s₁ => wpAny (model X.prog X.w) X.A (eval b X.env) (fun u s₂ => wpAny (model X.prog X.w) X.A (f v u) Q X.xe s₂) X.xe s₁) X.xe s := by
  refine thn (ha pins s σ H _ I h) fun v s1 hh9 => ?_
  obtain ⟨x, H1, I1, r1, q1⟩ := hh9
  refine thn (hb pins s1 σ H1 _ I1 q1) fun u s2 hh9 => ?_
  obtain ⟨y, H2, I2, r2, q2⟩ := hh9
  exact hf v u s2 x y H2 I2 r1 r2 q2
theorem zed {op : Operator} {r : R2} (ho : OpR X (binaryOp op) r) (ha : PE X a ta) (hb : PE X b tb) : PE X (.BinOp a op b pos) (tOp r ta tb) := by
  intro pins s σ H Q I h
  exact wpAny_BinOp (ziv ha hb I h fun v u s2 x y H2 I2 rx ry q => ho pins s2 σ H2 x y v u Q I2 rx ry q)
theorem zgs {op : UnaryOp} {r : V → Hp → VK → Prop} (ho : UnR X (unaryOp op) r) (ha : PE X a ta) : PE X (.UnaryOp op a pos) (tUn r ta) := by
  intro pins s σ H Q I h
  exact UnaryOp_ (thn (ha pins s σ H _ I h) fun v s1 ⟨x, H1, I1, r1, q1⟩ => ho pins s1 σ H1 x v Q I1 r1 q1)
theorem opI {f : Value → Value → Sem Value} {C : Int → Int → Prop} {g : Int → Int → Int}
    (rule : ∀ (i j : Int) (t u : Tok) (s : Shared) (Q : Value → Shared → Prop) (E : Value → Shared → Prop), C i j → Q (.int (g i j) s.toks) { s with toks := s.toks + 1 } → wpAny (model X.prog X.w) X.A (f (.int i t) (.int j u)) Q E s) :
    OpR X f (rI C fun i j => .int (g i j)) := by
  intro pins s σ H x y v u Q I rx ry h
  obtain ⟨i, j, rfl, rfl, hc, q⟩ := h
  obtain ⟨t, rfl⟩ := rx
  obtain ⟨t', rfl⟩ := ry
  exact rule i j t t' s _ _ hc ⟨.int (g i j), H, I.tok _, ⟨_, rfl⟩, q⟩
theorem zib {f : Value → Value → Sem Value} {g : Int → Int → Int}
    (rule : ∀ (i j : Int) (t u : Tok) (s : Shared) (Q : Value → Shared → Prop) (E : Value → Shared → Prop), Q (.int (g i j) s.toks) { s with toks := s.toks + 1 } → wpAny (model X.prog X.w) X.A (f (.int i t) (.int j u)) Q E s) :
    OpR X f (rI0 fun i j => .int (g i j)) := by
  intro pins s σ H x y v u Q I rx ry h
  obtain ⟨i, j, rfl, rfl, q⟩ := h
  obtain ⟨t, rfl⟩ := rx
  obtain ⟨t', rfl⟩ := ry
  exact rule i j t t' s _ _ ⟨.int (g i j), H, I.tok _, ⟨_, rfl⟩, q⟩
theorem zhJ {f : Value → Value → Sem Value} {g : Int → Int → Bool}
    (rule : ∀ (i j : Int) (t u : Tok) (s : Shared) (Q : Value → Shared → Prop) (E : Value → Shared → Prop), Q (.bool (g i j)) s → wpAny (model X.prog X.w) X.A (f (.int i t) (.int j u)) Q E s) :
    OpR X f (rI0 fun i j => .bl (g i j)) := by
  intro pins s σ H x y v u Q I rx ry h
  obtain ⟨i, j, rfl, rfl, q⟩ := h
  obtain ⟨t, rfl⟩ := rx
  obtain ⟨t', rfl⟩ := ry
  exact rule i j t t' s _ _ ⟨.bl (g i j), H, I, rfl, q⟩
noncomputable def CPow (i j : Int) : Prop := 0 ≤ j ∧ j ≤ 1000000 ∧ i.natAbs < 2 ^ 64
noncomputable def zhX (i j : Int) : Prop := (-(2 ^ 64) < i ∧ i < 2 ^ 64) ∨ (-(2 ^ 64) < j ∧ j < 2 ^ 64)
theorem zhX.ok {i j : Int} (h : zhX i j) : IntMulOk i j := by
  rcases h with ⟨h1, h2⟩ | ⟨h1, h2⟩
  · exact .of_left (intBits_le_64 h1 h2)
  · exact .of_right (intBits_le_64 h1 h2)
theorem zhw : OpR X (binaryOp .Add) (rI0 fun i j => .int (i + j)) := zib fun _ _ _ _ _ _ _ q => add_int q
theorem zgG : OpR X (binaryOp .Sub) (rI0 fun i j => .int (i - j)) := zib fun _ _ _ _ _ _ _ q => sub_int q
theorem zgk : OpR X (binaryOp .Mult) (rI zhX fun i j => .int (i * j)) := opI fun _ _ _ _ _ _ _ hc q => mul_int q hc.ok
theorem zhy : OpR X (binaryOp .Mod) (rI (fun _ j => 0 < j) fun i j => .int (i % j)) := opI fun i j _ _ _ _ _ hc q => by
  have h1 : (0 : Int) < j := hc
  exact mod_int' (by omega) (by rw [Int.fmod_eq_emod_of_nonneg i (by omega)]; exact q)
theorem zgB : OpR X (binaryOp .Pow) (rI CPow fun i j => .int (i ^ j.toNat)) := opI fun _ _ _ _ _ _ _ hc q => pow_int_small hc.1 hc.2.1 hc.2.2 q
theorem zg1 : OpR X (binaryOp .BitXor) (rI0 fun i j => .int (Builtin.bitXor i j)) := zib fun _ _ _ _ _ _ _ q => xor_int q
theorem unI {f : Value → Sem Value} {g : Int → Int}
    (rule : ∀ (i : Int) (t : Tok) (s : Shared) (Q : Value → Shared → Prop) (E : Value → Shared → Prop), Q (.int (g i) s.toks) { s with toks := s.toks + 1 } → wpAny (model X.prog X.w) X.A (f (.int i t)) Q E s) :
    UnR X f (rU fun i => .int (g i)) := by
  intro pins s σ H x v Q I rx h
  obtain ⟨i, rfl, q⟩ := h
  obtain ⟨t, rfl⟩ := rx
  exact rule i t s _ _ ⟨.int (g i), H, I.tok _, ⟨_, rfl⟩, q⟩
theorem zeG : UnR X (unaryOp .USub) (rU fun i => .int (-i)) := unI fun _ _ _ _ _ q => neg_int q
end
noncomputable def scal : V → V → Bool
  | .non, .non => true | .non, .int _ => true | .int _, .non => true | .non, .bl _ => true | .bl _, .non => true | .non, .str _ => true | .str _, .non => true
  | .int _, .int _ => true | .bl _, .bl _ => true | .str _, .str _ => true | .byt _, .byt _ => true
  | .int _, .str _ => true | .str _, .int _ => true | .bl _, .str _ => true | .str _, .bl _ => true
  | _, _ => false
noncomputable def rEq : R2 := fun x y H Q => scal x y = true ∧ Q (.bl (decide (x = y))) H
noncomputable def rNe : R2 := fun x y H Q => scal x y = true ∧ Q (.bl (!decide (x = y))) H
theorem zaH {i j : Int} : decide (V.int i = V.int j) = (i == j) := by
  rw [Bool.eq_iff_iff]
  simp
theorem zeJ {i j : Bool} : decide (V.bl i = V.bl j) = (i == j) := by
  rw [Bool.eq_iff_iff]
  simp
theorem zbR {i j : Str} : decide (V.str i = V.str j) = (i == j) := by
  rw [Bool.eq_iff_iff]
  simp
theorem zc9 {i j : Array UInt8} : decide (V.byt i = V.byt j) = (i.toList == j.toList) := by
  rw [Bool.eq_iff_iff]
  cases i
  cases j
  simp
section
variable {X : Cx} {a b c : Expr} {ta tb tc : TE} {pos : Pos}
theorem yd {pins : List (Addr × Obj)} {σ : St} {H : Hp} {s : Shared} {Q : VK} {k k' : Bool} (I : Inv X pins σ H s) (q : Q (.bl k) H) (e : k = k') : EP X pins σ Q (.bool k') s := by
  subst e
  exact ⟨.bl k, H, I, rfl, q⟩
theorem ziF : OpR X (compareOp .Eq) rEq := by
  intro pins s σ H x y v u Q I rx ry h
  obtain ⟨hs, q⟩ := h
  cases x with
  | non =>
    cases rx
    cases y with
    | non => cases ry; exact PySem.EqNone.eq_none_none (yd I q (by simp))
    | bl j => cases ry; exact PySem.EqNone.eq_none_bool (yd I q (by simp))
    | int j => obtain ⟨t', rfl⟩ := ry; exact PySem.EqNone.eq_none_int (yd I q (by simp))
    | str j => obtain ⟨t', rfl⟩ := ry; exact PySem.EqNone.eq_none_str (yd I q (by simp))
    | _ => exact absurd (show false = true from hs) Bool.false_ne_true
  | bl i =>
    cases rx
    cases y with
    | non => cases ry; exact PySem.EqNone.eq_bool_none (yd I q (by simp))
    | bl j => cases ry; exact eq_bool (yd I q zeJ)
    | str j => obtain ⟨t', rfl⟩ := ry; exact PySem.EqMixed.eq_bool_str (yd I q (by simp))
    | _ => exact absurd (show false = true from hs) Bool.false_ne_true
  | int i =>
    obtain ⟨t, rfl⟩ := rx
    cases y with
    | non => cases ry; exact PySem.EqNone.eq_int_none (yd I q (by simp))
    | int j => obtain ⟨t', rfl⟩ := ry; exact eq_int (yd I q zaH)
    | str j => obtain ⟨t', rfl⟩ := ry; exact PySem.EqMixed.eq_int_str (yd I q (by simp))
    | _ => exact absurd (show false = true from hs) Bool.false_ne_true
  | str i =>
    obtain ⟨t, rfl⟩ := rx
    cases y with
    | non => cases ry; exact PySem.EqNone.eq_str_none (yd I q (by simp))
    | bl j => cases ry; exact PySem.EqMixed.eq_str_bool (yd I q (by simp))
    | int j => obtain ⟨t', rfl⟩ := ry; exact PySem.EqMixed.eq_str_int (yd I q (by simp))
    | str j => obtain ⟨t', rfl⟩ := ry; exact eq_str (yd I q zbR)
    | _ => exact absurd (show false = true from hs) Bool.false_ne_true
  | byt i =>
    obtain ⟨t, rfl⟩ := rx
    cases y with
    | byt j => obtain ⟨t', rfl⟩ := ry; exact PySem.W.eq_bytes (yd I q zc9)
    | _ => exact absurd (show false = true from hs) Bool.false_ne_true
  | _ => cases y <;> exact absurd (show false = true from hs) Bool.false_ne_true
theorem Z1 : OpR X (compareOp .NotEq) rNe := by
  intro pins s σ H x y v u Q I rx ry h
  obtain ⟨hs, q⟩ := h
  cases x with
  | non =>
    cases rx
    cases y with
    | non => cases ry; exact PySem.EqNone.ne_none_none (yd I q (by simp))
    | bl j => cases ry; exact PySem.EqNone.ne_none_bool (yd I q (by simp))
    | int j => obtain ⟨t', rfl⟩ := ry; exact PySem.EqNone.ne_none_int (yd I q (by simp))
    | str j => obtain ⟨t', rfl⟩ := ry; exact PySem.EqNone.ne_none_str (yd I q (by simp))
    | _ => exact absurd (show false = true from hs) Bool.false_ne_true
  | bl i =>
    cases rx
    cases y with
    | non => cases ry; exact PySem.EqNone.ne_bool_none (yd I q (by simp))
    | bl j => cases ry; exact ne_bool (yd I q (congrArg not zeJ))
    | str j => obtain ⟨t', rfl⟩ := ry; exact PySem.EqMixed.ne_bool_str (yd I q (by simp))
    | _ => exact absurd (show false = true from hs) Bool.false_ne_true
  | int i =>
    obtain ⟨t, rfl⟩ := rx
    cases y with
    | non => cases ry; exact PySem.EqNone.ne_int_none (yd I q (by simp))
    | int j => obtain ⟨t', rfl⟩ := ry; exact ne_int (yd I q (congrArg not zaH))
    | str j => obtain ⟨t', rfl⟩ := ry; exact PySem.EqMixed.ne_int_str (yd I q (by simp))
    | _ => exact absurd (show false = true from hs) Bool.false_ne_true
  | str i =>
    obtain ⟨t, rfl⟩ := rx
    cases y with
    | non => cases ry; exact PySem.EqNone.ne_str_none (yd I q (by simp))
    | bl j => cases ry; exact PySem.EqMixed.ne_str_bool (yd I q (by simp))
    | int j => obtain ⟨t', rfl⟩ := ry; exact PySem.EqMixed.ne_str_int (yd I q (by simp))
    | str j => obtain ⟨t', rfl⟩ := ry; exact ne_str (yd I q (congrArg not zbR))
    | _ => exact absurd (show false = true from hs) Bool.false_ne_true
  | byt i =>
    obtain ⟨t, rfl⟩ := rx
    cases y with
    | byt j => obtain ⟨t', rfl⟩ := ry; exact PySem.W.ne_bytes (yd I q (congrArg not zc9))
    | _ => exact absurd (show false = true from hs) Bool.false_ne_true
  | _ => cases y <;> exact absurd (show false = true from hs) Bool.false_ne_true
theorem zcu : OpR X (compareOp .Lt) (rI0 fun i j => .bl (decide (i < j))) := zhJ fun _ _ _ _ _ _ _ q => lt_int q
theorem zbO : OpR X (compareOp .LtE) (rI0 fun i j => .bl (decide (i ≤ j))) := zhJ fun _ _ _ _ _ _ _ q => le_int q
theorem Z5 : OpR X (compareOp .Gt) (rI0 fun i j => .bl (decide (j < i))) := zhJ fun _ _ _ _ _ _ _ q => gt_int q
theorem zfK : OpR X (compareOp .GtE) (rI0 fun i j => .bl (decide (j ≤ i))) := zhJ fun _ _ _ _ _ _ _ q => ge_int q
theorem zfR : OpR X (compareOp .IsNot) (fun x y H Q => y = .non ∧ Q (.bl (!decide (x = .non))) H) := by
  intro pins s σ H x y v u Q I rx ry h
  obtain ⟨rfl, q⟩ := h
  cases ry
  refine isnot_none_gen (yd I q ?_)
  cases x <;> first
    | (cases rx; rfl)
    | (obtain ⟨t, rfl⟩ := rx; rfl)
theorem OpR.or {f : Value → Value → Sem Value} {r r' : R2} (h : OpR X f r) (h' : OpR X f r') : OpR X f (fun x y H Q => r x y H Q ∨ r' x y H Q) := by
  intro pins s σ H x y v u Q I rx ry q
  rcases q with q | q
  · exact h pins s σ H x y v u Q I rx ry q
  · exact h' pins s σ H x y v u Q I rx ry q
theorem zu (b : Expr) {op : CmpOp} (h : op ≠ .In := by decide) (h2 : op ≠ .NotIn := by decide) : behindInMarks op b = false := by
  have e1 : (op == CmpOp.In) = false := by cases op <;> first | rfl | exact absurd rfl h
  have e2 : (op == CmpOp.NotIn) = false := by cases op <;> first | rfl | exact absurd rfl h2
  cases b <;> simp [behindInMarks, e1, e2]
theorem zdf {op : CmpOp} {r : R2} (ho : OpR X (compareOp op) r) (ha : PE X a ta) (hb : PE X b tb) (hm : behindInMarks op b = false) : PE X (.Compare a [op] [b] pos) (tOp r ta tb) := by
  intro pins s σ H Q I h
  exact wpAny_Compare1 (ziv ha hb I h fun v u s2 x y H2 I2 rx ry q => ho pins s2 σ H2 x y v u Q I2 rx ry q) hm
noncomputable def zfr (t : TE) : TT := fun σ H Q => t σ H fun x H' => ∃ k, x = .bl k ∧ Q k H'
theorem zbT {op : CmpOp} {r : R2} (ho : OpR X (compareOp op) r) (ha : PE X a ta) (hb : PE X b tb) (hm : behindInMarks op b = false) : PT X (.Compare a [op] [b] pos) (zfr (tOp r ta tb)) := by
  intro pins s σ H Q I h
  refine wpAny_isTrue_Compare1 (thn (ha pins s σ H _ I h) fun v s1 ⟨x, H1, I1, r1, q1⟩ => thn (hb pins s1 σ H1 _ I1 q1) fun u s2 ⟨y, H2, I2, r2, q2⟩ =>
    thn (ho pins s2 σ H2 x y v u _ I2 r1 r2 q2) fun c s3 ⟨z, H3, I3, r3, k, e, q3⟩ => ?_) hm
  subst e
  cases r3
  exact wpAny_truthy_bool ⟨H3, I3, q3⟩
noncomputable def zcW (r r' : R2) (ta tb tc : TE) : TE := fun σ H Q => ta σ H fun x H1 => tb σ H1 fun y H2 => r x y H2 fun z H3 => ∃ k, z = .bl k ∧
  (if k = true then tc σ H3 fun w' H4 => r' y w' H4 Q else Q (.bl false) H3)
theorem zep {op op' : CmpOp} {r r' : R2} (ho : OpR X (compareOp op) r) (ho' : OpR X (compareOp op') r') (ha : PE X a ta) (hb : PE X b tb) (hc : PE X c tc)
    (hm : lastMarks [op, op'] [b, c] = false := by with_unfolding_all rfl) : PE X (.Compare a [op, op'] [b, c] pos) (zcW r r' ta tb tc) := by
  intro pins s σ H Q I h
  refine Compare_chain (thn (ha pins s σ H _ I h) fun v s1 ⟨x, H1, I1, r1, q1⟩ => chain_link (thn (hb pins s1 σ H1 _ I1 q1) fun u s2 ⟨y, H2, I2, r2, q2⟩ =>
    thn (ho pins s2 σ H2 x y v u _ I2 r1 r2 q2) fun d s3 ⟨z, H3, I3, r3, k, e, q3⟩ => ?_)) hm
  subst e
  cases r3
  refine wpAny_truthy_bool ?_
  cases k with
  | false => exact ite_ff ⟨.bl false, H3, I3, rfl, q3⟩
  | true => exact ite_tt (chain_last (thn (hc pins s3 σ H3 _ I3 q3) fun w' s4 ⟨z', H4, I4, r4, q4⟩ => ho' pins s4 σ H4 y z' u w' Q I4 r2 r4 q4))
theorem XC : (sizeLine : Nat) < 2 ^ 63 := by rw [sizeLine_eq]; decide
theorem zbq : OpR X (binaryOp .Add) (fun x y H Q => ∃ i j, x = .str i ∧ y = .str j ∧ i.length + j.length ≤ sizeLine ∧ Q (.str (i ++ j)) H) := by
  intro pins s σ H x y v u Q I rx ry h
  obtain ⟨i, j, rfl, rfl, hz, q⟩ := h
  obtain ⟨t, rfl⟩ := rx
  obtain ⟨t', rfl⟩ := ry
  exact add_str (fun t' tk => ⟨.str (i ++ j), H, I.tok _, ⟨_, rfl⟩, q⟩) hz
theorem VL {x : V} {us : List Value} (r : yC [x] us) : ∃ u, us = [u] ∧ yT x u := by
  cases r with
  | cons r1 r2 => cases r2; exact ⟨_, rfl, r1⟩
theorem zdg {x y : V} {us : List Value} (r : yC [x, y] us) : ∃ u w', us = [u, w'] ∧ yT x u ∧ yT y w' := by
  cases r with
  | cons r1 r2 =>
    cases r2 with
    | cons r3 r4 => cases r4; exact ⟨_, _, rfl, r1, r3⟩
theorem zcx (hc : X.calm = true) : YS X (.builtin "max") (fun xs H Q => ∃ i j, xs = [.int i, .int j] ∧ Q (.int (if j > i then j else i)) H) := by
  intro pins s σ H xs us Q I r h
  obtain ⟨i, j, rfl, q⟩ := h
  obtain ⟨u, w', rfl, ⟨t, rfl⟩, ⟨t', rfl⟩⟩ := zdg r
  refine max_two_ints (I.ok.hd hc) fun h' tk k => ⟨_, H, I.kept k, ?_, q⟩
  by_cases hj : j > i
  · rw [if_pos hj, if_pos hj]; exact ⟨_, rfl⟩
  · rw [if_neg hj, if_neg hj]; exact ⟨_, rfl⟩
theorem VM (hc : X.calm = true) : YS X (.builtin "min") (fun xs H Q => ∃ i j, xs = [.int i, .int j] ∧ Q (.int (if j < i then j else i)) H) := by
  intro pins s σ H xs us Q I r h
  obtain ⟨i, j, rfl, q⟩ := h
  obtain ⟨u, w', rfl, ⟨t, rfl⟩, ⟨t', rfl⟩⟩ := zdg r
  refine min_two_ints (I.ok.hd hc) fun h' tk k => ⟨_, H, I.kept k, ?_, q⟩
  by_cases hj : j < i
  · rw [if_pos hj, if_pos hj]; exact ⟨_, rfl⟩
  · rw [if_neg hj, if_neg hj]; exact ⟨_, rfl⟩
theorem Xu : YS X (.type "int") (fun xs H Q => (∃ i, xs = [.int i] ∧ Q (.int i) H) ∨ ∃ k, xs = [.bl k] ∧ Q (.int (if k then 1 else 0)) H) := by
  intro pins s σ H xs us Q I r h
  rcases h with ⟨i, rfl, q⟩ | ⟨k, rfl, q⟩
  · obtain ⟨u, rfl, t, rfl⟩ := VL r
    exact call_int_int ⟨.int i, H, I, ⟨_, rfl⟩, q⟩
  · obtain ⟨u, rfl, r1⟩ := VL r
    cases r1
    exact call_int_bool ⟨.int (if k then 1 else 0), H, I.tok _, ⟨_, rfl⟩, q⟩
end
end L2
namespace L2
open PySem PySem.Spec PyProof.Rows
set_option genInjectivity false in
set_option genSizeOf false in
set_option genCtorIdx false in
structure ziD (h : Heap) (x dx C : Addr) (mA : Str → Option Value) : Prop where
  obj : h.get? x = some (PySem.W.instObj C dx)
  ns : h.Ns1 dx mA
  ne : dx ≠ x
theorem zdh {h : Heap} {dx : Addr} {mA : Str → Option Value} (n : h.Ns1 dx mA) : ∃ od, h.get? dx = some od ∧ ∀ name, PySem.W.lookIn name od = some (mA name) := by
  obtain ⟨o, es, ep, ho, hd, hk, _, hm⟩ := n
  refine ⟨o, ho, fun name => ?_⟩
  have e := hm name
  unfold nsFind findBy at e
  rw [← Array.find?_toList] at e
  unfold PySem.W.lookIn
  rw [hd]
  dsimp only
  split
  · rename_i y q
    rw [q] at e
    exact congrArg some e
  · rename_i q
    rw [q] at e
    have a : es.toList.any (·.refKey) = false := by
      rw [List.any_eq_false]
      intro y hy
      obtain ⟨z, t, hkey⟩ := hk y (Array.mem_toList_iff.mp hy)
      simp [DictEntry.refKey, hkey]
    have a' : ¬ es.toList.any (·.refKey) = true := by rw [a]; exact Bool.false_ne_true
    rw [if_neg a']
    exact congrArg some e
theorem ziD.look {h : Heap} {x dx C : Addr} {mA : Str → Option Value} (I : ziD h x dx C mA) : ∃ od, PySem.W.InstAt h x (PySem.W.instObj C dx) C (some od) ∧ ∀ name, PySem.W.lookIn name od = some (mA name) :=
  let ⟨od, ho, hl⟩ := zdh I.ns
  ⟨od, ⟨I.obj, rfl, rfl, ho⟩, hl⟩
section
variable {prog : Program} {w : World} {A : Around} {E : Value → Shared → Prop} {s : Shared} {K : PySem.W.Frag} {x dx C f : Addr} {mA : Str → Option Value} {name : Str} {v : Value}
end
theorem zcb.some_of {v : V} {o : Option Value} (r : zcb (some v) o) : ∃ u, o = some u ∧ yT v u := by
  cases o with
  | none => exact (show False from r).elim
  | some u => exact ⟨u, rfl, r⟩
section
variable {P : Program} {w : World} {H H' : Hp} {h h' : Heap} {a C dx : Addr} {fs fs' : List (Str × V)}
theorem zfI (hok : HOk P w H h) (e : H a = some (.ins C dx fs)) : ∃ mA, ziD h a dx C mA ∧ (∀ f, zcb (fs.lookup f) (mA f)) ∧ PySem.Within mA (fs.map (·.1)) ∧ fs.length ≤ 1000 ∧ H dx = some (.own a) := by
  obtain ⟨d, z, ne, ob, mA, n, r, q⟩ := (show yV P w H h a (.ins C dx fs) from hok a _ e)
  exact ⟨mA, ⟨ob, n, ne⟩, r, q, z, d⟩
end
set_option genInjectivity false in
set_option genSizeOf false in
set_option genCtorIdx false in
structure Cls (K : PySem.W.Frag) (C : Addr) : Prop where
  pg : PySem.W.plainGet K C Str.empty = true
  hd : PySem.W.hasDictIn K C = true
  po : PySem.W.plainOver K C = true
  sa : PySem.W.findIn K (.ref C) "__setattr__" = some (some (.builtin "object.__setattr__"))
theorem Cls.get {K : PySem.W.Frag} {C : Addr} (c : Cls K C) (f : Str) : PySem.W.plainGet K C f = true := c.pg
section
variable {X : Cx} {pins : List (Addr × Obj)} {σ : St} {H : Hp} {s : Shared} {a C dx : Addr} {fs : List (Str × V)} {f : Str} {v : V} {A : Around} {E : Value → Shared → Prop}
end
section
variable {X : Cx} {o e value : Expr} {f : Str} {pos pos' tpos : Pos} {ta tv : TE}
end
section
variable {X : Cx} {pins : List (Addr × Obj)} {σ : St} {H : Hp} {s : Shared} {A : Around} {E : Value → Shared → Prop} {Q : Value → Shared → Prop} {c : Value} {b : Bool}
inductive zaR (K : PySem.W.Frag) (H : Hp) : V → Value → Prop where
  | non : zaR K H .non (.type "NoneType")
  | bl (x : Bool) : zaR K H (.bl x) (.type "bool")
  | int (i : Int) : zaR K H (.int i) (.type "int")
  | str (x : Str) : zaR K H (.str x) (.type "str")
  | flt (x : UInt64) : zaR K H (.flt x) (.type "float")
  | lst {a : Addr} {xs : List V} (e : H a = some (.lst xs)) : zaR K H (.ref a) (.type "list")
  | frz {a : Addr} {o : Obj} {xs : List V} (e : H a = some (.frz o (.lst xs))) : zaR K H (.ref a) (.type "list")
  | tup {a : Addr} {xs : List V} (e : H a = some (.tup xs)) : zaR K H (.ref a) (.type "tuple")
  | dK {a : Addr} {kvs : List (Key × V)} (e : H a = some (.dK kvs)) : zaR K H (.ref a) (.type "dict")
  | dT {a : Addr} {kvs : List (List Key × V)} (e : H a = some (.dT kvs)) : zaR K H (.ref a) (.type "dict")
  | ins {a C dx : Addr} {fs : List (Str × V)} (e : H a = some (.ins C dx fs)) (cl : Cls K C) (ha : PySem.W.findIn K (.ref C) "__class__" = some (some (.builtin "object.__class__")))
      (hn : PySem.W.specialIn K (.builtin "object.__class__") "__get__" = some (some (.builtin "getset_descriptor.__get__"))) (htk : PySem.W.takesIn K (.builtin "object.__class__") = some true)
      (hm : PySem.W.mroIn K C (.type "object") = some true) : zaR K H (.ref a) (.ref C)
theorem zbX {x : V} {u t : Value} (I : Inv X pins σ H s) (rx : yT x u) (ty : zaR X.K H x t) (e : PySem.W.kitOne X.K t c = some b) (h : ∀ tk, Q (.bool b) { s with toks := tk }) :
    wpAny (model X.prog X.w) A (call (.builtin "isinstance") [u, c]) Q E s := by
  cases ty with
  | non => cases (show u = Value.none from rx); exact PySem.W.kia_one PySem.W.kitx_none I.kIn True.intro e (fun z => nomatch z) h
  | bl y => cases (show u = Value.bool y from rx); exact PySem.W.kia_one PySem.W.kitx_bool I.kIn True.intro e (fun z => nomatch z) h
  | int i => obtain ⟨t, q⟩ := (show ∃ t, u = Value.int i t from rx); cases q; exact PySem.W.kia_one PySem.W.kitx_int I.kIn True.intro e (fun z => nomatch z) h
  | str y => obtain ⟨t, q⟩ := (show ∃ t, u = Value.str y t from rx); cases q; exact PySem.W.kia_one PySem.W.kitx_str I.kIn True.intro e (fun z => nomatch z) h
  | flt y => obtain ⟨t, q⟩ := (show ∃ t, u = Value.float y t from rx); cases q; exact PySem.W.kia_one PySem.W.kitx_float I.kIn True.intro e (fun z => nomatch z) h
  | @lst a xs ea =>
    cases (show u = Value.ref a from rx)
    obtain ⟨_, _, n, _, h1⟩ := (show yV X.prog X.w H s.heap a (.lst xs) from I.hok a _ ea)
    exact PySem.W.kia_one PySem.W.kitx_list I.kIn ⟨_, h1, rfl⟩ e (fun z => nomatch z) h
  | @frz a ob xs ea =>
    cases (show u = Value.ref a from rx)
    obtain ⟨_, _, _, n, _, h1⟩ := (show yV X.prog X.w H s.heap a (.frz ob (.lst xs)) from I.hok a _ ea)
    exact PySem.W.kia_one PySem.W.kitx_list I.kIn ⟨_, h1, rfl⟩ e (fun z => nomatch z) h
  | @tup a xs ea =>
    cases (show u = Value.ref a from rx)
    obtain ⟨_, _, _, p⟩ := (show yV X.prog X.w H s.heap a (.tup xs) from I.hok a _ ea)
    obtain ⟨o, h1, h2, _⟩ := p
    exact PySem.W.kia_one PySem.W.kitx_tuple I.kIn ⟨o, h1, h2⟩ e (fun z => nomatch z) h
  | @dK a kvs ea =>
    cases (show u = Value.ref a from rx)
    obtain ⟨_, _, vs, _, p⟩ := (show yV X.prog X.w H s.heap a (.dK kvs) from I.hok a _ ea)
    obtain ⟨o, es, ep, h1, h2, _⟩ := p
    exact PySem.W.kia_one PySem.W.kitx_dict I.kIn ⟨o, h1, h2.1⟩ e (fun z => nomatch z) h
  | @dT a kvs ea =>
    cases (show u = Value.ref a from rx)
    obtain ⟨_, _, xs, _, o, es, ep, h1, h2, _⟩ := (show yV X.prog X.w H s.heap a (.dT kvs) from I.hok a _ ea)
    exact PySem.W.kia_one PySem.W.kitx_dict I.kIn ⟨o, h1, h2.1⟩ e (fun z => nomatch z) h
  | @ins a C dx fs ea cl ha hn htk hm =>
    cases (show u = Value.ref a from rx)
    obtain ⟨mA, O, _⟩ := zfI I.hok ea
    obtain ⟨od, J, _⟩ := O.look
    exact PySem.W.kia_one (PySem.W.kitx_own (cl.get _) cl.hd ha hn htk hm) I.kIn J e (fun z => nomatch z) h
end
end L2
namespace L2
open PySem PySem.Spec PyProof.Rows
set_option genInjectivity false in
set_option genSizeOf false in
set_option genCtorIdx false in
structure Yk (k : Nat) (A : Around) : Prop where
  hd : A.handled = none
  dp : A.depth + 3 * k + 5 < recursionLimit
  un : A.units + 16 * k + 200 < cLine
theorem Yk.mono {j k : Nat} {A : Around} (r : Yk k A) (h : j ≤ k) : Yk j A := ⟨r.hd, by have := r.dp; omega, by have := r.un; omega⟩
theorem Yk.deeper {k : Nat} {A : Around} (r : Yk (k + 1) A) (env : Env) : Yk k (A.deeper env) :=
  ⟨r.hd, by have := r.dp; show A.depth + 1 + 3 * k + 5 < _; omega, by have := r.un; show A.units + 3 + 16 * k + 200 < _; omega⟩
theorem Yk.depth {k : Nat} {A : Around} (r : Yk k A) : A.depth < recursionLimit := by have := r.dp; omega
theorem Yk.units {k : Nat} {A : Around} (r : Yk k A) : A.units + 64 < cLine := by have := r.un; omega
theorem Yk.units0 {k : Nat} {A : Around} (r : Yk k A) : A.units < cLine := by have := r.un; omega
noncomputable def zey : TA := fun _ H Q => Q [] H
noncomputable def Xo (ta : TE) (tr : TA) : TA := fun σ H Q => ta σ H fun x H1 => tr σ H1 fun xs H2 => Q (x :: xs) H2
section
variable {X : Cx} {e : Expr} {es : List Expr} {te : TE} {t : TA} {pos : Pos}
theorem yH : PA X [] zey := fun _ _ _ _ H Q I h => Calls.spliced_nil ⟨[], H, I, .nil, h⟩
theorem zy (ha : PE X e te) (hr : PA X es t) (hs : starEach (e :: es) X.env = (false, eval e X.env) :: starEach es X.env := by rfl) : PA X (e :: es) (Xo te t) := by
  intro pos pins s σ H Q I h
  rw [hs]
  show wpAny _ _ (spliced ((false, eval e X.env) :: backTo pos (starEach es X.env))) _ _ s
  refine Calls.spliced_cons (thn (ha pins s σ H _ I h) fun u s1 hh9 => ?_)
  obtain ⟨x, H1, I1, r1, q1⟩ := hh9
  exact thn (hr pos pins s1 σ H1 _ I1 q1) fun us s2 ⟨xs, H2, I2, r2, q2⟩ => ⟨x :: xs, H2, I2, .cons r1 r2, q2⟩
noncomputable def tTup (t : TA) : TE := fun σ H Q => t σ H fun xs H1 => xs.length ≤ sizeLine ∧ ∀ p, H1 p = none → Q (.ref p) (upd H1 p (.tup xs))
noncomputable def zit (t : TA) : TE := fun σ H Q => t σ H fun xs H1 => xs.length ≤ sizeLine ∧ ∀ p, H1 p = none → Q (.ref p) (upd H1 p (.lst xs))
theorem zhp {x1} (h : PA X es t) : PE X (.Tuple es x1 pos) (tTup t) := by
  intro pins s σ H Q I hq
  refine wpAny_Tuple_spliced (thn (h pos pins s σ H _ I hq) fun us s1 ⟨xs, H1, I1, r, z, q⟩ => ⟨by rw [← r.length]; exact z, ?_⟩)
  have hf : H1 s1.heap.objs.size = none := I1.hok.fresh (Nat.le_refl _)
  refine ⟨.ref s1.heap.objs.size, upd H1 s1.heap.objs.size (.tup xs), I1.laid (t' := s1.toks) (fun b u e => Heap.get?_push_of_some _ e) (Nat.le_refl _) ?_, rfl, q _ hf⟩
  exact ⟨z, us, r, ⟨_, Heap.get?_push_size _ rfl, rfl, _, rfl⟩⟩
theorem Vi (h : PA X es t) : PE X (.List es pos) (zit t) := by
  intro pins s σ H Q I hq
  refine wpAny_List_spliced (thn (h pos pins s σ H _ I hq) fun us s1 ⟨xs, H1, I1, r, z, q⟩ => ⟨by rw [← r.length]; exact z, ?_⟩)
  have hf : H1 s1.heap.objs.size = none := I1.hok.fresh (Nat.le_refl _)
  refine ⟨.ref s1.heap.objs.size, upd H1 s1.heap.objs.size (.lst xs), I1.laid (t' := s1.toks) (fun b u e => Heap.get?_push_of_some _ e) (Nat.le_refl _) ?_, rfl, q _ hf⟩
  exact ⟨z, us, 0, r, Heap.get?_push_size _ rfl⟩
end
noncomputable abbrev Sp := List V → Hp → VK → XK → Prop
noncomputable abbrev CXT := List Env → Hp → Shared → XK → Value → Shared → Prop
structure zhf (P : Program) (w : World) (K : PySem.W.Frag) (mg : Str → Option Value) (base : Heap) (A : Around) (outer : List Env) (s : Shared) (H : Hp) : Prop where
  frames : A.frames = some outer
  mod : Mod K mg base
  bs : ∀ b o, base.get? b = some o → s.heap.get? b = some o ∧ H b = none
  bsz : base.objs.size ≤ s.heap.objs.size
  funs : s.heap.FunFrames base outer
  frf : ∀ b ∈ frs outer, H b = none
  hok : HOk P w H s.heap
  bare : AllBare s.gens
noncomputable def CE (outer : List Env) (P : Program) (w : World) (H : Hp) (s : Shared) (Q : VK) (u : Value) (s' : Shared) : Prop :=
  ∃ v H', s'.os = s.os ∧ AllBare s'.gens ∧ Un (frs outer) [] H H' s.heap s'.heap ∧ HOk P w H' s'.heap ∧ yT v u ∧ Q v H'
noncomputable def CR (CX : CXT) (outer : List Env) (P : Program) (w : World) (H : Hp) (s : Shared) (Q : VK) (E : XK) (r : Result) (s' : Shared) : Prop :=
  match r with
  | .ok (.ret u) => CE outer P w H s Q u s'
  | .ok _ => False
  | .error e => CX outer H s E e s'
set_option genInjectivity false in
set_option genSizeOf false in
set_option genCtorIdx false in
structure yD (P : Program) (w : World) (K : PySem.W.Frag) (mg : Str → Option Value) (base : Heap) (CX : CXT) (k : Nat) (f : Addr) (fd : FuncData) (ps : List Str) (sp : Sp) : Prop where
  len : ∀ vs H Q E, sp vs H Q E → vs.length = ps.length
  run : ∀ (A : Around) (outer : List Env) (s : Shared) (H : Hp) (args : Args) (us : List Value) (vs : List V) (Q : VK) (E : XK), Yk k A → zhf P w K mg base A outer s H → BindsTo s fd args (ps.zip us) → yC vs us → sp vs H Q E →
    codeAny (model P w) A (.call (.ref f) args) (CR CX outer P w H s Q E) s
theorem yD.mono {P : Program} {w : World} {K : PySem.W.Frag} {mg : Str → Option Value} {base : Heap} {CX : CXT} {j k : Nat} {f : Addr} {fd : FuncData} {ps : List Str} {sp : Sp} (F : yD P w K mg base CX j f fd ps sp) (h : j ≤ k) :
    yD P w K mg base CX k f fd ps sp := ⟨F.len, fun A outer s H args us vs Q E hr => F.run A outer s H args us vs Q E (hr.mono h)⟩
theorem yD.imp {P : Program} {w : World} {K : PySem.W.Frag} {mg : Str → Option Value} {base : Heap} {CX : CXT} {k : Nat} {f : Addr} {fd : FuncData} {ps : List Str} {sp sp' : Sp} (F : yD P w K mg base CX k f fd ps sp)
    (h : ∀ vs H Q E, sp' vs H Q E → sp vs H Q E) : yD P w K mg base CX k f fd ps sp' :=
  ⟨fun vs H Q E q => F.len vs H Q E (h _ _ _ _ q), fun A outer s H args us vs Q E hr he hb hv hs => F.run A outer s H args us vs Q E hr he hb hv (h _ _ _ _ hs)⟩
section
variable {X : Cx} {pins : List (Addr × Obj)} {σ : St} {H : Hp} {s s' : Shared}
theorem Inv.env0 (I : Inv X pins σ H s) : zhf X.prog X.w X.K X.mg X.base X.A X.stack s H :=
  ⟨I.ok.frames, I.ok.mod, I.bs, Nat.le_trans I.ok.bsz I.sz, I.stack, I.stkFree, I.hok, I.bare⟩
theorem Inv.after {Q : VK} {u : Value} (I : Inv X pins σ H s) (h : CE X.stack X.prog X.w H s Q u s') : EP X pins σ Q u s' := by
  obtain ⟨v, H', os, bare, un, hok, r, q⟩ := h
  obtain ⟨hh, g, d, t, os'⟩ := s'
  obtain rfl : os' = s.os := os
  exact ⟨v, H', I.call (h' := hh) (g' := g) (d' := d) (t' := t) (ch := []) un hok bare (fun b z => absurd z (by simp)), r, q⟩
end
noncomputable def ze3 (sp : Sp) (dvs : List V) (E : XK) (t : TA) : TE := fun σ H Q => t σ H fun vs H1 => sp (vs ++ dvs) H1 Q E
noncomputable def WW (K : PySem.W.Frag) (fd : FuncData) (ps : List Str) (ds : List Value) : Prop :=
  ∀ (s : Shared) (us : List Value), K.In s.heap → (us ++ ds).length = ps.length → BindsTo s fd ⟨us, []⟩ (ps.zip (us ++ ds))
theorem WW.all {K : PySem.W.Frag} {fd : FuncData} {ps : List Str} (h : ∀ us : List Value, us.length = ps.length → bindArgs fd ⟨us, []⟩ = pure (ps.zip us)) : WW K fd ps [] := fun s us _ hl => by
  rw [List.append_nil] at hl ⊢
  exact .of_eq (h us hl)
noncomputable def ZQ (CX : CXT) (X : Cx) (E : XK) : Prop := ∀ (pins : List (Addr × Obj)) (σ : St) (H : Hp) (s : Shared) (e : Value) (s' : Shared), Inv X pins σ H s → CX X.stack H s E e s' → X.xe e s'
section
variable {X : Cx} {CX : CXT} {k : Nat} {f C : Addr} {fd : FuncData} {ps : List Str} {sp : Sp} {dvs : List V} {ds : List Value} {E : XK} {x m : Str} {p pos apos : Pos} {e o : Expr} {es : List Expr} {ta : TE} {t : TA}
theorem zgD {pins : List (Addr × Obj)} {σ : St} {H : Hp} {s : Shared} {Q : VK} {us : List Value} {vs : List V} (F : yD X.prog X.w X.K X.mg X.base CX k f fd ps sp) (hr : Yk k X.A) (hb : WW X.K fd ps ds) (hd : yC dvs ds) (hx : ZQ CX X E)
    (I : Inv X pins σ H s) (r : yC vs us) (h : sp (vs ++ dvs) H Q E) : wpAny (model X.prog X.w) X.A (call (.ref f) us) (EP X pins σ Q) X.xe s := by
  have r2 : yC (vs ++ dvs) (us ++ ds) := r.append hd
  have hl : (us ++ ds).length = ps.length := by rw [← r2.length]; exact F.len _ _ _ _ h
  refine wpAny_call (codeAny_mono (F.run X.A X.stack s H ⟨us, []⟩ (us ++ ds) (vs ++ dvs) Q E hr I.env0 (hb s us I.kIn hl) r2 h) fun r s' hq => ?_)
  cases r with
  | error e => exact hx pins σ H s e s' I hq
  | ok fl =>
    cases fl with
    | ret u => exact I.after hq
    | next => exact False.elim hq
    | brk => exact False.elim hq
    | cont => exact False.elim hq
theorem zda (F : yD X.prog X.w X.K X.mg X.base CX k f fd ps sp) (hr : Yk k X.A) (hg : Gl X x) (hm : X.mg x = some (.ref f)) (hk : PySem.W.keepIn X.K (.ref f) = true) (hb : WW X.K fd ps ds) (hd : yC dvs ds) (hx : ZQ CX X E)
    (ha : PA X (e :: es) t) (hdb : (x == ("__debug__" : Str)) = false := by decide) (he : starEach (e :: es) X.env = (false, eval e X.env) :: starEach es X.env := by rfl) (hpl : (backTo pos (starEach es X.env)).any (·.1) = false := by rfl) :
    PE X (.Call (.Name x p) (e :: es) [] pos) (ze3 sp dvs E t) := by
  intro pins s σ H Q I h
  refine wpAny_Call_Name_kw (Zp I hg hm ?_ hdb)
  refine PySem.W.callWith_K (h₀ := X.base) I.ok.mod.kin hk (thn (ha pos pins s σ H _ I h) fun us s1 ⟨vs, H1, I1, r, q⟩ => ⟨I1.kIn, ?_⟩) he hpl
  exact zgD F hr hb hd hx I1 r q
end
section
variable {X : Cx} {CX : CXT} {k : Nat} {f C : Addr} {fd : FuncData} {ps ks : List Str} {sp : Sp} {E : XK} {x m : Str} {p pos apos kpos : Pos} {e o : Expr} {es : List Expr} {kws : List Keyword} {te ta : TE} {t tk : TA} {nm : Option Str}
variable {g : List Value → List Value → List Value} {gV : List V → List V → List V}
end
structure zt (N P : List Str) (sc : Scope) : Prop where
  kind : sc.kind = .function
  co : sc.isCoroutine = false
  gen : sc.isGenerator = false
  nd : N.Nodup
  pre : N.take P.length = P
  par : ∀ x ∈ P, sc.names.lookup x = some .local ∨ sc.names.lookup x = some .cell
  nofree : ∀ y ∈ sc.names, y.2 ≠ .free
theorem Vx {kindOf : Str → Option NameKind} {x : Str} : ∀ {binds : List (Str × Value)} {m : Str → Option Value}, (∀ v, (x, v) ∉ binds) → bindL kindOf binds m x = m x
  | [], _, _ => rfl
  | (n, v) :: r, m, h => by
    unfold bindL
    rw [Vx fun w hw => h w (List.mem_cons_of_mem _ hw)]
    split
    · have : x ≠ n := by rintro rfl; exact h v List.mem_cons_self
      simp [this]
    · rfl
theorem VH {kindOf : Str → Option NameKind} {x : Str} : ∀ {binds : List (Str × Value)} {m : Str → Option Value}, (∀ v, (x, v) ∉ binds) → bindC kindOf binds m x = m x
  | [], _, _ => rfl
  | (n, v) :: r, m, h => by
    unfold bindC
    rw [VH fun w hw => h w (List.mem_cons_of_mem _ hw)]
    split
    · rfl
    · have : x ≠ n := by rintro rfl; exact h v List.mem_cons_self
      simp [this]
theorem V0 {kindOf : Str → Option NameKind} {x : Str} {v : Value} : ∀ {P : List Str} {vs : List Value} {i : Nat} {m : Str → Option Value}, P.Nodup → P[i]? = some x → vs[i]? = some v → kindOf x = some .local →
    bindL kindOf (P.zip vs) m x = some v
  | [], _, _, _, _, h, _, _ => by simp at h
  | _ :: _, [], _, _, _, _, h, _ => by simp at h
  | p :: P, w :: vs, 0, m, nd, h1, h2, hk => by
    simp at h1 h2; subst h1; subst h2
    show bindL kindOf ((p, w) :: P.zip vs) m p = _
    unfold bindL
    rw [Vx fun v hv => (List.nodup_cons.mp nd).1 (List.of_mem_zip hv).1, if_pos hk]
    simp
  | p :: P, w :: vs, i + 1, m, nd, h1, h2, hk => by
    show bindL kindOf ((p, w) :: P.zip vs) m x = _
    unfold bindL
    exact V0 (i := i) (List.nodup_cons.mp nd).2 (by simpa using h1) (by simpa using h2) hk
theorem VV {kindOf : Str → Option NameKind} {x : Str} {v : Value} : ∀ {P : List Str} {vs : List Value} {i : Nat} {m : Str → Option Value}, P.Nodup → P[i]? = some x → vs[i]? = some v → kindOf x ≠ some .local →
    bindC kindOf (P.zip vs) m x = some v
  | [], _, _, _, _, h, _, _ => by simp at h
  | _ :: _, [], _, _, _, _, h, _ => by simp at h
  | p :: P, w :: vs, 0, m, nd, h1, h2, hk => by
    simp at h1 h2; subst h1; subst h2
    show bindC kindOf ((p, w) :: P.zip vs) m p = _
    unfold bindC
    rw [VH fun v hv => (List.nodup_cons.mp nd).1 (List.of_mem_zip hv).1, if_neg hk]
    simp
  | p :: P, w :: vs, i + 1, m, nd, h1, h2, hk => by
    show bindC kindOf ((p, w) :: P.zip vs) m x = _
    unfold bindC
    exact VV (i := i) (List.nodup_cons.mp nd).2 (by simpa using h1) (by simpa using h2) hk
noncomputable def start (N : List Str) (vs : List V) : St := vs.map some ++ List.replicate (N.length - vs.length) none
noncomputable def W3 (CX : CXT) (P : Program) (w : World) (K : PySem.W.Frag) (mg : Str → Option Value) (base : Heap) (N : List Str) (qual : Str) (scope : Scope) (f : Addr) (cd : Value) (A : Around) (outer : List Env) (s : Shared) (H : Hp) (E : XK) : Cx where
  prog := P
  w := w
  K := K
  mg := mg
  base := base
  A := A.deeper (envOfC qual scope s.heap.objs.size f cd)
  N := N
  s₀ := s
  H₀ := H
  env := envOfC qual scope s.heap.objs.size f cd
  outer := outer
  stack := envOfC qual scope s.heap.objs.size f cd :: outer
  ex := []
  calm := true
  fn := fun _ => true
  pn := []
  xe := fun e s' => wpAny (model P w) (A.deeper (envOfC qual scope s.heap.objs.size f cd)) (leaving (envOfC qual scope s.heap.objs.size f cd) e) (fun _ s'' => CX outer H s E e s'') (fun e' s'' => CX outer H s E e' s'') s'
theorem zaW {sc : Scope} {n : Nat} {x : Str} (h : sc.names.lookup x = some .cell) : ∃ c, (cellsFrom n sc.names []).lookup x = some c := by
  have q := PySem.W.cellsFrom_some sc.names n [] (.inl h)
  exact Option.isSome_iff_exists.mp q
theorem Vv {CX : CXT} {P : Program} {w : World} {K : PySem.W.Frag} {mg : Str → Option Value} {base : Heap} {N ps : List Str} {qual : Str} {scope : Scope} {f : Addr} {cd : Value} {A : Around} {outer : List Env} {s s1 : Shared} {H : Hp} {E : XK} {us : List Value} {vs : List V}
    (S : zt N ps scope) (hd : A.handled = none) (e0 : zhf P w K mg base A outer s H) (hl : vs.length = ps.length) (r : yC vs us)
    (x : InCallC s s.heap.objs.size (bindL (envOfC qual scope s.heap.objs.size f cd).kindOf (ps.zip us) fun _ => none) (cellsFrom (s.heap.objs.size + 1) scope.names []) (bindC (envOfC qual scope s.heap.objs.size f cd).kindOf (ps.zip us) fun _ => none) s1) :
    Inv (W3 CX P w K mg base N qual scope f cd A outer s H E) [] (start N vs) H s1 := by
  have hpl : ps.length ≤ N.length := by have := congrArg List.length S.pre; rw [List.length_take] at this; omega
  obtain ⟨h1, tk, rfl, hk⟩ := x.done
  have noA : ∀ b : Addr, b ∉ (W3 CX P w K mg base N qual scope f cd A outer s H E).ex := fun b z => absurd (show b ∈ ([] : List Addr) from z) (by simp)
  refine ⟨⟨e0.mod, S.kind, rfl, rfl, Nat.le_refl _, fun y z c h1 h2 => ?_, fun y hy => ?_, fun y c _ h => ?_, fun _ => hd, Around.frames_deeper e0.frames, .inr ⟨rfl, rfl⟩, fun b z => absurd z (noA b), e0.bs, e0.bsz, fun b _ _ => noA b, fun b z => absurd z (noA b), e0.funs, e0.frf⟩,
    rfl, e0.bare, Un.kept hk, ⟨_, x.toInCall.ns, fun i y v h1 h2 h3 => ?_⟩, fun y c h => ⟨_, x.cell y c h⟩, e0.hok.fresh (Nat.le_refl _), fun y c h => ?_, fun p hp => absurd (show p ∈ ([] : List (Addr × Obj)) from hp) (by simp), e0.hok.kept hk, ?_⟩
  · exact name_of_addr x.apart (PySem.mem_of_lookup h1) (PySem.mem_of_lookup h2)
  · have hy : scope.names.lookup y = some .cell ∨ scope.names.lookup y = some .free := hy
    rcases hy with hy | hy
    · exact zaW hy
    · exact absurd rfl (S.nofree _ (PySem.mem_of_lookup hy))
  · exact Nat.le_of_lt (x.above y c (PySem.mem_of_lookup h))
  · have hi : i < vs.length := by
      unfold start at h2
      by_cases hi : i < vs.length
      · exact hi
      · rw [List.getElem?_append_right (by simpa using hi)] at h2
        rw [List.getElem?_replicate] at h2
        split at h2 <;> cases h2
    have ha : vs[i]? = some v := by
      unfold start at h2
      rw [List.getElem?_append_left (by simpa using hi), List.getElem?_map] at h2
      cases e : vs[i]? with
      | none => rw [e] at h2; cases h2
      | some a => rw [e] at h2; cases h2; rfl
    obtain ⟨u, hu, rv⟩ := r.get ha
    have hp : ps[i]? = some y := by
      rw [← S.pre, List.getElem?_take_of_lt (by omega)]; exact h1
    have ndP : ps.Nodup := by rw [← S.pre]; exact S.nd.sublist (List.take_sublist _ _)
    refine ⟨u, rv, ?_⟩
    rcases S.par y (List.mem_of_getElem? hp) with k | k
    · exact .inl ⟨k, V0 ndP hp hu k⟩
    · obtain ⟨c, e⟩ := zaW (n := s.heap.objs.size + 1) k
      refine .inr ⟨.inl k, c, e, ?_⟩
      have q := x.cell y c e
      rw [VV ndP hp hu (by show scope.names.lookup y ≠ _; rw [k]; decide)] at q
      exact q
  · exact e0.hok.fresh (Nat.le_of_lt (x.above y c (PySem.mem_of_lookup h)))
  · unfold start
    show _ = N.length
    rw [List.length_append, List.length_map, List.length_replicate]
    omega
theorem zgy {CX : CXT} {P : Program} {w : World} {K : PySem.W.Frag} {mg : Str → Option Value} {base : Heap} {k : Nat} {f : Addr} {name qual : Str} {params : Arguments} {body : List Stmt} {scope : Scope} {dV kV doc pm cdv ct oc : Value} {an od : Option Addr}
    {osl : Array (Option Value)} {N ps : List Str} {sp : Sp} (lk : K.lookup f = some ⟨oc, od, .func (PySem.W.fnOf name qual params body scope dV kV doc pm an cdv ct), osl⟩) (hcd : PySem.W.codeIn K cdv qual = true) (S : zt N ps scope)
    (len : ∀ vs H Q E, sp vs H Q E → vs.length = ps.length)
    (hbody : ∀ (A : Around) (outer : List Env) (s : Shared) (H : Hp) (vs : List V) (Q : VK) (E : XK), Yk k (A.deeper (envOfC qual scope s.heap.objs.size f cdv)) → sp vs H Q E →
      ∃ t, PSs (W3 CX P w K mg base N qual scope f cdv A outer s H E) body t ∧ t { nx := fun _ H' => Q .non H', rt := Q } (start N vs) H) :
    yD P w K mg base CX (k + 1) f (PySem.W.fnOf name qual params body scope dV kV doc pm an cdv ct) ps sp := by
  refine ⟨len, fun A outer s H args us vs Q E hr e0 hb r hsp => ?_⟩
  have hl := len _ _ _ _ hsp
  have KX : K.In s.heap := e0.mod.kin.keeps fun b o e => (e0.bs b o e).1
  have lim : s.heap.NoLimit := e0.mod.nolimit.keeps fun b o e => (e0.bs b o e).1
  have hkind : ∀ y ∈ ps.zip us, scope.names.lookup y.1 = some .local ∨ (scope.names.lookup y.1 = some .cell ∧ ((cellsFrom (s.heap.objs.size + 1) scope.names []).lookup y.1).isSome = true) := fun ⟨n, v⟩ hy => by
    rcases S.par n (List.of_mem_zip hy).1 with q | q
    · exact .inl q
    · exact .inr ⟨q, PySem.W.cellsFrom_some _ _ _ (.inl q)⟩
  refine codeAny_call_function hr.depth (KX _ _ lk) rfl S.co S.gen rfl (PySem.W.codeRec_of KX hcd) (hb _ _ _ _ ?_)
  refine wpAny_newFunctionEnv_cells S.kind hkind fun env he s1 x => ?_
  subst he
  refine ⟨lim.keeps x.toInCall.keep, codeAny_func ?_⟩
  obtain ⟨t, ht, hq⟩ := hbody A outer s H vs Q E (hr.deeper _) hsp
  have I : Inv (W3 CX P w K mg base N qual scope f cdv A outer s H E) [] (start N vs) H s1 := Vv S hr.hd e0 hl r x
  refine wpAny_mono (ht [] s1 (start N vs) H _ I hq) (fun fl s' hs => ?_) fun e s' hs => hs
  have fin : ∀ {σ' : St} {H' : Hp} {v : V} {u : Value}, Inv (W3 CX P w K mg base N qual scope f cdv A outer s H E) [] σ' H' s' → yT v u → Q v H' → CE outer P w H s Q u s' :=
    fun {σ' H' v u} J rv q => ⟨v, H', J.os, J.bare, J.base, J.hok, rv, q⟩
  cases fl with
  | ret u =>
    obtain ⟨v, σ', H', J, rv, q⟩ := hs
    exact fin J rv q
  | next =>
    obtain ⟨σ', H', J, q⟩ := hs
    exact fin (v := V.non) (u := Value.none) J rfl q
  | brk =>
    obtain ⟨_, _, _, q⟩ := hs
    exact False.elim q
  | cont =>
    obtain ⟨_, _, _, q⟩ := hs
    exact False.elim q
end L2
namespace L2
open PySem PySem.Spec PyProof.Rows
section
variable {X : Cx} {x : Str} {p pos : Pos} {e : Expr} {es : List Expr} {t : TA} {id T : String} {r : List V → Hp → VK → Prop}
noncomputable def tCB (r : List V → Hp → VK → Prop) (t : TA) : TE := fun σ H Q => t σ H fun vs H1 => r vs H1 Q
theorem yp (hc : YS X (.builtin id) r) (hg : Gl X x) (hm : X.mg x = none) (hv : bootBuiltins x = some (.builtin id)) (ha : PA X (e :: es) t) (hn : x ≠ "__name__" := by decide) (hdb : (x == ("__debug__" : Str)) = false := by decide)
    (he : starEach (e :: es) X.env = (false, eval e X.env) :: starEach es X.env := by rfl) (hpl : (backTo pos (starEach es X.env)).any (·.1) = false := by rfl) : PE X (.Call (.Name x p) (e :: es) [] pos) (tCB r t) := by
  intro pins s σ H Q I h
  refine wpAny_Call_Name_kw (YA I hg hm hv ?_ hn hdb)
  exact PyProof.Rows.callWith_builtin1 (thn (ha pos pins s σ H _ I h) fun us s1 ⟨vs, H1, I1, r1, q1⟩ => hc pins s1 σ H1 vs us Q I1 r1 q1) he hpl
theorem Vo (hc : YS X (.type T) r) (hg : Gl X x) (hm : X.mg x = none) (hv : bootBuiltins x = some (.type T)) (ha : PA X (e :: es) t) (hn : x ≠ "__name__" := by decide) (hdb : (x == ("__debug__" : Str)) = false := by decide)
    (he : starEach (e :: es) X.env = (false, eval e X.env) :: starEach es X.env := by rfl) (hpl : (backTo pos (starEach es X.env)).any (·.1) = false := by rfl) : PE X (.Call (.Name x p) (e :: es) [] pos) (tCB r t) := by
  intro pins s σ H Q I h
  refine wpAny_Call_Name_kw (YA I hg hm hv ?_ hn hdb)
  exact PyProof.Rows.callWith_type1 (thn (ha pos pins s σ H _ I h) fun us s1 ⟨vs, H1, I1, r1, q1⟩ => hc pins s1 σ H1 vs us Q I1 r1 q1) he hpl
end
end L2
namespace HT
open PySem PyProof.Rows
theorem zdq (A : Around) (s : Shared) (a : Int) (t : Tok) (c : Int) (u : Tok) : ∃ e, SeqAt.EqAt A s (.int a t) (.int c u) e ∧ (e = true ↔ a = c) :=
  ⟨(a == c), SeqAt.EqAt.int_int a t c u, by simp⟩
section
open PySem.SeqAt
open PySem.AutoSeq1 (wpAny_loadPart')
open PySem.MeetsSeq PySem.MeetsSeq2 PySem.MeetsSeq3
end
section
variable {prog : Program} {w : World} {A : Around} {E : Value → Shared → Prop} {s : Shared}
theorem cat_tup {t b : Addr} {vs ws : List Value} {Q : Value → Shared → Prop} (ht : IsTup s.heap t vs.toArray) (hb : IsTup s.heap b ws.toArray) (hv : vs ≠ [])
    (h1 : ws = [] → Q (.ref t) s) (h2 : ws ≠ [] → Q (.ref s.heap.objs.size) { s with heap := s.heap.push { cls := .type "tuple", data := .seq (vs ++ ws).toArray } })
    (hsz : vs.length + ws.length ≤ sizeLine) : wpAny (model prog w) A (binaryOp .Add (.ref t) (.ref b)) Q E s := by
  obtain ⟨⟨cls, dd, data, sl⟩, ho, hc, n, hd⟩ := id ht
  obtain ⟨⟨cls2, dd2, data2, sl2⟩, ho2, hc2, n2, hd2⟩ := id hb
  simp only at hc hd hc2 hd2
  subst hc hd hc2 hd2
  have e : vs.toArray ++ ws.toArray = (vs ++ ws).toArray := by simp
  by_cases hw : ws = []
  · exact concat_meets ⟨_, ho, rfl⟩ ⟨_, ho2, rfl⟩ noFill_tuple_add seq_tuple_add PySem.F.slot_tuple_add PySem.F.entry_tuple_add (PySem.F.args_tuple_add_2 _ _)
      (tuple_addW1 t b vs.toArray ws.toArray n n2 dd dd2 sl sl2 (by simpa using hv) (by simp [hw])) ⟨ho, ho2, h1 hw⟩
  · refine concat_meets ⟨_, ho, rfl⟩ ⟨_, ho2, rfl⟩ noFill_tuple_add seq_tuple_add PySem.F.slot_tuple_add PySem.F.entry_tuple_add (PySem.F.args_tuple_add_2 _ _)
      (tuple_addW2 t b vs.toArray ws.toArray n n2 dd dd2 sl sl2 (by simpa using hv) (by simpa using hw) (by rw [List.size_toArray, List.size_toArray]; exact hsz)) ⟨ho, ho2, ?_⟩
    rw [e]
    exact h2 hw
noncomputable def sIx (n d : Nat) : Option Int → Nat
  | none => d
  | some v => if v < 0 then (v + (n : Int)).toNat else min v.toNat n
theorem zgK (n d : Nat) (hd : d ≤ n) (o : Option Int) : sIx n d o ≤ n := by
  cases o with
  | none => exact hd
  | some v =>
    show (if v < 0 then (v + (n : Int)).toNat else min v.toNat n) ≤ n
    by_cases hv : v < 0
    · rw [if_pos hv]; omega
    · rw [if_neg hv]; exact Nat.min_le_right _ _
theorem zc0 (v : Int) (n d : Nat) : (if v < 0 then max (v + (n : Int)) 0 else min v (n : Int)) = ((sIx n d (some v) : Nat) : Int) := by
  show (if v < 0 then max (v + (n : Int)) 0 else min v (n : Int)) = (((if v < 0 then (v + (n : Int)).toNat else min v.toNat n) : Nat) : Int)
  by_cases hv : v < 0
  · simp only [if_pos hv]; omega
  · simp only [if_neg hv]; omega
theorem zbm (lo hi : Option Int) (n : Nat) : Builtin.Slice.sliceAdjust lo hi 1 (n : Int) = (((sIx n 0 lo : Nat) : Int), ((sIx n n hi : Nat) : Int)) := by
  have h1 : ¬ ((1 : Int) < 0) := by omega
  unfold Builtin.Slice.sliceAdjust
  simp only [h1, if_false]
  refine Prod.ext ?_ ?_
  · cases lo with
    | none => rfl
    | some v => exact zc0 v n 0
  · cases hi with
    | none => rfl
    | some v => exact zc0 v n n
theorem zbF (i j : Nat) : Builtin.Slice.slicePlaces (i : Int) (j : Int) 1 = j - i := by
  unfold Builtin.Slice.slicePlaces
  have h1 : (1 : Int) > 0 := by omega
  simp only [h1, if_true, Int.ediv_one]
  split <;> omega
theorem We {v : Value} {o : Option Int} {Q : Option Int → Shared → Prop} (p : IsPart v o) (h : Q o s) : wpAny (model prog w) A (Builtin.Slice.slicePartIndex v) Q E s := by
  cases p with
  | none => exact slicePart_none h
  | int i t => exact slicePart_int h
theorem vF {sl : Addr} {vl vu : Value} {lo hi : Option Int} {n : Nat} {Q : Int × Int × Nat → Shared → Prop} (hs : s.heap.IsSliceOf sl vl vu .none) (pl : IsPart vl lo) (pu : IsPart vu hi)
    (h : Q (((sIx n 0 lo : Nat) : Int), 1, sIx n n hi - sIx n 0 lo) s) : wpAny (model prog w) A (Builtin.Slice.sliceApplied (.ref sl) (pure (n : Int))) Q E s := by
  obtain ⟨os, hos, hcs, hds⟩ := id hs
  unfold Builtin.Slice.sliceApplied Builtin.Slice.sliceFields
  refine wpAny_bind (wpAny_bind (wpAny_field hos hds (x := vl) rfl (wpAny_bind (wpAny_field hos hds (x := vu) rfl (wpAny_bind (wpAny_field hos hds (x := .none) rfl (wpAny_pure ?_)))))))
  refine wpAny_bind (slicePart_none ?_)
  show wpAny _ _ (if ((1 : Int) == 0) = true then _ else _) _ _ s
  rw [if_neg (by decide)]
  refine wpAny_bind (We pl (wpAny_bind (We pu (wpAny_bind (wpAny_pure ?_)))))
  show wpAny _ _ (match Builtin.Slice.sliceAdjust lo hi 1 (n : Int) with | (lo, hi) => pure (lo, (1 : Int), Builtin.Slice.slicePlaces lo hi 1)) _ _ s
  rw [zbm lo hi n]
  show wpAny _ _ (pure (((sIx n 0 lo : Nat) : Int), (1 : Int), Builtin.Slice.slicePlaces ((sIx n 0 lo : Nat) : Int) ((sIx n n hi : Nat) : Int) 1)) _ _ s
  rw [zbF]
  exact wpAny_pure h
theorem zdE (xs : Array Value) (i k : Nat) : ((List.range k).filterMap fun (m : Nat) => xs[((i : Int) + (m : Int) * 1).toNat]?).toArray = ((xs.toList.drop i).take k).toArray := by
  have e : (fun (m : Nat) => xs[((i : Int) + (m : Int) * 1).toNat]?) = fun m => xs[i + m]? := by
    funext m
    have : ((i : Int) + (m : Int) * 1).toNat = i + m := by omega
    rw [this]
  rw [e]
  have := pick_run xs i k
  rw [List.filterMap_map] at this
  have e2 : ((fun x => xs[x]?) ∘ fun x => i + x) = fun m => xs[i + m]? := rfl
  rw [e2] at this
  rw [this]
theorem getItem_tuple_cut {t sl : Addr} {items : Array Value} {vl vu : Value} {lo hi : Option Int} {Q : Value → Shared → Prop} (ht : IsTup s.heap t items) (hs : s.heap.IsSliceOf sl vl vu .none) (pl : IsPart vl lo) (pu : IsPart vu hi)
    (hw : ¬ (sIx items.size 0 lo = 0 ∧ sIx items.size items.size hi = items.size))
    (h : Q (.ref s.heap.objs.size) { s with heap := s.heap.push { cls := .type "tuple", data := .seq ((items.toList.drop (sIx items.size 0 lo)).take (sIx items.size items.size hi - sIx items.size 0 lo)).toArray } })
    (hsz : items.size ≤ sizeLine) : wpAny (model prog w) A (getItem (.ref t) (.ref sl)) Q E s := by
  have htake : sizeOk (.seq ((items.toList.drop (sIx items.size 0 lo)).take (sIx items.size items.size hi - sIx items.size 0 lo)).toArray) := by
    show ((items.toList.drop (sIx items.size 0 lo)).take (sIx items.size items.size hi - sIx items.size 0 lo)).toArray.size ≤ sizeLine
    rw [List.size_toArray, List.length_take, List.length_drop, Array.length_toList]
    omega
  have hj : sIx items.size items.size hi ≤ items.size := zgK _ _ (Nat.le_refl _) hi
  obtain ⟨os, hos, hcs, hds⟩ := id hs
  have hTs : s.TypeIs (.ref sl) "slice" := ⟨os, hos, hcs⟩
  unfold getItem
  try with_reducible refine wpAny_holding ?_
  first | refine wpAny_bind (wpAny_pure ?_) | skip
  refine wpAny_bind (wpAny_sequenceKey ht.typeIs (by decide) ?_)
  refine wpAny_bind (wpAny_callSpecial?_slot (name := Str.ofString "__getitem__") ht.typeIs PyProof.Rows.slot_tuple_getitem
    (wpAny_call_entry PyProof.Rows.slot_tuple_getitem ht.typeIs entry_tuple_getitem ?_ (args_tuple_getitem _ _)))
  show wpAny _ _ (Builtin.Tuple.tupleItemsOf (.ref t) >>= _) _ _ s
  refine wpAny_bind (tupleItemsOf_ ht ?_)
  refine wpAny_bind (wpAny_typeOf hTs ?_)
  rw [if_pos (by decide)]
  refine wpAny_bind (vF hs pl pu ?_)
  have hno : ¬ ((((sIx items.size 0 lo : Nat) : Int) == 0 && (1 : Int) == 1 && (sIx items.size items.size hi - sIx items.size 0 lo) == items.size) = true) := by
    intro q
    rw [Bool.and_eq_true, Bool.and_eq_true] at q
    have q1 : ((sIx items.size 0 lo : Nat) : Int) = 0 := eq_of_beq q.1.1
    have q2 : sIx items.size items.size hi - sIx items.size 0 lo = items.size := eq_of_beq q.2
    exact hw ⟨by omega, by omega⟩
  show wpAny _ _ (if (((sIx items.size 0 lo : Nat) : Int) == 0 && (1 : Int) == 1 && (sIx items.size items.size hi - sIx items.size 0 lo) == items.size) = true then _ else _) _ _ s
  rw [if_neg hno, zdE]
  first
    | exact wpAny_bind (m := Builtin.Tuple.tupleExact _) (wpAny_newObj_type (wpAny_pure ⟨_, rfl, wpAny_pure h⟩) htake)
    | exact wpAny_bind (m := Builtin.Tuple.tupleExact _) (wpAny_newObj_type (wpAny_bind (wpAny_pure (wpAny_pure ⟨_, rfl, wpAny_pure h⟩))) htake)
    | exact wpAny_bind (wpAny_bind (m := Builtin.Tuple.tupleExact _) (wpAny_newObj_type (wpAny_pure (wpAny_pure ⟨_, rfl, wpAny_pure h⟩)) htake))
    | exact wpAny_bind (wpAny_bind (m := Builtin.Tuple.tupleExact _) (wpAny_newObj_type (wpAny_pure ⟨_, rfl, wpAny_pure h⟩) htake))
end
end HT
namespace L2
open PySem PySem.Spec PyProof.Rows
noncomputable abbrev TO := St → Hp → (Option Int → Hp → Prop) → Prop
noncomputable def PO (X : Cx) (e : Option Expr) (t : TO) : Prop :=
  ∀ (pins : List (Addr × Obj)) (s : Shared) (σ : St) (H : Hp) (Q : Option Int → Hp → Prop), Inv X pins σ H s → t σ H Q →
    wpAny (model X.prog X.w) X.A (evalPart e X.env) (fun u s' => ∃ o H', Inv X pins σ H' s' ∧ IsPart u o ∧ Q o H') X.xe s
noncomputable def zfj : TO := fun _ H Q => Q none H
noncomputable def zh2 (t : TE) : TO := fun σ H Q => t σ H fun x H1 => ∃ i, x = .int i ∧ Q (some i) H1
theorem Wr {ns : List Int} : ∀ {us : List Value}, yC (ns.map V.int) us → IntsAre us ns := by
  induction ns with
  | nil => intro us r; rw [List.map_nil] at r; cases r; exact .nil
  | cons n ns ih =>
    intro us r
    rw [List.map_cons] at r
    cases r with
    | cons r1 r2 =>
      obtain ⟨t, e⟩ := r1
      subst e
      exact .cons n t (ih r2)
section
variable {X : Cx} {e : Expr} {te : TE} {lo hi : Option Expr} {tl th : TO} {pos p2 : Pos}
theorem zfq : PO X none zfj := by
  intro pins s σ H Q I h
  rw [evalPart_none]
  exact wpAny_pure ⟨none, H, I, .none, h⟩
theorem zfx (h : PE X e te) : PO X (some e) (zh2 te) := by
  intro pins s σ H Q I hw
  rw [evalPart_some]
  refine thn (h pins s σ H _ I hw) fun u s1 hh9 => ?_
  obtain ⟨x, H1, I1, r1, q1⟩ := hh9
  obtain ⟨i, rfl, q⟩ := q1
  obtain ⟨t, rfl⟩ := r1
  exact ⟨some i, H1, I1, .int i t, q⟩
noncomputable def SlR (X : Cx) (r : V → Option Int → Option Int → Hp → VK → Prop) : Prop :=
  ∀ (pins : List (Addr × Obj)) (s : Shared) (σ : St) (H : Hp) (x : V) (v vl vu : Value) (lo hi : Option Int) (sl : Addr) (Q : VK), Inv X pins σ H s → yT x v → s.heap.IsSliceOf sl vl vu .none → IsPart vl lo → IsPart vu hi → r x lo hi H Q →
    ∃ T id, typeLookup (.type T) "__getitem__" = pure (some (.builtin id)) ∧ s.TypeIs v T ∧ wpAny (model X.prog X.w) X.A (getItem v (.ref sl)) (EP X pins σ Q) X.xe s
theorem SlR.or {r r' : V → Option Int → Option Int → Hp → VK → Prop} (h : SlR X r) (h' : SlR X r') : SlR X (fun x lo hi H Q => r x lo hi H Q ∨ r' x lo hi H Q) := by
  intro pins s σ H x v vl vu lo hi sl Q I rx hs pl pu q
  rcases q with q | q
  · exact h pins s σ H x v vl vu lo hi sl Q I rx hs pl pu q
  · exact h' pins s σ H x v vl vu lo hi sl Q I rx hs pl pu q
noncomputable def tSl (r : V → Option Int → Option Int → Hp → VK → Prop) (te : TE) (tl th : TO) : TE := fun σ H Q => te σ H fun x H1 => tl σ H1 fun l H2 => th σ H2 fun u H3 => r x l u H3 Q
theorem zei {r : V → Option Int → Option Int → Hp → VK → Prop} (hr : SlR X r) (he : PE X e te) (hl : PO X lo tl) (hu : PO X hi th) : PE X (.Subscript e (.Slice lo hi none p2) pos) (tSl r te tl th) := by
  intro pins s σ H Q I h
  refine Subscript_ (thn (he pins s σ H _ I h) fun v s1 hh9 => ?_)
  obtain ⟨x, H1, I1, r1, q1⟩ := hh9
  refine wpAny_Slice (thn (hl pins s1 σ H1 _ I1 q1) fun vl s2 ⟨l, H2, I2, pl, q2⟩ => thn (hu pins s2 σ H2 _ I2 q2) fun vu s3 hh9 => ?_)
  obtain ⟨u, H3, I3, pu, q3⟩ := hh9
  rw [evalPart_none]
  refine wpAny_pure ?_
  have I4 : Inv X pins σ H3 { s3 with heap := s3.heap.push { cls := .type "slice", data := .fields #[vl, vu, .none] } } := I3.kept (t' := s3.toks) fun b ob q => Heap.get?_push_of_some _ q
  obtain ⟨T, id, hT, ht, hg⟩ := hr pins { s3 with heap := s3.heap.push { cls := .type "slice", data := .fields #[vl, vu, .none] } } σ H3 x v vl vu l u s3.heap.objs.size Q I4 r1 (Heap.IsSliceOf.new ..) pl pu q3
  show wpAny (model X.prog X.w) X.A (subscriptTail e (.Slice lo hi none p2) v (.ref s3.heap.objs.size)) (EP X pins σ Q) X.xe { s3 with heap := s3.heap.push { cls := .type "slice", data := .fields #[vl, vu, .none] } }
  exact tail_any (ops := [.ref s3.heap.objs.size, v]) ht hT hg (by with_unfolding_all rfl)
noncomputable def zaq (xs : List V) (lo hi : Option Int) : List V := (xs.drop (HT.sIx xs.length 0 lo)).take (HT.sIx xs.length xs.length hi - HT.sIx xs.length 0 lo)
theorem Xy (xs : List V) (lo hi : Option Int) : (zaq xs lo hi).length ≤ xs.length := by
  unfold zaq
  rw [List.length_take, List.length_drop]
  omega
noncomputable def rSlT (K : PySem.W.Frag) : V → Option Int → Option Int → Hp → VK → Prop := fun x lo hi H Q => ∃ a xs, x = .ref a ∧ SqT K H a xs ∧
  ¬ (HT.sIx xs.length 0 lo = 0 ∧ HT.sIx xs.length xs.length hi = xs.length) ∧ ∀ p, H p = none → Q (.ref p) (upd H p (.tup (zaq xs lo hi)))
theorem zgp : SlR X (rSlT X.K) := by
  intro pins s σ H x v vl vu lo hi sl Q I rx hs pl pu h
  obtain ⟨a, xs, rfl, hx, hw, q⟩ := h
  cases rx
  obtain ⟨its, r, ht, hz⟩ := I.tuple hx
  have hlen : its.toArray.size = xs.length := by rw [List.size_toArray]; exact r.length.symm
  refine ⟨"tuple", _, PyProof.Rows.slot_tuple_getitem.lookup, ht.typeIs, ?_⟩
  refine HT.getItem_tuple_cut ht hs pl pu (by rw [hlen]; exact hw) ?_ (by rw [hlen]; exact hz)
  rw [hlen]
  refine ⟨.ref s.heap.objs.size, _, I.laid (t' := s.toks) (o := .tup (zaq xs lo hi)) (fun b ob q => Heap.get?_push_of_some _ q) (Nat.le_refl _) ?_, rfl, q _ (I.hok.fresh (Nat.le_refl _))⟩
  exact ⟨Nat.le_trans (Xy xs lo hi) hz, _, (r.drop (HT.sIx xs.length 0 lo)).take (HT.sIx xs.length xs.length hi - HT.sIx xs.length 0 lo), IsTup.new _ _⟩
noncomputable def ziw (K : PySem.W.Frag) : R2 := fun x y H Q => ∃ a b xs ys, x = .ref a ∧ y = .ref b ∧ SqT K H a xs ∧ SqT K H b ys ∧ xs ≠ [] ∧ xs.length + ys.length ≤ sizeLine ∧
  (ys = [] → Q (.ref a) H) ∧ (ys ≠ [] → ∀ p, H p = none → Q (.ref p) (upd H p (.tup (xs ++ ys))))
theorem yC.nil_iff {xs : List V} {us : List Value} (r : yC xs us) : us = [] ↔ xs = [] := by
  cases r with
  | nil => simp
  | cons _ _ => simp
theorem zfC : OpR X (binaryOp .Add) (ziw X.K) := by
  intro pins s σ H x y v u Q I rx ry h
  obtain ⟨a, b, xs, ys, rfl, rfl, ha, hb, hx, hz, q1, q2⟩ := h
  cases rx
  cases ry
  obtain ⟨its, r1, p1, _⟩ := I.tuple ha
  obtain ⟨its2, r2, p2, _⟩ := I.tuple hb
  refine HT.cat_tup p1 p2 (fun z => hx (r1.nil_iff.mp z)) (fun z => ⟨.ref a, H, I, rfl, q1 (r2.nil_iff.mp z)⟩) (fun z => ?_) (by rw [← r1.length, ← r2.length]; exact hz)
  refine ⟨.ref s.heap.objs.size, _, I.laid (t' := s.toks) (o := .tup (xs ++ ys)) (fun b ob q => Heap.get?_push_of_some _ q) (Nat.le_refl _) ?_, rfl, q2 (fun w => z (r2.nil_iff.mpr w)) _ (I.hok.fresh (Nat.le_refl _))⟩
  exact ⟨by rw [List.length_append]; exact hz, _, r1.append r2, IsTup.new _ _⟩
end
end L2
namespace L2
open PySem PySem.Spec PyProof.Rows
noncomputable def ixN (n : Nat) (i : Int) : Option Nat := if 0 ≤ i then (if i < n then some i.toNat else none) else if -(n : Int) ≤ i then some (i + n).toNat else none
noncomputable def atI {α : Type} (xs : List α) (i : Int) : Option α := (ixN xs.length i).bind fun j => xs[j]?
theorem zcG {n : Nat} {i : Int} {j : Nat} (h : ixN n i = some j) : seqIndex? i n = some j ∧ j < n ∧ -(n : Int) ≤ i ∧ i < n := by
  unfold ixN at h
  by_cases h0 : 0 ≤ i
  · rw [if_pos h0] at h
    by_cases h1 : i < n
    · rw [if_pos h1] at h
      have e : i.toNat = j := Option.some.inj h
      exact ⟨by rw [seqIndex_of h0 h1, e], by omega, by omega, h1⟩
    · rw [if_neg h1] at h; cases h
  · rw [if_neg h0] at h
    by_cases h1 : -(n : Int) ≤ i
    · rw [if_pos h1] at h
      have e : (i + n).toNat = j := Option.some.inj h
      exact ⟨by rw [seqIndex_neg (by omega) h1, e], by omega, h1, by omega⟩
    · rw [if_neg h1] at h; cases h
theorem WI {α : Type} {xs : List α} {i : Int} {v : α} (h : atI xs i = some v) : ∃ j, seqIndex? i xs.length = some j ∧ xs[j]? = some v ∧ j < xs.length ∧ -(xs.length : Int) ≤ i ∧ i < xs.length := by
  unfold atI at h
  cases e : ixN xs.length i with
  | none => rw [e] at h; cases h
  | some j =>
    rw [e] at h
    obtain ⟨h1, h2, h3, h4⟩ := zcG e
    exact ⟨j, h1, h, h2, h3, h4⟩
noncomputable def XR (b : Expr) : Prop := ∀ o i, subscripted b false o i = operate [o, i] (getItem o i)
noncomputable def IxR (X : Cx) (r : R2) : Prop :=
  ∀ (value slice : Expr) (pins : List (Addr × Obj)) (s : Shared) (σ : St) (H : Hp) (x y : V) (v u : Value) (Q : VK), Inv X pins σ H s → yT x v → yT y u → r x y H Q →
    subscripted slice false v u = operate [v, u] (getItem v u) → wpAny (model X.prog X.w) X.A (subscriptTail value slice v u) (EP X pins σ Q) X.xe s
noncomputable def MtR (X : Cx) (id : String) (r : V → List V → Hp → VK → Prop) : Prop :=
  ∀ (pins : List (Addr × Obj)) (s : Shared) (σ : St) (H : Hp) (x : V) (xs : List V) (v : Value) (us : List Value) (Q : VK), Inv X pins σ H s → yT x v → yC xs us → r x xs H Q →
    wpAny (model X.prog X.w) X.A (call (.builtin id) (v :: us)) (EP X pins σ Q) X.xe s
section
variable {X : Cx} {a b : Expr} {ta tb : TE} {pos : Pos}
theorem IxR.or {r r' : R2} (h : IxR X r) (h' : IxR X r') : IxR X (fun x y H Q => r x y H Q ∨ r' x y H Q) := by
  intro value slice pins s σ H x y v u Q I rx ry q hs
  rcases q with q | q
  · exact h value slice pins s σ H x y v u Q I rx ry q hs
  · exact h' value slice pins s σ H x y v u Q I rx ry q hs
theorem zfc {r : R2} (hr : IxR X r) (ha : PE X a ta) (hb : PE X b tb) (hs : XR b) : PE X (.Subscript a b pos) (tOp r ta tb) := by
  intro pins s σ H Q I h
  exact Subscript_ (ziv ha hb I h fun v u s2 x y H2 I2 rx ry q => hr a b pins s2 σ H2 x y v u Q I2 rx ry q (hs _ _))
noncomputable def rIxL (K : PySem.W.Frag) : R2 := fun x y H Q => ∃ p xs i v, x = .ref p ∧ y = .int i ∧ SqL K H p xs ∧ atI xs i = some v ∧ Q v H
noncomputable def rIxT (K : PySem.W.Frag) : R2 := fun x y H Q => ∃ p xs i v, x = .ref p ∧ y = .int i ∧ SqT K H p xs ∧ atI xs i = some v ∧ Q v H
noncomputable def rIxS : R2 := fun x y H Q => ∃ z i c, x = .str z ∧ y = .int i ∧ z.length ≤ sizeLine ∧ atI z.cps.toList i = some c ∧ Q (.str ⟨#[c]⟩) H
theorem ze1 : IxR X (rIxL X.K) := by
  intro value slice pins s σ H x y v u Q I rx ry h hs
  obtain ⟨p, xs, i, z, rfl, rfl, hq, he, q⟩ := h
  cases rx
  obtain ⟨t, rfl⟩ := ry
  obtain ⟨its, r, pl, hz⟩ := I.list hq
  obtain ⟨j, h1, h2, h3, h4, h5⟩ := WI he
  obtain ⟨w, ew, rw'⟩ := r.get h2
  have hl := r.length
  have hn := XC
  have fin : EP X pins σ Q w s := ⟨z, H, I, rw', q⟩
  by_cases h0 : 0 ≤ i
  · have hj : i.toNat = j := by
      rw [seqIndex_of h0 h5] at h1
      exact Option.some.inj h1
    exact item_listR pl.isList h0 (by omega) (by rw [hj]; simpa using ew) fin hs
  · have hj : (i + (its.toArray.size : Int)).toNat = j := by
      rw [seqIndex_neg (by omega) h4] at h1
      rw [List.size_toArray, ← hl]
      exact Option.some.inj h1
    exact subscriptTail_builtinR (x := w) pl.isList.typeIs slot_list_getitem.lookup
      (wpAny_getItem_list_neg (Q := fun r s' => r = w ∧ EP X pins σ Q r s') pl.isList (by omega) (by rw [List.size_toArray] <;> omega) (by omega) (by rw [hj]; simpa using ew) ⟨rfl, fin⟩) hs
theorem zew : IxR X (rIxT X.K) := by
  intro value slice pins s σ H x y v u Q I rx ry h hs
  obtain ⟨p, xs, i, z, rfl, rfl, hq, he, q⟩ := h
  cases rx
  obtain ⟨t, rfl⟩ := ry
  obtain ⟨its, r, pl, hz⟩ := I.tuple hq
  obtain ⟨j, h1, h2, h3, h4, h5⟩ := WI he
  obtain ⟨w, ew, rw'⟩ := r.get h2
  have hl := r.length
  have hn := XC
  have fin : EP X pins σ Q w s := ⟨z, H, I, rw', q⟩
  exact subscriptTail_builtinR (x := w) pl.typeIs slot_tuple_getitem.lookup
    (getItem_tuple (j := j) (Q := fun r s' => r = w ∧ EP X pins σ Q r s') pl (by omega) (by omega) (by rw [List.size_toArray, ← hl]; exact h1) (by simpa using ew) ⟨rfl, fin⟩) hs
theorem zhq : IxR X rIxS := by
  intro value slice pins s σ H x y v u Q I rx ry h hs
  obtain ⟨z, i, c, rfl, rfl, hz, he, q⟩ := h
  obtain ⟨t, rfl⟩ := rx
  obtain ⟨t', rfl⟩ := ry
  obtain ⟨j, h1, h2, h3, h4, h5⟩ := WI he
  have hl : z.cps.toList.length = z.length := by simp [Str.length]
  rw [hl] at h1 h4 h5
  have hn := XC
  exact tail_any (typeIs_str s z t) slot_str_getitem.lookup (getItem_str (c := c) (by
    have e1 : decide (i < -(2 ^ 63 : Int)) = false := decide_eq_false (by omega)
    have e2 : decide (i ≥ 2 ^ 63) = false := decide_eq_false (by omega)
    rw [e1, e2, Bool.or_false]) (by rw [h1]; simpa using h2) ⟨.str ⟨#[c]⟩, H, I.tok _, ⟨_, rfl⟩, q⟩) hs
noncomputable def rIx (K : PySem.W.Frag) : R2 := fun x y H Q => rIxL K x y H Q ∨ rIxT K x y H Q ∨ rIxS x y H Q
theorem zhh : IxR X (rIx X.K) := ze1.or (zew.or zhq)
theorem zbn (its : List Value) (n j : Nat) (u : Value) : Obj.mapSeq (·.setIfInBounds j u) { cls := .type "list", data := .seq its.toArray n } = { cls := .type "list", data := .seq (its.set j u).toArray n } := by
  simp [Obj.mapSeq]
theorem Inv.lst {pins : List (Addr × Obj)} {σ : St} {H : Hp} {s : Shared} {p : Addr} {xs : List V} (I : Inv X pins σ H s) (h : H p = some (.lst xs)) :
    ∃ (its : List Value) (n : Nat), yC xs its ∧ s.heap.get? p = some { cls := .type "list", data := .seq its.toArray n } ∧ xs.length ≤ sizeLine := by
  obtain ⟨z, its, n, r, e⟩ := I.hok p _ h
  exact ⟨its, n, r, e, z⟩
theorem Inv.lstUpd {pins : List (Addr × Obj)} {σ : St} {H : Hp} {s : Shared} {p : Addr} {xs ys : List V} {its its' : List Value} {n n' : Nat} {f : Obj → Obj} (I : Inv X pins σ H s) (h : H p = some (.lst xs))
    (ho : s.heap.get? p = some { cls := .type "list", data := .seq its.toArray n }) (hf : f { cls := .type "list", data := .seq its.toArray n } = { cls := .type "list", data := .seq its'.toArray n' }) (r : yC ys its') (hz : ys.length ≤ sizeLine) (t : Nat) :
    Inv X pins σ (upd H p (.lst ys)) { s with heap := s.heap.update p f, toks := t } := by
  have e : (s.heap.update p f).get? p = some { cls := .type "list", data := .seq its'.toArray n' } := by
    rw [Heap.get?_update_self f ho (by rw [hf] <;> rfl), hf]
  refine I.write (x := p) (e := p) (by rw [h]; trivial) (.inl rfl) (fun b u hb q => (Heap.get?_update_other _ _ (Ne.symm hb)).trans q) ⟨_, e⟩ ?_
  exact ⟨hz, its', n', r, e⟩
noncomputable def ziE : V → V → V → Hp → (Hp → Prop) → Prop := fun o i v H Q => ∃ p xs k j, o = .ref p ∧ i = .int k ∧ H p = some (.lst xs) ∧ ixN xs.length k = some j ∧ Q (upd H p (.lst (xs.set j v)))
theorem zeb : PSet X ziE := by
  intro pins s σ H o i v ov iv u Q I ro ri rv h
  obtain ⟨p, xs, k, j, rfl, rfl, hp, hj, q⟩ := h
  cases ro
  obtain ⟨t, rfl⟩ := ri
  obtain ⟨its, n, r, ho, hz⟩ := I.lst hp
  obtain ⟨h1, h2, h3, h4⟩ := zcG hj
  have hl := r.length
  have hn := XC
  have I' : Inv X pins σ (upd H p (.lst (xs.set j v))) { s with heap := s.heap.update p (Obj.mapSeq (·.setIfInBounds j u)) } :=
    I.lstUpd hp ho (zbn its n j u) (r.set rv j) (by rw [List.length_set]; exact hz) s.toks
  by_cases h0 : 0 ≤ k
  · have hk : k.toNat = j := by
      rw [seqIndex_of h0 h4] at h1
      exact Option.some.inj h1
    exact PySem.W.ki_setAt ho h0 (by omega) (by rw [List.size_toArray, ← hl]; exact h4) (by rw [hk]; exact ⟨_, I', q⟩)
  · have hk : (k + (its.toArray.size : Int)).toNat = j := by
      rw [seqIndex_neg (by omega) h3] at h1
      rw [List.size_toArray, ← hl]
      exact Option.some.inj h1
    exact PySem.W.ki_setBack ho (by omega) (by rw [List.size_toArray, ← hl]; exact h3) (by omega) (by rw [hk]; exact ⟨_, I', q⟩)
theorem Vq (lo hi : Option Int) (n : Nat) : (sliceBounds lo hi none n).1 = ((HT.sIx n 0 lo : Nat) : Int) ∧ (sliceBounds lo hi none n).2.1 = ((HT.sIx n n hi : Nat) : Int) ∧ (sliceBounds lo hi none n).2.2 = 1 := by
  refine ⟨?_, ?_, rfl⟩
  · cases lo with
    | none => simp [sliceBounds, HT.sIx]
    | some i =>
      simp only [sliceBounds, HT.sIx, Option.getD_none, show (1 : Int) > 0 by decide, if_true]
      by_cases h : i < 0
      · simp only [h, if_true] <;> omega
      · simp only [h, if_false] <;> omega
  · cases hi with
    | none => simp [sliceBounds, HT.sIx]
    | some i =>
      simp only [sliceBounds, HT.sIx, Option.getD_none, show (1 : Int) > 0 by decide, if_true]
      by_cases h : i < 0
      · simp only [h, if_true] <;> omega
      · simp only [h, if_false] <;> omega
theorem Wz (its : List Value) (lo hi : Option Int) : slicePick its.toArray lo hi none = ((its.drop (HT.sIx its.length 0 lo)).take (HT.sIx its.length its.length hi - HT.sIx its.length 0 lo)).toArray := by
  obtain ⟨h1, h2, h3⟩ := Vq lo hi its.toArray.size
  unfold slicePick
  rw [h1, h2, h3]
  simp only [sliceRange_one, pick_run, List.size_toArray] <;> rfl
noncomputable def rSlL (K : PySem.W.Frag) : V → Option Int → Option Int → Hp → VK → Prop := fun x lo hi H Q => ∃ a xs, x = .ref a ∧ SqL K H a xs ∧ ∀ p, H p = none → Q (.ref p) (upd H p (.lst (zaq xs lo hi)))
theorem zff : SlR X (rSlL X.K) := by
  intro pins s σ H x v vl vu lo hi sl Q I rx hs pl pu h
  obtain ⟨a, xs, rfl, hx, q⟩ := h
  cases rx
  obtain ⟨its, r, ht, hz⟩ := I.list hx
  have hlen := r.length
  refine ⟨"list", _, slot_list_getitem.lookup, ht.isList.typeIs, ?_⟩
  refine wpAny_getItem_list_slice ht.isList hs pl pu .none (by simp) ?_ (by rw [List.size_toArray] <;> omega)
  rw [Wz, ← hlen]
  refine ⟨.ref s.heap.objs.size, _, I.laid (t' := s.toks) (o := .lst (zaq xs lo hi)) (fun b ob q => Heap.get?_push_of_some _ q) (Nat.le_refl _) ?_, rfl, q _ (I.hok.fresh (Nat.le_refl _))⟩
  exact ⟨Nat.le_trans (Xy xs lo hi) hz, _, 0, (r.drop (HT.sIx xs.length 0 lo)).take (HT.sIx xs.length xs.length hi - HT.sIx xs.length 0 lo), Heap.get?_push_size _ rfl⟩
noncomputable def zfX : V → Bool
  | .non => true
  | .bl _ => true
  | .int _ => true
  | .str _ => true
  | _ => false
noncomputable def eqV : V → V → Bool
  | .non, .non => true
  | .bl a, .bl b => a == b
  | .bl a, .int b => (if a then 1 else 0) == b
  | .int a, .bl b => a == (if b then 1 else 0)
  | .int a, .int b => a == b
  | .str a, .str b => a == b
  | _, _ => false
theorem zeX {A : Around} {s : Shared} {y x : V} {u v : Value} (ry : yT y u) (rx : yT x v) (fy : zfX y = true) (fx : zfX x = true) : SeqAt.EqAt A s u v (eqV y x) := by
  cases y with
  | non =>
    cases ry
    cases x with
    | non => cases rx; exact SeqAt.EqAt.same _
    | bl b => cases rx; exact SeqAt.EqAt.none_bool b
    | int b => obtain ⟨t, rfl⟩ := rx; exact SeqAt.EqAt.none_int b t
    | str b => obtain ⟨t, rfl⟩ := rx; exact SeqAt.EqAt.none_str b t
    | _ => exact absurd (show false = true from fx) Bool.false_ne_true
  | bl a =>
    cases ry
    cases x with
    | non => cases rx; exact SeqAt.EqAt.bool_none a
    | bl b => cases rx; exact SeqAt.EqAt.bool_bool a b
    | int b => obtain ⟨t, rfl⟩ := rx; exact SeqAt.EqAt.bool_int a b t
    | str b => obtain ⟨t, rfl⟩ := rx; exact SeqAt.EqAt.bool_str a b t
    | _ => exact absurd (show false = true from fx) Bool.false_ne_true
  | int a =>
    obtain ⟨t', rfl⟩ := ry
    cases x with
    | non => cases rx; exact SeqAt.EqAt.int_none a t'
    | bl b => cases rx; exact SeqAt.EqAt.int_bool a t' b
    | int b => obtain ⟨t, rfl⟩ := rx; exact SeqAt.EqAt.int_int a t' b t
    | str b => obtain ⟨t, rfl⟩ := rx; exact SeqAt.EqAt.int_str a t' b t
    | _ => exact absurd (show false = true from fx) Bool.false_ne_true
  | str a =>
    obtain ⟨t', rfl⟩ := ry
    cases x with
    | non => cases rx; exact SeqAt.EqAt.str_none a t'
    | bl b => cases rx; exact SeqAt.EqAt.str_bool a t' b
    | int b => obtain ⟨t, rfl⟩ := rx; exact SeqAt.EqAt.str_int a t' b t
    | str b => obtain ⟨t, rfl⟩ := rx; exact SeqAt.EqAt.str_str a t' b t
    | _ => exact absurd (show false = true from fx) Bool.false_ne_true
  | _ => exact absurd (show false = true from fy) Bool.false_ne_true
theorem zN : YS X (.builtin "len") (fun xs H Q => ∃ p ys, xs = [.ref p] ∧ (SqL X.K H p ys ∨ SqT X.K H p ys) ∧ Q (.int ys.length) H) := by
  intro pins s σ H xs us Q I r h
  obtain ⟨p, ys, rfl, hq, q⟩ := h
  obtain ⟨u, rfl, rx⟩ := VL r
  cases rx
  have hn := XC
  rcases hq with hq | hq
  · obtain ⟨its, r', pl, hz⟩ := I.list hq
    have hlen := r'.length
    exact Calls.call_len_list pl.isList (by simp only [List.size_toArray] <;> omega) ⟨.int ys.length, H, I.tok _, ⟨s.toks + 1, by rw [List.size_toArray, hlen]⟩, q⟩
  · obtain ⟨its, r', pl, hz⟩ := I.tuple hq
    have hlen := r'.length
    exact len_tuple pl (by simp only [List.size_toArray] <;> omega) ⟨.int ys.length, H, I.tok _, ⟨s.toks + 1, by rw [List.size_toArray, hlen]⟩, q⟩
theorem Vy : YS X (.type "list") (fun xs H Q => ∃ p ys, xs = [.ref p] ∧ (SqL X.K H p ys ∨ SqT X.K H p ys) ∧ ∀ l, H l = none → Q (.ref l) (upd H l (.lst ys))) := by
  intro pins s σ H xs us Q I r h
  obtain ⟨p, ys, rfl, hq, q⟩ := h
  obtain ⟨u, rfl, rx⟩ := VL r
  cases rx
  have fin : ∀ (its : List Value), yC ys its → ys.length ≤ sizeLine → ∀ (h' : Heap) (c' : Nat), (∀ b o', s.heap.get? b = some o' → h'.get? b = some o') →
      h'.get? s.heap.objs.size = some { cls := .type "list", dict := none, data := .seq its.toArray c', slots := #[] } → EP X pins σ Q (.ref s.heap.objs.size) { s with heap := h' } := fun its r' hz h' c' kp e =>
    ⟨.ref s.heap.objs.size, _, I.laid (t' := s.toks) kp (Nat.le_refl _) (show yV X.prog X.w _ h' _ (.lst ys) from ⟨hz, its, c', r', e⟩), rfl, q _ (I.hok.fresh (Nat.le_refl _))⟩
  rcases hq with hq | hq
  · obtain ⟨its, r', pl, hz⟩ := I.list hq
    have hlen := r'.length
    obtain ⟨o, ho, hc, n, hd⟩ := pl.isList
    exact call_list_seq p (.inl rfl) ho hc hd (fun h' c' kp e => fin its r' hz h' c' kp e) (by simp only [List.size_toArray] <;> omega)
  · obtain ⟨its, r', pl, hz⟩ := I.tuple hq
    have hlen := r'.length
    obtain ⟨o, ho, hc, n, hd⟩ := pl
    exact call_list_seq p (.inr rfl) ho hc hd (fun h' c' kp e => fin its r' hz h' c' kp e) (by simp only [List.size_toArray] <;> omega)
theorem xy : YS X (.type "tuple") (fun xs H Q => ∃ p ys, xs = [.ref p] ∧ ((SqL X.K H p ys ∧ ∀ l, H l = none → Q (.ref l) (upd H l (.tup ys))) ∨ (SqT X.K H p ys ∧ Q (.ref p) H))) := by
  intro pins s σ H xs us Q I r h
  obtain ⟨p, ys, rfl, h⟩ := h
  obtain ⟨u, rfl, rx⟩ := VL r
  cases rx
  rcases h with ⟨hq, q⟩ | ⟨hq, q⟩
  · obtain ⟨its, r', pl, hz⟩ := I.list hq
    have hlen := r'.length
    refine call_tuple_list pl.isList (fun h' kp => ?_) (by simp only [List.size_toArray] <;> omega)
    have I1 : Inv X pins σ H { s with heap := h' } := I.kept (t' := s.toks) kp
    have I2 : Inv X pins σ (upd H h'.objs.size (.tup ys)) { s with heap := h'.push { cls := .type "tuple", data := .seq its.toArray } } :=
      I1.laid (t' := s.toks) (fun b o e => Heap.get?_push_of_some _ e) (Nat.le_refl _) (show yV X.prog X.w _ _ _ (.tup ys) from ⟨hz, its, r', IsTup.new _ _⟩)
    exact ⟨.ref h'.objs.size, _, I2, rfl, q _ (I1.hok.fresh (Nat.le_refl _))⟩
  · obtain ⟨its, r', pl, hz⟩ := I.tuple hq
    exact call_tuple_same pl ⟨.ref p, H, I, rfl, q⟩
noncomputable def tyV (K : PySem.W.Frag) (T : String) (x : V) (H : Hp) : Prop := match x with
  | .str _ => T = "str"
  | .int _ => T = "int"
  | .ref p => (T = "list" ∧ ∃ xs, SqL K H p xs) ∨ (T = "tuple" ∧ ∃ o, K.lookup p = some o ∧ o.cls = .type "tuple" ∧ o.dict = none) ∨
      (T = "dict" ∧ ((∃ kvs, H p = some (.dK kvs)) ∨ ∃ kvs, H p = some (.dT kvs))) ∨ (T = "set" ∧ ∃ S n, H p = some (.set S n))
  | _ => False
theorem zhs {pins : List (Addr × Obj)} {σ : St} {H : Hp} {s : Shared} {T : String} {x : V} {v : Value} (I : Inv X pins σ H s) (r : yT x v) (ty : tyV X.K T x H) :
    s.TypeIs v T ∧ ∀ a, v = .ref a → ∃ ob, s.heap.get? a = some ob ∧ ob.dict = none := by
  cases x with
  | str z =>
    obtain ⟨t, rfl⟩ := r
    cases (show T = "str" from ty)
    exact ⟨typeIs_str s z t, fun _ e => nomatch e⟩
  | int i =>
    obtain ⟨t, rfl⟩ := r
    cases (show T = "int" from ty)
    exact ⟨typeIs_int s i t, fun _ e => nomatch e⟩
  | ref p =>
    cases r
    rcases ty with ⟨rfl, xs, hq⟩ | ⟨rfl, o, hk, hc, hd⟩ | ⟨rfl, hk⟩ | ⟨rfl, S, n, hk⟩
    · obtain ⟨its, _, pl, _⟩ := I.list hq
      refine ⟨pl.isList.typeIs, fun a e => ?_⟩
      cases e
      obtain ⟨o, n, e, c, hd, _⟩ := pl
      exact ⟨o, e, hd⟩
    · refine ⟨⟨o, I.kIn p o hk, hc⟩, fun a e => ?_⟩
      cases e
      exact ⟨o, I.kIn _ o hk, hd⟩
    · have z : ∃ o, s.heap.get? p = some o ∧ o.ExactDict := by
        rcases hk with ⟨kvs, hk⟩ | ⟨kvs, hk⟩
        · obtain ⟨_, _, _, _, o, _, _, e, ex, _⟩ := I.hok p _ hk
          exact ⟨o, e, ex⟩
        · obtain ⟨_, _, _, _, o, _, _, e, ex, _⟩ := I.hok p _ hk
          exact ⟨o, e, ex⟩
      obtain ⟨o, e, ex⟩ := z
      refine ⟨⟨o, e, ex.1⟩, fun a e2 => ?_⟩
      cases e2
      exact ⟨o, e, ex.2.1⟩
    · obtain ⟨o, _, _, _, e, ex, _⟩ := I.hok p _ hk
      refine ⟨⟨o, e, ex.1⟩, fun a e2 => ?_⟩
      cases e2
      exact ⟨o, e, ex.2.1⟩
  | _ => exact False.elim ty
noncomputable def tBM (K : PySem.W.Frag) (T : String) (r : V → List V → Hp → VK → Prop) (to : TE) (t : TA) : TE := fun σ H Q => to σ H fun x H1 => tyV K T x H1 ∧ t σ H1 fun xs H2 => r x xs H2 Q
variable {o e : Expr} {es : List Expr} {to : TE} {t : TA} {name : Str} {apos cpos : Pos} {T id : String} {r : V → List V → Hp → VK → Prop}
theorem WT (pa : PlainAttrs T) (slot : Slot T name id) (hty : typeOf (.builtin id) = pure (.type "method_descriptor")) (hm : MtR X id r) (ho : PE X o to) (ha : PA X (e :: es) t)
    (hbase : attributeBase o name X.env (eval o X.env) = eval o X.env := by rfl)
    (hfew : ((backTo cpos (starEach (e :: es) X.env)).all (fun x => !x.1) && (backToKw cpos (keywordEach [] X.env)).all (fun x => x.1.isSome)
      && decide ((e :: es).length + ([] : List Keyword).length + (if ([] : List Keyword).isEmpty then 0 else 1) < 30)) = true := by rfl)
    (hline : (apos.endLine == cpos.line) = true := by rfl) (hs : starEach (e :: es) X.env = (false, eval e X.env) :: starEach es X.env := by rfl) (hplain : (backTo cpos (starEach es X.env)).any (·.1) = false := by rfl) :
    PE X (.Call (.Attribute o name apos) (e :: es) [] cpos) (tBM X.K T r to t) := by
  intro pins s σ H Q I h
  refine wpAny_Call_method_late hbase hfew hline rfl (thn (ho pins s σ H _ I h) fun v s1 hh9 => ?_)
  obtain ⟨x, H1, I1, r1, ty, q1⟩ := hh9
  obtain ⟨h1, h2⟩ := zhs I1 r1 ty
  refine ⟨T, id, pa, slot, hty, h1, h2, ?_⟩
  have hA := ha cpos pins s1 σ H1 _ I1 q1
  rw [hs] at hA ⊢
  refine Calls.callWith_builtin (by show (false || (backTo cpos (starEach es X.env)).any (·.1)) = false; rw [hplain] <;> rfl) (Calls.evalArgs_plain ?_)
  exact thn hA fun us s2 ⟨vs, H2, I2, r2, q2⟩ => hm pins s2 σ H2 x vs v us Q I2 r1 r2 q2
/- xs.append(e), list.index on a module's tuple .. are MtR facts of 06m -/
end
end L2
namespace L2
open PySem PySem.Spec PyProof.Rows
noncomputable def MtM (X : Cx) (id : String) (r : V → List V → Hp → VK → Prop) : Prop :=
  ∀ (pins : List (Addr × Obj)) (s : Shared) (σ : St) (H : Hp) (x : V) (xs : List V) (v : Value) (us : List Value) (Q : VK), Inv X pins σ H s → yT x v → yC xs us → r x xs H Q →
    wpAny (model X.prog X.w) X.A (call (.builtin id) (v :: us)) (EP X pins σ Q) X.xe s
theorem yC.one : ∀ {x : V} {us : List Value}, yC [x] us → ∃ u, us = [u] ∧ yT x u := by
  intro x us h
  cases h with | cons r t => cases t; exact ⟨_, rfl, r⟩
theorem yC.reverse {xs : List V} {us : List Value} (h : yC xs us) : yC xs.reverse us.reverse := by
  induction h with
  | nil => exact .nil
  | cons r t ih => rw [List.reverse_cons, List.reverse_cons]; exact yC.append ih (.cons r .nil)
theorem yC.rep {xs : List V} {us : List Value} (h : yC xs us) : ∀ k : Nat, yC (List.replicate k xs).flatten (List.replicate k us).flatten
  | 0 => .nil
  | k + 1 => by
    rw [List.replicate_succ, List.replicate_succ, List.flatten_cons, List.flatten_cons]
    exact yC.append h (yC.rep h k)
theorem XA (its : List Value) : ∀ (k : Nat) (acc : List Value),
    List.foldl (fun x1 x2 => x1 ++ x2) acc.toArray (List.replicate k its.toArray) = (acc ++ (List.replicate k its).flatten).toArray
  | 0, acc => by simp
  | k + 1, acc => by
    have e : acc.toArray ++ its.toArray = (acc ++ its).toArray := by simp
    have e2 : (acc ++ its) ++ (List.replicate k its).flatten = acc ++ (List.replicate (k + 1) its).flatten := by
      rw [List.replicate_succ, List.flatten_cons, List.append_assoc]
    rw [← e2, ← XA its k (acc ++ its), ← e, List.replicate_succ, List.foldl_cons]
section
variable {X : Cx} {pins : List (Addr × Obj)} {σ : St} {H : Hp} {s : Shared} {l b : Addr} {xs ys zs : List V}
theorem Inv.lset {its its' : List Value} {n : Nat} {f : Array Value → Array Value} {t' : Nat} (I : Inv X pins σ H s) (hH : H l = some (.lst xs))
    (e : s.heap.get? l = some { cls := .type "list", data := .seq its.toArray n }) (hf : f its.toArray = its'.toArray) (hv : yC ys its') (hz : ys.length ≤ sizeLine) :
    Inv X pins σ (upd H l (.lst ys)) { s with heap := s.heap.update l (Obj.mapSeq f), toks := t' } := by
  have q := PySem.IsL.update e f
  rw [hf] at q
  refine I.write (x := l) (e := l) (by rw [hH]; exact trivial) (.inl rfl) (fun b' u hb hu => (Heap.get?_update_other s.heap (Obj.mapSeq f) (Ne.symm hb)).trans hu) ⟨_, q⟩ ?_
  exact ⟨hz, its', _, hv, q⟩
theorem Inv.lnew {its : List Value} {t' : Nat} (I : Inv X pins σ H s) (hv : yC ys its) (hz : ys.length ≤ sizeLine) :
    Inv X pins σ (upd H s.heap.objs.size (.lst ys)) { s with heap := s.heap.push { cls := .type "list", data := .seq its.toArray }, toks := t' } :=
  I.laid (fun _ _ q => Heap.get?_push_of_some _ q) (Nat.le_refl _) ⟨hz, its, 0, hv, Heap.get?_push_size _ rfl⟩
theorem Inv.fresh (I : Inv X pins σ H s) : H s.heap.objs.size = none := I.hok.fresh (Nat.le_refl _)
theorem Inv.lstM (I : Inv X pins σ H s) (hH : H l = some (.lst xs)) : xs.length ≤ sizeLine ∧ ∃ (its : List Value) (n : Nat), yC xs its ∧ xs.length = its.length ∧ s.heap.get? l = some { cls := .type "list", data := .seq its.toArray n } := by
  obtain ⟨z, its, n, r, e⟩ := I.hok l _ hH
  exact ⟨z, its, n, r, r.length, e⟩
theorem zaO {n : Nat} (h : n ≤ sizeLine) : Builtin.List.listTooLong n = false := by
  unfold Builtin.List.listTooLong
  exact decide_eq_false (by omega)
end
section
variable {X : Cx}
noncomputable def zcN : V → List V → Hp → VK → Prop := fun x vs H Q => ∃ l xs y, x = .ref l ∧ vs = [y] ∧ H l = some (.lst xs) ∧ xs.length < sizeLine ∧ Q .non (upd H l (.lst (xs ++ [y])))
theorem Y1 : MtM X "list.append" zcN := by
  intro pins s σ H x vs v us Q I rx rv h
  obtain ⟨l, xs, y, rfl, rfl, hH, hz, q⟩ := h
  cases rx
  obtain ⟨u, rfl, ru⟩ := rv.one
  obtain ⟨z, its, n, r, hl, e⟩ := I.lstM hH
  refine call_meets F.slot_list_append ⟨_, e, rfl⟩ F.entry_list_append (F.args_list_append_2 _ _) (PySem.list_append l its.toArray n u (by rw [List.size_toArray]; omega)) ⟨e, ?_⟩
  refine ⟨.non, _, I.lset (its' := its ++ [u]) hH e (by simp) (r.append (.cons ru .nil)) ?_, rfl, q⟩
  rw [List.length_append, List.length_singleton]
  omega
noncomputable def zcF : V → List V → Hp → VK → Prop := fun x vs H Q => ∃ l b xs zs, x = .ref l ∧ vs = [.ref b] ∧ H l = some (.lst xs) ∧ H b = some (.lst zs) ∧ xs.length + zs.length ≤ sizeLine ∧ Q .non (upd H l (.lst (xs ++ zs)))
theorem Xg : MtM X "list.extend" zcF := by
  intro pins s σ H x vs v us Q I rx rv h
  obtain ⟨l, b, xs, zs, rfl, rfl, hH, hB, hz, q⟩ := h
  cases rx
  obtain ⟨u, rfl, ru⟩ := rv.one
  cases ru
  obtain ⟨z, its, n, r, hl, e⟩ := I.lstM hH
  obtain ⟨z2, its2, n2, r2, hl2, e2⟩ := I.lstM hB
  have hsz : its.toArray.size + its2.toArray.size ≤ sizeLine := by rw [List.size_toArray, List.size_toArray]; omega
  have hlong : ¬ (!its.toArray.isEmpty && Builtin.List.listTooLong (its.toArray.size + its2.toArray.size)) = true := by
    rw [zaO hsz, Bool.and_false]
    exact Bool.false_ne_true
  refine call_meets F.slot_list_extend ⟨_, e, rfl⟩ F.entry_list_extend (F.args_list_extend_2 _ _)
    (AutoSeq1.list_extend_list_list_0 l its.toArray n b its2.toArray n2 hlong (by rw [List.size_toArray]; omega) (by omega)) ⟨e, e2, ?_⟩
  refine ⟨.non, _, I.lset (its' := its ++ its2) hH e (by simp) (r.append r2) ?_, rfl, q⟩
  rw [List.length_append]
  omega
noncomputable def zid : R2 := fun x y H Q => ∃ l b xs zs, x = .ref l ∧ y = .ref b ∧ H l = some (.lst xs) ∧ H b = some (.lst zs) ∧ xs.length + zs.length ≤ sizeLine ∧ ∀ p, H p = none → Q (.ref p) (upd H p (.lst (xs ++ zs)))
theorem za8 : OpR X (binaryOp .Add) zid := by
  intro pins s σ H x y v u Q I rx ry h
  obtain ⟨l, b, xs, zs, rfl, rfl, hH, hB, hz, q⟩ := h
  cases rx
  cases ry
  obtain ⟨z, its, n, r, hl, e⟩ := I.lstM hH
  obtain ⟨z2, its2, n2, r2, hl2, e2⟩ := I.lstM hB
  refine PySem.P.add_list e e2 ?_ (by rw [List.size_toArray, List.size_toArray]; omega)
  have ea : its.toArray ++ its2.toArray = (its ++ its2).toArray := by simp
  rw [ea]
  exact ⟨.ref _, _, I.lnew (t' := s.toks) (r.append r2) (by rw [List.length_append]; omega), rfl, q _ I.fresh⟩
noncomputable def rRep : R2 := fun x y H Q => ∃ l k xs, x = .ref l ∧ y = .int k ∧ H l = some (.lst xs) ∧ -(2 ^ 63) ≤ k ∧ k < 2 ^ 63 ∧ xs.length * k.toNat ≤ sizeLine ∧
  ∀ p, H p = none → Q (.ref p) (upd H p (.lst (List.replicate k.toNat xs).flatten))
theorem zaz {α : Type} (xs : List α) (k : Nat) : (List.replicate k xs).flatten.length = k * xs.length := by
  induction k with
  | zero => simp
  | succ k ih => rw [List.replicate_succ, List.flatten_cons, List.length_append, ih, Nat.succ_mul, Nat.add_comm]
theorem zg4 : OpR X (binaryOp .Mult) rRep := by
  intro pins s σ H x y v u Q I rx ry h
  obtain ⟨l, k, xs, rfl, rfl, hH, h1, h2, hz, q⟩ := h
  cases rx
  obtain ⟨t, rfl⟩ := ry
  obtain ⟨z, its, n, r, hl, e⟩ := I.lstM hH
  have hlen : its.toArray.size * k.toNat ≤ sizeLine := by rw [List.size_toArray, ← hl]; exact hz
  have hcap : ¬ its.toArray.size * k.toNat > (2 ^ 63 - 1) / 8 := by
    have : (sizeLine : Nat) ≤ (2 ^ 63 - 1) / 8 := by decide
    omega
  have hfit : ¬ (!Builtin.List.listFitsIndex k) = true := by
    rw [fitsIndex_both h1 h2]
    exact Bool.false_ne_true
  have hlong : ¬ Builtin.List.listTooLong (its.toArray.size * k.toNat) = true := by
    rw [zaO hlen]
    exact Bool.false_ne_true
  have hnew : List.foldl (fun x1 x2 => x1 ++ x2) #[] (List.replicate (if its.toArray.isEmpty = true then 0 else k.toNat) its.toArray) = (List.replicate k.toNat its).flatten.toArray := by
    have f0 : ∀ m : Nat, List.foldl (fun x1 x2 => x1 ++ x2) #[] (List.replicate m its.toArray) = (List.replicate m its).flatten.toArray := fun m => by
      have := XA its m []
      rw [List.nil_append] at this
      exact this
    rw [f0]
    cases its with
    | nil => simp
    | cons a r' => rw [if_neg (by simp)]
  refine wpAny_binaryOp_repeat_ref (T := "list") (U := "int") (by decide) ⟨_, e, rfl⟩ (fun s' => typeIs_int s' k t) noFill_list_mul F.fills_int_mul F.slot_int_rmul repeat_list F.slot_int_index.lookup
    (call_meets F.slot_int_rmul (typeIs_int s k t) F.entry_int_rmul (F.args_int_rmul_2 _ _) (int___rmul___int_list k t l its.toArray n)
      ⟨e, rfl, ⟨_, e, rfl⟩, call_meets F.slot_list_mul ⟨_, e, rfl⟩ F.entry_list_mul (F.args_list_mul_2 _ _) (AutoListH.list___mul___list_int_3 l its.toArray n k t hfit hcap hlong) ⟨e, ?_⟩⟩)
  rw [hnew]
  exact ⟨.ref _, _, I.lnew (t' := s.toks) (r.rep k.toNat) (by rw [zaz, Nat.mul_comm]; exact hz), rfl, q _ I.fresh⟩
end
section
variable {prog : Program} {w : World} {A : Around} {E : Value → Shared → Prop} {s : Shared}
end
section
variable {X : Cx}
end
end L2
namespace Att
open PySem PySem.W PySem.Calls PyProof.Rows
theorem X0 {P : Params} {h : Heap} : ∀ (ns : List Int) (vs : List Value), WellAll P h vs (ns.map WData.int) → IntsAre vs ns := by
  intro ns
  induction ns with
  | nil =>
    intro vs w
    rw [List.map_nil] at w
    cases w
    exact .nil
  | cons n ns ih =>
    intro vs w
    rw [List.map_cons] at w
    cases w with
    | cons a b =>
      cases a
      exact .cons _ _ (ih _ b)
theorem zbN {l : OpenLaw} {n : Nat} (hn : l.most = some n) {P : Params} {h : Heap} {args : List WData} {vals : List Value}
    (hpre : l.row.toRowW.claim.pre args = true) (hwl : WellAll P h vals args) :
    ∃ a vs ns, vals = [Value.ref a] ∧ args = [WData.list (ns.map WData.int)] ∧ h.get? a = some { cls := .type "list", data := .seq vs.toArray } ∧ IntsAre vs ns ∧ ns.length ≤ n := by
  have hsh : WShape.hasAll [] args [.list .int] = true := (pre_splitW hpre).1
  have hc : l.pre.holds [] { args := args } = true := (pre_splitW hpre).2
  obtain ⟨d, r, rfl, h1, h2⟩ := hasAllW_cons hsh
  obtain rfl := hasAllW_nil h2
  obtain ⟨xs, rfl, h3⟩ := hasW_list h1
  obtain ⟨ns, rfl⟩ := items_int h3
  have hlen : ns.length ≤ n := by
    unfold OpenLaw.pre at hc
    have h4 : (WTm.not (.lt (.lit (.int (n : Int))) (.len (.arg 0)))).holds [] { args := [.list (ns.map .int)] } = true := by
      have h4 := (holds_andW hc).1
      rw [hn] at h4
      exact h4
    have h5 := condW_of h4 (w_not (w_lt w_lit (w_len_list (w_arg rfl))))
    rw [List.length_map] at h5
    refine Nat.le_of_not_lt fun q => ?_
    have q' : (n : Int) < ((ns.length : Nat) : Int) := by omega
    first
      | (rw [decide_eq_true q'] at h5; exact absurd h5 (by decide))
      | (simp at h5; omega)
  cases hwl with
  | cons w1 w2 =>
    cases w2
    cases w1 with
    | list ho hall => exact ⟨_, _, ns, rfl, rfl, ho, X0 ns _ hall, hlen⟩
theorem zci (l : OpenLaw) (args : List WData) : l.row.toRowW.claim.post args (.bool true) args = true :=
  postW_of (r := l.row.toRowW) (X := (true == true))
    (show WShape.has [] (.bool true) .bool = true by first | rfl | decide | simp [WShape.has, WShape.arms, WShape.armsAll])
    (show (WTm.eq .res (.lit (.bool true))).value [] { args := args, res := some (.bool true), after := args } = some (.bool (true == true)) from w_eq_bool (w_res rfl) w_lit) rfl
theorem attach_call {l : OpenLaw} {n : Nat} {q : Program} {loose : List Str} {XP : (Str → Option Value) → Heap → Prop} {YP : World → Heap → Prop} {d : DefRec}
    (hn : l.most = some n) (hdf : d.params.defaults = [])
    (call : ∀ (w : World) (s₀ s₁ : Shared) (mg mb : Str → Option Value) (fa : Addr) (o : Obj) (pm cd doc : Value) (a : Addr) (vs : List Value) (ns : List Int),
      Ground q loose [] XP w s₀ mg mb s₁.heap → YP w s₁.heap →
      s₁.heap.get? fa = some o → o.data = .func (docDef d.name d.params d.body d.scope pm cd doc) → s₁.heap.CodeRec cd d.name → mg d.name = some (.ref fa) →
      s₁.heap.get? a = some { cls := .type "list", data := .seq vs.toArray } → IntsAre vs ns → ns.length ≤ n → s₁.gens = #[] →
      codeAny (model l.prog w) callerA (.call (.ref fa) ⟨[.ref a], []⟩) (fun r s' => r = .ok (.ret (.bool true)) ∧ OldK s₁.heap s'.heap ∧ s'.os = s₁.os ∧ AllBare s'.gens) s₁) :
    WalkO q loose XP YP l.row.toRowW d [] (fun f vs => PySem.call f vs) := by
  intro w s₀ s₁ mg mb G Y fa o pm cd doc dV kV ho hd hcd hD hmg hg args vals as hpre hlay hrd hwl hlo
  obtain rfl : dV = .none := Dflts.none hD hdf
  obtain rfl : kV = .none := Dflts.noKw hD
  obtain ⟨a, vs, ns, rfl, rfl, hobj, hints, hlen⟩ := zbN hn hpre hwl
  refine enter_call (codeAny_mono (call w s₀ s₁ mg mb fa o pm cd doc a vs ns G Y ho (fd_plain hd) hcd hmg hobj hints hlen hg) fun r s' hq => ?_)
  obtain ⟨rfl, h2, h3, h4⟩ := hq
  exact ⟨.inl ⟨.bool true, .bool true, [], rfl, fun _ => rfl, .bool true, zci l _, fun _ => ⟨List.Pairwise.nil, fun _ hm => (nomatch hm)⟩⟩, h2, h3, h4⟩
section
variable {prog : Program} {w : World} {A : Around} {E : Value → Shared → Prop} {s : Shared} {K : Frag}
noncomputable def ledger (h : Heap) (L d : Addr) : List (Addr × Obj) := (List.range h.objs.size).filterMap fun a => if a = L ∨ a = d then none else (h.get? a).map fun o => (a, o)
end
end Att
namespace L2
open PySem PySem.Spec PyProof.Rows
theorem zco : ∀ {vs : List Value} {ns : List Int}, IntsAre vs ns → yC (ns.map V.int) vs := by
  intro vs ns h
  induction h with
  | nil => exact .nil
  | cons n t h ih => exact .cons ⟨t, rfl⟩ ih
noncomputable def zij (H : Hp) : Prop := ∀ b, H b = none ∨ ∃ o xs, H b = some (.frz o (.lst xs))
theorem zdF {P : Program} {w : World} {K : PySem.W.Frag} {mg mb : Str → Option Value} {CX : CXT} {k : Nat} {fa a : Addr} {fd : FuncData} {x : Str} {sp : Sp} {s₁ : Shared} {vs : List Value} {ns : List Int}
    (KX : K.In s₁.heap) (hns : s₁.heap.Ns mainGlobals mg) (hb : s₁.heap.Ns builtinsNs mb) (hbb : ∀ x : Str, x ≠ "__name__" → mb x = bootBuiltins x) (hlim : s₁.heap.NoLimit) (hg : s₁.gens = #[])
    (ha : s₁.heap.get? a = some { cls := .type "list", data := .seq vs.toArray }) (hi : IntsAre vs ns) (hl : ns.length ≤ sizeLine) (hr : Yk k callerA)
    (F : ∀ base : Heap, K.In base → base.Ns mainGlobals mg → yD P w K mg base CX k fa fd [x] sp) (hbind : ∀ (s : Shared) (u : Value), BindsTo s fd ⟨[u], []⟩ [(x, u)])
    (hsp : ∀ H : Hp, zij H → SqL K H a (ns.map V.int) → sp [.ref a] H (fun v _ => v = .bl true) fun _ _ _ => False)
    (hCX : ∀ H e s', CX [] H s₁ (fun _ _ _ => False) e s' → False) :
    codeAny (model P w) callerA (.call (.ref fa) ⟨[.ref a], []⟩) (fun r s' => r = .ok (.ret (.bool true)) ∧ OldK s₁.heap s'.heap ∧ s'.os = s₁.os ∧ AllBare s'.gens) s₁ := by
  have rv := zco hi
  have lenV := hi.length
  -- from an abstract heap in which nothing but the script may be tracked
  have core : ∀ H : Hp, zij H → SqL K H a (ns.map V.int) → HOk P w H s₁.heap → (∀ b, H b ≠ none → b = a) → (H a ≠ none → K.lookup a = none) →
      codeAny (model P w) callerA (.call (.ref fa) ⟨[.ref a], []⟩) (fun r s' => r = .ok (.ret (.bool true)) ∧ OldK s₁.heap s'.heap ∧ s'.os = s₁.os ∧ AllBare s'.gens) s₁ := by
    intro H hO hS hok hA hK
    have base_of : ∀ {b : Addr} {o : Obj}, s₁.heap.get? b = some o → H b = none → (zdT s₁.heap H).get? b = some o := fun e n => zd3 e n
    have noA : ∀ {b : Addr} {o : Obj} {es : Array DictEntry} {ep : Nat}, s₁.heap.get? b = some o → o.data = .dict es ep → H b = none := fun {b o es ep} e d => by
      cases q : H b with
      | none => rfl
      | some u =>
        have e' : b = a := hA b (by rw [q]; simp)
        subst e'
        rw [ha] at e; cases e
        have d' : Data.seq vs.toArray _ = Data.dict es ep := d
        cases d'
    have nsK : ∀ {b : Addr} {m : Str → Option Value}, s₁.heap.Ns b m → (zdT s₁.heap H).Ns b m := fun {b m} ⟨o, es, ep, e, d, r⟩ => ⟨o, es, ep, base_of e (noA e d), d, r⟩
    have hKb : K.In (zdT s₁.heap H) := fun b o e => base_of (KX b o e) (by
      cases q : H b with
      | none => rfl
      | some u =>
        have e' : b = a := hA b (by rw [q]; simp)
        subst e'
        rw [hK (by rw [q]; simp)] at e; cases e)
    have hM : Mod K mg (zdT s₁.heap H) := ⟨hKb, nsK hns, ⟨mb, nsK hb, hbb⟩, let ⟨mc, h1, h2⟩ := hlim; ⟨mc, nsK h1, h2⟩⟩
    have e0 : zhf P w K mg (zdT s₁.heap H) callerA [] s₁ H := ⟨rfl, hM, fun b o e => zfz e, Nat.le_of_eq (zbL _ _), trivial, fun b hb => absurd (show b ∈ ([] : List Addr) from hb) (by simp), hok, .of_eq hg⟩
    refine codeAny_mono ((F _ hKb (nsK hns)).run callerA [] s₁ H ⟨[.ref a], []⟩ [.ref a] [.ref a] _ _ hr e0 (hbind s₁ (.ref a)) (.cons rfl .nil) (hsp H hO hS)) fun r s' h => ?_
    cases r with
    | error e => exact (hCX H e s' h).elim
    | ok fl =>
      cases fl with
      | next => exact False.elim h
      | brk => exact False.elim h
      | cont => exact False.elim h
      | ret u =>
        obtain ⟨v, H', os, bare, un, hok', r', q⟩ := h
        have q' : v = .bl true := q
        subst q'
        obtain rfl : u = Value.bool true := r'
        refine ⟨rfl, OldK.of_keep fun b o e => ?_, os, bare⟩
        cases q : H b with
        | none => exact un.keep b o e q (by intro z; exact absurd (show b ∈ ([] : List Addr) from z) (by simp)) (by simp)
        | some u =>
          rcases hO b with z | ⟨ob, xs, z⟩
          · rw [q] at z; cases z
          · have z2 := un.frzs b ob _ z
            obtain ⟨e1, _⟩ := hok b _ z
            obtain ⟨e2, _⟩ := hok' b _ z2
            rw [e] at e1; cases e1
            exact e2
  cases hk : K.lookup a with
  | some o =>
    -- the script is one of the module's own objects
    have e := KX a o hk
    rw [ha] at e
    cases e
    refine core (fun _ => none) (fun _ => .inl rfl) (.inr ⟨_, vs.toArray, _, hk, rfl, rfl, rfl, by rw [List.size_toArray, lenV]; exact hl, by simpa using rv⟩) (fun b u z => by have z' : (none : Option HO) = some u := z; cases z') (fun b z => absurd rfl z) fun z => absurd rfl z
  | none =>
    refine core (fun b => if b = a then some (.frz { cls := .type "list", data := .seq vs.toArray } (.lst (ns.map V.int))) else none) (fun b => ?_) (.inl (.inr ⟨{ cls := .type "list", data := .seq vs.toArray }, if_pos rfl⟩)) (fun b u z => ?_) (fun b z => ?_) fun _ => hk
    · by_cases hb : b = a
      · exact .inr ⟨_, _, if_pos hb⟩
      · exact .inl (if_neg hb)
    · by_cases hb : b = a
      · have z' := (if_pos hb).symm.trans z
        cases z'
        subst hb
        exact ⟨ha, by rw [List.length_map]; exact hl, vs, _, rv, ha⟩
      · have z' := (if_neg hb).symm.trans z
        cases z'
    · by_cases hb : b = a
      · exact hb
      · exact absurd (if_neg hb) z
end L2
namespace L2
open PySem PySem.Spec PyProof.Rows
theorem walk_of {l : PySem.W.OpenLaw} {n k : Nat} {q : Program} {loose : List Str} {XP : (Str → Option Value) → Heap → Prop} {YP : World → Heap → Prop} {d : DefRec} {K : Params → PySem.W.Frag} {CX : World → CXT} {sp : World → Sp} {x : Str}
    (hn : l.most = some n) (hn2 : n ≤ sizeLine) (hdf : d.params.defaults = []) (hr : Yk k callerA)
    (hY : ∀ (w : World) (h : Heap), YP w h → (K w.params).In h)
    (F : ∀ (w : World) (mg : Str → Option Value) (fa : Addr) (h : Heap), (K w.params).In h → h.Ns mainGlobals mg → mg d.name = some (.ref fa) →
      ∃ fd : FuncData, (∀ (s : Shared) (u : Value), BindsTo s fd ⟨[u], []⟩ [(x, u)]) ∧
        ∀ base : Heap, (K w.params).In base → base.Ns mainGlobals mg → yD l.prog w (K w.params) mg base (CX w) k fa fd [x] (sp w))
    (hsp : ∀ (w : World) (H : Hp) (a : Addr) (ns : List Int), ns.length ≤ n → zij H → SqL (K w.params) H a (ns.map V.int) → sp w [.ref a] H (fun v _ => v = .bl true) fun _ _ _ => False)
    (hCX : ∀ (w : World) (H : Hp) (s : Shared) (e : Value) (s' : Shared), CX w [] H s (fun _ _ _ => False) e s' → False) :
    PySem.W.WalkO q loose XP YP l.row.toRowW d [] (fun f vs => PySem.call f vs) := by
  refine Att.attach_call hn hdf fun w s₀ s₁ mg mb fa o pm cd doc a vs ns G Y ho hd hcd hmg hobj hints hlen hg => ?_
  have KX := hY w _ Y
  obtain ⟨fd, hb, hF⟩ := F w mg fa _ KX G.T.g hmg
  exact zdF KX G.T.g G.T.b G.T.builtins G.T.nolimit hg hobj hints (Nat.le_trans hlen hn2) hr hF hb (fun H hO hS => hsp w H a ns hlen hO hS) fun H e s' => hCX w H s₁ e s'
end L2
namespace L2
open PySem PySem.Spec PyProof.Rows
noncomputable def zv (s : Stmt) : Arguments := match s with
  | .FunctionDef _ a _ _ _ _ _ _ _ _ => a
  | _ => { posonlyargs := [], args := [], vararg := none, kwonlyargs := [], kw_defaults := [], kwarg := none, defaults := [] }
noncomputable def zp (s : Stmt) : List Stmt := match s with
  | .FunctionDef _ _ b _ _ _ _ _ _ _ => b
  | _ => []
noncomputable def ze (s : Stmt) : Scope := match s with
  | .FunctionDef _ _ _ _ _ _ sc _ _ _ => sc
  | _ => { kind := .function, names := [], isGenerator := false, isCoroutine := false }
noncomputable abbrev CX0 : CXT := fun _ _ _ _ _ _ => False
noncomputable abbrev E0 : XK := fun _ _ _ => False
theorem zic {X : Cx} : ZQ CX0 X E0 := fun _ _ _ _ _ _ _ h => h.elim
set_option genInjectivity false in
set_option genSizeOf false in
set_option genCtorIdx false in
structure Fun (K : PySem.W.Frag) (x qual : Str) (st : Stmt) (f : Addr) (fd : FuncData) : Prop where
  ex : ∃ (oc : Value) (od : Option Addr) (kV doc pm : Value) (an : Option Addr) (cdv ct : Value) (osl : Array (Option Value)),
    fd = PySem.W.fnOf x qual (zv st) (zp st) (ze st) .none kV doc pm an cdv ct ∧ K.lookup f = some ⟨oc, od, .func fd, osl⟩ ∧ PySem.W.codeIn K cdv qual = true
  kp : PySem.W.keepIn K (.ref f) = true
section
variable {P : Program} {w : World} {K : PySem.W.Frag} {mg : Str → Option Value} {base : Heap}
theorem Fun.ok {x qual : Str} {st : Stmt} {f : Addr} {fd : FuncData} {N ps : List Str} {k : Nat} {sp : Sp} (F : Fun K x qual st f fd) (S : zt N ps (ze st)) (len : ∀ vs H Q E, sp vs H Q E → vs.length = ps.length)
    (hbody : ∀ (cdv : Value) (A : Around) (outer : List Env) (s : Shared) (H : Hp) (vs : List V) (Q : VK) (E : XK), Yk k (A.deeper (envOfC qual (ze st) s.heap.objs.size f cdv)) → sp vs H Q E →
      ∃ t, PSs (W3 CX0 P w K mg base N qual (ze st) f cdv A outer s H E).nox (zp st) t ∧ t { nx := fun _ H' => Q .non H', rt := Q } (start N vs) H) : yD P w K mg base CX0 (k + 1) f fd ps sp := by
  obtain ⟨oc, od, kV, doc, pm, an, cdv, ct, osl, rfl, lk, hcd⟩ := F.ex
  refine zgy lk hcd S len fun A outer s H vs Q E hr hsp => ?_
  obtain ⟨t, h, q⟩ := hbody cdv A outer s H vs Q E hr hsp
  exact ⟨t, h.nox, q⟩
theorem Fun.binds {x qual : Str} {st : Stmt} {f : Addr} {fd : FuncData} {ps : List Str} (F : Fun K x qual st f fd)
    (h : ∀ (kV doc pm : Value) (an : Option Addr) (cdv ct : Value) (us : List Value), us.length = ps.length → bindArgs (PySem.W.fnOf x qual (zv st) (zp st) (ze st) .none kV doc pm an cdv ct) ⟨us, []⟩ = pure (ps.zip us)) : WW K fd ps [] := by
  obtain ⟨oc, od, kV, doc, pm, an, cdv, ct, osl, rfl, lk, hcd⟩ := F.ex
  exact .all (h kV doc pm an cdv ct)
theorem zE {x qual : Str} {st : Stmt} {f : Addr} {oc : Value} {od an : Option Addr} {osl : Array (Option Value)} {kV doc pm cdv ct : Value} (l : K.lookup f = some ⟨oc, od, .func (PySem.W.fnOf x qual (zv st) (zp st) (ze st) .none kV doc pm an cdv ct), osl⟩)
    (c : PySem.W.codeIn K cdv qual = true) (k : PySem.W.keepIn K (.ref f) = true) : Fun K x qual st f (PySem.W.fnOf x qual (zv st) (zp st) (ze st) .none kV doc pm an cdv ct) := ⟨⟨oc, od, kV, doc, pm, an, cdv, ct, osl, rfl, l, c⟩, k⟩
end
theorem zdZ {A : Around} {k : Nat} (hr : Yk k A) : A.units + 1 < cLine := Nat.lt_of_le_of_lt (Nat.add_le_add_left (by decide : 1 ≤ 64) _) hr.units
theorem zdb {n : Nat} (h : n ≤ 1000) : n < sizeLine := Nat.lt_of_le_of_lt h (by decide)
section
variable {X : Cx}
theorem pv (i : Nat) {x : Str} {pos : Pos} (hN : X.N[i]? = some x := by rfl) (hv : Vis X.env.scope x := by first | exact Or.inl rfl | exact Or.inr (Or.inl rfl) | exact Or.inr (Or.inr rfl)) (hd : (x == ("__debug__" : Str)) = false := by decide)
    (hcd : (x == ("__classdict__" : Str)) = false := by decide) : PE X (.Name x pos) (za2 i) := zhb hN hv hd hcd
end
noncomputable def yK (H H' : Hp) : Prop := ∀ b o, H b = some o → H' b = some o
theorem yK.refl (H : Hp) : yK H H := fun _ _ h => h
theorem yK.trans {H H1 H2 : Hp} (a : yK H H1) (b : yK H1 H2) : yK H H2 := fun c o h => b c o (a c o h)
theorem yK.free {H H' : Hp} (e : yK H H') {l : Addr} (h : H' l = Option.none) : H l = Option.none := by
  cases q : H l with
  | none => rfl
  | some o =>
    rw [e l o q] at h
    cases h
theorem yK.seq {K : PySem.W.Frag} {H H' : Hp} {a : Addr} {xs : List V} (e : yK H H') (h : SqL K H a xs) : SqL K H' a xs := by
  rcases h with (h | ⟨o, h⟩) | h
  · exact .inl (.inl (e _ _ h))
  · exact .inl (.inr ⟨o, e _ _ h⟩)
  · exact .inr h
end L2
namespace L2
open PySem PySem.Spec PyProof.Rows
end L2
namespace L2
open PySem PySem.Spec PyProof.Rows
section
variable (P : Program) (w : World)
end
section
variable {P : Program} {w : World} {H H' : Hp} {h h' : Heap} {a : Addr} {o : HO}
end
section
variable {P : Program} {w : World} {H : Hp} {h h' : Heap} {x e : Addr} {o' : HO}
end
section
variable {fs fs' ex ex' : List Addr} {H H1 H2 : Hp} {h h1 h2 h' : Heap} {a x e : Addr} {o : HO}
end
end L2
namespace L2
open PySem PySem.Spec PyProof.Rows
section
variable {X : Cx} {pins : List (Addr × Obj)} {σ : List (Option V)} {H H' : Hp} {s : Shared} {h' : Heap}
end
end L2
namespace L2
open PySem PySem.Spec PyProof.Rows
section
variable {X : Cx}
variable {a b : Expr} {ta tb : TE} {pos : Pos}
variable {tA tB' : TT} {rest : List Expr}
end
end L2
namespace L2
open PySem PySem.Spec PyProof.Rows
section
variable {X : Cx} {pins : List (Addr × Obj)} {σ : St} {H : Hp} {s : Shared} {a : Addr} {xs ys : List V}
end
section
variable {X : Cx} {pins : List (Addr × Obj)} {σ : St} {H : Hp} {s : Shared} {E : Value → Shared → Prop}
end
section
variable {X : Cx} {st : Stmt} {rest : List Stmt} {t u : TS} {e : Expr} {te : TE} {pos : Pos}
end
section
variable {X : Cx} {pos : Pos}
end
section
variable {X : Cx} {pos : Pos}
end
end L2
namespace L2
open PySem PySem.Spec PyProof.Rows
section
variable {X : Cx} {tg : Expr}
end
end L2
namespace L2
open PySem PySem.Spec PyProof.Rows
section
variable {X : Cx} {a b c : Expr} {ta tb tc : TE} {pos : Pos}
end
section
variable {X : Cx} {a b c : Expr} {ta tb tc : TE} {pos : Pos}
end
end L2
namespace L2
open PySem PySem.Spec PyProof.Rows
section
variable {prog : Program} {w : World} {A : Around} {E : Value → Shared → Prop} {s : Shared} {K : PySem.W.Frag} {x dx C f : Addr} {mA : Str → Option Value} {name : Str} {v : Value}
end
section
variable {P : Program} {w : World} {H H' : Hp} {h h' : Heap} {a C dx : Addr} {fs fs' : List (Str × V)}
end
section
variable {X : Cx} {pins : List (Addr × Obj)} {σ : St} {H : Hp} {s : Shared} {a C dx : Addr} {fs : List (Str × V)} {f : Str} {v : V} {A : Around} {E : Value → Shared → Prop}
end
section
variable {X : Cx} {o e value : Expr} {f : Str} {pos pos' tpos : Pos} {ta tv : TE}
end
section
variable {X : Cx} {pins : List (Addr × Obj)} {σ : St} {H : Hp} {s : Shared} {A : Around} {E : Value → Shared → Prop} {Q : Value → Shared → Prop} {c : Value} {b : Bool}
end
end L2
namespace L2
open PySem PySem.Spec PyProof.Rows
section
variable {X : Cx} {e : Expr} {es : List Expr} {te : TE} {t : TA} {pos : Pos}
end
section
variable {X : Cx} {pins : List (Addr × Obj)} {σ : St} {H : Hp} {s s' : Shared}
end
section
variable {X : Cx} {CX : CXT} {k : Nat} {f C : Addr} {fd : FuncData} {ps : List Str} {sp : Sp} {dvs : List V} {ds : List Value} {E : XK} {x m : Str} {p pos apos : Pos} {e o : Expr} {es : List Expr} {ta : TE} {t : TA}
end
section
variable {X : Cx} {CX : CXT} {k : Nat} {f C : Addr} {fd : FuncData} {ps ks : List Str} {sp : Sp} {E : XK} {x m : Str} {p pos apos kpos : Pos} {e o : Expr} {es : List Expr} {kws : List Keyword} {te ta : TE} {t tk : TA} {nm : Option Str}
variable {g : List Value → List Value → List Value} {gV : List V → List V → List V}
end
end L2
namespace L2
open PySem PySem.Spec PyProof.Rows
section
variable {X : Cx} {x : Str} {p pos : Pos} {e : Expr} {es : List Expr} {t : TA} {id T : String} {r : List V → Hp → VK → Prop}
end
end L2
namespace L2
open PySem PySem.Spec PyProof.Rows
section
variable {κ : Type} [DecidableEq κ]
noncomputable def zaV (kvs : List (κ × V)) (k : κ) : Option V := (kvs.find? fun kv => decide (kv.1 = k)).map (·.2)
noncomputable def zaK (kvs : List (κ × V)) (k : κ) (v : V) : List (κ × V) :=
  if (kvs.any fun kv => decide (kv.1 = k)) = true then kvs.map (fun kv => if kv.1 = k then (kv.1, v) else kv) else kvs ++ [(k, v)]
theorem Z9 {p : κ × V} {r : List (κ × V)} {k : κ} (e : p.1 = k) : zaV (p :: r) k = some p.2 := by simp [zaV, List.find?_cons, e]
theorem Z7 {p : κ × V} {r : List (κ × V)} {k : κ} (e : ¬ p.1 = k) : zaV (p :: r) k = zaV r k := by simp [zaV, List.find?_cons, e]
theorem Wu (k : κ) : ∀ kvs : List (κ × V), (kvs.any fun kv => decide (kv.1 = k)) = (zaV kvs k).isSome
  | [] => rfl
  | p :: r => by
    rw [List.any_cons]
    by_cases e : p.1 = k
    · simp only [Z9 e, decide_eq_true e, Bool.true_or, Option.isSome_some]
    · rw [Z7 e, decide_eq_false e, Bool.false_or]; exact Wu k r
theorem XN (kvs : List (κ × V)) (k : κ) (v : V) : (zaK kvs k v).length ≤ kvs.length + 1 := by
  unfold zaK
  split
  · rw [List.length_map]; omega
  · rw [List.length_append, List.length_cons, List.length_nil]; omega
theorem zcb.isSome_eq {o : Option V} {u : Option Value} (r : zcb o u) : o.isSome = u.isSome := by
  cases o with
  | none => cases u with
    | none => rfl
    | some _ => exact (show False from r).elim
  | some _ => cases u with
    | none => exact (show False from r).elim
    | some _ => rfl
theorem KV.val {kvs : List (κ × V)} {vs : List (κ × Value)} (r : KV kvs vs) (k : κ) : zcb (zaV kvs k) (valueAt vs k) := by
  unfold KV at r
  induction r with
  | nil => exact True.intro
  | @cons p q ps qs h t ih =>
    obtain ⟨h1, h2⟩ := h
    by_cases e : p.1 = k
    · have e' : q.1 = k := h1.symm.trans e
      have b : valueAt (q :: qs) k = some q.2 := by simp [valueAt, List.find?_cons, e']
      rw [Z9 e, b]; exact h2
    · have e' : ¬ q.1 = k := fun z => e (h1.trans z)
      have b : valueAt (q :: qs) k = valueAt qs k := by simp [valueAt, List.find?_cons, e']
      rw [Z7 e, b]; exact ih
theorem KV.any {kvs : List (κ × V)} {vs : List (κ × Value)} (r : KV kvs vs) (k : κ) : (kvs.any fun kv => decide (kv.1 = k)) = vs.any fun kv => decide (kv.1 = k) := by
  unfold KV at r
  induction r with
  | nil => rfl
  | cons h t ih => rw [List.any_cons, List.any_cons, ih, h.1]
theorem KV.repl {kvs : List (κ × V)} {vs : List (κ × Value)} (r : KV kvs vs) (k : κ) {y : V} {u : Value} (ry : yT y u) :
    KV (kvs.map fun kv => if kv.1 = k then (kv.1, y) else kv) (vs.map fun kv => if kv.1 = k then (kv.1, u) else kv) := by
  unfold KV at r ⊢
  induction r with
  | nil => exact .nil
  | @cons p q ps qs h t ih =>
    rw [List.map_cons, List.map_cons]
    refine .cons ?_ ih
    obtain ⟨h1, h2⟩ := h
    by_cases e : p.1 = k
    · rw [if_pos e, if_pos (h1.symm.trans e)]; exact ⟨h1, ry⟩
    · rw [if_neg e, if_neg (fun z => e (h1.trans z))]; exact ⟨h1, h2⟩
theorem KV.put {kvs : List (κ × V)} {vs : List (κ × Value)} (r : KV kvs vs) (k : κ) {y : V} {u : Value} (ry : yT y u) : KV (zaK kvs k y) (stored vs k u) := by
  unfold zaK stored
  rw [r.any k]
  by_cases e : (vs.any fun kv => decide (kv.1 = k)) = true
  · rw [if_pos e, if_pos e]; exact r.repl k ry
  · rw [if_neg e, if_neg e]; exact Paired.snoc r ⟨rfl, ry⟩
theorem KV.keys {kvs : List (κ × V)} {vs : List (κ × Value)} (r : KV kvs vs) : kvs.map (·.1) = vs.map (·.1) := by
  unfold KV at r
  induction r with
  | nil => rfl
  | cons h t ih => rw [List.map_cons, List.map_cons, ih, h.1]
theorem KV.length {kvs : List (κ × V)} {vs : List (κ × Value)} (r : KV kvs vs) : kvs.length = vs.length := Paired.length r
end
theorem zdz {P : Program} {w : World} {k : Key} {u : Value} (r : yT (kV k) u) : (yS P w).is k u = true := by
  cases k with
  | inl i => obtain ⟨t, e⟩ := (show ∃ t, u = Value.int i t from r); subst e; exact zai P w i t
  | inr x => obtain ⟨t, e⟩ := (show ∃ t, u = Value.str x t from r); subst e; exact zal P w x t
theorem VF {P : Program} {w : World} : ∀ {ks : List Key} {us : List Value}, yC (ks.map kV) us → ItemsAre (yS P w) ks us
  | [], _, r => by rw [List.map_nil] at r; cases r; exact .nil
  | k :: ks, _, r => by
    rw [List.map_cons] at r
    cases r with
    | cons h t => exact .cons (zdz h) (VF t)
noncomputable abbrev KT (H : Hp) : List (List Key × V) → List (List Key × Addr × Value) → Prop := Paired fun p q => p.1 = q.1 ∧ H q.2.1 = some (.tup (p.1.map kV)) ∧ yT p.2 q.2.2
theorem KT.val {H : Hp} {kvs : List (List Key × V)} {xs : List (List Key × Addr × Value)} (r : KT H kvs xs) (k : List Key) : zcb (zaV kvs k) ((atKey xs k).map (·.2)) := by
  induction r with
  | nil => exact True.intro
  | @cons p q ps qs h t ih =>
    obtain ⟨h1, _, h2⟩ := h
    by_cases e : p.1 = k
    · have e' : q.1 = k := h1.symm.trans e
      have b : atKey (q :: qs) k = some q.2 := by simp [atKey, List.find?_cons, e']
      rw [Z9 e, b]; exact h2
    · have e' : ¬ q.1 = k := fun z => e (h1.trans z)
      have b : atKey (q :: qs) k = atKey qs k := by simp [atKey, List.find?_cons, e']
      rw [Z7 e, b]; exact ih
theorem KT.repl {H : Hp} {kvs : List (List Key × V)} {xs : List (List Key × Addr × Value)} (r : KT H kvs xs) (k : List Key) {y : V} {u : Value} (ry : yT y u) :
    KT H (kvs.map fun kv => if kv.1 = k then (kv.1, y) else kv) (xs.map (putAt k u)) := by
  induction r with
  | nil => exact .nil
  | @cons p q ps qs h t ih =>
    rw [List.map_cons, List.map_cons]
    refine .cons ?_ ih
    obtain ⟨h1, h2, h3⟩ := h
    unfold putAt
    by_cases e : p.1 = k
    · rw [if_pos e, if_pos (h1.symm.trans e)]; exact ⟨h1, h2, ry⟩
    · rw [if_neg e, if_neg (fun z => e (h1.trans z))]; exact ⟨h1, h2, h3⟩
theorem KT.put {H : Hp} {kvs : List (List Key × V)} {xs : List (List Key × Addr × Value)} (r : KT H kvs xs) (k : List Key) {b : Addr} {y : V} {u : Value} (hb : H b = some (.tup (k.map kV))) (ry : yT y u) :
    KT H (zaK kvs k y) (storedH xs k b u) := by
  have e : (kvs.any fun kv => decide (kv.1 = k)) = (atKey xs k).isSome := by
    rw [Wu, (r.val k).isSome_eq, Option.isSome_map]
  unfold zaK storedH
  rw [e]
  by_cases q : (atKey xs k).isSome = true
  · rw [if_pos q, if_pos q]; exact r.repl k ry
  · rw [if_neg q, if_neg q]; exact Paired.snoc r ⟨rfl, hb, ry⟩
theorem KT.keeps {H H' : Hp} {kvs : List (List Key × V)} {xs : List (List Key × Addr × Value)} (r : KT H kvs xs) (ht : ∀ b ys, H b = some (.tup ys) → H' b = some (.tup ys)) : KT H' kvs xs :=
  Paired.mapP r fun _ _ z => ⟨z.1, ht _ _ z.2.1, z.2.2⟩
section
variable {P : Program} {w : World} {H : Hp} {h : Heap} {a : Addr}
theorem zg8 {u : HO} (ok : HOk P w H h) (e : Rd H a u) : yV P w H h a u := e.ok ok
theorem zdC {kvs : List (Key × V)} (ok : HOk P w H h) (e : Rd H a (.dK kvs)) : kvs.length ≤ sizeLine ∧ (a == sysModules) = false ∧ ∃ vs, KV kvs vs ∧ h.DictOf (yS P w) a vs :=
  show yV P w H h a (.dK kvs) from zg8 ok e
theorem zis {kvs : List (Key × V)} (ok : HOk P w H h) (e : H a = some (.dK kvs)) : kvs.length ≤ sizeLine ∧ (a == sysModules) = false ∧ ∃ vs, KV kvs vs ∧ h.DictOf (yS P w) a vs := zdC ok (.inl e)
theorem VE {ks : List Key} (ok : HOk P w H h) (e : H a = some (.tup (ks.map kV))) : (tupleKind (yS P w)).is h ks a := by
  obtain ⟨_, its, r, o, h1, h2, n, h3⟩ := (show yV P w H h a (.tup (ks.map kV)) from ok a _ e)
  exact ⟨o, its.toArray, n, h1, h2, h3, by simpa using VF r⟩
theorem zd0 {kvs : List (List Key × V)} (ok : HOk P w H h) (e : Rd H a (.dT kvs)) : kvs.length ≤ sizeLine ∧ (a == sysModules) = false ∧
    ∃ xs, KT H kvs xs ∧ h.DictOfH (tupleKind (yS P w)) a xs := by
  obtain ⟨z, y, xs, r, o, es, ep, h1, h2, h3, h4, h5⟩ := (show yV P w H h a (.dT kvs) from zg8 ok e)
  refine ⟨z, y, xs, r, o, es, ep, h1, h2, h3, h4, fun x hx => ?_, h5⟩
  have all : ∀ {l : List (List Key × V)} {m : List (List Key × Addr × Value)}, KT H l m → ∀ x ∈ m, (tupleKind (yS P w)).is h x.1 x.2.1 := by
    intro l m q
    induction q with
    | nil => intro x hx; exact nomatch hx
    | @cons p q ps qs hq t ih =>
      intro x hx
      rcases List.mem_cons.mp hx with e | hx
      · subst e
        exact VE ok (by rw [← hq.1]; exact hq.2.1)
      · exact ih x hx
  exact all r x hx
theorem zhA {kvs : List (List Key × V)} (ok : HOk P w H h) (e : H a = some (.dT kvs)) : kvs.length ≤ sizeLine ∧ (a == sysModules) = false ∧
    ∃ xs, KT H kvs xs ∧ h.DictOfH (tupleKind (yS P w)) a xs := zd0 ok (.inl e)
end
noncomputable def zga (H : Hp) (a : Addr) (y : V) (r : Option V) : Prop :=
  (∃ kvs k, Rd H a (.dK kvs) ∧ y = kV k ∧ r = zaV kvs k) ∨ ∃ kvs k b, Rd H a (.dT kvs) ∧ y = .ref b ∧ H b = some (.tup (k.map kV)) ∧ r = zaV kvs k
noncomputable def zdL (H : Hp) (a : Addr) (y v : V) (H' : Hp) : Prop :=
  (∃ kvs k, H a = some (.dK kvs) ∧ y = kV k ∧ kvs.length < sizeLine ∧ H' = upd H a (.dK (zaK kvs k v))) ∨
  ∃ kvs k b, H a = some (.dT kvs) ∧ y = .ref b ∧ H b = some (.tup (k.map kV)) ∧ kvs.length < sizeLine ∧ H' = upd H a (.dT (zaK kvs k v))
theorem zdL.k {H : Hp} {a : Addr} {kvs : List (Key × V)} {k : Key} {v : V} (e : H a = some (.dK kvs)) (hl : kvs.length < sizeLine) : zdL H a (kV k) v (upd H a (.dK (zaK kvs k v))) := .inl ⟨kvs, k, e, rfl, hl, rfl⟩
theorem zdL.t {H : Hp} {a b : Addr} {kvs : List (List Key × V)} {k : List Key} {v : V} (e : H a = some (.dT kvs)) (eb : H b = some (.tup (k.map kV))) (hl : kvs.length < sizeLine) :
    zdL H a (.ref b) v (upd H a (.dT (zaK kvs k v))) := .inr ⟨kvs, k, b, e, rfl, eb, hl, rfl⟩
section
variable {X : Cx} {pins : List (Addr × Obj)} {σ : St} {H : Hp} {s : Shared} {a : Addr} {y v : V} {u r : Value} {o : Option V} {A : Around} {E : Value → Shared → Prop}
theorem Inv.big (I : Inv X pins σ H s) : sysModules < s.heap.objs.size := by
  have h : mainGlobals < s.heap.objs.size := (I.mod.glob.keeps I.bk).lt
  exact Nat.lt_trans (by decide) h
theorem zcS {Q : Value → Shared → Prop} (hu : A.units + 1 < cLine) (I : Inv X pins σ H s) (g : zga H a y (some v)) (ry : yT y u) (h : ∀ w' s', Inv X pins σ H s' → yT v w' → Q w' s') :
    wpAny (model X.prog X.w) A (getItem (.ref a) u) Q E s := by
  rcases g with ⟨kvs, k, e, ey, l⟩ | ⟨kvs, k, b, e, ey, eb, l⟩
  · subst ey
    obtain ⟨z, hd, vs, rel, dd⟩ := zdC I.hok e
    obtain ⟨w', hw, rw'⟩ := zcb.some_of (v := v) (o := valueAt vs k) (by rw [l]; exact rel.val k)
    exact wpAny_getItem_of (zdz ry) dd.mapOf hw (h w' _ (I.tok _) rw')
  · subst ey
    cases (show u = Value.ref b from ry)
    obtain ⟨z, hd, xs, rel, dd⟩ := zd0 I.hok e
    obtain ⟨w', hw, rw'⟩ := zcb.some_of (v := v) (o := (atKey xs k).map (·.2)) (by rw [l]; exact rel.val k)
    obtain ⟨p, hp, hp2⟩ := Option.map_eq_some_iff.mp hw
    refine wpAny_getItem_heap (tupleKind_room_in1 hu) (VE I.hok eb) dd hp ?_
    rw [hp2]
    exact h w' _ (I.tok _) rw'
theorem ze8 {Q : Value → Shared → Prop} (hu : A.units + 1 < cLine) (I : Inv X pins σ H s) (g : zga H a y o) (ry : yT y u) (h : ∀ s', Inv X pins σ H s' → Q (.bool (!o.isSome)) s') :
    wpAny (model X.prog X.w) A (compareOp .NotIn u (.ref a)) Q E s := by
  rcases g with ⟨kvs, k, e, ey, l⟩ | ⟨kvs, k, b, e, ey, eb, l⟩
  · subst ey
    obtain ⟨z, hd, vs, rel, dd⟩ := zdC I.hok e
    refine wpAny_notIn_of (zdz ry) hd dd.mapOf ?_
    rw [← (rel.val k).isSome_eq, ← l]
    exact h _ (I.tok _)
  · subst ey
    cases (show u = Value.ref b from ry)
    obtain ⟨z, hd, xs, rel, dd⟩ := zd0 I.hok e
    refine wpAny_notIn_heap (tupleKind_room_in1 hu) (VE I.hok eb) hd dd ?_
    have q := (rel.val k).isSome_eq
    rw [Option.isSome_map] at q
    rw [← q, ← l]
    exact h _ (I.tok _)
theorem zad {h' : Heap} {t' : Nat} {ob : HO} (I : Inv X pins σ H s) (mu : Mut (H a)) (hs : Heap.SameBut a s.heap h') (he : ∃ q, h'.get? a = some q) (new : yV X.prog X.w (upd H a ob) h' a ob) :
    Inv X pins σ (upd H a ob) { s with heap := h', toks := t' } :=
  I.write (x := a) (e := a) mu (.inl rfl) (fun b q hb z => (hs.2 b hb).trans z) he new
theorem zgE {P : Program} {w : World} {H' : Hp} {h' : Heap} {kvs : List (Key × V)} {vs : List (Key × Value)} (z : kvs.length ≤ sizeLine) (hd : (a == sysModules) = false) (rel : KV kvs vs) (dd : h'.DictOf (yS P w) a vs) :
    yV P w H' h' a (.dK kvs) := ⟨z, hd, vs, rel, dd⟩
theorem zcB {H' : Hp} {Q : Unit → Shared → Prop} (hu : A.units + 1 < cLine) (I : Inv X pins σ H s) (g : zdL H a y v H') (ry : yT y u) (rv : yT v r) (h : ∀ s', Inv X pins σ H' s' → Q () s') :
    wpAny (model X.prog X.w) A (setItem (.ref a) u r) Q E s := by
  rcases g with ⟨kvs, k, e, ey, l, eH⟩ | ⟨kvs, k, b, e, ey, eb, l, eH⟩
  · subst ey eH
    obtain ⟨z, hd, vs, rel, dd⟩ := zis I.hok e
    have hz : vs.length ≤ sizeLine := by rw [← rel.length]; exact z
    have hl : (zaK kvs k v).length ≤ sizeLine := by have := XN kvs k v; omega
    refine wpAny_setItem_pairs (hsz := hz) (zdz ry) dd fun h' dd' hs => h _ ?_
    have he : ∃ q, h'.get? a = some q := let ⟨q, _, _, hq, _⟩ := dd'; ⟨q, hq⟩
    exact zad I (by rw [e]; exact True.intro) hs he (zgE hl hd (rel.put k rv) dd')
  · subst ey eH
    cases (show u = Value.ref b from ry)
    obtain ⟨z, hd, xs, rel, dd⟩ := zhA I.hok e
    have hz : xs.length ≤ sizeLine := by rw [← Paired.length rel]; exact z
    have hl : (zaK kvs k v).length ≤ sizeLine := by have := XN kvs k v; omega
    refine wpAny_setItem_heap (hsz := hz) (tupleKind_room_in1 hu) (VE I.hok eb) dd fun h' dd' hs => h _ ?_
    obtain ⟨q, es, ep, hq, h2, h3, h4, _, h5⟩ := dd'
    refine zad I (by rw [e]; exact True.intro) hs ⟨q, hq⟩ ⟨hl, hd, _, (rel.put k eb rv).keeps fun c ys ec => ?_, q, es, ep, hq, h2, h3, h4, h5⟩
    rw [zn (zf3 ec e (fun z => nomatch z))]
    exact ec
end
section
variable {X : Cx} {pins : List (Addr × Obj)} {σ : St} {H : Hp} {s : Shared} {a : Addr} {kvs : List (Key × V)} {k : Key} {u : Value} {A : Around} {E : Value → Shared → Prop}
end
noncomputable def zh7 (i : Expr) : Prop := ∀ ov iv, subscripted i false ov iv = operate [ov, iv] (getItem ov iv)
theorem zfh {prog : Program} {w : World} {A : Around} {E : Value → Shared → Prop} {s : Shared} {env : Env} {value slice : Expr} {pos : Pos} {T id : String} {Q : Value → Shared → Prop}
    (hl : typeLookup (.type T) "__getitem__" = pure (some (.builtin id))) (hs : zh7 slice)
    (h : wpAny (model prog w) A (eval value env) (fun o s₁ => wpAny (model prog w) A (eval slice env) (fun i s₂ => s₂.TypeIs o T ∧ wpAny (model prog w) A (getItem o i) Q E s₂) E s₁) E s) :
    wpAny (model prog w) A (eval (.Subscript value slice pos) env) Q E s := by
  refine Subscript_ (wpAny_mono h (fun o s₁ h₁ => wpAny_mono h₁ (fun i s₂ h₂ => ?_) fun _ _ x => x) fun _ _ x => x)
  obtain ⟨hT, h₂⟩ := h₂
  unfold subscriptTail
  refine wpAny_bind ?_
  rw [getitemInPython_of_ne hT.not_modules]
  refine wpAny_bind (wpAny_specialOf hT hl ?_)
  have fin : wpAny (model prog w) A (subscripted slice false o i) (fun r s₃ => wpAny (model prog w) A (letTemporaryGo value o r >>= fun _ => pure r) Q E s₃) E s₂ := by
    rw [hs o i]
    exact wpAny_operating (wpAny_mono h₂ (fun r s₃ h₃ => wpAny_bind (wpAny_letTemporaryGo (wpAny_pure h₃))) fun _ _ x => x)
  first
    | exact wpAny_pure (wpAny_bind fin)
    | exact wpAny_bind (wpAny_pure (wpAny_bind fin))
    | exact wpAny_bind fin
theorem zak {X : Cx} {pins : List (Addr × Obj)} {σ : St} {H : Hp} {s : Shared} {a : Addr} {y : V} {o : Option V} (I : Inv X pins σ H s) (g : zga H a y o) : s.TypeIs (.ref a) "dict" := by
  rcases g with ⟨kvs, k, e, _, _⟩ | ⟨kvs, k, b, e, _, _, _⟩
  · obtain ⟨_, _, vs, _, dd⟩ := zdC I.hok e
    exact dd.typeIs
  · obtain ⟨_, _, xs, _, dd⟩ := zd0 I.hok e
    exact dd.typeIs
noncomputable def zhO (td ty : TE) : TE := fun σ H Q => td σ H fun x H1 => ty σ H1 fun y H2 => ∃ a v, x = .ref a ∧ zga H2 a y (some v) ∧ Q v H2
noncomputable def zhZ (td ty tv : TE) : TS := fun D σ H => tv σ H fun v H1 => td σ H1 fun x H2 => ty σ H2 fun y H3 => ∃ a H4, x = .ref a ∧ zdL H3 a y v H4 ∧ D.nx σ H4
section
variable {X : Cx} {o i e value : Expr} {pos pos' tpos : Pos} {td ty tv : TE}
theorem zfa (hu : X.A.units + 1 < cLine) (ho : PE X o td) (hi : PE X i ty) (hs : zh7 i) : PE X (.Subscript o i pos) (zhO td ty) := by
  intro pins s σ H Q I h
  refine zfh PySem.F.slot_dict_getitem.lookup hs (thn (ho pins s σ H _ I h) fun u s1 ⟨x, H1, I1, rx, q1⟩ => thn (hi pins s1 σ H1 _ I1 q1) fun iv s2 hh9 => ?_)
  obtain ⟨y, H2, I2, ry, a, v, ex, g, q2⟩ := hh9
  subst ex
  obtain rfl : u = Value.ref a := rx
  exact ⟨zak I2 g, zcS hu I2 g ry fun w' s3 I3 rw' => ⟨v, H2, I3, rw', q2⟩⟩
theorem zf1 (hu : X.A.units + 1 < cLine) (ho : PE X o td) (hi : PE X i ty) (hv : PE X value tv) (hs : swapsWith value (some (.Subscript o i pos')) pos.line X.env = pure false) :
    PS X (.Assign [.Subscript o i pos'] value pos) (zhZ td ty tv) := by
  intro pins s σ H D I h
  refine wpAny_Assign_Subscript (thn (hv pins s σ H _ I h) fun r s1 ⟨v, H1, I1, rv, q1⟩ => thn (ho pins s1 σ H1 _ I1 q1) fun u s2 ⟨x, H2, I2, rx, q2⟩ => thn (hi pins s2 σ H2 _ I2 q2) fun iv s3 hh9 => ?_) hs
  obtain ⟨y, H3, I3, ry, a, H4, ex, g, q3⟩ := hh9
  subst ex
  obtain rfl : u = Value.ref a := rx
  exact zcB hu I3 g ry rv fun s4 I4 => ⟨σ, H4, I4, q3⟩
end
theorem zdw {P : Program} {w : World} {H : Hp} (h : Heap) (hb : sysModules < h.objs.size) : yV P w H (h.push { cls := .type "dict", data := .dict #[] }) h.objs.size (.dT []) :=
  ⟨Nat.zero_le _, beq_eq_false_iff_ne.mpr (Ne.symm (Nat.ne_of_lt hb)), [], .nil, _, #[], 0, Heap.get?_push_size _ rfl, ⟨rfl, rfl, rfl⟩, rfl, rfl, List.nodup_nil⟩
section
variable {X : Cx} {pos : Pos}
end
section
variable {X : Cx} {pins : List (Addr × Obj)} {σ : St} {H : Hp} {s : Shared} {a : Addr} {y d : V} {u r : Value} {o : Option V} {A : Around} {E : Value → Shared → Prop}
end
section
variable {X : Cx} {o e f : Expr} {apos cpos : Pos} {td ty tx : TE}
end
section
variable {X : Cx} {pins : List (Addr × Obj)} {σ : St} {H : Hp} {s : Shared} {a : Addr} {kvs : List (Key × V)} {A : Around} {E : Value → Shared → Prop}
end
section
variable {X : Cx} {pins : List (Addr × Obj)} {σ : St} {H : Hp} {s : Shared} {a : Addr} {y : V} {u : Value} {A : Around} {E : Value → Shared → Prop}
end
end L2
namespace Att
open PySem PySem.W PySem.Calls PyProof.Rows
section
variable {prog : Program} {w : World} {A : Around} {E : Value → Shared → Prop} {s : Shared} {K : Frag}
end
end Att
namespace L2
open PySem PySem.Spec PyProof.Rows
end L2
namespace L2
open PySem PySem.Spec PyProof.Rows
end L2
namespace L2
open PySem PySem.Spec PyProof.Rows
section
variable {P : Program} {w : World} {K : PySem.W.Frag} {mg : Str → Option Value} {base : Heap}
end
section
variable {X : Cx}
end
section
variable {κ : Type} [DecidableEq κ]
end
end L2
namespace L2
open PySem PySem.Spec PyProof.Rows
theorem zat {X : Cx} : YS X (.builtin "isinstance") (fun xs H Q => ∃ x n t b, xs = [x, .ty n] ∧ zaR X.K H x t ∧ PySem.W.kitOne X.K t (.type n) = some b ∧ Q (.bl b) H) := by
  intro pins s σ H xs us Q I r h
  obtain ⟨x, n, t, b, rfl, ty, e, q⟩ := h
  obtain ⟨u, w', rfl, rx, rt⟩ := zdg r
  cases (show w' = Value.type n from rt)
  exact zbX I rx ty e fun tk => ⟨.bl b, H, I.tok _, rfl, q⟩
theorem V6 {X : Cx} : OpR X (compareOp .IsNot) (fun x y H Q => ∃ i j, x = .bl i ∧ y = .bl j ∧ Q (.bl (!(i == j))) H) := by
  intro pins s σ H x y v u Q I rx ry h
  obtain ⟨i, j, rfl, rfl, q⟩ := h
  cases rx
  cases ry
  refine wpAny_isNot_plain (by rfl) ⟨.bl (!(i == j)), H, I, ?_, q⟩
  cases i <;> cases j <;> rfl
noncomputable def zeB (K : PySem.W.Frag) : R2 := fun x y H Q => ∃ a b xs ys, x = .ref a ∧ y = .ref b ∧ SqT K H a xs ∧ SqT K H b ys ∧ xs.length + ys.length ≤ sizeLine ∧
  (xs = [] → Q (.ref b) H) ∧ (xs ≠ [] → ys = [] → Q (.ref a) H) ∧ (xs ≠ [] → ys ≠ [] → ∀ p, H p = none → Q (.ref p) (upd H p (.tup (xs ++ ys))))
theorem zdK {X : Cx} : OpR X (binaryOp .Add) (zeB X.K) := by
  intro pins s σ H x y v u Q I rx ry h
  obtain ⟨a, b, xs, ys, rfl, rfl, ha, hb, hz, q0, q1, q2⟩ := h
  by_cases hx : xs = []
  · subst hx
    cases rx
    cases ry
    obtain ⟨its, r, p, _⟩ := I.tuple ha
    obtain ⟨its', r', p', _⟩ := I.tuple hb
    cases r
    obtain ⟨⟨cls, dd, data, sl⟩, ho, hc, n, hd⟩ := id p
    obtain ⟨⟨cls2, dd2, data2, sl2⟩, ho2, hc2, n2, hd2⟩ := id p'
    simp only at hc hd hc2 hd2
    subst hc hd hc2 hd2
    exact concat_meets ⟨_, ho, rfl⟩ ⟨_, ho2, rfl⟩ noFill_tuple_add seq_tuple_add PySem.F.slot_tuple_add PySem.F.entry_tuple_add (PySem.F.args_tuple_add_2 _ _)
      (tuple_addW0 a b #[] its'.toArray n n2 dd dd2 sl sl2 rfl) ⟨ho, ho2, ⟨.ref b, H, I, rfl, q0 rfl⟩⟩
  · refine zfC pins s σ H (.ref a) (.ref b) v u Q I rx ry ⟨a, b, xs, ys, rfl, rfl, ha, hb, hx, hz, ?_⟩
    exact ⟨fun e => q1 hx e, fun e => q2 hx e⟩
end L2
namespace L2
open PySem PySem.Spec PyProof.Rows
inductive Zw : St → St → Prop where
  | nil : Zw [] []
  | non {a : Option V} {s t : St} : Zw s t → Zw (none :: s) (a :: t)
  | same {a : Option V} {s t : St} : Zw s t → Zw (a :: s) (a :: t)
theorem Zw.refl : ∀ s : St, Zw s s
  | [] => .nil
  | _ :: r => .same (Zw.refl r)
theorem Zw.length {s t : St} (h : Zw s t) : s.length = t.length := by
  induction h with
  | nil => rfl
  | non _ ih => simp [ih]
  | same _ ih => simp [ih]
theorem Zw.get {s t : St} (h : Zw s t) : ∀ (i : Nat) (v : V), s[i]? = some (some v) → t[i]? = some (some v) := by
  induction h with
  | nil => intro i v e; exact e
  | non _ ih =>
    intro i v e
    cases i with
    | zero => simp at e
    | succ i => simpa using ih i v (by simpa using e)
  | same _ ih =>
    intro i v e
    cases i with
    | zero => simpa using e
    | succ i => simpa using ih i v (by simpa using e)
theorem Zw.set {n : Nat} {v : V} : ∀ {s t : St}, Zw s t → s[n]? = some none → Zw s (t.set n (some v))
  | _, _, .nil, _ => .nil
  | _, _, .non (a := a) h, e => by
    cases n with
    | zero => exact .non h
    | succ n => exact .non (Zw.set h (by simpa using e))
  | _, _, .same (a := a) h, e => by
    cases n with
    | zero =>
      have e' : a = none := by simpa using e
      subst e'
      exact .non h
    | succ n => exact .same (Zw.set h (by simpa using e))
theorem Inv.sub {X : Cx} {pins : List (Addr × Obj)} {σ σ' : St} {H : Hp} {s : Shared} (I : Inv X pins σ H s) (h : Zw σ' σ) : Inv X pins σ' H s := I.weak h.length h.get
noncomputable def PIf (X : Cx) (ifs : List Expr) (t : TT) : Prop :=
  ∀ (pins : List (Addr × Obj)) (s : Shared) (σ : St) (H : Hp) (Q : Bool → Hp → Prop), Inv X pins σ H s → t σ H Q →
    wpAny (model X.prog X.w) X.A (forIn ifs true fun c r => if r = true then do let ok ← isTrue c X.env (eval c X.env); pure (ForInStep.yield ok) else pure (ForInStep.yield r)) (TP X pins σ Q) X.xe s
noncomputable def tYes : TT := fun _ H Q => Q true H
theorem zcV {X : Cx} : PIf X [] tYes := by
  intro pins s σ H Q I h
  rw [List.forIn_nil]
  exact wpAny_pure ⟨H, I, h⟩
theorem zfM {X : Cx} {c : Expr} {t : TT} (hc : PT X c t) : PIf X [c] t := by
  intro pins s σ H Q I h
  rw [List.forIn_cons]
  refine wpAny_bind ?_
  rw [if_pos rfl]
  refine wpAny_bind (thn (hc pins s σ H Q I h) fun b s1 q => wpAny_pure ?_)
  show wpAny _ _ (forIn [] b _) _ _ _
  rw [List.forIn_nil]
  exact wpAny_pure q
section
variable {prog : Program} {w : World} {A : Around} {R : Result → Shared → Prop} {s : Shared}
theorem Yr {elt target iter : Expr} {ifs : List Expr} {scope : Scope} {pos : Pos} {it acc : Value} {env : Env} (I : Nat → Shared → Prop)
    (turn : ∀ n s, I n s → wpAny (model prog w) A (pyNext it) (fun r s₁ => match r with
      | none => R (.ok .next) s₁
      | some v => wpAny (model prog w) A (letOwnedTupleGo target it v) (fun _ s₁' => wpAny (model prog w) A (assign target env v) (fun _ s₂ =>
          wpAny (model prog w) A (forIn ifs true fun c r => if r = true then do let ok ← isTrue c env (eval c env); pure (ForInStep.yield ok) else pure (ForInStep.yield r)) (fun ok s₃ =>
            if ok = true then wpAny (model prog w) A (eval elt env) (fun x s₄ =>
              wpAny (model prog w) A (call (.builtin "list.append") [acc, x]) (fun _ s₅ => ∃ m, m < n ∧ I m s₅) (fun _ _ => False) s₄) (fun _ _ => False) s₃
            else ∃ m, m < n ∧ I m s₃) (fun _ _ => False) s₂) (fun _ _ => False) s₁') (fun _ _ => False) s₁) (fun _ _ => False) s)
    (n : Nat) (h : I n s) :
    codeAny (model prog w) A (.compLoop (.ListComp elt [⟨target, iter, ifs, 0⟩] scope pos) 0 it acc env) R s := by
  refine codeAny_loop rfl I (fun n s hI => ?_) n h
  show wpAny _ A ((compTurn (.ListComp elt [⟨target, iter, ifs, 0⟩] scope pos) 0 it acc env).onRaise (fun x => do noteFrame x env; theTreesLotGoes x)) _ _ s
  refine wpAny_noted ?_
  rw [compTurn_list]
  refine wpAny_bind (wpAny_standAt (wpAny_bind (wpAny_mono (turn n s hI) (fun r s₁ h₁ => ?_) fun _ _ h' => h'.elim)))
  cases r with
  | none => exact wpAny_pure h₁
  | some v =>
    refine wpAny_bind (wpAny_mono h₁ (fun _ s₁' h₁' => ?_) fun _ _ h' => h'.elim)
    refine wpAny_bind (wpAny_mono h₁' (fun _ s₂ h₂ => wpAny_bind (wpAny_mono h₂ (fun ok s₃ h₃ => ?_) fun _ _ h' => h'.elim)) fun _ _ h' => h'.elim)
    cases ok with
    | false => exact wpAny_pure ⟨rfl, h₃⟩
    | true =>
      exact wpAny_bind (wpAny_bind (wpAny_mono h₃ (fun x s₄ h₄ => wpAny_bind (wpAny_mono h₄ (fun _ s₅ h₅ => wpAny_pure (wpAny_pure ⟨rfl, h₅⟩)) fun _ _ h' => h'.elim)) fun _ _ h' => h'.elim))
end
noncomputable def tLC (wi : TI) (n : Nat) (g : TG) (tt : TT) (te : TE) : TE := fun σ H Q => wi σ H fun J H1 => ∀ D, H1 D = none → ∃ W : Nat → Nat → List V → Hp → Prop, (∃ m, W 0 m [] (upd H1 D (.lst []))) ∧
  ∀ i m ys H2, W i m ys H2 → (J.stop i H2 ∧ Q (.ref D) H2) ∨ (J.go i H2 ∧ ys.length < sizeLine ∧ ∀ x H3, J.yld i H2 x H3 → g x (List.replicate n none ++ σ) H3 fun σ2 H4 => tt σ2 H4 fun b H5 =>
    if b = true then te σ2 H5 fun y H6 => H6 D = some (.lst ys) ∧ ∃ m', m' < m ∧ W (i + 1) m' (ys ++ [y]) (upd H6 D (.lst (ys ++ [y]))) else ∃ m', m' < m ∧ W (i + 1) m' ys H5)
theorem Yx {α : Type} : ∀ {l : List (Str × α)} {y : Str}, y ∈ l.map Prod.fst → ∃ c, l.lookup y = some c
  | [], _, h => by simp at h
  | (k, v) :: r, y, h => by
    by_cases e : y = k
    · exact ⟨v, by simp [List.lookup, e]⟩
    · obtain ⟨c, hc⟩ := Yx (l := r) (y := y) (by simpa [e] using h)
      have hb : (y == k) = false := beq_eq_false_iff_ne.mpr e
      exact ⟨c, by simp only [List.lookup, hb]; exact hc⟩
theorem wR {α : Type} {P : α → Prop} : ∀ p ∈ ([] : List α), P p := fun _ h => nomatch h
theorem all_cons {α : Type} {P : α → Prop} {a : α} {l : List α} (h : P a) (t : ∀ p ∈ l, P p) : ∀ p ∈ a :: l, P p := fun p hp => by
  rcases List.mem_cons.mp hp with e | hp
  · rw [e]; exact h
  · exact t p hp
theorem gs1 (σ : St) (v : V) (H : Hp) (Q : St → Hp → Prop) (h : Yn 0 v (List.replicate 1 none ++ σ) H Q) : Yn 0 v (List.replicate 1 none ++ σ) H (fun σ2 H2 => Zw (List.replicate 1 none ++ σ) σ2 ∧ Q σ2 H2) := ⟨.set (.refl _) rfl, h⟩
theorem gs2 {K : PySem.W.Frag} (σ : St) (v : V) (H : Hp) (Q : St → Hp → Prop) (h : zhK K 2 (zaF (Yn 0) (zaF (Yn 1) zhL)) v (List.replicate 2 none ++ σ) H Q) :
    zhK K 2 (zaF (Yn 0) (zaF (Yn 1) zhL)) v (List.replicate 2 none ++ σ) H (fun σ2 H2 => Zw (List.replicate 2 none ++ σ) σ2 ∧ Q σ2 H2) := by
  obtain ⟨a, xs, e, hq, hl, x, r, e1, y, r2, e2, e3, q⟩ := h
  exact ⟨a, xs, e, hq, hl, x, r, e1, y, r2, e2, e3, .set (.set (.refl _) rfl) rfl, q⟩
end L2
namespace L2
open PySem PySem.Spec PyProof.Rows
noncomputable def Vw (X : Cx) (L M : List Str) (scope : Scope) (cl : List (Str × Addr)) (s₀ : Shared) (H₀ : Hp) (ex : List Addr) (pn : List (Addr × Obj)) : Cx :=
  { X with N := L ++ M, s₀ := s₀, H₀ := H₀, env := compEnvC scope cl s₀.heap.objs.size X.env, outer := X.stack, stack := X.stack, ex := ex, fn := fun _ => false, pn := pn, xe := fun _ _ => False }
structure xM (X : Cx) (L M : List Str) (scope : Scope) (cl : List (Str × Addr)) : Prop where
  clos : closureFor scope X.env = pure cl
  cell : ∀ y ∈ scope.names, y.2 ≠ .cell
  kind : scope.kind = .function
  names : ∀ y ∈ scope.names, y.2 = .local → scope.names.lookup y.1 = some .local
  sub : ∀ y c, cl.lookup y = some c → X.env.cells.lookup y = some c
  has : ∀ y, ((relabel scope X.env).names.lookup y = some .cell ∨ (relabel scope X.env).names.lookup y = some .free) → ∃ c, cl.lookup y = some c
  mlen : M.length = X.N.length
  msk : ∀ (i : Nat) y, M[i]? = some y → Vis (relabel scope X.env) y → X.N[i]? = some y
  vis : ∀ (i : Nat) y, M[i]? = some y → Vis (relabel scope X.env) y → ((relabel scope X.env).names.lookup y = some .cell ∨ (relabel scope X.env).names.lookup y = some .free)
  out : ∀ (i : Nat) y, M[i]? = some y → Vis (relabel scope X.env) y → Vis X.env.scope y ∧ X.env.kindOf y ≠ some .local
theorem Inv.letGo {X : Cx} {pins : List (Addr × Obj)} {σ : St} {H : Hp} {s : Shared} {C : Addr} {h' : Heap} (I : Inv X pins σ H s) (f : zaD X pins H C) (sb : Heap.SameBut C s.heap h') : Inv X pins σ H { s with heap := h' } := by
  obtain ⟨f0, f1, f2, f3, f4, f5⟩ := f
  have ne : ∀ b, b ∉ [C] → b ≠ C := fun b hb z => hb (by rw [z]; exact List.mem_singleton.mpr rfl)
  refine I.call' (s' := { s with heap := h' }) (ch := [C]) rfl ⟨fun b o e _ _ hx => (sb.2 b (ne b hx)).trans e, fun b o e _ _ hx => ⟨o.slots, (sb.2 b (ne b hx)).trans e⟩, fun _ _ _ n _ => n, fun b o e hx => ⟨o, (sb.2 b (ne b hx)).trans e⟩, fun _ _ q => q, fun _ _ _ q => q, fun _ ps q => ⟨#[], by rw [q]; simp⟩⟩ ?_ I.bare fun b hb => ?_
  · intro b ob e
    refine (I.hok b ob e).stay (fun c v hc q => (sb.2 c ?_).trans q) (fun _ q => q) fun _ _ q => q
    rintro rfl
    rcases hc with z | z
    · rw [← z, f0] at e; cases e
    · rw [f0] at z; cases z
  · rw [List.mem_singleton.mp hb]
    exact ⟨f3, f1, f4, f5⟩
theorem zcI {use : Option (Value → Sem Unit)} {Qf : Value → Shared → Prop} {X : Cx} {elt tg iter : Expr} {ifs : List Expr} {L M : List Str} {scope : Scope} {cl : List (Str × Addr)} {pos : Pos} {wi : TI} {g : TG} {tt : TT} {te : TE}
    (hc : X.calm = true) (S : xM X L M scope cl) (hi : PI X tg iter wi)
    (hgS : ∀ (σ : St) (v : V) (H : Hp) (Q : St → Hp → Prop), g v (List.replicate L.length none ++ σ) H Q → g v (List.replicate L.length none ++ σ) H (fun σ2 H2 => Zw (List.replicate L.length none ++ σ) σ2 ∧ Q σ2 H2))
    (hg : ∀ s₀ H₀ ex pn, PG (Vw X L M scope cl s₀ H₀ ex pn) tg g) (ht : ∀ s₀ H₀ ex pn, PIf (Vw X L M scope cl s₀ H₀ ex pn) ifs tt) (he : ∀ s₀ H₀ ex pn, PE (Vw X L M scope cl s₀ H₀ ex pn) elt te)
    (hs : ∀ x, foldedSetIterable iter X.env x = pure x := by intro _; rfl) :
    ∀ (pos' : Pos) (pins : List (Addr × Obj)) (s : Shared) (σ : St) (H : Hp) (Q : VK), Inv X pins σ H s → tLC wi L.length g tt te σ H Q →
      (∀ (D C : Addr) (H' : Hp) (s' : Shared), Inv X pins σ H' s' → (∃ m, s'.heap.Ns C m) → zaD X pins H' C → Q (.ref D) H' → compPost (model X.prog X.w) X.A X.xe use Qf (.ref D) C (.ok .next) s') →
      wpAny (model X.prog X.w) X.A (comprehension (.ListComp elt [⟨tg, iter, ifs, 0⟩] scope pos) scope X.env pos' (newList []) false (eval iter X.env) use) Qf X.xe s := by
  intro pos' pins s σ H Q I h fin
  refine wpAny_comprehension_free (use := use) rfl hs S.clos S.kind S.names (thn (hi pins s σ H _ I h) fun v s1 h1 => thn h1 fun itv s2 h2 => ?_)
  obtain ⟨it, fp, tn, J, H2, e, I2, T, st2, f2, q⟩ := h2
  subst e
  have hD : H2 s2.heap.objs.size = none := I2.hok.fresh (Nat.le_refl _)
  obtain ⟨W, ⟨m0, w0⟩, turn⟩ := q _ hD
  refine wpAny_newObj_type (wpAny_newFunctionEnv S.cell (by intro y hy; simp at hy) (fun h₁ hns₁ hsb₁ => ?_) S.kind)
  have I3 : Inv X pins σ (upd H2 s2.heap.objs.size (.lst [])) { s2 with heap := s2.heap.push { cls := .type "list", data := .seq ([] : List Value).toArray } } := by
    refine I2.laid (t' := s2.toks) (fun b u e => Heap.get?_push_of_some _ e) (Nat.le_refl _) ?_
    exact ⟨Nat.zero_le _, [], 0, .nil, Heap.get?_push_size _ rfl⟩
  generalize hs3 : ({ s2 with heap := s2.heap.push { cls := .type "list", data := .seq ([] : List Value).toArray } } : Shared) = s3 at I3 hns₁ hsb₁ ⊢
  have hobj : ∀ b ∈ fp, b < s2.heap.objs.size := fun b hb => by
    obtain ⟨o, ho, _⟩ := T.obj _ _ st2 b hb
    exact Heap.lt_size ho
  have hz3 : s3.heap.objs.size = s2.heap.objs.size + 1 := by rw [← hs3]; exact Heap.size_push ..
  have k23 : ∀ b o, s2.heap.get? b = some o → s3.heap.get? b = some o := fun b o e => by rw [← hs3]; exact Heap.get?_push_of_some _ e
  have k34 : ∀ b o, s3.heap.get? b = some o → h₁.get? b = some o := fun b o e => (hsb₁.2 b (Nat.ne_of_lt (Heap.lt_size e))).trans (Heap.get?_push_of_some _ e)
  generalize hH3 : upd H2 s2.heap.objs.size (.lst []) = H3 at I3 w0
  have hfp3 : ∀ b ∈ fp, H3 b = none := fun b hb => by
    rw [← hH3, zn (Nat.ne_of_lt (hobj b hb))]
    exact (f2 b hb).1
  have nfs : ∀ b ∈ fp, b ∉ frs X.stack := fun b hb z => by
    obtain ⟨_, n1, n2, _⟩ := f2 b hb
    rcases List.mem_cons.mp (I3.stkSub b z) with e | e
    · exact n1 e
    · exact n2 e
  let Y : Cx := Vw X L M scope cl s3 H3 fp (X.pn ++ pins)
  have OkY : Y.Ok := by
    refine ⟨I.ok.mod, S.kind, I.ok.glob, I.ok.blt, Nat.le_refl _, fun x y c h1 h2 => I.ok.inj x y c (S.sub x c h1) (S.sub y c h2), fun x hx => S.has x hx, (fun x c h _ => absurd h Bool.false_ne_true), I.ok.hd, I.ok.frames, .inl rfl, fun b hb => ⟨?_, fun x c e z => ?_⟩,
      fun b o e => I3.bs b o e, Nat.le_trans I.ok.bsz I3.sz, fun b o e hb => ?_, nfs, I3.stack, I3.stkFree⟩
    · show b ≠ s3.heap.objs.size
      exact Nat.ne_of_lt (Nat.lt_of_lt_of_le (hobj b hb) (by rw [hz3]; exact Nat.le_succ _))
    · exact (f2 b hb).2.2.2.2.1 x c (S.sub x c e) z
    · rcases (f2 b hb).2.2.2.1 with z | z
      · exact I.ok.noex b o e z
      · have h1 := Heap.lt_size e
        have h2 := I.ok.bsz
        exact absurd (Nat.lt_of_lt_of_le h1 (Nat.le_trans h2 z)) (Nat.lt_irrefl _)
  have I4 : Inv Y [] (List.replicate L.length none ++ σ) H3 { s3 with heap := h₁, toks := s3.toks + ([] : List (Str × Value)).length } := by
    refine ⟨OkY, rfl, I3.bare, Un.kept k34, ⟨_, hns₁, fun i y v e1 e2 e3 => ?_⟩, fun x c e => ?_, I3.hok.fresh (Nat.le_refl _), fun x c e => I3.freeC x c (S.sub x c e), fun p hp => ?_, I3.hok.kept k34, ?_⟩
    · have hi : ¬ i < L.length := fun hlt => by
        rw [List.getElem?_append_left (by simpa using hlt), List.getElem?_replicate] at e2
        split at e2 <;> cases e2
      have e0' : M[i - L.length]? = some y := by
        have e1 : (L ++ M)[i]? = some y := e1
        rw [List.getElem?_append_right (by omega)] at e1
        exact e1
      have e2' : σ[i - L.length]? = some (some v) := by rw [List.getElem?_append_right (by simpa using Nat.le_of_not_lt hi)] at e2; simpa using e2
      have e1' := S.msk _ y e0' e3
      obtain ⟨ov, ok⟩ := S.out _ y e0' e3
      obtain ⟨m, hn, hl⟩ := I3.loc
      obtain ⟨u, ru, lk⟩ := hl _ y v e1' e2' ov
      refine ⟨u, ru, ?_⟩
      rcases lk with ⟨hk, _⟩ | ⟨_, c, hc', hcell⟩
      · exact absurd hk ok
      · have kn := S.vis _ y e0' e3
        obtain ⟨c', hc2⟩ := S.has y kn
        have := S.sub y c' hc2
        rw [hc'] at this
        cases this
        refine .inr ⟨kn, c, hc2, ?_⟩
        obtain ⟨o, ho, hd⟩ := hcell
        exact ⟨o, k34 _ _ ho, hd⟩
    · obtain ⟨v, o, ho, hd⟩ := I3.cell x c (S.sub x c e)
      exact ⟨v, o, k34 _ _ ho, hd⟩
    · have hp' : p ∈ X.pn ++ pins := List.append_nil (X.pn ++ pins) ▸ hp
      obtain ⟨a1, a2, a3, a4, a5⟩ := I3.pin p hp'
      refine ⟨k34 _ _ a1, a2, Nat.ne_of_lt (Heap.lt_size a1), fun z => ?_, a5⟩
      rcases List.mem_cons.mp (I3.stkSub p.1 z) with e | e
      · exact a3 e
      · exact a4 e
    · show (List.replicate L.length none ++ σ).length = (L ++ M).length
      rw [List.length_append, List.length_append, List.length_replicate, I.len, S.mlen]
  have fpY : ∀ {H' : Hp}, (∀ b ∈ fp, H' b = none) → ∀ b ∈ fp, zaD Y [] H' b := fun {H'} hn b hb => by
    refine ⟨hn b hb, (OkY.exf b hb).1, nfs b hb, .inl hb, (OkY.exf b hb).2, fun p hp => ?_⟩
    have hp' : p ∈ X.pn ++ pins := List.append_nil (X.pn ++ pins) ▸ hp
    exact (f2 b hb).2.2.2.2.2 p hp'
  have st4 : tn 0 h₁ := T.keep _ _ _ st2 fun b hb o e => k34 b o (k23 b o e)
  -- behind the loop
  have back : ∀ (H' : Hp) (s' : Shared), Inv Y [] (List.replicate L.length none ++ σ) H' s' → Q (.ref s2.heap.objs.size) H' → compPost (model X.prog X.w) X.A X.xe use Qf (.ref s2.heap.objs.size) s3.heap.objs.size (.ok .next) s' := fun H' s' J' q' => by
    obtain ⟨m, hn, _⟩ := J'.loc
    refine fin _ _ H' s' (I3.call' (ch := fp) J'.os J'.base J'.hok J'.bare fun b hb => ?_) ⟨m, hn⟩ (I3.fpOk (Nat.le_refl _) J'.free) q'
    obtain ⟨_, n1, _, n3, n4, n5⟩ := f2 b hb
    exact ⟨n3, n1, n4, n5⟩
  have loop : codeAny (model X.prog X.w) X.A (.compLoop (.ListComp elt [⟨tg, iter, ifs, 0⟩] scope pos) 0 (.ref it) (.ref s2.heap.objs.size) (compEnvC scope cl s3.heap.objs.size X.env))
      (compPost (model X.prog X.w) X.A X.xe use Qf (.ref s2.heap.objs.size) s3.heap.objs.size) { s3 with heap := h₁, toks := s3.toks + ([] : List (Str × Value)).length } := by
    refine Yr (fun n s' => ∃ i ys H', Inv Y [] (List.replicate L.length none ++ σ) H' s' ∧ tn i s'.heap ∧ (∀ b ∈ fp, H' b = none) ∧ W i n ys H') ?_ m0 ⟨0, [], H3, I4, st4, hfp3, w0⟩
    rintro n s5 ⟨i, ys, H5, I5, st5, fr5, w5⟩
    rcases turn i n ys H5 w5 with ⟨stop, qn⟩ | ⟨go, hlen, step⟩
    · refine thn (T.done Y rfl rfl rfl hc i [] s5 _ H5 _ I5 (fpY fr5) st5 stop) fun r s6 hh9 => ?_
      obtain ⟨hr, I6⟩ := hh9
      subst hr
      exact back H5 s6 I6 qn
    · refine thn (T.item Y rfl rfl rfl hc i [] s5 _ H5 _ I5 (fpY fr5) st5 go) fun r s6 hh9 => ?_
      obtain ⟨u, hr, h6⟩ := hh9
      subst hr
      refine thn h6 fun _ s7 hh9 => ?_
      obtain ⟨x, H7, I7, r7, y7, st7, fr7⟩ := hh9
      have I7' := I7.pinned (fpY fr7) (T.obj _ _ st7)
      have g7 := hgS σ x H7 _ (step x H7 y7)
      refine thn (hg _ _ _ _ _ s7 _ H7 x u _ I7' r7 g7) fun _ s8 hh9 => ?_
      obtain ⟨σ8, H8, I8, sub8, q8⟩ := hh9
      have again : ∀ {σ9 : St} {H9 : Hp} {s9 : Shared} {zs : List V}, Inv Y ([] ++ Wg fp s7.heap) σ9 H9 s9 → Zw (List.replicate L.length none ++ σ) σ9 → (∃ m', m' < n ∧ W (i + 1) m' zs H9) →
          ∃ m, m < n ∧ ∃ i ys H', Inv Y [] (List.replicate L.length none ++ σ) H' s9 ∧ tn i s9.heap ∧ (∀ b ∈ fp, H' b = none) ∧ W i m ys H' := fun {σ9 H9 s9 zs} I9 sub9 w9 => by
        obtain ⟨m', hm, w9⟩ := w9
        refine ⟨m', hm, i + 1, zs, H9, (I9.sub sub9).unpinned, T.keep _ _ _ st7 fun b hb o e => (I9.pin (b, o) (List.mem_append_right _ (List.mem_append_right _ (vd hb e)))).1, fun b hb => ?_, w9⟩
        obtain ⟨o, e, d⟩ := T.obj _ _ st7 b hb
        exact (I9.pin (b, o) (List.mem_append_right _ (List.mem_append_right _ (vd hb e)))).2.1
      refine thn (ht _ _ _ _ _ s8 σ8 H8 _ I8 q8) fun b s9 hh9 => ?_
      obtain ⟨H9, I9, q9⟩ := hh9
      cases b with
      | false =>
        rw [if_neg Bool.false_ne_true] at q9
        rw [if_neg Bool.false_ne_true]
        exact again I9 sub8 q9
      | true =>
        rw [if_pos rfl] at q9
        rw [if_pos rfl]
        refine thn (he _ _ _ _ _ s9 σ8 H9 _ I9 q9) fun y s10 hh9 => ?_
        obtain ⟨yv, H10, I10, r10, hD10, w10⟩ := hh9
        obtain ⟨z10, its, k, rv, e10⟩ : ys.length ≤ sizeLine ∧ ∃ (its : List Value) (n : Nat), yC ys its ∧ s10.heap.get? s2.heap.objs.size = some { cls := .type "list", data := .seq its.toArray n } := I10.hok _ _ hD10
        have hl10 : s10.heap.PlainList s2.heap.objs.size its.toArray := ⟨k, e10⟩
        refine wpAny_list_append_plain (hsz := by rw [List.size_toArray, ← rv.length]; exact z10) hl10 fun h11 hl11 sb11 => ?_
        obtain ⟨k', e11⟩ := hl11
        have I11 : Inv Y ([] ++ Wg fp s7.heap) σ8 (upd H10 s2.heap.objs.size (.lst (ys ++ [yv]))) { s10 with heap := h11 } := by
          refine I10.write (x := s2.heap.objs.size) (e := s2.heap.objs.size) (t' := s10.toks) (by rw [hD10]; exact True.intro) (.inl rfl) (fun b u hb e => (sb11.2 b hb).trans e) ⟨_, e11⟩ ?_
          refine ⟨by rw [List.length_append]; show ys.length + 1 ≤ sizeLine; exact hlen, its ++ [y], k', rv.append (.cons r10 .nil), ?_⟩
          rw [e11]
          simp
        exact again I11 sub8 w10
  exact codeAny_compStart_list loop (T.self _ 0 _ _ _ st4 loop)
theorem zeY {X : Cx} {elt tg iter : Expr} {ifs : List Expr} {L M : List Str} {scope : Scope} {cl : List (Str × Addr)} {pos : Pos} {wi : TI} {g : TG} {tt : TT} {te : TE}
    (hc : X.calm = true) (S : xM X L M scope cl) (hi : PI X tg iter wi)
    (hgS : ∀ (σ : St) (v : V) (H : Hp) (Q : St → Hp → Prop), g v (List.replicate L.length none ++ σ) H Q → g v (List.replicate L.length none ++ σ) H (fun σ2 H2 => Zw (List.replicate L.length none ++ σ) σ2 ∧ Q σ2 H2))
    (hg : ∀ s₀ H₀ ex pn, PG (Vw X L M scope cl s₀ H₀ ex pn) tg g) (ht : ∀ s₀ H₀ ex pn, PIf (Vw X L M scope cl s₀ H₀ ex pn) ifs tt) (he : ∀ s₀ H₀ ex pn, PE (Vw X L M scope cl s₀ H₀ ex pn) elt te)
    (hs : ∀ x, foldedSetIterable iter X.env x = pure x := by intro _; rfl) :
    PE X (.ListComp elt [⟨tg, iter, ifs, 0⟩] scope pos) (tLC wi L.length g tt te) := by
  intro pins s σ H Q I h
  rw [eval_ListComp]
  refine zcI hc S hi hgS hg ht he hs _ pins s σ H Q I h fun D C H' s' I' ⟨m, hn⟩ f q => ⟨m, hn, fun h' sb => ⟨.ref D, _, I'.letGo f sb, rfl, q⟩⟩
theorem zgC {i : Nat} {x : Str} {px spos : Pos} {X : Cx} {elt tg iter : Expr} {ifs : List Expr} {L M : List Str} {scope : Scope} {cl : List (Str × Addr)} {pos : Pos} {wi : TI} {g : TG} {tt : TT} {te : TE}
    (hN : X.N.Nodup) (hi' : X.N[i]? = some x) (hx : Loc X.env.scope x) (hc : X.calm = true) (S : xM X L M scope cl) (hi : PI X tg iter wi)
    (hgS : ∀ (σ : St) (v : V) (H : Hp) (Q : St → Hp → Prop), g v (List.replicate L.length none ++ σ) H Q → g v (List.replicate L.length none ++ σ) H (fun σ2 H2 => Zw (List.replicate L.length none ++ σ) σ2 ∧ Q σ2 H2))
    (hg : ∀ s₀ H₀ ex pn, PG (Vw X L M scope cl s₀ H₀ ex pn) tg g) (ht : ∀ s₀ H₀ ex pn, PIf (Vw X L M scope cl s₀ H₀ ex pn) ifs tt) (he : ∀ s₀ H₀ ex pn, PE (Vw X L M scope cl s₀ H₀ ex pn) elt te)
    (hs : ∀ x, foldedSetIterable iter X.env x = pure x := by intro _; rfl)
    (hsw : swapsWith (.ListComp elt [⟨tg, iter, ifs, 0⟩] scope pos) (some (.Name x px)) spos.line X.env = pure true := by rfl)
    (hf : X.fn x = true ∨ X.env.scope.names.lookup x = some .local := by first | exact .inl rfl | exact .inr rfl | assumption) :
    PS X (.Assign [.Name x px] (.ListComp elt [⟨tg, iter, ifs, 0⟩] scope pos) spos) (zf8 (tLC wi L.length g tt te) (Yn i)) := by
  intro pins s σ H D I h
  rw [exec_Assign_Name_used _ _ _ _ hsw]
  refine wpAny_bind (wpAny_standAt (wpAny_bind ?_))
  show wpAny _ X.A (do let _ ← comprehension (.ListComp elt [⟨tg, iter, ifs, 0⟩] scope pos) scope X.env _ (newList []) false (eval iter X.env) (some (assign (.Name x px) X.env))) _ _ s
  refine wpAny_bind (thn (zcI (use := some (assign (.Name x px) X.env)) (Qf := fun _ s' => SP X pins D .next s') hc S hi hgS hg ht he hs _ pins s σ H _ I h fun D' C H' s' I' ⟨m, hn⟩ f q => ?_) fun _ s' hq => wpAny_pure (wpAny_pure hq))
  have hob : ∀ b ∈ [C], ∃ o, s'.heap.get? b = some o ∧ ∀ v, o.data ≠ .cell v := fun b hb => by
    rw [List.mem_singleton.mp hb]
    obtain ⟨o, es, ep, e, d, _⟩ := hn
    exact ⟨o, e, fun v z => by rw [z] at d; cases d⟩
  have I2 := I'.pinned (fp := [C]) (fun b hb => by rw [List.mem_singleton.mp hb]; exact f) hob
  refine thn (zJ (pos := px) hN hi' hx hf _ s' σ H' (.ref D') (.ref D') _ I2 rfl q) fun _ s2 hh9 => ?_
  obtain ⟨σ2, H2, I3, q3⟩ := hh9
  obtain ⟨o, es, ep, e, d⟩ := hn
  have pn := I3.pin (C, o) (List.mem_append_right _ (List.mem_append_right _ (vd (List.mem_singleton.mpr rfl) e)))
  exact ⟨m, ⟨o, es, ep, pn.1, d⟩, fun h' sb => ⟨σ2, H2, I3.unpinned.letGo ⟨pn.2.1, f.2⟩ sb, q3⟩⟩
noncomputable def Wk (names rn dn : List (Str × NameKind)) (N M cn : List Str) : Bool :=
  names.all (fun y => decide (y.2 ≠ .cell)) && names.all (fun y => decide (y.2 = .local → names.lookup y.1 = some .local)) &&
  rn.all (fun y => decide ((y.2 = .cell ∨ y.2 = .free) → y.1 ∈ cn)) &&
  (M.length == N.length) && (M.zip N).all (fun p => decide ((rn.lookup p.1 = some .local ∨ rn.lookup p.1 = some .cell ∨ rn.lookup p.1 = some .free) → p.1 = p.2)) &&
  M.all (fun y => decide ((rn.lookup y = some .local ∨ rn.lookup y = some .cell ∨ rn.lookup y = some .free) →
    (rn.lookup y = some .cell ∨ rn.lookup y = some .free) ∧ (dn.lookup y = some .local ∨ dn.lookup y = some .cell ∨ dn.lookup y = some .free) ∧ dn.lookup y ≠ some .local))
theorem YC {X : Cx} {L N M cn : List Str} {scope : Scope} {cl : List (Str × Addr)} {rn dn : List (Str × NameKind)} (hr : (relabel scope X.env).names = rn) (hd : X.env.scope.names = dn) (hN : X.N = N)
    (clos : closureFor scope X.env = pure cl) (kind : scope.kind = .function) (hc : cl.map Prod.fst = cn) (good : Wk scope.names rn dn N M cn = true) (sub : ∀ p ∈ cl, X.env.cells.lookup p.1 = some p.2) : xM X L M scope cl := by
  unfold Wk at good
  simp only [Bool.and_eq_true, List.all_eq_true, decide_eq_true_eq] at good
  obtain ⟨⟨⟨⟨⟨g1, g2⟩, g3⟩, g5⟩, g6⟩, g4⟩ := good
  have g5 : M.length = N.length := by simpa using g5
  refine ⟨clos, g1, kind, g2, fun y c h => sub (y, c) (PySem.mem_of_lookup h), fun y h => ?_, by rw [hN]; exact g5, fun i y e v => ?_, fun i y e v => ?_, fun i y e v => ?_⟩
  · rw [hr] at h
    have hy : y ∈ cn := by
      rcases h with h | h
      · exact g3 _ (PySem.mem_of_lookup h) (.inl rfl)
      · exact g3 _ (PySem.mem_of_lookup h) (.inr rfl)
    exact Yx (by rw [hc]; exact hy)
  · unfold Vis at v
    rw [hr] at v
    have hi := (List.getElem?_eq_some_iff.mp e).1
    have hj : i < N.length := by rw [← g5]; exact hi
    have hz : (M.zip N)[i]? = some (y, N[i]) := by
      rw [List.getElem?_zip_eq_some]
      exact ⟨e, List.getElem?_eq_getElem hj⟩
    have := g6 _ (List.mem_of_getElem? hz) v
    rw [hN, List.getElem?_eq_getElem hj]
    exact congrArg some this.symm
  · unfold Vis at v
    rw [hr] at v ⊢
    exact (g4 y (List.mem_of_getElem? e) v).1
  · unfold Vis at v
    rw [hr] at v
    obtain ⟨_, k1, k2⟩ := g4 y (List.mem_of_getElem? e) v
    refine ⟨?_, ?_⟩
    · unfold Vis; rw [hd]; exact k1
    · show X.env.scope.names.lookup y ≠ _; rw [hd]; exact k2
end L2
namespace PySem
open Sem (wp)
open AutoSeq1 (wpAny_loadPart')
section
variable {prog : Program} {w : World} {A : Around} {E : Value → Shared → Prop} {s : Shared}
theorem Yd {it l : Addr} {i : Nat} {items} {x : Value} {Q : Value → Shared → Prop} (hit : s.heap.IsTupleIter it l i)
    (hl : s.heap.IsTuple l items) (hx : items[i]? = some x)
    (hQ : ∀ h', h'.IsTupleIter it l (i + 1) → Heap.SameBut it s.heap h' → Q x { s with heap := h' }) :
    wpAny (model prog w) A (Builtin.SmallTypes.nextOf (.ref it)) Q E s := by
  obtain ⟨o, ho, hc, hd⟩ := id hit
  obtain ⟨ol, hol, _, nl, hdl⟩ := hl
  unfold Builtin.SmallTypes.nextOf
  refine wpAny_bind (wpAny_callSpecial?_slot (name := Str.ofString "__next__") hit.typeIs F.slot_tuple_iterator_next
    (wpAny_call_entry F.slot_tuple_iterator_next hit.typeIs F.entry_tuple_iterator_next ?_ (F.args_tuple_iterator_next_1 _)))
  show wpAny _ _ (field (.ref it) 0 >>= _) _ _ s
  refine wpAny_bind (wpAny_field ho hd (x := .ref l) rfl ?_)
  show wpAny _ _ (if (Value.ref l == Value.none) = true then _ else _) _ _ s
  rw [if_neg (show ¬ ((Value.ref l == Value.none) = true) from Bool.false_ne_true)]
  show wpAny _ _ (field (.ref it) 1 >>= _) _ _ s
  refine wpAny_bind (wpAny_field ho hd (x := .int i 0) rfl ?_)
  show wpAny _ _ (seqItems? (.ref l) >>= _) _ _ s
  refine wpAny_bind (wpAny_seqItems hol hdl ?_)
  simp only [Int.toNat_natCast, hx]
  refine wpAny_bind (wpAny_setField ho hd (by simp) (wpAny_pure ⟨x, rfl, wpAny_pure (hQ _ ?_ (Heap.SameBut.update ..))⟩))
  exact ⟨_, Heap.get?_update_self _ ho (Obj.isFreed_of_fields (Obj.data_mapFields hd _)), (Obj.cls_mapFields ..).trans hc, by
    rw [Obj.data_mapFields hd]; simp [rawInt]⟩
theorem wg {it l : Addr} {i : Nat} {items} {Q : Value → Shared → Prop} (hh : A.handled = none)
    (hit : s.heap.IsTupleIter it l i) (hl : s.heap.IsTuple l items) (hx : items[i]? = none)
    (hE : ∀ h' e, Heap.ExtBut it s.heap h' → (∃ o, h'.get? e = some o ∧ o.cls = .type "StopIteration") → E (.ref e) { s with heap := h' }) :
    wpAny (model prog w) A (Builtin.SmallTypes.nextOf (.ref it)) Q E s := by
  obtain ⟨o, ho, hc, hd⟩ := id hit
  obtain ⟨ol, hol, _, nl, hdl⟩ := hl
  unfold Builtin.SmallTypes.nextOf
  refine wpAny_bind (wpAny_callSpecial?_slot (name := Str.ofString "__next__") hit.typeIs F.slot_tuple_iterator_next
    (wpAny_call_entry F.slot_tuple_iterator_next hit.typeIs F.entry_tuple_iterator_next ?_ (F.args_tuple_iterator_next_1 _)))
  show wpAny _ _ (field (.ref it) 0 >>= _) _ _ s
  refine wpAny_bind (wpAny_field ho hd (x := .ref l) rfl ?_)
  show wpAny _ _ (if (Value.ref l == Value.none) = true then _ else _) _ _ s
  rw [if_neg (show ¬ ((Value.ref l == Value.none) = true) from Bool.false_ne_true)]
  show wpAny _ _ (field (.ref it) 1 >>= _) _ _ s
  refine wpAny_bind (wpAny_field ho hd (x := .int i 0) rfl ?_)
  show wpAny _ _ (seqItems? (.ref l) >>= _) _ _ s
  refine wpAny_bind (wpAny_seqItems hol hdl ?_)
  simp only [Int.toNat_natCast, hx]
  refine wpAny_bind (wpAny_rule (wpAny_bind (wpAny_setField ho hd (by simp) ?_)))
  show wpAny _ _ (newExc (.type "StopIteration") [] >>= _) _ _ _
  refine wpAny_bind ?_
  simp only [newExc, newTuple]
  refine wpAny_bind (wpAny_newObj_type ?_ (by size_fits))
  refine wpAny_bind (m := firstArgMember _ _) (wpAny_of_eq (a := Value.none) (by first | rfl | (simp only [firstArgMember]; rfl)) ?_)
  refine wpAny_newObj_type ?_ (by size_fits)
  simp only [raiseNew]
  refine wpAny_bind (wpAny_handled ?_)
  first | rw [show A.in1.handled = none from hh] | rw [hh]
  refine wpAny_bind (wpAny_pure (wpAny_throw ?_))
  exact hE _ _ (((Heap.SameBut.update ..).extBut.push _).push _) ⟨_, Heap.get?_push_size _ rfl, rfl⟩
end
theorem Yp {prog : Program} {w : World} {A : Around} {E : Value → Shared → Prop} {s : Shared} {e it l : Addr} {i : Nat} {items : Array Value} {old : Value} {Q : Option Value → Shared → Prop} (hh : A.handled = none)
    (he : IsEnum s.heap e it i old) (hit : s.heap.IsTupleIter it l i) (hl : s.heap.IsTuple l items) (hx : items[i]? = none)
    (hQ : ∀ h', Heap.ExtBut it s.heap h' → Q none { s with heap := h' }) : wpAny (model prog w) A (pyNext (.ref e)) Q E s := by
  have hT : s.TypeIs (.ref e) "enumerate" := ⟨_, he, rfl⟩
  unfold pyNext
  refine wpAny_bind (wpAny_attempt (wpAny_callSpecial?_slot (name := Str.ofString "__next__") hT F.slot_enumerate_next
    (wpAny_call_entry F.slot_enumerate_next hT F.entry_enumerate_next ?_ (F.args_enumerate_next_1 _))))
  show wpAny _ _ (field (.ref e) 2 >>= _) _ _ _
  refine wpAny_bind (wpAny_field he rfl (x := .ref it) rfl ?_)
  refine wpAny_bind (wg hh hit hl hx fun h' x he' hx' => ?_)
  obtain ⟨o, ho, hc⟩ := hx'
  refine wpAny_bind (wpAny_isInstance (T := "StopIteration") (b := true) ⟨o, ho, hc⟩ isSubtype_stop ?_)
  exact wpAny_pure (hQ _ he')
theorem v7 {prog : Program} {w : World} {A : Around} (hh : A.handled = none) (it l : Addr) (hne : l ≠ it) (items : Array Value) :
    Draws prog w A it [it, l] items.size (fun i v => items[i]? = some v) (fun i h => h.IsTupleIter it l i ∧ h.IsTuple l items) where
  live := fun _ _ st => let ⟨o, ho, _⟩ := st.1; ⟨o, ho⟩
  frame := fun _ _ _ st hk => by
    obtain ⟨⟨o, ho, r⟩, ⟨o2, ho2, r2⟩⟩ := st
    exact ⟨⟨o, hk it (by simp) o ho, r⟩, ⟨o2, hk l (by simp) o2 ho2, r2⟩⟩
  item := fun i s Q E hi st hQ => by
    refine Yd st.1 st.2 (x := items[i]) (by simp [hi]) fun h' hit' hs' => ?_
    exact hQ _ h' s.toks (by simp [hi]) ⟨hit', st.2.extBut hs'.extBut hne⟩ hs'
  done := fun s Q E st hE => wg hh st.1 st.2 (by simp) hE
theorem Zi (l : Addr) (items : Array Value) (n : Nat) (dd : Option Addr) (sl : Array (Option Value)) :
    Meets (Builtin.«enumerate.__new__» ⟨[.type "enumerate", .ref l], []⟩) (fun _ R s => s.heap.get? l = some { cls := .type "tuple", dict := dd, data := .seq items n, slots := sl } ∧
      R (.ok (.ret (.ref (s.heap.push { cls := .type "tuple_iterator", data := .fields #[.ref l, .int 0 0] }).objs.size)))
        { s with heap := (s.heap.push { cls := .type "tuple_iterator", data := .fields #[.ref l, .int 0 0] }).push { cls := .type "enumerate", data := .fields #[.none, .bool false, .ref s.heap.objs.size, rawInt 0, .none, .none] } }) :=
  .of_wp fun prog w A R s h => by
    obtain ⟨hp, g, d, tk, os⟩ := s; obtain ⟨hl, h⟩ := h
    have hsub := sub_enumerate
    have hL : Heap.IsTuple (Shared.heap ⟨hp, g, d, tk, os⟩) l items := ⟨_, hl, rfl, n, rfl⟩
    wp_walk using wpAny_loadPart' hl
    refine wpAny_stack_any fun st => wpAny_pure ?_
    split
    · rename_i c _ _ _ _ _
      cases (c == Value.type "enumerate")
      · wp_walk using wpAny_loadPart' hl, wpAny_pyIter_tuple hL
        exact ⟨_, rfl, h⟩
      · wp_walk using wpAny_loadPart' hl, wpAny_pyIter_tuple hL
        exact ⟨_, rfl, h⟩
    · wp_walk using wpAny_loadPart' hl, wpAny_pyIter_tuple hL
      exact ⟨_, rfl, h⟩
section
variable {prog : Program} {w : World} {A : Around} {E : Value → Shared → Prop} {s : Shared}
theorem Yq {l : Addr} {items : Array Value} {Q : Value → Shared → Prop}
    (hl : s.heap.IsTuple l items)
    (h : ∀ h', IsEnum h' (s.heap.objs.size + 1) s.heap.objs.size 0 .none → h'.IsTupleIter s.heap.objs.size l 0 → h'.objs.size = s.heap.objs.size + 2 →
      (∀ b o, s.heap.get? b = some o → h'.get? b = some o) → Q (.ref (s.heap.objs.size + 1)) { s with heap := h' }) :
    wpAny (model prog w) A (call (.type "enumerate") [.ref l]) Q E s := by
  obtain ⟨⟨cls, dd, data, sl⟩, ho, hc, n, hd⟩ := hl
  simp only at hc hd
  subst hc hd
  refine callType_new F.called_enumerate (by decide) (F.typeCall_enumerate_1 _) (F.newCall_enumerate_1 _) (fun obj => F.args_object_init_2 obj _) F.entry_enumerate_new
    (Zi l items n dd sl) ⟨ho, ?_⟩
  have hz : (s.heap.push { cls := .type "tuple_iterator", data := .fields #[.ref l, .int 0 0] }).objs.size = s.heap.objs.size + 1 := Heap.size_push ..
  show _ ∧ _
  rw [hz]
  have he : IsEnum ((s.heap.push { cls := .type "tuple_iterator", data := .fields #[.ref l, .int 0 0] }).push
      { cls := .type "enumerate", data := .fields #[.none, .bool false, .ref s.heap.objs.size, rawInt 0, .none, .none] }) (s.heap.objs.size + 1) s.heap.objs.size 0 .none := by
    have := Heap.get?_push_size (s.heap.push { cls := .type "tuple_iterator", data := .fields #[.ref l, .int 0 0] })
      (o := { cls := .type "enumerate", data := .fields #[.none, .bool false, .ref s.heap.objs.size, rawInt 0, .none, .none] }) rfl
    rw [hz] at this; exact this
  refine ⟨⟨_, he, rfl⟩, h _ he ⟨_, Heap.get?_push_of_some _ (Heap.get?_push_size _ rfl), rfl, rfl⟩ (by rw [Heap.size_push, hz]) fun b o x => Heap.get?_push_of_some _ (Heap.get?_push_of_some _ x)⟩
end
end PySem
namespace L2
open PySem PySem.Spec PyProof.Rows
section
variable {X : Cx} {pins : List (Addr × Obj)} {σ : St} {H : Hp} {s : Shared} {h' : Heap}
theorem Inv.grown {ch : List Addr} {T : Addr} {o : HO} {t' : Nat} (I : Inv X pins σ H s) (hch : ∀ b ∈ ch, zaD X pins H b) (hT : s.heap.objs.size ≤ T) (k : ∀ b u, b ∉ ch → s.heap.get? b = some u → h'.get? b = some u)
    (new : yV X.prog X.w (upd H T o) h' T o) : Inv X pins σ (upd H T o) { s with heap := h', toks := t' } := by
  have hn : H T = none := I.hok.fresh hT
  have neT : ∀ b u, s.heap.get? b = some u → b ≠ T := fun b u e => Nat.ne_of_lt (Nat.lt_of_lt_of_le (Heap.lt_size e) hT)
  have nch : ∀ b u, H b = some u → b ∉ ch := fun b u e z => by rw [(hch b z).1] at e; cases e
  refine I.step (g' := s.gens) (d' := s.drawn) (ch := ch) (fun b hb => ?_) (fun b u _ _ hc e _ => k b u hc e) (fun b u _ _ hc e _ => ⟨u.slots, k b u hc e⟩) (fun b u _ e n => by rw [zn (neT b u e)]; exact n)
    (fun b u hc e => ⟨u, k b u hc e⟩) (fun b xs e => by rw [zn (zl e hn)]; exact e) (fun b u xs e => by rw [zn (zl e hn)]; exact e) (fun b ps e => ⟨#[], by rw [zn (zl e hn), e]; simp⟩) (fun m hm => ?_) (fun b u e => ?_) I.bare
  · obtain ⟨_, n1, _, n3, n4, n5⟩ := hch b hb
    exact ⟨n3, n1, n4, n5⟩
  · obtain ⟨ob, es, ep, ho, r⟩ := hm
    exact ⟨ob, es, ep, k _ ob (fun z => (hch _ z).2.1 rfl) ho, r⟩
  · by_cases hb : b = T
    · subst hb; rw [zq] at e; cases e; exact new
    · rw [zn hb] at e
      refine (I.hok b u e).stay (fun c v hc q => k c v ?_ q) (fun c q => by rw [zn (zl q hn)]; exact q) fun c xs q => by rw [zn (zl q hn)]; exact q
      rcases hc with z | z
      · rw [z]; exact nch b u e
      · exact nch c _ z
theorem Inv.turnedN {ch : List Addr} {t' : Nat} (I : Inv X pins σ H s) (hch : ∀ b ∈ ch, zaD X pins H b) (k : ∀ b u, b ∉ ch → s.heap.get? b = some u → h'.get? b = some u) : Inv X pins σ H { s with heap := h', toks := t' } := by
  have nch : ∀ b u, H b = some u → b ∉ ch := fun b u e z => by rw [(hch b z).1] at e; cases e
  refine I.step (g' := s.gens) (d' := s.drawn) (ch := ch) (fun b hb => ?_) (fun b u _ _ hc e _ => k b u hc e) (fun b u _ _ hc e _ => ⟨u.slots, k b u hc e⟩) (fun b u _ e n => n)
    (fun b u hc e => ⟨u, k b u hc e⟩) (fun b xs e => e) (fun b u xs e => e) (fun b ps e => ⟨#[], by rw [e]; simp⟩) (fun m hm => ?_) (fun b u e => ?_) I.bare
  · obtain ⟨_, n1, _, n3, n4, n5⟩ := hch b hb
    exact ⟨n3, n1, n4, n5⟩
  · obtain ⟨ob, es, ep, ho, r⟩ := hm
    exact ⟨ob, es, ep, k _ ob (fun z => (hch _ z).2.1 rfl) ho, r⟩
  · refine (I.hok b u e).stay (fun c v hc q => k c v ?_ q) (fun c q => q) fun c xs q => q
    rcases hc with z | z
    · rw [z]; exact nch b u e
    · exact nch c _ z
end
noncomputable def Iel (K : PySem.W.Frag) (a : Addr) : It :=
  ⟨fun i H => ∃ xs x, SqL K H a xs ∧ xs[i]? = some x, fun i H v H' => ∃ T x, v = .ref T ∧ H T = none ∧ H' = upd H T (.tup [.int i, x]) ∧ ∀ xs, SqL K H a xs → xs[i]? = some x, fun i H => ∃ xs, SqL K H a xs ∧ xs.length ≤ i⟩
noncomputable def Iet (K : PySem.W.Frag) (a : Addr) : It :=
  ⟨fun i H => ∃ xs x, SqT K H a xs ∧ xs[i]? = some x, fun i H v H' => ∃ T x, v = .ref T ∧ H T = none ∧ H' = upd H T (.tup [.int i, x]) ∧ ∀ xs, SqT K H a xs → xs[i]? = some x, fun i H => ∃ xs, SqT K H a xs ∧ xs.length ≤ i⟩
theorem zbw {P : Program} {w : World} {K : PySem.W.Frag} {es : List Expr} {k : Nat} {tp : Pos} (a e it : Addr) (hne : e ≠ it) :
    zej P w K (.Tuple es k tp) (Iel K a) [e, it] e (fun i h => (∃ old, IsEnum h e it i old) ∧ h.IsListIter it a i) where
  mem := by simp
  obj := fun i h st b hb => by
    obtain ⟨⟨old, he⟩, o, ho, _, hd⟩ := st
    rcases List.mem_cons.mp hb with rfl | hb
    · exact ⟨_, he, fun v z => by cases z⟩
    · rw [List.mem_singleton.mp hb]
      exact ⟨o, ho, fun v z => by rw [hd] at z; cases z⟩
  keep := fun i h h' st kk => by
    obtain ⟨⟨old, he⟩, hit⟩ := st
    exact ⟨⟨old, kk e (by simp) _ he⟩, hit.at fun o q => kk it (by simp) o q⟩
  item := by
    intro X hP hw hK hc i pins s σ H E I hf st hg
    subst hP hw hK
    obtain ⟨⟨old, he⟩, hit⟩ := st
    obtain ⟨xs, x, hq, hx⟩ := hg
    obtain ⟨its, rv, p, hz⟩ := I.list hq
    obtain ⟨u, hu, ru⟩ := rv.get hx
    refine wpAny_pyNext_enum_item he hit p.isList (x := u) (by simpa using hu) hne fun h1 ho1 hit1 hT1 hz1 hk1 => ?_
    refine ⟨_, rfl, wpAny_letOwnedTupleGo_enum ho1 fun h2 he2 hs2 => ?_⟩
    have hfr : H s.heap.objs.size = none := I.hok.fresh (Nat.le_refl _)
    have neE : s.heap.objs.size ≠ e := Nat.ne_of_gt (Heap.lt_size he)
    have hT2 : h2.get? s.heap.objs.size = some { cls := .type "tuple", data := .seq #[.int i s.toks, u] } := (hs2.2 _ neE).trans hT1
    refine ⟨.ref s.heap.objs.size, upd H s.heap.objs.size (.tup [.int i, x]), ?_, rfl, ⟨_, x, rfl, hfr, rfl, fun ys hy => by rw [I.list_inj hy hq]; exact hx⟩, ⟨⟨_, by simpa using he2⟩, hit1.at fun o q => (hs2.2 it (Ne.symm hne)).trans q⟩, fun b hb => ?_⟩
    · refine I.grown (ch := [e, it]) hf (Nat.le_refl _) (fun b v hb q => ?_) ?_
      · have n1 : b ≠ e := fun z => hb (by simp [z])
        have n2 : b ≠ it := fun z => hb (by simp [z])
        exact (hs2.2 b n1).trans (hk1 b v n1 n2 q)
      · exact ⟨by show 2 ≤ sizeLine; decide, [.int i s.toks, u], .cons ⟨_, rfl⟩ (.cons ru .nil), ⟨_, hT2, rfl, 0, rfl⟩⟩
    · obtain ⟨o, hb2, _⟩ : ∃ o, s.heap.get? b = some o ∧ True := by
        rcases List.mem_cons.mp hb with rfl | hb
        · exact ⟨_, he, trivial⟩
        · rw [List.mem_singleton.mp hb]
          obtain ⟨o, ho, _⟩ := hit
          exact ⟨o, ho, trivial⟩
      rw [zn (Nat.ne_of_lt (Heap.lt_size hb2))]
      exact (hf b hb).1
  done := by
    intro X hP hw hK hc i pins s σ H E I hf st hg
    subst hP hw hK
    obtain ⟨⟨old, he⟩, hit⟩ := st
    obtain ⟨xs, hq, hx⟩ := hg
    obtain ⟨its, rv, p, hz⟩ := I.list hq
    have hl := rv.length
    exact wpAny_pyNext_enum_end (I.ok.hd hc) he hit p.isList (by simp; omega) fun h1 hx1 => ⟨rfl, I.turnedN (ch := [e, it]) (t' := s.toks) hf fun b v hb q => hx1 b v (fun z => hb (by simp [z])) q⟩
  self := fun _ _ _ _ _ st h => wpAny_pyIter_enum st.1.choose_spec h
theorem zbp {P : Program} {w : World} {K : PySem.W.Frag} {es : List Expr} {k : Nat} {tp : Pos} (a e it : Addr) (hne : e ≠ it) (hai : a ≠ it) (hae : a ≠ e) :
    zej P w K (.Tuple es k tp) (Iet K a) [e, it] e (fun i h => (∃ old, IsEnum h e it i old) ∧ h.IsTupleIter it a i) where
  mem := by simp
  obj := fun i h st b hb => by
    obtain ⟨⟨old, he⟩, o, ho, _, hd⟩ := st
    rcases List.mem_cons.mp hb with rfl | hb
    · exact ⟨_, he, fun v z => by cases z⟩
    · rw [List.mem_singleton.mp hb]
      exact ⟨o, ho, fun v z => by rw [hd] at z; cases z⟩
  keep := fun i h h' st kk => by
    obtain ⟨⟨old, he⟩, o, ho, r⟩ := st
    exact ⟨⟨old, kk e (by simp) _ he⟩, o, kk it (by simp) o ho, r⟩
  item := by
    intro X hP hw hK hc i pins s σ H E I hf st hg
    subst hP hw hK
    obtain ⟨⟨old, he⟩, hit⟩ := st
    obtain ⟨xs, x, hq, hx⟩ := hg
    obtain ⟨its, rv, p, hz⟩ := I.tuple hq
    obtain ⟨u, hu, ru⟩ := rv.get hx
    have p' : s.heap.IsTuple a its.toArray := p
    have D := v7 (prog := X.prog) (w := X.w) (A := X.A.in1) (I.ok.hd hc) it a hai its.toArray
    have hlt : i < its.toArray.size := by
      obtain ⟨h1, _⟩ := List.getElem?_eq_some_iff.mp hu
      simpa using h1
    refine wpAny_pyNext_enum_itemD D he ⟨hit, p'⟩ hlt hne (by simp [hne, Ne.symm hae]) fun u' h1 tk hP1 ho1 hit1 hT1 hz1 hk1 => ?_
    have eu : u' = u := by
      have : its[i]? = some u' := by simpa using hP1
      rw [hu] at this
      exact (Option.some.inj this).symm
    subst eu
    refine ⟨_, rfl, wpAny_letOwnedTupleGo_enum ho1 fun h2 he2 hs2 => ?_⟩
    have hfr : H s.heap.objs.size = none := I.hok.fresh (Nat.le_refl _)
    have neE : s.heap.objs.size ≠ e := Nat.ne_of_gt (Heap.lt_size he)
    have hT2 : h2.get? s.heap.objs.size = some { cls := .type "tuple", data := .seq #[.int i tk, u'] } := (hs2.2 _ neE).trans hT1
    refine ⟨.ref s.heap.objs.size, upd H s.heap.objs.size (.tup [.int i, x]), ?_, rfl, ⟨_, x, rfl, hfr, rfl, fun ys hy => by rw [I.tuple_inj hy hq]; exact hx⟩, ⟨⟨_, by simpa using he2⟩, ?_⟩, fun b hb => ?_⟩
    · refine I.grown (ch := [e, it]) hf (Nat.le_refl _) (fun b v hb q => ?_) ?_
      · have n1 : b ≠ e := fun z => hb (by simp [z])
        have n2 : b ≠ it := fun z => hb (by simp [z])
        exact (hs2.2 b n1).trans (hk1 b v n1 n2 q)
      · exact ⟨by show 2 ≤ sizeLine; decide, [.int i tk, u'], .cons ⟨_, rfl⟩ (.cons ru .nil), ⟨_, hT2, rfl, 0, rfl⟩⟩
    · obtain ⟨o, ho, r⟩ := hit1.1
      exact ⟨o, (hs2.2 it (Ne.symm hne)).trans ho, r⟩
    · obtain ⟨o, hb2, _⟩ : ∃ o, s.heap.get? b = some o ∧ True := by
        rcases List.mem_cons.mp hb with rfl | hb
        · exact ⟨_, he, trivial⟩
        · rw [List.mem_singleton.mp hb]
          obtain ⟨o, ho, _⟩ := hit
          exact ⟨o, ho, trivial⟩
      rw [zn (Nat.ne_of_lt (Heap.lt_size hb2))]
      exact (hf b hb).1
  done := by
    intro X hP hw hK hc i pins s σ H E I hf st hg
    subst hP hw hK
    obtain ⟨⟨old, he⟩, hit⟩ := st
    obtain ⟨xs, hq, hx⟩ := hg
    obtain ⟨its, rv, p, hz⟩ := I.tuple hq
    have hl := rv.length
    have p' : s.heap.IsTuple a its.toArray := p
    exact Yp (I.ok.hd hc) he hit p' (by simp; omega) fun h1 hx1 => ⟨rfl, I.turnedN (ch := [e, it]) (t' := s.toks) hf fun b v hb q => hx1 b v (fun z => hb (by simp [z])) q⟩
  self := fun _ _ _ _ _ st h => wpAny_pyIter_enum st.1.choose_spec h
noncomputable def zhS (K : PySem.W.Frag) (ta : TA) : TI := fun σ H R => ta σ H fun vs H1 => ∃ a, vs = [.ref a] ∧ ((∃ xs, H1 a = some (.lst xs) ∧ R (Iel K a) H1) ∨ (∃ xs, SqT K H1 a xs ∧ R (Iet K a) H1))
theorem zfL {X : Cx} {es : List Expr} {k : Nat} {tp : Pos} {a : Expr} {ta : TA} {p pos : Pos} (hg : Gl X "enumerate") (hm : X.mg "enumerate" = none) (hb : bootBuiltins "enumerate" = some (.type "enumerate")) (ha : PA X [a] ta)
    (hs : starEach [a] X.env = [(false, eval a X.env)] := by rfl) : PI X (.Tuple es k tp) (.Call (.Name "enumerate" p) [a] [] pos) (zhS X.K ta) := by
  intro pins s σ H R I h
  refine Call_ (YA I hg hm hb (PyProof.Rows.callWith_type1 (thn (ha pos pins s σ H _ I h) fun us s1 hh9 => ?_) hs rfl))
  obtain ⟨vs, H1, I1, r1, q1⟩ := hh9
  obtain ⟨l, e, q⟩ := q1
  subst e
  obtain ⟨u, rfl, ru⟩ := VL r1
  cases ru
  have hn : ∀ b, s1.heap.objs.size ≤ b → zaD X pins H1 b := fun b hb => I1.fpOk hb (I1.hok.fresh hb)
  have hne : s1.heap.objs.size + 1 ≠ s1.heap.objs.size := by omega
  have hfp : ∀ b ∈ [s1.heap.objs.size + 1, s1.heap.objs.size], zaD X pins H1 b := fun b hb => by
    rcases List.mem_cons.mp hb with rfl | hb
    · exact hn _ (Nat.le_succ _)
    · rw [List.mem_singleton.mp hb]; exact hn _ (Nat.le_refl _)
  rcases q with ⟨xs, hx, q⟩ | ⟨xs, hx, q⟩
  · obtain ⟨_, its, n, _, e⟩ : xs.length ≤ sizeLine ∧ ∃ (its : List Value) (n : Nat), yC xs its ∧ s1.heap.get? l = some { cls := .type "list", data := .seq its.toArray n } := I1.hok _ _ hx
    refine call_enumerate_1 e fun h2 he hit hz hk => wpAny_pyIter_enum he ?_
    exact ⟨_, _, _, _, H1, rfl, I1.kept (t' := s1.toks) hk, zbw l _ _ hne, ⟨⟨_, he⟩, hit⟩, hfp, q⟩
  · obtain ⟨its, _, p1, _⟩ := I1.tuple hx
    have lt : l < s1.heap.objs.size := by
      obtain ⟨o, ho, _⟩ := p1
      exact Heap.lt_size ho
    refine Yq (show s1.heap.IsTuple l its.toArray from p1) fun h2 he hit hz hk => wpAny_pyIter_enum he ?_
    exact ⟨_, _, _, _, H1, rfl, I1.kept (t' := s1.toks) hk, zbp l _ _ hne (Nat.ne_of_lt lt) (Nat.ne_of_lt (Nat.lt_succ_of_lt lt)), ⟨⟨_, he⟩, hit⟩, hfp, q⟩
end L2
namespace HT
open PySem PyProof.Rows
noncomputable def lexLe : List Int → List Int → Bool
  | [], _ => true
  | _ :: _, [] => false
  | x :: xs, y :: ys => if x = y then lexLe xs ys else decide (x ≤ y)
theorem zbl (x y : Int) (xs ys : List Int) : lexLe (x :: xs) (y :: ys) = if x = y then lexLe xs ys else decide (x ≤ y) := rfl
theorem zdW (A : Around) (s : Shared) (a : Int) (t : Tok) (c : Int) (u : Tok) (prog : Program) (w : World) (E : Value → Shared → Prop) (Q : Value → Shared → Prop) (h : Q (.bool (decide (a ≤ c))) s) :
    wpAny (model prog w) A (richCompare .LtE (.int a t) (.int c u)) Q E s :=
  (PyProof.Rows.le_int h : wpAny (model prog w) A (compareOp .LtE (.int a t) (.int c u)) Q E s)
section
open PySem.SeqAt
open PySem.AutoSeq1 (wpAny_loadPart')
open PySem.MeetsSeq PySem.MeetsSeq2 PySem.MeetsSeq3
theorem Va (l b : Addr) (items items2 : Array Value) (n n2 : Nat) (dd dd2 : Option Addr) (sl sl2 : Array (Option Value)) (ns ms : List Int) (hi : IntsAre items.toList ns) (hj : IntsAre items2.toList ms) :
    Meets (Builtin.«tuple.__le__» ⟨[.ref l, .ref b], []⟩)
      (fun _ R s => s.heap.get? l = some { cls := .type "tuple", dict := dd, data := .seq items n, slots := sl } ∧ s.heap.get? b = some { cls := .type "tuple", dict := dd2, data := .seq items2 n2, slots := sl2 } ∧
        R (.ok (.ret (.bool (lexLe ns ms)))) s) :=
  .of_wp fun prog w A R s h => by
    obtain ⟨hp, g, d, tk, os⟩ := s; obtain ⟨hl, hb, h⟩ := h
    have f2 := AutoSeq1.sub_tuple_tuple
    have z1 : items.size = ns.length := by rw [← hi.length]; simp
    have z2 : items2.size = ms.length := by rw [← hj.length]; simp
    wp_walk using wpAny_loadPart' hl, wpAny_loadPart' hb, wpAny_forIn_list _ (fun rest b s' => b.1 = none ∧ s' = ⟨hp, g, d, tk, os⟩ ∧ ∃ (vs ws : List Value) (ns' ms' : List Int), rest = vs.zip ws ∧
      IntsAre vs ns' ∧ IntsAre ws ms' ∧ ns'.length + items2.size = ms'.length + items.size ∧ R (.ok (.ret (.bool (lexLe ns' ms')))) ⟨hp, g, d, tk, os⟩) _
    case turn =>
      rintro ⟨y, x⟩ rest b s' ⟨hb', rfl, vs, ws, ns', ms', hz, hvi, hwi, hlen, hR⟩
      cases hvi with
      | nil => rw [List.zip_nil_left] at hz; cases hz
      | cons a t hvi' =>
        cases hwi with
        | nil => rw [List.zip_nil_right] at hz; cases hz
        | cons c u hwi' =>
          rw [List.zip_cons_cons] at hz
          injection hz with hyx hrest
          injection hyx with hy hx
          subst hy hx
          rw [zbl] at hR
          simp only [List.length_cons] at hlen
          obtain ⟨e, he, hiff⟩ := zdq A.in1 ⟨hp, g, d, tk, os⟩ a t c u
          refine wpAny_bind (he prog w _ _ ?_)
          cases e with
          | true =>
            rw [if_pos (hiff.mp rfl)] at hR
            wp_walk
            exact ⟨rfl, rfl, _, _, _, _, hrest, hvi', hwi', by omega, hR⟩
          | false =>
            rw [if_neg (fun q => absurd (hiff.mpr q) Bool.false_ne_true)] at hR
            have hri := zdW A.in1 ⟨hp, g, d, tk, os⟩ a t c u prog w
            wp_walk using hri
            exact ⟨_, rfl, by simpa using hR⟩
    case fin =>
      rintro ⟨b1, b2⟩ s' ⟨hb', rfl, vs, ws, ns', ms', hz, hvi, hwi, hlen, hR⟩
      simp only at hb'
      subst hb'
      have hv : lexLe ns' ms' = decide (items.size ≤ items2.size) := by
        cases hvi with
        | nil =>
          simp only [List.length_nil] at hlen
          show true = _
          exact (decide_eq_true (by omega)).symm
        | cons a t hv =>
          cases hwi with
          | nil =>
            simp only [List.length_nil, List.length_cons] at hlen
            show false = _
            exact (decide_eq_false (by omega)).symm
          | cons c u hw =>
            rw [List.zip_cons_cons] at hz
            cases hz
      rw [hv] at hR
      wp_walk
      exact ⟨_, rfl, by simpa [Builtin.Tuple.tupleCompareSizes] using hR⟩
    case h =>
      exact ⟨rfl, rfl, items.toList, items2.toList, ns, ms, rfl, hi, hj, by omega, h⟩
end
section
variable {prog : Program} {w : World} {A : Around} {E : Value → Shared → Prop} {s : Shared}
theorem le_tupInts {l b : Addr} {items items2 : Array Value} {ns ms : List Int} {Q : Value → Shared → Prop} (hl : IsTup s.heap l items) (hb : IsTup s.heap b items2) (hi : IntsAre items.toList ns) (hj : IntsAre items2.toList ms)
    (hu : A.units < cLine) (h : Q (.bool (lexLe ns ms)) s) : wpAny (model prog w) A (compareOp .LtE (.ref l) (.ref b)) Q E s := by
  obtain ⟨⟨cls, dd, data, sl⟩, ho, hc, n, hd⟩ := id hl
  obtain ⟨⟨cls2, dd2, data2, sl2⟩, ho2, hc2, n2, hd2⟩ := id hb
  simp only at hc hd hc2 hd2
  subst hc hd hc2 hd2
  exact richCompare_meets_room (op := .LtE) ⟨_, ho, rfl⟩ ⟨_, ho2, rfl⟩ PySem.F.slot_tuple_le PySem.F.entry_tuple_le (PySem.F.args_tuple_le_2 _ _) (Va l b items items2 n n2 dd dd2 sl sl2 ns ms hi hj)
    ⟨ho, ho2, show Value.bool (lexLe ns ms) ≠ Value.notImplemented ∧ Q (.bool (lexLe ns ms)) s from ⟨(fun x => nomatch x), h⟩⟩ hu
end
end HT
namespace L2
open PySem PySem.Spec PyProof.Rows
noncomputable def rLeT (K : PySem.W.Frag) : R2 := fun x y H Q => ∃ a b ns ms, x = .ref a ∧ y = .ref b ∧ SqT K H a (ns.map V.int) ∧ SqT K H b (ms.map V.int) ∧ Q (.bl (HT.lexLe ns ms)) H
theorem zha {X : Cx} (hu : X.A.units < cLine) : OpR X (compareOp .LtE) (rLeT X.K) := by
  intro pins s σ H x y v u Q I rx ry h
  obtain ⟨a, b, ns, ms, rfl, rfl, ha, hb, q⟩ := h
  cases rx
  cases ry
  obtain ⟨its, r1, p1, _⟩ := I.tuple ha
  obtain ⟨its2, r2, p2, _⟩ := I.tuple hb
  have i1 : IntsAre its.toArray.toList ns := Wr r1
  have i2 : IntsAre its2.toArray.toList ms := Wr r2
  exact HT.le_tupInts p1 p2 i1 i2 hu ⟨.bl (HT.lexLe ns ms), H, I, rfl, q⟩
end L2
namespace HT
open PySem PyProof.Rows
section
variable {prog : Program} {w : World} {A : Around} {E : Value → Shared → Prop} {s : Shared}
theorem own_getItem_whole {t sl : Addr} {items : Array Value} {vl vu : Value} {lo hi : Option Int} {Q : Value → Shared → Prop} (ht : IsTup s.heap t items) (hs : s.heap.IsSliceOf sl vl vu .none) (pl : IsPart vl lo) (pu : IsPart vu hi)
    (hw : sIx items.size 0 lo = 0 ∧ sIx items.size items.size hi = items.size) (h : Q (.ref t) s) : wpAny (model prog w) A (getItem (.ref t) (.ref sl)) Q E s := by
  obtain ⟨os, hos, hcs, hds⟩ := id hs
  have hTs : s.TypeIs (.ref sl) "slice" := ⟨os, hos, hcs⟩
  unfold getItem
  try with_reducible refine wpAny_holding ?_
  first | refine wpAny_bind (wpAny_pure ?_) | skip
  refine wpAny_bind (wpAny_sequenceKey ht.typeIs (by decide) ?_)
  refine wpAny_bind (wpAny_callSpecial?_slot (name := Str.ofString "__getitem__") ht.typeIs PyProof.Rows.slot_tuple_getitem
    (wpAny_call_entry PyProof.Rows.slot_tuple_getitem ht.typeIs entry_tuple_getitem ?_ (args_tuple_getitem _ _)))
  show wpAny _ _ (Builtin.Tuple.tupleItemsOf (.ref t) >>= _) _ _ s
  refine wpAny_bind (tupleItemsOf_ ht ?_)
  refine wpAny_bind (wpAny_typeOf hTs ?_)
  rw [if_pos (by decide)]
  refine wpAny_bind (vF hs pl pu ?_)
  have hyes : (((sIx items.size 0 lo : Nat) : Int) == 0 && (1 : Int) == 1 && (sIx items.size items.size hi - sIx items.size 0 lo) == items.size) = true := by
    rw [hw.1, hw.2]
    simp
  show wpAny _ _ (if (((sIx items.size 0 lo : Nat) : Int) == 0 && (1 : Int) == 1 && (sIx items.size items.size hi - sIx items.size 0 lo) == items.size) = true then _ else _) _ _ s
  rw [if_pos hyes]
  refine wpAny_bind (m := Builtin.Tuple.tupleIsExact (.ref t)) ?_
  unfold Builtin.Tuple.tupleIsExact
  refine wpAny_bind (wpAny_typeOf ht.typeIs (wpAny_pure ?_))
  rw [if_pos (by decide)]
  refine wpAny_bind (wpAny_rule ?_)
  first
    | exact wpAny_pure ⟨_, rfl, wpAny_pure h⟩
    | exact wpAny_bind (wpAny_pure (wpAny_pure ⟨_, rfl, wpAny_pure h⟩))
end
end HT
namespace L2
open PySem PySem.Spec PyProof.Rows
end L2
namespace PySem
open Sem (wp)
theorem zB {prog : Program} {w : World} {A : Around} {it a : Addr} {fp : List Addr} {n k : Nat} {P : Nat → Value → Prop} {St : Nat → Heap → Prop} (D : Draws prog w A it fp n P St) {h h' : Heap} (st : St k h) (sb : Heap.SameBut a h h') (na : a ∉ fp) : St k h' :=
  D.frame _ _ _ st fun b hb o e => (sb.2 b fun z => na (z ▸ hb)).trans e
set_option genInjectivity false in
set_option genSizeOf false in
set_option genCtorIdx false in
structure zdv (z TI TO i1 i2 : Addr) (fp1 fp2 : List Addr) : Prop where
  nd : [z, TI, TO, i1, i2].Nodup
  z1 : z ∉ fp1
  z2 : z ∉ fp2
  o1 : TO ∉ fp1
  o2 : TO ∉ fp2
  i12 : i1 ∉ fp2
  i21 : i2 ∉ fp1
section
variable {prog : Program} {w : World} {A : Around} {E : Value → Shared → Prop} {s : Shared} {z TI TO i1 i2 : Addr} {fp1 fp2 : List Addr} {n1 n2 k1 k2 : Nat} {P1 P2 : Nat → Value → Prop} {St1 St2 : Nat → Heap → Prop} {a b : Value}
theorem Vc {Q : Value → Shared → Prop} (D1 : Draws prog w A i1 fp1 n1 P1 St1) (D2 : Draws prog w A i2 fp2 n2 P2 St2) (ap : zdv z TI TO i1 i2 fp1 fp2)
    (hz : IsZip s.heap z TI TO .none) (hTI : IsPair s.heap TI (.ref i1) (.ref i2)) (hTO : IsPair s.heap TO a b) (h1 : St1 k1 s.heap) (h2 : St2 k2 s.heap) (l1 : k1 < n1) (l2 : k2 < n2)
    (hQ : ∀ x y h' tk, P1 k1 x → P2 k2 y → IsZip h' z TI TO (rawInt s.heap.objs.size) → IsPair h' TO x y → St1 (k1 + 1) h' → St2 (k2 + 1) h' → IsPair h' s.heap.objs.size x y →
      (∀ c o, c ∉ [z, TO, i1, i2] → s.heap.get? c = some o → h'.get? c = some o) → Q (.ref s.heap.objs.size) { s with heap := h', toks := tk }) :
    wpAny (model prog w) A (Builtin.«zip.__next__» ⟨[.ref z], []⟩) (fun fin s' => ∃ v, fin = .done (.ret v) ∧ Q v s') E s := by
  obtain ⟨nd, az1, az2, ao1, ao2, a12, a21⟩ := ap
  simp only [List.nodup_cons, List.mem_cons, List.not_mem_nil, or_false, not_or, not_false_eq_true, List.nodup_nil, and_true] at nd
  obtain ⟨⟨n1', n2', n3', n4'⟩, ⟨n5, n6, n7⟩, ⟨n8, n9⟩, n10⟩ := nd
  show wpAny _ _ (field (.ref z) 2 >>= _) _ _ _
  refine wpAny_bind (wpAny_field hz rfl (x := .bool false) rfl ?_)
  show wpAny _ _ (field (.ref z) 3 >>= _) _ _ _
  refine wpAny_bind (wpAny_field hz rfl (x := .ref TI) rfl (wpAny_bind (wpAny_seqItems hTI rfl ?_)))
  show wpAny _ _ (Builtin.SmallTypes.ownedTupleIsFree (.ref z) >>= _) _ _ _
  refine wpAny_bind ?_
  unfold Builtin.SmallTypes.ownedTupleIsFree
  refine wpAny_bind (wpAny_field hz rfl (x := .none) rfl (wpAny_pure ?_))
  simp only [if_true]
  refine wpAny_bind (wpAny_rule (wpAny_bind (wpAny_field hz rfl (x := .ref TO) rfl (wpAny_bind (wpAny_setField_rec hz (by simp) fun g1 z1 b1 => ?_)))))
  refine wpAny_bind ?_
  simp only [List.zipIdx_cons, List.zipIdx_nil, List.forIn_cons, List.forIn_nil]
  refine wpAny_bind (wpAny_bind (wpAny_onRaise ?_))
  show wpAny _ _ (Builtin.SmallTypes.nextOf (.ref i1) >>= _) _ _ _
  refine wpAny_bind (D1.item k1 _ _ _ l1 (zB D1 h1 b1 az1) fun x g2 tk2 px st2 b2 => wpAny_pure ?_)
  have o2 : IsPair g2 TO a b := (b2.2 TO n8).trans ((b1.2 TO (Ne.symm n2')).trans hTO)
  refine wpAny_bind (wpAny_seqItems o2 rfl (wpAny_bind (wpAny_updateSeq_pair o2 fun g3 o3 b3 => ?_)))
  refine wpAny_bind (wpAny_letGo (wpAny_pure ?_))
  refine wpAny_bind (wpAny_bind (wpAny_onRaise ?_))
  show wpAny _ _ (Builtin.SmallTypes.nextOf (.ref i2) >>= _) _ _ _
  have s23 : St2 k2 g3 := zB D2 (zB D2 (zB D2 h2 b1 az2) b2 a12) b3 ao2
  refine wpAny_bind (D2.item k2 _ _ _ l2 s23 fun y g4 tk4 py st4 b4 => wpAny_pure ?_)
  have o4 : IsPair g4 TO x b := (b4.2 TO n9).trans o3
  refine wpAny_bind (wpAny_seqItems o4 rfl (wpAny_bind (wpAny_updateSeq_pair o4 fun g5 o5 b5 => ?_)))
  replace o5 : IsPair g5 TO x y := o5
  refine wpAny_bind (wpAny_letGo (wpAny_pure (wpAny_pure ?_)))
  refine wpAny_bind (wpAny_seqItems o5 rfl ?_)
  show wpAny _ _ (newTuple [x, y] >>= _) _ _ _
  refine wpAny_bind (wpAny_newTuple ?_)
  have hsz : g5.objs.size = s.heap.objs.size := by rw [b5.1, b4.1, b3.1, b2.1, b1.1]
  have z5 : IsZip g5 z TI TO .ellipsis := (b5.2 z n2').trans ((b4.2 z n4').trans ((b3.2 z n2').trans ((b2.2 z n3').trans z1)))
  have zlt : z < g5.objs.size := Heap.lt_size z5
  show wpAny _ _ (Builtin.SmallTypes.ownedTupleHandOut (.ref z) (.ref g5.objs.size) >>= _) _ _ _
  refine wpAny_bind ?_
  unfold Builtin.SmallTypes.ownedTupleHandOut
  have z6 : IsZip (g5.push { cls := .type "tuple", data := .seq #[x, y] }) z TI TO .ellipsis := Heap.get?_push_of_some _ z5
  refine wpAny_bind (wpAny_setField_rec z6 (by simp) fun g7 z7 b7 => ?_)
  refine wpAny_setField_rec z7 (by simp) fun g8 z8 b8 => ?_
  have up : ∀ c o, c ≠ z → g5.get? c = some o → g8.get? c = some o := fun c o n e => (b8.2 c n).trans ((b7.2 c n).trans (Heap.get?_push_of_some _ e))
  have t8 : IsPair g8 g5.objs.size x y := (b8.2 _ (Nat.ne_of_gt zlt)).trans ((b7.2 _ (Nat.ne_of_gt zlt)).trans (Heap.get?_push_size _ rfl))
  have e8 : IsZip g8 z TI TO (rawInt g5.objs.size) := z8
  rw [hsz] at e8 t8
  refine wpAny_pure ⟨_, rfl, ?_⟩
  show Q (.ref g5.objs.size) _
  rw [hsz]
  have f1 : St1 (k1 + 1) g5 := zB D1 (zB D1 (zB D1 st2 b3 ao1) b4 a21) b5 ao1
  have f2 : St2 (k2 + 1) g5 := zB D2 st4 b5 ao2
  refine hQ x y g8 _ px py e8 (up _ _ (Ne.symm n2') o5) (D1.frame _ _ _ f1 fun c hc o e => up c o (fun q => az1 (q ▸ hc)) e) (D2.frame _ _ _ f2 fun c hc o e => up c o (fun q => az2 (q ▸ hc)) e) t8 fun c o hc e => ?_
  simp only [List.mem_cons, List.not_mem_nil, or_false, not_or] at hc
  obtain ⟨c1, c2, c3, c4⟩ := hc
  exact up c o c1 ((b5.2 c c2).trans ((b4.2 c c4).trans ((b3.2 c c2).trans ((b2.2 c c3).trans ((b1.2 c c1).trans e)))))
theorem zac {Q : Fin → Shared → Prop} (D1 : Draws prog w A i1 fp1 n1 P1 St1) (az1 : z ∉ fp1) (nz : i1 ≠ z)
    (hz : IsZip s.heap z TI TO .none) (hTI : IsPair s.heap TI (.ref i1) (.ref i2)) (h1 : St1 n1 s.heap)
    (hE : ∀ h' e, (∀ c o, c ≠ z → c ≠ i1 → s.heap.get? c = some o → h'.get? c = some o) → (∃ o, h'.get? e = some o ∧ o.cls = .type "StopIteration") → E (.ref e) { s with heap := h' }) :
    wpAny (model prog w) A (Builtin.«zip.__next__» ⟨[.ref z], []⟩) Q E s := by
  show wpAny _ _ (field (.ref z) 2 >>= _) _ _ _
  refine wpAny_bind (wpAny_field hz rfl (x := .bool false) rfl ?_)
  show wpAny _ _ (field (.ref z) 3 >>= _) _ _ _
  refine wpAny_bind (wpAny_field hz rfl (x := .ref TI) rfl (wpAny_bind (wpAny_seqItems hTI rfl ?_)))
  show wpAny _ _ (Builtin.SmallTypes.ownedTupleIsFree (.ref z) >>= _) _ _ _
  refine wpAny_bind ?_
  unfold Builtin.SmallTypes.ownedTupleIsFree
  refine wpAny_bind (wpAny_field hz rfl (x := .none) rfl (wpAny_pure ?_))
  simp only [if_true]
  refine wpAny_bind (wpAny_rule (wpAny_bind (wpAny_field hz rfl (x := .ref TO) rfl (wpAny_bind (wpAny_setField_rec hz (by simp) fun g1 z1 b1 => ?_)))))
  refine wpAny_bind ?_
  simp only [List.zipIdx_cons, List.zipIdx_nil, List.forIn_cons, List.forIn_nil]
  refine wpAny_bind (wpAny_bind (wpAny_onRaise ?_))
  show wpAny _ _ (Builtin.SmallTypes.nextOf (.ref i1) >>= _) _ _ _
  refine wpAny_bind (D1.done _ _ _ (zB D1 h1 b1 az1) fun g2 e b2 he => ?_)
  obtain ⟨oe, hoe, hce⟩ := he
  have z2 : IsZip g2 z TI TO .ellipsis := b2 _ _ (Ne.symm nz) z1
  have nez : e ≠ z := fun q => by subst q; rw [z2] at hoe; cases hoe; simp at hce
  exact wpAny_setField_rec z2 (by simp) fun g3 _ b3 => hE g3 e (fun c o c1 c2 q => (b3.2 c c1).trans (b2 c o c2 ((b1.2 c c1).trans q))) ⟨oe, (b3.2 e nez).trans hoe, hce⟩
end
noncomputable def YR (b : Bool) (h : Heap) (it l : Addr) (k : Nat) : Prop := if b = true then h.IsListIter it l k else h.IsTupleIter it l k
noncomputable def zbE (b : Bool) (h : Heap) (l : Addr) (items : Array Value) : Prop := if b = true then h.IsList l items else h.IsTuple l items
theorem wF {prog : Program} {w : World} {A : Around} (hh : A.handled = none) (b : Bool) (it l : Addr) (hne : l ≠ it) (items : Array Value) :
    Draws prog w A it [it, l] items.size (fun i v => items[i]? = some v) (fun i h => YR b h it l i ∧ zbE b h l items) := by
  cases b with
  | true => exact Draws.list hh it l hne items
  | false => exact v7 hh it l hne items
noncomputable def Xk (b : Bool) (l : Addr) : Obj := { cls := .type (if b = true then "list_iterator" else "tuple_iterator"), data := .fields #[.ref l, .int 0 0] }
noncomputable abbrev zpA (h : Heap) (b1 : Bool) (l1 : Addr) : Heap := h.push (Xk b1 l1)
noncomputable abbrev zpB (h : Heap) (b1 b2 : Bool) (l1 l2 : Addr) : Heap := (zpA h b1 l1).push (Xk b2 l2)
noncomputable abbrev zpC (h : Heap) (b1 b2 : Bool) (l1 l2 : Addr) : Heap := (zpB h b1 b2 l1 l2).push (Obj.mk (.type "tuple") none (.seq #[.ref h.objs.size, .ref (zpA h b1 l1).objs.size]) #[])
noncomputable abbrev zpD (h : Heap) (b1 b2 : Bool) (l1 l2 : Addr) : Heap := (zpC h b1 b2 l1 l2).push (Obj.mk (.type "tuple") none (.seq #[.none, .none]) #[])
noncomputable abbrev zpE (h : Heap) (b1 b2 : Bool) (l1 l2 : Addr) : Heap := (zpD h b1 b2 l1 l2).push (Obj.mk (.type "zip") none (.fields #[.none, .bool false, .bool false, .ref (zpB h b1 b2 l1 l2).objs.size, .ref (zpC h b1 b2 l1 l2).objs.size]) #[])
theorem zap (b1 b2 : Bool) (l1 l2 : Addr) (xs ys : Array Value) :
    Meets (Builtin.«zip.__new__» ⟨[.type "zip", .ref l1, .ref l2], []⟩) (fun _ R s => zbE b1 s.heap l1 xs ∧ zbE b2 s.heap l2 ys ∧
      R (.ok (.ret (.ref (zpD s.heap b1 b2 l1 l2).objs.size))) { s with heap := zpE s.heap b1 b2 l1 l2 }) :=
  .of_wp fun prog w A R s h => by
    obtain ⟨hp, g, d, tk, os⟩ := s; obtain ⟨hl1, hl2, h⟩ := h
    have hsub := sub_zip
    cases b1 with
    | true =>
      have hL1 : Heap.IsList (Shared.heap ⟨hp, g, d, tk, os⟩) l1 xs := hl1
      cases b2 with
      | true =>
        have hL2 : Heap.IsList (Shared.heap ⟨hp.push { cls := .type "list_iterator", data := .fields #[.ref l1, .int 0 0] }, g, d, tk, os⟩) l2 ys := Heap.IsList.push hl2 _
        wp_walk using wpAny_pyIter_list hL1, wpAny_pyIter_list hL2
        exact ⟨_, rfl, h⟩
      | false =>
        have hL2 : Heap.IsTuple (Shared.heap ⟨hp.push { cls := .type "list_iterator", data := .fields #[.ref l1, .int 0 0] }, g, d, tk, os⟩) l2 ys := Heap.IsTuple.push hl2 _
        wp_walk using wpAny_pyIter_list hL1, wpAny_pyIter_tuple hL2
        exact ⟨_, rfl, h⟩
    | false =>
      have hL1 : Heap.IsTuple (Shared.heap ⟨hp, g, d, tk, os⟩) l1 xs := hl1
      cases b2 with
      | true =>
        have hL2 : Heap.IsList (Shared.heap ⟨hp.push { cls := .type "tuple_iterator", data := .fields #[.ref l1, .int 0 0] }, g, d, tk, os⟩) l2 ys := Heap.IsList.push hl2 _
        wp_walk using wpAny_pyIter_tuple hL1, wpAny_pyIter_list hL2
        exact ⟨_, rfl, h⟩
      | false =>
        have hL2 : Heap.IsTuple (Shared.heap ⟨hp.push { cls := .type "tuple_iterator", data := .fields #[.ref l1, .int 0 0] }, g, d, tk, os⟩) l2 ys := Heap.IsTuple.push hl2 _
        wp_walk using wpAny_pyIter_tuple hL1, wpAny_pyIter_tuple hL2
        exact ⟨_, rfl, h⟩
end PySem
namespace PySem
section
variable {prog : Program} {w : World} {A : Around} {E : Value → Shared → Prop} {s : Shared}
theorem VO {b1 b2 : Bool} {l1 l2 : Addr} {xs ys : Array Value} {Q : Value → Shared → Prop} (hl1 : zbE b1 s.heap l1 xs) (hl2 : zbE b2 s.heap l2 ys)
    (h : ∀ h', IsZip h' (s.heap.objs.size + 4) (s.heap.objs.size + 2) (s.heap.objs.size + 3) .none → IsPair h' (s.heap.objs.size + 2) (.ref s.heap.objs.size) (.ref (s.heap.objs.size + 1)) →
      IsPair h' (s.heap.objs.size + 3) .none .none → YR b1 h' s.heap.objs.size l1 0 → YR b2 h' (s.heap.objs.size + 1) l2 0 →
      (∀ c o, s.heap.get? c = some o → h'.get? c = some o) → Q (.ref (s.heap.objs.size + 4)) { s with heap := h' }) :
    wpAny (model prog w) A (call (.type "zip") [.ref l1, .ref l2]) Q E s := by
  refine callType_new F.called_zip (by decide) (F.typeCall_zip_2 _ _) (F.newCall_zip_2 _ _) (fun obj => F.args_object_init_3 obj _ _) F.entry_zip_new
    (zap b1 b2 l1 l2 xs ys) ⟨hl1, hl2, ?_⟩
  have z1 : (zpA s.heap b1 l1).objs.size = s.heap.objs.size + 1 := Heap.size_push ..
  have z2 : (zpB s.heap b1 b2 l1 l2).objs.size = s.heap.objs.size + 2 := by rw [Heap.size_push, z1]
  have z3 : (zpC s.heap b1 b2 l1 l2).objs.size = s.heap.objs.size + 3 := by rw [Heap.size_push, z2]
  have z4 : (zpD s.heap b1 b2 l1 l2).objs.size = s.heap.objs.size + 4 := by rw [Heap.size_push, z3]
  have g5 : (zpE s.heap b1 b2 l1 l2).get? (zpD s.heap b1 b2 l1 l2).objs.size = some _ := Heap.get?_push_size _ rfl
  have g4 : (zpE s.heap b1 b2 l1 l2).get? (zpC s.heap b1 b2 l1 l2).objs.size = some _ := Heap.get?_push_of_some _ (Heap.get?_push_size _ rfl)
  have g3 : (zpE s.heap b1 b2 l1 l2).get? (zpB s.heap b1 b2 l1 l2).objs.size = some _ := Heap.get?_push_of_some _ (Heap.get?_push_of_some _ (Heap.get?_push_size _ rfl))
  have g2 : (zpE s.heap b1 b2 l1 l2).get? (zpA s.heap b1 l1).objs.size = some (Xk b2 l2) := Heap.get?_push_of_some _ (Heap.get?_push_of_some _ (Heap.get?_push_of_some _ (Heap.get?_push_size _ rfl)))
  have g1 : (zpE s.heap b1 b2 l1 l2).get? s.heap.objs.size = some (Xk b1 l1) := Heap.get?_push_of_some _ (Heap.get?_push_of_some _ (Heap.get?_push_of_some _ (Heap.get?_push_of_some _ (Heap.get?_push_size _ rfl))))
  show _ ∧ _
  rw [z2, z3, z4] at g5
  rw [z1, z2] at g3
  rw [z3] at g4
  rw [z1] at g2
  rw [z4]
  have it0 : ∀ {b : Bool} {l c : Addr}, (zpE s.heap b1 b2 l1 l2).get? c = some (Xk b l) → YR b (zpE s.heap b1 b2 l1 l2) c l 0 := fun {b l c} e => by
    cases b
    · exact ⟨_, e, rfl, rfl⟩
    · exact ⟨_, e, rfl, rfl⟩
  exact ⟨⟨_, g5, rfl⟩, h _ g5 g3 g4 (it0 g1) (it0 g2) fun c o x =>
    Heap.get?_push_of_some _ (Heap.get?_push_of_some _ (Heap.get?_push_of_some _ (Heap.get?_push_of_some _ (Heap.get?_push_of_some _ x))))⟩
variable {z TI TO i1 i2 : Addr} {fp1 fp2 : List Addr} {n1 n2 k1 k2 : Nat} {P1 P2 : Nat → Value → Prop} {St1 St2 : Nat → Heap → Prop} {a b : Value}
theorem YN {Q : Option Value → Shared → Prop} (D1 : Draws prog w A.in1 i1 fp1 n1 P1 St1) (D2 : Draws prog w A.in1 i2 fp2 n2 P2 St2) (ap : zdv z TI TO i1 i2 fp1 fp2)
    (hz : IsZip s.heap z TI TO .none) (hTI : IsPair s.heap TI (.ref i1) (.ref i2)) (hTO : IsPair s.heap TO a b) (h1 : St1 k1 s.heap) (h2 : St2 k2 s.heap) (l1 : k1 < n1) (l2 : k2 < n2)
    (hQ : ∀ x y h' tk, P1 k1 x → P2 k2 y → IsZip h' z TI TO (rawInt s.heap.objs.size) → IsPair h' TO x y → St1 (k1 + 1) h' → St2 (k2 + 1) h' → IsPair h' s.heap.objs.size x y →
      (∀ c o, c ∉ [z, TO, i1, i2] → s.heap.get? c = some o → h'.get? c = some o) → Q (some (.ref s.heap.objs.size)) { s with heap := h', toks := tk }) :
    wpAny (model prog w) A (pyNext (.ref z)) Q E s := by
  have hT : s.TypeIs (.ref z) "zip" := ⟨_, hz, rfl⟩
  unfold pyNext
  exact wpAny_bind (wpAny_attempt (wpAny_callSpecial?_slot (name := Str.ofString "__next__") hT F.slot_zip_next
    (wpAny_call_entry F.slot_zip_next hT F.entry_zip_next
      (Vc D1 D2 ap hz hTI hTO h1 h2 l1 l2 fun x y h' tk a1 a2 a3 a4 a5 a6 a7 a8 => wpAny_pure (hQ x y h' tk a1 a2 a3 a4 a5 a6 a7 a8)) (F.args_zip_next_1 _))))
theorem Ze {Q : Option Value → Shared → Prop} (D1 : Draws prog w A.in1 i1 fp1 n1 P1 St1) (az1 : z ∉ fp1) (nz : i1 ≠ z)
    (hz : IsZip s.heap z TI TO .none) (hTI : IsPair s.heap TI (.ref i1) (.ref i2)) (h1 : St1 n1 s.heap)
    (hQ : ∀ h', (∀ c o, c ≠ z → c ≠ i1 → s.heap.get? c = some o → h'.get? c = some o) → Q none { s with heap := h' }) : wpAny (model prog w) A (pyNext (.ref z)) Q E s := by
  have hT : s.TypeIs (.ref z) "zip" := ⟨_, hz, rfl⟩
  unfold pyNext
  refine wpAny_bind (wpAny_attempt (wpAny_callSpecial?_slot (name := Str.ofString "__next__") hT F.slot_zip_next
    (wpAny_call_entry F.slot_zip_next hT F.entry_zip_next (zac D1 az1 nz hz hTI h1 fun h' e hk he => ?_) (F.args_zip_next_1 _))))
  obtain ⟨o, ho, hc⟩ := he
  refine wpAny_bind (wpAny_isInstance (T := "StopIteration") (b := true) ⟨o, ho, hc⟩ isSubtype_stop ?_)
  exact wpAny_pure (hQ _ hk)
end
end PySem
namespace L2
open PySem PySem.Spec PyProof.Rows
noncomputable def Sq (b : Bool) (K : PySem.W.Frag) (H : Hp) (a : Addr) (xs : List V) : Prop := if b = true then SqL K H a xs else SqT K H a xs
theorem Inv.sq {X : Cx} {pins : List (Addr × Obj)} {σ : St} {H : Hp} {s : Shared} {a : Addr} {xs : List V} {b : Bool} (I : Inv X pins σ H s) (h : Sq b X.K H a xs) : ∃ its : List Value, yC xs its ∧ zbE b s.heap a its.toArray ∧ a < s.heap.objs.size := by
  cases b with
  | true =>
    obtain ⟨its, r, p, _⟩ := I.list (show SqL X.K H a xs from h)
    exact ⟨its, r, p.isList, by obtain ⟨o, n, ho, _⟩ := p; exact Heap.lt_size ho⟩
  | false =>
    obtain ⟨its, r, p, _⟩ := I.tuple (show SqT X.K H a xs from h)
    exact ⟨its, r, p, by obtain ⟨o, ho, _⟩ := p; exact Heap.lt_size ho⟩
theorem Inv.sq_inj {X : Cx} {pins : List (Addr × Obj)} {σ : St} {H : Hp} {s : Shared} {a : Addr} {xs ys : List V} {b : Bool} (I : Inv X pins σ H s) (h : Sq b X.K H a xs) (h' : Sq b X.K H a ys) : xs = ys := by
  cases b with
  | true => exact I.list_inj h h'
  | false => exact I.tuple_inj h h'
noncomputable def Izp (K : PySem.W.Frag) (b1 b2 : Bool) (l1 l2 : Addr) : It :=
  ⟨fun i H => ∃ xs ys x y, Sq b1 K H l1 xs ∧ Sq b2 K H l2 ys ∧ xs[i]? = some x ∧ ys[i]? = some y,
   fun i H v H' => ∃ T x y, v = .ref T ∧ H T = none ∧ H' = upd H T (.tup [x, y]) ∧ (∀ xs, Sq b1 K H l1 xs → xs[i]? = some x) ∧ (∀ ys, Sq b2 K H l2 ys → ys[i]? = some y),
   fun i H => ∃ xs, Sq b1 K H l1 xs ∧ i = xs.length⟩
theorem xh {b : Bool} {h : Heap} {it l : Addr} {k : Nat} (x : YR b h it l k) : ∃ o, h.get? it = some o ∧ ∀ v, o.data ≠ .cell v := by
  cases b
  · obtain ⟨o, ho, _, hd⟩ := x
    exact ⟨o, ho, fun v z => by rw [hd] at z; cases z⟩
  · obtain ⟨o, ho, _, hd⟩ := x
    exact ⟨o, ho, fun v z => by rw [hd] at z; cases z⟩
theorem xW {b : Bool} {h h' : Heap} {it l : Addr} {k : Nat} (x : YR b h it l k) (e : ∀ o, h.get? it = some o → h'.get? it = some o) : YR b h' it l k := by
  cases b
  · obtain ⟨o, ho, r⟩ := x
    exact ⟨o, e o ho, r⟩
  · obtain ⟨o, ho, r⟩ := x
    exact ⟨o, e o ho, r⟩
theorem zec {P : Program} {w : World} {K : PySem.W.Frag} {es : List Expr} {k : Nat} {tp : Pos} (b1 b2 : Bool) (l1 l2 z TI TO i1 i2 : Addr) (ap : zdv z TI TO i1 i2 [i1, l1] [i2, l2]) (n1 : l1 ≠ i1) (n2 : l2 ≠ i2) :
    zej P w K (.Tuple es k tp) (Izp K b1 b2 l1 l2) [z, TI, TO, i1, i2] z (fun i h => IsZip h z TI TO .none ∧ IsPair h TI (.ref i1) (.ref i2) ∧ (∃ a b, IsPair h TO a b) ∧ YR b1 h i1 l1 i ∧ YR b2 h i2 l2 i) where
  mem := by simp
  obj := fun i h st b hb => by
    obtain ⟨hz, hTI, ⟨a, c, hTO⟩, h1, h2⟩ := st
    simp only [List.mem_cons, List.not_mem_nil, or_false] at hb
    rcases hb with rfl | rfl | rfl | rfl | rfl
    · exact ⟨_, hz, fun v z => by cases z⟩
    · exact ⟨_, hTI, fun v z => by cases z⟩
    · exact ⟨_, hTO, fun v z => by cases z⟩
    · exact xh h1
    · exact xh h2
  keep := fun i h h' st kk => by
    obtain ⟨hz, hTI, ⟨a, c, hTO⟩, h1, h2⟩ := st
    exact ⟨kk z (by simp) _ hz, kk TI (by simp) _ hTI, ⟨a, c, kk TO (by simp) _ hTO⟩, xW h1 fun o q => kk i1 (by simp) o q, xW h2 fun o q => kk i2 (by simp) o q⟩
  item := by
    intro X hP hw hK hc i pins s σ H E I hf st hg
    subst hP hw hK
    obtain ⟨hz, hTI, ⟨a, c, hTO⟩, h1, h2⟩ := st
    obtain ⟨xs, ys, x, y, hq1, hq2, hx, hy⟩ := hg
    obtain ⟨its, rv, p, _⟩ := I.sq hq1
    obtain ⟨its2, rv2, p2, _⟩ := I.sq hq2
    obtain ⟨u, hu, ru⟩ := rv.get hx
    obtain ⟨u2, hu2, ru2⟩ := rv2.get hy
    have hl1 : i < its.toArray.size := by simpa using (List.getElem?_eq_some_iff.mp hu).1
    have hl2 : i < its2.toArray.size := by simpa using (List.getElem?_eq_some_iff.mp hu2).1
    have hh : X.A.in1.handled = none := I.ok.hd hc
    refine YN (wF hh b1 i1 l1 n1 its.toArray) (wF hh b2 i2 l2 n2 its2.toArray) ap hz hTI hTO ⟨h1, p⟩ ⟨h2, p2⟩ hl1 hl2 fun v1 v2 h' tk e1 e2 hz' hTO' s1 s2 hT' hk => ?_
    have eu : v1 = u := by
      have : its[i]? = some v1 := by simpa using e1
      rw [hu] at this
      exact (Option.some.inj this).symm
    have eu2 : v2 = u2 := by
      have : its2[i]? = some v2 := by simpa using e2
      rw [hu2] at this
      exact (Option.some.inj this).symm
    subst eu eu2
    obtain ⟨nd, az1, az2, ao1, ao2, a12, a21⟩ := ap
    simp only [List.nodup_cons, List.mem_cons, List.not_mem_nil, or_false, not_or, not_false_eq_true, List.nodup_nil, and_true] at nd
    obtain ⟨⟨m1, m2, m3, m4⟩, ⟨m5, m6, m7⟩, ⟨m8, m9⟩, m10⟩ := nd
    refine ⟨_, rfl, wpAny_letOwnedTupleGo_zip hz' fun h2' hz2 hs2 => ?_⟩
    have hfr : H s.heap.objs.size = none := I.hok.fresh (Nat.le_refl _)
    have neZ : s.heap.objs.size ≠ z := Nat.ne_of_gt (Heap.lt_size hz)
    have hT2 : IsPair h2' s.heap.objs.size v1 v2 := (hs2.2 _ neZ).trans hT'
    have hTI' : IsPair h' TI (.ref i1) (.ref i2) := hk TI _ (by simp [Ne.symm m1, m5, m6, m7]) hTI
    have lt : ∀ b ∈ [z, TI, TO, i1, i2], b < s.heap.objs.size := fun b hb => by
      simp only [List.mem_cons, List.not_mem_nil, or_false] at hb
      rcases hb with rfl | rfl | rfl | rfl | rfl
      · exact Heap.lt_size hz
      · exact Heap.lt_size hTI
      · exact Heap.lt_size hTO
      · obtain ⟨o, ho, _⟩ := xh h1; exact Heap.lt_size ho
      · obtain ⟨o, ho, _⟩ := xh h2; exact Heap.lt_size ho
    refine ⟨.ref s.heap.objs.size, upd H s.heap.objs.size (.tup [x, y]), ?_, rfl, ⟨_, x, y, rfl, hfr, rfl, fun zs hz => by rw [I.sq_inj hz hq1]; exact hx, fun zs hz => by rw [I.sq_inj hz hq2]; exact hy⟩,
      ⟨hz2, (hs2.2 TI (Ne.symm m1)).trans hTI', ⟨_, _, (hs2.2 TO (Ne.symm m2)).trans hTO'⟩, xW s1.1 fun o q => (hs2.2 i1 (Ne.symm m3)).trans q, xW s2.1 fun o q => (hs2.2 i2 (Ne.symm m4)).trans q⟩, fun b hb => ?_⟩
    · refine I.grown (ch := [z, TI, TO, i1, i2]) hf (Nat.le_refl _) (fun b v hb q => ?_) ?_
      · have nb : b ≠ z := fun w => hb (by simp [w])
        refine (hs2.2 b nb).trans (hk b v (fun w => hb ?_) q)
        simp only [List.mem_cons, List.not_mem_nil, or_false] at w ⊢
        rcases w with w | w | w | w
        · exact .inl w
        · exact .inr (.inr (.inl w))
        · exact .inr (.inr (.inr (.inl w)))
        · exact .inr (.inr (.inr (.inr w)))
      · exact ⟨by show 2 ≤ sizeLine; decide, [v1, v2], .cons ru (.cons ru2 .nil), ⟨_, hT2, rfl, 0, rfl⟩⟩
    · rw [zn (Nat.ne_of_lt (lt b hb))]
      exact (hf b hb).1
  done := by
    intro X hP hw hK hc i pins s σ H E I hf st hg
    subst hP hw hK
    obtain ⟨hz, hTI, ⟨a, c, hTO⟩, h1, h2⟩ := st
    obtain ⟨xs, hq, rfl⟩ := hg
    obtain ⟨its, rv, p, _⟩ := I.sq hq
    have hl := rv.length
    have hh : X.A.in1.handled = none := I.ok.hd hc
    have D := wF (prog := X.prog) (w := X.w) hh b1 i1 l1 n1 its.toArray
    refine Ze D ap.z1 ?_ hz hTI ⟨by rw [List.size_toArray, ← hl]; exact h1, p⟩ fun h' hk => ⟨rfl, I.turnedN (ch := [z, TI, TO, i1, i2]) (t' := s.toks) hf fun b v hb q => hk b v (fun w => hb (by simp [w])) (fun w => hb (by simp [w])) q⟩
    have nd := ap.nd
    simp only [List.nodup_cons, List.mem_cons, List.not_mem_nil, or_false, not_or, not_false_eq_true, List.nodup_nil, and_true] at nd
    exact Ne.symm nd.1.2.2.1
  self := fun _ _ _ _ _ st h => wpAny_pyIter_zip st.1 h
noncomputable def iZip (K : PySem.W.Frag) (ta : TA) : TI := fun σ H R => ta σ H fun vs H1 => ∃ b1 b2 l1 l2 xs ys, vs = [.ref l1, .ref l2] ∧ Sq b1 K H1 l1 xs ∧ Sq b2 K H1 l2 ys ∧ R (Izp K b1 b2 l1 l2) H1
theorem zgT {X : Cx} {es : List Expr} {k : Nat} {tp : Pos} {a b : Expr} {ta : TA} {p pos : Pos} (hg : Gl X "zip") (hm : X.mg "zip" = none) (hb : bootBuiltins "zip" = some (.type "zip")) (ha : PA X [a, b] ta)
    (hs : starEach [a, b] X.env = [(false, eval a X.env), (false, eval b X.env)] := by rfl) (hs2 : starEach [b] X.env = [(false, eval b X.env)] := by rfl) : PI X (.Tuple es k tp) (.Call (.Name "zip" p) [a, b] [] pos) (iZip X.K ta) := by
  intro pins s σ H R I h
  refine Call_ (YA I hg hm hb (PyProof.Rows.callWith_type1 (thn (ha pos pins s σ H _ I h) fun us s1 hh9 => ?_) (by rw [hs, hs2]) (by rw [hs2]; rfl)))
  obtain ⟨vs, H1, I1, r1, q1⟩ := hh9
  obtain ⟨b1, b2, l1, l2, xs, ys, e, hq1, hq2, q⟩ := q1
  subst e
  obtain ⟨u, u2, rfl, ru, ru2⟩ := zdg r1
  cases ru
  cases ru2
  obtain ⟨its, rv, p1, lt1⟩ := I1.sq hq1
  obtain ⟨its2, rv2, p2, lt2⟩ := I1.sq hq2
  refine VO p1 p2 fun h2 hz hTI hTO hi1 hi2 hk => wpAny_pyIter_zip hz ?_
  have hn : ∀ b, s1.heap.objs.size ≤ b → zaD X pins H1 b := fun b hb => I1.fpOk hb (I1.hok.fresh hb)
  have ap : zdv (s1.heap.objs.size + 4) (s1.heap.objs.size + 2) (s1.heap.objs.size + 3) s1.heap.objs.size (s1.heap.objs.size + 1) [s1.heap.objs.size, l1] [s1.heap.objs.size + 1, l2] := by
    have q1 : l1 ≠ s1.heap.objs.size := Nat.ne_of_lt lt1
    have q2 : ∀ j : Nat, s1.heap.objs.size + j ≠ l1 := fun j e => Nat.lt_irrefl _ (Nat.lt_of_lt_of_le (by rw [← e] at lt1; exact lt1) (Nat.le_add_right _ _))
    have q3 : ∀ j : Nat, s1.heap.objs.size + j ≠ l2 := fun j e => Nat.lt_irrefl _ (Nat.lt_of_lt_of_le (by rw [← e] at lt2; exact lt2) (Nat.le_add_right _ _))
    have ne : ∀ i j : Nat, i ≠ j → s1.heap.objs.size + i ≠ s1.heap.objs.size + j := fun i j h e => h (Nat.add_left_cancel e)
    have n0 : ∀ i : Nat, i ≠ 0 → s1.heap.objs.size + i ≠ s1.heap.objs.size := fun i h e => h (Nat.add_left_cancel (n := s1.heap.objs.size) (m := i) (k := 0) e)
    refine ⟨?_, ?_, ?_, ?_, ?_, ?_, ?_⟩
    · simp only [List.nodup_cons, List.mem_cons, List.not_mem_nil, or_false, not_or, not_false_eq_true, List.nodup_nil, and_true]
      exact ⟨⟨ne 4 2 (by decide), ne 4 3 (by decide), n0 4 (by decide), ne 4 1 (by decide)⟩, ⟨ne 2 3 (by decide), n0 2 (by decide), ne 2 1 (by decide)⟩, ⟨n0 3 (by decide), ne 3 1 (by decide)⟩, Ne.symm (n0 1 (by decide))⟩
    · simp only [List.mem_cons, List.not_mem_nil, or_false, not_or]; exact ⟨n0 4 (by decide), q2 4⟩
    · simp only [List.mem_cons, List.not_mem_nil, or_false, not_or]; exact ⟨ne 4 1 (by decide), q3 4⟩
    · simp only [List.mem_cons, List.not_mem_nil, or_false, not_or]; exact ⟨n0 3 (by decide), q2 3⟩
    · simp only [List.mem_cons, List.not_mem_nil, or_false, not_or]; exact ⟨ne 3 1 (by decide), q3 3⟩
    · simp only [List.mem_cons, List.not_mem_nil, or_false, not_or]; exact ⟨Ne.symm (n0 1 (by decide)), q3 0⟩
    · simp only [List.mem_cons, List.not_mem_nil, or_false, not_or]; exact ⟨n0 1 (by decide), q2 1⟩
  refine ⟨_, _, _, _, H1, rfl, I1.kept (t' := s1.toks) hk, zec b1 b2 l1 l2 _ _ _ _ _ ap (Nat.ne_of_lt lt1) (Nat.ne_of_lt (Nat.lt_succ_of_lt lt2)), ⟨hz, hTI, ⟨_, _, hTO⟩, hi1, hi2⟩, fun b hb => ?_, q⟩
  simp only [List.mem_cons, List.not_mem_nil, or_false] at hb
  rcases hb with rfl | rfl | rfl | rfl | rfl
  · exact hn _ (Nat.le_add_right _ _)
  · exact hn _ (Nat.le_add_right _ _)
  · exact hn _ (Nat.le_add_right _ _)
  · exact hn _ (Nat.le_refl _)
  · exact hn _ (Nat.le_add_right _ _)
end L2
namespace OwnSort
open PySem PyProof.Rows
section pure
variable {κ : KeyKind} {xs : Array Keyed}
theorem turned {n : Nat} (hn : n ≤ xs.size) (h : NonIncK κ xs n) : SortedToK κ (mirror xs 0 n ((n - 0) / 2)) n := fun i j hij hj => by
  rw [KK_mirror hn, KK_mirror hn, if_pos ⟨by omega, by omega⟩, if_pos ⟨by omega, by omega⟩]
  exact h _ _ (by omega) (by omega)
end pure
section
variable {prog : Program} {w : World} {A : Around} {E : Value → Shared → Prop} {s : Shared} {a₀ : Array Keyed} {κ : KeyKind} {k : SortKind} {st : SortSt}
end
end OwnSort
namespace OwnSort
open PySem PyProof.Rows
noncomputable abbrev Pr := Int × Int
noncomputable def zgV (s t : Pr) : Bool := decide (s.1 < t.1 ∨ (s.1 = t.1 ∧ s.2 < t.2))
noncomputable def TP (h : Heap) (v : Value) (t : Pr) : Prop := ∃ a o n tx ty, v = .ref a ∧ h.get? a = some o ∧ o.cls = .type "tuple" ∧ o.data = .seq #[.int t.1 tx, .int t.2 ty] n
open Classical in
noncomputable def keyP (h : Heap) (v : Value) : Option Pr := if x : ∃ t, TP h v t then some x.choose else none
@[reducible] noncomputable def kindP (h : Heap) : KeyKind where
  α := Pr
  blt := zgV
  irrefl a := by unfold zgV; exact decide_eq_false (by omega)
  trans a b c h1 h2 := by unfold zgV at *; rw [decide_eq_true_eq] at *; omega
  negTrans a b c h := by unfold zgV at *; rw [decide_eq_true_eq] at *; rw [decide_eq_true_eq]; omega
  total a b h1 h2 := by
    unfold zgV at *
    rw [decide_eq_false_iff_not] at *
    exact Prod.ext (by omega) (by omega)
  keyOf := keyP h
  dflt := (0, 0)
section
variable {prog : Program} {w : World} {A : Around} {E : Value → Shared → Prop} {s : Shared}
end
end OwnSort
namespace OwnSort
open PySem PyProof.Rows
section
variable {prog : Program} {w : World} {A : Around} {E : Value → Shared → Prop} {s : Shared}
end
end OwnSort
namespace Dl
open PySem L2
class KK where
  K : PySem.W.Frag
inductive D where
  | non | bl (b : Bool) | int (i : Int) | str (x : Str) | tup (ds : List D) | lst (ds : List D) | scr (ns : List Int)
    | dct (z t : Bool) (ks : List (List Key)) (vs : List D)
  deriving Inhabited
section
variable [KK]
noncomputable def zaJ (o : HO) (t : Bool) (ks : List (List Key)) (xs : List V) : Prop :=
  if t = true then ∃ kvs, o = .dT kvs ∧ kvs.map (·.1) = ks ∧ kvs.map (·.2) = xs else ∃ kvs : List (Key × V), o = .dK kvs ∧ kvs.map (fun p => [p.1]) = ks ∧ kvs.map (·.2) = xs
noncomputable def VD (H : Hp) (a : Addr) (z t : Bool) (ks : List (List Key)) (xs : List V) : Prop :=
  ∃ u, zaJ u t ks xs ∧ if z = true then ∃ ob, H a = some (.frz ob u) else H a = some u
theorem VD.mono {H H' : Hp} {a : Addr} {z t : Bool} {ks : List (List Key)} {xs : List V} (s : yK H H') (h : VD H a z t ks xs) : VD H' a z t ks xs := by
  obtain ⟨u, h1, h2⟩ := h
  refine ⟨u, h1, ?_⟩
  cases z with
  | true =>
    rw [if_pos rfl] at h2 ⊢
    obtain ⟨ob, h2⟩ := h2
    exact ⟨ob, s _ _ h2⟩
  | false =>
    rw [if_neg Bool.false_ne_true] at h2 ⊢
    exact s _ _ h2
theorem VD.rd {H : Hp} {a : Addr} {z t : Bool} {ks : List (List Key)} {xs : List V} (h : VD H a z t ks xs) : ∃ u, zaJ u t ks xs ∧ Rd H a u := by
  obtain ⟨u, h1, h2⟩ := h
  refine ⟨u, h1, ?_⟩
  cases z with
  | true =>
    rw [if_pos rfl] at h2
    obtain ⟨ob, h2⟩ := h2
    exact .inr ⟨ob, h2⟩
  | false =>
    rw [if_neg Bool.false_ne_true] at h2
    exact .inl h2
mutual
noncomputable def At (H : Hp) : D → V → Prop
  | .non, v => v = .non
  | .bl b, v => v = .bl b
  | .int i, v => v = .int i
  | .str x, v => v = .str x
  | .tup ds, v => ∃ a xs, v = .ref a ∧ H a = some (.tup xs) ∧ AtL H ds xs
  | .lst ds, v => ∃ a xs, v = .ref a ∧ H a = some (.lst xs) ∧ AtL H ds xs
  | .scr ns, v => ∃ a, v = .ref a ∧ SqL KK.K H a (ns.map V.int)
  | .dct z t ks vs, v => ∃ a xs, v = .ref a ∧ VD H a z t ks xs ∧ AtL H vs xs
noncomputable def AtL (H : Hp) : List D → List V → Prop
  | [], xs => xs = []
  | d :: ds, xs => ∃ x r, xs = x :: r ∧ At H d x ∧ AtL H ds r
end
mutual
theorem At.mono {H H' : Hp} (s : yK H H') : ∀ {d : D} {v : V}, At H d v → At H' d v
  | .non, _, h => by unfold At at h ⊢; exact h
  | .bl _, _, h => by unfold At at h ⊢; exact h
  | .int _, _, h => by unfold At at h ⊢; exact h
  | .str _, _, h => by unfold At at h ⊢; exact h
  | .tup ds, _, h => by
    unfold At at h ⊢
    obtain ⟨a, xs, e, hx, hl⟩ := h
    exact ⟨a, xs, e, s _ _ hx, AtL.mono s hl⟩
  | .lst ds, _, h => by
    unfold At at h ⊢
    obtain ⟨a, xs, e, hx, hl⟩ := h
    exact ⟨a, xs, e, s _ _ hx, AtL.mono s hl⟩
  | .scr ns, _, h => by
    unfold At at h ⊢
    obtain ⟨a, e, hx⟩ := h
    exact ⟨a, e, s.seq hx⟩
  | .dct z t ks vs, _, h => by
    unfold At at h ⊢
    obtain ⟨a, xs, e, hx, hl⟩ := h
    exact ⟨a, xs, e, hx.mono s, AtL.mono s hl⟩
theorem AtL.mono {H H' : Hp} (s : yK H H') : ∀ {ds : List D} {xs : List V}, AtL H ds xs → AtL H' ds xs
  | [], _, h => by unfold AtL at h ⊢; exact h
  | d :: ds, _, h => by
    unfold AtL at h ⊢
    obtain ⟨x, r, e, h1, h2⟩ := h
    exact ⟨x, r, e, At.mono s h1, AtL.mono s h2⟩
end
mutual
noncomputable def noL : D → Bool
  | .tup ds => zhE ds
  | .lst _ => false
  | .scr _ => false
  | .dct _ _ _ _ => false
  | _ => true
noncomputable def zhE : List D → Bool
  | [] => true
  | d :: ds => noL d && zhE ds
end
mutual
theorem At.flat {G F : Hp} (h : ∀ q xs, G q = some (.tup xs) → F q = some (.tup xs)) : ∀ {d : D} {v : V}, noL d = true → At G d v → At F d v
  | .non, _, _, a => by unfold At at a ⊢; exact a
  | .bl _, _, _, a => by unfold At at a ⊢; exact a
  | .int _, _, _, a => by unfold At at a ⊢; exact a
  | .str _, _, _, a => by unfold At at a ⊢; exact a
  | .tup ds, _, n, a => by
    unfold At at a ⊢
    unfold noL at n
    obtain ⟨p, xs, e, hx, hl⟩ := a
    exact ⟨p, xs, e, h _ _ hx, AtL.flat h n hl⟩
  | .lst ds, _, n, _ => by unfold noL at n; cases n
  | .scr ds, _, n, _ => by unfold noL at n; cases n
  | .dct _ _ _ _, _, n, _ => by unfold noL at n; cases n
theorem AtL.flat {G F : Hp} (h : ∀ q xs, G q = some (.tup xs) → F q = some (.tup xs)) : ∀ {ds : List D} {xs : List V}, zhE ds = true → AtL G ds xs → AtL F ds xs
  | [], _, _, a => by unfold AtL at a ⊢; exact a
  | d :: ds, _, n, a => by
    unfold AtL at a ⊢
    unfold zhE at n
    rw [Bool.and_eq_true] at n
    obtain ⟨x, r, e, h1, h2⟩ := a
    exact ⟨x, r, e, At.flat h n.1 h1, AtL.flat h n.2 h2⟩
end
section
variable {H H' : Hp} {d : D} {ds es : List D} {v x : V} {xs ys : List V}
theorem At.int {i : Int} : At H (.int i) (.int i) := by unfold At; rfl
theorem At.bl {b : Bool} : At H (.bl b) (.bl b) := by unfold At; rfl
theorem At.non : At H .non .non := by unfold At; rfl
theorem At.str {y : Str} : At H (.str y) (.str y) := by unfold At; rfl
theorem At.tup {a : Addr} (h : H a = some (.tup xs)) (hl : AtL H ds xs) : At H (.tup ds) (.ref a) := by unfold At; exact ⟨a, xs, rfl, h, hl⟩
theorem At.lst {a : Addr} (h : H a = some (.lst xs)) (hl : AtL H ds xs) : At H (.lst ds) (.ref a) := by unfold At; exact ⟨a, xs, rfl, h, hl⟩
theorem AtL.nil : AtL H [] [] := by unfold AtL; rfl
theorem AtL.cons (h : At H d x) (hl : AtL H ds xs) : AtL H (d :: ds) (x :: xs) := by unfold AtL; exact ⟨x, xs, rfl, h, hl⟩
theorem At.int_inv {i : Int} (h : At H (.int i) v) : v = .int i := by unfold At at h; exact h
theorem At.bl_inv {b : Bool} (h : At H (.bl b) v) : v = .bl b := by unfold At at h; exact h
theorem At.non_inv (h : At H .non v) : v = .non := by unfold At at h; exact h
theorem At.str_inv {y : Str} (h : At H (.str y) v) : v = .str y := by unfold At at h; exact h
theorem At.tup_inv (h : At H (.tup ds) v) : ∃ a xs, v = .ref a ∧ H a = some (.tup xs) ∧ AtL H ds xs := by unfold At at h; exact h
theorem At.lst_inv (h : At H (.lst ds) v) : ∃ a xs, v = .ref a ∧ H a = some (.lst xs) ∧ AtL H ds xs := by unfold At at h; exact h
theorem At.scr_inv {ns : List Int} (h : At H (.scr ns) v) : ∃ a, v = .ref a ∧ SqL KK.K H a (ns.map V.int) := by unfold At at h; exact h
theorem At.dct_inv {z t : Bool} {ks : List (List Key)} {vs : List D} (h : At H (.dct z t ks vs) v) : ∃ a xs, v = .ref a ∧ VD H a z t ks xs ∧ AtL H vs xs := by unfold At at h; exact h
theorem AtL.nil_inv (h : AtL H [] xs) : xs = [] := by unfold AtL at h; exact h
theorem AtL.cons_inv (h : AtL H (d :: ds) xs) : ∃ x r, xs = x :: r ∧ At H d x ∧ AtL H ds r := by unfold AtL at h; exact h
theorem AtL.length : ∀ {ds : List D} {xs : List V}, AtL H ds xs → xs.length = ds.length
  | [], _, h => by rw [h.nil_inv]; rfl
  | _ :: _, _, h => by
    obtain ⟨x, r, rfl, _, h2⟩ := h.cons_inv
    rw [List.length_cons, List.length_cons, AtL.length h2]
theorem AtL.get : ∀ {ds : List D} {xs : List V} {i : Nat} {d : D}, AtL H ds xs → ds[i]? = some d → ∃ x, xs[i]? = some x ∧ At H d x
  | [], _, _, _, _, e => by simp at e
  | _ :: _, _, i, _, h, e => by
    obtain ⟨x, r, rfl, h1, h2⟩ := h.cons_inv
    cases i with
    | zero =>
      simp at e
      subst e
      exact ⟨x, rfl, h1⟩
    | succ i =>
      obtain ⟨y, hy, ha⟩ := AtL.get (i := i) h2 (by simpa using e)
      exact ⟨y, by simpa using hy, ha⟩
theorem AtL.append : ∀ {ds es : List D} {xs ys : List V}, AtL H ds xs → AtL H es ys → AtL H (ds ++ es) (xs ++ ys)
  | [], _, _, _, h, k => by rw [h.nil_inv]; exact k
  | _ :: _, _, _, _, h, k => by
    obtain ⟨x, r, rfl, h1, h2⟩ := h.cons_inv
    exact .cons h1 (AtL.append h2 k)
theorem AtL.snoc (h : AtL H ds xs) (k : At H d v) : AtL H (ds ++ [d]) (xs ++ [v]) := h.append (.cons k .nil)
theorem AtL.take : ∀ (n : Nat) {ds : List D} {xs : List V}, AtL H ds xs → AtL H (ds.take n) (xs.take n)
  | 0, _, _, _ => by simpa using AtL.nil
  | n + 1, [], _, h => by rw [h.nil_inv]; simpa using AtL.nil
  | n + 1, _ :: _, _, h => by
    obtain ⟨x, r, rfl, h1, h2⟩ := h.cons_inv
    rw [List.take_succ_cons, List.take_succ_cons]
    exact .cons h1 (AtL.take n h2)
theorem AtL.drop : ∀ (n : Nat) {ds : List D} {xs : List V}, AtL H ds xs → AtL H (ds.drop n) (xs.drop n)
  | 0, _, _, h => h
  | n + 1, [], _, h => by rw [h.nil_inv]; simpa using AtL.nil
  | n + 1, _ :: _, _, h => by
    obtain ⟨x, r, rfl, h1, h2⟩ := h.cons_inv
    rw [List.drop_succ_cons, List.drop_succ_cons]
    exact AtL.drop n h2
theorem AtL.set : ∀ (n : Nat) {ds : List D} {xs : List V}, AtL H ds xs → At H d v → AtL H (ds.set n d) (xs.set n v)
  | _, [], _, h, _ => by rw [h.nil_inv]; simpa using AtL.nil
  | 0, _ :: _, _, h, k => by
    obtain ⟨x, r, rfl, h1, h2⟩ := h.cons_inv
    exact .cons k h2
  | n + 1, _ :: _, _, h, k => by
    obtain ⟨x, r, rfl, h1, h2⟩ := h.cons_inv
    exact .cons h1 (AtL.set n h2 k)
theorem AtL.reverse : ∀ {ds : List D} {xs : List V}, AtL H ds xs → AtL H ds.reverse xs.reverse
  | [], _, h => by rw [h.nil_inv]; exact .nil
  | _ :: _, _, h => by
    obtain ⟨x, r, rfl, h1, h2⟩ := h.cons_inv
    rw [List.reverse_cons, List.reverse_cons]
    exact (AtL.reverse h2).snoc h1
theorem AtL.rep (h : AtL H ds xs) : ∀ k : Nat, AtL H (List.replicate k ds).flatten (List.replicate k xs).flatten
  | 0 => .nil
  | k + 1 => by
    rw [List.replicate_succ, List.replicate_succ, List.flatten_cons, List.flatten_cons]
    exact h.append (AtL.rep h k)
theorem AtL.ints (ns : List Int) : AtL H (ns.map D.int) (ns.map V.int) := by
  induction ns with
  | nil => exact .nil
  | cons n r ih => exact .cons .int ih
theorem AtL.of_ints : ∀ {ns : List Int} {xs : List V}, AtL H (ns.map D.int) xs → xs = ns.map V.int
  | [], _, h => h.nil_inv
  | n :: r, _, h => by
    obtain ⟨x, r', rfl, h1, h2⟩ := AtL.cons_inv (by simpa using h)
    rw [h1.int_inv, AtL.of_ints h2]
    rfl
end
noncomputable def tyN : D → String
  | .non => "NoneType" | .bl _ => "bool" | .int _ => "int" | .str _ => "str" | .tup _ => "tuple" | .lst _ => "list" | .scr _ => "list" | .dct _ _ _ _ => "dict"
noncomputable def Hid (F' : Hp) (p : Addr) (o : HO) : Prop := F' p = none ∨ ((∃ xs, o = .tup xs) ∧ F' p = some o)
noncomputable def Keep (F H F' H' : Hp) : Prop := ∀ p o, F p = none → H p = some o → Hid F' p o ∧ H' p = some o
set_option genInjectivity false in
set_option genSizeOf false in
set_option genCtorIdx false in
structure Gr (F H F' H' : Hp) : Prop where
  ff : yK F F'
  fh : yK F' H'
  kp : Keep F H F' H'
theorem Gr.refl {F H : Hp} (s : yK F H) : Gr F H F H := ⟨yK.refl _, s, fun _ _ a b => ⟨.inl a, b⟩⟩
theorem Gr.trans {F H F1 H1 F2 H2 : Hp} (a : Gr F H F1 H1) (b : Gr F1 H1 F2 H2) : Gr F H F2 H2 :=
  ⟨a.ff.trans b.ff, b.fh, fun p o e1 e2 => by
    obtain ⟨x, y⟩ := a.kp p o e1 e2
    rcases x with x | ⟨x1, x2⟩
    · exact b.kp p o x y
    · exact ⟨.inr ⟨x1, b.ff _ _ x2⟩, b.fh _ _ (b.ff _ _ x2)⟩⟩
theorem Gr.kl {F H F' H' : Hp} {p : Addr} {o : HO} (g : Gr F H F' H') (n : ∀ xs, o ≠ .tup xs) (e1 : F p = none) (e2 : H p = some o) : F' p = none ∧ H' p = some o := by
  obtain ⟨x, y⟩ := g.kp p o e1 e2
  rcases x with x | ⟨⟨xs, x1⟩, _⟩
  · exact ⟨x, y⟩
  · exact absurd x1 (n xs)
theorem Gr.alloc {F H : Hp} {p : Addr} (s : yK F H) (h : H p = none) (o : HO) : Gr F H (upd F p o) (upd H p o) := by
  have hF : F p = none := s.free h
  refine ⟨fun b u q => ?_, fun b u q => ?_, fun b u q r => ?_⟩
  · rw [zn (zl q hF)]; exact q
  · by_cases e : b = p
    · subst e; rw [zq] at q ⊢; exact q
    · rw [zn e] at q ⊢; exact s b u q
  · have e : b ≠ p := zl r h
    rw [zn e]; exact ⟨.inl (by rw [zn e]; exact q), r⟩
theorem Gr.hide {F H : Hp} {p : Addr} (s : yK F H) (h : H p = none) (o : HO) : Gr F H F (upd H p o) := by
  refine ⟨yK.refl _, fun b u q => ?_, fun b u q r => ?_⟩
  · rw [zn (zl (s b u q) h)]; exact s b u q
  · have e : b ≠ p := zl r h
    rw [zn e]; exact ⟨.inl q, r⟩
theorem Gr.show {F H : Hp} {p : Addr} {o : HO} {F0 H0 : Hp} (g : Gr F0 H0 F H) (h0 : H0 p = none) (hF : F p = none) (h : H p = some o) : Gr F0 H0 (upd F p o) H := by
  refine ⟨fun b u q => ?_, fun b u q => ?_, fun b u q r => ?_⟩
  · have := g.ff b u q
    rw [zn (zl this hF)]; exact this
  · by_cases e : b = p
    · subst e; rw [zq] at q; rw [← q]; exact h
    · rw [zn e] at q; exact g.fh b u q
  · have e : b ≠ p := zl r h0
    obtain ⟨x, y⟩ := g.kp b u q r
    refine ⟨?_, y⟩
    unfold Hid
    rw [zn e]
    exact x
noncomputable abbrev Ev := List (Option D)
noncomputable def VAt (F : Hp) (ρ : Ev) (σ : St) : Prop := ∀ (i : Nat) (d : D), ρ[i]? = some (some d) → ∃ v, σ[i]? = some (some v) ∧ At F d v
theorem VAt.mono {F F' : Hp} {ρ : Ev} {σ : St} (h : VAt F ρ σ) (s : yK F F') : VAt F' ρ σ := fun i d e => let ⟨v, e1, a⟩ := h i d e; ⟨v, e1, a.mono s⟩
noncomputable def RE (t : TE) (f : Ev → Option D) : Prop :=
  ∀ (σ : St) (ρ : Ev) (F H : Hp) (d : D) (Q : VK), yK F H → VAt F ρ σ → f ρ = some d → (∀ F' H' v, Gr F H F' H' → At F' d v → Q v H') → t σ H Q
noncomputable def RT (t : TT) (f : Ev → Option Bool) : Prop :=
  ∀ (σ : St) (ρ : Ev) (F H : Hp) (b : Bool) (Q : Bool → Hp → Prop), yK F H → VAt F ρ σ → f ρ = some b → (∀ F' H', Gr F H F' H' → Q b H') → t σ H Q
noncomputable def RA (t : TA) (f : Ev → Option (List D)) : Prop :=
  ∀ (σ : St) (ρ : Ev) (F H : Hp) (ds : List D) (Q : List V → Hp → Prop), yK F H → VAt F ρ σ → f ρ = some ds → (∀ F' H' vs, Gr F H F' H' → AtL F' ds vs → Q vs H') → t σ H Q
noncomputable def RF (t : TE) (f : Ev → Option (List D)) : Prop :=
  ∀ (σ : St) (ρ : Ev) (F H : Hp) (ds : List D) (Q : VK), yK F H → VAt F ρ σ → f ρ = some ds → (∀ F' H' p xs, Gr F H F' H' → H p = none → F' p = none → H' p = some (.lst xs) → AtL F' ds xs → Q (.ref p) H') → t σ H Q
noncomputable def ED (X : Cx) (e : Expr) (f : Ev → Option D) : Prop := ∃ t, PE X e t ∧ RE t f
noncomputable def TD (X : Cx) (e : Expr) (f : Ev → Option Bool) : Prop := ∃ t, PT X e t ∧ RT t f
noncomputable def WD (X : Cx) (e : Expr) (f : Ev → Option Bool) : Prop := ∃ t, PW X e t ∧ RT t f
noncomputable def AD (X : Cx) (es : List Expr) (f : Ev → Option (List D)) : Prop := ∃ t, PA X es t ∧ RA t f
noncomputable def FL (X : Cx) (e : Expr) (f : Ev → Option (List D)) : Prop := ∃ t, PE X e t ∧ RF t f
section
variable {X : Cx} {a b c : Expr} {pos : Pos}
noncomputable def w8 (f : Ev → Option (List D)) : Ev → Option D := fun ρ => (f ρ).map .lst
theorem xF {f : Ev → Option (List D)} (h : FL X a f) : ED X a (w8 f) := by
  obtain ⟨t, ht, r⟩ := h
  refine ⟨t, ht, fun σ ρ F H d Q s va e q => ?_⟩
  obtain ⟨ds, e1, rfl⟩ := Option.map_eq_some_iff.mp e
  refine r σ ρ F H ds Q s va e1 fun F' H' p xs g h0 hF hH hx => ?_
  have g2 := g.show h0 hF hH
  exact q _ _ _ g2 (At.lst zq (hx.mono (fun b u e => by rw [zn (zl e hF)]; exact e)))
noncomputable def zi (i : Nat) : Ev → Option D := fun ρ => (ρ[i]?).getD none
theorem zb (i : Nat) (h : PE X a (za2 i)) : ED X a (zi i) := by
  refine ⟨_, h, fun σ ρ F H d Q s va e q => ?_⟩
  have e' : ρ[i]? = some (some d) := by
    unfold zi at e
    cases h : ρ[i]? with
    | none => rw [h] at e; cases e
    | some x => rw [h] at e; cases x with
      | none => cases e
      | some y => cases e; rfl
  obtain ⟨v, e1, a1⟩ := va i d e'
  exact ⟨v, e1, q _ _ _ (.refl s) a1⟩
noncomputable def eC (d : D) : Ev → Option D := fun _ => some d
theorem zf {i : Int} (h : PE X a (tC (.int i))) : ED X a (eC (.int i)) := ⟨_, h, fun _ _ _ _ _ _ s _ e q => by cases e; exact q _ _ _ (.refl s) .int⟩
theorem x6 {i : Bool} (h : PE X a (tC (.bl i))) : ED X a (eC (.bl i)) := ⟨_, h, fun _ _ _ _ _ _ s _ e q => by cases e; exact q _ _ _ (.refl s) .bl⟩
theorem ve {i : Str} (h : PE X a (tC (.str i))) : ED X a (eC (.str i)) := ⟨_, h, fun _ _ _ _ _ _ s _ e q => by cases e; exact q _ _ _ (.refl s) .str⟩
theorem wZ (h : PE X a (tC .non)) : ED X a (eC .non) := ⟨_, h, fun _ _ _ _ _ _ s _ e q => by cases e; exact q _ _ _ (.refl s) .non⟩
noncomputable def OpD (r : R2) (g : D → D → Option D) : Prop :=
  ∀ (F H : Hp) (x y : V) (d e z : D) (Q : VK), yK F H → At F d x → At F e y → g d e = some z → (∀ F' H' v, Gr F H F' H' → At F' z v → Q v H') → r x y H Q
noncomputable def zo (g : D → D → Option D) (f h : Ev → Option D) : Ev → Option D := fun ρ => (f ρ).bind fun x => (h ρ).bind fun y => g x y
theorem zdV {r : R2} {g : D → D → Option D} {ta tb : TE} {f h : Ev → Option D} (hg : OpD r g) (ra : RE ta f) (rb : RE tb h) : RE (tOp r ta tb) (zo g f h) := by
  intro σ ρ F H z Q s va e q
  obtain ⟨x, e1, e⟩ := Option.bind_eq_some_iff.mp e
  obtain ⟨y, e2, e⟩ := Option.bind_eq_some_iff.mp e
  refine ra σ ρ F H x _ s va e1 fun F1 H1 v g1 a1 => ?_
  refine rb σ ρ F1 H1 y _ g1.fh (va.mono g1.ff) e2 fun F2 H2 u g2 a2 => ?_
  exact hg F2 H2 v u x y z Q g2.fh (a1.mono g2.ff) a2 e fun F3 H3 w g3 a3 => q F3 H3 w ((g1.trans g2).trans g3) a3
theorem ZW {op : Operator} {r : R2} {g : D → D → Option D} {f h : Ev → Option D} (ho : OpR X (binaryOp op) r) (hg : OpD r g) (ha : ED X a f) (hb : ED X b h) : ED X (.BinOp a op b pos) (zo g f h) :=
  let ⟨_, pa, ra⟩ := ha
  let ⟨_, pb, rb⟩ := hb
  ⟨_, zed ho pa pb, zdV hg ra rb⟩
theorem vb {op : CmpOp} {r : R2} {g : D → D → Option D} {f h : Ev → Option D} (ho : OpR X (compareOp op) r) (hg : OpD r g) (hm : behindInMarks op b = false) (ha : ED X a f) (hb : ED X b h) : ED X (.Compare a [op] [b] pos) (zo g f h) :=
  let ⟨_, pa, ra⟩ := ha
  let ⟨_, pb, rb⟩ := hb
  ⟨_, zdf ho pa pb hm, zdV hg ra rb⟩
noncomputable def asB : D → Option Bool
  | .bl b => some b
  | _ => none
theorem YW {d : D} {b : Bool} (h : asB d = some b) : d = .bl b := by
  cases d <;> first | (cases h; rfl) | cases h
noncomputable def tOf (f : Ev → Option D) : Ev → Option Bool := fun ρ => (f ρ).bind asB
theorem zhn {t : TE} {f : Ev → Option D} (r : RE t f) : RT (zfr t) (tOf f) := by
  intro σ ρ F H b Q s va e q
  obtain ⟨x, e1, e⟩ := Option.bind_eq_some_iff.mp e
  cases YW e
  exact r σ ρ F H _ _ s va e1 fun F1 H1 v g1 a1 => ⟨b, a1.bl_inv, q F1 H1 g1⟩
theorem zA {op : CmpOp} {r : R2} {g : D → D → Option D} {f h : Ev → Option D} (ho : OpR X (compareOp op) r) (hg : OpD r g) (hm : behindInMarks op b = false) (ha : ED X a f) (hb : ED X b h) : TD X (.Compare a [op] [b] pos) (tOf (zo g f h)) :=
  let ⟨_, pa, ra⟩ := ha
  let ⟨_, pb, rb⟩ := hb
  ⟨_, zbT ho pa pb hm, zhn (zdV hg ra rb)⟩
theorem xw {f : Ev → Option D} (ha : ED X a f) (he : ∀ whole, isTrue a X.env whole = (do let v ← whole; standAt a.pos; holding [v] (truthy v)) := by intro _; rfl) : TD X a (tOf f) :=
  let ⟨_, pa, ra⟩ := ha
  ⟨_, zeM pa he, zhn ra⟩
noncomputable def X9 (f g : Ev → Option Bool) : Ev → Option Bool := fun ρ => (f ρ).bind fun c => if c = true then g ρ else some false
noncomputable def zcd (f g : Ev → Option Bool) : Ev → Option Bool := fun ρ => (f ρ).bind fun c => if c = true then some true else g ρ
noncomputable def wL (f : Ev → Option Bool) : Ev → Option Bool := fun ρ => (f ρ).map (!·)
theorem WF {f : Ev → Option Bool} (ha : TD X a f) : WD X (.BoolOp .And [a] pos) f := let ⟨_, pa, ra⟩ := ha; ⟨_, zfU pa, ra⟩
theorem ZI {f : Ev → Option Bool} (ha : TD X a f) : WD X (.BoolOp .Or [a] pos) f := let ⟨_, pa, ra⟩ := ha; ⟨_, zeH pa, ra⟩
theorem zaT {rest : List Expr} {f g : Ev → Option Bool} (ha : TD X a f) (hb : WD X (.BoolOp .And (b :: rest) pos) g) : WD X (.BoolOp .And (a :: b :: rest) pos) (X9 f g) := by
  obtain ⟨ta, pa, ra⟩ := ha
  obtain ⟨tb, pb, rb⟩ := hb
  refine ⟨_, zgY pa pb, fun σ ρ F H z Q s va e q => ?_⟩
  obtain ⟨x, e1, e⟩ := Option.bind_eq_some_iff.mp e
  refine ra σ ρ F H x _ s va e1 fun F1 H1 g1 => ?_
  cases x with
  | true =>
    rw [if_pos rfl] at e ⊢
    exact rb σ ρ F1 H1 z Q g1.fh (va.mono g1.ff) e fun F2 H2 g2 => q F2 H2 (g1.trans g2)
  | false =>
    rw [if_neg Bool.false_ne_true] at e ⊢
    cases e
    exact q F1 H1 g1
theorem WV {rest : List Expr} {f g : Ev → Option Bool} (ha : TD X a f) (hb : WD X (.BoolOp .Or (b :: rest) pos) g) : WD X (.BoolOp .Or (a :: b :: rest) pos) (zcd f g) := by
  obtain ⟨ta, pa, ra⟩ := ha
  obtain ⟨tb, pb, rb⟩ := hb
  refine ⟨_, zgF pa pb, fun σ ρ F H z Q s va e q => ?_⟩
  obtain ⟨x, e1, e⟩ := Option.bind_eq_some_iff.mp e
  refine ra σ ρ F H x _ s va e1 fun F1 H1 g1 => ?_
  cases x with
  | false =>
    rw [if_neg Bool.false_ne_true] at e ⊢
    exact rb σ ρ F1 H1 z Q g1.fh (va.mono g1.ff) e fun F2 H2 g2 => q F2 H2 (g1.trans g2)
  | true =>
    rw [if_pos rfl] at e ⊢
    cases e
    exact q F1 H1 g1
theorem zbI {f : Ev → Option Bool} (h : WD X a f) : TD X a f := let ⟨_, p, r⟩ := h; ⟨_, p.pt, r⟩
theorem xB {f : Ev → Option Bool} (ha : TD X a f) : TD X (.UnaryOp .Not a pos) (wL f) := by
  obtain ⟨ta, pa, ra⟩ := ha
  refine ⟨_, zeQ pa, fun σ ρ F H z Q s va e q => ?_⟩
  obtain ⟨x, e1, rfl⟩ := Option.map_eq_some_iff.mp e
  exact ra σ ρ F H x _ s va e1 fun F1 H1 g1 => q F1 H1 g1
noncomputable def zbZ (f g : Ev → Option D) : Ev → Option D := fun ρ => ((f ρ).bind asB).bind fun c => if c = true then g ρ else some (.bl false)
noncomputable def eOr (f g : Ev → Option D) : Ev → Option D := fun ρ => ((f ρ).bind asB).bind fun c => if c = true then some (.bl true) else g ρ
noncomputable def zh3 (f : Ev → Option D) : Ev → Option D := fun ρ => ((f ρ).bind asB).map fun c => .bl (!c)
theorem Zb {op} {f : Ev → Option D} (ha : ED X a f) : ED X (.BoolOp op [a] pos) f := let ⟨_, pa, ra⟩ := ha; ⟨_, zg6 pa, ra⟩
theorem Y2 {rest : List Expr} {f g : Ev → Option D} (ha : ED X a f) (hb : ED X (.BoolOp .And (b :: rest) pos) g) : ED X (.BoolOp .And (a :: b :: rest) pos) (zbZ f g) := by
  obtain ⟨ta, pa, ra⟩ := ha
  obtain ⟨tb, pb, rb⟩ := hb
  refine ⟨_, zgJ pa pb, fun σ ρ F H z Q s va e q => ?_⟩
  obtain ⟨x, e1, e⟩ := Option.bind_eq_some_iff.mp e
  obtain ⟨y, e1, e2⟩ := Option.bind_eq_some_iff.mp e1
  cases YW e2
  refine ra σ ρ F H _ _ s va e1 fun F1 H1 v g1 a1 => ⟨x, a1.bl_inv, ?_⟩
  cases x with
  | true =>
    rw [if_pos rfl] at e ⊢
    exact rb σ ρ F1 H1 z Q g1.fh (va.mono g1.ff) e fun F2 H2 w g2 a2 => q F2 H2 w (g1.trans g2) a2
  | false =>
    rw [if_neg Bool.false_ne_true] at e ⊢
    cases e
    exact q F1 H1 _ g1 .bl
theorem ziu {rest : List Expr} {f g : Ev → Option D} (ha : ED X a f) (hb : ED X (.BoolOp .Or (b :: rest) pos) g) : ED X (.BoolOp .Or (a :: b :: rest) pos) (eOr f g) := by
  obtain ⟨ta, pa, ra⟩ := ha
  obtain ⟨tb, pb, rb⟩ := hb
  refine ⟨_, zir pa pb, fun σ ρ F H z Q s va e q => ?_⟩
  obtain ⟨x, e1, e⟩ := Option.bind_eq_some_iff.mp e
  obtain ⟨y, e1, e2⟩ := Option.bind_eq_some_iff.mp e1
  cases YW e2
  refine ra σ ρ F H _ _ s va e1 fun F1 H1 v g1 a1 => ⟨x, a1.bl_inv, ?_⟩
  cases x with
  | false =>
    rw [if_neg Bool.false_ne_true] at e ⊢
    exact rb σ ρ F1 H1 z Q g1.fh (va.mono g1.ff) e fun F2 H2 w g2 a2 => q F2 H2 w (g1.trans g2) a2
  | true =>
    rw [if_pos rfl] at e ⊢
    cases e
    exact q F1 H1 _ g1 .bl
theorem zgQ {f : Ev → Option D} (ha : ED X a f) : ED X (.UnaryOp .Not a pos) (zh3 f) := by
  obtain ⟨ta, pa, ra⟩ := ha
  refine ⟨_, zgq pa, fun σ ρ F H z Q s va e q => ?_⟩
  obtain ⟨x, e1, rfl⟩ := Option.map_eq_some_iff.mp e
  obtain ⟨y, e1, e2⟩ := Option.bind_eq_some_iff.mp e1
  cases YW e2
  exact ra σ ρ F H _ _ s va e1 fun F1 H1 v g1 a1 => ⟨x, a1.bl_inv, q F1 H1 _ g1 .bl⟩
noncomputable def eIf (t : Ev → Option Bool) (f g : Ev → Option D) : Ev → Option D := fun ρ => (t ρ).bind fun c => if c = true then f ρ else g ρ
theorem zhP {t : Ev → Option Bool} {f g : Ev → Option D} (hc : TD X c t) (ha : ED X a f) (hb : ED X b g) : ED X (.IfExp c a b pos) (eIf t f g) := by
  obtain ⟨tc, pc, rc⟩ := hc
  obtain ⟨ta, pa, ra⟩ := ha
  obtain ⟨tb, pb, rb⟩ := hb
  refine ⟨_, zdP pc pa pb, fun σ ρ F H z Q s va e q => ?_⟩
  obtain ⟨x, e1, e⟩ := Option.bind_eq_some_iff.mp e
  refine rc σ ρ F H x _ s va e1 fun F1 H1 g1 => ?_
  cases x with
  | true =>
    rw [if_pos rfl] at e ⊢
    exact ra σ ρ F1 H1 z Q g1.fh (va.mono g1.ff) e fun F2 H2 w g2 a2 => q F2 H2 w (g1.trans g2) a2
  | false =>
    rw [if_neg Bool.false_ne_true] at e ⊢
    exact rb σ ρ F1 H1 z Q g1.fh (va.mono g1.ff) e fun F2 H2 w g2 a2 => q F2 H2 w (g1.trans g2) a2
noncomputable def eUn (g : D → Option D) (f : Ev → Option D) : Ev → Option D := fun ρ => (f ρ).bind g
noncomputable def zdk : D → Option D
  | .int i => some (.int (-i))
  | _ => none
theorem Wp {f : Ev → Option D} (ha : ED X a f) : ED X (.UnaryOp .USub a pos) (eUn zdk f) := by
  obtain ⟨ta, pa, ra⟩ := ha
  refine ⟨_, zgs zeG pa, fun σ ρ F H z Q s va e q => ?_⟩
  obtain ⟨x, e1, e⟩ := Option.bind_eq_some_iff.mp e
  cases x <;> try cases e
  exact ra σ ρ F H _ _ s va e1 fun F1 H1 v g1 a1 => ⟨_, a1.int_inv, q F1 H1 _ g1 .int⟩
noncomputable def zr : Ev → Option (List D) := fun _ => some []
noncomputable def zc (f : Ev → Option D) (g : Ev → Option (List D)) : Ev → Option (List D) := fun ρ => (f ρ).bind fun d => (g ρ).map (d :: ·)
theorem zd : AD X [] zr := ⟨_, yH, fun _ _ _ _ _ _ s _ e q => by cases e; exact q _ _ _ (.refl s) .nil⟩
theorem za {e : Expr} {es : List Expr} {f : Ev → Option D} {g : Ev → Option (List D)} (ha : ED X e f) (hr : AD X es g) (hs : starEach (e :: es) X.env = (false, eval e X.env) :: starEach es X.env := by rfl) : AD X (e :: es) (zc f g) := by
  obtain ⟨ta, pa, ra⟩ := ha
  obtain ⟨tb, pb, rb⟩ := hr
  refine ⟨_, zy pa pb hs, fun σ ρ F H z Q s va e q => ?_⟩
  obtain ⟨x, e1, e⟩ := Option.bind_eq_some_iff.mp e
  obtain ⟨ds, e2, rfl⟩ := Option.map_eq_some_iff.mp e
  refine ra σ ρ F H x _ s va e1 fun F1 H1 v g1 a1 => ?_
  exact rb σ ρ F1 H1 ds _ g1.fh (va.mono g1.ff) e2 fun F2 H2 w g2 a2 => q F2 H2 _ (g1.trans g2) (.cons (a1.mono g2.ff) a2)
noncomputable def lim (n : Nat) : Bool := decide (n ≤ sizeLine)
noncomputable def Y4 (g : Ev → Option (List D)) : Ev → Option D := fun ρ => (g ρ).bind fun ds => if lim ds.length = true then some (.tup ds) else none
noncomputable def xn (g : Ev → Option (List D)) : Ev → Option (List D) := fun ρ => (g ρ).bind fun ds => if lim ds.length = true then some ds else none
theorem xD {es : List Expr} {x1} {g : Ev → Option (List D)} (h : AD X es g) : ED X (.Tuple es x1 pos) (Y4 g) := by
  obtain ⟨ta, pa, ra⟩ := h
  refine ⟨_, zhp pa, fun σ ρ F H z Q s va e q => ?_⟩
  obtain ⟨ds, e1, e⟩ := Option.bind_eq_some_iff.mp e
  split at e <;> cases e
  rename_i hl
  refine ra σ ρ F H ds _ s va e1 fun F1 H1 vs g1 a1 => ⟨by rw [a1.length]; exact of_decide_eq_true hl, fun p hp => ?_⟩
  have g2 := Gr.alloc g1.fh hp (.tup vs)
  exact q _ _ _ (g1.trans g2) (.tup zq (a1.mono g2.ff))
theorem yU {es : List Expr} {g : Ev → Option (List D)} (h : AD X es g) : FL X (.List es pos) (xn g) := by
  obtain ⟨ta, pa, ra⟩ := h
  refine ⟨_, Vi pa, fun σ ρ F H z Q s va e q => ?_⟩
  obtain ⟨ds, e1, e⟩ := Option.bind_eq_some_iff.mp e
  split at e <;> cases e
  rename_i hl
  refine ra σ ρ F H _ _ s va e1 fun F1 H1 vs g1 a1 => ⟨by rw [a1.length]; exact of_decide_eq_true hl, fun p hp => ?_⟩
  have g2 := Gr.hide g1.fh hp (.lst vs)
  have h0 : H p = none := by
    cases e : H p with
    | none => rfl
    | some o =>
      cases e2 : F p with
      | none => rw [(g1.kp p o e2 e).2] at hp; cases hp
      | some u => rw [g1.fh _ _ (g1.ff _ _ e2)] at hp; cases hp
  exact q _ _ _ _ (g1.trans g2) h0 (g1.fh.free hp) zq a1
end
end
end Dl
namespace Dl
open PySem L2
variable [KK]
inductive Sl where
  | no | v (d : D) | o (ds : List D) | m (t : Bool) (ks : List (List Key)) (vs : List D)
  deriving Inhabited
noncomputable abbrev SE := List Sl
noncomputable def Sl.f : Sl → Option D
  | .v d => some d
  | _ => none
noncomputable def Sl.g : Sl → Option D
  | .v d => some d
  | .o ds => some (.lst ds)
  | .m t ks vs => some (.dct false t ks vs)
  | .no => none
noncomputable def Sl.isO : Sl → Bool
  | .o _ => true
  | .m _ _ _ => true
  | _ => false
noncomputable def visF (ρ : SE) : Ev := ρ.map Sl.f
noncomputable def visG (ρ : SE) : Ev := ρ.map Sl.g
noncomputable def zbD (F : Hp) (o : HO) : Sl → Prop
  | .o ds => ∃ xs, o = .lst xs ∧ AtL F ds xs
  | .m t ks ds => ∃ xs, zaJ o t ks xs ∧ AtL F ds xs
  | _ => False
theorem zbD.mono {F F' : Hp} {o : HO} {s : Sl} (h : zbD F o s) (k : yK F F') : zbD F' o s := by
  cases s with
  | no => exact h
  | v d => exact h
  | o ds => obtain ⟨xs, e, a⟩ := h; exact ⟨xs, e, a.mono k⟩
  | m t ks ds => obtain ⟨xs, e, a⟩ := h; exact ⟨xs, e, a.mono k⟩
theorem zbD.isO {F : Hp} {o : HO} {s : Sl} (h : zbD F o s) : s.isO = true := by
  cases s with
  | no => exact h.elim
  | v d => exact h.elim
  | o ds => rfl
  | m t ks ds => rfl
theorem zbD.ntup {F : Hp} {o : HO} {s : Sl} (h : zbD F o s) (xs : List V) : o ≠ .tup xs := by
  cases s with
  | no => exact h.elim
  | v d => exact h.elim
  | o ds => obtain ⟨ys, rfl, _⟩ := h; intro e; cases e
  | m t ks ds =>
    obtain ⟨ys, e, _⟩ := h
    unfold zaJ at e
    split at e
    · obtain ⟨kvs, rfl, _⟩ := e; intro e; cases e
    · obtain ⟨kvs, rfl, _⟩ := e; intro e; cases e
theorem zbD.at {F G : Hp} {o : HO} {s : Sl} {d : D} {p : Addr} (h : zbD F o s) (e : s.g = some d) (hp : G p = some o) (k : yK F G) : At G d (.ref p) := by
  cases s with
  | no => exact h.elim
  | v d => exact h.elim
  | o ds =>
    cases e
    obtain ⟨xs, rfl, a⟩ := h
    exact .lst hp (a.mono k)
  | m t ks ds =>
    cases e
    obtain ⟨xs, e, a⟩ := h
    unfold At
    exact ⟨p, xs, rfl, ⟨o, e, hp⟩, a.mono k⟩
set_option genInjectivity false in
set_option genSizeOf false in
set_option genCtorIdx false in
structure Rl (Fb Hb F H : Hp) (ρ : SE) (σ : St) : Prop where
  gr : Gr Fb Hb F H
  vals : ∀ (i : Nat) (d : D), ρ[i]? = some (.v d) → ∃ v, σ[i]? = some (some v) ∧ At F d v
  ows : ∀ (i : Nat) (s : Sl), ρ[i]? = some s → s.isO = true → ∃ p o, σ[i]? = some (some (.ref p)) ∧ Hb p = none ∧ F p = none ∧ H p = some o ∧ zbD F o s
  dis : ∀ (i j : Nat) (p : Addr) (s t : Sl), ρ[i]? = some s → ρ[j]? = some t → s.isO = true → t.isO = true → σ[i]? = some (some (.ref p)) → σ[j]? = some (some (.ref p)) → i = j
  len : ρ.length = σ.length
section
variable {Fb Hb F H F' H' : Hp} {ρ ρ' : SE} {σ σ' : St}
theorem Rl.owns (r : Rl Fb Hb F H ρ σ) (i : Nat) (ds : List D) (e : ρ[i]? = some (.o ds)) : ∃ p xs, σ[i]? = some (some (.ref p)) ∧ Hb p = none ∧ F p = none ∧ H p = some (.lst xs) ∧ AtL F ds xs := by
  obtain ⟨p, o, e1, e2, e3, e4, xs, rfl, a⟩ := r.ows i _ e rfl
  exact ⟨p, xs, e1, e2, e3, e4, a⟩
theorem Rl.grow (r : Rl Fb Hb F H ρ σ) (g : Gr F H F' H') : Rl Fb Hb F' H' ρ σ := by
  refine ⟨r.gr.trans g, fun i d e => ?_, fun i s e h => ?_, r.dis, r.len⟩
  · obtain ⟨v, e1, a⟩ := r.vals i d e
    exact ⟨v, e1, a.mono g.ff⟩
  · obtain ⟨p, o, e1, e2, e3, e4, a⟩ := r.ows i s e h
    obtain ⟨k1, k2⟩ := g.kl a.ntup e3 e4
    exact ⟨p, o, e1, e2, k1, k2, a.mono g.ff⟩
theorem Rl.visF (r : Rl Fb Hb F H ρ σ) : VAt F (visF ρ) σ := fun i d e => by
  unfold Dl.visF at e
  rw [List.getElem?_map] at e
  cases h : ρ[i]? with
  | none => rw [h] at e; cases e
  | some x =>
    rw [h] at e
    cases x with
    | no => cases e
    | v d' =>
      cases e
      exact r.vals i d h
    | o ds => cases e
    | m t ks ds => cases e
noncomputable def Own (ρ : SE) (σ : St) (p : Addr) : Prop := ∃ (i : Nat) (s : Sl), ρ[i]? = some s ∧ s.isO = true ∧ σ[i]? = some (some (.ref p))
open Classical in
noncomputable def gOf (ρ : SE) (σ : St) (F H : Hp) : Hp := fun p => if Own ρ σ p then H p else F p
open Classical in
noncomputable def fOf (ρ : SE) (σ : St) (G : Hp) : Hp := fun p => if Own ρ σ p then none else G p
theorem Rl.own (r : Rl Fb Hb F H ρ σ) {p : Addr} (h : Own ρ σ p) : Hb p = none ∧ F p = none ∧ ∃ o, H p = some o ∧ ∀ xs, o ≠ .tup xs := by
  obtain ⟨i, s, e1, e2, e3⟩ := h
  obtain ⟨q, o, e4, e5, e6, e7, a⟩ := r.ows i s e1 e2
  rw [e3] at e4
  cases e4
  exact ⟨e5, e6, o, e7, a.ntup⟩
theorem Rl.notown (r : Rl Fb Hb F H ρ σ) {q : Addr} (h : H q = none) (j : Nat) (s : Sl) (e1 : ρ[j]? = some s) (e2 : s.isO = true) : σ[j]? ≠ some (some (.ref q)) := fun e => by
  obtain ⟨p, o, f1, _, _, f4, _⟩ := r.ows j s e1 e2
  rw [e] at f1
  cases f1
  rw [h] at f4
  cases f4
theorem Rl.notbase (r : Rl Fb Hb F H ρ σ) {q : Addr} (h : H q = none) : Hb q = none := by
  cases z : Hb q with
  | none => rfl
  | some o =>
    cases z2 : Fb q with
    | none => rw [(r.gr.kp q o z2 z).2] at h; cases h
    | some u => rw [r.gr.fh _ _ (r.gr.ff _ _ z2)] at h; cases h
theorem Rl.fg (r : Rl Fb Hb F H ρ σ) : yK F (gOf ρ σ F H) := fun p o e => by
  unfold gOf
  split
  · exact r.gr.fh p o e
  · exact e
theorem Rl.gh (r : Rl Fb Hb F H ρ σ) : yK (gOf ρ σ F H) H := fun p o e => by
  unfold gOf at e
  split at e
  · exact e
  · exact r.gr.fh p o e
theorem Rl.visG (r : Rl Fb Hb F H ρ σ) : VAt (gOf ρ σ F H) (visG ρ) σ := fun i d e => by
  unfold Dl.visG at e
  rw [List.getElem?_map] at e
  cases h : ρ[i]? with
  | none => rw [h] at e; cases e
  | some x =>
    rw [h] at e
    have e : x.g = some d := Option.some.inj e
    have own : x.isO = true → ∃ v, σ[i]? = some (some v) ∧ At (gOf ρ σ F H) d v := fun hx => by
      obtain ⟨p, o, e1, e2, e3, e4, a⟩ := r.ows i x h hx
      refine ⟨_, e1, a.at e ?_ r.fg⟩
      unfold gOf
      rw [if_pos ⟨i, x, h, hx, e1⟩]
      exact e4
    cases x with
    | no => cases e
    | v d' =>
      cases e
      obtain ⟨v, e1, a⟩ := r.vals i d h
      exact ⟨v, e1, a.mono r.fg⟩
    | o ds => exact own rfl
    | m t ks ds => exact own rfl
theorem Rl.back {G' : Hp} (r : Rl Fb Hb F H ρ σ) (g : Gr (gOf ρ σ F H) H G' H') : Gr F H (fOf ρ σ G') H' ∧ ∀ q xs, G' q = some (.tup xs) → fOf ρ σ G' q = some (.tup xs) := by
  refine ⟨⟨fun p o e => ?_, fun p o e => ?_, fun p o e1 e2 => ?_⟩, fun q xs e => ?_⟩
  · unfold fOf
    rw [if_neg (fun h => by rw [(r.own h).2.1] at e; cases e)]
    exact g.ff p o (r.fg p o e)
  · unfold fOf at e
    split at e
    · cases e
    · exact g.fh p o e
  · by_cases h : Own ρ σ p
    · refine ⟨.inl (by unfold fOf; rw [if_pos h]), g.fh p o (g.ff p o ?_)⟩
      unfold gOf
      rw [if_pos h]
      exact e2
    · obtain ⟨x, y⟩ := g.kp p o (by unfold gOf; rw [if_neg h]; exact e1) e2
      refine ⟨?_, y⟩
      unfold Hid fOf
      rw [if_neg h]
      exact x
  · unfold fOf
    rw [if_neg (fun h => ?_)]
    · exact e
    · obtain ⟨_, _, o, e2, n⟩ := r.own h
      have : G' q = some o := g.ff q _ (by unfold gOf; rw [if_pos h]; exact e2)
      rw [this] at e
      cases e
      exact n xs rfl
theorem Rl.out {G' : Hp} (r : Rl Fb Hb F H ρ σ) (g : Gr (gOf ρ σ F H) H G' H') : Gr Fb Hb G' H' := by
  refine ⟨fun p o e => g.ff p o (r.fg p o (r.gr.ff p o e)), g.fh, fun p o e1 e2 => ?_⟩
  obtain ⟨k1, k2⟩ := r.gr.kp p o e1 e2
  have e3 : gOf ρ σ F H p = F p := by
    unfold gOf
    rw [if_neg (fun h => by rw [(r.own h).1] at e2; cases e2)]
  rcases k1 with k1 | ⟨k1, k3⟩
  · exact g.kp p o (by rw [e3]; exact k1) k2
  · have := g.ff p o (by rw [e3]; exact k3)
    exact ⟨.inr ⟨k1, this⟩, g.fh _ _ this⟩
theorem Rl.set (r : Rl Fb Hb F H ρ σ) {i : Nat} {d : D} {v : V} (a : At F d v) : Rl Fb Hb F H (ρ.set i (.v d)) (σ.set i (some v)) := by
  have nj : ∀ {j : Nat} {s : Sl}, (ρ.set i (.v d))[j]? = some s → s.isO = true → i ≠ j := fun {j s} h ho e => by
    subst e
    rw [List.getElem?_set] at h
    simp only [if_true] at h
    split at h <;> cases h
    cases ho
  refine ⟨r.gr, fun j e h => ?_, fun j s h ho => ?_, fun j k p s t h1 h2 o1 o2 h3 h4 => ?_, by simp [r.len]⟩
  · by_cases hj : i = j
    · subst hj
      rw [List.getElem?_set] at h
      simp only [if_true] at h
      split at h
      · rename_i hl
        cases h
        refine ⟨v, ?_, a⟩
        rw [List.getElem?_set]
        simp [← r.len, hl]
      · cases h
    · rw [List.getElem?_set_ne hj] at h ⊢
      exact r.vals j e h
  · have hj := nj h ho
    rw [List.getElem?_set_ne hj] at h ⊢
    exact r.ows j s h ho
  · have a1 := nj h1 o1
    have a2 := nj h2 o2
    rw [List.getElem?_set_ne a1] at h1 h3
    rw [List.getElem?_set_ne a2] at h2 h4
    exact r.dis j k p s t h1 h2 o1 o2 h3 h4
theorem Rl.setW (r : Rl Fb Hb F H ρ σ) {i : Nat} {w : Sl} {p : Addr} {o : HO} (h0 : Hb p = none) (hF : F p = none) (hH : H p = some o) (a : zbD F o w)
    (nw : ∀ (j : Nat) (s : Sl), ρ[j]? = some s → s.isO = true → σ[j]? ≠ some (some (.ref p))) : Rl Fb Hb F H (ρ.set i w) (σ.set i (some (.ref p))) := by
  have at_i : ∀ {s : Sl}, (ρ.set i w)[i]? = some s → i < ρ.length ∧ s = w := fun {s} h => by
    rw [List.getElem?_set] at h
    simp only [if_true] at h
    split at h
    · rename_i hl
      cases h
      exact ⟨hl, rfl⟩
    · cases h
  have st_i : i < ρ.length → (σ.set i (some (V.ref p)))[i]? = some (some (.ref p)) := fun hl => by
    rw [List.getElem?_set]
    simp [← r.len, hl]
  refine ⟨r.gr, fun j e h => ?_, fun j s h ho => ?_, fun j k q s t h1 h2 o1 o2 h3 h4 => ?_, by simp [r.len]⟩
  · by_cases hj : i = j
    · subst hj
      have e := (at_i h).2
      have := a.isO
      rw [← e] at this
      cases this
    · rw [List.getElem?_set_ne hj] at h ⊢
      exact r.vals j e h
  · by_cases hj : i = j
    · subst hj
      obtain ⟨hl, e⟩ := at_i h
      subst e
      exact ⟨p, o, st_i hl, h0, hF, hH, a⟩
    · rw [List.getElem?_set_ne hj] at h ⊢
      exact r.ows j s h ho
  · by_cases hj : i = j
    · subst hj
      by_cases hk : i = k
      · exact hk
      · obtain ⟨hl, _⟩ := at_i h1
        rw [st_i hl] at h3
        cases h3
        rw [List.getElem?_set_ne hk] at h2 h4
        exact absurd h4 (nw k t h2 o2)
    · by_cases hk : i = k
      · subst hk
        obtain ⟨hl, _⟩ := at_i h2
        rw [st_i hl] at h4
        cases h4
        rw [List.getElem?_set_ne hj] at h1 h3
        exact absurd h3 (nw j s h1 o1)
      · rw [List.getElem?_set_ne hj] at h1 h3
        rw [List.getElem?_set_ne hk] at h2 h4
        exact r.dis j k q s t h1 h2 o1 o2 h3 h4
theorem Rl.setO (r : Rl Fb Hb F H ρ σ) {i : Nat} {ds : List D} {p : Addr} {xs : List V} (h0 : Hb p = none) (hF : F p = none) (hH : H p = some (.lst xs)) (a : AtL F ds xs)
    (nw : ∀ (j : Nat) (s : Sl), ρ[j]? = some s → s.isO = true → σ[j]? ≠ some (some (.ref p))) : Rl Fb Hb F H (ρ.set i (.o ds)) (σ.set i (some (.ref p))) := r.setW h0 hF hH ⟨xs, rfl, a⟩ nw
theorem Rl.mutW (r : Rl Fb Hb F H ρ σ) {i : Nat} {w w' : Sl} {p : Addr} {o' : HO} (e : ρ[i]? = some w) (hw : w.isO = true) (e1 : σ[i]? = some (some (.ref p))) (a : zbD F o' w') : Rl Fb Hb F (upd H p o') (ρ.set i w') σ := by
  obtain ⟨q, o, e2, h0, hF, hH, _⟩ := r.ows i w e hw
  rw [e1] at e2
  cases e2
  have hi : i < ρ.length := (List.getElem?_eq_some_iff.mp e).1
  have neP : ∀ {j : Nat} {s : Sl} {q : Addr}, i ≠ j → ρ[j]? = some s → s.isO = true → σ[j]? = some (some (.ref q)) → q ≠ p := fun {j s q} hne h1 ho h2 z => by
    subst z
    exact hne (r.dis i j q w s e h1 hw ho e1 h2)
  refine ⟨⟨r.gr.ff, fun b o z => ?_, fun b o z1 z2 => ?_⟩, fun j d h => ?_, fun j s h ho => ?_, fun j k q s t h1 h2 o1 o2 h3 h4 => ?_, by simp [r.len]⟩
  · rw [zn (zl z hF)]
    exact r.gr.fh b o z
  · rw [zn (zl z2 h0)]
    exact r.gr.kp b o z1 z2
  · by_cases hj : i = j
    · subst hj
      rw [List.getElem?_set_self hi] at h
      cases h
      exact (Bool.noConfusion a.isO)
    · rw [List.getElem?_set_ne hj] at h
      exact r.vals j d h
  · by_cases hj : i = j
    · subst hj
      rw [List.getElem?_set_self hi] at h
      cases h
      exact ⟨p, o', e1, h0, hF, zq, a⟩
    · rw [List.getElem?_set_ne hj] at h
      obtain ⟨q, z, f1, f2, f3, f4, f5⟩ := r.ows j s h ho
      refine ⟨q, z, f1, f2, f3, ?_, f5⟩
      rw [zn (neP hj h ho f1)]
      exact f4
  · have back : ∀ {j : Nat} {s : Sl}, (ρ.set i w')[j]? = some s → s.isO = true → ∃ s', ρ[j]? = some s' ∧ s'.isO = true := fun {j s} h ho => by
      by_cases hj : i = j
      · subst hj; exact ⟨w, e, hw⟩
      · rw [List.getElem?_set_ne hj] at h; exact ⟨s, h, ho⟩
    obtain ⟨f1, g1, g1'⟩ := back h1 o1
    obtain ⟨f2, g2, g2'⟩ := back h2 o2
    exact r.dis j k q f1 f2 g1 g2 g1' g2' h3 h4
theorem Rl.mutate (r : Rl Fb Hb F H ρ σ) {i : Nat} {ds es : List D} {p : Addr} {ys : List V} (e : ρ[i]? = some (.o ds)) (e1 : σ[i]? = some (some (.ref p))) (a : AtL F es ys) : Rl Fb Hb F (upd H p (.lst ys)) (ρ.set i (.o es)) σ :=
  r.mutW e rfl e1 ⟨ys, rfl, a⟩
noncomputable def Sl.fz : Sl → Sl
  | .o ds => .v (.lst ds)
  | .m t ks vs => .v (.dct false t ks vs)
  | s => s
noncomputable def zie (ρ : SE) (i : Nat) : SE := ρ.set i ((ρ[i]?).getD .no).fz
theorem Rl.freeze (r : Rl Fb Hb F H ρ σ) (i : Nat) : ∃ F', Rl Fb Hb F' H (zie ρ i) σ := by
  unfold zie
  cases h : ρ[i]? with
  | none =>
    refine ⟨F, ?_⟩
    rw [List.set_eq_of_length_le (List.getElem?_eq_none_iff.mp h)]
    exact r
  | some s =>
    have hi : i < ρ.length := (List.getElem?_eq_some_iff.mp h).1
    have same : s.fz = s → ∃ F', Rl Fb Hb F' H (ρ.set i ((some s).getD .no).fz) σ := fun e => by
      refine ⟨F, ?_⟩
      show Rl Fb Hb F H (ρ.set i s.fz) σ
      rw [e]
      have : ρ.set i s = ρ := by
        apply List.ext_getElem?
        intro j
        by_cases hj : i = j
        · subst hj; rw [List.getElem?_set_self hi, h]
        · rw [List.getElem?_set_ne hj]
      rw [this]
      exact r
    have give : ∀ d, s.isO = true → s.g = some d → s.fz = .v d → ∃ F', Rl Fb Hb F' H (ρ.set i ((some s).getD .no).fz) σ := fun d ho hg hz => by
      obtain ⟨p, o, e1, e2, e3, e4, a⟩ := r.ows i s h ho
      have sF : yK F (upd F p o) := fun b u e => by rw [zn (zl e e3)]; exact e
      show ∃ F', Rl Fb Hb F' H (ρ.set i s.fz) σ
      rw [hz]
      have nj : ∀ {j : Nat} {t : Sl}, (ρ.set i (.v d))[j]? = some t → t.isO = true → i ≠ j := fun {j t} h ht e => by
        subst e
        rw [List.getElem?_set_self hi] at h
        cases h
        cases ht
      refine ⟨upd F p o, r.gr.show e2 e3 e4, fun j e z => ?_, fun j t z ht => ?_, fun j k q t u h1 h2 o1 o2 h3 h4 => ?_, by simp [r.len]⟩
      · by_cases hj : i = j
        · subst hj
          rw [List.getElem?_set_self hi] at z
          cases z
          exact ⟨_, e1, a.at hg zq sF⟩
        · rw [List.getElem?_set_ne hj] at z
          obtain ⟨v, f1, f2⟩ := r.vals j e z
          exact ⟨v, f1, f2.mono sF⟩
      · have hj := nj z ht
        rw [List.getElem?_set_ne hj] at z
        obtain ⟨q, y, f1, f2, f3, f4, f5⟩ := r.ows j t z ht
        refine ⟨q, y, f1, f2, ?_, f4, f5.mono sF⟩
        rw [zn (fun w => hj (r.dis i j p s t h z ho ht e1 (by rw [← w]; exact f1)))]
        exact f3
      · have a1 := nj h1 o1
        have a2 := nj h2 o2
        rw [List.getElem?_set_ne a1] at h1
        rw [List.getElem?_set_ne a2] at h2
        exact r.dis j k q t u h1 h2 o1 o2 h3 h4
    cases s with
    | no => exact same rfl
    | v d => exact same rfl
    | o ds => exact give _ rfl rfl rfl
    | m t ks ds => exact give _ rfl rfl rfl
end
inductive Ctl where
  | nx (ρ : SE) | rt (d : D) | bk (ρ : SE) | ct (ρ : SE) | no
  deriving Inhabited
noncomputable def SOk (Fb Hb : Hp) (E : V3) : Ctl → Prop
  | .nx ρ => ∀ F H σ, Rl Fb Hb F H ρ σ → E.nx σ H
  | .bk ρ => ∀ F H σ, Rl Fb Hb F H ρ σ → E.bk σ H
  | .ct ρ => ∀ F H σ, Rl Fb Hb F H ρ σ → E.ct σ H
  | .rt d => ∀ F H v, Gr Fb Hb F H → At F d v → E.rt v H
  | .no => False
noncomputable def RS (t : TS) (g : SE → Ctl) : Prop := ∀ (Fb Hb F H : Hp) (ρ : SE) (σ : St) (E : V3), Rl Fb Hb F H ρ σ → SOk Fb Hb E (g ρ) → t E σ H
noncomputable def SD (X : Cx) (st : Stmt) (g : SE → Ctl) : Prop := ∃ t, PS X st t ∧ RS t g
noncomputable def SDs (X : Cx) (sts : List Stmt) (g : SE → Ctl) : Prop := ∃ t, PSs X sts t ∧ RS t g
section
variable {X : Cx} {st : Stmt} {sts : List Stmt} {a b c e : Expr} {pos pos' : Pos}
noncomputable def zO : SE → Ctl := .nx
noncomputable def zM (g h : SE → Ctl) : SE → Ctl := fun ρ => match g ρ with
  | .nx ρ' => h ρ'
  | .rt d => .rt d
  | .bk ρ' => .bk ρ'
  | .ct ρ' => .ct ρ'
  | .no => .no
theorem zw : SDs X [] zO := ⟨_, zbS, fun _ _ F H ρ σ E r h => h F H σ r⟩
theorem zh {g h : SE → Ctl} (h1 : SD X st g) (h2 : SDs X sts h) : SDs X (st :: sts) (zM g h) := by
  obtain ⟨t, p, r⟩ := h1
  obtain ⟨u, p2, r2⟩ := h2
  refine ⟨_, wI p p2, fun Fb Hb F H ρ σ E rl k => ?_⟩
  refine r Fb Hb F H ρ σ { E with nx := u E } rl ?_
  unfold zM at k
  cases e : g ρ with
  | nx ρ' =>
    rw [e] at k
    exact fun F' H' σ' rl' => r2 Fb Hb F' H' ρ' σ' E rl' k
  | rt d => rw [e] at k; exact k
  | bk d => rw [e] at k; exact k
  | ct d => rw [e] at k; exact k
  | no => rw [e] at k; exact k
theorem zj {g : SE → Ctl} (h1 : SD X st g) : SDs X [st] g := let ⟨_, p, r⟩ := h1; ⟨_, Xp p, r⟩
noncomputable def sFz (i : Nat) (g : SE → Ctl) : SE → Ctl := fun ρ => g (zie ρ i)
theorem ZO {g : SE → Ctl} (i : Nat) (h : SDs X sts g) : SDs X sts (sFz i g) := by
  obtain ⟨t, p, r⟩ := h
  refine ⟨_, p, fun Fb Hb F H ρ σ E rl k => ?_⟩
  obtain ⟨F', rl'⟩ := rl.freeze i
  exact r Fb Hb F' H _ σ E rl' k
noncomputable def sNo : SE → Ctl := fun _ => .no
theorem vD : SD X st sNo := ⟨_, zef, fun _ _ _ _ _ _ _ _ h => h.elim⟩
noncomputable def yo (f : Ev → Option D) : SE → Ctl := fun ρ => match f (visG ρ) with
  | some d => .rt d
  | none => .no
theorem zm {f : Ev → Option D} (h : ED X e f) : SD X (.Return (some e) pos) (yo f) := by
  obtain ⟨t, p, r⟩ := h
  refine ⟨_, Vm p, fun Fb Hb F H ρ σ E rl k => ?_⟩
  unfold yo at k
  cases h : f (visG ρ) with
  | none => rw [h] at k; exact k.elim
  | some d =>
    rw [h] at k
    exact r σ _ _ H d _ rl.gh rl.visG h fun F' H' v g av => k F' H' v (rl.out g) av
noncomputable def ziA : SE → Ctl := fun _ => .rt .non
noncomputable def vEv (m : Bool) (f : Ev → Option D) (ρ : SE) : Option D := if m = true then (f (visG ρ)).bind fun d => if noL d = true then some d else none else f (visF ρ)
theorem RE.at {Fb Hb F H : Hp} {ρ : SE} {σ : St} {m : Bool} {f : Ev → Option D} {t : TE} {d : D} {Q : VK} (r : RE t f) (rl : Rl Fb Hb F H ρ σ) (h : vEv m f ρ = some d) (q : ∀ F' H' v, Gr F H F' H' → At F' d v → Q v H') : t σ H Q := by
  unfold vEv at h
  cases m with
  | false =>
    rw [if_neg Bool.false_ne_true] at h
    exact r σ _ _ H d _ rl.gr.fh rl.visF h q
  | true =>
    rw [if_pos rfl] at h
    obtain ⟨d', h1, h2⟩ := Option.bind_eq_some_iff.mp h
    split at h2 <;> cases h2
    rename_i hn
    refine r σ _ _ H d _ rl.gh rl.visG h1 fun F' H' v g av => ?_
    obtain ⟨g2, fl⟩ := rl.back g
    exact q _ H' v g2 (av.flat fl hn)
noncomputable def wY (m : Bool) (i : Nat) (f : Ev → Option D) : SE → Ctl := fun ρ => match vEv m f ρ with
  | some d => .nx (ρ.set i (.v d))
  | none => .no
theorem zT {m : Bool} {i : Nat} {x : Str} {f : Ev → Option D} (hN : X.N.Nodup) (hi : X.N[i]? = some x) (hx : Loc X.env.scope x) (he : ED X e f) (hs : swapsWith e (some (.Name x pos')) pos.line X.env = pure false := by rfl)
    (hf : X.fn x = true ∨ X.env.scope.names.lookup x = some .local := by first | exact .inl rfl | exact .inr rfl | assumption) : SD X (.Assign [.Name x pos'] e pos) (wY m i f) := by
  obtain ⟨t, p, r⟩ := he
  refine ⟨_, ZZ hN hi hx p hs hf, fun Fb Hb F H ρ σ E rl k => ?_⟩
  unfold wY at k
  cases h : vEv m f ρ with
  | none => rw [h] at k; exact k.elim
  | some d =>
    rw [h] at k
    exact r.at rl h fun F' H' v g av => k F' H' _ ((rl.grow g).set av)
noncomputable def Xn (f : Ev → Option D) : SE → Ctl := fun ρ => match f (visG ρ) with
  | some _ => .nx ρ
  | none => .no
theorem yB {f : Ev → Option D} (he : ED X e f) (hs : swapsWith e none pos.line X.env = pure false := by rfl) : SD X (.Expr e pos) (Xn f) := by
  obtain ⟨t, p, r⟩ := he
  refine ⟨_, WM p hs, fun Fb Hb F H ρ σ E rl k => ?_⟩
  unfold Xn at k
  cases h : f (visG ρ) with
  | none => rw [h] at k; exact k.elim
  | some d =>
    rw [h] at k
    exact r σ _ _ H d _ rl.gh rl.visG h fun F' H' v g av => k _ H' σ (rl.grow (rl.back g).1)
noncomputable def zcm (i : Nat) (f : Ev → Option (List D)) : SE → Ctl := fun ρ => match f (visF ρ) with
  | some ds => .nx (ρ.set i (.o ds))
  | none => .no
theorem ZG {i : Nat} {x : Str} {f : Ev → Option (List D)} (hN : X.N.Nodup) (hi : X.N[i]? = some x) (hx : Loc X.env.scope x) (he : FL X e f) (hs : swapsWith e (some (.Name x pos')) pos.line X.env = pure false := by rfl)
    (hf : X.fn x = true ∨ X.env.scope.names.lookup x = some .local := by first | exact .inl rfl | exact .inr rfl | assumption) : SD X (.Assign [.Name x pos'] e pos) (zcm i f) := by
  obtain ⟨t, p, r⟩ := he
  refine ⟨_, ZZ hN hi hx p hs hf, fun Fb Hb F H ρ σ E rl k => ?_⟩
  unfold zcm at k
  cases h : f (visF ρ) with
  | none => rw [h] at k; exact k.elim
  | some ds =>
    rw [h] at k
    refine r σ _ _ H ds _ rl.gr.fh rl.visF h fun F' H' q xs g h0 hF hH hx => ?_
    have rl2 := rl.grow g
    exact k F' H' _ (rl2.setO (rl.notbase h0) hF hH hx (rl.notown h0))
noncomputable def sIf (t : Ev → Option Bool) (g h : SE → Ctl) : SE → Ctl := fun ρ => match t (visG ρ) with
  | some true => g ρ
  | some false => h ρ
  | none => .no
theorem zU {as bs : List Stmt} {t : Ev → Option Bool} {g h : SE → Ctl} (hc : TD X c t) (ha : SDs X as g) (hb : SDs X bs h) : SD X (.If c as bs pos) (sIf t g h) := by
  obtain ⟨tc, pc, rc⟩ := hc
  obtain ⟨ta, pa, ra⟩ := ha
  obtain ⟨tb, pb, rb⟩ := hb
  refine ⟨_, zf2 pc pa pb, fun Fb Hb F H ρ σ E rl k => ?_⟩
  unfold sIf at k
  cases h : t (visG ρ) with
  | none => rw [h] at k; exact k.elim
  | some d =>
    rw [h] at k
    refine rc σ _ _ H d _ rl.gh rl.visG h fun F' H' g => ?_
    have rl2 := rl.grow (rl.back g).1
    cases d with
    | true => rw [if_pos rfl]; exact ra Fb Hb _ H' ρ σ E rl2 k
    | false => rw [if_neg Bool.false_ne_true]; exact rb Fb Hb _ H' ρ σ E rl2 k
noncomputable def ZX (t : Ev → Option Bool) (g : SE → Ctl) : Nat → SE → Ctl
  | 0, _ => .no
  | n + 1, ρ => match t (visG ρ) with
    | some true => match g ρ with
      | .nx ρ' => ZX t g n ρ'
      | .ct ρ' => ZX t g n ρ'
      | .bk ρ' => .nx ρ'
      | .rt d => .rt d
      | .no => .no
    | some false => .nx ρ
    | none => .no
theorem za1 {as : List Stmt} {t : Ev → Option Bool} {g : SE → Ctl} (n : Nat) (hp : PassesOwn (model X.prog X.w) X.A X.env X.xe) (hc : TD X c t) (ha : SDs X as g) : SD X (.While c as [] pos) (ZX t g n) := by
  obtain ⟨tc, pc, rc⟩ := hc
  obtain ⟨ta, pa, ra⟩ := ha
  refine ⟨_, zdM hp pc pa, fun Fb Hb F H ρ σ E rl k => ?_⟩
  refine ⟨fun m σ H => ∃ F ρ, Rl Fb Hb F H ρ σ ∧ SOk Fb Hb E (ZX t g m ρ), ⟨n, F, ρ, rl, k⟩, ?_⟩
  rintro m σ H ⟨F, ρ, rl, k⟩
  cases m with
  | zero => exact k.elim
  | succ m =>
    unfold ZX at k
    cases h : t (visG ρ) with
    | none => rw [h] at k; exact k.elim
    | some d =>
      rw [h] at k
      refine rc σ _ _ H d _ rl.gh rl.visG h fun F' H' gr => ?_
      have rl2 := rl.grow (rl.back gr).1
      cases d with
      | false => rw [if_neg Bool.false_ne_true]; exact k _ H' σ rl2
      | true =>
        rw [if_pos rfl]
        refine ⟨fun σ H => ∃ F ρ, Rl Fb Hb F H ρ σ ∧ SOk Fb Hb E (ZX t g m ρ), fun σ' H' w => ⟨m, Nat.lt_succ_self m, w⟩, ?_⟩
        refine ra Fb Hb _ H' ρ σ _ rl2 ?_
        dsimp only at k
        cases hg : g ρ with
        | nx ρ' => rw [hg] at k; exact fun F2 H2 σ2 r2 => ⟨F2, ρ', r2, k⟩
        | ct ρ' => rw [hg] at k; exact fun F2 H2 σ2 r2 => ⟨F2, ρ', r2, k⟩
        | bk ρ' => rw [hg] at k; exact k
        | rt d => rw [hg] at k; exact k
        | no => rw [hg] at k; exact k.elim
noncomputable def RG (t : TG) (b : D → SE → Option SE) : Prop := ∀ (Fb Hb F H : Hp) (ρ ρ' : SE) (σ : St) (d : D) (v : V) (Q : St → Hp → Prop), Rl Fb Hb F H ρ σ → At F d v → b d ρ = some ρ' → (∀ σ', Rl Fb Hb F H ρ' σ' → Q σ' H) → t v σ H Q
noncomputable def RGs (t : TGs) (b : List D → SE → Option SE) : Prop := ∀ (Fb Hb F H : Hp) (ρ ρ' : SE) (σ : St) (ds : List D) (vs : List V) (Q : St → Hp → Prop), Rl Fb Hb F H ρ σ → AtL F ds vs → b ds ρ = some ρ' → (∀ σ', Rl Fb Hb F H ρ' σ' → Q σ' H) → t vs σ H Q
noncomputable def BD (X : Cx) (tg : Expr) (b : D → SE → Option SE) : Prop := ∃ t, PG X tg t ∧ RG t b
noncomputable def BDs (X : Cx) (tgs : List Expr) (b : List D → SE → Option SE) : Prop := ∃ t, PGs X tgs t ∧ RGs t b
noncomputable def vK (i : Nat) : D → SE → Option SE := fun d ρ => some (ρ.set i (.v d))
theorem xc {i : Nat} (h : PG X a (Yn i)) : BD X a (vK i) := by
  refine ⟨_, h, fun Fb Hb F H ρ ρ' σ d v Q rl av e q => ?_⟩
  cases e
  exact q _ (rl.set av)
noncomputable def zgX : List D → SE → Option SE
  | [], ρ => some ρ
  | _, _ => none
noncomputable def WU (b : D → SE → Option SE) (c : List D → SE → Option SE) : List D → SE → Option SE
  | d :: ds, ρ => (b d ρ).bind (c ds)
  | [], _ => none
theorem zaw : BDs X [] zgX := by
  refine ⟨_, zbQ, fun Fb Hb F H ρ ρ' σ ds vs Q rl av e q => ?_⟩
  cases ds with
  | nil => cases e; exact ⟨av.nil_inv, q _ rl⟩
  | cons _ _ => cases e
theorem vo {es : List Expr} {b : D → SE → Option SE} {c : List D → SE → Option SE} (h1 : BD X e b) (h2 : BDs X es c)
    (hs : (assignEach (e :: es) X.env).map (·.2) = assign e X.env :: (assignEach es X.env).map (·.2) := by rfl) : BDs X (e :: es) (WU b c) := by
  obtain ⟨t, p, r⟩ := h1
  obtain ⟨u, p2, r2⟩ := h2
  refine ⟨_, WY p p2 hs, fun Fb Hb F H ρ ρ' σ ds vs Q rl av e q => ?_⟩
  cases ds with
  | nil => cases e
  | cons d ds =>
    obtain ⟨x, xs, rfl, a1, a2⟩ := av.cons_inv
    obtain ⟨ρ1, e1, e2⟩ := Option.bind_eq_some_iff.mp e
    exact ⟨x, xs, rfl, r Fb Hb F H ρ ρ1 σ d x _ rl a1 e1 fun σ1 rl1 => r2 Fb Hb F H ρ1 ρ' σ1 ds xs Q rl1 a2 e2 q⟩
noncomputable def zgb (n : Nat) (c : List D → SE → Option SE) : D → SE → Option SE
  | .tup ds, ρ => if ds.length = n then c ds ρ else none
  | _, _ => none
theorem zcz {es : List Expr} {k : Nat} {n : Nat} {c : List D → SE → Option SE} (hc : X.calm = true) (h : BDs X es c)
    (hn : (assignEach es X.env).length = n := by rfl) (hst : (assignEach es X.env).findIdx? (·.1) = none := by rfl) : BD X (.Tuple es k pos) (zgb n c) := by
  obtain ⟨t, p, r⟩ := h
  refine ⟨_, zeK hc p hn hst, fun Fb Hb F H ρ ρ' σ d v Q rl av e q => ?_⟩
  cases d with
  | tup ds =>
    unfold zgb at e
    dsimp only at e
    split at e
    · rename_i hl
      obtain ⟨a, xs, rfl, hx, al⟩ := av.tup_inv
      exact ⟨a, xs, rfl, SqT.of (rl.gr.fh _ _ hx), by rw [al.length]; exact hl, r Fb Hb F H ρ ρ' σ ds xs Q rl al e q⟩
    · cases e
  | _ => cases e
noncomputable def sAsg (m : Bool) (f : Ev → Option D) (b : D → SE → Option SE) : SE → Ctl := fun ρ => match (vEv m f ρ).bind fun d => b d ρ with
  | some ρ' => .nx ρ'
  | none => .no
noncomputable def zgt (m : Bool) (i : Nat) (fk fe : Ev → Option D) : SE → Ctl := fun ρ => match (vEv m fe ρ).bind fun d => (fk (visG ρ)).bind fun k => match ρ[i]?, k with
    | some (.o ds), .int k => (ixN ds.length k).map fun j => ρ.set i (.o (ds.set j d))
    | _, _ => none with
  | some ρ' => .nx ρ'
  | none => .no
theorem zeC {m : Bool} {i : Nat} {ko : Expr} {fk fe : Ev → Option D} (he : ED X e fe) (ho : PE X a (za2 i)) (hk : ED X ko fk) (hs : swapsWithSole [.Subscript a ko pos'] e pos.line X.env = pure false := by rfl) (hw : swappedStores [.Subscript a ko pos'] e X.env = pure none := by rfl)
    (h1 : (assignEach [.Subscript a ko pos'] X.env).map (·.2) = [assign (.Subscript a ko pos') X.env] := by rfl)
    (ha : ∀ v, assign (.Subscript a ko pos') X.env v = (do
      let ov ← holding [v] (eval a X.env)
      let iv ← holding [v, ov] (eval ko X.env)
      standAt pos'
      holding [v, ov, iv] (setItem ov iv v)
      release [v, ov, iv] []) := by intro _; rfl) : SD X (.Assign [.Subscript a ko pos'] e pos) (zgt m i fk fe) := by
  obtain ⟨t, p, r⟩ := he
  obtain ⟨tk, pk, rk⟩ := hk
  refine ⟨_, zg7 p (zgO ho pk zeb ha) hs hw h1, fun Fb Hb F H ρ σ E rl k => ?_⟩
  unfold zgt at k
  cases h : (vEv m fe ρ).bind fun d => (fk (visG ρ)).bind fun k => match ρ[i]?, k with
    | some (.o ds), .int k => (ixN ds.length k).map fun j => ρ.set i (.o (ds.set j d))
    | _, _ => none with
  | none => rw [h] at k; exact k.elim
  | some ρ' =>
    rw [h] at k
    obtain ⟨d, e1, e2⟩ := Option.bind_eq_some_iff.mp h
    obtain ⟨kd, e3, e2⟩ := Option.bind_eq_some_iff.mp e2
    cases hs : ρ[i]? with
    | none => rw [hs] at e2; cases e2
    | some sl =>
      rw [hs] at e2
      cases sl with
      | no => cases e2
      | v _ => cases e2
      | m _ _ _ => cases e2
      | o ds =>
        cases kd with
        | int kk =>
          obtain ⟨j, e4, rfl⟩ := Option.map_eq_some_iff.mp e2
          refine r.at rl e1 fun F' H' v g av => ?_
          have rl2 := rl.grow g
          obtain ⟨q, xs, f1, _⟩ := rl2.owns i ds hs
          refine ⟨_, f1, ?_⟩
          refine rk σ _ _ H' _ _ rl2.gh rl2.visG e3 fun F3 H3 v3 g3 av3 => ?_
          obtain ⟨gb, _⟩ := rl2.back g3
          have rl3 := rl2.grow gb
          obtain ⟨q3, xs3, f1', _, _, f4, f5⟩ := rl3.owns i ds hs
          rw [f1] at f1'
          cases f1'
          refine ⟨q, xs3, kk, j, rfl, av3.int_inv, f4, by rw [f5.length]; exact e4, ?_⟩
          exact k _ _ σ (rl3.mutate hs f1 (f5.set j (av.mono gb.ff)))
        | _ => cases e2
end
end Dl
namespace L2
open PySem PySem.Spec PyProof.Rows
section
variable {X : Cx} {tg : Expr}
noncomputable def iSeq (K : PySem.W.Frag) (tl : TE) : TI := fun σ H R => tl σ H fun x H1 => (∃ a, x = .ref a ∧ (∃ xs, SqL K H1 a xs) ∧ R (Itl K a) H1) ∨ (∃ a, x = .ref a ∧ (∃ xs, SqT K H1 a xs) ∧ R (Itt K a) H1)
theorem zgu {l : Expr} {tl : TE} (hl : PE X l tl) : PI X tg l (iSeq X.K tl) := by
  intro pins s σ H R I h
  refine thn (hl pins s σ H _ I h) fun v s1 hh9 => ?_
  obtain ⟨x, H1, I1, r1, q1⟩ := hh9
  rcases q1 with ⟨a, e, ⟨xs, hq⟩, q⟩ | ⟨a, e, ⟨xs, hq⟩, q⟩
  · subst e
    cases r1
    obtain ⟨its, rv, p, hz⟩ := I1.list hq
    refine wpAny_pyIter_list p.isList ?_
    refine ⟨s1.heap.objs.size, [s1.heap.objs.size], _, _, H1, rfl, I1.kept (t' := s1.toks) fun b o e => Heap.get?_push_of_some _ e, zcD a _, ⟨_, Heap.get?_push_size _ rfl, rfl, rfl⟩, fun b hb => ?_, q⟩
    have e : b = s1.heap.objs.size := by simpa using hb
    subst e
    exact I1.fpOk (Nat.le_refl _) (I1.hok.fresh (Nat.le_refl _))
  · subst e
    cases r1
    obtain ⟨its, rv, p, hz⟩ := I1.tuple hq
    refine wpAny_pyIter_tuple (show s1.heap.IsTuple a its.toArray from p) ?_
    refine ⟨s1.heap.objs.size, [s1.heap.objs.size], _, _, H1, rfl, I1.kept (t' := s1.toks) fun b o e => Heap.get?_push_of_some _ e, zbG a _, ⟨_, Heap.get?_push_size _ rfl, rfl, rfl⟩, fun b hb => ?_, q⟩
    have e : b = s1.heap.objs.size := by simpa using hb
    subst e
    exact I1.fpOk (Nat.le_refl _) (I1.hok.fresh (Nat.le_refl _))
end
end L2
namespace Dl
open PySem L2
variable [KK]
noncomputable def zgc (J : It) (F : Hp) (ds : List D) : Prop := ∀ (i : Nat) (F2 H2 : Hp), yK F F2 → yK F2 H2 → (i = ds.length → J.stop i H2) ∧
  ∀ d, ds[i]? = some d → J.go i H2 ∧ ∀ x H3, J.yld i H2 x H3 → ∃ F3, Gr F2 H2 F3 H3 ∧ At F3 d x
noncomputable def RI (wi : TI) (f : Ev → Option (List D)) : Prop :=
  ∀ (σ : St) (ρ : Ev) (F H : Hp) (ds : List D) (R : It → Hp → Prop), yK F H → VAt F ρ σ → f ρ = some ds → (∀ F' H' J, Gr F H F' H' → zgc J F' ds → R J H') → wi σ H R
noncomputable def ID (X : Cx) (tg iter : Expr) (f : Ev → Option (List D)) : Prop := ∃ wi, PI X tg iter wi ∧ RI wi f
noncomputable def X3 : D → Option (List D)
  | .lst ds => some ds
  | .tup ds => some ds
  | _ => none
section
variable {X : Cx} {tg a b c e : Expr} {pos : Pos}
theorem zgz {K : PySem.W.Frag} {F : Hp} {p : Addr} {xs : List V} {ds : List D} (h : F p = some (.lst xs)) (al : AtL F ds xs) : zgc (Itl K p) F ds := by
  intro i F2 H2 s1 s2
  have q : SqL K H2 p xs := SqL.of (s2 _ _ (s1 _ _ h))
  refine ⟨fun hl => ⟨xs, q, by rw [al.length, hl]; exact Nat.le_refl _⟩, fun d hd => ?_⟩
  obtain ⟨x, hx, ax⟩ := al.get hd
  refine ⟨⟨xs, x, q, hx⟩, fun y H3 hy => ?_⟩
  obtain ⟨rfl, hy⟩ := hy
  have := hy xs q
  rw [hx] at this
  cases this
  exact ⟨F2, .refl s2, ax.mono s1⟩
theorem zhr {K : PySem.W.Frag} {F : Hp} {p : Addr} {xs : List V} {ds : List D} (h : F p = some (.tup xs)) (al : AtL F ds xs) : zgc (Itt K p) F ds := by
  intro i F2 H2 s1 s2
  have q : SqT K H2 p xs := SqT.of (s2 _ _ (s1 _ _ h))
  refine ⟨fun hl => ⟨xs, q, by rw [al.length, hl]; exact Nat.le_refl _⟩, fun d hd => ?_⟩
  obtain ⟨x, hx, ax⟩ := al.get hd
  refine ⟨⟨xs, x, q, hx⟩, fun y H3 hy => ?_⟩
  obtain ⟨rfl, hy⟩ := hy
  have := hy xs q
  rw [hx] at this
  cases this
  exact ⟨F2, .refl s2, ax.mono s1⟩
noncomputable def iOf (f : Ev → Option D) : Ev → Option (List D) := fun ρ => (f ρ).bind X3
theorem Yz {f : Ev → Option D} (ha : ED X a f) : ID X tg a (iOf f) := by
  obtain ⟨t, p, r⟩ := ha
  refine ⟨_, zgu p, fun σ ρ F H ds R s va e q => ?_⟩
  obtain ⟨d, e1, e2⟩ := Option.bind_eq_some_iff.mp e
  refine r σ ρ F H d _ s va e1 fun F1 H1 v g1 a1 => ?_
  cases d <;> try cases e2
  · obtain ⟨p, xs, rfl, hx, al⟩ := a1.tup_inv
    exact .inr ⟨p, rfl, ⟨xs, SqT.of (g1.fh _ _ hx)⟩, q F1 H1 _ g1 (zhr hx al)⟩
  · obtain ⟨p, xs, rfl, hx, al⟩ := a1.lst_inv
    exact .inl ⟨p, rfl, ⟨xs, SqL.of (g1.fh _ _ hx)⟩, q F1 H1 _ g1 (zgz hx al)⟩
noncomputable def zf7 (lo : Int) (n : Nat) : List D := (List.range n).map fun k : Nat => .int (lo + k)
theorem zb5 {F : Hp} (lo : Int) (n : Nat) : zgc (Itr lo n) F (zf7 lo n) := by
  intro i F2 H2 s1 s2
  have hlen : (zf7 lo n).length = n := by unfold zf7; simp
  refine ⟨fun hl => by rw [hlen] at hl; rw [hl]; exact Nat.le_refl _, fun d hd => ?_⟩
  have hi : i < n := by
    have := (List.getElem?_eq_some_iff.mp hd).1
    omega
  refine ⟨hi, fun y H3 hy => ?_⟩
  obtain ⟨rfl, rfl⟩ := hy
  refine ⟨F2, .refl s2, ?_⟩
  unfold zf7 at hd
  rw [List.getElem?_map, List.getElem?_range hi] at hd
  cases hd
  exact .int
@[irreducible] noncomputable def zgx (j : Int) : Bool := decide (-(2 ^ 62) ≤ j ∧ j < 2 ^ 62)
omit [KK] in
theorem wK {j : Int} : zgx j = true ↔ -(2 ^ 62) ≤ j ∧ j < 2 ^ 62 := by unfold zgx; exact decide_eq_true_iff
noncomputable def zdi : List D → Option (List D)
  | [.int j] => if zgx j = true then some (zf7 0 j.toNat) else none
  | _ => none
noncomputable def zf4 : List D → Option (List D)
  | [.int i, .int j] => if zgx i = true ∧ zgx j = true then some (zf7 i (j - i).toNat) else none
  | _ => none
noncomputable def zeU (g : List D → Option (List D)) (f : Ev → Option (List D)) : Ev → Option (List D) := fun ρ => (f ρ).bind g
theorem Vb {p : Pos} {f : Ev → Option (List D)} (hg : Gl X "range") (hm : X.mg "range" = none) (ha : AD X [a] f) (hs : starEach [a] X.env = [(false, eval a X.env)] := by rfl) : ID X tg (.Call (.Name "range" p) [a] [] pos) (zeU zdi f) := by
  obtain ⟨t, pa, r⟩ := ha
  refine ⟨_, Vk hg hm pa hs, fun σ ρ F H ds R s va e q => ?_⟩
  obtain ⟨d, e1, e2⟩ := Option.bind_eq_some_iff.mp e
  refine r σ ρ F H d _ s va e1 fun F1 H1 v g1 a1 => ?_
  unfold zdi at e2
  split at e2
  · split at e2
    · cases e2
      rename_i hc
      obtain ⟨x, r', rfl, ax, ar⟩ := a1.cons_inv
      cases ar.nil_inv
      exact ⟨_, by rw [ax.int_inv], (wK.mp hc).1, (wK.mp hc).2, q F1 H1 _ g1 (zb5 0 _)⟩
    · cases e2
  · cases e2
theorem XY {p : Pos} {f : Ev → Option (List D)} (hg : Gl X "range") (hm : X.mg "range" = none) (ha : AD X [a, b] f) (hs : starEach [a, b] X.env = [(false, eval a X.env), (false, eval b X.env)] := by rfl) (hs2 : starEach [b] X.env = [(false, eval b X.env)] := by rfl) :
    ID X tg (.Call (.Name "range" p) [a, b] [] pos) (zeU zf4 f) := by
  obtain ⟨t, pa, r⟩ := ha
  refine ⟨_, zcA hg hm pa hs hs2, fun σ ρ F H ds R s va e q => ?_⟩
  obtain ⟨d, e1, e2⟩ := Option.bind_eq_some_iff.mp e
  refine r σ ρ F H d _ s va e1 fun F1 H1 v g1 a1 => ?_
  unfold zf4 at e2
  split at e2
  · split at e2
    · cases e2
      rename_i hc
      obtain ⟨x, r', rfl, ax, ar⟩ := a1.cons_inv
      obtain ⟨y, r', rfl, ay, ar⟩ := ar.cons_inv
      cases ar.nil_inv
      exact ⟨_, _, by rw [ax.int_inv, ay.int_inv], ⟨(wK.mp hc.1).1, (wK.mp hc.1).2, (wK.mp hc.2).1, (wK.mp hc.2).2⟩, q F1 H1 _ g1 (zb5 _ _)⟩
    · cases e2
  · cases e2
noncomputable def VA (n : Nat) : List D → List D
  | [] => []
  | d :: ds => .tup [.int n, d] :: VA (n + 1) ds
omit [KK] in
theorem Vl (ds : List D) : ∀ (n i : Nat), (VA n ds)[i]? = (ds[i]?).map fun d => .tup [.int ((n + i : Nat) : Int), d] := by
  induction ds with
  | nil => intro n i; simp [VA]
  | cons d ds ih =>
    intro n i
    cases i with
    | zero => simp [VA]
    | succ i =>
      show (VA (n + 1) ds)[i]? = (ds[i]?).map _
      rw [ih]
      have : n + 1 + i = n + (i + 1) := by omega
      rw [this]
omit [KK] in
theorem ZF (ds : List D) : ∀ n, (VA n ds).length = ds.length := by
  induction ds with
  | nil => intro n; rfl
  | cons d ds ih => intro n; simp [VA, ih]
noncomputable def zb8 (f : Ev → Option (List D)) : Ev → Option (List D) := fun ρ => (f ρ).bind fun as => match as with
  | [d] => (X3 d).map (VA 0)
  | _ => none
theorem ze2 {es : List Expr} {k : Nat} {tp p : Pos} {f : Ev → Option (List D)} (hg : Gl X "enumerate") (hm : X.mg "enumerate" = none) (hb : bootBuiltins "enumerate" = some (.type "enumerate")) (ha : AD X [a] f)
    (hs : starEach [a] X.env = [(false, eval a X.env)] := by rfl) : ID X (.Tuple es k tp) (.Call (.Name "enumerate" p) [a] [] pos) (zb8 f) := by
  obtain ⟨t, pa, r⟩ := ha
  refine ⟨_, zfL hg hm hb pa hs, fun σ ρ F H ds R s va e q => ?_⟩
  obtain ⟨as, e1, e2⟩ := Option.bind_eq_some_iff.mp e
  refine r σ ρ F H as _ s va e1 fun F1 H1 v g1 a1 => ?_
  split at e2
  · obtain ⟨x, r', rfl, ax, ar⟩ := a1.cons_inv
    cases ar.nil_inv
    obtain ⟨es, e3, rfl⟩ := Option.map_eq_some_iff.mp e2
    rename_i d
    cases d <;> try cases e3
    · obtain ⟨p, xs, rfl, hx, al⟩ := ax.tup_inv
      refine ⟨p, rfl, .inr ⟨xs, SqT.of (g1.fh _ _ hx), q F1 H1 _ g1 fun i F2 H2 s1 s2 => ?_⟩⟩
      have qq : SqT X.K H2 p xs := SqT.of (s2 _ _ (s1 _ _ hx))
      refine ⟨fun hl => ⟨xs, qq, by rw [al.length, hl, ZF]; exact Nat.le_refl _⟩, fun d hd => ?_⟩
      rw [Vl] at hd
      obtain ⟨d', hd', rfl⟩ := Option.map_eq_some_iff.mp hd
      obtain ⟨x, hxi, ax⟩ := al.get hd'
      refine ⟨⟨xs, x, qq, hxi⟩, fun y H3 hy => ?_⟩
      obtain ⟨T, y, rfl, hT, rfl, hy⟩ := hy
      have := hy xs qq
      rw [hxi] at this
      cases this
      have g3 := Gr.alloc s2 hT (.tup [.int i, x])
      exact ⟨_, g3, .tup zq (.cons (by rw [Nat.zero_add]; exact .int) (.cons (ax.mono (s1.trans g3.ff)) .nil))⟩
    · obtain ⟨p, xs, rfl, hx, al⟩ := ax.lst_inv
      refine ⟨p, rfl, .inl ⟨xs, g1.fh _ _ hx, q F1 H1 _ g1 fun i F2 H2 s1 s2 => ?_⟩⟩
      have qq : SqL X.K H2 p xs := SqL.of (s2 _ _ (s1 _ _ hx))
      refine ⟨fun hl => ⟨xs, qq, by rw [al.length, hl, ZF]; exact Nat.le_refl _⟩, fun d hd => ?_⟩
      rw [Vl] at hd
      obtain ⟨d', hd', rfl⟩ := Option.map_eq_some_iff.mp hd
      obtain ⟨x, hxi, ax⟩ := al.get hd'
      refine ⟨⟨xs, x, qq, hxi⟩, fun y H3 hy => ?_⟩
      obtain ⟨T, y, rfl, hT, rfl, hy⟩ := hy
      have := hy xs qq
      rw [hxi] at this
      cases this
      have g3 := Gr.alloc s2 hT (.tup [.int i, x])
      exact ⟨_, g3, .tup zq (.cons (by rw [Nat.zero_add]; exact .int) (.cons (ax.mono (s1.trans g3.ff)) .nil))⟩
  · cases e2
noncomputable def hb2 (F1 Hb : Hp) : Hp := fun p => match F1 p with
  | some o => some o
  | none => Hb p
theorem Xb {F1 Hb : Hp} {p : Addr} (h : F1 p = none) : hb2 F1 Hb p = Hb p := by unfold hb2; rw [h]
theorem zek {F1 Hb : Hp} {p : Addr} {o : HO} (h : F1 p = some o) : hb2 F1 Hb p = some o := by unfold hb2; rw [h]
theorem Gr.up {Fb Hb F1 H1 F H : Hp} (g1 : Gr Fb Hb F1 H1) (g : Gr F1 (hb2 F1 Hb) F H) : Gr Fb Hb F H := by
  refine ⟨g1.ff.trans g.ff, g.fh, fun p o e1 e2 => ?_⟩
  rcases (g1.kp p o e1 e2).1 with n | ⟨n1, n2⟩
  · exact g.kp p o n (by rw [Xb n]; exact e2)
  · exact ⟨.inr ⟨n1, g.ff _ _ n2⟩, g.fh _ _ (g.ff _ _ n2)⟩
theorem Gr.dn {Fb Hb F1 F H : Hp} (g : Gr Fb Hb F H) (s1 : yK Fb F1) (s : yK F1 F) : Gr F1 (hb2 F1 Hb) F H := by
  refine ⟨s, g.fh, fun p o e1 e2 => ?_⟩
  rw [Xb e1] at e2
  exact g.kp p o (s1.free e1) e2
theorem Rl.up {Fb Hb F1 H1 F H : Hp} {ρ : SE} {σ : St} (g1 : Gr Fb Hb F1 H1) (r : Rl F1 (hb2 F1 Hb) F H ρ σ) : Rl Fb Hb F H ρ σ := by
  refine ⟨g1.up r.gr, r.vals, fun i s e ho => ?_, r.dis, r.len⟩
  obtain ⟨p, o, e1, e2, e3⟩ := r.ows i s e ho
  refine ⟨p, o, e1, ?_, e3⟩
  cases h : F1 p with
  | none => rw [Xb h] at e2; exact e2
  | some o => rw [zek h] at e2; cases e2
theorem Rl.dn {Fb Hb F1 F H : Hp} {ρ : SE} {σ : St} (r : Rl Fb Hb F H ρ σ) (s1 : yK Fb F1) (s : yK F1 F) : Rl F1 (hb2 F1 Hb) F H ρ σ := by
  refine ⟨r.gr.dn s1 s, r.vals, fun i t e ho => ?_, r.dis, r.len⟩
  obtain ⟨p, o, e1, e2, e3, e4⟩ := r.ows i t e ho
  refine ⟨p, o, e1, ?_, e3, e4⟩
  rw [Xb (s.free e3)]
  exact e2
noncomputable def zcE (b : D → SE → Option SE) (g : SE → Ctl) : List D → SE → Ctl
  | [], ρ => .nx ρ
  | d :: ds, ρ => match b d ρ with
    | none => .no
    | some ρ1 => match g ρ1 with
      | .nx ρ' => zcE b g ds ρ'
      | .ct ρ' => zcE b g ds ρ'
      | .bk ρ' => .nx ρ'
      | .rt d => .rt d
      | .no => .no
noncomputable def zaB (f : Ev → Option (List D)) (b : D → SE → Option SE) (g : SE → Ctl) : SE → Ctl := fun ρ => match f (visF ρ) with
  | some ds => zcE b g ds ρ
  | none => .no
theorem zeZ {Fb Hb F1 H1 : Hp} {ρ : SE} {σ : St} {E : V3} {J : It} {g : TG} {tb : TS} {ds : List D} {b : D → SE → Option SE} {gb : SE → Ctl} (hit : zgc J F1 ds) (rg : RG g b) (rb : RS tb gb) (rl0 : Rl Fb Hb F1 H1 ρ σ) (k : SOk Fb Hb E (zcE b gb ds ρ)) :
    ∃ W : Nat → Nat → St → Hp → Prop, (∃ m, W 0 m σ H1) ∧ ∀ i m σ H, W i m σ H →
      (J.stop i H ∧ E.nx σ H) ∨ (J.go i H ∧ ∃ N : St → Hp → Prop, (∀ σ' H', N σ' H' → ∃ m', m' < m ∧ W (i + 1) m' σ' H') ∧ ∀ x H', J.yld i H x H' → g x σ H' fun σ2 H2 => tb { E with nx := N, ct := N, bk := E.nx } σ2 H2) := by
  refine ⟨fun i m σ H => m = ds.length - i ∧ i ≤ ds.length ∧ ∃ F ρ, yK F1 F ∧ Rl Fb Hb F H ρ σ ∧ SOk Fb Hb E (zcE b gb (ds.drop i) ρ), ⟨ds.length, by simp, Nat.zero_le _, F1, ρ, yK.refl _, rl0, k⟩, ?_⟩
  rintro i m σ H ⟨rfl, hi, F, ρ, s1, rl, k⟩
  obtain ⟨stop, go⟩ := hit i F H s1 rl.gr.fh
  by_cases hlt : i < ds.length
  · have hd : ds.drop i = ds[i] :: ds.drop (i + 1) := List.drop_eq_getElem_cons hlt
    rw [hd] at k
    unfold zcE at k
    obtain ⟨g1, g2⟩ := go ds[i] (by simp [hlt])
    refine .inr ⟨g1, fun σ H => ∃ F ρ, yK F1 F ∧ Rl Fb Hb F H ρ σ ∧ SOk Fb Hb E (zcE b gb (ds.drop (i + 1)) ρ), fun σ' H' w => ⟨ds.length - (i + 1), by omega, rfl, hlt, w⟩, fun x H' hy => ?_⟩
    obtain ⟨F3, g3, a3⟩ := g2 x H' hy
    cases hb : b ds[i] ρ with
    | none => rw [hb] at k; exact k.elim
    | some ρ1 =>
      rw [hb] at k
      dsimp only at k
      refine rg Fb Hb F3 H' ρ ρ1 σ _ x _ (rl.grow g3) a3 hb fun σ2 rl2 => ?_
      have s3 := s1.trans g3.ff
      refine rb F1 (hb2 F1 Hb) F3 H' ρ1 σ2 _ (rl2.dn rl0.gr.ff s3) ?_
      cases hg : gb ρ1 with
      | nx ρ' => rw [hg] at k; exact fun F4 H4 σ4 r4 => ⟨F4, ρ', r4.gr.ff, r4.up rl0.gr, k⟩
      | ct ρ' => rw [hg] at k; exact fun F4 H4 σ4 r4 => ⟨F4, ρ', r4.gr.ff, r4.up rl0.gr, k⟩
      | bk ρ' => rw [hg] at k; exact fun F4 H4 σ4 r4 => k F4 H4 σ4 (r4.up rl0.gr)
      | rt d => rw [hg] at k; exact fun F4 H4 v g4 a4 => k F4 H4 v (rl0.gr.up g4) a4
      | no => rw [hg] at k; exact k.elim
  · have e : i = ds.length := by omega
    subst e
    rw [List.drop_length] at k
    exact .inl ⟨stop rfl, k F H σ rl⟩
theorem Yv {iter : Expr} {body : List Stmt} {f : Ev → Option (List D)} {b : D → SE → Option SE} {g : SE → Ctl} (hp : PassesOwn (model X.prog X.w) X.A X.env X.xe) (hc : X.calm = true) (hi : ID X tg iter f) (hg : BD X tg b) (hb : SDs X body g)
    (hs : ∀ x, foldedSetIterable iter X.env x = pure x := by intro _; rfl) : SD X (.For tg iter body [] pos) (zaB f b g) := by
  obtain ⟨wi, pi, ri⟩ := hi
  obtain ⟨tg', pg, rg⟩ := hg
  obtain ⟨tb, pb, rb⟩ := hb
  refine ⟨_, ze0 hp hc pi pg pb hs, fun Fb Hb F H ρ σ E rl k => ?_⟩
  unfold zaB at k
  cases h : f (visF ρ) with
  | none => rw [h] at k; exact k.elim
  | some ds =>
    rw [h] at k
    exact ri σ _ _ H ds _ rl.gr.fh rl.visF h fun F1 H1 J g1 ok => zeZ ok rg rb (rl.grow g1) k
end
noncomputable def lcD (b : D → Option (List (Option D))) (t : Ev → Option Bool) (f : Ev → Option D) (ρ : Ev) : List D → Option (List D)
  | [] => some []
  | d :: ds => (b d).bind fun own => (t (own ++ ρ)).bind fun c => if c = true then (f (own ++ ρ)).bind fun y => (lcD b t f ρ ds).map (y :: ·) else lcD b t f ρ ds
noncomputable def fLC (i : Ev → Option (List D)) (b : D → Option (List (Option D))) (t : Ev → Option Bool) (f : Ev → Option D) : Ev → Option (List D) := fun ρ => (i ρ).bind fun ds => if lim ds.length = true then lcD b t f ρ ds else none
noncomputable def b1 : D → Option (List (Option D)) := fun d => some [some d]
noncomputable def b2 : D → Option (List (Option D))
  | .tup [x, y] => some [some x, some y]
  | _ => none
noncomputable def RB (n : Nat) (t : TG) (b : D → Option (List (Option D))) : Prop := ∀ (σ : St) (ρ : Ev) (F H : Hp) (d : D) (v : V) (own : List (Option D)) (Q : St → Hp → Prop), yK F H → VAt F ρ σ → At F d v → b d = some own → (∀ σ', VAt F (own ++ ρ) σ' → Q σ' H) → t v (List.replicate n none ++ σ) H Q
noncomputable def XT : Ev → Option Bool := fun _ => some true
theorem zeN : RT tYes XT := fun _ _ _ _ _ _ s _ e q => by cases e; exact q _ _ (.refl s)
theorem zfV {wi : TI} {n : Nat} {g : TG} {tt : TT} {te : TE} {fi : Ev → Option (List D)} {b : D → Option (List (Option D))} {ft : Ev → Option Bool} {fe : Ev → Option D} (ri : RI wi fi) (rg : RB n g b) (rt : RT tt ft) (re : RE te fe) :
    RF (tLC wi n g tt te) (fLC fi b ft fe) := by
  intro σ ρ F H out Q s va e q
  obtain ⟨ds, e1, e2⟩ := Option.bind_eq_some_iff.mp e
  split at e2 <;> try cases e2
  rename_i hlim
  have hlim : ds.length ≤ sizeLine := of_decide_eq_true hlim
  refine ri σ ρ F H ds _ s va e1 fun F1 H1 J g1 ok => ?_
  intro P hP
  have hF1 : F1 P = none := g1.fh.free hP
  have hH0 : H P = none := by
    cases e : H P with
    | none => rfl
    | some o =>
      cases e2 : F P with
      | none => rw [(g1.kp P o e2 e).2] at hP; cases hP
      | some u => rw [g1.fh _ _ (g1.ff _ _ e2)] at hP; cases hP
  refine ⟨fun i m ys H2 => m = ds.length - i ∧ i ≤ ds.length ∧ ∃ F2 done, Gr F1 H1 F2 H2 ∧ Gr F1 (upd H1 P (.lst [])) F2 (upd H2 P (.lst [])) ∧ F2 P = none ∧ H2 P = some (.lst ys) ∧ AtL F2 done ys ∧ done.length ≤ i ∧ ∃ more, lcD b ft fe ρ (ds.drop i) = some more ∧ done ++ more = out, ⟨ds.length, by simp, Nat.zero_le _, F1, [], Gr.hide g1.fh hP _, ?_, hF1, zq, .nil, Nat.zero_le _, out, e2, rfl⟩, ?_⟩
  · rw [zay]
    exact .refl fun b u z => by rw [zn (zl z hF1)]; exact g1.fh b u z
  rintro i m ys H2 ⟨rfl, hi, F2, done, g2, g2', hF2, hH2, al, hdl, more, hm, hout⟩
  obtain ⟨stop, go⟩ := ok i F2 H2 g2.ff g2.fh
  by_cases hlt : i < ds.length
  · have hd : ds.drop i = ds[i] :: ds.drop (i + 1) := List.drop_eq_getElem_cons hlt
    rw [hd] at hm
    unfold lcD at hm
    obtain ⟨own, hb, hm⟩ := Option.bind_eq_some_iff.mp hm
    obtain ⟨cb, hc, hm⟩ := Option.bind_eq_some_iff.mp hm
    obtain ⟨k1, k2⟩ := go ds[i] (by simp [hlt])
    refine .inr ⟨k1, by rw [al.length]; omega, fun x H3 hy => ?_⟩
    obtain ⟨F3, g3, a3⟩ := k2 x H3 hy
    refine rg σ ρ F3 H3 ds[i] x own _ g3.fh (va.mono (g1.ff.trans (g2.ff.trans g3.ff))) a3 hb fun σ4 va4 => ?_
    refine rt σ4 _ F3 H3 cb _ g3.fh va4 hc fun F5 H5 g5 => ?_
    have g35 := g3.trans g5
    obtain ⟨n5, h5⟩ := g35.kl (fun _ e => by cases e) hF2 hH2
    have keep2 : ∀ {F6 H6 : Hp} {o : HO}, Gr F2 H2 F6 H6 → F6 P = none → Gr F1 (upd H1 P (.lst [])) F6 (upd (upd H6 P o) P (.lst [])) := fun {F6 H6 o} g6 n6 => by
      rw [zay]
      refine ⟨g2.ff.trans g6.ff, fun b u z => ?_, fun b u z1 z2 => ?_⟩
      · rw [zn (zl z n6)]; exact g6.fh b u z
      · by_cases hbP : b = P
        · subst hbP
          rw [zq] at z2 ⊢
          exact ⟨.inl n6, z2⟩
        · rw [zn hbP] at z2 ⊢
          exact (g2.trans g6).kp b u z1 z2
    have keep1 : ∀ {F6 H6 : Hp} {o : HO}, Gr F2 H2 F6 H6 → F6 P = none → Gr F1 H1 F6 (upd H6 P o) := fun {F6 H6 o} g6 n6 => by
      refine ⟨g2.ff.trans g6.ff, fun b u z => ?_, fun b u z1 z2 => ?_⟩
      · rw [zn (zl z n6)]; exact g6.fh b u z
      · rw [zn (zl z2 hP)]
        exact (g2.trans g6).kp b u z1 z2
    cases cb with
    | false =>
      rw [if_neg Bool.false_ne_true] at hm ⊢
      have ups : H5 = upd H5 P (.lst ys) := by
        funext b
        by_cases hbP : b = P
        · subst hbP; rw [zq]; exact h5
        · rw [zn hbP]
      refine ⟨ds.length - (i + 1), by omega, rfl, hlt, F5, done, ?_, ?_, n5, h5, al.mono g35.ff, by omega, more, hm, hout⟩
      · rw [ups]; exact keep1 g35 n5
      · have := keep2 (o := .lst ys) g35 n5
        rw [← ups] at this
        exact this
    | true =>
      rw [if_pos rfl] at hm ⊢
      obtain ⟨y, hy, hm⟩ := Option.bind_eq_some_iff.mp hm
      obtain ⟨rest, hm', rfl⟩ := Option.map_eq_some_iff.mp hm
      refine re σ4 _ F5 H5 y _ g5.fh (va4.mono g5.ff) hy fun F6 H6 v g6 a6 => ?_
      have g36 := g35.trans g6
      obtain ⟨n6, h6⟩ := g36.kl (fun _ e => by cases e) hF2 hH2
      refine ⟨h6, ds.length - (i + 1), by omega, rfl, hlt, F6, done ++ [y], keep1 g36 n6, keep2 g36 n6, n6, zq, (al.mono g36.ff).snoc a6, by rw [List.length_append]; simp; omega, rest, hm', by rw [← hout, List.append_assoc]; rfl⟩
  · have e : i = ds.length := by omega
    subst e
    rw [List.drop_length] at hm
    cases hm
    rw [List.append_nil] at hout
    subst hout
    exact .inl ⟨stop rfl, q F2 H2 P ys (g1.trans g2) hH0 hF2 hH2 al⟩
theorem rb1 : RB 1 (Yn 0) b1 := by
  intro σ ρ F H d v own Q s va av e q
  cases e
  refine q _ fun i d' h => ?_
  cases i with
  | zero => cases h; exact ⟨v, rfl, av⟩
  | succ i => exact va i d' h
theorem rb2 {K : PySem.W.Frag} : RB 2 (zhK K 2 (zaF (Yn 0) (zaF (Yn 1) zhL))) b2 := by
  intro σ ρ F H d v own Q s va av e q
  unfold b2 at e
  split at e <;> cases e
  obtain ⟨p, xs, rfl, hx, al⟩ := av.tup_inv
  obtain ⟨x, r, rfl, ax, al⟩ := al.cons_inv
  obtain ⟨y, r, rfl, ay, al⟩ := al.cons_inv
  cases al.nil_inv
  refine ⟨p, _, rfl, SqT.of (s _ _ hx), rfl, x, _, rfl, y, _, rfl, rfl, ?_⟩
  refine q _ fun i d' h => ?_
  match i, h with
  | 0, h => cases h; exact ⟨x, rfl, ax⟩
  | 1, h => cases h; exact ⟨y, rfl, ay⟩
  | i + 2, h => exact va i d' h
noncomputable def tCan (f : Ev → Option D) : TE := fun σ H Q => ∃ ρ F d, yK F H ∧ VAt F ρ σ ∧ f ρ = some d ∧ ∀ F' H' v, Gr F H F' H' → At F' d v → Q v H'
noncomputable def zgr (f : Ev → Option Bool) : TT := fun σ H Q => ∃ ρ F d, yK F H ∧ VAt F ρ σ ∧ f ρ = some d ∧ ∀ F' H', Gr F H F' H' → Q d H'
theorem ED.can {X : Cx} {e : Expr} {f : Ev → Option D} (h : ED X e f) : PE X e (tCan f) := by
  obtain ⟨t, p, r⟩ := h
  rintro pins s σ H Q I ⟨ρ, F, d, h1, h2, h3, h4⟩
  exact p pins s σ H Q I (r σ ρ F H d Q h1 h2 h3 h4)
theorem TD.can {X : Cx} {e : Expr} {f : Ev → Option Bool} (h : TD X e f) : PT X e (zgr f) := by
  obtain ⟨t, p, r⟩ := h
  rintro pins s σ H Q I ⟨ρ, F, d, h1, h2, h3, h4⟩
  exact p pins s σ H Q I (r σ ρ F H d Q h1 h2 h3 h4)
theorem zcU {f : Ev → Option D} : RE (tCan f) f := fun _ ρ F _ d _ h1 h2 h3 h4 => ⟨ρ, F, d, h1, h2, h3, h4⟩
theorem zgv {f : Ev → Option Bool} : RT (zgr f) f := fun _ ρ F _ d _ h1 h2 h3 h4 => ⟨ρ, F, d, h1, h2, h3, h4⟩
theorem Wc {X : Cx} {elt tg iter : Expr} {L M : List Str} {scope : Scope} {cl : List (Str × Addr)} {pos : Pos} {fi : Ev → Option (List D)} {b : D → Option (List (Option D))} {fe : Ev → Option D} {g : TG}
    (hc : X.calm = true) (S : xM X L M scope cl) (hi : ID X tg iter fi)
    (hgS : ∀ (σ : St) (v : V) (H : Hp) (Q : St → Hp → Prop), g v (List.replicate L.length none ++ σ) H Q → g v (List.replicate L.length none ++ σ) H (fun σ2 H2 => Zw (List.replicate L.length none ++ σ) σ2 ∧ Q σ2 H2))
    (hrb : RB L.length g b)
    (hg : ∀ s₀ H₀ ex pn, PG (Vw X L M scope cl s₀ H₀ ex pn) tg g) (he : ∀ s₀ H₀ ex pn, ED (Vw X L M scope cl s₀ H₀ ex pn) elt fe)
    (hs : ∀ x, foldedSetIterable iter X.env x = pure x := by intro _; rfl) : FL X (.ListComp elt [⟨tg, iter, [], 0⟩] scope pos) (fLC fi b XT fe) := by
  obtain ⟨wi, pi, ri⟩ := hi
  exact ⟨_, zeY hc S pi hgS hg (fun _ _ _ _ => zcV) (fun _ _ _ _ => (he _ _ _ _).can) hs, zfV ri hrb zeN zcU⟩
theorem zcP {X : Cx} {elt tg iter c : Expr} {L M : List Str} {scope : Scope} {cl : List (Str × Addr)} {pos : Pos} {fi : Ev → Option (List D)} {b : D → Option (List (Option D))} {ft : Ev → Option Bool} {fe : Ev → Option D} {g : TG}
    (hc : X.calm = true) (S : xM X L M scope cl) (hi : ID X tg iter fi)
    (hgS : ∀ (σ : St) (v : V) (H : Hp) (Q : St → Hp → Prop), g v (List.replicate L.length none ++ σ) H Q → g v (List.replicate L.length none ++ σ) H (fun σ2 H2 => Zw (List.replicate L.length none ++ σ) σ2 ∧ Q σ2 H2))
    (hrb : RB L.length g b)
    (hg : ∀ s₀ H₀ ex pn, PG (Vw X L M scope cl s₀ H₀ ex pn) tg g) (ht : ∀ s₀ H₀ ex pn, TD (Vw X L M scope cl s₀ H₀ ex pn) c ft) (he : ∀ s₀ H₀ ex pn, ED (Vw X L M scope cl s₀ H₀ ex pn) elt fe)
    (hs : ∀ x, foldedSetIterable iter X.env x = pure x := by intro _; rfl) : FL X (.ListComp elt [⟨tg, iter, [c], 0⟩] scope pos) (fLC fi b ft fe) := by
  obtain ⟨wi, pi, ri⟩ := hi
  exact ⟨_, zeY hc S pi hgS hg (fun _ _ _ _ => zfM (ht _ _ _ _).can) (fun _ _ _ _ => (he _ _ _ _).can) hs, zfV ri hrb zgv zcU⟩
theorem zhm {t : TE} {f : Ev → Option (List D)} (r : RF t f) : RE t (w8 f) := by
  intro σ ρ F H d Q s va e q
  obtain ⟨ds, e1, rfl⟩ := Option.map_eq_some_iff.mp e
  refine r σ ρ F H ds Q s va e1 fun F' H' p xs g h0 hF hH hx => ?_
  have g2 := g.show h0 hF hH
  exact q _ _ _ g2 (At.lst zq (hx.mono (fun b u e => by rw [zn (zl e hF)]; exact e)))
noncomputable def FLS (X : Cx) (i : Nat) (st : Stmt) (f : Ev → Option (List D)) : Prop := ∃ t, PS X st (zf8 t (Yn i)) ∧ RF t f
theorem ze7 {m : Bool} {i : Nat} {st : Stmt} {f : Ev → Option (List D)} (he : FLS X i st f) : SD X st (wY m i (w8 f)) := by
  obtain ⟨t, p, r⟩ := he
  refine ⟨_, p, fun Fb Hb F H ρ σ E rl k => ?_⟩
  unfold wY at k
  cases h : vEv m (w8 f) ρ with
  | none => rw [h] at k; exact k.elim
  | some d =>
    rw [h] at k
    exact (zhm r).at rl h fun F' H' v g av => k F' H' _ ((rl.grow g).set av)
theorem zfZ {i : Nat} {x : Str} {px spos : Pos} {X : Cx} {elt tg iter : Expr} {L M : List Str} {scope : Scope} {cl : List (Str × Addr)} {pos : Pos} {fi : Ev → Option (List D)} {b : D → Option (List (Option D))} {fe : Ev → Option D} {g : TG}
    (hN : X.N.Nodup) (hi' : X.N[i]? = some x) (hx : Loc X.env.scope x) (hc : X.calm = true) (S : xM X L M scope cl) (hi : ID X tg iter fi)
    (hgS : ∀ (σ : St) (v : V) (H : Hp) (Q : St → Hp → Prop), g v (List.replicate L.length none ++ σ) H Q → g v (List.replicate L.length none ++ σ) H (fun σ2 H2 => Zw (List.replicate L.length none ++ σ) σ2 ∧ Q σ2 H2))
    (hrb : RB L.length g b)
    (hg : ∀ s₀ H₀ ex pn, PG (Vw X L M scope cl s₀ H₀ ex pn) tg g) (he : ∀ s₀ H₀ ex pn, ED (Vw X L M scope cl s₀ H₀ ex pn) elt fe)
    (hs : ∀ x, foldedSetIterable iter X.env x = pure x := by intro _; rfl)
    (hsw : swapsWith (.ListComp elt [⟨tg, iter, [], 0⟩] scope pos) (some (.Name x px)) spos.line X.env = pure true := by rfl)
    (hf : X.fn x = true ∨ X.env.scope.names.lookup x = some .local := by first | exact .inl rfl | exact .inr rfl | assumption) : FLS X i (.Assign [.Name x px] (.ListComp elt [⟨tg, iter, [], 0⟩] scope pos) spos) (fLC fi b XT fe) := by
  obtain ⟨wi, pi, ri⟩ := hi
  exact ⟨_, zgC hN hi' hx hc S pi hgS hg (fun _ _ _ _ => zcV) (fun _ _ _ _ => (he _ _ _ _).can) hs hsw hf, zfV ri hrb zeN zcU⟩
noncomputable def fnD (n : Nat) (g : SE → Ctl) (ds : List D) : Option D := match g (ds.map .v ++ List.replicate (n - ds.length) .no) with
  | .rt d => some d
  | .nx _ => some .non
  | _ => none
noncomputable def spD (m : Nat) (p : List D → Option D) : Sp := fun vs H Q _ => ∃ ds d F, ds.length = m ∧ yK F H ∧ AtL F ds vs ∧ p ds = some d ∧ ∀ F' H' v, Gr F H F' H' → At F' d v → Q v H'
theorem za5 {F H : Hp} {N : List Str} {ds : List D} {vs : List V} (s : yK F H) (a : AtL F ds vs) : Rl F H F H (ds.map .v ++ List.replicate (N.length - ds.length) .no) (L2.start N vs) := by
  have hl := a.length
  have noO : ∀ (i : Nat) (t : Sl), (ds.map Sl.v ++ List.replicate (N.length - ds.length) Sl.no)[i]? = some t → t.isO = true → False := fun i t h ho => by
    by_cases hi : i < ds.length
    · rw [List.getElem?_append_left (by simpa using hi), List.getElem?_map] at h
      cases e : ds[i]? with
      | none => rw [e] at h; cases h
      | some d => rw [e] at h; cases h; cases ho
    · rw [List.getElem?_append_right (by simpa using hi), List.getElem?_replicate] at h
      split at h <;> cases h
      cases ho
  refine ⟨.refl s, fun i d h => ?_, fun i t h ho => (noO i t h ho).elim, fun i j p t u h _ ho => (noO i t h ho).elim, ?_⟩
  · by_cases hi : i < ds.length
    · rw [List.getElem?_append_left (by simpa using hi), List.getElem?_map] at h
      cases e : ds[i]? with
      | none => rw [e] at h; cases h
      | some d' =>
        rw [e] at h
        cases h
        obtain ⟨x, hx, ax⟩ := a.get e
        refine ⟨x, ?_, ax⟩
        unfold L2.start
        rw [List.getElem?_append_left (by simpa [hl] using hi), List.getElem?_map, hx]
        rfl
    · rw [List.getElem?_append_right (by simpa using hi), List.getElem?_replicate] at h
      split at h <;> cases h
  · unfold L2.start
    simp [hl]
theorem ye {P : Program} {w : World} {K : PySem.W.Frag} {mg : Str → Option Value} {base : Heap} {x qual : Str} {st : Stmt} {f : Addr} {fd : FuncData} {N ps : List Str} {k : Nat} {g : SE → Ctl} (Fu : Fun K x qual st f fd) (S : zt N ps (ze st))
    (hb : ∀ (cdv : Value) (A : Around) (outer : List Env) (s : Shared) (H : Hp) (E : XK), Yk k (A.deeper (PyProof.Rows.envOfC qual (ze st) s.heap.objs.size f cdv)) → SDs (W3 CX0 P w K mg base N qual (ze st) f cdv A outer s H E).nox (zp st) g) :
    yD P w K mg base CX0 (k + 1) f fd ps (spD ps.length (fnD N.length g)) := by
  refine Fu.ok S (fun vs H Q E h => ?_) fun cdv A outer s H vs Q E hr h => ?_
  · obtain ⟨ds, d, F, hl, _, a, _⟩ := h
    rw [a.length]; exact hl
  · obtain ⟨ds, d, F, hl, sm, a, e, q⟩ := h
    obtain ⟨t, p, r⟩ := hb cdv A outer s H E hr
    refine ⟨t, p, r F H F H _ _ _ (za5 sm a) ?_⟩
    unfold fnD at e
    cases hg : g (ds.map .v ++ List.replicate (N.length - ds.length) .no) with
    | rt d' => rw [hg] at e; cases e; exact fun F' H' v g av => q F' H' v g av
    | nx ρ => rw [hg] at e; cases e; exact fun F' H' σ rl => q F' H' _ rl.gr .non
    | bk ρ => rw [hg] at e; cases e
    | ct ρ => rw [hg] at e; cases e
    | no => rw [hg] at e; cases e
theorem zgI {P : Program} {w : World} {K : PySem.W.Frag} {mg : Str → Option Value} {base : Heap} {f : Addr} {fd : FuncData} {ps : List Str} {k m : Nat} {p q : List D → Option D} (F : yD P w K mg base CX0 k f fd ps (spD m p)) (h : ∀ ds d, ds.length = m → q ds = some d → p ds = some d) : yD P w K mg base CX0 k f fd ps (spD m q) :=
  F.imp fun vs H Q E ⟨ds, d, F', h1, h2, h3, h4, h5⟩ => ⟨ds, d, F', h1, h2, h3, h ds d h1 h4, h5⟩
noncomputable def zx (m : Nat) (p : List D → Option D) (f : Ev → Option (List D)) : Ev → Option D := fun ρ => (f ρ).bind fun ds => if ds.length = m then p ds else none
theorem zk {X : Cx} {x : Str} {k m : Nat} {f : Addr} {fd : FuncData} {ps : List Str} {p : List D → Option D} {e : Expr} {es : List Expr} {pp pos : Pos} {fa : Ev → Option (List D)} (F : yD X.prog X.w X.K X.mg X.base CX0 k f fd ps (spD m p)) (hr : Yk k X.A) (hg : Gl X x) (hm : X.mg x = some (.ref f)) (hk : PySem.W.keepIn X.K (.ref f) = true) (hb : WW X.K fd ps [])
    (ha : AD X (e :: es) fa) (hdb : (x == ("__debug__" : Str)) = false := by decide) (he : starEach (e :: es) X.env = (false, eval e X.env) :: starEach es X.env := by rfl) (hpl : (backTo pos (starEach es X.env)).any (·.1) = false := by rfl) :
    ED X (.Call (.Name x pp) (e :: es) [] pos) (zx m p fa) := by
  obtain ⟨t, pa, r⟩ := ha
  refine ⟨_, zda F hr hg hm hk hb .nil zic pa hdb he hpl, fun σ ρ F0 H d Q s va e q => ?_⟩
  obtain ⟨ds, e1, e2⟩ := Option.bind_eq_some_iff.mp e
  split at e2 <;> try cases e2
  rename_i hl
  refine r σ ρ F0 H ds _ s va e1 fun F1 H1 vs g1 a1 => ?_
  refine ⟨ds, d, F1, hl, g1.fh, by rw [List.append_nil]; exact a1, e2, fun F' H' v g av => q F' H' v (g1.trans g) av⟩
end Dl
namespace Dl
open PySem L2
variable [KK]
section
variable {X : Cx} {a b c e : Expr} {pos : Pos}
theorem zC : bootBuiltins "isinstance" = some (.builtin "isinstance") := by decide +kernel
theorem vY : bootBuiltins "len" = some (.builtin "len") := by decide +kernel
theorem zes : bootBuiltins "min" = some (.builtin "min") := by decide +kernel
theorem zho : bootBuiltins "max" = some (.builtin "max") := by decide +kernel
theorem Vf : bootBuiltins "sum" = some (.builtin "sum") := by decide +kernel
theorem zbK : bootBuiltins "all" = some (.builtin "all") := by decide +kernel
theorem za6 : bootBuiltins "int" = some (.type "int") := by decide +kernel
theorem zfT : bootBuiltins "bool" = some (.type "bool") := by decide +kernel
theorem xk : bootBuiltins "tuple" = some (.type "tuple") := by decide +kernel
theorem zcO : bootBuiltins "list" = some (.type "list") := by decide +kernel
theorem zgW : bootBuiltins "str" = some (.type "str") := by decide +kernel
theorem Vg : bootBuiltins "enumerate" = some (.type "enumerate") := by decide +kernel
theorem zav : bootBuiltins "reversed" = some (.type "reversed") := by decide +kernel
theorem zet : bootBuiltins "zip" = some (.type "zip") := by decide +kernel
noncomputable def zfW (C : Int → Int → Bool) (g : Int → Int → Int) : D → D → Option D
  | .int i, .int j => if C i j = true then some (.int (g i j)) else none
  | _, _ => none
noncomputable def V5 (g : Int → Int → Int) : D → D → Option D
  | .int i, .int j => some (.int (g i j))
  | _, _ => none
noncomputable def zgf (g : Int → Int → Bool) : D → D → Option D
  | .int i, .int j => some (.bl (g i j))
  | _, _ => none
theorem Z8 {C : Int → Int → Prop} {Cb : Int → Int → Bool} {g : Int → Int → Int} (h : ∀ i j, Cb i j = true → C i j) : OpD (rI C fun i j => .int (g i j)) (zfW Cb g) := by
  intro F H x y d e z Q s ax ay ez q
  cases d <;> try cases ez
  cases e <;> try cases ez
  unfold zfW at ez
  dsimp only at ez
  split at ez <;> cases ez
  rename_i hc
  exact ⟨_, _, ax.int_inv, ay.int_inv, h _ _ hc, q F H _ (.refl s) .int⟩
theorem XM {g : Int → Int → Int} : OpD (rI0 fun i j => .int (g i j)) (V5 g) := by
  intro F H x y d e z Q s ax ay ez q
  cases d <;> try cases ez
  cases e <;> try cases ez
  exact ⟨_, _, ax.int_inv, ay.int_inv, q F H _ (.refl s) .int⟩
theorem zH {g : Int → Int → Bool} : OpD (rI0 fun i j => .bl (g i j)) (zgf g) := by
  intro F H x y d e z Q s ax ay ez q
  cases d <;> try cases ez
  cases e <;> try cases ez
  exact ⟨_, _, ax.int_inv, ay.int_inv, q F H _ (.refl s) .bl⟩
theorem Vt {r r' : R2} {g g' : D → D → Option D} (h : OpD r g) (h' : OpD r' g') : OpD (fun x y H Q => r x y H Q ∨ r' x y H Q) (fun d e => (g d e).or (g' d e)) := by
  intro F H x y d e z Q s ax ay ez q
  dsimp only at ez
  cases hg : g d e with
  | some z' => rw [hg] at ez; cases ez; exact .inl (h F H x y d e z Q s ax ay hg q)
  | none => rw [hg] at ez; exact .inr (h' F H x y d e z Q s ax ay ez q)
noncomputable def zhi : D → D → Option D
  | .tup a, .tup b => if lim (a.length + b.length) = true then some (.tup (a ++ b)) else none
  | _, _ => none
noncomputable def zgi : D → D → Option (List D)
  | .lst a, .lst b => if lim (a.length + b.length) = true then some (a ++ b) else none
  | _, _ => none
noncomputable def zb3 (d e : D) : Option D := (zgi d e).map .lst
noncomputable def zhu : D → D → Option D
  | .str a, .str b => if lim (a.length + b.length) = true then some (.str (a ++ b)) else none
  | _, _ => none
theorem zdO {K : PySem.W.Frag} : OpD (zeB K) zhi := by
  intro F H x y d e z Q s ax ay ez q
  cases d <;> try cases ez
  cases e <;> try cases ez
  unfold zhi at ez
  dsimp only at ez
  split at ez <;> cases ez
  rename_i hl
  obtain ⟨p, xs, rfl, hx, al⟩ := ax.tup_inv
  obtain ⟨p2, ys, rfl, hy, bl⟩ := ay.tup_inv
  refine ⟨p, p2, xs, ys, rfl, rfl, SqT.of (s _ _ hx), SqT.of (s _ _ hy), by rw [al.length, bl.length]; exact of_decide_eq_true hl, fun e1 => ?_, fun _ e2 => ?_, fun _ _ r hr => ?_⟩
  · subst e1
    have : (_ : List D) = [] := List.length_eq_zero_iff.mp al.length.symm
    subst this
    exact q F H _ (.refl s) (.tup hy bl)
  · subst e2
    have : (_ : List D) = [] := List.length_eq_zero_iff.mp bl.length.symm
    subst this
    rw [List.append_nil] at q
    exact q F H _ (.refl s) (.tup hx al)
  · have g := Gr.alloc s hr (.tup (xs ++ ys))
    exact q _ _ _ g (.tup zq ((al.append bl).mono g.ff))
theorem zeg : OpD zid zb3 := by
  intro F H x y d e z Q s ax ay ez q
  cases d <;> try cases ez
  cases e <;> try cases ez
  unfold zb3 zgi at ez
  dsimp only at ez
  split at ez <;> cases ez
  rename_i hl
  obtain ⟨p, xs, rfl, hx, al⟩ := ax.lst_inv
  obtain ⟨p2, ys, rfl, hy, bl⟩ := ay.lst_inv
  refine ⟨p, p2, xs, ys, rfl, rfl, s _ _ hx, s _ _ hy, by rw [al.length, bl.length]; exact of_decide_eq_true hl, fun r hr => ?_⟩
  have g := Gr.alloc s hr (.lst (xs ++ ys))
  exact q _ _ _ g (.lst zq ((al.append bl).mono g.ff))
theorem zd9 : OpD (fun x y H Q => ∃ i j, x = .str i ∧ y = .str j ∧ i.length + j.length ≤ sizeLine ∧ Q (.str (i ++ j)) H) zhu := by
  intro F H x y d e z Q s ax ay ez q
  cases d <;> try cases ez
  cases e <;> try cases ez
  unfold zhu at ez
  dsimp only at ez
  split at ez <;> cases ez
  rename_i hl
  exact ⟨_, _, ax.str_inv, ay.str_inv, of_decide_eq_true hl, q F H _ (.refl s) .str⟩
noncomputable def vq : D → D → Option D
  | .int i, .int j => some (.int (i + j))
  | .tup a, .tup b => if lim (a.length + b.length) = true then some (.tup (a ++ b)) else none
  | .lst a, .lst b => if lim (a.length + b.length) = true then some (.lst (a ++ b)) else none
  | .str a, .str b => if lim (a.length + b.length) = true then some (.str (a ++ b)) else none
  | _, _ => none
theorem V9 {r : R2} {g g' : D → D → Option D} (h : OpD r g) (k : ∀ d e z, g' d e = some z → g d e = some z) : OpD r g' := fun F H x y d e z Q s ax ay ez q => h F H x y d e z Q s ax ay (k d e z ez) q
theorem xa {f h : Ev → Option D} (ha : ED X a f) (hb : ED X b h) : ED X (.BinOp a .Add b pos) (zo vq f h) :=
  ZW (((zhw.or zdK).or za8).or zbq) (V9 (Vt (Vt (Vt (XM (g := fun i j => i + j)) zdO) zeg) zd9) fun d e z h => by
    cases d <;> try cases h
    all_goals cases e <;> try cases h
    · rfl
    · unfold vq at h; dsimp only at h; split at h <;> cases h; rename_i hl; simp [V5, zhi, hl, zb3, zgi, zhu]
    · unfold vq at h; dsimp only at h; split at h <;> cases h; rename_i hl; simp [V5, zhi, hl, zb3, zgi, zhu]
    · unfold vq at h; dsimp only at h; split at h <;> cases h; rename_i hl; simp [V5, zhi, hl, zb3, zgi, zhu]) ha hb
theorem zdU {F H F1 H1 : Hp} {p : Addr} (g1 : Gr F H F1 H1) (hp : H1 p = none) : H p = none := by
  cases e : H p with
  | none => rfl
  | some o =>
    cases e2 : F p with
    | none => rw [(g1.kp p o e2 e).2] at hp; cases hp
    | some u => rw [g1.fh _ _ (g1.ff _ _ e2)] at hp; cases hp
noncomputable def Xh (i j : Int) : Bool := decide ((-(2 ^ 64) < i ∧ i < 2 ^ 64) ∨ (-(2 ^ 64) < j ∧ j < 2 ^ 64))
noncomputable def zil : D → D → Option (List D)
  | .lst a, .int k => if -(2 ^ 63) ≤ k ∧ k < 2 ^ 63 ∧ lim (a.length * k.toNat) = true then some (List.replicate k.toNat a).flatten else none
  | _, _ => none
noncomputable def zdD (d e : D) : Option D := (zil d e).map .lst
noncomputable def WS : D → D → Option D
  | .int i, .int j => if Xh i j = true then some (.int (i * j)) else none
  | .lst a, .int k => if -(2 ^ 63) ≤ k ∧ k < 2 ^ 63 ∧ lim (a.length * k.toNat) = true then some (.lst (List.replicate k.toNat a).flatten) else none
  | _, _ => none
theorem zeh : OpD rRep zdD := by
  intro F H x y d e z Q s ax ay ez q
  cases d <;> try cases ez
  cases e <;> try cases ez
  unfold zdD zil at ez
  dsimp only at ez
  split at ez <;> cases ez
  rename_i hl
  obtain ⟨p, xs, rfl, hx, al⟩ := ax.lst_inv
  refine ⟨p, _, xs, rfl, ay.int_inv, s _ _ hx, hl.1, hl.2.1, by rw [al.length]; exact of_decide_eq_true hl.2.2, fun r hr => ?_⟩
  rename_i ds k
  have g := Gr.alloc s hr (.lst (List.replicate k.toNat xs).flatten)
  exact q _ _ _ g (.lst zq ((al.rep _).mono g.ff))
theorem XX {f h : Ev → Option D} (ha : ED X a f) (hb : ED X b h) : ED X (.BinOp a .Mult b pos) (zo WS f h) :=
  ZW (zgk.or zg4) (V9 (Vt (Z8 (Cb := Xh) (g := fun i j => i * j) fun i j h => by have h' := of_decide_eq_true (show decide ((-(2 ^ 64) < i ∧ i < 2 ^ 64) ∨ (-(2 ^ 64) < j ∧ j < 2 ^ 64)) = true from h); exact h') zeh) fun d e z h => by
    cases d <;> try cases h
    all_goals cases e <;> try cases h
    · unfold WS at h; dsimp only at h; split at h <;> cases h; rename_i hl; simp [zfW, hl]
    · unfold WS at h; dsimp only at h; split at h <;> cases h; rename_i hl; show (zdD _ _) = _; unfold zdD zil; dsimp only; rw [if_pos hl]; rfl) ha hb
noncomputable def V2 := V5 fun i j => i - j
noncomputable def zaj := zfW (fun _ j => decide (0 < j ∧ j < 1606938044258990275541962092341162602522202993782792835301376)) fun i j => i / j
noncomputable def ZT := zfW (fun _ j => decide (0 < j)) fun i j => i % j
noncomputable def zh4 (i j : Int) : Bool := decide (0 ≤ j ∧ j ≤ 1000000 ∧ i.natAbs < 2 ^ 64)
noncomputable def zhH := zfW zh4 fun i j => i ^ j.toNat
noncomputable def ziy := V5 fun i j => Builtin.bitXor i j
theorem vO {f h : Ev → Option D} (ha : ED X a f) (hb : ED X b h) : ED X (.BinOp a .Sub b pos) (zo V2 f h) := ZW zgG XM ha hb
theorem zdn : OpR X (binaryOp .FloorDiv) (rI (fun _ j => 0 < j ∧ j < 1606938044258990275541962092341162602522202993782792835301376) fun i j => .int (i / j)) := opI fun i j _ _ _ _ _ hc q => by
  have h1 : (0 : Int) < j := hc.1
  have h2 : j < 1606938044258990275541962092341162602522202993782792835301376 := hc.2
  refine PyProof.Rows.floordiv_int (by omega) (by rw [Int.fdiv_eq_ediv_of_nonneg i (by omega)]; exact q) (.inl (PyProof.noPylong_of_log2 ?_))
  have h0 : j.natAbs ≠ 0 := by omega
  have h3 : j.natAbs < 1606938044258990275541962092341162602522202993782792835301376 := by omega
  have h4 : j.natAbs.log2 < 200 := (Nat.log2_lt h0).mpr h3
  omega
theorem zaC {f h : Ev → Option D} (ha : ED X a f) (hb : ED X b h) : ED X (.BinOp a .FloorDiv b pos) (zo zaj f h) := ZW zdn (Z8 fun _ _ h => by have h' := of_decide_eq_true h; exact h') ha hb
theorem wE {f h : Ev → Option D} (ha : ED X a f) (hb : ED X b h) : ED X (.BinOp a .Mod b pos) (zo ZT f h) := ZW zhy (Z8 fun _ _ h => by have h' := of_decide_eq_true h; exact h') ha hb
theorem zeE {f h : Ev → Option D} (ha : ED X a f) (hb : ED X b h) : ED X (.BinOp a .Pow b pos) (zo zhH f h) := ZW zgB (Z8 fun _ _ h => by have h' := of_decide_eq_true h; exact h') ha hb
theorem zeA {f h : Ev → Option D} (ha : ED X a f) (hb : ED X b h) : ED X (.BinOp a .BitXor b pos) (zo ziy f h) := ZW zg1 XM ha hb
noncomputable def ltD := zgf fun i j => decide (i < j)
noncomputable def leD := zgf fun i j => decide (i ≤ j)
noncomputable def gtD := zgf fun i j => decide (j < i)
noncomputable def geD := zgf fun i j => decide (j ≤ i)
noncomputable def eqS : D → D → Option Bool
  | .non, .non => some true
  | .int i, .int j => some (decide (i = j))
  | .bl i, .bl j => some (decide (i = j))
  | .str i, .str j => some (decide (i = j))
  | .non, .int _ => some false | .int _, .non => some false | .non, .bl _ => some false | .bl _, .non => some false | .non, .str _ => some false | .str _, .non => some false
  | .int _, .str _ => some false | .str _, .int _ => some false | .bl _, .str _ => some false | .str _, .bl _ => some false
  | _, _ => none
noncomputable def eqD (d e : D) : Option D := (eqS d e).map .bl
noncomputable def neD (d e : D) : Option D := (eqS d e).map fun c => .bl (!c)
theorem zeV : OpD rEq eqD := by
  intro F H x y d e z Q s ax ay ez q
  obtain ⟨c, e1, rfl⟩ := Option.map_eq_some_iff.mp ez
  cases d <;> cases e <;> try cases e1
  · cases ax.non_inv; cases ay.non_inv; exact ⟨rfl, q F H _ (.refl s) .bl⟩
  · cases ax.non_inv; cases ay.bl_inv; exact ⟨rfl, q F H _ (.refl s) .bl⟩
  · cases ax.non_inv; cases ay.int_inv; exact ⟨rfl, q F H _ (.refl s) .bl⟩
  · cases ax.non_inv; cases ay.str_inv; exact ⟨rfl, q F H _ (.refl s) .bl⟩
  · cases ax.bl_inv; cases ay.non_inv; exact ⟨rfl, q F H _ (.refl s) .bl⟩
  · cases ax.bl_inv; cases ay.bl_inv; refine ⟨rfl, ?_⟩; rw [show ∀ i j : Bool, decide (V.bl i = V.bl j) = decide (i = j) from fun i j => by simp]; exact q F H _ (.refl s) .bl
  · cases ax.bl_inv; cases ay.str_inv; exact ⟨rfl, q F H _ (.refl s) .bl⟩
  · cases ax.int_inv; cases ay.non_inv; exact ⟨rfl, q F H _ (.refl s) .bl⟩
  · cases ax.int_inv; cases ay.int_inv; refine ⟨rfl, ?_⟩; rw [show ∀ i j : Int, decide (V.int i = V.int j) = decide (i = j) from fun i j => by simp]; exact q F H _ (.refl s) .bl
  · cases ax.int_inv; cases ay.str_inv; exact ⟨rfl, q F H _ (.refl s) .bl⟩
  · cases ax.str_inv; cases ay.non_inv; exact ⟨rfl, q F H _ (.refl s) .bl⟩
  · cases ax.str_inv; cases ay.bl_inv; exact ⟨rfl, q F H _ (.refl s) .bl⟩
  · cases ax.str_inv; cases ay.int_inv; exact ⟨rfl, q F H _ (.refl s) .bl⟩
  · cases ax.str_inv; cases ay.str_inv; refine ⟨rfl, ?_⟩; rw [show ∀ i j : Str, decide (V.str i = V.str j) = decide (i = j) from fun i j => by simp]; exact q F H _ (.refl s) .bl
theorem Ye : OpD rNe neD := by
  intro F H x y d e z Q s ax ay ez q
  obtain ⟨c, e1, rfl⟩ := Option.map_eq_some_iff.mp ez
  have := zeV F H x y d e (.bl c) (fun v H' => ∃ b, v = .bl b ∧ Q (.bl (!b)) H') s ax ay (by unfold eqD; rw [e1]; rfl) fun F' H' v g av => ⟨c, av.bl_inv, q F' H' _ g .bl⟩
  obtain ⟨h1, b, h2, h3⟩ := this
  cases h2
  exact ⟨h1, h3⟩
noncomputable def isND : D → D → Option D
  | d, .non => some (.bl (match d with | .non => true | _ => false))
  | .bl a, .bl b => some (.bl (a == b))
  | _, _ => none
noncomputable def ZA : D → D → Option D
  | d, .non => some (.bl (match d with | .non => false | _ => true))
  | .bl a, .bl b => some (.bl (!(a == b)))
  | _, _ => none
theorem ze4 {F : Hp} {d : D} {x : V} (h : At F d x) : decide (x = V.non) = (match d with | .non => true | _ => false) := by
  cases d with
  | non => cases h.non_inv; rfl
  | bl b => cases h.bl_inv; rfl
  | int b => cases h.int_inv; rfl
  | str b => cases h.str_inv; rfl
  | tup ds => obtain ⟨a, xs, rfl, _⟩ := h.tup_inv; rfl
  | lst ds => obtain ⟨a, xs, rfl, _⟩ := h.lst_inv; rfl
  | scr ds => obtain ⟨a, rfl, _⟩ := h.scr_inv; rfl
  | dct z t ks vs => obtain ⟨a, xs, rfl, _⟩ := h.dct_inv; rfl
theorem Zs : OpD (fun x y H Q => (y = .non ∧ Q (.bl (!decide (x = .non))) H) ∨ ∃ i j, x = .bl i ∧ y = .bl j ∧ Q (.bl (!(i == j))) H) ZA := by
  intro F H x y d e z Q s ax ay ez q
  unfold ZA at ez
  split at ez
  · cases ez
    refine .inl ⟨ay.non_inv, ?_⟩
    rw [ze4 ax]
    have := q F H _ (.refl s) .bl
    cases d <;> exact this
  · cases ez
    exact .inr ⟨_, _, ax.bl_inv, ay.bl_inv, q F H _ (.refl s) .bl⟩
  · cases ez
theorem XJ : OpR X (compareOp .IsNot) (fun x y H Q => (y = .non ∧ Q (.bl (!decide (x = .non))) H) ∨ ∃ i j, x = .bl i ∧ y = .bl j ∧ Q (.bl (!(i == j))) H) := zfR.or V6
noncomputable def zba (g g' : D → D → Option D) (f h k : Ev → Option D) : Ev → Option D := fun ρ => (f ρ).bind fun x => (h ρ).bind fun y => ((g x y).bind asB).bind fun c => if c = true then (k ρ).bind fun z => g' y z else some (.bl false)
theorem zdp {r r' : R2} {g g' : D → D → Option D} {ta tb tc : TE} {f h k : Ev → Option D} (hg : OpD r g) (hg' : OpD r' g') (ra : RE ta f) (rb : RE tb h) (rc : RE tc k) : RE (zcW r r' ta tb tc) (zba g g' f h k) := by
  intro σ ρ F H z Q s va e q
  obtain ⟨x, e1, e⟩ := Option.bind_eq_some_iff.mp e
  obtain ⟨y, e2, e⟩ := Option.bind_eq_some_iff.mp e
  obtain ⟨c, e3, e⟩ := Option.bind_eq_some_iff.mp e
  obtain ⟨cd, e3, e4⟩ := Option.bind_eq_some_iff.mp e3
  cases YW e4
  refine ra σ ρ F H x _ s va e1 fun F1 H1 v g1 a1 => ?_
  refine rb σ ρ F1 H1 y _ g1.fh (va.mono g1.ff) e2 fun F2 H2 u g2 a2 => ?_
  refine hg F2 H2 v u x y _ _ g2.fh (a1.mono g2.ff) a2 e3 fun F3 H3 w g3 a3 => ⟨c, a3.bl_inv, ?_⟩
  have g123 := (g1.trans g2).trans g3
  cases c with
  | true =>
    rw [if_pos rfl] at e ⊢
    obtain ⟨z', e5, e6⟩ := Option.bind_eq_some_iff.mp e
    refine rc σ ρ F3 H3 z' _ g3.fh (va.mono g123.ff) e5 fun F4 H4 w4 g4 a4 => ?_
    exact hg' F4 H4 u w4 y z' z Q g4.fh (a2.mono (g3.ff.trans g4.ff)) a4 e6 fun F5 H5 w5 g5 a5 => q F5 H5 w5 ((g123.trans g4).trans g5) a5
  | false =>
    rw [if_neg Bool.false_ne_true] at e ⊢
    cases e
    exact q F3 H3 _ g123 .bl
theorem zd4 {op op' : CmpOp} {r r' : R2} {g g' : D → D → Option D} {f h k : Ev → Option D} (ho : OpR X (compareOp op) r) (ho' : OpR X (compareOp op') r') (hg : OpD r g) (hg' : OpD r' g') (ha : ED X a f) (hb : ED X b h) (hc : ED X c k)
    (pch : ∀ {ta tb tc : TE}, PE X a ta → PE X b tb → PE X c tc → PE X (.Compare a [op, op'] [b, c] pos) (zcW r r' ta tb tc)) : ED X (.Compare a [op, op'] [b, c] pos) (zba g g' f h k) :=
  let ⟨_, pa, ra⟩ := ha
  let ⟨_, pb, rb⟩ := hb
  let ⟨_, pc, rc⟩ := hc
  ⟨_, pch pa pb pc, zdp hg hg' ra rb rc⟩
noncomputable def za9 : List D → Option (List Int)
  | [] => some []
  | .int b :: ds => (za9 ds).map (b :: ·)
  | _ => none
omit [KK] in
theorem Xt : ∀ {ds : List D} {bs : List Int}, za9 ds = some bs → ds = bs.map .int
  | [], bs, h => by cases h; rfl
  | d :: ds, bs, h => by
    cases d <;> try cases h
    obtain ⟨cs, h1, rfl⟩ := Option.map_eq_some_iff.mp h
    rw [Xt h1]
    rfl
noncomputable def leT : D → D → Option D
  | .tup a, .tup b => (za9 a).bind fun ns => (za9 b).map fun ms => .bl (HT.lexLe ns ms)
  | _, _ => none
theorem zft {K : PySem.W.Frag} : OpD (rLeT K) leT := by
  intro F H x y d e z Q s ax ay ez q
  cases d <;> try cases ez
  cases e <;> try cases ez
  obtain ⟨ns, e1, e2⟩ := Option.bind_eq_some_iff.mp ez
  obtain ⟨ms, e3, rfl⟩ := Option.map_eq_some_iff.mp e2
  rw [Xt e1] at ax
  rw [Xt e3] at ay
  obtain ⟨p, xs, rfl, hx, al⟩ := ax.tup_inv
  obtain ⟨p2, ys, rfl, hy, bl⟩ := ay.tup_inv
  cases al.of_ints
  cases bl.of_ints
  exact ⟨p, p2, ns, ms, rfl, rfl, SqT.of (s _ _ hx), SqT.of (s _ _ hy), q F H _ (.refl s) .bl⟩
noncomputable def ixD : D → D → Option D
  | .lst ds, .int i => atI ds i
  | .tup ds, .int i => atI ds i
  | .scr ns, .int i => (atI ns i).map .int
  | _, _ => none
theorem AtL.atI {F : Hp} {ds : List D} {xs : List V} {i : Int} {d : D} (al : AtL F ds xs) (h : L2.atI ds i = some d) : ∃ x, L2.atI xs i = some x ∧ At F d x := by
  unfold L2.atI at h ⊢
  obtain ⟨j, e1, e2⟩ := Option.bind_eq_some_iff.mp h
  obtain ⟨x, hx, ax⟩ := al.get e2
  exact ⟨x, by rw [al.length, e1]; exact hx, ax⟩
theorem zgP : OpD (rIx KK.K) ixD := by
  intro F H x y d e z Q s ax ay ez q
  cases e <;> try (cases d <;> cases ez)
  cases ay.int_inv
  cases d with
  | lst ds =>
    obtain ⟨p, xs, rfl, hx, al⟩ := ax.lst_inv
    obtain ⟨v, e1, av⟩ := al.atI ez
    exact .inl ⟨p, xs, _, v, rfl, rfl, SqL.of (s _ _ hx), e1, q F H _ (.refl s) av⟩
  | tup ds =>
    obtain ⟨p, xs, rfl, hx, al⟩ := ax.tup_inv
    obtain ⟨v, e1, av⟩ := al.atI ez
    exact .inr (.inl ⟨p, xs, _, v, rfl, rfl, SqT.of (s _ _ hx), e1, q F H _ (.refl s) av⟩)
  | scr ns =>
    obtain ⟨p, rfl, hx⟩ := ax.scr_inv
    obtain ⟨n, e1, rfl⟩ := Option.map_eq_some_iff.mp ez
    refine .inl ⟨p, ns.map V.int, _, .int n, rfl, rfl, s.seq hx, ?_, q F H _ (.refl s) .int⟩
    unfold L2.atI at e1 ⊢
    rw [List.length_map]
    obtain ⟨j, e2, e3⟩ := Option.bind_eq_some_iff.mp e1
    rw [e2]
    show (ns.map V.int)[j]? = _
    rw [List.getElem?_map, e3]
    rfl
  | _ => cases ez
theorem zG {f h : Ev → Option D} (ha : ED X a f) (hb : ED X b h) (hs : XR b) (hK : X.K = KK.K := by rfl) : ED X (.Subscript a b pos) (zo ixD f h) :=
  let ⟨_, pa, ra⟩ := ha
  let ⟨_, pb, rb⟩ := hb
  ⟨_, zfc zhh pa pb hs, zdV (by rw [hK]; exact zgP) ra rb⟩
noncomputable def zbJ {α : Type} (xs : List α) (lo hi : Option Int) : List α := (xs.drop (HT.sIx xs.length 0 lo)).take (HT.sIx xs.length xs.length hi - HT.sIx xs.length 0 lo)
theorem AtL.cut {F : Hp} {ds : List D} {xs : List V} {lo hi : Option Int} (al : AtL F ds xs) : AtL F (zbJ ds lo hi) (zaq xs lo hi) := by
  unfold zbJ zaq
  rw [al.length]
  exact (al.drop _).take _
noncomputable def OD (X : Cx) (e : Option Expr) (f : Ev → Option (Option Int)) : Prop := ∃ t, PO X e t ∧ ∀ (σ : St) (ρ : Ev) (F H : Hp) (i : Option Int) (Q : Option Int → Hp → Prop), yK F H → VAt F ρ σ → f ρ = some i → (∀ F' H', Gr F H F' H' → Q i H') → t σ H Q
noncomputable def Xw : Ev → Option (Option Int) := fun _ => some none
noncomputable def asI : D → Option Int
  | .int i => some i
  | _ => none
noncomputable def Yo (f : Ev → Option D) : Ev → Option (Option Int) := fun ρ => ((f ρ).bind asI).map some
theorem XO : OD X none Xw := ⟨_, zfq, fun _ _ _ _ _ _ s _ e q => by cases e; exact q _ _ (.refl s)⟩
theorem YU {f : Ev → Option D} (h : ED X e f) : OD X (some e) (Yo f) := by
  obtain ⟨t, p, r⟩ := h
  refine ⟨_, zfx p, fun σ ρ F H i Q s va e q => ?_⟩
  obtain ⟨j, e1, rfl⟩ := Option.map_eq_some_iff.mp e
  obtain ⟨d, e1, e2⟩ := Option.bind_eq_some_iff.mp e1
  cases d <;> cases e2
  exact r σ ρ F H _ _ s va e1 fun F1 H1 v g1 a1 => ⟨_, a1.int_inv, q F1 H1 g1⟩
noncomputable def slD : D → Option Int → Option Int → Option D
  | .lst ds, lo, hi => some (.lst (zbJ ds lo hi))
  | .scr ns, lo, hi => some (.lst ((zbJ ns lo hi).map .int))
  | .tup ds, lo, hi => some (.tup (zbJ ds lo hi))
  | _, _, _ => none
noncomputable def eSl (g : D → Option Int → Option Int → Option D) (f : Ev → Option D) (l h : Ev → Option (Option Int)) : Ev → Option D := fun ρ => (f ρ).bind fun d => (l ρ).bind fun lo => (h ρ).bind fun hi => g d lo hi
omit [KK] in
theorem zd8 {ns : List Int} {lo hi : Option Int} : zaq (ns.map V.int) lo hi = (zbJ ns lo hi).map V.int := by
  unfold zaq zbJ
  rw [List.length_map, List.map_take, List.map_drop]
end
end Dl
namespace L2
open PySem PySem.Spec PyProof.Rows
noncomputable def rSlN : V → Option Int → Option Int → Hp → VK → Prop := fun x lo hi H Q => ∃ a xs, x = .ref a ∧ H a = some (.tup xs) ∧ (zaq xs lo hi = xs → Q (.ref a) H) ∧ ∀ p, H p = none → Q (.ref p) (upd H p (.tup (zaq xs lo hi)))
theorem zfE {X : Cx} : SlR X rSlN := by
  intro pins s σ H x v vl vu lo hi sl Q I rx hs pl pu h
  obtain ⟨a, xs, rfl, hx, q1, q2⟩ := h
  by_cases hw : HT.sIx xs.length 0 lo = 0 ∧ HT.sIx xs.length xs.length hi = xs.length
  · cases rx
    obtain ⟨its, r, ht, hz⟩ := I.tuple (SqT.of hx)
    have hlen : its.toArray.size = xs.length := by rw [List.size_toArray]; exact r.length.symm
    refine ⟨"tuple", _, PyProof.Rows.slot_tuple_getitem.lookup, ht.typeIs, ?_⟩
    refine HT.own_getItem_whole ht hs pl pu (by rw [hlen]; exact hw) ⟨.ref a, H, I, rfl, q1 ?_⟩
    unfold zaq
    rw [hw.1, hw.2, List.drop_zero, Nat.sub_zero, List.take_length]
  · exact zgp pins s σ H (.ref a) v vl vu lo hi sl Q I rx hs pl pu ⟨a, xs, rfl, SqT.of hx, hw, q2⟩
end L2
namespace Dl
open PySem L2
variable [KK]
section
variable {X : Cx} {a b c e : Expr} {pos : Pos}
theorem Yj {lo hi : Option Expr} {p2 : Pos} {f : Ev → Option D} {l h : Ev → Option (Option Int)} (ha : ED X a f) (hl : OD X lo l) (hh : OD X hi h) (hK : X.K = KK.K := by rfl) : ED X (.Subscript a (.Slice lo hi none p2) pos) (eSl slD f l h) := by
  obtain ⟨ta, pa, ra⟩ := ha
  obtain ⟨tl, ppl, rl⟩ := hl
  obtain ⟨th, ph, rh⟩ := hh
  refine ⟨_, zei (zff.or zfE) pa ppl ph, fun σ ρ F H z Q s va e q => ?_⟩
  obtain ⟨d, e1, e⟩ := Option.bind_eq_some_iff.mp e
  obtain ⟨i, e2, e⟩ := Option.bind_eq_some_iff.mp e
  obtain ⟨j, e3, e⟩ := Option.bind_eq_some_iff.mp e
  refine ra σ ρ F H d _ s va e1 fun F1 H1 v g1 a1 => ?_
  refine rl σ ρ F1 H1 i _ g1.fh (va.mono g1.ff) e2 fun F2 H2 g2 => ?_
  refine rh σ ρ F2 H2 j _ g2.fh (va.mono (g1.ff.trans g2.ff)) e3 fun F3 H3 g3 => ?_
  have g123 := (g1.trans g2).trans g3
  have a3 := a1.mono (g2.ff.trans g3.ff)
  cases d <;> try cases e
  · obtain ⟨p, xs, rfl, hx, al⟩ := a3.tup_inv
    refine .inr ⟨p, xs, rfl, g3.fh _ _ hx, fun ec => ?_, fun r hr => ?_⟩
    · have := al.cut (lo := i) (hi := j)
      rw [ec] at this
      exact q F3 H3 _ g123 (.tup hx this)
    · have g := Gr.alloc g3.fh hr (.tup (zaq xs i j))
      exact q _ _ _ (g123.trans g) (.tup zq (al.cut.mono g.ff))
  · obtain ⟨p, xs, rfl, hx, al⟩ := a3.lst_inv
    refine .inl ⟨p, xs, rfl, SqL.of (g3.fh _ _ hx), fun r hr => ?_⟩
    have g := Gr.alloc g3.fh hr (.lst (zaq xs i j))
    exact q _ _ _ (g123.trans g) (.lst zq (al.cut.mono g.ff))
  · rename_i ns _ _
    obtain ⟨p, rfl, hx⟩ := a3.scr_inv
    refine .inl ⟨p, _, rfl, (by rw [hK]; exact g3.fh.seq hx), fun r hr => ?_⟩
    rw [zd8]
    have g := Gr.alloc g3.fh hr (.lst ((zbJ ns i j).map V.int))
    exact q _ _ _ (g123.trans g) (.lst zq (.ints _))
noncomputable def CaD (r : List V → Hp → VK → Prop) (g : List D → Option D) : Prop := ∀ (F H : Hp) (vs : List V) (ds : List D) (z : D) (Q : VK), yK F H → AtL F ds vs → g ds = some z → (∀ F' H' v, Gr F H F' H' → At F' z v → Q v H') → r vs H Q
noncomputable def eFn (g : List D → Option D) (f : Ev → Option (List D)) : Ev → Option D := fun ρ => (f ρ).bind g
noncomputable def fFn (g : List D → Option (List D)) (f : Ev → Option (List D)) : Ev → Option (List D) := fun ρ => (f ρ).bind g
theorem zK {x : Str} {id : String} {p : Pos} {es : List Expr} {r : List V → Hp → VK → Prop} {g : List D → Option D} {f : Ev → Option (List D)} (hc : YS X (.builtin id) r) (hg : CaD r g) (hgl : Gl X x) (hm : X.mg x = none) (hv : bootBuiltins x = some (.builtin id)) (ha : AD X (e :: es) f)
    (hn : x ≠ "__name__" := by decide) (hdb : (x == ("__debug__" : Str)) = false := by decide) (he : starEach (e :: es) X.env = (false, eval e X.env) :: starEach es X.env := by rfl) (hpl : (backTo pos (starEach es X.env)).any (·.1) = false := by rfl) :
    ED X (.Call (.Name x p) (e :: es) [] pos) (eFn g f) := by
  obtain ⟨t, pa, ra⟩ := ha
  refine ⟨_, yp hc hgl hm hv pa hn hdb he hpl, fun σ ρ F H z Q s va e q => ?_⟩
  obtain ⟨ds, e1, e2⟩ := Option.bind_eq_some_iff.mp e
  refine ra σ ρ F H ds _ s va e1 fun F1 H1 vs g1 a1 => ?_
  exact hg F1 H1 vs ds z Q g1.fh a1 e2 fun F' H' v g av => q F' H' v (g1.trans g) av
theorem xZ {x : Str} {T : String} {p : Pos} {es : List Expr} {r : List V → Hp → VK → Prop} {g : List D → Option D} {f : Ev → Option (List D)} (hc : YS X (.type T) r) (hg : CaD r g) (hgl : Gl X x) (hm : X.mg x = none) (hv : bootBuiltins x = some (.type T)) (ha : AD X (e :: es) f)
    (hn : x ≠ "__name__" := by decide) (hdb : (x == ("__debug__" : Str)) = false := by decide) (he : starEach (e :: es) X.env = (false, eval e X.env) :: starEach es X.env := by rfl) (hpl : (backTo pos (starEach es X.env)).any (·.1) = false := by rfl) :
    ED X (.Call (.Name x p) (e :: es) [] pos) (eFn g f) := by
  obtain ⟨t, pa, ra⟩ := ha
  refine ⟨_, Vo hc hgl hm hv pa hn hdb he hpl, fun σ ρ F H z Q s va e q => ?_⟩
  obtain ⟨ds, e1, e2⟩ := Option.bind_eq_some_iff.mp e
  refine ra σ ρ F H ds _ s va e1 fun F1 H1 vs g1 a1 => ?_
  exact hg F1 H1 vs ds z Q g1.fh a1 e2 fun F' H' v g av => q F' H' v (g1.trans g) av
noncomputable def za4 : List D → Option D
  | [.lst ds] => some (.int ds.length)
  | [.tup ds] => some (.int ds.length)
  | [.scr ds] => some (.int ds.length)
  | _ => none
theorem wu : CaD (fun xs H Q => ∃ p ys, xs = [.ref p] ∧ (SqL KK.K H p ys ∨ SqT KK.K H p ys) ∧ Q (.int ys.length) H) za4 := by
  intro F H vs ds z Q s al e q
  unfold za4 at e
  split at e <;> cases e
  all_goals
    obtain ⟨x, r, rfl, ax, ar⟩ := al.cons_inv
    cases ar.nil_inv
  · obtain ⟨p, xs, rfl, hx, bl⟩ := ax.lst_inv
    exact ⟨p, xs, rfl, .inl (SqL.of (s _ _ hx)), by rw [bl.length]; exact q F H _ (.refl s) .int⟩
  · obtain ⟨p, xs, rfl, hx, bl⟩ := ax.tup_inv
    exact ⟨p, xs, rfl, .inr (SqT.of (s _ _ hx)), by rw [bl.length]; exact q F H _ (.refl s) .int⟩
  · obtain ⟨p, rfl, hx⟩ := ax.scr_inv
    exact ⟨p, _, rfl, .inl ((s.seq hx)), by rw [List.length_map]; exact q F H _ (.refl s) .int⟩
noncomputable def zgh : List D → Option D
  | [.int i, .int j] => some (.int (if j > i then j else i))
  | _ => none
noncomputable def zfm : List D → Option D
  | [.int i, .int j] => some (.int (if j < i then j else i))
  | _ => none
theorem zbf {g : Int → Int → Int} : CaD (fun xs H Q => ∃ i j, xs = [.int i, .int j] ∧ Q (.int (g i j)) H) (fun ds => match ds with | [.int i, .int j] => some (.int (g i j)) | _ => none) := by
  intro F H vs ds z Q s al e q
  dsimp only at e
  split at e <;> cases e
  obtain ⟨x, r, rfl, ax, ar⟩ := al.cons_inv
  obtain ⟨y, r, rfl, ay, ar⟩ := ar.cons_inv
  cases ar.nil_inv
  exact ⟨_, _, by rw [ax.int_inv, ay.int_inv], q F H _ (.refl s) .int⟩
theorem zdu : CaD (fun xs H Q => ∃ i j, xs = [.int i, .int j] ∧ Q (.int (if j > i then j else i)) H) zgh := zbf (g := fun i j => if j > i then j else i)
theorem zaU : CaD (fun xs H Q => ∃ i j, xs = [.int i, .int j] ∧ Q (.int (if j < i then j else i)) H) zfm := zbf (g := fun i j => if j < i then j else i)
noncomputable def ZH : List D → Option D
  | [.lst ds] => some (.tup ds)
  | [.tup ds] => some (.tup ds)
  | _ => none
theorem vZ {K : PySem.W.Frag} : CaD (fun xs H Q => ∃ p ys, xs = [.ref p] ∧ ((SqL K H p ys ∧ ∀ l, H l = none → Q (.ref l) (upd H l (.tup ys))) ∨ (SqT K H p ys ∧ Q (.ref p) H))) ZH := by
  intro F H vs ds z Q s al e q
  unfold ZH at e
  split at e <;> cases e
  all_goals
    obtain ⟨x, r, rfl, ax, ar⟩ := al.cons_inv
    cases ar.nil_inv
  · obtain ⟨p, xs, rfl, hx, bl⟩ := ax.lst_inv
    refine ⟨p, xs, rfl, .inl ⟨SqL.of (s _ _ hx), fun l hl => ?_⟩⟩
    have g := Gr.alloc s hl (.tup xs)
    exact q _ _ _ g (.tup zq (bl.mono g.ff))
  · obtain ⟨p, xs, rfl, hx, bl⟩ := ax.tup_inv
    exact ⟨p, xs, rfl, .inr ⟨SqT.of (s _ _ hx), q F H _ (.refl s) (.tup hx bl)⟩⟩
noncomputable def zbB : List D → Option (List D)
  | [.lst ds] => some ds
  | [.tup ds] => some ds
  | [.scr ns] => some (ns.map .int)
  | _ => none
theorem zcY {p : Pos} {f : Ev → Option (List D)} (hgl : Gl X "list") (hm : X.mg "list" = none) (ha : AD X [e] f) (hK : X.K = KK.K := by rfl)
    (he : starEach [e] X.env = (false, eval e X.env) :: starEach [] X.env := by rfl) (hpl : (backTo pos (starEach [] X.env)).any (·.1) = false := by rfl) : FL X (.Call (.Name "list" p) [e] [] pos) (fFn zbB f) := by
  obtain ⟨t, pa, ra⟩ := ha
  refine ⟨_, Vo Vy hgl hm zcO pa (by decide) (by decide) he hpl, fun σ ρ F H z Q s va e q => ?_⟩
  obtain ⟨ds, e1, e2⟩ := Option.bind_eq_some_iff.mp e
  refine ra σ ρ F H ds _ s va e1 fun F1 H1 vs g1 a1 => ?_
  unfold zbB at e2
  split at e2 <;> cases e2
  all_goals
    obtain ⟨x, r, rfl, ax, ar⟩ := a1.cons_inv
    cases ar.nil_inv
  · obtain ⟨p, xs, rfl, hx, bl⟩ := ax.lst_inv
    exact ⟨p, xs, rfl, .inl (SqL.of (g1.fh _ _ hx)), fun l hl => q _ _ _ _ (g1.trans (Gr.hide g1.fh hl _)) (zdU g1 hl) (g1.fh.free hl) zq bl⟩
  · obtain ⟨p, xs, rfl, hx, bl⟩ := ax.tup_inv
    exact ⟨p, xs, rfl, .inr (SqT.of (g1.fh _ _ hx)), fun l hl => q _ _ _ _ (g1.trans (Gr.hide g1.fh hl _)) (zdU g1 hl) (g1.fh.free hl) zq bl⟩
  · obtain ⟨p, rfl, hx⟩ := ax.scr_inv
    exact ⟨p, _, rfl, .inl (by rw [hK]; exact g1.fh.seq hx), fun l hl => q _ _ _ _ (g1.trans (Gr.hide g1.fh hl _)) (zdU g1 hl) (g1.fh.free hl) zq (.ints _)⟩
inductive TyD (K : PySem.W.Frag) (H : Hp) : V → Value → Prop where
  | of {v : V} {t : Value} (h : zaR K H v t) : TyD K H v t
  | dd {a : Addr} {u : HO} (h : Rd H a u) (d : (∃ kvs, u = .dK kvs) ∨ ∃ kvs, u = .dT kvs) : TyD K H (.ref a) (.type "dict")
theorem VW {X : Cx} : YS X (.builtin "isinstance") (fun xs H Q => ∃ x n t b, xs = [x, .ty n] ∧ TyD X.K H x t ∧ PySem.W.kitOne X.K t (.type n) = some b ∧ Q (.bl b) H) := by
  intro pins s σ H xs us Q I r h
  obtain ⟨x, n, t, b, rfl, ty, e, q⟩ := h
  cases ty with
  | of ty => exact zat pins s σ H _ us Q I r ⟨x, n, t, b, rfl, ty, e, q⟩
  | @dd a u h d =>
    cases r with
    | cons r1 r2 =>
      cases r2 with
      | cons r3 r4 =>
        cases r4
        cases r1
        cases r3
        have ok := h.ok I.hok
        rcases d with ⟨kvs, rfl⟩ | ⟨kvs, rfl⟩
        · obtain ⟨_, _, vs, _, p⟩ := (show yV X.prog X.w H s.heap a (.dK kvs) from ok)
          obtain ⟨o, es, ep, h1, h2, _⟩ := p
          exact PySem.W.kia_one PySem.W.kitx_dict I.kIn ⟨o, h1, h2.1⟩ e (fun z => nomatch z) fun tk => ⟨.bl b, H, I.tok tk, rfl, q⟩
        · obtain ⟨_, _, xs, _, o, es, ep, h1, h2, _⟩ := (show yV X.prog X.w H s.heap a (.dT kvs) from ok)
          exact PySem.W.kia_one PySem.W.kitx_dict I.kIn ⟨o, h1, h2.1⟩ e (fun z => nomatch z) fun tk => ⟨.bl b, H, I.tok tk, rfl, q⟩
theorem At.ty {K : PySem.W.Frag} {F H : Hp} (s : yK F H) : ∀ {d : D} {v : V}, At F d v → (∀ ns, d ≠ .scr ns) → TyD K H v (.type (tyN d))
  | .non, _, h, _ => by cases h.non_inv; exact .of .non
  | .bl b, _, h, _ => by cases h.bl_inv; exact .of (.bl b)
  | .int i, _, h, _ => by cases h.int_inv; exact .of (.int i)
  | .str x, _, h, _ => by cases h.str_inv; exact .of (.str x)
  | .tup ds, _, h, _ => by obtain ⟨a, xs, rfl, e, _⟩ := h.tup_inv; exact .of (.tup (s _ _ e))
  | .lst ds, _, h, _ => by obtain ⟨a, xs, rfl, e, _⟩ := h.lst_inv; exact .of (.lst (s _ _ e))
  | .scr ns, _, _, n => absurd rfl (n ns)
  | .dct z t ks vs, _, h, _ => by
    obtain ⟨a, xs, rfl, d, _⟩ := h.dct_inv
    obtain ⟨u, e1, e2⟩ := (d.mono s).rd
    exact .dd e2 (by
      unfold zaJ at e1
      split at e1
      · obtain ⟨kvs, rfl, _⟩ := e1; exact .inr ⟨kvs, rfl⟩
      · obtain ⟨kvs, rfl, _⟩ := e1; exact .inl ⟨kvs, rfl⟩)
inductive Ty where
  | int | bool | tuple | list | str
noncomputable def Ty.nm : Ty → String
  | .int => "int" | .bool => "bool" | .tuple => "tuple" | .list => "list" | .str => "str"
noncomputable def isT : Ty → D → Bool
  | .int, .int _ => true | .int, .bl _ => true
  | .bool, .bl _ => true
  | .tuple, .tup _ => true
  | .list, .lst _ => true
  | .str, .str _ => true
  | _, _ => false
noncomputable def Z0 (n : Ty) : D → Option D
  | .scr _ => none
  | d => some (.bl (isT n d))
theorem zhk (K : PySem.W.Frag) (n : Ty) (d : D) (h : ∀ ns, d ≠ .scr ns) : PySem.W.kitOne K (.type (tyN d)) (.type n.nm) = some (isT n d) := by
  cases n <;> cases d <;> first | exact absurd rfl (h _) | kernel_rfl
theorem xi {p : Pos} {f : Ev → Option D} (n : Ty) (hgl : Gl X "isinstance") (hm : X.mg "isinstance" = none) (ha : ED X a f) (hb : PE X b (tC (.ty n.nm)))
    (hs : starEach [a, b] X.env = (false, eval a X.env) :: starEach [b] X.env := by rfl) (hs2 : starEach [b] X.env = (false, eval b X.env) :: starEach [] X.env := by rfl) (hpl : (backTo pos (starEach [b] X.env)).any (·.1) = false := by rfl) :
    ED X (.Call (.Name "isinstance" p) [a, b] [] pos) (eUn (Z0 n) f) := by
  obtain ⟨t, pa, ra⟩ := ha
  refine ⟨_, yp VW hgl hm zC (zy pa (zy hb yH hs2) hs) (by decide) (by decide) hs hpl, fun σ ρ F H z Q s va e q => ?_⟩
  obtain ⟨d, e1, e2⟩ := Option.bind_eq_some_iff.mp e
  refine ra σ ρ F H d _ s va e1 fun F1 H1 v g1 a1 => ?_
  have ns : ∀ ns, d ≠ .scr ns := fun ns h => by subst h; cases e2
  have e3 : z = .bl (isT n d) := by
    cases d <;> first | exact (Option.some.inj e2).symm | exact absurd rfl (ns _)
  subst e3
  exact ⟨v, n.nm, _, _, rfl, a1.ty g1.fh ns, zhk _ n d ns, q F1 H1 _ g1 .bl⟩
noncomputable def zfN (m : Bool) (i : Nat) (f : Ev → Option D) : SE → Ctl := fun ρ => match (vEv m f ρ).bind fun d => match ρ[i]? with
    | some (.o ds) => if decide (ds.length < sizeLine) = true then some (ρ.set i (.o (ds ++ [d]))) else none
    | _ => none with
  | some ρ' => .nx ρ'
  | none => .no
theorem zbc {m : Bool} {i : Nat} {p pos' : Pos} {f : Ev → Option D} (ho : PE X a (za2 i)) (he : ED X e f)
    (hp : ∀ {ta : TE} {t : TA}, PE X a ta → PA X [e] t → PE X (.Call (.Attribute a "append" p) [e] [] pos') (tBM X.K "list" zcN ta t)) (hsw : swapsWith (.Call (.Attribute a "append" p) [e] [] pos') none pos.line X.env = pure false := by rfl)
    (hs : starEach [e] X.env = (false, eval e X.env) :: starEach [] X.env := by rfl) : SD X (.Expr (.Call (.Attribute a "append" p) [e] [] pos') pos) (zfN m i f) := by
  obtain ⟨t, pe, re⟩ := he
  refine ⟨_, WM (hp ho (zy pe yH hs)) hsw, fun Fb Hb F H ρ σ E rl k => ?_⟩
  unfold zfN at k
  cases h : (vEv m f ρ).bind fun d => match ρ[i]? with
    | some (.o ds) => if decide (ds.length < sizeLine) = true then some (ρ.set i (.o (ds ++ [d]))) else none
    | _ => none with
  | none => rw [h] at k; exact k.elim
  | some ρ' =>
    rw [h] at k
    obtain ⟨d, e1, e2⟩ := Option.bind_eq_some_iff.mp h
    cases hs : ρ[i]? with
    | none => rw [hs] at e2; cases e2
    | some sl =>
      rw [hs] at e2
      cases sl with
      | no => cases e2
      | v _ => cases e2
      | m _ _ _ => cases e2
      | o ds =>
        dsimp only at e2
        split at e2 <;> cases e2
        rename_i hl
        obtain ⟨q, xs, f1, f2, f3, f4, f5⟩ := rl.owns i ds hs
        refine ⟨_, f1, .inl ⟨rfl, xs, SqL.of f4⟩, ?_⟩
        refine re.at rl e1 fun F' H' v g av => ?_
        have rl2 := rl.grow g
        obtain ⟨q2, xs2, f1', _, _, f4', f5'⟩ := rl2.owns i ds hs
        rw [f1] at f1'
        cases f1'
        refine ⟨q, xs2, v, rfl, rfl, f4', by rw [f5'.length]; exact of_decide_eq_true hl, ?_⟩
        exact k _ _ σ (rl2.mutate hs f1 (f5'.snoc av))
noncomputable def zf6 (i : Nat) (f : Ev → Option D) : SE → Ctl := fun ρ => match (f (visF ρ)).bind fun d => match ρ[i]?, d with
    | some (.o ds), .lst es => if lim (ds.length + es.length) = true then some (ρ.set i (.o (ds ++ es))) else none
    | _, _ => none with
  | some ρ' => .nx ρ'
  | none => .no
theorem zck {i : Nat} {p pos' : Pos} {f : Ev → Option D} (ho : PE X a (za2 i)) (he : ED X e f)
    (hp : ∀ {ta : TE} {t : TA}, PE X a ta → PA X [e] t → PE X (.Call (.Attribute a "extend" p) [e] [] pos') (tBM X.K "list" zcF ta t)) (hsw : swapsWith (.Call (.Attribute a "extend" p) [e] [] pos') none pos.line X.env = pure false := by rfl)
    (hs : starEach [e] X.env = (false, eval e X.env) :: starEach [] X.env := by rfl) : SD X (.Expr (.Call (.Attribute a "extend" p) [e] [] pos') pos) (zf6 i f) := by
  obtain ⟨t, pe, re⟩ := he
  refine ⟨_, WM (hp ho (zy pe yH hs)) hsw, fun Fb Hb F H ρ σ E rl k => ?_⟩
  unfold zf6 at k
  cases h : (f (visF ρ)).bind fun d => match ρ[i]?, d with
    | some (.o ds), .lst es => if lim (ds.length + es.length) = true then some (ρ.set i (.o (ds ++ es))) else none
    | _, _ => none with
  | none => rw [h] at k; exact k.elim
  | some ρ' =>
    rw [h] at k
    obtain ⟨d, e1, e2⟩ := Option.bind_eq_some_iff.mp h
    cases hs : ρ[i]? with
    | none => rw [hs] at e2; cases e2
    | some sl =>
      rw [hs] at e2
      cases sl with
      | no => cases e2
      | v _ => cases e2
      | m _ _ _ => cases e2
      | o ds =>
        cases d with
        | lst es =>
          dsimp only at e2
          split at e2 <;> cases e2
          rename_i hl
          obtain ⟨q, xs, f1, f2, f3, f4, f5⟩ := rl.owns i ds hs
          refine ⟨_, f1, .inl ⟨rfl, xs, SqL.of f4⟩, ?_⟩
          refine re σ _ _ H _ _ rl.gr.fh rl.visF e1 fun F' H' v g av => ?_
          have rl2 := rl.grow g
          obtain ⟨q2, xs2, f1', _, _, f4', f5'⟩ := rl2.owns i ds hs
          rw [f1] at f1'
          cases f1'
          obtain ⟨pb, zs, rfl, hz, bl⟩ := av.lst_inv
          refine ⟨q, pb, xs2, zs, rfl, rfl, f4', g.fh _ _ hz, by rw [f5'.length, bl.length]; exact of_decide_eq_true hl, ?_⟩
          exact k _ _ σ (rl2.mutate hs f1 (f5'.append bl))
        | _ => cases e2
end
end Dl
namespace Dl
open PySem L2
variable [KK]
noncomputable def okE : Nat → D → Bool
  | _, .scr _ => false
  | _, .dct _ _ _ _ => false
  | 0, .tup _ => false
  | 0, .lst _ => false
  | n + 1, .tup ds => ds.all (okE n)
  | n + 1, .lst ds => ds.all (okE n)
  | _, _ => true
noncomputable def eqN : Nat → D → D → Bool
  | _, .non, .non => true
  | _, .bl a, .bl b => a == b
  | _, .bl a, .int b => (if a then 1 else 0) == b
  | _, .int a, .bl b => a == (if b then 1 else 0)
  | _, .int a, .int b => a == b
  | _, .str a, .str b => a == b
  | n + 1, .tup a, .tup b => (List.zipWith (eqN n) a b).all id && a.length == b.length
  | n + 1, .lst a, .lst b => (List.zipWith (eqN n) a b).all id && a.length == b.length
  | _, _, _ => false
omit [KK] in
theorem V8 {n : Nat} : ∀ (a b : List D), (List.zipWith (eqN n) a b).all id = (List.range (min a.length b.length)).all fun j => eqN n (a.getD j .non) (b.getD j .non) := by
  intro a b
  have : List.zipWith (eqN n) a b = (List.range (min a.length b.length)).map fun j => eqN n (a.getD j .non) (b.getD j .non) := by
    apply List.ext_getElem
    · simp
    · intro i h1 h2
      simp at h1 h2
      have g1 : i < a.length := Nat.lt_of_lt_of_le h1 (Nat.min_le_left _ _)
      have g2 : i < b.length := Nat.lt_of_lt_of_le h1 (Nat.min_le_right _ _)
      simp [g1, g2]
  rw [this, List.all_map]
  rfl
omit [KK] in
noncomputable def vOf : D → V
  | .bl b => .bl b
  | .int i => .int i
  | .str t => .str t
  | _ => .non
theorem x9 {F : Hp} {d : D} {x : V} (h : okE 0 d = true) (a : At F d x) : x = vOf d := by
  cases d with
  | non => exact a.non_inv
  | bl b => exact a.bl_inv
  | int b => exact a.int_inv
  | str b => exact a.str_inv
  | _ => cases h
omit [KK] in
theorem Z6 {d : D} (h : okE 0 d = true) : zfX (vOf d) = true := by
  cases d <;> first | rfl | cases h
omit [KK] in
theorem WR {d : D} {p : Addr} (h : okE 0 d = true) (e : vOf d = .ref p) : False := by
  cases d <;> first | (cases h; done) | (cases e; done)
noncomputable def dOfV : V → D
  | .bl b => .bl b
  | .int i => .int i
  | .str t => .str t
  | _ => .non
omit [KK] in
theorem zc2 {d : D} (h : okE 0 d = true) : dOfV (vOf d) = d := by
  cases d <;> first | rfl | (cases h; done)
omit [KK] in
theorem zcw {d e : D} (h1 : okE 0 d = true) (h2 : okE 0 e = true) (h : vOf d = vOf e) : d = e := by
  rw [← zc2 h1, h, zc2 h2]
omit [KK] in
theorem xY {n : Nat} {d : D} (h : okE (n + 1) d = true) : okE 0 d = true ∨ (∃ ds, d = .tup ds ∧ ds.all (okE n) = true) ∨ ∃ ds, d = .lst ds ∧ ds.all (okE n) = true := by
  cases d with
  | tup ds => exact .inr (.inl ⟨ds, rfl, h⟩)
  | lst ds => exact .inr (.inr ⟨ds, rfl, h⟩)
  | scr _ => cases h
  | dct _ _ _ _ => cases h
  | _ => exact .inl rfl
theorem zcp {F : Hp} {n : Nat} (ih : ∀ {d e : D} {v : V}, okE n d = true → okE n e = true → At F d v → At F e v → d = e) : ∀ {xs : List V} {ds es : List D}, ds.all (okE n) = true → es.all (okE n) = true → AtL F ds xs → AtL F es xs → ds = es := by
  intro xs
  induction xs with
  | nil =>
    intro ds es _ _ a1 a2
    exact (List.length_eq_zero_iff.mp a1.length.symm).trans (List.length_eq_zero_iff.mp a2.length.symm).symm
  | cons x xs ih2 =>
    intro ds es h1 h2 a1 a2
    cases ds with
    | nil => cases a1.nil_inv
    | cons d ds => cases es with
      | nil => cases a2.nil_inv
      | cons e es =>
        obtain ⟨y, r, e1, b1, c1⟩ := a1.cons_inv
        obtain ⟨y2, r2, e2, b2, c2⟩ := a2.cons_inv
        cases e1
        cases e2
        rw [List.all_cons, Bool.and_eq_true] at h1 h2
        rw [ih2 h1.2 h2.2 c1 c2, ih h1.1 h2.1 b1 b2]
theorem zeu {F : Hp} : ∀ (n : Nat) {d e : D} {v : V}, okE n d = true → okE n e = true → At F d v → At F e v → d = e := by
  intro n
  induction n with
  | zero =>
    intro d e v h1 h2 a1 a2
    exact zcw h1 h2 ((x9 h1 a1).symm.trans (x9 h2 a2))
  | succ n ih =>
    intro d e v h1 h2 a1 a2
    rcases xY h1 with f1 | ⟨ds, rfl, k1⟩ | ⟨ds, rfl, k1⟩
    · have e1 := x9 f1 a1
      rcases xY h2 with f2 | ⟨es, rfl, _⟩ | ⟨es, rfl, _⟩
      · exact zcw f1 f2 (e1.symm.trans (x9 f2 a2))
      · obtain ⟨p, xs, e2, _⟩ := a2.tup_inv
        exact (WR f1 (e1.symm.trans e2)).elim
      · obtain ⟨p, xs, e2, _⟩ := a2.lst_inv
        exact (WR f1 (e1.symm.trans e2)).elim
    · obtain ⟨p, xs, e0, hx, al⟩ := a1.tup_inv
      rcases xY h2 with f2 | ⟨es, rfl, k2⟩ | ⟨es, rfl, k2⟩
      · exact (WR f2 ((x9 f2 a2).symm.trans e0)).elim
      · obtain ⟨q, ys, e1, hy, bl⟩ := a2.tup_inv
        cases e0.symm.trans e1
        cases hx.symm.trans hy
        rw [zcp ih k1 k2 al bl]
      · obtain ⟨q, ys, e1, hy, bl⟩ := a2.lst_inv
        cases e0.symm.trans e1
        cases hx.symm.trans hy
    · obtain ⟨p, xs, e0, hx, al⟩ := a1.lst_inv
      rcases xY h2 with f2 | ⟨es, rfl, k2⟩ | ⟨es, rfl, k2⟩
      · exact (WR f2 ((x9 f2 a2).symm.trans e0)).elim
      · obtain ⟨q, ys, e1, hy, bl⟩ := a2.tup_inv
        cases e0.symm.trans e1
        cases hx.symm.trans hy
      · obtain ⟨q, ys, e1, hy, bl⟩ := a2.lst_inv
        cases e0.symm.trans e1
        cases hx.symm.trans hy
        rw [zcp ih k1 k2 al bl]
omit [KK] in
theorem zd5 : ∀ (n : Nat) {d : D}, okE n d = true → eqN n d d = true := by
  intro n
  induction n with
  | zero =>
    intro d h
    cases d with
    | tup _ => cases h
    | lst _ => cases h
    | scr _ => cases h
    | dct _ _ _ _ => cases h
    | _ => first | rfl | exact decide_eq_true rfl | exact beq_self_eq_true _
  | succ n ih =>
    have ihl : ∀ {ds : List D}, ds.all (okE n) = true → (List.zipWith (eqN n) ds ds).all id = true := by
      intro ds
      induction ds with
      | nil => intro _; rfl
      | cons d ds ih2 =>
        intro h
        rw [List.all_cons, Bool.and_eq_true] at h
        rw [List.zipWith_cons_cons, List.all_cons, ih2 h.2, Bool.and_true]
        exact ih h.1
    intro d h
    cases d with
    | tup ds => show ((List.zipWith (eqN n) ds ds).all id && ds.length == ds.length) = true; rw [ihl h]; simp
    | lst ds => show ((List.zipWith (eqN n) ds ds).all id && ds.length == ds.length) = true; rw [ihl h]; simp
    | scr _ => cases h
    | dct _ _ _ _ => cases h
    | _ => first | rfl | exact decide_eq_true rfl | exact beq_self_eq_true _
theorem zeS {F : Hp} (n : Nat) {d e : D} {v : V} (h1 : okE n d = true) (h2 : okE n e = true) (a1 : At F d v) (a2 : At F e v) : eqN n d e = true := by
  rw [zeu n h1 h2 a1 a2]
  exact zd5 n h2
omit [KK] in
theorem vz {n : Nat} {ds : List D} {j : Nat} (h : ds.all (okE n) = true) (hj : j < ds.length) : okE n (ds.getD j .non) = true := by
  have : ds.getD j .non = ds[j] := by simp [hj]
  rw [this]
  exact List.all_eq_true.mp h _ (List.getElem_mem hj)
theorem AtL.nth {F : Hp} {ds : List D} {xs : List V} {us : List Value} {j : Nat} (al : AtL F ds xs) (r : yC xs us) (h : j < us.length) : ∃ x, At F (ds.getD j .non) x ∧ yT x us[j] := by
  have hl := al.length
  have hl2 := r.length
  have hj : j < ds.length := by omega
  obtain ⟨x, hx, ax⟩ := al.get (i := j) (d := ds[j]) (by simp [hj])
  obtain ⟨u, hu, ru⟩ := r.get hx
  refine ⟨x, by rw [show ds.getD j .non = ds[j] by simp [hj]]; exact ax, ?_⟩
  have : us[j]? = some us[j] := by simp [h]
  rw [hu] at this
  cases this
  exact ru
omit [KK] in
theorem zaS {n : Nat} {d e : D} (h1 : okE 0 d = true) (h2 : okE 0 e = true) : eqN n d e = eqV (vOf d) (vOf e) := by
  cases n <;> cases d <;> first | (cases h1; done) | skip
  all_goals cases e <;> first | (cases h2; done) | rfl
omit [KK] in
theorem zaY {n : Nat} {d : D} (ds : List D) (h : okE 0 d = true) : eqN (n + 1) d (.tup ds) = false ∧ eqN (n + 1) d (.lst ds) = false ∧ eqN (n + 1) (.tup ds) d = false ∧ eqN (n + 1) (.lst ds) d = false := by
  cases d <;> first | exact ⟨rfl, rfl, rfl, rfl⟩ | cases h
omit [KK] in
theorem WQ {A : Around} {s : Shared} {d : D} {u : Value} {p : Addr} {its : Array Value} (h : okE 0 d = true) (r : yT (vOf d) u) (hu : A.units < cLine) :
    (s.heap.IsTuple p its → SeqAt.EqAt A s u (.ref p) false ∧ SeqAt.EqAt A s (.ref p) u false) ∧ (s.heap.IsList p its → SeqAt.EqAt A s u (.ref p) false ∧ SeqAt.EqAt A s (.ref p) u false) := by
  cases d with
  | non => cases r; exact ⟨fun ht => ⟨.none_tuple ht hu, .tuple_none ht hu⟩, fun ht => ⟨.none_list ht hu, .list_none ht hu⟩⟩
  | bl b => cases r; exact ⟨fun ht => ⟨.bool_tuple b ht hu, .tuple_bool b ht hu⟩, fun ht => ⟨.bool_list b ht hu, .list_bool b ht hu⟩⟩
  | int b => obtain ⟨t, rfl⟩ := r; exact ⟨fun ht => ⟨.int_tuple b t ht hu, .tuple_int b t ht hu⟩, fun ht => ⟨.int_list b t ht hu, .list_int b t ht hu⟩⟩
  | str b => obtain ⟨t, rfl⟩ := r; exact ⟨fun ht => ⟨.str_tuple b t ht hu, .tuple_str b t ht hu⟩, fun ht => ⟨.str_list b t ht hu, .list_str b t ht hu⟩⟩
  | _ => cases h
theorem WK {X : Cx} {pins : List (Addr × Obj)} {σ : St} {F H : Hp} {s : Shared} (I : Inv X pins σ H s) (sm : yK F H) {ds : List D} {x : V} {u : Value} (a : At F (.tup ds) x) (r : yT x u) : ∃ p its xs, u = .ref p ∧ x = .ref p ∧ yC xs its ∧ AtL F ds xs ∧ s.heap.IsTuple p its.toArray := by
  obtain ⟨p, xs, rfl, hx, al⟩ := a.tup_inv
  cases r
  obtain ⟨its, rv, ht, hz⟩ := I.tuple (SqT.of (sm _ _ hx))
  exact ⟨p, its, xs, rfl, rfl, rv, al, ht⟩
theorem WA {X : Cx} {pins : List (Addr × Obj)} {σ : St} {F H : Hp} {s : Shared} (I : Inv X pins σ H s) (sm : yK F H) {ds : List D} {x : V} {u : Value} (a : At F (.lst ds) x) (r : yT x u) : ∃ p its xs, u = .ref p ∧ x = .ref p ∧ yC xs its ∧ AtL F ds xs ∧ s.heap.IsList p its.toArray := by
  obtain ⟨p, xs, rfl, hx, al⟩ := a.lst_inv
  cases r
  obtain ⟨its, rv, ht, hz⟩ := I.list (SqL.of (sm _ _ hx))
  exact ⟨p, its, xs, rfl, rfl, rv, al, ht.isList⟩
omit [KK] in
theorem zcq {n : Nat} (ds es : List D) : ((List.zipWith (eqN n) ds es).all id && ds.length == es.length) = ((List.range (min ds.length es.length)).all (fun j => eqN n (ds.getD j .non) (es.getD j .non)) && ds.length == es.length) := by rw [V8]
theorem zbW {X : Cx} {pins : List (Addr × Obj)} {σ : St} {F H : Hp} {s : Shared} (I : Inv X pins σ H s) (sm : yK F H) : ∀ (n : Nat) {A : Around} {d e : D} {x y : V} {u v : Value}, okE n d = true → okE n e = true → At F d x → At F e y → yT x u → yT y v → A.units + n < cLine → SeqAt.EqAt A s u v (eqN n d e) := by
  intro n
  induction n with
  | zero =>
    intro A d e x y u v h1 h2 a1 a2 r1 r2 hu
    cases x9 h1 a1
    cases x9 h2 a2
    rw [zaS h1 h2]
    exact zeX r1 r2 (Z6 h1) (Z6 h2)
  | succ n ih =>
    intro A d e x y u v h1 h2 a1 a2 r1 r2 hu
    have hu0 : A.units < cLine := Nat.lt_of_le_of_lt (Nat.le_add_right _ _) hu
    have hu1 : A.units + 1 + n < cLine := by rw [Nat.add_assoc, Nat.add_comm 1 n]; exact hu
    rcases xY h1 with f1 | ⟨ds, rfl, k1⟩ | ⟨ds, rfl, k1⟩
    · cases x9 f1 a1
      rcases xY h2 with f2 | ⟨es, rfl, k2⟩ | ⟨es, rfl, k2⟩
      · cases x9 f2 a2
        rw [zaS f1 f2]
        exact zeX r1 r2 (Z6 f1) (Z6 f2)
      · obtain ⟨q, its2, ys, rfl, _, _, _, ht2⟩ := WK I sm a2 r2
        rw [(zaY es f1).1]
        exact ((WQ f1 r1 hu0).1 ht2).1
      · obtain ⟨q, its2, ys, rfl, _, _, _, ht2⟩ := WA I sm a2 r2
        rw [(zaY es f1).2.1]
        exact ((WQ f1 r1 hu0).2 ht2).1
    · obtain ⟨p, its, xs, rfl, hxp, rv, al, ht⟩ := WK I sm a1 r1
      rcases xY h2 with f2 | ⟨es, rfl, k2⟩ | ⟨es, rfl, k2⟩
      · cases x9 f2 a2
        rw [(zaY ds f2).2.2.1]
        exact ((WQ f2 r2 hu0).1 ht).2
      · obtain ⟨q, its2, ys, rfl, hyq, rv2, bl, ht2⟩ := WK I sm a2 r2
        by_cases hpq : p = q
        · subst hpq
          rw [hxp] at a1
          rw [hyq] at a2
          rw [zeS (n + 1) h1 h2 a1 a2]
          exact .same _
        · have hl1 : its.toArray.size = ds.length := by rw [List.size_toArray, ← rv.length, al.length]
          have hl2 : its2.toArray.size = es.length := by rw [List.size_toArray, ← rv2.length, bl.length]
          have := SeqAt.RcAt.tuples (A := A) (e := fun j => eqN n (ds.getD j .non) (es.getD j .non)) ht ht2 hu0 fun j g1 g2 => by
            obtain ⟨x', ax, rx⟩ := al.nth rv (j := j) g1
            obtain ⟨y', ay, ry⟩ := bl.nth rv2 (j := j) g2
            exact ih (vz k1 (hl1 ▸ g1)) (vz k2 (hl2 ▸ g2)) ax ay rx ry hu1
          rw [hl1, hl2] at this
          rw [show eqN (n + 1) (.tup ds) (.tup es) = _ from zcq ds es]
          exact SeqAt.EqAt.of_refs hpq this
      · obtain ⟨q, its2, ys, rfl, _, _, _, ht2⟩ := WA I sm a2 r2
        exact .tuple_list ht ht2 hu0
    · obtain ⟨p, its, xs, rfl, hxp, rv, al, ht⟩ := WA I sm a1 r1
      rcases xY h2 with f2 | ⟨es, rfl, k2⟩ | ⟨es, rfl, k2⟩
      · cases x9 f2 a2
        rw [(zaY ds f2).2.2.2]
        exact ((WQ f2 r2 hu0).2 ht).2
      · obtain ⟨q, its2, ys, rfl, _, _, _, ht2⟩ := WK I sm a2 r2
        exact .list_tuple ht ht2 hu0
      · obtain ⟨q, its2, ys, rfl, hyq, rv2, bl, ht2⟩ := WA I sm a2 r2
        by_cases hpq : p = q
        · subst hpq
          rw [hxp] at a1
          rw [hyq] at a2
          rw [zeS (n + 1) h1 h2 a1 a2]
          exact .same _
        · have hl1 : its.toArray.size = ds.length := by rw [List.size_toArray, ← rv.length, al.length]
          have hl2 : its2.toArray.size = es.length := by rw [List.size_toArray, ← rv2.length, bl.length]
          rw [show eqN (n + 1) (.lst ds) (.lst es) = _ from zcq ds es]
          by_cases hle : ds.length = es.length
          · have := SeqAt.RcAt.lists (A := A) (e := fun j => eqN n (ds.getD j .non) (es.getD j .non)) ht ht2 (by rw [hl1, hl2, hle]) hu0 fun j g1 g2 => by
              obtain ⟨x', ax, rx⟩ := al.nth rv (j := j) g1
              obtain ⟨y', ay, ry⟩ := bl.nth rv2 (j := j) g2
              exact ih (vz k1 (hl1 ▸ g1)) (vz k2 (hl2 ▸ g2)) ax ay rx ry hu1
            rw [hl1] at this
            rw [← hle, Nat.min_self, beq_self_eq_true, Bool.and_true]
            exact SeqAt.EqAt.of_refs hpq this
          · have := SeqAt.RcAt.lists_lengths (A := A) ht ht2 (by rw [hl1, hl2]; exact bne_iff_ne.mpr hle) hu0
            rw [beq_eq_false_iff_ne.mpr hle, Bool.and_false]
            exact SeqAt.EqAt.of_refs hpq this
noncomputable def zhT (d : D) (es : List D) : Option Bool := if okE 20 d = true ∧ es.all (okE 20) = true then some (es.any fun e => eqN 20 e d) else none
noncomputable def inD (d e : D) : Option D := (X3 e).bind fun es => (zhT d es).map .bl
open Classical in
noncomputable def zdj (F : Hp) (d : D) (u : Value) : Bool := decide (∃ d0 x, At F d0 x ∧ yT x u ∧ okE 20 d0 = true ∧ eqN 20 d0 d = true)
open Classical in
theorem zc3 {F : Hp} {d d0 : D} {x : V} {u : Value} (a : At F d0 x) (r : yT x u) (k : okE 20 d0 = true) : zdj F d u = eqN 20 d0 d := by
  unfold zdj
  cases h : eqN 20 d0 d with
  | true => exact decide_eq_true ⟨d0, x, a, r, k, h⟩
  | false =>
    refine decide_eq_false ?_
    rintro ⟨d1, y, a1, r1, k1, h1⟩
    have e := r1.inj r
    subst e
    rw [zeu 20 k1 k a1 a] at h1
    rw [h1] at h
    cases h
theorem WB {F : Hp} {d : D} : ∀ {ds : List D} {xs : List V} {us : List Value}, AtL F ds xs → yC xs us → ds.all (okE 20) = true → us.any (zdj F d) = ds.any fun e => eqN 20 e d
  | [], _, _, al, r, _ => by cases al.nil_inv; cases r; rfl
  | e :: ds, _, _, al, r, k => by
    obtain ⟨x, xs, rfl, a1, a2⟩ := al.cons_inv
    cases r with
    | cons r1 r2 =>
      rw [List.all_cons, Bool.and_eq_true] at k
      rw [List.any_cons, List.any_cons, zc3 a1 r1 k.1, WB a2 r2 k.2]
section
variable {X : Cx}
noncomputable def rInD (neg : Bool) : R2 := fun x y H Q => ∃ F d e es b, yK F H ∧ At F d x ∧ At F e y ∧ X3 e = some es ∧ zhT d es = some b ∧ Q (.bl (if neg then !b else b)) H
theorem zex {k : Nat} (hr : Yk k X.A) : OpR X (compareOp .In) (rInD false) := by
  intro pins s σ H x y v u Q I rx ry h
  obtain ⟨F, d, e, es, b, sm, a1, a2, hs, hb, q⟩ := h
  unfold zhT at hb
  split at hb <;> cases hb
  rename_i hk
  have hu : X.A.in1.units + 20 < cLine := by have := hr.un; show X.A.units + 1 + 20 < cLine; omega
  have mem : ∀ {xs : List V} {us : List Value}, AtL F es xs → yC xs us → ∀ z ∈ us, SeqAt.EqAt X.A.in1 s z v (zdj F d z) := fun {xs us} al r z hz => by
    obtain ⟨j, hj, rfl⟩ := List.getElem_of_mem hz
    obtain ⟨x', ax, rx'⟩ := al.nth r hj
    have hj' : j < es.length := by have := al.length; have := r.length; omega
    have k2 := vz hk.2 hj'
    rw [zc3 ax rx' k2]
    exact zbW I sm 20 k2 hk.1 ax a1 rx' rx hu
  cases e <;> cases hs
  · obtain ⟨p, xs, rfl, hx, al⟩ := a2.tup_inv
    cases ry
    obtain ⟨its, r, pl, hz⟩ := I.tuple (SqT.of (sm _ _ hx))
    refine SeqAt.in_tupleAt (zdj F d) pl (fun z hz => mem al r z (by simpa using hz)) ⟨.bl _, H, I, rfl, ?_⟩
    rw [show its.toArray.any (zdj F d) = its.any (zdj F d) by simp, WB al r hk.2]
    exact q
  · obtain ⟨p, xs, rfl, hx, al⟩ := a2.lst_inv
    cases ry
    obtain ⟨its, r, pl, hz⟩ := I.list (SqL.of (sm _ _ hx))
    refine SeqAt.in_listAt (zdj F d) pl.isList (fun z hz => mem al r z (by simpa using hz)) ⟨.bl _, H, I, rfl, ?_⟩
    rw [show its.toArray.any (zdj F d) = its.any (zdj F d) by simp, WB al r hk.2]
    exact q
theorem zeP : OpD (rInD false) inD := by
  intro F H x y d e z Q s ax ay ez q
  obtain ⟨es, e1, e2⟩ := Option.bind_eq_some_iff.mp ez
  obtain ⟨b, e3, rfl⟩ := Option.map_eq_some_iff.mp e2
  exact ⟨F, d, e, es, b, s, ax, ay, e1, e3, q F H _ (.refl s) .bl⟩
noncomputable def eqG (d e : D) : Option Bool := match d, e with
  | .tup _, .tup _ => if okE 20 d = true ∧ okE 20 e = true then some (eqN 20 d e) else none
  | .lst _, .lst _ => if okE 20 d = true ∧ okE 20 e = true then some (eqN 20 d e) else none
  | _, _ => eqS d e
noncomputable def vL (d e : D) : Option D := (eqG d e).map .bl
noncomputable def zhG : R2 := fun x y H Q => ∃ F d e, yK F H ∧ At F d x ∧ At F e y ∧ ((∃ ds es, d = .tup ds ∧ e = .tup es) ∨ (∃ ds es, d = .lst ds ∧ e = .lst es)) ∧ okE 20 d = true ∧ okE 20 e = true ∧ Q (.bl (eqN 20 d e)) H
theorem zgA {k : Nat} (hr : Yk k X.A) : OpR X (compareOp .Eq) zhG := by
  intro pins s σ H x y v u Q I rx ry h
  obtain ⟨F, d, e, sm, a1, a2, hk, k1, k2, q⟩ := h
  have hu : X.A.units + 30 < cLine := by have := hr.un; omega
  rcases hk with ⟨ds, es, rfl, rfl⟩ | ⟨ds, es, rfl, rfl⟩
  · obtain ⟨p, xs, rfl, hx, al⟩ := a1.tup_inv
    obtain ⟨p2, ys, rfl, hy, bl⟩ := a2.tup_inv
    cases rx
    cases ry
    obtain ⟨its, r, ht, hz⟩ := I.tuple (SqT.of (sm _ _ hx))
    obtain ⟨its2, r2, ht2, hz2⟩ := I.tuple (SqT.of (sm _ _ hy))
    have hl1 : its.toArray.size = ds.length := by rw [List.size_toArray, ← r.length, al.length]
    have hl2 : its2.toArray.size = es.length := by rw [List.size_toArray, ← r2.length, bl.length]
    refine SeqAt.eq_tupleAt (e := fun j => eqN 19 (ds.getD j .non) (es.getD j .non)) (show s.heap.IsTuple p its.toArray from ht) (show s.heap.IsTuple p2 its2.toArray from ht2) (by omega) (fun j g1 g2 => ?_) ⟨.bl _, H, I, rfl, ?_⟩
    · obtain ⟨x', ax, rx⟩ := al.nth r (j := j) (by simpa using g1)
      obtain ⟨y', ay, ry⟩ := bl.nth r2 (j := j) (by simpa using g2)
      exact zbW I sm 19 (vz k1 (by rw [← hl1]; exact g1)) (vz k2 (by rw [← hl2]; exact g2)) ax ay (by simpa using rx) (by simpa using ry) (Nat.lt_of_le_of_lt (show X.A.units + 20 ≤ X.A.units + 30 from Nat.add_le_add_left (by decide) _) hu)
    · rw [hl1, hl2, ← V8]
      exact q
  · obtain ⟨p, xs, rfl, hx, al⟩ := a1.lst_inv
    obtain ⟨p2, ys, rfl, hy, bl⟩ := a2.lst_inv
    cases rx
    cases ry
    obtain ⟨its, r, ht, hz⟩ := I.list (SqL.of (sm _ _ hx))
    obtain ⟨its2, r2, ht2, hz2⟩ := I.list (SqL.of (sm _ _ hy))
    have hl1 : its.toArray.size = ds.length := by rw [List.size_toArray, ← r.length, al.length]
    have hl2 : its2.toArray.size = es.length := by rw [List.size_toArray, ← r2.length, bl.length]
    have e1 : eqN 20 (.lst ds) (.lst es) = ((List.range (min ds.length es.length)).all (fun j => eqN 19 (ds.getD j .non) (es.getD j .non)) && ds.length == es.length) := by
      show ((List.zipWith (eqN 19) ds es).all id && ds.length == es.length) = _
      rw [V8]
    by_cases hle : ds.length = es.length
    · refine SeqAt.eq_listAt (e := fun j => eqN 19 (ds.getD j .non) (es.getD j .non)) ht.isList ht2.isList (by rw [hl1, hl2]; exact hle) (Nat.lt_of_le_of_lt (Nat.le_add_right _ 30) hu) (fun j g1 g2 => ?_) ⟨.bl _, H, I, rfl, ?_⟩
      · obtain ⟨x', ax, rx⟩ := al.nth r (j := j) (by simpa using g1)
        obtain ⟨y', ay, ry⟩ := bl.nth r2 (j := j) (by simpa using g2)
        exact zbW I sm 19 (vz k1 (by rw [← hl1]; exact g1)) (vz k2 (by rw [← hl2]; exact g2)) ax ay (by simpa using rx) (by simpa using ry) (Nat.lt_of_le_of_lt (show X.A.units + 20 ≤ X.A.units + 30 from Nat.add_le_add_left (by decide) _) hu)
      · rw [hl1]
        rw [e1, ← hle, Nat.min_self] at q
        simpa using q
    · refine SeqAt.eq_list_lengthsAt ht.isList ht2.isList (by rw [hl1, hl2]; simpa using hle) (Nat.lt_of_le_of_lt (Nat.le_add_right _ 30) hu) ⟨.bl _, H, I, rfl, ?_⟩
      have : (ds.length == es.length) = false := by simpa using hle
      rw [e1, this, Bool.and_false] at q
      exact q
theorem zfg : OpD zhG (fun d e => match d, e with
  | .tup _, .tup _ => if okE 20 d = true ∧ okE 20 e = true then some (.bl (eqN 20 d e)) else none
  | .lst _, .lst _ => if okE 20 d = true ∧ okE 20 e = true then some (.bl (eqN 20 d e)) else none
  | _, _ => none) := by
  intro F H x y d e z Q s ax ay ez q
  dsimp only at ez
  split at ez
  · split at ez <;> cases ez
    rename_i hk
    exact ⟨F, _, _, s, ax, ay, .inl ⟨_, _, rfl, rfl⟩, hk.1, hk.2, q F H _ (.refl s) .bl⟩
  · split at ez <;> cases ez
    rename_i hk
    exact ⟨F, _, _, s, ax, ay, .inr ⟨_, _, rfl, rfl⟩, hk.1, hk.2, q F H _ (.refl s) .bl⟩
  · cases ez
theorem zV {k : Nat} (hr : Yk k X.A) : OpR X (compareOp .Eq) (fun x y H Q => rEq x y H Q ∨ zhG x y H Q) := ziF.or (zgA hr)
theorem zF : OpD (fun x y H Q => rEq x y H Q ∨ zhG x y H Q) vL := by
  refine V9 (Vt zeV zfg) fun d e z h => ?_
  obtain ⟨b, hb, rfl⟩ := Option.map_eq_some_iff.mp h
  unfold eqG at hb
  split at hb
  · split at hb <;> cases hb
    rename_i hk
    show (Option.or none (if okE 20 _ = true ∧ okE 20 _ = true then some (D.bl (eqN 20 _ _)) else none)) = _
    rw [if_pos hk]
    rfl
  · split at hb <;> cases hb
    rename_i hk
    show (Option.or none (if okE 20 _ = true ∧ okE 20 _ = true then some (D.bl (eqN 20 _ _)) else none)) = _
    rw [if_pos hk]
    rfl
  · show ((eqD d e).or _) = _
    unfold eqD
    rw [hb]
    rfl
theorem zaX {pins : List (Addr × Obj)} {σ : St} {H : Hp} {s : Shared} {a : Addr} {xs : List V} {A : Around} {Q : Value → Shared → Prop} {E : Value → Shared → Prop} (I : Inv X pins σ H s) (hh : A.handled = none) (h : SqL X.K H a xs ∨ SqT X.K H a xs)
    (k : ∀ (it : Addr) (its : List Value) (fp wr : List Addr) (St : Nat → Heap → Prop) (s₂ : Shared), yC xs its → Walks X.prog X.w A it fp wr its.length (fun i v => its[i]? = some v) St → St 0 s₂.heap → (∀ b ∈ fp, b < s₂.heap.objs.size) →
      (∀ (h' : Heap) (tk : Nat), (∀ b o, b ∉ wr → s₂.heap.get? b = some o → h'.get? b = some o) → Inv X pins σ H { s₂ with heap := h', toks := tk }) → Q (.ref it) s₂) :
    wpAny (model X.prog X.w) A (pyIter (.ref a)) Q E s := by
  have back : ∀ {o : Obj} {s₂ : Shared}, s₂ = { s with heap := s.heap.push o } → ∀ (h' : Heap) (tk : Nat), (∀ b u, b ∉ [s.heap.objs.size] → s₂.heap.get? b = some u → h'.get? b = some u) → Inv X pins σ H { s₂ with heap := h', toks := tk } := fun {o s₂} e h' tk kk => by
    subst e
    exact I.kept (t' := tk) fun b u z => kk b u (by simpa using Nat.ne_of_lt (Heap.lt_size z)) (Heap.get?_push_of_some _ z)
  rcases h with h | h
  · obtain ⟨its, rv, p, hz⟩ := I.list h
    have lt : a < s.heap.objs.size := by obtain ⟨o, n, ho, _⟩ := p; exact Heap.lt_size ho
    refine wpAny_pyIter_list p.isList ?_
    have W := Walks.list (prog := X.prog) (w := X.w) (A := A) hh s.heap.objs.size a (Nat.ne_of_lt lt) its.toArray
    refine k s.heap.objs.size its [s.heap.objs.size, a] [s.heap.objs.size] (fun i h => h.IsListIter s.heap.objs.size a i ∧ h.IsList a its.toArray) _ rv (by simpa using W) ⟨⟨_, Heap.get?_push_size _ rfl, rfl, rfl⟩, p.isList.at fun o e => Heap.get?_push_of_some _ e⟩ (fun b hb => ?_) (back rfl)
    show b < (s.heap.push _).objs.size
    rw [Heap.size_push]
    rcases List.mem_cons.mp hb with rfl | hb
    · exact Nat.lt_succ_self _
    · rw [List.mem_singleton.mp hb]; exact Nat.lt_succ_of_lt lt
  · obtain ⟨its, rv, p, hz⟩ := I.tuple h
    have p' : s.heap.IsTuple a its.toArray := p
    have lt : a < s.heap.objs.size := by obtain ⟨o, ho, _⟩ := p; exact Heap.lt_size ho
    refine wpAny_pyIter_tuple p' ?_
    have W := Walks.tuple (prog := X.prog) (w := X.w) (A := A) hh s.heap.objs.size a (Nat.ne_of_lt lt) its.toArray
    refine k s.heap.objs.size its [s.heap.objs.size, a] [s.heap.objs.size] (fun i h => h.IsTupleIter s.heap.objs.size a i ∧ h.IsTuple a its.toArray) _ rv (by simpa using W) ⟨⟨_, Heap.get?_push_size _ rfl, rfl, rfl⟩, p'.at fun o e => Heap.get?_push_of_some _ e⟩ (fun b hb => ?_) (back rfl)
    show b < (s.heap.push _).objs.size
    rw [Heap.size_push]
    rcases List.mem_cons.mp hb with rfl | hb
    · exact Nat.lt_succ_self _
    · rw [List.mem_singleton.mp hb]; exact Nat.lt_succ_of_lt lt
end
end Dl
namespace Dl
open PySem L2
variable [KK]
omit [KK] in
theorem zcX {bs : List Bool} : (List.range bs.length).all (fun i => bs.getD i false) = bs.all id := by
  have : bs = (List.range bs.length).map fun i => bs.getD i false := by
    apply List.ext_getElem
    · simp
    · intro i h1 h2
      simp [h1]
  conv => rhs; rw [this]
  rw [List.all_map]
  rfl
omit [KK] in
theorem zbV : ∀ (ns : List Int) (n : Nat), n ≤ ns.length → preSum (fun i => ns.getD i 0) n = (ns.take n).sum := by
  intro ns n
  induction n with
  | zero => intro _; simp [preSum]
  | succ n ih =>
    intro h
    show preSum (fun i => ns.getD i 0) n + ns.getD n 0 = _
    rw [ih (by omega), List.take_succ, List.sum_append]
    have : ns[n]? = some ns[n] := by simp [show n < ns.length by omega]
    simp [this]
section
variable {X : Cx}
omit [KK] in
theorem zfe {bs : List Bool} {its : List Value} {i : Nat} {v : Value} (r : yC (bs.map V.bl) its) (h : its[i]? = some v) : v = .bool (bs.getD i false) := by
  have hl := r.length
  have hi : i < its.length := (List.getElem?_eq_some_iff.mp h).1
  rw [List.length_map] at hl
  obtain ⟨u, hu, ru⟩ := r.get (i := i) (x := .bl (bs[i]'(by omega))) (by rw [List.getElem?_map]; simp [show i < bs.length by omega])
  rw [h] at hu
  cases hu
  cases ru
  simp [show i < bs.length by omega]
omit [KK] in
theorem zdR {ns : List Int} {its : List Value} {i : Nat} {v : Value} (r : yC (ns.map V.int) its) (h : its[i]? = some v) : ∃ t, v = .int (ns.getD i 0) t := by
  have hl := r.length
  have hi : i < its.length := (List.getElem?_eq_some_iff.mp h).1
  rw [List.length_map] at hl
  obtain ⟨u, hu, ru⟩ := r.get (i := i) (x := .int (ns[i]'(by omega))) (by rw [List.getElem?_map]; simp [show i < ns.length by omega])
  rw [h] at hu
  cases hu
  obtain ⟨t, rfl⟩ := ru
  exact ⟨t, by simp [show i < ns.length by omega]⟩
theorem XH (hc : X.calm = true) : YS X (.builtin "all") (fun xs H Q => ∃ (p : Addr) (bs : List Bool), xs = [.ref p] ∧ (SqL X.K H p (bs.map V.bl) ∨ SqT X.K H p (bs.map V.bl)) ∧ Q (.bl (bs.all id)) H) := by
  intro pins s σ H xs us Q I r h
  obtain ⟨p, bs, rfl, hq, q⟩ := h
  obtain ⟨u, rfl, ru⟩ := VL r
  cases ru
  refine call_all_walk (zaX I (I.ok.hd hc) hq fun it its fp wr St s₂ rv W st fpl back => ?_)
  have hl := rv.length
  rw [List.length_map] at hl
  refine ⟨it, fp, wr, _, _, St, fun i => bs.getD i false, rfl, W, st, fun i v s Q E hv hQ => ?_, fun h' tk kk => ⟨.bl _, H, back h' tk kk, rfl, ?_⟩⟩
  · rw [zfe rv hv]
    exact wpAny_truthy_bool hQ
  · rw [← hl, zcX]
    exact q
theorem vX (hc : X.calm = true) : YS X (.builtin "sum") (fun xs H Q => ∃ (p : Addr) (ns : List Int), xs = [.ref p] ∧ (SqL X.K H p (ns.map V.int) ∨ SqT X.K H p (ns.map V.int)) ∧ Q (.int ns.sum) H) := by
  intro pins s σ H xs us Q I r h
  obtain ⟨p, ns, rfl, hq, q⟩ := h
  obtain ⟨u, rfl, ru⟩ := VL r
  cases ru
  refine call_sum_walkG (zaX I (I.ok.hd hc) hq fun it its fp wr St s₂ rv W st fpl back => ?_)
  have hl := rv.length
  rw [List.length_map] at hl
  refine ⟨it, fp, wr, _, _, St, fun i => ns.getD i 0, rfl, W, st, fpl, fun i v hv => zdR rv hv, fun h' tk t' kk => ⟨.int ns.sum, H, back h' tk kk, ?_, q⟩⟩
  refine ⟨t', ?_⟩
  rw [← hl, zbV ns _ (Nat.le_refl _), List.take_length]
noncomputable def zif : List D → Option (List Bool)
  | [] => some []
  | .bl b :: ds => (zif ds).map (b :: ·)
  | _ => none
noncomputable def zh6 : List D → Option (List Int)
  | [] => some []
  | .int b :: ds => (zh6 ds).map (b :: ·)
  | _ => none
omit [KK] in
theorem zb2 : ∀ {ds : List D} {bs : List Bool}, zif ds = some bs → ds = bs.map .bl
  | [], bs, h => by cases h; rfl
  | d :: ds, bs, h => by
    cases d <;> try cases h
    obtain ⟨cs, h1, rfl⟩ := Option.map_eq_some_iff.mp h
    rw [zb2 h1]
    rfl
omit [KK] in
theorem zcQ : ∀ {ds : List D} {bs : List Int}, zh6 ds = some bs → ds = bs.map .int
  | [], bs, h => by cases h; rfl
  | d :: ds, bs, h => by
    cases d <;> try cases h
    obtain ⟨cs, h1, rfl⟩ := Option.map_eq_some_iff.mp h
    rw [zcQ h1]
    rfl
theorem AtL.of_bls {H : Hp} : ∀ {ns : List Bool} {xs : List V}, AtL H (ns.map D.bl) xs → xs = ns.map V.bl
  | [], _, h => h.nil_inv
  | n :: r, _, h => by
    obtain ⟨x, r', rfl, h1, h2⟩ := AtL.cons_inv (by simpa using h)
    rw [h1.bl_inv, AtL.of_bls h2]
    rfl
noncomputable def zhF {α : Type} (as : List D → Option α) (g : α → Option D) : List D → Option D
  | [d] => ((X3 d).bind as).bind g
  | _ => none
theorem zcr {K : PySem.W.Frag} {F H : Hp} {vs : List V} {ds : List D} {z : D} {α : Type} {as : List D → Option α} {g : α → Option D} (s : yK F H) (al : AtL F ds vs) (e : zhF as g ds = some z) :
    ∃ p es xs b, vs = [.ref p] ∧ (SqL K H p xs ∨ SqT K H p xs) ∧ AtL F es xs ∧ as es = some b ∧ g b = some z := by
  unfold zhF at e
  split at e
  · obtain ⟨b, e1, e2⟩ := Option.bind_eq_some_iff.mp e
    obtain ⟨es, e3, e4⟩ := Option.bind_eq_some_iff.mp e1
    obtain ⟨x, r, rfl, ax, ar⟩ := al.cons_inv
    cases ar.nil_inv
    rename_i d
    cases d <;> cases e3
    · obtain ⟨p, xs, rfl, hx, bl⟩ := ax.tup_inv
      exact ⟨p, _, xs, b, rfl, .inr (SqT.of (s _ _ hx)), bl, e4, e2⟩
    · obtain ⟨p, xs, rfl, hx, bl⟩ := ax.lst_inv
      exact ⟨p, _, xs, b, rfl, .inl (SqL.of (s _ _ hx)), bl, e4, e2⟩
  · cases e
noncomputable def zhI := zhF zif fun bs => some (.bl (bs.all id))
noncomputable def zgd := zhF zh6 fun ns => some (.int ns.sum)
theorem V7 {K : PySem.W.Frag} : CaD (fun xs H Q => ∃ (p : Addr) (bs : List Bool), xs = [.ref p] ∧ (SqL K H p (bs.map V.bl) ∨ SqT K H p (bs.map V.bl)) ∧ Q (.bl (bs.all id)) H) zhI := by
  intro F H vs ds z Q s al e q
  obtain ⟨p, es, xs, bs, rfl, hq, bl, e1, e2⟩ := zcr (K := K) s al e
  cases e2
  rw [zb2 e1] at bl
  rw [bl.of_bls] at hq
  exact ⟨p, bs, rfl, hq, q F H _ (.refl s) .bl⟩
theorem Xj {K : PySem.W.Frag} : CaD (fun xs H Q => ∃ (p : Addr) (ns : List Int), xs = [.ref p] ∧ (SqL K H p (ns.map V.int) ∨ SqT K H p (ns.map V.int)) ∧ Q (.int ns.sum) H) zgd := by
  intro F H vs ds z Q s al e q
  obtain ⟨p, es, xs, bs, rfl, hq, bl, e1, e2⟩ := zcr (K := K) s al e
  cases e2
  rw [zcQ e1] at bl
  rw [bl.of_ints] at hq
  exact ⟨p, bs, rfl, hq, q F H _ (.refl s) .int⟩
end
end Dl
namespace Dl
open PySem L2
variable [KK]
section
variable {X : Cx} {tg a b c e : Expr} {pos : Pos}
noncomputable def zdl : List D → List D → List D
  | x :: xs, y :: ys => .tup [x, y] :: zdl xs ys
  | _, _ => []
omit [KK] in
theorem zaP : ∀ (xs ys : List D) (i : Nat), (zdl xs ys)[i]? = match xs[i]?, ys[i]? with | some x, some y => some (.tup [x, y]) | _, _ => none
  | [], ys, i => by simp [zdl]
  | x :: xs, [], i => by simp [zdl]
  | x :: xs, y :: ys, 0 => by simp [zdl]
  | x :: xs, y :: ys, i + 1 => by simpa [zdl] using zaP xs ys i
omit [KK] in
theorem XQ : ∀ (xs ys : List D), xs.length ≤ ys.length → (zdl xs ys).length = xs.length
  | [], ys, _ => by simp [zdl]
  | x :: xs, [], h => by simp at h
  | x :: xs, y :: ys, h => by simp [zdl, XQ xs ys (by simpa using h)]
noncomputable def zdy (f : Ev → Option (List D)) : Ev → Option (List D) := fun ρ => (f ρ).bind fun as => match as with
  | [d, e] => (X3 d).bind fun xs => (X3 e).bind fun ys => if xs.length ≤ ys.length then some (zdl xs ys) else none
  | _ => none
theorem zgl {K : PySem.W.Frag} {F H : Hp} {d : D} {v : V} {ds : List D} (s : yK F H) (h : At F d v) (e : X3 d = some ds) : ∃ b p xs, v = .ref p ∧ (∀ {F' H' : Hp}, yK F F' → yK F' H' → Sq b K H' p xs) ∧ AtL F ds xs := by
  cases d <;> cases e
  · obtain ⟨p, xs, rfl, hx, al⟩ := h.tup_inv
    exact ⟨false, p, xs, rfl, fun s1 s2 => SqT.of (s2 _ _ (s1 _ _ hx)), al⟩
  · obtain ⟨p, xs, rfl, hx, al⟩ := h.lst_inv
    exact ⟨true, p, xs, rfl, fun s1 s2 => SqL.of (s2 _ _ (s1 _ _ hx)), al⟩
theorem zeI {es : List Expr} {k : Nat} {tp p : Pos} {f : Ev → Option (List D)} (hg : Gl X "zip") (hm : X.mg "zip" = none) (ha : AD X [a, b] f)
    (hs : starEach [a, b] X.env = [(false, eval a X.env), (false, eval b X.env)] := by rfl) (hs2 : starEach [b] X.env = [(false, eval b X.env)] := by rfl) : ID X (.Tuple es k tp) (.Call (.Name "zip" p) [a, b] [] pos) (zdy f) := by
  obtain ⟨t, pa, r⟩ := ha
  refine ⟨_, zgT hg hm zet pa hs hs2, fun σ ρ F H ds R s va e q => ?_⟩
  obtain ⟨as, e1, e2⟩ := Option.bind_eq_some_iff.mp e
  refine r σ ρ F H as _ s va e1 fun F1 H1 v g1 a1 => ?_
  split at e2
  · obtain ⟨x, r', rfl, ax, ar⟩ := a1.cons_inv
    obtain ⟨y, r', rfl, ay, ar⟩ := ar.cons_inv
    cases ar.nil_inv
    obtain ⟨xs, e3, e2'⟩ := Option.bind_eq_some_iff.mp e2
    obtain ⟨ys, e4, e2''⟩ := Option.bind_eq_some_iff.mp e2'
    clear e2 e2' e
    split at e2'' <;> cases e2''
    rename_i hle
    obtain ⟨b1, p1, us, rfl, sq1, al⟩ := zgl (K := X.K) g1.fh ax e3
    obtain ⟨b2, p2, ws, rfl, sq2, bl⟩ := zgl (K := X.K) g1.fh ay e4
    refine ⟨b1, b2, p1, p2, us, ws, rfl, sq1 (yK.refl _) g1.fh, sq2 (yK.refl _) g1.fh, q F1 H1 _ g1 fun i F2 H2 s1 s2 => ?_⟩
    have q1 := sq1 s1 s2
    have q2 := sq2 s1 s2
    refine ⟨fun hl => ⟨us, q1, by rw [hl, XQ _ _ hle, al.length]⟩, fun d hd => ?_⟩
    rw [zaP] at hd
    cases h1 : xs[i]? with
    | none => rw [h1] at hd; cases hd
    | some x =>
      cases h2 : ys[i]? with
      | none => rw [h1, h2] at hd; cases hd
      | some y =>
        rw [h1, h2] at hd
        cases hd
        obtain ⟨u, hu, au⟩ := al.get h1
        obtain ⟨u2, hu2, au2⟩ := bl.get h2
        refine ⟨⟨us, ws, u, u2, q1, q2, hu, hu2⟩, fun z H3 hz => ?_⟩
        obtain ⟨T, x', y', rfl, hT, rfl, hx', hy'⟩ := hz
        have e5 := hx' us q1
        have e6 := hy' ws q2
        rw [hu] at e5
        rw [hu2] at e6
        cases e5
        cases e6
        have g3 := Gr.alloc s2 hT (.tup [u, u2])
        exact ⟨_, g3, .tup zq (.cons (au.mono (s1.trans g3.ff)) (.cons (au2.mono (s1.trans g3.ff)) .nil))⟩
  · cases e2
noncomputable def zcj (g : List D → Option (List D)) (f : Ev → Option (List D)) (b : D → SE → Option SE) (h : SE → Ctl) : SE → Ctl := fun ρ => match (f (visG ρ)).bind g with
  | some ds => zcE b h ds ρ
  | none => .no
theorem zbg {p pos' : Pos} {body : List Stmt} {f : Ev → Option (List D)} {b' : D → SE → Option SE} {g : SE → Ctl} (hp : PassesOwn (model X.prog X.w) X.A X.env X.xe) (hc : X.calm = true) (hgl : Gl X "range") (hm : X.mg "range" = none) (ha : AD X [a] f) (hg : BD X tg b') (hb : SDs X body g)
    (hs0 : starEach [a] X.env = [(false, eval a X.env)] := by rfl) (hs : ∀ x, foldedSetIterable (.Call (.Name "range" p) [a] [] pos) X.env x = pure x := by intro _; rfl) : SD X (.For tg (.Call (.Name "range" p) [a] [] pos) body [] pos') (zcj zdi f b' g) := by
  obtain ⟨t, pa, r⟩ := ha
  obtain ⟨tg', pg, rg⟩ := hg
  obtain ⟨tb, pb, rb⟩ := hb
  refine ⟨_, ze0 hp hc (Vk hgl hm pa hs0) pg pb hs, fun Fb Hb F H ρ σ E rl k => ?_⟩
  unfold zcj at k
  cases h : (f (visG ρ)).bind zdi with
  | none => rw [h] at k; exact k.elim
  | some ds =>
    rw [h] at k
    obtain ⟨as, e1, e2⟩ := Option.bind_eq_some_iff.mp h
    refine r σ _ _ H as _ rl.gh rl.visG e1 fun F1 H1 vs g1 a1 => ?_
    have rl2 := rl.grow (rl.back g1).1
    unfold zdi at e2
    split at e2
    · split at e2 <;> cases e2
      rename_i hc
      obtain ⟨x, r', rfl, ax, ar⟩ := a1.cons_inv
      cases ar.nil_inv
      exact ⟨_, by rw [ax.int_inv], (wK.mp hc).1, (wK.mp hc).2, zeZ (zb5 0 _) rg rb rl2 k⟩
    · cases e2
end
noncomputable def zch (K : PySem.W.Frag) : Sp := fun vs H Q _ => ∃ (a : Addr) (ns : List Int), vs = [.ref a] ∧ SqL K H a (ns.map V.int) ∧ ns.length ≤ 63 ∧ ∀ H', Q (.bl true) H'
end Dl
namespace Dl
open PySem L2
theorem zgo {P : Program} {w : World} {K : PySem.W.Frag} {mg : Str → Option Value} {base : Heap} {f : Addr} {fd : FuncData} {ps : List Str} {k : Nat} {p : List D → Option D} (F : yD P w K mg base CX0 k f fd ps (@spD ⟨K⟩ 1 p)) (h : ∀ ns : List Int, ns.length ≤ 63 → p [.scr ns] = some (.bl true)) :
    yD P w K mg base CX0 k f fd ps (zch K) := by
  letI : KK := ⟨K⟩
  refine F.imp fun vs H Q E hs => ?_
  obtain ⟨a, ns, rfl, hq, hl, q⟩ := hs
  refine ⟨[.scr ns], .bl true, H, rfl, yK.refl _, .cons ?_ .nil, h ns hl, fun F' H' v _ av => ?_⟩
  · unfold At
    exact ⟨a, rfl, hq⟩
  · rw [av.bl_inv]
    exact q H'
structure Def (K : PySem.W.Frag) (mg : Str → Option Value) (x : Str) (st : Stmt) (ps : List Str) (f : Addr) (fd : FuncData) : Prop where
  fn : Fun K x x st f fd
  bd : WW K fd ps []
  at_ : mg x = some (.ref f)
theorem Def.kp {K : PySem.W.Frag} {mg : Str → Option Value} {x : Str} {st : Stmt} {ps : List Str} {f : Addr} {fd : FuncData} (d : Def K mg x st ps f fd) : PySem.W.keepIn K (.ref f) = true := d.fn.kp
end Dl
namespace Dl
open PySem L2
inductive Ctl.w : Ctl → (SE → Prop) → (SE → Prop) → (SE → Prop) → (D → Prop) → Prop where
  | nx {ρ : SE} {n b k : SE → Prop} {r : D → Prop} : n ρ → Ctl.w (.nx ρ) n b k r
  | bk {ρ : SE} {n b k : SE → Prop} {r : D → Prop} : b ρ → Ctl.w (.bk ρ) n b k r
  | ct {ρ : SE} {n b k : SE → Prop} {r : D → Prop} : k ρ → Ctl.w (.ct ρ) n b k r
  | rt {d : D} {n b k : SE → Prop} {r : D → Prop} : r d → Ctl.w (.rt d) n b k r
section
variable {ρ : SE} {d : D} {n b k : SE → Prop} {r : D → Prop}
theorem Ctl.w.nxi (h : Ctl.w (.nx ρ) n b k r) : n ρ := by cases h; assumption
theorem Ctl.w.bki (h : Ctl.w (.bk ρ) n b k r) : b ρ := by cases h; assumption
theorem Ctl.w.cti (h : Ctl.w (.ct ρ) n b k r) : k ρ := by cases h; assumption
theorem Ctl.w.rti (h : Ctl.w (.rt d) n b k r) : r d := by cases h; assumption
theorem Ctl.w.noi (h : Ctl.w .no n b k r) : False := by cases h
end
noncomputable abbrev noP : SE → Prop := fun _ => False
section
variable {g h : SE → Ctl} {ρ ρ' : SE} {n b k : SE → Prop} {r : D → Prop}
theorem zgg (e : (g ρ).w (fun ρ' => (h ρ').w n b k r) b k r) : (zM g h ρ).w n b k r := by
  unfold zM
  cases hg : g ρ with
  | nx ρ' => rw [hg] at e; exact e.nxi
  | bk ρ' => rw [hg] at e; exact .bk e.bki
  | ct ρ' => rw [hg] at e; exact .ct e.cti
  | rt d => rw [hg] at e; exact .rt e.rti
  | no => rw [hg] at e; exact e.noi.elim
theorem wv (e : g ρ = .nx ρ') (q : (h ρ').w n b k r) : (zM g h ρ).w n b k r := zgg (by rw [e]; exact .nx q)
theorem w_nx (e : g ρ = .nx ρ') (q : n ρ') : (g ρ).w n b k r := by rw [e]; exact .nx q
theorem w_rt {d : D} (e : g ρ = .rt d) (q : r d) : (g ρ).w n b k r := by rw [e]; exact .rt q
theorem zeR {bd : D → SE → Option SE} (I : Nat → SE → Prop) : ∀ (ds : List D) (j : Nat) (ρ : SE), I j ρ →
    (∀ i d ρ, ds[i]? = some d → I (j + i) ρ → ∃ ρ1, bd d ρ = some ρ1 ∧ (g ρ1).w (I (j + i + 1)) n (I (j + i + 1)) r) → (∀ ρ, I (j + ds.length) ρ → n ρ) → (zcE bd g ds ρ).w n b k r
  | [], j, ρ, h0, _, fin => .nx (fin ρ h0)
  | d :: ds, j, ρ, h0, step, fin => by
    obtain ⟨ρ1, e1, e2⟩ := step 0 d ρ rfl h0
    unfold zcE
    rw [e1]
    dsimp only
    have next : ∀ ρ', I (j + 1) ρ' → (zcE bd g ds ρ').w n b k r := fun ρ' h' => zeR I ds (j + 1) ρ' h'
      (fun i d' ρ hd hI => by
        have := step (i + 1) d' ρ (by simpa using hd) (by rw [show j + (i + 1) = j + 1 + i by omega]; exact hI)
        rwa [show j + (i + 1) + 1 = j + 1 + i + 1 by omega] at this)
      (fun ρ hI => fin ρ (by rw [List.length_cons, show j + (ds.length + 1) = j + 1 + ds.length by omega]; exact hI))
    cases hg : g ρ1 with
    | nx ρ' => rw [hg] at e2; exact next ρ' e2.nxi
    | ct ρ' => rw [hg] at e2; exact next ρ' e2.cti
    | bk ρ' => rw [hg] at e2; exact .nx e2.bki
    | rt d' => rw [hg] at e2; exact .rt e2.rti
    | no => rw [hg] at e2; exact e2.noi.elim
theorem ziz {f : Ev → Option (List D)} {bd : D → SE → Option SE} {ds : List D} (I : Nat → SE → Prop) (e : f (visF ρ) = some ds) (h0 : I 0 ρ)
    (step : ∀ i d ρ, ds[i]? = some d → I i ρ → ∃ ρ1, bd d ρ = some ρ1 ∧ (g ρ1).w (I (i + 1)) n (I (i + 1)) r) (fin : ∀ ρ, I ds.length ρ → n ρ) : (zaB f bd g ρ).w n b k r := by
  unfold zaB
  rw [e]
  exact zeR I ds 0 ρ h0 (fun i d ρ hd hI => by rw [Nat.zero_add] at hI ⊢; exact step i d ρ hd hI) (fun ρ hI => fin ρ (by rw [Nat.zero_add] at hI; exact hI))
end
theorem fn_w {m : Nat} {g : SE → Ctl} {ds : List D} {d : D} {ρ : SE} (e : ds.map .v ++ List.replicate (m - ds.length) .no = ρ) (q : (g ρ).w (fun _ => d = .non) noP noP (fun d' => d' = d)) : fnD m g ds = some d := by
  unfold fnD
  rw [e]
  cases hg : g ρ with
  | nx ρ' => rw [hg] at q; rw [show d = .non from q.nxi]
  | rt d' => rw [hg] at q; rw [show d' = d from q.rti]
  | bk _ => rw [hg] at q; exact q.bki.elim
  | ct _ => rw [hg] at q; exact q.cti.elim
  | no => rw [hg] at q; exact q.noi.elim
theorem zcf {n : Nat} (h : n ≤ 1000) : lim n = true := by
  unfold lim
  exact decide_eq_true (Nat.le_of_lt (zdb h))
end Dl
namespace Dl
open PySem L2
noncomputable abbrev Pr := Int × Int
variable [KK]
section
variable {X : Cx} {e : Expr} {pos : Pos}
end
end Dl
namespace Dl
open PySem L2
variable [KK]
noncomputable def zev : List D → Option D
  | [.int i] => some (.int i)
  | [.bl k] => some (.int (if k then 1 else 0))
  | _ => none
theorem W8 : CaD (fun xs H Q => (∃ i, xs = [.int i] ∧ Q (.int i) H) ∨ ∃ k, xs = [.bl k] ∧ Q (.int (if k then 1 else 0)) H) zev := by
  intro F H vs ds z Q s al e q
  unfold zev at e
  split at e <;> cases e
  all_goals
    obtain ⟨x, r, rfl, ax, ar⟩ := al.cons_inv
    cases ar.nil_inv
  · exact .inl ⟨_, by rw [ax.int_inv], q F H _ (.refl s) .int⟩
  · exact .inr ⟨_, by rw [ax.bl_inv], q F H _ (.refl s) .int⟩
end Dl
namespace L2
open PySem PySem.Spec PyProof.Rows
section
variable {X : Cx}
end
end L2
namespace Dl
open PySem L2
section
variable [KK] {X : Cx} {a e k : Expr} {pos : Pos}
end
end Dl
namespace Dl
open PySem L2
end Dl
namespace L2
open PySem PySem.Spec PyProof.Rows
section
variable {X : Cx} {tg : Expr}
end
end L2
namespace Dl
open PySem L2
section
variable [KK] {X : Cx} {a b c e : Expr} {tg : Expr} {pos : Pos}
end
end Dl
namespace Dl
open PySem L2
variable [KK]
section
variable {X : Cx} {st : Stmt} {sts : List Stmt} {a e : Expr} {pos : Pos}
end
end Dl
namespace Dl
open PySem L2
variable [KK]
section
variable {X : Cx} {a b : Expr} {pos : Pos}
end
end Dl
namespace Dl
open PySem L2
variable [KK]
section
variable {X : Cx} {a e : Expr}
end
end Dl
namespace Dl
open PySem L2
noncomputable def zh8 : D → Option Key
  | .int i => some (.inl i)
  | .str x => some (.inr x)
  | _ => none
noncomputable def zea : List D → Option (List Key)
  | [] => some []
  | d :: ds => (zh8 d).bind fun k => (zea ds).map (k :: ·)
noncomputable def zg5 : D → Option (List Key)
  | .tup ds => zea ds
  | _ => none
noncomputable def zfQ (t : Bool) (d : D) : Option (List Key) := if t = true then zg5 d else (zh8 d).map ([·])
noncomputable def V1 : List (List Key) → List D → List Key → Option D
  | k' :: ks, v :: vs, k => if k' = k then some v else V1 ks vs k
  | _, _, _ => none
noncomputable def zhD : List (List Key) → List D → List Key → D → List D
  | k' :: ks, v :: vs, k, d => (if k' = k then d else v) :: zhD ks vs k d
  | _, _, _, _ => []
noncomputable def zdA (ks : List (List Key)) (vs : List D) (k : List Key) : List (List Key) := if (V1 ks vs k).isSome = true then ks else ks ++ [k]
noncomputable def zdH (ks : List (List Key)) (vs : List D) (k : List Key) (d : D) : List D := if (V1 ks vs k).isSome = true then zhD ks vs k d else vs ++ [d]
section
variable [KK]
theorem zax {F : Hp} {d : D} {k : Key} {y : V} (h : zh8 d = some k) (a : At F d y) : y = kV k := by
  cases d with
  | int i => cases h; exact a.int_inv
  | str x => cases h; exact a.str_inv
  | _ => cases h
theorem zbd {F : Hp} : ∀ {ds : List D} {ks : List Key} {ys : List V}, zea ds = some ks → AtL F ds ys → ys = ks.map kV
  | [], _, _, h, a => by cases h; exact a.nil_inv
  | d :: ds, _, _, h, a => by
    obtain ⟨k, h1, h2⟩ := Option.bind_eq_some_iff.mp h
    obtain ⟨r, h3, rfl⟩ := Option.map_eq_some_iff.mp h2
    obtain ⟨x, xs, rfl, a1, a2⟩ := a.cons_inv
    rw [zax h1 a1, zbd h3 a2]
    rfl
theorem zag {F : Hp} {d : D} {k : List Key} {y : V} (h : zg5 d = some k) (a : At F d y) : ∃ b, y = .ref b ∧ F b = some (.tup (k.map kV)) := by
  cases d with
  | tup ds =>
    obtain ⟨b, ys, rfl, hb, al⟩ := a.tup_inv
    rw [zbd (show zea ds = some k from h) al] at hb
    exact ⟨b, rfl, hb⟩
  | _ => cases h
section
variable {κ : Type} [DecidableEq κ] (f : κ → List Key) (hf : ∀ a b, f a = f b → a = b)
include hf
theorem W4 {F : Hp} {k : κ} : ∀ {kvs : List (κ × V)} {vs : List D}, AtL F vs (kvs.map (·.2)) →
    (∀ d, V1 (kvs.map fun p => f p.1) vs (f k) = some d → ∃ x, zaV kvs k = some x ∧ At F d x) ∧ (V1 (kvs.map fun p => f p.1) vs (f k) = none → zaV kvs k = none)
  | [], _, _ => ⟨fun d h => (by cases h), fun _ => rfl⟩
  | p :: kvs, [], a => by cases a.nil_inv
  | p :: kvs, v :: vs, a => by
    obtain ⟨x, r, e, a1, a2⟩ := a.cons_inv
    cases e
    have ih := W4 (k := k) a2
    by_cases h : p.1 = k
    · rw [Z9 h]
      have e : V1 ((p :: kvs).map fun p => f p.1) (v :: vs) (f k) = some v := by
        show (if f p.1 = f k then some v else _) = _
        rw [if_pos (by rw [h])]
      rw [e]
      exact ⟨fun d z => (by cases z; exact ⟨_, rfl, a1⟩), fun z => (by cases z)⟩
    · rw [Z7 h]
      have e : V1 ((p :: kvs).map fun p => f p.1) (v :: vs) (f k) = V1 (kvs.map fun p => f p.1) vs (f k) := by
        show (if f p.1 = f k then some v else _) = _
        rw [if_neg (fun z => h (hf _ _ z))]
      rw [e]
      exact ih
theorem zdt {F : Hp} {k : κ} {kvs : List (κ × V)} {vs : List D} (a : AtL F vs (kvs.map (·.2))) : (V1 (kvs.map fun p => f p.1) vs (f k)).isSome = (zaV kvs k).isSome := by
  obtain ⟨h1, h2⟩ := W4 f hf (k := k) a
  cases h : V1 (kvs.map fun p => f p.1) vs (f k) with
  | none => rw [h2 h]; rfl
  | some d => obtain ⟨x, e, _⟩ := h1 d h; rw [e]; rfl
theorem zcs {F : Hp} {k : κ} {d : D} {y : V} (ad : At F d y) : ∀ {kvs : List (κ × V)} {vs : List D}, AtL F vs (kvs.map (·.2)) →
    AtL F (zhD (kvs.map fun p => f p.1) vs (f k) d) ((kvs.map fun kv => if kv.1 = k then (kv.1, y) else kv).map (·.2))
  | [], _, _ => by unfold zhD; exact .nil
  | p :: kvs, [], a => by cases a.nil_inv
  | p :: kvs, v :: vs, a => by
    obtain ⟨x, r, e, a1, a2⟩ := a.cons_inv
    cases e
    have ih := zcs (k := k) ad a2
    rw [List.map_cons, List.map_cons]
    refine AtL.cons ?_ ih
    by_cases h : p.1 = k
    · rw [if_pos h, if_pos (by rw [h])]; exact ad
    · rw [if_neg h, if_neg (fun z => h (hf _ _ z))]; exact a1
theorem zcg {F : Hp} {k : κ} {d : D} {y : V} (ad : At F d y) {kvs : List (κ × V)} {vs : List D} (a : AtL F vs (kvs.map (·.2))) :
    (zaK kvs k y).map (fun p => f p.1) = zdA (kvs.map fun p => f p.1) vs (f k) ∧ AtL F (zdH (kvs.map fun p => f p.1) vs (f k) d) ((zaK kvs k y).map (·.2)) := by
  unfold zaK zdA zdH
  rw [zdt f hf a, Wu]
  cases h : (zaV kvs k).isSome with
  | true =>
    rw [if_pos rfl, if_pos rfl, if_pos rfl]
    refine ⟨?_, zcs f hf ad a⟩
    rw [List.map_map]
    refine List.map_congr_left fun p _ => ?_
    by_cases e : p.1 = k
    · show f (if p.1 = k then (p.1, y) else p).1 = _; rw [if_pos e]
    · show f (if p.1 = k then (p.1, y) else p).1 = _; rw [if_neg e]
  | false =>
    rw [if_neg Bool.false_ne_true, if_neg Bool.false_ne_true, if_neg Bool.false_ne_true, List.map_append, List.map_append]
    exact ⟨rfl, a.append (.cons ad .nil)⟩
end
theorem zb7 (a b : Key) (h : [a] = [b]) : a = b := by cases h; rfl
theorem zeD (a b : List Key) (h : a = b) : a = b := h
theorem zct {F H : Hp} {a : Addr} {z t : Bool} {ks : List (List Key)} {xs : List V} {vs : List D} {kd : D} {k : List Key} {y : V} (s : yK F H) (hd : VD F a z t ks xs) (al : AtL F vs xs) (hk : zfQ t kd = some k) (ak : At F kd y) :
    ∃ o, zga H a y o ∧ (∀ d, V1 ks vs k = some d → ∃ x, o = some x ∧ At F d x) ∧ (V1 ks vs k = none → o = none) := by
  obtain ⟨u, hd, rd⟩ := (hd.mono s).rd
  unfold zaJ at hd
  unfold zfQ at hk
  cases t with
  | true =>
    rw [if_pos rfl] at hd hk
    obtain ⟨kvs, rfl, rfl, rfl⟩ := hd
    obtain ⟨b, rfl, hb⟩ := zag hk ak
    exact ⟨_, .inr ⟨kvs, k, b, rd, rfl, s _ _ hb, rfl⟩, W4 (fun k => k) zeD al⟩
  | false =>
    rw [if_neg Bool.false_ne_true] at hd hk
    obtain ⟨kvs, rfl, rfl, rfl⟩ := hd
    obtain ⟨k0, h2, rfl⟩ := Option.map_eq_some_iff.mp hk
    rw [zax h2 ak]
    exact ⟨_, .inl ⟨kvs, k0, rd, rfl, rfl⟩, W4 (fun k => [k]) zb7 al⟩
theorem ze5 {F H : Hp} {a : Addr} {o : HO} {t : Bool} {ks : List (List Key)} {xs : List V} {vs : List D} {kd d : D} {k : List Key} {y v : V} {G : Hp} (h : H a = some o) (hd : zaJ o t ks xs) (al : AtL F vs xs) (hk : zfQ t kd = some k) (ak : At G kd y) (s : yK G H) (ad : At F d v)
    (hl : ks.length < sizeLine) : ∃ o', zdL H a y v (upd H a o') ∧ zbD F o' (.m t (zdA ks vs k) (zdH ks vs k d)) := by
  unfold zaJ at hd
  unfold zfQ at hk
  cases t with
  | true =>
    rw [if_pos rfl] at hd hk
    obtain ⟨kvs, rfl, rfl, rfl⟩ := hd
    obtain ⟨b, rfl, hb⟩ := zag hk ak
    obtain ⟨q1, q2⟩ := zcg (fun k => k) zeD (k := k) ad al
    refine ⟨_, zdL.t h (s _ _ hb) (by simpa using hl), _, ?_, q2⟩
    unfold zaJ
    rw [if_pos rfl]
    exact ⟨_, rfl, q1, rfl⟩
  | false =>
    rw [if_neg Bool.false_ne_true] at hd hk
    obtain ⟨kvs, rfl, rfl, rfl⟩ := hd
    obtain ⟨k0, h2, rfl⟩ := Option.map_eq_some_iff.mp hk
    rw [zax h2 ak]
    obtain ⟨q1, q2⟩ := zcg (fun k => [k]) zb7 (k := k0) ad al
    refine ⟨_, zdL.k h (by simpa using hl), _, ?_, q2⟩
    unfold zaJ
    rw [if_neg Bool.false_ne_true]
    exact ⟨_, rfl, q1, rfl⟩
noncomputable def zd2 : D → D → Option D
  | .dct _ t ks vs, kd => (zfQ t kd).bind fun k => V1 ks vs k
  | _, _ => none
noncomputable def dinD (neg : Bool) : D → D → Option D
  | kd, .dct _ t ks vs => (zfQ t kd).map fun k => .bl (neg != (V1 ks vs k).isSome)
  | _, _ => none
section
variable {X : Cx} {a b c : Expr} {pos apos : Pos}
theorem zah {k : Nat} {f h : Ev → Option D} (hr : Yk k X.A) (ha : ED X a f) (hb : ED X b h) (hs : zh7 b) : ED X (.Subscript a b pos) (zo zd2 f h) := by
  obtain ⟨ta, pa, ra⟩ := ha
  obtain ⟨tb, pb, rb⟩ := hb
  refine ⟨_, zfa (zdZ hr) pa pb hs, fun σ ρ F H z Q s va e q => ?_⟩
  obtain ⟨x, e1, e⟩ := Option.bind_eq_some_iff.mp e
  obtain ⟨y, e2, e⟩ := Option.bind_eq_some_iff.mp e
  refine ra σ ρ F H x _ s va e1 fun F1 H1 v g1 a1 => ?_
  refine rb σ ρ F1 H1 y _ g1.fh (va.mono g1.ff) e2 fun F2 H2 u g2 a2 => ?_
  cases x with
  | dct z' t ks vs =>
    obtain ⟨kk, h1, h2⟩ := Option.bind_eq_some_iff.mp e
    obtain ⟨p, xs, rfl, hd, al⟩ := (a1.mono g2.ff).dct_inv
    obtain ⟨o, hg, h3, _⟩ := zct g2.fh hd al h1 a2
    obtain ⟨w, rfl, aw⟩ := h3 z h2
    exact ⟨p, w, rfl, hg, q F2 H2 w (g1.trans g2) aw⟩
  | _ => cases e
noncomputable def rDIn (neg : Bool) : R2 := fun x y H Q => ∃ a o, y = .ref a ∧ zga H a x o ∧ Q (.bl (neg != o.isSome)) H
theorem zca {k : Nat} (hr : Yk k X.A) : OpR X (compareOp .NotIn) (rDIn true) := by
  intro pins s σ H x y v u Q I rx ry h
  obtain ⟨a, o, rfl, g, q⟩ := h
  obtain rfl : u = Value.ref a := ry
  exact ze8 (zdZ hr) I g rx fun s3 I3 => ⟨.bl (!o.isSome), H, I3, rfl, by simpa using q⟩
theorem zf0 {neg : Bool} : OpD (rDIn neg) (dinD neg) := by
  intro F H x y d e z Q s a1 a2 h q
  cases e with
  | dct z' t ks vs =>
    obtain ⟨k, h1, rfl⟩ := Option.map_eq_some_iff.mp h
    obtain ⟨p, xs, rfl, hd, al⟩ := a2.dct_inv
    obtain ⟨o, hg, h3, h4⟩ := zct s hd al h1 a1
    refine ⟨p, o, rfl, hg, ?_⟩
    have e : (V1 ks vs k).isSome = o.isSome := by
      cases h : V1 ks vs k with
      | none => rw [h4 h]; rfl
      | some d => obtain ⟨w, rfl, _⟩ := h3 d h; rfl
    rw [← e]
    exact q F H _ (.refl s) .bl
  | _ => cases h
end
section
variable {X : Cx} {a e ko : Expr} {pos pos' : Pos} {st : Stmt}
noncomputable def zh5 (ρ : SE) (i : Nat) (kd d : D) : Option SE := match ρ[i]? with
  | some (.m t ks vs) => (zfQ t kd).bind fun k => if decide (ks.length < sizeLine) = true then some (ρ.set i (.m t (zdA ks vs k) (zdH ks vs k d))) else none
  | _ => none
noncomputable def zfH (m : Bool) (i : Nat) (fk fe : Ev → Option D) : SE → Ctl := fun ρ => match (vEv m fe ρ).bind fun d => (fk (visG ρ)).bind fun kd => zh5 ρ i kd d with
  | some ρ' => .nx ρ'
  | none => .no
theorem ze6 {k : Nat} {m : Bool} {i : Nat} {fk fe : Ev → Option D} (hr : Yk k X.A) (he : ED X e fe) (ho : PE X a (za2 i)) (hk : ED X ko fk) (hs : swapsWith e (some (.Subscript a ko pos')) pos.line X.env = pure false := by rfl) : SD X (.Assign [.Subscript a ko pos'] e pos) (zfH m i fk fe) := by
  obtain ⟨t, p, r⟩ := he
  obtain ⟨tk, pk, rk⟩ := hk
  refine ⟨_, zf1 (zdZ hr) ho pk p hs, fun Fb Hb F H ρ σ E rl k => ?_⟩
  unfold zfH at k
  cases h : (vEv m fe ρ).bind fun d => (fk (visG ρ)).bind fun kd => zh5 ρ i kd d with
  | none => rw [h] at k; exact k.elim
  | some ρ' =>
    rw [h] at k
    obtain ⟨d, e1, e2⟩ := Option.bind_eq_some_iff.mp h
    obtain ⟨kd, e3, e2⟩ := Option.bind_eq_some_iff.mp e2
    unfold zh5 at e2
    split at e2
    · rename_i tt ks vs hs
      obtain ⟨kk, e4, e5⟩ := Option.bind_eq_some_iff.mp e2
      have hl : decide (ks.length < sizeLine) = true := by
        cases hh : decide (ks.length < sizeLine) with
        | true => rfl
        | false => rw [hh, if_neg Bool.false_ne_true] at e5; cases e5
      rw [if_pos hl] at e5
      cases e5
      refine r.at rl e1 fun F' H' v g av => ?_
      have rl2 := rl.grow g
      obtain ⟨q, o, f1, _⟩ := rl2.ows i _ hs rfl
      refine ⟨_, f1, ?_⟩
      refine rk σ _ _ H' _ _ rl2.gh rl2.visG e3 fun F3 H3 v3 g3 av3 => ?_
      obtain ⟨gb, _⟩ := rl2.back g3
      have rl3 := rl2.grow gb
      obtain ⟨q3, o3, f1', _, _, f4, xs, f5, f6⟩ := rl3.ows i _ hs rfl
      rw [f1] at f1'
      cases f1'
      obtain ⟨o', hp, hw⟩ := ze5 f4 f5 f6 e4 av3 g3.fh (av.mono gb.ff) (of_decide_eq_true hl)
      exact ⟨q, _, rfl, hp, k _ _ σ (rl3.mutW hs rfl f1 hw)⟩
    · cases e2
end
end
end Dl
namespace Dl
open PySem L2
variable [KK]
section
variable {X : Cx} {a b e : Expr} {pos pos' : Pos}
end
end Dl
namespace Dl
open PySem L2
variable [KK]
section
variable {X : Cx}
end
end Dl
namespace L2
open PySem PySem.Spec PyProof.Rows
section
variable {prog : Program} {w : World} {A : Around} {E : Value → Shared → Prop} {s : Shared} {d it : Addr} {o : Obj} {es : Array DictEntry} {ep i : Nat}
theorem zdY {Q : Value → Shared → Prop} (hs : (d == sysModules) = false) (ho : s.heap.get? d = some o) (hc : o.ExactDict) (hd : o.data = .dict es ep)
    (hQ : Q (.ref s.heap.objs.size) { s with heap := s.heap.push { cls := .type "dict_keyiterator", data := .fields #[.ref d, .int 0 0, .int es.size 0, .int ep 0] } }) : wpAny (model prog w) A (pyIter (.ref d)) Q E s := by
  have hT : s.TypeIs (.ref d) "dict" := ⟨o, ho, hc.1⟩
  refine wpAny_pyIter_slot hT PySem.F.slot_dict_iter (wpAny_call_entry PySem.F.slot_dict_iter hT PySem.F.entry_dict_iter ?_ (PySem.F.args_dict_iter_1 _))
  unfold Builtin.«dict.__iter__»
  refine wpAny_bind ?_
  unfold Builtin.Dict.dictSlotNone
  refine wpAny_bind (wpAny_notOrdered_dict hT ?_)
  show wpAny _ _ (pure (Value.ref d)) _ _ s
  refine wpAny_pure ?_
  show wpAny _ _ (Builtin.Dict.showsAll d >>= _) _ _ s
  unfold Builtin.Dict.showsAll
  rw [if_neg (by rw [hs]; exact Bool.false_ne_true)]
  refine wpAny_bind (wpAny_pure (wpAny_bind (wpAny_dictEntries ho hd (wpAny_bind (wpAny_dictEpoch ho hd ?_)))))
  refine wpAny_bind (wpAny_newObj_type (wpAny_pure ⟨_, rfl, "dict_keyiterator", _, ⟨_, Heap.get?_push_size _ rfl, rfl⟩, PySem.F.slot_dict_keyiterator_next.lookup, ?_⟩))
  simpa [rawInt] using hQ
theorem zel {e : DictEntry} {Q : Option Value → Shared → Prop} (hit : s.heap.IsKeyIter it d i es.size ep) (ho : s.heap.get? d = some o) (hd : o.data = .dict es ep) (hx : es[i]? = some e)
    (hQ : ∀ h', h'.IsKeyIter it d (i + 1) es.size ep → Heap.SameBut it s.heap h' → Q (some e.key) { s with heap := h' }) : wpAny (model prog w) A (pyNext (.ref it)) Q E s := by
  obtain ⟨oi, hoi, hci, hdi⟩ := id hit
  unfold pyNext
  refine wpAny_bind (wpAny_attempt (wpAny_callSpecial?_slot (name := Str.ofString "__next__") hit.typeIs PySem.F.slot_dict_keyiterator_next
    (wpAny_call_entry PySem.F.slot_dict_keyiterator_next hit.typeIs PySem.F.entry_dict_keyiterator_next ?_ (PySem.F.args_dict_keyiterator_next_1 _))))
  refine wpAny_bind (wpAny_pure ?_)
  refine wpAny_bind ?_
  refine wpAny_bind ?_
  first | refine wpAny_bind (wpAny_typeNameOfWhole_keyiter hit.typeIs (wpAny_pure ?_)) | refine wpAny_bind (wpAny_typeNameOf_keyiter hit.typeIs (wpAny_pure ?_))
  refine wpAny_bind (wpAny_fieldsOf hoi hdi ?_)
  have hown : Builtin.Dict_items.ownsTuple "dict_keyiterator" = false := by decide
  simp only [hown, Bool.false_eq_true, if_false]
  show wpAny _ _ (if (Value.ref d == Value.none) = true then _ else _) _ _ s
  rw [if_neg (show ¬ ((Value.ref d == Value.none) = true) from Bool.false_ne_true)]
  refine wpAny_bind (wpAny_pure (wpAny_bind (wpAny_dictEntries ho hd ?_)))
  rw [if_neg (by simp)]
  refine wpAny_bind (wpAny_pure (wpAny_bind (wpAny_dictEpoch ho hd ?_)))
  rw [if_neg (by simp)]
  refine wpAny_pure ?_
  simp only [show ¬ ((i : Int) < 0) from by omega, if_false, Int.toNat_natCast, hx]
  refine wpAny_bind ?_
  first | refine wpAny_bind (wpAny_typeNameOfWhole_keyiter hit.typeIs (wpAny_pure ?_)) | refine wpAny_bind (wpAny_typeNameOf_keyiter hit.typeIs (wpAny_pure ?_))
  refine wpAny_bind (wpAny_isOneOf_keyiter hit.typeIs ?_)
  show wpAny _ _ (setField (.ref it) 1 (rawInt ((i : Int) + 1)) >>= _) _ _ s
  refine wpAny_bind (wpAny_setField hoi hdi (by simp) ?_)
  have hit' : (s.heap.update it (Obj.mapFields (·.setIfInBounds 1 (rawInt ((i : Int) + 1))))).IsKeyIter it d (i + 1) es.size ep :=
    ⟨_, Heap.get?_update_self _ hoi (Obj.isFreed_of_fields (Obj.data_mapFields hdi _)), (Obj.cls_mapFields ..).trans hci, by rw [Obj.data_mapFields hdi]; simp [rawInt]⟩
  refine wpAny_bind (wpAny_holding ?_)
  refine wpAny_bind (wpAny_isOneOf_keyiter (s := { s with heap := s.heap.update it (Obj.mapFields (·.setIfInBounds 1 (rawInt ((i : Int) + 1)))) }) hit'.typeIs ?_)
  show wpAny _ _ (pure e.key) _ _ _
  exact wpAny_pure (wpAny_pure ⟨_, rfl, wpAny_pure (hQ _ hit' (Heap.SameBut.update ..))⟩)
theorem zfw {Q : Option Value → Shared → Prop} (hh : A.handled = none) (hit : s.heap.IsKeyIter it d i es.size ep) (ho : s.heap.get? d = some o) (hd : o.data = .dict es ep) (hx : es.size ≤ i)
    (hQ : ∀ h', Heap.ExtBut it s.heap h' → Q none { s with heap := h' }) : wpAny (model prog w) A (pyNext (.ref it)) Q E s := by
  obtain ⟨oi, hoi, hci, hdi⟩ := id hit
  unfold pyNext
  refine wpAny_bind (wpAny_attempt (wpAny_callSpecial?_slot (name := Str.ofString "__next__") hit.typeIs PySem.F.slot_dict_keyiterator_next
    (wpAny_call_entry PySem.F.slot_dict_keyiterator_next hit.typeIs PySem.F.entry_dict_keyiterator_next ?_ (PySem.F.args_dict_keyiterator_next_1 _))))
  refine wpAny_bind (wpAny_pure ?_)
  refine wpAny_bind ?_
  refine wpAny_bind ?_
  first | refine wpAny_bind (wpAny_typeNameOfWhole_keyiter hit.typeIs (wpAny_pure ?_)) | refine wpAny_bind (wpAny_typeNameOf_keyiter hit.typeIs (wpAny_pure ?_))
  refine wpAny_bind (wpAny_fieldsOf hoi hdi ?_)
  have hown : Builtin.Dict_items.ownsTuple "dict_keyiterator" = false := by decide
  simp only [hown, Bool.false_eq_true, if_false]
  show wpAny _ _ (if (Value.ref d == Value.none) = true then _ else _) _ _ s
  rw [if_neg (show ¬ ((Value.ref d == Value.none) = true) from Bool.false_ne_true)]
  refine wpAny_bind (wpAny_pure (wpAny_bind (wpAny_dictEntries ho hd ?_)))
  rw [if_neg (by simp)]
  refine wpAny_bind (wpAny_pure (wpAny_bind (wpAny_dictEpoch ho hd ?_)))
  rw [if_neg (by simp)]
  refine wpAny_pure ?_
  simp only [show ¬ ((i : Int) < 0) from by omega, if_false, Int.toNat_natCast, Array.getElem?_eq_none hx]
  refine wpAny_bind ?_
  first | refine wpAny_bind (wpAny_typeNameOfWhole_keyiter hit.typeIs (wpAny_pure ?_)) | refine wpAny_bind (wpAny_typeNameOf_keyiter hit.typeIs (wpAny_pure ?_))
  show wpAny _ _ (setField (.ref it) 0 .none >>= _) _ _ s
  refine wpAny_bind (wpAny_setField hoi hdi (by simp) ?_)
  show wpAny _ _ (newExc (.type "StopIteration") [] >>= _) _ _ _
  refine wpAny_bind ?_
  simp only [newExc, newTuple]
  refine wpAny_bind (wpAny_newObj_type ?_ (by size_fits))
  refine wpAny_bind (m := firstArgMember _ _) (wpAny_of_eq (a := Value.none) (by first | rfl | (simp only [firstArgMember]; rfl)) ?_)
  refine wpAny_newObj_type ?_ (by size_fits)
  simp only [raiseNew]
  refine wpAny_bind (wpAny_handled ?_)
  rw [show A.in1.handled = none from hh]
  refine wpAny_bind (wpAny_pure (wpAny_throw ?_))
  refine wpAny_bind (wpAny_isInstance (T := "StopIteration") (b := true) ⟨_, Heap.get?_push_size _ rfl, rfl⟩ isSubtype_stop ?_)
  exact wpAny_pure (hQ _ (((Heap.SameBut.update ..).extBut.push _).push _))
end
noncomputable def zhe : HO → Nat
  | .dK kvs => kvs.length
  | .dT kvs => kvs.length
  | _ => 0
noncomputable def zan (u : HO) : Prop := (∃ kvs, u = .dK kvs) ∨ ∃ kvs, u = .dT kvs
noncomputable def zhl (H : Hp) (u : HO) (i : Nat) (x : V) : Prop := match u with
  | .dK kvs => ∃ p, kvs[i]? = some p ∧ x = kV p.1
  | .dT kvs => ∃ p b, kvs[i]? = some p ∧ x = .ref b ∧ H b = some (.tup (p.1.map kV))
  | _ => False
theorem zhg {P : Program} {w : World} {k : Key} {v : Value} (h : (yS P w).is k v = true) : yT (kV k) v := by
  rcases yn h with ⟨i, t, rfl, rfl⟩ | ⟨x, t, rfl, rfl⟩
  · exact ⟨t, rfl⟩
  · exact ⟨t, rfl⟩
structure DObj (H : Hp) (a : Addr) (ob : Obj) (u : HO) (es : Array DictEntry) (ep : Nat) : Prop where
  sys : (a == sysModules) = false
  exact_ : ob.ExactDict
  data : ob.data = .dict es ep
  size : es.size = zhe u
theorem zaI {P : Program} {w : World} {H : Hp} {h : Heap} {a : Addr} {ob : Obj} {u : HO} (ok : yV P w H h a (.frz ob u)) (hu : zan u) : h.get? a = some ob ∧ ∃ es ep, DObj H a ob u es ep ∧ ∀ (i : Nat) (e : DictEntry), es[i]? = some e → ∃ x, yT x e.key ∧ zhl H u i x := by
  obtain ⟨e0, ok⟩ := ok
  rcases hu with ⟨kvs, rfl⟩ | ⟨kvs, rfl⟩
  · obtain ⟨_, sys, vs, kv, o, es, ep, e1, ex, dt, ko, pr, nd⟩ := ok
    rw [e0] at e1
    cases e1
    have hl : es.size = vs.length := by rw [← pr.length]; simp
    refine ⟨e0, es, ep, ⟨sys, ex, dt, by rw [hl, ← kv.length]; rfl⟩, fun i e he => ?_⟩
    have hi : i < kvs.length := by
      have := (Array.getElem?_eq_some_iff.mp he).1
      rw [kv.length]; omega
    have hv : i < vs.length := by rw [← kv.length]; exact hi
    have h1 := pr.get? (i := i) (e := e) (k := vs[i].1) (v := vs[i].2) (by simpa using he) (by simp [hv])
    have hk : kvs[i].1 = vs[i].1 := by
      have := congrArg (fun l => l[i]?) kv.keys
      simp only [List.getElem?_map] at this
      rw [List.getElem?_eq_getElem hi, List.getElem?_eq_getElem hv] at this
      exact Option.some.inj this
    exact ⟨kV kvs[i].1, by rw [hk]; exact zhg h1.1, kvs[i], List.getElem?_eq_getElem hi, rfl⟩
  · obtain ⟨_, sys, xs, pr, o, es, ep, e1, ex, dt, he, nd⟩ := ok
    rw [e0] at e1
    cases e1
    have hl : es.size = xs.length := by rw [← Array.length_toList, he, List.length_map]
    have hp := Paired.length pr
    refine ⟨e0, es, ep, ⟨sys, ex, dt, by rw [hl, ← hp]; rfl⟩, fun i e hei => ?_⟩
    have hx : i < xs.length := by
      have := (Array.getElem?_eq_some_iff.mp hei).1
      omega
    have hi : i < kvs.length := by omega
    have e2 : e = entryOfKey (tupleKind (yS P w)) xs[i] := by
      have : es.toList[i]? = some e := by simpa using hei
      rw [he, List.getElem?_map, List.getElem?_eq_getElem hx] at this
      exact (Option.some.inj this).symm
    have rel : ∀ {l : List (List Key × V)} {m : List (List Key × Addr × Value)}, Paired (fun p q => p.1 = q.1 ∧ H q.2.1 = some (.tup (p.1.map kV)) ∧ yT p.2 q.2.2) l m → ∀ (j : Nat) (h1 : j < l.length) (h2 : j < m.length), l[j].1 = m[j].1 ∧ H m[j].2.1 = some (.tup (l[j].1.map kV)) := fun {l m} r => by
      induction r with
      | nil => intro j h1; simp at h1
      | cons h t ih =>
        intro j h1 h2
        cases j with
        | zero => exact ⟨h.1, h.2.1⟩
        | succ j => exact ih j (by simpa using h1) (by simpa using h2)
    obtain ⟨_, r2⟩ := rel pr i hi hx
    subst e2
    exact ⟨.ref xs[i].2.1, rfl, kvs[i], xs[i].2.1, List.getElem?_eq_getElem hi, rfl, r2⟩
noncomputable def Itf (a : Addr) (ob : Obj) (u : HO) : It :=
  ⟨fun i H => H a = some (.frz ob u) ∧ i < zhe u, fun i H x H' => H' = H ∧ zhl H u i x, fun i H => H a = some (.frz ob u) ∧ zhe u ≤ i⟩
theorem zde {P : Program} {w : World} {K : PySem.W.Frag} {tg : Expr} {a it : Addr} {ob : Obj} {u : HO} {es : Array DictEntry} {ep : Nat} (hu : zan u) (hn : es.size = zhe u) (hd : ob.data = .dict es ep) : zej P w K tg (Itf a ob u) [it] it (fun i h => h.IsKeyIter it a i es.size ep) where
  mem := by simp
  obj := fun i h st b hb => by
    have e : b = it := by simpa using hb
    subst e
    obtain ⟨o, e, c, d⟩ := st
    exact ⟨o, e, fun v z => by rw [d] at z; cases z⟩
  keep := fun i h h' st k => by
    obtain ⟨o, e, r⟩ := st
    exact ⟨o, k it (by simp) o e, r⟩
  item := by
    intro X hP hw hK hc i pins s σ H E I hf st hg
    subst hP hw hK
    obtain ⟨e1, hi⟩ := hg
    obtain ⟨e0, es', ep', D, ky⟩ := zaI (I.hok a _ e1) hu
    have e2 := D.data
    rw [hd] at e2
    cases e2
    obtain ⟨f0, f1, f2, f3, f4, f5⟩ := hf it (by simp)
    have hlt : i < es.size := by omega
    obtain ⟨x, rx, kx⟩ := ky i es[i] (Array.getElem?_eq_getElem hlt)
    refine zel st e0 hd (Array.getElem?_eq_getElem hlt) fun h' st' sb => ?_
    have I1 : Inv X pins σ H { s with heap := h' } := I.turned (t' := s.toks) (fun b o hb e => (sb.2 b hb).trans e) f0 f1 f3 f4 f5
    obtain ⟨o, e, c, d⟩ := id st'
    exact ⟨_, rfl, zdS (s := { s with heap := h' }) e c d (by decide) ⟨x, H, I1, rx, ⟨rfl, kx⟩, st', fun b hb => (hf b hb).1⟩⟩
  done := by
    intro X hP hw hK hc i pins s σ H E I hf st hg
    subst hP hw hK
    obtain ⟨e1, hi⟩ := hg
    obtain ⟨e0, es', ep', D, ky⟩ := zaI (I.hok a _ e1) hu
    obtain ⟨f0, f1, f2, f3, f4, f5⟩ := hf it (by simp)
    exact zfw (I.ok.hd hc) st e0 hd (by omega) fun h' eb => ⟨rfl, I.turned (t' := s.toks) (fun b o hb e => eb b o hb e) f0 f1 f3 f4 f5⟩
  self := fun _ _ _ _ _ st h => wpAny_pyIter_keyiter st h
section
variable {X : Cx} {tg : Expr}
noncomputable def zhQ (tl : TE) : TI := fun σ H R => tl σ H fun x H1 => ∃ a ob u, x = .ref a ∧ H1 a = some (.frz ob u) ∧ zan u ∧ R (Itf a ob u) H1
theorem zfn {l : Expr} {tl : TE} (hl : PE X l tl) : PI X tg l (zhQ tl) := by
  intro pins s σ H R I h
  refine thn (hl pins s σ H _ I h) fun v s1 hh9 => ?_
  obtain ⟨x, H1, I1, r1, q1⟩ := hh9
  obtain ⟨a, ob, u, e, e1, hu, q⟩ := q1
  subst e
  cases r1
  obtain ⟨e0, es, ep, D, _⟩ := zaI (I1.hok a _ e1) hu
  refine zdY D.sys e0 D.exact_ D.data ?_
  refine ⟨s1.heap.objs.size, [s1.heap.objs.size], _, _, H1, rfl, I1.kept (t' := s1.toks) fun b o e => Heap.get?_push_of_some _ e, zde hu D.size D.data, ⟨_, Heap.get?_push_size _ rfl, rfl, rfl⟩, fun b hb => ?_, q⟩
  have e : b = s1.heap.objs.size := by simpa using hb
  subst e
  exact I1.fpOk (Nat.le_refl _) (I1.hok.fresh (Nat.le_refl _))
theorem Inv.frz {pins : List (Addr × Obj)} {σ : St} {H : Hp} {s : Shared} {p : Addr} {u : HO} (I : Inv X pins σ H s) (e : H p = some u) (hu : zan u) : ∃ ob, Inv X pins σ (upd H p (.frz ob u)) s := by
  have ok := I.hok p u e
  have mu : Mut (H p) := by
    rw [e]
    rcases hu with ⟨kvs, rfl⟩ | ⟨kvs, rfl⟩ <;> exact True.intro
  rcases hu with ⟨kvs, rfl⟩ | ⟨kvs, rfl⟩
  · obtain ⟨z, sys, vs, kv, o, es, ep, e1, r⟩ := ok
    refine ⟨o, I.write (h' := s.heap) (t' := s.toks) mu (.inl rfl) (fun b u _ e => e) ⟨o, e1⟩ ⟨e1, z, sys, vs, kv, o, es, ep, e1, r⟩⟩
  · obtain ⟨z, sys, xs, pr, o, es, ep, e1, r⟩ := ok
    refine ⟨o, I.write (h' := s.heap) (t' := s.toks) mu (.inl rfl) (fun b u _ e => e) ⟨o, e1⟩ ⟨e1, z, sys, xs, ?_, o, es, ep, e1, r⟩⟩
    exact KT.keeps pr fun b ys eb => by
      rw [zn (zf3 eb e (fun z => nomatch z))]
      exact eb
noncomputable def tFrz (i : Nat) (t : TS) : TS := fun E σ H => ∃ p u, σ[i]? = some (some (.ref p)) ∧ H p = some u ∧ zan u ∧ ∀ ob, t E σ (upd H p (.frz ob u))
theorem zfS {sts : List Stmt} {t : TS} (i : Nat) (h : PSs X sts t) : PSs X sts (tFrz i t) := by
  intro pins s σ H E I q
  obtain ⟨p, u, _, e, hu, q⟩ := q
  obtain ⟨ob, I2⟩ := I.frz e hu
  exact h pins s σ _ E I2 (q ob)
noncomputable def zeW (z : Bool) (tk tv : TE) : TE := fun σ H Q => ∀ p, H p = none → tk σ (upd H p (.dT [])) fun x H1 => tv σ H1 fun y H2 => H2 p = some (.dT []) ∧ ∃ b k, x = .ref b ∧ H2 b = some (.tup (k.map kV)) ∧
  if z = true then ∀ ob, Q (.ref p) (upd H2 p (.frz ob (.dT [(k, y)]))) else Q (.ref p) (upd H2 p (.dT [(k, y)]))
theorem zd1 {z : Bool} {k v : Expr} {pos : Pos} {tk tv : TE} (hu : X.A.units + 1 < cLine) (hk : PE X k tk) (hv : PE X v tv) : PE X (.Dict [some k] [v] pos) (zeW z tk tv) := by
  intro pins s σ H Q I q
  have hn := I.hok.fresh (Nat.le_refl s.heap.objs.size)
  have I1 := I.laid (a := s.heap.objs.size) (o := .dT []) (h' := s.heap.push { cls := .type "dict", data := .dict #[] }) (t' := s.toks) (fun _ _ q => Heap.get?_push_of_some _ q) (Nat.le_refl _) (zdw s.heap I.big)
  refine wpAny_Dict_any (by rfl) rfl (by simp) (by simp) ?_
  refine pairTrees_cons_walk (thn (hk pins _ σ _ _ I1 (q _ hn)) fun u s1 ⟨x, H1, I1, rx, q1⟩ => thn (hv pins s1 σ H1 _ I1 q1) fun w2 s2 hh9 => ?_)
  obtain ⟨y, H2, I2, ry, q2⟩ := hh9
  obtain ⟨e, b, kk, ex, eb, q2⟩ := q2
  subst ex
  obtain rfl : u = Value.ref b := rx
  refine pairTrees_nil_walk ?_
  unfold storeAll
  simp only [List.forIn_cons, List.forIn_nil]
  obtain ⟨zz, hd, xs, rel, dd⟩ := zhA I2.hok e
  cases rel
  refine wpAny_bind (wpAny_bind (wpAny_dictSet_heap (hsz := Nat.zero_le _) (show (tupleKind (yS X.prog X.w)).room X.A from Nat.lt_of_succ_lt hu) (VE I2.hok eb) dd fun h' dd' hs => wpAny_pure (wpAny_pure ?_)))
  have dd2 := dd'
  obtain ⟨q, es, ep, hq, h2, h3, h4, _, h5⟩ := dd'
  have I3 := zad (t' := s2.toks + (tupleKind (yS X.prog X.w)).draws kk) (ob := .dT [(kk, y)]) I2 (by rw [e]; exact True.intro) hs ⟨q, hq⟩ ⟨by show 1 ≤ sizeLine; decide, hd, _, ((show KT H2 [] [] from .nil).put kk eb ry).keeps fun c ys ec => by
    rw [zn (zf3 ec e (fun z => nomatch z))]
    exact ec, q, es, ep, hq, h2, h3, h4, h5⟩
  cases z with
  | false => exact ⟨.ref s.heap.objs.size, _, I3, rfl, by rw [if_neg Bool.false_ne_true] at q2; exact q2⟩
  | true =>
    rw [if_pos rfl] at q2
    obtain ⟨ob, I4⟩ := I3.frz (p := s.heap.objs.size) (u := .dT [(kk, y)]) zq (.inr ⟨_, rfl⟩)
    rw [zay] at I4
    exact ⟨.ref s.heap.objs.size, _, I4, rfl, q2 ob⟩
end
end L2
namespace Dl
open PySem L2
noncomputable def k1D : Key → D
  | .inl i => .int i
  | .inr x => .str x
noncomputable def zeF (t : Bool) (k : List Key) : D := if t = true then .tup (k.map k1D) else match k with
  | [a] => k1D a
  | _ => .non
noncomputable def zeO : D → Option (List D)
  | .dct true t ks _ => some (ks.map (zeF t))
  | _ => none
section
variable [KK]
theorem zeq {F : Hp} (k : Key) : At F (k1D k) (kV k) := by
  cases k with
  | inl i => exact .int
  | inr x => exact .str
theorem zcv {F : Hp} : ∀ ks : List Key, AtL F (ks.map k1D) (ks.map kV)
  | [] => .nil
  | k :: ks => .cons (zeq k) (zcv ks)
theorem zaG {u : HO} {t : Bool} {ks : List (List Key)} {xs : List V} (h : zaJ u t ks xs) : zan u ∧ zhe u = ks.length := by
  unfold zaJ at h
  cases t with
  | true => rw [if_pos rfl] at h; obtain ⟨kvs, rfl, rfl, _⟩ := h; exact ⟨.inr ⟨_, rfl⟩, by rw [List.length_map]; rfl⟩
  | false => rw [if_neg Bool.false_ne_true] at h; obtain ⟨kvs, rfl, rfl, _⟩ := h; exact ⟨.inl ⟨_, rfl⟩, by rw [List.length_map]; rfl⟩
theorem Gr.see {F H : Hp} {b : Addr} {ys : List V} (s : yK F H) (h : H b = some (.tup ys)) : ∃ F', Gr F H F' H ∧ F' b = some (.tup ys) := by
  cases e : F b with
  | some o =>
    have := s _ _ e
    rw [h] at this
    cases this
    exact ⟨F, .refl s, e⟩
  | none =>
    refine ⟨upd F b (.tup ys), ⟨fun p o z => ?_, fun p o z => ?_, fun p o z1 z2 => ⟨?_, z2⟩⟩, zq⟩
    · rw [zn (zl z e)]; exact z
    · by_cases hp : p = b
      · subst hp; rw [zq] at z; cases z; exact h
      · rw [zn hp] at z; exact s p o z
    · by_cases hp : p = b
      · subst hp
        rw [h] at z2
        cases z2
        exact .inr ⟨⟨_, rfl⟩, zq⟩
      · exact .inl (by rw [zn hp]; exact z1)
theorem zhv {F : Hp} {a : Addr} {ob : Obj} {u : HO} {t : Bool} {ks : List (List Key)} {xs : List V} (h : F a = some (.frz ob u)) (hd : zaJ u t ks xs) : zgc (Itf a ob u) F (ks.map (zeF t)) := by
  intro i F2 H2 s1 s2
  have e2 := s2 _ _ (s1 _ _ h)
  obtain ⟨_, hl⟩ := zaG hd
  refine ⟨fun hi => ⟨e2, by rw [hl, hi, List.length_map]; exact Nat.le_refl _⟩, fun d hdi => ?_⟩
  rw [List.getElem?_map] at hdi
  obtain ⟨k, hk, rfl⟩ := Option.map_eq_some_iff.mp hdi
  refine ⟨⟨e2, by rw [hl]; exact (List.getElem?_eq_some_iff.mp hk).1⟩, fun x H3 hy => ?_⟩
  obtain ⟨rfl, hy⟩ := hy
  unfold zaJ at hd
  cases t with
  | true =>
    rw [if_pos rfl] at hd
    obtain ⟨kvs, rfl, rfl, _⟩ := hd
    obtain ⟨p, b, hp, rfl, hb⟩ := hy
    rw [List.getElem?_map, hp] at hk
    cases hk
    obtain ⟨F3, g, hF⟩ := Gr.see s2 hb
    exact ⟨F3, g, .tup hF (zcv _)⟩
  | false =>
    rw [if_neg Bool.false_ne_true] at hd
    obtain ⟨kvs, rfl, rfl, _⟩ := hd
    obtain ⟨p, hp, rfl⟩ := hy
    rw [List.getElem?_map, hp] at hk
    cases hk
    exact ⟨F2, .refl s2, zeq _⟩
section
variable {X : Cx} {tg a b e k v : Expr} {pos pos' : Pos} {sts : List Stmt}
noncomputable def iDct (f : Ev → Option D) : Ev → Option (List D) := fun ρ => (f ρ).bind zeO
theorem ze9 {f : Ev → Option D} (ha : ED X a f) : ID X tg a (iDct f) := by
  obtain ⟨t, p, r⟩ := ha
  refine ⟨_, zfn p, fun σ ρ F H ds R s va e q => ?_⟩
  obtain ⟨d, e1, e2⟩ := Option.bind_eq_some_iff.mp e
  refine r σ ρ F H d _ s va e1 fun F1 H1 v g1 a1 => ?_
  unfold zeO at e2
  split at e2
  · cases e2
    obtain ⟨p, xs, rfl, ⟨u, hd, hz⟩, _⟩ := a1.dct_inv
    rw [if_pos rfl] at hz
    obtain ⟨ob, hz⟩ := hz
    exact ⟨p, ob, u, rfl, g1.fh _ _ hz, (zaG hd).1, q F1 H1 _ g1 (zhv hz hd)⟩
  · cases e2
noncomputable def ziB (i : Nat) (g : SE → Ctl) : SE → Ctl := fun ρ => match ρ[i]? with
  | some (.m t ks vs) => g (ρ.set i (.v (.dct true t ks vs)))
  | _ => .no
theorem Rl.fzM {Fb Hb F H : Hp} {ρ : SE} {σ : St} {i : Nat} {t : Bool} {ks : List (List Key)} {vs : List D} (r : Rl Fb Hb F H ρ σ) (h : ρ[i]? = some (.m t ks vs)) :
    ∃ p u, σ[i]? = some (some (.ref p)) ∧ H p = some u ∧ zan u ∧ ∀ ob, Rl Fb Hb (upd F p (.frz ob u)) (upd H p (.frz ob u)) (ρ.set i (.v (.dct true t ks vs))) σ := by
  obtain ⟨p, u, e1, e2, e3, e4, xs, hd, al⟩ := r.ows i _ h rfl
  refine ⟨p, u, e1, e4, (zaG hd).1, fun ob => ?_⟩
  have hi : i < ρ.length := (List.getElem?_eq_some_iff.mp h).1
  have sF : yK F (upd F p (.frz ob u)) := fun b o e => by rw [zn (zl e e3)]; exact e
  have nj : ∀ {j : Nat} {s : Sl}, (ρ.set i (.v (.dct true t ks vs)))[j]? = some s → s.isO = true → i ≠ j := fun {j s} h ht e => by
    subst e
    rw [List.getElem?_set_self hi] at h
    cases h
    cases ht
  refine ⟨⟨r.gr.ff.trans sF, fun b o z => ?_, fun b o z1 z2 => ?_⟩, fun j d z => ?_, fun j s z ht => ?_, fun j k q s s' h1 h2 o1 o2 h3 h4 => ?_, by simp [r.len]⟩
  · by_cases hb : b = p
    · subst hb; rw [zq] at z ⊢; exact z
    · rw [zn hb] at z ⊢; exact r.gr.fh b o z
  · have hb : b ≠ p := zl z2 e2
    obtain ⟨x, y⟩ := r.gr.kp b o z1 z2
    refine ⟨?_, by rw [zn hb]; exact y⟩
    unfold Hid
    rw [zn hb]
    exact x
  · by_cases hj : i = j
    · subst hj
      rw [List.getElem?_set_self hi] at z
      cases z
      refine ⟨_, e1, ?_⟩
      unfold At
      exact ⟨p, xs, rfl, ⟨u, hd, by rw [if_pos rfl]; exact ⟨ob, zq⟩⟩, al.mono sF⟩
    · rw [List.getElem?_set_ne hj] at z
      obtain ⟨v, f1, f2⟩ := r.vals j d z
      exact ⟨v, f1, f2.mono sF⟩
  · have hj := nj z ht
    rw [List.getElem?_set_ne hj] at z
    obtain ⟨q, y, f1, f2, f3, f4, f5⟩ := r.ows j s z ht
    have hq : q ≠ p := fun w => hj (r.dis i j p _ s h z rfl ht e1 (by rw [← w]; exact f1))
    exact ⟨q, y, f1, f2, by rw [zn hq]; exact f3, by rw [zn hq]; exact f4, f5.mono sF⟩
  · have a1 := nj h1 o1
    have a2 := nj h2 o2
    rw [List.getElem?_set_ne a1] at h1
    rw [List.getElem?_set_ne a2] at h2
    exact r.dis j k q s s' h1 h2 o1 o2 h3 h4
theorem zfF {g : SE → Ctl} (i : Nat) (h : SDs X sts g) : SDs X sts (ziB i g) := by
  obtain ⟨t, p, r⟩ := h
  refine ⟨_, zfS i p, fun Fb Hb F H ρ σ E rl k => ?_⟩
  unfold ziB at k
  split at k
  · rename_i tt ks vs hs
    obtain ⟨q, u, e1, e2, e3, e4⟩ := rl.fzM hs
    exact ⟨q, u, e1, e2, e3, fun ob => r Fb Hb _ _ _ σ E (e4 ob) k⟩
  · exact k.elim
theorem zbU {z : Bool} {tk tv : TE} {fk fv : Ev → Option D} {σ : St} {ρ : Ev} {F H : Hp} {kd d : D} {kk : List Key} {Q : VK} (rk : RE tk fk) (rv : RE tv fv) (s : yK F H) (va : VAt F ρ σ) (e1 : fk ρ = some kd) (e2 : fv ρ = some d) (e3 : zg5 kd = some kk)
    (q : ∀ F2 H2 p y, Gr F H F2 H2 → H p = none → F2 p = none → H2 p = some (.dT []) → At F2 d y → if z = true then ∀ ob, Q (.ref p) (upd H2 p (.frz ob (.dT [(kk, y)]))) else Q (.ref p) (upd H2 p (.dT [(kk, y)]))) : zeW z tk tv σ H Q := by
  intro p hp
  have g0 := Gr.hide s hp (.dT [])
  refine rk σ ρ F _ kd _ g0.fh va e1 fun F1 H1 x g1 a1 => ?_
  refine rv σ ρ F1 H1 d _ g1.fh (va.mono g1.ff) e2 fun F2 H2 y g2 a2 => ?_
  have g12 := g1.trans g2
  obtain ⟨n2, h2⟩ := g12.kl (o := .dT []) (fun _ e => by cases e) (s.free hp) zq
  obtain ⟨b, rfl, hb⟩ := zag e3 a1
  exact ⟨h2, b, kk, rfl, g2.fh _ _ (g2.ff _ _ hb), q F2 H2 p y (g0.trans g12) hp n2 h2 a2⟩
noncomputable def zfs (i : Nat) (fk fv : Ev → Option D) : SE → Ctl := fun ρ => match (fk (visF ρ)).bind fun kd => (fv (visF ρ)).bind fun d => (zg5 kd).map fun k => Sl.m true [k] [d] with
  | some s => .nx (ρ.set i s)
  | none => .no
theorem zfu {n i : Nat} {x : Str} {fk fv : Ev → Option D} (hr : Yk n X.A) (hN : X.N.Nodup) (hi : X.N[i]? = some x) (hx : Loc X.env.scope x) (hk : ED X k fk) (hv : ED X v fv) {p2 : Pos}
    (hs : swapsWith (.Dict [some k] [v] p2) (some (.Name x pos')) pos.line X.env = pure false := by rfl)
    (hf : X.fn x = true ∨ X.env.scope.names.lookup x = some .local := by first | exact .inl rfl | exact .inr rfl | assumption) : SD X (.Assign [.Name x pos'] (.Dict [some k] [v] p2) pos) (zfs i fk fv) := by
  obtain ⟨tk, pk, rk⟩ := hk
  obtain ⟨tv, pv, rv⟩ := hv
  refine ⟨_, ZZ hN hi hx (zd1 (z := false) (zdZ hr) pk pv) hs hf, fun Fb Hb F H ρ σ E rl kk => ?_⟩
  unfold zfs at kk
  cases h : (fk (visF ρ)).bind fun kd => (fv (visF ρ)).bind fun d => (zg5 kd).map fun k => Sl.m true [k] [d] with
  | none => rw [h] at kk; exact kk.elim
  | some s =>
    rw [h] at kk
    obtain ⟨kd, e1, e⟩ := Option.bind_eq_some_iff.mp h
    obtain ⟨d, e2, e⟩ := Option.bind_eq_some_iff.mp e
    obtain ⟨k0, e3, rfl⟩ := Option.map_eq_some_iff.mp e
    refine zbU (z := false) rk rv rl.gr.fh rl.visF e1 e2 e3 fun F2 H2 p y g hp n2 h2 ay => ?_
    rw [if_neg Bool.false_ne_true]
    have g2 : Gr F H F2 (upd H2 p (.dT [(k0, y)])) := by
      refine ⟨g.ff, fun b o z => ?_, fun b o z1 z2 => ?_⟩
      · rw [zn (zl z n2)]; exact g.fh b o z
      · rw [zn (zl z2 hp)]; exact g.kp b o z1 z2
    refine kk F2 _ _ ((rl.grow g2).setW (rl.notbase hp) n2 zq ⟨[y], ?_, .cons ay .nil⟩ (rl.notown hp))
    unfold zaJ
    rw [if_pos rfl]
    exact ⟨_, rfl, rfl, rfl⟩
end
end
end Dl
namespace OwnRep
open PySem Builtin
theorem zfi {α : Type} {M : Model} {A : Around} {E : Value → Shared → Prop} {s : Shared} {c : Bool} {a b : Sem α} {Q : α → Shared → Prop} (hc : c = false) (h : wpAny M A b Q E s) : wpAny M A (if c = true then a else b) Q E s := by rw [hc, if_neg Bool.false_ne_true]; exact h
theorem noFill_tuple_mul : fillsNumberSlot (.type "tuple") "mul" = pure false :=
  fillsNumberSlot_seq (id := "tuple.__mul__") (r := some (.builtin "tuple.__rmul__")) F.slot_tuple_mul.lookup (by decide +kernel) F.slot_tuple_rmul.lookup (by decide +kernel)
theorem repeat_tuple : seqRepeat? (.type "tuple") = pure (some (.builtin "tuple.__mul__")) := by
  unfold seqRepeat?
  rw [seqSlot_of (T := "tuple") (name := "__mul__") (id := "tuple.__mul__") F.slot_tuple_mul.lookup (by decide +kernel), seqSlot_of (T := "tuple") (name := "__rmul__") (id := "tuple.__rmul__") F.slot_tuple_rmul.lookup (by decide +kernel)]
  rfl
theorem int_rmul_tuple (a : Int) (t : Tok) (l : Addr) (items : Array Value) (n : Nat) (dd : Option Addr) (sl : Array (Option Value)) :
    Meets (Builtin.«int.__rmul__» ⟨[.int a t, .ref l], []⟩) (fun _ R s => s.heap.get? l = some { cls := .type "tuple", dict := dd, data := .seq items n, slots := sl } ∧ R (.ok (.ret Value.notImplemented)) s) :=
  .of_wp fun prog w A R s h => by obtain ⟨hp, g, d, tk, os⟩ := s; obtain ⟨hl, h⟩ := h; wp_walk; exact ⟨_, rfl, h⟩
theorem tmul_same (l : Addr) (items : Array Value) (n : Nat) (dd : Option Addr) (sl : Array (Option Value)) (x : Int) (u : Tok) (hc0 : (decide (x < -(2 ^ 63)) || decide (x ≥ 2 ^ 63)) = false) (hc1 : (items.isEmpty || x == 1) = true) :
    Meets (Builtin.«tuple.__mul__» ⟨[.ref l, .int x u], []⟩) (fun _ R s => s.heap.get? l = some { cls := .type "tuple", dict := dd, data := .seq items n, slots := sl } ∧ R (.ok (.ret (Value.ref l))) s) :=
  .of_wp fun prog w A R s h => by obtain ⟨hp, g, d, tk, os⟩ := s; obtain ⟨hl, h⟩ := h; wp_walk; refine zfi hc0 ?_; wp_walk; exact ⟨_, rfl, h⟩
theorem tmul_none (l : Addr) (items : Array Value) (n : Nat) (dd : Option Addr) (sl : Array (Option Value)) (x : Int) (u : Tok) (hc0 : (decide (x < -(2 ^ 63)) || decide (x ≥ 2 ^ 63)) = false) (hc1 : (items.isEmpty || x == 1) = false) (hc2 : (decide (x ≤ 0) || items.isEmpty) = true) :
    Meets (Builtin.«tuple.__mul__» ⟨[.ref l, .int x u], []⟩) (fun _ R s => s.heap.get? l = some { cls := .type "tuple", dict := dd, data := .seq items n, slots := sl } ∧ R (.ok (.ret (Value.ref s.heap.objs.size))) { s with heap := s.heap.push { cls := .type "tuple", data := .seq #[] }, toks := s.toks }) :=
  .of_wp fun prog w A R s h => by obtain ⟨hp, g, d, tk, os⟩ := s; obtain ⟨hl, h⟩ := h; wp_walk; refine zfi hc0 ?_; wp_walk; exact ⟨_, rfl, h⟩
theorem tmul_some (l : Addr) (items : Array Value) (n : Nat) (dd : Option Addr) (sl : Array (Option Value)) (x : Int) (u : Tok) (hc0 : (decide (x < -(2 ^ 63)) || decide (x ≥ 2 ^ 63)) = false) (hc1 : (items.isEmpty || x == 1) = false) (hc2 : (decide (x ≤ 0) || items.isEmpty) = false) (hc3 : ¬ (items.size : Int) * x > (2 ^ 63 - 1) / 8) (hc4 : Builtin.Tuple.tupleTooMany ((items.size : Int) * x) = false) (hc5 : (List.foldl (fun x1 x2 => x1 ++ x2) #[] (List.replicate x.toNat items)).size ≤ sizeLine) :
    Meets (Builtin.«tuple.__mul__» ⟨[.ref l, .int x u], []⟩) (fun _ R s => s.heap.get? l = some { cls := .type "tuple", dict := dd, data := .seq items n, slots := sl } ∧ R (.ok (.ret (Value.ref s.heap.objs.size))) { s with heap := s.heap.push { cls := .type "tuple", data := .seq (List.foldl (fun x1 x2 => x1 ++ x2) #[] (List.replicate x.toNat items)) }, toks := s.toks }) :=
  .of_wp fun prog w A R s h => by obtain ⟨hp, g, d, tk, os⟩ := s; obtain ⟨hl, h⟩ := h; wp_walk; refine zfi hc0 ?_; wp_walk; refine wpAny_ite_false (decide_eq_false hc3) ?_; wp_walk; exact ⟨_, rfl, h⟩
end OwnRep
namespace L2
open PySem
section
variable {X : Cx}
noncomputable def zgU (K : PySem.W.Frag) : R2 := fun x y H Q => ∃ a k xs, x = .ref a ∧ y = .int k ∧ SqT K H a xs ∧ xs ≠ [] ∧ -(2 ^ 63) ≤ k ∧ k < 2 ^ 63 ∧ xs.length * k.toNat ≤ sizeLine ∧
  (k = 1 → Q (.ref a) H) ∧ (k ≠ 1 → ∀ p, H p = none → Q (.ref p) (upd H p (.tup (List.replicate k.toNat xs).flatten)))
theorem zfG : OpR X (binaryOp .Mult) (zgU X.K) := by
  intro pins s σ H x y v u Q I rx ry h
  obtain ⟨a, k, xs, rfl, rfl, ha, hx, h1, h2, hz, q1, q2⟩ := h
  cases rx
  obtain ⟨t, rfl⟩ := ry
  obtain ⟨its, r, ⟨⟨cls, dd, dat, sl⟩, e, hc, n, hd⟩, _⟩ := I.tuple ha
  simp only at hc hd
  subst hc hd
  have hne : its.toArray.isEmpty = false := by
    cases its with
    | nil => exact absurd (r.nil_iff.mp rfl) hx
    | cons _ _ => rfl
  have hc0 : (decide (k < -(2 ^ 63)) || decide (k ≥ 2 ^ 63)) = false := by
    rw [decide_eq_false (by omega), decide_eq_false (by omega)]; rfl
  have hnew : ∀ m : Nat, List.foldl (fun x1 x2 => x1 ++ x2) #[] (List.replicate m its.toArray) = (List.replicate m its).flatten.toArray := fun m => by
    have := XA its m []
    rw [List.nil_append] at this
    exact this
  have hl : ((List.replicate k.toNat its).flatten).length ≤ sizeLine := by rw [zaz, ← r.length, Nat.mul_comm]; exact hz
  have go : ∀ {Q' : Value → Shared → Prop}, wpAny (model X.prog X.w) X.A (call (.builtin "tuple.__mul__") [.ref a, .int k t]) Q' X.xe s → wpAny (model X.prog X.w) X.A (binaryOp .Mult (.ref a) (.int k t)) Q' X.xe s := fun {Q'} w =>
    wpAny_binaryOp_repeat_ref (T := "tuple") (U := "int") (by decide) ⟨_, e, rfl⟩ (fun s' => typeIs_int s' k t) OwnRep.noFill_tuple_mul F.fills_int_mul F.slot_int_rmul OwnRep.repeat_tuple F.slot_int_index.lookup
      (call_meets F.slot_int_rmul (typeIs_int s k t) F.entry_int_rmul (F.args_int_rmul_2 _ _) (OwnRep.int_rmul_tuple k t a its.toArray n dd sl) ⟨e, rfl, ⟨_, e, rfl⟩, w⟩)
  by_cases c1 : k = 1
  · exact go (call_meets F.slot_tuple_mul ⟨_, e, rfl⟩ F.entry_tuple_mul (F.args_tuple_mul_2 _ _) (OwnRep.tmul_same a its.toArray n dd sl k t hc0 (by rw [c1]; simp)) ⟨e, ⟨.ref a, H, I, rfl, q1 c1⟩⟩)
  have hc1 : (its.toArray.isEmpty || k == 1) = false := by rw [hne, Bool.false_or]; exact beq_eq_false_iff_ne.mpr c1
  have fin : ∀ (us : List Value), us = (List.replicate k.toNat its).flatten → EP X pins σ Q (.ref s.heap.objs.size) { s with heap := s.heap.push { cls := .type "tuple", data := .seq us.toArray }, toks := s.toks } := fun us hu => by
    refine ⟨.ref s.heap.objs.size, _, I.laid (t' := s.toks) (o := .tup (List.replicate k.toNat xs).flatten) (fun b ob q => Heap.get?_push_of_some _ q) (Nat.le_refl _) ?_, rfl, q2 c1 _ (I.hok.fresh (Nat.le_refl _))⟩
    refine ⟨by rw [zaz, Nat.mul_comm]; exact hz, us, ?_, PyProof.Rows.IsTup.new _ _⟩
    rw [hu]
    exact r.rep k.toNat
  by_cases c2 : k ≤ 0
  · refine go (call_meets F.slot_tuple_mul ⟨_, e, rfl⟩ F.entry_tuple_mul (F.args_tuple_mul_2 _ _) (OwnRep.tmul_none a its.toArray n dd sl k t hc0 hc1 (by rw [decide_eq_true c2]; rfl)) ⟨e, fin [] ?_⟩)
    rw [show k.toNat = 0 by omega]
    rfl
  · have hsz : (its.toArray.size : Int) * k ≤ (sizeLine : Int) := by
      have : ((its.length * k.toNat : Nat) : Int) ≤ (sizeLine : Int) := by rw [← r.length]; exact Int.ofNat_le.mpr hz
      rw [Int.natCast_mul, Int.toNat_of_nonneg (by omega)] at this
      exact this
    refine go (call_meets F.slot_tuple_mul ⟨_, e, rfl⟩ F.entry_tuple_mul (F.args_tuple_mul_2 _ _) (OwnRep.tmul_some a its.toArray n dd sl k t hc0 hc1 (by rw [hne, Bool.or_false]; exact decide_eq_false c2) ?_ ?_ ?_) ⟨e, ?_⟩)
    · have : (sizeLine : Int) ≤ (2 ^ 63 - 1) / 8 := by decide
      omega
    · unfold Builtin.Tuple.tupleTooMany
      exact decide_eq_false (by omega)
    · rw [hnew, List.size_toArray]
      exact hl
    · rw [hnew]
      exact fin _ rfl
end
end L2
namespace Dl
open PySem L2
section
variable [KK]
noncomputable def VP : D → D → Option D
  | .tup a, .int k => if a ≠ [] ∧ -(2 ^ 63) ≤ k ∧ k < 2 ^ 63 ∧ lim (a.length * k.toNat) = true then some (.tup (List.replicate k.toNat a).flatten) else none
  | _, _ => none
theorem zds {K : PySem.W.Frag} : OpD (zgU K) VP := by
  intro F H x y d e z Q s ax ay ez q
  cases d <;> try cases ez
  cases e <;> try cases ez
  rename_i ds k
  unfold VP at ez
  dsimp only at ez
  split at ez <;> cases ez
  rename_i hl
  obtain ⟨p, xs, rfl, hx, al⟩ := ax.tup_inv
  refine ⟨p, k, xs, rfl, ay.int_inv, SqT.of (s _ _ hx), fun e => hl.1 ?_, hl.2.1, hl.2.2.1, by rw [al.length]; exact of_decide_eq_true hl.2.2.2, fun e => ?_, fun _ r hr => ?_⟩
  · subst e
    exact List.length_eq_zero_iff.mp al.length.symm
  · subst e
    refine q F H _ (.refl s) ?_
    show At F (.tup (List.replicate 1 ds).flatten) _
    rw [show (List.replicate 1 ds).flatten = ds by simp]
    exact .tup hx al
  · have g := Gr.alloc s hr (.tup (List.replicate k.toNat xs).flatten)
    exact q _ _ _ g (.tup zq ((al.rep _).mono g.ff))
section
variable {X : Cx} {a b : Expr} {pos : Pos}
theorem zb0 {f h : Ev → Option D} (ha : ED X a f) (hb : ED X b h) : ED X (.BinOp a .Mult b pos) (zo VP f h) := ZW zfG zds ha hb
end
end
end Dl
namespace L2
open PySem PySem.Spec PyProof.Rows
end L2
namespace Dl
open PySem L2
variable [KK]
end Dl
namespace PySem
open Sem (wp)
namespace OwnRev
theorem lri_slot_hint : Slot "list_reverseiterator" "__length_hint__" "list_reverseiterator.__length_hint__" :=
  .of (owner := "list_reverseiterator") (n := "__length_hint__") (by rw [typeLookup_type, builtinLookup_eq_fast]; kernel_rfl) (by decide +kernel) (by decide +kernel) (by decide +kernel)
    (by first | exact .inl (by decide +kernel) | exact .inr (by decide +kernel)) (by rw [isSubtype_type]; kernel_rfl)
theorem lri_no_len : typeLookup (.type "list_reverseiterator") "__len__" = pure none := by rw [typeLookup_type, builtinLookup_eq_fast]; kernel_rfl
theorem lri_sub_self : isSubtype (.type "list_reverseiterator") (.type "list_reverseiterator") = pure true := by rw [isSubtype_type]; kernel_rfl
end OwnRev
section
variable {prog : Program} {w : World} {A : Around} {E : Value → Shared → Prop} {s : Shared}
theorem Vp {I l : Addr} {i : Int} {Q : Bool → Shared → Prop} (he : s.heap.IsRevIter I l i) (hQ : Q false s) : wpAny (model prog w) A (Builtin.List.listLengthHint (.ref I)) Q E s := by
  have hT := he.typeIs
  unfold Builtin.List.listLengthHint
  refine wpAny_bind (wpAny_specialOf hT OwnRev.lri_no_len ?_)
  try dsimp only
  show wpAny _ _ (if false = true then _ else (if false = true then _ else _)) _ _ _
  rw [if_neg Bool.false_ne_true, if_neg Bool.false_ne_true]
  refine wpAny_bind (wpAny_specialOf hT OwnRev.lri_slot_hint.lookup ?_)
  try dsimp only
  have hsp : splitId "list_reverseiterator.__length_hint__" = some ("list_reverseiterator", "__length_hint__") := by decide +kernel
  rw [hsp]
  try dsimp only
  refine wpAny_bind (wpAny_isInstance (T := "list_reverseiterator") (b := true) hT OwnRev.lri_sub_self ?_)
  rw [if_neg (by decide)]
  show wpAny _ _ (if true = true then _ else _) _ _ _
  rw [if_pos rfl, if_neg (by decide)]
  exact wpAny_pure hQ
theorem Ve {I l : Addr} {items : Array Value} {Q : Value → Shared → Prop} (hh : A.handled = none) (he : s.heap.IsRevIter I l ((items.size : Int) - 1)) (hl : s.heap.IsList l items) (hne : l ≠ I) (hsz : items.size ≤ sizeLine)
    (hQ : ∀ (h' : Heap) (c' tk : Nat), (∀ b o, b ≠ I → s.heap.get? b = some o → h'.get? b = some o) →
      h'.get? s.heap.objs.size = some { cls := .type "list", dict := none, data := .seq items.toList.reverse.toArray c', slots := #[] } → Q (.ref s.heap.objs.size) { s with heap := h', toks := tk }) :
    wpAny (model prog w) A (call (.type "list") [.ref I]) Q E s := by
  have hIl : I < s.heap.objs.size := by obtain ⟨o, ho, _⟩ := he; exact Heap.lt_size ho
  have hll : l < s.heap.objs.size := by obtain ⟨o, ho, _⟩ := hl; exact Heap.lt_size ho
  have hSI : s.heap.objs.size ≠ I := Nat.ne_of_gt hIl
  have hSf : s.heap.objs.size ∉ [I, l] := fun hm => by
    rcases List.mem_cons.mp hm with h | h
    · exact hSI h
    · exact Nat.ne_of_gt hll (List.mem_singleton.mp h)
  have W := Walks.listRev (prog := prog) (w := w) (A := A.in1.in1) hh I l hne items
  have ends : ∀ acc : Array Value, ItemsOf (fun i v => items[items.size - 1 - i]? = some v) acc items.size → acc = items.toList.reverse.toArray := fun acc ha => by
    apply Array.ext'
    apply List.ext_getElem?
    intro i
    by_cases hi : i < items.size
    · have e1 : acc[i]? = some (acc[i]'(by rw [ha.1]; exact hi)) := Array.getElem?_eq_getElem _
      have e2 := ha.2 i _ e1
      show acc.toList[i]? = items.toList.reverse[i]?
      rw [List.getElem?_reverse (by simpa using hi)]
      simp only [Array.getElem?_toList, Array.length_toList]
      rw [e1, e2]
    · rw [List.getElem?_eq_none (by simp [ha.1]; omega), List.getElem?_eq_none (by simp; omega)]
  refine callType_codes (Q₁ := fun obj s₁ => obj = .ref s.heap.objs.size ∧ s₁ = { s with heap := s.heap.push { cls := .type "list", data := .seq #[] } }) F.called_list (F.typeCall_list_1 _) F.entry_list_init
    (code_list_new _ ⟨rfl, rfl⟩) fun obj s₁ h₁ => ?_
  obtain ⟨rfl, rfl⟩ := h₁
  have hS : (s.heap.push { cls := .type "list", data := .seq #[] }).get? s.heap.objs.size = some { cls := .type "list", data := .seq #[] } := Heap.get?_push_size _ rfl
  refine ⟨⟨_, hS, rfl⟩, F.args_list_init_2 _ _, ?_⟩
  show wpAny _ A.in1.in1 (do let old ← Builtin.List.listItems (.ref s.heap.objs.size); Builtin.List.listUpdate (.ref s.heap.objs.size) (fun _ => #[]); letGo old.toList.reverse; Builtin.List.listExtendWith (.ref s.heap.objs.size) (.ref I) .none) _ _ _
  refine wpAny_bind ?_
  unfold Builtin.List.listItems
  refine wpAny_bind (wpAny_seqItems hS rfl (wpAny_pure ?_))
  show wpAny _ A.in1.in1 (updateSeq s.heap.objs.size (fun _ => #[]) >>= fun _ => letGo (#[] : Array Value).toList.reverse >>= fun _ => Builtin.List.listExtendWith (.ref s.heap.objs.size) (.ref I) .none) _ _ _
  refine wpAny_bind (wpAny_updateSeq hS rfl ?_)
  have hS2 := Heap.get?_update_self (Obj.mapSeq (fun _ => (#[] : Array Value))) hS rfl
  have oth : ∀ b o, b ≠ s.heap.objs.size → s.heap.get? b = some o → ((s.heap.push { cls := .type "list", data := .seq #[] }).update s.heap.objs.size (Obj.mapSeq (fun _ => (#[] : Array Value)))).get? b = some o :=
    fun b o hb e => (Heap.get?_update_other _ _ (Ne.symm hb)).trans (Heap.get?_push_of_some _ e)
  refine wpAny_bind (wpAny_letGo ?_)
  have he1 := he.at (h' := (s.heap.push { cls := .type "list", data := .seq #[] }).update s.heap.objs.size (Obj.mapSeq (fun _ => (#[] : Array Value)))) fun o e => oth I o (Ne.symm hSI) e
  have hl1 : ((s.heap.push { cls := .type "list", data := .seq #[] }).update s.heap.objs.size (Obj.mapSeq (fun _ => (#[] : Array Value)))).IsList l items := hl.at fun o e => oth l o (Nat.ne_of_lt hll) e
  unfold Builtin.List.listExtendWith
  refine wpAny_bind (wpAny_typeOf he1.typeIs ?_)
  have h1 : Builtin.List.listSameRef (.ref s.heap.objs.size) (.ref I) = false := by simp [Builtin.List.listSameRef, hSI]
  have h2 : (Value.type "list_reverseiterator" == Value.type "list") = false := by decide
  have h3 : (Value.type "list_reverseiterator" == Value.type "tuple") = false := by decide
  simp only [h1, h2, h3, Bool.or_false, Bool.false_eq_true, if_false]
  refine wpAny_bind (wpAny_pyIter_revIter he1 ?_)
  refine wpAny_bind (wpAny_holding (Vp he1 ?_))
  show wpAny _ A.in1.in1 (if false = true then _ else _) _ _ _
  rw [if_neg Bool.false_ne_true]
  refine wpAny_pure ⟨plainId_quiet F.plain_extend_loop _, codeAny_extend_loopS W.toS hsz _ hSf _ items.size 0 _ #[] _ rfl (Nat.zero_le _) ⟨Nat.zero_le _, ?_, hl1⟩ hS2 (ItemsOf.nil _) fun s' acc' c' hm hS' hacc => ?_⟩
  · have : (items.size : Int) - 1 - ((0 : Nat) : Int) = (items.size : Int) - 1 := by omega
    rw [this]
    exact he1
  · refine ⟨rfl, ?_⟩
    rw [ends _ hacc] at hS'
    obtain ⟨h', g', d', tk', os'⟩ := s'
    have e1 : g' = s.gens := hm.gens
    have e2 : d' = s.drawn := hm.drawn
    have e3 : os' = s.os := hm.os
    subst e1 e2 e3
    refine hQ h' c' tk' (fun b o hb q => hm.heap b o (fun hmem => ?_) (oth b o (Nat.ne_of_lt (Heap.lt_size q)) q)) hS'
    rcases List.mem_cons.mp hmem with h | h
    · exact Nat.ne_of_lt (Heap.lt_size q) h
    · exact hb (List.mem_singleton.mp h)
end
end PySem
namespace L2
open PySem PySem.Spec PyProof.Rows
noncomputable def tLR (K : PySem.W.Frag) (ta : TE) : TE := fun σ H Q => ta σ H fun x H1 => ∃ a xs, x = .ref a ∧ SqL K H1 a xs ∧ ∀ l, H1 l = none → Q (.ref l) (upd H1 l (.lst xs.reverse))
theorem zbH {X : Cx} {a : Expr} {ta : TE} {p1 p2 pos1 pos2 : Pos} (hc : X.calm = true) (hg1 : Gl X "list") (hm1 : X.mg "list" = none) (hb1 : bootBuiltins "list" = some (.type "list")) (hg2 : Gl X "reversed") (hm2 : X.mg "reversed" = none) (hb2 : bootBuiltins "reversed" = some (.type "reversed")) (ha : PE X a ta)
    (hs : starEach [a] X.env = [(false, eval a X.env)] := by rfl) (hs2 : starEach [.Call (.Name "reversed" p2) [a] [] pos2] X.env = [(false, eval (.Call (.Name "reversed" p2) [a] [] pos2) X.env)] := by rfl) : PE X (.Call (.Name "list" p1) [.Call (.Name "reversed" p2) [a] [] pos2] [] pos1) (tLR X.K ta) := by
  intro pins s σ H Q I h
  refine Call_ (YA I hg1 hm1 hb1 (PyProof.Rows.callWith_type1 (Q := EP X pins σ Q) ?_ hs2 rfl))
  rw [hs2]
  show wpAny _ _ (spliced ((false, eval (.Call (.Name "reversed" p2) [a] [] pos2) X.env) :: [])) _ _ _
  refine Calls.spliced_cons ?_
  refine Call_ (YA I hg2 hm2 hb2 (PyProof.Rows.callWith_type1 ?_ hs rfl))
  rw [hs]
  show wpAny _ _ (spliced ((false, eval a X.env) :: [])) _ _ _
  refine Calls.spliced_cons (thn (ha pins s σ H _ I h) fun v s1 hh9 => ?_)
  obtain ⟨x, H1, I1, r1, q1⟩ := hh9
  obtain ⟨t, xs, rfl, hx, q⟩ := q1
  cases r1
  obtain ⟨its, rv, pt, hz⟩ := I1.list hx
  have hlen : its.toArray.size ≤ sizeLine := by rw [List.size_toArray, ← rv.length]; exact hz
  have lt : t < s1.heap.objs.size := by
    obtain ⟨o, ho, _⟩ := pt.isList
    exact Heap.lt_size ho
  refine Calls.spliced_nil ?_
  refine call_reversed_list pt.isList ?_
  refine Calls.spliced_nil ?_
  refine Ve (I := s1.heap.objs.size) (l := t) (items := its.toArray) (I.ok.hd hc) ⟨_, Heap.get?_push_size _ rfl, rfl, rfl⟩ (pt.isList.at fun o e => Heap.get?_push_of_some _ e) (Nat.ne_of_lt lt) hlen fun h' c' tk' hk hS => ?_
  have hS' : h'.get? (s1.heap.push (revObj t (((its.toArray.size : Nat) : Int) - 1))).objs.size = some { cls := .type "list", dict := none, data := .seq its.reverse.toArray c', slots := #[] } := hS
  refine ⟨.ref _, _, I1.laid (t' := tk') (a := (s1.heap.push (revObj t (((its.toArray.size : Nat) : Int) - 1))).objs.size) (fun b o e => hk b o (Nat.ne_of_lt (Heap.lt_size e)) (Heap.get?_push_of_some _ e)) ?_ (show yV X.prog X.w _ h' _ (.lst xs.reverse) from ⟨by rw [List.length_reverse]; exact hz, its.reverse, c', rv.reverse, hS'⟩), rfl, q _ (I1.hok.fresh ?_)⟩
  all_goals exact Nat.le_of_lt (by rw [Heap.push]; simp)
end L2
namespace Dl
open PySem L2 PySem.Spec PyProof.Rows
variable [KK] {X : Cx} {e : Expr}
noncomputable def revD : D → Option (List D)
  | .lst ds => some ds.reverse
  | _ => none
noncomputable def zhN (f : Ev → Option D) : Ev → Option (List D) := fun ρ => (f ρ).bind revD
theorem Wh {p1 p2 pos1 pos2 : Pos} {f : Ev → Option D} (hc : X.calm = true) (hg1 : Gl X "list") (hm1 : X.mg "list" = none) (hg2 : Gl X "reversed") (hm2 : X.mg "reversed" = none) (ha : ED X e f)
    (hs : starEach [e] X.env = [(false, eval e X.env)] := by rfl) (hs2 : starEach [.Call (.Name "reversed" p2) [e] [] pos2] X.env = [(false, eval (.Call (.Name "reversed" p2) [e] [] pos2) X.env)] := by rfl) :
    FL X (.Call (.Name "list" p1) [.Call (.Name "reversed" p2) [e] [] pos2] [] pos1) (zhN f) := by
  obtain ⟨t, pa, ra⟩ := ha
  refine ⟨_, zbH hc hg1 hm1 zcO hg2 hm2 zav pa hs hs2, fun σ ρ F H z Q s va e q => ?_⟩
  obtain ⟨d, e1, e2⟩ := Option.bind_eq_some_iff.mp e
  refine ra σ ρ F H d _ s va e1 fun F1 H1 v g1 a1 => ?_
  unfold revD at e2
  split at e2 <;> cases e2
  obtain ⟨p, xs, rfl, hx, bl⟩ := a1.lst_inv
  exact ⟨p, xs, rfl, SqL.of (g1.fh _ _ hx), fun l hl => q _ _ _ _ (g1.trans (Gr.hide g1.fh hl _)) (zdU g1 hl) (g1.fh.free hl) zq bl.reverse⟩
end Dl
namespace OwnSet
open PySem
end OwnSet
namespace OwnSet
open PySem
section
variable {prog : Program} {w : World} {A : Around} {E : Value → Shared → Prop} {s : Shared}
end
end OwnSet
namespace OwnSet
open PySem
section
variable {prog : Program} {w : World} {A : Around} {E : Value → Shared → Prop} {s : Shared}
end
section
variable {prog : Program} {w : World} {A : Around} {R : Result → Shared → Prop} {I : Addr} {fp wr : List Addr} {G : Array GenState → Array GenState → Prop} {n : Nat} {P : Nat → Value → Prop} {St : Nat → Shared → Prop}
end
section
variable {prog : Program} {w : World} {A : Around} {E : Value → Shared → Prop} {s : Shared}
end
end OwnSet
namespace OwnSet
open PySem
section
variable {prog : Program} {w : World} {A : Around} {E : Value → Shared → Prop} {s : Shared}
end
end OwnSet
namespace OwnSet
open PySem
section
variable {prog : Program} {w : World} {A : Around} {E : Value → Shared → Prop} {s : Shared}
end
end OwnSet
namespace OwnSet
open PySem
section
variable {prog : Program} {w : World} {A : Around} {E : Value → Shared → Prop} {s : Shared}
end
end OwnSet
namespace OwnSet
open PySem
section
variable {prog : Program} {w : World} {A : Around} {E : Value → Shared → Prop} {s : Shared}
end
end OwnSet
namespace OwnSet
open PySem
section
variable {prog : Program} {w : World} {A : Around} {E : Value → Shared → Prop} {s : Shared}
end
end OwnSet
namespace OwnSet
open PySem PyProof.Rows
section
variable {prog : Program} {w : World} {A : Around} {E : Value → Shared → Prop} {s : Shared}
end
end OwnSet
namespace L2
open PySem PySem.Spec PyProof.Rows
end L2
namespace Dl
open PySem L2 PySem.Spec PyProof.Rows
variable [KK] {X : Cx} {e : Expr}
end Dl
namespace Dl
open PySem L2 PySem.Spec PyProof.Rows
variable [KK] {X : Cx} {a b : Expr} {pos apos : Pos}
end Dl
namespace L2
open PySem PySem.Spec PyProof.Rows
theorem zbh {h₀ : Heap} {k : Str} {P : Value → Prop} : ∀ {D : List (Str × KTD.Dat)}, (∀ d, KTD.datumAt k D = some d → KTD.Opened h₀ P d) → KTD.EachL h₀ k P D
  | [], _ => trivial
  | [(x, d)], h => fun e => h d (by show (if decide (k = x) = true then some d else none) = _; rw [if_pos (decide_eq_true e)])
  | (x, d) :: q :: D, h => by
    show if decide (k = x) = true then KTD.Opened h₀ P d else KTD.EachL h₀ k P (q :: D)
    by_cases e : k = x
    · rw [if_pos (decide_eq_true e)]
      exact h d (by show (if decide (k = x) = true then some d else _) = _; rw [if_pos (decide_eq_true e)])
    · rw [if_neg (by rw [decide_eq_false e]; exact Bool.false_ne_true)]
      refine zbh fun d' h' => h d' ?_
      show (if decide (k = x) = true then some d else KTD.datumAt k (q :: D)) = _
      rw [if_neg (by rw [decide_eq_false e]; exact Bool.false_ne_true), h']
theorem Wl : ∀ {ns : List Int} {vs : List Value}, KTD.Flats vs (ns.map PyData.int) → yC (ns.map V.int) vs
  | [], _, h => by cases h; exact .nil
  | n :: ns, _, h => by
    cases h with
    | cons h1 h2 =>
      obtain ⟨t, rfl⟩ := h1.int_inv
      exact .cons ⟨t, rfl⟩ (Wl h2)
section
variable {X : Cx} {a : Addr} {D : List (Str × KTD.Dat)} {nm : Str} {b : Expr} {p pos : Pos} {tb : TE}
noncomputable def zht (a : Addr) (D : List (Str × KTD.Dat)) : R2 := fun x y H Q => ∃ s, x = .str s ∧ y = .ref a ∧ Q (.bl (KTD.inKeys s D)) H
theorem zen (T : ∀ h : Heap, X.K.In h → KTD.TextTab h a D) : OpR X (compareOp .In) (zht a D) := by
  intro pins s σ H x y v u Q I rx ry h
  obtain ⟨z, rfl, rfl, q⟩ := h
  obtain ⟨t, rfl⟩ := rx
  cases ry
  exact KTD.in_text ⟨T _ I.kIn, fun _ _ e => e⟩ ⟨.bl _, H, I.tok _, rfl, q⟩
noncomputable def tTab (D : List (Str × KTD.Dat)) (base : Heap) (tb : TE) : TE := fun σ H Q => tb σ H fun y H1 => ∃ (z : Str) (ns : List Int), y = .str z ∧ KTD.datumAt z D = some (.tup (ns.map PyData.int)) ∧ ∀ p its, IsTup base p (List.toArray its) → yC (ns.map V.int) its → Q (.ref p) H1
theorem zhd (T : ∀ h : Heap, X.K.In h → KTD.TextTab h a D) (hg : Gl X nm) (hm : X.mg nm = some (.ref a)) (hb : PE X b tb) (hs : XR b) (hd : (nm == ("__debug__" : Str)) = false := by decide) : PE X (.Subscript (.Name nm p) b pos) (tTab D X.base tb) := by
  intro pins s σ H Q I h
  refine Subscript_ (Zp I hg hm (thn (hb pins s σ H _ I h) fun u s1 hq => ?_) hd)
  obtain ⟨y, H1, I1, ry, z, ns, rfl, hz, q⟩ := hq
  obtain ⟨t, rfl⟩ := ry
  have hin : KTD.inKeys z D = true := by rw [← KTD.isSome_datumAt, hz]; rfl
  refine KTD.item_text (h₀ := X.base) ⟨T _ I.mod.kin, I1.bk⟩ hin (zbh fun d hd => ?_) (hs _ _) (by intro _; with_unfolding_all rfl)
  rw [hz] at hd
  cases hd
  exact fun p its h1 h2 => ⟨.ref p, H1, I1.tok _, rfl, q p its h1 (Wl h2)⟩
noncomputable def rIxB (base : Heap) : R2 := fun x y H Q => ∃ p its xs i v, x = .ref p ∧ y = .int i ∧ IsTup base p (List.toArray its) ∧ yC xs its ∧ xs.length ≤ sizeLine ∧ atI xs i = some v ∧ Q v H
theorem zfo : IxR X (rIxB X.base) := by
  intro value slice pins s σ H x y v u Q I rx ry h hs
  obtain ⟨p, its, xs, i, z, rfl, rfl, hq, r, hz, he, q⟩ := h
  cases rx
  obtain ⟨t, rfl⟩ := ry
  have pl : IsTup s.heap p its.toArray := by
    obtain ⟨o, ho, hc, n, hd⟩ := hq
    exact ⟨o, I.bk _ _ ho, hc, n, hd⟩
  obtain ⟨j, h1, h2, h3, h4, h5⟩ := WI he
  obtain ⟨w, ew, rw'⟩ := r.get h2
  have hl := r.length
  have hn := XC
  have fin : EP X pins σ Q w s := ⟨z, H, I, rw', q⟩
  exact subscriptTail_builtinR (x := w) pl.typeIs slot_tuple_getitem.lookup
    (getItem_tuple (j := j) (Q := fun r s' => r = w ∧ EP X pins σ Q r s') pl (by omega) (by omega) (by rw [List.size_toArray, ← hl]; exact h1) (by simpa using ew) ⟨rfl, fin⟩) hs
end
end L2
namespace Dl
open PySem L2 PySem.Spec PyProof.Rows
variable [KK] {X : Cx} {a : Addr} {T : List (Str × KTD.Dat)} {nm : Str} {b : Expr} {p p2 p3 pos : Pos} {f : Ev → Option D}
noncomputable abbrev zdo := List (Str × List Int)
noncomputable def VG (t : zdo) : List (Str × KTD.Dat) := t.map fun q => (q.1, .tup (q.2.map PyData.int))
noncomputable def XW : zdo → Str → Option (List Int)
  | [], _ => none
  | q :: t, x => if x = q.1 then some q.2 else XW t x
omit [KK] in
theorem Xm (x : Str) : ∀ t : zdo, KTD.datumAt x (VG t) = (XW t x).map fun ns => KTD.Dat.tup (ns.map PyData.int)
  | [] => rfl
  | q :: t => by
    show (if decide (x = q.1) = true then some (KTD.Dat.tup (q.2.map PyData.int)) else KTD.datumAt x (VG t)) = (if x = q.1 then some q.2 else XW t x).map _
    by_cases h : x = q.1
    · rw [if_pos (decide_eq_true h), if_pos h]; rfl
    · rw [if_neg (by rw [decide_eq_false h]; exact Bool.false_ne_true), if_neg h, Xm x t]
noncomputable def zez (t : zdo) : D → Option D
  | .str x => some (.bl (XW t x).isSome)
  | _ => none
noncomputable def zcC (t : zdo) (i : Int) : D → Option D
  | .str x => (XW t x).bind fun ns => (atI ns i).map D.int
  | _ => none
theorem zdI {t : zdo} (T : ∀ h : Heap, X.K.In h → KTD.TextTab h a (VG t)) (hg : Gl X nm) (hm : X.mg nm = some (.ref a)) (hb : ED X b f) (hk : behindInMarks .In (.Name nm p) = false := by with_unfolding_all rfl) (hd : (nm == ("__debug__" : Str)) = false := by decide) :
    ED X (.Compare b [.In] [.Name nm p] pos) (eUn (zez t) f) := by
  obtain ⟨tb, pb, rb⟩ := hb
  refine ⟨_, zdf (zen T) pb (yP (v := .ref a) hg hm rfl hd) hk, fun σ ρ F H z Q s va e q => ?_⟩
  obtain ⟨d, e1, e2⟩ := Option.bind_eq_some_iff.mp e
  refine rb σ ρ F H d _ s va e1 fun F1 H1 v g1 a1 => ?_
  cases d with
  | str x =>
    cases e2
    cases a1.str_inv
    refine ⟨x, rfl, rfl, ?_⟩
    rw [← KTD.isSome_datumAt, Xm, Option.isSome_map]
    exact q F1 H1 _ g1 .bl
  | _ => cases e2
theorem zaQ {t : zdo} {i : Int} {j : Nat} (T : ∀ h : Heap, X.K.In h → KTD.TextTab h a (VG t)) (hl : ∀ q ∈ t, q.2.length ≤ sizeLine) (hg : Gl X nm) (hm : X.mg nm = some (.ref a)) (hb : ED X b f) (hs : XR b) (hd : (nm == ("__debug__" : Str)) = false := by decide) :
    ED X (.Subscript (.Subscript (.Name nm p) b p2) (.Constant (.int i) j p3) pos) (eUn (zcC t i) f) := by
  obtain ⟨tb, pb, rb⟩ := hb
  refine ⟨_, zfc zfo (zhd T hg hm pb hs hd) zg (fun _ _ => rfl), fun σ ρ F H z Q s va e q => ?_⟩
  obtain ⟨d, e1, e2⟩ := Option.bind_eq_some_iff.mp e
  refine rb σ ρ F H d _ s va e1 fun F1 H1 v g1 a1 => ?_
  cases d with
  | str x =>
    obtain ⟨ns, h1, h2⟩ := Option.bind_eq_some_iff.mp e2
    obtain ⟨n, h3, rfl⟩ := Option.map_eq_some_iff.mp h2
    cases a1.str_inv
    have hmem : ∀ t : zdo, (∀ q ∈ t, q.2.length ≤ sizeLine) → XW t x = some ns → ns.length ≤ sizeLine := by
      intro t
      induction t with
      | nil => intro _ h; cases h
      | cons q t ih =>
        intro hl h
        unfold XW at h
        split at h
        · cases h; exact hl q List.mem_cons_self
        · exact ih (fun r hr => hl r (List.mem_cons_of_mem _ hr)) h
    refine ⟨x, ns, rfl, by rw [Xm, h1]; rfl, fun p its h4 h5 => ⟨p, its, ns.map V.int, i, .int n, rfl, rfl, h4, h5, by rw [List.length_map]; exact hmem t hl h1, ?_, q F1 H1 _ g1 .int⟩⟩
    have : ∀ (xs : List Int), atI xs i = some n → atI (xs.map V.int) i = some (V.int n) := fun xs h => by
      unfold atI at h ⊢
      rw [List.length_map]
      cases hi : ixN xs.length i with
      | none => rw [hi] at h; cases h
      | some k =>
        rw [hi] at h
        show (xs.map V.int)[k]? = _
        have h : xs[k]? = some n := h
        rw [List.getElem?_map, h]
        rfl
    exact this ns h3
  | _ => cases e2
end Dl
namespace L2
open PySem PySem.Spec PyProof.Rows
end L2
namespace Dl
open PySem L2 PySem.Spec PyProof.Rows
variable [KK] {X : Cx} {e : Expr}
end Dl
namespace L2
open PySem PySem.Spec PyProof.Rows
end L2
namespace Dl
open PySem L2 PySem.Spec PyProof.Rows
variable [KK] {X : Cx} {a e ko : Expr} {pos tpos : Pos}
end Dl
namespace PySem
open Sem (wp)
noncomputable abbrev yR (h : Heap) (T : Addr) (a b c : Value) : Prop := h.get? T = some { cls := .type "tuple", data := .seq #[a, b, c] }
set_option genInjectivity false in
set_option genSizeOf false in
set_option genCtorIdx false in
structure za7 (z TI TO i1 i2 i3 : Addr) (fp1 fp2 fp3 : List Addr) : Prop where
  nd : [z, TI, TO, i1, i2, i3].Nodup
  z1 : z ∉ fp1
  z2 : z ∉ fp2
  z3 : z ∉ fp3
  o1 : TO ∉ fp1
  o2 : TO ∉ fp2
  o3 : TO ∉ fp3
  i12 : i1 ∉ fp2
  i13 : i1 ∉ fp3
  i21 : i2 ∉ fp1
  i23 : i2 ∉ fp3
  i31 : i3 ∉ fp1
  i32 : i3 ∉ fp2
section
variable {prog : Program} {w : World} {A : Around} {E : Value → Shared → Prop} {s : Shared} {z TI TO i1 i2 i3 : Addr} {fp1 fp2 fp3 : List Addr} {n1 n2 n3 k1 k2 k3 : Nat} {P1 P2 P3 : Nat → Value → Prop} {St1 St2 St3 : Nat → Heap → Prop} {a b c : Value}
theorem v9 {T : Addr} {x : Value} {k : Nat} {Q : Unit → Shared → Prop} (hT : yR s.heap T a b c)
    (h : ∀ h', h'.get? T = some { cls := .type "tuple", data := .seq ((#[a, b, c] : Array Value).setIfInBounds k x) } → Heap.SameBut T s.heap h' → Q () { s with heap := h' }) :
    wpAny (model prog w) A (updateSeq T (·.setIfInBounds k x)) Q E s :=
  wpAny_updateSeq hT rfl (h _ (by rw [Heap.get?_update_self _ hT rfl]; simp [Obj.mapSeq]) (Heap.SameBut.update ..))
theorem WC {Q : Value → Shared → Prop} (D1 : Draws prog w A i1 fp1 n1 P1 St1) (D2 : Draws prog w A i2 fp2 n2 P2 St2) (D3 : Draws prog w A i3 fp3 n3 P3 St3) (ap : za7 z TI TO i1 i2 i3 fp1 fp2 fp3)
    (hz : IsZip s.heap z TI TO .none) (hTI : yR s.heap TI (.ref i1) (.ref i2) (.ref i3)) (hTO : yR s.heap TO a b c) (h1 : St1 k1 s.heap) (h2 : St2 k2 s.heap) (h3 : St3 k3 s.heap) (l1 : k1 < n1) (l2 : k2 < n2) (l3 : k3 < n3)
    (hQ : ∀ x y u h' tk, P1 k1 x → P2 k2 y → P3 k3 u → IsZip h' z TI TO (rawInt s.heap.objs.size) → yR h' TO x y u → St1 (k1 + 1) h' → St2 (k2 + 1) h' → St3 (k3 + 1) h' → yR h' s.heap.objs.size x y u →
      (∀ c o, c ∉ [z, TO, i1, i2, i3] → s.heap.get? c = some o → h'.get? c = some o) → Q (.ref s.heap.objs.size) { s with heap := h', toks := tk }) :
    wpAny (model prog w) A (Builtin.«zip.__next__» ⟨[.ref z], []⟩) (fun fin s' => ∃ v, fin = .done (.ret v) ∧ Q v s') E s := by
  obtain ⟨nd, az1, az2, az3, ao1, ao2, ao3, a12, a13, a21, a23, a31, a32⟩ := ap
  simp only [List.nodup_cons, List.mem_cons, List.not_mem_nil, or_false, not_or, not_false_eq_true, List.nodup_nil, and_true] at nd
  obtain ⟨⟨nI, nO, nz1, nz2, nz3⟩, ⟨_, _, _, _⟩, ⟨m1, m2, m3⟩, ⟨_, _⟩, _⟩ := nd
  show wpAny _ _ (field (.ref z) 2 >>= _) _ _ _
  refine wpAny_bind (wpAny_field hz rfl (x := .bool false) rfl ?_)
  show wpAny _ _ (field (.ref z) 3 >>= _) _ _ _
  refine wpAny_bind (wpAny_field hz rfl (x := .ref TI) rfl (wpAny_bind (wpAny_seqItems hTI rfl ?_)))
  show wpAny _ _ (Builtin.SmallTypes.ownedTupleIsFree (.ref z) >>= _) _ _ _
  refine wpAny_bind ?_
  unfold Builtin.SmallTypes.ownedTupleIsFree
  refine wpAny_bind (wpAny_field hz rfl (x := .none) rfl (wpAny_pure ?_))
  simp only [if_true]
  refine wpAny_bind (wpAny_rule (wpAny_bind (wpAny_field hz rfl (x := .ref TO) rfl (wpAny_bind (wpAny_setField_rec hz (by simp) fun g1 z1 b1 => ?_)))))
  refine wpAny_bind ?_
  simp only [List.zipIdx_cons, List.zipIdx_nil, List.forIn_cons, List.forIn_nil]
  refine wpAny_bind (wpAny_bind (wpAny_onRaise ?_))
  show wpAny _ _ (Builtin.SmallTypes.nextOf (.ref i1) >>= _) _ _ _
  refine wpAny_bind (D1.item k1 _ _ _ l1 (zB D1 h1 b1 az1) fun x g2 tk2 px st2 b2 => wpAny_pure ?_)
  have o2 : yR g2 TO a b c := (b2.2 TO m1).trans ((b1.2 TO (Ne.symm nO)).trans hTO)
  refine wpAny_bind (wpAny_seqItems o2 rfl (wpAny_bind (v9 o2 fun g3 o3 b3 => ?_)))
  refine wpAny_bind (wpAny_letGo (wpAny_pure ?_))
  refine wpAny_bind (wpAny_bind (wpAny_onRaise ?_))
  show wpAny _ _ (Builtin.SmallTypes.nextOf (.ref i2) >>= _) _ _ _
  have s23 : St2 k2 g3 := zB D2 (zB D2 (zB D2 h2 b1 az2) b2 a12) b3 ao2
  refine wpAny_bind (D2.item k2 _ _ _ l2 s23 fun y g4 tk4 py st4 b4 => wpAny_pure ?_)
  have o4 : yR g4 TO x b c := (b4.2 TO m2).trans o3
  refine wpAny_bind (wpAny_seqItems o4 rfl (wpAny_bind (v9 o4 fun g5 o5 b5 => ?_)))
  replace o5 : yR g5 TO x y c := o5
  refine wpAny_bind (wpAny_letGo (wpAny_pure ?_))
  refine wpAny_bind (wpAny_bind (wpAny_onRaise ?_))
  show wpAny _ _ (Builtin.SmallTypes.nextOf (.ref i3) >>= _) _ _ _
  have s35 : St3 k3 g5 := zB D3 (zB D3 (zB D3 (zB D3 (zB D3 h3 b1 az3) b2 a13) b3 ao3) b4 a23) b5 ao3
  refine wpAny_bind (D3.item k3 _ _ _ l3 s35 fun u g6 tk6 pu st6 b6 => wpAny_pure ?_)
  have o6 : yR g6 TO x y c := (b6.2 TO m3).trans o5
  refine wpAny_bind (wpAny_seqItems o6 rfl (wpAny_bind (v9 o6 fun g7 o7 b7 => ?_)))
  replace o7 : yR g7 TO x y u := o7
  refine wpAny_bind (wpAny_letGo (wpAny_pure (wpAny_pure ?_)))
  refine wpAny_bind (wpAny_seqItems o7 rfl ?_)
  show wpAny _ _ (newTuple [x, y, u] >>= _) _ _ _
  refine wpAny_bind (wpAny_newTuple ?_)
  have hsz : g7.objs.size = s.heap.objs.size := by rw [b7.1, b6.1, b5.1, b4.1, b3.1, b2.1, b1.1]
  have z5 : IsZip g7 z TI TO .ellipsis := (b7.2 z nO).trans ((b6.2 z nz3).trans ((b5.2 z nO).trans ((b4.2 z nz2).trans ((b3.2 z nO).trans ((b2.2 z nz1).trans z1)))))
  have zlt : z < g7.objs.size := Heap.lt_size z5
  show wpAny _ _ (Builtin.SmallTypes.ownedTupleHandOut (.ref z) (.ref g7.objs.size) >>= _) _ _ _
  refine wpAny_bind ?_
  unfold Builtin.SmallTypes.ownedTupleHandOut
  have z6 : IsZip (g7.push { cls := .type "tuple", data := .seq #[x, y, u] }) z TI TO .ellipsis := Heap.get?_push_of_some _ z5
  refine wpAny_bind (wpAny_setField_rec z6 (by simp) fun g9 z9 b9 => ?_)
  refine wpAny_setField_rec z9 (by simp) fun g8 z8 b8 => ?_
  have up : ∀ c o, c ≠ z → g7.get? c = some o → g8.get? c = some o := fun c o n e => (b8.2 c n).trans ((b9.2 c n).trans (Heap.get?_push_of_some _ e))
  have t8 : yR g8 g7.objs.size x y u := (b8.2 _ (Nat.ne_of_gt zlt)).trans ((b9.2 _ (Nat.ne_of_gt zlt)).trans (Heap.get?_push_size _ rfl))
  have e8 : IsZip g8 z TI TO (rawInt g7.objs.size) := z8
  rw [hsz] at e8 t8
  refine wpAny_pure ⟨_, rfl, ?_⟩
  show Q (.ref g7.objs.size) _
  rw [hsz]
  have f1 : St1 (k1 + 1) g7 := zB D1 (zB D1 (zB D1 (zB D1 (zB D1 st2 b3 ao1) b4 a21) b5 ao1) b6 a31) b7 ao1
  have f2 : St2 (k2 + 1) g7 := zB D2 (zB D2 (zB D2 st4 b5 ao2) b6 a32) b7 ao2
  have f3 : St3 (k3 + 1) g7 := zB D3 st6 b7 ao3
  refine hQ x y u g8 _ px py pu e8 (up _ _ (Ne.symm nO) o7) (D1.frame _ _ _ f1 fun c hc o e => up c o (fun q => az1 (q ▸ hc)) e) (D2.frame _ _ _ f2 fun c hc o e => up c o (fun q => az2 (q ▸ hc)) e) (D3.frame _ _ _ f3 fun c hc o e => up c o (fun q => az3 (q ▸ hc)) e) t8 fun c o hc e => ?_
  simp only [List.mem_cons, List.not_mem_nil, or_false, not_or] at hc
  obtain ⟨c1, c2, c3, c4, c5⟩ := hc
  exact up c o c1 ((b7.2 c c2).trans ((b6.2 c c5).trans ((b5.2 c c2).trans ((b4.2 c c4).trans ((b3.2 c c2).trans ((b2.2 c c3).trans ((b1.2 c c1).trans e)))))))
theorem VN {Q : Fin → Shared → Prop} (D1 : Draws prog w A i1 fp1 n1 P1 St1) (az1 : z ∉ fp1) (nz : i1 ≠ z)
    (hz : IsZip s.heap z TI TO .none) (hTI : yR s.heap TI (.ref i1) (.ref i2) (.ref i3)) (h1 : St1 n1 s.heap)
    (hE : ∀ h' e, (∀ c o, c ≠ z → c ≠ i1 → s.heap.get? c = some o → h'.get? c = some o) → (∃ o, h'.get? e = some o ∧ o.cls = .type "StopIteration") → E (.ref e) { s with heap := h' }) :
    wpAny (model prog w) A (Builtin.«zip.__next__» ⟨[.ref z], []⟩) Q E s := by
  show wpAny _ _ (field (.ref z) 2 >>= _) _ _ _
  refine wpAny_bind (wpAny_field hz rfl (x := .bool false) rfl ?_)
  show wpAny _ _ (field (.ref z) 3 >>= _) _ _ _
  refine wpAny_bind (wpAny_field hz rfl (x := .ref TI) rfl (wpAny_bind (wpAny_seqItems hTI rfl ?_)))
  show wpAny _ _ (Builtin.SmallTypes.ownedTupleIsFree (.ref z) >>= _) _ _ _
  refine wpAny_bind ?_
  unfold Builtin.SmallTypes.ownedTupleIsFree
  refine wpAny_bind (wpAny_field hz rfl (x := .none) rfl (wpAny_pure ?_))
  simp only [if_true]
  refine wpAny_bind (wpAny_rule (wpAny_bind (wpAny_field hz rfl (x := .ref TO) rfl (wpAny_bind (wpAny_setField_rec hz (by simp) fun g1 z1 b1 => ?_)))))
  refine wpAny_bind ?_
  simp only [List.zipIdx_cons, List.zipIdx_nil, List.forIn_cons, List.forIn_nil]
  refine wpAny_bind (wpAny_bind (wpAny_onRaise ?_))
  show wpAny _ _ (Builtin.SmallTypes.nextOf (.ref i1) >>= _) _ _ _
  refine wpAny_bind (D1.done _ _ _ (zB D1 h1 b1 az1) fun g2 e b2 he => ?_)
  obtain ⟨oe, hoe, hce⟩ := he
  have z2 : IsZip g2 z TI TO .ellipsis := b2 _ _ (Ne.symm nz) z1
  have nez : e ≠ z := fun q => by subst q; rw [z2] at hoe; cases hoe; simp at hce
  exact wpAny_setField_rec z2 (by simp) fun g3 _ b3 => hE g3 e (fun c o c1 c2 q => (b3.2 c c1).trans (b2 c o c2 ((b1.2 c c1).trans q))) ⟨oe, (b3.2 e nez).trans hoe, hce⟩
end
noncomputable abbrev zqA (h : Heap) (l1 : Addr) : Heap := h.push (Xk true l1)
noncomputable abbrev zqB (h : Heap) (l1 l2 : Addr) : Heap := (zqA h l1).push (Xk true l2)
noncomputable abbrev zqC (h : Heap) (l1 l2 l3 : Addr) : Heap := (zqB h l1 l2).push (Xk true l3)
noncomputable abbrev zqD (h : Heap) (l1 l2 l3 : Addr) : Heap := (zqC h l1 l2 l3).push (Obj.mk (.type "tuple") none (.seq #[.ref h.objs.size, .ref (zqA h l1).objs.size, .ref (zqB h l1 l2).objs.size]) #[])
noncomputable abbrev zqE (h : Heap) (l1 l2 l3 : Addr) : Heap := (zqD h l1 l2 l3).push (Obj.mk (.type "tuple") none (.seq #[.none, .none, .none]) #[])
noncomputable abbrev zqF (h : Heap) (l1 l2 l3 : Addr) : Heap := (zqE h l1 l2 l3).push (Obj.mk (.type "zip") none (.fields #[.none, .bool false, .bool false, .ref (zqC h l1 l2 l3).objs.size, .ref (zqD h l1 l2 l3).objs.size]) #[])
theorem VQ (l1 l2 l3 : Addr) (xs ys us : Array Value) :
    Meets (Builtin.«zip.__new__» ⟨[.type "zip", .ref l1, .ref l2, .ref l3], []⟩) (fun _ R s => s.heap.IsList l1 xs ∧ s.heap.IsList l2 ys ∧ s.heap.IsList l3 us ∧
      R (.ok (.ret (.ref (zqE s.heap l1 l2 l3).objs.size))) { s with heap := zqF s.heap l1 l2 l3 }) :=
  .of_wp fun prog w A R s h => by
    obtain ⟨hp, g, d, tk, os⟩ := s; obtain ⟨hl1, hl2, hl3, h⟩ := h
    have hsub := sub_zip
    have hL1 : Heap.IsList (Shared.heap ⟨hp, g, d, tk, os⟩) l1 xs := hl1
    have hL2 : Heap.IsList (Shared.heap ⟨hp.push { cls := .type "list_iterator", data := .fields #[.ref l1, .int 0 0] }, g, d, tk, os⟩) l2 ys := Heap.IsList.push hl2 _
    have hL3 : Heap.IsList (Shared.heap ⟨(hp.push { cls := .type "list_iterator", data := .fields #[.ref l1, .int 0 0] }).push { cls := .type "list_iterator", data := .fields #[.ref l2, .int 0 0] }, g, d, tk, os⟩) l3 us := Heap.IsList.push (Heap.IsList.push hl3 _) _
    wp_walk using wpAny_pyIter_list hL1, wpAny_pyIter_list hL2, wpAny_pyIter_list hL3
    exact ⟨_, rfl, h⟩
section
variable {prog : Program} {w : World} {A : Around} {E : Value → Shared → Prop} {s : Shared}
theorem Zq (a b c : Value) : checkTypeCall "zip" ⟨[a, b, c], []⟩ = pure () := by kernel_rfl
theorem Z3 (a b c : Value) : checkBuiltinCall "zip.__new__" ⟨[.type "zip", a, b, c], []⟩ = pure () := by kernel_rfl
theorem Ww {l1 l2 l3 : Addr} {xs ys us : Array Value} {Q : Value → Shared → Prop} (hl1 : s.heap.IsList l1 xs) (hl2 : s.heap.IsList l2 ys) (hl3 : s.heap.IsList l3 us)
    (h : ∀ h', IsZip h' (s.heap.objs.size + 5) (s.heap.objs.size + 3) (s.heap.objs.size + 4) .none → yR h' (s.heap.objs.size + 3) (.ref s.heap.objs.size) (.ref (s.heap.objs.size + 1)) (.ref (s.heap.objs.size + 2)) →
      yR h' (s.heap.objs.size + 4) .none .none .none → YR true h' s.heap.objs.size l1 0 → YR true h' (s.heap.objs.size + 1) l2 0 → YR true h' (s.heap.objs.size + 2) l3 0 →
      (∀ c o, s.heap.get? c = some o → h'.get? c = some o) → Q (.ref (s.heap.objs.size + 5)) { s with heap := h' }) :
    wpAny (model prog w) A (call (.type "zip") [.ref l1, .ref l2, .ref l3]) Q E s := by
  refine callType_new F.called_zip (by decide) (Zq _ _ _) (Z3 _ _ _) (fun obj => F.initArgs_range_3 obj _ _ _) F.entry_zip_new
    (VQ l1 l2 l3 xs ys us) ⟨hl1, hl2, hl3, ?_⟩
  have z1 : (zqA s.heap l1).objs.size = s.heap.objs.size + 1 := Heap.size_push ..
  have z2 : (zqB s.heap l1 l2).objs.size = s.heap.objs.size + 2 := by rw [Heap.size_push, z1]
  have z3 : (zqC s.heap l1 l2 l3).objs.size = s.heap.objs.size + 3 := by rw [Heap.size_push, z2]
  have z4 : (zqD s.heap l1 l2 l3).objs.size = s.heap.objs.size + 4 := by rw [Heap.size_push, z3]
  have z5 : (zqE s.heap l1 l2 l3).objs.size = s.heap.objs.size + 5 := by rw [Heap.size_push, z4]
  have g6 : (zqF s.heap l1 l2 l3).get? (zqE s.heap l1 l2 l3).objs.size = some _ := Heap.get?_push_size _ rfl
  have g5 : (zqF s.heap l1 l2 l3).get? (zqD s.heap l1 l2 l3).objs.size = some _ := Heap.get?_push_of_some _ (Heap.get?_push_size _ rfl)
  have g4 : (zqF s.heap l1 l2 l3).get? (zqC s.heap l1 l2 l3).objs.size = some _ := Heap.get?_push_of_some _ (Heap.get?_push_of_some _ (Heap.get?_push_size _ rfl))
  have g3 : (zqF s.heap l1 l2 l3).get? (zqB s.heap l1 l2).objs.size = some (Xk true l3) := Heap.get?_push_of_some _ (Heap.get?_push_of_some _ (Heap.get?_push_of_some _ (Heap.get?_push_size _ rfl)))
  have g2 : (zqF s.heap l1 l2 l3).get? (zqA s.heap l1).objs.size = some (Xk true l2) := Heap.get?_push_of_some _ (Heap.get?_push_of_some _ (Heap.get?_push_of_some _ (Heap.get?_push_of_some _ (Heap.get?_push_size _ rfl))))
  have g1 : (zqF s.heap l1 l2 l3).get? s.heap.objs.size = some (Xk true l1) := Heap.get?_push_of_some _ (Heap.get?_push_of_some _ (Heap.get?_push_of_some _ (Heap.get?_push_of_some _ (Heap.get?_push_of_some _ (Heap.get?_push_size _ rfl)))))
  show _ ∧ _
  rw [z3, z4, z5] at g6
  rw [z1, z2, z3] at g4
  rw [z4] at g5
  rw [z2] at g3
  rw [z1] at g2
  rw [z5]
  exact ⟨⟨_, g6, rfl⟩, h _ g6 g4 g5 ⟨_, g1, rfl, rfl⟩ ⟨_, g2, rfl, rfl⟩ ⟨_, g3, rfl, rfl⟩ fun c o x =>
    Heap.get?_push_of_some _ (Heap.get?_push_of_some _ (Heap.get?_push_of_some _ (Heap.get?_push_of_some _ (Heap.get?_push_of_some _ (Heap.get?_push_of_some _ x)))))⟩
variable {z TI TO i1 i2 i3 : Addr} {fp1 fp2 fp3 : List Addr} {n1 n2 n3 k1 k2 k3 : Nat} {P1 P2 P3 : Nat → Value → Prop} {St1 St2 St3 : Nat → Heap → Prop} {a b c : Value}
theorem WG {Q : Option Value → Shared → Prop} (D1 : Draws prog w A.in1 i1 fp1 n1 P1 St1) (D2 : Draws prog w A.in1 i2 fp2 n2 P2 St2) (D3 : Draws prog w A.in1 i3 fp3 n3 P3 St3) (ap : za7 z TI TO i1 i2 i3 fp1 fp2 fp3)
    (hz : IsZip s.heap z TI TO .none) (hTI : yR s.heap TI (.ref i1) (.ref i2) (.ref i3)) (hTO : yR s.heap TO a b c) (h1 : St1 k1 s.heap) (h2 : St2 k2 s.heap) (h3 : St3 k3 s.heap) (l1 : k1 < n1) (l2 : k2 < n2) (l3 : k3 < n3)
    (hQ : ∀ x y u h' tk, P1 k1 x → P2 k2 y → P3 k3 u → IsZip h' z TI TO (rawInt s.heap.objs.size) → yR h' TO x y u → St1 (k1 + 1) h' → St2 (k2 + 1) h' → St3 (k3 + 1) h' → yR h' s.heap.objs.size x y u →
      (∀ c o, c ∉ [z, TO, i1, i2, i3] → s.heap.get? c = some o → h'.get? c = some o) → Q (some (.ref s.heap.objs.size)) { s with heap := h', toks := tk }) :
    wpAny (model prog w) A (pyNext (.ref z)) Q E s := by
  have hT : s.TypeIs (.ref z) "zip" := ⟨_, hz, rfl⟩
  unfold pyNext
  exact wpAny_bind (wpAny_attempt (wpAny_callSpecial?_slot (name := Str.ofString "__next__") hT F.slot_zip_next
    (wpAny_call_entry F.slot_zip_next hT F.entry_zip_next
      (WC D1 D2 D3 ap hz hTI hTO h1 h2 h3 l1 l2 l3 fun x y u h' tk a1 a2 a3 a4 a5 a6 a7 a8 a9 b1 => wpAny_pure (hQ x y u h' tk a1 a2 a3 a4 a5 a6 a7 a8 a9 b1)) (F.args_zip_next_1 _))))
theorem W6 {Q : Option Value → Shared → Prop} (D1 : Draws prog w A.in1 i1 fp1 n1 P1 St1) (az1 : z ∉ fp1) (nz : i1 ≠ z)
    (hz : IsZip s.heap z TI TO .none) (hTI : yR s.heap TI (.ref i1) (.ref i2) (.ref i3)) (h1 : St1 n1 s.heap)
    (hQ : ∀ h', (∀ c o, c ≠ z → c ≠ i1 → s.heap.get? c = some o → h'.get? c = some o) → Q none { s with heap := h' }) : wpAny (model prog w) A (pyNext (.ref z)) Q E s := by
  have hT : s.TypeIs (.ref z) "zip" := ⟨_, hz, rfl⟩
  unfold pyNext
  refine wpAny_bind (wpAny_attempt (wpAny_callSpecial?_slot (name := Str.ofString "__next__") hT F.slot_zip_next
    (wpAny_call_entry F.slot_zip_next hT F.entry_zip_next (VN D1 az1 nz hz hTI h1 fun h' e hk he => ?_) (F.args_zip_next_1 _))))
  obtain ⟨o, ho, hc⟩ := he
  refine wpAny_bind (wpAny_isInstance (T := "StopIteration") (b := true) ⟨o, ho, hc⟩ isSubtype_stop ?_)
  exact wpAny_pure (hQ _ hk)
end
end PySem
namespace L2
open PySem PySem.Spec PyProof.Rows
noncomputable def Izp3 (K : PySem.W.Frag) (l1 l2 l3 : Addr) : It :=
  ⟨fun i H => ∃ xs ys us x y u, SqL K H l1 xs ∧ SqL K H l2 ys ∧ SqL K H l3 us ∧ xs[i]? = some x ∧ ys[i]? = some y ∧ us[i]? = some u,
   fun i H v H' => ∃ T x y u, v = .ref T ∧ H T = none ∧ H' = upd H T (.tup [x, y, u]) ∧ (∀ xs, SqL K H l1 xs → xs[i]? = some x) ∧ (∀ ys, SqL K H l2 ys → ys[i]? = some y) ∧ (∀ us, SqL K H l3 us → us[i]? = some u),
   fun i H => ∃ xs, SqL K H l1 xs ∧ i = xs.length⟩
theorem WE {its : List Value} {i : Nat} {u v : Value} (hu : its[i]? = some u) (e : its.toArray[i]? = some v) : v = u := by
  have : its[i]? = some v := by simpa using e
  rw [hu] at this
  exact (Option.some.inj this).symm
theorem zcH {P : Program} {w : World} {K : PySem.W.Frag} {es : List Expr} {k : Nat} {tp : Pos} (l1 l2 l3 z TI TO i1 i2 i3 : Addr) (ap : za7 z TI TO i1 i2 i3 [i1, l1] [i2, l2] [i3, l3]) (n1 : l1 ≠ i1) (n2 : l2 ≠ i2) (n3 : l3 ≠ i3) :
    zej P w K (.Tuple es k tp) (Izp3 K l1 l2 l3) [z, TI, TO, i1, i2, i3] z (fun i h => IsZip h z TI TO .none ∧ yR h TI (.ref i1) (.ref i2) (.ref i3) ∧ (∃ a b c, yR h TO a b c) ∧ YR true h i1 l1 i ∧ YR true h i2 l2 i ∧ YR true h i3 l3 i) where
  mem := by simp
  obj := fun i h st b hb => by
    obtain ⟨hz, hTI, ⟨a, c, d, hTO⟩, h1, h2, h3⟩ := st
    simp only [List.mem_cons, List.not_mem_nil, or_false] at hb
    rcases hb with rfl | rfl | rfl | rfl | rfl | rfl
    · exact ⟨_, hz, fun v z => by cases z⟩
    · exact ⟨_, hTI, fun v z => by cases z⟩
    · exact ⟨_, hTO, fun v z => by cases z⟩
    · exact xh h1
    · exact xh h2
    · exact xh h3
  keep := fun i h h' st kk => by
    obtain ⟨hz, hTI, ⟨a, c, d, hTO⟩, h1, h2, h3⟩ := st
    exact ⟨kk z (by simp) _ hz, kk TI (by simp) _ hTI, ⟨a, c, d, kk TO (by simp) _ hTO⟩, xW h1 fun o q => kk i1 (by simp) o q, xW h2 fun o q => kk i2 (by simp) o q, xW h3 fun o q => kk i3 (by simp) o q⟩
  item := by
    intro X hP hw hK hc i pins s σ H E I hf st hg
    subst hP hw hK
    obtain ⟨hz, hTI, ⟨a, c, d, hTO⟩, h1, h2, h3⟩ := st
    obtain ⟨xs, ys, us, x, y, u, hq1, hq2, hq3, hx, hy, hu⟩ := hg
    obtain ⟨its, rv, p, _⟩ := I.sq (b := true) hq1
    obtain ⟨its2, rv2, p2, _⟩ := I.sq (b := true) hq2
    obtain ⟨its3, rv3, p3, _⟩ := I.sq (b := true) hq3
    obtain ⟨w1, hw1, rw1⟩ := rv.get hx
    obtain ⟨w2, hw2, rw2⟩ := rv2.get hy
    obtain ⟨w3, hw3, rw3⟩ := rv3.get hu
    have hl1 : i < its.toArray.size := by simpa using (List.getElem?_eq_some_iff.mp hw1).1
    have hl2 : i < its2.toArray.size := by simpa using (List.getElem?_eq_some_iff.mp hw2).1
    have hl3 : i < its3.toArray.size := by simpa using (List.getElem?_eq_some_iff.mp hw3).1
    have hh : X.A.in1.handled = none := I.ok.hd hc
    refine WG (wF hh true i1 l1 n1 its.toArray) (wF hh true i2 l2 n2 its2.toArray) (wF hh true i3 l3 n3 its3.toArray) ap hz hTI hTO ⟨h1, p⟩ ⟨h2, p2⟩ ⟨h3, p3⟩ hl1 hl2 hl3 fun v1 v2 v3 h' tk e1 e2 e3 hz' hTO' s1 s2 s3 hT' hk => ?_
    cases WE hw1 e1
    cases WE hw2 e2
    cases WE hw3 e3
    obtain ⟨nd, az1, az2, az3, ao1, ao2, ao3, a12, a13, a21, a23, a31, a32⟩ := ap
    simp only [List.nodup_cons, List.mem_cons, List.not_mem_nil, or_false, not_or, not_false_eq_true, List.nodup_nil, and_true] at nd
    obtain ⟨⟨m1, m2, m3, m4, m5⟩, ⟨m6, m7, m8, m9⟩, _⟩ := nd
    refine ⟨_, rfl, wpAny_letOwnedTupleGo_zip hz' fun h2' hz2 hs2 => ?_⟩
    have hfr : H s.heap.objs.size = none := I.hok.fresh (Nat.le_refl _)
    have neZ : s.heap.objs.size ≠ z := Nat.ne_of_gt (Heap.lt_size hz)
    have hT2 : yR h2' s.heap.objs.size w1 w2 w3 := (hs2.2 _ neZ).trans hT'
    have hTI' : yR h' TI (.ref i1) (.ref i2) (.ref i3) := hk TI _ (by simp [Ne.symm m1, m6, m7, m8, m9]) hTI
    have lt : ∀ b ∈ [z, TI, TO, i1, i2, i3], b < s.heap.objs.size := fun b hb => by
      simp only [List.mem_cons, List.not_mem_nil, or_false] at hb
      rcases hb with rfl | rfl | rfl | rfl | rfl | rfl
      · exact Heap.lt_size hz
      · exact Heap.lt_size hTI
      · exact Heap.lt_size hTO
      · obtain ⟨o, ho, _⟩ := xh h1; exact Heap.lt_size ho
      · obtain ⟨o, ho, _⟩ := xh h2; exact Heap.lt_size ho
      · obtain ⟨o, ho, _⟩ := xh h3; exact Heap.lt_size ho
    refine ⟨.ref s.heap.objs.size, upd H s.heap.objs.size (.tup [x, y, u]), ?_, rfl, ⟨_, x, y, u, rfl, hfr, rfl, fun zs hz => by rw [I.list_inj hz hq1]; exact hx, fun zs hz => by rw [I.list_inj hz hq2]; exact hy, fun zs hz => by rw [I.list_inj hz hq3]; exact hu⟩,
      ⟨hz2, (hs2.2 TI (Ne.symm m1)).trans hTI', ⟨_, _, _, (hs2.2 TO (Ne.symm m2)).trans hTO'⟩, xW s1.1 fun o q => (hs2.2 i1 (Ne.symm m3)).trans q, xW s2.1 fun o q => (hs2.2 i2 (Ne.symm m4)).trans q, xW s3.1 fun o q => (hs2.2 i3 (Ne.symm m5)).trans q⟩, fun b hb => ?_⟩
    · refine I.grown (ch := [z, TI, TO, i1, i2, i3]) hf (Nat.le_refl _) (fun b v hb q => ?_) ?_
      · have nb : b ≠ z := fun w => hb (by simp [w])
        refine (hs2.2 b nb).trans (hk b v (fun w => hb ?_) q)
        simp only [List.mem_cons, List.not_mem_nil, or_false] at w ⊢
        rcases w with w | w | w | w | w
        · exact .inl w
        · exact .inr (.inr (.inl w))
        · exact .inr (.inr (.inr (.inl w)))
        · exact .inr (.inr (.inr (.inr (.inl w))))
        · exact .inr (.inr (.inr (.inr (.inr w))))
      · exact ⟨by show 3 ≤ sizeLine; decide, [w1, w2, w3], .cons rw1 (.cons rw2 (.cons rw3 .nil)), ⟨_, hT2, rfl, 0, rfl⟩⟩
    · rw [zn (Nat.ne_of_lt (lt b hb))]
      exact (hf b hb).1
  done := by
    intro X hP hw hK hc i pins s σ H E I hf st hg
    subst hP hw hK
    obtain ⟨hz, hTI, _, h1, _⟩ := st
    obtain ⟨xs, hq, rfl⟩ := hg
    obtain ⟨its, rv, p, _⟩ := I.sq (b := true) hq
    have hl := rv.length
    have hh : X.A.in1.handled = none := I.ok.hd hc
    have D := wF (prog := X.prog) (w := X.w) hh true i1 l1 n1 its.toArray
    refine W6 D ap.z1 ?_ hz hTI ⟨by rw [List.size_toArray, ← hl]; exact h1, p⟩ fun h' hk => ⟨rfl, I.turnedN (ch := [z, TI, TO, i1, i2, i3]) (t' := s.toks) hf fun b v hb q => hk b v (fun w => hb (by simp [w])) (fun w => hb (by simp [w])) q⟩
    have nd := ap.nd
    simp only [List.nodup_cons, List.mem_cons, List.not_mem_nil, or_false, not_or, not_false_eq_true, List.nodup_nil, and_true] at nd
    exact Ne.symm nd.1.2.2.1
  self := fun _ _ _ _ _ st h => wpAny_pyIter_zip st.1 h
noncomputable def zhV (K : PySem.W.Frag) (ta : TA) : TI := fun σ H R => ta σ H fun vs H1 => ∃ l1 l2 l3 xs ys us, vs = [.ref l1, .ref l2, .ref l3] ∧ SqL K H1 l1 xs ∧ SqL K H1 l2 ys ∧ SqL K H1 l3 us ∧ R (Izp3 K l1 l2 l3) H1
theorem zfA {X : Cx} {es : List Expr} {k : Nat} {tp : Pos} {a b c : Expr} {ta : TA} {p pos : Pos} (hg : Gl X "zip") (hm : X.mg "zip" = none) (hb : bootBuiltins "zip" = some (.type "zip")) (ha : PA X [a, b, c] ta)
    (hs : starEach [a, b, c] X.env = (false, eval a X.env) :: starEach [b, c] X.env := by rfl) (hs2 : (backTo pos (starEach [b, c] X.env)).any (·.1) = false := by rfl) : PI X (.Tuple es k tp) (.Call (.Name "zip" p) [a, b, c] [] pos) (zhV X.K ta) := by
  intro pins s σ H R I h
  refine Call_ (YA I hg hm hb (PyProof.Rows.callWith_type1 (thn (ha pos pins s σ H _ I h) fun vs0 s1 hq => ?_) hs hs2))
  obtain ⟨vs, H1, I1, r1, l1, l2, l3, xs, ys, us, e, hq1, hq2, hq3, q⟩ := hq
  subst e
  obtain ⟨w1, t1, rfl, rr1, r1⟩ : ∃ u t, vs0 = u :: t ∧ yT (.ref l1) u ∧ yC [.ref l2, .ref l3] t := by cases r1 with | cons r t => exact ⟨_, _, rfl, r, t⟩
  obtain ⟨w2, w3, rfl, rr2, rr3⟩ := zdg r1
  cases rr1
  cases rr2
  cases rr3
  obtain ⟨its, rv, p1, lt1⟩ := I1.sq (b := true) hq1
  obtain ⟨its2, rv2, p2, lt2⟩ := I1.sq (b := true) hq2
  obtain ⟨its3, rv3, p3, lt3⟩ := I1.sq (b := true) hq3
  refine Ww p1 p2 p3 fun h2 hz hTI hTO hi1 hi2 hi3 hk => wpAny_pyIter_zip hz ?_
  have hn : ∀ b, s1.heap.objs.size ≤ b → zaD X pins H1 b := fun b hb => I1.fpOk hb (I1.hok.fresh hb)
  have q1 : ∀ j : Nat, s1.heap.objs.size + j ≠ l1 := fun j e => Nat.lt_irrefl _ (Nat.lt_of_lt_of_le (by rw [← e] at lt1; exact lt1) (Nat.le_add_right _ _))
  have q2 : ∀ j : Nat, s1.heap.objs.size + j ≠ l2 := fun j e => Nat.lt_irrefl _ (Nat.lt_of_lt_of_le (by rw [← e] at lt2; exact lt2) (Nat.le_add_right _ _))
  have q3 : ∀ j : Nat, s1.heap.objs.size + j ≠ l3 := fun j e => Nat.lt_irrefl _ (Nat.lt_of_lt_of_le (by rw [← e] at lt3; exact lt3) (Nat.le_add_right _ _))
  have ne : ∀ i j : Nat, i ≠ j → s1.heap.objs.size + i ≠ s1.heap.objs.size + j := fun i j h e => h (Nat.add_left_cancel e)
  have n0 : ∀ i : Nat, i ≠ 0 → s1.heap.objs.size + i ≠ s1.heap.objs.size := fun i h e => h (Nat.add_left_cancel (n := s1.heap.objs.size) (m := i) (k := 0) e)
  have ap : za7 (s1.heap.objs.size + 5) (s1.heap.objs.size + 3) (s1.heap.objs.size + 4) s1.heap.objs.size (s1.heap.objs.size + 1) (s1.heap.objs.size + 2) [s1.heap.objs.size, l1] [s1.heap.objs.size + 1, l2] [s1.heap.objs.size + 2, l3] := by
    refine ⟨?_, ?_, ?_, ?_, ?_, ?_, ?_, ?_, ?_, ?_, ?_, ?_, ?_⟩
    · simp only [List.nodup_cons, List.mem_cons, List.not_mem_nil, or_false, not_or, not_false_eq_true, List.nodup_nil, and_true]
      exact ⟨⟨ne 5 3 (by decide), ne 5 4 (by decide), n0 5 (by decide), ne 5 1 (by decide), ne 5 2 (by decide)⟩, ⟨ne 3 4 (by decide), n0 3 (by decide), ne 3 1 (by decide), ne 3 2 (by decide)⟩, ⟨n0 4 (by decide), ne 4 1 (by decide), ne 4 2 (by decide)⟩, ⟨Ne.symm (n0 1 (by decide)), Ne.symm (n0 2 (by decide))⟩, ne 1 2 (by decide)⟩
    all_goals simp only [List.mem_cons, List.not_mem_nil, or_false, not_or]
    · exact ⟨n0 5 (by decide), q1 5⟩
    · exact ⟨ne 5 1 (by decide), q2 5⟩
    · exact ⟨ne 5 2 (by decide), q3 5⟩
    · exact ⟨n0 4 (by decide), q1 4⟩
    · exact ⟨ne 4 1 (by decide), q2 4⟩
    · exact ⟨ne 4 2 (by decide), q3 4⟩
    · exact ⟨Ne.symm (n0 1 (by decide)), q2 0⟩
    · exact ⟨Ne.symm (n0 2 (by decide)), q3 0⟩
    · exact ⟨n0 1 (by decide), q1 1⟩
    · exact ⟨ne 1 2 (by decide), q3 1⟩
    · exact ⟨n0 2 (by decide), q1 2⟩
    · exact ⟨ne 2 1 (by decide), q2 2⟩
  refine ⟨_, _, _, _, H1, rfl, I1.kept (t' := s1.toks) hk, zcH l1 l2 l3 _ _ _ _ _ _ ap (Nat.ne_of_lt lt1) (Nat.ne_of_lt (Nat.lt_succ_of_lt lt2)) (Nat.ne_of_lt (Nat.lt_succ_of_lt (Nat.lt_succ_of_lt lt3))), ⟨hz, hTI, ⟨_, _, _, hTO⟩, hi1, hi2, hi3⟩, fun b hb => ?_, q⟩
  simp only [List.mem_cons, List.not_mem_nil, or_false] at hb
  rcases hb with rfl | rfl | rfl | rfl | rfl | rfl
  · exact hn _ (Nat.le_add_right _ _)
  · exact hn _ (Nat.le_add_right _ _)
  · exact hn _ (Nat.le_add_right _ _)
  · exact hn _ (Nat.le_refl _)
  · exact hn _ (Nat.le_add_right _ _)
  · exact hn _ (Nat.le_add_right _ _)
end L2
namespace Dl
open PySem L2 PySem.Spec PyProof.Rows
variable [KK] {X : Cx} {a b c : Expr} {pos : Pos}
noncomputable def Xr : List D → List D → List D → List D
  | x :: xs, y :: ys, u :: us => .tup [x, y, u] :: Xr xs ys us
  | _, _, _ => []
omit [KK] in
theorem VU : ∀ (xs ys us : List D) (i : Nat) (d : D), (Xr xs ys us)[i]? = some d → ∃ x y u, xs[i]? = some x ∧ ys[i]? = some y ∧ us[i]? = some u ∧ d = .tup [x, y, u]
  | x :: xs, y :: ys, u :: us, 0, d, h => by cases h; exact ⟨x, y, u, rfl, rfl, rfl, rfl⟩
  | x :: xs, y :: ys, u :: us, i + 1, d, h => by
    obtain ⟨x', y', u', h1, h2, h3, h4⟩ := VU xs ys us i d (by simpa [Xr] using h)
    exact ⟨x', y', u', by simpa using h1, by simpa using h2, by simpa using h3, h4⟩
  | [], _, _, _, _, h => by simp [Xr] at h
  | _ :: _, [], _, _, _, h => by simp [Xr] at h
  | _ :: _, _ :: _, [], _, _, h => by simp [Xr] at h
omit [KK] in
theorem ZN : ∀ (xs ys us : List D), xs.length ≤ ys.length → xs.length ≤ us.length → (Xr xs ys us).length = xs.length
  | [], _, _, _, _ => by simp [Xr]
  | x :: xs, [], _, h, _ => by simp at h
  | x :: xs, _ :: _, [], _, h => by simp at h
  | x :: xs, y :: ys, u :: us, h, h2 => by simp [Xr, ZN xs ys us (by simpa using h) (by simpa using h2)]
noncomputable def zer (f : Ev → Option (List D)) : Ev → Option (List D) := fun ρ => (f ρ).bind fun as => match as with
  | [.lst xs, .lst ys, .lst us] => if xs.length ≤ ys.length ∧ xs.length ≤ us.length then some (Xr xs ys us) else none
  | _ => none
theorem zfb {es : List Expr} {k : Nat} {tp p : Pos} {f : Ev → Option (List D)} (hg : Gl X "zip") (hm : X.mg "zip" = none) (ha : AD X [a, b, c] f)
    (hs : starEach [a, b, c] X.env = (false, eval a X.env) :: starEach [b, c] X.env := by rfl) (hs2 : (backTo pos (starEach [b, c] X.env)).any (·.1) = false := by rfl) : ID X (.Tuple es k tp) (.Call (.Name "zip" p) [a, b, c] [] pos) (zer f) := by
  obtain ⟨t, pa, r⟩ := ha
  refine ⟨_, zfA hg hm zet pa hs hs2, fun σ ρ F H ds R s va e q => ?_⟩
  obtain ⟨as, e1, e2⟩ := Option.bind_eq_some_iff.mp e
  refine r σ ρ F H as _ s va e1 fun F1 H1 v g1 a1 => ?_
  split at e2
  · rename_i xs ys us
    have e2 : (if xs.length ≤ ys.length ∧ xs.length ≤ us.length then some (Xr xs ys us) else none) = some ds := e2
    by_cases hle : xs.length ≤ ys.length ∧ xs.length ≤ us.length
    · rw [if_pos hle] at e2
      cases e2
      obtain ⟨x, r', rfl, ax, ar⟩ := a1.cons_inv
      obtain ⟨y, r', rfl, ay, ar⟩ := ar.cons_inv
      obtain ⟨u, r', rfl, au, ar⟩ := ar.cons_inv
      cases ar.nil_inv
      obtain ⟨p1, vs1, rfl, hx, al1⟩ := ax.lst_inv
      obtain ⟨p2, vs2, rfl, hy, al2⟩ := ay.lst_inv
      obtain ⟨p3, vs3, rfl, hu, al3⟩ := au.lst_inv
      refine ⟨p1, p2, p3, vs1, vs2, vs3, rfl, SqL.of (g1.fh _ _ hx), SqL.of (g1.fh _ _ hy), SqL.of (g1.fh _ _ hu), q F1 H1 _ g1 fun i F2 H2 s1 s2 => ?_⟩
      have q1 : SqL X.K H2 p1 vs1 := SqL.of (s2 _ _ (s1 _ _ hx))
      have q2 : SqL X.K H2 p2 vs2 := SqL.of (s2 _ _ (s1 _ _ hy))
      have q3 : SqL X.K H2 p3 vs3 := SqL.of (s2 _ _ (s1 _ _ hu))
      refine ⟨fun hl => ⟨vs1, q1, by rw [hl, ZN _ _ _ hle.1 hle.2, al1.length]⟩, fun d hd => ?_⟩
      obtain ⟨x, y, u, h1, h2, h3, rfl⟩ := VU _ _ _ _ _ hd
      obtain ⟨w1, hw1, aw1⟩ := al1.get h1
      obtain ⟨w2, hw2, aw2⟩ := al2.get h2
      obtain ⟨w3, hw3, aw3⟩ := al3.get h3
      refine ⟨⟨vs1, vs2, vs3, w1, w2, w3, q1, q2, q3, hw1, hw2, hw3⟩, fun z H3 hz => ?_⟩
      obtain ⟨T, x', y', u', rfl, hT, rfl, hx', hy', hu'⟩ := hz
      have e5 := hx' vs1 q1
      have e6 := hy' vs2 q2
      have e7 := hu' vs3 q3
      rw [hw1] at e5
      rw [hw2] at e6
      rw [hw3] at e7
      cases e5
      cases e6
      cases e7
      have g3 := Gr.alloc s2 hT (.tup [w1, w2, w3])
      exact ⟨_, g3, .tup zq (.cons (aw1.mono (s1.trans g3.ff)) (.cons (aw2.mono (s1.trans g3.ff)) (.cons (aw3.mono (s1.trans g3.ff)) .nil)))⟩
    · rw [if_neg hle] at e2; cases e2
  · cases e2
end Dl
namespace Dl
open PySem L2
variable [KK]
section
variable {X : Cx} {st : Stmt} {sts : List Stmt} {a b c e tg : Expr} {pos pos' : Pos}
end
end Dl
namespace L2
open PySem PySem.Spec PyProof.Rows
section
variable {P : Program} {w : World} {H H' : Hp} {h h' : Heap} {a : Addr} {o : HO}
theorem yV.ex (x : yV P w H h a o) : ∃ u, h.get? a = some u := by
  cases o with
  | lst xs => obtain ⟨_, _, _, _, e⟩ := x; exact ⟨_, e⟩
  | tup xs => obtain ⟨_, _, _, ob, e, _⟩ := x; exact ⟨_, e⟩
  | dK kvs => obtain ⟨_, _, _, _, o, _, _, e, _⟩ := x; exact ⟨_, e⟩
  | dT kvs => obtain ⟨_, _, _, _, o, _, _, e, _⟩ := x; exact ⟨_, e⟩
  | set S n => obtain ⟨o, _, _, _, e, _⟩ := x; exact ⟨_, e⟩
  | ins C dx fs => obtain ⟨_, _, _, e, _⟩ := x; exact ⟨_, e⟩
  | own y => exact x
  | xd fs => obtain ⟨_, ⟨_, _, _, e, _⟩, _⟩ := x; exact ⟨_, e⟩
  | rng lo hi => obtain ⟨_, _, _, e⟩ := x; exact ⟨_, e⟩
  | frz ob u => obtain ⟨e, _⟩ := x; exact ⟨_, e⟩
  | tbl ps => exact ⟨_, (show h.get? a = some _ from x)⟩
  | met f y => exact ⟨_, (show h.get? a = some _ from x)⟩
  | ext φ => obtain ⟨_, ⟨_, e⟩, _⟩ := x; exact ⟨_, e⟩
theorem HOk.stays (x : HOk P w H h) (k : ∀ b u, H b ≠ none → h.get? b = some u → h'.get? b = some u) : HOk P w H h' := fun a o e =>
  (x a o e).stay (fun b u hb q => k b u (by
    rcases hb with rfl | hb
    · rw [e]; intro z; cases z
    · rw [hb]; intro z; cases z) q) (fun _ q => q) fun _ _ q => q
end
structure Cov (outer : List Env) (H : Hp) (h : Heap) (H' : Hp) (h' B : Heap) : Prop where
  old : ∀ b o, h.get? b = some o → H b = none → b ∉ frs outer → B.get? b = some o
  there : ∀ b o, h.get? b = some o → b ∉ frs outer → ∃ o', B.get? b = some o'
  new : ∀ b o, H' b ≠ none → h'.get? b = some o → B.get? b = some o
noncomputable def Air (P : Program) (w : World) : CXT := fun outer H s E e s' =>
  ∃ (ea C t : Addr) (H' : Hp) (B : Heap), e = .ref ea ∧ s'.os = s.os ∧ AllBare s'.gens ∧ Un (frs outer) [] H H' s.heap s'.heap ∧ HOk P w H' s'.heap ∧
    Heap.FlyingW B outer ea (.ref C) (.ref t) s'.heap ∧ Cov outer H s.heap H' s'.heap B ∧ E (.ref C) none H'
section
variable {X : Cx} {pins : List (Addr × Obj)} {σ : St} {H H' : Hp} {s s' : Shared} {E : XK} {e : Value} {M : Model} {E2 : Value → Shared → Prop}
theorem Inv.airUn (hex : X.ex = []) (I : Inv X pins σ H s) {h' B : Heap} (J : Inv X pins σ H' s') (cov : Cov X.stack H s.heap H' s'.heap B) (hB : B.StaysIn h') (hfr : h'.FunFrames B X.outer) (up : s'.heap.UpToSlots h') :
    Un X.fs [] X.H₀ H' X.s₀.heap h' ∧ HOk X.prog X.w H' h' ∧ Cov X.outer X.H₀ X.s₀.heap H' h' B := by
  have neL : ∀ b o, X.s₀.heap.get? b = some o → b ≠ X.env.locals := fun b o e => Nat.ne_of_lt (Nat.lt_of_lt_of_le (Heap.lt_size e) I.ok.above)
  have nst : ∀ b o, X.s₀.heap.get? b = some o → b ∉ X.fs → b ∉ frs X.stack := fun b o e n z => (List.mem_cons.mp (I.stkSub b z)).elim (neL b o e) n
  have nx : ∀ b : Addr, b ∉ X.ex := by rw [hex]; simp
  have cov' : Cov X.outer X.H₀ X.s₀.heap H' h' B := by
    refine ⟨fun b o e n hb => cov.old b o (I.base.keep b o e n hb (nx b)) (I.base.free b o e n (nx b)) (nst b o e hb), fun b o e hb => ?_, fun b o hb e => ?_⟩
    · obtain ⟨o', e'⟩ := I.base.there b o e (nx b)
      exact cov.there b o' e' (nst b o e hb)
    · cases q : H' b with
      | none => exact absurd q hb
      | some u =>
        obtain ⟨ob, ho⟩ := (J.hok b u q).ex
        have z := cov.new b ob hb ho
        have z2 := hB b ob z
        rw [e] at z2
        cases z2
        exact z
  refine ⟨⟨fun b o e n hb _ => hB b o (cov'.old b o e n hb), fun b o e n hb _ => ?_, fun b o e n _ => J.base.free b o e n (nx b), fun b o e _ => ?_, J.base.tups, J.base.frzs, J.base.tbls⟩, J.hok.stays fun b u hb hu => hB b u (cov.new b u hb hu), cov'⟩
  · obtain ⟨sl, e1⟩ := J.base.slot b o e n hb (nx b)
    obtain ⟨_, o2, ho2, hd⟩ := I.ok.funs.mem hb
    rw [e] at ho2
    cases ho2
    obtain ⟨sl2, e2⟩ := up b _ e1 hd
    exact ⟨sl2, e2⟩
  · by_cases hb : b ∈ X.fs
    · obtain ⟨_, o2, ho2, _⟩ := hfr.mem hb
      exact ⟨o2, ho2⟩
    · obtain ⟨o', e'⟩ := cov'.there b o e hb
      exact ⟨o', hB b o' e'⟩
theorem zg2 (hst : X.stack = X.env :: X.outer) (hf : X.env.frame = some X.env.locals) (hex : X.ex = []) (I : Inv X pins σ H s) (a : Air X.prog X.w X.stack H s E e s') :
    wpAny M X.A (leaving X.env e) (fun _ s'' => Air X.prog X.w X.outer X.H₀ X.s₀ E e s'') E2 s' := by
  obtain ⟨ea, C, t, H', B, rfl, os, bare, un, hok, fl, cov, hE⟩ := a
  have J : Inv X pins σ H' s' := I.call' (ch := []) os un hok bare (fun b z => nomatch z)
  rw [hst] at fl
  refine wpAny_leaves_onW (by rw [I.ok.frames, hst]) hf fl fun h' x1 x2 => ?_
  obtain ⟨u1, u2, u3⟩ := I.airUn hex J cov x1.1 x1.2.2.1 x2
  exact ⟨ea, C, t, H', B, rfl, os.trans I.os, bare, u1, u2, x1, u3, hE⟩
end
theorem zD {P : Program} {w : World} {K : PySem.W.Frag} {mg : Str → Option Value} {base : Heap} {N : List Str} {qual : Str} {scope : Scope} {f : Addr} {cd : Value} {A : Around} {outer : List Env} {s : Shared} {H : Hp} {E : XK} :
    ZQ (Air P w) (W3 (Air P w) P w K mg base N qual scope f cd A outer s H E) E := fun pins σ H1 s1 e s' I a =>
  zg2 (X := W3 (Air P w) P w K mg base N qual scope f cd A outer s H E) rfl rfl rfl I a
theorem zcM {P : Program} {w : World} {K : PySem.W.Frag} {mg : Str → Option Value} {base : Heap} {N : List Str} {qual : Str} {scope : Scope} {f : Addr} {cd : Value} {A : Around} {outer : List Env} {s : Shared} {H : Hp} {E : XK}
    {pins : List (Addr × Obj)} {σ : St} {H1 : Hp} {s1 : Shared} {h' : Heap} {ea C : Addr} {args : List Value}
    (I : Inv (W3 (Air P w) P w K mg base N qual scope f cd A outer s H E) pins σ H1 s1) (hx : Heap.MadeExcOf s1.heap h' ea (.ref C) args) (hE : E (.ref C) none H1) :
    (W3 (Air P w) P w K mg base N qual scope f cd A outer s H E).xe (.ref ea) { s1 with heap := h' } := by
  let X := W3 (Air P w) P w K mg base N qual scope f cd A outer s H E
  have I : Inv X pins σ H1 s1 := I
  have keepX : ∀ b o, s1.heap.get? b = some o → h'.get? b = some o := hx.keeps
  have hin : ∀ env ∈ X.stack, ∀ a, env.frame = some a → a ∈ frs X.stack := fun env he a ha => List.mem_filterMap.mpr ⟨env, he, ha⟩
  have J : Inv X pins σ H1 { s1 with heap := h' } := by
    have := I.un (t' := s1.toks) (H' := H1) (h' := h') (Un.kept keepX) (I.hok.kept keepX)
    exact this
  show wpAny (model P w) X.A (leaving X.env (.ref ea)) (fun _ s'' => Air P w outer H s E (.ref ea) s'') _ { s1 with heap := h' }
  refine wpAny_leaves_madeW (base := PySem.W.hideAll s1.heap (frs X.stack)) (h := s1.heap) (L := X.env.locals) (outer := outer) (I.ok.frames) rfl (fun b o q => PySem.W.of_hideAll _ q) (PySem.W.funFrames_hide I.stack hin) hx fun h2 t x1 x2 x3 x4 => ?_
  have cov : Cov X.stack H1 s1.heap H1 h' (PySem.W.hideAll s1.heap (frs X.stack)) := by
    refine ⟨fun b o e _ hb => PySem.W.hideAll_get _ e hb, fun b o e hb => ⟨o, PySem.W.hideAll_get _ e hb⟩, fun b o hb e => ?_⟩
    cases q : H1 b with
    | none => exact absurd q hb
    | some u =>
      obtain ⟨ob, ho⟩ := (I.hok b u q).ex
      have z := keepX b ob ho
      rw [e] at z
      cases z
      exact PySem.W.hideAll_get _ ho fun z => hb (I.stkFree b z)
  obtain ⟨u1, u2, u3⟩ := I.airUn (X := X) rfl J cov x1.1 x1.2.2.1 x4
  exact ⟨ea, C, t, H1, _, rfl, I.os, I.bare, u1, u2, x1, u3, hE⟩
end L2
namespace L2
open PySem PySem.Spec PyProof.Rows
noncomputable abbrev bmV : List Value := [.type "ValueError", .type "Exception", .type "BaseException", .type "object"]
structure XCls (K : PySem.W.Frag) (mg : Str → Option Value) (C : Addr) (x : Str) : Prop where
  bound : mg x = some (.ref C)
  exc : PySem.W.excIn K C bmV "ValueError.__new__" = true
theorem zfl {K : PySem.W.Frag} {h₀ : Heap} {C : Addr} {bmB : List Value} {newId : String} (X : K.In h₀) (q : PySem.W.excIn K C bmB newId = true) :
    ∃ bm N nm q bs hdct sn sub ab col dd k0 k1 k2 k3 k5 mN, h₀.get? C = some (excClassObj nm q C N bs bm hdct sn sub ab col dd k0 k1 k2 k3 k5 newId) ∧ h₀.Ns N mN ∧ mN "__init__" = none ∧ OwnTail h₀ bmB bm := by
  unfold PySem.W.excIn at q
  split at q
  · rename_i dd cd sl ho
    split at q
    · rename_i C' bm k0 k1 k2 k3 n k5 hm hs
      simp only [Bool.and_eq_true, beq_iff_eq, Bool.not_eq_true'] at q
      obtain ⟨⟨⟨⟨⟨rfl, rfl⟩, hdel⟩, ht⟩, hok⟩, hni⟩ := q
      obtain ⟨nm, bs, mro, ns, qn, hd, sn, sub, ab, col, del⟩ := cd
      dsimp only at hm hdel hok hni
      subst hm hdel
      have hsl : sl = #[k0, k1, k2, k3, some (.builtin n), k5] := by
        obtain ⟨l⟩ := sl
        simp only at hs
        rw [hs]
      subst hsl
      exact ⟨bm, ns, nm, qn, bs, hd, sn, sub, ab, col, dd, k0, k1, k2, k3, k5, _, X _ _ ho, .of_isNs (PySem.W.isNs_of_in X hok), PySem.W.nsMap_none_of_in X hok hni, PySem.W.tail_of_in X ht⟩
    · cases q
  · cases q
theorem zd6 {P : Program} {w : World} {K : PySem.W.Frag} {mg : Str → Option Value} {base : Heap} {N : List Str} {qual : Str} {scope : Scope} {f : Addr} {cd : Value} {A : Around} {outer : List Env} {s : Shared} {H : Hp} {E : XK} {C : Addr} {x : Str} {np cpos pos : Pos}
    (hc : XCls K mg C x) (hg : Gl (W3 (Air P w) P w K mg base N qual scope f cd A outer s H E) x) (hd : (x == ("__debug__" : Str)) = false := by decide) :
    PS (W3 (Air P w) P w K mg base N qual scope f cd A outer s H E) (.Raise (some (.Call (.Name x np) [] [] cpos)) none pos) (fun _ _ H1 => E (.ref C) none H1) := by
  intro pins s1 σ H1 D I h
  obtain ⟨tl, N', nm, q, bs, hdct, sn, sub, ab, col, dd, k0, k1, k2, k3, k5, mN, hC, hN, hni, T⟩ := zfl I.ok.mod.kin hc.exc
  refine wpAny_Raise_call_subU (C := C) (nm := nm) (q := q) (N := N') (bs := bs) (bm := tl) (hdct := hdct) (sn := sn) (sub := sub) (ab := ab) (col := col) (dd := dd) (k0 := k0) (k1 := k1) (k2 := k2) (k3 := k3) (k5 := k5)
    PySem.F.excBase_ValueError (by decide) PySem.F.excBase_ValueError (mN := mN) (T.hasType PySem.F.excBase_ValueError.hasBase) (I.ok.hd rfl) rfl hni (Zp I hg hc.bound ⟨rfl, ?_⟩ hd)
  exact evalArgs_empty ⟨rfl, Nat.zero_le _, I.bk _ _ hC, hN.keeps I.bk, T.keeps I.bk, fun h' e hm => zcM I hm h⟩
end L2
namespace Dl
open PySem L2
variable [KK]
section
variable (E : XK) (cl : Nat → Addr)
noncomputable def Wi (F H : Hp) (j : Nat) : Prop := ∀ F' H', Gr F H F' H' → E (.ref (cl j)) none H'
noncomputable def RXE (t : TE) (fx : Ev → Option Nat) : Prop := ∀ (σ : St) (ρ : Ev) (F H : Hp) (j : Nat) (Q : VK), yK F H → VAt F ρ σ → fx ρ = some j → Wi E cl F H j → t σ H Q
noncomputable def RXS (t : TS) (gx : SE → Option Nat) : Prop := ∀ (Fb Hb F H : Hp) (ρ : SE) (σ : St) (D' : V3) (j : Nat), Rl Fb Hb F H ρ σ → gx ρ = some j → Wi E cl Fb Hb j → t D' σ H
noncomputable def XE (X : Cx) (e : Expr) (fx : Ev → Option Nat) : Prop := ∃ t, PE X e t ∧ RXE E cl t fx
noncomputable def XS (X : Cx) (st : Stmt) (gx : SE → Option Nat) : Prop := ∃ t, PS X st t ∧ RXS E cl t gx
noncomputable def XSs (X : Cx) (sts : List Stmt) (gx : SE → Option Nat) : Prop := ∃ t, PSs X sts t ∧ RXS E cl t gx
end
section
variable {E : XK} {cl : Nat → Addr} {X : Cx} {a b c e : Expr} {es : List Expr} {st : Stmt} {sts : List Stmt} {pos pos' : Pos}
theorem Wi.grow {F H F1 H1 : Hp} {j : Nat} (w : Wi E cl F H j) (g : Gr F H F1 H1) : Wi E cl F1 H1 j := fun F' H' g' => w F' H' (g.trans g')
theorem Wi.out {Fb Hb F H : Hp} {ρ : SE} {σ : St} {j : Nat} (w : Wi E cl Fb Hb j) (rl : Rl Fb Hb F H ρ σ) : Wi E cl (gOf ρ σ F H) H j := fun F' H' g => w F' H' (rl.out g)
noncomputable def spX (cl : Nat → Addr) (m : Nat) (r : List D → Option Nat) : Sp := fun vs H _ E => ∃ ds j F, ds.length = m ∧ yK F H ∧ AtL F ds vs ∧ r ds = some j ∧ Wi E cl F H j
noncomputable def wG (m : Nat) (r : List D → Option Nat) (f : Ev → Option (List D)) : Ev → Option Nat := fun ρ => (f ρ).bind fun ds => if ds.length = m then r ds else none
theorem ym {x : Str} {k m : Nat} {f : Addr} {fd : FuncData} {ps : List Str} {r : List D → Option Nat} {pp : Pos} {fa : Ev → Option (List D)} (F : yD X.prog X.w X.K X.mg X.base (Air X.prog X.w) k f fd ps (spX cl m r)) (hx : ZQ (Air X.prog X.w) X E) (hr : Yk k X.A) (hg : Gl X x) (hm : X.mg x = some (.ref f)) (hk : PySem.W.keepIn X.K (.ref f) = true) (hb : WW X.K fd ps [])
    (ha : AD X (e :: es) fa) (hdb : (x == ("__debug__" : Str)) = false := by decide) (he : starEach (e :: es) X.env = (false, eval e X.env) :: starEach es X.env := by rfl) (hpl : (backTo pos (starEach es X.env)).any (·.1) = false := by rfl) :
    XE E cl X (.Call (.Name x pp) (e :: es) [] pos) (wG m r fa) := by
  obtain ⟨t, pa, ra⟩ := ha
  refine ⟨_, zda F hr hg hm hk hb .nil hx pa hdb he hpl, fun σ ρ F0 H j Q s va e w => ?_⟩
  obtain ⟨ds, e1, e2⟩ := Option.bind_eq_some_iff.mp e
  split at e2 <;> try cases e2
  rename_i hl
  refine ra σ ρ F0 H ds _ s va e1 fun F1 H1 vs g1 a1 => ?_
  exact ⟨ds, j, F1, hl, g1.fh, by rw [List.append_nil]; exact a1, e2, w.grow g1⟩
theorem ww {fx : Ev → Option Nat} (h : XE E cl X e fx) (hs : swapsWith e none pos.line X.env = pure false := by rfl) : XS E cl X (.Expr e pos) (fun ρ => fx (visG ρ)) := by
  obtain ⟨t, p, r⟩ := h
  exact ⟨_, WM p hs, fun Fb Hb F H ρ σ D' j rl e w => r σ _ _ H j _ rl.gh rl.visG e (w.out rl)⟩
theorem XI {fx : Ev → Option Nat} (h : XE E cl X e fx) : XS E cl X (.Return (some e) pos) (fun ρ => fx (visG ρ)) := by
  obtain ⟨t, p, r⟩ := h
  exact ⟨_, Vm p, fun Fb Hb F H ρ σ D' j rl e w => r σ _ _ H j _ rl.gh rl.visG e (w.out rl)⟩
theorem zcK {i : Nat} {x : Str} {fx : Ev → Option Nat} (hN : X.N.Nodup) (hi : X.N[i]? = some x) (hx : Loc X.env.scope x) (h : XE E cl X e fx) (hs : swapsWith e (some (.Name x pos')) pos.line X.env = pure false := by rfl)
    (hf : X.fn x = true ∨ X.env.scope.names.lookup x = some .local := by first | exact .inl rfl | exact .inr rfl | assumption) : XS E cl X (.Assign [.Name x pos'] e pos) (fun ρ => fx (visG ρ)) := by
  obtain ⟨t, p, r⟩ := h
  exact ⟨_, ZZ hN hi hx p hs hf, fun Fb Hb F H ρ σ D' j rl e w => r σ _ _ H j _ rl.gh rl.visG e (w.out rl)⟩
noncomputable def xIf (t : Ev → Option Bool) (g h : SE → Option Nat) : SE → Option Nat := fun ρ => match t (visG ρ) with
  | some true => g ρ
  | some false => h ρ
  | none => none
theorem Wv {as bs : List Stmt} {t : Ev → Option Bool} {g h : SE → Option Nat} (hc : TD X c t) (ha : XSs E cl X as g) (hb : XSs E cl X bs h) : XS E cl X (.If c as bs pos) (xIf t g h) := by
  obtain ⟨tc, pc, rc⟩ := hc
  obtain ⟨ta, pa, ra⟩ := ha
  obtain ⟨tb, pb, rb⟩ := hb
  refine ⟨_, zf2 pc pa pb, fun Fb Hb F H ρ σ D' j rl k w => ?_⟩
  unfold xIf at k
  cases h : t (visG ρ) with
  | none => rw [h] at k; cases k
  | some d =>
    rw [h] at k
    refine rc σ _ _ H d _ rl.gh rl.visG h fun F' H' g => ?_
    have rl2 := rl.grow (rl.back g).1
    cases d with
    | true => rw [if_pos rfl]; exact ra Fb Hb _ H' ρ σ D' j rl2 k w
    | false => rw [if_neg Bool.false_ne_true]; exact rb Fb Hb _ H' ρ σ D' j rl2 k w
noncomputable def xNo : SE → Option Nat := fun _ => none
theorem xb {g : SE → Option Nat} (h : XS E cl X st g) : XSs E cl X [st] g := let ⟨_, p, r⟩ := h; ⟨_, Xp p, r⟩
noncomputable def zbs (gx : SE → Option Nat) (g : SE → Ctl) (hx : SE → Option Nat) : SE → Option Nat := fun ρ => match gx ρ with
  | some j => some j
  | none => match g ρ with
    | .nx ρ' => hx ρ'
    | _ => none
theorem xC {gx hx : SE → Option Nat} {g : SE → Ctl} (h1 : XS E cl X st gx) (h2 : SD X st g) (h3 : XSs E cl X sts hx) : XSs E cl X (st :: sts) (zbs gx g hx) := by
  obtain ⟨t1, p1, r1⟩ := h1
  obtain ⟨t2, p2, r2⟩ := h2
  obtain ⟨u, p3, r3⟩ := h3
  have por : PS X st (fun D σ H => t1 D σ H ∨ t2 D σ H) := fun pins s σ H D I h => h.elim (p1 pins s σ H D I) (p2 pins s σ H D I)
  refine ⟨_, wI por p3, fun Fb Hb F H ρ σ D' j rl k w => ?_⟩
  unfold zbs at k
  cases e1 : gx ρ with
  | some j' =>
    rw [e1] at k
    cases k
    exact .inl (r1 Fb Hb F H ρ σ _ j rl e1 w)
  | none =>
    rw [e1] at k
    dsimp only at k
    cases e2 : g ρ with
    | nx ρ' =>
      rw [e2] at k
      refine .inr (r2 Fb Hb F H ρ σ _ rl ?_)
      rw [e2]
      exact fun F' H' σ' rl' => r3 Fb Hb F' H' ρ' σ' D' j rl' k w
    | rt _ => rw [e2] at k; cases k
    | bk _ => rw [e2] at k; cases k
    | ct _ => rw [e2] at k; cases k
    | no => rw [e2] at k; cases k
theorem wB {g : SE → Option Nat} (h : XS E cl X st g) : XSs E cl X (st :: sts) g := by
  obtain ⟨t, p, r⟩ := h
  exact ⟨_, wI p (fun _ _ _ _ _ _ h => (h : False).elim), fun Fb Hb F H ρ σ D' j rl k w => r Fb Hb F H ρ σ _ j rl k w⟩
end
noncomputable def VY (j : Nat) : SE → Option Nat := fun _ => some j
theorem Xa {P : Program} {w : World} {K : PySem.W.Frag} {mg : Str → Option Value} {base : Heap} {N : List Str} {qual : Str} {scope : Scope} {f : Addr} {cd : Value} {A : Around} {outer : List Env} {s : Shared} {H : Hp} {E : XK} {cl : Nat → Addr} {j : Nat} {x : Str} {np cpos pos : Pos}
    (hc : XCls K mg (cl j) x) (hg : Gl (W3 (Air P w) P w K mg base N qual scope f cd A outer s H E) x) (hd : (x == ("__debug__" : Str)) = false := by decide) :
    XS E cl (W3 (Air P w) P w K mg base N qual scope f cd A outer s H E) (.Raise (some (.Call (.Name x np) [] [] cpos)) none pos) (VY j) :=
  ⟨_, zd6 hc hg hd, fun Fb Hb F H ρ σ D' j' rl e w => by cases e; exact w F H rl.gr⟩
noncomputable def fnX (n : Nat) (gx : SE → Option Nat) (ds : List D) : Option Nat := gx (ds.map .v ++ List.replicate (n - ds.length) .no)
theorem vh {P : Program} {w : World} {K : PySem.W.Frag} {mg : Str → Option Value} {base : Heap} {x qual : Str} {st : Stmt} {f : Addr} {fd : FuncData} {N ps : List Str} {k : Nat} {cl : Nat → Addr} {gx : SE → Option Nat} (Fu : Fun K x qual st f fd) (S : zt N ps (ze st))
    (hb : ∀ (cdv : Value) (A : Around) (outer : List Env) (s : Shared) (H : Hp) (E : XK), Yk k (A.deeper (PyProof.Rows.envOfC qual (ze st) s.heap.objs.size f cdv)) → XSs E cl (W3 (Air P w) P w K mg base N qual (ze st) f cdv A outer s H E) (zp st) gx) :
    yD P w K mg base (Air P w) (k + 1) f fd ps (spX cl ps.length (fnX N.length gx)) := by
  obtain ⟨oc, od, kV, doc, pm, an, cdv, ct, osl, rfl, lk, hcd⟩ := Fu.ex
  refine zgy lk hcd S (fun vs H Q E h => ?_) fun A outer s H vs Q E hr hsp => ?_
  · obtain ⟨ds, d, F, hl, _, a, _⟩ := h
    rw [a.length]; exact hl
  · obtain ⟨ds, j, F, hl, sm, a, e, q⟩ := hsp
    obtain ⟨t, p, r⟩ := hb cdv A outer s H E hr
    exact ⟨t, p, r F H F H _ _ _ j (za5 sm a) e q⟩
end Dl
namespace L2
open PySem PySem.Spec PyProof.Rows
section
variable {X : Cx} {pins : List (Addr × Obj)} {σ : St} {H H' : Hp} {s s' : Shared} {E : XK} {e : Value} {E2 : Value → Shared → Prop} {B h3 : Heap}
theorem Inv.caught (I : Inv X pins σ H s) (os : s'.os = s.os) (bare : AllBare s'.gens) (un : Un (frs X.stack) [] H H' s.heap s'.heap) (hok : HOk X.prog X.w H' s'.heap) (cov : Cov X.stack H s.heap H' s'.heap B)
    (hB : B.StaysIn h3) (hfr : h3.FunFrames B X.stack) (up : s'.heap.UpToSlots h3) : Inv X pins σ H' { s' with heap := h3 } := by
  obtain ⟨h', g', d', t', o'⟩ := s'
  have eo : o' = s.os := os
  subst eo
  have nil : ∀ b : Addr, b ∉ ([] : List Addr) := fun b z => nomatch z
  show Inv X pins σ H' { s with heap := h3, gens := g', drawn := d', toks := t' }
  refine I.step (s := s) (g' := g') (d' := d') (t' := t') (ch := []) (fun b z => nomatch z) (fun b o hL hb _ e n => hB b o (cov.old b o e n fun z => (List.mem_cons.mp (I.stkSub b z)).elim hL hb)) (fun b o hL hb _ e n => ?_) (fun b o _ e n => un.free b o e n (nil b)) (fun b o _ e => ?_) un.tups un.frzs un.tbls (fun m hm => ?_) (hok.stays fun b u hb hu => hB b u (cov.new b u hb hu)) bare
  · obtain ⟨sl, e1⟩ := un.any e n (nil b)
    obtain ⟨_, o2, ho2, hd⟩ := I.funs.mem hb
    rw [e] at ho2
    cases ho2
    obtain ⟨sl2, e2⟩ := up b _ e1 hd
    exact ⟨sl2, e2⟩
  · by_cases hb : b ∈ frs X.stack
    · obtain ⟨_, o2, ho2, _⟩ := hfr.mem hb
      exact ⟨o2, ho2⟩
    · obtain ⟨o', e'⟩ := cov.there b o e hb
      exact ⟨o', hB b o' e'⟩
  · obtain ⟨o, es, ep, ho, hd, r⟩ := hm
    obtain ⟨sl, e1⟩ := un.any ho I.free (nil _)
    exact up.ns ⟨_, es, ep, e1, hd, r⟩
theorem zbx {M : Model} (hst : X.stack = X.env :: X.outer) (hf : X.env.frame = some X.env.locals) (hex : X.ex = []) (I : Inv X pins σ H s) (a : Air X.prog X.w X.stack H s E e s') {hs : List ExceptHandler} {Q : Flow → Shared → Prop}
    (k : ∀ (ea C t : Addr) (H' : Hp) (B h3 : Heap), E (.ref C) none H' → H' ea = none → (∀ o', X.s₀.heap.get? ea = some o' → False) → (∀ p ∈ X.pn ++ pins, p.1 ≠ ea) → Heap.FlyingW B X.stack ea (.ref C) (.ref t) h3 → (∀ h4 : Heap, B.StaysIn h4 → h4.FunFrames B X.stack → h3.UpToSlots h4 → Inv X pins σ H' { s' with heap := h4 }) →
      e = .ref ea → wpAny M X.A (handleBy (.ref ea) X.env hs) Q E2 { s' with heap := h3 }) :
    wpAny M X.A (noteFrame e X.env) (fun _ s₂ => wpAny M X.A (setFlight e none) (fun _ s₃ => wpAny M X.A (handleBy e X.env hs) Q E2 s₃) E2 s₂) E2 s' := by
  obtain ⟨ea, C, t, H', B, rfl, os, bare, un, hok, fl, cov, hE⟩ := a
  have hfr : X.A.frames = some (X.env :: X.outer) := by rw [I.ok.frames, hst]
  have fl0 := fl
  rw [hst] at fl0
  refine wpAny_looks_onW hfr hf fl0 fun h2 hheld up2 => ?_
  refine wpAny_landsW (s := { s' with heap := h2 }) hheld fun h3 fl3 up3 => ?_
  rw [← hst] at fl3
  have hnB : B.get? ea = none := fl.2.1
  have nfr : ea ∉ frs X.stack := fun z => by
    obtain ⟨_, o2, ho2, hnf⟩ := fl.2.2.1.mem z
    obtain ⟨oe, vs, _, _, _, he, _, hd, _⟩ := fl.2.2.2
    rw [he] at ho2
    cases ho2
    exact hnf vs hd
  have nold : ∀ o', s.heap.get? ea = some o' → False := fun o' z => by
    obtain ⟨o2, e2⟩ := cov.there ea o' z nfr
    rw [hnB] at e2
    cases e2
  refine k ea C t H' B h3 hE ?_ (fun o' z => ?_) (fun p hp z => ?_) fl3 (fun h4 b1 b2 b3 => I.caught os bare un hok cov b1 b2 ((up2.trans up3).trans b3)) rfl
  · cases q : H' ea with
    | none => rfl
    | some u =>
      obtain ⟨ob, ho⟩ := (hok ea u q).ex
      have z := cov.new ea ob (by rw [q]; intro z; cases z) ho
      rw [hnB] at z
      cases z
  · obtain ⟨o2, e2⟩ := I.base.there ea o' z (by rw [hex]; intro z; cases z)
    exact nold o2 e2
  · exact nold p.2 (z ▸ (I.pin p hp).1)
end
end L2
namespace L2
open PySem PySem.Spec PyProof.Rows
noncomputable abbrev Cx.held (X : Cx) (e : Value) : Cx := { X with A := X.A.mark (some e), calm := false }
section
variable {X : Cx} {pins : List (Addr × Obj)} {σ : St} {H H' : Hp} {s s' : Shared} {E : Value → Shared → Prop} {e : Value} {M : Model} {A : Around}
theorem Cx.Ok.held (ok : X.Ok) (e : Value) : (X.held e).Ok :=
  ⟨ok.mod, ok.kind, ok.glob, ok.blt, ok.above, ok.inj, ok.has, ok.cab, (fun z => by cases z), ok.frames, ok.stk, ok.exf, ok.bs, ok.bsz, ok.noex, ok.exfs, ok.funs, ok.frf⟩
theorem Inv.held (I : Inv X pins σ H s) (e : Value) : Inv (X.held e) pins σ H s := ⟨I.ok.held e, I.os, I.bare, I.base, I.loc, I.cell, I.free, I.freeC, I.pin, I.hok, I.len⟩
theorem Inv.unheld (ok : X.Ok) (I : Inv (X.held e) pins σ H s) : Inv X pins σ H s := ⟨ok, I.os, I.bare, I.base, I.loc, I.cell, I.free, I.freeC, I.pin, I.hok, I.len⟩
theorem Zc {i : Nat} {x : Str} {pos : Pos} {Q : Unit → Shared → Prop} (I : Inv X pins σ H s) (hN : X.N.Nodup) (hi : X.N[i]? = some x) (hk : X.env.scope.names.lookup x = some .local)
    (h : ∀ s', Inv X pins (σ.set i none) H s' → Q () s') : wpAny M A (do bindName X.env x .none; unbindBehindTheSuite X.env x pos) Q E s := by
  obtain ⟨m, hn, hl⟩ := id I.loc
  have hcls : (X.env.scope.kind == .class || (X.env.scope.kind == .module && X.env.locals != X.env.globals)) = false := by rw [I.ok.kind]; rfl
  have hiσ : i < σ.length := by rw [I.len]; exact (List.getElem?_eq_some_iff.mp hi).1
  have cne := I.cne
  refine wpAny_nameGoes_keeps hk hn hcls fun h' v hn' hs => ?_
  obtain ⟨oL, _, _, hoL, _⟩ := id hn
  have tracked : HOk X.prog X.w H h' := fun b ob e => by
    refine (I.hok b ob e).stay (fun c w' hc q => (hs.2 c ?_).trans q) (fun _ q => q) fun _ _ q => q
    rintro rfl
    rcases hc with rfl | hc
    · rw [I.free] at e; cases e
    · rw [I.free] at hc; cases hc
  have ne0 : ∀ b o, X.s₀.heap.get? b = some o → b ≠ X.env.locals := fun b o e => Nat.ne_of_lt (Nat.lt_of_lt_of_le (Heap.lt_size e) I.ok.above)
  refine h _ ⟨I.ok, I.os, I.bare, ⟨fun b o e n hb hx => ?_, fun b o e n hb hx => ?_, I.base.free, fun b o e hx => ?_, I.base.tups, I.base.frzs, I.base.tbls⟩, ⟨_, hn', fun j y v' e1 e2 e3 => ?_⟩, fun y c e => ?_, I.free, I.freeC, fun p hp => ?_, tracked, by simpa using I.len⟩
  · exact (hs.2 b (ne0 b o e)).trans (I.base.keep b o e n hb hx)
  · obtain ⟨sl, e1⟩ := I.base.slot b o e n hb hx
    exact ⟨sl, (hs.2 b (ne0 b o e)).trans e1⟩
  · obtain ⟨o', e1⟩ := I.base.there b o e hx
    exact ⟨o', (hs.2 b (ne0 b o e)).trans e1⟩
  · by_cases hj : j = i
    · subst hj
      rw [List.getElem?_set_self hiσ] at e2
      cases e2
    · rw [List.getElem?_set_ne (Ne.symm hj)] at e2
      obtain ⟨u', r', q⟩ := hl j y v' e1 e2 e3
      refine ⟨u', r', ?_⟩
      rcases q with ⟨k, e⟩ | ⟨k, c, e, z⟩
      · refine .inl ⟨k, ?_⟩
        have : y ≠ x := fun e => hj (W1 hN e1 (e ▸ hi))
        simp [this, e]
      · exact .inr ⟨k, c, e, z.sameBut hs (cne y c e)⟩
  · obtain ⟨w', z⟩ := I.cell y c e
    exact ⟨w', z.sameBut hs (cne y c e)⟩
  · obtain ⟨e, n, ne, nf, d⟩ := I.pin p hp
    exact ⟨(hs.2 p.1 ne).trans e, n, ne, nf, d⟩
noncomputable def zcJ (a C : Addr) : HO := .ext fun h => ∃ oe, h.get? a = some oe ∧ oe.cls = .ref C
theorem Inv.track {a : Addr} {o : HO} {ob : Obj} {vs : Array Value} (I : Inv X pins σ H s) (ha : H a = none) (he : s.heap.get? a = some ob) (hd : ob.data = .fields vs) (h0 : ∀ o', X.s₀.heap.get? a = some o' → False) (hp : ∀ p ∈ X.pn ++ pins, p.1 ≠ a)
    (new : yV X.prog X.w (upd H a o) s.heap a o) : Inv X pins σ (upd H a o) s := by
  have neL : X.env.locals ≠ a := by
    rintro rfl
    obtain ⟨m, ⟨oL, es, ep, hoL, hdL, _⟩, _⟩ := I.loc
    rw [he] at hoL
    cases hoL
    rw [hd] at hdL
    cases hdL
  have neC : ∀ x c, X.env.cells.lookup x = some c → c ≠ a := fun x c e => by
    rintro rfl
    obtain ⟨v, oc, hoc, hdc⟩ := I.cell x c e
    rw [he] at hoc
    cases hoc
    rw [hd] at hdc
    cases hdc
  refine ⟨I.ok, I.os, I.bare, ⟨I.base.keep, I.base.slot, fun b u e n hx => ?_, I.base.there, fun b xs e => ?_, fun b u v e => ?_, fun b ps e => ?_⟩, I.loc, I.cell, ?_, fun x c e => ?_, fun p hq => ?_, fun b u e => ?_, I.len⟩
  · rw [zn (fun z : b = a => h0 u (z ▸ e))]
    exact I.base.free b u e n hx
  · have e1 := I.base.tups b xs e
    rw [zn (zl e1 ha)]
    exact e1
  · have e1 := I.base.frzs b u v e
    rw [zn (zl e1 ha)]
    exact e1
  · obtain ⟨more, e1⟩ := I.base.tbls b ps e
    exact ⟨more, by rw [zn (zl e1 ha)]; exact e1⟩
  · rw [zn neL]
    exact I.free
  · rw [zn (neC x c e)]
    exact I.freeC x c e
  · obtain ⟨e, n, ne, nf, d⟩ := I.pin p hq
    exact ⟨e, by rw [zn (hp p hq)]; exact n, ne, nf, d⟩
  · by_cases c : b = a
    · subst c
      rw [zq] at e
      cases e
      exact new
    · rw [zn c] at e
      refine (I.hok b u e).stay (fun _ _ _ q => q) (fun c hc => ?_) fun c xs hc => ?_
      · rw [zn (zl hc ha)]; exact hc
      · rw [zn (zl hc ha)]; exact hc
end
end L2
namespace L2
open PySem PySem.Spec PyProof.Rows
noncomputable abbrev Cx.pinned (X : Cx) (ps : List (Addr × Obj)) : Cx := { X with pn := X.pn ++ ps }
section
variable {X : Cx} {pins ps : List (Addr × Obj)} {σ : St} {H H' : Hp} {s s' : Shared}
theorem Cx.Ok.pinned (ok : X.Ok) (ps : List (Addr × Obj)) : (X.pinned ps).Ok :=
  ⟨ok.mod, ok.kind, ok.glob, ok.blt, ok.above, ok.inj, ok.has, ok.cab, ok.hd, ok.frames, ok.stk, ok.exf, ok.bs, ok.bsz, ok.noex, ok.exfs, ok.funs, ok.frf⟩
theorem Inv.pinAll (I : Inv X pins σ H s) : Inv (X.pinned pins) [] σ H s := ⟨I.ok.pinned pins, I.os, I.bare, I.base, I.loc, I.cell, I.free, I.freeC, fun p hp => I.pin p (by rw [List.append_nil] at hp; exact hp), I.hok, I.len⟩
theorem Inv.unpin (ok : X.Ok) (I : Inv (X.pinned pins) ps σ H s) : Inv X pins σ H s := ⟨ok, I.os, I.bare, I.base, I.loc, I.cell, I.free, I.freeC, fun p hp => I.pin p (List.mem_append_left _ hp), I.hok, I.len⟩
end
noncomputable abbrev gone (i : Nat) (D : V3) : V3 := { nx := fun σ H => D.nx (σ.set i none) H, rt := D.rt, bk := fun σ H => D.bk (σ.set i none) H, ct := fun σ H => D.ct (σ.set i none) H }
noncomputable def exW (K : PySem.W.Frag) (CS : Addr) (i n : Nat) (u : TS) (D : V3) : XK := fun cls _ H' => ∃ C, cls = .ref C ∧ PySem.W.exmOne K (.ref C) (.ref CS) = some true ∧ ∀ (ea : Addr) (σ : St), σ.length = n → H' ea = none → u (gone i D) (σ.set i (some (.ref ea))) (upd H' ea (zcJ ea C))
theorem zgZ {Y : Cx} {CS : Addr} {x n : Str} {i : Nat} {body suite : List Stmt} {b₀ : Stmt} {pos hpos np : Pos} {tb : XK → TS} {u : TS} (hst : Y.stack = Y.env :: Y.outer) (hf : Y.env.frame = some Y.env.locals) (hex : Y.ex = [])
    (hN : Y.N.Nodup) (hi : Y.N[i]? = some n) (hk : Y.env.scope.names.lookup n = some .local) (hg : Gl Y x) (hm : Y.mg x = some (.ref CS))
    (hbody : ∀ (ps : List (Addr × Obj)) (W : Value → Shared → Prop) (E0 : XK), ZQ (Air Y.prog Y.w) ((Y.pinned ps).wish W) E0 → PSs ((Y.pinned ps).wish W) body (tb E0))
    (hsuite : ∀ ea, PSs (Y.held (.ref ea)).nox (b₀ :: suite) u) (hd : (x == ("__debug__" : Str)) = false := by decide) :
    PS Y.nox (.Try body [.ExceptHandler (some (.Name x np)) (some n) (b₀ :: suite) hpos] [] [] pos) (fun D σ H => tb (exW Y.K CS i Y.N.length u D) D σ H) := by
  intro pins s σ H D I h
  have ok : Y.Ok := I.ok.unwish
  have IY : Inv Y pins σ H s := I.unwish
  refine wpAny_Try_except ?_
  refine wpAny_mono (hbody pins _ (exW Y.K CS i Y.N.length u D) ?_ [] s σ H D (IY.pinAll.wish _) h) ?_ fun e s₁ h => h
  · intro pins' σ' H1 s1 e s2 I1 a
    have I1' : Inv Y pins σ' H1 s1 := I1.unwish.unpin ok
    refine zbx (X := Y) hst hf hex I1' a fun ea C t H' B h3 hE hea h0 hpn fl hinv ee => ?_
    obtain ⟨C', ec, hsub, hu⟩ := hE
    cases ec
    have I3 : Inv Y pins σ' H' { s2 with heap := h3 } := hinv h3 fl.1 fl.2.2.1 (.refl _)
    obtain ⟨ob, hob, hobc⟩ := fl.there
    have ty : PySem.W.Looks (model Y.prog Y.w) h3 (typeOf (.ref ea)) (.ref C) := hobc ▸ (PySem.W.Looks.ld hob).andThen .now
    refine wpAny_handleBy_cons (codeAny_handlers_test (Zp (X := Y.held (.ref ea)) (I3.held (.ref ea)) hg hm ?_ hd)) (by intro q; cases q)
    refine (PySem.W.exm_one (M := model Y.prog Y.w) I3.kIn ty hsub).here ?_
    refine codeAny_handlers_suite_as ?_
    refine wpAny_setFlight_noneW (s := { s2 with heap := h3 }) fl.1 fl.2.2.1 fl.2.2.2.at fun h4 k1 k2 k3 k4 => ?_
    have I4 : Inv Y pins σ' H' { s2 with heap := h4 } := hinv h4 k1 k2 fun b o hb hn => ⟨o.slots, k4 b o hb hn⟩
    obtain ⟨oe, vs, _, _, _, he, hcl, hdv, _⟩ := k3
    have I5 : Inv Y pins σ' (upd H' ea (zcJ ea C)) { s2 with heap := h4 } := I4.track hea he hdv h0 hpn ⟨⟨oe, he, hcl.1⟩, ⟨oe, he⟩, fun h1 h2 ⟨o1, e1, e2⟩ kk => ⟨o1, kk o1 e1, e2⟩⟩
    refine WO (X := Y.held (.ref ea)) (v := .ref ea) (I5.held (.ref ea)) hN hi (.inl hk) rfl (fun s6 I6 => ?_) (.inr hk)
    refine wpAny_mono (hsuite ea pins s6 _ _ (gone i D) (I6.wish _) (hu ea σ' I4.len hea)) (fun f s7 q => ?_) fun x s7 q => q.elim
    cases f with
    | ret uv =>
      obtain ⟨v, σ7, H7, I7, rv, q⟩ := q
      exact Zc ((Inv.unheld (X := Y) ok I7.unwish)) hN hi hk fun s8 I8 => ⟨v, _, H7, I8.wish _, rv, q⟩
    | next =>
      obtain ⟨σ7, H7, I7, q⟩ := q
      exact Zc ((Inv.unheld (X := Y) ok I7.unwish)) hN hi hk fun s8 I8 => ⟨_, H7, I8.wish _, q⟩
    | brk =>
      obtain ⟨σ7, H7, I7, q⟩ := q
      exact Zc ((Inv.unheld (X := Y) ok I7.unwish)) hN hi hk fun s8 I8 => ⟨_, H7, I8.wish _, q⟩
    | cont =>
      obtain ⟨σ7, H7, I7, q⟩ := q
      exact Zc ((Inv.unheld (X := Y) ok I7.unwish)) hN hi hk fun s8 I8 => ⟨_, H7, I8.wish _, q⟩
  · intro f s₁ q
    cases f with
    | ret uv =>
      obtain ⟨v, σ7, H7, I7, rv, q⟩ := q
      exact ⟨v, σ7, H7, (Inv.unpin (X := Y) ok I7.unwish).wish _, rv, q⟩
    | next =>
      obtain ⟨σ7, H7, I7, q⟩ := q
      exact wpAny_execs_nil ⟨σ7, H7, (Inv.unpin (X := Y) ok I7.unwish).wish _, q⟩
    | brk =>
      obtain ⟨σ7, H7, I7, q⟩ := q
      exact ⟨σ7, H7, (Inv.unpin (X := Y) ok I7.unwish).wish _, q⟩
    | cont =>
      obtain ⟨σ7, H7, I7, q⟩ := q
      exact ⟨σ7, H7, (Inv.unpin (X := Y) ok I7.unwish).wish _, q⟩
end L2
namespace L2
open PySem PySem.Spec PyProof.Rows PySem.W PySem.Calls PySem.Builtin PySem.Builtin.Getset_descriptor
section
variable {prog : Program} {w : World} {A : Around} {E : Value → Shared → Prop} {K : PySem.W.Frag} {h : Heap} {g : Array GenState} {d : Drawn} {t : Nat} {os : OsState} {a C : Addr} {o : Obj}
noncomputable def Of (h : Heap) (a : Addr) (o : Obj) (C : Addr) : Prop := h.get? a = some o ∧ o.cls = .ref C
theorem Of.type {M : Model} (I : Of h a o C) : Looks M h (typeOf (.ref a)) (.ref C) := I.2 ▸ (Looks.ld I.1).andThen .now
theorem zb1 {M : Model} {name : Str} {x gt : Value} (X : K.In h) (ha : findIn K (.ref C) name = some (some x)) (hg : specialIn K x "__get__" = some (some gt)) (ht : takesIn K x = some true) : Looks M h (Builtin.ObjectAttr.find (.ref a) (.ref C) name) (.bind gt x) := by
  have L1 := looks_findIn (M := M) X ha
  have L2 : Looks M h (Builtin.ObjectAttr.getOf (some x)) (some gt) := looks_specialIn X hg
  have L3 := looks_takesIn (M := M) X ht
  exact L1.andThen (L2.andThen ((show Looks M h (Builtin.ObjectAttr.dataDescriptor? (some x) (some gt)) (some (gt, x)) from L3.andThen .now).andThen (Looks.tag .now)))
theorem zfY {R : Result → Shared → Prop} {tp : Value} (X : K.In h) (I : Of h a o C) (hm : mroIn K C (.type "object") = some true) (hq : R (.ok (.ret (.ref C))) ⟨h, g, d, t, os⟩) :
    codeAny (model prog w) A (.call (.builtin "getset_descriptor.__get__") ⟨[.builtin "object.__class__", .ref a, tp], []⟩) R ⟨h, g, d, t, os⟩ := by
  have L0 := I.type (M := model prog w)
  have L1 := looks_mroIn (M := model prog w) X hm
  refine codeAny_call_builtin KF.slot_gs.plain KF.entry_gs (KF.slot_gs.check _ _ _ _ _ _ _ _ KF.type_class (KF.args_gs _ _ _) ?_)
  unfold Builtin.«getset_descriptor.__get__» descrGet
  rw [dga_obj]
  refine wpAny_bind (wpAny_pure ?_)
  unfold descrGetter descrCheckInstance descrNameAndClass isInstance
  simp only [KF.owner_class]
  repeat lk
  refine ⟨Code.quiet_builtin _ (by decide +kernel), codeAny_builtin KF.entry_class ?_⟩
  unfold Builtin.«object.__class__» shownTypeOf
  repeat lk
  exact hq
theorem zbP {tk : Tok} {Q : Fin → Shared → Prop} (X : K.In h) (I : Of h a o C) (ha : findIn K (.ref C) "__class__" = some (some (.builtin "object.__class__"))) (hn : specialIn K (.builtin "object.__class__") "__get__" = some (some (.builtin "getset_descriptor.__get__"))) (ht : takesIn K (.builtin "object.__class__") = some true) (hm : mroIn K C (.type "object") = some true)
    (hq : Q (.done (.ret (.ref C))) ⟨h, g, d, t, os⟩) : wpAny (model prog w) A (Builtin.«object.__getattribute__» ⟨[.ref a, .str "__class__" tk], []⟩) Q E ⟨h, g, d, t, os⟩ := by
  have L0 := I.type (M := model prog w)
  have L1 := zb1 (M := model prog w) (a := a) X ha hn ht
  refine wpAny_bind (wpAny_pure (wpAny_bind ?_))
  refine wpAny_pure (wpAny_bind (L0.at (wpAny_bind (L1.at ?_))))
  show wpAny _ _ (holding [.builtin "object.__class__"] (call (.builtin "getset_descriptor.__get__") [.builtin "object.__class__", .ref a, .ref C]) >>= ret) _ _ _
  exact wpAny_bind (wpAny_holding (wpAny_call (zfY X I hm (wpAny_pure hq))))
theorem zc7 {M : Model} {nameV : Value} {Q : Unit → Shared → Prop} (X : K.In h) (I : Of h a o C) (hb : subIn K (.ref C) (.type "BaseException") = some true) (hq : Q () ⟨h, g, d, t, os⟩) : wpAny M A (checkBuiltinCall "BaseException.__getattribute__" ⟨[.ref a, nameV], []⟩) Q E ⟨h, g, d, t, os⟩ := by
  have hk : builtinKind "BaseException.__getattribute__" = some .slot := by decide +kernel
  have hsplit : splitId "BaseException.__getattribute__" = some ("BaseException", "__getattribute__") := by decide +kernel
  have ha := F.args_bexc_ga (.ref a) nameV
  have L0 := I.type (M := M)
  have L1 : Looks M h (isSubtype (.ref C) (.type "BaseException")) true := looks_subIn X hb
  simp only [checkBuiltinCall, hk, hsplit]
  refine wpAny_bind ?_
  unfold isInstance
  refine wpAny_bind (L0.at (L1.at ?_))
  repeat (first | assumption | wp_step)
theorem zgN {tk : Tok} {Q : Value → Shared → Prop} (X : K.In h) (I : Of h a o C) (hga : findIn K (.ref C) "__getattribute__" = some (some (.builtin "BaseException.__getattribute__"))) (hgt : findIn K (.ref C) "__getattr__" = some none)
    (ha : findIn K (.ref C) "__class__" = some (some (.builtin "object.__class__"))) (hn : specialIn K (.builtin "object.__class__") "__get__" = some (some (.builtin "getset_descriptor.__get__"))) (ht : takesIn K (.builtin "object.__class__") = some true) (hm : mroIn K C (.type "object") = some true) (hb : subIn K (.ref C) (.type "BaseException") = some true) (hq : Q (.ref C) ⟨h, g, d, t, os⟩) :
    wpAny (model prog w) A (getAttrBy (.ref a) (.str "__class__" tk) false) Q E ⟨h, g, d, t, os⟩ := by
  have L0 := I.type (M := model prog w)
  have L1 := looks_findIn (M := model prog w) X hga
  have L2 := looks_findIn (M := model prog w) X hgt
  have f3 := F.attrBase_ValueError.ga.bind (.ref a)
  have hx2 : (Value.builtin "BaseException.__getattribute__" == Value.builtin "object.__getattribute__") = false := by decide +kernel
  unfold getAttrBy
  refine wpAny_holding (wpAny_bind (L0.at (wpAny_bind (L1.at ?_))))
  dsimp only
  rw [hx2, Bool.and_false, if_neg Bool.false_ne_true]
  unfold getAttrByItsOwn
  refine wpAny_bind ?_
  show wpAny _ _ (typeLookup (.ref C) "__getattr__") _ _ _
  refine L2.at (wpAny_bind (wpAny_attempt (wpAny_holding ?_)))
  show wpAny _ _ (boundAndCalled (.builtin "BaseException.__getattribute__") (.ref a) (.str "__class__" tk)) _ _ _
  unfold boundAndCalled
  rw [f3]
  refine wpAny_bind (wpAny_pure ?_)
  refine wpAny_call (codeAny_call_builtin F.attrBase_ValueError.ga.plain F.entry_bexc_ga (zc7 X I hb (zbP X I ha hn ht hm ?_)))
  exact handed_on rfl hq
theorem zb9 {Q : Option Value → Shared → Prop} {s : Shared} (X : K.In s.heap) (I : Of s.heap a o C) (hga : findIn K (.ref C) "__getattribute__" = some (some (.builtin "BaseException.__getattribute__"))) (hgt : findIn K (.ref C) "__getattr__" = some none)
    (ha : findIn K (.ref C) "__class__" = some (some (.builtin "object.__class__"))) (hn : specialIn K (.builtin "object.__class__") "__get__" = some (some (.builtin "getset_descriptor.__get__"))) (ht : takesIn K (.builtin "object.__class__") = some true) (hm : mroIn K C (.type "object") = some true) (hb : subIn K (.ref C) (.type "BaseException") = some true)
    (hq : Q (some (.ref C)) { s with toks := s.toks + 1 }) : wpAny (model prog w) A (getAttr? (.ref a) "__class__") Q E s := by
  obtain ⟨hh, g, d, t, os⟩ := s
  unfold getAttr? getAttrBy?
  exact wpAny_bind (wpAny_mkText (wpAny_bind (wpAny_attempt (zgN X I hga hgt ha hn ht hm hb (wpAny_pure hq)))))
noncomputable def wx (K : PySem.W.Frag) (C : Addr) : Bool := (clsIn K C).isSome && findIn K (.ref C) "__getattribute__" == some (some (.builtin "BaseException.__getattribute__")) && findIn K (.ref C) "__getattr__" == some none && findIn K (.ref C) "__class__" == some (some (.builtin "object.__class__"))
  && specialIn K (.builtin "object.__class__") "__get__" == some (some (.builtin "getset_descriptor.__get__")) && takesIn K (.builtin "object.__class__") == some true && mroIn K C (.type "object") == some true && subIn K (.ref C) (.type "BaseException") == some true
theorem zdr (q : wx K C = true) : KitX K (.ref a) (.ref C) (fun h => ∃ o, Of h a o C) := by
  unfold wx at q
  simp only [Bool.and_eq_true, beq_iff_eq] at q
  obtain ⟨⟨⟨⟨⟨⟨⟨hcls, hga⟩, hgt⟩, ha⟩, hn⟩, ht⟩, hm⟩, hb⟩ := q
  obtain ⟨cd, hcd⟩ := Option.isSome_iff_exists.mp hcls
  unfold clsIn at hcd
  refine ⟨fun _ _ _ ⟨_, I⟩ => I.type, fun _ _ X _ => ?_, fun h tp dd its n sl X htp => ?_, fun X ⟨_, I⟩ k => zb9 X I hga hgt ha hn ht hm hb k⟩
  · split at hcd
    · rename_i c' d' cd' sl' ho
      intro A' Q' E' s' k q
      unfold isType loadHead
      exact wpAny_bind (wpAny_loadPart (k _ _ (X _ _ ho)) (wpAny_pure q))
    · cases hcd
  · refine Bool.eq_false_iff.mpr fun q => ?_
    have e : C = tp := Value.ref.inj (beq_iff_eq.mp q)
    subst e
    split at hcd
    · rename_i c' d' cd' sl' ho
      have z := (X _ _ ho).symm.trans htp
      cases z
    · cases hcd
theorem X4 {c : Value} {b : Bool} {s : Shared} {Q : Value → Shared → Prop} (q : wx K C = true) (X : K.In s.heap) (I : ∃ o, Of s.heap a o C) (e : kitOne K (.ref C) c = some b) (hq : ∀ tk, Q (.bool b) { s with toks := tk }) :
    wpAny (model prog w) A (call (.builtin "isinstance") [.ref a, c]) Q E s := kia_one (zdr q) X I e (by intro z; cases z) hq
end
end L2
namespace L2
open PySem PySem.Spec PyProof.Rows
section
variable {P : Program} {w : World} {K : PySem.W.Frag} {mg : Str → Option Value} {base : Heap}
noncomputable def zcy (P : Program) (w : World) (K : PySem.W.Frag) (mg : Str → Option Value) (base : Heap) (k : Nat) (f : Addr) (fd : FuncData) (ps : List Str) (sp : Sp) : Prop :=
  (∀ vs H Q E, sp vs H Q E → vs.length = ps.length) ∧ ∀ (A : Around) (outer : List Env) (s : Shared) (H : Hp) (args : Args) (us : List Value) (vs : List V) (Q : VK) (E : XK) (ev : Value), Yk k A → zhf P w K mg base A outer s H → BindsTo s fd args (ps.zip us) → yC vs us → sp vs H Q E →
    codeAny (model P w) (A.mark (some ev)) (.call (.ref f) args) (CR CX0 outer P w H s Q E) s
theorem zfD {x qual : Str} {st : Stmt} {f : Addr} {fd : FuncData} {N ps : List Str} {k : Nat} {sp : Sp} (F : Fun K x qual st f fd) (S : zt N ps (ze st)) (len : ∀ vs H Q E, sp vs H Q E → vs.length = ps.length)
    (hbody : ∀ (cdv : Value) (A : Around) (outer : List Env) (s : Shared) (H : Hp) (vs : List V) (Q : VK) (E : XK) (ev : Value), Yk k (A.deeper (envOfC qual (ze st) s.heap.objs.size f cdv)) → sp vs H Q E →
      ∃ t, PSs ((W3 CX0 P w K mg base N qual (ze st) f cdv A outer s H E).held ev).nox (zp st) t ∧ t { nx := fun _ H' => Q .non H', rt := Q } (start N vs) H) : zcy P w K mg base (k + 1) f fd ps sp := by
  obtain ⟨oc, od, kV, doc, pm, an, cdv, ct, osl, rfl, lk, hcd⟩ := F.ex
  refine ⟨len, fun A outer s H args us vs Q E ev hr e0 hb r hsp => ?_⟩
  have KX : K.In s.heap := e0.mod.kin.keeps fun b o e => (e0.bs b o e).1
  have lim : s.heap.NoLimit := e0.mod.nolimit.keeps fun b o e => (e0.bs b o e).1
  refine codeAny_call_function (A := A.mark (some ev)) hr.depth (KX _ _ lk) rfl S.co S.gen rfl (PySem.W.codeRec_of KX hcd) (hb _ _ _ _ ?_)
  refine wpAny_newFunctionEnv_cells S.kind (fun y hy => ?_) fun env he s1 x => ?_
  · rcases S.par y.1 (List.of_mem_zip (a := y.1) (b := y.2) hy).1 with q | q
    · exact .inl q
    · exact .inr ⟨q, PySem.W.cellsFrom_some _ _ _ (.inl q)⟩
  subst he
  refine ⟨lim.keeps x.toInCall.keep, codeAny_func ?_⟩
  obtain ⟨t, ht, hq⟩ := hbody cdv A outer s H vs Q E ev (hr.deeper _) hsp
  have I : Inv (W3 CX0 P w K mg base N qual (ze st) f cdv A outer s H E) [] (start N vs) H s1 := Vv S hr.hd e0 (len _ _ _ _ hsp) r x
  refine wpAny_mono (ht [] s1 (start N vs) H _ ((I.held ev).wish _) hq) (fun fl s' hs => ?_) fun e s' hs => hs.elim
  cases fl with
  | ret u =>
    obtain ⟨v, σ', H', J, rv, q⟩ := hs
    exact ⟨v, H', J.os, J.bare, J.base, J.hok, rv, q⟩
  | next =>
    obtain ⟨σ', H', J, q⟩ := hs
    exact ⟨V.non, H', J.os, J.bare, J.base, J.hok, rfl, q⟩
  | brk =>
    obtain ⟨_, _, _, q⟩ := hs
    exact False.elim q
  | cont =>
    obtain ⟨_, _, _, q⟩ := hs
    exact False.elim q
end
theorem zd7 {Y : Cx} {ev : Value} {k : Nat} {f : Addr} {fd : FuncData} {ps : List Str} {sp : Sp} {x : Str} {p pos : Pos} {e : Expr} {es : List Expr} {t : TA} {E : XK} (F : zcy Y.prog Y.w Y.K Y.mg Y.base k f fd ps sp) (hr : Yk k Y.A) (hg : Gl Y x) (hm : Y.mg x = some (.ref f)) (hk : PySem.W.keepIn Y.K (.ref f) = true) (hb : WW Y.K fd ps []) (hok : Y.Ok)
    (ha : PA (Y.held ev).nox (e :: es) t) (hdb : (x == ("__debug__" : Str)) = false := by decide) (he : starEach (e :: es) Y.env = (false, eval e Y.env) :: starEach es Y.env := by rfl) (hpl : (backTo pos (starEach es Y.env)).any (·.1) = false := by rfl) :
    PE (Y.held ev).nox (.Call (.Name x p) (e :: es) [] pos) (ze3 sp [] E t) := by
  intro pins s σ H Q I h
  refine wpAny_Call_Name_kw (Zp I hg hm ?_ hdb)
  refine PySem.W.callWith_K (h₀ := Y.base) I.ok.mod.kin hk (thn (ha pos pins s σ H _ I h) fun us s1 ⟨vs, H1, I1, r, q⟩ => ⟨I1.kIn, ?_⟩) he hpl
  have q : sp (vs ++ []) H1 Q E := q
  rw [List.append_nil] at q
  have I2 : Inv Y pins σ H1 s1 := Inv.unheld (X := Y) hok I1.unwish
  refine wpAny_call (codeAny_mono (F.2 Y.A Y.stack s1 H1 ⟨us, []⟩ us vs Q E ev hr I2.env0 ?_ r q) fun r s' hq => ?_)
  · have := hb s1 us I2.kIn (by rw [List.append_nil, ← r.length]; exact F.1 _ _ _ _ q)
    rwa [List.append_nil] at this
  · cases r with
    | error e => exact False.elim hq
    | ok fl =>
      cases fl with
      | ret u => exact I1.after hq
      | next => exact False.elim hq
      | brk => exact False.elim hq
      | cont => exact False.elim hq
end L2
namespace L2
open PySem PySem.Spec PyProof.Rows PySem.SeqAt
theorem WL : ∀ {bs : List Bool} {its : List Value}, yC (bs.map V.bl) its → its = bs.map Value.bool
  | [], its, r => by
    have := r.length
    exact List.eq_nil_of_length_eq_zero (by rw [← this]; rfl)
  | b :: bs, its, r => by
    cases r with
    | cons r1 r2 =>
      rw [WL r2]
      cases r1
      rfl
theorem zbb {A : Around} {s : Shared} {bs : List Bool} {y : Value} (h : y ∈ (bs.map Value.bool).toArray) : EqAt A s y (.bool true) (isBoolOf true y) := by
  obtain ⟨b, _, rfl⟩ := List.mem_map.mp (List.mem_toArray.mp h)
  exact EqAt.bool_bool b true
noncomputable def zcR : V → List V → Hp → VK → Prop := fun x vs H Q => ∃ (l : Addr) (bs : List Bool), x = .ref l ∧ vs = [.bl true] ∧ H l = some (.lst (bs.map V.bl)) ∧ Q (.int ((bs.countP (· == true) : Nat) : Int)) H
theorem zcZ {X : Cx} : MtR X "list.count" zcR := by
  intro pins s σ H x vs v us Q I rx rv h
  obtain ⟨l, bs, rfl, rfl, hH, q⟩ := h
  cases rx
  obtain ⟨u, rfl, ru⟩ := rv.one
  cases ru
  obtain ⟨its, r, pl, hz⟩ := I.list (SqL.of (K := X.K) hH)
  have e := WL r
  subst e
  obtain ⟨⟨cls, dd, data, sl⟩, ho, hc, n, hd⟩ := pl.isList
  simp only at hc hd
  subst hc hd
  refine call_meets PySem.F.slot_list_count ⟨_, ho, rfl⟩ PySem.F.entry_list_count (PySem.F.args_list_count_2 _ _) (list_countAt l (bs.map Value.bool).toArray n dd sl (.bool true) (isBoolOf true)) ⟨ho, fun y hy => zbb hy, ?_⟩
  refine ⟨.int (((bs.map Value.bool).toArray.toList.countP (isBoolOf true) : Nat) : Int), H, I.tok _, ⟨_, rfl⟩, ?_⟩
  rw [show (bs.map Value.bool).toArray.toList = bs.map Value.bool from rfl, List.countP_map]
  exact q
noncomputable def zdc : V → List V → Hp → VK → Prop := fun x vs H Q => ∃ (l : Addr) (bs : List Bool), x = .ref l ∧ vs = [.bl true] ∧ H l = some (.lst (bs.map V.bl)) ∧ true ∈ bs ∧ Q (.int ((bs.idxOf true : Nat) : Int)) H
theorem zcc {X : Cx} : MtR X "list.index" zdc := by
  intro pins s σ H x vs v us Q I rx rv h
  obtain ⟨l, bs, rfl, rfl, hH, hm, q⟩ := h
  cases rx
  obtain ⟨u, rfl, ru⟩ := rv.one
  cases ru
  obtain ⟨its, r, pl, hz⟩ := I.list (SqL.of (K := X.K) hH)
  have e := WL r
  subst e
  obtain ⟨⟨cls, dd, data, sl⟩, ho, hc, n, hd⟩ := pl.isList
  simp only at hc hd
  subst hc hd
  have hj : bs.idxOf true < bs.length := List.idxOf_lt_length_iff.mpr hm
  have hl63 := XC
  have hb : bs.length ≤ sizeLine := by simpa using hz
  refine call_meets PySem.F.slot_list_index ⟨_, ho, rfl⟩ PySem.F.entry_list_index (PySem.F.args_list_index_2 _ _) (list_indexAt l (bs.map Value.bool).toArray n dd sl (.bool true) (isBoolOf true) (bs.idxOf true) (by simpa using hj) (by omega) ?_ ?_) ⟨ho, fun y hy => zbb hy, ⟨.int ((bs.idxOf true : Nat) : Int), H, I.tok _, ⟨_, rfl⟩, q⟩⟩
  · simp only [List.getElem_toArray, List.getElem_map]
    rw [List.getElem_idxOf hj]
    rfl
  · intro m hm2 hlt
    simp only [List.getElem_toArray, List.getElem_map]
    exact List.not_of_lt_findIdx (p := (· == true)) (xs := bs) hlt
end L2
namespace L2
open PySem PySem.Spec PyProof.Rows
noncomputable def clsV : V → Option Value
  | .ref C => some (.ref C)
  | .ty T => some (.type T)
  | _ => none
noncomputable def zhC (K : PySem.W.Frag) : List V → Hp → VK → Prop := fun vs H Q => ∃ (a C : Addr) (v : V) (c : Value) (b : Bool), vs = [.ref a, v] ∧ H a = some (zcJ a C) ∧ wx K C = true ∧ clsV v = some c ∧ PySem.W.kitOne K (.ref C) c = some b ∧ Q (.bl b) H
theorem yQ {X : Cx} : YS X (.builtin "isinstance") (zhC X.K) := by
  intro pins s σ H vs us Q I rv h
  obtain ⟨a, C, v, c, b, rfl, hH, hl, hc, hk, q⟩ := h
  obtain ⟨u1, u2, rfl, r1, r2⟩ : ∃ u1 u2, us = [u1, u2] ∧ yT (.ref a) u1 ∧ yT v u2 := by
    cases rv with
    | cons r1 r => cases r with
      | cons r2 r => cases r; exact ⟨_, _, rfl, r1, r2⟩
  cases r1
  have e2 : u2 = c := by
    cases v <;> try cases hc
    · cases r2; rfl
    · cases r2; rfl
  subst e2
  obtain ⟨⟨oe, h1, h2⟩, _⟩ := I.hok a _ hH
  exact X4 hl I.kIn ⟨oe, h1, h2⟩ hk fun tk => ⟨.bl b, H, I.tok tk, rfl, q⟩
theorem zaM {K : PySem.W.Frag} {σ : St} {H : Hp} {a C : Addr} {v : V} {c : Value} {b : Bool} {Q : VK} (h0 : σ[0]? = some (some (.ref a))) (hH : H a = some (zcJ a C)) (hl : wx K C = true) (hc : clsV v = some c) (hk : PySem.W.kitOne K (.ref C) c = some b) (q : Q (.bl b) H) :
    tCB (zhC K) (Xo (za2 0) (Xo (tC v) zey)) σ H Q := ⟨.ref a, h0, ⟨a, C, v, c, b, rfl, hH, hl, hc, hk, q⟩⟩
end L2
namespace Dl
open PySem L2
variable [KK]
section
variable {E : XK} {cl : Nat → Addr} {X : Cx} {e : Expr} {es : List Expr}
end
end Dl
namespace L2
open PySem PySem.Spec PyProof.Rows
noncomputable def zbk (n j : Nat) : List Bool := (List.range n).map fun i => i == j
noncomputable def ZV (K : PySem.W.Frag) (cs : List Addr) (CS C : Addr) (j : Nat) : Bool := wx K C && (PySem.W.kitOne K (.ref C) (.type "ValueError") == some true) && (PySem.W.exmOne K (.ref C) (.ref CS) == some true) && (cs.map (fun c => PySem.W.kitOne K (.ref C) (.ref c)) == (zbk cs.length j).map some)
set_option genInjectivity false in
set_option genSizeOf false in
set_option genCtorIdx false in
structure zbj (K : PySem.W.Frag) (cs : List Addr) (CS C : Addr) (j : Nat) : Prop where
  look : wx K C = true
  val : PySem.W.kitOne K (.ref C) (.type "ValueError") = some true
  exm : PySem.W.exmOne K (.ref C) (.ref CS) = some true
  hot : cs.map (fun c => PySem.W.kitOne K (.ref C) (.ref c)) = (zbk cs.length j).map some
theorem zbj.of {K : PySem.W.Frag} {cs : List Addr} {CS C : Addr} {j : Nat} (h : ZV K cs CS C j = true) : zbj K cs CS C j := by
  unfold ZV at h
  simp only [Bool.and_eq_true, beq_iff_eq] at h
  exact ⟨h.1.1.1, h.1.1.2, h.1.2, h.2⟩
section
variable {K : PySem.W.Frag} {σ : St} {H H0 : Hp} {a C : Addr}
noncomputable def tIs (K : PySem.W.Frag) : List Addr → TA
  | [] => zey
  | c :: r => Xo (tCB (zhC K) (Xo (za2 0) (Xo (tC (.ref c)) zey))) (tIs K r)
theorem zeL (h0 : σ[0]? = some (some (.ref a))) (hH : H a = some (zcJ a C)) (hl : wx K C = true) : ∀ (cs : List Addr) (bs : List Bool) (Q : List V → Hp → Prop), cs.map (fun c => PySem.W.kitOne K (.ref C) (.ref c)) = bs.map some → Q (bs.map V.bl) H → tIs K cs σ H Q := by
  intro cs
  induction cs with
  | nil =>
    intro bs Q e q
    cases bs with
    | nil => exact q
    | cons b r => cases e
  | cons c r ih =>
    intro bs Q e q
    cases bs with
    | nil => cases e
    | cons b bs =>
      obtain ⟨e1, e2⟩ := List.cons.inj e
      exact zaM h0 hH hl rfl e1 (ih bs _ e2 q)
structure KSt (H0 : Hp) (a C : Addr) (bs : List Bool) (σ : St) (H : Hp) : Prop where
  same : yK H0 H
  len : σ.length = 2
  e0 : σ[0]? = some (some (.ref a))
  he : H a = some (zcJ a C)
  lst : ∃ p, σ[1]? = some (some (.ref p)) ∧ H p = some (.lst (bs.map V.bl))
theorem zb6 {bs : List Bool} {p : Addr} (s : yK H0 H) (hl : σ.length = 2) (e0 : σ[0]? = some (some (.ref a))) (he : H a = some (zcJ a C)) (hp : H p = none) : KSt H0 a C bs (σ.set 1 (some (.ref p))) (upd H p (.lst (bs.map V.bl))) := by
  refine ⟨fun b o e => ?_, by rw [List.length_set]; exact hl, ?_, ?_, p, ?_, zq⟩
  · have := s b o e
    rw [zn (zl this hp)]; exact this
  · rw [List.getElem?_set_ne (by decide)]; exact e0
  · rw [zn (zl he hp)]; exact he
  · rw [List.getElem?_set_self (by omega)]
theorem zcT {cs : List Addr} {bs : List Bool} {D : V3} (hk : wx K C = true) (e : cs.map (fun c => PySem.W.kitOne K (.ref C) (.ref c)) = bs.map some) (hb : bs.length ≤ sizeLine) (hl : σ.length = 2) (e0 : σ[0]? = some (some (.ref a))) (he : H a = some (zcJ a C)) (k : ∀ σ' H', KSt H a C bs σ' H' → D.nx σ' H') :
    zf8 (zit (tIs K cs)) (Yn 1) D σ H :=
  zeL e0 he hk cs bs _ e ⟨by rw [List.length_map]; exact hb, fun p hp => k _ _ (zb6 (.refl _) hl e0 he hp)⟩
theorem WN {cs : List Addr} {bs0 bs : List Bool} {D : V3} (hk : wx K C = true) (e : cs.map (fun c => PySem.W.kitOne K (.ref C) (.ref c)) = bs.map some) (hb : bs0.length + bs.length ≤ sizeLine) (S : KSt H0 a C bs0 σ H) (k : ∀ σ' H', KSt H0 a C (bs0 ++ bs) σ' H' → D.nx σ' H') :
    zf8 (tOp zid (za2 1) (zit (tIs K cs))) (Yn 1) D σ H := by
  obtain ⟨p, e1, hp⟩ := S.lst
  refine ⟨.ref p, e1, zeL S.e0 S.he hk cs bs _ e ⟨by rw [List.length_map]; omega, fun q hq => ?_⟩⟩
  refine ⟨p, q, bs0.map V.bl, bs.map V.bl, rfl, rfl, by rw [zn (zl hp hq)]; exact hp, zq, by rw [List.length_map, List.length_map]; exact hb, fun r hr => ?_⟩
  rw [← List.map_append]
  refine k _ _ (zb6 (fun b o e => ?_) S.len S.e0 ?_ hr)
  · have := S.same b o e
    rw [zn (zl this hq)]; exact this
  · rw [zn (zl S.he hq)]; exact S.he
theorem zbM : ∀ j : Nat, j < 13 → (zbk 13 j).countP (· == true) = 1 ∧ (zbk 13 j).idxOf true = j ∧ true ∈ zbk 13 j := by decide +kernel
theorem zfv {j : Nat} {D : V3} {tr : TS} (hv : PySem.W.kitOne K (.ref C) (.type "ValueError") = some true) (hk : wx K C = true) (hj : j < 13) (S : KSt H0 a C (zbk 13 j) σ H) (k : D.rt (.int j) H) :
    tSeq (tIfS (tOr (tNot (tB (tCB (zhC K) (Xo (za2 0) (Xo (tC (.ty "ValueError")) zey))))) (zfr (tOp rNe (tBM K "list" zcR (za2 1) (Xo (tC (.bl true)) zey)) (tC (.int 1))))) tr zgS) (zia (tBM K "list" zdc (za2 1) (Xo (tC (.bl true)) zey))) D σ H := by
  obtain ⟨h1, h2, h3⟩ := zbM j hj
  obtain ⟨p, e1, hp⟩ := S.lst
  refine zaM S.e0 S.he hk rfl hv ⟨true, rfl, ?_⟩
  show (if (!true) = true then _ else _)
  rw [if_neg (by decide)]
  refine ⟨.ref p, e1, .inl ⟨rfl, _, SqL.of hp⟩, p, _, rfl, rfl, hp, ?_⟩
  rw [h1]
  refine ⟨rfl, false, by rw [zaH]; rfl, ?_⟩
  show (if false = true then _ else _)
  rw [if_neg (by decide)]
  refine ⟨.ref p, e1, .inl ⟨rfl, _, SqL.of hp⟩, p, _, rfl, rfl, hp, h3, ?_⟩
  rw [h2]
  exact k
end
noncomputable def zc4 (cl : Nat → Addr) (ok : Nat → Prop) : Sp := fun vs H Q _ => ∃ a j, vs = [.ref a] ∧ H a = some (zcJ a (cl j)) ∧ ok j ∧ ∀ H', yK H H' → Q (.int (j : Nat)) H'
theorem PS.nox {X : Cx} {st : Stmt} {t : TS} (h : PS X.nox st t) : PS X st t := fun pins s σ H D I hw =>
  wpAny_mono (h pins s σ H D (I.wish _) hw) (fun _ _ q => q.unwish) fun _ _ z => False.elim z
end L2
namespace Dl
open PySem L2
variable [KK]
theorem SD.nox {X : Cx} {st : Stmt} {g : SE → Ctl} (h : SD X.nox st g) : SD X st g := let ⟨t, p, r⟩ := h; ⟨t, p.nox, r⟩
noncomputable def xEx (fx : Ev → Option Nat) : SE → Option Nat := fun ρ => fx (visG ρ)
theorem xA {E : XK} {cl : Nat → Addr} {X : Cx} {sts : List Stmt} : XSs E cl X sts xNo := ⟨fun _ _ _ => False, fun _ _ _ _ _ _ h => h.elim, fun _ _ _ _ _ _ _ _ _ h _ => by cases h⟩
theorem Gr.more {F H H' : Hp} (s : yK F H) (k : yK H H') : Gr F H F H' := ⟨yK.refl _, s.trans k, fun p o e1 e2 => ⟨.inl e1, k p o e2⟩⟩
noncomputable def zio (gx : SE → Option Nat) (g : SE → Ctl) (h : Nat → Option D) : SE → Ctl := fun ρ => match gx ρ with
  | some j => match h j with
    | some d => .rt d
    | none => .no
  | none => g ρ
noncomputable def RU (cl : Nat → Addr) (i : Nat) (u : TS) (h : Nat → Option D) : Prop := ∀ (j : Nat) (d : D) (σ : St) (H : Hp) (a : Addr) (D' : V3), h j = some d → σ[i]? = some (some (.ref a)) → H a = some (zcJ a (cl j)) → (∀ H' v, yK H H' → (∀ F, At F d v) → D'.rt v H') → u D' σ H
theorem zhc {Y : Cx} {CS : Addr} {x n : Str} {i : Nat} {body suite : List Stmt} {b₀ : Stmt} {pos hpos np : Pos} {cl : Nat → Addr} {g : SE → Ctl} {gx : SE → Option Nat} {u : TS} {h : Nat → Option D} (hst : Y.stack = Y.env :: Y.outer) (hf : Y.env.frame = some Y.env.locals) (hex : Y.ex = [])
    (hN : Y.N.Nodup) (hi : Y.N[i]? = some n) (hk : Y.env.scope.names.lookup n = some .local) (hg : Gl Y x) (hm : Y.mg x = some (.ref CS))
    (hbx : ∀ (ps : List (Addr × Obj)) (W : Value → Shared → Prop) (E0 : XK), ZQ (Air Y.prog Y.w) ((Y.pinned ps).wish W) E0 → XSs E0 cl ((Y.pinned ps).wish W) body gx)
    (hb : ∀ (ps : List (Addr × Obj)) (W : Value → Shared → Prop), SDs ((Y.pinned ps).wish W) body g)
    (hexm : ∀ j d, h j = some d → PySem.W.exmOne Y.K (.ref (cl j)) (.ref CS) = some true)
    (hsuite : Y.Ok → ∀ ea, PSs (Y.held (.ref ea)).nox (b₀ :: suite) u) (hu : RU cl i u h) (hd : (x == ("__debug__" : Str)) = false := by decide) :
    SD Y.nox (.Try body [.ExceptHandler (some (.Name x np)) (some n) (b₀ :: suite) hpos] [] [] pos) (zio gx g h) := by
  let tb : XK → TS := fun E0 D σ H => ∀ (ps : List (Addr × Obj)) (W : Value → Shared → Prop), ZQ (Air Y.prog Y.w) ((Y.pinned ps).wish W) E0 → ∃ t, PSs ((Y.pinned ps).wish W) body t ∧ t D σ H
  refine ⟨fun D σ H => tb (exW Y.K CS i Y.N.length u D) D σ H, fun pins s σ H D I hq => ?_, fun Fb Hb F H ρ σ D rl k => ?_⟩
  · refine zgZ (tb := tb) hst hf hex hN hi hk hg hm (fun ps W E0 hP pins s σ H D I hq => ?_) (hsuite I.ok.unwish) hd pins s σ H D I hq
    obtain ⟨t, p, ht⟩ := hq ps W hP
    exact p pins s σ H D I ht
  · intro ps W hP
    unfold zio at k
    cases e : gx ρ with
    | none =>
      rw [e] at k
      obtain ⟨t, p, r⟩ := hb ps W
      exact ⟨t, p, r Fb Hb F H ρ σ D rl k⟩
    | some j =>
      rw [e] at k
      dsimp only at k
      cases e2 : h j with
      | none => rw [e2] at k; exact k.elim
      | some d =>
        rw [e2] at k
        obtain ⟨t, p, r⟩ := hbx ps W _ hP
        refine ⟨t, p, r Fb Hb F H ρ σ D j rl e fun F' H' gr => ⟨_, rfl, hexm j d e2, fun ea σ' hl hn => ?_⟩⟩
        have hi' : i < σ'.length := by
          rw [hl]
          exact (List.getElem?_eq_some_iff.mp hi).1
        refine hu j d _ _ ea _ e2 (by rw [List.getElem?_set_self hi']) zq fun H'' v sm av => ?_
        have sm0 : yK H' (upd H' ea (zcJ ea (cl j))) := fun b o q => by rw [zn (zl q hn)]; exact q
        exact k F' H'' v (gr.trans (Gr.more gr.fh (sm0.trans sm))) (av F')
noncomputable def hIn (js : List Nat) : Nat → Option D := fun j => if j ∈ js then some (.int j) else none
theorem zdJ {cl : Nat → Addr} {i : Nat} {js : List Nat} {E : XK} {ok : Nat → Prop} (hok : ∀ j, j ∈ js → ok j) : RU cl i (zia (ze3 (zc4 cl ok) [] E (Xo (za2 i) zey))) (hIn js) := by
  intro j d σ H a D' e h0 hH k
  unfold hIn at e
  split at e <;> try cases e
  rename_i hj
  exact ⟨.ref a, h0, a, j, rfl, hH, hok j hj, fun H' sm => k H' _ sm fun F => .int⟩
end Dl
namespace OwnSort
open PySem PyProof.Rows
section
variable {prog : Program} {w : World} {A : Around} {E : Value → Shared → Prop} {s : Shared}
end
end OwnSort
namespace Dl
open PySem L2
variable [KK]
section
variable {X : Cx} {e : Expr} {pos : Pos}
end
end Dl
namespace Dl
open PySem L2
variable [KK]
section
variable {E : XK} {cl : Nat → Addr} {X : Cx} {a b : Expr} {pos : Pos}
theorem zhM {fx : Ev → Option Nat} {f : Ev → Option D} (h : XE E cl X a fx) (hb : ED X b f) (hs : XR b) : XE E cl X (.Subscript a b pos) fx := by
  obtain ⟨t, p, r⟩ := h
  obtain ⟨u, p2, _⟩ := hb
  exact ⟨_, zfc zew p p2 hs, fun σ ρ F H j Q s va e w => r σ ρ F H j _ s va e w⟩
end
end Dl
namespace Mz
open PySem Dl
noncomputable abbrev Tie := Int × Int
noncomputable def ltP (s t : Tie) : Prop := s.1 < t.1 ∨ (s.1 = t.1 ∧ s.2 < t.2)
noncomputable instance (s t : Tie) : Decidable (ltP s t) := by unfold ltP; infer_instance
end Mz
namespace Mz
open Dl
noncomputable def X2 (c k : Int) : Int :=
  let a := (c % 2147483647 + 977 * k + 1) * 48271 % 2147483647
  let b := a * a % 2147483629
  (b + 40692 * (k + 3)) * 69621 % 2147483647 / 8
end Mz
namespace Mz
open Dl
theorem vN {P : Nat → Prop} : ∀ k, P k → ∃ j, P j ∧ ∀ i, P i → j ≤ i := by
  intro k
  induction k using Nat.strongRecOn with
  | _ k ih =>
    intro h
    by_cases c : ∃ i, i < k ∧ P i
    · obtain ⟨i, hi, h2⟩ := c
      exact ih i hi h2
    · exact ⟨k, h, fun i hi => Nat.le_of_not_lt fun z => c ⟨i, z, hi⟩⟩
theorem zgw {n : Nat} {i : Int} (h0 : 0 ≤ i) (h1 : i < n) : L2.ixN n i = some i.toNat := by
  unfold L2.ixN
  rw [if_pos h0, if_pos h1]
theorem zeT {α : Type} {xs : List α} {i : Int} {x : α} (h0 : 0 ≤ i) (h : xs[i.toNat]? = some x) : L2.atI xs i = some x := by
  have := (List.getElem?_eq_some_iff.mp h).1
  unfold L2.atI
  rw [zgw h0 (by omega)]
  exact h
theorem zdB {α : Type} (xs : List α) (lo hi : Option Int) : (zbJ xs lo hi).length ≤ xs.length := by
  unfold zbJ
  rw [List.length_take, List.length_drop]
  omega
theorem zdX {a b : List D} (h : a.length + b.length ≤ 1000) : vq (.lst a) (.lst b) = some (.lst (a ++ b)) := by
  show (if lim (a.length + b.length) = true then _ else none) = _
  rw [if_pos (zcf h)]
theorem wD {m : Bool} {i : Nat} {f : Ev → Option D} {ρ ρ' : SE} {d : D} (h : vEv m f ρ = some d) (h2 : ρ.set i (.v d) = ρ' := by rfl) : wY m i f ρ = .nx ρ' := by
  unfold wY
  rw [h, ← h2]
theorem zfJ {f : Ev → Option D} {ρ : SE} {d : D} (h : f (visG ρ) = some d) : yo f ρ = .rt d := by
  unfold yo
  rw [h]
theorem zfd {a b : Int} : neD (.int a) (.int b) = some (.bl (!decide (a = b))) := rfl
theorem zbi {a b : Int} : vL (.int a) (.int b) = some (.bl (decide (a = b))) := rfl
theorem zfy {a b : Bool} : vL (.bl a) (.bl b) = some (.bl (decide (a = b))) := rfl
theorem zdx {a b : PySem.Str} : vL (.str a) (.str b) = some (.bl (decide (a = b))) := rfl
theorem zdm {a b : Int} : vq (.int a) (.int b) = some (.int (a + b)) := rfl
end Mz
namespace Mz
open Dl
section
variable {ρ : Ev} {f g h : Ev → Option D} {a : Ev → Option (List D)} {t u : Ev → Option Bool} {d e x y z : D} {ds es : List D} {b c : Bool}
theorem Wn : zr ρ = some [] := rfl
theorem yF (h1 : f ρ = some d) (h2 : a ρ = some ds) : zc f a ρ = some (d :: ds) := by unfold zc; rw [h1, h2]; rfl
theorem Zt {n : Nat} {p : List D → Option D} (h1 : a ρ = some ds) (h2 : p ds = some d) (hl : ds.length = n := by rfl) : zx n p a ρ = some d := by
  unfold zx
  rw [h1, Option.bind_some, if_pos hl, h2]
theorem yx {k : D → D → Option D} (h1 : f ρ = some x) (h2 : g ρ = some y) (h3 : k x y = some z) : zo k f g ρ = some z := by unfold zo; rw [h1, h2]; exact h3
theorem zhj (h1 : a ρ = some ds) : w8 a ρ = some (.lst ds) := by unfold w8; rw [h1]; rfl
theorem ziq {k : List D → Option D} (h1 : a ρ = some ds) (h2 : k ds = some d) : eFn k a ρ = some d := by unfold eFn; rw [h1]; exact h2
theorem zfP (h1 : a ρ = some ds) (hl : ds.length ≤ 1000) : xn a ρ = some ds := by unfold xn; rw [h1, Option.bind_some, if_pos (zcf hl)]
theorem X1 (h1 : f ρ = some (.bl b)) : tOf f ρ = some b := by unfold tOf; rw [h1]; rfl
theorem zam (h1 : t ρ = some false) : X9 t u ρ = some false := by unfold X9; rw [h1]; rfl
theorem zaL (h1 : t ρ = some true) (h2 : u ρ = some c) : X9 t u ρ = some c := by unfold X9; rw [h1]; exact h2
end
end Mz
namespace Mz
open PySem L2 Dl
noncomputable def Y3 : zdo := [("row", [1, 8]), ("ring", [3, 8]), ("cube", [0, 3]), ("full", [1, 8]), ("star", [1, 7])]
noncomputable def top (i : Nat) : Stmt := PySem.Challenge.pw_twoforone_k56_refused_of_rings_and_cubes.main.body.getD i (.Pass ⟨0, 0, 0, 0⟩)
noncomputable abbrev xI : Stmt := top 18
noncomputable abbrev zP : Stmt := top 19
noncomputable abbrev ya : Stmt := top 20
noncomputable abbrev zR : Stmt := top 21
noncomputable abbrev zZ : Stmt := top 22
noncomputable abbrev xL : Stmt := top 23
noncomputable abbrev y0 : Stmt := top 24
noncomputable abbrev wo : Stmt := top 26
noncomputable abbrev xG : Stmt := top 27
noncomputable abbrev vi : Stmt := top 28
noncomputable abbrev yM : Stmt := top 29
noncomputable abbrev yf : Stmt := top 30
noncomputable abbrev yJ : Stmt := top 31
noncomputable abbrev y8 : Stmt := top 32
noncomputable abbrev y4 : Stmt := top 34
noncomputable abbrev yr : Stmt := top 35
noncomputable abbrev xt : Stmt := top 36
noncomputable abbrev wk : Stmt := top 37
noncomputable abbrev yq : Stmt := top 40
noncomputable abbrev xN : Stmt := top 41
noncomputable abbrev yi : Stmt := top 42
noncomputable abbrev Yl : Stmt := top 43
noncomputable abbrev wn : Stmt := top 46
noncomputable abbrev xv : Stmt := top 47
noncomputable abbrev xq : Stmt := top 48
noncomputable abbrev xP : Stmt := top 49
noncomputable abbrev wl : Stmt := top 50
noncomputable abbrev yb : Stmt := top 52
noncomputable abbrev xr : Stmt := top 53
noncomputable abbrev yY : Stmt := top 54
noncomputable abbrev xS : Stmt := top 55
noncomputable abbrev yZ : Stmt := top 56
noncomputable abbrev zY : Stmt := top 58
noncomputable abbrev yh : Stmt := top 59
noncomputable abbrev yz : Stmt := top 60
noncomputable abbrev Ym : Stmt := top 61
noncomputable abbrev wX : Stmt := top 62
noncomputable abbrev yO : Stmt := top 63
noncomputable abbrev y6 : Stmt := top 64
noncomputable abbrev yw : Stmt := top 65
noncomputable abbrev yN : Stmt := top 66
noncomputable abbrev yy : Stmt := top 68
noncomputable abbrev xu : Stmt := top 69
noncomputable abbrev y9 : Stmt := top 70
noncomputable abbrev xJ : Stmt := top 71
noncomputable abbrev xp : Stmt := top 72
noncomputable abbrev Wj : Stmt := top 73
theorem zau : zt ["thing"] ["thing"] (ze xI) := ⟨rfl, rfl, rfl, by decide +kernel, rfl, by decide +kernel, by decide +kernel⟩
theorem Y5 : zt ["thing", "least", "most"] ["thing", "least", "most"] (ze zP) := ⟨rfl, rfl, rfl, by decide +kernel, rfl, by decide +kernel, by decide +kernel⟩
theorem vg : zt ["thing", "least", "most"] ["thing", "least", "most"] (ze ya) := ⟨rfl, rfl, rfl, by decide +kernel, rfl, by decide +kernel, by decide +kernel⟩
theorem YX : zt ["many", "most"] ["many", "most"] (ze zR) := ⟨rfl, rfl, rfl, by decide +kernel, rfl, by decide +kernel, by decide +kernel⟩
theorem Zv : zt ["thing"] ["thing"] (ze zZ) := ⟨rfl, rfl, rfl, by decide +kernel, rfl, by decide +kernel, by decide +kernel⟩
theorem zaa : zt ["many", "thing"] ["many", "thing"] (ze xL) := ⟨rfl, rfl, rfl, by decide +kernel, rfl, by decide +kernel, by decide +kernel⟩
theorem W5 : zt ["many", "thing"] ["many", "thing"] (ze y0) := ⟨rfl, rfl, rfl, by decide +kernel, rfl, by decide +kernel, by decide +kernel⟩
theorem zby : zt ["many", "thing"] ["many", "thing"] (ze wo) := ⟨rfl, rfl, rfl, by decide +kernel, rfl, by decide +kernel, by decide +kernel⟩
theorem YQ : zt ["many", "thing", "at", "tie"] ["many", "thing"] (ze xG) := ⟨rfl, rfl, rfl, by decide +kernel, rfl, by decide +kernel, by decide +kernel⟩
theorem zc8 : zt ["thing"] ["thing"] (ze vi) := ⟨rfl, rfl, rfl, by decide +kernel, rfl, by decide +kernel, by decide +kernel⟩
theorem X5 : zt ["thing"] ["thing"] (ze yM) := ⟨rfl, rfl, rfl, by decide +kernel, rfl, by decide +kernel, by decide +kernel⟩
theorem vI : zt ["web", "thing"] ["web", "thing"] (ze yf) := ⟨rfl, rfl, rfl, by decide +kernel, rfl, by decide +kernel, by decide +kernel⟩
theorem X8 : zt ["one", "other"] ["one", "other"] (ze yJ) := ⟨rfl, rfl, rfl, by decide +kernel, rfl, by decide +kernel, by decide +kernel⟩
theorem W0 : zt ["web", "place"] ["web", "place"] (ze y8) := ⟨rfl, rfl, rfl, by decide +kernel, rfl, by decide +kernel, by decide +kernel⟩
theorem WJ : zt ["web", "thing"] ["web", "thing"] (ze y4) := ⟨rfl, rfl, rfl, by decide +kernel, rfl, by decide +kernel, by decide +kernel⟩
theorem v8 : zt ["web", "thing"] ["web", "thing"] (ze yr) := ⟨rfl, rfl, rfl, by decide +kernel, rfl, by decide +kernel, by decide +kernel⟩
theorem v0 : zt ["web", "found", "place"] ["web"] (ze xt) := ⟨rfl, rfl, rfl, by decide +kernel, rfl, by decide +kernel, by decide +kernel⟩
theorem Wm : zt ["heap", "step", "stones"] ["heap", "step"] (ze wk) := ⟨rfl, rfl, rfl, by decide +kernel, rfl, by decide +kernel, by decide +kernel⟩
theorem zI : zt ["web", "heap", "steps", "found", "rim", "further", "now", "step", "then"] ["web", "heap"] (ze yq) := ⟨rfl, rfl, rfl, by decide +kernel, rfl, by decide +kernel, by decide +kernel⟩
theorem vB : zt ["found", "heap", "steps", "now"] ["found", "heap"] (ze xN) := ⟨rfl, rfl, rfl, by decide +kernel, rfl, by decide +kernel, by decide +kernel⟩
theorem Z2 : zt ["web", "heap", "place", "many"] ["web", "heap", "place", "many"] (ze yi) := ⟨rfl, rfl, rfl, by decide +kernel, rfl, by decide +kernel, by decide +kernel⟩
theorem W2 : zt ["web", "heap", "place", "many", "found", "other"] ["web", "heap", "place", "many"] (ze Yl) := ⟨rfl, rfl, rfl, by decide +kernel, rfl, by decide +kernel, by decide +kernel⟩
theorem zbr : zt ["thing"] ["thing"] (ze wn) := ⟨rfl, rfl, rfl, by decide +kernel, rfl, by decide +kernel, by decide +kernel⟩
theorem ZY : zt ["thing", "word"] ["thing"] (ze xv) := ⟨rfl, rfl, rfl, by decide +kernel, rfl, by decide +kernel, by decide +kernel⟩
theorem VC : zt ["word", "size"] ["word", "size"] (ze xq) := ⟨rfl, rfl, rfl, by decide +kernel, rfl, by decide +kernel, by decide +kernel⟩
theorem zao : zt ["word", "size", "one", "other"] ["word", "size", "one", "other"] (ze xP) := ⟨rfl, rfl, rfl, by decide +kernel, rfl, by decide +kernel, by decide +kernel⟩
theorem wj : zt ["kind", "word", "size", "many", "ties", "one"] ["kind"] (ze wl) := ⟨rfl, rfl, rfl, by decide +kernel, rfl, by decide +kernel, by decide +kernel⟩
theorem vj : zt ["d"] ["d"] (ze yb) := ⟨rfl, rfl, rfl, by decide +kernel, rfl, by decide +kernel, by decide +kernel⟩
theorem ZK : zt ["d"] ["d"] (ze xr) := ⟨rfl, rfl, rfl, by decide +kernel, rfl, by decide +kernel, by decide +kernel⟩
theorem y3 : zt ["d", "place", "web", "most"] ["d", "place"] (ze yY) := ⟨rfl, rfl, rfl, by decide +kernel, rfl, by decide +kernel, by decide +kernel⟩
theorem YK : zt ["heap", "stones", "taken", "many"] ["heap", "stones"] (ze xS) := ⟨rfl, rfl, rfl, by decide +kernel, rfl, by decide +kernel, by decide +kernel⟩
theorem xz : zt ["d", "heap", "place", "web"] ["d", "heap", "place"] (ze yZ) := ⟨rfl, rfl, rfl, by decide +kernel, rfl, by decide +kernel, by decide +kernel⟩
theorem wT : zt ["n"] ["n"] (ze zY) := ⟨rfl, rfl, rfl, by decide +kernel, rfl, by decide +kernel, by decide +kernel⟩
theorem yI : zt ["n", "heap", "place", "web"] ["n", "heap", "place"] (ze yh) := ⟨rfl, rfl, rfl, by decide +kernel, rfl, by decide +kernel, by decide +kernel⟩
theorem vU : zt ["n", "place", "upwards"] ["n", "place"] (ze yz) := ⟨rfl, rfl, rfl, by decide +kernel, rfl, by decide +kernel, by decide +kernel⟩
theorem Y6 : zt ["heap", "order", "carried", "ahead", "place"] ["heap", "order"] (ze Ym) := ⟨rfl, rfl, rfl, by decide +kernel, rfl, by decide +kernel, by decide +kernel⟩
theorem Vd : zt ["n", "heap", "place"] ["n", "heap", "place"] (ze wX) := ⟨rfl, rfl, rfl, by decide +kernel, rfl, by decide +kernel, by decide +kernel⟩
theorem xf : zt ["heap", "order", "place", "steps", "one", "other", "times"] ["heap", "order", "place"] (ze yO) := ⟨rfl, rfl, rfl, by decide +kernel, rfl, by decide +kernel, by decide +kernel⟩
theorem vn : zt ["n", "heap", "place", "order"] ["n", "heap", "place"] (ze y6) := ⟨rfl, rfl, rfl, by decide +kernel, rfl, by decide +kernel, by decide +kernel⟩
theorem yW : zt ["heap", "order", "numbers", "ahead", "place", "number"] ["heap", "order", "numbers"] (ze yw) := ⟨rfl, rfl, rfl, by decide +kernel, rfl, by decide +kernel, by decide +kernel⟩
theorem YH : zt ["n", "heap", "place", "thing"] ["n", "heap", "place", "thing"] (ze yN) := ⟨rfl, rfl, rfl, by decide +kernel, rfl, by decide +kernel, by decide +kernel⟩
theorem Xv : zt ["script", "k"] ["script", "k"] (ze yy) := ⟨rfl, rfl, rfl, by decide +kernel, rfl, by decide +kernel, by decide +kernel⟩
theorem wJ : zt ["cell", "k", "number"] ["cell", "k"] (ze xu) := ⟨rfl, rfl, rfl, by decide +kernel, rfl, by decide +kernel, by decide +kernel⟩
theorem xx : zt ["e", "found"] ["e"] (ze y9) := ⟨rfl, rfl, rfl, by decide +kernel, rfl, by decide +kernel, by decide +kernel⟩
theorem XV : zt ["way", "number", "heap", "place"] ["way", "number", "heap", "place"] (ze xJ) := ⟨rfl, rfl, rfl, by decide +kernel, rfl, by decide +kernel, by decide +kernel⟩
theorem ZL : zt ["way", "number", "heap", "place", "e"] ["way", "number", "heap", "place"] (ze xp) := ⟨rfl, rfl, rfl, by decide +kernel, rfl, by decide +kernel, by decide +kernel⟩
theorem YF : zt ["script", "cell", "way", "number", "many", "bad", "heap", "bads", "no_heap", "no_place"] ["script"] (ze Wj) := ⟨rfl, rfl, rfl, by decide +kernel, rfl, by decide +kernel, by decide +kernel⟩
set_option genInjectivity false in
set_option genSizeOf false in
set_option genCtorIdx false in
structure Adr where
  f_is_whole : Addr
  e_is_whole : FuncData
  f_is_whole_within : Addr
  e_is_whole_within : FuncData
  f_must_be_within : Addr
  e_must_be_within : FuncData
  f_must_be_at_most : Addr
  e_must_be_at_most : FuncData
  f_is_place_count : Addr
  e_is_place_count : FuncData
  f_is_place : Addr
  e_is_place : FuncData
  f_are_counts : Addr
  e_are_counts : FuncData
  f_is_pair : Addr
  e_is_pair : FuncData
  f_are_ties : Addr
  e_are_ties : FuncData
  f_is_web : Addr
  e_is_web : FuncData
  f_must_be_web : Addr
  e_must_be_web : FuncData
  f_must_be_place : Addr
  e_must_be_place : FuncData
  f_tie_between : Addr
  e_tie_between : FuncData
  f_neighbours : Addr
  e_neighbours : FuncData
  f_are_stones : Addr
  e_are_stones : FuncData
  f_must_be_heap : Addr
  e_must_be_heap : FuncData
  f_all_steps : Addr
  e_all_steps : FuncData
  f_stepped : Addr
  e_stepped : FuncData
  f_heaps_behind : Addr
  e_heaps_behind : FuncData
  f_steps_to : Addr
  e_steps_to : FuncData
  f_must_be_asked : Addr
  e_must_be_asked : FuncData
  f_reach : Addr
  e_reach : FuncData
  f_is_over : Addr
  e_is_over : FuncData
  f_kind_good : Addr
  e_kind_good : FuncData
  f_places_of : Addr
  e_places_of : FuncData
  f_are_tied : Addr
  e_are_tied : FuncData
  f_web_for : Addr
  e_web_for : FuncData
  f_cube_of_digits : Addr
  e_cube_of_digits : FuncData
  f_cube_need : Addr
  e_cube_need : FuncData
  f_cube_worst : Addr
  e_cube_worst : FuncData
  f_lessened : Addr
  e_lessened : FuncData
  f_cube_steps : Addr
  e_cube_steps : FuncData
  f_ring_of_places : Addr
  e_ring_of_places : FuncData
  f_must_fit_ring : Addr
  e_must_fit_ring : FuncData
  f_sweep_orders : Addr
  e_sweep_orders : FuncData
  f_swept : Addr
  e_swept : FuncData
  f_sweeps : Addr
  e_sweeps : FuncData
  f_sweep_steps : Addr
  e_sweep_steps : FuncData
  f_ring_steps : Addr
  e_ring_steps : FuncData
  f_bounds_sweep : Addr
  e_bounds_sweep : FuncData
  f_sweep_holds : Addr
  e_sweep_holds : FuncData
  f__law_cell_at : Addr
  e__law_cell_at : FuncData
  f__law_stir : Addr
  e__law_stir : FuncData
  f__law_kinds : Addr
  e__law_kinds : FuncData
  f__law_ask : Addr
  e__law_ask : FuncData
  f__law_came : Addr
  e__law_came : FuncData
  f_law : Addr
  e_law : FuncData
  t_MOST_PLACES : Tok
  t_MOST_STONES : Tok
  t_MOST_SEARCHED : Tok
  s_SIZES : Addr
  x_NoKind : Addr
  x_NoHeap : Addr
  x_NoPlace : Addr
  x_NoNumber : Addr
  x_NoTally : Addr
  x_NotTree : Addr
  x_NotJoined : Addr
  x_NoWeights : Addr
  x_NoRow : Addr
  x_NoWeb : Addr
  x_NoSteps : Addr
  x_NoText : Addr
  x_TooGreat : Addr
  x_StoneError : Addr
noncomputable def zge (ad : Adr) : List Addr := [ad.x_NoKind, ad.x_NoHeap, ad.x_NoPlace, ad.x_NoNumber, ad.x_NoTally, ad.x_NotTree, ad.x_NotJoined, ad.x_NoWeights, ad.x_NoRow, ad.x_NoWeb, ad.x_NoSteps, ad.x_NoText, ad.x_TooGreat]
noncomputable def clT (ad : Adr) (j : Nat) : Addr := (zge ad).getD j 0
set_option genInjectivity false in
set_option genSizeOf false in
set_option genCtorIdx false in
structure Txt (K : PySem.W.Frag) (mg : Str → Option Value) (ad : Adr) : Prop where
  d_is_whole : Def K mg "is_whole" xI ["thing"] ad.f_is_whole ad.e_is_whole
  d_is_whole_within : Def K mg "is_whole_within" zP ["thing", "least", "most"] ad.f_is_whole_within ad.e_is_whole_within
  d_must_be_within : Def K mg "must_be_within" ya ["thing", "least", "most"] ad.f_must_be_within ad.e_must_be_within
  d_must_be_at_most : Def K mg "must_be_at_most" zR ["many", "most"] ad.f_must_be_at_most ad.e_must_be_at_most
  d_is_place_count : Def K mg "is_place_count" zZ ["thing"] ad.f_is_place_count ad.e_is_place_count
  d_is_place : Def K mg "is_place" xL ["many", "thing"] ad.f_is_place ad.e_is_place
  d_are_counts : Def K mg "are_counts" y0 ["many", "thing"] ad.f_are_counts ad.e_are_counts
  d_is_pair : Def K mg "is_pair" wo ["many", "thing"] ad.f_is_pair ad.e_is_pair
  d_are_ties : Def K mg "are_ties" xG ["many", "thing"] ad.f_are_ties ad.e_are_ties
  d_is_web : Def K mg "is_web" vi ["thing"] ad.f_is_web ad.e_is_web
  d_must_be_web : Def K mg "must_be_web" yM ["thing"] ad.f_must_be_web ad.e_must_be_web
  d_must_be_place : Def K mg "must_be_place" yf ["web", "thing"] ad.f_must_be_place ad.e_must_be_place
  d_tie_between : Def K mg "tie_between" yJ ["one", "other"] ad.f_tie_between ad.e_tie_between
  d_neighbours : Def K mg "neighbours" y8 ["web", "place"] ad.f_neighbours ad.e_neighbours
  d_are_stones : Def K mg "are_stones" y4 ["web", "thing"] ad.f_are_stones ad.e_are_stones
  d_must_be_heap : Def K mg "must_be_heap" yr ["web", "thing"] ad.f_must_be_heap ad.e_must_be_heap
  d_all_steps : Def K mg "all_steps" xt ["web"] ad.f_all_steps ad.e_all_steps
  d_stepped : Def K mg "stepped" wk ["heap", "step"] ad.f_stepped ad.e_stepped
  d_heaps_behind : Def K mg "heaps_behind" yq ["web", "heap"] ad.f_heaps_behind ad.e_heaps_behind
  d_steps_to : Def K mg "steps_to" xN ["found", "heap"] ad.f_steps_to ad.e_steps_to
  d_must_be_asked : Def K mg "must_be_asked" yi ["web", "heap", "place", "many"] ad.f_must_be_asked ad.e_must_be_asked
  d_reach : Def K mg "reach" Yl ["web", "heap", "place", "many"] ad.f_reach ad.e_reach
  d_is_over : Def K mg "is_over" wn ["thing"] ad.f_is_over ad.e_is_over
  d_kind_good : Def K mg "kind_good" xv ["thing"] ad.f_kind_good ad.e_kind_good
  d_places_of : Def K mg "places_of" xq ["word", "size"] ad.f_places_of ad.e_places_of
  d_are_tied : Def K mg "are_tied" xP ["word", "size", "one", "other"] ad.f_are_tied ad.e_are_tied
  d_web_for : Def K mg "web_for" wl ["kind"] ad.f_web_for ad.e_web_for
  d_cube_of_digits : Def K mg "cube_of_digits" yb ["d"] ad.f_cube_of_digits ad.e_cube_of_digits
  d_cube_need : Def K mg "cube_need" xr ["d"] ad.f_cube_need ad.e_cube_need
  d_cube_worst : Def K mg "cube_worst" yY ["d", "place"] ad.f_cube_worst ad.e_cube_worst
  d_lessened : Def K mg "lessened" xS ["heap", "stones"] ad.f_lessened ad.e_lessened
  d_cube_steps : Def K mg "cube_steps" yZ ["d", "heap", "place"] ad.f_cube_steps ad.e_cube_steps
  d_ring_of_places : Def K mg "ring_of_places" zY ["n"] ad.f_ring_of_places ad.e_ring_of_places
  d_must_fit_ring : Def K mg "must_fit_ring" yh ["n", "heap", "place"] ad.f_must_fit_ring ad.e_must_fit_ring
  d_sweep_orders : Def K mg "sweep_orders" yz ["n", "place"] ad.f_sweep_orders ad.e_sweep_orders
  d_swept : Def K mg "swept" Ym ["heap", "order"] ad.f_swept ad.e_swept
  d_sweeps : Def K mg "sweeps" wX ["n", "heap", "place"] ad.f_sweeps ad.e_sweeps
  d_sweep_steps : Def K mg "sweep_steps" yO ["heap", "order", "place"] ad.f_sweep_steps ad.e_sweep_steps
  d_ring_steps : Def K mg "ring_steps" y6 ["n", "heap", "place"] ad.f_ring_steps ad.e_ring_steps
  d_bounds_sweep : Def K mg "bounds_sweep" yw ["heap", "order", "numbers"] ad.f_bounds_sweep ad.e_bounds_sweep
  d_sweep_holds : Def K mg "sweep_holds" yN ["n", "heap", "place", "thing"] ad.f_sweep_holds ad.e_sweep_holds
  d__law_cell_at : Def K mg "_law_cell_at" yy ["script", "k"] ad.f__law_cell_at ad.e__law_cell_at
  d__law_stir : Def K mg "_law_stir" xu ["cell", "k"] ad.f__law_stir ad.e__law_stir
  d__law_kinds : Def K mg "_law_kinds" y9 ["e"] ad.f__law_kinds ad.e__law_kinds
  d__law_ask : Def K mg "_law_ask" xJ ["way", "number", "heap", "place"] ad.f__law_ask ad.e__law_ask
  d__law_came : Def K mg "_law_came" xp ["way", "number", "heap", "place"] ad.f__law_came ad.e__law_came
  d_law : Def K mg "law" Wj ["script"] ad.f_law ad.e_law
  g_MOST_PLACES : mg "MOST_PLACES" = some (Value.int 8 ad.t_MOST_PLACES)
  g_MOST_STONES : mg "MOST_STONES" = some (Value.int 300 ad.t_MOST_STONES)
  g_MOST_SEARCHED : mg "MOST_SEARCHED" = some (Value.int 12 ad.t_MOST_SEARCHED)
  z_ValueError : mg "ValueError" = none
  z_all : mg "all" = none
  z_bool : mg "bool" = none
  z_enumerate : mg "enumerate" = none
  z_int : mg "int" = none
  z_isinstance : mg "isinstance" = none
  z_len : mg "len" = none
  z_list : mg "list" = none
  z_max : mg "max" = none
  z_min : mg "min" = none
  z_range : mg "range" = none
  z_reversed : mg "reversed" = none
  z_str : mg "str" = none
  z_sum : mg "sum" = none
  z_tuple : mg "tuple" = none
  z_zip : mg "zip" = none
  g_SIZES : mg "SIZES" = some (Value.ref ad.s_SIZES)
  b_SIZES : ∀ h : Heap, K.In h → PyProof.Rows.KTD.TextTab h ad.s_SIZES (VG Y3)
  g_NoKind : mg "NoKind" = some (Value.ref ad.x_NoKind)
  g_NoHeap : mg "NoHeap" = some (Value.ref ad.x_NoHeap)
  g_NoPlace : mg "NoPlace" = some (Value.ref ad.x_NoPlace)
  g_NoNumber : mg "NoNumber" = some (Value.ref ad.x_NoNumber)
  g_NoTally : mg "NoTally" = some (Value.ref ad.x_NoTally)
  g_NotTree : mg "NotTree" = some (Value.ref ad.x_NotTree)
  g_NotJoined : mg "NotJoined" = some (Value.ref ad.x_NotJoined)
  g_NoWeights : mg "NoWeights" = some (Value.ref ad.x_NoWeights)
  g_NoRow : mg "NoRow" = some (Value.ref ad.x_NoRow)
  g_NoWeb : mg "NoWeb" = some (Value.ref ad.x_NoWeb)
  g_NoSteps : mg "NoSteps" = some (Value.ref ad.x_NoSteps)
  g_NoText : mg "NoText" = some (Value.ref ad.x_NoText)
  g_TooGreat : mg "TooGreat" = some (Value.ref ad.x_TooGreat)
  g_StoneError : mg "StoneError" = some (Value.ref ad.x_StoneError)
  c_NoHeap : PySem.W.excIn K ad.x_NoHeap bmV "ValueError.__new__" = true
  y_NoHeap : ZV K (zge ad) ad.x_StoneError ad.x_NoHeap 1 = true
  c_NoPlace : PySem.W.excIn K ad.x_NoPlace bmV "ValueError.__new__" = true
  y_NoPlace : ZV K (zge ad) ad.x_StoneError ad.x_NoPlace 2 = true
  c_NoNumber : PySem.W.excIn K ad.x_NoNumber bmV "ValueError.__new__" = true
  y_NoNumber : ZV K (zge ad) ad.x_StoneError ad.x_NoNumber 3 = true
theorem zii : (["part", "many", "thing"] : List Str).Nodup := by decide +kernel
theorem ziC : (["other", "web", "place"] : List Str).Nodup := by decide +kernel
theorem zig : (["other", "web", "found", "place"] : List Str).Nodup := by decide +kernel
theorem zh0 : (["step", "web", "heap", "steps", "found", "rim", "further", "now", "·step", "then"] : List Str).Nodup := by decide +kernel
theorem zhY : (["place", "thing"] : List Str).Nodup := by decide +kernel
theorem zix : (["other", "kind", "word", "size", "many", "ties", "one"] : List Str).Nodup := by decide +kernel
theorem zik : (["other", "d", "place", "web", "most"] : List Str).Nodup := by decide +kernel
theorem zih : (["at", "n", "place", "upwards"] : List Str).Nodup := by decide +kernel
theorem ziG : (["order", "n", "heap", "place"] : List Str).Nodup := by decide +kernel
theorem zgR : (["order", "numbers", "n", "heap", "place", "thing"] : List Str).Nodup := by decide +kernel
theorem len2 {ds : List D} (h : ds.length = 2) : ∃ a b, ds = [a, b] := by
  match ds, h with
  | [a, b], _ => exact ⟨a, b, rfl⟩
section
variable {P : Program} {w : World} {K : PySem.W.Frag} {mg : Str → Option Value} {base : Heap} {ad : Adr}
noncomputable def vp : SE → Ctl :=
  (zM (wY false 2 (zo ZT (zo WS (zo vq (zo vq (zo ZT (zi 0) (eC (.int 2147483647))) (zo WS (eC (.int 977)) (zi 1))) (eC (.int 1))) (eC (.int 48271))) (eC (.int 2147483647))))
    (zM (wY false 2 (zo ZT (zo WS (zi 2) (zi 2)) (eC (.int 2147483629))))
    (zM (wY false 2 (zo ZT (zo WS (zo vq (zi 2) (zo WS (eC (.int 40692)) (zo vq (zi 1) (eC (.int 3))))) (eC (.int 69621))) (eC (.int 2147483647))))
    (yo (zo zaj (zi 2) (eC (.int 8)))))))
noncomputable def V4 : List D → Option D := fnD 3 vp
noncomputable def yE : List D → Option D
  | [.int c, .int k] => some (.int (X2 c k))
  | _ => none
theorem zae {i j : Int} (h1 : -(2 ^ 64) < i) (h2 : i < 2 ^ 64) : Xh i j = true := decide_eq_true (.inl ⟨h1, h2⟩)
theorem zcn {i j : Int} (h1 : -(2 ^ 64) < j) (h2 : j < 2 ^ 64) : Xh i j = true := decide_eq_true (.inr ⟨h1, h2⟩)
theorem Xi {i j : Int} (h : Xh i j = true) : WS (.int i) (.int j) = some (.int (i * j)) := by
  show (if Xh i j = true then _ else none) = _
  rw [if_pos h]
theorem v5 {i j : Int} (h : 0 < j) : ZT (.int i) (.int j) = some (.int (i % j)) := by
  show (if decide (0 < j) = true then _ else none) = _
  rw [if_pos (decide_eq_true h)]
theorem zaZ {i j : Int} (h : 0 < j) (h2 : j < 1606938044258990275541962092341162602522202993782792835301376) : zaj (.int i) (.int j) = some (.int (i / j)) := by
  show (if decide (0 < j ∧ j < 1606938044258990275541962092341162602522202993782792835301376) = true then _ else none) = _
  rw [if_pos (decide_eq_true ⟨h, h2⟩)]
theorem VR : ∀ ds d, ds.length = 2 → yE ds = some d → V4 ds = some d := by
  intro ds d hl h
  obtain ⟨a, b, rfl⟩ := len2 hl
  cases a <;> try cases h
  cases b <;> try cases h
  rename_i c k
  have h1 := Int.emod_nonneg ((c % 2147483647 + 977 * k + 1) * 48271) (show (2147483647 : Int) ≠ 0 by decide)
  have h2 := Int.emod_lt_of_pos ((c % 2147483647 + 977 * k + 1) * 48271) (show (0 : Int) < 2147483647 by decide)
  have m1 : Xh 977 k = true := zae (by decide) (by decide)
  have m2 : Xh (c % 2147483647 + 977 * k + 1) 48271 = true := zcn (by decide) (by decide)
  obtain ⟨x, hx⟩ : ∃ x, (c % 2147483647 + 977 * k + 1) * 48271 % 2147483647 = x := ⟨_, rfl⟩
  rw [hx] at h1 h2
  have m3 : Xh x x = true := zae (Int.lt_of_lt_of_le (by decide) h1) (Int.lt_trans h2 (by decide))
  have m4 : Xh 40692 (k + 3) = true := zae (by decide) (by decide)
  have m5 : ∀ x, Xh x 69621 = true := fun x => zcn (by decide) (by decide)
  obtain ⟨y, hy⟩ : ∃ y, x * x % 2147483629 = y := ⟨_, rfl⟩
  obtain ⟨z, hz⟩ : ∃ z, (y + 40692 * (k + 3)) * 69621 % 2147483647 = z := ⟨_, rfl⟩
  have hst : X2 c k = z / 8 := by
    show ((((c % 2147483647 + 977 * k + 1) * 48271 % 2147483647) * ((c % 2147483647 + 977 * k + 1) * 48271 % 2147483647) % 2147483629 + 40692 * (k + 3)) * 69621 % 2147483647 / 8) = _
    rw [hx, hy, hz]
  rw [hst]
  refine fn_w (ρ := [.v (.int c), .v (.int k), .no]) rfl ?_
  unfold vp
  refine wv (ρ' := [.v (.int c), .v (.int k), .v (.int x)]) (wD ?_) ?_
  · show (((((ZT (.int c) (.int 2147483647)).bind fun a => (WS (.int 977) (.int k)).bind fun b => vq a b).bind fun a => vq a (.int 1)).bind fun a => WS a (.int 48271)).bind fun a => ZT a (.int 2147483647)) = _
    rw [v5 (by decide), Xi m1]
    show ((WS (.int (c % 2147483647 + 977 * k + 1)) (.int 48271)).bind fun a => ZT a (.int 2147483647)) = _
    rw [Xi m2, ← hx]
    exact v5 (by decide)
  refine wv (ρ' := [.v (.int c), .v (.int k), .v (.int y)]) (wD ?_) ?_
  · show ((WS (.int x) (.int x)).bind fun a => ZT a (.int 2147483629)) = _
    rw [Xi m3, ← hy]
    exact v5 (by decide)
  refine wv (ρ' := [.v (.int c), .v (.int k), .v (.int z)]) (wD ?_) ?_
  · show ((((WS (.int 40692) (.int (k + 3))).bind fun b => vq (.int y) b).bind fun a => WS a (.int 69621)).bind fun a => ZT a (.int 2147483647)) = _
    rw [Xi m4]
    show ((WS (.int (y + 40692 * (k + 3))) (.int 69621)).bind fun a => ZT a (.int 2147483647)) = _
    rw [Xi (m5 _), ← hz]
    exact v5 (by decide)
  exact w_rt (zfJ (show zaj (.int z) (.int 8) = _ from zaZ (by decide) (by decide))) rfl
theorem VX (T : Txt K mg ad) : yD P w K mg base CX0 1 ad.f__law_stir ad.e__law_stir ["cell", "k"] (@spD ⟨K⟩ 2 yE) := by
  letI : KK := ⟨K⟩
  refine zgI (ye (N := ["cell", "k", "number"]) (ps := ["cell", "k"]) T.d__law_stir.fn wJ (g := vp) fun cdv A outer s H E hr => ?_) VR
  unfold vp
  exact (zh (zT (m := false) (i := 2) wJ.nd rfl (Or.inl rfl) (wE (XX (xa (xa (wE (zb 0 (pv 0)) (zf zg)) (XX (zf zg) (zb 1 (pv 1)))) (zf zg)) (zf zg)) (zf zg)))
      (zh (zT (m := false) (i := 2) wJ.nd rfl (Or.inl rfl) (wE (XX (zb 2 (pv 2)) (zb 2 (pv 2))) (zf zg)))
      (zh (zT (m := false) (i := 2) wJ.nd rfl (Or.inl rfl) (wE (XX (xa (zb 2 (pv 2)) (XX (zf zg) (xa (zb 1 (pv 1)) (zf zg)))) (zf zg)) (zf zg)))
      (zj (zm (zaC (zb 2 (pv 2)) (zf zg)))))))
end
section
variable {P : Program} {w : World} {K : PySem.W.Frag} {mg : Str → Option Value} {base : Heap} {ad : Adr}
noncomputable def xV : SE → Ctl :=
  (zM (sIf (tOf (zo ltD (zi 1) (eFn za4 (zc (zi 0) zr)))) (yo (zo ixD (zi 0) (zi 1))) zO)
    (yo (eC (.int 0))))
noncomputable def xg : List D → Option D := fnD 2 xV
theorem zbz (ns : List Int) : ∃ c : Int, xg [.scr ns, .int 0] = some (.int c) := by
  cases ns with
  | nil => exact ⟨0, rfl⟩
  | cons n ns =>
    refine ⟨n, ?_⟩
    have e : atI (n :: ns) 0 = some n := zeT (Int.le_refl _) rfl
    simp [xg, xV, fnD, zM, yo, ziA, sIf, wY, Xn, sNo, zO, sAsg, zcm, zfN, zf6, zgt, vEv, visF, visG, Sl.f, Sl.g, zi, eC, zo, zbZ, eOr, zh3, eIf, eUn, zdk, Y4, w8, xn, zc, zr, zx, eFn, fFn, tOf, X9, zcd, wL, asB, asI, zdm, V2, WS, zaj, ZT, zfW, V5, ltD, leD, gtD, geD, zgf, zbi, zfy, zdx, zfd, isND, ZA, ixD, za4, Z0, isT, eSl, Xw, Yo, zba, X3, iOf, zaB, zcj, zeU, zdi, zf4, zb8, zdy, fLC, XT, ZH, zbB, vK, zgb, WU, zgX, b1, b2, e]
theorem Xd (T : Txt K mg ad) : yD P w K mg base CX0 1 ad.f__law_cell_at ad.e__law_cell_at ["script", "k"] (@spD ⟨K⟩ 2 xg) := by
  letI : KK := ⟨K⟩
  refine ye (N := ["script", "k"]) (ps := ["script", "k"]) T.d__law_cell_at.fn Xv (g := xV) fun cdv A outer s H E hr => ?_
  unfold xV
  exact (zh (zU (zA zcu zH (zu _) (zb 1 (pv 1)) (zK zN wu rfl T.z_len vY (za (zb 0 (pv 0)) zd))) (zj (zm (zG (zb 0 (pv 0)) (zb 1 (pv 1)) (fun _ _ => rfl)))) zw)
      (zj (zm (zf zg))))
theorem zee {ρ : Ev} (ns : List Int) (k : Int) (h : ns.length ≤ 63) : ∃ xs : List Int, (iOf (zo vq (w8 (xn (zc (zx 2 xg (zc (zi 0) (zc (eC (.int 0)) zr))) zr))) (eSl slD (zi 0) (Yo (eC (.int 1))) (Yo (eC (.int k)))))) (some (.scr ns) :: ρ) = some (xs.map .int) := by
  obtain ⟨c, hc⟩ := zbz ns
  refine ⟨c :: zbJ ns (some 1) (some k), ?_⟩
  have e := zdX (a := [.int c]) (b := (zbJ ns (some 1) (some k)).map .int) (by have := zdB ns (some 1) (some k); simp; omega)
  simp [iOf, zo, w8, xn, zc, zr, zx, zi, eC, hc, zcf, eSl, Yo, asI, slD, e, X3]
end
section
variable {P : Program} {w : World} {K : PySem.W.Frag} {mg : Str → Option Value} {base : Heap} {ad : Adr}
noncomputable def ZC : SE → Ctl :=
  (yo (zbZ (eUn (Z0 .int) (zi 0)) (zh3 (eUn (Z0 .bool) (zi 0)))))
noncomputable def Zm : List D → Option D := fnD 1 ZC
theorem Xf (T : Txt K mg ad) : yD P w K mg base CX0 1 ad.f_is_whole ad.e_is_whole ["thing"] (@spD ⟨K⟩ 1 Zm) := by
  letI : KK := ⟨K⟩
  refine ye (N := ["thing"]) (ps := ["thing"]) T.d_is_whole.fn zau (g := ZC) fun cdv A outer s H E hr => ?_
  unfold ZC
  exact (zj (zm (Y2 (xi .int rfl T.z_isinstance (zb 0 (pv 0)) (wq (v := .ty "int") rfl T.z_int za6 rfl)) (Zb (zgQ (xi .bool rfl T.z_isinstance (zb 0 (pv 0)) (wq (v := .ty "bool") rfl T.z_bool zfT rfl)))))))
noncomputable def xK : SE → Ctl :=
  (yo (zbZ (zx 1 Zm (zc (zi 0) zr)) (zba leD leD (zi 1) (zi 0) (zi 2))))
noncomputable def zW : List D → Option D := fnD 3 xK
theorem yl (T : Txt K mg ad) : yD P w K mg base CX0 2 ad.f_is_whole_within ad.e_is_whole_within ["thing", "least", "most"] (@spD ⟨K⟩ 3 zW) := by
  letI : KK := ⟨K⟩
  have G_is_whole := Xf (P := P) (w := w) (base := base) T
  refine ye (N := ["thing", "least", "most"]) (ps := ["thing", "least", "most"]) T.d_is_whole_within.fn Y5 (g := xK) fun cdv A outer s H E hr => ?_
  unfold xK
  exact (zj (zm (Y2 (zk (G_is_whole.mono (by decide)) hr rfl T.d_is_whole.at_ T.d_is_whole.kp T.d_is_whole.bd (za (zb 0 (pv 0)) zd)) (Zb (zd4 zbO zbO zH zH (zb 1 (pv 1)) (zb 0 (pv 0)) (zb 2 (pv 2)) (fun a b c => zep zbO zbO a b c))))))
noncomputable def x8 : SE → Ctl :=
  (sIf (wL (tOf (zx 3 zW (zc (zi 0) (zc (zi 1) (zc (zi 2) zr)))))) sNo zO)
noncomputable def xl : List D → Option D := fnD 3 x8
theorem yt (T : Txt K mg ad) : yD P w K mg base CX0 3 ad.f_must_be_within ad.e_must_be_within ["thing", "least", "most"] (@spD ⟨K⟩ 3 xl) := by
  letI : KK := ⟨K⟩
  have G_is_whole_within := yl (P := P) (w := w) (base := base) T
  refine ye (N := ["thing", "least", "most"]) (ps := ["thing", "least", "most"]) T.d_must_be_within.fn vg (g := x8) fun cdv A outer s H E hr => ?_
  unfold x8
  exact (zj (zU (xB (xw (zk (G_is_whole_within.mono (by decide)) hr rfl T.d_is_whole_within.at_ T.d_is_whole_within.kp T.d_is_whole_within.bd (za (zb 0 (pv 0)) (za (zb 1 (pv 1)) (za (zb 2 (pv 2)) zd)))))) (zj vD) zw))
noncomputable def xO : SE → Option Nat :=
  (xIf (wL (tOf (zx 3 zW (zc (zi 0) (zc (zi 1) (zc (zi 2) zr)))))) (VY 3) xNo)
noncomputable def xU : List D → Option Nat := fnX 3 xO
theorem yk (T : Txt K mg ad) : yD P w K mg base (Air P w) 3 ad.f_must_be_within ad.e_must_be_within ["thing", "least", "most"] (@spX ⟨K⟩ (clT ad) 3 xU) := by
  letI : KK := ⟨K⟩
  have G_is_whole_within := yl (P := P) (w := w) (base := base) T
  refine vh (cl := clT ad) (N := ["thing", "least", "most"]) (ps := ["thing", "least", "most"]) T.d_must_be_within.fn vg (gx := xO) fun cdv A outer s H E hr => ?_
  unfold xO
  exact (xb (Wv (xB (xw (zk (G_is_whole_within.mono (by decide)) hr rfl T.d_is_whole_within.at_ T.d_is_whole_within.kp T.d_is_whole_within.bd (za (zb 0 (pv 0)) (za (zb 1 (pv 1)) (za (zb 2 (pv 2)) zd)))))) (xb (Xa (cl := clT ad) (j := 3) ⟨T.g_NoNumber, T.c_NoNumber⟩ rfl)) xA))
noncomputable def xT : SE → Ctl :=
  (sIf (tOf (zo gtD (zi 0) (zi 1))) sNo zO)
noncomputable def wU : List D → Option D := fnD 2 xT
theorem Zl (T : Txt K mg ad) : yD P w K mg base CX0 1 ad.f_must_be_at_most ad.e_must_be_at_most ["many", "most"] (@spD ⟨K⟩ 2 wU) := by
  letI : KK := ⟨K⟩
  refine ye (N := ["many", "most"]) (ps := ["many", "most"]) T.d_must_be_at_most.fn YX (g := xT) fun cdv A outer s H E hr => ?_
  unfold xT
  exact (zj (zU (zA Z5 zH (zu _) (zb 0 (pv 0)) (zb 1 (pv 1))) (zj vD) zw))
noncomputable def wc : SE → Ctl :=
  (yo (zx 3 zW (zc (zi 0) (zc (eC (.int 1)) (zc (eC (.int 8)) zr)))))
noncomputable def we : List D → Option D := fnD 1 wc
theorem wW (T : Txt K mg ad) : yD P w K mg base CX0 3 ad.f_is_place_count ad.e_is_place_count ["thing"] (@spD ⟨K⟩ 1 we) := by
  letI : KK := ⟨K⟩
  have G_is_whole_within := yl (P := P) (w := w) (base := base) T
  refine ye (N := ["thing"]) (ps := ["thing"]) T.d_is_place_count.fn Zv (g := wc) fun cdv A outer s H E hr => ?_
  unfold wc
  exact (zj (zm (zk (G_is_whole_within.mono (by decide)) hr rfl T.d_is_whole_within.at_ T.d_is_whole_within.kp T.d_is_whole_within.bd (za (zb 0 (pv 0)) (za (zf zg) (za (zf (yP (v := .int 8) rfl T.g_MOST_PLACES ⟨_, rfl⟩)) zd))))))
noncomputable def Zy : SE → Ctl :=
  (yo (zx 3 zW (zc (zi 1) (zc (eC (.int 0)) (zc (zo V2 (zi 0) (eC (.int 1))) zr)))))
noncomputable def wm : List D → Option D := fnD 2 Zy
theorem vC (T : Txt K mg ad) : yD P w K mg base CX0 3 ad.f_is_place ad.e_is_place ["many", "thing"] (@spD ⟨K⟩ 2 wm) := by
  letI : KK := ⟨K⟩
  have G_is_whole_within := yl (P := P) (w := w) (base := base) T
  refine ye (N := ["many", "thing"]) (ps := ["many", "thing"]) T.d_is_place.fn zaa (g := Zy) fun cdv A outer s H E hr => ?_
  unfold Zy
  exact (zj (zm (zk (G_is_whole_within.mono (by decide)) hr rfl T.d_is_whole_within.at_ T.d_is_whole_within.kp T.d_is_whole_within.bd (za (zb 1 (pv 1)) (za (zf zg) (za (vO (zb 0 (pv 0)) (zf zg)) zd))))))
noncomputable def Yg : SE → Ctl :=
  (zM (sIf (zcd (wL (tOf (eUn (Z0 .tuple) (zi 1)))) (tOf (zo neD (eFn za4 (zc (zi 1) zr)) (zi 0)))) (yo (eC (.bl false))) zO)
    (yo (eFn zhI (zc (w8 (fLC (iOf (zi 1)) b1 XT (zbZ (zx 1 Zm (zc (zi 0) zr)) (zo geD (zi 0) (eC (.int 0)))))) zr))))
noncomputable def Yb : List D → Option D := fnD 2 Yg
theorem Zj (T : Txt K mg ad) : yD P w K mg base CX0 2 ad.f_are_counts ad.e_are_counts ["many", "thing"] (@spD ⟨K⟩ 2 Yb) := by
  letI : KK := ⟨K⟩
  have G_is_whole := Xf (P := P) (w := w) (base := base) T
  refine ye (N := ["many", "thing"]) (ps := ["many", "thing"]) T.d_are_counts.fn W5 (g := Yg) fun cdv A outer s H E hr => ?_
  unfold Yg
  exact (zh (zU (zbI (WV (xB (xw (xi .tuple rfl T.z_isinstance (zb 1 (pv 1)) (wq (v := .ty "tuple") rfl T.z_tuple xk rfl)))) (ZI (zA Z1 Ye (zu _) (zK zN wu rfl T.z_len vY (za (zb 1 (pv 1)) zd)) (zb 0 (pv 0)))))) (zj (zm (x6 xH))) zw)
      (zj (zm (zK (XH rfl) V7 rfl T.z_all zbK (za (xF (Wc (L := ["part"]) (M := ["many", "thing"]) rfl (YC (by rfl) (by rfl) (by rfl) (by with_unfolding_all rfl) (by rfl) (by rfl) (by kernel_rfl) wR) (Yz (zb 1 (pv 1))) gs1 rb1 (fun _ _ _ _ => (zJ (i := 0) zii rfl (Or.inl rfl) (.inr rfl))) (fun _ _ _ _ => (Y2 (zk (G_is_whole.mono (by decide)) hr rfl T.d_is_whole.at_ T.d_is_whole.kp T.d_is_whole.bd (za (zb 0 (pv 0)) zd)) (Zb (vb zfK zH (zu _) (zb 0 (pv 0)) (zf zg))))))) zd)))))
noncomputable def Xq : SE → Ctl :=
  (zM (sIf (zcd (wL (tOf (eUn (Z0 .tuple) (zi 1)))) (tOf (zo neD (eFn za4 (zc (zi 1) zr)) (eC (.int 2))))) (yo (eC (.bl false))) zO)
    (yo (zbZ (zx 2 wm (zc (zi 0) (zc (zo ixD (zi 1) (eC (.int 0))) zr))) (zbZ (zx 2 wm (zc (zi 0) (zc (zo ixD (zi 1) (eC (.int 1))) zr))) (zo neD (zo ixD (zi 1) (eC (.int 0))) (zo ixD (zi 1) (eC (.int 1))))))))
noncomputable def Vu : List D → Option D := fnD 2 Xq
theorem zbu (T : Txt K mg ad) : yD P w K mg base CX0 4 ad.f_is_pair ad.e_is_pair ["many", "thing"] (@spD ⟨K⟩ 2 Vu) := by
  letI : KK := ⟨K⟩
  have G_is_place := vC (P := P) (w := w) (base := base) T
  refine ye (N := ["many", "thing"]) (ps := ["many", "thing"]) T.d_is_pair.fn zby (g := Xq) fun cdv A outer s H E hr => ?_
  unfold Xq
  exact (zh (zU (zbI (WV (xB (xw (xi .tuple rfl T.z_isinstance (zb 1 (pv 1)) (wq (v := .ty "tuple") rfl T.z_tuple xk rfl)))) (ZI (zA Z1 Ye (zu _) (zK zN wu rfl T.z_len vY (za (zb 1 (pv 1)) zd)) (zf zg))))) (zj (zm (x6 xH))) zw)
      (zj (zm (Y2 (zk (G_is_place.mono (by decide)) hr rfl T.d_is_place.at_ T.d_is_place.kp T.d_is_place.bd (za (zb 0 (pv 0)) (za (zG (zb 1 (pv 1)) (zf zg) (fun _ _ => rfl)) zd))) (Y2 (zk (G_is_place.mono (by decide)) hr rfl T.d_is_place.at_ T.d_is_place.kp T.d_is_place.bd (za (zb 0 (pv 0)) (za (zG (zb 1 (pv 1)) (zf zg) (fun _ _ => rfl)) zd))) (Zb (vb Z1 Ye (zu _) (zG (zb 1 (pv 1)) (zf zg) (fun _ _ => rfl)) (zG (zb 1 (pv 1)) (zf zg) (fun _ _ => rfl)))))))))
noncomputable def ZS : SE → Ctl :=
  (zM (sIf (zcd (wL (tOf (zx 2 Vu (zc (zi 0) (zc (zi 3) zr))))) (tOf (zo gtD (zo ixD (zi 3) (eC (.int 0))) (zo ixD (zi 3) (eC (.int 1)))))) (yo (eC (.bl false))) zO)
    (sIf (X9 (tOf (zo gtD (zi 2) (eC (.int 0)))) (tOf (zo leT (zi 3) (zo ixD (zi 1) (zo V2 (zi 2) (eC (.int 1))))))) (yo (eC (.bl false))) zO))
noncomputable def Zz : SE → Ctl :=
  (zM (sIf (wL (tOf (eUn (Z0 .tuple) (zi 1)))) (yo (eC (.bl false))) zO)
    (zM (zaB (zb8 (zc (zi 1) zr)) (zgb 2 (WU (vK 2) (WU (vK 3) zgX))) ZS)
    (yo (eC (.bl true)))))
noncomputable def Wd : List D → Option D := fnD 4 Zz
theorem zaf (T : Txt K mg ad) : yD P w K mg base CX0 5 ad.f_are_ties ad.e_are_ties ["many", "thing"] (@spD ⟨K⟩ 2 Wd) := by
  letI : KK := ⟨K⟩
  have G_is_pair := zbu (P := P) (w := w) (base := base) T
  refine ye (N := ["many", "thing", "at", "tie"]) (ps := ["many", "thing"]) T.d_are_ties.fn YQ (g := Zz) fun cdv A outer s H E hr => ?_
  unfold Zz ZS
  exact (zh (zU (xB (xw (xi .tuple rfl T.z_isinstance (zb 1 (pv 1)) (wq (v := .ty "tuple") rfl T.z_tuple xk rfl)))) (zj (zm (x6 xH))) zw)
      (zh (Yv PassesOwn.never rfl (ze2 rfl T.z_enumerate Vg (za (zb 1 (pv 1)) zd)) (zcz rfl (vo (xc (zJ (i := 2) YQ.nd rfl (Or.inl rfl))) (vo (xc (zJ (i := 3) YQ.nd rfl (Or.inl rfl))) zaw))) (zh (zU (zbI (WV (xB (xw (zk (G_is_pair.mono (by decide)) hr rfl T.d_is_pair.at_ T.d_is_pair.kp T.d_is_pair.bd (za (zb 0 (pv 0)) (za (zb 3 (pv 3)) zd))))) (ZI (zA Z5 zH (zu _) (zG (zb 3 (pv 3)) (zf zg) (fun _ _ => rfl)) (zG (zb 3 (pv 3)) (zf zg) (fun _ _ => rfl)))))) (zj (zm (x6 xH))) zw)
      (zj (zU (zbI (zaT (zA Z5 zH (zu _) (zb 2 (pv 2)) (zf zg)) (WF (zA (zha hr.units0) zft (zu _) (zb 3 (pv 3)) (zG (zb 1 (pv 1)) (vO (zb 2 (pv 2)) (zf zg)) (fun _ _ => rfl)))))) (zj (zm (x6 xH))) zw))))
      (zj (zm (x6 xH)))))
noncomputable def WX : SE → Ctl :=
  (zM (sIf (zcd (wL (tOf (eUn (Z0 .tuple) (zi 0)))) (tOf (zo neD (eFn za4 (zc (zi 0) zr)) (eC (.int 2))))) (yo (eC (.bl false))) zO)
    (yo (zbZ (zx 1 we (zc (zo ixD (zi 0) (eC (.int 0))) zr)) (zx 2 Wd (zc (zo ixD (zi 0) (eC (.int 0))) (zc (zo ixD (zi 0) (eC (.int 1))) zr))))))
noncomputable def zbe : List D → Option D := fnD 1 WX
theorem zbY (T : Txt K mg ad) : yD P w K mg base CX0 6 ad.f_is_web ad.e_is_web ["thing"] (@spD ⟨K⟩ 1 zbe) := by
  letI : KK := ⟨K⟩
  have G_is_place_count := wW (P := P) (w := w) (base := base) T
  have G_are_ties := zaf (P := P) (w := w) (base := base) T
  refine ye (N := ["thing"]) (ps := ["thing"]) T.d_is_web.fn zc8 (g := WX) fun cdv A outer s H E hr => ?_
  unfold WX
  exact (zh (zU (zbI (WV (xB (xw (xi .tuple rfl T.z_isinstance (zb 0 (pv 0)) (wq (v := .ty "tuple") rfl T.z_tuple xk rfl)))) (ZI (zA Z1 Ye (zu _) (zK zN wu rfl T.z_len vY (za (zb 0 (pv 0)) zd)) (zf zg))))) (zj (zm (x6 xH))) zw)
      (zj (zm (Y2 (zk (G_is_place_count.mono (by decide)) hr rfl T.d_is_place_count.at_ T.d_is_place_count.kp T.d_is_place_count.bd (za (zG (zb 0 (pv 0)) (zf zg) (fun _ _ => rfl)) zd)) (Zb (zk (G_are_ties.mono (by decide)) hr rfl T.d_are_ties.at_ T.d_are_ties.kp T.d_are_ties.bd (za (zG (zb 0 (pv 0)) (zf zg) (fun _ _ => rfl)) (za (zG (zb 0 (pv 0)) (zf zg) (fun _ _ => rfl)) zd))))))))
noncomputable def vt : SE → Ctl :=
  (sIf (wL (tOf (zx 1 zbe (zc (zi 0) zr)))) sNo zO)
noncomputable def Zd : List D → Option D := fnD 1 vt
theorem Wa (T : Txt K mg ad) : yD P w K mg base CX0 7 ad.f_must_be_web ad.e_must_be_web ["thing"] (@spD ⟨K⟩ 1 Zd) := by
  letI : KK := ⟨K⟩
  have G_is_web := zbY (P := P) (w := w) (base := base) T
  refine ye (N := ["thing"]) (ps := ["thing"]) T.d_must_be_web.fn X5 (g := vt) fun cdv A outer s H E hr => ?_
  unfold vt
  exact (zj (zU (xB (xw (zk (G_is_web.mono (by decide)) hr rfl T.d_is_web.at_ T.d_is_web.kp T.d_is_web.bd (za (zb 0 (pv 0)) zd)))) (zj vD) zw))
noncomputable def wy : SE → Ctl :=
  (sIf (wL (tOf (zx 2 wm (zc (zo ixD (zi 0) (eC (.int 0))) (zc (zi 1) zr))))) sNo zO)
noncomputable def yA : List D → Option D := fnD 2 wy
theorem zS (T : Txt K mg ad) : yD P w K mg base CX0 4 ad.f_must_be_place ad.e_must_be_place ["web", "thing"] (@spD ⟨K⟩ 2 yA) := by
  letI : KK := ⟨K⟩
  have G_is_place := vC (P := P) (w := w) (base := base) T
  refine ye (N := ["web", "thing"]) (ps := ["web", "thing"]) T.d_must_be_place.fn vI (g := wy) fun cdv A outer s H E hr => ?_
  unfold wy
  exact (zj (zU (xB (xw (zk (G_is_place.mono (by decide)) hr rfl T.d_is_place.at_ T.d_is_place.kp T.d_is_place.bd (za (zG (zb 0 (pv 0)) (zf zg) (fun _ _ => rfl)) (za (zb 1 (pv 1)) zd))))) (zj vD) zw))
noncomputable def wa : SE → Option Nat :=
  (xIf (wL (tOf (zx 2 wm (zc (zo ixD (zi 0) (eC (.int 0))) (zc (zi 1) zr))))) (VY 2) xNo)
noncomputable def xm : List D → Option Nat := fnX 2 wa
theorem zL (T : Txt K mg ad) : yD P w K mg base (Air P w) 4 ad.f_must_be_place ad.e_must_be_place ["web", "thing"] (@spX ⟨K⟩ (clT ad) 2 xm) := by
  letI : KK := ⟨K⟩
  have G_is_place := vC (P := P) (w := w) (base := base) T
  refine vh (cl := clT ad) (N := ["web", "thing"]) (ps := ["web", "thing"]) T.d_must_be_place.fn vI (gx := wa) fun cdv A outer s H E hr => ?_
  unfold wa
  exact (xb (Wv (xB (xw (zk (G_is_place.mono (by decide)) hr rfl T.d_is_place.at_ T.d_is_place.kp T.d_is_place.bd (za (zG (zb 0 (pv 0)) (zf zg) (fun _ _ => rfl)) (za (zb 1 (pv 1)) zd))))) (xb (Xa (cl := clT ad) (j := 2) ⟨T.g_NoPlace, T.c_NoPlace⟩ rfl)) xA))
noncomputable def vy : SE → Ctl :=
  (yo (Y4 (zc (eFn zfm (zc (zi 0) (zc (zi 1) zr))) (zc (eFn zgh (zc (zi 0) (zc (zi 1) zr))) zr))))
noncomputable def Zf : List D → Option D := fnD 2 vy
theorem X7 (T : Txt K mg ad) : yD P w K mg base CX0 1 ad.f_tie_between ad.e_tie_between ["one", "other"] (@spD ⟨K⟩ 2 Zf) := by
  letI : KK := ⟨K⟩
  refine ye (N := ["one", "other"]) (ps := ["one", "other"]) T.d_tie_between.fn X8 (g := vy) fun cdv A outer s H E hr => ?_
  unfold vy
  exact (zj (zm (xD (za (zK (VM rfl) zaU rfl T.z_min zes (za (zb 0 (pv 0)) (za (zb 1 (pv 1)) zd))) (za (zK (zcx rfl) zdu rfl T.z_max zho (za (zb 0 (pv 0)) (za (zb 1 (pv 1)) zd))) zd)))))
noncomputable def Yc : SE → Ctl :=
  (yo (w8 (fLC (zeU zdi (zc (zo ixD (zi 0) (eC (.int 0))) zr)) b1 (tOf (zo inD (zx 2 Zf (zc (zi 2) (zc (zi 0) zr))) (zo ixD (zi 1) (eC (.int 1))))) (zi 0))))
noncomputable def ZU : List D → Option D := fnD 2 Yc
theorem WH (T : Txt K mg ad) : yD P w K mg base CX0 2 ad.f_neighbours ad.e_neighbours ["web", "place"] (@spD ⟨K⟩ 2 ZU) := by
  letI : KK := ⟨K⟩
  have G_tie_between := X7 (P := P) (w := w) (base := base) T
  refine ye (N := ["web", "place"]) (ps := ["web", "place"]) T.d_neighbours.fn W0 (g := Yc) fun cdv A outer s H E hr => ?_
  unfold Yc
  exact (zj (zm (xF (zcP (L := ["other"]) (M := ["web", "place"]) rfl (YC (by rfl) (by rfl) (by rfl) (by with_unfolding_all rfl) (by rfl) (by rfl) (by kernel_rfl) (all_cons rfl (all_cons rfl wR))) (Vb rfl T.z_range (za (zG (zb 0 (pv 0)) (zf zg) (fun _ _ => rfl)) zd)) gs1 rb1 (fun _ _ _ _ => (zJ (i := 0) ziC rfl (Or.inl rfl) (.inr rfl))) (fun _ _ _ _ => (zA (zex hr) zeP (by with_unfolding_all rfl) (zk (G_tie_between.mono (by decide)) hr rfl T.d_tie_between.at_ T.d_tie_between.kp T.d_tie_between.bd (za (zb 2 (pv 2)) (za (zb 0 (pv 0)) zd))) (zG (zb 1 (pv 1)) (zf zg) (fun _ _ => rfl)))) (fun _ _ _ _ => (zb 0 (pv 0)))))))
noncomputable def Yf : SE → Ctl :=
  (yo (zbZ (zx 2 Yb (zc (zo ixD (zi 0) (eC (.int 0))) (zc (zi 1) zr))) (zo leD (eFn zgd (zc (zi 1) zr)) (eC (.int 300)))))
noncomputable def vQ : List D → Option D := fnD 2 Yf
theorem Y8 (T : Txt K mg ad) : yD P w K mg base CX0 3 ad.f_are_stones ad.e_are_stones ["web", "thing"] (@spD ⟨K⟩ 2 vQ) := by
  letI : KK := ⟨K⟩
  have G_are_counts := Zj (P := P) (w := w) (base := base) T
  refine ye (N := ["web", "thing"]) (ps := ["web", "thing"]) T.d_are_stones.fn WJ (g := Yf) fun cdv A outer s H E hr => ?_
  unfold Yf
  exact (zj (zm (Y2 (zk (G_are_counts.mono (by decide)) hr rfl T.d_are_counts.at_ T.d_are_counts.kp T.d_are_counts.bd (za (zG (zb 0 (pv 0)) (zf zg) (fun _ _ => rfl)) (za (zb 1 (pv 1)) zd))) (Zb (vb zbO zH (zu _) (zK (vX rfl) Xj rfl T.z_sum Vf (za (zb 1 (pv 1)) zd)) (zf (yP (v := .int 300) rfl T.g_MOST_STONES ⟨_, rfl⟩)))))))
noncomputable def wP : SE → Ctl :=
  (sIf (wL (tOf (zx 2 vQ (zc (zi 0) (zc (zi 1) zr))))) sNo zO)
noncomputable def yL : List D → Option D := fnD 2 wP
theorem yX (T : Txt K mg ad) : yD P w K mg base CX0 4 ad.f_must_be_heap ad.e_must_be_heap ["web", "thing"] (@spD ⟨K⟩ 2 yL) := by
  letI : KK := ⟨K⟩
  have G_are_stones := Y8 (P := P) (w := w) (base := base) T
  refine ye (N := ["web", "thing"]) (ps := ["web", "thing"]) T.d_must_be_heap.fn v8 (g := wP) fun cdv A outer s H E hr => ?_
  unfold wP
  exact (zj (zU (xB (xw (zk (G_are_stones.mono (by decide)) hr rfl T.d_are_stones.at_ T.d_are_stones.kp T.d_are_stones.bd (za (zb 0 (pv 0)) (za (zb 1 (pv 1)) zd))))) (zj vD) zw))
noncomputable def wC : SE → Option Nat :=
  (xIf (wL (tOf (zx 2 vQ (zc (zi 0) (zc (zi 1) zr))))) (VY 1) xNo)
noncomputable def wt : List D → Option Nat := fnX 2 wC
theorem yG (T : Txt K mg ad) : yD P w K mg base (Air P w) 4 ad.f_must_be_heap ad.e_must_be_heap ["web", "thing"] (@spX ⟨K⟩ (clT ad) 2 wt) := by
  letI : KK := ⟨K⟩
  have G_are_stones := Y8 (P := P) (w := w) (base := base) T
  refine vh (cl := clT ad) (N := ["web", "thing"]) (ps := ["web", "thing"]) T.d_must_be_heap.fn v8 (gx := wC) fun cdv A outer s H E hr => ?_
  unfold wC
  exact (xb (Wv (xB (xw (zk (G_are_stones.mono (by decide)) hr rfl T.d_are_stones.at_ T.d_are_stones.kp T.d_are_stones.bd (za (zb 0 (pv 0)) (za (zb 1 (pv 1)) zd))))) (xb (Xa (cl := clT ad) (j := 1) ⟨T.g_NoHeap, T.c_NoHeap⟩ rfl)) xA))
noncomputable def Y9 : SE → Ctl :=
  (zf6 1 (w8 (fLC (iOf (zx 2 ZU (zc (zi 0) (zc (zi 2) zr)))) b1 XT (Y4 (zc (zi 3) (zc (zi 0) zr))))))
noncomputable def YL : SE → Ctl :=
  (zM (zcm 1 (xn zr))
    (zM (zcj zdi (zc (zo ixD (zi 0) (eC (.int 0))) zr) (vK 2) Y9)
    (sFz 1 (yo (zi 1)))))
noncomputable def Xz : List D → Option D := fnD 3 YL
theorem Vz (T : Txt K mg ad) : yD P w K mg base CX0 3 ad.f_all_steps ad.e_all_steps ["web"] (@spD ⟨K⟩ 1 Xz) := by
  letI : KK := ⟨K⟩
  have G_neighbours := WH (P := P) (w := w) (base := base) T
  refine ye (N := ["web", "found", "place"]) (ps := ["web"]) T.d_all_steps.fn v0 (g := YL) fun cdv A outer s H E hr => ?_
  unfold YL Y9
  exact (zh (ZG (i := 1) v0.nd rfl (Or.inl rfl) (yU zd))
      (zh (zbg PassesOwn.never rfl rfl T.z_range (za (zG (zb 0 (pv 0)) (zf zg) (fun _ _ => rfl)) zd) (xc (zJ (i := 2) v0.nd rfl (Or.inr rfl))) (zj (zck (pv 1) (xF (Wc (L := ["other"]) (M := ["web", "found", "place"]) rfl (YC (by rfl) (by rfl) (by rfl) (by with_unfolding_all rfl) (by rfl) (by rfl) (by kernel_rfl) (all_cons rfl wR)) (Yz (zk (G_neighbours.mono (by decide)) hr rfl T.d_neighbours.at_ T.d_neighbours.kp T.d_neighbours.bd (za (zb 0 (pv 0)) (za (zb 2 (pv 2)) zd)))) gs1 rb1 (fun _ _ _ _ => (zJ (i := 0) zig rfl (Or.inl rfl) (.inr rfl))) (fun _ _ _ _ => (xD (za (zb 3 (pv 3)) (za (zb 0 (pv 0)) zd)))))) (fun a b => WT PySem.F.plainAttrs_list PySem.F.slot_list_extend PySem.F.type_list_extend Xg a b))))
      (ZO 1 (zj (zm (zb 1 (pv 1)))))))
noncomputable def Xe : SE → Ctl :=
  (zM (zcm 2 (fFn zbB (zc (zi 0) zr)))
    (zM (zgt true 2 (zo ixD (zi 1) (eC (.int 0))) (zo V2 (zo ixD (zi 2) (zo ixD (zi 1) (eC (.int 0)))) (eC (.int 2))))
    (zM (zgt true 2 (zo ixD (zi 1) (eC (.int 1))) (zo vq (zo ixD (zi 2) (zo ixD (zi 1) (eC (.int 1)))) (eC (.int 1))))
    (sFz 2 (yo (eFn ZH (zc (zi 2) zr)))))))
noncomputable def VS : List D → Option D := fnD 3 Xe
theorem zbo (T : Txt K mg ad) : yD P w K mg base CX0 1 ad.f_stepped ad.e_stepped ["heap", "step"] (@spD ⟨K⟩ 2 VS) := by
  letI : KK := ⟨K⟩
  refine ye (N := ["heap", "step", "stones"]) (ps := ["heap", "step"]) T.d_stepped.fn Wm (g := Xe) fun cdv A outer s H E hr => ?_
  unfold Xe
  exact (zh (ZG (i := 2) Wm.nd rfl (Or.inl rfl) (zcY rfl T.z_list (za (zb 0 (pv 0)) zd)))
      (zh (zeC (m := true) (vO (zG (zb 2 (pv 2)) (zG (zb 1 (pv 1)) (zf zg) (fun _ _ => rfl)) (fun _ _ => rfl)) (zf zg)) (pv 2) (zG (zb 1 (pv 1)) (zf zg) (fun _ _ => rfl)))
      (zh (zeC (m := true) (xa (zG (zb 2 (pv 2)) (zG (zb 1 (pv 1)) (zf zg) (fun _ _ => rfl)) (fun _ _ => rfl)) (zf zg)) (pv 2) (zG (zb 1 (pv 1)) (zf zg) (fun _ _ => rfl)))
      (ZO 2 (zj (zm (xZ xy vZ rfl T.z_tuple xk (za (zb 2 (pv 2)) zd))))))))
noncomputable def vH : SE → Ctl :=
  (zM (wY false 8 (zx 2 VS (zc (zi 6) (zc (zi 7) zr))))
    (sIf (tOf (zo (dinD true) (zi 8) (zi 3))) (zM (zfH false 3 (zi 8) (Y4 (zc (zi 6) (zc (zi 7) zr))))
    (zfN false 5 (zi 8))) zO))
noncomputable def vE : SE → Ctl :=
  (zaB (iOf (w8 (fLC (iOf (zi 2)) b1 (tOf (zo geD (zo ixD (zi 7) (zo ixD (zi 0) (eC (.int 0)))) (eC (.int 2)))) (zi 0)))) (vK 7) vH)
noncomputable def vG : SE → Ctl :=
  (zM (zcm 5 (xn zr))
    (zM (zaB (iOf (zi 4)) (vK 6) vE)
    (sFz 5 (wY false 4 (zi 5)))))
noncomputable def wM : SE → Ctl :=
  (zM (wY false 2 (zx 1 Xz (zc (zi 0) zr)))
    (zM (zfs 3 (zi 1) (eC .non))
    (zM (wY false 4 (w8 (xn (zc (zi 1) zr))))
    (zM (ZX (tOf (zo gtD (eFn za4 (zc (zi 4) zr)) (eC (.int 0)))) vG 20)
    (ziB 3 (yo (zi 3)))))))
noncomputable def Ys : List D → Option D := fnD 9 wM
theorem Xs (T : Txt K mg ad) : yD P w K mg base CX0 4 ad.f_heaps_behind ad.e_heaps_behind ["web", "heap"] (@spD ⟨K⟩ 2 Ys) := by
  letI : KK := ⟨K⟩
  have G_all_steps := Vz (P := P) (w := w) (base := base) T
  have G_stepped := zbo (P := P) (w := w) (base := base) T
  refine ye (N := ["web", "heap", "steps", "found", "rim", "further", "now", "step", "then"]) (ps := ["web", "heap"]) T.d_heaps_behind.fn zI (g := wM) fun cdv A outer s H E hr => ?_
  unfold wM vG vE vH
  exact (zh (zT (m := false) (i := 2) zI.nd rfl (Or.inl rfl) (zk (G_all_steps.mono (by decide)) hr rfl T.d_all_steps.at_ T.d_all_steps.kp T.d_all_steps.bd (za (zb 0 (pv 0)) zd)))
      (zh (zfu (i := 3) hr zI.nd rfl (Or.inl rfl) (zb 1 (pv 1)) (wZ w6))
      (zh (zT (m := false) (i := 4) zI.nd rfl (Or.inl rfl) (xF (yU (za (zb 1 (pv 1)) zd))))
      (zh (za1 20 PassesOwn.never (zA Z5 zH (zu _) (zK zN wu rfl T.z_len vY (za (zb 4 (pv 4)) zd)) (zf zg)) (zh (ZG (i := 5) zI.nd rfl (Or.inl rfl) (yU zd))
      (zh (Yv PassesOwn.never rfl (Yz (zb 4 (pv 4))) (xc (zJ (i := 6) zI.nd rfl (Or.inr rfl))) (zj (Yv PassesOwn.never rfl (Yz (xF (zcP (L := ["step"]) (M := ["web", "heap", "steps", "found", "rim", "further", "now", "·step", "then"]) rfl (YC (by rfl) (by rfl) (by rfl) (by with_unfolding_all rfl) (by rfl) (by rfl) (by kernel_rfl) (all_cons rfl wR)) (Yz (zb 2 (pv 2))) gs1 rb1 (fun _ _ _ _ => (zJ (i := 0) zh0 rfl (Or.inl rfl) (.inr rfl))) (fun _ _ _ _ => (zA zfK zH (zu _) (zG (zb 7 (pv 7)) (zG (zb 0 (pv 0)) (zf zg) (fun _ _ => rfl)) (fun _ _ => rfl)) (zf zg))) (fun _ _ _ _ => (zb 0 (pv 0)))))) (xc (zJ (i := 7) zI.nd rfl (Or.inl rfl))) (zh (zT (m := false) (i := 8) zI.nd rfl (Or.inl rfl) (zk (G_stepped.mono (by decide)) hr rfl T.d_stepped.at_ T.d_stepped.kp T.d_stepped.bd (za (zb 6 (pv 6)) (za (zb 7 (pv 7)) zd))))
      (zj (zU (zA (zca hr) zf0 (by with_unfolding_all rfl) (zb 8 (pv 8)) (zb 3 (pv 3))) (zh (ze6 (m := false) hr (xD (za (zb 6 (pv 6)) (za (zb 7 (pv 7)) zd))) (pv 3) (zb 8 (pv 8)))
      (zj (zbc (m := false) (pv 5) (zb 8 (pv 8)) (fun a b => WT PySem.F.plainAttrs_list PySem.F.slot_list_append PySem.F.type_list_append Y1 a b)))) zw))))))
      (ZO 5 (zj (zT (m := false) (i := 4) zI.nd rfl (Or.inl rfl) (zb 5 (pv 5))))))))
      (zfF 3 (zj (zm (zb 3 (pv 3)))))))))
noncomputable def ZJ : SE → Ctl :=
  (zM (zfN false 2 (zo ixD (zo zd2 (zi 0) (zi 3)) (eC (.int 1))))
    (wY false 3 (zo ixD (zo zd2 (zi 0) (zi 3)) (eC (.int 0)))))
noncomputable def ZD : SE → Ctl :=
  (zM (zcm 2 (xn zr))
    (zM (wY false 3 (zi 1))
    (zM (ZX (tOf (zo ZA (zo zd2 (zi 0) (zi 3)) (eC .non))) ZJ 20)
    (sFz 2 (yo (w8 (zhN (zi 2))))))))
noncomputable def Wq : List D → Option D := fnD 4 ZD
theorem zab (T : Txt K mg ad) : yD P w K mg base CX0 1 ad.f_steps_to ad.e_steps_to ["found", "heap"] (@spD ⟨K⟩ 2 Wq) := by
  letI : KK := ⟨K⟩
  refine ye (N := ["found", "heap", "steps", "now"]) (ps := ["found", "heap"]) T.d_steps_to.fn vB (g := ZD) fun cdv A outer s H E hr => ?_
  unfold ZD ZJ
  exact (zh (ZG (i := 2) vB.nd rfl (Or.inl rfl) (yU zd))
      (zh (zT (m := false) (i := 3) vB.nd rfl (Or.inl rfl) (zb 1 (pv 1)))
      (zh (za1 20 PassesOwn.never (zA XJ Zs (zu _) (zah hr (zb 0 (pv 0)) (zb 3 (pv 3)) (fun _ _ => rfl)) (wZ w6)) (zh (zbc (m := false) (pv 2) (zG (zah hr (zb 0 (pv 0)) (zb 3 (pv 3)) (fun _ _ => rfl)) (zf zg) (fun _ _ => rfl)) (fun a b => WT PySem.F.plainAttrs_list PySem.F.slot_list_append PySem.F.type_list_append Y1 a b))
      (zj (zT (m := false) (i := 3) vB.nd rfl (Or.inl rfl) (zG (zah hr (zb 0 (pv 0)) (zb 3 (pv 3)) (fun _ _ => rfl)) (zf zg) (fun _ _ => rfl))))))
      (ZO 2 (zj (zm (xF (Wh rfl rfl T.z_list rfl T.z_reversed (zb 2 (pv 2))))))))))
noncomputable def wz : SE → Ctl :=
  (zM (Xn (zx 1 Zd (zc (zi 0) zr)))
    (zM (Xn (zx 2 yL (zc (zi 0) (zc (zi 1) zr))))
    (zM (Xn (zx 2 yA (zc (zi 0) (zc (zi 2) zr))))
    (Xn (zx 3 xl (zc (zi 3) (zc (eC (.int 1)) (zc (eC (.int 300)) zr))))))))
noncomputable def vR : List D → Option D := fnD 4 wz
theorem Z4 (T : Txt K mg ad) : yD P w K mg base CX0 8 ad.f_must_be_asked ad.e_must_be_asked ["web", "heap", "place", "many"] (@spD ⟨K⟩ 4 vR) := by
  letI : KK := ⟨K⟩
  have G_must_be_within := yt (P := P) (w := w) (base := base) T
  have X_must_be_within := yk (P := P) (w := w) (base := base) T
  have G_must_be_web := Wa (P := P) (w := w) (base := base) T
  have G_must_be_place := zS (P := P) (w := w) (base := base) T
  have X_must_be_place := zL (P := P) (w := w) (base := base) T
  have G_must_be_heap := yX (P := P) (w := w) (base := base) T
  have X_must_be_heap := yG (P := P) (w := w) (base := base) T
  refine ye (N := ["web", "heap", "place", "many"]) (ps := ["web", "heap", "place", "many"]) T.d_must_be_asked.fn Z2 (g := wz) fun cdv A outer s H E hr => ?_
  unfold wz
  exact (zh (yB (zk (G_must_be_web.mono (by decide)) hr rfl T.d_must_be_web.at_ T.d_must_be_web.kp T.d_must_be_web.bd (za (zb 0 (pv 0)) zd)))
      (zh (yB (zk (G_must_be_heap.mono (by decide)) hr rfl T.d_must_be_heap.at_ T.d_must_be_heap.kp T.d_must_be_heap.bd (za (zb 0 (pv 0)) (za (zb 1 (pv 1)) zd))))
      (zh (yB (zk (G_must_be_place.mono (by decide)) hr rfl T.d_must_be_place.at_ T.d_must_be_place.kp T.d_must_be_place.bd (za (zb 0 (pv 0)) (za (zb 2 (pv 2)) zd))))
      (zj (yB (zk (G_must_be_within.mono (by decide)) hr rfl T.d_must_be_within.at_ T.d_must_be_within.kp T.d_must_be_within.bd (za (zb 3 (pv 3)) (za (zf zg) (za (zf (yP (v := .int 300) rfl T.g_MOST_STONES ⟨_, rfl⟩)) zd)))))))))
noncomputable def VT : SE → Ctl :=
  (sIf (tOf (zo geD (zo ixD (zi 5) (zi 2)) (zi 3))) (yo (zx 2 Wq (zc (zi 4) (zc (zi 5) zr)))) zO)
noncomputable def zas : SE → Ctl :=
  (zM (Xn (zx 4 vR (zc (zi 0) (zc (zi 1) (zc (zi 2) (zc (zi 3) zr))))))
    (zM (Xn (zx 2 wU (zc (eFn zgd (zc (zi 1) zr)) (zc (eC (.int 12)) zr))))
    (zM (wY false 4 (zx 2 Ys (zc (zi 0) (zc (zi 1) zr))))
    (zM (zaB (iDct (zi 4)) (vK 5) VT)
    (yo (eC .non))))))
noncomputable def zc6 : List D → Option D := fnD 6 zas
theorem zaN (T : Txt K mg ad) : yD P w K mg base CX0 9 ad.f_reach ad.e_reach ["web", "heap", "place", "many"] (@spD ⟨K⟩ 4 zc6) := by
  letI : KK := ⟨K⟩
  have G_must_be_at_most := Zl (P := P) (w := w) (base := base) T
  have G_heaps_behind := Xs (P := P) (w := w) (base := base) T
  have G_steps_to := zab (P := P) (w := w) (base := base) T
  have G_must_be_asked := Z4 (P := P) (w := w) (base := base) T
  refine ye (N := ["web", "heap", "place", "many", "found", "other"]) (ps := ["web", "heap", "place", "many"]) T.d_reach.fn W2 (g := zas) fun cdv A outer s H E hr => ?_
  unfold zas VT
  exact (zh (yB (zk (G_must_be_asked.mono (by decide)) hr rfl T.d_must_be_asked.at_ T.d_must_be_asked.kp T.d_must_be_asked.bd (za (zb 0 (pv 0)) (za (zb 1 (pv 1)) (za (zb 2 (pv 2)) (za (zb 3 (pv 3)) zd))))))
      (zh (yB (zk (G_must_be_at_most.mono (by decide)) hr rfl T.d_must_be_at_most.at_ T.d_must_be_at_most.kp T.d_must_be_at_most.bd (za (zK (vX rfl) Xj rfl T.z_sum Vf (za (zb 1 (pv 1)) zd)) (za (zf (yP (v := .int 12) rfl T.g_MOST_SEARCHED ⟨_, rfl⟩)) zd))))
      (zh (zT (m := false) (i := 4) W2.nd rfl (Or.inl rfl) (zk (G_heaps_behind.mono (by decide)) hr rfl T.d_heaps_behind.at_ T.d_heaps_behind.kp T.d_heaps_behind.bd (za (zb 0 (pv 0)) (za (zb 1 (pv 1)) zd))))
      (zh (Yv PassesOwn.never rfl (ze9 (zb 4 (pv 4))) (xc (zJ (i := 5) W2.nd rfl (Or.inl rfl))) (zj (zU (zA zfK zH (zu _) (zG (zb 5 (pv 5)) (zb 2 (pv 2)) (fun _ _ => rfl)) (zb 3 (pv 3))) (zj (zm (zk (G_steps_to.mono (by decide)) hr rfl T.d_steps_to.at_ T.d_steps_to.kp T.d_steps_to.bd (za (zb 4 (pv 4)) (za (zb 5 (pv 5)) zd))))) zw)))
      (zj (zm (wZ w6)))))))
noncomputable def XZ : SE → Ctl :=
  (zM (sIf (zcd (wL (tOf (eUn (Z0 .tuple) (zi 0)))) (wL (tOf (zx 1 we (zc (eFn za4 (zc (zi 0) zr)) zr))))) (yo (eC (.bl false))) zO)
    (zM (sIf (tOf (zo ZA (zo ixD (zi 0) (eC (.int 0))) (eC .non))) (yo (eC (.bl false))) zO)
    (yo (eFn zhI (zc (w8 (fLC (zeU zf4 (zc (eC (.int 1)) (zc (eFn za4 (zc (zi 0) zr)) zr))) b1 XT (zx 2 wm (zc (zi 0) (zc (zo ixD (zi 1) (zi 0)) zr))))) zr)))))
noncomputable def VZ : List D → Option D := fnD 1 XZ
theorem zbC (T : Txt K mg ad) : yD P w K mg base CX0 4 ad.f_is_over ad.e_is_over ["thing"] (@spD ⟨K⟩ 1 VZ) := by
  letI : KK := ⟨K⟩
  have G_is_place_count := wW (P := P) (w := w) (base := base) T
  have G_is_place := vC (P := P) (w := w) (base := base) T
  refine ye (N := ["thing"]) (ps := ["thing"]) T.d_is_over.fn zbr (g := XZ) fun cdv A outer s H E hr => ?_
  unfold XZ
  exact (zh (zU (zbI (WV (xB (xw (xi .tuple rfl T.z_isinstance (zb 0 (pv 0)) (wq (v := .ty "tuple") rfl T.z_tuple xk rfl)))) (ZI (xB (xw (zk (G_is_place_count.mono (by decide)) hr rfl T.d_is_place_count.at_ T.d_is_place_count.kp T.d_is_place_count.bd (za (zK zN wu rfl T.z_len vY (za (zb 0 (pv 0)) zd)) zd))))))) (zj (zm (x6 xH))) zw)
      (zh (zU (zA XJ Zs (zu _) (zG (zb 0 (pv 0)) (zf zg) (fun _ _ => rfl)) (wZ w6)) (zj (zm (x6 xH))) zw)
      (zj (zm (zK (XH rfl) V7 rfl T.z_all zbK (za (xF (Wc (L := ["place"]) (M := ["thing"]) rfl (YC (by rfl) (by rfl) (by rfl) (by with_unfolding_all rfl) (by rfl) (by rfl) (by kernel_rfl) (all_cons rfl wR)) (XY rfl T.z_range (za (zf zg) (za (zK zN wu rfl T.z_len vY (za (zb 0 (pv 0)) zd)) zd))) gs1 rb1 (fun _ _ _ _ => (zJ (i := 0) zhY rfl (Or.inl rfl) (.inr rfl))) (fun _ _ _ _ => (zk (G_is_place.mono (by decide)) hr rfl T.d_is_place.at_ T.d_is_place.kp T.d_is_place.bd (za (zb 0 (pv 0)) (za (zG (zb 1 (pv 1)) (zb 0 (pv 0)) (fun _ _ => rfl)) zd)))))) zd))))))
noncomputable def YM : SE → Ctl :=
  (zM (sIf (zcd (wL (tOf (eUn (Z0 .tuple) (zi 0)))) (tOf (zo neD (eFn za4 (zc (zi 0) zr)) (eC (.int 2))))) (yo (eC (.bl false))) zO)
    (zM (wY false 1 (zo ixD (zi 0) (eC (.int 0))))
    (zM (sIf (wL (tOf (eUn (Z0 .str) (zi 1)))) (yo (eC (.bl false))) zO)
    (zM (sIf (tOf (zo vL (zi 1) (eC (.str "tree")))) (yo (zx 1 VZ (zc (zo ixD (zi 0) (eC (.int 1))) zr))) zO)
    (yo (zbZ (eUn (zez Y3) (zi 1)) (zx 3 zW (zc (zo ixD (zi 0) (eC (.int 1))) (zc (eUn (zcC Y3 0) (zi 1)) (zc (eUn (zcC Y3 1) (zi 1)) zr))))))))))
noncomputable def XF : List D → Option D := fnD 2 YM
theorem Vn (T : Txt K mg ad) : yD P w K mg base CX0 5 ad.f_kind_good ad.e_kind_good ["thing"] (@spD ⟨K⟩ 1 XF) := by
  letI : KK := ⟨K⟩
  have G_is_whole_within := yl (P := P) (w := w) (base := base) T
  have G_is_over := zbC (P := P) (w := w) (base := base) T
  refine ye (N := ["thing", "word"]) (ps := ["thing"]) T.d_kind_good.fn ZY (g := YM) fun cdv A outer s H E hr => ?_
  unfold YM
  exact (zh (zU (zbI (WV (xB (xw (xi .tuple rfl T.z_isinstance (zb 0 (pv 0)) (wq (v := .ty "tuple") rfl T.z_tuple xk rfl)))) (ZI (zA Z1 Ye (zu _) (zK zN wu rfl T.z_len vY (za (zb 0 (pv 0)) zd)) (zf zg))))) (zj (zm (x6 xH))) zw)
      (zh (zT (m := false) (i := 1) ZY.nd rfl (Or.inl rfl) (zG (zb 0 (pv 0)) (zf zg) (fun _ _ => rfl)))
      (zh (zU (xB (xw (xi .str rfl T.z_isinstance (zb 1 (pv 1)) (wq (v := .ty "str") rfl T.z_str zgW rfl)))) (zj (zm (x6 xH))) zw)
      (zh (zU (zA (zV hr) zF (zu _) (zb 1 (pv 1)) (ve vf)) (zj (zm (zk (G_is_over.mono (by decide)) hr rfl T.d_is_over.at_ T.d_is_over.kp T.d_is_over.bd (za (zG (zb 0 (pv 0)) (zf zg) (fun _ _ => rfl)) zd)))) zw)
      (zj (zm (Y2 (zdI T.b_SIZES rfl T.g_SIZES (zb 1 (pv 1))) (Zb (zk (G_is_whole_within.mono (by decide)) hr rfl T.d_is_whole_within.at_ T.d_is_whole_within.kp T.d_is_whole_within.bd (za (zG (zb 0 (pv 0)) (zf zg) (fun _ _ => rfl)) (za (zaQ T.b_SIZES (by decide) rfl T.g_SIZES (zb 1 (pv 1)) (fun _ _ => rfl)) (za (zaQ T.b_SIZES (by decide) rfl T.g_SIZES (zb 1 (pv 1)) (fun _ _ => rfl)) zd))))))))))))
noncomputable def YO : SE → Ctl :=
  (zM (sIf (tOf (zo vL (zi 0) (eC (.str "cube")))) (yo (zo ixD (Y4 (zc (eC (.int 1)) (zc (eC (.int 2)) (zc (eC (.int 4)) (zc (eC (.int 8)) zr))))) (zi 1))) zO)
    (zM (sIf (tOf (zo vL (zi 0) (eC (.str "star")))) (yo (zo vq (zi 1) (eC (.int 1)))) zO)
    (zM (sIf (tOf (zo vL (zi 0) (eC (.str "tree")))) (yo (eFn za4 (zc (zi 1) zr))) zO)
    (yo (zi 1)))))
noncomputable def XB : List D → Option D := fnD 2 YO
theorem Vj (T : Txt K mg ad) : yD P w K mg base CX0 1 ad.f_places_of ad.e_places_of ["word", "size"] (@spD ⟨K⟩ 2 XB) := by
  letI : KK := ⟨K⟩
  refine ye (N := ["word", "size"]) (ps := ["word", "size"]) T.d_places_of.fn VC (g := YO) fun cdv A outer s H E hr => ?_
  unfold YO
  exact (zh (zU (zA (zV hr) zF (zu _) (zb 0 (pv 0)) (ve vf)) (zj (zm (zG (xD (za (zf zg) (za (zf zg) (za (zf zg) (za (zf zg) zd))))) (zb 1 (pv 1)) (fun _ _ => rfl)))) zw)
      (zh (zU (zA (zV hr) zF (zu _) (zb 0 (pv 0)) (ve vf)) (zj (zm (xa (zb 1 (pv 1)) (zf zg)))) zw)
      (zh (zU (zA (zV hr) zF (zu _) (zb 0 (pv 0)) (ve vf)) (zj (zm (zK zN wu rfl T.z_len vY (za (zb 1 (pv 1)) zd)))) zw)
      (zj (zm (zb 1 (pv 1)))))))
noncomputable def ZE : SE → Ctl :=
  (zM (sIf (tOf (zo vL (zi 0) (eC (.str "row")))) (yo (zo vL (zi 3) (zo vq (zi 2) (eC (.int 1))))) zO)
    (zM (sIf (tOf (zo vL (zi 0) (eC (.str "ring")))) (yo (eOr (zo vL (zi 3) (zo vq (zi 2) (eC (.int 1)))) (zbZ (zo vL (zi 2) (eC (.int 0))) (zo vL (zi 3) (zo V2 (zi 1) (eC (.int 1))))))) zO)
    (zM (sIf (tOf (zo vL (zi 0) (eC (.str "cube")))) (yo (zo inD (zo ziy (zi 2) (zi 3)) (Y4 (zc (eC (.int 1)) (zc (eC (.int 2)) (zc (eC (.int 4)) zr)))))) zO)
    (zM (sIf (tOf (zo vL (zi 0) (eC (.str "star")))) (yo (zo vL (zi 2) (eC (.int 0)))) zO)
    (zM (sIf (tOf (zo vL (zi 0) (eC (.str "tree")))) (yo (zo vL (zo ixD (zi 1) (zi 3)) (zi 2))) zO)
    (yo (eC (.bl true))))))))
noncomputable def Wb : List D → Option D := fnD 4 ZE
theorem zaE (T : Txt K mg ad) : yD P w K mg base CX0 1 ad.f_are_tied ad.e_are_tied ["word", "size", "one", "other"] (@spD ⟨K⟩ 4 Wb) := by
  letI : KK := ⟨K⟩
  refine ye (N := ["word", "size", "one", "other"]) (ps := ["word", "size", "one", "other"]) T.d_are_tied.fn zao (g := ZE) fun cdv A outer s H E hr => ?_
  unfold ZE
  exact (zh (zU (zA (zV hr) zF (zu _) (zb 0 (pv 0)) (ve vf)) (zj (zm (vb (zV hr) zF (zu _) (zb 3 (pv 3)) (xa (zb 2 (pv 2)) (zf zg))))) zw)
      (zh (zU (zA (zV hr) zF (zu _) (zb 0 (pv 0)) (ve vf)) (zj (zm (ziu (vb (zV hr) zF (zu _) (zb 3 (pv 3)) (xa (zb 2 (pv 2)) (zf zg))) (Zb (Y2 (vb (zV hr) zF (zu _) (zb 2 (pv 2)) (zf zg)) (Zb (vb (zV hr) zF (zu _) (zb 3 (pv 3)) (vO (zb 1 (pv 1)) (zf zg))))))))) zw)
      (zh (zU (zA (zV hr) zF (zu _) (zb 0 (pv 0)) (ve vf)) (zj (zm (vb (zex hr) zeP (by with_unfolding_all rfl) (zeA (zb 2 (pv 2)) (zb 3 (pv 3))) (xD (za (zf zg) (za (zf zg) (za (zf zg) zd))))))) zw)
      (zh (zU (zA (zV hr) zF (zu _) (zb 0 (pv 0)) (ve vf)) (zj (zm (vb (zV hr) zF (zu _) (zb 2 (pv 2)) (zf zg)))) zw)
      (zh (zU (zA (zV hr) zF (zu _) (zb 0 (pv 0)) (ve vf)) (zj (zm (vb (zV hr) zF (zu _) (zG (zb 1 (pv 1)) (zb 3 (pv 3)) (fun _ _ => rfl)) (zb 2 (pv 2))))) zw)
      (zj (zm (x6 xH))))))))
noncomputable def XG : SE → Ctl :=
  (zf6 4 (w8 (fLC (zeU zf4 (zc (zo vq (zi 5) (eC (.int 1))) (zc (zi 3) zr))) b1 (tOf (zx 4 Wb (zc (zi 2) (zc (zi 3) (zc (zi 6) (zc (zi 0) zr)))))) (Y4 (zc (zi 6) (zc (zi 0) zr))))))
noncomputable def XU : SE → Ctl :=
  (zM (sIf (wL (tOf (zx 1 XF (zc (zi 0) zr)))) sNo zO)
    (zM (wY false 1 (zo ixD (zi 0) (eC (.int 0))))
    (zM (wY false 2 (zo ixD (zi 0) (eC (.int 1))))
    (zM (wY false 3 (zx 2 XB (zc (zi 1) (zc (zi 2) zr))))
    (zM (zcm 4 (xn zr))
    (zM (zcj zdi (zc (zi 3) zr) (vK 5) XG)
    (sFz 4 (yo (Y4 (zc (zi 3) (zc (eFn ZH (zc (zi 4) zr)) zr)))))))))))
noncomputable def Xl : List D → Option D := fnD 6 XU
theorem Yi (T : Txt K mg ad) : yD P w K mg base CX0 6 ad.f_web_for ad.e_web_for ["kind"] (@spD ⟨K⟩ 1 Xl) := by
  letI : KK := ⟨K⟩
  have G_kind_good := Vn (P := P) (w := w) (base := base) T
  have G_places_of := Vj (P := P) (w := w) (base := base) T
  have G_are_tied := zaE (P := P) (w := w) (base := base) T
  refine ye (N := ["kind", "word", "size", "many", "ties", "one"]) (ps := ["kind"]) T.d_web_for.fn wj (g := XU) fun cdv A outer s H E hr => ?_
  unfold XU XG
  exact (zh (zU (xB (xw (zk (G_kind_good.mono (by decide)) hr rfl T.d_kind_good.at_ T.d_kind_good.kp T.d_kind_good.bd (za (zb 0 (pv 0)) zd)))) (zj vD) zw)
      (zh (zT (m := false) (i := 1) wj.nd rfl (Or.inr rfl) (zG (zb 0 (pv 0)) (zf zg) (fun _ _ => rfl)))
      (zh (zT (m := false) (i := 2) wj.nd rfl (Or.inr rfl) (zG (zb 0 (pv 0)) (zf zg) (fun _ _ => rfl)))
      (zh (zT (m := false) (i := 3) wj.nd rfl (Or.inl rfl) (zk (G_places_of.mono (by decide)) hr rfl T.d_places_of.at_ T.d_places_of.kp T.d_places_of.bd (za (zb 1 (pv 1)) (za (zb 2 (pv 2)) zd))))
      (zh (ZG (i := 4) wj.nd rfl (Or.inl rfl) (yU zd))
      (zh (zbg PassesOwn.never rfl rfl T.z_range (za (zb 3 (pv 3)) zd) (xc (zJ (i := 5) wj.nd rfl (Or.inr rfl))) (zj (zck (pv 4) (xF (zcP (L := ["other"]) (M := ["kind", "word", "size", "many", "ties", "one"]) rfl (YC (by rfl) (by rfl) (by rfl) (by with_unfolding_all rfl) (by rfl) (by rfl) (by kernel_rfl) (all_cons rfl (all_cons rfl (all_cons rfl wR)))) (XY rfl T.z_range (za (xa (zb 5 (pv 5)) (zf zg)) (za (zb 3 (pv 3)) zd))) gs1 rb1 (fun _ _ _ _ => (zJ (i := 0) zix rfl (Or.inl rfl) (.inr rfl))) (fun _ _ _ _ => (xw (zk (G_are_tied.mono (by decide)) hr rfl T.d_are_tied.at_ T.d_are_tied.kp T.d_are_tied.bd (za (zb 2 (pv 2)) (za (zb 3 (pv 3)) (za (zb 6 (pv 6)) (za (zb 0 (pv 0)) zd))))))) (fun _ _ _ _ => (xD (za (zb 6 (pv 6)) (za (zb 0 (pv 0)) zd)))))) (fun a b => WT PySem.F.plainAttrs_list PySem.F.slot_list_extend PySem.F.type_list_extend Xg a b))))
      (ZO 4 (zj (zm (xD (za (zb 3 (pv 3)) (za (xZ xy vZ rfl T.z_tuple xk (za (zb 4 (pv 4)) zd)) zd))))))))))))
noncomputable def wf : SE → Ctl :=
  (zM (Xn (zx 3 xl (zc (zi 0) (zc (eC (.int 0)) (zc (eC (.int 3)) zr)))))
    (yo (zx 1 Xl (zc (Y4 (zc (eC (.str "cube")) (zc (zi 0) zr))) zr))))
noncomputable def yg : List D → Option D := fnD 1 wf
theorem yc (T : Txt K mg ad) : yD P w K mg base CX0 7 ad.f_cube_of_digits ad.e_cube_of_digits ["d"] (@spD ⟨K⟩ 1 yg) := by
  letI : KK := ⟨K⟩
  have G_must_be_within := yt (P := P) (w := w) (base := base) T
  have X_must_be_within := yk (P := P) (w := w) (base := base) T
  have G_web_for := Yi (P := P) (w := w) (base := base) T
  refine ye (N := ["d"]) (ps := ["d"]) T.d_cube_of_digits.fn vj (g := wf) fun cdv A outer s H E hr => ?_
  unfold wf
  exact (zh (yB (zk (G_must_be_within.mono (by decide)) hr rfl T.d_must_be_within.at_ T.d_must_be_within.kp T.d_must_be_within.bd (za (zb 0 (pv 0)) (za (zf zg) (za (zf zg) zd)))))
      (zj (zm (zk (G_web_for.mono (by decide)) hr rfl T.d_web_for.at_ T.d_web_for.kp T.d_web_for.bd (za (xD (za (ve vf) (za (zb 0 (pv 0)) zd))) zd)))))
noncomputable def xR : SE → Option Nat :=
  (xEx (wG 3 xU (zc (zi 0) (zc (eC (.int 0)) (zc (eC (.int 3)) zr)))))
noncomputable def y1 : List D → Option Nat := fnX 1 xR
theorem zQ (T : Txt K mg ad) : yD P w K mg base (Air P w) 7 ad.f_cube_of_digits ad.e_cube_of_digits ["d"] (@spX ⟨K⟩ (clT ad) 1 y1) := by
  letI : KK := ⟨K⟩
  have G_must_be_within := yt (P := P) (w := w) (base := base) T
  have X_must_be_within := yk (P := P) (w := w) (base := base) T
  have G_web_for := Yi (P := P) (w := w) (base := base) T
  refine vh (cl := clT ad) (N := ["d"]) (ps := ["d"]) T.d_cube_of_digits.fn vj (gx := xR) fun cdv A outer s H E hr => ?_
  unfold xR
  exact (wB (ww (ym (X_must_be_within.mono (by decide)) zD hr rfl T.d_must_be_within.at_ T.d_must_be_within.kp T.d_must_be_within.bd (za (zb 0 (pv 0)) (za (zf zg) (za (zf zg) zd))))))
noncomputable def YI : SE → Ctl :=
  (yo (zo ixD (zx 1 yg (zc (zi 0) zr)) (eC (.int 0))))
noncomputable def XD : List D → Option D := fnD 1 YI
theorem ZR (T : Txt K mg ad) : yD P w K mg base CX0 8 ad.f_cube_need ad.e_cube_need ["d"] (@spD ⟨K⟩ 1 XD) := by
  letI : KK := ⟨K⟩
  have G_cube_of_digits := yc (P := P) (w := w) (base := base) T
  have X_cube_of_digits := zQ (P := P) (w := w) (base := base) T
  refine ye (N := ["d"]) (ps := ["d"]) T.d_cube_need.fn ZK (g := YI) fun cdv A outer s H E hr => ?_
  unfold YI
  exact (zj (zm (zG (zk (G_cube_of_digits.mono (by decide)) hr rfl T.d_cube_of_digits.at_ T.d_cube_of_digits.kp T.d_cube_of_digits.bd (za (zb 0 (pv 0)) zd)) (zf zg) (fun _ _ => rfl))))
noncomputable def vV : SE → Option Nat :=
  (xEx (wG 1 y1 (zc (zi 0) zr)))
noncomputable def ZP : List D → Option Nat := fnX 1 vV
theorem YV (T : Txt K mg ad) : yD P w K mg base (Air P w) 8 ad.f_cube_need ad.e_cube_need ["d"] (@spX ⟨K⟩ (clT ad) 1 ZP) := by
  letI : KK := ⟨K⟩
  have G_cube_of_digits := yc (P := P) (w := w) (base := base) T
  have X_cube_of_digits := zQ (P := P) (w := w) (base := base) T
  refine vh (cl := clT ad) (N := ["d"]) (ps := ["d"]) T.d_cube_need.fn ZK (gx := vV) fun cdv A outer s H E hr => ?_
  unfold vV
  exact (xb (XI (zhM (ym (X_cube_of_digits.mono (by decide)) zD hr rfl T.d_cube_of_digits.at_ T.d_cube_of_digits.kp T.d_cube_of_digits.bd (za (zb 0 (pv 0)) zd)) (zf zg) (fun _ _ => rfl))))
noncomputable def vM : SE → Ctl :=
  (zM (wY false 2 (zx 1 yg (zc (zi 0) zr)))
    (zM (Xn (zx 2 yA (zc (zi 2) (zc (zi 1) zr))))
    (zM (wY false 3 (zo V2 (zo ixD (zi 2) (eC (.int 0))) (eC (.int 1))))
    (yo (eFn ZH (zc (w8 (fLC (zeU zdi (zc (zo ixD (zi 2) (eC (.int 0))) zr)) b1 XT (eIf (tOf (zo vL (zi 0) (zo ziy (zi 4) (zi 2)))) (zi 4) (eC (.int 0))))) zr))))))
noncomputable def vP : List D → Option D := fnD 4 vM
theorem Zk (T : Txt K mg ad) : yD P w K mg base CX0 8 ad.f_cube_worst ad.e_cube_worst ["d", "place"] (@spD ⟨K⟩ 2 vP) := by
  letI : KK := ⟨K⟩
  have G_must_be_place := zS (P := P) (w := w) (base := base) T
  have X_must_be_place := zL (P := P) (w := w) (base := base) T
  have G_cube_of_digits := yc (P := P) (w := w) (base := base) T
  have X_cube_of_digits := zQ (P := P) (w := w) (base := base) T
  refine ye (N := ["d", "place", "web", "most"]) (ps := ["d", "place"]) T.d_cube_worst.fn y3 (g := vM) fun cdv A outer s H E hr => ?_
  unfold vM
  exact (zh (zT (m := false) (i := 2) y3.nd rfl (Or.inl rfl) (zk (G_cube_of_digits.mono (by decide)) hr rfl T.d_cube_of_digits.at_ T.d_cube_of_digits.kp T.d_cube_of_digits.bd (za (zb 0 (pv 0)) zd)))
      (zh (yB (zk (G_must_be_place.mono (by decide)) hr rfl T.d_must_be_place.at_ T.d_must_be_place.kp T.d_must_be_place.bd (za (zb 2 (pv 2)) (za (zb 1 (pv 1)) zd))))
      (zh (zT (m := false) (i := 3) y3.nd rfl (Or.inr rfl) (vO (zG (zb 2 (pv 2)) (zf zg) (fun _ _ => rfl)) (zf zg)))
      (zj (zm (xZ xy vZ rfl T.z_tuple xk (za (xF (Wc (L := ["other"]) (M := ["d", "place", "web", "most"]) rfl (YC (by rfl) (by rfl) (by rfl) (by with_unfolding_all rfl) (by rfl) (by rfl) (by kernel_rfl) (all_cons rfl (all_cons rfl wR))) (Vb rfl T.z_range (za (zG (zb 2 (pv 2)) (zf zg) (fun _ _ => rfl)) zd)) gs1 rb1 (fun _ _ _ _ => (zJ (i := 0) zik rfl (Or.inl rfl) (.inr rfl))) (fun _ _ _ _ => (zhP (zA (zV hr) zF (zu _) (zb 0 (pv 0)) (zeA (zb 4 (pv 4)) (zb 2 (pv 2)))) (zb 4 (pv 4)) (zf zg))))) zd)))))))
noncomputable def vm : SE → Option Nat :=
  (zbs (xEx (wG 1 y1 (zc (zi 0) zr))) (wY false 2 (zx 1 yg (zc (zi 0) zr)))
    (xEx (wG 2 xm (zc (zi 2) (zc (zi 1) zr)))))
noncomputable def Zh : List D → Option Nat := fnX 4 vm
theorem YE (T : Txt K mg ad) : yD P w K mg base (Air P w) 8 ad.f_cube_worst ad.e_cube_worst ["d", "place"] (@spX ⟨K⟩ (clT ad) 2 Zh) := by
  letI : KK := ⟨K⟩
  have G_must_be_place := zS (P := P) (w := w) (base := base) T
  have X_must_be_place := zL (P := P) (w := w) (base := base) T
  have G_cube_of_digits := yc (P := P) (w := w) (base := base) T
  have X_cube_of_digits := zQ (P := P) (w := w) (base := base) T
  refine vh (cl := clT ad) (N := ["d", "place", "web", "most"]) (ps := ["d", "place"]) T.d_cube_worst.fn y3 (gx := vm) fun cdv A outer s H E hr => ?_
  unfold vm
  exact (xC (zcK (i := 2) y3.nd rfl (Or.inl rfl) (ym (X_cube_of_digits.mono (by decide)) zD hr rfl T.d_cube_of_digits.at_ T.d_cube_of_digits.kp T.d_cube_of_digits.bd (za (zb 0 (pv 0)) zd))) (SD.nox (zT (m := false) (i := 2) y3.nd rfl (Or.inl rfl) (zk (G_cube_of_digits.mono (by decide)) hr rfl T.d_cube_of_digits.at_ T.d_cube_of_digits.kp T.d_cube_of_digits.bd (za (zb 0 (pv 0)) zd))))
      (wB (ww (ym (X_must_be_place.mono (by decide)) zD hr rfl T.d_must_be_place.at_ T.d_must_be_place.kp T.d_must_be_place.bd (za (zb 2 (pv 2)) (za (zb 1 (pv 1)) zd))))))
noncomputable def ZM : SE → Ctl :=
  (zfN true 2 (eFn zfm (zc (zi 3) (zc (zo V2 (zi 1) (eFn zgd (zc (zi 2) zr))) zr))))
noncomputable def Zu : SE → Ctl :=
  (zM (zcm 2 (xn zr))
    (zM (zaB (iOf (zi 0)) (vK 3) ZM)
    (sFz 2 (yo (eFn ZH (zc (zi 2) zr))))))
noncomputable def Wf : List D → Option D := fnD 4 Zu
theorem Xx (T : Txt K mg ad) : yD P w K mg base CX0 1 ad.f_lessened ad.e_lessened ["heap", "stones"] (@spD ⟨K⟩ 2 Wf) := by
  letI : KK := ⟨K⟩
  refine ye (N := ["heap", "stones", "taken", "many"]) (ps := ["heap", "stones"]) T.d_lessened.fn YK (g := Zu) fun cdv A outer s H E hr => ?_
  unfold Zu ZM
  exact (zh (ZG (i := 2) YK.nd rfl (Or.inl rfl) (yU zd))
      (zh (Yv PassesOwn.never rfl (Yz (zb 0 (pv 0))) (xc (zJ (i := 3) YK.nd rfl (Or.inl rfl))) (zj (zbc (m := true) (pv 2) (zK (VM rfl) zaU rfl T.z_min zes (za (zb 3 (pv 3)) (za (vO (zb 1 (pv 1)) (zK (vX rfl) Xj rfl T.z_sum Vf (za (zb 2 (pv 2)) zd))) zd))) (fun a b => WT PySem.F.plainAttrs_list PySem.F.slot_list_append PySem.F.type_list_append Y1 a b))))
      (ZO 2 (zj (zm (xZ xy vZ rfl T.z_tuple xk (za (zb 2 (pv 2)) zd)))))))
noncomputable def v4 : SE → Ctl :=
  (zM (wY false 3 (zx 1 yg (zc (zi 0) zr)))
    (zM (Xn (zx 2 yL (zc (zi 3) (zc (zi 1) zr))))
    (zM (Xn (zx 2 yA (zc (zi 3) (zc (zi 2) zr))))
    (zM (sIf (tOf (zo ltD (eFn zgd (zc (zi 1) zr)) (zo ixD (zi 3) (eC (.int 0))))) sNo zO)
    (zM (sIf (tOf (zo gtD (zo ixD (zi 1) (zi 2)) (eC (.int 0)))) (yo (w8 (xn zr))) zO)
    (yo (zx 4 zc6 (zc (zi 3) (zc (zx 2 Wf (zc (zi 1) (zc (zo ixD (zi 3) (eC (.int 0))) zr))) (zc (zi 2) (zc (eC (.int 1)) zr)))))))))))
noncomputable def vT : List D → Option D := fnD 4 v4
theorem Za (T : Txt K mg ad) : yD P w K mg base CX0 10 ad.f_cube_steps ad.e_cube_steps ["d", "heap", "place"] (@spD ⟨K⟩ 3 vT) := by
  letI : KK := ⟨K⟩
  have G_must_be_place := zS (P := P) (w := w) (base := base) T
  have X_must_be_place := zL (P := P) (w := w) (base := base) T
  have G_must_be_heap := yX (P := P) (w := w) (base := base) T
  have X_must_be_heap := yG (P := P) (w := w) (base := base) T
  have G_reach := zaN (P := P) (w := w) (base := base) T
  have G_cube_of_digits := yc (P := P) (w := w) (base := base) T
  have X_cube_of_digits := zQ (P := P) (w := w) (base := base) T
  have G_lessened := Xx (P := P) (w := w) (base := base) T
  refine ye (N := ["d", "heap", "place", "web"]) (ps := ["d", "heap", "place"]) T.d_cube_steps.fn xz (g := v4) fun cdv A outer s H E hr => ?_
  unfold v4
  exact (zh (zT (m := false) (i := 3) xz.nd rfl (Or.inl rfl) (zk (G_cube_of_digits.mono (by decide)) hr rfl T.d_cube_of_digits.at_ T.d_cube_of_digits.kp T.d_cube_of_digits.bd (za (zb 0 (pv 0)) zd)))
      (zh (yB (zk (G_must_be_heap.mono (by decide)) hr rfl T.d_must_be_heap.at_ T.d_must_be_heap.kp T.d_must_be_heap.bd (za (zb 3 (pv 3)) (za (zb 1 (pv 1)) zd))))
      (zh (yB (zk (G_must_be_place.mono (by decide)) hr rfl T.d_must_be_place.at_ T.d_must_be_place.kp T.d_must_be_place.bd (za (zb 3 (pv 3)) (za (zb 2 (pv 2)) zd))))
      (zh (zU (zA zcu zH (zu _) (zK (vX rfl) Xj rfl T.z_sum Vf (za (zb 1 (pv 1)) zd)) (zG (zb 3 (pv 3)) (zf zg) (fun _ _ => rfl))) (zj vD) zw)
      (zh (zU (zA Z5 zH (zu _) (zG (zb 1 (pv 1)) (zb 2 (pv 2)) (fun _ _ => rfl)) (zf zg)) (zj (zm (xF (yU zd)))) zw)
      (zj (zm (zk (G_reach.mono (by decide)) hr rfl T.d_reach.at_ T.d_reach.kp T.d_reach.bd (za (zb 3 (pv 3)) (za (zk (G_lessened.mono (by decide)) hr rfl T.d_lessened.at_ T.d_lessened.kp T.d_lessened.bd (za (zb 1 (pv 1)) (za (zG (zb 3 (pv 3)) (zf zg) (fun _ _ => rfl)) zd))) (za (zb 2 (pv 2)) (za (zf zg) zd))))))))))))
noncomputable def vk : SE → Option Nat :=
  (zbs (xEx (wG 1 y1 (zc (zi 0) zr))) (wY false 3 (zx 1 yg (zc (zi 0) zr)))
    (zbs (xEx (wG 2 wt (zc (zi 3) (zc (zi 1) zr)))) (Xn (zx 2 yL (zc (zi 3) (zc (zi 1) zr))))
    (zbs (xEx (wG 2 xm (zc (zi 3) (zc (zi 2) zr)))) (Xn (zx 2 yA (zc (zi 3) (zc (zi 2) zr))))
    (xIf (tOf (zo ltD (eFn zgd (zc (zi 1) zr)) (zo ixD (zi 3) (eC (.int 0))))) (VY 3) xNo))))
noncomputable def Y0 : List D → Option Nat := fnX 4 vk
theorem Yy (T : Txt K mg ad) : yD P w K mg base (Air P w) 10 ad.f_cube_steps ad.e_cube_steps ["d", "heap", "place"] (@spX ⟨K⟩ (clT ad) 3 Y0) := by
  letI : KK := ⟨K⟩
  have G_must_be_place := zS (P := P) (w := w) (base := base) T
  have X_must_be_place := zL (P := P) (w := w) (base := base) T
  have G_must_be_heap := yX (P := P) (w := w) (base := base) T
  have X_must_be_heap := yG (P := P) (w := w) (base := base) T
  have G_reach := zaN (P := P) (w := w) (base := base) T
  have G_cube_of_digits := yc (P := P) (w := w) (base := base) T
  have X_cube_of_digits := zQ (P := P) (w := w) (base := base) T
  have G_lessened := Xx (P := P) (w := w) (base := base) T
  refine vh (cl := clT ad) (N := ["d", "heap", "place", "web"]) (ps := ["d", "heap", "place"]) T.d_cube_steps.fn xz (gx := vk) fun cdv A outer s H E hr => ?_
  unfold vk
  exact (xC (zcK (i := 3) xz.nd rfl (Or.inl rfl) (ym (X_cube_of_digits.mono (by decide)) zD hr rfl T.d_cube_of_digits.at_ T.d_cube_of_digits.kp T.d_cube_of_digits.bd (za (zb 0 (pv 0)) zd))) (SD.nox (zT (m := false) (i := 3) xz.nd rfl (Or.inl rfl) (zk (G_cube_of_digits.mono (by decide)) hr rfl T.d_cube_of_digits.at_ T.d_cube_of_digits.kp T.d_cube_of_digits.bd (za (zb 0 (pv 0)) zd))))
      (xC (ww (ym (X_must_be_heap.mono (by decide)) zD hr rfl T.d_must_be_heap.at_ T.d_must_be_heap.kp T.d_must_be_heap.bd (za (zb 3 (pv 3)) (za (zb 1 (pv 1)) zd)))) (SD.nox (yB (zk (G_must_be_heap.mono (by decide)) hr rfl T.d_must_be_heap.at_ T.d_must_be_heap.kp T.d_must_be_heap.bd (za (zb 3 (pv 3)) (za (zb 1 (pv 1)) zd)))))
      (xC (ww (ym (X_must_be_place.mono (by decide)) zD hr rfl T.d_must_be_place.at_ T.d_must_be_place.kp T.d_must_be_place.bd (za (zb 3 (pv 3)) (za (zb 2 (pv 2)) zd)))) (SD.nox (yB (zk (G_must_be_place.mono (by decide)) hr rfl T.d_must_be_place.at_ T.d_must_be_place.kp T.d_must_be_place.bd (za (zb 3 (pv 3)) (za (zb 2 (pv 2)) zd)))))
      (wB (Wv (zA zcu zH (zu _) (zK (vX rfl) Xj rfl T.z_sum Vf (za (zb 1 (pv 1)) zd)) (zG (zb 3 (pv 3)) (zf zg) (fun _ _ => rfl))) (xb (Xa (cl := clT ad) (j := 3) ⟨T.g_NoNumber, T.c_NoNumber⟩ rfl)) xA)))))
noncomputable def x5 : SE → Ctl :=
  (zM (Xn (zx 3 xl (zc (zi 0) (zc (eC (.int 3)) (zc (eC (.int 8)) zr)))))
    (yo (zx 1 Xl (zc (Y4 (zc (eC (.str "ring")) (zc (zi 0) zr))) zr))))
noncomputable def wb : List D → Option D := fnD 1 x5
theorem vc (T : Txt K mg ad) : yD P w K mg base CX0 7 ad.f_ring_of_places ad.e_ring_of_places ["n"] (@spD ⟨K⟩ 1 wb) := by
  letI : KK := ⟨K⟩
  have G_must_be_within := yt (P := P) (w := w) (base := base) T
  have X_must_be_within := yk (P := P) (w := w) (base := base) T
  have G_web_for := Yi (P := P) (w := w) (base := base) T
  refine ye (N := ["n"]) (ps := ["n"]) T.d_ring_of_places.fn wT (g := x5) fun cdv A outer s H E hr => ?_
  unfold x5
  exact (zh (yB (zk (G_must_be_within.mono (by decide)) hr rfl T.d_must_be_within.at_ T.d_must_be_within.kp T.d_must_be_within.bd (za (zb 0 (pv 0)) (za (zf zg) (za (zf zg) zd)))))
      (zj (zm (zk (G_web_for.mono (by decide)) hr rfl T.d_web_for.at_ T.d_web_for.kp T.d_web_for.bd (za (xD (za (ve vf) (za (zb 0 (pv 0)) zd))) zd)))))
noncomputable def xQ : SE → Option Nat :=
  (xEx (wG 3 xU (zc (zi 0) (zc (eC (.int 3)) (zc (eC (.int 8)) zr)))))
noncomputable def wS : List D → Option Nat := fnX 1 xQ
theorem wH (T : Txt K mg ad) : yD P w K mg base (Air P w) 7 ad.f_ring_of_places ad.e_ring_of_places ["n"] (@spX ⟨K⟩ (clT ad) 1 wS) := by
  letI : KK := ⟨K⟩
  have G_must_be_within := yt (P := P) (w := w) (base := base) T
  have X_must_be_within := yk (P := P) (w := w) (base := base) T
  have G_web_for := Yi (P := P) (w := w) (base := base) T
  refine vh (cl := clT ad) (N := ["n"]) (ps := ["n"]) T.d_ring_of_places.fn wT (gx := xQ) fun cdv A outer s H E hr => ?_
  unfold xQ
  exact (wB (ww (ym (X_must_be_within.mono (by decide)) zD hr rfl T.d_must_be_within.at_ T.d_must_be_within.kp T.d_must_be_within.bd (za (zb 0 (pv 0)) (za (zf zg) (za (zf zg) zd))))))
noncomputable def wA : SE → Ctl :=
  (zM (wY false 3 (zx 1 wb (zc (zi 0) zr)))
    (zM (Xn (zx 2 yL (zc (zi 3) (zc (zi 1) zr))))
    (Xn (zx 2 yA (zc (zi 3) (zc (zi 2) zr))))))
noncomputable def xE : List D → Option D := fnD 4 wA
theorem yj (T : Txt K mg ad) : yD P w K mg base CX0 8 ad.f_must_fit_ring ad.e_must_fit_ring ["n", "heap", "place"] (@spD ⟨K⟩ 3 xE) := by
  letI : KK := ⟨K⟩
  have G_must_be_place := zS (P := P) (w := w) (base := base) T
  have X_must_be_place := zL (P := P) (w := w) (base := base) T
  have G_must_be_heap := yX (P := P) (w := w) (base := base) T
  have X_must_be_heap := yG (P := P) (w := w) (base := base) T
  have G_ring_of_places := vc (P := P) (w := w) (base := base) T
  have X_ring_of_places := wH (P := P) (w := w) (base := base) T
  refine ye (N := ["n", "heap", "place", "web"]) (ps := ["n", "heap", "place"]) T.d_must_fit_ring.fn yI (g := wA) fun cdv A outer s H E hr => ?_
  unfold wA
  exact (zh (zT (m := false) (i := 3) yI.nd rfl (Or.inl rfl) (zk (G_ring_of_places.mono (by decide)) hr rfl T.d_ring_of_places.at_ T.d_ring_of_places.kp T.d_ring_of_places.bd (za (zb 0 (pv 0)) zd)))
      (zh (yB (zk (G_must_be_heap.mono (by decide)) hr rfl T.d_must_be_heap.at_ T.d_must_be_heap.kp T.d_must_be_heap.bd (za (zb 3 (pv 3)) (za (zb 1 (pv 1)) zd))))
      (zj (yB (zk (G_must_be_place.mono (by decide)) hr rfl T.d_must_be_place.at_ T.d_must_be_place.kp T.d_must_be_place.bd (za (zb 3 (pv 3)) (za (zb 2 (pv 2)) zd)))))))
noncomputable def wd : SE → Option Nat :=
  (zbs (xEx (wG 1 wS (zc (zi 0) zr))) (wY false 3 (zx 1 wb (zc (zi 0) zr)))
    (zbs (xEx (wG 2 wt (zc (zi 3) (zc (zi 1) zr)))) (Xn (zx 2 yL (zc (zi 3) (zc (zi 1) zr))))
    (xEx (wG 2 xm (zc (zi 3) (zc (zi 2) zr))))))
noncomputable def xj : List D → Option Nat := fnX 4 wd
theorem zX (T : Txt K mg ad) : yD P w K mg base (Air P w) 8 ad.f_must_fit_ring ad.e_must_fit_ring ["n", "heap", "place"] (@spX ⟨K⟩ (clT ad) 3 xj) := by
  letI : KK := ⟨K⟩
  have G_must_be_place := zS (P := P) (w := w) (base := base) T
  have X_must_be_place := zL (P := P) (w := w) (base := base) T
  have G_must_be_heap := yX (P := P) (w := w) (base := base) T
  have X_must_be_heap := yG (P := P) (w := w) (base := base) T
  have G_ring_of_places := vc (P := P) (w := w) (base := base) T
  have X_ring_of_places := wH (P := P) (w := w) (base := base) T
  refine vh (cl := clT ad) (N := ["n", "heap", "place", "web"]) (ps := ["n", "heap", "place"]) T.d_must_fit_ring.fn yI (gx := wd) fun cdv A outer s H E hr => ?_
  unfold wd
  exact (xC (zcK (i := 3) yI.nd rfl (Or.inl rfl) (ym (X_ring_of_places.mono (by decide)) zD hr rfl T.d_ring_of_places.at_ T.d_ring_of_places.kp T.d_ring_of_places.bd (za (zb 0 (pv 0)) zd))) (SD.nox (zT (m := false) (i := 3) yI.nd rfl (Or.inl rfl) (zk (G_ring_of_places.mono (by decide)) hr rfl T.d_ring_of_places.at_ T.d_ring_of_places.kp T.d_ring_of_places.bd (za (zb 0 (pv 0)) zd))))
      (xC (ww (ym (X_must_be_heap.mono (by decide)) zD hr rfl T.d_must_be_heap.at_ T.d_must_be_heap.kp T.d_must_be_heap.bd (za (zb 3 (pv 3)) (za (zb 1 (pv 1)) zd)))) (SD.nox (yB (zk (G_must_be_heap.mono (by decide)) hr rfl T.d_must_be_heap.at_ T.d_must_be_heap.kp T.d_must_be_heap.bd (za (zb 3 (pv 3)) (za (zb 1 (pv 1)) zd)))))
      (xb (ww (ym (X_must_be_place.mono (by decide)) zD hr rfl T.d_must_be_place.at_ T.d_must_be_place.kp T.d_must_be_place.bd (za (zb 3 (pv 3)) (za (zb 2 (pv 2)) zd)))))))
noncomputable def wO : SE → Ctl :=
  (zM (wY false 2 (w8 (fLC (zeU zf4 (zc (eC (.int 1)) (zc (zi 0) zr))) b1 XT (zo ZT (zo vq (zi 2) (zi 0)) (zi 1)))))
    (yo (Y4 (zc (zi 2) (zc (w8 (zhN (zi 2))) zr)))))
noncomputable def xX : List D → Option D := fnD 3 wO
theorem yu (T : Txt K mg ad) : yD P w K mg base CX0 1 ad.f_sweep_orders ad.e_sweep_orders ["n", "place"] (@spD ⟨K⟩ 2 xX) := by
  letI : KK := ⟨K⟩
  refine ye (N := ["n", "place", "upwards"]) (ps := ["n", "place"]) T.d_sweep_orders.fn vU (g := wO) fun cdv A outer s H E hr => ?_
  unfold wO
  exact (zh (ze7 (m := false) (i := 2) (zfZ (L := ["at"]) (M := ["n", "place", "upwards"]) vU.nd rfl (Or.inl rfl) rfl (YC (by rfl) (by rfl) (by rfl) (by with_unfolding_all rfl) (by rfl) (by rfl) (by kernel_rfl) (all_cons rfl (all_cons rfl wR))) (XY rfl T.z_range (za (zf zg) (za (zb 0 (pv 0)) zd))) gs1 rb1 (fun _ _ _ _ => (zJ (i := 0) zih rfl (Or.inl rfl) (.inr rfl))) (fun _ _ _ _ => (wE (xa (zb 2 (pv 2)) (zb 0 (pv 0))) (zb 1 (pv 1))))))
      (zj (zm (xD (za (zb 2 (pv 2)) (za (xF (Wh rfl rfl T.z_list rfl T.z_reversed (zb 2 (pv 2)))) zd))))))
noncomputable def VJ : SE → Ctl :=
  (zM (wY false 3 (zo zaj (zo vq (zo ixD (zi 0) (zi 4)) (zi 3)) (eC (.int 2))))
    (zfN false 2 (zi 3)))
noncomputable def zaA : SE → Ctl :=
  (zM (zcm 2 (xn zr))
    (zM (wY false 3 (eC (.int 0)))
    (zM (zaB (iOf (zi 1)) (vK 4) VJ)
    (sFz 2 (yo (zi 2))))))
noncomputable def W9 : List D → Option D := fnD 5 zaA
theorem YY (T : Txt K mg ad) : yD P w K mg base CX0 1 ad.f_swept ad.e_swept ["heap", "order"] (@spD ⟨K⟩ 2 W9) := by
  letI : KK := ⟨K⟩
  refine ye (N := ["heap", "order", "carried", "ahead", "place"]) (ps := ["heap", "order"]) T.d_swept.fn Y6 (g := zaA) fun cdv A outer s H E hr => ?_
  unfold zaA VJ
  exact (zh (ZG (i := 2) Y6.nd rfl (Or.inl rfl) (yU zd))
      (zh (zT (m := false) (i := 3) Y6.nd rfl (Or.inl rfl) (zf zg))
      (zh (Yv PassesOwn.never rfl (Yz (zb 1 (pv 1))) (xc (zJ (i := 4) Y6.nd rfl (Or.inl rfl))) (zh (zT (m := false) (i := 3) Y6.nd rfl (Or.inl rfl) (zaC (xa (zG (zb 0 (pv 0)) (zb 4 (pv 4)) (fun _ _ => rfl)) (zb 3 (pv 3))) (zf zg)))
      (zj (zbc (m := false) (pv 2) (zb 3 (pv 3)) (fun a b => WT PySem.F.plainAttrs_list PySem.F.slot_list_append PySem.F.type_list_append Y1 a b)))))
      (ZO 2 (zj (zm (zb 2 (pv 2))))))))
noncomputable def W7 : SE → Ctl :=
  (zM (Xn (zx 3 xE (zc (zi 0) (zc (zi 1) (zc (zi 2) zr)))))
    (yo (eFn ZH (zc (w8 (fLC (iOf (zx 2 xX (zc (zi 0) (zc (zi 2) zr)))) b1 XT (zo ixD (zx 2 W9 (zc (zi 2) (zc (zi 0) zr))) (eUn zdk (eC (.int 1)))))) zr))))
noncomputable def Wx : List D → Option D := fnD 3 W7
theorem VB (T : Txt K mg ad) : yD P w K mg base CX0 9 ad.f_sweeps ad.e_sweeps ["n", "heap", "place"] (@spD ⟨K⟩ 3 Wx) := by
  letI : KK := ⟨K⟩
  have G_must_fit_ring := yj (P := P) (w := w) (base := base) T
  have X_must_fit_ring := zX (P := P) (w := w) (base := base) T
  have G_sweep_orders := yu (P := P) (w := w) (base := base) T
  have G_swept := YY (P := P) (w := w) (base := base) T
  refine ye (N := ["n", "heap", "place"]) (ps := ["n", "heap", "place"]) T.d_sweeps.fn Vd (g := W7) fun cdv A outer s H E hr => ?_
  unfold W7
  exact (zh (yB (zk (G_must_fit_ring.mono (by decide)) hr rfl T.d_must_fit_ring.at_ T.d_must_fit_ring.kp T.d_must_fit_ring.bd (za (zb 0 (pv 0)) (za (zb 1 (pv 1)) (za (zb 2 (pv 2)) zd)))))
      (zj (zm (xZ xy vZ rfl T.z_tuple xk (za (xF (Wc (L := ["order"]) (M := ["n", "heap", "place"]) rfl (YC (by rfl) (by rfl) (by rfl) (by with_unfolding_all rfl) (by rfl) (by rfl) (by kernel_rfl) (all_cons rfl wR)) (Yz (zk (G_sweep_orders.mono (by decide)) hr rfl T.d_sweep_orders.at_ T.d_sweep_orders.kp T.d_sweep_orders.bd (za (zb 0 (pv 0)) (za (zb 2 (pv 2)) zd)))) gs1 rb1 (fun _ _ _ _ => (zJ (i := 0) ziG rfl (Or.inl rfl) (.inr rfl))) (fun _ _ _ _ => (zG (zk (G_swept.mono (by decide)) hr rfl T.d_swept.at_ T.d_swept.kp T.d_swept.bd (za (zb 2 (pv 2)) (za (zb 0 (pv 0)) zd))) (Wp (zf zg)) (fun _ _ => rfl))))) zd)))))
noncomputable def XL : SE → Option Nat :=
  (xEx (wG 3 xj (zc (zi 0) (zc (zi 1) (zc (zi 2) zr)))))
noncomputable def Vr : List D → Option Nat := fnX 3 XL
theorem Ws (T : Txt K mg ad) : yD P w K mg base (Air P w) 9 ad.f_sweeps ad.e_sweeps ["n", "heap", "place"] (@spX ⟨K⟩ (clT ad) 3 Vr) := by
  letI : KK := ⟨K⟩
  have G_must_fit_ring := yj (P := P) (w := w) (base := base) T
  have X_must_fit_ring := zX (P := P) (w := w) (base := base) T
  have G_sweep_orders := yu (P := P) (w := w) (base := base) T
  have G_swept := YY (P := P) (w := w) (base := base) T
  refine vh (cl := clT ad) (N := ["n", "heap", "place"]) (ps := ["n", "heap", "place"]) T.d_sweeps.fn Vd (gx := XL) fun cdv A outer s H E hr => ?_
  unfold XL
  exact (wB (ww (ym (X_must_fit_ring.mono (by decide)) zD hr rfl T.d_must_fit_ring.at_ T.d_must_fit_ring.kp T.d_must_fit_ring.bd (za (zb 0 (pv 0)) (za (zb 1 (pv 1)) (za (zb 2 (pv 2)) zd))))))
noncomputable def Ya : SE → Ctl :=
  (zf6 3 (zo WS (w8 (xn (zc (Y4 (zc (zi 4) (zc (zi 5) zr))) zr))) (zi 6)))
noncomputable def vv : SE → Ctl :=
  (zM (zcm 3 (xn zr))
    (zM (zaB (zer (zc (zi 1) (zc (zo vq (eSl slD (zi 1) (Yo (eC (.int 1))) Xw) (w8 (xn (zc (zi 2) zr)))) (zc (zx 2 W9 (zc (zi 0) (zc (zi 1) zr))) zr)))) (zgb 3 (WU (vK 4) (WU (vK 5) (WU (vK 6) zgX)))) Ya)
    (sFz 3 (yo (zi 3)))))
noncomputable def Y7 : List D → Option D := fnD 7 vv
theorem Yw (T : Txt K mg ad) : yD P w K mg base CX0 2 ad.f_sweep_steps ad.e_sweep_steps ["heap", "order", "place"] (@spD ⟨K⟩ 3 Y7) := by
  letI : KK := ⟨K⟩
  have G_swept := YY (P := P) (w := w) (base := base) T
  refine ye (N := ["heap", "order", "place", "steps", "one", "other", "times"]) (ps := ["heap", "order", "place"]) T.d_sweep_steps.fn xf (g := vv) fun cdv A outer s H E hr => ?_
  unfold vv Ya
  exact (zh (ZG (i := 3) xf.nd rfl (Or.inl rfl) (yU zd))
      (zh (Yv PassesOwn.never rfl (zfb rfl T.z_zip (za (zb 1 (pv 1)) (za (xa (Yj (zb 1 (pv 1)) (YU (zf zg)) XO) (xF (yU (za (zb 2 (pv 2)) zd)))) (za (zk (G_swept.mono (by decide)) hr rfl T.d_swept.at_ T.d_swept.kp T.d_swept.bd (za (zb 0 (pv 0)) (za (zb 1 (pv 1)) zd))) zd)))) (zcz rfl (vo (xc (zJ (i := 4) xf.nd rfl (Or.inl rfl))) (vo (xc (zJ (i := 5) xf.nd rfl (Or.inl rfl))) (vo (xc (zJ (i := 6) xf.nd rfl (Or.inl rfl))) zaw)))) (zj (zck (pv 3) (XX (xF (yU (za (xD (za (zb 4 (pv 4)) (za (zb 5 (pv 5)) zd))) zd))) (zb 6 (pv 6))) (fun a b => WT PySem.F.plainAttrs_list PySem.F.slot_list_extend PySem.F.type_list_extend Xg a b))))
      (ZO 3 (zj (zm (zb 3 (pv 3)))))))
noncomputable def YD : SE → Ctl :=
  (sIf (tOf (zo gtD (zo ixD (zx 2 W9 (zc (zi 1) (zc (zi 3) zr))) (eUn zdk (eC (.int 1)))) (eC (.int 0)))) (yo (zx 3 Y7 (zc (zi 1) (zc (zi 3) (zc (zi 2) zr))))) zO)
noncomputable def v6 : SE → Ctl :=
  (zM (Xn (zx 3 xE (zc (zi 0) (zc (zi 1) (zc (zi 2) zr)))))
    (zM (sIf (tOf (zo gtD (zo ixD (zi 1) (zi 2)) (eC (.int 0)))) (yo (w8 (xn zr))) zO)
    (zM (zaB (iOf (zx 2 xX (zc (zi 0) (zc (zi 2) zr)))) (vK 3) YD)
    (yo (eC .non)))))
noncomputable def Yh : List D → Option D := fnD 4 v6
theorem Zg (T : Txt K mg ad) : yD P w K mg base CX0 9 ad.f_ring_steps ad.e_ring_steps ["n", "heap", "place"] (@spD ⟨K⟩ 3 Yh) := by
  letI : KK := ⟨K⟩
  have G_must_fit_ring := yj (P := P) (w := w) (base := base) T
  have X_must_fit_ring := zX (P := P) (w := w) (base := base) T
  have G_sweep_orders := yu (P := P) (w := w) (base := base) T
  have G_swept := YY (P := P) (w := w) (base := base) T
  have G_sweep_steps := Yw (P := P) (w := w) (base := base) T
  refine ye (N := ["n", "heap", "place", "order"]) (ps := ["n", "heap", "place"]) T.d_ring_steps.fn vn (g := v6) fun cdv A outer s H E hr => ?_
  unfold v6 YD
  exact (zh (yB (zk (G_must_fit_ring.mono (by decide)) hr rfl T.d_must_fit_ring.at_ T.d_must_fit_ring.kp T.d_must_fit_ring.bd (za (zb 0 (pv 0)) (za (zb 1 (pv 1)) (za (zb 2 (pv 2)) zd)))))
      (zh (zU (zA Z5 zH (zu _) (zG (zb 1 (pv 1)) (zb 2 (pv 2)) (fun _ _ => rfl)) (zf zg)) (zj (zm (xF (yU zd)))) zw)
      (zh (Yv PassesOwn.never rfl (Yz (zk (G_sweep_orders.mono (by decide)) hr rfl T.d_sweep_orders.at_ T.d_sweep_orders.kp T.d_sweep_orders.bd (za (zb 0 (pv 0)) (za (zb 2 (pv 2)) zd)))) (xc (zJ (i := 3) vn.nd rfl (Or.inl rfl))) (zj (zU (zA Z5 zH (zu _) (zG (zk (G_swept.mono (by decide)) hr rfl T.d_swept.at_ T.d_swept.kp T.d_swept.bd (za (zb 1 (pv 1)) (za (zb 3 (pv 3)) zd))) (Wp (zf zg)) (fun _ _ => rfl)) (zf zg)) (zj (zm (zk (G_sweep_steps.mono (by decide)) hr rfl T.d_sweep_steps.at_ T.d_sweep_steps.kp T.d_sweep_steps.bd (za (zb 1 (pv 1)) (za (zb 3 (pv 3)) (za (zb 2 (pv 2)) zd)))))) zw)))
      (zj (zm (wZ w6))))))
noncomputable def vx : SE → Option Nat :=
  (xEx (wG 3 xj (zc (zi 0) (zc (zi 1) (zc (zi 2) zr)))))
noncomputable def YZ : List D → Option Nat := fnX 4 vx
theorem YG (T : Txt K mg ad) : yD P w K mg base (Air P w) 9 ad.f_ring_steps ad.e_ring_steps ["n", "heap", "place"] (@spX ⟨K⟩ (clT ad) 3 YZ) := by
  letI : KK := ⟨K⟩
  have G_must_fit_ring := yj (P := P) (w := w) (base := base) T
  have X_must_fit_ring := zX (P := P) (w := w) (base := base) T
  have G_sweep_orders := yu (P := P) (w := w) (base := base) T
  have G_swept := YY (P := P) (w := w) (base := base) T
  have G_sweep_steps := Yw (P := P) (w := w) (base := base) T
  refine vh (cl := clT ad) (N := ["n", "heap", "place", "order"]) (ps := ["n", "heap", "place"]) T.d_ring_steps.fn vn (gx := vx) fun cdv A outer s H E hr => ?_
  unfold vx
  exact (wB (ww (ym (X_must_fit_ring.mono (by decide)) zD hr rfl T.d_must_fit_ring.at_ T.d_must_fit_ring.kp T.d_must_fit_ring.bd (za (zb 0 (pv 0)) (za (zb 1 (pv 1)) (za (zb 2 (pv 2)) zd))))))
noncomputable def vJ : SE → Ctl :=
  (zM (sIf (tOf (zo gtD (zo vq (zo ixD (zi 0) (zi 4)) (zi 3)) (zo vq (zo WS (eC (.int 2)) (zi 5)) (eC (.int 1))))) (yo (eC (.bl false))) zO)
    (wY false 3 (zi 5)))
noncomputable def wN : SE → Ctl :=
  (zM (sIf (zcd (wL (tOf (zx 2 Yb (zc (eFn za4 (zc (zi 1) zr)) (zc (zi 2) zr))))) (tOf (zo neD (zo ixD (zi 2) (eUn zdk (eC (.int 1)))) (eC (.int 0))))) (yo (eC (.bl false))) zO)
    (zM (wY false 3 (eC (.int 0)))
    (zM (zaB (zdy (zc (zi 1) (zc (zi 2) zr))) (zgb 2 (WU (vK 4) (WU (vK 5) zgX))) vJ)
    (yo (eC (.bl true))))))
noncomputable def Yt : List D → Option D := fnD 6 wN
theorem vS (T : Txt K mg ad) : yD P w K mg base CX0 3 ad.f_bounds_sweep ad.e_bounds_sweep ["heap", "order", "numbers"] (@spD ⟨K⟩ 3 Yt) := by
  letI : KK := ⟨K⟩
  have G_are_counts := Zj (P := P) (w := w) (base := base) T
  refine ye (N := ["heap", "order", "numbers", "ahead", "place", "number"]) (ps := ["heap", "order", "numbers"]) T.d_bounds_sweep.fn yW (g := wN) fun cdv A outer s H E hr => ?_
  unfold wN vJ
  exact (zh (zU (zbI (WV (xB (xw (zk (G_are_counts.mono (by decide)) hr rfl T.d_are_counts.at_ T.d_are_counts.kp T.d_are_counts.bd (za (zK zN wu rfl T.z_len vY (za (zb 1 (pv 1)) zd)) (za (zb 2 (pv 2)) zd))))) (ZI (zA Z1 Ye (zu _) (zG (zb 2 (pv 2)) (Wp (zf zg)) (fun _ _ => rfl)) (zf zg))))) (zj (zm (x6 xH))) zw)
      (zh (zT (m := false) (i := 3) yW.nd rfl (Or.inl rfl) (zf zg))
      (zh (Yv PassesOwn.never rfl (zeI rfl T.z_zip (za (zb 1 (pv 1)) (za (zb 2 (pv 2)) zd))) (zcz rfl (vo (xc (zJ (i := 4) yW.nd rfl (Or.inl rfl))) (vo (xc (zJ (i := 5) yW.nd rfl (Or.inl rfl))) zaw))) (zh (zU (zA Z5 zH (zu _) (xa (zG (zb 0 (pv 0)) (zb 4 (pv 4)) (fun _ _ => rfl)) (zb 3 (pv 3))) (xa (XX (zf zg) (zb 5 (pv 5))) (zf zg))) (zj (zm (x6 xH))) zw)
      (zj (zT (m := false) (i := 3) yW.nd rfl (Or.inl rfl) (zb 5 (pv 5))))))
      (zj (zm (x6 xH))))))
noncomputable def vA : SE → Ctl :=
  (zM (Xn (zx 3 xE (zc (zi 0) (zc (zi 1) (zc (zi 2) zr)))))
    (zM (sIf (zcd (wL (tOf (eUn (Z0 .tuple) (zi 3)))) (zcd (tOf (zo neD (eFn za4 (zc (zi 3) zr)) (eC (.int 2)))) (tOf (zo gtD (zo ixD (zi 1) (zi 2)) (eC (.int 0)))))) (yo (eC (.bl false))) zO)
    (yo (eFn zhI (zc (w8 (fLC (zdy (zc (zx 2 xX (zc (zi 0) (zc (zi 2) zr))) (zc (zi 3) zr))) b2 XT (zx 3 Yt (zc (zi 3) (zc (zi 0) (zc (zi 1) zr)))))) zr)))))
noncomputable def vw : List D → Option D := fnD 4 vA
theorem YB (T : Txt K mg ad) : yD P w K mg base CX0 9 ad.f_sweep_holds ad.e_sweep_holds ["n", "heap", "place", "thing"] (@spD ⟨K⟩ 4 vw) := by
  letI : KK := ⟨K⟩
  have G_must_fit_ring := yj (P := P) (w := w) (base := base) T
  have X_must_fit_ring := zX (P := P) (w := w) (base := base) T
  have G_sweep_orders := yu (P := P) (w := w) (base := base) T
  have G_bounds_sweep := vS (P := P) (w := w) (base := base) T
  refine ye (N := ["n", "heap", "place", "thing"]) (ps := ["n", "heap", "place", "thing"]) T.d_sweep_holds.fn YH (g := vA) fun cdv A outer s H E hr => ?_
  unfold vA
  exact (zh (yB (zk (G_must_fit_ring.mono (by decide)) hr rfl T.d_must_fit_ring.at_ T.d_must_fit_ring.kp T.d_must_fit_ring.bd (za (zb 0 (pv 0)) (za (zb 1 (pv 1)) (za (zb 2 (pv 2)) zd)))))
      (zh (zU (zbI (WV (xB (xw (xi .tuple rfl T.z_isinstance (zb 3 (pv 3)) (wq (v := .ty "tuple") rfl T.z_tuple xk rfl)))) (WV (zA Z1 Ye (zu _) (zK zN wu rfl T.z_len vY (za (zb 3 (pv 3)) zd)) (zf zg)) (ZI (zA Z5 zH (zu _) (zG (zb 1 (pv 1)) (zb 2 (pv 2)) (fun _ _ => rfl)) (zf zg)))))) (zj (zm (x6 xH))) zw)
      (zj (zm (zK (XH rfl) V7 rfl T.z_all zbK (za (xF (Wc (L := ["order", "numbers"]) (M := ["n", "heap", "place", "thing"]) rfl (YC (by rfl) (by rfl) (by rfl) (by with_unfolding_all rfl) (by rfl) (by rfl) (by kernel_rfl) (all_cons rfl wR)) (zeI rfl T.z_zip (za (zk (G_sweep_orders.mono (by decide)) hr rfl T.d_sweep_orders.at_ T.d_sweep_orders.kp T.d_sweep_orders.bd (za (zb 0 (pv 0)) (za (zb 2 (pv 2)) zd))) (za (zb 3 (pv 3)) zd))) gs2 rb2 (fun _ _ _ _ => (zeK rfl (WY (zJ (i := 0) zgR rfl (Or.inl rfl) (.inr rfl)) (WY (zJ (i := 1) zgR rfl (Or.inl rfl) (.inr rfl)) zbQ)))) (fun _ _ _ _ => (zk (G_bounds_sweep.mono (by decide)) hr rfl T.d_bounds_sweep.at_ T.d_bounds_sweep.kp T.d_bounds_sweep.bd (za (zb 3 (pv 3)) (za (zb 0 (pv 0)) (za (zb 1 (pv 1)) zd))))))) zd))))))
noncomputable def wQ : SE → Option Nat :=
  (xEx (wG 3 xj (zc (zi 0) (zc (zi 1) (zc (zi 2) zr)))))
noncomputable def Yu : List D → Option Nat := fnX 4 wQ
theorem vW (T : Txt K mg ad) : yD P w K mg base (Air P w) 9 ad.f_sweep_holds ad.e_sweep_holds ["n", "heap", "place", "thing"] (@spX ⟨K⟩ (clT ad) 4 Yu) := by
  letI : KK := ⟨K⟩
  have G_must_fit_ring := yj (P := P) (w := w) (base := base) T
  have X_must_fit_ring := zX (P := P) (w := w) (base := base) T
  have G_sweep_orders := yu (P := P) (w := w) (base := base) T
  have G_bounds_sweep := vS (P := P) (w := w) (base := base) T
  refine vh (cl := clT ad) (N := ["n", "heap", "place", "thing"]) (ps := ["n", "heap", "place", "thing"]) T.d_sweep_holds.fn YH (gx := wQ) fun cdv A outer s H E hr => ?_
  unfold wQ
  exact (wB (ww (ym (X_must_fit_ring.mono (by decide)) zD hr rfl T.d_must_fit_ring.at_ T.d_must_fit_ring.kp T.d_must_fit_ring.bd (za (zb 0 (pv 0)) (za (zb 1 (pv 1)) (za (zb 2 (pv 2)) zd))))))
theorem Wy : bootBuiltins "ValueError" = some (.type "ValueError") := by decide +kernel
theorem zeo {n : Nat} (h : n ≤ 13) : n ≤ sizeLine := by rw [sizeLine_eq]; omega
theorem X6 (T : Txt K mg ad) : zcy P w K mg base 1 ad.f__law_kinds ad.e__law_kinds ["e"] (zc4 (clT ad) (fun j => j < 13 ∧ zbj K (zge ad) ad.x_StoneError (clT ad j) j)) := by
  letI : KK := ⟨K⟩
  refine zfD (N := ["e", "found"]) (ps := ["e"]) T.d__law_kinds.fn xx (fun vs H Q E h => by obtain ⟨a, j, rfl, _⟩ := h; rfl) fun cdv A outer s H vs Q E ev hr hsp => ?_
  obtain ⟨a, j, rfl, hH, ⟨hj, kj⟩, q⟩ := hsp
  refine ⟨_, (wI (ZZ (i := 1) xx.nd rfl (Or.inl rfl) (Vi (zy (yp yQ rfl T.z_isinstance zC (zy (pv 0) (zy (yP (v := .ref ad.x_NoKind) rfl T.g_NoKind rfl) yH))) (zy (yp yQ rfl T.z_isinstance zC (zy (pv 0) (zy (yP (v := .ref ad.x_NoHeap) rfl T.g_NoHeap rfl) yH))) (zy (yp yQ rfl T.z_isinstance zC (zy (pv 0) (zy (yP (v := .ref ad.x_NoPlace) rfl T.g_NoPlace rfl) yH))) (zy (yp yQ rfl T.z_isinstance zC (zy (pv 0) (zy (yP (v := .ref ad.x_NoNumber) rfl T.g_NoNumber rfl) yH))) yH))))))
      (wI (ZZ (i := 1) xx.nd rfl (Or.inl rfl) (zed za8 (pv 1) (Vi (zy (yp yQ rfl T.z_isinstance zC (zy (pv 0) (zy (yP (v := .ref ad.x_NoTally) rfl T.g_NoTally rfl) yH))) (zy (yp yQ rfl T.z_isinstance zC (zy (pv 0) (zy (yP (v := .ref ad.x_NotTree) rfl T.g_NotTree rfl) yH))) (zy (yp yQ rfl T.z_isinstance zC (zy (pv 0) (zy (yP (v := .ref ad.x_NotJoined) rfl T.g_NotJoined rfl) yH))) (zy (yp yQ rfl T.z_isinstance zC (zy (pv 0) (zy (yP (v := .ref ad.x_NoWeights) rfl T.g_NoWeights rfl) yH))) yH)))))))
      (wI (ZZ (i := 1) xx.nd rfl (Or.inl rfl) (zed za8 (pv 1) (Vi (zy (yp yQ rfl T.z_isinstance zC (zy (pv 0) (zy (yP (v := .ref ad.x_NoRow) rfl T.g_NoRow rfl) yH))) (zy (yp yQ rfl T.z_isinstance zC (zy (pv 0) (zy (yP (v := .ref ad.x_NoWeb) rfl T.g_NoWeb rfl) yH))) (zy (yp yQ rfl T.z_isinstance zC (zy (pv 0) (zy (yP (v := .ref ad.x_NoSteps) rfl T.g_NoSteps rfl) yH))) (zy (yp yQ rfl T.z_isinstance zC (zy (pv 0) (zy (yP (v := .ref ad.x_NoText) rfl T.g_NoText rfl) yH))) yH)))))))
      (wI (ZZ (i := 1) xx.nd rfl (Or.inl rfl) (zed za8 (pv 1) (Vi (zy (yp yQ rfl T.z_isinstance zC (zy (pv 0) (zy (yP (v := .ref ad.x_TooGreat) rfl T.g_TooGreat rfl) yH))) yH))))
      (wI (zf2 (PW.pt (zgF (zeQ (zeM (yp yQ rfl T.z_isinstance zC (zy (pv 0) (zy (wq (v := .ty "ValueError") rfl T.z_ValueError Wy rfl) yH))))) (zeH (zbT Z1 (WT PySem.F.plainAttrs_list PySem.F.slot_list_count PySem.F.type_list_count zcZ (pv 1) (zy xH yH)) zg (zu _))))) (Xp (Vm (zgs zeG zg))) zbS) (Xp (Vm (WT PySem.F.plainAttrs_list PySem.F.slot_list_index PySem.F.type_list_index zcc (pv 1) (zy xH yH))))))))), ?_⟩
  refine zcT (cs := [ad.x_NoKind, ad.x_NoHeap, ad.x_NoPlace, ad.x_NoNumber]) (bs := [0 == j, 1 == j, 2 == j, 3 == j]) kj.look (congrArg (fun l => (l.drop 0).take 4) kj.hot) (zeo (n := 4) (by decide)) rfl rfl hH fun σ1 H1 S1 => ?_
  refine WN (cs := [ad.x_NoTally, ad.x_NotTree, ad.x_NotJoined, ad.x_NoWeights]) (bs := [4 == j, 5 == j, 6 == j, 7 == j]) kj.look (congrArg (fun l => (l.drop 4).take 4) kj.hot) (by exact zeo (n := 8) (by decide)) S1 fun σ2 H2 S2 => ?_
  refine WN (cs := [ad.x_NoRow, ad.x_NoWeb, ad.x_NoSteps, ad.x_NoText]) (bs := [8 == j, 9 == j, 10 == j, 11 == j]) kj.look (congrArg (fun l => (l.drop 8).take 4) kj.hot) (by exact zeo (n := 12) (by decide)) S2 fun σ3 H3 S3 => ?_
  refine WN (cs := [ad.x_TooGreat]) (bs := [12 == j]) kj.look (congrArg (fun l => (l.drop 12).take 1) kj.hot) (by exact zeo (n := 13) (by decide)) S3 fun σ4 H4 S4 => ?_
  exact zfv kj.val kj.look hj S4 (q _ S4.same)
noncomputable def Zr : SE → Ctl :=
  (zM (sIf (tOf (zo vL (zi 0) (eC (.int 0)))) (yo (zx 3 Wx (zc (zi 1) (zc (zi 2) (zc (zi 3) zr))))) zO)
    (zM (sIf (tOf (zo vL (zi 0) (eC (.int 1)))) (yo (zx 3 Yh (zc (zi 1) (zc (zi 2) (zc (zi 3) zr))))) zO)
    (zM (sIf (tOf (zo vL (zi 0) (eC (.int 2)))) (yo (zx 4 vw (zc (zi 1) (zc (zi 2) (zc (zi 3) (zc (eC .non) zr)))))) zO)
    (zM (sIf (tOf (zo vL (zi 0) (eC (.int 3)))) (yo (zx 3 vT (zc (zi 1) (zc (zi 2) (zc (zi 3) zr))))) zO)
    (zM (sIf (tOf (zo vL (zi 0) (eC (.int 4)))) (yo (zx 2 vP (zc (zi 1) (zc (zi 3) zr)))) zO)
    (yo (zx 1 XD (zc (zi 1) zr))))))))
noncomputable def Wt : List D → Option D := fnD 4 Zr
theorem zar (T : Txt K mg ad) : yD P w K mg base CX0 11 ad.f__law_ask ad.e__law_ask ["way", "number", "heap", "place"] (@spD ⟨K⟩ 4 Wt) := by
  letI : KK := ⟨K⟩
  have G_cube_need := ZR (P := P) (w := w) (base := base) T
  have X_cube_need := YV (P := P) (w := w) (base := base) T
  have G_cube_worst := Zk (P := P) (w := w) (base := base) T
  have X_cube_worst := YE (P := P) (w := w) (base := base) T
  have G_cube_steps := Za (P := P) (w := w) (base := base) T
  have X_cube_steps := Yy (P := P) (w := w) (base := base) T
  have G_sweeps := VB (P := P) (w := w) (base := base) T
  have X_sweeps := Ws (P := P) (w := w) (base := base) T
  have G_ring_steps := Zg (P := P) (w := w) (base := base) T
  have X_ring_steps := YG (P := P) (w := w) (base := base) T
  have G_sweep_holds := YB (P := P) (w := w) (base := base) T
  have X_sweep_holds := vW (P := P) (w := w) (base := base) T
  refine ye (N := ["way", "number", "heap", "place"]) (ps := ["way", "number", "heap", "place"]) T.d__law_ask.fn XV (g := Zr) fun cdv A outer s H E hr => ?_
  unfold Zr
  exact (zh (zU (zA (zV hr) zF (zu _) (zb 0 (pv 0)) (zf zg)) (zj (zm (zk (G_sweeps.mono (by decide)) hr rfl T.d_sweeps.at_ T.d_sweeps.kp T.d_sweeps.bd (za (zb 1 (pv 1)) (za (zb 2 (pv 2)) (za (zb 3 (pv 3)) zd)))))) zw)
      (zh (zU (zA (zV hr) zF (zu _) (zb 0 (pv 0)) (zf zg)) (zj (zm (zk (G_ring_steps.mono (by decide)) hr rfl T.d_ring_steps.at_ T.d_ring_steps.kp T.d_ring_steps.bd (za (zb 1 (pv 1)) (za (zb 2 (pv 2)) (za (zb 3 (pv 3)) zd)))))) zw)
      (zh (zU (zA (zV hr) zF (zu _) (zb 0 (pv 0)) (zf zg)) (zj (zm (zk (G_sweep_holds.mono (by decide)) hr rfl T.d_sweep_holds.at_ T.d_sweep_holds.kp T.d_sweep_holds.bd (za (zb 1 (pv 1)) (za (zb 2 (pv 2)) (za (zb 3 (pv 3)) (za (wZ w6) zd))))))) zw)
      (zh (zU (zA (zV hr) zF (zu _) (zb 0 (pv 0)) (zf zg)) (zj (zm (zk (G_cube_steps.mono (by decide)) hr rfl T.d_cube_steps.at_ T.d_cube_steps.kp T.d_cube_steps.bd (za (zb 1 (pv 1)) (za (zb 2 (pv 2)) (za (zb 3 (pv 3)) zd)))))) zw)
      (zh (zU (zA (zV hr) zF (zu _) (zb 0 (pv 0)) (zf zg)) (zj (zm (zk (G_cube_worst.mono (by decide)) hr rfl T.d_cube_worst.at_ T.d_cube_worst.kp T.d_cube_worst.bd (za (zb 1 (pv 1)) (za (zb 3 (pv 3)) zd))))) zw)
      (zj (zm (zk (G_cube_need.mono (by decide)) hr rfl T.d_cube_need.at_ T.d_cube_need.kp T.d_cube_need.bd (za (zb 1 (pv 1)) zd)))))))))
noncomputable def YT : SE → Option Nat :=
  (zbs (xIf (tOf (zo vL (zi 0) (eC (.int 0)))) (xEx (wG 3 Vr (zc (zi 1) (zc (zi 2) (zc (zi 3) zr))))) xNo) (sIf (tOf (zo vL (zi 0) (eC (.int 0)))) (yo (zx 3 Wx (zc (zi 1) (zc (zi 2) (zc (zi 3) zr))))) zO)
    (zbs (xIf (tOf (zo vL (zi 0) (eC (.int 1)))) (xEx (wG 3 YZ (zc (zi 1) (zc (zi 2) (zc (zi 3) zr))))) xNo) (sIf (tOf (zo vL (zi 0) (eC (.int 1)))) (yo (zx 3 Yh (zc (zi 1) (zc (zi 2) (zc (zi 3) zr))))) zO)
    (zbs (xIf (tOf (zo vL (zi 0) (eC (.int 2)))) (xEx (wG 4 Yu (zc (zi 1) (zc (zi 2) (zc (zi 3) (zc (eC .non) zr)))))) xNo) (sIf (tOf (zo vL (zi 0) (eC (.int 2)))) (yo (zx 4 vw (zc (zi 1) (zc (zi 2) (zc (zi 3) (zc (eC .non) zr)))))) zO)
    (zbs (xIf (tOf (zo vL (zi 0) (eC (.int 3)))) (xEx (wG 3 Y0 (zc (zi 1) (zc (zi 2) (zc (zi 3) zr))))) xNo) (sIf (tOf (zo vL (zi 0) (eC (.int 3)))) (yo (zx 3 vT (zc (zi 1) (zc (zi 2) (zc (zi 3) zr))))) zO)
    (zbs (xIf (tOf (zo vL (zi 0) (eC (.int 4)))) (xEx (wG 2 Zh (zc (zi 1) (zc (zi 3) zr)))) xNo) (sIf (tOf (zo vL (zi 0) (eC (.int 4)))) (yo (zx 2 vP (zc (zi 1) (zc (zi 3) zr)))) zO)
    (xEx (wG 1 ZP (zc (zi 1) zr))))))))
noncomputable def Xc : List D → Option Nat := fnX 4 YT
theorem Vs (T : Txt K mg ad) : yD P w K mg base (Air P w) 11 ad.f__law_ask ad.e__law_ask ["way", "number", "heap", "place"] (@spX ⟨K⟩ (clT ad) 4 Xc) := by
  letI : KK := ⟨K⟩
  have G_cube_need := ZR (P := P) (w := w) (base := base) T
  have X_cube_need := YV (P := P) (w := w) (base := base) T
  have G_cube_worst := Zk (P := P) (w := w) (base := base) T
  have X_cube_worst := YE (P := P) (w := w) (base := base) T
  have G_cube_steps := Za (P := P) (w := w) (base := base) T
  have X_cube_steps := Yy (P := P) (w := w) (base := base) T
  have G_sweeps := VB (P := P) (w := w) (base := base) T
  have X_sweeps := Ws (P := P) (w := w) (base := base) T
  have G_ring_steps := Zg (P := P) (w := w) (base := base) T
  have X_ring_steps := YG (P := P) (w := w) (base := base) T
  have G_sweep_holds := YB (P := P) (w := w) (base := base) T
  have X_sweep_holds := vW (P := P) (w := w) (base := base) T
  refine vh (cl := clT ad) (N := ["way", "number", "heap", "place"]) (ps := ["way", "number", "heap", "place"]) T.d__law_ask.fn XV (gx := YT) fun cdv A outer s H E hr => ?_
  unfold YT
  exact (xC (Wv (zA (zV hr) zF (zu _) (zb 0 (pv 0)) (zf zg)) (xb (XI (ym (X_sweeps.mono (by decide)) zD hr rfl T.d_sweeps.at_ T.d_sweeps.kp T.d_sweeps.bd (za (zb 1 (pv 1)) (za (zb 2 (pv 2)) (za (zb 3 (pv 3)) zd)))))) xA) (SD.nox (zU (zA (zV hr) zF (zu _) (zb 0 (pv 0)) (zf zg)) (zj (zm (zk (G_sweeps.mono (by decide)) hr rfl T.d_sweeps.at_ T.d_sweeps.kp T.d_sweeps.bd (za (zb 1 (pv 1)) (za (zb 2 (pv 2)) (za (zb 3 (pv 3)) zd)))))) zw))
      (xC (Wv (zA (zV hr) zF (zu _) (zb 0 (pv 0)) (zf zg)) (xb (XI (ym (X_ring_steps.mono (by decide)) zD hr rfl T.d_ring_steps.at_ T.d_ring_steps.kp T.d_ring_steps.bd (za (zb 1 (pv 1)) (za (zb 2 (pv 2)) (za (zb 3 (pv 3)) zd)))))) xA) (SD.nox (zU (zA (zV hr) zF (zu _) (zb 0 (pv 0)) (zf zg)) (zj (zm (zk (G_ring_steps.mono (by decide)) hr rfl T.d_ring_steps.at_ T.d_ring_steps.kp T.d_ring_steps.bd (za (zb 1 (pv 1)) (za (zb 2 (pv 2)) (za (zb 3 (pv 3)) zd)))))) zw))
      (xC (Wv (zA (zV hr) zF (zu _) (zb 0 (pv 0)) (zf zg)) (xb (XI (ym (X_sweep_holds.mono (by decide)) zD hr rfl T.d_sweep_holds.at_ T.d_sweep_holds.kp T.d_sweep_holds.bd (za (zb 1 (pv 1)) (za (zb 2 (pv 2)) (za (zb 3 (pv 3)) (za (wZ w6) zd))))))) xA) (SD.nox (zU (zA (zV hr) zF (zu _) (zb 0 (pv 0)) (zf zg)) (zj (zm (zk (G_sweep_holds.mono (by decide)) hr rfl T.d_sweep_holds.at_ T.d_sweep_holds.kp T.d_sweep_holds.bd (za (zb 1 (pv 1)) (za (zb 2 (pv 2)) (za (zb 3 (pv 3)) (za (wZ w6) zd))))))) zw))
      (xC (Wv (zA (zV hr) zF (zu _) (zb 0 (pv 0)) (zf zg)) (xb (XI (ym (X_cube_steps.mono (by decide)) zD hr rfl T.d_cube_steps.at_ T.d_cube_steps.kp T.d_cube_steps.bd (za (zb 1 (pv 1)) (za (zb 2 (pv 2)) (za (zb 3 (pv 3)) zd)))))) xA) (SD.nox (zU (zA (zV hr) zF (zu _) (zb 0 (pv 0)) (zf zg)) (zj (zm (zk (G_cube_steps.mono (by decide)) hr rfl T.d_cube_steps.at_ T.d_cube_steps.kp T.d_cube_steps.bd (za (zb 1 (pv 1)) (za (zb 2 (pv 2)) (za (zb 3 (pv 3)) zd)))))) zw))
      (xC (Wv (zA (zV hr) zF (zu _) (zb 0 (pv 0)) (zf zg)) (xb (XI (ym (X_cube_worst.mono (by decide)) zD hr rfl T.d_cube_worst.at_ T.d_cube_worst.kp T.d_cube_worst.bd (za (zb 1 (pv 1)) (za (zb 3 (pv 3)) zd))))) xA) (SD.nox (zU (zA (zV hr) zF (zu _) (zb 0 (pv 0)) (zf zg)) (zj (zm (zk (G_cube_worst.mono (by decide)) hr rfl T.d_cube_worst.at_ T.d_cube_worst.kp T.d_cube_worst.bd (za (zb 1 (pv 1)) (za (zb 3 (pv 3)) zd))))) zw))
      (xb (XI (ym (X_cube_need.mono (by decide)) zD hr rfl T.d_cube_need.at_ T.d_cube_need.kp T.d_cube_need.bd (za (zb 1 (pv 1)) zd)))))))))
noncomputable def YJ : SE → Ctl :=
  (zM (zio (xEx (wG 4 Xc (zc (zi 0) (zc (zi 1) (zc (zi 2) (zc (zi 3) zr)))))) (Xn (zx 4 Wt (zc (zi 0) (zc (zi 1) (zc (zi 2) (zc (zi 3) zr)))))) (hIn [1, 2, 3]))
    (yo (eC .non)))
noncomputable def xo : List D → Option D := fnD 5 YJ
theorem Vh (T : Txt K mg ad) : yD P w K mg base CX0 12 ad.f__law_came ad.e__law_came ["way", "number", "heap", "place"] (@spD ⟨K⟩ 4 xo) := by
  letI : KK := ⟨K⟩
  have H_kinds := X6 (P := P) (w := w) (base := base) T
  have okj : ∀ j, j ∈ [1, 2, 3] → j < 13 ∧ zbj K (zge ad) ad.x_StoneError (clT ad j) j := by
    intro j hj
    simp only [List.mem_cons, List.not_mem_nil, or_false] at hj
    rcases hj with rfl | rfl | rfl
    · exact ⟨by decide, .of T.y_NoHeap⟩
    · exact ⟨by decide, .of T.y_NoPlace⟩
    · exact ⟨by decide, .of T.y_NoNumber⟩
  have exj : ∀ j d, (hIn [1, 2, 3]) j = some d → PySem.W.exmOne K (.ref (clT ad j)) (.ref ad.x_StoneError) = some true := fun j d e => (okj j (by unfold hIn at e; split at e <;> first | assumption | cases e)).2.exm
  have G__law_ask := zar (P := P) (w := w) (base := base) T
  have X__law_ask := Vs (P := P) (w := w) (base := base) T
  refine ye (N := ["way", "number", "heap", "place", "e"]) (ps := ["way", "number", "heap", "place"]) T.d__law_came.fn ZL (g := YJ) fun cdv A outer s H E hr => ?_
  unfold YJ
  exact (zh (zhc (i := 4) rfl rfl rfl ZL.nd rfl rfl rfl T.g_StoneError (fun ps W E0 hx => (xb (ww (ym (X__law_ask.mono (by decide)) hx hr rfl T.d__law_ask.at_ T.d__law_ask.kp T.d__law_ask.bd (za (zb 0 (pv 0)) (za (zb 1 (pv 1)) (za (zb 2 (pv 2)) (za (zb 3 (pv 3)) zd)))))))) (fun ps W => (zj (yB (zk (G__law_ask.mono (by decide)) hr rfl T.d__law_ask.at_ T.d__law_ask.kp T.d__law_ask.bd (za (zb 0 (pv 0)) (za (zb 1 (pv 1)) (za (zb 2 (pv 2)) (za (zb 3 (pv 3)) zd)))))))) exj (fun ok ea => Xp (Vm (zd7 (E := fun _ _ _ => False) H_kinds (hr.mono (by decide)) rfl T.d__law_kinds.at_ T.d__law_kinds.kp T.d__law_kinds.bd ok (zy (pv 4) yH)))) (zdJ (ok := _) okj))
      (zj (zm (wZ w6))))
noncomputable def WP : SE → Ctl :=
  (zM (wY false 2 (zo ZT (zx 2 yE (zc (zi 1) (zc (eC (.int 1)) zr))) (eC (.int 6))))
    (zM (wY false 3 (zo ixD (w8 (xn (zc (zo vq (eC (.int 3)) (zo ZT (zx 2 yE (zc (zi 1) (zc (eC (.int 2)) zr))) (eC (.int 6)))) (zc (zo ZT (zx 2 yE (zc (zi 1) (zc (eC (.int 2)) zr))) (eC (.int 3))) zr)))) (eFn zev (zc (zo gtD (zi 2) (eC (.int 2))) zr))))
    (zM (wY false 4 (zo ixD (w8 (xn (zc (zi 3) (zc (zo ixD (w8 (xn (zc (eC (.int 1)) (zc (eC (.int 2)) (zc (eC (.int 4)) (zc (eC (.int 8)) zr)))))) (zo ZT (zi 3) (eC (.int 4)))) zr)))) (eFn zev (zc (zo gtD (zi 2) (eC (.int 2))) zr))))
    (zM (wY false 5 (zo ixD (w8 (xn (zc (zo ixD (w8 (xn (zc (eC (.int 2)) (zc (eC (.int 4)) zr)))) (eFn zev (zc (zo gtD (zi 2) (eC (.int 2))) zr))) (zc (eC (.int 9)) (zc (eUn zdk (eC (.int 1))) (zc (eC (.bl true)) (zc (eC .non) (zc (eC (.str "3")) (zc (zo zhH (eC (.int 10)) (eC (.int 30))) zr))))))))) (zo ZT (zx 2 yE (zc (zi 1) (zc (eC (.int 3)) zr))) (eC (.int 7)))))
    (zM (wY false 6 (zo vq (Y4 (zc (zi 4) zr)) (zo VP (Y4 (zc (eC (.int 0)) zr)) (zo V2 (zi 4) (eC (.int 1))))))
    (zM (wY false 7 (w8 (xn (zc (w8 (fFn zbB (zc (zi 6) zr))) (zc (zo vq (zi 6) (Y4 (zc (eC (.int 0)) zr))) (zc (eSl slD (zi 6) (Yo (eC (.int 1))) Xw) (zc (zo vq (Y4 (zc (eUn zdk (eC (.int 1))) zr)) (eSl slD (zi 6) (Yo (eC (.int 1))) Xw)) (zc (zo vq (Y4 (zc (eC (.bl true)) zr)) (eSl slD (zi 6) (Yo (eC (.int 1))) Xw)) (zc (zo vq (Y4 (zc (eC (.int 301)) zr)) (eSl slD (zi 6) (Yo (eC (.int 1))) Xw)) (zc (eC .non) zr))))))))))
    (zM (wY false 8 (zo ixD (zi 7) (zo ZT (zx 2 yE (zc (zi 1) (zc (eC (.int 4)) zr))) (eC (.int 7)))))
    (zM (wY false 9 (zo ixD (w8 (xn (zc (zi 4) (zc (eUn zdk (eC (.int 1))) (zc (eC (.bl true)) (zc (eC .non) (zc (eC (.str "0")) (zc (zo zhH (eC (.int 10)) (eC (.int 30))) zr)))))))) (zo ZT (zx 2 yE (zc (zi 1) (zc (eC (.int 5)) zr))) (eC (.int 6)))))
    (zM (sIf (tOf (zo ZA (zx 4 xo (zc (zi 2) (zc (zi 3) (zc (zi 6) (zc (zo V2 (zi 4) (eC (.int 1))) zr))))) (eC .non))) (yo (eC (.bl false))) zO)
    (zM (sIf (tOf (zo neD (zx 4 xo (zc (zi 2) (zc (zi 5) (zc (zo ixD (w8 (xn (zc (zi 6) (zc (zi 8) zr)))) (zo ZT (zi 1) (eC (.int 2)))) (zc (zo ixD (w8 (xn (zc (eC (.int 0)) (zc (zi 9) zr)))) (zo ZT (zo zaj (zi 1) (eC (.int 2))) (eC (.int 2)))) zr))))) (eC (.int 3)))) (yo (eC (.bl false))) zO)
    (zM (sIf (X9 (tOf (zo ltD (zi 2) (eC (.int 4)))) (tOf (zo neD (zx 4 xo (zc (zi 2) (zc (zi 3) (zc (zi 8) (zc (zo ixD (w8 (xn (zc (eC (.int 0)) (zc (zi 9) zr)))) (zo ZT (zi 1) (eC (.int 2)))) zr))))) (eC (.int 1))))) (yo (eC (.bl false))) zO)
    (zM (sIf (X9 (tOf (zo ltD (zi 2) (eC (.int 5)))) (tOf (zo neD (zx 4 xo (zc (zi 2) (zc (zi 3) (zc (zi 6) (zc (zi 9) zr))))) (eC (.int 2))))) (yo (eC (.bl false))) zO)
    (sIf (X9 (tOf (zo vL (zi 2) (eC (.int 3)))) (tOf (zo neD (zx 4 xo (zc (eC (.int 3)) (zc (zi 3) (zc (zo vq (Y4 (zc (zo V2 (zi 4) (eC (.int 1))) zr)) (zo VP (Y4 (zc (eC (.int 0)) zr)) (zo V2 (zi 4) (eC (.int 1))))) (zc (zo V2 (zi 4) (eC (.int 1))) zr))))) (eC (.int 3))))) (yo (eC (.bl false))) zO)))))))))))))
noncomputable def zdG : SE → Ctl :=
  (zM (zaB (iOf (zo vq (w8 (xn (zc (zx 2 xg (zc (zi 0) (zc (eC (.int 0)) zr))) zr))) (eSl slD (zi 0) (Yo (eC (.int 1))) (Yo (eC (.int 15)))))) (vK 1) WP)
    (yo (eC (.bl true))))
noncomputable def zgm : List D → Option D := fnD 10 zdG
noncomputable def isI (o : Option D) (k : Int) : Bool := match o with
  | some (.int i) => i == k
  | _ => false
noncomputable def zh9 (o : Option D) : Bool := match o with
  | some .non => true
  | _ => false
theorem za3 {o : Option D} {k : Int} (h : isI o k = true) : o = some (.int k) := by
  unfold isI at h
  split at h
  · rw [beq_iff_eq] at h; rw [h]
  · cases h
theorem zfp {o : Option D} (h : zh9 o = true) : o = some .non := by
  unfold zh9 at h
  split at h
  · rfl
  · cases h
noncomputable def Zo (a m : Int) : D := .tup (.int a :: List.replicate (m.toNat - 1) (.int 0))
noncomputable def zdQ (w : Int) : List D := [.int (if 2 < w then 4 else 2), .int 9, .int (-1), .bl true, .non, .str "3", .int 1000000000000000000000000000000]
noncomputable def Wo (m : Int) : List D := List.replicate (m.toNat - 1) (.int 0)
noncomputable def Zx (m : Int) : List D := [.lst (.int m :: Wo m), .tup (.int m :: Wo m ++ [.int 0]), .tup (Wo m), .tup (.int (-1) :: Wo m), .tup (.bl true :: Wo m), .tup (.int 301 :: Wo m), .non]
noncomputable def WZ (m : Int) : List D := [.int m, .int (-1), .bl true, .non, .str "0", .int 1000000000000000000000000000000]
noncomputable def zf9 : List (Int × Int × Int) := [(0, 3, 3), (0, 4, 4), (0, 5, 5), (0, 6, 6), (0, 7, 7), (0, 8, 8), (1, 3, 3), (1, 4, 4), (1, 5, 5), (1, 6, 6), (1, 7, 7), (1, 8, 8), (2, 3, 3), (2, 4, 4), (2, 5, 5), (2, 6, 6), (2, 7, 7), (2, 8, 8), (3, 0, 1), (3, 1, 2), (3, 2, 4), (4, 0, 1), (4, 1, 2), (4, 2, 4), (5, 0, 1), (5, 1, 2), (5, 2, 4)]
noncomputable def zgL (w : Int) (n h p : D) : Option D := xo [.int w, n, h, p]
theorem f1 : (zf9.all fun s => zh9 (zgL s.1 (.int s.2.1) (Zo s.2.2 s.2.2) (.int (s.2.2 - 1)))) = true := by kernel_rfl
theorem f2 (h p : D) : ([0, 1, 2, 3, 4, 5].all fun w => (zdQ w).all fun b => isI (zgL w b h p) 3) = true := by kernel_rfl
theorem f3 (p : D) : (zf9.all fun s => decide (4 ≤ s.1) || (Zx s.2.2).all fun h => isI (zgL s.1 (.int s.2.1) h p) 1) = true := by kernel_rfl
theorem f4 : (zf9.all fun s => decide (5 ≤ s.1) || (WZ s.2.2).all fun p => isI (zgL s.1 (.int s.2.1) (Zo s.2.2 s.2.2) p) 2) = true := by kernel_rfl
theorem f5 : (zf9.all fun s => decide (s.1 ≠ 3) || isI (zgL s.1 (.int s.2.1) (Zo (s.2.2 - 1) s.2.2) (.int (s.2.2 - 1))) 3) = true := by kernel_rfl
theorem zf5 {ds : List D} {i : Int} (h0 : 0 ≤ i) (h : i < (ds.length : Int)) : ∃ d, d ∈ ds ∧ ixD (.lst ds) (.int i) = some d := by
  have hl : i.toNat < ds.length := by omega
  exact ⟨ds[i.toNat], List.getElem_mem hl, zeT h0 (List.getElem?_eq_getElem hl)⟩
theorem Zn {ρ : Ev} {c k m : Int} (h : ρ[1]? = some (some (.int c))) (hm : 0 < m) : zo ZT (zx 2 yE (zc (zi 1) (zc (eC (.int k)) zr))) (eC (.int m)) ρ = some (.int (X2 c k % m)) := by
  refine yx (Zt (ds := [.int c, .int k]) (yF ?_ (yF rfl Wn)) rfl) rfl (v5 hm)
  unfold zi; rw [h]; rfl
theorem zb4 {m : Int} (h1 : 1 ≤ m) (h8 : m ≤ 8) (a : Int) : (VP (.tup [.int 0]) (.int (m - 1))).bind (fun y => vq (.tup [.int a]) y) = some (Zo a m) := by
  have c : m = 1 ∨ m = 2 ∨ m = 3 ∨ m = 4 ∨ m = 5 ∨ m = 6 ∨ m = 7 ∨ m = 8 := by omega
  rcases c with rfl | rfl | rfl | rfl | rfl | rfl | rfl | rfl <;> kernel_rfl
noncomputable def zhB : Ev → Option D := (w8 (xn (zc (w8 (fFn zbB (zc (zi 6) zr))) (zc (zo vq (zi 6) (Y4 (zc (eC (.int 0)) zr))) (zc (eSl slD (zi 6) (Yo (eC (.int 1))) Xw) (zc (zo vq (Y4 (zc (eUn zdk (eC (.int 1))) zr)) (eSl slD (zi 6) (Yo (eC (.int 1))) Xw)) (zc (zo vq (Y4 (zc (eC (.bl true)) zr)) (eSl slD (zi 6) (Yo (eC (.int 1))) Xw)) (zc (zo vq (Y4 (zc (eC (.int 301)) zr)) (eSl slD (zi 6) (Yo (eC (.int 1))) Xw)) (zc (eC .non) zr)))))))))
theorem zfk {m : Int} (h1 : 1 ≤ m) (h8 : m ≤ 8) {a b c d e f : Option D} {ρ : Ev} : zhB (a :: b :: c :: d :: e :: f :: some (Zo m m) :: ρ) = some (.lst (Zx m)) := by
  have c : m = 1 ∨ m = 2 ∨ m = 3 ∨ m = 4 ∨ m = 5 ∨ m = 6 ∨ m = 7 ∨ m = 8 := by omega
  rcases c with rfl | rfl | rfl | rfl | rfl | rfl | rfl | rfl <;> kernel_rfl
theorem zg0 (w : Int) : (gtD (.int w) (.int 2)).bind (fun x => zev [x]) = some (.int (if 2 < w then 1 else 0)) := by
  show zev [.bl (decide (w > 2))] = _
  by_cases h : 2 < w
  · rw [decide_eq_true h, if_pos h]; rfl
  · rw [decide_eq_false h, if_neg h]; rfl
theorem zfO {w : Int} {a b : Option D} {ρ : Ev} : eFn zev (zc (zo gtD (zi 2) (eC (.int 2))) zr) (a :: b :: some (.int w) :: ρ) = some (.int (if 2 < w then 1 else 0)) := by
  refine ziq (ds := [.bl (decide (w > 2))]) rfl ?_
  exact zg0 w
theorem zcL {t : Ev → Option Bool} {g : SE → Ctl} {ρ : SE} (h : t (visG ρ) = some false) : sIf t g zO ρ = .nx ρ := by unfold sIf; rw [h]; rfl
theorem zc1 {a : Ev → Option (List D)} {ρ : Ev} {ds : List D} (h1 : a ρ = some ds) (hl : ds.length ≤ 1000 := by exact Nat.le_of_ble_eq_true rfl) : w8 (xn a) ρ = some (.lst ds) := zhj (zfP h1 hl)
theorem sv {f : Ev → Option D} {ρ : SE} {d : D} (h : f (visF ρ) = some d) : vEv false f ρ = some d := h
theorem two {x y : D} {b : Prop} [Decidable b] : ixD (.lst [x, y]) (.int (if b then 1 else 0)) = some (if b then y else x) := by
  split <;> rfl
theorem zg3 {ns : List Int} {c : Int} {o2 o3 o4 o5 o6 o7 o8 o9 : Sl} {N B C : SE → Prop} {R : D → Prop} (q : ∀ o2 o3 o4 o5 o6 o7 o8 o9, N [.v (.scr ns), .v (.int c), o2, o3, o4, o5, o6, o7, o8, o9]) : (WP [.v (.scr ns), .v (.int c), o2, o3, o4, o5, o6, o7, o8, o9]).w N B C R := by
  unfold WP
  have w0 := Int.emod_nonneg (X2 c 1) (show (6 : Int) ≠ 0 by decide)
  have w1 := Int.emod_lt_of_pos (X2 c 1) (show (0 : Int) < 6 by decide)
  refine wv (wD (d := .int (X2 c 1 % 6)) (sv (Zn rfl (by decide)))) ?_
  generalize X2 c 1 % 6 = w at w0 w1 ⊢
  have a0 := Int.emod_nonneg (X2 c 2) (show (6 : Int) ≠ 0 by decide)
  have a1 := Int.emod_lt_of_pos (X2 c 2) (show (0 : Int) < 6 by decide)
  have b0 := Int.emod_nonneg (X2 c 2) (show (3 : Int) ≠ 0 by decide)
  have b1' := Int.emod_lt_of_pos (X2 c 2) (show (0 : Int) < 3 by decide)
  obtain ⟨nb, hnb⟩ : ∃ nb : Int, nb = if 2 < w then X2 c 2 % 3 else 3 + X2 c 2 % 6 := ⟨_, rfl⟩
  refine wv (wD (d := .int nb) (sv (yx (x := .lst [.int (3 + X2 c 2 % 6), .int (X2 c 2 % 3)]) (y := .int (if 2 < w then 1 else 0)) (zc1 ((yF (yx (x := .int 3) (y := .int (X2 c 2 % 6)) rfl (Zn rfl (by decide)) rfl) (yF (Zn rfl (by decide)) Wn)))) zfO ?_))) ?_
  · rw [two, hnb]
    split <;> rfl
  obtain ⟨m, hm⟩ : ∃ m : Int, m = if 2 < w then (if nb = 0 then 1 else if nb = 1 then 2 else 4) else nb := ⟨_, rfl⟩
  have hs : (w, nb, m) ∈ zf9 := by
    have cw : w = 0 ∨ w = 1 ∨ w = 2 ∨ w = 3 ∨ w = 4 ∨ w = 5 := by omega
    by_cases h : 2 < w
    · rw [if_pos h] at hnb hm
      have cn : nb = 0 ∨ nb = 1 ∨ nb = 2 := by omega
      rcases cw with rfl | rfl | rfl | rfl | rfl | rfl <;> first | exact absurd h (by decide) | (rcases cn with e | e | e <;> (rw [e] at hm; rw [hm, e]; decide))
    · rw [if_neg h] at hnb hm
      have cn : nb = 3 ∨ nb = 4 ∨ nb = 5 ∨ nb = 6 ∨ nb = 7 ∨ nb = 8 := by omega
      rcases cw with rfl | rfl | rfl | rfl | rfl | rfl <;> first | exact absurd (by decide) h | (rcases cn with e | e | e | e | e | e <;> (rw [hm, e]; decide))
  have hmr : 1 ≤ m ∧ m ≤ 8 := (show ∀ s ∈ zf9, 1 ≤ s.2.2 ∧ s.2.2 ≤ 8 by decide) _ hs
  have hnr : 2 < w → 0 ≤ nb ∧ nb < 3 := fun h => by rw [hnb, if_pos h]; exact ⟨b0, b1'⟩
  refine wv (wD (d := .int m) (sv (yx (x := .lst [.int nb, .int (if nb % 4 = 0 then 1 else if nb % 4 = 1 then 2 else if nb % 4 = 2 then 4 else 8)]) (y := .int (if 2 < w then 1 else 0)) (zc1 ((yF rfl (yF (yx (x := .lst [.int 1, .int 2, .int 4, .int 8]) (y := .int (nb % 4)) rfl (yx (x := .int nb) (y := .int 4) rfl rfl (v5 (by decide))) ?_) Wn)))) zfO ?_))) ?_
  · have h0 := Int.emod_nonneg nb (show (4 : Int) ≠ 0 by decide)
    have h1 := Int.emod_lt_of_pos nb (show (0 : Int) < 4 by decide)
    generalize nb % 4 = z at h0 h1 ⊢
    have c4 : z = 0 ∨ z = 1 ∨ z = 2 ∨ z = 3 := by omega
    rcases c4 with rfl | rfl | rfl | rfl <;> rfl
  · rw [two, hm]
    by_cases h : 2 < w
    · rw [if_pos h, if_pos h]
      obtain ⟨n0, n1⟩ := hnr h
      have cn : nb = 0 ∨ nb = 1 ∨ nb = 2 := by omega
      rcases cn with e | e | e <;> (rw [e]; rfl)
    · rw [if_neg h, if_neg h]
  obtain ⟨bad, hbad, ebad⟩ := zf5 (ds := zdQ w) (i := X2 c 3 % 7) (Int.emod_nonneg _ (by decide)) (Int.emod_lt_of_pos _ (by decide))
  refine wv (wD (d := bad) (sv (yx (x := .lst (zdQ w)) (y := .int (X2 c 3 % 7)) (zc1 ((yF (yx (x := .lst [.int 2, .int 4]) (y := .int (if 2 < w then 1 else 0)) rfl zfO (two.trans (by split <;> rfl))) (show (zc (eC (.int 9)) (zc (eUn zdk (eC (.int 1))) (zc (eC (.bl true)) (zc (eC .non) (zc (eC (.str "3")) (zc (zo zhH (eC (.int 10)) (eC (.int 30))) zr)))))) _ = some ((zdQ w).drop 1) by kernel_rfl)))) (Zn rfl (by decide)) ebad))) ?_
  refine wv (wD (d := Zo m m) (sv (show zo vq (Y4 (zc (zi 4) zr)) (zo VP (Y4 (zc (eC (.int 0)) zr)) (zo V2 (zi 4) (eC (.int 1)))) [some (.scr ns), some (.int c), some (.int w), some (.int nb), some (.int m), some bad, o6.f, o7.f, o8.f, o9.f] = _ from zb4 hmr.1 hmr.2 m))) ?_
  refine wv (wD (d := .lst (Zx m)) (sv (show zhB [some (.scr ns), some (.int c), some (.int w), some (.int nb), some (.int m), some bad, some (Zo m m), o7.f, o8.f, o9.f] = _ from zfk hmr.1 hmr.2))) ?_
  obtain ⟨nh, hnh, enh⟩ := zf5 (ds := Zx m) (i := X2 c 4 % 7) (Int.emod_nonneg _ (by decide)) (Int.emod_lt_of_pos _ (by decide))
  refine wv (wD (d := nh) (sv (yx (x := .lst (Zx m)) (y := .int (X2 c 4 % 7)) rfl (Zn rfl (by decide)) enh))) ?_
  obtain ⟨np, hnp, enp⟩ := zf5 (ds := WZ m) (i := X2 c 5 % 6) (Int.emod_nonneg _ (by decide)) (Int.emod_lt_of_pos _ (by decide))
  refine wv (wD (d := np) (sv (yx (x := .lst (WZ m)) (y := .int (X2 c 5 % 6)) (by kernel_rfl) (Zn rfl (by decide)) enp))) ?_
  have g1 := zfp (List.all_eq_true.mp f1 _ hs)
  have hw6 : w ∈ [0, 1, 2, 3, 4, 5] := by
    have cw : w = 0 ∨ w = 1 ∨ w = 2 ∨ w = 3 ∨ w = 4 ∨ w = 5 := by omega
    rcases cw with rfl | rfl | rfl | rfl | rfl | rfl <;> decide
  obtain ⟨x1, _, ex1⟩ := zf5 (ds := [Zo m m, nh]) (i := c % 2) (Int.emod_nonneg _ (by decide)) (Int.emod_lt_of_pos _ (by decide))
  obtain ⟨x2, _, ex2⟩ := zf5 (ds := [.int 0, np]) (i := c / 2 % 2) (Int.emod_nonneg _ (by decide)) (Int.emod_lt_of_pos _ (by decide))
  obtain ⟨x3, _, ex3⟩ := zf5 (ds := [.int 0, np]) (i := c % 2) (Int.emod_nonneg _ (by decide)) (Int.emod_lt_of_pos _ (by decide))
  have g2 := za3 (List.all_eq_true.mp (List.all_eq_true.mp (f2 x1 x2) _ hw6) _ hbad)
  have ev1 : ∀ {ρ : Ev}, ρ[1]? = some (some (.int c)) → zo ZT (zi 1) (eC (.int 2)) ρ = some (.int (c % 2)) := fun {ρ} h => yx (x := .int c) (y := .int 2) (by unfold zi; rw [h]; rfl) rfl (v5 (by decide))
  refine wv (zcL (X1 (yx (x := .non) (y := .non) (Zt (ds := [.int w, .int nb, Zo m m, .int (m - 1)]) rfl g1) rfl rfl))) ?_
  refine wv (zcL (X1 (yx (x := .int 3) (y := .int 3) (Zt (ds := [.int w, bad, x1, x2]) (yF rfl (yF rfl (yF (yx (x := .lst [Zo m m, nh]) (y := .int (c % 2)) rfl (ev1 rfl) ex1) (yF (yx (x := .lst [.int 0, np]) (y := .int (c / 2 % 2)) rfl (yx (x := .int (c / 2)) (y := .int 2) (yx (x := .int c) (y := .int 2) rfl rfl (zaZ (by decide) (by decide))) rfl (v5 (by decide))) ex2) Wn)))) g2) rfl rfl))) ?_
  refine wv (zcL ?_) ?_
  · by_cases h : w < 4
    · have g3 := List.all_eq_true.mp (f3 x3) _ hs
      rw [Bool.or_eq_true, decide_eq_true_eq] at g3
      rcases g3 with g3 | g3
      · exact absurd g3 (by omega)
      · exact zaL (X1 (yx (x := .int w) (y := .int 4) rfl rfl (show some (D.bl (decide (w < 4))) = _ by rw [decide_eq_true h]))) (X1 (yx (x := .int 1) (y := .int 1) (Zt (ds := [.int w, .int nb, nh, x3]) (yF rfl (yF rfl (yF rfl (yF (yx (x := .lst [.int 0, np]) (y := .int (c % 2)) rfl (ev1 rfl) ex3) Wn)))) (za3 (List.all_eq_true.mp g3 _ hnh))) rfl rfl))
    · exact zam (X1 (yx (x := .int w) (y := .int 4) rfl rfl (show some (D.bl (decide (w < 4))) = _ by rw [decide_eq_false h])))
  refine wv (zcL ?_) ?_
  · by_cases h : w < 5
    · have g3 := List.all_eq_true.mp f4 _ hs
      rw [Bool.or_eq_true, decide_eq_true_eq] at g3
      rcases g3 with g3 | g3
      · exact absurd g3 (by omega)
      · exact zaL (X1 (yx (x := .int w) (y := .int 5) rfl rfl (show some (D.bl (decide (w < 5))) = _ by rw [decide_eq_true h]))) (X1 (yx (x := .int 2) (y := .int 2) (Zt (ds := [.int w, .int nb, Zo m m, np]) rfl (za3 (List.all_eq_true.mp g3 _ hnp))) rfl rfl))
    · exact zam (X1 (yx (x := .int w) (y := .int 5) rfl rfl (show some (D.bl (decide (w < 5))) = _ by rw [decide_eq_false h])))
  refine w_nx (zcL ?_) (q _ _ _ _ _ _ _ _)
  by_cases h : w = 3
  · have g3 := List.all_eq_true.mp f5 _ hs
    rw [Bool.or_eq_true, decide_eq_true_eq] at g3
    rcases g3 with g3 | g3
    · exact absurd h g3
    · subst h
      exact zaL (X1 (yx (x := .int 3) (y := .int 3) rfl rfl rfl)) (X1 (yx (x := .int 3) (y := .int 3) (Zt (ds := [.int 3, .int nb, Zo (m - 1) m, .int (m - 1)]) (yF rfl (yF rfl (yF (show zo vq (Y4 (zc (zo V2 (zi 4) (eC (.int 1))) zr)) (zo VP (Y4 (zc (eC (.int 0)) zr)) (zo V2 (zi 4) (eC (.int 1)))) [some (.scr ns), some (.int c), some (.int 3), some (.int nb), some (.int m), some bad, some (Zo m m), some (.lst (Zx m)), some nh, some np] = _ from zb4 hmr.1 hmr.2 (m - 1)) (yF rfl Wn)))) (za3 g3)) rfl rfl))
  · exact zam (X1 (yx (x := .int w) (y := .int 3) rfl rfl (show vL (.int w) (.int 3) = _ by rw [zbi, decide_eq_false h])))
theorem zdN : ∀ ns : List Int, ns.length ≤ 63 → zgm [.scr ns] = some (.bl true) := by
  intro ns hns
  refine fn_w (ρ := [.v (.scr ns), .no, .no, .no, .no, .no, .no, .no, .no, .no]) rfl ?_
  unfold zdG
  obtain ⟨xs, hxs⟩ := zee (ρ := [none, none, none, none, none, none, none, none, none]) ns 15 hns
  refine zgg (ziz (ds := xs.map .int) (fun i ρ => ∃ o1 o2 o3 o4 o5 o6 o7 o8 o9, ρ = [.v (.scr ns), o1, o2, o3, o4, o5, o6, o7, o8, o9]) hxs ⟨_, _, _, _, _, _, _, _, _, rfl⟩ ?_ ?_)
  · rintro i d ρ hd ⟨o1, o2, o3, o4, o5, o6, o7, o8, o9, rfl⟩
    rw [List.getElem?_map] at hd
    obtain ⟨z, hz, rfl⟩ := Option.map_eq_some_iff.mp hd
    exact ⟨_, rfl, zg3 fun _ _ _ _ _ _ _ _ => ⟨_, _, _, _, _, _, _, _, _, rfl⟩⟩
  · rintro ρ ⟨o1, o2, o3, o4, o5, o6, o7, o8, o9, rfl⟩
    exact w_rt rfl rfl
theorem zhx (T : Txt K mg ad) : yD P w K mg base CX0 30 ad.f_law ad.e_law ["script"] (zch K) := by
  letI : KK := ⟨K⟩
  have G__law_cell_at := Xd (P := P) (w := w) (base := base) T
  have G__law_stir := VX (P := P) (w := w) (base := base) T
  have G__law_came := Vh (P := P) (w := w) (base := base) T
  refine (zgo (p := zgm) (ye (N := ["script", "cell", "way", "number", "many", "bad", "heap", "bads", "no_heap", "no_place"]) (ps := ["script"]) T.d_law.fn YF (g := zdG) fun cdv A outer s H E hr => ?_) zdN).mono (j := 13) (by decide)
  unfold zdG WP
  exact (zh (Yv PassesOwn.never rfl (Yz (xa (xF (yU (za (zk (G__law_cell_at.mono (by decide)) hr rfl T.d__law_cell_at.at_ T.d__law_cell_at.kp T.d__law_cell_at.bd (za (zb 0 (pv 0)) (za (zf zg) zd))) zd))) (Yj (zb 0 (pv 0)) (YU (zf zg)) (YU (zf zg))))) (xc (zJ (i := 1) YF.nd rfl (Or.inl rfl))) (zh (zT (m := false) (i := 2) YF.nd rfl (Or.inl rfl) (wE (zk (G__law_stir.mono (by decide)) hr rfl T.d__law_stir.at_ T.d__law_stir.kp T.d__law_stir.bd (za (zb 1 (pv 1)) (za (zf zg) zd))) (zf zg)))
      (zh (zT (m := false) (i := 3) YF.nd rfl (Or.inl rfl) (zG (xF (yU (za (xa (zf zg) (wE (zk (G__law_stir.mono (by decide)) hr rfl T.d__law_stir.at_ T.d__law_stir.kp T.d__law_stir.bd (za (zb 1 (pv 1)) (za (zf zg) zd))) (zf zg))) (za (wE (zk (G__law_stir.mono (by decide)) hr rfl T.d__law_stir.at_ T.d__law_stir.kp T.d__law_stir.bd (za (zb 1 (pv 1)) (za (zf zg) zd))) (zf zg)) zd)))) (xZ Xu W8 rfl T.z_int za6 (za (vb Z5 zH (zu _) (zb 2 (pv 2)) (zf zg)) zd)) (fun _ _ => rfl)))
      (zh (zT (m := false) (i := 4) YF.nd rfl (Or.inl rfl) (zG (xF (yU (za (zb 3 (pv 3)) (za (zG (xF (yU (za (zf zg) (za (zf zg) (za (zf zg) (za (zf zg) zd)))))) (wE (zb 3 (pv 3)) (zf zg)) (fun _ _ => rfl)) zd)))) (xZ Xu W8 rfl T.z_int za6 (za (vb Z5 zH (zu _) (zb 2 (pv 2)) (zf zg)) zd)) (fun _ _ => rfl)))
      (zh (zT (m := false) (i := 5) YF.nd rfl (Or.inl rfl) (zG (xF (yU (za (zG (xF (yU (za (zf zg) (za (zf zg) zd)))) (xZ Xu W8 rfl T.z_int za6 (za (vb Z5 zH (zu _) (zb 2 (pv 2)) (zf zg)) zd)) (fun _ _ => rfl)) (za (zf zg) (za (Wp (zf zg)) (za (x6 xH) (za (wZ w6) (za (ve vf) (za (zeE (zf zg) (zf zg)) zd))))))))) (wE (zk (G__law_stir.mono (by decide)) hr rfl T.d__law_stir.at_ T.d__law_stir.kp T.d__law_stir.bd (za (zb 1 (pv 1)) (za (zf zg) zd))) (zf zg)) (fun _ _ => rfl)))
      (zh (zT (m := false) (i := 6) YF.nd rfl (Or.inl rfl) (xa (xD (za (zb 4 (pv 4)) zd)) (zb0 (xD (za (zf zg) zd)) (vO (zb 4 (pv 4)) (zf zg)))))
      (zh (zT (m := false) (i := 7) YF.nd rfl (Or.inl rfl) (xF (yU (za (xF (zcY rfl T.z_list (za (zb 6 (pv 6)) zd))) (za (xa (zb 6 (pv 6)) (xD (za (zf zg) zd))) (za (Yj (zb 6 (pv 6)) (YU (zf zg)) XO) (za (xa (xD (za (Wp (zf zg)) zd)) (Yj (zb 6 (pv 6)) (YU (zf zg)) XO)) (za (xa (xD (za (x6 xH) zd)) (Yj (zb 6 (pv 6)) (YU (zf zg)) XO)) (za (xa (xD (za (zf zg) zd)) (Yj (zb 6 (pv 6)) (YU (zf zg)) XO)) (za (wZ w6) zd))))))))))
      (zh (zT (m := false) (i := 8) YF.nd rfl (Or.inl rfl) (zG (zb 7 (pv 7)) (wE (zk (G__law_stir.mono (by decide)) hr rfl T.d__law_stir.at_ T.d__law_stir.kp T.d__law_stir.bd (za (zb 1 (pv 1)) (za (zf zg) zd))) (zf zg)) (fun _ _ => rfl)))
      (zh (zT (m := false) (i := 9) YF.nd rfl (Or.inl rfl) (zG (xF (yU (za (zb 4 (pv 4)) (za (Wp (zf zg)) (za (x6 xH) (za (wZ w6) (za (ve vf) (za (zeE (zf zg) (zf zg)) zd)))))))) (wE (zk (G__law_stir.mono (by decide)) hr rfl T.d__law_stir.at_ T.d__law_stir.kp T.d__law_stir.bd (za (zb 1 (pv 1)) (za (zf zg) zd))) (zf zg)) (fun _ _ => rfl)))
      (zh (zU (zA XJ Zs (zu _) (zk (G__law_came.mono (by decide)) hr rfl T.d__law_came.at_ T.d__law_came.kp T.d__law_came.bd (za (zb 2 (pv 2)) (za (zb 3 (pv 3)) (za (zb 6 (pv 6)) (za (vO (zb 4 (pv 4)) (zf zg)) zd))))) (wZ w6)) (zj (zm (x6 xH))) zw)
      (zh (zU (zA Z1 Ye (zu _) (zk (G__law_came.mono (by decide)) hr rfl T.d__law_came.at_ T.d__law_came.kp T.d__law_came.bd (za (zb 2 (pv 2)) (za (zb 5 (pv 5)) (za (zG (xF (yU (za (zb 6 (pv 6)) (za (zb 8 (pv 8)) zd)))) (wE (zb 1 (pv 1)) (zf zg)) (fun _ _ => rfl)) (za (zG (xF (yU (za (zf zg) (za (zb 9 (pv 9)) zd)))) (wE (zaC (zb 1 (pv 1)) (zf zg)) (zf zg)) (fun _ _ => rfl)) zd))))) (zf zg)) (zj (zm (x6 xH))) zw)
      (zh (zU (zbI (zaT (zA zcu zH (zu _) (zb 2 (pv 2)) (zf zg)) (WF (zA Z1 Ye (zu _) (zk (G__law_came.mono (by decide)) hr rfl T.d__law_came.at_ T.d__law_came.kp T.d__law_came.bd (za (zb 2 (pv 2)) (za (zb 3 (pv 3)) (za (zb 8 (pv 8)) (za (zG (xF (yU (za (zf zg) (za (zb 9 (pv 9)) zd)))) (wE (zb 1 (pv 1)) (zf zg)) (fun _ _ => rfl)) zd))))) (zf zg))))) (zj (zm (x6 xH))) zw)
      (zh (zU (zbI (zaT (zA zcu zH (zu _) (zb 2 (pv 2)) (zf zg)) (WF (zA Z1 Ye (zu _) (zk (G__law_came.mono (by decide)) hr rfl T.d__law_came.at_ T.d__law_came.kp T.d__law_came.bd (za (zb 2 (pv 2)) (za (zb 3 (pv 3)) (za (zb 6 (pv 6)) (za (zb 9 (pv 9)) zd))))) (zf zg))))) (zj (zm (x6 xH))) zw)
      (zj (zU (zbI (zaT (zA (zV hr) zF (zu _) (zb 2 (pv 2)) (zf zg)) (WF (zA Z1 Ye (zu _) (zk (G__law_came.mono (by decide)) hr rfl T.d__law_came.at_ T.d__law_came.kp T.d__law_came.bd (za (zf zg) (za (zb 3 (pv 3)) (za (xa (xD (za (vO (zb 4 (pv 4)) (zf zg)) zd)) (zb0 (xD (za (zf zg) zd)) (vO (zb 4 (pv 4)) (zf zg)))) (za (vO (zb 4 (pv 4)) (zf zg)) zd))))) (zf zg))))) (zj (zm (x6 xH))) zw)))))))))))))))
      (zj (zm (x6 xH))))
end
theorem ZB {us : List Value} (h : us.length = 1) : ∃ x0, us = [x0] := by
  cases us with
  | nil => cases h
  | cons x0 us =>
    cases us with
    | nil => exact ⟨x0, rfl⟩
    | cons _ _ => cases h
theorem wV {us : List Value} (h : us.length = 2) : ∃ x0 x1, us = [x0, x1] := by
  cases us with
  | nil => cases h
  | cons x0 us =>
    cases us with
    | nil => cases h
    | cons x1 us =>
      cases us with
      | nil => exact ⟨x0, x1, rfl⟩
      | cons _ _ => cases h
theorem VI {us : List Value} (h : us.length = 3) : ∃ x0 x1 x2, us = [x0, x1, x2] := by
  cases us with
  | nil => cases h
  | cons x0 us =>
    cases us with
    | nil => cases h
    | cons x1 us =>
      cases us with
      | nil => cases h
      | cons x2 us =>
        cases us with
        | nil => exact ⟨x0, x1, x2, rfl⟩
        | cons _ _ => cases h
theorem zbt {us : List Value} (h : us.length = 4) : ∃ x0 x1 x2 x3, us = [x0, x1, x2, x3] := by
  cases us with
  | nil => cases h
  | cons x0 us =>
    cases us with
    | nil => cases h
    | cons x1 us =>
      cases us with
      | nil => cases h
      | cons x2 us =>
        cases us with
        | nil => cases h
        | cons x3 us =>
          cases us with
          | nil => exact ⟨x0, x1, x2, x3, rfl⟩
          | cons _ _ => cases h
theorem all_mk {l : PySem.W.OpenLaw} {w : World} {K : PySem.W.Frag} {h : Heap} {mg : Str → Option Value} {fa f0 f1 f2 f3 f4 f5 f6 f7 f8 f9 f10 f11 f12 f13 f14 f15 f16 f17 f18 f19 f20 f21 f22 f23 f24 f25 f26 f27 f28 f29 f30 f31 f32 f33 f34 f35 f36 f37 f38 f39 f40 f41 f42 f43 f44 f45 f46 : Addr} (X : K.In h) (G : h.Ns mainGlobals mg) (hfa : mg "law" = some (.ref fa))
    {od0 an0 od1 an1 od2 an2 od3 an3 od4 an4 od5 an5 od6 an6 od7 an7 od8 an8 od9 an9 od10 an10 od11 an11 od12 an12 od13 an13 od14 an14 od15 an15 od16 an16 od17 an17 od18 an18 od19 an19 od20 an20 od21 an21 od22 an22 od23 an23 od24 an24 od25 an25 od26 an26 od27 an27 od28 an28 od29 an29 od30 an30 od31 an31 od32 an32 od33 an33 od34 an34 od35 an35 od36 an36 od37 an37 od38 an38 od39 an39 od40 an40 od41 an41 od42 an42 od43 an43 od44 an44 od45 an45 od46 an46 : Option Addr} {sl0 sl1 sl2 sl3 sl4 sl5 sl6 sl7 sl8 sl9 sl10 sl11 sl12 sl13 sl14 sl15 sl16 sl17 sl18 sl19 sl20 sl21 sl22 sl23 sl24 sl25 sl26 sl27 sl28 sl29 sl30 sl31 sl32 sl33 sl34 sl35 sl36 sl37 sl38 sl39 sl40 sl41 sl42 sl43 sl44 sl45 sl46 : Array (Option Value)} {oc0 kV0 dc0 pm0 cd0 ct0 oc1 kV1 dc1 pm1 cd1 ct1 oc2 kV2 dc2 pm2 cd2 ct2 oc3 kV3 dc3 pm3 cd3 ct3 oc4 kV4 dc4 pm4 cd4 ct4 oc5 kV5 dc5 pm5 cd5 ct5 oc6 kV6 dc6 pm6 cd6 ct6 oc7 kV7 dc7 pm7 cd7 ct7 oc8 kV8 dc8 pm8 cd8 ct8 oc9 kV9 dc9 pm9 cd9 ct9 oc10 kV10 dc10 pm10 cd10 ct10 oc11 kV11 dc11 pm11 cd11 ct11 oc12 kV12 dc12 pm12 cd12 ct12 oc13 kV13 dc13 pm13 cd13 ct13 oc14 kV14 dc14 pm14 cd14 ct14 oc15 kV15 dc15 pm15 cd15 ct15 oc16 kV16 dc16 pm16 cd16 ct16 oc17 kV17 dc17 pm17 cd17 ct17 oc18 kV18 dc18 pm18 cd18 ct18 oc19 kV19 dc19 pm19 cd19 ct19 oc20 kV20 dc20 pm20 cd20 ct20 oc21 kV21 dc21 pm21 cd21 ct21 oc22 kV22 dc22 pm22 cd22 ct22 oc23 kV23 dc23 pm23 cd23 ct23 oc24 kV24 dc24 pm24 cd24 ct24 oc25 kV25 dc25 pm25 cd25 ct25 oc26 kV26 dc26 pm26 cd26 ct26 oc27 kV27 dc27 pm27 cd27 ct27 oc28 kV28 dc28 pm28 cd28 ct28 oc29 kV29 dc29 pm29 cd29 ct29 oc30 kV30 dc30 pm30 cd30 ct30 oc31 kV31 dc31 pm31 cd31 ct31 oc32 kV32 dc32 pm32 cd32 ct32 oc33 kV33 dc33 pm33 cd33 ct33 oc34 kV34 dc34 pm34 cd34 ct34 oc35 kV35 dc35 pm35 cd35 ct35 oc36 kV36 dc36 pm36 cd36 ct36 oc37 kV37 dc37 pm37 cd37 ct37 oc38 kV38 dc38 pm38 cd38 ct38 oc39 kV39 dc39 pm39 cd39 ct39 oc40 kV40 dc40 pm40 cd40 ct40 oc41 kV41 dc41 pm41 cd41 ct41 oc42 kV42 dc42 pm42 cd42 ct42 oc43 kV43 dc43 pm43 cd43 ct43 oc44 kV44 dc44 pm44 cd44 ct44 oc45 kV45 dc45 pm45 cd45 ct45 oc46 kV46 dc46 pm46 cd46 ct46 : Value} {tk0 : Tok} {tk1 : Tok} {tk2 : Tok}
    {sz0 ep0 : Nat} {rr0_0 rr0_1 rr0_2 rr0_3 rr0_4 : Addr} {hh0_0 hh0_1 hh0_2 hh0_3 hh0_4 : Int} {tt0_0 tu0_0_0 tu0_0_1 tt0_1 tu0_1_0 tu0_1_1 tt0_2 tu0_2_0 tu0_2_1 tt0_3 tu0_3_0 tu0_3_1 tt0_4 tu0_4_0 tu0_4_1 : Tok} {nn0_0 nn0_1 nn0_2 nn0_3 nn0_4 : Nat} {oo0_0 oo0_1 oo0_2 oo0_3 oo0_4 : Option Addr} {ss0_0 ss0_1 ss0_2 ss0_3 ss0_4 : Array (Option Value)}
    (a0 : PySem.W.nsIn K mainGlobals "is_whole" = some (some (.ref f0))) (l0 : K.lookup f0 = some ⟨oc0, od0, .func (PySem.W.fnOf "is_whole" "is_whole" (zv xI) (zp xI) (ze xI) .none kV0 dc0 pm0 an0 cd0 ct0), sl0⟩) (c0 : PySem.W.codeIn K cd0 "is_whole" = true) (k0 : PySem.W.keepIn K (.ref f0) = true)
    (a1 : PySem.W.nsIn K mainGlobals "is_whole_within" = some (some (.ref f1))) (l1 : K.lookup f1 = some ⟨oc1, od1, .func (PySem.W.fnOf "is_whole_within" "is_whole_within" (zv zP) (zp zP) (ze zP) .none kV1 dc1 pm1 an1 cd1 ct1), sl1⟩) (c1 : PySem.W.codeIn K cd1 "is_whole_within" = true) (k1 : PySem.W.keepIn K (.ref f1) = true)
    (a2 : PySem.W.nsIn K mainGlobals "must_be_within" = some (some (.ref f2))) (l2 : K.lookup f2 = some ⟨oc2, od2, .func (PySem.W.fnOf "must_be_within" "must_be_within" (zv ya) (zp ya) (ze ya) .none kV2 dc2 pm2 an2 cd2 ct2), sl2⟩) (c2 : PySem.W.codeIn K cd2 "must_be_within" = true) (k2 : PySem.W.keepIn K (.ref f2) = true)
    (a3 : PySem.W.nsIn K mainGlobals "must_be_at_most" = some (some (.ref f3))) (l3 : K.lookup f3 = some ⟨oc3, od3, .func (PySem.W.fnOf "must_be_at_most" "must_be_at_most" (zv zR) (zp zR) (ze zR) .none kV3 dc3 pm3 an3 cd3 ct3), sl3⟩) (c3 : PySem.W.codeIn K cd3 "must_be_at_most" = true) (k3 : PySem.W.keepIn K (.ref f3) = true)
    (a4 : PySem.W.nsIn K mainGlobals "is_place_count" = some (some (.ref f4))) (l4 : K.lookup f4 = some ⟨oc4, od4, .func (PySem.W.fnOf "is_place_count" "is_place_count" (zv zZ) (zp zZ) (ze zZ) .none kV4 dc4 pm4 an4 cd4 ct4), sl4⟩) (c4 : PySem.W.codeIn K cd4 "is_place_count" = true) (k4 : PySem.W.keepIn K (.ref f4) = true)
    (a5 : PySem.W.nsIn K mainGlobals "is_place" = some (some (.ref f5))) (l5 : K.lookup f5 = some ⟨oc5, od5, .func (PySem.W.fnOf "is_place" "is_place" (zv xL) (zp xL) (ze xL) .none kV5 dc5 pm5 an5 cd5 ct5), sl5⟩) (c5 : PySem.W.codeIn K cd5 "is_place" = true) (k5 : PySem.W.keepIn K (.ref f5) = true)
    (a6 : PySem.W.nsIn K mainGlobals "are_counts" = some (some (.ref f6))) (l6 : K.lookup f6 = some ⟨oc6, od6, .func (PySem.W.fnOf "are_counts" "are_counts" (zv y0) (zp y0) (ze y0) .none kV6 dc6 pm6 an6 cd6 ct6), sl6⟩) (c6 : PySem.W.codeIn K cd6 "are_counts" = true) (k6 : PySem.W.keepIn K (.ref f6) = true)
    (a7 : PySem.W.nsIn K mainGlobals "is_pair" = some (some (.ref f7))) (l7 : K.lookup f7 = some ⟨oc7, od7, .func (PySem.W.fnOf "is_pair" "is_pair" (zv wo) (zp wo) (ze wo) .none kV7 dc7 pm7 an7 cd7 ct7), sl7⟩) (c7 : PySem.W.codeIn K cd7 "is_pair" = true) (k7 : PySem.W.keepIn K (.ref f7) = true)
    (a8 : PySem.W.nsIn K mainGlobals "are_ties" = some (some (.ref f8))) (l8 : K.lookup f8 = some ⟨oc8, od8, .func (PySem.W.fnOf "are_ties" "are_ties" (zv xG) (zp xG) (ze xG) .none kV8 dc8 pm8 an8 cd8 ct8), sl8⟩) (c8 : PySem.W.codeIn K cd8 "are_ties" = true) (k8 : PySem.W.keepIn K (.ref f8) = true)
    (a9 : PySem.W.nsIn K mainGlobals "is_web" = some (some (.ref f9))) (l9 : K.lookup f9 = some ⟨oc9, od9, .func (PySem.W.fnOf "is_web" "is_web" (zv vi) (zp vi) (ze vi) .none kV9 dc9 pm9 an9 cd9 ct9), sl9⟩) (c9 : PySem.W.codeIn K cd9 "is_web" = true) (k9 : PySem.W.keepIn K (.ref f9) = true)
    (a10 : PySem.W.nsIn K mainGlobals "must_be_web" = some (some (.ref f10))) (l10 : K.lookup f10 = some ⟨oc10, od10, .func (PySem.W.fnOf "must_be_web" "must_be_web" (zv yM) (zp yM) (ze yM) .none kV10 dc10 pm10 an10 cd10 ct10), sl10⟩) (c10 : PySem.W.codeIn K cd10 "must_be_web" = true) (k10 : PySem.W.keepIn K (.ref f10) = true)
    (a11 : PySem.W.nsIn K mainGlobals "must_be_place" = some (some (.ref f11))) (l11 : K.lookup f11 = some ⟨oc11, od11, .func (PySem.W.fnOf "must_be_place" "must_be_place" (zv yf) (zp yf) (ze yf) .none kV11 dc11 pm11 an11 cd11 ct11), sl11⟩) (c11 : PySem.W.codeIn K cd11 "must_be_place" = true) (k11 : PySem.W.keepIn K (.ref f11) = true)
    (a12 : PySem.W.nsIn K mainGlobals "tie_between" = some (some (.ref f12))) (l12 : K.lookup f12 = some ⟨oc12, od12, .func (PySem.W.fnOf "tie_between" "tie_between" (zv yJ) (zp yJ) (ze yJ) .none kV12 dc12 pm12 an12 cd12 ct12), sl12⟩) (c12 : PySem.W.codeIn K cd12 "tie_between" = true) (k12 : PySem.W.keepIn K (.ref f12) = true)
    (a13 : PySem.W.nsIn K mainGlobals "neighbours" = some (some (.ref f13))) (l13 : K.lookup f13 = some ⟨oc13, od13, .func (PySem.W.fnOf "neighbours" "neighbours" (zv y8) (zp y8) (ze y8) .none kV13 dc13 pm13 an13 cd13 ct13), sl13⟩) (c13 : PySem.W.codeIn K cd13 "neighbours" = true) (k13 : PySem.W.keepIn K (.ref f13) = true)
    (a14 : PySem.W.nsIn K mainGlobals "are_stones" = some (some (.ref f14))) (l14 : K.lookup f14 = some ⟨oc14, od14, .func (PySem.W.fnOf "are_stones" "are_stones" (zv y4) (zp y4) (ze y4) .none kV14 dc14 pm14 an14 cd14 ct14), sl14⟩) (c14 : PySem.W.codeIn K cd14 "are_stones" = true) (k14 : PySem.W.keepIn K (.ref f14) = true)
    (a15 : PySem.W.nsIn K mainGlobals "must_be_heap" = some (some (.ref f15))) (l15 : K.lookup f15 = some ⟨oc15, od15, .func (PySem.W.fnOf "must_be_heap" "must_be_heap" (zv yr) (zp yr) (ze yr) .none kV15 dc15 pm15 an15 cd15 ct15), sl15⟩) (c15 : PySem.W.codeIn K cd15 "must_be_heap" = true) (k15 : PySem.W.keepIn K (.ref f15) = true)
    (a16 : PySem.W.nsIn K mainGlobals "all_steps" = some (some (.ref f16))) (l16 : K.lookup f16 = some ⟨oc16, od16, .func (PySem.W.fnOf "all_steps" "all_steps" (zv xt) (zp xt) (ze xt) .none kV16 dc16 pm16 an16 cd16 ct16), sl16⟩) (c16 : PySem.W.codeIn K cd16 "all_steps" = true) (k16 : PySem.W.keepIn K (.ref f16) = true)
    (a17 : PySem.W.nsIn K mainGlobals "stepped" = some (some (.ref f17))) (l17 : K.lookup f17 = some ⟨oc17, od17, .func (PySem.W.fnOf "stepped" "stepped" (zv wk) (zp wk) (ze wk) .none kV17 dc17 pm17 an17 cd17 ct17), sl17⟩) (c17 : PySem.W.codeIn K cd17 "stepped" = true) (k17 : PySem.W.keepIn K (.ref f17) = true)
    (a18 : PySem.W.nsIn K mainGlobals "heaps_behind" = some (some (.ref f18))) (l18 : K.lookup f18 = some ⟨oc18, od18, .func (PySem.W.fnOf "heaps_behind" "heaps_behind" (zv yq) (zp yq) (ze yq) .none kV18 dc18 pm18 an18 cd18 ct18), sl18⟩) (c18 : PySem.W.codeIn K cd18 "heaps_behind" = true) (k18 : PySem.W.keepIn K (.ref f18) = true)
    (a19 : PySem.W.nsIn K mainGlobals "steps_to" = some (some (.ref f19))) (l19 : K.lookup f19 = some ⟨oc19, od19, .func (PySem.W.fnOf "steps_to" "steps_to" (zv xN) (zp xN) (ze xN) .none kV19 dc19 pm19 an19 cd19 ct19), sl19⟩) (c19 : PySem.W.codeIn K cd19 "steps_to" = true) (k19 : PySem.W.keepIn K (.ref f19) = true)
    (a20 : PySem.W.nsIn K mainGlobals "must_be_asked" = some (some (.ref f20))) (l20 : K.lookup f20 = some ⟨oc20, od20, .func (PySem.W.fnOf "must_be_asked" "must_be_asked" (zv yi) (zp yi) (ze yi) .none kV20 dc20 pm20 an20 cd20 ct20), sl20⟩) (c20 : PySem.W.codeIn K cd20 "must_be_asked" = true) (k20 : PySem.W.keepIn K (.ref f20) = true)
    (a21 : PySem.W.nsIn K mainGlobals "reach" = some (some (.ref f21))) (l21 : K.lookup f21 = some ⟨oc21, od21, .func (PySem.W.fnOf "reach" "reach" (zv Yl) (zp Yl) (ze Yl) .none kV21 dc21 pm21 an21 cd21 ct21), sl21⟩) (c21 : PySem.W.codeIn K cd21 "reach" = true) (k21 : PySem.W.keepIn K (.ref f21) = true)
    (a22 : PySem.W.nsIn K mainGlobals "is_over" = some (some (.ref f22))) (l22 : K.lookup f22 = some ⟨oc22, od22, .func (PySem.W.fnOf "is_over" "is_over" (zv wn) (zp wn) (ze wn) .none kV22 dc22 pm22 an22 cd22 ct22), sl22⟩) (c22 : PySem.W.codeIn K cd22 "is_over" = true) (k22 : PySem.W.keepIn K (.ref f22) = true)
    (a23 : PySem.W.nsIn K mainGlobals "kind_good" = some (some (.ref f23))) (l23 : K.lookup f23 = some ⟨oc23, od23, .func (PySem.W.fnOf "kind_good" "kind_good" (zv xv) (zp xv) (ze xv) .none kV23 dc23 pm23 an23 cd23 ct23), sl23⟩) (c23 : PySem.W.codeIn K cd23 "kind_good" = true) (k23 : PySem.W.keepIn K (.ref f23) = true)
    (a24 : PySem.W.nsIn K mainGlobals "places_of" = some (some (.ref f24))) (l24 : K.lookup f24 = some ⟨oc24, od24, .func (PySem.W.fnOf "places_of" "places_of" (zv xq) (zp xq) (ze xq) .none kV24 dc24 pm24 an24 cd24 ct24), sl24⟩) (c24 : PySem.W.codeIn K cd24 "places_of" = true) (k24 : PySem.W.keepIn K (.ref f24) = true)
    (a25 : PySem.W.nsIn K mainGlobals "are_tied" = some (some (.ref f25))) (l25 : K.lookup f25 = some ⟨oc25, od25, .func (PySem.W.fnOf "are_tied" "are_tied" (zv xP) (zp xP) (ze xP) .none kV25 dc25 pm25 an25 cd25 ct25), sl25⟩) (c25 : PySem.W.codeIn K cd25 "are_tied" = true) (k25 : PySem.W.keepIn K (.ref f25) = true)
    (a26 : PySem.W.nsIn K mainGlobals "web_for" = some (some (.ref f26))) (l26 : K.lookup f26 = some ⟨oc26, od26, .func (PySem.W.fnOf "web_for" "web_for" (zv wl) (zp wl) (ze wl) .none kV26 dc26 pm26 an26 cd26 ct26), sl26⟩) (c26 : PySem.W.codeIn K cd26 "web_for" = true) (k26 : PySem.W.keepIn K (.ref f26) = true)
    (a27 : PySem.W.nsIn K mainGlobals "cube_of_digits" = some (some (.ref f27))) (l27 : K.lookup f27 = some ⟨oc27, od27, .func (PySem.W.fnOf "cube_of_digits" "cube_of_digits" (zv yb) (zp yb) (ze yb) .none kV27 dc27 pm27 an27 cd27 ct27), sl27⟩) (c27 : PySem.W.codeIn K cd27 "cube_of_digits" = true) (k27 : PySem.W.keepIn K (.ref f27) = true)
    (a28 : PySem.W.nsIn K mainGlobals "cube_need" = some (some (.ref f28))) (l28 : K.lookup f28 = some ⟨oc28, od28, .func (PySem.W.fnOf "cube_need" "cube_need" (zv xr) (zp xr) (ze xr) .none kV28 dc28 pm28 an28 cd28 ct28), sl28⟩) (c28 : PySem.W.codeIn K cd28 "cube_need" = true) (k28 : PySem.W.keepIn K (.ref f28) = true)
    (a29 : PySem.W.nsIn K mainGlobals "cube_worst" = some (some (.ref f29))) (l29 : K.lookup f29 = some ⟨oc29, od29, .func (PySem.W.fnOf "cube_worst" "cube_worst" (zv yY) (zp yY) (ze yY) .none kV29 dc29 pm29 an29 cd29 ct29), sl29⟩) (c29 : PySem.W.codeIn K cd29 "cube_worst" = true) (k29 : PySem.W.keepIn K (.ref f29) = true)
    (a30 : PySem.W.nsIn K mainGlobals "lessened" = some (some (.ref f30))) (l30 : K.lookup f30 = some ⟨oc30, od30, .func (PySem.W.fnOf "lessened" "lessened" (zv xS) (zp xS) (ze xS) .none kV30 dc30 pm30 an30 cd30 ct30), sl30⟩) (c30 : PySem.W.codeIn K cd30 "lessened" = true) (k30 : PySem.W.keepIn K (.ref f30) = true)
    (a31 : PySem.W.nsIn K mainGlobals "cube_steps" = some (some (.ref f31))) (l31 : K.lookup f31 = some ⟨oc31, od31, .func (PySem.W.fnOf "cube_steps" "cube_steps" (zv yZ) (zp yZ) (ze yZ) .none kV31 dc31 pm31 an31 cd31 ct31), sl31⟩) (c31 : PySem.W.codeIn K cd31 "cube_steps" = true) (k31 : PySem.W.keepIn K (.ref f31) = true)
    (a32 : PySem.W.nsIn K mainGlobals "ring_of_places" = some (some (.ref f32))) (l32 : K.lookup f32 = some ⟨oc32, od32, .func (PySem.W.fnOf "ring_of_places" "ring_of_places" (zv zY) (zp zY) (ze zY) .none kV32 dc32 pm32 an32 cd32 ct32), sl32⟩) (c32 : PySem.W.codeIn K cd32 "ring_of_places" = true) (k32 : PySem.W.keepIn K (.ref f32) = true)
    (a33 : PySem.W.nsIn K mainGlobals "must_fit_ring" = some (some (.ref f33))) (l33 : K.lookup f33 = some ⟨oc33, od33, .func (PySem.W.fnOf "must_fit_ring" "must_fit_ring" (zv yh) (zp yh) (ze yh) .none kV33 dc33 pm33 an33 cd33 ct33), sl33⟩) (c33 : PySem.W.codeIn K cd33 "must_fit_ring" = true) (k33 : PySem.W.keepIn K (.ref f33) = true)
    (a34 : PySem.W.nsIn K mainGlobals "sweep_orders" = some (some (.ref f34))) (l34 : K.lookup f34 = some ⟨oc34, od34, .func (PySem.W.fnOf "sweep_orders" "sweep_orders" (zv yz) (zp yz) (ze yz) .none kV34 dc34 pm34 an34 cd34 ct34), sl34⟩) (c34 : PySem.W.codeIn K cd34 "sweep_orders" = true) (k34 : PySem.W.keepIn K (.ref f34) = true)
    (a35 : PySem.W.nsIn K mainGlobals "swept" = some (some (.ref f35))) (l35 : K.lookup f35 = some ⟨oc35, od35, .func (PySem.W.fnOf "swept" "swept" (zv Ym) (zp Ym) (ze Ym) .none kV35 dc35 pm35 an35 cd35 ct35), sl35⟩) (c35 : PySem.W.codeIn K cd35 "swept" = true) (k35 : PySem.W.keepIn K (.ref f35) = true)
    (a36 : PySem.W.nsIn K mainGlobals "sweeps" = some (some (.ref f36))) (l36 : K.lookup f36 = some ⟨oc36, od36, .func (PySem.W.fnOf "sweeps" "sweeps" (zv wX) (zp wX) (ze wX) .none kV36 dc36 pm36 an36 cd36 ct36), sl36⟩) (c36 : PySem.W.codeIn K cd36 "sweeps" = true) (k36 : PySem.W.keepIn K (.ref f36) = true)
    (a37 : PySem.W.nsIn K mainGlobals "sweep_steps" = some (some (.ref f37))) (l37 : K.lookup f37 = some ⟨oc37, od37, .func (PySem.W.fnOf "sweep_steps" "sweep_steps" (zv yO) (zp yO) (ze yO) .none kV37 dc37 pm37 an37 cd37 ct37), sl37⟩) (c37 : PySem.W.codeIn K cd37 "sweep_steps" = true) (k37 : PySem.W.keepIn K (.ref f37) = true)
    (a38 : PySem.W.nsIn K mainGlobals "ring_steps" = some (some (.ref f38))) (l38 : K.lookup f38 = some ⟨oc38, od38, .func (PySem.W.fnOf "ring_steps" "ring_steps" (zv y6) (zp y6) (ze y6) .none kV38 dc38 pm38 an38 cd38 ct38), sl38⟩) (c38 : PySem.W.codeIn K cd38 "ring_steps" = true) (k38 : PySem.W.keepIn K (.ref f38) = true)
    (a39 : PySem.W.nsIn K mainGlobals "bounds_sweep" = some (some (.ref f39))) (l39 : K.lookup f39 = some ⟨oc39, od39, .func (PySem.W.fnOf "bounds_sweep" "bounds_sweep" (zv yw) (zp yw) (ze yw) .none kV39 dc39 pm39 an39 cd39 ct39), sl39⟩) (c39 : PySem.W.codeIn K cd39 "bounds_sweep" = true) (k39 : PySem.W.keepIn K (.ref f39) = true)
    (a40 : PySem.W.nsIn K mainGlobals "sweep_holds" = some (some (.ref f40))) (l40 : K.lookup f40 = some ⟨oc40, od40, .func (PySem.W.fnOf "sweep_holds" "sweep_holds" (zv yN) (zp yN) (ze yN) .none kV40 dc40 pm40 an40 cd40 ct40), sl40⟩) (c40 : PySem.W.codeIn K cd40 "sweep_holds" = true) (k40 : PySem.W.keepIn K (.ref f40) = true)
    (a41 : PySem.W.nsIn K mainGlobals "_law_cell_at" = some (some (.ref f41))) (l41 : K.lookup f41 = some ⟨oc41, od41, .func (PySem.W.fnOf "_law_cell_at" "_law_cell_at" (zv yy) (zp yy) (ze yy) .none kV41 dc41 pm41 an41 cd41 ct41), sl41⟩) (c41 : PySem.W.codeIn K cd41 "_law_cell_at" = true) (k41 : PySem.W.keepIn K (.ref f41) = true)
    (a42 : PySem.W.nsIn K mainGlobals "_law_stir" = some (some (.ref f42))) (l42 : K.lookup f42 = some ⟨oc42, od42, .func (PySem.W.fnOf "_law_stir" "_law_stir" (zv xu) (zp xu) (ze xu) .none kV42 dc42 pm42 an42 cd42 ct42), sl42⟩) (c42 : PySem.W.codeIn K cd42 "_law_stir" = true) (k42 : PySem.W.keepIn K (.ref f42) = true)
    (a43 : PySem.W.nsIn K mainGlobals "_law_kinds" = some (some (.ref f43))) (l43 : K.lookup f43 = some ⟨oc43, od43, .func (PySem.W.fnOf "_law_kinds" "_law_kinds" (zv y9) (zp y9) (ze y9) .none kV43 dc43 pm43 an43 cd43 ct43), sl43⟩) (c43 : PySem.W.codeIn K cd43 "_law_kinds" = true) (k43 : PySem.W.keepIn K (.ref f43) = true)
    (a44 : PySem.W.nsIn K mainGlobals "_law_ask" = some (some (.ref f44))) (l44 : K.lookup f44 = some ⟨oc44, od44, .func (PySem.W.fnOf "_law_ask" "_law_ask" (zv xJ) (zp xJ) (ze xJ) .none kV44 dc44 pm44 an44 cd44 ct44), sl44⟩) (c44 : PySem.W.codeIn K cd44 "_law_ask" = true) (k44 : PySem.W.keepIn K (.ref f44) = true)
    (a45 : PySem.W.nsIn K mainGlobals "_law_came" = some (some (.ref f45))) (l45 : K.lookup f45 = some ⟨oc45, od45, .func (PySem.W.fnOf "_law_came" "_law_came" (zv xp) (zp xp) (ze xp) .none kV45 dc45 pm45 an45 cd45 ct45), sl45⟩) (c45 : PySem.W.codeIn K cd45 "_law_came" = true) (k45 : PySem.W.keepIn K (.ref f45) = true)
    (a46 : PySem.W.nsIn K mainGlobals "law" = some (some (.ref f46))) (l46 : K.lookup f46 = some ⟨oc46, od46, .func (PySem.W.fnOf "law" "law" (zv Wj) (zp Wj) (ze Wj) .none kV46 dc46 pm46 an46 cd46 ct46), sl46⟩) (c46 : PySem.W.codeIn K cd46 "law" = true) (k46 : PySem.W.keepIn K (.ref f46) = true)
    (gg0 : PySem.W.nsIn K mainGlobals "MOST_PLACES" = some (some (.int 8 tk0)))
    (gg1 : PySem.W.nsIn K mainGlobals "MOST_STONES" = some (some (.int 300 tk1)))
    (gg2 : PySem.W.nsIn K mainGlobals "MOST_SEARCHED" = some (some (.int 12 tk2)))
    (sa0 : PySem.W.nsIn K mainGlobals "SIZES" = some (some (.ref sz0))) (sb0 : K.lookup sz0 = some { cls := .type "dict", data := .dict #[{ hash := hh0_0, key := .str "row" tt0_0, val := .ref rr0_0 }, { hash := hh0_1, key := .str "ring" tt0_1, val := .ref rr0_1 }, { hash := hh0_2, key := .str "cube" tt0_2, val := .ref rr0_2 }, { hash := hh0_3, key := .str "full" tt0_3, val := .ref rr0_3 }, { hash := hh0_4, key := .str "star" tt0_4, val := .ref rr0_4 }] ep0 }) (sd0 : (sz0 == sysModules) = false)
    (sc0_0 : K.lookup rr0_0 = some { cls := .type "tuple", dict := oo0_0, data := .seq #[.int 1 tu0_0_0, .int 8 tu0_0_1] nn0_0, slots := ss0_0 })
    (sc0_1 : K.lookup rr0_1 = some { cls := .type "tuple", dict := oo0_1, data := .seq #[.int 3 tu0_1_0, .int 8 tu0_1_1] nn0_1, slots := ss0_1 })
    (sc0_2 : K.lookup rr0_2 = some { cls := .type "tuple", dict := oo0_2, data := .seq #[.int 0 tu0_2_0, .int 3 tu0_2_1] nn0_2, slots := ss0_2 })
    (sc0_3 : K.lookup rr0_3 = some { cls := .type "tuple", dict := oo0_3, data := .seq #[.int 1 tu0_3_0, .int 8 tu0_3_1] nn0_3, slots := ss0_3 })
    (sc0_4 : K.lookup rr0_4 = some { cls := .type "tuple", dict := oo0_4, data := .seq #[.int 1 tu0_4_0, .int 7 tu0_4_1] nn0_4, slots := ss0_4 })
    {xx0 xx1 xx2 xx3 xx4 xx5 xx6 xx7 xx8 xx9 xx10 xx11 xx12 xx13 : Addr}
    (xa0 : PySem.W.nsIn K mainGlobals "NoKind" = some (some (.ref xx0)))
    (xa1 : PySem.W.nsIn K mainGlobals "NoHeap" = some (some (.ref xx1)))
    (xa2 : PySem.W.nsIn K mainGlobals "NoPlace" = some (some (.ref xx2)))
    (xa3 : PySem.W.nsIn K mainGlobals "NoNumber" = some (some (.ref xx3)))
    (xa4 : PySem.W.nsIn K mainGlobals "NoTally" = some (some (.ref xx4)))
    (xa5 : PySem.W.nsIn K mainGlobals "NotTree" = some (some (.ref xx5)))
    (xa6 : PySem.W.nsIn K mainGlobals "NotJoined" = some (some (.ref xx6)))
    (xa7 : PySem.W.nsIn K mainGlobals "NoWeights" = some (some (.ref xx7)))
    (xa8 : PySem.W.nsIn K mainGlobals "NoRow" = some (some (.ref xx8)))
    (xa9 : PySem.W.nsIn K mainGlobals "NoWeb" = some (some (.ref xx9)))
    (xa10 : PySem.W.nsIn K mainGlobals "NoSteps" = some (some (.ref xx10)))
    (xa11 : PySem.W.nsIn K mainGlobals "NoText" = some (some (.ref xx11)))
    (xa12 : PySem.W.nsIn K mainGlobals "TooGreat" = some (some (.ref xx12)))
    (xa13 : PySem.W.nsIn K mainGlobals "StoneError" = some (some (.ref xx13)))
    (xb1 : PySem.W.excIn K xx1 bmV "ValueError.__new__" = true) (xc1 : ZV K [xx0, xx1, xx2, xx3, xx4, xx5, xx6, xx7, xx8, xx9, xx10, xx11, xx12] xx13 xx1 1 = true)
    (xb2 : PySem.W.excIn K xx2 bmV "ValueError.__new__" = true) (xc2 : ZV K [xx0, xx1, xx2, xx3, xx4, xx5, xx6, xx7, xx8, xx9, xx10, xx11, xx12] xx13 xx2 2 = true)
    (xb3 : PySem.W.excIn K xx3 bmV "ValueError.__new__" = true) (xc3 : ZV K [xx0, xx1, xx2, xx3, xx4, xx5, xx6, xx7, xx8, xx9, xx10, xx11, xx12] xx13 xx3 3 = true)
    (z0 : PySem.W.nsIn K mainGlobals "ValueError" = some none)
    (z1 : PySem.W.nsIn K mainGlobals "all" = some none)
    (z2 : PySem.W.nsIn K mainGlobals "bool" = some none)
    (z3 : PySem.W.nsIn K mainGlobals "enumerate" = some none)
    (z4 : PySem.W.nsIn K mainGlobals "int" = some none)
    (z5 : PySem.W.nsIn K mainGlobals "isinstance" = some none)
    (z6 : PySem.W.nsIn K mainGlobals "len" = some none)
    (z7 : PySem.W.nsIn K mainGlobals "list" = some none)
    (z8 : PySem.W.nsIn K mainGlobals "max" = some none)
    (z9 : PySem.W.nsIn K mainGlobals "min" = some none)
    (z10 : PySem.W.nsIn K mainGlobals "range" = some none)
    (z11 : PySem.W.nsIn K mainGlobals "reversed" = some none)
    (z12 : PySem.W.nsIn K mainGlobals "str" = some none)
    (z13 : PySem.W.nsIn K mainGlobals "sum" = some none)
    (z14 : PySem.W.nsIn K mainGlobals "tuple" = some none)
    (z15 : PySem.W.nsIn K mainGlobals "zip" = some none)
    : ∃ fd : FuncData, (∀ (s : Shared) (v : Value), BindsTo s fd ⟨[v], []⟩ [("script", v)]) ∧ ∀ base : Heap, K.In base → base.Ns mainGlobals mg → yD l.prog w K mg base CX0 30 fa fd ["script"] (zch K) := by
  have e := hfa.symm.trans (PySem.W.mg_of X G a46)
  cases e
  have F0 := zE (st := xI) l0 c0 k0
  have F1 := zE (st := zP) l1 c1 k1
  have F2 := zE (st := ya) l2 c2 k2
  have F3 := zE (st := zR) l3 c3 k3
  have F4 := zE (st := zZ) l4 c4 k4
  have F5 := zE (st := xL) l5 c5 k5
  have F6 := zE (st := y0) l6 c6 k6
  have F7 := zE (st := wo) l7 c7 k7
  have F8 := zE (st := xG) l8 c8 k8
  have F9 := zE (st := vi) l9 c9 k9
  have F10 := zE (st := yM) l10 c10 k10
  have F11 := zE (st := yf) l11 c11 k11
  have F12 := zE (st := yJ) l12 c12 k12
  have F13 := zE (st := y8) l13 c13 k13
  have F14 := zE (st := y4) l14 c14 k14
  have F15 := zE (st := yr) l15 c15 k15
  have F16 := zE (st := xt) l16 c16 k16
  have F17 := zE (st := wk) l17 c17 k17
  have F18 := zE (st := yq) l18 c18 k18
  have F19 := zE (st := xN) l19 c19 k19
  have F20 := zE (st := yi) l20 c20 k20
  have F21 := zE (st := Yl) l21 c21 k21
  have F22 := zE (st := wn) l22 c22 k22
  have F23 := zE (st := xv) l23 c23 k23
  have F24 := zE (st := xq) l24 c24 k24
  have F25 := zE (st := xP) l25 c25 k25
  have F26 := zE (st := wl) l26 c26 k26
  have F27 := zE (st := yb) l27 c27 k27
  have F28 := zE (st := xr) l28 c28 k28
  have F29 := zE (st := yY) l29 c29 k29
  have F30 := zE (st := xS) l30 c30 k30
  have F31 := zE (st := yZ) l31 c31 k31
  have F32 := zE (st := zY) l32 c32 k32
  have F33 := zE (st := yh) l33 c33 k33
  have F34 := zE (st := yz) l34 c34 k34
  have F35 := zE (st := Ym) l35 c35 k35
  have F36 := zE (st := wX) l36 c36 k36
  have F37 := zE (st := yO) l37 c37 k37
  have F38 := zE (st := y6) l38 c38 k38
  have F39 := zE (st := yw) l39 c39 k39
  have F40 := zE (st := yN) l40 c40 k40
  have F41 := zE (st := yy) l41 c41 k41
  have F42 := zE (st := xu) l42 c42 k42
  have F43 := zE (st := y9) l43 c43 k43
  have F44 := zE (st := xJ) l44 c44 k44
  have F45 := zE (st := xp) l45 c45 k45
  have F46 := zE (st := Wj) l46 c46 k46
  have T : Txt K mg ⟨_, _, _, _, _, _, _, _, _, _, _, _, _, _, _, _, _, _, _, _, _, _, _, _, _, _, _, _, _, _, _, _, _, _, _, _, _, _, _, _, _, _, _, _, _, _, _, _, _, _, _, _, _, _, _, _, _, _, _, _, _, _, _, _, _, _, _, _, _, _, _, _, _, _, _, _, _, _, _, _, _, _, _, _, _, _, _, _, _, _, _, _, _, _, tk0, tk1, tk2, sz0, xx0, xx1, xx2, xx3, xx4, xx5, xx6, xx7, xx8, xx9, xx10, xx11, xx12, xx13⟩ := ⟨
    ⟨F0, F0.binds (ps := ["thing"]) (fun _ _ _ _ _ _ us hl => by obtain ⟨_, rfl⟩ := ZB hl; rfl), PySem.W.mg_of X G a0⟩,
    ⟨F1, F1.binds (ps := ["thing", "least", "most"]) (fun _ _ _ _ _ _ us hl => by obtain ⟨_, _, _, rfl⟩ := VI hl; rfl), PySem.W.mg_of X G a1⟩,
    ⟨F2, F2.binds (ps := ["thing", "least", "most"]) (fun _ _ _ _ _ _ us hl => by obtain ⟨_, _, _, rfl⟩ := VI hl; rfl), PySem.W.mg_of X G a2⟩,
    ⟨F3, F3.binds (ps := ["many", "most"]) (fun _ _ _ _ _ _ us hl => by obtain ⟨_, _, rfl⟩ := wV hl; rfl), PySem.W.mg_of X G a3⟩,
    ⟨F4, F4.binds (ps := ["thing"]) (fun _ _ _ _ _ _ us hl => by obtain ⟨_, rfl⟩ := ZB hl; rfl), PySem.W.mg_of X G a4⟩,
    ⟨F5, F5.binds (ps := ["many", "thing"]) (fun _ _ _ _ _ _ us hl => by obtain ⟨_, _, rfl⟩ := wV hl; rfl), PySem.W.mg_of X G a5⟩,
    ⟨F6, F6.binds (ps := ["many", "thing"]) (fun _ _ _ _ _ _ us hl => by obtain ⟨_, _, rfl⟩ := wV hl; rfl), PySem.W.mg_of X G a6⟩,
    ⟨F7, F7.binds (ps := ["many", "thing"]) (fun _ _ _ _ _ _ us hl => by obtain ⟨_, _, rfl⟩ := wV hl; rfl), PySem.W.mg_of X G a7⟩,
    ⟨F8, F8.binds (ps := ["many", "thing"]) (fun _ _ _ _ _ _ us hl => by obtain ⟨_, _, rfl⟩ := wV hl; rfl), PySem.W.mg_of X G a8⟩,
    ⟨F9, F9.binds (ps := ["thing"]) (fun _ _ _ _ _ _ us hl => by obtain ⟨_, rfl⟩ := ZB hl; rfl), PySem.W.mg_of X G a9⟩,
    ⟨F10, F10.binds (ps := ["thing"]) (fun _ _ _ _ _ _ us hl => by obtain ⟨_, rfl⟩ := ZB hl; rfl), PySem.W.mg_of X G a10⟩,
    ⟨F11, F11.binds (ps := ["web", "thing"]) (fun _ _ _ _ _ _ us hl => by obtain ⟨_, _, rfl⟩ := wV hl; rfl), PySem.W.mg_of X G a11⟩,
    ⟨F12, F12.binds (ps := ["one", "other"]) (fun _ _ _ _ _ _ us hl => by obtain ⟨_, _, rfl⟩ := wV hl; rfl), PySem.W.mg_of X G a12⟩,
    ⟨F13, F13.binds (ps := ["web", "place"]) (fun _ _ _ _ _ _ us hl => by obtain ⟨_, _, rfl⟩ := wV hl; rfl), PySem.W.mg_of X G a13⟩,
    ⟨F14, F14.binds (ps := ["web", "thing"]) (fun _ _ _ _ _ _ us hl => by obtain ⟨_, _, rfl⟩ := wV hl; rfl), PySem.W.mg_of X G a14⟩,
    ⟨F15, F15.binds (ps := ["web", "thing"]) (fun _ _ _ _ _ _ us hl => by obtain ⟨_, _, rfl⟩ := wV hl; rfl), PySem.W.mg_of X G a15⟩,
    ⟨F16, F16.binds (ps := ["web"]) (fun _ _ _ _ _ _ us hl => by obtain ⟨_, rfl⟩ := ZB hl; rfl), PySem.W.mg_of X G a16⟩,
    ⟨F17, F17.binds (ps := ["heap", "step"]) (fun _ _ _ _ _ _ us hl => by obtain ⟨_, _, rfl⟩ := wV hl; rfl), PySem.W.mg_of X G a17⟩,
    ⟨F18, F18.binds (ps := ["web", "heap"]) (fun _ _ _ _ _ _ us hl => by obtain ⟨_, _, rfl⟩ := wV hl; rfl), PySem.W.mg_of X G a18⟩,
    ⟨F19, F19.binds (ps := ["found", "heap"]) (fun _ _ _ _ _ _ us hl => by obtain ⟨_, _, rfl⟩ := wV hl; rfl), PySem.W.mg_of X G a19⟩,
    ⟨F20, F20.binds (ps := ["web", "heap", "place", "many"]) (fun _ _ _ _ _ _ us hl => by obtain ⟨_, _, _, _, rfl⟩ := zbt hl; rfl), PySem.W.mg_of X G a20⟩,
    ⟨F21, F21.binds (ps := ["web", "heap", "place", "many"]) (fun _ _ _ _ _ _ us hl => by obtain ⟨_, _, _, _, rfl⟩ := zbt hl; rfl), PySem.W.mg_of X G a21⟩,
    ⟨F22, F22.binds (ps := ["thing"]) (fun _ _ _ _ _ _ us hl => by obtain ⟨_, rfl⟩ := ZB hl; rfl), PySem.W.mg_of X G a22⟩,
    ⟨F23, F23.binds (ps := ["thing"]) (fun _ _ _ _ _ _ us hl => by obtain ⟨_, rfl⟩ := ZB hl; rfl), PySem.W.mg_of X G a23⟩,
    ⟨F24, F24.binds (ps := ["word", "size"]) (fun _ _ _ _ _ _ us hl => by obtain ⟨_, _, rfl⟩ := wV hl; rfl), PySem.W.mg_of X G a24⟩,
    ⟨F25, F25.binds (ps := ["word", "size", "one", "other"]) (fun _ _ _ _ _ _ us hl => by obtain ⟨_, _, _, _, rfl⟩ := zbt hl; rfl), PySem.W.mg_of X G a25⟩,
    ⟨F26, F26.binds (ps := ["kind"]) (fun _ _ _ _ _ _ us hl => by obtain ⟨_, rfl⟩ := ZB hl; rfl), PySem.W.mg_of X G a26⟩,
    ⟨F27, F27.binds (ps := ["d"]) (fun _ _ _ _ _ _ us hl => by obtain ⟨_, rfl⟩ := ZB hl; rfl), PySem.W.mg_of X G a27⟩,
    ⟨F28, F28.binds (ps := ["d"]) (fun _ _ _ _ _ _ us hl => by obtain ⟨_, rfl⟩ := ZB hl; rfl), PySem.W.mg_of X G a28⟩,
    ⟨F29, F29.binds (ps := ["d", "place"]) (fun _ _ _ _ _ _ us hl => by obtain ⟨_, _, rfl⟩ := wV hl; rfl), PySem.W.mg_of X G a29⟩,
    ⟨F30, F30.binds (ps := ["heap", "stones"]) (fun _ _ _ _ _ _ us hl => by obtain ⟨_, _, rfl⟩ := wV hl; rfl), PySem.W.mg_of X G a30⟩,
    ⟨F31, F31.binds (ps := ["d", "heap", "place"]) (fun _ _ _ _ _ _ us hl => by obtain ⟨_, _, _, rfl⟩ := VI hl; rfl), PySem.W.mg_of X G a31⟩,
    ⟨F32, F32.binds (ps := ["n"]) (fun _ _ _ _ _ _ us hl => by obtain ⟨_, rfl⟩ := ZB hl; rfl), PySem.W.mg_of X G a32⟩,
    ⟨F33, F33.binds (ps := ["n", "heap", "place"]) (fun _ _ _ _ _ _ us hl => by obtain ⟨_, _, _, rfl⟩ := VI hl; rfl), PySem.W.mg_of X G a33⟩,
    ⟨F34, F34.binds (ps := ["n", "place"]) (fun _ _ _ _ _ _ us hl => by obtain ⟨_, _, rfl⟩ := wV hl; rfl), PySem.W.mg_of X G a34⟩,
    ⟨F35, F35.binds (ps := ["heap", "order"]) (fun _ _ _ _ _ _ us hl => by obtain ⟨_, _, rfl⟩ := wV hl; rfl), PySem.W.mg_of X G a35⟩,
    ⟨F36, F36.binds (ps := ["n", "heap", "place"]) (fun _ _ _ _ _ _ us hl => by obtain ⟨_, _, _, rfl⟩ := VI hl; rfl), PySem.W.mg_of X G a36⟩,
    ⟨F37, F37.binds (ps := ["heap", "order", "place"]) (fun _ _ _ _ _ _ us hl => by obtain ⟨_, _, _, rfl⟩ := VI hl; rfl), PySem.W.mg_of X G a37⟩,
    ⟨F38, F38.binds (ps := ["n", "heap", "place"]) (fun _ _ _ _ _ _ us hl => by obtain ⟨_, _, _, rfl⟩ := VI hl; rfl), PySem.W.mg_of X G a38⟩,
    ⟨F39, F39.binds (ps := ["heap", "order", "numbers"]) (fun _ _ _ _ _ _ us hl => by obtain ⟨_, _, _, rfl⟩ := VI hl; rfl), PySem.W.mg_of X G a39⟩,
    ⟨F40, F40.binds (ps := ["n", "heap", "place", "thing"]) (fun _ _ _ _ _ _ us hl => by obtain ⟨_, _, _, _, rfl⟩ := zbt hl; rfl), PySem.W.mg_of X G a40⟩,
    ⟨F41, F41.binds (ps := ["script", "k"]) (fun _ _ _ _ _ _ us hl => by obtain ⟨_, _, rfl⟩ := wV hl; rfl), PySem.W.mg_of X G a41⟩,
    ⟨F42, F42.binds (ps := ["cell", "k"]) (fun _ _ _ _ _ _ us hl => by obtain ⟨_, _, rfl⟩ := wV hl; rfl), PySem.W.mg_of X G a42⟩,
    ⟨F43, F43.binds (ps := ["e"]) (fun _ _ _ _ _ _ us hl => by obtain ⟨_, rfl⟩ := ZB hl; rfl), PySem.W.mg_of X G a43⟩,
    ⟨F44, F44.binds (ps := ["way", "number", "heap", "place"]) (fun _ _ _ _ _ _ us hl => by obtain ⟨_, _, _, _, rfl⟩ := zbt hl; rfl), PySem.W.mg_of X G a44⟩,
    ⟨F45, F45.binds (ps := ["way", "number", "heap", "place"]) (fun _ _ _ _ _ _ us hl => by obtain ⟨_, _, _, _, rfl⟩ := zbt hl; rfl), PySem.W.mg_of X G a45⟩,
    ⟨F46, F46.binds (ps := ["script"]) (fun _ _ _ _ _ _ us hl => by obtain ⟨_, rfl⟩ := ZB hl; rfl), PySem.W.mg_of X G a46⟩,
    PySem.W.mg_of X G gg0,
    PySem.W.mg_of X G gg1,
    PySem.W.mg_of X G gg2,
    PySem.W.mg_none_of X G z0,
    PySem.W.mg_none_of X G z1,
    PySem.W.mg_none_of X G z2,
    PySem.W.mg_none_of X G z3,
    PySem.W.mg_none_of X G z4,
    PySem.W.mg_none_of X G z5,
    PySem.W.mg_none_of X G z6,
    PySem.W.mg_none_of X G z7,
    PySem.W.mg_none_of X G z8,
    PySem.W.mg_none_of X G z9,
    PySem.W.mg_none_of X G z10,
    PySem.W.mg_none_of X G z11,
    PySem.W.mg_none_of X G z12,
    PySem.W.mg_none_of X G z13,
    PySem.W.mg_none_of X G z14,
    PySem.W.mg_none_of X G z15,
    PySem.W.mg_of X G sa0,
    fun h hK => ⟨sd0, _, _, _, hK _ _ sb0, ⟨rfl, rfl, rfl⟩, rfl, (.cons rfl ⟨_, _, rfl, ⟨_, hK _ _ sc0_0, rfl, _, rfl⟩, (.cons (.int _ _) (.cons (.int _ _) .nil))⟩ (.cons rfl ⟨_, _, rfl, ⟨_, hK _ _ sc0_1, rfl, _, rfl⟩, (.cons (.int _ _) (.cons (.int _ _) .nil))⟩ (.cons rfl ⟨_, _, rfl, ⟨_, hK _ _ sc0_2, rfl, _, rfl⟩, (.cons (.int _ _) (.cons (.int _ _) .nil))⟩ (.cons rfl ⟨_, _, rfl, ⟨_, hK _ _ sc0_3, rfl, _, rfl⟩, (.cons (.int _ _) (.cons (.int _ _) .nil))⟩ (.cons rfl ⟨_, _, rfl, ⟨_, hK _ _ sc0_4, rfl, _, rfl⟩, (.cons (.int _ _) (.cons (.int _ _) .nil))⟩ .nil)))))⟩,
    PySem.W.mg_of X G xa0,
    PySem.W.mg_of X G xa1,
    PySem.W.mg_of X G xa2,
    PySem.W.mg_of X G xa3,
    PySem.W.mg_of X G xa4,
    PySem.W.mg_of X G xa5,
    PySem.W.mg_of X G xa6,
    PySem.W.mg_of X G xa7,
    PySem.W.mg_of X G xa8,
    PySem.W.mg_of X G xa9,
    PySem.W.mg_of X G xa10,
    PySem.W.mg_of X G xa11,
    PySem.W.mg_of X G xa12,
    PySem.W.mg_of X G xa13,
    xb1,
    xc1,
    xb2,
    xc2,
    xb3,
    xc3⟩
  exact ⟨_, fun s v => .of_eq rfl, fun base _ _ => zhx T⟩
theorem walk {l : PySem.W.OpenLaw} {q : Program} {loose : List Str} {XP : (Str → Option Value) → Heap → Prop} {YP : World → Heap → Prop} {d : DefRec} {K : Params → PySem.W.Frag} (hn : l.most = some 63) (hdf : d.params.defaults = [])
    (hY : ∀ (w : World) (h : Heap), YP w h → (K w.params).In h)
    (F : ∀ (w : World) (mg : Str → Option Value) (fa : Addr) (h : Heap), (K w.params).In h → h.Ns mainGlobals mg → mg d.name = some (.ref fa) →
      ∃ fd : FuncData, (∀ (s : Shared) (u : Value), BindsTo s fd ⟨[u], []⟩ [("script", u)]) ∧ ∀ base : Heap, (K w.params).In base → base.Ns mainGlobals mg → yD l.prog w (K w.params) mg base CX0 30 fa fd ["script"] (zch (K w.params))) :
    PySem.W.WalkO q loose XP YP l.row.toRowW d [] (fun f vs => PySem.call f vs) :=
  L2.walk_of (n := 63) (k := 30) (x := "script") (CX := fun _ => CX0) (sp := fun w => zch (K w.params)) hn (by decide) hdf ⟨rfl, by decide, by decide⟩ hY F (fun _ _ a ns hl _ hS => ⟨a, ns, rfl, hS, hl, fun _ => rfl⟩) fun _ _ _ _ _ z => z
end Mz
open PySem PySem.W PyProof.Rows
theorem PySem.W.Fast.tw10275904123331799923 : True := trivial
theorem PySem.W.Fast.tw13352079522727865022 : True := trivial
theorem PySem.W.Fast.tw9573657467908669015 : True := trivial
theorem PySem.W.Fast.tw11264154297824421969 : True := trivial
theorem PySem.W.Fast.tw8035046287424149672 : True := trivial
theorem PySem.W.Fast.tw7749929695229245513 : True := trivial
theorem PySem.W.Fast.tw2172851468938472401 : True := trivial
theorem PySem.W.Fast.tw14183910518252317819 : True := trivial
theorem PySem.W.Fast.tw4680700745497783596 : True := trivial
theorem PySem.W.Fast.tw15491713146638165130 : True := trivial
theorem PySem.W.Fast.tw572826582233481194 : True := trivial
theorem PySem.W.Fast.tw14883314234262787616 : True := trivial
theorem PySem.W.Fast.tw18240199420698222401 : True := trivial
theorem PySem.W.Fast.tw6380269104853980267 : True := trivial
theorem PySem.W.Fast.tw5661897117251189840 : True := trivial
theorem PySem.W.Fast.tw2333765015416264711 : True := trivial
theorem PySem.W.Fast.tw13712766061975305235 : True := trivial
theorem PySem.W.Fast.tw5245684973031476610 : True := trivial
theorem PySem.W.Fast.tw3996148026946167996 : True := trivial
theorem PySem.W.Fast.tw15899281699352180119 : True := trivial
theorem PySem.W.Fast.tw3711242043070291482 : True := trivial
theorem PySem.W.Fast.tw1388857747580302260 : True := trivial
theorem PySem.W.Fast.tw16025074933246719630 : True := trivial
theorem PySem.W.Fast.tw7541417494165719102 : True := trivial
theorem PySem.W.Fast.tw4784448963545602454 : True := trivial
theorem PySem.W.Fast.tw10112986499194729353 : True := trivial
theorem PySem.W.Fast.tw10981111190944438091 : True := trivial
theorem PySem.W.Fast.tw461253099631536377 : True := trivial
theorem PySem.W.Fast.tw8614582965624065210 : True := trivial
theorem PySem.W.Fast.tw11362416497914492008 : True := trivial
theorem PySem.W.Fast.tw13776375318267277073 : True := trivial
theorem PySem.W.Fast.tw7485659285190116496 : True := trivial
theorem PySem.W.Fast.tw16093858181827523501 : True := trivial
theorem PySem.W.Fast.tw11064433659886199170 : True := trivial
theorem PySem.W.Fast.tw8858111154649387589 : True := trivial
theorem PySem.W.Fast.tw2068512456508180851 : True := trivial
theorem PySem.W.Fast.tw6766223467671076322 : True := trivial
set_option maxRecDepth 100000 in
set_option maxHeartbeats 0 in
theorem PySem.Challenge.cw_twoforone_k56_refused_of_rings_and_cubes_holds : PySem.Challenge.rw_twoforone_k56_refused_of_rings_and_cubes.Holds := by
  w_on; o_law; k_head; (case hw => w_witness2)
  k_fill
  refine Mz.walk (l := PySem.Challenge.rw_twoforone_k56_refused_of_rings_and_cubes) rfl rfl (fun w h Y => PySem.W.kIn_of Y) ?F
  case F =>
    intro w mg fa h KX G hmg
    refine' Mz.all_mk KX G hmg ?a0 ?l0 ?c0 ?k0 ?a1 ?l1 ?c1 ?k1 ?a2 ?l2 ?c2 ?k2 ?a3 ?l3 ?c3 ?k3 ?a4 ?l4 ?c4 ?k4 ?a5 ?l5 ?c5 ?k5 ?a6 ?l6 ?c6 ?k6 ?a7 ?l7 ?c7 ?k7 ?a8 ?l8 ?c8 ?k8 ?a9 ?l9 ?c9 ?k9 ?a10 ?l10 ?c10 ?k10 ?a11 ?l11 ?c11 ?k11 ?a12 ?l12 ?c12 ?k12 ?a13 ?l13 ?c13 ?k13 ?a14 ?l14 ?c14 ?k14 ?a15 ?l15 ?c15 ?k15 ?a16 ?l16 ?c16 ?k16 ?a17 ?l17 ?c17 ?k17 ?a18 ?l18 ?c18 ?k18 ?a19 ?l19 ?c19 ?k19 ?a20 ?l20 ?c20 ?k20 ?a21 ?l21 ?c21 ?k21 ?a22 ?l22 ?c22 ?k22 ?a23 ?l23 ?c23 ?k23 ?a24 ?l24 ?c24 ?k24 ?a25 ?l25 ?c25 ?k25 ?a26 ?l26 ?c26 ?k26 ?a27 ?l27 ?c27 ?k27 ?a28 ?l28 ?c28 ?k28 ?a29 ?l29 ?c29 ?k29 ?a30 ?l30 ?c30 ?k30 ?a31 ?l31 ?c31 ?k31 ?a32 ?l32 ?c32 ?k32 ?a33 ?l33 ?c33 ?k33 ?a34 ?l34 ?c34 ?k34 ?a35 ?l35 ?c35 ?k35 ?a36 ?l36 ?c36 ?k36 ?a37 ?l37 ?c37 ?k37 ?a38 ?l38 ?c38 ?k38 ?a39 ?l39 ?c39 ?k39 ?a40 ?l40 ?c40 ?k40 ?a41 ?l41 ?c41 ?k41 ?a42 ?l42 ?c42 ?k42 ?a43 ?l43 ?c43 ?k43 ?a44 ?l44 ?c44 ?k44 ?a45 ?l45 ?c45 ?k45 ?a46 ?l46 ?c46 ?k46 ?gg0 ?gg1 ?gg2 ?sa0 ?sb0 ?sd0 ?sc0_0 ?sc0_1 ?sc0_2 ?sc0_3 ?sc0_4 ?xa0 ?xa1 ?xa2 ?xa3 ?xa4 ?xa5 ?xa6 ?xa7 ?xa8 ?xa9 ?xa10 ?xa11 ?xa12 ?xa13 ?xb1 ?xc1 ?xb2 ?xc2 ?xb3 ?xc3 ?z0 ?z1 ?z2 ?z3 ?z4 ?z5 ?z6 ?z7 ?z8 ?z9 ?z10 ?z11 ?z12 ?z13 ?z14 ?z15
    (case a0 => k_is)
    (case l0 => k_is)
    (case c0 => k_is)
    (case k0 => k_is)
    (case a1 => k_is)
    (case l1 => k_is)
    (case c1 => k_is)
    (case k1 => k_is)
    (case a2 => k_is)
    (case l2 => k_is)
    (case c2 => k_is)
    (case k2 => k_is)
    (case a3 => k_is)
    (case l3 => k_is)
    (case c3 => k_is)
    (case k3 => k_is)
    (case a4 => k_is)
    (case l4 => k_is)
    (case c4 => k_is)
    (case k4 => k_is)
    (case a5 => k_is)
    (case l5 => k_is)
    (case c5 => k_is)
    (case k5 => k_is)
    (case a6 => k_is)
    (case l6 => k_is)
    (case c6 => k_is)
    (case k6 => k_is)
    (case a7 => k_is)
    (case l7 => k_is)
    (case c7 => k_is)
    (case k7 => k_is)
    (case a8 => k_is)
    (case l8 => k_is)
    (case c8 => k_is)
    (case k8 => k_is)
    (case a9 => k_is)
    (case l9 => k_is)
    (case c9 => k_is)
    (case k9 => k_is)
    (case a10 => k_is)
    (case l10 => k_is)
    (case c10 => k_is)
    (case k10 => k_is)
    (case a11 => k_is)
    (case l11 => k_is)
    (case c11 => k_is)
    (case k11 => k_is)
    (case a12 => k_is)
    (case l12 => k_is)
    (case c12 => k_is)
    (case k12 => k_is)
    (case a13 => k_is)
    (case l13 => k_is)
    (case c13 => k_is)
    (case k13 => k_is)
    (case a14 => k_is)
    (case l14 => k_is)
    (case c14 => k_is)
    (case k14 => k_is)
    (case a15 => k_is)
    (case l15 => k_is)
    (case c15 => k_is)
    (case k15 => k_is)
    (case a16 => k_is)
    (case l16 => k_is)
    (case c16 => k_is)
    (case k16 => k_is)
    (case a17 => k_is)
    (case l17 => k_is)
    (case c17 => k_is)
    (case k17 => k_is)
    (case a18 => k_is)
    (case l18 => k_is)
    (case c18 => k_is)
    (case k18 => k_is)
    (case a19 => k_is)
    (case l19 => k_is)
    (case c19 => k_is)
    (case k19 => k_is)
    (case a20 => k_is)
    (case l20 => k_is)
    (case c20 => k_is)
    (case k20 => k_is)
    (case a21 => k_is)
    (case l21 => k_is)
    (case c21 => k_is)
    (case k21 => k_is)
    (case a22 => k_is)
    (case l22 => k_is)
    (case c22 => k_is)
    (case k22 => k_is)
    (case a23 => k_is)
    (case l23 => k_is)
    (case c23 => k_is)
    (case k23 => k_is)
    (case a24 => k_is)
    (case l24 => k_is)
    (case c24 => k_is)
    (case k24 => k_is)
    (case a25 => k_is)
    (case l25 => k_is)
    (case c25 => k_is)
    (case k25 => k_is)
    (case a26 => k_is)
    (case l26 => k_is)
    (case c26 => k_is)
    (case k26 => k_is)
    (case a27 => k_is)
    (case l27 => k_is)
    (case c27 => k_is)
    (case k27 => k_is)
    (case a28 => k_is)
    (case l28 => k_is)
    (case c28 => k_is)
    (case k28 => k_is)
    (case a29 => k_is)
    (case l29 => k_is)
    (case c29 => k_is)
    (case k29 => k_is)
    (case a30 => k_is)
    (case l30 => k_is)
    (case c30 => k_is)
    (case k30 => k_is)
    (case a31 => k_is)
    (case l31 => k_is)
    (case c31 => k_is)
    (case k31 => k_is)
    (case a32 => k_is)
    (case l32 => k_is)
    (case c32 => k_is)
    (case k32 => k_is)
    (case a33 => k_is)
    (case l33 => k_is)
    (case c33 => k_is)
    (case k33 => k_is)
    (case a34 => k_is)
    (case l34 => k_is)
    (case c34 => k_is)
    (case k34 => k_is)
    (case a35 => k_is)
    (case l35 => k_is)
    (case c35 => k_is)
    (case k35 => k_is)
    (case a36 => k_is)
    (case l36 => k_is)
    (case c36 => k_is)
    (case k36 => k_is)
    (case a37 => k_is)
    (case l37 => k_is)
    (case c37 => k_is)
    (case k37 => k_is)
    (case a38 => k_is)
    (case l38 => k_is)
    (case c38 => k_is)
    (case k38 => k_is)
    (case a39 => k_is)
    (case l39 => k_is)
    (case c39 => k_is)
    (case k39 => k_is)
    (case a40 => k_is)
    (case l40 => k_is)
    (case c40 => k_is)
    (case k40 => k_is)
    (case a41 => k_is)
    (case l41 => k_is)
    (case c41 => k_is)
    (case k41 => k_is)
    (case a42 => k_is)
    (case l42 => k_is)
    (case c42 => k_is)
    (case k42 => k_is)
    (case a43 => k_is)
    (case l43 => k_is)
    (case c43 => k_is)
    (case k43 => k_is)
    (case a44 => k_is)
    (case l44 => k_is)
    (case c44 => k_is)
    (case k44 => k_is)
    (case a45 => k_is)
    (case l45 => k_is)
    (case c45 => k_is)
    (case k45 => k_is)
    (case a46 => k_is)
    (case l46 => k_is)
    (case c46 => k_is)
    (case k46 => k_is)
    (case gg0 => k_is)
    (case gg1 => k_is)
    (case gg2 => k_is)
    (case sa0 => k_is)
    (case sb0 => k_is)
    (case sd0 => decide)
    (case sc0_0 => k_is)
    (case sc0_1 => k_is)
    (case sc0_2 => k_is)
    (case sc0_3 => k_is)
    (case sc0_4 => k_is)
    (case xa0 => k_is)
    (case xa1 => k_is)
    (case xa2 => k_is)
    (case xa3 => k_is)
    (case xa4 => k_is)
    (case xa5 => k_is)
    (case xa6 => k_is)
    (case xa7 => k_is)
    (case xa8 => k_is)
    (case xa9 => k_is)
    (case xa10 => k_is)
    (case xa11 => k_is)
    (case xa12 => k_is)
    (case xa13 => k_is)
    (case xb1 => kernel_rfl)
    (case xc1 => kernel_rfl)
    (case xb2 => kernel_rfl)
    (case xc2 => kernel_rfl)
    (case xb3 => kernel_rfl)
    (case xc3 => kernel_rfl)
    (case z0 => k_is)
    (case z1 => k_is)
    (case z2 => k_is)
    (case z3 => k_is)
    (case z4 => k_is)
    (case z5 => k_is)
    (case z6 => k_is)
    (case z7 => k_is)
    (case z8 => k_is)
    (case z9 => k_is)
    (case z10 => k_is)
    (case z11 => k_is)
    (case z12 => k_is)
    (case z13 => k_is)
    (case z14 => k_is)
    (case z15 => k_is)
