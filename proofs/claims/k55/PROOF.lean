import PyProof.Rows.All
import Wide.All
import OpenK.AllK
import Wide.FinOn
import Lean
import PyProof.EqAt
import PyProof.EqKinds
import PyProof.TupleCall
import PyProof.NeKinds
import PySem.Challenge.RW_twoforone_k55_whole_cubes_are_reached
set_option Elab.async false
set_option linter.all false
set_option maxRecDepth 100000
set_option maxHeartbeats 4000000
namespace L2
open PySem PySem.Spec PyProof.Rows
noncomputable abbrev Key := Sum Int Str
noncomputable def zdu : Key → Value → Bool
  | .inl k, v => Value.isInt k v
  | .inr x, v => Value.isStrOf x v
noncomputable def keyH (w : World) : Key → Int
  | .inl k => hashInt k
  | .inr x => hashStr w x
theorem yt : ∀ {k : Key} {v : Value}, zdu k v = true → (∃ i t, k = Sum.inl i ∧ v = Value.int i t) ∨ (∃ x t, k = Sum.inr x ∧ v = Value.str x t)
  | .inl i, v, h => by
    obtain ⟨t, e⟩ := Value.isInt_shape (k := i) (v := v) h
    exact .inl ⟨i, t, rfl, e⟩
  | .inr x, v, h => by
    obtain ⟨t, e⟩ := Value.isStrOf_shape (x := x) (v := v) h
    exact .inr ⟨x, t, rfl, e⟩
theorem zfa (i : Int) (t : Tok) : zdu (.inl i) (.int i t) = true := by simp [zdu, Value.isInt]
theorem zdT (x : Str) (t : Tok) : zdu (.inr x) (.str x t) = true := by simp [zdu, Value.isStrOf]
theorem zjb (a b : Int) : decide ((Sum.inl a : Key) = Sum.inl b) = (a == b) := by
  by_cases e : a = b
  · subst e; simp
  · have h : ¬ (Sum.inl a : Key) = Sum.inl b := fun q => e (Sum.inl.inj q)
    rw [decide_eq_false h]
    exact (beq_eq_false_iff_ne.mpr e).symm
theorem zkh (a b : Str) : decide ((Sum.inr a : Key) = Sum.inr b) = decide (a = b) := by
  by_cases e : a = b
  · subst e; simp
  · have h : ¬ (Sum.inr a : Key) = Sum.inr b := fun q => e (Sum.inr.inj q)
    rw [decide_eq_false h, decide_eq_false e]
theorem zjP (a : Int) (b : Str) : decide ((Sum.inl a : Key) = Sum.inr b) = false := decide_eq_false (fun q => nomatch q)
theorem zj5 (a : Str) (b : Int) : decide ((Sum.inr a : Key) = Sum.inl b) = false := decide_eq_false (fun q => nomatch q)
noncomputable def yO (prog : Program) (w : World) : PySem.KeyKind prog w Key where
  is := zdu
  hash := keyH w
  inj := fun v a b ha hb => by
    rcases yt ha with ⟨i, t, rfl, rfl⟩ | ⟨x, t, rfl, rfl⟩
    · rcases yt hb with ⟨j, u, rfl, e⟩ | ⟨y, u, rfl, e⟩
      · injection e with e1 _; rw [e1]
      · exact nomatch e
    · rcases yt hb with ⟨j, u, rfl, e⟩ | ⟨y, u, rfl, e⟩
      · exact nomatch e
      · injection e with e1 _; rw [e1]
  byValue := fun k v h => by
    rcases yt h with ⟨i, t, rfl, rfl⟩ | ⟨x, t, rfl, rfl⟩ <;> rfl
  pyHash := fun hv h => by
    rcases yt hv with ⟨i, t, rfl, rfl⟩ | ⟨x, t, rfl, rfl⟩
    · exact wpAny_pyHash_int h
    · exact wpAny_pyHash_str h
  eqBool := fun hu hv h => by
    rcases yt hu with ⟨i, t, rfl, rfl⟩ | ⟨x, t, rfl, rfl⟩
    · rcases yt hv with ⟨j, u, rfl, rfl⟩ | ⟨y, u, rfl, rfl⟩
      · rw [zjb] at h; exact wpAny_eqBool_int h
      · rw [zjP] at h; exact SeqAt.EqAt.int_str i t y u _ _ _ _ h
    · rcases yt hv with ⟨j, u, rfl, rfl⟩ | ⟨y, u, rfl, rfl⟩
      · rw [zj5] at h; exact SeqAt.EqAt.str_int x t j u _ _ _ _ h
      · rw [zkh] at h; exact wpAny_eqBool_str h
  «strs» := fun k x t v h => by
    rcases yt h with ⟨i, u, rfl, e⟩ | ⟨y, u, rfl, e⟩
    · exact nomatch e
    · injection e with e1 _
      subst e1
      cases v <;> rfl
theorem zbR (prog : Program) (w : World) (i : Int) (t : Tok) : (yO prog w).is (.inl i) (.int i t) = true := zfa i t
theorem zbK (prog : Program) (w : World) (x : Str) (t : Tok) : (yO prog w).is (.inr x) (.str x t) = true := zdT x t
inductive V where
  | non | bl (b : Bool) | int (i : Int) | str (x : Str) | byt (b : Array UInt8) | flt (b : UInt64) | ref (a : Addr) | ty (n : String)
  deriving DecidableEq
noncomputable def yN : V → Value → Prop
  | .non, u => u = Value.none
  | .bl b, u => u = Value.bool b
  | .int i, u => ∃ t, u = Value.int i t
  | .str x, u => ∃ t, u = Value.str x t
  | .byt b, u => ∃ t, u = Value.bytes b t
  | .flt b, u => ∃ t, u = Value.float b t
  | .ref a, u => u = Value.ref a
  | .ty n, u => u = Value.type n
noncomputable abbrev yx : List V → List Value → Prop := Paired yN
theorem yx.length {xs : List V} {us : List Value} (r : yx xs us) : xs.length = us.length := Paired.length r
theorem yx.get : ∀ {xs : List V} {us : List Value} {i : Nat} {x : V}, yx xs us → xs[i]? = some x → ∃ u, us[i]? = some u ∧ yN x u
  | _, _, _, _, .nil, e => by simp at e
  | _, _, 0, _, .cons r _, e => by simp at e; subst e; exact ⟨_, rfl, r⟩
  | _, _, i + 1, x, .cons _ t, e => by
    obtain ⟨u, h1, h2⟩ := yx.get (i := i) (x := x) t (by simpa using e)
    exact ⟨u, by simpa using h1, h2⟩
theorem yx.set {x : V} {u : Value} (r : yN x u) : ∀ {xs : List V} {us : List Value} (i : Nat), yx xs us → yx (xs.set i x) (us.set i u)
  | _, _, _, .nil => .nil
  | _, _, 0, .cons _ t => .cons r t
  | _, _, i + 1, .cons q t => .cons q (yx.set r i t)
theorem yx.append : ∀ {xs ys : List V} {us ws : List Value}, yx xs us → yx ys ws → yx (xs ++ ys) (us ++ ws) := by
  intro xs ys us ws h s
  induction h with
  | nil => exact s
  | cons r t ih => exact .cons r ih
theorem yx.take : ∀ {xs : List V} {us : List Value} (n : Nat), yx xs us → yx (xs.take n) (us.take n)
  | _, _, 0, _ => .nil
  | _, _, _ + 1, .nil => .nil
  | _, _, n + 1, .cons r t => .cons r (yx.take n t)
theorem yx.drop : ∀ {xs : List V} {us : List Value} (n : Nat), yx xs us → yx (xs.drop n) (us.drop n)
  | _, _, 0, r => r
  | _, _, _ + 1, .nil => .nil
  | _, _, n + 1, .cons _ t => yx.drop n t
noncomputable def zdG : Option V → Option Value → Prop
  | some v, some u => yN v u
  | none, none => True
  | _, _ => False
noncomputable def KV {κ : Type} : List (κ × V) → List (κ × Value) → Prop := Paired fun (p : κ × V) (q : κ × Value) => p.1 = q.1 ∧ yN p.2 q.2
noncomputable def kV : Key → V
  | .inl i => .int i
  | .inr x => .str x
inductive HO where
    | lst (xs : List V)
    | tup (xs : List V)
    | dK (kvs : List (Key × V)) | dT (kvs : List (List Key × V))
    | set (S : Int → Bool) (n : Nat)
    | ins (C dx : Addr) (fs : List (Str × V))
    | own (x : Addr)
    | xd (fs : List (Str × V))
    | met (f x : Addr)
    | rng (lo hi : Int)
    | frz (o : Obj) (u : HO)
    | tbl (ps : Array Value)
    | ext (φ : Heap → Prop)
noncomputable abbrev Hp := Addr → Option HO
noncomputable def upd (H : Hp) (a : Addr) (o : HO) : Hp := fun b => if b = a then some o else H b
theorem zt {H : Hp} {a : Addr} {o : HO} : upd H a o a = some o := by unfold upd; rw [if_pos rfl]
theorem zw {H : Hp} {a b : Addr} {o : HO} (h : b ≠ a) : upd H a o b = H b := by unfold upd; rw [if_neg h]
theorem zbg {H : Hp} {a : Addr} {o u : HO} : upd (upd H a o) a u = upd H a u := by
  funext b; unfold upd; split <;> rfl
theorem zhF {H : Hp} {a b : Addr} {o u : HO} (h : H a = some o) (h' : H b = some u) (d : o ≠ u) : a ≠ b := by
  intro e; subst e; rw [h] at h'; exact d (Option.some.inj h')
theorem zq {H : Hp} {a b : Addr} {o : HO} (h : H a = some o) (h' : H b = none) : a ≠ b := by
  intro e; subst e; rw [h] at h'; cases h'
section
variable (P : Program) (w : World)
noncomputable def yZ (H : Hp) (h : Heap) (a : Addr) : HO → Prop
  | .lst xs => xs.length ≤ sizeLine ∧ ∃ (its : List Value) (n : Nat), yx xs its ∧ h.get? a = some { cls := .type "list", data := .seq its.toArray n }
  | .tup xs => xs.length ≤ sizeLine ∧ ∃ its : List Value, yx xs its ∧ IsTup h a its.toArray
  | .dK kvs => kvs.length ≤ sizeLine ∧ (a == sysModules) = false ∧ ∃ vs, KV kvs vs ∧ h.DictOf (yO P w) a vs
  | .dT kvs => kvs.length ≤ sizeLine ∧ (a == sysModules) = false ∧ ∃ xs : List (List Key × Addr × Value),
      Paired (fun (p : List Key × V) (q : List Key × Addr × Value) => p.1 = q.1 ∧ H q.2.1 = some (.tup (p.1.map kV)) ∧ yN p.2 q.2.2) kvs xs ∧
      ∃ o es ep, h.get? a = some o ∧ o.ExactDict ∧ o.data = .dict es ep ∧ es.toList = xs.map (entryOfKey (tupleKind (yO P w))) ∧ (xs.map (·.1)).Nodup
  | .set S n => h.SetOf (intKind P w) a S n
  | .ins C dx fs => H dx = some (.own a) ∧ fs.length ≤ 1000 ∧ dx ≠ a ∧ h.get? a = some (PySem.W.instObj C dx) ∧
      ∃ mA, h.Ns1 dx mA ∧ (∀ f, zdG (fs.lookup f) (mA f)) ∧ PySem.Within mA (fs.map (·.1))
  | .own _ => ∃ o, h.get? a = some o
  | .xd fs => ∃ mA, h.Ns1 a mA ∧ ∀ f, zdG (fs.lookup f) (mA f)
  | .rng lo hi => ∃ t u v, h.get? a = some { cls := .type "range", data := .fields #[.int lo t, .int hi u, .int 1 v] }
  | .frz o u => h.get? a = some o ∧ yZ H h a u
  | .tbl ps => h.get? a = some { cls := .none, data := .fields ps }
  | .met f x => h.get? a = some (PySem.W.methodObj (.ref f) (.ref x))
  | .ext φ => φ h ∧ (∃ o, h.get? a = some o) ∧ ∀ h1 h2 : Heap, φ h1 → (∀ o, h1.get? a = some o → h2.get? a = some o) → φ h2
noncomputable def HOk (H : Hp) (h : Heap) : Prop := ∀ a o, H a = some o → yZ P w H h a o
end
section
variable {P : Program} {w : World} {H H' : Hp} {h h' : Heap} {a : Addr} {o : HO}
theorem yZ.lt (x : yZ P w H h a o) : a < h.objs.size := by
  cases o with
  | lst xs => obtain ⟨_, _, _, _, e⟩ := x; exact Heap.lt_size e
  | tup xs => obtain ⟨_, _, _, p⟩ := x; exact p.lt
  | dK kvs => obtain ⟨_, _, _, _, o, _, _, e, _⟩ := x; exact Heap.lt_size e
  | dT kvs => obtain ⟨_, _, _, _, o, _, _, e, _⟩ := x; exact Heap.lt_size e
  | set S n => obtain ⟨o, _, _, _, e, _⟩ := x; exact Heap.lt_size e
  | ins C dx fs => obtain ⟨_, _, _, e, _⟩ := x; exact Heap.lt_size e
  | own y => obtain ⟨_, e⟩ := x; exact Heap.lt_size e
  | xd fs => obtain ⟨_, ⟨_, _, _, e, _⟩, _⟩ := x; exact Heap.lt_size e
  | rng lo hi => obtain ⟨_, _, _, e⟩ := x; exact Heap.lt_size e
  | frz ob u => obtain ⟨e, _⟩ := x; exact Heap.lt_size e
  | tbl ps => exact Heap.lt_size (show h.get? a = some _ from x)
  | met f y => exact Heap.lt_size (show h.get? a = some _ from x)
  | ext φ => obtain ⟨_, ⟨_, e⟩, _⟩ := x; exact Heap.lt_size e
theorem Paired.mapP {α β : Type} {F G : α → β → Prop} : ∀ {l₁ : List α} {l₂ : List β}, Paired F l₁ l₂ → (∀ a b, F a b → G a b) → Paired G l₁ l₂ := by
  intro l1 l2 h f
  induction h with
  | nil => exact .nil
  | cons r t ih => exact .cons (f _ _ r) ih
theorem yZ.stay (x : yZ P w H h a o) (k : ∀ b u, (b = a ∨ H b = some (.own a)) → h.get? b = some u → h'.get? b = some u)
    (ho : ∀ b, H b = some (.own a) → H' b = some (.own a)) (ht : ∀ b xs, H b = some (.tup xs) → H' b = some (.tup xs)) : yZ P w H' h' a o := by
  induction o with
  | lst xs => obtain ⟨z, its, n, r, e⟩ := x; exact ⟨z, its, n, r, k _ _ (.inl rfl) e⟩
  | tup xs => obtain ⟨z, its, r, ob, e, c⟩ := x; exact ⟨z, its, r, ob, k _ _ (.inl rfl) e, c⟩
  | dK kvs => obtain ⟨z, y, vs, r, ob, es, ep, e, c⟩ := x; exact ⟨z, y, vs, r, ob, es, ep, k _ _ (.inl rfl) e, c⟩
  | dT kvs =>
    obtain ⟨z, y, xs, r, ob, es, ep, e, c⟩ := x
    exact ⟨z, y, xs, Paired.mapP r fun p q z => ⟨z.1, ht _ _ z.2.1, z.2.2⟩, ob, es, ep, k _ _ (.inl rfl) e, c⟩
  | set S n => obtain ⟨ob, es, ep, t, e, c⟩ := x; exact ⟨ob, es, ep, t, k _ _ (.inl rfl) e, c⟩
  | ins C dx fs =>
    obtain ⟨d, z, ne, e, mA, ⟨od, es, ep, e2, c⟩, r⟩ := x
    exact ⟨ho _ d, z, ne, k _ _ (.inl rfl) e, mA, ⟨od, es, ep, k _ _ (.inr d) e2, c⟩, r⟩
  | own y => obtain ⟨ob, e⟩ := x; exact ⟨ob, k _ _ (.inl rfl) e⟩
  | xd fs => obtain ⟨mA, ⟨od, es, ep, e, c⟩, r⟩ := x; exact ⟨mA, ⟨od, es, ep, k _ _ (.inl rfl) e, c⟩, r⟩
  | rng lo hi => obtain ⟨t, u, v, e⟩ := x; exact ⟨t, u, v, k _ _ (.inl rfl) e⟩
  | frz ob u ih => obtain ⟨e, q⟩ := x; exact ⟨k _ _ (.inl rfl) e, ih q⟩
  | tbl ps =>
    have e : h.get? a = some { cls := .none, data := .fields ps } := x
    show h'.get? a = some { cls := .none, data := .fields ps }
    exact k a _ (.inl rfl) e
  | met f y =>
    have e : h.get? a = some (PySem.W.methodObj (.ref f) (.ref y)) := x
    show h'.get? a = some (PySem.W.methodObj (.ref f) (.ref y))
    exact k a _ (.inl rfl) e
  | ext φ => obtain ⟨p, ⟨o, e⟩, st⟩ := x; exact ⟨st _ _ p fun o q => k _ _ (.inl rfl) q, ⟨o, k _ _ (.inl rfl) e⟩, st⟩
theorem HOk.lt (x : HOk P w H h) (e : H a = some o) : a < h.objs.size := (x a o e).lt
theorem HOk.fresh (x : HOk P w H h) (e : h.objs.size ≤ a) : H a = none := by
  cases q : H a with
  | none => rfl
  | some u => exact absurd (Nat.lt_of_lt_of_le (x.lt q) e) (Nat.lt_irrefl _)
theorem HOk.kept (x : HOk P w H h) (k : ∀ b u, h.get? b = some u → h'.get? b = some u) : HOk P w H h' := fun a o e =>
  (x a o e).stay (fun b u _ q => k b u q) (fun _ q => q) fun _ _ q => q
theorem HOk.laid (x : HOk P w H h) (k : ∀ b u, h.get? b = some u → h'.get? b = some u) (hp : h.objs.size ≤ a) (new : yZ P w (upd H a o) h' a o) : HOk P w (upd H a o) h' := fun b u e => by
  have hn := x.fresh hp
  by_cases hb : b = a
  · subst hb; rw [zt] at e; cases e; exact new
  · rw [zw hb] at e
    exact (x b u e).stay (fun c v _ q => k c v q) (fun c q => by rw [zw (zq q hn)]; exact q) fun c xs q => by rw [zw (zq q hn)]; exact q
end
noncomputable def Rd (H : Hp) (a : Addr) (u : HO) : Prop := H a = some u ∨ ∃ o, H a = some (.frz o u)
theorem Rd.ok {P : Program} {w : World} {H : Hp} {h : Heap} {a : Addr} {u : HO} (r : Rd H a u) (x : HOk P w H h) : yZ P w H h a u := by
  rcases r with r | ⟨o, r⟩
  · exact x a u r
  · obtain ⟨_, q⟩ := x a _ r
    exact q
noncomputable def Mut : Option HO → Prop
  | some (.lst _) => True
  | some (.dK _) => True
  | some (.dT _) => True
  | some (.set _ _) => True
  | some (.ins _ _ _) => True
  | some (.ext _) => True
  | _ => False
section
variable {P : Program} {w : World} {H : Hp} {h h' : Heap} {x e : Addr} {o' : HO}
theorem HOk.write (ok : HOk P w H h) (mu : Mut (H x)) (he : e = x ∨ H e = some (.own x)) (k : ∀ b u, b ≠ e → h.get? b = some u → h'.get? b = some u) (heo : ∃ u, h'.get? e = some u)
    (new : yZ P w (upd H x o') h' x o') : HOk P w (upd H x o') h' := fun b u q => by
  have nown : ∀ c y, H c = some (.own y) → c ≠ x := fun c y r z => by subst z; rw [r] at mu; exact mu
  have ntup : ∀ c xs, H c = some (.tup xs) → c ≠ x := fun c xs r z => by subst z; rw [r] at mu; exact mu
  by_cases hb : b = x
  · subst hb; rw [zt] at q; cases q; exact new
  · rw [zw hb] at q
    by_cases hbe : b = e
    · have q' : H b = some (.own x) := by
        rcases he with z | z
        · exact absurd (hbe.trans z) hb
        · rw [hbe]; exact z
      rw [q] at q'; cases q'
      obtain ⟨v, hv⟩ := heo
      exact ⟨v, by rw [hbe]; exact hv⟩
    · refine (ok b u q).stay (fun c v hc r => k c v ?_ r) (fun c r => by rw [zw (nown c b r)]; exact r) fun c xs r => by rw [zw (ntup c xs r)]; exact r
      rcases hc with rfl | hc
      · exact hbe
      · rintro rfl
        rcases he with z | z
        · exact nown c b hc z
        · rw [hc] at z; cases z; exact hb rfl
end
set_option genInjectivity false in
set_option genSizeOf false in
set_option genCtorIdx false in
structure Un (fs ex : List Addr) (H H' : Hp) (h h' : Heap) : Prop where
  keep : ∀ b o, h.get? b = some o → H b = none → b ∉ fs → b ∉ ex → h'.get? b = some o
  slot : ∀ b o, h.get? b = some o → H b = none → b ∈ fs → b ∉ ex → ∃ sl, h'.get? b = some { o with slots := sl }
  free : ∀ b o, h.get? b = some o → H b = none → b ∉ ex → H' b = none
  there : ∀ b o, h.get? b = some o → b ∉ ex → ∃ o', h'.get? b = some o'
  tups : ∀ b xs, H b = some (.tup xs) → H' b = some (.tup xs)
  frzs : ∀ b o u, H b = some (.frz o u) → H' b = some (.frz o u)
  tbls : ∀ b ps, H b = some (.tbl ps) → ∃ more, H' b = some (.tbl (ps ++ more))
section
variable {fs fs' ex ex' : List Addr} {H H1 H2 : Hp} {h h1 h2 h' : Heap} {a x e : Addr} {o : HO}
theorem Un.any (u : Un fs ex H H1 h h1) {b : Addr} {ob : Obj} (q : h.get? b = some ob) (n : H b = none) (hx : b ∉ ex) : ∃ sl, h1.get? b = some { ob with slots := sl } := by
  by_cases hb : b ∈ fs
  · exact u.slot b ob q n hb hx
  · exact ⟨ob.slots, u.keep b ob q n hb hx⟩
theorem Un.kept (k : ∀ b u, h.get? b = some u → h'.get? b = some u) : Un fs ex H H h h' :=
  ⟨fun b ob q _ _ _ => k b ob q, fun b ob q _ _ _ => ⟨ob.slots, k b ob q⟩, fun _ _ _ n _ => n, fun b ob q _ => ⟨ob, k b ob q⟩, fun _ _ q => q, fun _ _ _ q => q, fun _ ps q => ⟨#[], by rw [q]; simp⟩⟩
theorem Un.refl : Un fs ex H H h h := Un.kept fun _ _ q => q
theorem Un.laid (k : ∀ b u, h.get? b = some u → h'.get? b = some u) (hp : h.objs.size ≤ a) (hn : H a = none) : Un fs ex H (upd H a o) h h' where
  keep := fun b u q _ _ _ => k b u q
  slot := fun b u q _ _ _ => ⟨u.slots, k b u q⟩
  free := fun b u q n _ => by rw [zw (Nat.ne_of_lt (Nat.lt_of_lt_of_le (Heap.lt_size q) hp))]; exact n
  there := fun b u q _ => ⟨u, k b u q⟩
  tups := fun b xs q => by rw [zw (zq q hn)]; exact q
  frzs := fun b u xs q => by rw [zw (zq q hn)]; exact q
  tbls := fun b ps q => ⟨#[], by rw [zw (zq q hn), q]; simp⟩
theorem Un.write (mu : Mut (H x)) (he : e = x ∨ H e = some (.own x)) (k : ∀ b u, b ≠ e → h.get? b = some u → h'.get? b = some u) (heo : ∃ u, h'.get? e = some u) : Un fs ex H (upd H x o) h h' := by
  have hx : ∀ b, H b = none → b ≠ x := fun b n z => by subst z; rw [n] at mu; exact mu
  have hb : ∀ b, H b = none → b ≠ e := fun b n z => by
    subst z
    rcases he with r | r
    · exact hx b n r
    · rw [n] at r; cases r
  have hm : ∀ b u, H b = some u → ¬ Mut (some u) → b ≠ x := fun b u q nm z => by subst z; rw [q] at mu; exact nm mu
  refine ⟨fun b u q n _ _ => k b u (hb b n) q, fun b u q n _ _ => ⟨u.slots, k b u (hb b n) q⟩, fun b u q n _ => by rw [zw (hx b n)]; exact n, fun b u q _ => ?_,
    fun b xs q => by rw [zw (hm b _ q fun z => z)]; exact q, fun b u xs q => by rw [zw (hm b _ q fun z => z)]; exact q, fun b ps q => ⟨#[], by rw [zw (hm b _ q fun z => z), q]; simp⟩⟩
  by_cases hbe : b = e
  · subst hbe; exact heo
  · exact ⟨u, k b u hbe q⟩
end
noncomputable def trk (h : Heap) (H : Hp) : List Addr := (List.range h.objs.size).filter fun a => (H a).isSome
noncomputable def zf4 (h : Heap) (H : Hp) : Heap := PySem.W.hideAll h (trk h H)
theorem ze5 (h : Heap) (H : Hp) : (zf4 h H).objs.size = h.objs.size := PySem.W.hideAll_size _ _
theorem zfP {h : Heap} {H : Hp} {b : Addr} {o : Obj} (e : h.get? b = some o) (n : H b = none) : (zf4 h H).get? b = some o :=
  PySem.W.hideAll_get _ e fun hm => by
    have q : (H b).isSome = true := (List.mem_filter.mp hm).2
    rw [n] at q; simp at q
theorem zik {h : Heap} {H : Hp} {b : Addr} {o : Obj} (e : (zf4 h H).get? b = some o) : h.get? b = some o ∧ H b = none := by
  have e' : h.get? b = some o := PySem.W.of_hideAll (trk h H) e
  refine ⟨e', ?_⟩
  cases q : H b with
  | none => rfl
  | some x =>
    have hm : b ∈ trk h H := List.mem_filter.mpr ⟨List.mem_range.mpr (Heap.lt_size e'), by simp [q]⟩
    have z : (zf4 h H).get? b = none := PySem.W.hideAll_none (trk h H) hm
    rw [z] at e; cases e
noncomputable def zh2 (g h : Heap) (L : Addr) : List (Addr × Obj) := (List.range h.objs.size).filterMap fun a => if a = L ∨ (g.get? a).isSome = true then none else (h.get? a).map fun o => (a, o)
noncomputable def rest (g h : Heap) (L d : Addr) : List (Addr × Obj) := (zh2 g h L).filter fun p => decide (p.1 ≠ d)
structure Mod (K : PySem.W.Frag) (mg : Str → Option Value) (base : Heap) : Prop where
  kin : K.In base
  glob : base.Ns mainGlobals mg
  blt : ∃ mb, base.Ns builtinsNs mb ∧ ∀ x : Str, x ≠ "__name__" → mb x = bootBuiltins x
  nolimit : base.NoLimit
structure Cx where
  prog : Program
  w : World
  K : PySem.W.Frag
  mg : Str → Option Value
  base : Heap
  A : Around
  N : List Str
  s₀ : Shared
  H₀ : Hp
  env : Env
  outer : List Env
  stack : List Env
  ex : List Addr
  fn : Str → Bool
  calm : Bool
  pn : List (Addr × Obj)
  xe : Value → Shared → Prop
noncomputable def frs (l : List Env) : List Addr := l.filterMap (·.frame)
noncomputable abbrev Cx.fs (X : Cx) : List Addr := frs X.outer
noncomputable def Vis (sc : Scope) (x : Str) : Prop := sc.names.lookup x = some .local ∨ sc.names.lookup x = some .cell ∨ sc.names.lookup x = some .free
noncomputable def Loc (sc : Scope) (x : Str) : Prop := sc.names.lookup x = some .local ∨ sc.names.lookup x = some .cell
noncomputable def Look (env : Env) (h : Heap) (m : Str → Option Value) (x : Str) (u : Value) : Prop :=
  (env.kindOf x = some .local ∧ m x = some u) ∨ ((env.kindOf x = some .cell ∨ env.kindOf x = some .free) ∧ ∃ c, env.cells.lookup x = some c ∧ h.IsCell c (some u))
set_option genInjectivity false in
set_option genSizeOf false in
set_option genCtorIdx false in
structure Cx.Ok (X : Cx) : Prop where
  mod : Mod X.K X.mg X.base
  kind : X.env.scope.kind = .function
  glob : X.env.globals = mainGlobals
  blt : X.env.builtins = builtinsNs
  above : X.s₀.heap.objs.size ≤ X.env.locals
  inj : ∀ x y c, X.env.cells.lookup x = some c → X.env.cells.lookup y = some c → x = y
  has : ∀ x, (X.env.kindOf x = some .cell ∨ X.env.kindOf x = some .free) → ∃ c, X.env.cells.lookup x = some c
  cab : ∀ x c, X.fn x = true → X.env.cells.lookup x = some c → X.s₀.heap.objs.size ≤ c
  hd : X.calm = true → X.A.handled = none
  frames : X.A.frames = some X.stack
  stk : X.stack = X.outer ∨ (X.stack = X.env :: X.outer ∧ X.env.frame = some X.env.locals)
  exf : ∀ b ∈ X.ex, b ≠ X.env.locals ∧ ∀ x c, X.env.cells.lookup x = some c → c ≠ b
  bs : ∀ b o, X.base.get? b = some o → X.s₀.heap.get? b = some o ∧ X.H₀ b = none
  bsz : X.base.objs.size ≤ X.s₀.heap.objs.size
  noex : ∀ b o, X.base.get? b = some o → b ∉ X.ex
  exfs : ∀ b ∈ X.ex, b ∉ X.fs
  funs : X.s₀.heap.FunFrames X.base X.outer
  frf : ∀ b ∈ X.fs, X.H₀ b = none
set_option genInjectivity false in
set_option genSizeOf false in
set_option genCtorIdx false in
structure Inv (X : Cx) (pins : List (Addr × Obj)) (σ : List (Option V)) (H : Hp) (s : Shared) : Prop where
  ok : X.Ok
  os : s.os = X.s₀.os
  bare : AllBare s.gens
  base : Un X.fs X.ex X.H₀ H X.s₀.heap s.heap
  loc : ∃ m, s.heap.Ns X.env.locals m ∧ ∀ (i : Nat) (x : Str) (v : V), X.N[i]? = some x → σ[i]? = some (some v) → Vis X.env.scope x → ∃ u, yN v u ∧ Look X.env s.heap m x u
  cell : ∀ x c, X.env.cells.lookup x = some c → ∃ v, s.heap.IsCell c v
  free : H X.env.locals = none
  freeC : ∀ x c, X.env.cells.lookup x = some c → H c = none
  pin : ∀ p ∈ X.pn ++ pins, s.heap.get? p.1 = some p.2 ∧ H p.1 = none ∧ p.1 ≠ X.env.locals ∧ p.1 ∉ X.fs ∧ ∀ v, p.2.data ≠ .cell v
  hok : HOk X.prog X.w H s.heap
  len : σ.length = X.N.length
section
variable {X : Cx} {pins : List (Addr × Obj)} {σ : List (Option V)} {H H' : Hp} {s : Shared} {h' : Heap}
theorem Cx.Ok.nofr (ok : X.Ok) {b : Addr} {o : Obj} (e : X.base.get? b = some o) : b ∉ X.fs := fun hb => by
  have := (ok.funs.mem hb).1
  rw [e] at this; cases this
theorem Inv.bs (I : Inv X pins σ H s) : ∀ b o, X.base.get? b = some o → s.heap.get? b = some o ∧ H b = none := fun b o e =>
  ⟨I.base.keep b o (I.ok.bs b o e).1 (I.ok.bs b o e).2 (I.ok.nofr e) (I.ok.noex b o e), I.base.free b o (I.ok.bs b o e).1 (I.ok.bs b o e).2 (I.ok.noex b o e)⟩
theorem Inv.bk (I : Inv X pins σ H s) : ∀ b o, X.base.get? b = some o → s.heap.get? b = some o := fun b o e => (I.bs b o e).1
theorem Inv.mod (I : Inv X pins σ H s) : Mod X.K X.mg X.base := I.ok.mod
theorem Inv.kIn (I : Inv X pins σ H s) : X.K.In s.heap := I.ok.mod.kin.keeps I.bk
theorem Inv.fr (I : Inv X pins σ H s) : ∃ m, Fr X.base X.env.locals s.heap m :=
  let ⟨m, hn, _⟩ := I.loc
  ⟨m, hn, I.bk, Nat.le_trans I.ok.bsz I.ok.above⟩
theorem Inv.lt (I : Inv X pins σ H s) : X.env.locals < s.heap.objs.size := let ⟨_, hn, _⟩ := I.loc; hn.lt
theorem Inv.sz (I : Inv X pins σ H s) : X.s₀.heap.objs.size ≤ s.heap.objs.size := Nat.le_trans I.ok.above (Nat.le_of_lt I.lt)
theorem Inv.nofs (I : Inv X pins σ H s) {a : Addr} (h : s.heap.objs.size ≤ a) : a ∉ X.fs := fun hb => by
  obtain ⟨_, o, ho, _⟩ := I.ok.funs.mem hb
  exact absurd (Nat.lt_of_lt_of_le (Heap.lt_size ho) (Nat.le_trans I.sz h)) (Nat.lt_irrefl _)
theorem Inv.cne (I : Inv X pins σ H s) : ∀ x c, X.env.cells.lookup x = some c → c ≠ X.env.locals := fun x c e z => by
  obtain ⟨v, o, ho, hd⟩ := I.cell x c e
  obtain ⟨m, ⟨o', es, ep, ho', hd', _⟩, _⟩ := I.loc
  rw [z, ho'] at ho; cases ho; rw [hd'] at hd; cases hd
theorem Inv.funs (I : Inv X pins σ H s) : s.heap.FunFrames X.base X.outer := by
  have all : ∀ (l : List Env), (∀ b ∈ frs l, b ∈ X.fs) → X.s₀.heap.FunFrames X.base l → s.heap.FunFrames X.base l := by
    intro l
    induction l with
    | nil => intro _ _; trivial
    | cons env r ih =>
      intro hs hl
      obtain ⟨hk, ⟨L, o, hf, hn, ho, hd⟩, hr⟩ := hl
      have hL : L ∈ X.fs := hs L (by unfold frs; rw [List.filterMap_cons, hf]; exact List.mem_cons_self)
      obtain ⟨sl, e⟩ := I.base.slot L o ho (I.ok.frf L hL) hL fun z => I.ok.exfs L z hL
      exact ⟨hk, ⟨L, _, hf, hn, e, hd⟩, ih (fun b hb => hs b (by unfold frs; rw [List.filterMap_cons, hf]; exact List.mem_cons_of_mem _ hb)) hr⟩
  exact all X.outer (fun _ hb => hb) I.ok.funs
theorem Inv.stack (I : Inv X pins σ H s) : s.heap.FunFrames X.base X.stack := by
  rcases I.ok.stk with e | ⟨e, hf⟩
  · rw [e]; exact I.funs
  · rw [e]
    obtain ⟨m, hn, _⟩ := I.loc
    refine .cons (by rw [I.ok.kind]; decide) hf hn ?_ I.funs
    exact Heap.get?_none_of_le (Nat.le_trans I.ok.bsz I.ok.above)
theorem Inv.stkSub (I : Inv X pins σ H s) : ∀ b ∈ frs X.stack, b ∈ X.env.locals :: X.fs := fun b hb => by
  rcases I.ok.stk with e | ⟨e, hf⟩
  · rw [e] at hb; exact List.mem_cons_of_mem _ hb
  · rw [e] at hb
    unfold frs at hb
    rw [List.filterMap_cons, hf] at hb
    exact hb
theorem Inv.stkFree (I : Inv X pins σ H s) : ∀ b ∈ frs X.stack, H b = none := fun b hb => by
  rcases List.mem_cons.mp (I.stkSub b hb) with e | hb
  · rw [e]; exact I.free
  · obtain ⟨_, o, ho, _⟩ := I.ok.funs.mem hb
    exact I.base.free b o ho (I.ok.frf b hb) fun z => I.ok.exfs b z hb
theorem Inv.step {g' : Array GenState} {t' : Nat} {d' : Drawn} {ch : List Addr} (I : Inv X pins σ H s)
    (hch : ∀ b ∈ ch, (b ∈ X.ex ∨ X.s₀.heap.objs.size ≤ b) ∧ b ≠ X.env.locals ∧ (∀ x c, X.env.cells.lookup x = some c → c ≠ b) ∧ ∀ p ∈ X.pn ++ pins, p.1 ≠ b)
    (keep : ∀ b o, b ≠ X.env.locals → b ∉ X.fs → b ∉ ch → s.heap.get? b = some o → H b = none → h'.get? b = some o)
    (slot : ∀ b o, b ≠ X.env.locals → b ∈ X.fs → b ∉ ch → s.heap.get? b = some o → H b = none → ∃ sl, h'.get? b = some { o with slots := sl }) (free : ∀ b o, b ∉ ch → s.heap.get? b = some o → H b = none → H' b = none)
    (there : ∀ b o, b ∉ ch → s.heap.get? b = some o → ∃ o', h'.get? b = some o')
    (tups : ∀ b xs, H b = some (.tup xs) → H' b = some (.tup xs)) (frzs : ∀ b o u, H b = some (.frz o u) → H' b = some (.frz o u)) (tbls : ∀ b ps, H b = some (.tbl ps) → ∃ more, H' b = some (.tbl (ps ++ more)))
    (ns : ∀ m, s.heap.Ns X.env.locals m → h'.Ns X.env.locals m) (hok : HOk X.prog X.w H' h') (hg : AllBare g') :
    Inv X pins σ H' { s with heap := h', gens := g', drawn := d', toks := t' } := by
  have neL : ∀ b o, X.s₀.heap.get? b = some o → b ≠ X.env.locals := fun b o e => Nat.ne_of_lt (Nat.lt_of_lt_of_le (Heap.lt_size e) I.ok.above)
  have neC : ∀ b o, X.s₀.heap.get? b = some o → b ∉ X.ex → b ∉ ch := fun b o e hx hb => by
    rcases (hch b hb).1 with z | z
    · exact hx z
    · exact absurd (Nat.lt_of_lt_of_le (Heap.lt_size e) z) (Nat.lt_irrefl _)
  have cellK : ∀ x c, X.env.cells.lookup x = some c → ∀ v, s.heap.IsCell c v → h'.IsCell c v := fun x c e v ⟨o, ho, hd⟩ => by
    have nch : c ∉ ch := fun z => (hch c z).2.2.1 x c e rfl
    by_cases hc : c ∈ X.fs
    · obtain ⟨sl, q⟩ := slot c o (I.cne x c e) hc nch ho (I.freeC x c e)
      exact ⟨_, q, hd⟩
    · exact ⟨o, keep c o (I.cne x c e) hc nch ho (I.freeC x c e), hd⟩
  refine ⟨I.ok, I.os, hg, ⟨fun b o e n hb hx => ?_, fun b o e n hb hx => ?_, fun b o e n hx => ?_, fun b o e hx => ?_, fun b xs e => tups b xs (I.base.tups b xs e), fun b o xs e => frzs b o xs (I.base.frzs b o xs e), fun b ps e => ?_⟩, ?_, fun x c e => ?_, ?_, fun x c e => ?_, fun p hp => ?_, hok, I.len⟩
  · exact keep b o (neL b o e) hb (neC b o e hx) (I.base.keep b o e n hb hx) (I.base.free b o e n hx)
  · obtain ⟨sl, e1⟩ := I.base.slot b o e n hb hx
    obtain ⟨sl', e2⟩ := slot b _ (neL b o e) hb (neC b o e hx) e1 (I.base.free b o e n hx)
    exact ⟨sl', e2⟩
  · obtain ⟨o', e1⟩ := I.base.there b o e hx
    exact free b o' (neC b o e hx) e1 (I.base.free b o e n hx)
  · obtain ⟨o', e1⟩ := I.base.there b o e hx
    exact there b o' (neC b o e hx) e1
  · obtain ⟨m1, e1⟩ := I.base.tbls b ps e
    obtain ⟨m2, e2⟩ := tbls b _ e1
    exact ⟨m1 ++ m2, by rw [e2, Array.append_assoc]⟩
  · obtain ⟨m, hn, hl⟩ := I.loc
    refine ⟨m, ns m hn, fun i x v e1 e2 e3 => ?_⟩
    obtain ⟨u, r, l⟩ := hl i x v e1 e2 e3
    refine ⟨u, r, ?_⟩
    rcases l with l | ⟨k, c, e, z⟩
    · exact .inl l
    · exact .inr ⟨k, c, e, cellK x c e _ z⟩
  · obtain ⟨v, z⟩ := I.cell x c e
    exact ⟨v, cellK x c e v z⟩
  · obtain ⟨m, ⟨o, _, _, ho, _⟩, _⟩ := I.loc
    exact free _ o (fun z => (hch _ z).2.1 rfl) ho I.free
  · obtain ⟨v, o, ho, hd⟩ := I.cell x c e
    exact free c o (fun z => (hch c z).2.2.1 x c e rfl) ho (I.freeC x c e)
  · obtain ⟨e, n, ne, nf, d⟩ := I.pin p hp
    have nch : p.1 ∉ ch := fun z => (hch p.1 z).2.2.2 p hp rfl
    exact ⟨keep p.1 p.2 ne nf nch e n, free p.1 p.2 nch e n, ne, nf, d⟩
theorem Inv.un {t' : Nat} (I : Inv X pins σ H s) (u : Un X.fs [] H H' s.heap h') (hok : HOk X.prog X.w H' h') : Inv X pins σ H' { s with heap := h', toks := t' } := by
  obtain ⟨m, ⟨o, es, ep, ho, r⟩, _⟩ := id I.loc
  obtain ⟨sl, hL⟩ := u.any ho I.free (by simp)
  exact I.step (g' := s.gens) (d' := s.drawn) (ch := []) (fun _ z => nomatch z) (fun b o _ hb _ e n => u.keep b o e n hb (by simp)) (fun b o _ hb _ e n => u.slot b o e n hb (by simp)) (fun b o _ e n => u.free b o e n (by simp)) (fun b o _ e => u.there b o e (by simp)) u.tups u.frzs u.tbls (fun m' hm => by
    obtain ⟨o', es', ep', ho', r'⟩ := hm
    rw [ho] at ho'; cases ho'
    exact ⟨_, es', ep', hL, r'⟩) hok I.bare
theorem Inv.call {g' : Array GenState} {t' : Nat} {d' : Drawn} {ch : List Addr} (I : Inv X pins σ H s) (u : Un (frs X.stack) ch H H' s.heap h') (hok : HOk X.prog X.w H' h') (hg : AllBare g')
    (hch : ∀ b ∈ ch, (b ∈ X.ex ∨ X.s₀.heap.objs.size ≤ b) ∧ b ≠ X.env.locals ∧ (∀ x c, X.env.cells.lookup x = some c → c ≠ b) ∧ ∀ p ∈ X.pn ++ pins, p.1 ≠ b) :
    Inv X pins σ H' { s with heap := h', gens := g', drawn := d', toks := t' } := by
  obtain ⟨m, ⟨o, es, ep, ho, r⟩, _⟩ := id I.loc
  obtain ⟨sl, hL⟩ := u.any ho I.free fun z => (hch _ z).2.1 rfl
  exact I.step (ch := ch) hch (fun b o hL hb hc e n => u.keep b o e n (fun z => (List.mem_cons.mp (I.stkSub b z)).elim hL hb) hc) (fun b o _ _ hc e n => u.any e n hc) (fun b o hc e n => u.free b o e n hc) (fun b o hc e => u.there b o e hc) u.tups u.frzs u.tbls (fun m' hm => by
    obtain ⟨o', es', ep', ho', r'⟩ := hm
    rw [ho] at ho'; cases ho'
    exact ⟨_, es', ep', hL, r'⟩) hok hg
theorem Inv.turned {t' : Nat} {it : Addr} (I : Inv X pins σ H s) (k : ∀ b o, b ≠ it → s.heap.get? b = some o → h'.get? b = some o) (hn : H it = none) (hL : it ≠ X.env.locals)
    (h1 : it ∈ X.ex ∨ X.s₀.heap.objs.size ≤ it) (h2 : ∀ x c, X.env.cells.lookup x = some c → c ≠ it) (h3 : ∀ p ∈ X.pn ++ pins, p.1 ≠ it) : Inv X pins σ H { s with heap := h', toks := t' } := by
  have nit : ∀ b u, H b = some u → b ≠ it := fun b u e z => by rw [z, hn] at e; cases e
  refine I.step (g' := s.gens) (d' := s.drawn) (ch := [it]) (fun b hb => ?_) (fun b o _ _ hc e _ => k b o (fun z => hc (by simp [z])) e) (fun b o _ _ hc e _ => ⟨o.slots, k b o (fun z => hc (by simp [z])) e⟩) (fun _ _ _ _ n => n)
    (fun b o hc e => ⟨o, k b o (fun z => hc (by simp [z])) e⟩) (fun _ _ e => e) (fun _ _ _ e => e) (fun b ps e => ⟨#[], by rw [e]; simp⟩) (fun m hm => ?_) (fun b u e => ?_) I.bare
  · have e : b = it := by simpa using hb
    subst e
    exact ⟨h1, hL, h2, h3⟩
  · obtain ⟨o, es, ep, ho, r⟩ := hm
    exact ⟨o, es, ep, k _ o (Ne.symm hL) ho, r⟩
  · refine (I.hok b u e).stay (fun c v hc q => k c v ?_ q) (fun _ q => q) fun _ _ q => q
    rcases hc with z | z
    · rw [z]; exact nit b u e
    · exact nit c _ z
theorem Inv.tok (I : Inv X pins σ H s) (t : Nat) : Inv X pins σ H { s with toks := t } := I.un (h' := s.heap) (t' := t) Un.refl I.hok
theorem Inv.kept {t' : Nat} (I : Inv X pins σ H s) (k : ∀ b u, s.heap.get? b = some u → h'.get? b = some u) : Inv X pins σ H { s with heap := h', toks := t' } := I.un (Un.kept k) (I.hok.kept k)
theorem Inv.laid {a : Addr} {o : HO} {t' : Nat} (I : Inv X pins σ H s) (k : ∀ b u, s.heap.get? b = some u → h'.get? b = some u) (hp : s.heap.objs.size ≤ a) (new : yZ X.prog X.w (upd H a o) h' a o) :
    Inv X pins σ (upd H a o) { s with heap := h', toks := t' } := I.un (Un.laid k hp (I.hok.fresh hp)) (I.hok.laid k hp new)
theorem Inv.write {x e : Addr} {o : HO} {t' : Nat} (I : Inv X pins σ H s) (mu : Mut (H x)) (he : e = x ∨ H e = some (.own x)) (k : ∀ b u, b ≠ e → s.heap.get? b = some u → h'.get? b = some u) (heo : ∃ u, h'.get? e = some u)
    (new : yZ X.prog X.w (upd H x o) h' x o) : Inv X pins σ (upd H x o) { s with heap := h', toks := t' } := I.un (Un.write mu he k heo) (I.hok.write mu he k heo new)
theorem Inv.weak {σ' : List (Option V)} (I : Inv X pins σ H s) (hl : σ'.length = σ.length) (w : ∀ (i : Nat) v, σ'[i]? = some (some v) → σ[i]? = some (some v)) : Inv X pins σ' H s :=
  ⟨I.ok, I.os, I.bare, I.base, let ⟨m, hn, hl'⟩ := I.loc; ⟨m, hn, fun i x v e1 e2 e3 => hl' i x v e1 (w i v e2) e3⟩, I.cell, I.free, I.freeC, I.pin, I.hok, hl.trans I.len⟩
theorem Inv.pins_of {pins' : List (Addr × Obj)} (I : Inv X pins σ H s) (h : ∀ p ∈ pins', s.heap.get? p.1 = some p.2 ∧ H p.1 = none ∧ p.1 ≠ X.env.locals ∧ p.1 ∉ X.fs ∧ ∀ v, p.2.data ≠ .cell v) : Inv X pins' σ H s :=
  ⟨I.ok, I.os, I.bare, I.base, I.loc, I.cell, I.free, I.freeC, fun p hp => (List.mem_append.mp hp).elim (fun z => I.pin p (List.mem_append_left _ z)) (h p), I.hok, I.len⟩
theorem zcj {N : List Str} (hN : N.Nodup) {i j : Nat} {x : Str} (a : N[i]? = some x) (b : N[j]? = some x) : i = j := by
  obtain ⟨h1, e1⟩ := List.getElem?_eq_some_iff.mp a
  obtain ⟨h2, e2⟩ := List.getElem?_eq_some_iff.mp b
  exact (List.getElem_inj hN).mp (e1.trans e2.symm)
theorem zeo {M : Model} {A : Around} {E : Value → Shared → Prop} {i : Nat} {x : Str} {v : V} {u : Value} {Q : Unit → Shared → Prop} (I : Inv X pins σ H s) (hN : X.N.Nodup) (hi : X.N[i]? = some x) (hx : Loc X.env.scope x) (r : yN v u)
    (h : ∀ s', Inv X pins (σ.set i (some v)) H s' → (∃ a, Heap.SameBut a s.heap s'.heap ∧ (a = X.env.locals ∨ X.env.cells.lookup x = some a)) → Q () s') (hf : X.fn x = true ∨ X.env.scope.names.lookup x = some .local := by first | exact .inl rfl | exact .inr rfl | assumption) : wpAny M A (storeName X.env x u) Q E s := by
  obtain ⟨m, hn, hl⟩ := id I.loc
  have hcls : (X.env.scope.kind == .class || (X.env.scope.kind == .module && X.env.locals != X.env.globals)) = false := by rw [I.ok.kind]; rfl
  have hiσ : i < σ.length := by rw [I.len]; exact (List.getElem?_eq_some_iff.mp hi).1
  have cne := I.cne
  have tracked : ∀ {a : Addr} {h' : Heap}, (∃ o, s.heap.get? a = some o ∧ H a = none) → Heap.SameBut a s.heap h' → HOk X.prog X.w H h' := fun {a h'} ha hs b ob e => by
    obtain ⟨_, _, hfree⟩ := ha
    refine (I.hok b ob e).stay (fun c w' hc q => (hs.2 c ?_).trans q) (fun _ q => q) fun _ _ q => q
    rintro rfl
    rcases hc with rfl | hc
    · rw [hfree] at e; cases e
    · rw [hfree] at hc; cases hc
  rcases hx with hk | hk
  · refine wpAny_storeName_local hk hn (fun h' hn' hs => ?_) hcls
    obtain ⟨oL, _, _, hoL, _⟩ := id hn
    refine h _ ⟨I.ok, I.os, I.bare, ⟨fun b o e n hb hx => ?_, fun b o e n hb hx => ?_, I.base.free, fun b o e hx => ?_, I.base.tups, I.base.frzs, I.base.tbls⟩, ⟨_, hn', fun j y v' e1 e2 e3 => ?_⟩, fun y c e => ?_, I.free, I.freeC, fun p hp => ?_, tracked ⟨oL, hoL, I.free⟩ hs, by simpa using I.len⟩ ⟨_, hs, .inl rfl⟩
    · exact (hs.2 b (Nat.ne_of_lt (Nat.lt_of_lt_of_le (Heap.lt_size e) I.ok.above))).trans (I.base.keep b o e n hb hx)
    · obtain ⟨sl, e1⟩ := I.base.slot b o e n hb hx
      exact ⟨sl, (hs.2 b (Nat.ne_of_lt (Nat.lt_of_lt_of_le (Heap.lt_size e) I.ok.above))).trans e1⟩
    · obtain ⟨o', e1⟩ := I.base.there b o e hx
      exact ⟨o', (hs.2 b (Nat.ne_of_lt (Nat.lt_of_lt_of_le (Heap.lt_size e) I.ok.above))).trans e1⟩
    · by_cases hj : j = i
      · subst hj
        rw [hi] at e1; cases e1
        rw [List.getElem?_set_self hiσ] at e2
        cases e2
        exact ⟨u, r, .inl ⟨hk, by simp⟩⟩
      · rw [List.getElem?_set_ne (Ne.symm hj)] at e2
        obtain ⟨u', r', q⟩ := hl j y v' e1 e2 e3
        refine ⟨u', r', ?_⟩
        rcases q with ⟨k, e⟩ | ⟨k, c, e, z⟩
        · refine .inl ⟨k, ?_⟩
          have : y ≠ x := fun e => hj (zcj hN e1 (e ▸ hi))
          simp [this, e]
        · exact .inr ⟨k, c, e, z.sameBut hs (cne y c e)⟩
    · obtain ⟨w', z⟩ := I.cell y c e
      exact ⟨w', z.sameBut hs (cne y c e)⟩
    · obtain ⟨e, n, ne, nf, d⟩ := I.pin p hp
      exact ⟨(hs.2 p.1 ne).trans e, n, ne, nf, d⟩
  · have hfn : X.fn x = true := by
      rcases hf with z | z
      · exact z
      · rw [z] at hk; cases hk
    obtain ⟨c, hc⟩ := I.ok.has x (.inl hk)
    obtain ⟨w', z⟩ := I.cell x c hc
    refine wpAny_storeName_cell I.ok.kind hk hc z (fun h' hc' hs => ?_)
    obtain ⟨oc, hoc, hocd⟩ := id z
    refine h { s with heap := h' } ⟨I.ok, I.os, I.bare, ⟨fun b o e n hb hx => ?_, fun b o e n hb hx => ?_, I.base.free, fun b o e hx => ?_, I.base.tups, I.base.frzs, I.base.tbls⟩, ⟨m, hn.sameBut hs (Ne.symm (cne x c hc)), fun j y v' e1 e2 e3 => ?_⟩, fun y c' e => ?_, I.free, I.freeC, fun p hp => ?_, tracked ⟨oc, hoc, I.freeC x c hc⟩ hs, by simpa using I.len⟩ ⟨c, hs, .inr hc⟩
    · exact (hs.2 b (Nat.ne_of_lt (Nat.lt_of_lt_of_le (Heap.lt_size e) (I.ok.cab x c hfn hc)))).trans (I.base.keep b o e n hb hx)
    · obtain ⟨sl, e1⟩ := I.base.slot b o e n hb hx
      exact ⟨sl, (hs.2 b (Nat.ne_of_lt (Nat.lt_of_lt_of_le (Heap.lt_size e) (I.ok.cab x c hfn hc)))).trans e1⟩
    · obtain ⟨o', e1⟩ := I.base.there b o e hx
      exact ⟨o', (hs.2 b (Nat.ne_of_lt (Nat.lt_of_lt_of_le (Heap.lt_size e) (I.ok.cab x c hfn hc)))).trans e1⟩
    · by_cases hj : j = i
      · subst hj
        rw [hi] at e1; cases e1
        rw [List.getElem?_set_self hiσ] at e2
        cases e2
        exact ⟨u, r, .inr ⟨.inl hk, c, hc, hc'⟩⟩
      · rw [List.getElem?_set_ne (Ne.symm hj)] at e2
        obtain ⟨u', r', q⟩ := hl j y v' e1 e2 e3
        refine ⟨u', r', ?_⟩
        rcases q with q | ⟨k, c', e, z'⟩
        · exact .inl q
        · refine .inr ⟨k, c', e, z'.sameBut hs ?_⟩
          rintro rfl
          exact hj (zcj hN e1 (I.ok.inj _ _ _ e hc ▸ hi))
    · by_cases hcc : c' = c
      · subst hcc; exact ⟨_, hc'⟩
      · obtain ⟨w2, z2⟩ := I.cell y c' e
        exact ⟨w2, z2.sameBut hs hcc⟩
    · obtain ⟨e, n, ne, nf, d⟩ := I.pin p hp
      refine ⟨(hs.2 p.1 ?_).trans e, n, ne, nf, d⟩
      intro q
      rw [q, hoc] at e
      have q' : oc = p.2 := Option.some.inj e
      exact d w' (by rw [← q']; exact hocd)
theorem X3 {M : Model} {A : Around} {E : Value → Shared → Prop} {i : Nat} {x : Str} {v : V} {u : Value} {Q : Unit → Shared → Prop} (I : Inv X pins σ H s) (hN : X.N.Nodup) (hi : X.N[i]? = some x) (hx : Loc X.env.scope x) (r : yN v u)
    (h : ∀ s', Inv X pins (σ.set i (some v)) H s' → Q () s') (hf : X.fn x = true ∨ X.env.scope.names.lookup x = some .local := by first | exact .inl rfl | exact .inr rfl | assumption) : wpAny M A (storeName X.env x u) Q E s :=
  zeo I hN hi hx r (fun s' I' _ => h s' I') hf
theorem Inv.call' {s' : Shared} {ch : List Addr} (I : Inv X pins σ H s) (ho : s'.os = s.os) (u : Un (frs X.stack) ch H H' s.heap s'.heap) (hok : HOk X.prog X.w H' s'.heap) (hg : AllBare s'.gens)
    (hch : ∀ b ∈ ch, (b ∈ X.ex ∨ X.s₀.heap.objs.size ≤ b) ∧ b ≠ X.env.locals ∧ (∀ x c, X.env.cells.lookup x = some c → c ≠ b) ∧ ∀ p ∈ X.pn ++ pins, p.1 ≠ b) : Inv X pins σ H' s' := by
  obtain ⟨h', g', d', t', o'⟩ := s'
  have e : o' = s.os := ho
  subst e
  exact I.call (g' := g') (t' := t') (d' := d') u hok hg hch
end
noncomputable abbrev XK := Value → Option Addr → Hp → Prop
noncomputable abbrev St := List (Option V)
noncomputable abbrev VK := V → Hp → Prop
noncomputable abbrev TE := St → Hp → VK → Prop
noncomputable abbrev TT := St → Hp → (Bool → Hp → Prop) → Prop
noncomputable abbrev TA := St → Hp → (List V → Hp → Prop) → Prop
structure zgO where
  nx : St → Hp → Prop
  rt : VK
  bk : St → Hp → Prop := fun _ _ => False
  ct : St → Hp → Prop := fun _ _ => False
noncomputable abbrev TS := zgO → St → Hp → Prop
noncomputable def EP (X : Cx) (pins : List (Addr × Obj)) (σ : St) (Q : VK) (u : Value) (s' : Shared) : Prop := ∃ v H', Inv X pins σ H' s' ∧ yN v u ∧ Q v H'
noncomputable def TP (X : Cx) (pins : List (Addr × Obj)) (σ : St) (Q : Bool → Hp → Prop) (b : Bool) (s' : Shared) : Prop := ∃ H', Inv X pins σ H' s' ∧ Q b H'
noncomputable def AP (X : Cx) (pins : List (Addr × Obj)) (σ : St) (Q : List V → Hp → Prop) (us : List Value) (s' : Shared) : Prop := ∃ vs H', Inv X pins σ H' s' ∧ yx vs us ∧ Q vs H'
noncomputable def SP (X : Cx) (pins : List (Addr × Obj)) (D : zgO) (f : Flow) (s' : Shared) : Prop :=
  match f with
  | .next => ∃ σ' H', Inv X pins σ' H' s' ∧ D.nx σ' H'
  | .brk => ∃ σ' H', Inv X pins σ' H' s' ∧ D.bk σ' H'
  | .cont => ∃ σ' H', Inv X pins σ' H' s' ∧ D.ct σ' H'
  | .ret u => ∃ v σ' H', Inv X pins σ' H' s' ∧ yN v u ∧ D.rt v H'
noncomputable def PE (X : Cx) (e : Expr) (t : TE) : Prop :=
  ∀ (pins : List (Addr × Obj)) (s : Shared) (σ : St) (H : Hp) (Q : VK), Inv X pins σ H s → t σ H Q → wpAny (model X.prog X.w) X.A (eval e X.env) (EP X pins σ Q) X.xe s
noncomputable def PT (X : Cx) (e : Expr) (t : TT) : Prop :=
  ∀ (pins : List (Addr × Obj)) (s : Shared) (σ : St) (H : Hp) (Q : Bool → Hp → Prop), Inv X pins σ H s → t σ H Q → wpAny (model X.prog X.w) X.A (isTrue e X.env (eval e X.env)) (TP X pins σ Q) X.xe s
noncomputable def PW (X : Cx) (e : Expr) (t : TT) : Prop :=
  ∀ (whole : Sem Value) (pins : List (Addr × Obj)) (s : Shared) (σ : St) (H : Hp) (Q : Bool → Hp → Prop), Inv X pins σ H s → t σ H Q → wpAny (model X.prog X.w) X.A (isTrue e X.env whole) (TP X pins σ Q) X.xe s
theorem PW.pt {X : Cx} {e : Expr} {t : TT} (h : PW X e t) : PT X e t := h _
noncomputable def PA (X : Cx) (es : List Expr) (t : TA) : Prop :=
  ∀ (pos : Pos) (pins : List (Addr × Obj)) (s : Shared) (σ : St) (H : Hp) (Q : List V → Hp → Prop), Inv X pins σ H s → t σ H Q → wpAny (model X.prog X.w) X.A (spliced (backTo pos (starEach es X.env))) (AP X pins σ Q) X.xe s
noncomputable def PS (X : Cx) (st : Stmt) (t : TS) : Prop :=
  ∀ (pins : List (Addr × Obj)) (s : Shared) (σ : St) (H : Hp) (D : zgO), Inv X pins σ H s → t D σ H → wpAny (model X.prog X.w) X.A (exec st X.env) (SP X pins D) X.xe s
noncomputable def PSs (X : Cx) (st : List Stmt) (t : TS) : Prop :=
  ∀ (pins : List (Addr × Obj)) (s : Shared) (σ : St) (H : Hp) (D : zgO), Inv X pins σ H s → t D σ H → wpAny (model X.prog X.w) X.A (execs st X.env) (SP X pins D) X.xe s
theorem thn {α : Type} {t : Sem α} {Q Q' : α → Shared → Prop} {M : Model} {A : Around} {E : Value → Shared → Prop} {s : Shared} (h : wpAny M A t Q E s) (hQ : ∀ a s, Q a s → Q' a s) : wpAny M A t Q' E s := wpAny_mono h hQ fun _ _ x => x
section
variable {X : Cx}
theorem bin {a b : Expr} {ta tb : TE} (ha : PE X a ta) (hb : PE X b tb) {pins : List (Addr × Obj)} {s : Shared} {σ : St} {H : Hp} {R : V → V → Hp → Prop} (I : Inv X pins σ H s) (h : ta σ H fun x H1 => tb σ H1 fun y H2 => R x y H2)
    {α : Type} {Q : α → Shared → Prop} {f : Value → Value → Sem α}
    (hf : ∀ v u s2 x y H2, Inv X pins σ H2 s2 → yN x v → yN y u → R x y H2 → wpAny (model X.prog X.w) X.A (f v u) Q X.xe s2) :
    wpAny (model X.prog X.w) X.A (eval a X.env) (fun v s₁ => wpAny (model X.prog X.w) X.A (eval b X.env) (fun u s₂ => wpAny (model X.prog X.w) X.A (f v u) Q X.xe s₂) X.xe s₁) X.xe s := by
  refine thn (ha pins s σ H _ I h) fun v s1 hh9 => ?_
  obtain ⟨x, H1, I1, r1, q1⟩ := hh9
  refine thn (hb pins s1 σ H1 _ I1 q1) fun u s2 hh9 => ?_
  obtain ⟨y, H2, I2, r2, q2⟩ := hh9
  exact hf v u s2 x y H2 I2 r1 r2 q2
noncomputable def zhi (i : Nat) : TE := fun σ H Q => ∃ v, σ[i]? = some (some v) ∧ Q v H
noncomputable def tC (v : V) : TE := fun _ H Q => Q v H
theorem zjw {i : Nat} {x : Str} {pos : Pos} (hN : X.N[i]? = some x) (hv : Vis X.env.scope x) (hd : (x == ("__debug__" : Str)) = false := by decide) (hcd : (x == ("__classdict__" : Str)) = false := by decide) : PE X (.Name x pos) (zhi i) := by
  intro pins s σ H Q I h
  obtain ⟨v, e, h⟩ := h
  obtain ⟨m, hn, hl⟩ := I.loc
  obtain ⟨u, r, l⟩ := hl i x v hN e hv
  have fin : EP X pins σ Q u s := ⟨v, H, I, r, h⟩
  rcases l with ⟨hk, hm⟩ | ⟨hk, c, hc, hcell⟩
  · exact wpAny_Name (wpAny_loadName_local I.ok.kind hk hn hm fin) hd
  · rcases hk with hk | hk
    · exact wpAny_Name (wpAny_loadName_cell I.ok.kind hk hc hcell fin) hd
    · exact wpAny_Name (wpAny_loadName_free I.ok.kind hk hc hcell fin hcd) hd
theorem zf {i j pos} : PE X (.Constant (.int i) j pos) (tC (.int i)) := fun _ _ _ H _ I h => wpAny_Constant_int ⟨.int i, H, I.tok _, ⟨_, rfl⟩, h⟩
theorem vf {b j pos} : PE X (.Constant (.bool b) j pos) (tC (.bl b)) := fun _ _ _ H _ I h => Constant_bool ⟨.bl b, H, I, rfl, h⟩
theorem wW {j pos} : PE X (.Constant .none j pos) (tC .non) := fun _ _ _ H _ I h => Constant_none ⟨.non, H, I, rfl, h⟩
theorem Y8 {x j pos} : PE X (.Constant (.str x) j pos) (tC (.str x)) := fun _ _ _ H _ I h => Calls.Constant_str ⟨.str x, H, I.tok _, ⟨_, rfl⟩, h⟩
noncomputable def Gl (X : Cx) (x : Str) : Prop := X.env.kindOf x = some .globalImplicit
theorem zbZ {E : Value → Shared → Prop} {pins : List (Addr × Obj)} {s : Shared} {σ : St} {H : Hp} {x : Str} {u : Value} {pos : Pos} {Q : Value → Shared → Prop} (I : Inv X pins σ H s) (hg : Gl X x) (hm : X.mg x = some u) (h : Q u s)
    (hd : (x == ("__debug__" : Str)) = false := by decide) : wpAny (model X.prog X.w) X.A (eval (.Name x pos) X.env) Q E s :=
  Calls.Name_function_global I.ok.kind hg (Calls.loadGlobal_global (by rw [I.ok.glob]; exact I.mod.glob.keeps I.bk) hm h) hd
theorem ZH {E : Value → Shared → Prop} {pins : List (Addr × Obj)} {s : Shared} {σ : St} {H : Hp} {x : Str} {u : Value} {pos : Pos} {Q : Value → Shared → Prop} (I : Inv X pins σ H s) (hg : Gl X x) (hm : X.mg x = none) (hv : bootBuiltins x = some u) (h : Q u s)
    (hn : x ≠ "__name__" := by decide) (hd : (x == ("__debug__" : Str)) = false := by decide) : wpAny (model X.prog X.w) X.A (eval (.Name x pos) X.env) Q E s := by
  obtain ⟨mb, h1, h2⟩ := I.mod.blt
  exact Calls.Name_function_global I.ok.kind hg (Calls.loadGlobal_builtin (by rw [I.ok.glob]; exact I.mod.glob.keeps I.bk) hm (by rw [I.ok.blt]; exact h1.keeps I.bk) ((h2 x hn).trans hv) h) hd
theorem Wy {x : Str} {v : V} {u : Value} {pos : Pos} (hg : Gl X x) (hm : X.mg x = some u) (r : yN v u) (hd : (x == ("__debug__" : Str)) = false := by decide) : PE X (.Name x pos) (tC v) :=
  fun _ _ _ H _ I h => zbZ I hg hm ⟨v, H, I, r, h⟩ hd
theorem yh {x : Str} {v : V} {u : Value} {pos : Pos} (hg : Gl X x) (hm : X.mg x = none) (hv : bootBuiltins x = some u) (r : yN v u) (hn : x ≠ "__name__" := by decide) (hd : (x == ("__debug__" : Str)) = false := by decide) : PE X (.Name x pos) (tC v) :=
  fun _ _ _ H _ I h => ZH I hg hm hv ⟨v, H, I, r, h⟩ hn hd
variable {a b : Expr} {ta tb : TE} {pos : Pos}
noncomputable def PC (X : Cx) (op : CmpOp) (a b : Expr) (t : TE) : Prop :=
  ∀ (pins : List (Addr × Obj)) (s : Shared) (σ : St) (H : Hp) (Q : VK), Inv X pins σ H s → t σ H Q →
    wpAny (model X.prog X.w) X.A (eval a X.env) (fun v s₁ => wpAny (model X.prog X.w) X.A (eval b X.env) (fun u s₂ => wpAny (model X.prog X.w) X.A (compareOp op v u) (EP X pins σ Q) X.xe s₂) X.xe s₁) X.xe s
theorem zf8 (b : Expr) {op : CmpOp} (h : op ≠ .In) (h2 : op ≠ .NotIn) : behindInMarks op b = false := by
  have e1 : (op == CmpOp.In) = false := by cases op <;> first | rfl | exact absurd rfl h
  have e2 : (op == CmpOp.NotIn) = false := by cases op <;> first | rfl | exact absurd rfl h2
  cases b <;> simp [behindInMarks, e1, e2]
noncomputable def tB (t : TE) : TT := fun σ H Q => t σ H fun x H1 => ∃ c, x = .bl c ∧ Q c H1
theorem pt_cmp {op : CmpOp} {t : TE} (h : PC X op a b t) (h1 : behindInMarks op b = false := by first | exact zf8 _ (by decide) (by decide) | rfl) : PT X (.Compare a [op] [b] pos) (tB t) := by
  intro pins s σ H Q I hw
  refine wpAny_isTrue_Compare1 (thn (h pins s σ H _ I hw) fun v s1 h1 => thn h1 fun u s2 h2 => thn h2 fun c s3 hh9 => ?_) h1
  obtain ⟨x, H1, I1, r1, q1⟩ := hh9
  obtain ⟨d, rfl, q⟩ := q1
  cases r1
  exact wpAny_truthy_bool ⟨H1, I1, q⟩
theorem zjT {e : Expr} {t : TE} (h : PE X e t) (he : ∀ whole, isTrue e X.env whole = (do let v ← whole; standAt e.pos; holding [v] (truthy v)) := by intro _; rfl) : PT X e (tB t) := by
  intro pins s σ H Q I hw
  refine isTrue_plain (thn (h pins s σ H _ I hw) fun v s1 hh9 => ?_) (he _)
  obtain ⟨x, H1, I1, r1, q1⟩ := hh9
  obtain ⟨d, rfl, q⟩ := q1
  cases r1
  exact wpAny_truthy_bool ⟨H1, I1, q⟩
variable {tA tB' : TT} {rest : List Expr}
noncomputable def tAnd (t u : TT) : TT := fun σ H Q => t σ H fun c H1 => if c = true then u σ H1 Q else Q false H1
noncomputable def tOr (t u : TT) : TT := fun σ H Q => t σ H fun c H1 => if c = true then Q true H1 else u σ H1 Q
noncomputable def tNot (t : TT) : TT := fun σ H Q => t σ H fun c H1 => Q (!c) H1
theorem zix (ha : PT X a tA) : PW X (.BoolOp .And [a] pos) tA := by
  intro wh pins s σ H Q I h
  refine isTrue_and (thn (ha pins s σ H Q I h) fun c s1 e => ?_)
  cases c with
  | true => exact isTrue_and_nil e
  | false => exact e
theorem zjo (ha : PT X a tA) : PW X (.BoolOp .Or [a] pos) tA := by
  intro wh pins s σ H Q I h
  refine isTrue_or (thn (ha pins s σ H Q I h) fun c s1 e => ?_)
  cases c with
  | false => exact isTrue_or_nil e
  | true => exact e
theorem zja (ha : PT X a tA) (hb : PW X (.BoolOp .And (b :: rest) pos) tB') : PW X (.BoolOp .And (a :: b :: rest) pos) (tAnd tA tB') := by
  intro wh pins s σ H Q I h
  refine isTrue_and (thn (ha pins s σ H _ I h) fun c s1 hh9 => ?_)
  obtain ⟨H1, I1, q1⟩ := hh9
  cases c with
  | true => exact hb wh pins s1 σ H1 Q I1 q1
  | false => exact ⟨H1, I1, q1⟩
theorem zlm (ha : PT X a tA) (hb : PW X (.BoolOp .Or (b :: rest) pos) tB') : PW X (.BoolOp .Or (a :: b :: rest) pos) (tOr tA tB') := by
  intro wh pins s σ H Q I h
  refine isTrue_or (thn (ha pins s σ H _ I h) fun c s1 hh9 => ?_)
  obtain ⟨H1, I1, q1⟩ := hh9
  cases c with
  | true => exact ⟨H1, I1, q1⟩
  | false => exact hb wh pins s1 σ H1 Q I1 q1
theorem zjt (ha : PT X a tA) : PT X (.UnaryOp .Not a pos) (tNot tA) := by
  intro pins s σ H Q I h
  exact isTrue_not (ha pins s σ H (fun c H1 => Q (!c) H1) I h)
noncomputable def zk7 (ta tb : TE) : TE := fun σ H Q => ta σ H fun x H1 => ∃ c, x = .bl c ∧ if c = true then tb σ H1 Q else Q (.bl false) H1
noncomputable def tOrV (ta tb : TE) : TE := fun σ H Q => ta σ H fun x H1 => ∃ c, x = .bl c ∧ if c = true then Q (.bl true) H1 else tb σ H1 Q
noncomputable def zlL (ta : TE) : TE := fun σ H Q => ta σ H fun x H1 => ∃ c, x = .bl c ∧ Q (.bl (!c)) H1
theorem zkC {op} {t : TE} (h : PE X a t) : PE X (.BoolOp op [a] pos) t := fun pins s σ H Q I hw => BoolOp_one (h pins s σ H Q I hw)
theorem ziZ (ha : PE X a ta) (hb : PE X (.BoolOp .And (b :: rest) pos) tb) : PE X (.BoolOp .And (a :: b :: rest) pos) (zk7 ta tb) := by
  intro pins s σ H Q I h
  refine BoolOp_and (thn (ha pins s σ H _ I h) fun v s1 hh9 => ?_)
  obtain ⟨x, H1, I1, r1, q1⟩ := hh9
  obtain ⟨c, rfl, q1⟩ := q1
  cases r1
  refine wpAny_truthy_bool ?_
  cases c with
  | true => exact hb pins s1 σ H1 Q I1 q1
  | false => exact ⟨.bl false, H1, I1, rfl, q1⟩
theorem zlk (ha : PE X a ta) (hb : PE X (.BoolOp .Or (b :: rest) pos) tb) : PE X (.BoolOp .Or (a :: b :: rest) pos) (tOrV ta tb) := by
  intro pins s σ H Q I h
  refine BoolOp_or (thn (ha pins s σ H _ I h) fun v s1 hh9 => ?_)
  obtain ⟨x, H1, I1, r1, q1⟩ := hh9
  obtain ⟨c, rfl, q1⟩ := q1
  cases r1
  refine wpAny_truthy_bool ?_
  cases c with
  | false => exact hb pins s1 σ H1 Q I1 q1
  | true => exact ⟨.bl true, H1, I1, rfl, q1⟩
theorem ziY (ha : PE X a ta) : PE X (.UnaryOp .Not a pos) (zlL ta) := by
  intro pins s σ H Q I h
  refine UnaryOp_ (thn (ha pins s σ H _ I h) fun v s1 hh9 => ?_)
  obtain ⟨x, H1, I1, r1, q1⟩ := hh9
  obtain ⟨c, rfl, q1⟩ := q1
  cases r1
  exact not_of (wpAny_truthy_bool ⟨.bl (!c), H1, I1, rfl, q1⟩)
noncomputable def tIf (t : TT) (ta tb : TE) : TE := fun σ H Q => t σ H fun c H1 => if c = true then ta σ H1 Q else tb σ H1 Q
theorem zf9 {c : Expr} (hc : PT X c tA) (ha : PE X a ta) (hb : PE X b tb) : PE X (.IfExp c a b pos) (tIf tA ta tb) := by
  intro pins s σ H Q I h
  refine wpAny_IfExp (thn (hc pins s σ H _ I h) fun d s1 hh9 => ?_)
  obtain ⟨H1, I1, q1⟩ := hh9
  cases d with
  | true => exact ha pins s1 σ H1 Q I1 q1
  | false => exact hb pins s1 σ H1 Q I1 q1
end
noncomputable def SqL (K : PySem.W.Frag) (H : Hp) (a : Addr) (xs : List V) : Prop :=
  Rd H a (.lst xs) ∨
    ∃ (o : Obj) (its : Array Value) (n : Nat), K.lookup a = some o ∧ o.cls = .type "list" ∧ o.dict = none ∧ o.data = .seq its n ∧ its.size ≤ sizeLine ∧ yx xs its.toList
noncomputable def SqT (K : PySem.W.Frag) (H : Hp) (a : Addr) (xs : List V) : Prop :=
  Rd H a (.tup xs) ∨
    ∃ (o : Obj) (its : Array Value) (n : Nat), K.lookup a = some o ∧ o.cls = .type "tuple" ∧ o.data = .seq its n ∧ its.size ≤ sizeLine ∧ yx xs its.toList
noncomputable def absV : Value → Option V
  | .none => some .non
  | .bool b => some (.bl b)
  | .int i _ => some (.int i)
  | .str x _ => some (.str x)
  | .bytes b _ => some (.byt b)
  | .float b _ => some (.flt b)
  | .ref a => some (.ref a)
  | .type n => some (.ty n)
  | _ => none
theorem yN.abs {x : V} {u : Value} (r : yN x u) : absV u = some x := by
  cases x with
  | non => cases r; rfl
  | bl _ => cases r; rfl
  | int _ => obtain ⟨t, rfl⟩ := r; rfl
  | str _ => obtain ⟨t, rfl⟩ := r; rfl
  | byt _ => obtain ⟨t, rfl⟩ := r; rfl
  | flt _ => obtain ⟨t, rfl⟩ := r; rfl
  | ref _ => cases r; rfl
  | ty _ => cases r; rfl
theorem yN.inj {x y : V} {u : Value} (r : yN x u) (q : yN y u) : x = y := Option.some.inj (r.abs.symm.trans q.abs)
theorem yx.inj : ∀ {xs ys : List V} {us : List Value}, yx xs us → yx ys us → xs = ys := by
  intro xs ys us h
  induction h generalizing ys with
  | nil => intro h2; cases h2; rfl
  | cons r t ih => intro h2; cases h2 with | cons r' t' => rw [r.inj r', ih t']
section
variable {X : Cx} {pins : List (Addr × Obj)} {σ : St} {H : Hp} {s : Shared} {a : Addr} {xs ys : List V}
theorem SqL.of {K : PySem.W.Frag} (h : H a = some (.lst xs)) : SqL K H a xs := .inl (.inl h)
theorem SqT.of {K : PySem.W.Frag} (h : H a = some (.tup xs)) : SqT K H a xs := .inl (.inl h)
theorem Inv.list (I : Inv X pins σ H s) (h : SqL X.K H a xs) : ∃ its : List Value, yx xs its ∧ PlainL s.heap a its.toArray ∧ xs.length ≤ sizeLine := by
  rcases h with h | ⟨o, its, n, hk, hc, hd, hs, hz, r⟩
  · obtain ⟨z, its, n, r, e⟩ := h.ok I.hok
    exact ⟨its, r, ⟨_, n, e, rfl, rfl, rfl⟩, z⟩
  · refine ⟨its.toList, r, ⟨o, n, I.kIn a o hk, hc, hd, by simpa using hs⟩, ?_⟩
    have e := r.length
    simp only [Array.length_toList] at e
    omega
theorem Inv.tuple (I : Inv X pins σ H s) (h : SqT X.K H a xs) : ∃ its : List Value, yx xs its ∧ IsTup s.heap a its.toArray ∧ xs.length ≤ sizeLine := by
  rcases h with h | ⟨o, its, n, hk, hc, hs, hz, r⟩
  · obtain ⟨z, its, r, p⟩ := h.ok I.hok
    exact ⟨its, r, p, z⟩
  · refine ⟨its.toList, r, ⟨o, I.kIn a o hk, hc, n, by simpa using hs⟩, ?_⟩
    have e := r.length
    simp only [Array.length_toList] at e
    omega
theorem Inv.list_inj (I : Inv X pins σ H s) (h : SqL X.K H a xs) (h' : SqL X.K H a ys) : xs = ys := by
  obtain ⟨its, r, ⟨o, n, e, _, _, d⟩, _⟩ := I.list h
  obtain ⟨its', r', ⟨o', n', e', _, _, d'⟩, _⟩ := I.list h'
  rw [e] at e'; cases e'
  rw [d] at d'
  injection d' with d1 _
  have : its = its' := by simpa using congrArg Array.toList d1
  subst this
  exact r.inj r'
theorem Inv.tuple_inj (I : Inv X pins σ H s) (h : SqT X.K H a xs) (h' : SqT X.K H a ys) : xs = ys := by
  obtain ⟨its, r, ⟨o, e, _, n, d⟩, _⟩ := I.tuple h
  obtain ⟨its', r', ⟨o', e', _, n', d'⟩, _⟩ := I.tuple h'
  rw [e] at e'; cases e'
  rw [d] at d'
  injection d' with d1 _
  have : its = its' := by simpa using congrArg Array.toList d1
  subst this
  exact r.inj r'
end
noncomputable abbrev Cx.wish (X : Cx) (E : Value → Shared → Prop) : Cx := { X with xe := E }
noncomputable abbrev Cx.nox (X : Cx) : Cx := X.wish fun _ _ => False
theorem Cx.Ok.wish {X : Cx} (ok : X.Ok) (E : Value → Shared → Prop) : (X.wish E).Ok :=
  ⟨ok.mod, ok.kind, ok.glob, ok.blt, ok.above, ok.inj, ok.has, ok.cab, ok.hd, ok.frames, ok.stk, ok.exf, ok.bs, ok.bsz, ok.noex, ok.exfs, ok.funs, ok.frf⟩
theorem Cx.Ok.unwish {X : Cx} {E : Value → Shared → Prop} (ok : (X.wish E).Ok) : X.Ok :=
  ⟨ok.mod, ok.kind, ok.glob, ok.blt, ok.above, ok.inj, ok.has, ok.cab, ok.hd, ok.frames, ok.stk, ok.exf, ok.bs, ok.bsz, ok.noex, ok.exfs, ok.funs, ok.frf⟩
section
variable {X : Cx} {pins : List (Addr × Obj)} {σ : St} {H : Hp} {s : Shared} {E : Value → Shared → Prop}
theorem Inv.wish (I : Inv X pins σ H s) (E : Value → Shared → Prop) : Inv (X.wish E) pins σ H s := ⟨I.ok.wish E, I.os, I.bare, I.base, I.loc, I.cell, I.free, I.freeC, I.pin, I.hok, I.len⟩
theorem Inv.unwish (I : Inv (X.wish E) pins σ H s) : Inv X pins σ H s := ⟨I.ok.unwish, I.os, I.bare, I.base, I.loc, I.cell, I.free, I.freeC, I.pin, I.hok, I.len⟩
theorem SP.unwish {D : zgO} {f : Flow} {s' : Shared} (h : SP (X.wish E) pins D f s') : SP X pins D f s' := by
  cases f with
  | next => obtain ⟨σ', H', I, q⟩ := h; exact ⟨σ', H', I.unwish, q⟩
  | brk => obtain ⟨σ', H', I, q⟩ := h; exact ⟨σ', H', I.unwish, q⟩
  | cont => obtain ⟨σ', H', I, q⟩ := h; exact ⟨σ', H', I.unwish, q⟩
  | ret u => obtain ⟨v, σ', H', I, r, q⟩ := h; exact ⟨v, σ', H', I.unwish, r, q⟩
theorem PSs.nox {st : List Stmt} {t : TS} (h : PSs X.nox st t) : PSs X st t := fun pins s σ H D I hw =>
  wpAny_mono (h pins s σ H D (I.wish _) hw) (fun _ _ q => q.unwish) fun _ _ z => False.elim z
end
section
variable {X : Cx} {st : Stmt} {rest : List Stmt} {t u : TS} {e : Expr} {te : TE} {pos : Pos}
noncomputable def zln : TS := fun D σ H => D.nx σ H
noncomputable def tSeq (t u : TS) : TS := fun D σ H => t { D with nx := u D } σ H
theorem ziL : PSs X [] zln := fun _ _ σ H _ I h => wpAny_execs_nil ⟨σ, H, I, h⟩
theorem zgu (h1 : PS X st t) (h2 : PSs X rest u) : PSs X (st :: rest) (tSeq t u) := by
  intro pins s σ H D I h
  refine wpAny_execs_cons (thn (h1 pins s σ H { D with nx := u D } I h) fun f s1 q => ?_)
  cases f with
  | next =>
    obtain ⟨σ', H', I', q⟩ := q
    exact h2 pins s1 σ' H' D I' q
  | ret v => exact q
  | brk => exact q
  | cont => exact q
theorem zim (h1 : PS X st t) : PSs X [st] t := by
  intro pins s σ H D I h
  refine wpAny_execs_cons (thn (h1 pins s σ H D I h) fun f s1 q => ?_)
  cases f with
  | next => exact wpAny_execs_nil q
  | ret v => exact q
  | brk => exact q
  | cont => exact q
theorem Inv.quiet {pins : List (Addr × Obj)} {σ : St} {H : Hp} {s : Shared} (I : Inv X pins σ H s) : interactive X.env = false := by simp [interactive, I.ok.kind]
noncomputable def zk5 (te : TE) : TS := fun D σ H => te σ H fun _ H1 => D.nx σ H1
theorem zbF (he : PE X e te) (hs : swapsWith e none pos.line X.env = pure false := by rfl) : PS X (.Expr e pos) (zk5 te) := by
  intro pins s σ H D I h
  exact wpAny_Expr_any (thn (he pins s σ H _ I h) fun v s1 ⟨x, H1, I1, r1, q1⟩ => ⟨σ, H1, I1, q1⟩) I.quiet hs
noncomputable def tRet (te : TE) : TS := fun D σ H => te σ H D.rt
theorem zkb (he : PE X e te) : PS X (.Return (some e) pos) (tRet te) := by
  intro pins s σ H D I h
  exact wpAny_Return_some (thn (he pins s σ H _ I h) fun v s1 ⟨x, H1, I1, r1, q1⟩ => ⟨x, σ, H1, I1, r1, q1⟩)
noncomputable def tIfS (c : TT) (t u : TS) : TS := fun D σ H => c σ H fun b H1 => if b = true then t D σ H1 else u D σ H1
theorem zlH {c : Expr} {a b : List Stmt} {tc : TT} (hc : PT X c tc) (ha : PSs X a t) (hb : PSs X b u) : PS X (.If c a b pos) (tIfS tc t u) := by
  intro pins s σ H D I h
  refine wpAny_If (thn (hc pins s σ H _ I h) fun d s1 hh9 => ?_)
  obtain ⟨H1, I1, q1⟩ := hh9
  cases d with
  | true => exact ha pins s1 σ H1 D I1 q1
  | false => exact hb pins s1 σ H1 D I1 q1
noncomputable def zjx : TS := fun _ _ _ => False
theorem zfy : PS X st zjx := fun _ _ _ _ _ _ h => h.elim
end
noncomputable abbrev TG := V → St → Hp → (St → Hp → Prop) → Prop
noncomputable abbrev TGs := List V → St → Hp → (St → Hp → Prop) → Prop
noncomputable def PG (X : Cx) (target : Expr) (t : TG) : Prop :=
  ∀ (pins : List (Addr × Obj)) (s : Shared) (σ : St) (H : Hp) (v : V) (u : Value) (Q : St → Hp → Prop), Inv X pins σ H s → yN v u → t v σ H Q →
    wpAny (model X.prog X.w) X.A (assign target X.env u) (fun _ s' => ∃ σ' H', Inv X pins σ' H' s' ∧ Q σ' H') X.xe s
noncomputable def PGs (X : Cx) (ts : List Expr) (t : TGs) : Prop :=
  ∀ (pins : List (Addr × Obj)) (s : Shared) (σ : St) (H : Hp) (vs : List V) (us : List Value) (Q : St → Hp → Prop), Inv X pins σ H s → yx vs us → t vs σ H Q →
    wpAny (model X.prog X.w) X.A (assignInOrder ((assignEach ts X.env).map (·.2)) us) (fun _ s' => ∃ σ' H', Inv X pins σ' H' s' ∧ Q σ' H') X.xe s
noncomputable abbrev zjJ := V → V → V → Hp → (Hp → Prop) → Prop
noncomputable def zlI (X : Cx) (t : zjJ) : Prop :=
  ∀ (pins : List (Addr × Obj)) (s : Shared) (σ : St) (H : Hp) (o i v : V) (ov iv u : Value) (Q : Hp → Prop), Inv X pins σ H s → yN o ov → yN i iv → yN v u → t o i v H Q →
    wpAny (model X.prog X.w) X.A (setItem ov iv u) (fun _ s' => ∃ H', Inv X pins σ H' s' ∧ Q H') X.xe s
noncomputable abbrev TIp := V → V → Hp → VK → Prop
noncomputable def PIp (X : Cx) (op : Operator) (t : TIp) : Prop :=
  ∀ (pins : List (Addr × Obj)) (s : Shared) (σ : St) (H : Hp) (x y : V) (v u : Value) (Q : VK), Inv X pins σ H s → yN x v → yN y u → t x y H Q →
    wpAny (model X.prog X.w) X.A (inplaceOp op v u) (EP X pins σ Q) X.xe s
section
variable {X : Cx} {pos : Pos}
noncomputable def XN (i : Nat) : TG := fun v σ H Q => Q (σ.set i (some v)) H
theorem zB {i : Nat} {x : Str} (hN : X.N.Nodup) (hi : X.N[i]? = some x) (hx : Loc X.env.scope x) (hf : X.fn x = true ∨ X.env.scope.names.lookup x = some .local := by first | exact .inl rfl | exact .inr rfl | assumption) : PG X (.Name x pos) (XN i) := by
  intro pins s σ H v u Q I r h
  exact wpAny_assign_Name (X3 I hN hi hx r (fun s' I' => ⟨_, H, I', h⟩) hf)
noncomputable def zkN : TGs := fun vs σ H Q => vs = [] ∧ Q σ H
noncomputable def zbx (t : TG) (u : TGs) : TGs := fun vs σ H Q => ∃ v r, vs = v :: r ∧ t v σ H fun σ' H' => u r σ' H' Q
theorem zec : PGs X [] zkN := by
  intro pins s σ H vs us Q I r h
  obtain ⟨e, h⟩ := h
  subst e
  cases r
  exact assignInOrder_nil ⟨σ, H, I, h⟩
theorem V1 {e : Expr} {es : List Expr} {t : TG} {u : TGs} (h1 : PG X e t) (h2 : PGs X es u)
    (hs : (assignEach (e :: es) X.env).map (·.2) = assign e X.env :: (assignEach es X.env).map (·.2) := by rfl) : PGs X (e :: es) (zbx t u) := by
  intro pins s σ H vs us Q I r h
  obtain ⟨v, vr, e1, h⟩ := h
  subst e1
  cases r with
  | cons r rr =>
    rw [hs]
    refine assignInOrder_cons (thn (h1 pins s σ H _ _ _ I r h) fun _ s1 hh9 => ?_)
    obtain ⟨σ1, H1, I1, q1⟩ := hh9
    exact h2 pins s1 σ1 H1 _ _ Q I1 rr q1
noncomputable def zkJ (K : PySem.W.Frag) (n : Nat) (t : TGs) : TG := fun v σ H Q => ∃ a xs, v = .ref a ∧ SqT K H a xs ∧ xs.length = n ∧ t xs σ H Q
theorem zhm {es : List Expr} {k : Nat} {t : TGs} {n : Nat} (hc : X.calm = true) (h : PGs X es t)
    (hn : (assignEach es X.env).length = n := by rfl) (hst : (assignEach es X.env).findIdx? (·.1) = none := by rfl) : PG X (.Tuple es k pos) (zkJ X.K n t) := by
  intro pins s σ H v u Q I r hw
  obtain ⟨a, xs, e1, hq, hl, hw⟩ := hw
  subst e1
  cases r
  obtain ⟨its, rv, ht, hz⟩ := I.tuple hq
  refine assign_Tuple_tuple (I.ok.hd hc) ht (by simp [hn, ← hl, rv.length]) hst fun h' hx => ?_
  have I1 : Inv X pins σ H { s with heap := h' } := I.kept (t' := s.toks) fun b o e => hx b o (Nat.ne_of_lt (Heap.lt_size e)) e
  exact h pins _ σ H xs _ Q I1 (by simpa using rv) hw
noncomputable def gSub (to ti : TE) (t : zjJ) : TG := fun v σ H Q => to σ H fun o H1 => ti σ H1 fun i H2 => t o i v H2 fun H3 => Q σ H3
theorem zkA {o i : Expr} {to ti : TE} {t : zjJ} (ho : PE X o to) (hi : PE X i ti) (hs : zlI X t)
    (ha : ∀ v, assign (.Subscript o i pos) X.env v = (do
      let ov ← holding [v] (eval o X.env)
      let iv ← holding [v, ov] (eval i X.env)
      standAt pos
      holding [v, ov, iv] (setItem ov iv v)
      release [v, ov, iv] []) := by intro _; rfl) : PG X (.Subscript o i pos) (gSub to ti t) := by
  intro pins s σ H v u Q I r h
  rw [ha]
  refine wpAny_bind (wpAny_holding (thn (ho pins s σ H _ I h) fun ov s1 hh9 => ?_))
  obtain ⟨x, H1, I1, r1, q1⟩ := hh9
  refine wpAny_bind (wpAny_holding (thn (hi pins s1 σ H1 _ I1 q1) fun iv s2 hh9 => ?_))
  obtain ⟨y, H2, I2, r2, q2⟩ := hh9
  refine wpAny_bind (wpAny_standAt (wpAny_bind (wpAny_holding (thn (hs pins s2 σ H2 x y v ov iv u _ I2 r1 r2 r q2) fun _ s3 hh9 => ?_))))
  obtain ⟨H3, I3, q3⟩ := hh9
  exact wpAny_release ⟨σ, H3, I3, q3⟩
noncomputable def tAsg (te : TE) (g : TG) : TS := fun D σ H => te σ H fun x H1 => g x σ H1 D.nx
theorem zhb {tg e : Expr} {te : TE} {g : TG} (he : PE X e te) (hg : PG X tg g) (hs : swapsWithSole [tg] e pos.line X.env = pure false := by rfl) (hw : swappedStores [tg] e X.env = pure none := by rfl)
    (h1 : (assignEach [tg] X.env).map (·.2) = [assign tg X.env] := by rfl) : PS X (.Assign [tg] e pos) (tAsg te g) := by
  intro pins s σ H D I h
  refine wpAny_Assign_stores (thn (he pins s σ H _ I h) fun v s1 hh9 => ?_) hs hw
  obtain ⟨x, H1, I1, r1, q1⟩ := hh9
  rw [h1]
  exact thn (hg pins s1 σ H1 x v _ I1 r1 q1) fun _ s2 q => q
theorem zep {i : Nat} {x : Str} {e : Expr} {te : TE} {pos' : Pos} (hN : X.N.Nodup) (hi : X.N[i]? = some x) (hx : Loc X.env.scope x) (he : PE X e te) (hs : swapsWith e (some (.Name x pos')) pos.line X.env = pure false := by rfl) (hf : X.fn x = true ∨ X.env.scope.names.lookup x = some .local := by first | exact .inl rfl | exact .inr rfl | assumption) :
    PS X (.Assign [.Name x pos'] e pos) (tAsg te (XN i)) := by
  intro pins s σ H D I h
  refine wpAny_Assign_Name (thn (he pins s σ H _ I h) fun v s1 hh9 => ?_) hs
  obtain ⟨y, H1, I1, r1, q1⟩ := hh9
  exact X3 I1 hN hi hx r1 (fun s2 I2 => ⟨_, H1, I2, q1⟩) hf
noncomputable def tPar (i j : Nat) (ta : TA) : TS := fun D σ H => ta σ H fun vs H1 => ∃ v w, vs = [v, w] ∧ D.nx ((σ.set i (some v)).set j (some w)) H1
theorem zjp {i j : Nat} {x y : Str} {a b : Expr} {ta : TA} {px py pt : Pos} {kt k2 pt2} (hc : X.calm = true) (hN : X.N.Nodup) (hi : X.N[i]? = some x) (hj : X.N[j]? = some y) (hij : i ≠ j)
    (hx : X.env.scope.names.lookup x = some .local) (hy : X.env.scope.names.lookup y = some .local) (ha : PA X [a, b] ta)
    (hw : swappedStores [.Tuple [.Name x px, .Name y py] kt pt] (.Tuple [a, b] k2 pt2) X.env = pure (some [x, y]))
    (hs : swapsWithSole [.Tuple [.Name x px, .Name y py] kt pt] (.Tuple [a, b] k2 pt2) pos.line X.env = pure false := by rfl) :
    PS X (.Assign [.Tuple [.Name x px, .Name y py] kt pt] (.Tuple [a, b] k2 pt2) pos) (tPar i j ta) := by
  intro pins s σ H D I h
  rw [exec_Assign_arm]
  refine wpAny_bind (wpAny_standAt ?_)
  rw [hs]
  refine wpAny_bind (wpAny_pure ?_)
  rw [if_neg (by decide)]
  refine wpAny_bind (Tuple_ (thn (ha _ pins s σ H _ I h) fun us s1 hh9 => ?_))
  obtain ⟨vs, H1, I1, r1, q1⟩ := hh9
  obtain ⟨v, w, e1, q1⟩ := q1
  subst e1
  obtain ⟨u1, u2, rfl, rv, rw'⟩ : ∃ u1 u2, us = [u1, u2] ∧ yN v u1 ∧ yN w u2 := by
    cases r1 with
    | cons p q =>
      cases q with
      | cons p' q' =>
        cases q'
        exact ⟨_, _, rfl, p, p'⟩
  refine wpAny_newObj_type ?_ (by show 2 ≤ sizeLine; decide)
  have I2 : Inv X pins σ H1 { s1 with heap := s1.heap.push { cls := .type "tuple", data := .seq [u1, u2].toArray } } := I1.kept (t' := s1.toks) fun b o e => Heap.get?_push_of_some _ e
  rw [hw]
  refine wpAny_bind (wpAny_pure ?_)
  show wpAny (model X.prog X.w) X.A (do rule "assign.swapped-stores"; let items ← unpackItems (.ref s1.heap.objs.size) 2 none; assignInOrder [fun v => bindName X.env y v, fun v => bindName X.env x v] items.reverse; pure Flow.next) _ _ _
  refine wpAny_bind (wpAny_rule (wpAny_bind (unpackItems_tuple (items := #[u1, u2]) (I.ok.hd hc) (IsTup.new s1.heap _) fun h' hx' => ?_)))
  have I3 := I2.kept (h' := h') (t' := s1.toks) fun b o e => hx' b o (Nat.ne_of_lt (Heap.lt_size e)) e
  show wpAny _ _ (assignInOrder [fun v => bindName X.env y v, fun v => bindName X.env x v] [u2, u1] >>= fun _ => pure Flow.next) _ _ _
  refine wpAny_bind (assignInOrder_cons (wpAny_bindName (X3 I3 hN hj (.inl hy) rw' (fun s2 I4 => ?_) (.inr hy))))
  refine assignInOrder_cons (wpAny_bindName (X3 I4 hN hi (.inl hx) rv (fun s3 I5 => assignInOrder_nil (wpAny_pure ?_)) (.inr hx)))
  rw [List.set_comm _ _ (Ne.symm hij)] at I5
  exact ⟨_, H1, I5, q1⟩
noncomputable def zkS (to ti te : TE) (tget : V → V → Hp → VK → Prop) (tip : TIp) (tset : zjJ) : TS := fun D σ H => to σ H fun o H1 => ti σ H1 fun i H2 => tget o i H2 fun x H3 => te σ H3 fun y H4 => tip x y H4 fun z H5 => tset o i z H5 fun H6 => D.nx σ H6
noncomputable def PGet (X : Cx) (t : V → V → Hp → VK → Prop) : Prop :=
  ∀ (pins : List (Addr × Obj)) (s : Shared) (σ : St) (H : Hp) (o i : V) (ov iv : Value) (Q : VK), Inv X pins σ H s → yN o ov → yN i iv → t o i H Q →
    wpAny (model X.prog X.w) X.A (getItem ov iv) (EP X pins σ Q) X.xe s
theorem zhJ {o i e : Expr} {to ti te : TE} {tget : V → V → Hp → VK → Prop} {tip : TIp} {tset : zjJ} {op : Operator} {tpos : Pos} (ho : PE X o to) (hi : PE X i ti) (hg : PGet X tget) (he : PE X e te) (hp : PIp X op tip) (hs : zlI X tset)
    (ha : ∀ ov iv new, augStore i ov iv new = (do holding [new, ov, iv] (setItem ov iv new); release [new, ov, iv] []; pure .next) := by intros; rfl) : PS X (.AugAssign (.Subscript o i tpos) op e pos) (zkS to ti te tget tip tset) := by
  intro pins s σ H D I h
  refine wpAny_AugAssign_SubscriptAny (thn (ho pins s σ H _ I h) fun ov s1 hh9 => ?_) ha
  obtain ⟨x1, H1, I1, r1, q1⟩ := hh9
  refine thn (hi pins s1 σ H1 _ I1 q1) fun iv s2 hh9 => ?_
  obtain ⟨x2, H2, I2, r2, q2⟩ := hh9
  refine thn (hg pins s2 σ H2 x1 x2 ov iv _ I2 r1 r2 q2) fun old s3 hh9 => ?_
  obtain ⟨x3, H3, I3, r3, q3⟩ := hh9
  refine thn (he pins s3 σ H3 _ I3 q3) fun v s4 hh9 => ?_
  obtain ⟨x4, H4, I4, r4, q4⟩ := hh9
  refine thn (hp pins s4 σ H4 x3 x4 old v _ I4 r3 r4 q4) fun new s5 hh9 => ?_
  obtain ⟨x5, H5, I5, r5, q5⟩ := hh9
  exact thn (hs pins s5 σ H5 x1 x2 x5 ov iv new _ I5 r1 r2 r5 q5) fun _ s6 ⟨H6, I6, q6⟩ => ⟨σ, H6, I6, q6⟩
noncomputable def ipI (f : Int → Int → Int) : TIp := fun x y H Q => ∃ i j, x = .int i ∧ y = .int j ∧ Q (.int (f i j)) H
theorem zj3 : PIp X .Add (ipI fun i j => i + j) := by
  intro pins s σ H x y v u Q I r1 r2 h
  obtain ⟨i, j, e1, e2, q⟩ := h
  subst e1; subst e2
  obtain ⟨t, rfl⟩ := r1
  obtain ⟨t', rfl⟩ := r2
  exact iadd_int ⟨.int _, H, I.tok _, ⟨_, rfl⟩, q⟩
noncomputable def zjA (c : TT) (tb : TS) : TS := fun D σ H => ∃ W : Nat → St → Hp → Prop, (∃ m, W m σ H) ∧ ∀ m σ H, W m σ H →
  c σ H fun b H1 => if b = true then ∃ N : St → Hp → Prop, (∀ σ' H', N σ' H' → ∃ m', m' < m ∧ W m' σ' H') ∧ tb { D with nx := N, ct := N, bk := D.nx } σ H1 else D.nx σ H1
theorem zfY {c : Expr} {body : List Stmt} {tc : TT} {tb : TS} (hp : PassesOwn (model X.prog X.w) X.A X.env X.xe) (hc : PT X c tc) (hb : PSs X body tb) : PS X (.While c body [] pos) (zjA tc tb) := by
  intro pins s σ H D I h
  obtain ⟨W, ⟨m0, w0⟩, turn⟩ := h
  refine wpAny_While (codeAny_whileLoop (fun n s' => ∃ σ' H', Inv X pins σ' H' s' ∧ W n σ' H') ?_ m0 ⟨σ, H, I, w0⟩)
  rintro n s1 ⟨σ1, H1, I1, w1⟩
  refine wpAny_passesOwn hp (thn (hc pins s1 σ1 H1 _ I1 (turn n σ1 H1 w1)) fun b s2 hh9 => ?_)
  obtain ⟨H2, I2, q2⟩ := hh9
  cases b with
  | true =>
    obtain ⟨N, hN, q2⟩ := q2
    rw [if_pos rfl]
    refine wpAny_passesOwn hp (thn (hb pins s2 σ1 H2 _ I2 q2) fun f s3 q3 => ?_)
    cases f with
    | next =>
      obtain ⟨σ3, H3, I3, n3⟩ := q3
      obtain ⟨m', hm, w3⟩ := hN σ3 H3 n3
      exact ⟨m', hm, σ3, H3, I3, w3⟩
    | cont =>
      obtain ⟨σ3, H3, I3, n3⟩ := q3
      obtain ⟨m', hm, w3⟩ := hN σ3 H3 n3
      exact ⟨m', hm, σ3, H3, I3, w3⟩
    | brk => exact q3
    | ret v => exact q3
  | false =>
    rw [if_neg Bool.false_ne_true]
    exact wpAny_execs_nil ⟨σ1, H2, I2, q2⟩
end
structure It where
  go : Nat → Hp → Prop
  yld : Nat → Hp → V → Hp → Prop
  stop : Nat → Hp → Prop
noncomputable def zcd (X : Cx) (pins : List (Addr × Obj)) (H : Hp) (b : Addr) : Prop :=
  H b = none ∧ b ≠ X.env.locals ∧ b ∉ X.fs ∧ (b ∈ X.ex ∨ X.s₀.heap.objs.size ≤ b) ∧ (∀ x c, X.env.cells.lookup x = some c → c ≠ b) ∧ ∀ p ∈ X.pn ++ pins, p.1 ≠ b
theorem Inv.fpOk {X : Cx} {pins : List (Addr × Obj)} {σ : St} {H H' : Hp} {s : Shared} {b : Addr} (I : Inv X pins σ H s) (hb : s.heap.objs.size ≤ b) (hn : H' b = none) : zcd X pins H' b := by
  refine ⟨hn, Nat.ne_of_gt (Nat.lt_of_lt_of_le I.lt hb), I.nofs hb, .inr (Nat.le_trans I.sz hb), fun x c e z => ?_, fun p hp z => ?_⟩
  · obtain ⟨v, q⟩ := I.cell x c e
    exact absurd (Nat.lt_of_lt_of_le q.lt (by rw [z]; exact hb)) (Nat.lt_irrefl _)
  · exact absurd (Nat.lt_of_lt_of_le (Heap.lt_size (I.pin p hp).1) (by rw [z]; exact hb)) (Nat.lt_irrefl _)
set_option genInjectivity false in
set_option genSizeOf false in
set_option genCtorIdx false in
structure zg6 (P : Program) (w : World) (K : PySem.W.Frag) (tg : Expr) (J : It) (fp : List Addr) (it : Addr) (tn : Nat → Heap → Prop) : Prop where
  mem : it ∈ fp
  obj : ∀ i h, tn i h → ∀ b ∈ fp, ∃ o, h.get? b = some o ∧ ∀ v, o.data ≠ .cell v
  keep : ∀ i h h', tn i h → (∀ b ∈ fp, ∀ o, h.get? b = some o → h'.get? b = some o) → tn i h'
  item : ∀ (X : Cx), X.prog = P → X.w = w → X.K = K → X.calm = true → ∀ (i : Nat) (pins : List (Addr × Obj)) (s : Shared) (σ : St) (H : Hp) (E : Value → Shared → Prop), Inv X pins σ H s → (∀ b ∈ fp, zcd X pins H b) → tn i s.heap → J.go i H →
    wpAny (model P w) X.A (pyNext (.ref it)) (fun r s1 => ∃ u, r = some u ∧
      wpAny (model P w) X.A (letOwnedTupleGo tg (.ref it) u) (fun _ s2 => ∃ x H', Inv X pins σ H' s2 ∧ yN x u ∧ J.yld i H x H' ∧ tn (i + 1) s2.heap ∧ ∀ b ∈ fp, H' b = none) E s1) E s
  done : ∀ (X : Cx), X.prog = P → X.w = w → X.K = K → X.calm = true → ∀ (i : Nat) (pins : List (Addr × Obj)) (s : Shared) (σ : St) (H : Hp) (E : Value → Shared → Prop), Inv X pins σ H s → (∀ b ∈ fp, zcd X pins H b) → tn i s.heap → J.stop i H →
    wpAny (model P w) X.A (pyNext (.ref it)) (fun r s1 => r = none ∧ Inv X pins σ H s1) E s
  self : ∀ (A : Around) (i : Nat) (s : Shared) (Q : Value → Shared → Prop) (E : Value → Shared → Prop), tn i s.heap → Q (.ref it) s → wpAny (model P w) A (pyIter (.ref it)) Q E s
noncomputable abbrev TI := St → Hp → (It → Hp → Prop) → Prop
noncomputable def PIE (X : Cx) (pins : List (Addr × Obj)) (σ : St) (tg : Expr) (R : It → Hp → Prop) (itv : Value) (s2 : Shared) : Prop :=
  ∃ (it : Addr) (fp : List Addr) (tn : Nat → Heap → Prop) (J : It) (H' : Hp), itv = .ref it ∧ Inv X pins σ H' s2 ∧ zg6 X.prog X.w X.K tg J fp it tn ∧ tn 0 s2.heap ∧ (∀ b ∈ fp, zcd X pins H' b) ∧ R J H'
noncomputable def PI (X : Cx) (tg iter : Expr) (wi : TI) : Prop :=
  ∀ (pins : List (Addr × Obj)) (s : Shared) (σ : St) (H : Hp) (R : It → Hp → Prop), Inv X pins σ H s → wi σ H R →
    wpAny (model X.prog X.w) X.A (eval iter X.env) (fun v s1 => wpAny (model X.prog X.w) X.A (pyIter v) (PIE X pins σ tg R) X.xe s1) X.xe s
theorem zfN {M : Model} {A : Around} {E : Value → Shared → Prop} {s : Shared} {tg : Expr} {it : Addr} {u : Value} {o : Obj} {n : String} {vs : Array Value} {Q : Unit → Shared → Prop} (ho : s.heap.get? it = some o) (hc : o.cls = .type n) (hd : o.data = .fields vs)
    (hn : ["enumerate", "zip", "dict_itemiterator", "dict_reverseitemiterator", "odict_iterator", "itertools.zip_longest", "itertools.pairwise"].contains n = false) (hQ : Q () s) : wpAny M A (letOwnedTupleGo tg (.ref it) u) Q E s := by
  unfold letOwnedTupleGo
  cases tg <;> first
    | exact wpAny_pure hQ
    | (cases u <;> first
        | exact wpAny_pure hQ
        | (refine wpAny_bind (wpAny_load ho ?_)
           rw [hc, hd]
           show wpAny M A (if (["enumerate", "zip", "dict_itemiterator", "dict_reverseitemiterator", "odict_iterator", "itertools.zip_longest", "itertools.pairwise"].contains n && vs[0]? == some (rawInt _)) = true then _ else _) Q E s
           rw [if_neg (by intro h; rw [hn, Bool.false_and] at h; cases h)]
           exact wpAny_pure hQ))
noncomputable def Itl (K : PySem.W.Frag) (a : Addr) : It :=
  ⟨fun i H => ∃ xs x, SqL K H a xs ∧ xs[i]? = some x, fun i H x H' => H' = H ∧ ∀ xs, SqL K H a xs → xs[i]? = some x, fun i H => ∃ xs, SqL K H a xs ∧ xs.length ≤ i⟩
noncomputable def Itt (K : PySem.W.Frag) (a : Addr) : It :=
  ⟨fun i H => ∃ xs x, SqT K H a xs ∧ xs[i]? = some x, fun i H x H' => H' = H ∧ ∀ xs, SqT K H a xs → xs[i]? = some x, fun i H => ∃ xs, SqT K H a xs ∧ xs.length ≤ i⟩
noncomputable def Itr (lo : Int) (n : Nat) : It := ⟨fun i _ => i < n, fun i H x H' => H' = H ∧ x = .int (lo + i), fun i _ => n ≤ i⟩
theorem zeq {P : Program} {w : World} {K : PySem.W.Frag} {tg : Expr} (a it : Addr) : zg6 P w K tg (Itl K a) [it] it (fun i h => h.IsListIter it a i) where
  mem := by simp
  obj := fun i h st b hb => by
    have e : b = it := by simpa using hb
    subst e
    obtain ⟨o, e, c, d⟩ := st
    exact ⟨o, e, fun v z => by rw [d] at z; cases z⟩
  keep := fun i h h' st k => st.at fun o e => k it (by simp) o e
  item := by
    intro X hP hw hK hc i pins s σ H E I hf st hg
    subst hP hw hK
    obtain ⟨xs, x, hq, hx⟩ := hg
    obtain ⟨its, rv, p, hz⟩ := I.list hq
    obtain ⟨u, hu, ru⟩ := rv.get hx
    obtain ⟨f0, f1, f2, f3, f4, f5⟩ := hf it (by simp)
    refine wpAny_pyNext_list_item st p.isList (x := u) (by simpa using hu) fun h' st' sb => ?_
    have I1 : Inv X pins σ H { s with heap := h' } := I.turned (t' := s.toks) (fun b o hb e => (sb.2 b hb).trans e) f0 f1 f3 f4 f5
    obtain ⟨o, e, c, d⟩ := id st'
    exact ⟨u, rfl, zfN (s := { s with heap := h' }) e c d (by decide) ⟨x, H, I1, ru, ⟨rfl, fun ys hy => by rw [I.list_inj hy hq]; exact hx⟩, st', fun b hb => (hf b hb).1⟩⟩
  done := by
    intro X hP hw hK hc i pins s σ H E I hf st hg
    subst hP hw hK
    obtain ⟨xs, hq, hx⟩ := hg
    obtain ⟨its, rv, p, hz⟩ := I.list hq
    obtain ⟨f0, f1, f2, f3, f4, f5⟩ := hf it (by simp)
    have hl := rv.length
    exact wpAny_pyNext_list_end (I.ok.hd hc) st p.isList (by simp; omega) fun h' eb => ⟨rfl, I.turned (t' := s.toks) (fun b o hb e => eb b o hb e) f0 f1 f3 f4 f5⟩
  self := fun _ _ _ _ _ st h => wpAny_pyIter_listiter st h
theorem zdv {P : Program} {w : World} {K : PySem.W.Frag} {tg : Expr} (a it : Addr) : zg6 P w K tg (Itt K a) [it] it (fun i h => h.IsTupleIter it a i) where
  mem := by simp
  obj := fun i h st b hb => by
    have e : b = it := by simpa using hb
    subst e
    obtain ⟨o, e, c, d⟩ := st
    exact ⟨o, e, fun v z => by rw [d] at z; cases z⟩
  keep := fun i h h' st k => st.at fun o e => k it (by simp) o e
  item := by
    intro X hP hw hK hc i pins s σ H E I hf st hg
    subst hP hw hK
    obtain ⟨xs, x, hq, hx⟩ := hg
    obtain ⟨its, rv, p, hz⟩ := I.tuple hq
    obtain ⟨u, hu, ru⟩ := rv.get hx
    obtain ⟨f0, f1, f2, f3, f4, f5⟩ := hf it (by simp)
    refine wpAny_pyNext_tuple_item st (show s.heap.IsTuple a its.toArray from p) (x := u) (by simpa using hu) fun h' st' sb => ?_
    have I1 : Inv X pins σ H { s with heap := h' } := I.turned (t' := s.toks) (fun b o hb e => (sb.2 b hb).trans e) f0 f1 f3 f4 f5
    obtain ⟨o, e, c, d⟩ := id st'
    exact ⟨u, rfl, zfN (s := { s with heap := h' }) e c d (by decide) ⟨x, H, I1, ru, ⟨rfl, fun ys hy => by rw [I.tuple_inj hy hq]; exact hx⟩, st', fun b hb => (hf b hb).1⟩⟩
  done := by
    intro X hP hw hK hc i pins s σ H E I hf st hg
    subst hP hw hK
    obtain ⟨xs, hq, hx⟩ := hg
    obtain ⟨its, rv, p, hz⟩ := I.tuple hq
    obtain ⟨f0, f1, f2, f3, f4, f5⟩ := hf it (by simp)
    have hl := rv.length
    exact wpAny_pyNext_tuple_end (I.ok.hd hc) st (show s.heap.IsTuple a its.toArray from p) (by simp; omega) fun h' eb => ⟨rfl, I.turned (t' := s.toks) (fun b o hb e => eb b o hb e) f0 f1 f3 f4 f5⟩
  self := fun _ _ _ _ _ st h => wpAny_pyIter_tupleiter st h
theorem zc3 {P : Program} {w : World} {K : PySem.W.Frag} {tg : Expr} (it : Addr) (lo : Int) (n : Nat) : zg6 P w K tg (Itr lo n) [it] it (fun i h => IsRangeIter h it (lo + (i : Nat) * 1) ((n : Int) - (i : Nat)) 1) where
  mem := by simp
  obj := fun i h st b hb => by
    have e : b = it := by simpa using hb
    subst e
    exact ⟨_, st, fun v z => by
      have z' : Data.fields _ = Data.cell v := z
      cases z'⟩
  keep := fun i h h' st k => k it (by simp) _ st
  item := by
    intro X hP hw hK hc i pins s σ H E I hf st hg
    subst hP hw hK
    obtain ⟨f0, f1, f2, f3, f4, f5⟩ := hf it (by simp)
    have W := Walks.range (prog := X.prog) (w := X.w) (I.ok.hd hc) it lo 1 n
    refine W.item i s _ _ hg st fun v h' tk hv st' kk => ?_
    obtain ⟨t, rfl⟩ := hv
    have I1 : Inv X pins σ H { s with heap := h', toks := tk } := I.turned (fun b o hb e => kk b o (by simpa using hb) e) f0 f1 f3 f4 f5
    refine ⟨_, rfl, zfN (s := { s with heap := h', toks := tk }) (n := "range_iterator") st' rfl rfl (by decide) ⟨.int (lo + i), H, I1, ⟨t, ?_⟩, ⟨rfl, rfl⟩, st', fun b hb => (hf b hb).1⟩⟩
    rw [Int.mul_one]
  done := by
    intro X hP hw hK hc i pins s σ H E I hf st hg
    subst hP hw hK
    obtain ⟨f0, f1, f2, f3, f4, f5⟩ := hf it (by simp)
    exact wpAny_pyNext_range_end (I.ok.hd hc) st (by have : n ≤ i := hg; omega) fun h' eb => ⟨rfl, I.turned (t' := s.toks) (fun b o hb e => eb b o hb e) f0 f1 f3 f4 f5⟩
  self := fun _ _ _ _ _ st h => wpAny_pyIter_rangeiter st h
section
variable {X : Cx} {tg : Expr}
theorem zcg {pins : List (Addr × Obj)} {σ : St} {H : Hp} {s : Shared} {R : It → Hp → Prop} {E : Value → Shared → Prop} {lo hi : Int} {t u v : Tok} {tk : Nat} (I : Inv X pins σ H s) (h1 : -(2 ^ 62) ≤ lo) (h2 : lo < 2 ^ 62) (h3 : -(2 ^ 62) ≤ hi) (h4 : hi < 2 ^ 62)
    (q : R (Itr lo (hi - lo).toNat) H) : wpAny (model X.prog X.w) X.A (pyIter (.ref s.heap.objs.size)) (PIE X pins σ tg R) E { s with heap := s.heap.push { cls := .type "range", data := .fields #[.int lo t, .int hi u, .int 1 v] }, toks := tk } := by
  refine wpAny_pyIter_range (IsRange.new ..) (small_one h1 h2 h3 h4) ?_
  have I1 : Inv X pins σ H { s with heap := s.heap.push { cls := .type "range", data := .fields #[.int lo t, .int hi u, .int 1 v] }, toks := tk } := I.kept fun b o e => Heap.get?_push_of_some _ e
  refine ⟨(s.heap.push { cls := .type "range", data := .fields #[.int lo t, .int hi u, .int 1 v] }).objs.size, [(s.heap.push { cls := .type "range", data := .fields #[.int lo t, .int hi u, .int 1 v] }).objs.size], _, _, H, rfl,
    I1.kept (t' := tk) fun b o e => Heap.get?_push_of_some _ e, zc3 _ lo (hi - lo).toNat, ?_, fun b hb => ?_, q⟩
  · have e1 : lo + ((0 : Nat) : Int) * 1 = lo := by simp
    have e2 : (((hi - lo).toNat : Nat) : Int) - ((0 : Nat) : Int) = Builtin.Range.rangeSize lo hi 1 := by rw [rangeSize_one]; split <;> omega
    show IsRangeIter _ _ (lo + ((0 : Nat) : Int) * 1) ((((hi - lo).toNat : Nat) : Int) - ((0 : Nat) : Int)) 1
    rw [e1, e2]
    exact Heap.get?_push_size _ rfl
  · have e : b = (s.heap.push { cls := .type "range", data := .fields #[.int lo t, .int hi u, .int 1 v] }).objs.size := by simpa using hb
    subst e
    exact I1.fpOk (Nat.le_refl _) (I1.hok.fresh (Nat.le_refl _))
noncomputable def zlo (ta : TA) : TI := fun σ H R => ta σ H fun vs H1 => ∃ j : Int, vs = [.int j] ∧ -(2 ^ 62) ≤ j ∧ j < 2 ^ 62 ∧ R (Itr 0 j.toNat) H1
noncomputable def zk8 (ta : TA) : TI := fun σ H R => ta σ H fun vs H1 => ∃ i j : Int, vs = [.int i, .int j] ∧ (-(2 ^ 62) ≤ i ∧ i < 2 ^ 62 ∧ -(2 ^ 62) ≤ j ∧ j < 2 ^ 62) ∧ R (Itr i (j - i).toNat) H1
theorem za8 {a : Expr} {ta : TA} {p pos : Pos} (hg : Gl X "range") (hm : X.mg "range" = none) (ha : PA X [a] ta) (hs : starEach [a] X.env = [(false, eval a X.env)] := by rfl) : PI X tg (.Call (.Name "range" p) [a] [] pos) (zlo ta) := by
  intro pins s σ H R I h
  refine Call_ (ZH I hg hm boot_range (PyProof.Rows.callWith_type1 (thn (ha pos pins s σ H _ I h) fun us s1 hh9 => ?_) hs rfl))
  obtain ⟨vs, H1, I1, r1, q1⟩ := hh9
  obtain ⟨j, e, q1, q2, q⟩ := q1
  subst e
  cases r1 with
  | cons r rr =>
    cases rr
    obtain ⟨t, rfl⟩ := r
    exact call_range_1 (zcg I1 (by omega) (by omega) q1 q2 (by simpa using q))
theorem zdL {a b : Expr} {ta : TA} {p pos : Pos} (hg : Gl X "range") (hm : X.mg "range" = none) (ha : PA X [a, b] ta) (hs : starEach [a, b] X.env = [(false, eval a X.env), (false, eval b X.env)] := by rfl) (hs2 : starEach [b] X.env = [(false, eval b X.env)] := by rfl) :
    PI X tg (.Call (.Name "range" p) [a, b] [] pos) (zk8 ta) := by
  intro pins s σ H R I h
  refine Call_ (ZH I hg hm boot_range (PyProof.Rows.callWith_type1 (thn (ha pos pins s σ H _ I h) fun us s1 hh9 => ?_) (by rw [hs, hs2]) (by rw [hs2]; rfl)))
  obtain ⟨vs, H1, I1, r1, q1⟩ := hh9
  obtain ⟨i, j, e, ⟨q1, q2, q3, q4⟩, q⟩ := q1
  subst e
  cases r1 with
  | cons r rr =>
    cases rr with
    | cons r' rr =>
      cases rr
      obtain ⟨t, rfl⟩ := r
      obtain ⟨t', rfl⟩ := r'
      exact call_range_2 (zcg I1 q1 q2 q3 q4 q)
noncomputable def tFor (wi : TI) (g : TG) (tb : TS) : TS := fun D σ H => wi σ H fun J H1 => ∃ W : Nat → Nat → St → Hp → Prop, (∃ m, W 0 m σ H1) ∧ ∀ i m σ H, W i m σ H →
  (J.stop i H ∧ D.nx σ H) ∨ (J.go i H ∧ ∃ N : St → Hp → Prop, (∀ σ' H', N σ' H' → ∃ m', m' < m ∧ W (i + 1) m' σ' H') ∧ ∀ x H', J.yld i H x H' → g x σ H' fun σ2 H2 => tb { D with nx := N, ct := N, bk := D.nx } σ2 H2)
noncomputable def Vd (fp : List Addr) (h : Heap) : List (Addr × Obj) := fp.filterMap fun b => (h.get? b).map fun o => (b, o)
theorem YS {fp : List Addr} {h : Heap} {b : Addr} {o : Obj} (hb : b ∈ fp) (e : h.get? b = some o) : (b, o) ∈ Vd fp h := List.mem_filterMap.mpr ⟨b, hb, by rw [e]; rfl⟩
theorem zd7 {fp : List Addr} {h : Heap} {p : Addr × Obj} (hp : p ∈ Vd fp h) : p.1 ∈ fp ∧ h.get? p.1 = some p.2 := by
  obtain ⟨b, hb, e⟩ := List.mem_filterMap.mp hp
  cases q : h.get? b with
  | none => rw [q] at e; cases e
  | some o =>
    rw [q] at e
    have e' : (b, o) = p := Option.some.inj e
    subst e'
    exact ⟨hb, q⟩
theorem Inv.pinned {pins : List (Addr × Obj)} {σ : St} {H : Hp} {s : Shared} {fp : List Addr} (I : Inv X pins σ H s) (hf : ∀ b ∈ fp, zcd X pins H b) (ho : ∀ b ∈ fp, ∃ o, s.heap.get? b = some o ∧ ∀ v, o.data ≠ .cell v) : Inv X (pins ++ Vd fp s.heap) σ H s :=
  I.pins_of fun p hp => (List.mem_append.mp hp).elim (fun z => I.pin p (List.mem_append_right _ z)) fun z => by
    obtain ⟨hb, e⟩ := zd7 z
    obtain ⟨f0, f1, f2, _⟩ := hf p.1 hb
    obtain ⟨o, e', d⟩ := ho p.1 hb
    rw [e] at e'; cases e'
    exact ⟨e, f0, f1, f2, d⟩
theorem Inv.unpinned {pins pl : List (Addr × Obj)} {σ : St} {H : Hp} {s : Shared} (I : Inv X (pins ++ pl) σ H s) : Inv X pins σ H s := I.pins_of fun p hp => I.pin p (List.mem_append_right _ (List.mem_append_left _ hp))
theorem zgV {iter : Expr} {body : List Stmt} {wi : TI} {g : TG} {tb : TS} {pos : Pos} (hp : PassesOwn (model X.prog X.w) X.A X.env X.xe) (hc : X.calm = true) (hi : PI X tg iter wi) (hg : PG X tg g) (hb : PSs X body tb)
    (hs : ∀ x, foldedSetIterable iter X.env x = pure x := by intro _; rfl) : PS X (.For tg iter body [] pos) (tFor wi g tb) := by
  intro pins s σ H D I h
  refine wpAny_For (thn (hi pins s σ H _ I h) fun v s1 h1 => thn h1 fun itv s2 h2 => ?_) hs
  obtain ⟨it, fp, tn, J, H2, e, I2, T, st2, f2, W, ⟨m0, w0⟩, turn⟩ := h2
  subst e
  -- what stays true of the iterator's objects through the loop
  have stat : ∀ {H' : Hp}, (∀ b ∈ fp, H' b = none) → ∀ b ∈ fp, zcd X pins H' b := fun hn b hb => ⟨hn b hb, (f2 b hb).2⟩
  refine codeAny_forLoop_any (fun n s' => ∃ i σ' H', Inv X pins σ' H' s' ∧ tn i s'.heap ∧ (∀ b ∈ fp, H' b = none) ∧ W i n σ' H') ?_ m0 ⟨0, σ, H2, I2, st2, fun b hb => (f2 b hb).1, w0⟩
  rintro n s3 ⟨i, σ3, H3, I3, st3, fr3, w3⟩
  rcases turn i n σ3 H3 w3 with ⟨stop, qn⟩ | ⟨go, N, hN, step⟩
  · refine wpAny_passesOwn hp (thn (T.done X rfl rfl rfl hc i pins s3 σ3 H3 X.xe I3 (stat fr3) st3 stop) fun r s4 hh9 => ?_)
    obtain ⟨hr, I4⟩ := hh9
    subst hr
    exact wpAny_execs_nil ⟨σ3, H3, I4, qn⟩
  · refine wpAny_passesOwn hp (thn (T.item X rfl rfl rfl hc i pins s3 σ3 H3 X.xe I3 (stat fr3) st3 go) fun r s4 hh9 => ?_)
    obtain ⟨u, hr, h4⟩ := hh9
    subst hr
    refine wpAny_passesOwn hp (thn h4 fun _ s5 hh9 => ?_)
    obtain ⟨x, H5, I5, r5, y5, st5, fr5⟩ := hh9
    have I5' := I5.pinned (stat fr5) (T.obj _ _ st5)
    refine wpAny_passesOwn hp (thn (hg _ s5 σ3 H5 x u _ I5' r5 (step x H5 y5)) fun _ s6 hh9 => ?_)
    obtain ⟨σ6, H6, I6, q6⟩ := hh9
    refine wpAny_passesOwn hp (thn (hb _ s6 σ6 H6 _ I6 q6) fun f s7 q7 => ?_)
    have again : ∀ {σ7 : St} {H7 : Hp}, Inv X (pins ++ Vd fp s5.heap) σ7 H7 s7 → N σ7 H7 → ∃ m, m < n ∧ ∃ i σ' H', Inv X pins σ' H' s7 ∧ tn i s7.heap ∧ (∀ b ∈ fp, H' b = none) ∧ W i m σ' H' := fun {σ7 H7} I7 n7 => by
      obtain ⟨m', hm, w7⟩ := hN σ7 H7 n7
      refine ⟨m', hm, i + 1, σ7, H7, I7.unpinned, T.keep _ _ _ st5 fun b hb o e => (I7.pin (b, o) (List.mem_append_right _ (List.mem_append_right _ (YS hb e)))).1, fun b hb => ?_, w7⟩
      obtain ⟨o, e, d⟩ := T.obj _ _ st5 b hb
      exact (I7.pin (b, o) (List.mem_append_right _ (List.mem_append_right _ (YS hb e)))).2.1
    cases f with
    | next => obtain ⟨σ7, H7, I7, n7⟩ := q7; exact again I7 n7
    | cont => obtain ⟨σ7, H7, I7, n7⟩ := q7; exact again I7 n7
    | brk => obtain ⟨σ7, H7, I7, q7⟩ := q7; exact ⟨σ7, H7, I7.unpinned, q7⟩
    | ret v => obtain ⟨x7, σ7, H7, I7, r7, q7⟩ := q7; exact ⟨x7, σ7, H7, I7.unpinned, r7, q7⟩
end
noncomputable abbrev R2 := V → V → Hp → VK → Prop
noncomputable def OpR (X : Cx) (f : Value → Value → Sem Value) (r : R2) : Prop :=
  ∀ (pins : List (Addr × Obj)) (s : Shared) (σ : St) (H : Hp) (x y : V) (v u : Value) (Q : VK), Inv X pins σ H s → yN x v → yN y u → r x y H Q →
    wpAny (model X.prog X.w) X.A (f v u) (EP X pins σ Q) X.xe s
noncomputable def YD (X : Cx) (f : Value) (r : List V → Hp → VK → Prop) : Prop :=
  ∀ (pins : List (Addr × Obj)) (s : Shared) (σ : St) (H : Hp) (xs : List V) (us : List Value) (Q : VK), Inv X pins σ H s → yx xs us → r xs H Q →
    wpAny (model X.prog X.w) X.A (call f us) (EP X pins σ Q) X.xe s
noncomputable def tOp (r : R2) (ta tb : TE) : TE := fun σ H Q => ta σ H fun x H1 => tb σ H1 fun y H2 => r x y H2 Q
noncomputable def rI (C : Int → Int → Prop) (g : Int → Int → V) : R2 := fun x y H Q => ∃ i j, x = .int i ∧ y = .int j ∧ C i j ∧ Q (g i j) H
noncomputable def rI0 (g : Int → Int → V) : R2 := fun x y H Q => ∃ i j, x = .int i ∧ y = .int j ∧ Q (g i j) H
section
variable {X : Cx} {a b c : Expr} {ta tb tc : TE} {pos : Pos}
theorem zlc (ha : PE X a ta) (hb : PE X b tb) {pins : List (Addr × Obj)} {s : Shared} {σ : St} {H : Hp} {R : V → V → Hp → Prop} (I : Inv X pins σ H s)
    (h : ta σ H fun x H1 => tb σ H1 fun y H2 => R x y H2) {Q : Value → Shared → Prop} {f : Value → Value → Sem Value}
    (hf : ∀ v u s2 x y H2, Inv X pins σ H2 s2 → yN x v → yN y u → R x y H2 → wpAny (model X.prog X.w) X.A (f v u) Q X.xe s2) :
    wpAny (model X.prog X.w) X.A (eval a X.env) (fun v s₁ => wpAny (model X.prog X.w) X.A (eval b X.env) (fun u s₂ => wpAny (model X.prog X.w) X.A (f v u) Q X.xe s₂) X.xe s₁) X.xe s := by
  refine thn (ha pins s σ H _ I h) fun v s1 hh9 => ?_
  obtain ⟨x, H1, I1, r1, q1⟩ := hh9
  refine thn (hb pins s1 σ H1 _ I1 q1) fun u s2 hh9 => ?_
  obtain ⟨y, H2, I2, r2, q2⟩ := hh9
  exact hf v u s2 x y H2 I2 r1 r2 q2
theorem zjl {op : Operator} {r : R2} (ho : OpR X (binaryOp op) r) (ha : PE X a ta) (hb : PE X b tb) : PE X (.BinOp a op b pos) (tOp r ta tb) := by
  intro pins s σ H Q I h
  exact wpAny_BinOp (zlc ha hb I h fun v u s2 x y H2 I2 rx ry q => ho pins s2 σ H2 x y v u Q I2 rx ry q)
theorem opI {f : Value → Value → Sem Value} {C : Int → Int → Prop} {g : Int → Int → Int}
    (rule : ∀ (i j : Int) (t u : Tok) (s : Shared) (Q : Value → Shared → Prop) (E : Value → Shared → Prop), C i j → Q (.int (g i j) s.toks) { s with toks := s.toks + 1 } → wpAny (model X.prog X.w) X.A (f (.int i t) (.int j u)) Q E s) :
    OpR X f (rI C fun i j => .int (g i j)) := by
  intro pins s σ H x y v u Q I rx ry h
  obtain ⟨i, j, rfl, rfl, hc, q⟩ := h
  obtain ⟨t, rfl⟩ := rx
  obtain ⟨t', rfl⟩ := ry
  exact rule i j t t' s _ _ hc ⟨.int (g i j), H, I.tok _, ⟨_, rfl⟩, q⟩
theorem zkX {f : Value → Value → Sem Value} {g : Int → Int → Int}
    (rule : ∀ (i j : Int) (t u : Tok) (s : Shared) (Q : Value → Shared → Prop) (E : Value → Shared → Prop), Q (.int (g i j) s.toks) { s with toks := s.toks + 1 } → wpAny (model X.prog X.w) X.A (f (.int i t) (.int j u)) Q E s) :
    OpR X f (rI0 fun i j => .int (g i j)) := by
  intro pins s σ H x y v u Q I rx ry h
  obtain ⟨i, j, rfl, rfl, q⟩ := h
  obtain ⟨t, rfl⟩ := rx
  obtain ⟨t', rfl⟩ := ry
  exact rule i j t t' s _ _ ⟨.int (g i j), H, I.tok _, ⟨_, rfl⟩, q⟩
theorem zkM {f : Value → Value → Sem Value} {g : Int → Int → Bool}
    (rule : ∀ (i j : Int) (t u : Tok) (s : Shared) (Q : Value → Shared → Prop) (E : Value → Shared → Prop), Q (.bool (g i j)) s → wpAny (model X.prog X.w) X.A (f (.int i t) (.int j u)) Q E s) :
    OpR X f (rI0 fun i j => .bl (g i j)) := by
  intro pins s σ H x y v u Q I rx ry h
  obtain ⟨i, j, rfl, rfl, q⟩ := h
  obtain ⟨t, rfl⟩ := rx
  obtain ⟨t', rfl⟩ := ry
  exact rule i j t t' s _ _ ⟨.bl (g i j), H, I, rfl, q⟩
noncomputable def CPow (i j : Int) : Prop := 0 ≤ j ∧ j ≤ 1000000 ∧ i.natAbs < 2 ^ 64
noncomputable def zkV (i j : Int) : Prop := (-(2 ^ 64) < i ∧ i < 2 ^ 64) ∨ (-(2 ^ 64) < j ∧ j < 2 ^ 64)
theorem zkV.ok {i j : Int} (h : zkV i j) : IntMulOk i j := by
  rcases h with ⟨h1, h2⟩ | ⟨h1, h2⟩
  · exact .of_left (intBits_le_64 h1 h2)
  · exact .of_right (intBits_le_64 h1 h2)
theorem zjC : OpR X (binaryOp .Add) (rI0 fun i j => .int (i + j)) := zkX fun _ _ _ _ _ _ _ q => add_int q
theorem zjD : OpR X (binaryOp .Sub) (rI0 fun i j => .int (i - j)) := zkX fun _ _ _ _ _ _ _ q => sub_int q
theorem zi6 : OpR X (binaryOp .Mult) (rI zkV fun i j => .int (i * j)) := opI fun _ _ _ _ _ _ _ hc q => mul_int q hc.ok
theorem zjs : OpR X (binaryOp .Mod) (rI (fun _ j => 0 < j) fun i j => .int (i % j)) := opI fun i j _ _ _ _ _ hc q => by
  have h1 : (0 : Int) < j := hc
  exact mod_int' (by omega) (by rw [Int.fmod_eq_emod_of_nonneg i (by omega)]; exact q)
theorem zku : OpR X (binaryOp .LShift) (rI CPow fun i j => .int (i * 2 ^ j.toNat)) := opI fun _ _ _ _ _ _ _ hc q => lshift_int_small hc.1 hc.2.1 hc.2.2 q
theorem zjZ : OpR X (binaryOp .BitXor) (rI0 fun i j => .int (Builtin.bitXor i j)) := zkX fun _ _ _ _ _ _ _ q => xor_int q
end
noncomputable def scal : V → V → Bool
  | .non, .non => true | .non, .int _ => true | .int _, .non => true | .non, .bl _ => true | .bl _, .non => true | .non, .str _ => true | .str _, .non => true
  | .int _, .int _ => true | .bl _, .bl _ => true | .str _, .str _ => true | .byt _, .byt _ => true
  | .int _, .str _ => true | .str _, .int _ => true | .bl _, .str _ => true | .str _, .bl _ => true
  | _, _ => false
noncomputable def rEq : R2 := fun x y H Q => scal x y = true ∧ Q (.bl (decide (x = y))) H
noncomputable def rNe : R2 := fun x y H Q => scal x y = true ∧ Q (.bl (!decide (x = y))) H
theorem zfe {i j : Int} : decide (V.int i = V.int j) = (i == j) := by
  rw [Bool.eq_iff_iff]
  simp
theorem zhr {i j : Bool} : decide (V.bl i = V.bl j) = (i == j) := by
  rw [Bool.eq_iff_iff]
  simp
theorem zer {i j : Str} : decide (V.str i = V.str j) = (i == j) := by
  rw [Bool.eq_iff_iff]
  simp
theorem zeV {i j : Array UInt8} : decide (V.byt i = V.byt j) = (i.toList == j.toList) := by
  rw [Bool.eq_iff_iff]
  cases i
  cases j
  simp
section
variable {X : Cx} {a b c : Expr} {ta tb tc : TE} {pos : Pos}
theorem zX {pins : List (Addr × Obj)} {σ : St} {H : Hp} {s : Shared} {Q : VK} {k k' : Bool} (I : Inv X pins σ H s) (q : Q (.bl k) H) (e : k = k') : EP X pins σ Q (.bool k') s := by
  subst e
  exact ⟨.bl k, H, I, rfl, q⟩
theorem zlO : OpR X (compareOp .Eq) rEq := by
  intro pins s σ H x y v u Q I rx ry h
  obtain ⟨hs, q⟩ := h
  cases x with
  | non =>
    cases rx
    cases y with
    | non => cases ry; exact PySem.EqNone.eq_none_none (zX I q (by simp))
    | bl j => cases ry; exact PySem.EqNone.eq_none_bool (zX I q (by simp))
    | int j => obtain ⟨t', rfl⟩ := ry; exact PySem.EqNone.eq_none_int (zX I q (by simp))
    | str j => obtain ⟨t', rfl⟩ := ry; exact PySem.EqNone.eq_none_str (zX I q (by simp))
    | _ => exact absurd (show false = true from hs) Bool.false_ne_true
  | bl i =>
    cases rx
    cases y with
    | non => cases ry; exact PySem.EqNone.eq_bool_none (zX I q (by simp))
    | bl j => cases ry; exact eq_bool (zX I q zhr)
    | str j => obtain ⟨t', rfl⟩ := ry; exact PySem.EqMixed.eq_bool_str (zX I q (by simp))
    | _ => exact absurd (show false = true from hs) Bool.false_ne_true
  | int i =>
    obtain ⟨t, rfl⟩ := rx
    cases y with
    | non => cases ry; exact PySem.EqNone.eq_int_none (zX I q (by simp))
    | int j => obtain ⟨t', rfl⟩ := ry; exact eq_int (zX I q zfe)
    | str j => obtain ⟨t', rfl⟩ := ry; exact PySem.EqMixed.eq_int_str (zX I q (by simp))
    | _ => exact absurd (show false = true from hs) Bool.false_ne_true
  | str i =>
    obtain ⟨t, rfl⟩ := rx
    cases y with
    | non => cases ry; exact PySem.EqNone.eq_str_none (zX I q (by simp))
    | bl j => cases ry; exact PySem.EqMixed.eq_str_bool (zX I q (by simp))
    | int j => obtain ⟨t', rfl⟩ := ry; exact PySem.EqMixed.eq_str_int (zX I q (by simp))
    | str j => obtain ⟨t', rfl⟩ := ry; exact eq_str (zX I q zer)
    | _ => exact absurd (show false = true from hs) Bool.false_ne_true
  | byt i =>
    obtain ⟨t, rfl⟩ := rx
    cases y with
    | byt j => obtain ⟨t', rfl⟩ := ry; exact PySem.W.eq_bytes (zX I q zeV)
    | _ => exact absurd (show false = true from hs) Bool.false_ne_true
  | _ => cases y <;> exact absurd (show false = true from hs) Bool.false_ne_true
theorem Vo : OpR X (compareOp .NotEq) rNe := by
  intro pins s σ H x y v u Q I rx ry h
  obtain ⟨hs, q⟩ := h
  cases x with
  | non =>
    cases rx
    cases y with
    | non => cases ry; exact PySem.EqNone.ne_none_none (zX I q (by simp))
    | bl j => cases ry; exact PySem.EqNone.ne_none_bool (zX I q (by simp))
    | int j => obtain ⟨t', rfl⟩ := ry; exact PySem.EqNone.ne_none_int (zX I q (by simp))
    | str j => obtain ⟨t', rfl⟩ := ry; exact PySem.EqNone.ne_none_str (zX I q (by simp))
    | _ => exact absurd (show false = true from hs) Bool.false_ne_true
  | bl i =>
    cases rx
    cases y with
    | non => cases ry; exact PySem.EqNone.ne_bool_none (zX I q (by simp))
    | bl j => cases ry; exact ne_bool (zX I q (congrArg not zhr))
    | str j => obtain ⟨t', rfl⟩ := ry; exact PySem.EqMixed.ne_bool_str (zX I q (by simp))
    | _ => exact absurd (show false = true from hs) Bool.false_ne_true
  | int i =>
    obtain ⟨t, rfl⟩ := rx
    cases y with
    | non => cases ry; exact PySem.EqNone.ne_int_none (zX I q (by simp))
    | int j => obtain ⟨t', rfl⟩ := ry; exact ne_int (zX I q (congrArg not zfe))
    | str j => obtain ⟨t', rfl⟩ := ry; exact PySem.EqMixed.ne_int_str (zX I q (by simp))
    | _ => exact absurd (show false = true from hs) Bool.false_ne_true
  | str i =>
    obtain ⟨t, rfl⟩ := rx
    cases y with
    | non => cases ry; exact PySem.EqNone.ne_str_none (zX I q (by simp))
    | bl j => cases ry; exact PySem.EqMixed.ne_str_bool (zX I q (by simp))
    | int j => obtain ⟨t', rfl⟩ := ry; exact PySem.EqMixed.ne_str_int (zX I q (by simp))
    | str j => obtain ⟨t', rfl⟩ := ry; exact ne_str (zX I q (congrArg not zer))
    | _ => exact absurd (show false = true from hs) Bool.false_ne_true
  | byt i =>
    obtain ⟨t, rfl⟩ := rx
    cases y with
    | byt j => obtain ⟨t', rfl⟩ := ry; exact PySem.W.ne_bytes (zX I q (congrArg not zeV))
    | _ => exact absurd (show false = true from hs) Bool.false_ne_true
  | _ => cases y <;> exact absurd (show false = true from hs) Bool.false_ne_true
theorem zig : OpR X (compareOp .Lt) (rI0 fun i j => .bl (decide (i < j))) := zkM fun _ _ _ _ _ _ _ q => lt_int q
theorem zdY : OpR X (compareOp .LtE) (rI0 fun i j => .bl (decide (i ≤ j))) := zkM fun _ _ _ _ _ _ _ q => le_int q
theorem VS : OpR X (compareOp .Gt) (rI0 fun i j => .bl (decide (j < i))) := zkM fun _ _ _ _ _ _ _ q => gt_int q
theorem zfr : OpR X (compareOp .GtE) (rI0 fun i j => .bl (decide (j ≤ i))) := zkM fun _ _ _ _ _ _ _ q => ge_int q
theorem zi2 : OpR X (compareOp .Is) (fun x y H Q => y = .non ∧ Q (.bl (decide (x = .non))) H) := by
  intro pins s σ H x y v u Q I rx ry h
  obtain ⟨rfl, q⟩ := h
  cases ry
  refine is_none_gen (zX I q ?_)
  cases x <;> first
    | (cases rx; rfl)
    | (obtain ⟨t, rfl⟩ := rx; rfl)
theorem zhU : OpR X (compareOp .IsNot) (fun x y H Q => y = .non ∧ Q (.bl (!decide (x = .non))) H) := by
  intro pins s σ H x y v u Q I rx ry h
  obtain ⟨rfl, q⟩ := h
  cases ry
  refine isnot_none_gen (zX I q ?_)
  cases x <;> first
    | (cases rx; rfl)
    | (obtain ⟨t, rfl⟩ := rx; rfl)
theorem OpR.or {f : Value → Value → Sem Value} {r r' : R2} (h : OpR X f r) (h' : OpR X f r') : OpR X f (fun x y H Q => r x y H Q ∨ r' x y H Q) := by
  intro pins s σ H x y v u Q I rx ry q
  rcases q with q | q
  · exact h pins s σ H x y v u Q I rx ry q
  · exact h' pins s σ H x y v u Q I rx ry q
theorem zy (b : Expr) {op : CmpOp} (h : op ≠ .In := by decide) (h2 : op ≠ .NotIn := by decide) : behindInMarks op b = false := by
  have e1 : (op == CmpOp.In) = false := by cases op <;> first | rfl | exact absurd rfl h
  have e2 : (op == CmpOp.NotIn) = false := by cases op <;> first | rfl | exact absurd rfl h2
  cases b <;> simp [behindInMarks, e1, e2]
theorem zel {op : CmpOp} {r : R2} (ho : OpR X (compareOp op) r) (ha : PE X a ta) (hb : PE X b tb) (hm : behindInMarks op b = false) : PE X (.Compare a [op] [b] pos) (tOp r ta tb) := by
  intro pins s σ H Q I h
  exact wpAny_Compare1 (zlc ha hb I h fun v u s2 x y H2 I2 rx ry q => ho pins s2 σ H2 x y v u Q I2 rx ry q) hm
noncomputable def zki (t : TE) : TT := fun σ H Q => t σ H fun x H' => ∃ k, x = .bl k ∧ Q k H'
theorem zif {op : CmpOp} {r : R2} (ho : OpR X (compareOp op) r) (ha : PE X a ta) (hb : PE X b tb) (hm : behindInMarks op b = false) : PT X (.Compare a [op] [b] pos) (zki (tOp r ta tb)) := by
  intro pins s σ H Q I h
  refine wpAny_isTrue_Compare1 (thn (ha pins s σ H _ I h) fun v s1 ⟨x, H1, I1, r1, q1⟩ => thn (hb pins s1 σ H1 _ I1 q1) fun u s2 ⟨y, H2, I2, r2, q2⟩ =>
    thn (ho pins s2 σ H2 x y v u _ I2 r1 r2 q2) fun c s3 ⟨z, H3, I3, r3, k, e, q3⟩ => ?_) hm
  subst e
  cases r3
  exact wpAny_truthy_bool ⟨H3, I3, q3⟩
noncomputable def zee (r r' : R2) (ta tb tc : TE) : TE := fun σ H Q => ta σ H fun x H1 => tb σ H1 fun y H2 => r x y H2 fun z H3 => ∃ k, z = .bl k ∧
  (if k = true then tc σ H3 fun w' H4 => r' y w' H4 Q else Q (.bl false) H3)
theorem zgz {op op' : CmpOp} {r r' : R2} (ho : OpR X (compareOp op) r) (ho' : OpR X (compareOp op') r') (ha : PE X a ta) (hb : PE X b tb) (hc : PE X c tc)
    (hm : lastMarks [op, op'] [b, c] = false := by with_unfolding_all rfl) : PE X (.Compare a [op, op'] [b, c] pos) (zee r r' ta tb tc) := by
  intro pins s σ H Q I h
  refine Compare_chain (thn (ha pins s σ H _ I h) fun v s1 ⟨x, H1, I1, r1, q1⟩ => chain_link (thn (hb pins s1 σ H1 _ I1 q1) fun u s2 ⟨y, H2, I2, r2, q2⟩ =>
    thn (ho pins s2 σ H2 x y v u _ I2 r1 r2 q2) fun d s3 ⟨z, H3, I3, r3, k, e, q3⟩ => ?_)) hm
  subst e
  cases r3
  refine wpAny_truthy_bool ?_
  cases k with
  | false => exact ite_ff ⟨.bl false, H3, I3, rfl, q3⟩
  | true => exact ite_tt (chain_last (thn (hc pins s3 σ H3 _ I3 q3) fun w' s4 ⟨z', H4, I4, r4, q4⟩ => ho' pins s4 σ H4 y z' u w' Q I4 r2 r4 q4))
theorem Wz : (sizeLine : Nat) < 2 ^ 63 := by rw [sizeLine_eq]; decide
theorem zc7 : OpR X (binaryOp .Add) (fun x y H Q => ∃ i j, x = .str i ∧ y = .str j ∧ i.length + j.length ≤ sizeLine ∧ Q (.str (i ++ j)) H) := by
  intro pins s σ H x y v u Q I rx ry h
  obtain ⟨i, j, rfl, rfl, hz, q⟩ := h
  obtain ⟨t, rfl⟩ := rx
  obtain ⟨t', rfl⟩ := ry
  exact add_str (fun t' tk => ⟨.str (i ++ j), H, I.tok _, ⟨_, rfl⟩, q⟩) hz
theorem WG {x : V} {us : List Value} (r : yx [x] us) : ∃ u, us = [u] ∧ yN x u := by
  cases r with
  | cons r1 r2 => cases r2; exact ⟨_, rfl, r1⟩
theorem zdh {x y : V} {us : List Value} (r : yx [x, y] us) : ∃ u w', us = [u, w'] ∧ yN x u ∧ yN y w' := by
  cases r with
  | cons r1 r2 =>
    cases r2 with
    | cons r3 r4 => cases r4; exact ⟨_, _, rfl, r1, r3⟩
theorem zei (hc : X.calm = true) : YD X (.builtin "max") (fun xs H Q => ∃ i j, xs = [.int i, .int j] ∧ Q (.int (if j > i then j else i)) H) := by
  intro pins s σ H xs us Q I r h
  obtain ⟨i, j, rfl, q⟩ := h
  obtain ⟨u, w', rfl, ⟨t, rfl⟩, ⟨t', rfl⟩⟩ := zdh r
  refine max_two_ints (I.ok.hd hc) fun h' tk k => ⟨_, H, I.kept k, ?_, q⟩
  by_cases hj : j > i
  · rw [if_pos hj, if_pos hj]; exact ⟨_, rfl⟩
  · rw [if_neg hj, if_neg hj]; exact ⟨_, rfl⟩
theorem WK (hc : X.calm = true) : YD X (.builtin "min") (fun xs H Q => ∃ i j, xs = [.int i, .int j] ∧ Q (.int (if j < i then j else i)) H) := by
  intro pins s σ H xs us Q I r h
  obtain ⟨i, j, rfl, q⟩ := h
  obtain ⟨u, w', rfl, ⟨t, rfl⟩, ⟨t', rfl⟩⟩ := zdh r
  refine min_two_ints (I.ok.hd hc) fun h' tk k => ⟨_, H, I.kept k, ?_, q⟩
  by_cases hj : j < i
  · rw [if_pos hj, if_pos hj]; exact ⟨_, rfl⟩
  · rw [if_neg hj, if_neg hj]; exact ⟨_, rfl⟩
theorem zeA : YD X (.type "int") (fun xs H Q => (∃ i, xs = [.int i] ∧ Q (.int i) H) ∨ ∃ k, xs = [.bl k] ∧ Q (.int (if k then 1 else 0)) H) := by
  intro pins s σ H xs us Q I r h
  rcases h with ⟨i, rfl, q⟩ | ⟨k, rfl, q⟩
  · obtain ⟨u, rfl, t, rfl⟩ := WG r
    exact call_int_int ⟨.int i, H, I, ⟨_, rfl⟩, q⟩
  · obtain ⟨u, rfl, r1⟩ := WG r
    cases r1
    exact call_int_bool ⟨.int (if k then 1 else 0), H, I.tok _, ⟨_, rfl⟩, q⟩
end
set_option genInjectivity false in
set_option genSizeOf false in
set_option genCtorIdx false in
structure zlv (h : Heap) (x dx C : Addr) (mA : Str → Option Value) : Prop where
  obj : h.get? x = some (PySem.W.instObj C dx)
  ns : h.Ns1 dx mA
  ne : dx ≠ x
theorem ze7 {h : Heap} {dx : Addr} {mA : Str → Option Value} (n : h.Ns1 dx mA) : ∃ od, h.get? dx = some od ∧ ∀ name, PySem.W.lookIn name od = some (mA name) := by
  obtain ⟨o, es, ep, ho, hd, hk, _, hm⟩ := n
  refine ⟨o, ho, fun name => ?_⟩
  have e := hm name
  unfold nsFind findBy at e
  rw [← Array.find?_toList] at e
  unfold PySem.W.lookIn
  rw [hd]
  dsimp only
  split
  · rename_i y q
    rw [q] at e
    exact congrArg some e
  · rename_i q
    rw [q] at e
    have a : es.toList.any (·.refKey) = false := by
      rw [List.any_eq_false]
      intro y hy
      obtain ⟨z, t, hkey⟩ := hk y (Array.mem_toList_iff.mp hy)
      simp [DictEntry.refKey, hkey]
    have a' : ¬ es.toList.any (·.refKey) = true := by rw [a]; exact Bool.false_ne_true
    rw [if_neg a']
    exact congrArg some e
theorem zlv.look {h : Heap} {x dx C : Addr} {mA : Str → Option Value} (I : zlv h x dx C mA) : ∃ od, PySem.W.InstAt h x (PySem.W.instObj C dx) C (some od) ∧ ∀ name, PySem.W.lookIn name od = some (mA name) :=
  let ⟨od, ho, hl⟩ := ze7 I.ns
  ⟨od, ⟨I.obj, rfl, rfl, ho⟩, hl⟩
theorem zdG.some_of {v : V} {o : Option Value} (r : zdG (some v) o) : ∃ u, o = some u ∧ yN v u := by
  cases o with
  | none => exact (show False from r).elim
  | some u => exact ⟨u, rfl, r⟩
section
variable {P : Program} {w : World} {H H' : Hp} {h h' : Heap} {a C dx : Addr} {fs fs' : List (Str × V)}
theorem zhx (hok : HOk P w H h) (e : H a = some (.ins C dx fs)) : ∃ mA, zlv h a dx C mA ∧ (∀ f, zdG (fs.lookup f) (mA f)) ∧ PySem.Within mA (fs.map (·.1)) ∧ fs.length ≤ 1000 ∧ H dx = some (.own a) := by
  obtain ⟨d, z, ne, ob, mA, n, r, q⟩ := (show yZ P w H h a (.ins C dx fs) from hok a _ e)
  exact ⟨mA, ⟨ob, n, ne⟩, r, q, z, d⟩
end
set_option genInjectivity false in
set_option genSizeOf false in
set_option genCtorIdx false in
structure Cls (K : PySem.W.Frag) (C : Addr) : Prop where
  pg : PySem.W.plainGet K C Str.empty = true
  hd : PySem.W.hasDictIn K C = true
  po : PySem.W.plainOver K C = true
  sa : PySem.W.findIn K (.ref C) "__setattr__" = some (some (.builtin "object.__setattr__"))
theorem Cls.get {K : PySem.W.Frag} {C : Addr} (c : Cls K C) (f : Str) : PySem.W.plainGet K C f = true := c.pg
section
variable {X : Cx} {pins : List (Addr × Obj)} {σ : St} {H : Hp} {s : Shared} {A : Around} {E : Value → Shared → Prop} {Q : Value → Shared → Prop} {c : Value} {b : Bool}
inductive zcJ (K : PySem.W.Frag) (H : Hp) : V → Value → Prop where
  | non : zcJ K H .non (.type "NoneType")
  | bl (x : Bool) : zcJ K H (.bl x) (.type "bool")
  | int (i : Int) : zcJ K H (.int i) (.type "int")
  | str (x : Str) : zcJ K H (.str x) (.type "str")
  | flt (x : UInt64) : zcJ K H (.flt x) (.type "float")
  | lst {a : Addr} {xs : List V} (e : H a = some (.lst xs)) : zcJ K H (.ref a) (.type "list")
  | frz {a : Addr} {o : Obj} {xs : List V} (e : H a = some (.frz o (.lst xs))) : zcJ K H (.ref a) (.type "list")
  | tup {a : Addr} {xs : List V} (e : H a = some (.tup xs)) : zcJ K H (.ref a) (.type "tuple")
  | dK {a : Addr} {kvs : List (Key × V)} (e : H a = some (.dK kvs)) : zcJ K H (.ref a) (.type "dict")
  | dT {a : Addr} {kvs : List (List Key × V)} (e : H a = some (.dT kvs)) : zcJ K H (.ref a) (.type "dict")
  | ins {a C dx : Addr} {fs : List (Str × V)} (e : H a = some (.ins C dx fs)) (cl : Cls K C) (ha : PySem.W.findIn K (.ref C) "__class__" = some (some (.builtin "object.__class__")))
      (hn : PySem.W.specialIn K (.builtin "object.__class__") "__get__" = some (some (.builtin "getset_descriptor.__get__"))) (htk : PySem.W.takesIn K (.builtin "object.__class__") = some true)
      (hm : PySem.W.mroIn K C (.type "object") = some true) : zcJ K H (.ref a) (.ref C)
theorem zd5 {x : V} {u t : Value} (I : Inv X pins σ H s) (rx : yN x u) (ty : zcJ X.K H x t) (e : PySem.W.kitOne X.K t c = some b) (h : ∀ tk, Q (.bool b) { s with toks := tk }) :
    wpAny (model X.prog X.w) A (call (.builtin "isinstance") [u, c]) Q E s := by
  cases ty with
  | non => cases (show u = Value.none from rx); exact PySem.W.kia_one PySem.W.kitx_none I.kIn True.intro e (fun z => nomatch z) h
  | bl y => cases (show u = Value.bool y from rx); exact PySem.W.kia_one PySem.W.kitx_bool I.kIn True.intro e (fun z => nomatch z) h
  | int i => obtain ⟨t, q⟩ := (show ∃ t, u = Value.int i t from rx); cases q; exact PySem.W.kia_one PySem.W.kitx_int I.kIn True.intro e (fun z => nomatch z) h
  | str y => obtain ⟨t, q⟩ := (show ∃ t, u = Value.str y t from rx); cases q; exact PySem.W.kia_one PySem.W.kitx_str I.kIn True.intro e (fun z => nomatch z) h
  | flt y => obtain ⟨t, q⟩ := (show ∃ t, u = Value.float y t from rx); cases q; exact PySem.W.kia_one PySem.W.kitx_float I.kIn True.intro e (fun z => nomatch z) h
  | @lst a xs ea =>
    cases (show u = Value.ref a from rx)
    obtain ⟨_, _, n, _, h1⟩ := (show yZ X.prog X.w H s.heap a (.lst xs) from I.hok a _ ea)
    exact PySem.W.kia_one PySem.W.kitx_list I.kIn ⟨_, h1, rfl⟩ e (fun z => nomatch z) h
  | @frz a ob xs ea =>
    cases (show u = Value.ref a from rx)
    obtain ⟨_, _, _, n, _, h1⟩ := (show yZ X.prog X.w H s.heap a (.frz ob (.lst xs)) from I.hok a _ ea)
    exact PySem.W.kia_one PySem.W.kitx_list I.kIn ⟨_, h1, rfl⟩ e (fun z => nomatch z) h
  | @tup a xs ea =>
    cases (show u = Value.ref a from rx)
    obtain ⟨_, _, _, p⟩ := (show yZ X.prog X.w H s.heap a (.tup xs) from I.hok a _ ea)
    obtain ⟨o, h1, h2, _⟩ := p
    exact PySem.W.kia_one PySem.W.kitx_tuple I.kIn ⟨o, h1, h2⟩ e (fun z => nomatch z) h
  | @dK a kvs ea =>
    cases (show u = Value.ref a from rx)
    obtain ⟨_, _, vs, _, p⟩ := (show yZ X.prog X.w H s.heap a (.dK kvs) from I.hok a _ ea)
    obtain ⟨o, es, ep, h1, h2, _⟩ := p
    exact PySem.W.kia_one PySem.W.kitx_dict I.kIn ⟨o, h1, h2.1⟩ e (fun z => nomatch z) h
  | @dT a kvs ea =>
    cases (show u = Value.ref a from rx)
    obtain ⟨_, _, xs, _, o, es, ep, h1, h2, _⟩ := (show yZ X.prog X.w H s.heap a (.dT kvs) from I.hok a _ ea)
    exact PySem.W.kia_one PySem.W.kitx_dict I.kIn ⟨o, h1, h2.1⟩ e (fun z => nomatch z) h
  | @ins a C dx fs ea cl ha hn htk hm =>
    cases (show u = Value.ref a from rx)
    obtain ⟨mA, O, _⟩ := zhx I.hok ea
    obtain ⟨od, J, _⟩ := O.look
    exact PySem.W.kia_one (PySem.W.kitx_own (cl.get _) cl.hd ha hn htk hm) I.kIn J e (fun z => nomatch z) h
end
set_option genInjectivity false in
set_option genSizeOf false in
set_option genCtorIdx false in
structure Y1 (k : Nat) (A : Around) : Prop where
  hd : A.handled = none
  dp : A.depth + 3 * k + 5 < recursionLimit
  un : A.units + 16 * k + 200 < cLine
theorem Y1.mono {j k : Nat} {A : Around} (r : Y1 k A) (h : j ≤ k) : Y1 j A := ⟨r.hd, by have := r.dp; omega, by have := r.un; omega⟩
theorem Y1.deeper {k : Nat} {A : Around} (r : Y1 (k + 1) A) (env : Env) : Y1 k (A.deeper env) :=
  ⟨r.hd, by have := r.dp; show A.depth + 1 + 3 * k + 5 < _; omega, by have := r.un; show A.units + 3 + 16 * k + 200 < _; omega⟩
theorem Y1.depth {k : Nat} {A : Around} (r : Y1 k A) : A.depth < recursionLimit := by have := r.dp; omega
theorem Y1.units {k : Nat} {A : Around} (r : Y1 k A) : A.units + 64 < cLine := by have := r.un; omega
theorem Y1.units0 {k : Nat} {A : Around} (r : Y1 k A) : A.units < cLine := by have := r.un; omega
noncomputable def tNil : TA := fun _ H Q => Q [] H
noncomputable def zk2 (ta : TE) (tr : TA) : TA := fun σ H Q => ta σ H fun x H1 => tr σ H1 fun xs H2 => Q (x :: xs) H2
section
variable {X : Cx} {e : Expr} {es : List Expr} {te : TE} {t : TA} {pos : Pos}
theorem zcu : PA X [] tNil := fun _ _ _ _ H Q I h => Calls.spliced_nil ⟨[], H, I, .nil, h⟩
theorem WE (ha : PE X e te) (hr : PA X es t) (hs : starEach (e :: es) X.env = (false, eval e X.env) :: starEach es X.env := by rfl) : PA X (e :: es) (zk2 te t) := by
  intro pos pins s σ H Q I h
  rw [hs]
  show wpAny _ _ (spliced ((false, eval e X.env) :: backTo pos (starEach es X.env))) _ _ s
  refine Calls.spliced_cons (thn (ha pins s σ H _ I h) fun u s1 hh9 => ?_)
  obtain ⟨x, H1, I1, r1, q1⟩ := hh9
  exact thn (hr pos pins s1 σ H1 _ I1 q1) fun us s2 ⟨xs, H2, I2, r2, q2⟩ => ⟨x :: xs, H2, I2, .cons r1 r2, q2⟩
noncomputable def tTup (t : TA) : TE := fun σ H Q => t σ H fun xs H1 => xs.length ≤ sizeLine ∧ ∀ p, H1 p = none → Q (.ref p) (upd H1 p (.tup xs))
noncomputable def tLst (t : TA) : TE := fun σ H Q => t σ H fun xs H1 => xs.length ≤ sizeLine ∧ ∀ p, H1 p = none → Q (.ref p) (upd H1 p (.lst xs))
theorem zjI {x1} (h : PA X es t) : PE X (.Tuple es x1 pos) (tTup t) := by
  intro pins s σ H Q I hq
  refine wpAny_Tuple_spliced (thn (h pos pins s σ H _ I hq) fun us s1 ⟨xs, H1, I1, r, z, q⟩ => ⟨by rw [← r.length]; exact z, ?_⟩)
  have hf : H1 s1.heap.objs.size = none := I1.hok.fresh (Nat.le_refl _)
  refine ⟨.ref s1.heap.objs.size, upd H1 s1.heap.objs.size (.tup xs), I1.laid (t' := s1.toks) (fun b u e => Heap.get?_push_of_some _ e) (Nat.le_refl _) ?_, rfl, q _ hf⟩
  exact ⟨z, us, r, ⟨_, Heap.get?_push_size _ rfl, rfl, _, rfl⟩⟩
theorem zj1 (h : PA X es t) : PE X (.List es pos) (tLst t) := by
  intro pins s σ H Q I hq
  refine wpAny_List_spliced (thn (h pos pins s σ H _ I hq) fun us s1 ⟨xs, H1, I1, r, z, q⟩ => ⟨by rw [← r.length]; exact z, ?_⟩)
  have hf : H1 s1.heap.objs.size = none := I1.hok.fresh (Nat.le_refl _)
  refine ⟨.ref s1.heap.objs.size, upd H1 s1.heap.objs.size (.lst xs), I1.laid (t' := s1.toks) (fun b u e => Heap.get?_push_of_some _ e) (Nat.le_refl _) ?_, rfl, q _ hf⟩
  exact ⟨z, us, 0, r, Heap.get?_push_size _ rfl⟩
end
noncomputable abbrev Sp := List V → Hp → VK → XK → Prop
noncomputable abbrev CXT := List Env → Hp → Shared → XK → Value → Shared → Prop
structure zkR (P : Program) (w : World) (K : PySem.W.Frag) (mg : Str → Option Value) (base : Heap) (A : Around) (outer : List Env) (s : Shared) (H : Hp) : Prop where
  frames : A.frames = some outer
  mod : Mod K mg base
  bs : ∀ b o, base.get? b = some o → s.heap.get? b = some o ∧ H b = none
  bsz : base.objs.size ≤ s.heap.objs.size
  funs : s.heap.FunFrames base outer
  frf : ∀ b ∈ frs outer, H b = none
  hok : HOk P w H s.heap
  bare : AllBare s.gens
noncomputable def CE (outer : List Env) (P : Program) (w : World) (H : Hp) (s : Shared) (Q : VK) (u : Value) (s' : Shared) : Prop :=
  ∃ v H', s'.os = s.os ∧ AllBare s'.gens ∧ Un (frs outer) [] H H' s.heap s'.heap ∧ HOk P w H' s'.heap ∧ yN v u ∧ Q v H'
noncomputable def CR (CX : CXT) (outer : List Env) (P : Program) (w : World) (H : Hp) (s : Shared) (Q : VK) (E : XK) (r : Result) (s' : Shared) : Prop :=
  match r with
  | .ok (.ret u) => CE outer P w H s Q u s'
  | .ok _ => False
  | .error e => CX outer H s E e s'
set_option genInjectivity false in
set_option genSizeOf false in
set_option genCtorIdx false in
structure yQ (P : Program) (w : World) (K : PySem.W.Frag) (mg : Str → Option Value) (base : Heap) (CX : CXT) (k : Nat) (f : Addr) (fd : FuncData) (ps : List Str) (sp : Sp) : Prop where
  len : ∀ vs H Q E, sp vs H Q E → vs.length = ps.length
  run : ∀ (A : Around) (outer : List Env) (s : Shared) (H : Hp) (args : Args) (us : List Value) (vs : List V) (Q : VK) (E : XK), Y1 k A → zkR P w K mg base A outer s H → BindsTo s fd args (ps.zip us) → yx vs us → sp vs H Q E →
    codeAny (model P w) A (.call (.ref f) args) (CR CX outer P w H s Q E) s
theorem yQ.mono {P : Program} {w : World} {K : PySem.W.Frag} {mg : Str → Option Value} {base : Heap} {CX : CXT} {j k : Nat} {f : Addr} {fd : FuncData} {ps : List Str} {sp : Sp} (F : yQ P w K mg base CX j f fd ps sp) (h : j ≤ k) :
    yQ P w K mg base CX k f fd ps sp := ⟨F.len, fun A outer s H args us vs Q E hr => F.run A outer s H args us vs Q E (hr.mono h)⟩
theorem yQ.imp {P : Program} {w : World} {K : PySem.W.Frag} {mg : Str → Option Value} {base : Heap} {CX : CXT} {k : Nat} {f : Addr} {fd : FuncData} {ps : List Str} {sp sp' : Sp} (F : yQ P w K mg base CX k f fd ps sp)
    (h : ∀ vs H Q E, sp' vs H Q E → sp vs H Q E) : yQ P w K mg base CX k f fd ps sp' :=
  ⟨fun vs H Q E q => F.len vs H Q E (h _ _ _ _ q), fun A outer s H args us vs Q E hr he hb hv hs => F.run A outer s H args us vs Q E hr he hb hv (h _ _ _ _ hs)⟩
section
variable {X : Cx} {pins : List (Addr × Obj)} {σ : St} {H : Hp} {s s' : Shared}
theorem Inv.env0 (I : Inv X pins σ H s) : zkR X.prog X.w X.K X.mg X.base X.A X.stack s H :=
  ⟨I.ok.frames, I.ok.mod, I.bs, Nat.le_trans I.ok.bsz I.sz, I.stack, I.stkFree, I.hok, I.bare⟩
theorem Inv.after {Q : VK} {u : Value} (I : Inv X pins σ H s) (h : CE X.stack X.prog X.w H s Q u s') : EP X pins σ Q u s' := by
  obtain ⟨v, H', os, bare, un, hok, r, q⟩ := h
  obtain ⟨hh, g, d, t, os'⟩ := s'
  obtain rfl : os' = s.os := os
  exact ⟨v, H', I.call (h' := hh) (g' := g) (d' := d) (t' := t) (ch := []) un hok bare (fun b z => absurd z (by simp)), r, q⟩
end
noncomputable def zkT (sp : Sp) (dvs : List V) (E : XK) (t : TA) : TE := fun σ H Q => t σ H fun vs H1 => sp (vs ++ dvs) H1 Q E
noncomputable def zbC (K : PySem.W.Frag) (fd : FuncData) (ps : List Str) (ds : List Value) : Prop :=
  ∀ (s : Shared) (us : List Value), K.In s.heap → (us ++ ds).length = ps.length → BindsTo s fd ⟨us, []⟩ (ps.zip (us ++ ds))
theorem zbC.all {K : PySem.W.Frag} {fd : FuncData} {ps : List Str} (h : ∀ us : List Value, us.length = ps.length → bindArgs fd ⟨us, []⟩ = pure (ps.zip us)) : zbC K fd ps [] := fun s us _ hl => by
  rw [List.append_nil] at hl ⊢
  exact .of_eq (h us hl)
noncomputable def zdH (CX : CXT) (X : Cx) (E : XK) : Prop := ∀ (pins : List (Addr × Obj)) (σ : St) (H : Hp) (s : Shared) (e : Value) (s' : Shared), Inv X pins σ H s → CX X.stack H s E e s' → X.xe e s'
section
variable {X : Cx} {CX : CXT} {k : Nat} {f C : Addr} {fd : FuncData} {ps : List Str} {sp : Sp} {dvs : List V} {ds : List Value} {E : XK} {x m : Str} {p pos apos : Pos} {e o : Expr} {es : List Expr} {ta : TE} {t : TA}
theorem zkm {pins : List (Addr × Obj)} {σ : St} {H : Hp} {s : Shared} {Q : VK} {us : List Value} {vs : List V} (F : yQ X.prog X.w X.K X.mg X.base CX k f fd ps sp) (hr : Y1 k X.A) (hb : zbC X.K fd ps ds) (hd : yx dvs ds) (hx : zdH CX X E)
    (I : Inv X pins σ H s) (r : yx vs us) (h : sp (vs ++ dvs) H Q E) : wpAny (model X.prog X.w) X.A (call (.ref f) us) (EP X pins σ Q) X.xe s := by
  have r2 : yx (vs ++ dvs) (us ++ ds) := r.append hd
  have hl : (us ++ ds).length = ps.length := by rw [← r2.length]; exact F.len _ _ _ _ h
  refine wpAny_call (codeAny_mono (F.run X.A X.stack s H ⟨us, []⟩ (us ++ ds) (vs ++ dvs) Q E hr I.env0 (hb s us I.kIn hl) r2 h) fun r s' hq => ?_)
  cases r with
  | error e => exact hx pins σ H s e s' I hq
  | ok fl =>
    cases fl with
    | ret u => exact I.after hq
    | next => exact False.elim hq
    | brk => exact False.elim hq
    | cont => exact False.elim hq
theorem zhG (F : yQ X.prog X.w X.K X.mg X.base CX k f fd ps sp) (hr : Y1 k X.A) (hg : Gl X x) (hm : X.mg x = some (.ref f)) (hk : PySem.W.keepIn X.K (.ref f) = true) (hb : zbC X.K fd ps ds) (hd : yx dvs ds) (hx : zdH CX X E)
    (ha : PA X (e :: es) t) (hdb : (x == ("__debug__" : Str)) = false := by decide) (he : starEach (e :: es) X.env = (false, eval e X.env) :: starEach es X.env := by rfl) (hpl : (backTo pos (starEach es X.env)).any (·.1) = false := by rfl) :
    PE X (.Call (.Name x p) (e :: es) [] pos) (zkT sp dvs E t) := by
  intro pins s σ H Q I h
  refine wpAny_Call_Name_kw (zbZ I hg hm ?_ hdb)
  refine PySem.W.callWith_K (h₀ := X.base) I.ok.mod.kin hk (thn (ha pos pins s σ H _ I h) fun us s1 ⟨vs, H1, I1, r, q⟩ => ⟨I1.kIn, ?_⟩) he hpl
  exact zkm F hr hb hd hx I1 r q
end
structure zr (N P : List Str) (sc : Scope) : Prop where
  kind : sc.kind = .function
  co : sc.isCoroutine = false
  gen : sc.isGenerator = false
  nd : N.Nodup
  pre : N.take P.length = P
  par : ∀ x ∈ P, sc.names.lookup x = some .local ∨ sc.names.lookup x = some .cell
  nofree : ∀ y ∈ sc.names, y.2 ≠ .free
theorem zaN {kindOf : Str → Option NameKind} {x : Str} : ∀ {binds : List (Str × Value)} {m : Str → Option Value}, (∀ v, (x, v) ∉ binds) → bindL kindOf binds m x = m x
  | [], _, _ => rfl
  | (n, v) :: r, m, h => by
    unfold bindL
    rw [zaN fun w hw => h w (List.mem_cons_of_mem _ hw)]
    split
    · have : x ≠ n := by rintro rfl; exact h v List.mem_cons_self
      simp [this]
    · rfl
theorem zai {kindOf : Str → Option NameKind} {x : Str} : ∀ {binds : List (Str × Value)} {m : Str → Option Value}, (∀ v, (x, v) ∉ binds) → bindC kindOf binds m x = m x
  | [], _, _ => rfl
  | (n, v) :: r, m, h => by
    unfold bindC
    rw [zai fun w hw => h w (List.mem_cons_of_mem _ hw)]
    split
    · rfl
    · have : x ≠ n := by rintro rfl; exact h v List.mem_cons_self
      simp [this]
theorem zan {kindOf : Str → Option NameKind} {x : Str} {v : Value} : ∀ {P : List Str} {vs : List Value} {i : Nat} {m : Str → Option Value}, P.Nodup → P[i]? = some x → vs[i]? = some v → kindOf x = some .local →
    bindL kindOf (P.zip vs) m x = some v
  | [], _, _, _, _, h, _, _ => by simp at h
  | _ :: _, [], _, _, _, _, h, _ => by simp at h
  | p :: P, w :: vs, 0, m, nd, h1, h2, hk => by
    simp at h1 h2; subst h1; subst h2
    show bindL kindOf ((p, w) :: P.zip vs) m p = _
    unfold bindL
    rw [zaN fun v hv => (List.nodup_cons.mp nd).1 (List.of_mem_zip hv).1, if_pos hk]
    simp
  | p :: P, w :: vs, i + 1, m, nd, h1, h2, hk => by
    show bindL kindOf ((p, w) :: P.zip vs) m x = _
    unfold bindL
    exact zan (i := i) (List.nodup_cons.mp nd).2 (by simpa using h1) (by simpa using h2) hk
theorem zao {kindOf : Str → Option NameKind} {x : Str} {v : Value} : ∀ {P : List Str} {vs : List Value} {i : Nat} {m : Str → Option Value}, P.Nodup → P[i]? = some x → vs[i]? = some v → kindOf x ≠ some .local →
    bindC kindOf (P.zip vs) m x = some v
  | [], _, _, _, _, h, _, _ => by simp at h
  | _ :: _, [], _, _, _, _, h, _ => by simp at h
  | p :: P, w :: vs, 0, m, nd, h1, h2, hk => by
    simp at h1 h2; subst h1; subst h2
    show bindC kindOf ((p, w) :: P.zip vs) m p = _
    unfold bindC
    rw [zai fun v hv => (List.nodup_cons.mp nd).1 (List.of_mem_zip hv).1, if_neg hk]
    simp
  | p :: P, w :: vs, i + 1, m, nd, h1, h2, hk => by
    show bindC kindOf ((p, w) :: P.zip vs) m x = _
    unfold bindC
    exact zao (i := i) (List.nodup_cons.mp nd).2 (by simpa using h1) (by simpa using h2) hk
noncomputable def start (N : List Str) (vs : List V) : St := vs.map some ++ List.replicate (N.length - vs.length) none
noncomputable def zgM (CX : CXT) (P : Program) (w : World) (K : PySem.W.Frag) (mg : Str → Option Value) (base : Heap) (N : List Str) (qual : Str) (scope : Scope) (f : Addr) (cd : Value) (A : Around) (outer : List Env) (s : Shared) (H : Hp) (E : XK) : Cx where
  prog := P
  w := w
  K := K
  mg := mg
  base := base
  A := A.deeper (envOfC qual scope s.heap.objs.size f cd)
  N := N
  s₀ := s
  H₀ := H
  env := envOfC qual scope s.heap.objs.size f cd
  outer := outer
  stack := envOfC qual scope s.heap.objs.size f cd :: outer
  ex := []
  calm := true
  fn := fun _ => true
  pn := []
  xe := fun e s' => wpAny (model P w) (A.deeper (envOfC qual scope s.heap.objs.size f cd)) (leaving (envOfC qual scope s.heap.objs.size f cd) e) (fun _ s'' => CX outer H s E e s'') (fun e' s'' => CX outer H s E e' s'') s'
theorem zcI {sc : Scope} {n : Nat} {x : Str} (h : sc.names.lookup x = some .cell) : ∃ c, (cellsFrom n sc.names []).lookup x = some c := by
  have q := PySem.W.cellsFrom_some sc.names n [] (.inl h)
  exact Option.isSome_iff_exists.mp q
theorem zd1 {CX : CXT} {P : Program} {w : World} {K : PySem.W.Frag} {mg : Str → Option Value} {base : Heap} {N ps : List Str} {qual : Str} {scope : Scope} {f : Addr} {cd : Value} {A : Around} {outer : List Env} {s s1 : Shared} {H : Hp} {E : XK} {us : List Value} {vs : List V}
    (S : zr N ps scope) (hd : A.handled = none) (e0 : zkR P w K mg base A outer s H) (hl : vs.length = ps.length) (r : yx vs us)
    (x : InCallC s s.heap.objs.size (bindL (envOfC qual scope s.heap.objs.size f cd).kindOf (ps.zip us) fun _ => none) (cellsFrom (s.heap.objs.size + 1) scope.names []) (bindC (envOfC qual scope s.heap.objs.size f cd).kindOf (ps.zip us) fun _ => none) s1) :
    Inv (zgM CX P w K mg base N qual scope f cd A outer s H E) [] (start N vs) H s1 := by
  have hpl : ps.length ≤ N.length := by have := congrArg List.length S.pre; rw [List.length_take] at this; omega
  obtain ⟨h1, tk, rfl, hk⟩ := x.done
  have noA : ∀ b : Addr, b ∉ (zgM CX P w K mg base N qual scope f cd A outer s H E).ex := fun b z => absurd (show b ∈ ([] : List Addr) from z) (by simp)
  refine ⟨⟨e0.mod, S.kind, rfl, rfl, Nat.le_refl _, fun y z c h1 h2 => ?_, fun y hy => ?_, fun y c _ h => ?_, fun _ => hd, Around.frames_deeper e0.frames, .inr ⟨rfl, rfl⟩, fun b z => absurd z (noA b), e0.bs, e0.bsz, fun b _ _ => noA b, fun b z => absurd z (noA b), e0.funs, e0.frf⟩,
    rfl, e0.bare, Un.kept hk, ⟨_, x.toInCall.ns, fun i y v h1 h2 h3 => ?_⟩, fun y c h => ⟨_, x.cell y c h⟩, e0.hok.fresh (Nat.le_refl _), fun y c h => ?_, fun p hp => absurd (show p ∈ ([] : List (Addr × Obj)) from hp) (by simp), e0.hok.kept hk, ?_⟩
  · exact name_of_addr x.apart (PySem.mem_of_lookup h1) (PySem.mem_of_lookup h2)
  · have hy : scope.names.lookup y = some .cell ∨ scope.names.lookup y = some .free := hy
    rcases hy with hy | hy
    · exact zcI hy
    · exact absurd rfl (S.nofree _ (PySem.mem_of_lookup hy))
  · exact Nat.le_of_lt (x.above y c (PySem.mem_of_lookup h))
  · have hi : i < vs.length := by
      unfold start at h2
      by_cases hi : i < vs.length
      · exact hi
      · rw [List.getElem?_append_right (by simpa using hi)] at h2
        rw [List.getElem?_replicate] at h2
        split at h2 <;> cases h2
    have ha : vs[i]? = some v := by
      unfold start at h2
      rw [List.getElem?_append_left (by simpa using hi), List.getElem?_map] at h2
      cases e : vs[i]? with
      | none => rw [e] at h2; cases h2
      | some a => rw [e] at h2; cases h2; rfl
    obtain ⟨u, hu, rv⟩ := r.get ha
    have hp : ps[i]? = some y := by
      rw [← S.pre, List.getElem?_take_of_lt (by omega)]; exact h1
    have ndP : ps.Nodup := by rw [← S.pre]; exact S.nd.sublist (List.take_sublist _ _)
    refine ⟨u, rv, ?_⟩
    rcases S.par y (List.mem_of_getElem? hp) with k | k
    · exact .inl ⟨k, zan ndP hp hu k⟩
    · obtain ⟨c, e⟩ := zcI (n := s.heap.objs.size + 1) k
      refine .inr ⟨.inl k, c, e, ?_⟩
      have q := x.cell y c e
      rw [zao ndP hp hu (by show scope.names.lookup y ≠ _; rw [k]; decide)] at q
      exact q
  · exact e0.hok.fresh (Nat.le_of_lt (x.above y c (PySem.mem_of_lookup h)))
  · unfold start
    show _ = N.length
    rw [List.length_append, List.length_map, List.length_replicate]
    omega
theorem zlw {CX : CXT} {P : Program} {w : World} {K : PySem.W.Frag} {mg : Str → Option Value} {base : Heap} {k : Nat} {f : Addr} {name qual : Str} {params : Arguments} {body : List Stmt} {scope : Scope} {dV kV doc pm cdv ct oc : Value} {an od : Option Addr}
    {osl : Array (Option Value)} {N ps : List Str} {sp : Sp} (lk : K.lookup f = some ⟨oc, od, .func (PySem.W.fnOf name qual params body scope dV kV doc pm an cdv ct), osl⟩) (hcd : PySem.W.codeIn K cdv qual = true) (S : zr N ps scope)
    (len : ∀ vs H Q E, sp vs H Q E → vs.length = ps.length)
    (hbody : ∀ (A : Around) (outer : List Env) (s : Shared) (H : Hp) (vs : List V) (Q : VK) (E : XK), Y1 k (A.deeper (envOfC qual scope s.heap.objs.size f cdv)) → sp vs H Q E →
      ∃ t, PSs (zgM CX P w K mg base N qual scope f cdv A outer s H E) body t ∧ t { nx := fun _ H' => Q .non H', rt := Q } (start N vs) H) :
    yQ P w K mg base CX (k + 1) f (PySem.W.fnOf name qual params body scope dV kV doc pm an cdv ct) ps sp := by
  refine ⟨len, fun A outer s H args us vs Q E hr e0 hb r hsp => ?_⟩
  have hl := len _ _ _ _ hsp
  have KX : K.In s.heap := e0.mod.kin.keeps fun b o e => (e0.bs b o e).1
  have lim : s.heap.NoLimit := e0.mod.nolimit.keeps fun b o e => (e0.bs b o e).1
  have hkind : ∀ y ∈ ps.zip us, scope.names.lookup y.1 = some .local ∨ (scope.names.lookup y.1 = some .cell ∧ ((cellsFrom (s.heap.objs.size + 1) scope.names []).lookup y.1).isSome = true) := fun ⟨n, v⟩ hy => by
    rcases S.par n (List.of_mem_zip hy).1 with q | q
    · exact .inl q
    · exact .inr ⟨q, PySem.W.cellsFrom_some _ _ _ (.inl q)⟩
  refine codeAny_call_function hr.depth (KX _ _ lk) rfl S.co S.gen rfl (PySem.W.codeRec_of KX hcd) (hb _ _ _ _ ?_)
  refine wpAny_newFunctionEnv_cells S.kind hkind fun env he s1 x => ?_
  subst he
  refine ⟨lim.keeps x.toInCall.keep, codeAny_func ?_⟩
  obtain ⟨t, ht, hq⟩ := hbody A outer s H vs Q E (hr.deeper _) hsp
  have I : Inv (zgM CX P w K mg base N qual scope f cdv A outer s H E) [] (start N vs) H s1 := zd1 S hr.hd e0 hl r x
  refine wpAny_mono (ht [] s1 (start N vs) H _ I hq) (fun fl s' hs => ?_) fun e s' hs => hs
  have fin : ∀ {σ' : St} {H' : Hp} {v : V} {u : Value}, Inv (zgM CX P w K mg base N qual scope f cdv A outer s H E) [] σ' H' s' → yN v u → Q v H' → CE outer P w H s Q u s' :=
    fun {σ' H' v u} J rv q => ⟨v, H', J.os, J.bare, J.base, J.hok, rv, q⟩
  cases fl with
  | ret u =>
    obtain ⟨v, σ', H', J, rv, q⟩ := hs
    exact fin J rv q
  | next =>
    obtain ⟨σ', H', J, q⟩ := hs
    exact fin (v := V.non) (u := Value.none) J rfl q
  | brk =>
    obtain ⟨_, _, _, q⟩ := hs
    exact False.elim q
  | cont =>
    obtain ⟨_, _, _, q⟩ := hs
    exact False.elim q
section
variable {X : Cx} {x : Str} {p pos : Pos} {e : Expr} {es : List Expr} {t : TA} {id T : String} {r : List V → Hp → VK → Prop}
noncomputable def tCB (r : List V → Hp → VK → Prop) (t : TA) : TE := fun σ H Q => t σ H fun vs H1 => r vs H1 Q
theorem VN (hc : YD X (.builtin id) r) (hg : Gl X x) (hm : X.mg x = none) (hv : bootBuiltins x = some (.builtin id)) (ha : PA X (e :: es) t) (hn : x ≠ "__name__" := by decide) (hdb : (x == ("__debug__" : Str)) = false := by decide)
    (he : starEach (e :: es) X.env = (false, eval e X.env) :: starEach es X.env := by rfl) (hpl : (backTo pos (starEach es X.env)).any (·.1) = false := by rfl) : PE X (.Call (.Name x p) (e :: es) [] pos) (tCB r t) := by
  intro pins s σ H Q I h
  refine wpAny_Call_Name_kw (ZH I hg hm hv ?_ hn hdb)
  exact PyProof.Rows.callWith_builtin1 (thn (ha pos pins s σ H _ I h) fun us s1 ⟨vs, H1, I1, r1, q1⟩ => hc pins s1 σ H1 vs us Q I1 r1 q1) he hpl
theorem za5 (hc : YD X (.type T) r) (hg : Gl X x) (hm : X.mg x = none) (hv : bootBuiltins x = some (.type T)) (ha : PA X (e :: es) t) (hn : x ≠ "__name__" := by decide) (hdb : (x == ("__debug__" : Str)) = false := by decide)
    (he : starEach (e :: es) X.env = (false, eval e X.env) :: starEach es X.env := by rfl) (hpl : (backTo pos (starEach es X.env)).any (·.1) = false := by rfl) : PE X (.Call (.Name x p) (e :: es) [] pos) (tCB r t) := by
  intro pins s σ H Q I h
  refine wpAny_Call_Name_kw (ZH I hg hm hv ?_ hn hdb)
  exact PyProof.Rows.callWith_type1 (thn (ha pos pins s σ H _ I h) fun us s1 ⟨vs, H1, I1, r1, q1⟩ => hc pins s1 σ H1 vs us Q I1 r1 q1) he hpl
end
end L2
namespace HT
open PySem PyProof.Rows
noncomputable def lexLt : List Int → List Int → Bool
  | [], [] => false
  | [], _ :: _ => true
  | _ :: _, [] => false
  | x :: xs, y :: ys => if x = y then lexLt xs ys else decide (x < y)
theorem lexLt_cons (x y : Int) (xs ys : List Int) : lexLt (x :: xs) (y :: ys) = if x = y then lexLt xs ys else decide (x < y) := rfl
theorem zgy (A : Around) (s : Shared) (a : Int) (t : Tok) (c : Int) (u : Tok) : ∃ e, SeqAt.EqAt A s (.int a t) (.int c u) e ∧ (e = true ↔ a = c) :=
  ⟨(a == c), SeqAt.EqAt.int_int a t c u, by simp⟩
section
variable {prog : Program} {w : World} {A : Around} {E : Value → Shared → Prop} {s : Shared}
theorem cat_tup {t b : Addr} {vs ws : List Value} {Q : Value → Shared → Prop} (ht : IsTup s.heap t vs.toArray) (hb : IsTup s.heap b ws.toArray) (hv : vs ≠ [])
    (h1 : ws = [] → Q (.ref t) s) (h2 : ws ≠ [] → Q (.ref s.heap.objs.size) { s with heap := s.heap.push { cls := .type "tuple", data := .seq (vs ++ ws).toArray } })
    (hsz : vs.length + ws.length ≤ sizeLine) : wpAny (model prog w) A (binaryOp .Add (.ref t) (.ref b)) Q E s := by
  obtain ⟨⟨cls, dd, data, sl⟩, ho, hc, n, hd⟩ := id ht
  obtain ⟨⟨cls2, dd2, data2, sl2⟩, ho2, hc2, n2, hd2⟩ := id hb
  simp only at hc hd hc2 hd2
  subst hc hd hc2 hd2
  have e : vs.toArray ++ ws.toArray = (vs ++ ws).toArray := by simp
  by_cases hw : ws = []
  · exact concat_meets ⟨_, ho, rfl⟩ ⟨_, ho2, rfl⟩ noFill_tuple_add seq_tuple_add PySem.F.slot_tuple_add PySem.F.entry_tuple_add (PySem.F.args_tuple_add_2 _ _)
      (tuple_addW1 t b vs.toArray ws.toArray n n2 dd dd2 sl sl2 (by simpa using hv) (by simp [hw])) ⟨ho, ho2, h1 hw⟩
  · refine concat_meets ⟨_, ho, rfl⟩ ⟨_, ho2, rfl⟩ noFill_tuple_add seq_tuple_add PySem.F.slot_tuple_add PySem.F.entry_tuple_add (PySem.F.args_tuple_add_2 _ _)
      (tuple_addW2 t b vs.toArray ws.toArray n n2 dd dd2 sl sl2 (by simpa using hv) (by simpa using hw) (by rw [List.size_toArray, List.size_toArray]; exact hsz)) ⟨ho, ho2, ?_⟩
    rw [e]
    exact h2 hw
noncomputable def sIx (n d : Nat) : Option Int → Nat
  | none => d
  | some v => if v < 0 then (v + (n : Int)).toNat else min v.toNat n
theorem zj4 (n d : Nat) (hd : d ≤ n) (o : Option Int) : sIx n d o ≤ n := by
  cases o with
  | none => exact hd
  | some v =>
    show (if v < 0 then (v + (n : Int)).toNat else min v.toNat n) ≤ n
    by_cases hv : v < 0
    · rw [if_pos hv]; omega
    · rw [if_neg hv]; exact Nat.min_le_right _ _
theorem zdM (v : Int) (n d : Nat) : (if v < 0 then max (v + (n : Int)) 0 else min v (n : Int)) = ((sIx n d (some v) : Nat) : Int) := by
  show (if v < 0 then max (v + (n : Int)) 0 else min v (n : Int)) = (((if v < 0 then (v + (n : Int)).toNat else min v.toNat n) : Nat) : Int)
  by_cases hv : v < 0
  · simp only [if_pos hv]; omega
  · simp only [if_neg hv]; omega
theorem zdt (lo hi : Option Int) (n : Nat) : Builtin.Slice.sliceAdjust lo hi 1 (n : Int) = (((sIx n 0 lo : Nat) : Int), ((sIx n n hi : Nat) : Int)) := by
  have h1 : ¬ ((1 : Int) < 0) := by omega
  unfold Builtin.Slice.sliceAdjust
  simp only [h1, if_false]
  refine Prod.ext ?_ ?_
  · cases lo with
    | none => rfl
    | some v => exact zdM v n 0
  · cases hi with
    | none => rfl
    | some v => exact zdM v n n
theorem zdc (i j : Nat) : Builtin.Slice.slicePlaces (i : Int) (j : Int) 1 = j - i := by
  unfold Builtin.Slice.slicePlaces
  have h1 : (1 : Int) > 0 := by omega
  simp only [h1, if_true, Int.ediv_one]
  split <;> omega
theorem W9 {v : Value} {o : Option Int} {Q : Option Int → Shared → Prop} (p : IsPart v o) (h : Q o s) : wpAny (model prog w) A (Builtin.Slice.slicePartIndex v) Q E s := by
  cases p with
  | none => exact slicePart_none h
  | int i t => exact slicePart_int h
theorem Ya {sl : Addr} {vl vu : Value} {lo hi : Option Int} {n : Nat} {Q : Int × Int × Nat → Shared → Prop} (hs : s.heap.IsSliceOf sl vl vu .none) (pl : IsPart vl lo) (pu : IsPart vu hi)
    (h : Q (((sIx n 0 lo : Nat) : Int), 1, sIx n n hi - sIx n 0 lo) s) : wpAny (model prog w) A (Builtin.Slice.sliceApplied (.ref sl) (pure (n : Int))) Q E s := by
  obtain ⟨os, hos, hcs, hds⟩ := id hs
  unfold Builtin.Slice.sliceApplied Builtin.Slice.sliceFields
  refine wpAny_bind (wpAny_bind (wpAny_field hos hds (x := vl) rfl (wpAny_bind (wpAny_field hos hds (x := vu) rfl (wpAny_bind (wpAny_field hos hds (x := .none) rfl (wpAny_pure ?_)))))))
  refine wpAny_bind (slicePart_none ?_)
  show wpAny _ _ (if ((1 : Int) == 0) = true then _ else _) _ _ s
  rw [if_neg (by decide)]
  refine wpAny_bind (W9 pl (wpAny_bind (W9 pu (wpAny_bind (wpAny_pure ?_)))))
  show wpAny _ _ (match Builtin.Slice.sliceAdjust lo hi 1 (n : Int) with | (lo, hi) => pure (lo, (1 : Int), Builtin.Slice.slicePlaces lo hi 1)) _ _ s
  rw [zdt lo hi n]
  show wpAny _ _ (pure (((sIx n 0 lo : Nat) : Int), (1 : Int), Builtin.Slice.slicePlaces ((sIx n 0 lo : Nat) : Int) ((sIx n n hi : Nat) : Int) 1)) _ _ s
  rw [zdc]
  exact wpAny_pure h
theorem zfZ (xs : Array Value) (i k : Nat) : ((List.range k).filterMap fun (m : Nat) => xs[((i : Int) + (m : Int) * 1).toNat]?).toArray = ((xs.toList.drop i).take k).toArray := by
  have e : (fun (m : Nat) => xs[((i : Int) + (m : Int) * 1).toNat]?) = fun m => xs[i + m]? := by
    funext m
    have : ((i : Int) + (m : Int) * 1).toNat = i + m := by omega
    rw [this]
  rw [e]
  have := pick_run xs i k
  rw [List.filterMap_map] at this
  have e2 : ((fun x => xs[x]?) ∘ fun x => i + x) = fun m => xs[i + m]? := rfl
  rw [e2] at this
  rw [this]
theorem getItem_tuple_cut {t sl : Addr} {items : Array Value} {vl vu : Value} {lo hi : Option Int} {Q : Value → Shared → Prop} (ht : IsTup s.heap t items) (hs : s.heap.IsSliceOf sl vl vu .none) (pl : IsPart vl lo) (pu : IsPart vu hi)
    (hw : ¬ (sIx items.size 0 lo = 0 ∧ sIx items.size items.size hi = items.size))
    (h : Q (.ref s.heap.objs.size) { s with heap := s.heap.push { cls := .type "tuple", data := .seq ((items.toList.drop (sIx items.size 0 lo)).take (sIx items.size items.size hi - sIx items.size 0 lo)).toArray } })
    (hsz : items.size ≤ sizeLine) : wpAny (model prog w) A (getItem (.ref t) (.ref sl)) Q E s := by
  have htake : sizeOk (.seq ((items.toList.drop (sIx items.size 0 lo)).take (sIx items.size items.size hi - sIx items.size 0 lo)).toArray) := by
    show ((items.toList.drop (sIx items.size 0 lo)).take (sIx items.size items.size hi - sIx items.size 0 lo)).toArray.size ≤ sizeLine
    rw [List.size_toArray, List.length_take, List.length_drop, Array.length_toList]
    omega
  have hj : sIx items.size items.size hi ≤ items.size := zj4 _ _ (Nat.le_refl _) hi
  obtain ⟨os, hos, hcs, hds⟩ := id hs
  have hTs : s.TypeIs (.ref sl) "slice" := ⟨os, hos, hcs⟩
  unfold getItem
  try with_reducible refine wpAny_holding ?_
  first | refine wpAny_bind (wpAny_pure ?_) | skip
  refine wpAny_bind (wpAny_sequenceKey ht.typeIs (by decide) ?_)
  refine wpAny_bind (wpAny_callSpecial?_slot (name := Str.ofString "__getitem__") ht.typeIs PyProof.Rows.slot_tuple_getitem
    (wpAny_call_entry PyProof.Rows.slot_tuple_getitem ht.typeIs entry_tuple_getitem ?_ (args_tuple_getitem _ _)))
  show wpAny _ _ (Builtin.Tuple.tupleItemsOf (.ref t) >>= _) _ _ s
  refine wpAny_bind (tupleItemsOf_ ht ?_)
  refine wpAny_bind (wpAny_typeOf hTs ?_)
  rw [if_pos (by decide)]
  refine wpAny_bind (Ya hs pl pu ?_)
  have hno : ¬ ((((sIx items.size 0 lo : Nat) : Int) == 0 && (1 : Int) == 1 && (sIx items.size items.size hi - sIx items.size 0 lo) == items.size) = true) := by
    intro q
    rw [Bool.and_eq_true, Bool.and_eq_true] at q
    have q1 : ((sIx items.size 0 lo : Nat) : Int) = 0 := eq_of_beq q.1.1
    have q2 : sIx items.size items.size hi - sIx items.size 0 lo = items.size := eq_of_beq q.2
    exact hw ⟨by omega, by omega⟩
  show wpAny _ _ (if (((sIx items.size 0 lo : Nat) : Int) == 0 && (1 : Int) == 1 && (sIx items.size items.size hi - sIx items.size 0 lo) == items.size) = true then _ else _) _ _ s
  rw [if_neg hno, zfZ]
  first
    | exact wpAny_bind (m := Builtin.Tuple.tupleExact _) (wpAny_newObj_type (wpAny_pure ⟨_, rfl, wpAny_pure h⟩) htake)
    | exact wpAny_bind (m := Builtin.Tuple.tupleExact _) (wpAny_newObj_type (wpAny_bind (wpAny_pure (wpAny_pure ⟨_, rfl, wpAny_pure h⟩))) htake)
    | exact wpAny_bind (wpAny_bind (m := Builtin.Tuple.tupleExact _) (wpAny_newObj_type (wpAny_pure (wpAny_pure ⟨_, rfl, wpAny_pure h⟩)) htake))
    | exact wpAny_bind (wpAny_bind (m := Builtin.Tuple.tupleExact _) (wpAny_newObj_type (wpAny_pure ⟨_, rfl, wpAny_pure h⟩) htake))
end
end HT
namespace L2
open PySem PySem.Spec PyProof.Rows
noncomputable abbrev TO := St → Hp → (Option Int → Hp → Prop) → Prop
noncomputable def PO (X : Cx) (e : Option Expr) (t : TO) : Prop :=
  ∀ (pins : List (Addr × Obj)) (s : Shared) (σ : St) (H : Hp) (Q : Option Int → Hp → Prop), Inv X pins σ H s → t σ H Q →
    wpAny (model X.prog X.w) X.A (evalPart e X.env) (fun u s' => ∃ o H', Inv X pins σ H' s' ∧ IsPart u o ∧ Q o H') X.xe s
noncomputable def zib : TO := fun _ H Q => Q none H
noncomputable def zld (t : TE) : TO := fun σ H Q => t σ H fun x H1 => ∃ i, x = .int i ∧ Q (some i) H1
theorem Xg {ns : List Int} : ∀ {us : List Value}, yx (ns.map V.int) us → IntsAre us ns := by
  induction ns with
  | nil => intro us r; rw [List.map_nil] at r; cases r; exact .nil
  | cons n ns ih =>
    intro us r
    rw [List.map_cons] at r
    cases r with
    | cons r1 r2 =>
      obtain ⟨t, e⟩ := r1
      subst e
      exact .cons n t (ih r2)
section
variable {X : Cx} {e : Expr} {te : TE} {lo hi : Option Expr} {tl th : TO} {pos p2 : Pos}
theorem zhD : PO X none zib := by
  intro pins s σ H Q I h
  rw [evalPart_none]
  exact wpAny_pure ⟨none, H, I, .none, h⟩
theorem zhC (h : PE X e te) : PO X (some e) (zld te) := by
  intro pins s σ H Q I hw
  rw [evalPart_some]
  refine thn (h pins s σ H _ I hw) fun u s1 hh9 => ?_
  obtain ⟨x, H1, I1, r1, q1⟩ := hh9
  obtain ⟨i, rfl, q⟩ := q1
  obtain ⟨t, rfl⟩ := r1
  exact ⟨some i, H1, I1, .int i t, q⟩
noncomputable def SlR (X : Cx) (r : V → Option Int → Option Int → Hp → VK → Prop) : Prop :=
  ∀ (pins : List (Addr × Obj)) (s : Shared) (σ : St) (H : Hp) (x : V) (v vl vu : Value) (lo hi : Option Int) (sl : Addr) (Q : VK), Inv X pins σ H s → yN x v → s.heap.IsSliceOf sl vl vu .none → IsPart vl lo → IsPart vu hi → r x lo hi H Q →
    ∃ T id, typeLookup (.type T) "__getitem__" = pure (some (.builtin id)) ∧ s.TypeIs v T ∧ wpAny (model X.prog X.w) X.A (getItem v (.ref sl)) (EP X pins σ Q) X.xe s
theorem SlR.or {r r' : V → Option Int → Option Int → Hp → VK → Prop} (h : SlR X r) (h' : SlR X r') : SlR X (fun x lo hi H Q => r x lo hi H Q ∨ r' x lo hi H Q) := by
  intro pins s σ H x v vl vu lo hi sl Q I rx hs pl pu q
  rcases q with q | q
  · exact h pins s σ H x v vl vu lo hi sl Q I rx hs pl pu q
  · exact h' pins s σ H x v vl vu lo hi sl Q I rx hs pl pu q
noncomputable def tSl (r : V → Option Int → Option Int → Hp → VK → Prop) (te : TE) (tl th : TO) : TE := fun σ H Q => te σ H fun x H1 => tl σ H1 fun l H2 => th σ H2 fun u H3 => r x l u H3 Q
theorem zfo {r : V → Option Int → Option Int → Hp → VK → Prop} (hr : SlR X r) (he : PE X e te) (hl : PO X lo tl) (hu : PO X hi th) : PE X (.Subscript e (.Slice lo hi none p2) pos) (tSl r te tl th) := by
  intro pins s σ H Q I h
  refine Subscript_ (thn (he pins s σ H _ I h) fun v s1 hh9 => ?_)
  obtain ⟨x, H1, I1, r1, q1⟩ := hh9
  refine wpAny_Slice (thn (hl pins s1 σ H1 _ I1 q1) fun vl s2 ⟨l, H2, I2, pl, q2⟩ => thn (hu pins s2 σ H2 _ I2 q2) fun vu s3 hh9 => ?_)
  obtain ⟨u, H3, I3, pu, q3⟩ := hh9
  rw [evalPart_none]
  refine wpAny_pure ?_
  have I4 : Inv X pins σ H3 { s3 with heap := s3.heap.push { cls := .type "slice", data := .fields #[vl, vu, .none] } } := I3.kept (t' := s3.toks) fun b ob q => Heap.get?_push_of_some _ q
  obtain ⟨T, id, hT, ht, hg⟩ := hr pins { s3 with heap := s3.heap.push { cls := .type "slice", data := .fields #[vl, vu, .none] } } σ H3 x v vl vu l u s3.heap.objs.size Q I4 r1 (Heap.IsSliceOf.new ..) pl pu q3
  show wpAny (model X.prog X.w) X.A (subscriptTail e (.Slice lo hi none p2) v (.ref s3.heap.objs.size)) (EP X pins σ Q) X.xe { s3 with heap := s3.heap.push { cls := .type "slice", data := .fields #[vl, vu, .none] } }
  exact tail_any (ops := [.ref s3.heap.objs.size, v]) ht hT hg (by with_unfolding_all rfl)
noncomputable def zb7 (xs : List V) (lo hi : Option Int) : List V := (xs.drop (HT.sIx xs.length 0 lo)).take (HT.sIx xs.length xs.length hi - HT.sIx xs.length 0 lo)
theorem Wf (xs : List V) (lo hi : Option Int) : (zb7 xs lo hi).length ≤ xs.length := by
  unfold zb7
  rw [List.length_take, List.length_drop]
  omega
noncomputable def rSlT (K : PySem.W.Frag) : V → Option Int → Option Int → Hp → VK → Prop := fun x lo hi H Q => ∃ a xs, x = .ref a ∧ SqT K H a xs ∧
  ¬ (HT.sIx xs.length 0 lo = 0 ∧ HT.sIx xs.length xs.length hi = xs.length) ∧ ∀ p, H p = none → Q (.ref p) (upd H p (.tup (zb7 xs lo hi)))
theorem zjN : SlR X (rSlT X.K) := by
  intro pins s σ H x v vl vu lo hi sl Q I rx hs pl pu h
  obtain ⟨a, xs, rfl, hx, hw, q⟩ := h
  cases rx
  obtain ⟨its, r, ht, hz⟩ := I.tuple hx
  have hlen : its.toArray.size = xs.length := by rw [List.size_toArray]; exact r.length.symm
  refine ⟨"tuple", _, PyProof.Rows.slot_tuple_getitem.lookup, ht.typeIs, ?_⟩
  refine HT.getItem_tuple_cut ht hs pl pu (by rw [hlen]; exact hw) ?_ (by rw [hlen]; exact hz)
  rw [hlen]
  refine ⟨.ref s.heap.objs.size, _, I.laid (t' := s.toks) (o := .tup (zb7 xs lo hi)) (fun b ob q => Heap.get?_push_of_some _ q) (Nat.le_refl _) ?_, rfl, q _ (I.hok.fresh (Nat.le_refl _))⟩
  exact ⟨Nat.le_trans (Wf xs lo hi) hz, _, (r.drop (HT.sIx xs.length 0 lo)).take (HT.sIx xs.length xs.length hi - HT.sIx xs.length 0 lo), IsTup.new _ _⟩
noncomputable def zle (K : PySem.W.Frag) : R2 := fun x y H Q => ∃ a b xs ys, x = .ref a ∧ y = .ref b ∧ SqT K H a xs ∧ SqT K H b ys ∧ xs ≠ [] ∧ xs.length + ys.length ≤ sizeLine ∧
  (ys = [] → Q (.ref a) H) ∧ (ys ≠ [] → ∀ p, H p = none → Q (.ref p) (upd H p (.tup (xs ++ ys))))
theorem yx.nil_iff {xs : List V} {us : List Value} (r : yx xs us) : us = [] ↔ xs = [] := by
  cases r with
  | nil => simp
  | cons _ _ => simp
theorem ziC : OpR X (binaryOp .Add) (zle X.K) := by
  intro pins s σ H x y v u Q I rx ry h
  obtain ⟨a, b, xs, ys, rfl, rfl, ha, hb, hx, hz, q1, q2⟩ := h
  cases rx
  cases ry
  obtain ⟨its, r1, p1, _⟩ := I.tuple ha
  obtain ⟨its2, r2, p2, _⟩ := I.tuple hb
  refine HT.cat_tup p1 p2 (fun z => hx (r1.nil_iff.mp z)) (fun z => ⟨.ref a, H, I, rfl, q1 (r2.nil_iff.mp z)⟩) (fun z => ?_) (by rw [← r1.length, ← r2.length]; exact hz)
  refine ⟨.ref s.heap.objs.size, _, I.laid (t' := s.toks) (o := .tup (xs ++ ys)) (fun b ob q => Heap.get?_push_of_some _ q) (Nat.le_refl _) ?_, rfl, q2 (fun w => z (r2.nil_iff.mpr w)) _ (I.hok.fresh (Nat.le_refl _))⟩
  exact ⟨by rw [List.length_append]; exact hz, _, r1.append r2, IsTup.new _ _⟩
end
noncomputable def ixN (n : Nat) (i : Int) : Option Nat := if 0 ≤ i then (if i < n then some i.toNat else none) else if -(n : Int) ≤ i then some (i + n).toNat else none
noncomputable def atI {α : Type} (xs : List α) (i : Int) : Option α := (ixN xs.length i).bind fun j => xs[j]?
theorem ze4 {n : Nat} {i : Int} {j : Nat} (h : ixN n i = some j) : seqIndex? i n = some j ∧ j < n ∧ -(n : Int) ≤ i ∧ i < n := by
  unfold ixN at h
  by_cases h0 : 0 ≤ i
  · rw [if_pos h0] at h
    by_cases h1 : i < n
    · rw [if_pos h1] at h
      have e : i.toNat = j := Option.some.inj h
      exact ⟨by rw [seqIndex_of h0 h1, e], by omega, by omega, h1⟩
    · rw [if_neg h1] at h; cases h
  · rw [if_neg h0] at h
    by_cases h1 : -(n : Int) ≤ i
    · rw [if_pos h1] at h
      have e : (i + n).toNat = j := Option.some.inj h
      exact ⟨by rw [seqIndex_neg (by omega) h1, e], by omega, h1, by omega⟩
    · rw [if_neg h1] at h; cases h
theorem zab {α : Type} {xs : List α} {i : Int} {v : α} (h : atI xs i = some v) : ∃ j, seqIndex? i xs.length = some j ∧ xs[j]? = some v ∧ j < xs.length ∧ -(xs.length : Int) ≤ i ∧ i < xs.length := by
  unfold atI at h
  cases e : ixN xs.length i with
  | none => rw [e] at h; cases h
  | some j =>
    rw [e] at h
    obtain ⟨h1, h2, h3, h4⟩ := ze4 e
    exact ⟨j, h1, h, h2, h3, h4⟩
theorem zeN {α : Type} {xs : List α} {j : Nat} {v : α} (h : xs[j]? = some v) : atI xs (j : Int) = some v := by
  have hj : j < xs.length := (List.getElem?_eq_some_iff.mp h).1
  have e : ixN xs.length (j : Int) = some j := by
    unfold ixN
    rw [if_pos (by omega), if_pos (by omega)]; simp
  unfold atI; rw [e]; exact h
noncomputable def Vw (b : Expr) : Prop := ∀ o i, subscripted b false o i = operate [o, i] (getItem o i)
noncomputable def IxR (X : Cx) (r : R2) : Prop :=
  ∀ (value slice : Expr) (pins : List (Addr × Obj)) (s : Shared) (σ : St) (H : Hp) (x y : V) (v u : Value) (Q : VK), Inv X pins σ H s → yN x v → yN y u → r x y H Q →
    subscripted slice false v u = operate [v, u] (getItem v u) → wpAny (model X.prog X.w) X.A (subscriptTail value slice v u) (EP X pins σ Q) X.xe s
noncomputable def MtR (X : Cx) (id : String) (r : V → List V → Hp → VK → Prop) : Prop :=
  ∀ (pins : List (Addr × Obj)) (s : Shared) (σ : St) (H : Hp) (x : V) (xs : List V) (v : Value) (us : List Value) (Q : VK), Inv X pins σ H s → yN x v → yx xs us → r x xs H Q →
    wpAny (model X.prog X.w) X.A (call (.builtin id) (v :: us)) (EP X pins σ Q) X.xe s
section
variable {X : Cx} {a b : Expr} {ta tb : TE} {pos : Pos}
theorem IxR.or {r r' : R2} (h : IxR X r) (h' : IxR X r') : IxR X (fun x y H Q => r x y H Q ∨ r' x y H Q) := by
  intro value slice pins s σ H x y v u Q I rx ry q hs
  rcases q with q | q
  · exact h value slice pins s σ H x y v u Q I rx ry q hs
  · exact h' value slice pins s σ H x y v u Q I rx ry q hs
theorem zkz {r : R2} (hr : IxR X r) (ha : PE X a ta) (hb : PE X b tb) (hs : Vw b) : PE X (.Subscript a b pos) (tOp r ta tb) := by
  intro pins s σ H Q I h
  exact Subscript_ (zlc ha hb I h fun v u s2 x y H2 I2 rx ry q => hr a b pins s2 σ H2 x y v u Q I2 rx ry q (hs _ _))
noncomputable def rIxL (K : PySem.W.Frag) : R2 := fun x y H Q => ∃ p xs i v, x = .ref p ∧ y = .int i ∧ SqL K H p xs ∧ atI xs i = some v ∧ Q v H
noncomputable def rIxT (K : PySem.W.Frag) : R2 := fun x y H Q => ∃ p xs i v, x = .ref p ∧ y = .int i ∧ SqT K H p xs ∧ atI xs i = some v ∧ Q v H
noncomputable def rIxS : R2 := fun x y H Q => ∃ z i c, x = .str z ∧ y = .int i ∧ z.length ≤ sizeLine ∧ atI z.cps.toList i = some c ∧ Q (.str ⟨#[c]⟩) H
theorem ziD : IxR X (rIxL X.K) := by
  intro value slice pins s σ H x y v u Q I rx ry h hs
  obtain ⟨p, xs, i, z, rfl, rfl, hq, he, q⟩ := h
  cases rx
  obtain ⟨t, rfl⟩ := ry
  obtain ⟨its, r, pl, hz⟩ := I.list hq
  obtain ⟨j, h1, h2, h3, h4, h5⟩ := zab he
  obtain ⟨w, ew, rw'⟩ := r.get h2
  have hl := r.length
  have hn := Wz
  have fin : EP X pins σ Q w s := ⟨z, H, I, rw', q⟩
  by_cases h0 : 0 ≤ i
  · have hj : i.toNat = j := by
      rw [seqIndex_of h0 h5] at h1
      exact Option.some.inj h1
    exact item_listR pl.isList h0 (by omega) (by rw [hj]; simpa using ew) fin hs
  · have hj : (i + (its.toArray.size : Int)).toNat = j := by
      rw [seqIndex_neg (by omega) h4] at h1
      rw [List.size_toArray, ← hl]
      exact Option.some.inj h1
    exact subscriptTail_builtinR (x := w) pl.isList.typeIs slot_list_getitem.lookup
      (wpAny_getItem_list_neg (Q := fun r s' => r = w ∧ EP X pins σ Q r s') pl.isList (by omega) (by rw [List.size_toArray] <;> omega) (by omega) (by rw [hj]; simpa using ew) ⟨rfl, fin⟩) hs
theorem zjh : IxR X (rIxT X.K) := by
  intro value slice pins s σ H x y v u Q I rx ry h hs
  obtain ⟨p, xs, i, z, rfl, rfl, hq, he, q⟩ := h
  cases rx
  obtain ⟨t, rfl⟩ := ry
  obtain ⟨its, r, pl, hz⟩ := I.tuple hq
  obtain ⟨j, h1, h2, h3, h4, h5⟩ := zab he
  obtain ⟨w, ew, rw'⟩ := r.get h2
  have hl := r.length
  have hn := Wz
  have fin : EP X pins σ Q w s := ⟨z, H, I, rw', q⟩
  exact subscriptTail_builtinR (x := w) pl.typeIs slot_tuple_getitem.lookup
    (getItem_tuple (j := j) (Q := fun r s' => r = w ∧ EP X pins σ Q r s') pl (by omega) (by omega) (by rw [List.size_toArray, ← hl]; exact h1) (by simpa using ew) ⟨rfl, fin⟩) hs
theorem zjm : IxR X rIxS := by
  intro value slice pins s σ H x y v u Q I rx ry h hs
  obtain ⟨z, i, c, rfl, rfl, hz, he, q⟩ := h
  obtain ⟨t, rfl⟩ := rx
  obtain ⟨t', rfl⟩ := ry
  obtain ⟨j, h1, h2, h3, h4, h5⟩ := zab he
  have hl : z.cps.toList.length = z.length := by simp [Str.length]
  rw [hl] at h1 h4 h5
  have hn := Wz
  exact tail_any (typeIs_str s z t) slot_str_getitem.lookup (getItem_str (c := c) (by
    have e1 : decide (i < -(2 ^ 63 : Int)) = false := decide_eq_false (by omega)
    have e2 : decide (i ≥ 2 ^ 63) = false := decide_eq_false (by omega)
    rw [e1, e2, Bool.or_false]) (by rw [h1]; simpa using h2) ⟨.str ⟨#[c]⟩, H, I.tok _, ⟨_, rfl⟩, q⟩) hs
noncomputable def rIx (K : PySem.W.Frag) : R2 := fun x y H Q => rIxL K x y H Q ∨ rIxT K x y H Q ∨ rIxS x y H Q
theorem zkr : IxR X (rIx X.K) := ziD.or (zjh.or zjm)
theorem zdp (its : List Value) (n j : Nat) (u : Value) : Obj.mapSeq (·.setIfInBounds j u) { cls := .type "list", data := .seq its.toArray n } = { cls := .type "list", data := .seq (its.set j u).toArray n } := by
  simp [Obj.mapSeq]
theorem Inv.lst {pins : List (Addr × Obj)} {σ : St} {H : Hp} {s : Shared} {p : Addr} {xs : List V} (I : Inv X pins σ H s) (h : H p = some (.lst xs)) :
    ∃ (its : List Value) (n : Nat), yx xs its ∧ s.heap.get? p = some { cls := .type "list", data := .seq its.toArray n } ∧ xs.length ≤ sizeLine := by
  obtain ⟨z, its, n, r, e⟩ := I.hok p _ h
  exact ⟨its, n, r, e, z⟩
theorem Inv.lstUpd {pins : List (Addr × Obj)} {σ : St} {H : Hp} {s : Shared} {p : Addr} {xs ys : List V} {its its' : List Value} {n n' : Nat} {f : Obj → Obj} (I : Inv X pins σ H s) (h : H p = some (.lst xs))
    (ho : s.heap.get? p = some { cls := .type "list", data := .seq its.toArray n }) (hf : f { cls := .type "list", data := .seq its.toArray n } = { cls := .type "list", data := .seq its'.toArray n' }) (r : yx ys its') (hz : ys.length ≤ sizeLine) (t : Nat) :
    Inv X pins σ (upd H p (.lst ys)) { s with heap := s.heap.update p f, toks := t } := by
  have e : (s.heap.update p f).get? p = some { cls := .type "list", data := .seq its'.toArray n' } := by
    rw [Heap.get?_update_self f ho (by rw [hf] <;> rfl), hf]
  refine I.write (x := p) (e := p) (by rw [h]; trivial) (.inl rfl) (fun b u hb q => (Heap.get?_update_other _ _ (Ne.symm hb)).trans q) ⟨_, e⟩ ?_
  exact ⟨hz, its', n', r, e⟩
noncomputable def zla : V → V → V → Hp → (Hp → Prop) → Prop := fun o i v H Q => ∃ p xs k j, o = .ref p ∧ i = .int k ∧ H p = some (.lst xs) ∧ ixN xs.length k = some j ∧ Q (upd H p (.lst (xs.set j v)))
theorem zcv : zlI X zla := by
  intro pins s σ H o i v ov iv u Q I ro ri rv h
  obtain ⟨p, xs, k, j, rfl, rfl, hp, hj, q⟩ := h
  cases ro
  obtain ⟨t, rfl⟩ := ri
  obtain ⟨its, n, r, ho, hz⟩ := I.lst hp
  obtain ⟨h1, h2, h3, h4⟩ := ze4 hj
  have hl := r.length
  have hn := Wz
  have I' : Inv X pins σ (upd H p (.lst (xs.set j v))) { s with heap := s.heap.update p (Obj.mapSeq (·.setIfInBounds j u)) } :=
    I.lstUpd hp ho (zdp its n j u) (r.set rv j) (by rw [List.length_set]; exact hz) s.toks
  by_cases h0 : 0 ≤ k
  · have hk : k.toNat = j := by
      rw [seqIndex_of h0 h4] at h1
      exact Option.some.inj h1
    exact PySem.W.ki_setAt ho h0 (by omega) (by rw [List.size_toArray, ← hl]; exact h4) (by rw [hk]; exact ⟨_, I', q⟩)
  · have hk : (k + (its.toArray.size : Int)).toNat = j := by
      rw [seqIndex_neg (by omega) h3] at h1
      rw [List.size_toArray, ← hl]
      exact Option.some.inj h1
    exact PySem.W.ki_setBack ho (by omega) (by rw [List.size_toArray, ← hl]; exact h3) (by omega) (by rw [hk]; exact ⟨_, I', q⟩)
theorem zas (lo hi : Option Int) (n : Nat) : (sliceBounds lo hi none n).1 = ((HT.sIx n 0 lo : Nat) : Int) ∧ (sliceBounds lo hi none n).2.1 = ((HT.sIx n n hi : Nat) : Int) ∧ (sliceBounds lo hi none n).2.2 = 1 := by
  refine ⟨?_, ?_, rfl⟩
  · cases lo with
    | none => simp [sliceBounds, HT.sIx]
    | some i =>
      simp only [sliceBounds, HT.sIx, Option.getD_none, show (1 : Int) > 0 by decide, if_true]
      by_cases h : i < 0
      · simp only [h, if_true] <;> omega
      · simp only [h, if_false] <;> omega
  · cases hi with
    | none => simp [sliceBounds, HT.sIx]
    | some i =>
      simp only [sliceBounds, HT.sIx, Option.getD_none, show (1 : Int) > 0 by decide, if_true]
      by_cases h : i < 0
      · simp only [h, if_true] <;> omega
      · simp only [h, if_false] <;> omega
theorem V7 (its : List Value) (lo hi : Option Int) : slicePick its.toArray lo hi none = ((its.drop (HT.sIx its.length 0 lo)).take (HT.sIx its.length its.length hi - HT.sIx its.length 0 lo)).toArray := by
  obtain ⟨h1, h2, h3⟩ := zas lo hi its.toArray.size
  unfold slicePick
  rw [h1, h2, h3]
  simp only [sliceRange_one, pick_run, List.size_toArray] <;> rfl
noncomputable def rSlL (K : PySem.W.Frag) : V → Option Int → Option Int → Hp → VK → Prop := fun x lo hi H Q => ∃ a xs, x = .ref a ∧ SqL K H a xs ∧ ∀ p, H p = none → Q (.ref p) (upd H p (.lst (zb7 xs lo hi)))
theorem zid : SlR X (rSlL X.K) := by
  intro pins s σ H x v vl vu lo hi sl Q I rx hs pl pu h
  obtain ⟨a, xs, rfl, hx, q⟩ := h
  cases rx
  obtain ⟨its, r, ht, hz⟩ := I.list hx
  have hlen := r.length
  refine ⟨"list", _, slot_list_getitem.lookup, ht.isList.typeIs, ?_⟩
  refine wpAny_getItem_list_slice ht.isList hs pl pu .none (by simp) ?_ (by rw [List.size_toArray] <;> omega)
  rw [V7, ← hlen]
  refine ⟨.ref s.heap.objs.size, _, I.laid (t' := s.toks) (o := .lst (zb7 xs lo hi)) (fun b ob q => Heap.get?_push_of_some _ q) (Nat.le_refl _) ?_, rfl, q _ (I.hok.fresh (Nat.le_refl _))⟩
  exact ⟨Nat.le_trans (Wf xs lo hi) hz, _, 0, (r.drop (HT.sIx xs.length 0 lo)).take (HT.sIx xs.length xs.length hi - HT.sIx xs.length 0 lo), Heap.get?_push_size _ rfl⟩
noncomputable def zie : V → Bool
  | .non => true
  | .bl _ => true
  | .int _ => true
  | .str _ => true
  | _ => false
noncomputable def eqV : V → V → Bool
  | .non, .non => true
  | .bl a, .bl b => a == b
  | .bl a, .int b => (if a then 1 else 0) == b
  | .int a, .bl b => a == (if b then 1 else 0)
  | .int a, .int b => a == b
  | .str a, .str b => a == b
  | _, _ => false
theorem zg9 {A : Around} {s : Shared} {y x : V} {u v : Value} (ry : yN y u) (rx : yN x v) (fy : zie y = true) (fx : zie x = true) : SeqAt.EqAt A s u v (eqV y x) := by
  cases y with
  | non =>
    cases ry
    cases x with
    | non => cases rx; exact SeqAt.EqAt.same _
    | bl b => cases rx; exact SeqAt.EqAt.none_bool b
    | int b => obtain ⟨t, rfl⟩ := rx; exact SeqAt.EqAt.none_int b t
    | str b => obtain ⟨t, rfl⟩ := rx; exact SeqAt.EqAt.none_str b t
    | _ => exact absurd (show false = true from fx) Bool.false_ne_true
  | bl a =>
    cases ry
    cases x with
    | non => cases rx; exact SeqAt.EqAt.bool_none a
    | bl b => cases rx; exact SeqAt.EqAt.bool_bool a b
    | int b => obtain ⟨t, rfl⟩ := rx; exact SeqAt.EqAt.bool_int a b t
    | str b => obtain ⟨t, rfl⟩ := rx; exact SeqAt.EqAt.bool_str a b t
    | _ => exact absurd (show false = true from fx) Bool.false_ne_true
  | int a =>
    obtain ⟨t', rfl⟩ := ry
    cases x with
    | non => cases rx; exact SeqAt.EqAt.int_none a t'
    | bl b => cases rx; exact SeqAt.EqAt.int_bool a t' b
    | int b => obtain ⟨t, rfl⟩ := rx; exact SeqAt.EqAt.int_int a t' b t
    | str b => obtain ⟨t, rfl⟩ := rx; exact SeqAt.EqAt.int_str a t' b t
    | _ => exact absurd (show false = true from fx) Bool.false_ne_true
  | str a =>
    obtain ⟨t', rfl⟩ := ry
    cases x with
    | non => cases rx; exact SeqAt.EqAt.str_none a t'
    | bl b => cases rx; exact SeqAt.EqAt.str_bool a t' b
    | int b => obtain ⟨t, rfl⟩ := rx; exact SeqAt.EqAt.str_int a t' b t
    | str b => obtain ⟨t, rfl⟩ := rx; exact SeqAt.EqAt.str_str a t' b t
    | _ => exact absurd (show false = true from fx) Bool.false_ne_true
  | _ => exact absurd (show false = true from fy) Bool.false_ne_true
theorem zM : YD X (.builtin "len") (fun xs H Q => ∃ p ys, xs = [.ref p] ∧ (SqL X.K H p ys ∨ SqT X.K H p ys) ∧ Q (.int ys.length) H) := by
  intro pins s σ H xs us Q I r h
  obtain ⟨p, ys, rfl, hq, q⟩ := h
  obtain ⟨u, rfl, rx⟩ := WG r
  cases rx
  have hn := Wz
  rcases hq with hq | hq
  · obtain ⟨its, r', pl, hz⟩ := I.list hq
    have hlen := r'.length
    exact Calls.call_len_list pl.isList (by simp only [List.size_toArray] <;> omega) ⟨.int ys.length, H, I.tok _, ⟨s.toks + 1, by rw [List.size_toArray, hlen]⟩, q⟩
  · obtain ⟨its, r', pl, hz⟩ := I.tuple hq
    have hlen := r'.length
    exact len_tuple pl (by simp only [List.size_toArray] <;> omega) ⟨.int ys.length, H, I.tok _, ⟨s.toks + 1, by rw [List.size_toArray, hlen]⟩, q⟩
theorem zam : YD X (.type "list") (fun xs H Q => ∃ p ys, xs = [.ref p] ∧ (SqL X.K H p ys ∨ SqT X.K H p ys) ∧ ∀ l, H l = none → Q (.ref l) (upd H l (.lst ys))) := by
  intro pins s σ H xs us Q I r h
  obtain ⟨p, ys, rfl, hq, q⟩ := h
  obtain ⟨u, rfl, rx⟩ := WG r
  cases rx
  have fin : ∀ (its : List Value), yx ys its → ys.length ≤ sizeLine → ∀ (h' : Heap) (c' : Nat), (∀ b o', s.heap.get? b = some o' → h'.get? b = some o') →
      h'.get? s.heap.objs.size = some { cls := .type "list", dict := none, data := .seq its.toArray c', slots := #[] } → EP X pins σ Q (.ref s.heap.objs.size) { s with heap := h' } := fun its r' hz h' c' kp e =>
    ⟨.ref s.heap.objs.size, _, I.laid (t' := s.toks) kp (Nat.le_refl _) (show yZ X.prog X.w _ h' _ (.lst ys) from ⟨hz, its, c', r', e⟩), rfl, q _ (I.hok.fresh (Nat.le_refl _))⟩
  rcases hq with hq | hq
  · obtain ⟨its, r', pl, hz⟩ := I.list hq
    have hlen := r'.length
    obtain ⟨o, ho, hc, n, hd⟩ := pl.isList
    exact call_list_seq p (.inl rfl) ho hc hd (fun h' c' kp e => fin its r' hz h' c' kp e) (by simp only [List.size_toArray] <;> omega)
  · obtain ⟨its, r', pl, hz⟩ := I.tuple hq
    have hlen := r'.length
    obtain ⟨o, ho, hc, n, hd⟩ := pl
    exact call_list_seq p (.inr rfl) ho hc hd (fun h' c' kp e => fin its r' hz h' c' kp e) (by simp only [List.size_toArray] <;> omega)
theorem zW : YD X (.type "tuple") (fun xs H Q => ∃ p ys, xs = [.ref p] ∧ ((SqL X.K H p ys ∧ ∀ l, H l = none → Q (.ref l) (upd H l (.tup ys))) ∨ (SqT X.K H p ys ∧ Q (.ref p) H))) := by
  intro pins s σ H xs us Q I r h
  obtain ⟨p, ys, rfl, h⟩ := h
  obtain ⟨u, rfl, rx⟩ := WG r
  cases rx
  rcases h with ⟨hq, q⟩ | ⟨hq, q⟩
  · obtain ⟨its, r', pl, hz⟩ := I.list hq
    have hlen := r'.length
    refine call_tuple_list pl.isList (fun h' kp => ?_) (by simp only [List.size_toArray] <;> omega)
    have I1 : Inv X pins σ H { s with heap := h' } := I.kept (t' := s.toks) kp
    have I2 : Inv X pins σ (upd H h'.objs.size (.tup ys)) { s with heap := h'.push { cls := .type "tuple", data := .seq its.toArray } } :=
      I1.laid (t' := s.toks) (fun b o e => Heap.get?_push_of_some _ e) (Nat.le_refl _) (show yZ X.prog X.w _ _ _ (.tup ys) from ⟨hz, its, r', IsTup.new _ _⟩)
    exact ⟨.ref h'.objs.size, _, I2, rfl, q _ (I1.hok.fresh (Nat.le_refl _))⟩
  · obtain ⟨its, r', pl, hz⟩ := I.tuple hq
    exact call_tuple_same pl ⟨.ref p, H, I, rfl, q⟩
noncomputable def tyV (K : PySem.W.Frag) (T : String) (x : V) (H : Hp) : Prop := match x with
  | .str _ => T = "str"
  | .int _ => T = "int"
  | .ref p => (T = "list" ∧ ∃ xs, SqL K H p xs) ∨ (T = "tuple" ∧ ∃ o, K.lookup p = some o ∧ o.cls = .type "tuple" ∧ o.dict = none) ∨
      (T = "dict" ∧ ((∃ kvs, H p = some (.dK kvs)) ∨ ∃ kvs, H p = some (.dT kvs))) ∨ (T = "set" ∧ ∃ S n, H p = some (.set S n))
  | _ => False
theorem zjF {pins : List (Addr × Obj)} {σ : St} {H : Hp} {s : Shared} {T : String} {x : V} {v : Value} (I : Inv X pins σ H s) (r : yN x v) (ty : tyV X.K T x H) :
    s.TypeIs v T ∧ ∀ a, v = .ref a → ∃ ob, s.heap.get? a = some ob ∧ ob.dict = none := by
  cases x with
  | str z =>
    obtain ⟨t, rfl⟩ := r
    cases (show T = "str" from ty)
    exact ⟨typeIs_str s z t, fun _ e => nomatch e⟩
  | int i =>
    obtain ⟨t, rfl⟩ := r
    cases (show T = "int" from ty)
    exact ⟨typeIs_int s i t, fun _ e => nomatch e⟩
  | ref p =>
    cases r
    rcases ty with ⟨rfl, xs, hq⟩ | ⟨rfl, o, hk, hc, hd⟩ | ⟨rfl, hk⟩ | ⟨rfl, S, n, hk⟩
    · obtain ⟨its, _, pl, _⟩ := I.list hq
      refine ⟨pl.isList.typeIs, fun a e => ?_⟩
      cases e
      obtain ⟨o, n, e, c, hd, _⟩ := pl
      exact ⟨o, e, hd⟩
    · refine ⟨⟨o, I.kIn p o hk, hc⟩, fun a e => ?_⟩
      cases e
      exact ⟨o, I.kIn _ o hk, hd⟩
    · have z : ∃ o, s.heap.get? p = some o ∧ o.ExactDict := by
        rcases hk with ⟨kvs, hk⟩ | ⟨kvs, hk⟩
        · obtain ⟨_, _, _, _, o, _, _, e, ex, _⟩ := I.hok p _ hk
          exact ⟨o, e, ex⟩
        · obtain ⟨_, _, _, _, o, _, _, e, ex, _⟩ := I.hok p _ hk
          exact ⟨o, e, ex⟩
      obtain ⟨o, e, ex⟩ := z
      refine ⟨⟨o, e, ex.1⟩, fun a e2 => ?_⟩
      cases e2
      exact ⟨o, e, ex.2.1⟩
    · obtain ⟨o, _, _, _, e, ex, _⟩ := I.hok p _ hk
      refine ⟨⟨o, e, ex.1⟩, fun a e2 => ?_⟩
      cases e2
      exact ⟨o, e, ex.2.1⟩
  | _ => exact False.elim ty
noncomputable def tBM (K : PySem.W.Frag) (T : String) (r : V → List V → Hp → VK → Prop) (to : TE) (t : TA) : TE := fun σ H Q => to σ H fun x H1 => tyV K T x H1 ∧ t σ H1 fun xs H2 => r x xs H2 Q
variable {o e : Expr} {es : List Expr} {to : TE} {t : TA} {name : Str} {apos cpos : Pos} {T id : String} {r : V → List V → Hp → VK → Prop}
theorem zcX (pa : PlainAttrs T) (slot : Slot T name id) (hty : typeOf (.builtin id) = pure (.type "method_descriptor")) (hm : MtR X id r) (ho : PE X o to) (ha : PA X (e :: es) t)
    (hbase : attributeBase o name X.env (eval o X.env) = eval o X.env := by rfl)
    (hfew : ((backTo cpos (starEach (e :: es) X.env)).all (fun x => !x.1) && (backToKw cpos (keywordEach [] X.env)).all (fun x => x.1.isSome)
      && decide ((e :: es).length + ([] : List Keyword).length + (if ([] : List Keyword).isEmpty then 0 else 1) < 30)) = true := by rfl)
    (hline : (apos.endLine == cpos.line) = true := by rfl) (hs : starEach (e :: es) X.env = (false, eval e X.env) :: starEach es X.env := by rfl) (hplain : (backTo cpos (starEach es X.env)).any (·.1) = false := by rfl) :
    PE X (.Call (.Attribute o name apos) (e :: es) [] cpos) (tBM X.K T r to t) := by
  intro pins s σ H Q I h
  refine wpAny_Call_method_late hbase hfew hline rfl (thn (ho pins s σ H _ I h) fun v s1 hh9 => ?_)
  obtain ⟨x, H1, I1, r1, ty, q1⟩ := hh9
  obtain ⟨h1, h2⟩ := zjF I1 r1 ty
  refine ⟨T, id, pa, slot, hty, h1, h2, ?_⟩
  have hA := ha cpos pins s1 σ H1 _ I1 q1
  rw [hs] at hA ⊢
  refine Calls.callWith_builtin (by show (false || (backTo cpos (starEach es X.env)).any (·.1)) = false; rw [hplain] <;> rfl) (Calls.evalArgs_plain ?_)
  exact thn hA fun us s2 ⟨vs, H2, I2, r2, q2⟩ => hm pins s2 σ H2 x vs v us Q I2 r1 r2 q2
/- xs.append(e), list.index on a module's tuple .. are MtR facts of 06m -/
end
noncomputable def MtM (X : Cx) (id : String) (r : V → List V → Hp → VK → Prop) : Prop :=
  ∀ (pins : List (Addr × Obj)) (s : Shared) (σ : St) (H : Hp) (x : V) (xs : List V) (v : Value) (us : List Value) (Q : VK), Inv X pins σ H s → yN x v → yx xs us → r x xs H Q →
    wpAny (model X.prog X.w) X.A (call (.builtin id) (v :: us)) (EP X pins σ Q) X.xe s
theorem yx.one : ∀ {x : V} {us : List Value}, yx [x] us → ∃ u, us = [u] ∧ yN x u := by
  intro x us h
  cases h with | cons r t => cases t; exact ⟨_, rfl, r⟩
theorem yx.reverse {xs : List V} {us : List Value} (h : yx xs us) : yx xs.reverse us.reverse := by
  induction h with
  | nil => exact .nil
  | cons r t ih => rw [List.reverse_cons, List.reverse_cons]; exact yx.append ih (.cons r .nil)
theorem yx.rep {xs : List V} {us : List Value} (h : yx xs us) : ∀ k : Nat, yx (List.replicate k xs).flatten (List.replicate k us).flatten
  | 0 => .nil
  | k + 1 => by
    rw [List.replicate_succ, List.replicate_succ, List.flatten_cons, List.flatten_cons]
    exact yx.append h (yx.rep h k)
theorem zaE (its : List Value) : ∀ (k : Nat) (acc : List Value),
    List.foldl (fun x1 x2 => x1 ++ x2) acc.toArray (List.replicate k its.toArray) = (acc ++ (List.replicate k its).flatten).toArray
  | 0, acc => by simp
  | k + 1, acc => by
    have e : acc.toArray ++ its.toArray = (acc ++ its).toArray := by simp
    have e2 : (acc ++ its) ++ (List.replicate k its).flatten = acc ++ (List.replicate (k + 1) its).flatten := by
      rw [List.replicate_succ, List.flatten_cons, List.append_assoc]
    rw [← e2, ← zaE its k (acc ++ its), ← e, List.replicate_succ, List.foldl_cons]
section
variable {X : Cx} {pins : List (Addr × Obj)} {σ : St} {H : Hp} {s : Shared} {l b : Addr} {xs ys zs : List V}
theorem Inv.lset {its its' : List Value} {n : Nat} {f : Array Value → Array Value} {t' : Nat} (I : Inv X pins σ H s) (hH : H l = some (.lst xs))
    (e : s.heap.get? l = some { cls := .type "list", data := .seq its.toArray n }) (hf : f its.toArray = its'.toArray) (hv : yx ys its') (hz : ys.length ≤ sizeLine) :
    Inv X pins σ (upd H l (.lst ys)) { s with heap := s.heap.update l (Obj.mapSeq f), toks := t' } := by
  have q := PySem.IsL.update e f
  rw [hf] at q
  refine I.write (x := l) (e := l) (by rw [hH]; exact trivial) (.inl rfl) (fun b' u hb hu => (Heap.get?_update_other s.heap (Obj.mapSeq f) (Ne.symm hb)).trans hu) ⟨_, q⟩ ?_
  exact ⟨hz, its', _, hv, q⟩
theorem Inv.lnew {its : List Value} {t' : Nat} (I : Inv X pins σ H s) (hv : yx ys its) (hz : ys.length ≤ sizeLine) :
    Inv X pins σ (upd H s.heap.objs.size (.lst ys)) { s with heap := s.heap.push { cls := .type "list", data := .seq its.toArray }, toks := t' } :=
  I.laid (fun _ _ q => Heap.get?_push_of_some _ q) (Nat.le_refl _) ⟨hz, its, 0, hv, Heap.get?_push_size _ rfl⟩
theorem Inv.fresh (I : Inv X pins σ H s) : H s.heap.objs.size = none := I.hok.fresh (Nat.le_refl _)
theorem Inv.lstM (I : Inv X pins σ H s) (hH : H l = some (.lst xs)) : xs.length ≤ sizeLine ∧ ∃ (its : List Value) (n : Nat), yx xs its ∧ xs.length = its.length ∧ s.heap.get? l = some { cls := .type "list", data := .seq its.toArray n } := by
  obtain ⟨z, its, n, r, e⟩ := I.hok l _ hH
  exact ⟨z, its, n, r, r.length, e⟩
theorem zcM {n : Nat} (h : n ≤ sizeLine) : Builtin.List.listTooLong n = false := by
  unfold Builtin.List.listTooLong
  exact decide_eq_false (by omega)
end
section
variable {X : Cx}
noncomputable def zeX : V → List V → Hp → VK → Prop := fun x vs H Q => ∃ l xs y, x = .ref l ∧ vs = [y] ∧ H l = some (.lst xs) ∧ xs.length < sizeLine ∧ Q .non (upd H l (.lst (xs ++ [y])))
theorem ZF : MtM X "list.append" zeX := by
  intro pins s σ H x vs v us Q I rx rv h
  obtain ⟨l, xs, y, rfl, rfl, hH, hz, q⟩ := h
  cases rx
  obtain ⟨u, rfl, ru⟩ := rv.one
  obtain ⟨z, its, n, r, hl, e⟩ := I.lstM hH
  refine call_meets F.slot_list_append ⟨_, e, rfl⟩ F.entry_list_append (F.args_list_append_2 _ _) (PySem.list_append l its.toArray n u (by rw [List.size_toArray]; omega)) ⟨e, ?_⟩
  refine ⟨.non, _, I.lset (its' := its ++ [u]) hH e (by simp) (r.append (.cons ru .nil)) ?_, rfl, q⟩
  rw [List.length_append, List.length_singleton]
  omega
noncomputable def zdC : V → List V → Hp → VK → Prop := fun x vs H Q => ∃ l b xs zs, x = .ref l ∧ vs = [.ref b] ∧ H l = some (.lst xs) ∧ H b = some (.lst zs) ∧ xs.length + zs.length ≤ sizeLine ∧ Q .non (upd H l (.lst (xs ++ zs)))
theorem zal : MtM X "list.extend" zdC := by
  intro pins s σ H x vs v us Q I rx rv h
  obtain ⟨l, b, xs, zs, rfl, rfl, hH, hB, hz, q⟩ := h
  cases rx
  obtain ⟨u, rfl, ru⟩ := rv.one
  cases ru
  obtain ⟨z, its, n, r, hl, e⟩ := I.lstM hH
  obtain ⟨z2, its2, n2, r2, hl2, e2⟩ := I.lstM hB
  have hsz : its.toArray.size + its2.toArray.size ≤ sizeLine := by rw [List.size_toArray, List.size_toArray]; omega
  have hlong : ¬ (!its.toArray.isEmpty && Builtin.List.listTooLong (its.toArray.size + its2.toArray.size)) = true := by
    rw [zcM hsz, Bool.and_false]
    exact Bool.false_ne_true
  refine call_meets F.slot_list_extend ⟨_, e, rfl⟩ F.entry_list_extend (F.args_list_extend_2 _ _)
    (AutoSeq1.list_extend_list_list_0 l its.toArray n b its2.toArray n2 hlong (by rw [List.size_toArray]; omega) (by omega)) ⟨e, e2, ?_⟩
  refine ⟨.non, _, I.lset (its' := its ++ its2) hH e (by simp) (r.append r2) ?_, rfl, q⟩
  rw [List.length_append]
  omega
noncomputable def rCat : R2 := fun x y H Q => ∃ l b xs zs, x = .ref l ∧ y = .ref b ∧ H l = some (.lst xs) ∧ H b = some (.lst zs) ∧ xs.length + zs.length ≤ sizeLine ∧ ∀ p, H p = none → Q (.ref p) (upd H p (.lst (xs ++ zs)))
theorem zi9 : OpR X (binaryOp .Add) rCat := by
  intro pins s σ H x y v u Q I rx ry h
  obtain ⟨l, b, xs, zs, rfl, rfl, hH, hB, hz, q⟩ := h
  cases rx
  cases ry
  obtain ⟨z, its, n, r, hl, e⟩ := I.lstM hH
  obtain ⟨z2, its2, n2, r2, hl2, e2⟩ := I.lstM hB
  refine PySem.P.add_list e e2 ?_ (by rw [List.size_toArray, List.size_toArray]; omega)
  have ea : its.toArray ++ its2.toArray = (its ++ its2).toArray := by simp
  rw [ea]
  exact ⟨.ref _, _, I.lnew (t' := s.toks) (r.append r2) (by rw [List.length_append]; omega), rfl, q _ I.fresh⟩
noncomputable def rRep : R2 := fun x y H Q => ∃ l k xs, x = .ref l ∧ y = .int k ∧ H l = some (.lst xs) ∧ -(2 ^ 63) ≤ k ∧ k < 2 ^ 63 ∧ xs.length * k.toNat ≤ sizeLine ∧
  ∀ p, H p = none → Q (.ref p) (upd H p (.lst (List.replicate k.toNat xs).flatten))
theorem zhN {α : Type} (xs : List α) (k : Nat) : (List.replicate k xs).flatten.length = k * xs.length := by
  induction k with
  | zero => simp
  | succ k ih => rw [List.replicate_succ, List.flatten_cons, List.length_append, ih, Nat.succ_mul, Nat.add_comm]
theorem zhj : OpR X (binaryOp .Mult) rRep := by
  intro pins s σ H x y v u Q I rx ry h
  obtain ⟨l, k, xs, rfl, rfl, hH, h1, h2, hz, q⟩ := h
  cases rx
  obtain ⟨t, rfl⟩ := ry
  obtain ⟨z, its, n, r, hl, e⟩ := I.lstM hH
  have hlen : its.toArray.size * k.toNat ≤ sizeLine := by rw [List.size_toArray, ← hl]; exact hz
  have hcap : ¬ its.toArray.size * k.toNat > (2 ^ 63 - 1) / 8 := by
    have : (sizeLine : Nat) ≤ (2 ^ 63 - 1) / 8 := by decide
    omega
  have hfit : ¬ (!Builtin.List.listFitsIndex k) = true := by
    rw [fitsIndex_both h1 h2]
    exact Bool.false_ne_true
  have hlong : ¬ Builtin.List.listTooLong (its.toArray.size * k.toNat) = true := by
    rw [zcM hlen]
    exact Bool.false_ne_true
  have hnew : List.foldl (fun x1 x2 => x1 ++ x2) #[] (List.replicate (if its.toArray.isEmpty = true then 0 else k.toNat) its.toArray) = (List.replicate k.toNat its).flatten.toArray := by
    have f0 : ∀ m : Nat, List.foldl (fun x1 x2 => x1 ++ x2) #[] (List.replicate m its.toArray) = (List.replicate m its).flatten.toArray := fun m => by
      have := zaE its m []
      rw [List.nil_append] at this
      exact this
    rw [f0]
    cases its with
    | nil => simp
    | cons a r' => rw [if_neg (by simp)]
  refine wpAny_binaryOp_repeat_ref (T := "list") (U := "int") (by decide) ⟨_, e, rfl⟩ (fun s' => typeIs_int s' k t) noFill_list_mul F.fills_int_mul F.slot_int_rmul repeat_list F.slot_int_index.lookup
    (call_meets F.slot_int_rmul (typeIs_int s k t) F.entry_int_rmul (F.args_int_rmul_2 _ _) (int___rmul___int_list k t l its.toArray n)
      ⟨e, rfl, ⟨_, e, rfl⟩, call_meets F.slot_list_mul ⟨_, e, rfl⟩ F.entry_list_mul (F.args_list_mul_2 _ _) (AutoListH.list___mul___list_int_3 l its.toArray n k t hfit hcap hlong) ⟨e, ?_⟩⟩)
  rw [hnew]
  exact ⟨.ref _, _, I.lnew (t' := s.toks) (r.rep k.toNat) (by rw [zhN, Nat.mul_comm]; exact hz), rfl, q _ I.fresh⟩
end
end L2
namespace Att
open PySem PySem.W PySem.Calls PyProof.Rows
theorem WN {P : Params} {h : Heap} : ∀ (ns : List Int) (vs : List Value), WellAll P h vs (ns.map WData.int) → IntsAre vs ns := by
  intro ns
  induction ns with
  | nil =>
    intro vs w
    rw [List.map_nil] at w
    cases w
    exact .nil
  | cons n ns ih =>
    intro vs w
    rw [List.map_cons] at w
    cases w with
    | cons a b =>
      cases a
      exact .cons _ _ (ih _ b)
theorem zeK {l : OpenLaw} {n : Nat} (hn : l.most = some n) {P : Params} {h : Heap} {args : List WData} {vals : List Value}
    (hpre : l.row.toRowW.claim.pre args = true) (hwl : WellAll P h vals args) :
    ∃ a vs ns, vals = [Value.ref a] ∧ args = [WData.list (ns.map WData.int)] ∧ h.get? a = some { cls := .type "list", data := .seq vs.toArray } ∧ IntsAre vs ns ∧ ns.length ≤ n := by
  have hsh : WShape.hasAll [] args [.list .int] = true := (pre_splitW hpre).1
  have hc : l.pre.holds [] { args := args } = true := (pre_splitW hpre).2
  obtain ⟨d, r, rfl, h1, h2⟩ := hasAllW_cons hsh
  obtain rfl := hasAllW_nil h2
  obtain ⟨xs, rfl, h3⟩ := hasW_list h1
  obtain ⟨ns, rfl⟩ := items_int h3
  have hlen : ns.length ≤ n := by
    unfold OpenLaw.pre at hc
    have h4 : (WTm.not (.lt (.lit (.int (n : Int))) (.len (.arg 0)))).holds [] { args := [.list (ns.map .int)] } = true := by
      have h4 := (holds_andW hc).1
      rw [hn] at h4
      exact h4
    have h5 := condW_of h4 (w_not (w_lt w_lit (w_len_list (w_arg rfl))))
    rw [List.length_map] at h5
    refine Nat.le_of_not_lt fun q => ?_
    have q' : (n : Int) < ((ns.length : Nat) : Int) := by omega
    first
      | (rw [decide_eq_true q'] at h5; exact absurd h5 (by decide))
      | (simp at h5; omega)
  cases hwl with
  | cons w1 w2 =>
    cases w2
    cases w1 with
    | list ho hall => exact ⟨_, _, ns, rfl, rfl, ho, WN ns _ hall, hlen⟩
theorem zeR (l : OpenLaw) (args : List WData) : l.row.toRowW.claim.post args (.bool true) args = true :=
  postW_of (r := l.row.toRowW) (X := (true == true))
    (show WShape.has [] (.bool true) .bool = true by first | rfl | decide | simp [WShape.has, WShape.arms, WShape.armsAll])
    (show (WTm.eq .res (.lit (.bool true))).value [] { args := args, res := some (.bool true), after := args } = some (.bool (true == true)) from w_eq_bool (w_res rfl) w_lit) rfl
theorem attach_call {l : OpenLaw} {n : Nat} {q : Program} {loose : List Str} {XP : (Str → Option Value) → Heap → Prop} {YP : World → Heap → Prop} {d : DefRec}
    (hn : l.most = some n) (hdf : d.params.defaults = [])
    (call : ∀ (w : World) (s₀ s₁ : Shared) (mg mb : Str → Option Value) (fa : Addr) (o : Obj) (pm cd doc : Value) (a : Addr) (vs : List Value) (ns : List Int),
      Ground q loose [] XP w s₀ mg mb s₁.heap → YP w s₁.heap →
      s₁.heap.get? fa = some o → o.data = .func (docDef d.name d.params d.body d.scope pm cd doc) → s₁.heap.CodeRec cd d.name → mg d.name = some (.ref fa) →
      s₁.heap.get? a = some { cls := .type "list", data := .seq vs.toArray } → IntsAre vs ns → ns.length ≤ n → s₁.gens = #[] →
      codeAny (model l.prog w) callerA (.call (.ref fa) ⟨[.ref a], []⟩) (fun r s' => r = .ok (.ret (.bool true)) ∧ OldK s₁.heap s'.heap ∧ s'.os = s₁.os ∧ AllBare s'.gens) s₁) :
    WalkO q loose XP YP l.row.toRowW d [] (fun f vs => PySem.call f vs) := by
  intro w s₀ s₁ mg mb G Y fa o pm cd doc dV kV ho hd hcd hD hmg hg args vals as hpre hlay hrd hwl hlo
  obtain rfl : dV = .none := Dflts.none hD hdf
  obtain rfl : kV = .none := Dflts.noKw hD
  obtain ⟨a, vs, ns, rfl, rfl, hobj, hints, hlen⟩ := zeK hn hpre hwl
  refine enter_call (codeAny_mono (call w s₀ s₁ mg mb fa o pm cd doc a vs ns G Y ho (fd_plain hd) hcd hmg hobj hints hlen hg) fun r s' hq => ?_)
  obtain ⟨rfl, h2, h3, h4⟩ := hq
  exact ⟨.inl ⟨.bool true, .bool true, [], rfl, fun _ => rfl, .bool true, zeR l _, fun _ => ⟨List.Pairwise.nil, fun _ hm => (nomatch hm)⟩⟩, h2, h3, h4⟩
section
variable {prog : Program} {w : World} {A : Around} {E : Value → Shared → Prop} {s : Shared} {K : Frag}
noncomputable def ledger (h : Heap) (L d : Addr) : List (Addr × Obj) := (List.range h.objs.size).filterMap fun a => if a = L ∨ a = d then none else (h.get? a).map fun o => (a, o)
end
end Att
namespace L2
open PySem PySem.Spec PyProof.Rows
theorem zaz : ∀ {vs : List Value} {ns : List Int}, IntsAre vs ns → yx (ns.map V.int) vs := by
  intro vs ns h
  induction h with
  | nil => exact .nil
  | cons n t h ih => exact .cons ⟨t, rfl⟩ ih
noncomputable def zlf (H : Hp) : Prop := ∀ b, H b = none ∨ ∃ o xs, H b = some (.frz o (.lst xs))
theorem zgj {P : Program} {w : World} {K : PySem.W.Frag} {mg mb : Str → Option Value} {CX : CXT} {k : Nat} {fa a : Addr} {fd : FuncData} {x : Str} {sp : Sp} {s₁ : Shared} {vs : List Value} {ns : List Int}
    (KX : K.In s₁.heap) (hns : s₁.heap.Ns mainGlobals mg) (hb : s₁.heap.Ns builtinsNs mb) (hbb : ∀ x : Str, x ≠ "__name__" → mb x = bootBuiltins x) (hlim : s₁.heap.NoLimit) (hg : s₁.gens = #[])
    (ha : s₁.heap.get? a = some { cls := .type "list", data := .seq vs.toArray }) (hi : IntsAre vs ns) (hl : ns.length ≤ sizeLine) (hr : Y1 k callerA)
    (F : ∀ base : Heap, K.In base → base.Ns mainGlobals mg → yQ P w K mg base CX k fa fd [x] sp) (hbind : ∀ (s : Shared) (u : Value), BindsTo s fd ⟨[u], []⟩ [(x, u)])
    (hsp : ∀ H : Hp, zlf H → SqL K H a (ns.map V.int) → sp [.ref a] H (fun v _ => v = .bl true) fun _ _ _ => False)
    (hCX : ∀ H e s', CX [] H s₁ (fun _ _ _ => False) e s' → False) :
    codeAny (model P w) callerA (.call (.ref fa) ⟨[.ref a], []⟩) (fun r s' => r = .ok (.ret (.bool true)) ∧ OldK s₁.heap s'.heap ∧ s'.os = s₁.os ∧ AllBare s'.gens) s₁ := by
  have rv := zaz hi
  have lenV := hi.length
  -- from an abstract heap in which nothing but the script may be tracked
  have core : ∀ H : Hp, zlf H → SqL K H a (ns.map V.int) → HOk P w H s₁.heap → (∀ b, H b ≠ none → b = a) → (H a ≠ none → K.lookup a = none) →
      codeAny (model P w) callerA (.call (.ref fa) ⟨[.ref a], []⟩) (fun r s' => r = .ok (.ret (.bool true)) ∧ OldK s₁.heap s'.heap ∧ s'.os = s₁.os ∧ AllBare s'.gens) s₁ := by
    intro H hO hS hok hA hK
    have base_of : ∀ {b : Addr} {o : Obj}, s₁.heap.get? b = some o → H b = none → (zf4 s₁.heap H).get? b = some o := fun e n => zfP e n
    have noA : ∀ {b : Addr} {o : Obj} {es : Array DictEntry} {ep : Nat}, s₁.heap.get? b = some o → o.data = .dict es ep → H b = none := fun {b o es ep} e d => by
      cases q : H b with
      | none => rfl
      | some u =>
        have e' : b = a := hA b (by rw [q]; simp)
        subst e'
        rw [ha] at e; cases e
        have d' : Data.seq vs.toArray _ = Data.dict es ep := d
        cases d'
    have nsK : ∀ {b : Addr} {m : Str → Option Value}, s₁.heap.Ns b m → (zf4 s₁.heap H).Ns b m := fun {b m} ⟨o, es, ep, e, d, r⟩ => ⟨o, es, ep, base_of e (noA e d), d, r⟩
    have hKb : K.In (zf4 s₁.heap H) := fun b o e => base_of (KX b o e) (by
      cases q : H b with
      | none => rfl
      | some u =>
        have e' : b = a := hA b (by rw [q]; simp)
        subst e'
        rw [hK (by rw [q]; simp)] at e; cases e)
    have hM : Mod K mg (zf4 s₁.heap H) := ⟨hKb, nsK hns, ⟨mb, nsK hb, hbb⟩, let ⟨mc, h1, h2⟩ := hlim; ⟨mc, nsK h1, h2⟩⟩
    have e0 : zkR P w K mg (zf4 s₁.heap H) callerA [] s₁ H := ⟨rfl, hM, fun b o e => zik e, Nat.le_of_eq (ze5 _ _), trivial, fun b hb => absurd (show b ∈ ([] : List Addr) from hb) (by simp), hok, .of_eq hg⟩
    refine codeAny_mono ((F _ hKb (nsK hns)).run callerA [] s₁ H ⟨[.ref a], []⟩ [.ref a] [.ref a] _ _ hr e0 (hbind s₁ (.ref a)) (.cons rfl .nil) (hsp H hO hS)) fun r s' h => ?_
    cases r with
    | error e => exact (hCX H e s' h).elim
    | ok fl =>
      cases fl with
      | next => exact False.elim h
      | brk => exact False.elim h
      | cont => exact False.elim h
      | ret u =>
        obtain ⟨v, H', os, bare, un, hok', r', q⟩ := h
        have q' : v = .bl true := q
        subst q'
        obtain rfl : u = Value.bool true := r'
        refine ⟨rfl, OldK.of_keep fun b o e => ?_, os, bare⟩
        cases q : H b with
        | none => exact un.keep b o e q (by intro z; exact absurd (show b ∈ ([] : List Addr) from z) (by simp)) (by simp)
        | some u =>
          rcases hO b with z | ⟨ob, xs, z⟩
          · rw [q] at z; cases z
          · have z2 := un.frzs b ob _ z
            obtain ⟨e1, _⟩ := hok b _ z
            obtain ⟨e2, _⟩ := hok' b _ z2
            rw [e] at e1; cases e1
            exact e2
  cases hk : K.lookup a with
  | some o =>
    -- the script is one of the module's own objects
    have e := KX a o hk
    rw [ha] at e
    cases e
    refine core (fun _ => none) (fun _ => .inl rfl) (.inr ⟨_, vs.toArray, _, hk, rfl, rfl, rfl, by rw [List.size_toArray, lenV]; exact hl, by simpa using rv⟩) (fun b u z => by have z' : (none : Option HO) = some u := z; cases z') (fun b z => absurd rfl z) fun z => absurd rfl z
  | none =>
    refine core (fun b => if b = a then some (.frz { cls := .type "list", data := .seq vs.toArray } (.lst (ns.map V.int))) else none) (fun b => ?_) (.inl (.inr ⟨{ cls := .type "list", data := .seq vs.toArray }, if_pos rfl⟩)) (fun b u z => ?_) (fun b z => ?_) fun _ => hk
    · by_cases hb : b = a
      · exact .inr ⟨_, _, if_pos hb⟩
      · exact .inl (if_neg hb)
    · by_cases hb : b = a
      · have z' := (if_pos hb).symm.trans z
        cases z'
        subst hb
        exact ⟨ha, by rw [List.length_map]; exact hl, vs, _, rv, ha⟩
      · have z' := (if_neg hb).symm.trans z
        cases z'
    · by_cases hb : b = a
      · exact hb
      · exact absurd (if_neg hb) z
theorem walk_of {l : PySem.W.OpenLaw} {n k : Nat} {q : Program} {loose : List Str} {XP : (Str → Option Value) → Heap → Prop} {YP : World → Heap → Prop} {d : DefRec} {K : Params → PySem.W.Frag} {CX : World → CXT} {sp : World → Sp} {x : Str}
    (hn : l.most = some n) (hn2 : n ≤ sizeLine) (hdf : d.params.defaults = []) (hr : Y1 k callerA)
    (hY : ∀ (w : World) (h : Heap), YP w h → (K w.params).In h)
    (F : ∀ (w : World) (mg : Str → Option Value) (fa : Addr) (h : Heap), (K w.params).In h → h.Ns mainGlobals mg → mg d.name = some (.ref fa) →
      ∃ fd : FuncData, (∀ (s : Shared) (u : Value), BindsTo s fd ⟨[u], []⟩ [(x, u)]) ∧
        ∀ base : Heap, (K w.params).In base → base.Ns mainGlobals mg → yQ l.prog w (K w.params) mg base (CX w) k fa fd [x] (sp w))
    (hsp : ∀ (w : World) (H : Hp) (a : Addr) (ns : List Int), ns.length ≤ n → zlf H → SqL (K w.params) H a (ns.map V.int) → sp w [.ref a] H (fun v _ => v = .bl true) fun _ _ _ => False)
    (hCX : ∀ (w : World) (H : Hp) (s : Shared) (e : Value) (s' : Shared), CX w [] H s (fun _ _ _ => False) e s' → False) :
    PySem.W.WalkO q loose XP YP l.row.toRowW d [] (fun f vs => PySem.call f vs) := by
  refine Att.attach_call hn hdf fun w s₀ s₁ mg mb fa o pm cd doc a vs ns G Y ho hd hcd hmg hobj hints hlen hg => ?_
  have KX := hY w _ Y
  obtain ⟨fd, hb, hF⟩ := F w mg fa _ KX G.T.g hmg
  exact zgj KX G.T.g G.T.b G.T.builtins G.T.nolimit hg hobj hints (Nat.le_trans hlen hn2) hr hF hb (fun H hO hS => hsp w H a ns hlen hO hS) fun H e s' => hCX w H s₁ e s'
noncomputable def Zo (s : Stmt) : Arguments := match s with
  | .FunctionDef _ a _ _ _ _ _ _ _ _ => a
  | _ => { posonlyargs := [], args := [], vararg := none, kwonlyargs := [], kw_defaults := [], kwarg := none, defaults := [] }
noncomputable def vg (s : Stmt) : List Stmt := match s with
  | .FunctionDef _ _ b _ _ _ _ _ _ _ => b
  | _ => []
noncomputable def zj (s : Stmt) : Scope := match s with
  | .FunctionDef _ _ _ _ _ _ sc _ _ _ => sc
  | _ => { kind := .function, names := [], isGenerator := false, isCoroutine := false }
noncomputable abbrev CX0 : CXT := fun _ _ _ _ _ _ => False
noncomputable abbrev E0 : XK := fun _ _ _ => False
theorem zlP {X : Cx} : zdH CX0 X E0 := fun _ _ _ _ _ _ _ h => h.elim
set_option genInjectivity false in
set_option genSizeOf false in
set_option genCtorIdx false in
structure Fun (K : PySem.W.Frag) (x qual : Str) (st : Stmt) (f : Addr) (fd : FuncData) : Prop where
  ex : ∃ (oc : Value) (od : Option Addr) (kV doc pm : Value) (an : Option Addr) (cdv ct : Value) (osl : Array (Option Value)),
    fd = PySem.W.fnOf x qual (Zo st) (vg st) (zj st) .none kV doc pm an cdv ct ∧ K.lookup f = some ⟨oc, od, .func fd, osl⟩ ∧ PySem.W.codeIn K cdv qual = true
  kp : PySem.W.keepIn K (.ref f) = true
section
variable {P : Program} {w : World} {K : PySem.W.Frag} {mg : Str → Option Value} {base : Heap}
theorem Fun.ok {x qual : Str} {st : Stmt} {f : Addr} {fd : FuncData} {N ps : List Str} {k : Nat} {sp : Sp} (F : Fun K x qual st f fd) (S : zr N ps (zj st)) (len : ∀ vs H Q E, sp vs H Q E → vs.length = ps.length)
    (hbody : ∀ (cdv : Value) (A : Around) (outer : List Env) (s : Shared) (H : Hp) (vs : List V) (Q : VK) (E : XK), Y1 k (A.deeper (envOfC qual (zj st) s.heap.objs.size f cdv)) → sp vs H Q E →
      ∃ t, PSs (zgM CX0 P w K mg base N qual (zj st) f cdv A outer s H E).nox (vg st) t ∧ t { nx := fun _ H' => Q .non H', rt := Q } (start N vs) H) : yQ P w K mg base CX0 (k + 1) f fd ps sp := by
  obtain ⟨oc, od, kV, doc, pm, an, cdv, ct, osl, rfl, lk, hcd⟩ := F.ex
  refine zlw lk hcd S len fun A outer s H vs Q E hr hsp => ?_
  obtain ⟨t, h, q⟩ := hbody cdv A outer s H vs Q E hr hsp
  exact ⟨t, h.nox, q⟩
theorem Fun.binds {x qual : Str} {st : Stmt} {f : Addr} {fd : FuncData} {ps : List Str} (F : Fun K x qual st f fd)
    (h : ∀ (kV doc pm : Value) (an : Option Addr) (cdv ct : Value) (us : List Value), us.length = ps.length → bindArgs (PySem.W.fnOf x qual (Zo st) (vg st) (zj st) .none kV doc pm an cdv ct) ⟨us, []⟩ = pure (ps.zip us)) : zbC K fd ps [] := by
  obtain ⟨oc, od, kV, doc, pm, an, cdv, ct, osl, rfl, lk, hcd⟩ := F.ex
  exact .all (h kV doc pm an cdv ct)
theorem zhs {x qual : Str} {st : Stmt} {f : Addr} {oc : Value} {od an : Option Addr} {osl : Array (Option Value)} {kV doc pm cdv ct : Value} (l : K.lookup f = some ⟨oc, od, .func (PySem.W.fnOf x qual (Zo st) (vg st) (zj st) .none kV doc pm an cdv ct), osl⟩)
    (c : PySem.W.codeIn K cdv qual = true) (k : PySem.W.keepIn K (.ref f) = true) : Fun K x qual st f (PySem.W.fnOf x qual (Zo st) (vg st) (zj st) .none kV doc pm an cdv ct) := ⟨⟨oc, od, kV, doc, pm, an, cdv, ct, osl, rfl, l, c⟩, k⟩
end
theorem zfQ {A : Around} {k : Nat} (hr : Y1 k A) : A.units + 1 < cLine := Nat.lt_of_le_of_lt (Nat.add_le_add_left (by decide : 1 ≤ 64) _) hr.units
theorem Wk {n : Nat} (h : n ≤ 1000) : n < sizeLine := Nat.lt_of_le_of_lt h (by decide)
section
variable {X : Cx}
theorem pv (i : Nat) {x : Str} {pos : Pos} (hN : X.N[i]? = some x := by rfl) (hv : Vis X.env.scope x := by first | exact Or.inl rfl | exact Or.inr (Or.inl rfl) | exact Or.inr (Or.inr rfl)) (hd : (x == ("__debug__" : Str)) = false := by decide)
    (hcd : (x == ("__classdict__" : Str)) = false := by decide) : PE X (.Name x pos) (zhi i) := zjw hN hv hd hcd
end
noncomputable def yU (H H' : Hp) : Prop := ∀ b o, H b = some o → H' b = some o
theorem yU.refl (H : Hp) : yU H H := fun _ _ h => h
theorem yU.trans {H H1 H2 : Hp} (a : yU H H1) (b : yU H1 H2) : yU H H2 := fun c o h => b c o (a c o h)
theorem yU.free {H H' : Hp} (e : yU H H') {l : Addr} (h : H' l = Option.none) : H l = Option.none := by
  cases q : H l with
  | none => rfl
  | some o =>
    rw [e l o q] at h
    cases h
theorem yU.seq {K : PySem.W.Frag} {H H' : Hp} {a : Addr} {xs : List V} (e : yU H H') (h : SqL K H a xs) : SqL K H' a xs := by
  rcases h with (h | ⟨o, h⟩) | h
  · exact .inl (.inl (e _ _ h))
  · exact .inl (.inr ⟨o, e _ _ h⟩)
  · exact .inr h
section
variable {κ : Type} [DecidableEq κ]
noncomputable def zcD (kvs : List (κ × V)) (k : κ) : Option V := (kvs.find? fun kv => decide (kv.1 = k)).map (·.2)
noncomputable def zbD (kvs : List (κ × V)) (k : κ) (v : V) : List (κ × V) :=
  if (kvs.any fun kv => decide (kv.1 = k)) = true then kvs.map (fun kv => if kv.1 = k then (kv.1, v) else kv) else kvs ++ [(k, v)]
theorem X0 {p : κ × V} {r : List (κ × V)} {k : κ} (e : p.1 = k) : zcD (p :: r) k = some p.2 := by simp [zcD, List.find?_cons, e]
theorem XZ {p : κ × V} {r : List (κ × V)} {k : κ} (e : ¬ p.1 = k) : zcD (p :: r) k = zcD r k := by simp [zcD, List.find?_cons, e]
theorem VI (k : κ) : ∀ kvs : List (κ × V), (kvs.any fun kv => decide (kv.1 = k)) = (zcD kvs k).isSome
  | [] => rfl
  | p :: r => by
    rw [List.any_cons]
    by_cases e : p.1 = k
    · simp only [X0 e, decide_eq_true e, Bool.true_or, Option.isSome_some]
    · rw [XZ e, decide_eq_false e, Bool.false_or]; exact VI k r
theorem Wu (kvs : List (κ × V)) (k : κ) (v : V) : (zbD kvs k v).length ≤ kvs.length + 1 := by
  unfold zbD
  split
  · rw [List.length_map]; omega
  · rw [List.length_append, List.length_cons, List.length_nil]; omega
theorem zdG.isSome_eq {o : Option V} {u : Option Value} (r : zdG o u) : o.isSome = u.isSome := by
  cases o with
  | none => cases u with
    | none => rfl
    | some _ => exact (show False from r).elim
  | some _ => cases u with
    | none => exact (show False from r).elim
    | some _ => rfl
theorem KV.val {kvs : List (κ × V)} {vs : List (κ × Value)} (r : KV kvs vs) (k : κ) : zdG (zcD kvs k) (valueAt vs k) := by
  unfold KV at r
  induction r with
  | nil => exact True.intro
  | @cons p q ps qs h t ih =>
    obtain ⟨h1, h2⟩ := h
    by_cases e : p.1 = k
    · have e' : q.1 = k := h1.symm.trans e
      have b : valueAt (q :: qs) k = some q.2 := by simp [valueAt, List.find?_cons, e']
      rw [X0 e, b]; exact h2
    · have e' : ¬ q.1 = k := fun z => e (h1.trans z)
      have b : valueAt (q :: qs) k = valueAt qs k := by simp [valueAt, List.find?_cons, e']
      rw [XZ e, b]; exact ih
theorem KV.any {kvs : List (κ × V)} {vs : List (κ × Value)} (r : KV kvs vs) (k : κ) : (kvs.any fun kv => decide (kv.1 = k)) = vs.any fun kv => decide (kv.1 = k) := by
  unfold KV at r
  induction r with
  | nil => rfl
  | cons h t ih => rw [List.any_cons, List.any_cons, ih, h.1]
theorem KV.repl {kvs : List (κ × V)} {vs : List (κ × Value)} (r : KV kvs vs) (k : κ) {y : V} {u : Value} (ry : yN y u) :
    KV (kvs.map fun kv => if kv.1 = k then (kv.1, y) else kv) (vs.map fun kv => if kv.1 = k then (kv.1, u) else kv) := by
  unfold KV at r ⊢
  induction r with
  | nil => exact .nil
  | @cons p q ps qs h t ih =>
    rw [List.map_cons, List.map_cons]
    refine .cons ?_ ih
    obtain ⟨h1, h2⟩ := h
    by_cases e : p.1 = k
    · rw [if_pos e, if_pos (h1.symm.trans e)]; exact ⟨h1, ry⟩
    · rw [if_neg e, if_neg (fun z => e (h1.trans z))]; exact ⟨h1, h2⟩
theorem KV.put {kvs : List (κ × V)} {vs : List (κ × Value)} (r : KV kvs vs) (k : κ) {y : V} {u : Value} (ry : yN y u) : KV (zbD kvs k y) (stored vs k u) := by
  unfold zbD stored
  rw [r.any k]
  by_cases e : (vs.any fun kv => decide (kv.1 = k)) = true
  · rw [if_pos e, if_pos e]; exact r.repl k ry
  · rw [if_neg e, if_neg e]; exact Paired.snoc r ⟨rfl, ry⟩
theorem KV.keys {kvs : List (κ × V)} {vs : List (κ × Value)} (r : KV kvs vs) : kvs.map (·.1) = vs.map (·.1) := by
  unfold KV at r
  induction r with
  | nil => rfl
  | cons h t ih => rw [List.map_cons, List.map_cons, ih, h.1]
theorem KV.length {kvs : List (κ × V)} {vs : List (κ × Value)} (r : KV kvs vs) : kvs.length = vs.length := Paired.length r
end
theorem zgH {P : Program} {w : World} {k : Key} {u : Value} (r : yN (kV k) u) : (yO P w).is k u = true := by
  cases k with
  | inl i => obtain ⟨t, e⟩ := (show ∃ t, u = Value.int i t from r); subst e; exact zbR P w i t
  | inr x => obtain ⟨t, e⟩ := (show ∃ t, u = Value.str x t from r); subst e; exact zbK P w x t
theorem za7 {P : Program} {w : World} : ∀ {ks : List Key} {us : List Value}, yx (ks.map kV) us → ItemsAre (yO P w) ks us
  | [], _, r => by rw [List.map_nil] at r; cases r; exact .nil
  | k :: ks, _, r => by
    rw [List.map_cons] at r
    cases r with
    | cons h t => exact .cons (zgH h) (za7 t)
noncomputable abbrev KT (H : Hp) : List (List Key × V) → List (List Key × Addr × Value) → Prop := Paired fun p q => p.1 = q.1 ∧ H q.2.1 = some (.tup (p.1.map kV)) ∧ yN p.2 q.2.2
theorem KT.val {H : Hp} {kvs : List (List Key × V)} {xs : List (List Key × Addr × Value)} (r : KT H kvs xs) (k : List Key) : zdG (zcD kvs k) ((atKey xs k).map (·.2)) := by
  induction r with
  | nil => exact True.intro
  | @cons p q ps qs h t ih =>
    obtain ⟨h1, _, h2⟩ := h
    by_cases e : p.1 = k
    · have e' : q.1 = k := h1.symm.trans e
      have b : atKey (q :: qs) k = some q.2 := by simp [atKey, List.find?_cons, e']
      rw [X0 e, b]; exact h2
    · have e' : ¬ q.1 = k := fun z => e (h1.trans z)
      have b : atKey (q :: qs) k = atKey qs k := by simp [atKey, List.find?_cons, e']
      rw [XZ e, b]; exact ih
theorem KT.repl {H : Hp} {kvs : List (List Key × V)} {xs : List (List Key × Addr × Value)} (r : KT H kvs xs) (k : List Key) {y : V} {u : Value} (ry : yN y u) :
    KT H (kvs.map fun kv => if kv.1 = k then (kv.1, y) else kv) (xs.map (putAt k u)) := by
  induction r with
  | nil => exact .nil
  | @cons p q ps qs h t ih =>
    rw [List.map_cons, List.map_cons]
    refine .cons ?_ ih
    obtain ⟨h1, h2, h3⟩ := h
    unfold putAt
    by_cases e : p.1 = k
    · rw [if_pos e, if_pos (h1.symm.trans e)]; exact ⟨h1, h2, ry⟩
    · rw [if_neg e, if_neg (fun z => e (h1.trans z))]; exact ⟨h1, h2, h3⟩
theorem KT.put {H : Hp} {kvs : List (List Key × V)} {xs : List (List Key × Addr × Value)} (r : KT H kvs xs) (k : List Key) {b : Addr} {y : V} {u : Value} (hb : H b = some (.tup (k.map kV))) (ry : yN y u) :
    KT H (zbD kvs k y) (storedH xs k b u) := by
  have e : (kvs.any fun kv => decide (kv.1 = k)) = (atKey xs k).isSome := by
    rw [VI, (r.val k).isSome_eq, Option.isSome_map]
  unfold zbD storedH
  rw [e]
  by_cases q : (atKey xs k).isSome = true
  · rw [if_pos q, if_pos q]; exact r.repl k ry
  · rw [if_neg q, if_neg q]; exact Paired.snoc r ⟨rfl, hb, ry⟩
theorem KT.keeps {H H' : Hp} {kvs : List (List Key × V)} {xs : List (List Key × Addr × Value)} (r : KT H kvs xs) (ht : ∀ b ys, H b = some (.tup ys) → H' b = some (.tup ys)) : KT H' kvs xs :=
  Paired.mapP r fun _ _ z => ⟨z.1, ht _ _ z.2.1, z.2.2⟩
section
variable {P : Program} {w : World} {H : Hp} {h : Heap} {a : Addr}
theorem zjc {u : HO} (ok : HOk P w H h) (e : Rd H a u) : yZ P w H h a u := e.ok ok
theorem zfF {kvs : List (Key × V)} (ok : HOk P w H h) (e : Rd H a (.dK kvs)) : kvs.length ≤ sizeLine ∧ (a == sysModules) = false ∧ ∃ vs, KV kvs vs ∧ h.DictOf (yO P w) a vs :=
  show yZ P w H h a (.dK kvs) from zjc ok e
theorem zkU {kvs : List (Key × V)} (ok : HOk P w H h) (e : H a = some (.dK kvs)) : kvs.length ≤ sizeLine ∧ (a == sysModules) = false ∧ ∃ vs, KV kvs vs ∧ h.DictOf (yO P w) a vs := zfF ok (.inl e)
theorem zaF {ks : List Key} (ok : HOk P w H h) (e : H a = some (.tup (ks.map kV))) : (tupleKind (yO P w)).is h ks a := by
  obtain ⟨_, its, r, o, h1, h2, n, h3⟩ := (show yZ P w H h a (.tup (ks.map kV)) from ok a _ e)
  exact ⟨o, its.toArray, n, h1, h2, h3, by simpa using za7 r⟩
theorem zgt {kvs : List (List Key × V)} (ok : HOk P w H h) (e : Rd H a (.dT kvs)) : kvs.length ≤ sizeLine ∧ (a == sysModules) = false ∧
    ∃ xs, KT H kvs xs ∧ h.DictOfH (tupleKind (yO P w)) a xs := by
  obtain ⟨z, y, xs, r, o, es, ep, h1, h2, h3, h4, h5⟩ := (show yZ P w H h a (.dT kvs) from zjc ok e)
  refine ⟨z, y, xs, r, o, es, ep, h1, h2, h3, h4, fun x hx => ?_, h5⟩
  have all : ∀ {l : List (List Key × V)} {m : List (List Key × Addr × Value)}, KT H l m → ∀ x ∈ m, (tupleKind (yO P w)).is h x.1 x.2.1 := by
    intro l m q
    induction q with
    | nil => intro x hx; exact nomatch hx
    | @cons p q ps qs hq t ih =>
      intro x hx
      rcases List.mem_cons.mp hx with e | hx
      · subst e
        exact zaF ok (by rw [← hq.1]; exact hq.2.1)
      · exact ih x hx
  exact all r x hx
theorem zkk {kvs : List (List Key × V)} (ok : HOk P w H h) (e : H a = some (.dT kvs)) : kvs.length ≤ sizeLine ∧ (a == sysModules) = false ∧
    ∃ xs, KT H kvs xs ∧ h.DictOfH (tupleKind (yO P w)) a xs := zgt ok (.inl e)
end
noncomputable def ziR (H : Hp) (a : Addr) (y : V) (r : Option V) : Prop :=
  (∃ kvs k, Rd H a (.dK kvs) ∧ y = kV k ∧ r = zcD kvs k) ∨ ∃ kvs k b, Rd H a (.dT kvs) ∧ y = .ref b ∧ H b = some (.tup (k.map kV)) ∧ r = zcD kvs k
noncomputable def zfM (H : Hp) (a : Addr) (y v : V) (H' : Hp) : Prop :=
  (∃ kvs k, H a = some (.dK kvs) ∧ y = kV k ∧ kvs.length < sizeLine ∧ H' = upd H a (.dK (zbD kvs k v))) ∨
  ∃ kvs k b, H a = some (.dT kvs) ∧ y = .ref b ∧ H b = some (.tup (k.map kV)) ∧ kvs.length < sizeLine ∧ H' = upd H a (.dT (zbD kvs k v))
theorem zfM.k {H : Hp} {a : Addr} {kvs : List (Key × V)} {k : Key} {v : V} (e : H a = some (.dK kvs)) (hl : kvs.length < sizeLine) : zfM H a (kV k) v (upd H a (.dK (zbD kvs k v))) := .inl ⟨kvs, k, e, rfl, hl, rfl⟩
theorem zfM.t {H : Hp} {a b : Addr} {kvs : List (List Key × V)} {k : List Key} {v : V} (e : H a = some (.dT kvs)) (eb : H b = some (.tup (k.map kV))) (hl : kvs.length < sizeLine) :
    zfM H a (.ref b) v (upd H a (.dT (zbD kvs k v))) := .inr ⟨kvs, k, b, e, rfl, eb, hl, rfl⟩
section
variable {X : Cx} {pins : List (Addr × Obj)} {σ : St} {H : Hp} {s : Shared} {a : Addr} {y v : V} {u r : Value} {o : Option V} {A : Around} {E : Value → Shared → Prop}
theorem Inv.big (I : Inv X pins σ H s) : sysModules < s.heap.objs.size := by
  have h : mainGlobals < s.heap.objs.size := (I.mod.glob.keeps I.bk).lt
  exact Nat.lt_trans (by decide) h
theorem zex {Q : Value → Shared → Prop} (hu : A.units + 1 < cLine) (I : Inv X pins σ H s) (g : ziR H a y (some v)) (ry : yN y u) (h : ∀ w' s', Inv X pins σ H s' → yN v w' → Q w' s') :
    wpAny (model X.prog X.w) A (getItem (.ref a) u) Q E s := by
  rcases g with ⟨kvs, k, e, ey, l⟩ | ⟨kvs, k, b, e, ey, eb, l⟩
  · subst ey
    obtain ⟨z, hd, vs, rel, dd⟩ := zfF I.hok e
    obtain ⟨w', hw, rw'⟩ := zdG.some_of (v := v) (o := valueAt vs k) (by rw [l]; exact rel.val k)
    exact wpAny_getItem_of (zgH ry) dd.mapOf hw (h w' _ (I.tok _) rw')
  · subst ey
    cases (show u = Value.ref b from ry)
    obtain ⟨z, hd, xs, rel, dd⟩ := zgt I.hok e
    obtain ⟨w', hw, rw'⟩ := zdG.some_of (v := v) (o := (atKey xs k).map (·.2)) (by rw [l]; exact rel.val k)
    obtain ⟨p, hp, hp2⟩ := Option.map_eq_some_iff.mp hw
    refine wpAny_getItem_heap (tupleKind_room_in1 hu) (zaF I.hok eb) dd hp ?_
    rw [hp2]
    exact h w' _ (I.tok _) rw'
theorem ziE {Q : Value → Shared → Prop} (hu : A.units + 1 < cLine) (I : Inv X pins σ H s) (g : ziR H a y o) (ry : yN y u) (h : ∀ s', Inv X pins σ H s' → Q (.bool (!o.isSome)) s') :
    wpAny (model X.prog X.w) A (compareOp .NotIn u (.ref a)) Q E s := by
  rcases g with ⟨kvs, k, e, ey, l⟩ | ⟨kvs, k, b, e, ey, eb, l⟩
  · subst ey
    obtain ⟨z, hd, vs, rel, dd⟩ := zfF I.hok e
    refine wpAny_notIn_of (zgH ry) hd dd.mapOf ?_
    rw [← (rel.val k).isSome_eq, ← l]
    exact h _ (I.tok _)
  · subst ey
    cases (show u = Value.ref b from ry)
    obtain ⟨z, hd, xs, rel, dd⟩ := zgt I.hok e
    refine wpAny_notIn_heap (tupleKind_room_in1 hu) (zaF I.hok eb) hd dd ?_
    have q := (rel.val k).isSome_eq
    rw [Option.isSome_map] at q
    rw [← q, ← l]
    exact h _ (I.tok _)
theorem zb6 {h' : Heap} {t' : Nat} {ob : HO} (I : Inv X pins σ H s) (mu : Mut (H a)) (hs : Heap.SameBut a s.heap h') (he : ∃ q, h'.get? a = some q) (new : yZ X.prog X.w (upd H a ob) h' a ob) :
    Inv X pins σ (upd H a ob) { s with heap := h', toks := t' } :=
  I.write (x := a) (e := a) mu (.inl rfl) (fun b q hb z => (hs.2 b hb).trans z) he new
theorem zkB {P : Program} {w : World} {H' : Hp} {h' : Heap} {kvs : List (Key × V)} {vs : List (Key × Value)} (z : kvs.length ≤ sizeLine) (hd : (a == sysModules) = false) (rel : KV kvs vs) (dd : h'.DictOf (yO P w) a vs) :
    yZ P w H' h' a (.dK kvs) := ⟨z, hd, vs, rel, dd⟩
theorem ze1 {H' : Hp} {Q : Unit → Shared → Prop} (hu : A.units + 1 < cLine) (I : Inv X pins σ H s) (g : zfM H a y v H') (ry : yN y u) (rv : yN v r) (h : ∀ s', Inv X pins σ H' s' → Q () s') :
    wpAny (model X.prog X.w) A (setItem (.ref a) u r) Q E s := by
  rcases g with ⟨kvs, k, e, ey, l, eH⟩ | ⟨kvs, k, b, e, ey, eb, l, eH⟩
  · subst ey eH
    obtain ⟨z, hd, vs, rel, dd⟩ := zkU I.hok e
    have hz : vs.length ≤ sizeLine := by rw [← rel.length]; exact z
    have hl : (zbD kvs k v).length ≤ sizeLine := by have := Wu kvs k v; omega
    refine wpAny_setItem_pairs (hsz := hz) (zgH ry) dd fun h' dd' hs => h _ ?_
    have he : ∃ q, h'.get? a = some q := let ⟨q, _, _, hq, _⟩ := dd'; ⟨q, hq⟩
    exact zb6 I (by rw [e]; exact True.intro) hs he (zkB hl hd (rel.put k rv) dd')
  · subst ey eH
    cases (show u = Value.ref b from ry)
    obtain ⟨z, hd, xs, rel, dd⟩ := zkk I.hok e
    have hz : xs.length ≤ sizeLine := by rw [← Paired.length rel]; exact z
    have hl : (zbD kvs k v).length ≤ sizeLine := by have := Wu kvs k v; omega
    refine wpAny_setItem_heap (hsz := hz) (tupleKind_room_in1 hu) (zaF I.hok eb) dd fun h' dd' hs => h _ ?_
    obtain ⟨q, es, ep, hq, h2, h3, h4, _, h5⟩ := dd'
    refine zb6 I (by rw [e]; exact True.intro) hs ⟨q, hq⟩ ⟨hl, hd, _, (rel.put k eb rv).keeps fun c ys ec => ?_, q, es, ep, hq, h2, h3, h4, h5⟩
    rw [zw (zhF ec e (fun z => nomatch z))]
    exact ec
end
noncomputable def zll (i : Expr) : Prop := ∀ ov iv, subscripted i false ov iv = operate [ov, iv] (getItem ov iv)
theorem zh0 {prog : Program} {w : World} {A : Around} {E : Value → Shared → Prop} {s : Shared} {env : Env} {value slice : Expr} {pos : Pos} {T id : String} {Q : Value → Shared → Prop}
    (hl : typeLookup (.type T) "__getitem__" = pure (some (.builtin id))) (hs : zll slice)
    (h : wpAny (model prog w) A (eval value env) (fun o s₁ => wpAny (model prog w) A (eval slice env) (fun i s₂ => s₂.TypeIs o T ∧ wpAny (model prog w) A (getItem o i) Q E s₂) E s₁) E s) :
    wpAny (model prog w) A (eval (.Subscript value slice pos) env) Q E s := by
  refine Subscript_ (wpAny_mono h (fun o s₁ h₁ => wpAny_mono h₁ (fun i s₂ h₂ => ?_) fun _ _ x => x) fun _ _ x => x)
  obtain ⟨hT, h₂⟩ := h₂
  unfold subscriptTail
  refine wpAny_bind ?_
  rw [getitemInPython_of_ne hT.not_modules]
  refine wpAny_bind (wpAny_specialOf hT hl ?_)
  have fin : wpAny (model prog w) A (subscripted slice false o i) (fun r s₃ => wpAny (model prog w) A (letTemporaryGo value o r >>= fun _ => pure r) Q E s₃) E s₂ := by
    rw [hs o i]
    exact wpAny_operating (wpAny_mono h₂ (fun r s₃ h₃ => wpAny_bind (wpAny_letTemporaryGo (wpAny_pure h₃))) fun _ _ x => x)
  first
    | exact wpAny_pure (wpAny_bind fin)
    | exact wpAny_bind (wpAny_pure (wpAny_bind fin))
    | exact wpAny_bind fin
theorem zbQ {X : Cx} {pins : List (Addr × Obj)} {σ : St} {H : Hp} {s : Shared} {a : Addr} {y : V} {o : Option V} (I : Inv X pins σ H s) (g : ziR H a y o) : s.TypeIs (.ref a) "dict" := by
  rcases g with ⟨kvs, k, e, _, _⟩ | ⟨kvs, k, b, e, _, _, _⟩
  · obtain ⟨_, _, vs, _, dd⟩ := zfF I.hok e
    exact dd.typeIs
  · obtain ⟨_, _, xs, _, dd⟩ := zgt I.hok e
    exact dd.typeIs
noncomputable def zlA (td ty : TE) : TE := fun σ H Q => td σ H fun x H1 => ty σ H1 fun y H2 => ∃ a v, x = .ref a ∧ ziR H2 a y (some v) ∧ Q v H2
noncomputable def zlD (td ty tv : TE) : TS := fun D σ H => tv σ H fun v H1 => td σ H1 fun x H2 => ty σ H2 fun y H3 => ∃ a H4, x = .ref a ∧ zfM H3 a y v H4 ∧ D.nx σ H4
section
variable {X : Cx} {o i e value : Expr} {pos pos' tpos : Pos} {td ty tv : TE}
theorem zhQ (hu : X.A.units + 1 < cLine) (ho : PE X o td) (hi : PE X i ty) (hs : zll i) : PE X (.Subscript o i pos) (zlA td ty) := by
  intro pins s σ H Q I h
  refine zh0 PySem.F.slot_dict_getitem.lookup hs (thn (ho pins s σ H _ I h) fun u s1 ⟨x, H1, I1, rx, q1⟩ => thn (hi pins s1 σ H1 _ I1 q1) fun iv s2 hh9 => ?_)
  obtain ⟨y, H2, I2, ry, a, v, ex, g, q2⟩ := hh9
  subst ex
  obtain rfl : u = Value.ref a := rx
  exact ⟨zbQ I2 g, zex hu I2 g ry fun w' s3 I3 rw' => ⟨v, H2, I3, rw', q2⟩⟩
theorem zhB (hu : X.A.units + 1 < cLine) (ho : PE X o td) (hi : PE X i ty) (hv : PE X value tv) (hs : swapsWith value (some (.Subscript o i pos')) pos.line X.env = pure false) :
    PS X (.Assign [.Subscript o i pos'] value pos) (zlD td ty tv) := by
  intro pins s σ H D I h
  refine wpAny_Assign_Subscript (thn (hv pins s σ H _ I h) fun r s1 ⟨v, H1, I1, rv, q1⟩ => thn (ho pins s1 σ H1 _ I1 q1) fun u s2 ⟨x, H2, I2, rx, q2⟩ => thn (hi pins s2 σ H2 _ I2 q2) fun iv s3 hh9 => ?_) hs
  obtain ⟨y, H3, I3, ry, a, H4, ex, g, q3⟩ := hh9
  subst ex
  obtain rfl : u = Value.ref a := rx
  exact ze1 hu I3 g ry rv fun s4 I4 => ⟨σ, H4, I4, q3⟩
end
theorem zfp {P : Program} {w : World} {H : Hp} (h : Heap) (hb : sysModules < h.objs.size) : yZ P w H (h.push { cls := .type "dict", data := .dict #[] }) h.objs.size (.dT []) :=
  ⟨Nat.zero_le _, beq_eq_false_iff_ne.mpr (Ne.symm (Nat.ne_of_lt hb)), [], .nil, _, #[], 0, Heap.get?_push_size _ rfl, ⟨rfl, rfl, rfl⟩, rfl, rfl, List.nodup_nil⟩
theorem zbW {X : Cx} : YD X (.builtin "isinstance") (fun xs H Q => ∃ x n t b, xs = [x, .ty n] ∧ zcJ X.K H x t ∧ PySem.W.kitOne X.K t (.type n) = some b ∧ Q (.bl b) H) := by
  intro pins s σ H xs us Q I r h
  obtain ⟨x, n, t, b, rfl, ty, e, q⟩ := h
  obtain ⟨u, w', rfl, rx, rt⟩ := zdh r
  cases (show w' = Value.type n from rt)
  exact zd5 I rx ty e fun tk => ⟨.bl b, H, I.tok _, rfl, q⟩
theorem zgo {X : Cx} : OpR X (compareOp .Is) (fun x y H Q => ∃ i j, x = .bl i ∧ y = .bl j ∧ Q (.bl (i == j)) H) := by
  intro pins s σ H x y v u Q I rx ry h
  obtain ⟨i, j, rfl, rfl, q⟩ := h
  cases rx
  cases ry
  refine wpAny_is_plain (by rfl) ⟨.bl (i == j), H, I, ?_, q⟩
  cases i <;> cases j <;> rfl
theorem zbi {X : Cx} : OpR X (compareOp .IsNot) (fun x y H Q => ∃ i j, x = .bl i ∧ y = .bl j ∧ Q (.bl (!(i == j))) H) := by
  intro pins s σ H x y v u Q I rx ry h
  obtain ⟨i, j, rfl, rfl, q⟩ := h
  cases rx
  cases ry
  refine wpAny_isNot_plain (by rfl) ⟨.bl (!(i == j)), H, I, ?_, q⟩
  cases i <;> cases j <;> rfl
noncomputable def zhc (K : PySem.W.Frag) : R2 := fun x y H Q => ∃ a b xs ys, x = .ref a ∧ y = .ref b ∧ SqT K H a xs ∧ SqT K H b ys ∧ xs.length + ys.length ≤ sizeLine ∧
  (xs = [] → Q (.ref b) H) ∧ (xs ≠ [] → ys = [] → Q (.ref a) H) ∧ (xs ≠ [] → ys ≠ [] → ∀ p, H p = none → Q (.ref p) (upd H p (.tup (xs ++ ys))))
theorem zf7 {X : Cx} : OpR X (binaryOp .Add) (zhc X.K) := by
  intro pins s σ H x y v u Q I rx ry h
  obtain ⟨a, b, xs, ys, rfl, rfl, ha, hb, hz, q0, q1, q2⟩ := h
  by_cases hx : xs = []
  · subst hx
    cases rx
    cases ry
    obtain ⟨its, r, p, _⟩ := I.tuple ha
    obtain ⟨its', r', p', _⟩ := I.tuple hb
    cases r
    obtain ⟨⟨cls, dd, data, sl⟩, ho, hc, n, hd⟩ := id p
    obtain ⟨⟨cls2, dd2, data2, sl2⟩, ho2, hc2, n2, hd2⟩ := id p'
    simp only at hc hd hc2 hd2
    subst hc hd hc2 hd2
    exact concat_meets ⟨_, ho, rfl⟩ ⟨_, ho2, rfl⟩ noFill_tuple_add seq_tuple_add PySem.F.slot_tuple_add PySem.F.entry_tuple_add (PySem.F.args_tuple_add_2 _ _)
      (tuple_addW0 a b #[] its'.toArray n n2 dd dd2 sl sl2 rfl) ⟨ho, ho2, ⟨.ref b, H, I, rfl, q0 rfl⟩⟩
  · refine ziC pins s σ H (.ref a) (.ref b) v u Q I rx ry ⟨a, b, xs, ys, rfl, rfl, ha, hb, hx, hz, ?_⟩
    exact ⟨fun e => q1 hx e, fun e => q2 hx e⟩
inductive XI : St → St → Prop where
  | nil : XI [] []
  | non {a : Option V} {s t : St} : XI s t → XI (none :: s) (a :: t)
  | same {a : Option V} {s t : St} : XI s t → XI (a :: s) (a :: t)
theorem XI.refl : ∀ s : St, XI s s
  | [] => .nil
  | _ :: r => .same (XI.refl r)
theorem XI.length {s t : St} (h : XI s t) : s.length = t.length := by
  induction h with
  | nil => rfl
  | non _ ih => simp [ih]
  | same _ ih => simp [ih]
theorem XI.get {s t : St} (h : XI s t) : ∀ (i : Nat) (v : V), s[i]? = some (some v) → t[i]? = some (some v) := by
  induction h with
  | nil => intro i v e; exact e
  | non _ ih =>
    intro i v e
    cases i with
    | zero => simp at e
    | succ i => simpa using ih i v (by simpa using e)
  | same _ ih =>
    intro i v e
    cases i with
    | zero => simpa using e
    | succ i => simpa using ih i v (by simpa using e)
theorem XI.set {n : Nat} {v : V} : ∀ {s t : St}, XI s t → s[n]? = some none → XI s (t.set n (some v))
  | _, _, .nil, _ => .nil
  | _, _, .non (a := a) h, e => by
    cases n with
    | zero => exact .non h
    | succ n => exact .non (XI.set h (by simpa using e))
  | _, _, .same (a := a) h, e => by
    cases n with
    | zero =>
      have e' : a = none := by simpa using e
      subst e'
      exact .non h
    | succ n => exact .same (XI.set h (by simpa using e))
theorem Inv.sub {X : Cx} {pins : List (Addr × Obj)} {σ σ' : St} {H : Hp} {s : Shared} (I : Inv X pins σ H s) (h : XI σ' σ) : Inv X pins σ' H s := I.weak h.length h.get
noncomputable def PIf (X : Cx) (ifs : List Expr) (t : TT) : Prop :=
  ∀ (pins : List (Addr × Obj)) (s : Shared) (σ : St) (H : Hp) (Q : Bool → Hp → Prop), Inv X pins σ H s → t σ H Q →
    wpAny (model X.prog X.w) X.A (forIn ifs true fun c r => if r = true then do let ok ← isTrue c X.env (eval c X.env); pure (ForInStep.yield ok) else pure (ForInStep.yield r)) (TP X pins σ Q) X.xe s
noncomputable def tYes : TT := fun _ H Q => Q true H
theorem zhE {X : Cx} : PIf X [] tYes := by
  intro pins s σ H Q I h
  rw [List.forIn_nil]
  exact wpAny_pure ⟨H, I, h⟩
theorem zil {X : Cx} {c : Expr} {t : TT} (hc : PT X c t) : PIf X [c] t := by
  intro pins s σ H Q I h
  rw [List.forIn_cons]
  refine wpAny_bind ?_
  rw [if_pos rfl]
  refine wpAny_bind (thn (hc pins s σ H Q I h) fun b s1 q => wpAny_pure ?_)
  show wpAny _ _ (forIn [] b _) _ _ _
  rw [List.forIn_nil]
  exact wpAny_pure q
section
variable {prog : Program} {w : World} {A : Around} {R : Result → Shared → Prop} {s : Shared}
theorem YY {elt target iter : Expr} {ifs : List Expr} {scope : Scope} {pos : Pos} {it acc : Value} {env : Env} (I : Nat → Shared → Prop)
    (turn : ∀ n s, I n s → wpAny (model prog w) A (pyNext it) (fun r s₁ => match r with
      | none => R (.ok .next) s₁
      | some v => wpAny (model prog w) A (letOwnedTupleGo target it v) (fun _ s₁' => wpAny (model prog w) A (assign target env v) (fun _ s₂ =>
          wpAny (model prog w) A (forIn ifs true fun c r => if r = true then do let ok ← isTrue c env (eval c env); pure (ForInStep.yield ok) else pure (ForInStep.yield r)) (fun ok s₃ =>
            if ok = true then wpAny (model prog w) A (eval elt env) (fun x s₄ =>
              wpAny (model prog w) A (call (.builtin "list.append") [acc, x]) (fun _ s₅ => ∃ m, m < n ∧ I m s₅) (fun _ _ => False) s₄) (fun _ _ => False) s₃
            else ∃ m, m < n ∧ I m s₃) (fun _ _ => False) s₂) (fun _ _ => False) s₁') (fun _ _ => False) s₁) (fun _ _ => False) s)
    (n : Nat) (h : I n s) :
    codeAny (model prog w) A (.compLoop (.ListComp elt [⟨target, iter, ifs, 0⟩] scope pos) 0 it acc env) R s := by
  refine codeAny_loop rfl I (fun n s hI => ?_) n h
  show wpAny _ A ((compTurn (.ListComp elt [⟨target, iter, ifs, 0⟩] scope pos) 0 it acc env).onRaise (fun x => do noteFrame x env; theTreesLotGoes x)) _ _ s
  refine wpAny_noted ?_
  rw [compTurn_list]
  refine wpAny_bind (wpAny_standAt (wpAny_bind (wpAny_mono (turn n s hI) (fun r s₁ h₁ => ?_) fun _ _ h' => h'.elim)))
  cases r with
  | none => exact wpAny_pure h₁
  | some v =>
    refine wpAny_bind (wpAny_mono h₁ (fun _ s₁' h₁' => ?_) fun _ _ h' => h'.elim)
    refine wpAny_bind (wpAny_mono h₁' (fun _ s₂ h₂ => wpAny_bind (wpAny_mono h₂ (fun ok s₃ h₃ => ?_) fun _ _ h' => h'.elim)) fun _ _ h' => h'.elim)
    cases ok with
    | false => exact wpAny_pure ⟨rfl, h₃⟩
    | true =>
      exact wpAny_bind (wpAny_bind (wpAny_mono h₃ (fun x s₄ h₄ => wpAny_bind (wpAny_mono h₄ (fun _ s₅ h₅ => wpAny_pure (wpAny_pure ⟨rfl, h₅⟩)) fun _ _ h' => h'.elim)) fun _ _ h' => h'.elim))
end
noncomputable def tLC (wi : TI) (n : Nat) (g : TG) (tt : TT) (te : TE) : TE := fun σ H Q => wi σ H fun J H1 => ∀ D, H1 D = none → ∃ W : Nat → Nat → List V → Hp → Prop, (∃ m, W 0 m [] (upd H1 D (.lst []))) ∧
  ∀ i m ys H2, W i m ys H2 → (J.stop i H2 ∧ Q (.ref D) H2) ∨ (J.go i H2 ∧ ys.length < sizeLine ∧ ∀ x H3, J.yld i H2 x H3 → g x (List.replicate n none ++ σ) H3 fun σ2 H4 => tt σ2 H4 fun b H5 =>
    if b = true then te σ2 H5 fun y H6 => H6 D = some (.lst ys) ∧ ∃ m', m' < m ∧ W (i + 1) m' (ys ++ [y]) (upd H6 D (.lst (ys ++ [y]))) else ∃ m', m' < m ∧ W (i + 1) m' ys H5)
theorem Y3 {α : Type} : ∀ {l : List (Str × α)} {y : Str}, y ∈ l.map Prod.fst → ∃ c, l.lookup y = some c
  | [], _, h => by simp at h
  | (k, v) :: r, y, h => by
    by_cases e : y = k
    · exact ⟨v, by simp [List.lookup, e]⟩
    · obtain ⟨c, hc⟩ := Y3 (l := r) (y := y) (by simpa [e] using h)
      have hb : (y == k) = false := beq_eq_false_iff_ne.mpr e
      exact ⟨c, by simp only [List.lookup, hb]; exact hc⟩
theorem wH {α : Type} {P : α → Prop} : ∀ p ∈ ([] : List α), P p := fun _ h => nomatch h
theorem all_cons {α : Type} {P : α → Prop} {a : α} {l : List α} (h : P a) (t : ∀ p ∈ l, P p) : ∀ p ∈ a :: l, P p := fun p hp => by
  rcases List.mem_cons.mp hp with e | hp
  · rw [e]; exact h
  · exact t p hp
theorem gs1 (σ : St) (v : V) (H : Hp) (Q : St → Hp → Prop) (h : XN 0 v (List.replicate 1 none ++ σ) H Q) : XN 0 v (List.replicate 1 none ++ σ) H (fun σ2 H2 => XI (List.replicate 1 none ++ σ) σ2 ∧ Q σ2 H2) := ⟨.set (.refl _) rfl, h⟩
theorem gs2 {K : PySem.W.Frag} (σ : St) (v : V) (H : Hp) (Q : St → Hp → Prop) (h : zkJ K 2 (zbx (XN 0) (zbx (XN 1) zkN)) v (List.replicate 2 none ++ σ) H Q) :
    zkJ K 2 (zbx (XN 0) (zbx (XN 1) zkN)) v (List.replicate 2 none ++ σ) H (fun σ2 H2 => XI (List.replicate 2 none ++ σ) σ2 ∧ Q σ2 H2) := by
  obtain ⟨a, xs, e, hq, hl, x, r, e1, y, r2, e2, e3, q⟩ := h
  exact ⟨a, xs, e, hq, hl, x, r, e1, y, r2, e2, e3, .set (.set (.refl _) rfl) rfl, q⟩
noncomputable def zdz (X : Cx) (L M : List Str) (scope : Scope) (cl : List (Str × Addr)) (s₀ : Shared) (H₀ : Hp) (ex : List Addr) (pn : List (Addr × Obj)) : Cx :=
  { X with N := L ++ M, s₀ := s₀, H₀ := H₀, env := compEnvC scope cl s₀.heap.objs.size X.env, outer := X.stack, stack := X.stack, ex := ex, fn := fun _ => false, pn := pn, xe := fun _ _ => False }
structure vG (X : Cx) (L M : List Str) (scope : Scope) (cl : List (Str × Addr)) : Prop where
  clos : closureFor scope X.env = pure cl
  cell : ∀ y ∈ scope.names, y.2 ≠ .cell
  kind : scope.kind = .function
  names : ∀ y ∈ scope.names, y.2 = .local → scope.names.lookup y.1 = some .local
  sub : ∀ y c, cl.lookup y = some c → X.env.cells.lookup y = some c
  has : ∀ y, ((relabel scope X.env).names.lookup y = some .cell ∨ (relabel scope X.env).names.lookup y = some .free) → ∃ c, cl.lookup y = some c
  mlen : M.length = X.N.length
  msk : ∀ (i : Nat) y, M[i]? = some y → Vis (relabel scope X.env) y → X.N[i]? = some y
  vis : ∀ (i : Nat) y, M[i]? = some y → Vis (relabel scope X.env) y → ((relabel scope X.env).names.lookup y = some .cell ∨ (relabel scope X.env).names.lookup y = some .free)
  out : ∀ (i : Nat) y, M[i]? = some y → Vis (relabel scope X.env) y → Vis X.env.scope y ∧ X.env.kindOf y ≠ some .local
theorem Inv.letGo {X : Cx} {pins : List (Addr × Obj)} {σ : St} {H : Hp} {s : Shared} {C : Addr} {h' : Heap} (I : Inv X pins σ H s) (f : zcd X pins H C) (sb : Heap.SameBut C s.heap h') : Inv X pins σ H { s with heap := h' } := by
  obtain ⟨f0, f1, f2, f3, f4, f5⟩ := f
  have ne : ∀ b, b ∉ [C] → b ≠ C := fun b hb z => hb (by rw [z]; exact List.mem_singleton.mpr rfl)
  refine I.call' (s' := { s with heap := h' }) (ch := [C]) rfl ⟨fun b o e _ _ hx => (sb.2 b (ne b hx)).trans e, fun b o e _ _ hx => ⟨o.slots, (sb.2 b (ne b hx)).trans e⟩, fun _ _ _ n _ => n, fun b o e hx => ⟨o, (sb.2 b (ne b hx)).trans e⟩, fun _ _ q => q, fun _ _ _ q => q, fun _ ps q => ⟨#[], by rw [q]; simp⟩⟩ ?_ I.bare fun b hb => ?_
  · intro b ob e
    refine (I.hok b ob e).stay (fun c v hc q => (sb.2 c ?_).trans q) (fun _ q => q) fun _ _ q => q
    rintro rfl
    rcases hc with z | z
    · rw [← z, f0] at e; cases e
    · rw [f0] at z; cases z
  · rw [List.mem_singleton.mp hb]
    exact ⟨f3, f1, f4, f5⟩
theorem zhR {use : Option (Value → Sem Unit)} {Qf : Value → Shared → Prop} {X : Cx} {elt tg iter : Expr} {ifs : List Expr} {L M : List Str} {scope : Scope} {cl : List (Str × Addr)} {pos : Pos} {wi : TI} {g : TG} {tt : TT} {te : TE}
    (hc : X.calm = true) (S : vG X L M scope cl) (hi : PI X tg iter wi)
    (hgS : ∀ (σ : St) (v : V) (H : Hp) (Q : St → Hp → Prop), g v (List.replicate L.length none ++ σ) H Q → g v (List.replicate L.length none ++ σ) H (fun σ2 H2 => XI (List.replicate L.length none ++ σ) σ2 ∧ Q σ2 H2))
    (hg : ∀ s₀ H₀ ex pn, PG (zdz X L M scope cl s₀ H₀ ex pn) tg g) (ht : ∀ s₀ H₀ ex pn, PIf (zdz X L M scope cl s₀ H₀ ex pn) ifs tt) (he : ∀ s₀ H₀ ex pn, PE (zdz X L M scope cl s₀ H₀ ex pn) elt te)
    (hs : ∀ x, foldedSetIterable iter X.env x = pure x := by intro _; rfl) :
    ∀ (pos' : Pos) (pins : List (Addr × Obj)) (s : Shared) (σ : St) (H : Hp) (Q : VK), Inv X pins σ H s → tLC wi L.length g tt te σ H Q →
      (∀ (D C : Addr) (H' : Hp) (s' : Shared), Inv X pins σ H' s' → (∃ m, s'.heap.Ns C m) → zcd X pins H' C → Q (.ref D) H' → compPost (model X.prog X.w) X.A X.xe use Qf (.ref D) C (.ok .next) s') →
      wpAny (model X.prog X.w) X.A (comprehension (.ListComp elt [⟨tg, iter, ifs, 0⟩] scope pos) scope X.env pos' (newList []) false (eval iter X.env) use) Qf X.xe s := by
  intro pos' pins s σ H Q I h fin
  refine wpAny_comprehension_free (use := use) rfl hs S.clos S.kind S.names (thn (hi pins s σ H _ I h) fun v s1 h1 => thn h1 fun itv s2 h2 => ?_)
  obtain ⟨it, fp, tn, J, H2, e, I2, T, st2, f2, q⟩ := h2
  subst e
  have hD : H2 s2.heap.objs.size = none := I2.hok.fresh (Nat.le_refl _)
  obtain ⟨W, ⟨m0, w0⟩, turn⟩ := q _ hD
  refine wpAny_newObj_type (wpAny_newFunctionEnv S.cell (by intro y hy; simp at hy) (fun h₁ hns₁ hsb₁ => ?_) S.kind)
  have I3 : Inv X pins σ (upd H2 s2.heap.objs.size (.lst [])) { s2 with heap := s2.heap.push { cls := .type "list", data := .seq ([] : List Value).toArray } } := by
    refine I2.laid (t' := s2.toks) (fun b u e => Heap.get?_push_of_some _ e) (Nat.le_refl _) ?_
    exact ⟨Nat.zero_le _, [], 0, .nil, Heap.get?_push_size _ rfl⟩
  generalize hs3 : ({ s2 with heap := s2.heap.push { cls := .type "list", data := .seq ([] : List Value).toArray } } : Shared) = s3 at I3 hns₁ hsb₁ ⊢
  have hobj : ∀ b ∈ fp, b < s2.heap.objs.size := fun b hb => by
    obtain ⟨o, ho, _⟩ := T.obj _ _ st2 b hb
    exact Heap.lt_size ho
  have hz3 : s3.heap.objs.size = s2.heap.objs.size + 1 := by rw [← hs3]; exact Heap.size_push ..
  have k23 : ∀ b o, s2.heap.get? b = some o → s3.heap.get? b = some o := fun b o e => by rw [← hs3]; exact Heap.get?_push_of_some _ e
  have k34 : ∀ b o, s3.heap.get? b = some o → h₁.get? b = some o := fun b o e => (hsb₁.2 b (Nat.ne_of_lt (Heap.lt_size e))).trans (Heap.get?_push_of_some _ e)
  generalize hH3 : upd H2 s2.heap.objs.size (.lst []) = H3 at I3 w0
  have hfp3 : ∀ b ∈ fp, H3 b = none := fun b hb => by
    rw [← hH3, zw (Nat.ne_of_lt (hobj b hb))]
    exact (f2 b hb).1
  have nfs : ∀ b ∈ fp, b ∉ frs X.stack := fun b hb z => by
    obtain ⟨_, n1, n2, _⟩ := f2 b hb
    rcases List.mem_cons.mp (I3.stkSub b z) with e | e
    · exact n1 e
    · exact n2 e
  let Y : Cx := zdz X L M scope cl s3 H3 fp (X.pn ++ pins)
  have OkY : Y.Ok := by
    refine ⟨I.ok.mod, S.kind, I.ok.glob, I.ok.blt, Nat.le_refl _, fun x y c h1 h2 => I.ok.inj x y c (S.sub x c h1) (S.sub y c h2), fun x hx => S.has x hx, (fun x c h _ => absurd h Bool.false_ne_true), I.ok.hd, I.ok.frames, .inl rfl, fun b hb => ⟨?_, fun x c e z => ?_⟩,
      fun b o e => I3.bs b o e, Nat.le_trans I.ok.bsz I3.sz, fun b o e hb => ?_, nfs, I3.stack, I3.stkFree⟩
    · show b ≠ s3.heap.objs.size
      exact Nat.ne_of_lt (Nat.lt_of_lt_of_le (hobj b hb) (by rw [hz3]; exact Nat.le_succ _))
    · exact (f2 b hb).2.2.2.2.1 x c (S.sub x c e) z
    · rcases (f2 b hb).2.2.2.1 with z | z
      · exact I.ok.noex b o e z
      · have h1 := Heap.lt_size e
        have h2 := I.ok.bsz
        exact absurd (Nat.lt_of_lt_of_le h1 (Nat.le_trans h2 z)) (Nat.lt_irrefl _)
  have I4 : Inv Y [] (List.replicate L.length none ++ σ) H3 { s3 with heap := h₁, toks := s3.toks + ([] : List (Str × Value)).length } := by
    refine ⟨OkY, rfl, I3.bare, Un.kept k34, ⟨_, hns₁, fun i y v e1 e2 e3 => ?_⟩, fun x c e => ?_, I3.hok.fresh (Nat.le_refl _), fun x c e => I3.freeC x c (S.sub x c e), fun p hp => ?_, I3.hok.kept k34, ?_⟩
    · have hi : ¬ i < L.length := fun hlt => by
        rw [List.getElem?_append_left (by simpa using hlt), List.getElem?_replicate] at e2
        split at e2 <;> cases e2
      have e0' : M[i - L.length]? = some y := by
        have e1 : (L ++ M)[i]? = some y := e1
        rw [List.getElem?_append_right (by omega)] at e1
        exact e1
      have e2' : σ[i - L.length]? = some (some v) := by rw [List.getElem?_append_right (by simpa using Nat.le_of_not_lt hi)] at e2; simpa using e2
      have e1' := S.msk _ y e0' e3
      obtain ⟨ov, ok⟩ := S.out _ y e0' e3
      obtain ⟨m, hn, hl⟩ := I3.loc
      obtain ⟨u, ru, lk⟩ := hl _ y v e1' e2' ov
      refine ⟨u, ru, ?_⟩
      rcases lk with ⟨hk, _⟩ | ⟨_, c, hc', hcell⟩
      · exact absurd hk ok
      · have kn := S.vis _ y e0' e3
        obtain ⟨c', hc2⟩ := S.has y kn
        have := S.sub y c' hc2
        rw [hc'] at this
        cases this
        refine .inr ⟨kn, c, hc2, ?_⟩
        obtain ⟨o, ho, hd⟩ := hcell
        exact ⟨o, k34 _ _ ho, hd⟩
    · obtain ⟨v, o, ho, hd⟩ := I3.cell x c (S.sub x c e)
      exact ⟨v, o, k34 _ _ ho, hd⟩
    · have hp' : p ∈ X.pn ++ pins := List.append_nil (X.pn ++ pins) ▸ hp
      obtain ⟨a1, a2, a3, a4, a5⟩ := I3.pin p hp'
      refine ⟨k34 _ _ a1, a2, Nat.ne_of_lt (Heap.lt_size a1), fun z => ?_, a5⟩
      rcases List.mem_cons.mp (I3.stkSub p.1 z) with e | e
      · exact a3 e
      · exact a4 e
    · show (List.replicate L.length none ++ σ).length = (L ++ M).length
      rw [List.length_append, List.length_append, List.length_replicate, I.len, S.mlen]
  have fpY : ∀ {H' : Hp}, (∀ b ∈ fp, H' b = none) → ∀ b ∈ fp, zcd Y [] H' b := fun {H'} hn b hb => by
    refine ⟨hn b hb, (OkY.exf b hb).1, nfs b hb, .inl hb, (OkY.exf b hb).2, fun p hp => ?_⟩
    have hp' : p ∈ X.pn ++ pins := List.append_nil (X.pn ++ pins) ▸ hp
    exact (f2 b hb).2.2.2.2.2 p hp'
  have st4 : tn 0 h₁ := T.keep _ _ _ st2 fun b hb o e => k34 b o (k23 b o e)
  -- behind the loop
  have back : ∀ (H' : Hp) (s' : Shared), Inv Y [] (List.replicate L.length none ++ σ) H' s' → Q (.ref s2.heap.objs.size) H' → compPost (model X.prog X.w) X.A X.xe use Qf (.ref s2.heap.objs.size) s3.heap.objs.size (.ok .next) s' := fun H' s' J' q' => by
    obtain ⟨m, hn, _⟩ := J'.loc
    refine fin _ _ H' s' (I3.call' (ch := fp) J'.os J'.base J'.hok J'.bare fun b hb => ?_) ⟨m, hn⟩ (I3.fpOk (Nat.le_refl _) J'.free) q'
    obtain ⟨_, n1, _, n3, n4, n5⟩ := f2 b hb
    exact ⟨n3, n1, n4, n5⟩
  have loop : codeAny (model X.prog X.w) X.A (.compLoop (.ListComp elt [⟨tg, iter, ifs, 0⟩] scope pos) 0 (.ref it) (.ref s2.heap.objs.size) (compEnvC scope cl s3.heap.objs.size X.env))
      (compPost (model X.prog X.w) X.A X.xe use Qf (.ref s2.heap.objs.size) s3.heap.objs.size) { s3 with heap := h₁, toks := s3.toks + ([] : List (Str × Value)).length } := by
    refine YY (fun n s' => ∃ i ys H', Inv Y [] (List.replicate L.length none ++ σ) H' s' ∧ tn i s'.heap ∧ (∀ b ∈ fp, H' b = none) ∧ W i n ys H') ?_ m0 ⟨0, [], H3, I4, st4, hfp3, w0⟩
    rintro n s5 ⟨i, ys, H5, I5, st5, fr5, w5⟩
    rcases turn i n ys H5 w5 with ⟨stop, qn⟩ | ⟨go, hlen, step⟩
    · refine thn (T.done Y rfl rfl rfl hc i [] s5 _ H5 _ I5 (fpY fr5) st5 stop) fun r s6 hh9 => ?_
      obtain ⟨hr, I6⟩ := hh9
      subst hr
      exact back H5 s6 I6 qn
    · refine thn (T.item Y rfl rfl rfl hc i [] s5 _ H5 _ I5 (fpY fr5) st5 go) fun r s6 hh9 => ?_
      obtain ⟨u, hr, h6⟩ := hh9
      subst hr
      refine thn h6 fun _ s7 hh9 => ?_
      obtain ⟨x, H7, I7, r7, y7, st7, fr7⟩ := hh9
      have I7' := I7.pinned (fpY fr7) (T.obj _ _ st7)
      have g7 := hgS σ x H7 _ (step x H7 y7)
      refine thn (hg _ _ _ _ _ s7 _ H7 x u _ I7' r7 g7) fun _ s8 hh9 => ?_
      obtain ⟨σ8, H8, I8, sub8, q8⟩ := hh9
      have again : ∀ {σ9 : St} {H9 : Hp} {s9 : Shared} {zs : List V}, Inv Y ([] ++ Vd fp s7.heap) σ9 H9 s9 → XI (List.replicate L.length none ++ σ) σ9 → (∃ m', m' < n ∧ W (i + 1) m' zs H9) →
          ∃ m, m < n ∧ ∃ i ys H', Inv Y [] (List.replicate L.length none ++ σ) H' s9 ∧ tn i s9.heap ∧ (∀ b ∈ fp, H' b = none) ∧ W i m ys H' := fun {σ9 H9 s9 zs} I9 sub9 w9 => by
        obtain ⟨m', hm, w9⟩ := w9
        refine ⟨m', hm, i + 1, zs, H9, (I9.sub sub9).unpinned, T.keep _ _ _ st7 fun b hb o e => (I9.pin (b, o) (List.mem_append_right _ (List.mem_append_right _ (YS hb e)))).1, fun b hb => ?_, w9⟩
        obtain ⟨o, e, d⟩ := T.obj _ _ st7 b hb
        exact (I9.pin (b, o) (List.mem_append_right _ (List.mem_append_right _ (YS hb e)))).2.1
      refine thn (ht _ _ _ _ _ s8 σ8 H8 _ I8 q8) fun b s9 hh9 => ?_
      obtain ⟨H9, I9, q9⟩ := hh9
      cases b with
      | false =>
        rw [if_neg Bool.false_ne_true] at q9
        rw [if_neg Bool.false_ne_true]
        exact again I9 sub8 q9
      | true =>
        rw [if_pos rfl] at q9
        rw [if_pos rfl]
        refine thn (he _ _ _ _ _ s9 σ8 H9 _ I9 q9) fun y s10 hh9 => ?_
        obtain ⟨yv, H10, I10, r10, hD10, w10⟩ := hh9
        obtain ⟨z10, its, k, rv, e10⟩ : ys.length ≤ sizeLine ∧ ∃ (its : List Value) (n : Nat), yx ys its ∧ s10.heap.get? s2.heap.objs.size = some { cls := .type "list", data := .seq its.toArray n } := I10.hok _ _ hD10
        have hl10 : s10.heap.PlainList s2.heap.objs.size its.toArray := ⟨k, e10⟩
        refine wpAny_list_append_plain (hsz := by rw [List.size_toArray, ← rv.length]; exact z10) hl10 fun h11 hl11 sb11 => ?_
        obtain ⟨k', e11⟩ := hl11
        have I11 : Inv Y ([] ++ Vd fp s7.heap) σ8 (upd H10 s2.heap.objs.size (.lst (ys ++ [yv]))) { s10 with heap := h11 } := by
          refine I10.write (x := s2.heap.objs.size) (e := s2.heap.objs.size) (t' := s10.toks) (by rw [hD10]; exact True.intro) (.inl rfl) (fun b u hb e => (sb11.2 b hb).trans e) ⟨_, e11⟩ ?_
          refine ⟨by rw [List.length_append]; show ys.length + 1 ≤ sizeLine; exact hlen, its ++ [y], k', rv.append (.cons r10 .nil), ?_⟩
          rw [e11]
          simp
        exact again I11 sub8 w10
  exact codeAny_compStart_list loop (T.self _ 0 _ _ _ st4 loop)
theorem zhh {X : Cx} {elt tg iter : Expr} {ifs : List Expr} {L M : List Str} {scope : Scope} {cl : List (Str × Addr)} {pos : Pos} {wi : TI} {g : TG} {tt : TT} {te : TE}
    (hc : X.calm = true) (S : vG X L M scope cl) (hi : PI X tg iter wi)
    (hgS : ∀ (σ : St) (v : V) (H : Hp) (Q : St → Hp → Prop), g v (List.replicate L.length none ++ σ) H Q → g v (List.replicate L.length none ++ σ) H (fun σ2 H2 => XI (List.replicate L.length none ++ σ) σ2 ∧ Q σ2 H2))
    (hg : ∀ s₀ H₀ ex pn, PG (zdz X L M scope cl s₀ H₀ ex pn) tg g) (ht : ∀ s₀ H₀ ex pn, PIf (zdz X L M scope cl s₀ H₀ ex pn) ifs tt) (he : ∀ s₀ H₀ ex pn, PE (zdz X L M scope cl s₀ H₀ ex pn) elt te)
    (hs : ∀ x, foldedSetIterable iter X.env x = pure x := by intro _; rfl) :
    PE X (.ListComp elt [⟨tg, iter, ifs, 0⟩] scope pos) (tLC wi L.length g tt te) := by
  intro pins s σ H Q I h
  rw [eval_ListComp]
  refine zhR hc S hi hgS hg ht he hs _ pins s σ H Q I h fun D C H' s' I' ⟨m, hn⟩ f q => ⟨m, hn, fun h' sb => ⟨.ref D, _, I'.letGo f sb, rfl, q⟩⟩
noncomputable def Vl (names rn dn : List (Str × NameKind)) (N M cn : List Str) : Bool :=
  names.all (fun y => decide (y.2 ≠ .cell)) && names.all (fun y => decide (y.2 = .local → names.lookup y.1 = some .local)) &&
  rn.all (fun y => decide ((y.2 = .cell ∨ y.2 = .free) → y.1 ∈ cn)) &&
  (M.length == N.length) && (M.zip N).all (fun p => decide ((rn.lookup p.1 = some .local ∨ rn.lookup p.1 = some .cell ∨ rn.lookup p.1 = some .free) → p.1 = p.2)) &&
  M.all (fun y => decide ((rn.lookup y = some .local ∨ rn.lookup y = some .cell ∨ rn.lookup y = some .free) →
    (rn.lookup y = some .cell ∨ rn.lookup y = some .free) ∧ (dn.lookup y = some .local ∨ dn.lookup y = some .cell ∨ dn.lookup y = some .free) ∧ dn.lookup y ≠ some .local))
theorem Yx {X : Cx} {L N M cn : List Str} {scope : Scope} {cl : List (Str × Addr)} {rn dn : List (Str × NameKind)} (hr : (relabel scope X.env).names = rn) (hd : X.env.scope.names = dn) (hN : X.N = N)
    (clos : closureFor scope X.env = pure cl) (kind : scope.kind = .function) (hc : cl.map Prod.fst = cn) (good : Vl scope.names rn dn N M cn = true) (sub : ∀ p ∈ cl, X.env.cells.lookup p.1 = some p.2) : vG X L M scope cl := by
  unfold Vl at good
  simp only [Bool.and_eq_true, List.all_eq_true, decide_eq_true_eq] at good
  obtain ⟨⟨⟨⟨⟨g1, g2⟩, g3⟩, g5⟩, g6⟩, g4⟩ := good
  have g5 : M.length = N.length := by simpa using g5
  refine ⟨clos, g1, kind, g2, fun y c h => sub (y, c) (PySem.mem_of_lookup h), fun y h => ?_, by rw [hN]; exact g5, fun i y e v => ?_, fun i y e v => ?_, fun i y e v => ?_⟩
  · rw [hr] at h
    have hy : y ∈ cn := by
      rcases h with h | h
      · exact g3 _ (PySem.mem_of_lookup h) (.inl rfl)
      · exact g3 _ (PySem.mem_of_lookup h) (.inr rfl)
    exact Y3 (by rw [hc]; exact hy)
  · unfold Vis at v
    rw [hr] at v
    have hi := (List.getElem?_eq_some_iff.mp e).1
    have hj : i < N.length := by rw [← g5]; exact hi
    have hz : (M.zip N)[i]? = some (y, N[i]) := by
      rw [List.getElem?_zip_eq_some]
      exact ⟨e, List.getElem?_eq_getElem hj⟩
    have := g6 _ (List.mem_of_getElem? hz) v
    rw [hN, List.getElem?_eq_getElem hj]
    exact congrArg some this.symm
  · unfold Vis at v
    rw [hr] at v ⊢
    exact (g4 y (List.mem_of_getElem? e) v).1
  · unfold Vis at v
    rw [hr] at v
    obtain ⟨_, k1, k2⟩ := g4 y (List.mem_of_getElem? e) v
    refine ⟨?_, ?_⟩
    · unfold Vis; rw [hd]; exact k1
    · show X.env.scope.names.lookup y ≠ _; rw [hd]; exact k2
end L2
namespace PySem
open Sem (wp)
open AutoSeq1 (wpAny_loadPart')
section
variable {prog : Program} {w : World} {A : Around} {E : Value → Shared → Prop} {s : Shared}
theorem YF {it l : Addr} {i : Nat} {items} {x : Value} {Q : Value → Shared → Prop} (hit : s.heap.IsTupleIter it l i)
    (hl : s.heap.IsTuple l items) (hx : items[i]? = some x)
    (hQ : ∀ h', h'.IsTupleIter it l (i + 1) → Heap.SameBut it s.heap h' → Q x { s with heap := h' }) :
    wpAny (model prog w) A (Builtin.SmallTypes.nextOf (.ref it)) Q E s := by
  obtain ⟨o, ho, hc, hd⟩ := id hit
  obtain ⟨ol, hol, _, nl, hdl⟩ := hl
  unfold Builtin.SmallTypes.nextOf
  refine wpAny_bind (wpAny_callSpecial?_slot (name := Str.ofString "__next__") hit.typeIs F.slot_tuple_iterator_next
    (wpAny_call_entry F.slot_tuple_iterator_next hit.typeIs F.entry_tuple_iterator_next ?_ (F.args_tuple_iterator_next_1 _)))
  show wpAny _ _ (field (.ref it) 0 >>= _) _ _ s
  refine wpAny_bind (wpAny_field ho hd (x := .ref l) rfl ?_)
  show wpAny _ _ (if (Value.ref l == Value.none) = true then _ else _) _ _ s
  rw [if_neg (show ¬ ((Value.ref l == Value.none) = true) from Bool.false_ne_true)]
  show wpAny _ _ (field (.ref it) 1 >>= _) _ _ s
  refine wpAny_bind (wpAny_field ho hd (x := .int i 0) rfl ?_)
  show wpAny _ _ (seqItems? (.ref l) >>= _) _ _ s
  refine wpAny_bind (wpAny_seqItems hol hdl ?_)
  simp only [Int.toNat_natCast, hx]
  refine wpAny_bind (wpAny_setField ho hd (by simp) (wpAny_pure ⟨x, rfl, wpAny_pure (hQ _ ?_ (Heap.SameBut.update ..))⟩))
  exact ⟨_, Heap.get?_update_self _ ho (Obj.isFreed_of_fields (Obj.data_mapFields hd _)), (Obj.cls_mapFields ..).trans hc, by
    rw [Obj.data_mapFields hd]; simp [rawInt]⟩
theorem wo {it l : Addr} {i : Nat} {items} {Q : Value → Shared → Prop} (hh : A.handled = none)
    (hit : s.heap.IsTupleIter it l i) (hl : s.heap.IsTuple l items) (hx : items[i]? = none)
    (hE : ∀ h' e, Heap.ExtBut it s.heap h' → (∃ o, h'.get? e = some o ∧ o.cls = .type "StopIteration") → E (.ref e) { s with heap := h' }) :
    wpAny (model prog w) A (Builtin.SmallTypes.nextOf (.ref it)) Q E s := by
  obtain ⟨o, ho, hc, hd⟩ := id hit
  obtain ⟨ol, hol, _, nl, hdl⟩ := hl
  unfold Builtin.SmallTypes.nextOf
  refine wpAny_bind (wpAny_callSpecial?_slot (name := Str.ofString "__next__") hit.typeIs F.slot_tuple_iterator_next
    (wpAny_call_entry F.slot_tuple_iterator_next hit.typeIs F.entry_tuple_iterator_next ?_ (F.args_tuple_iterator_next_1 _)))
  show wpAny _ _ (field (.ref it) 0 >>= _) _ _ s
  refine wpAny_bind (wpAny_field ho hd (x := .ref l) rfl ?_)
  show wpAny _ _ (if (Value.ref l == Value.none) = true then _ else _) _ _ s
  rw [if_neg (show ¬ ((Value.ref l == Value.none) = true) from Bool.false_ne_true)]
  show wpAny _ _ (field (.ref it) 1 >>= _) _ _ s
  refine wpAny_bind (wpAny_field ho hd (x := .int i 0) rfl ?_)
  show wpAny _ _ (seqItems? (.ref l) >>= _) _ _ s
  refine wpAny_bind (wpAny_seqItems hol hdl ?_)
  simp only [Int.toNat_natCast, hx]
  refine wpAny_bind (wpAny_rule (wpAny_bind (wpAny_setField ho hd (by simp) ?_)))
  show wpAny _ _ (newExc (.type "StopIteration") [] >>= _) _ _ _
  refine wpAny_bind ?_
  simp only [newExc, newTuple]
  refine wpAny_bind (wpAny_newObj_type ?_ (by size_fits))
  refine wpAny_bind (m := firstArgMember _ _) (wpAny_of_eq (a := Value.none) (by first | rfl | (simp only [firstArgMember]; rfl)) ?_)
  refine wpAny_newObj_type ?_ (by size_fits)
  simp only [raiseNew]
  refine wpAny_bind (wpAny_handled ?_)
  first | rw [show A.in1.handled = none from hh] | rw [hh]
  refine wpAny_bind (wpAny_pure (wpAny_throw ?_))
  exact hE _ _ (((Heap.SameBut.update ..).extBut.push _).push _) ⟨_, Heap.get?_push_size _ rfl, rfl⟩
end
theorem Y0 {prog : Program} {w : World} {A : Around} {E : Value → Shared → Prop} {s : Shared} {e it l : Addr} {i : Nat} {items : Array Value} {old : Value} {Q : Option Value → Shared → Prop} (hh : A.handled = none)
    (he : IsEnum s.heap e it i old) (hit : s.heap.IsTupleIter it l i) (hl : s.heap.IsTuple l items) (hx : items[i]? = none)
    (hQ : ∀ h', Heap.ExtBut it s.heap h' → Q none { s with heap := h' }) : wpAny (model prog w) A (pyNext (.ref e)) Q E s := by
  have hT : s.TypeIs (.ref e) "enumerate" := ⟨_, he, rfl⟩
  unfold pyNext
  refine wpAny_bind (wpAny_attempt (wpAny_callSpecial?_slot (name := Str.ofString "__next__") hT F.slot_enumerate_next
    (wpAny_call_entry F.slot_enumerate_next hT F.entry_enumerate_next ?_ (F.args_enumerate_next_1 _))))
  show wpAny _ _ (field (.ref e) 2 >>= _) _ _ _
  refine wpAny_bind (wpAny_field he rfl (x := .ref it) rfl ?_)
  refine wpAny_bind (wo hh hit hl hx fun h' x he' hx' => ?_)
  obtain ⟨o, ho, hc⟩ := hx'
  refine wpAny_bind (wpAny_isInstance (T := "StopIteration") (b := true) ⟨o, ho, hc⟩ isSubtype_stop ?_)
  exact wpAny_pure (hQ _ he')
theorem YL {prog : Program} {w : World} {A : Around} (hh : A.handled = none) (it l : Addr) (hne : l ≠ it) (items : Array Value) :
    Draws prog w A it [it, l] items.size (fun i v => items[i]? = some v) (fun i h => h.IsTupleIter it l i ∧ h.IsTuple l items) where
  live := fun _ _ st => let ⟨o, ho, _⟩ := st.1; ⟨o, ho⟩
  frame := fun _ _ _ st hk => by
    obtain ⟨⟨o, ho, r⟩, ⟨o2, ho2, r2⟩⟩ := st
    exact ⟨⟨o, hk it (by simp) o ho, r⟩, ⟨o2, hk l (by simp) o2 ho2, r2⟩⟩
  item := fun i s Q E hi st hQ => by
    refine YF st.1 st.2 (x := items[i]) (by simp [hi]) fun h' hit' hs' => ?_
    exact hQ _ h' s.toks (by simp [hi]) ⟨hit', st.2.extBut hs'.extBut hne⟩ hs'
  done := fun s Q E st hE => wo hh st.1 st.2 (by simp) hE
theorem ZD (l : Addr) (items : Array Value) (n : Nat) (dd : Option Addr) (sl : Array (Option Value)) :
    Meets (Builtin.«enumerate.__new__» ⟨[.type "enumerate", .ref l], []⟩) (fun _ R s => s.heap.get? l = some { cls := .type "tuple", dict := dd, data := .seq items n, slots := sl } ∧
      R (.ok (.ret (.ref (s.heap.push { cls := .type "tuple_iterator", data := .fields #[.ref l, .int 0 0] }).objs.size)))
        { s with heap := (s.heap.push { cls := .type "tuple_iterator", data := .fields #[.ref l, .int 0 0] }).push { cls := .type "enumerate", data := .fields #[.none, .bool false, .ref s.heap.objs.size, rawInt 0, .none, .none] } }) :=
  .of_wp fun prog w A R s h => by
    obtain ⟨hp, g, d, tk, os⟩ := s; obtain ⟨hl, h⟩ := h
    have hsub := sub_enumerate
    have hL : Heap.IsTuple (Shared.heap ⟨hp, g, d, tk, os⟩) l items := ⟨_, hl, rfl, n, rfl⟩
    wp_walk using wpAny_loadPart' hl
    refine wpAny_stack_any fun st => wpAny_pure ?_
    split
    · rename_i c _ _ _ _ _
      cases (c == Value.type "enumerate")
      · wp_walk using wpAny_loadPart' hl, wpAny_pyIter_tuple hL
        exact ⟨_, rfl, h⟩
      · wp_walk using wpAny_loadPart' hl, wpAny_pyIter_tuple hL
        exact ⟨_, rfl, h⟩
    · wp_walk using wpAny_loadPart' hl, wpAny_pyIter_tuple hL
      exact ⟨_, rfl, h⟩
section
variable {prog : Program} {w : World} {A : Around} {E : Value → Shared → Prop} {s : Shared}
theorem YZ {l : Addr} {items : Array Value} {Q : Value → Shared → Prop}
    (hl : s.heap.IsTuple l items)
    (h : ∀ h', IsEnum h' (s.heap.objs.size + 1) s.heap.objs.size 0 .none → h'.IsTupleIter s.heap.objs.size l 0 → h'.objs.size = s.heap.objs.size + 2 →
      (∀ b o, s.heap.get? b = some o → h'.get? b = some o) → Q (.ref (s.heap.objs.size + 1)) { s with heap := h' }) :
    wpAny (model prog w) A (call (.type "enumerate") [.ref l]) Q E s := by
  obtain ⟨⟨cls, dd, data, sl⟩, ho, hc, n, hd⟩ := hl
  simp only at hc hd
  subst hc hd
  refine callType_new F.called_enumerate (by decide) (F.typeCall_enumerate_1 _) (F.newCall_enumerate_1 _) (fun obj => F.args_object_init_2 obj _) F.entry_enumerate_new
    (ZD l items n dd sl) ⟨ho, ?_⟩
  have hz : (s.heap.push { cls := .type "tuple_iterator", data := .fields #[.ref l, .int 0 0] }).objs.size = s.heap.objs.size + 1 := Heap.size_push ..
  show _ ∧ _
  rw [hz]
  have he : IsEnum ((s.heap.push { cls := .type "tuple_iterator", data := .fields #[.ref l, .int 0 0] }).push
      { cls := .type "enumerate", data := .fields #[.none, .bool false, .ref s.heap.objs.size, rawInt 0, .none, .none] }) (s.heap.objs.size + 1) s.heap.objs.size 0 .none := by
    have := Heap.get?_push_size (s.heap.push { cls := .type "tuple_iterator", data := .fields #[.ref l, .int 0 0] })
      (o := { cls := .type "enumerate", data := .fields #[.none, .bool false, .ref s.heap.objs.size, rawInt 0, .none, .none] }) rfl
    rw [hz] at this; exact this
  refine ⟨⟨_, he, rfl⟩, h _ he ⟨_, Heap.get?_push_of_some _ (Heap.get?_push_size _ rfl), rfl, rfl⟩ (by rw [Heap.size_push, hz]) fun b o x => Heap.get?_push_of_some _ (Heap.get?_push_of_some _ x)⟩
end
end PySem
namespace L2
open PySem PySem.Spec PyProof.Rows
section
variable {X : Cx} {pins : List (Addr × Obj)} {σ : St} {H : Hp} {s : Shared} {h' : Heap}
theorem Inv.grown {ch : List Addr} {T : Addr} {o : HO} {t' : Nat} (I : Inv X pins σ H s) (hch : ∀ b ∈ ch, zcd X pins H b) (hT : s.heap.objs.size ≤ T) (k : ∀ b u, b ∉ ch → s.heap.get? b = some u → h'.get? b = some u)
    (new : yZ X.prog X.w (upd H T o) h' T o) : Inv X pins σ (upd H T o) { s with heap := h', toks := t' } := by
  have hn : H T = none := I.hok.fresh hT
  have neT : ∀ b u, s.heap.get? b = some u → b ≠ T := fun b u e => Nat.ne_of_lt (Nat.lt_of_lt_of_le (Heap.lt_size e) hT)
  have nch : ∀ b u, H b = some u → b ∉ ch := fun b u e z => by rw [(hch b z).1] at e; cases e
  refine I.step (g' := s.gens) (d' := s.drawn) (ch := ch) (fun b hb => ?_) (fun b u _ _ hc e _ => k b u hc e) (fun b u _ _ hc e _ => ⟨u.slots, k b u hc e⟩) (fun b u _ e n => by rw [zw (neT b u e)]; exact n)
    (fun b u hc e => ⟨u, k b u hc e⟩) (fun b xs e => by rw [zw (zq e hn)]; exact e) (fun b u xs e => by rw [zw (zq e hn)]; exact e) (fun b ps e => ⟨#[], by rw [zw (zq e hn), e]; simp⟩) (fun m hm => ?_) (fun b u e => ?_) I.bare
  · obtain ⟨_, n1, _, n3, n4, n5⟩ := hch b hb
    exact ⟨n3, n1, n4, n5⟩
  · obtain ⟨ob, es, ep, ho, r⟩ := hm
    exact ⟨ob, es, ep, k _ ob (fun z => (hch _ z).2.1 rfl) ho, r⟩
  · by_cases hb : b = T
    · subst hb; rw [zt] at e; cases e; exact new
    · rw [zw hb] at e
      refine (I.hok b u e).stay (fun c v hc q => k c v ?_ q) (fun c q => by rw [zw (zq q hn)]; exact q) fun c xs q => by rw [zw (zq q hn)]; exact q
      rcases hc with z | z
      · rw [z]; exact nch b u e
      · exact nch c _ z
theorem Inv.turnedN {ch : List Addr} {t' : Nat} (I : Inv X pins σ H s) (hch : ∀ b ∈ ch, zcd X pins H b) (k : ∀ b u, b ∉ ch → s.heap.get? b = some u → h'.get? b = some u) : Inv X pins σ H { s with heap := h', toks := t' } := by
  have nch : ∀ b u, H b = some u → b ∉ ch := fun b u e z => by rw [(hch b z).1] at e; cases e
  refine I.step (g' := s.gens) (d' := s.drawn) (ch := ch) (fun b hb => ?_) (fun b u _ _ hc e _ => k b u hc e) (fun b u _ _ hc e _ => ⟨u.slots, k b u hc e⟩) (fun b u _ e n => n)
    (fun b u hc e => ⟨u, k b u hc e⟩) (fun b xs e => e) (fun b u xs e => e) (fun b ps e => ⟨#[], by rw [e]; simp⟩) (fun m hm => ?_) (fun b u e => ?_) I.bare
  · obtain ⟨_, n1, _, n3, n4, n5⟩ := hch b hb
    exact ⟨n3, n1, n4, n5⟩
  · obtain ⟨ob, es, ep, ho, r⟩ := hm
    exact ⟨ob, es, ep, k _ ob (fun z => (hch _ z).2.1 rfl) ho, r⟩
  · refine (I.hok b u e).stay (fun c v hc q => k c v ?_ q) (fun c q => q) fun c xs q => q
    rcases hc with z | z
    · rw [z]; exact nch b u e
    · exact nch c _ z
end
noncomputable def Iel (K : PySem.W.Frag) (a : Addr) : It :=
  ⟨fun i H => ∃ xs x, SqL K H a xs ∧ xs[i]? = some x, fun i H v H' => ∃ T x, v = .ref T ∧ H T = none ∧ H' = upd H T (.tup [.int i, x]) ∧ ∀ xs, SqL K H a xs → xs[i]? = some x, fun i H => ∃ xs, SqL K H a xs ∧ xs.length ≤ i⟩
noncomputable def Iet (K : PySem.W.Frag) (a : Addr) : It :=
  ⟨fun i H => ∃ xs x, SqT K H a xs ∧ xs[i]? = some x, fun i H v H' => ∃ T x, v = .ref T ∧ H T = none ∧ H' = upd H T (.tup [.int i, x]) ∧ ∀ xs, SqT K H a xs → xs[i]? = some x, fun i H => ∃ xs, SqT K H a xs ∧ xs.length ≤ i⟩
theorem zcW {P : Program} {w : World} {K : PySem.W.Frag} {es : List Expr} {k : Nat} {tp : Pos} (a e it : Addr) (hne : e ≠ it) :
    zg6 P w K (.Tuple es k tp) (Iel K a) [e, it] e (fun i h => (∃ old, IsEnum h e it i old) ∧ h.IsListIter it a i) where
  mem := by simp
  obj := fun i h st b hb => by
    obtain ⟨⟨old, he⟩, o, ho, _, hd⟩ := st
    rcases List.mem_cons.mp hb with rfl | hb
    · exact ⟨_, he, fun v z => by cases z⟩
    · rw [List.mem_singleton.mp hb]
      exact ⟨o, ho, fun v z => by rw [hd] at z; cases z⟩
  keep := fun i h h' st kk => by
    obtain ⟨⟨old, he⟩, hit⟩ := st
    exact ⟨⟨old, kk e (by simp) _ he⟩, hit.at fun o q => kk it (by simp) o q⟩
  item := by
    intro X hP hw hK hc i pins s σ H E I hf st hg
    subst hP hw hK
    obtain ⟨⟨old, he⟩, hit⟩ := st
    obtain ⟨xs, x, hq, hx⟩ := hg
    obtain ⟨its, rv, p, hz⟩ := I.list hq
    obtain ⟨u, hu, ru⟩ := rv.get hx
    refine wpAny_pyNext_enum_item he hit p.isList (x := u) (by simpa using hu) hne fun h1 ho1 hit1 hT1 hz1 hk1 => ?_
    refine ⟨_, rfl, wpAny_letOwnedTupleGo_enum ho1 fun h2 he2 hs2 => ?_⟩
    have hfr : H s.heap.objs.size = none := I.hok.fresh (Nat.le_refl _)
    have neE : s.heap.objs.size ≠ e := Nat.ne_of_gt (Heap.lt_size he)
    have hT2 : h2.get? s.heap.objs.size = some { cls := .type "tuple", data := .seq #[.int i s.toks, u] } := (hs2.2 _ neE).trans hT1
    refine ⟨.ref s.heap.objs.size, upd H s.heap.objs.size (.tup [.int i, x]), ?_, rfl, ⟨_, x, rfl, hfr, rfl, fun ys hy => by rw [I.list_inj hy hq]; exact hx⟩, ⟨⟨_, by simpa using he2⟩, hit1.at fun o q => (hs2.2 it (Ne.symm hne)).trans q⟩, fun b hb => ?_⟩
    · refine I.grown (ch := [e, it]) hf (Nat.le_refl _) (fun b v hb q => ?_) ?_
      · have n1 : b ≠ e := fun z => hb (by simp [z])
        have n2 : b ≠ it := fun z => hb (by simp [z])
        exact (hs2.2 b n1).trans (hk1 b v n1 n2 q)
      · exact ⟨by show 2 ≤ sizeLine; decide, [.int i s.toks, u], .cons ⟨_, rfl⟩ (.cons ru .nil), ⟨_, hT2, rfl, 0, rfl⟩⟩
    · obtain ⟨o, hb2, _⟩ : ∃ o, s.heap.get? b = some o ∧ True := by
        rcases List.mem_cons.mp hb with rfl | hb
        · exact ⟨_, he, trivial⟩
        · rw [List.mem_singleton.mp hb]
          obtain ⟨o, ho, _⟩ := hit
          exact ⟨o, ho, trivial⟩
      rw [zw (Nat.ne_of_lt (Heap.lt_size hb2))]
      exact (hf b hb).1
  done := by
    intro X hP hw hK hc i pins s σ H E I hf st hg
    subst hP hw hK
    obtain ⟨⟨old, he⟩, hit⟩ := st
    obtain ⟨xs, hq, hx⟩ := hg
    obtain ⟨its, rv, p, hz⟩ := I.list hq
    have hl := rv.length
    exact wpAny_pyNext_enum_end (I.ok.hd hc) he hit p.isList (by simp; omega) fun h1 hx1 => ⟨rfl, I.turnedN (ch := [e, it]) (t' := s.toks) hf fun b v hb q => hx1 b v (fun z => hb (by simp [z])) q⟩
  self := fun _ _ _ _ _ st h => wpAny_pyIter_enum st.1.choose_spec h
theorem zdk {P : Program} {w : World} {K : PySem.W.Frag} {es : List Expr} {k : Nat} {tp : Pos} (a e it : Addr) (hne : e ≠ it) (hai : a ≠ it) (hae : a ≠ e) :
    zg6 P w K (.Tuple es k tp) (Iet K a) [e, it] e (fun i h => (∃ old, IsEnum h e it i old) ∧ h.IsTupleIter it a i) where
  mem := by simp
  obj := fun i h st b hb => by
    obtain ⟨⟨old, he⟩, o, ho, _, hd⟩ := st
    rcases List.mem_cons.mp hb with rfl | hb
    · exact ⟨_, he, fun v z => by cases z⟩
    · rw [List.mem_singleton.mp hb]
      exact ⟨o, ho, fun v z => by rw [hd] at z; cases z⟩
  keep := fun i h h' st kk => by
    obtain ⟨⟨old, he⟩, o, ho, r⟩ := st
    exact ⟨⟨old, kk e (by simp) _ he⟩, o, kk it (by simp) o ho, r⟩
  item := by
    intro X hP hw hK hc i pins s σ H E I hf st hg
    subst hP hw hK
    obtain ⟨⟨old, he⟩, hit⟩ := st
    obtain ⟨xs, x, hq, hx⟩ := hg
    obtain ⟨its, rv, p, hz⟩ := I.tuple hq
    obtain ⟨u, hu, ru⟩ := rv.get hx
    have p' : s.heap.IsTuple a its.toArray := p
    have D := YL (prog := X.prog) (w := X.w) (A := X.A.in1) (I.ok.hd hc) it a hai its.toArray
    have hlt : i < its.toArray.size := by
      obtain ⟨h1, _⟩ := List.getElem?_eq_some_iff.mp hu
      simpa using h1
    refine wpAny_pyNext_enum_itemD D he ⟨hit, p'⟩ hlt hne (by simp [hne, Ne.symm hae]) fun u' h1 tk hP1 ho1 hit1 hT1 hz1 hk1 => ?_
    have eu : u' = u := by
      have : its[i]? = some u' := by simpa using hP1
      rw [hu] at this
      exact (Option.some.inj this).symm
    subst eu
    refine ⟨_, rfl, wpAny_letOwnedTupleGo_enum ho1 fun h2 he2 hs2 => ?_⟩
    have hfr : H s.heap.objs.size = none := I.hok.fresh (Nat.le_refl _)
    have neE : s.heap.objs.size ≠ e := Nat.ne_of_gt (Heap.lt_size he)
    have hT2 : h2.get? s.heap.objs.size = some { cls := .type "tuple", data := .seq #[.int i tk, u'] } := (hs2.2 _ neE).trans hT1
    refine ⟨.ref s.heap.objs.size, upd H s.heap.objs.size (.tup [.int i, x]), ?_, rfl, ⟨_, x, rfl, hfr, rfl, fun ys hy => by rw [I.tuple_inj hy hq]; exact hx⟩, ⟨⟨_, by simpa using he2⟩, ?_⟩, fun b hb => ?_⟩
    · refine I.grown (ch := [e, it]) hf (Nat.le_refl _) (fun b v hb q => ?_) ?_
      · have n1 : b ≠ e := fun z => hb (by simp [z])
        have n2 : b ≠ it := fun z => hb (by simp [z])
        exact (hs2.2 b n1).trans (hk1 b v n1 n2 q)
      · exact ⟨by show 2 ≤ sizeLine; decide, [.int i tk, u'], .cons ⟨_, rfl⟩ (.cons ru .nil), ⟨_, hT2, rfl, 0, rfl⟩⟩
    · obtain ⟨o, ho, r⟩ := hit1.1
      exact ⟨o, (hs2.2 it (Ne.symm hne)).trans ho, r⟩
    · obtain ⟨o, hb2, _⟩ : ∃ o, s.heap.get? b = some o ∧ True := by
        rcases List.mem_cons.mp hb with rfl | hb
        · exact ⟨_, he, trivial⟩
        · rw [List.mem_singleton.mp hb]
          obtain ⟨o, ho, _⟩ := hit
          exact ⟨o, ho, trivial⟩
      rw [zw (Nat.ne_of_lt (Heap.lt_size hb2))]
      exact (hf b hb).1
  done := by
    intro X hP hw hK hc i pins s σ H E I hf st hg
    subst hP hw hK
    obtain ⟨⟨old, he⟩, hit⟩ := st
    obtain ⟨xs, hq, hx⟩ := hg
    obtain ⟨its, rv, p, hz⟩ := I.tuple hq
    have hl := rv.length
    have p' : s.heap.IsTuple a its.toArray := p
    exact Y0 (I.ok.hd hc) he hit p' (by simp; omega) fun h1 hx1 => ⟨rfl, I.turnedN (ch := [e, it]) (t' := s.toks) hf fun b v hb q => hx1 b v (fun z => hb (by simp [z])) q⟩
  self := fun _ _ _ _ _ st h => wpAny_pyIter_enum st.1.choose_spec h
noncomputable def zlj (K : PySem.W.Frag) (ta : TA) : TI := fun σ H R => ta σ H fun vs H1 => ∃ a, vs = [.ref a] ∧ ((∃ xs, H1 a = some (.lst xs) ∧ R (Iel K a) H1) ∨ (∃ xs, SqT K H1 a xs ∧ R (Iet K a) H1))
theorem zhL {X : Cx} {es : List Expr} {k : Nat} {tp : Pos} {a : Expr} {ta : TA} {p pos : Pos} (hg : Gl X "enumerate") (hm : X.mg "enumerate" = none) (hb : bootBuiltins "enumerate" = some (.type "enumerate")) (ha : PA X [a] ta)
    (hs : starEach [a] X.env = [(false, eval a X.env)] := by rfl) : PI X (.Tuple es k tp) (.Call (.Name "enumerate" p) [a] [] pos) (zlj X.K ta) := by
  intro pins s σ H R I h
  refine Call_ (ZH I hg hm hb (PyProof.Rows.callWith_type1 (thn (ha pos pins s σ H _ I h) fun us s1 hh9 => ?_) hs rfl))
  obtain ⟨vs, H1, I1, r1, q1⟩ := hh9
  obtain ⟨l, e, q⟩ := q1
  subst e
  obtain ⟨u, rfl, ru⟩ := WG r1
  cases ru
  have hn : ∀ b, s1.heap.objs.size ≤ b → zcd X pins H1 b := fun b hb => I1.fpOk hb (I1.hok.fresh hb)
  have hne : s1.heap.objs.size + 1 ≠ s1.heap.objs.size := by omega
  have hfp : ∀ b ∈ [s1.heap.objs.size + 1, s1.heap.objs.size], zcd X pins H1 b := fun b hb => by
    rcases List.mem_cons.mp hb with rfl | hb
    · exact hn _ (Nat.le_succ _)
    · rw [List.mem_singleton.mp hb]; exact hn _ (Nat.le_refl _)
  rcases q with ⟨xs, hx, q⟩ | ⟨xs, hx, q⟩
  · obtain ⟨_, its, n, _, e⟩ : xs.length ≤ sizeLine ∧ ∃ (its : List Value) (n : Nat), yx xs its ∧ s1.heap.get? l = some { cls := .type "list", data := .seq its.toArray n } := I1.hok _ _ hx
    refine call_enumerate_1 e fun h2 he hit hz hk => wpAny_pyIter_enum he ?_
    exact ⟨_, _, _, _, H1, rfl, I1.kept (t' := s1.toks) hk, zcW l _ _ hne, ⟨⟨_, he⟩, hit⟩, hfp, q⟩
  · obtain ⟨its, _, p1, _⟩ := I1.tuple hx
    have lt : l < s1.heap.objs.size := by
      obtain ⟨o, ho, _⟩ := p1
      exact Heap.lt_size ho
    refine YZ (show s1.heap.IsTuple l its.toArray from p1) fun h2 he hit hz hk => wpAny_pyIter_enum he ?_
    exact ⟨_, _, _, _, H1, rfl, I1.kept (t' := s1.toks) hk, zdk l _ _ hne (Nat.ne_of_lt lt) (Nat.ne_of_lt (Nat.lt_succ_of_lt lt)), ⟨⟨_, he⟩, hit⟩, hfp, q⟩
end L2
namespace HT
open PySem PyProof.Rows
noncomputable def lexLe : List Int → List Int → Bool
  | [], _ => true
  | _ :: _, [] => false
  | x :: xs, y :: ys => if x = y then lexLe xs ys else decide (x ≤ y)
theorem zcS (x y : Int) (xs ys : List Int) : lexLe (x :: xs) (y :: ys) = if x = y then lexLe xs ys else decide (x ≤ y) := rfl
theorem zga (A : Around) (s : Shared) (a : Int) (t : Tok) (c : Int) (u : Tok) (prog : Program) (w : World) (E : Value → Shared → Prop) (Q : Value → Shared → Prop) (h : Q (.bool (decide (a ≤ c))) s) :
    wpAny (model prog w) A (richCompare .LtE (.int a t) (.int c u)) Q E s :=
  (PyProof.Rows.le_int h : wpAny (model prog w) A (compareOp .LtE (.int a t) (.int c u)) Q E s)
section
open PySem.SeqAt
open PySem.AutoSeq1 (wpAny_loadPart')
open PySem.MeetsSeq PySem.MeetsSeq2 PySem.MeetsSeq3
theorem VW (l b : Addr) (items items2 : Array Value) (n n2 : Nat) (dd dd2 : Option Addr) (sl sl2 : Array (Option Value)) (ns ms : List Int) (hi : IntsAre items.toList ns) (hj : IntsAre items2.toList ms) :
    Meets (Builtin.«tuple.__le__» ⟨[.ref l, .ref b], []⟩)
      (fun _ R s => s.heap.get? l = some { cls := .type "tuple", dict := dd, data := .seq items n, slots := sl } ∧ s.heap.get? b = some { cls := .type "tuple", dict := dd2, data := .seq items2 n2, slots := sl2 } ∧
        R (.ok (.ret (.bool (lexLe ns ms)))) s) :=
  .of_wp fun prog w A R s h => by
    obtain ⟨hp, g, d, tk, os⟩ := s; obtain ⟨hl, hb, h⟩ := h
    have f2 := AutoSeq1.sub_tuple_tuple
    have z1 : items.size = ns.length := by rw [← hi.length]; simp
    have z2 : items2.size = ms.length := by rw [← hj.length]; simp
    wp_walk using wpAny_loadPart' hl, wpAny_loadPart' hb, wpAny_forIn_list _ (fun rest b s' => b.1 = none ∧ s' = ⟨hp, g, d, tk, os⟩ ∧ ∃ (vs ws : List Value) (ns' ms' : List Int), rest = vs.zip ws ∧
      IntsAre vs ns' ∧ IntsAre ws ms' ∧ ns'.length + items2.size = ms'.length + items.size ∧ R (.ok (.ret (.bool (lexLe ns' ms')))) ⟨hp, g, d, tk, os⟩) _
    case turn =>
      rintro ⟨y, x⟩ rest b s' ⟨hb', rfl, vs, ws, ns', ms', hz, hvi, hwi, hlen, hR⟩
      cases hvi with
      | nil => rw [List.zip_nil_left] at hz; cases hz
      | cons a t hvi' =>
        cases hwi with
        | nil => rw [List.zip_nil_right] at hz; cases hz
        | cons c u hwi' =>
          rw [List.zip_cons_cons] at hz
          injection hz with hyx hrest
          injection hyx with hy hx
          subst hy hx
          rw [zcS] at hR
          simp only [List.length_cons] at hlen
          obtain ⟨e, he, hiff⟩ := zgy A.in1 ⟨hp, g, d, tk, os⟩ a t c u
          refine wpAny_bind (he prog w _ _ ?_)
          cases e with
          | true =>
            rw [if_pos (hiff.mp rfl)] at hR
            wp_walk
            exact ⟨rfl, rfl, _, _, _, _, hrest, hvi', hwi', by omega, hR⟩
          | false =>
            rw [if_neg (fun q => absurd (hiff.mpr q) Bool.false_ne_true)] at hR
            have hri := zga A.in1 ⟨hp, g, d, tk, os⟩ a t c u prog w
            wp_walk using hri
            exact ⟨_, rfl, by simpa using hR⟩
    case fin =>
      rintro ⟨b1, b2⟩ s' ⟨hb', rfl, vs, ws, ns', ms', hz, hvi, hwi, hlen, hR⟩
      simp only at hb'
      subst hb'
      have hv : lexLe ns' ms' = decide (items.size ≤ items2.size) := by
        cases hvi with
        | nil =>
          simp only [List.length_nil] at hlen
          show true = _
          exact (decide_eq_true (by omega)).symm
        | cons a t hv =>
          cases hwi with
          | nil =>
            simp only [List.length_nil, List.length_cons] at hlen
            show false = _
            exact (decide_eq_false (by omega)).symm
          | cons c u hw =>
            rw [List.zip_cons_cons] at hz
            cases hz
      rw [hv] at hR
      wp_walk
      exact ⟨_, rfl, by simpa [Builtin.Tuple.tupleCompareSizes] using hR⟩
    case h =>
      exact ⟨rfl, rfl, items.toList, items2.toList, ns, ms, rfl, hi, hj, by omega, h⟩
end
section
variable {prog : Program} {w : World} {A : Around} {E : Value → Shared → Prop} {s : Shared}
theorem le_tupInts {l b : Addr} {items items2 : Array Value} {ns ms : List Int} {Q : Value → Shared → Prop} (hl : IsTup s.heap l items) (hb : IsTup s.heap b items2) (hi : IntsAre items.toList ns) (hj : IntsAre items2.toList ms)
    (hu : A.units < cLine) (h : Q (.bool (lexLe ns ms)) s) : wpAny (model prog w) A (compareOp .LtE (.ref l) (.ref b)) Q E s := by
  obtain ⟨⟨cls, dd, data, sl⟩, ho, hc, n, hd⟩ := id hl
  obtain ⟨⟨cls2, dd2, data2, sl2⟩, ho2, hc2, n2, hd2⟩ := id hb
  simp only at hc hd hc2 hd2
  subst hc hd hc2 hd2
  exact richCompare_meets_room (op := .LtE) ⟨_, ho, rfl⟩ ⟨_, ho2, rfl⟩ PySem.F.slot_tuple_le PySem.F.entry_tuple_le (PySem.F.args_tuple_le_2 _ _) (VW l b items items2 n n2 dd dd2 sl sl2 ns ms hi hj)
    ⟨ho, ho2, show Value.bool (lexLe ns ms) ≠ Value.notImplemented ∧ Q (.bool (lexLe ns ms)) s from ⟨(fun x => nomatch x), h⟩⟩ hu
end
end HT
namespace L2
open PySem PySem.Spec PyProof.Rows
noncomputable def rLeT (K : PySem.W.Frag) : R2 := fun x y H Q => ∃ a b ns ms, x = .ref a ∧ y = .ref b ∧ SqT K H a (ns.map V.int) ∧ SqT K H b (ms.map V.int) ∧ Q (.bl (HT.lexLe ns ms)) H
theorem zj0 {X : Cx} (hu : X.A.units < cLine) : OpR X (compareOp .LtE) (rLeT X.K) := by
  intro pins s σ H x y v u Q I rx ry h
  obtain ⟨a, b, ns, ms, rfl, rfl, ha, hb, q⟩ := h
  cases rx
  cases ry
  obtain ⟨its, r1, p1, _⟩ := I.tuple ha
  obtain ⟨its2, r2, p2, _⟩ := I.tuple hb
  have i1 : IntsAre its.toArray.toList ns := Xg r1
  have i2 : IntsAre its2.toArray.toList ms := Xg r2
  exact HT.le_tupInts p1 p2 i1 i2 hu ⟨.bl (HT.lexLe ns ms), H, I, rfl, q⟩
end L2
namespace HT
open PySem PyProof.Rows
section
variable {prog : Program} {w : World} {A : Around} {E : Value → Shared → Prop} {s : Shared}
theorem own_getItem_whole {t sl : Addr} {items : Array Value} {vl vu : Value} {lo hi : Option Int} {Q : Value → Shared → Prop} (ht : IsTup s.heap t items) (hs : s.heap.IsSliceOf sl vl vu .none) (pl : IsPart vl lo) (pu : IsPart vu hi)
    (hw : sIx items.size 0 lo = 0 ∧ sIx items.size items.size hi = items.size) (h : Q (.ref t) s) : wpAny (model prog w) A (getItem (.ref t) (.ref sl)) Q E s := by
  obtain ⟨os, hos, hcs, hds⟩ := id hs
  have hTs : s.TypeIs (.ref sl) "slice" := ⟨os, hos, hcs⟩
  unfold getItem
  try with_reducible refine wpAny_holding ?_
  first | refine wpAny_bind (wpAny_pure ?_) | skip
  refine wpAny_bind (wpAny_sequenceKey ht.typeIs (by decide) ?_)
  refine wpAny_bind (wpAny_callSpecial?_slot (name := Str.ofString "__getitem__") ht.typeIs PyProof.Rows.slot_tuple_getitem
    (wpAny_call_entry PyProof.Rows.slot_tuple_getitem ht.typeIs entry_tuple_getitem ?_ (args_tuple_getitem _ _)))
  show wpAny _ _ (Builtin.Tuple.tupleItemsOf (.ref t) >>= _) _ _ s
  refine wpAny_bind (tupleItemsOf_ ht ?_)
  refine wpAny_bind (wpAny_typeOf hTs ?_)
  rw [if_pos (by decide)]
  refine wpAny_bind (Ya hs pl pu ?_)
  have hyes : (((sIx items.size 0 lo : Nat) : Int) == 0 && (1 : Int) == 1 && (sIx items.size items.size hi - sIx items.size 0 lo) == items.size) = true := by
    rw [hw.1, hw.2]
    simp
  show wpAny _ _ (if (((sIx items.size 0 lo : Nat) : Int) == 0 && (1 : Int) == 1 && (sIx items.size items.size hi - sIx items.size 0 lo) == items.size) = true then _ else _) _ _ s
  rw [if_pos hyes]
  refine wpAny_bind (m := Builtin.Tuple.tupleIsExact (.ref t)) ?_
  unfold Builtin.Tuple.tupleIsExact
  refine wpAny_bind (wpAny_typeOf ht.typeIs (wpAny_pure ?_))
  rw [if_pos (by decide)]
  refine wpAny_bind (wpAny_rule ?_)
  first
    | exact wpAny_pure ⟨_, rfl, wpAny_pure h⟩
    | exact wpAny_bind (wpAny_pure (wpAny_pure ⟨_, rfl, wpAny_pure h⟩))
end
end HT
namespace PySem
open Sem (wp)
theorem xu {prog : Program} {w : World} {A : Around} {it a : Addr} {fp : List Addr} {n k : Nat} {P : Nat → Value → Prop} {St : Nat → Heap → Prop} (D : Draws prog w A it fp n P St) {h h' : Heap} (st : St k h) (sb : Heap.SameBut a h h') (na : a ∉ fp) : St k h' :=
  D.frame _ _ _ st fun b hb o e => (sb.2 b fun z => na (z ▸ hb)).trans e
set_option genInjectivity false in
set_option genSizeOf false in
set_option genCtorIdx false in
structure zgn (z TI TO i1 i2 : Addr) (fp1 fp2 : List Addr) : Prop where
  nd : [z, TI, TO, i1, i2].Nodup
  z1 : z ∉ fp1
  z2 : z ∉ fp2
  o1 : TO ∉ fp1
  o2 : TO ∉ fp2
  i12 : i1 ∉ fp2
  i21 : i2 ∉ fp1
section
variable {prog : Program} {w : World} {A : Around} {E : Value → Shared → Prop} {s : Shared} {z TI TO i1 i2 : Addr} {fp1 fp2 : List Addr} {n1 n2 k1 k2 : Nat} {P1 P2 : Nat → Value → Prop} {St1 St2 : Nat → Heap → Prop} {a b : Value}
theorem zaR {Q : Value → Shared → Prop} (D1 : Draws prog w A i1 fp1 n1 P1 St1) (D2 : Draws prog w A i2 fp2 n2 P2 St2) (ap : zgn z TI TO i1 i2 fp1 fp2)
    (hz : IsZip s.heap z TI TO .none) (hTI : IsPair s.heap TI (.ref i1) (.ref i2)) (hTO : IsPair s.heap TO a b) (h1 : St1 k1 s.heap) (h2 : St2 k2 s.heap) (l1 : k1 < n1) (l2 : k2 < n2)
    (hQ : ∀ x y h' tk, P1 k1 x → P2 k2 y → IsZip h' z TI TO (rawInt s.heap.objs.size) → IsPair h' TO x y → St1 (k1 + 1) h' → St2 (k2 + 1) h' → IsPair h' s.heap.objs.size x y →
      (∀ c o, c ∉ [z, TO, i1, i2] → s.heap.get? c = some o → h'.get? c = some o) → Q (.ref s.heap.objs.size) { s with heap := h', toks := tk }) :
    wpAny (model prog w) A (Builtin.«zip.__next__» ⟨[.ref z], []⟩) (fun fin s' => ∃ v, fin = .done (.ret v) ∧ Q v s') E s := by
  obtain ⟨nd, az1, az2, ao1, ao2, a12, a21⟩ := ap
  simp only [List.nodup_cons, List.mem_cons, List.not_mem_nil, or_false, not_or, not_false_eq_true, List.nodup_nil, and_true] at nd
  obtain ⟨⟨n1', n2', n3', n4'⟩, ⟨n5, n6, n7⟩, ⟨n8, n9⟩, n10⟩ := nd
  show wpAny _ _ (field (.ref z) 2 >>= _) _ _ _
  refine wpAny_bind (wpAny_field hz rfl (x := .bool false) rfl ?_)
  show wpAny _ _ (field (.ref z) 3 >>= _) _ _ _
  refine wpAny_bind (wpAny_field hz rfl (x := .ref TI) rfl (wpAny_bind (wpAny_seqItems hTI rfl ?_)))
  show wpAny _ _ (Builtin.SmallTypes.ownedTupleIsFree (.ref z) >>= _) _ _ _
  refine wpAny_bind ?_
  unfold Builtin.SmallTypes.ownedTupleIsFree
  refine wpAny_bind (wpAny_field hz rfl (x := .none) rfl (wpAny_pure ?_))
  simp only [if_true]
  refine wpAny_bind (wpAny_rule (wpAny_bind (wpAny_field hz rfl (x := .ref TO) rfl (wpAny_bind (wpAny_setField_rec hz (by simp) fun g1 z1 b1 => ?_)))))
  refine wpAny_bind ?_
  simp only [List.zipIdx_cons, List.zipIdx_nil, List.forIn_cons, List.forIn_nil]
  refine wpAny_bind (wpAny_bind (wpAny_onRaise ?_))
  show wpAny _ _ (Builtin.SmallTypes.nextOf (.ref i1) >>= _) _ _ _
  refine wpAny_bind (D1.item k1 _ _ _ l1 (xu D1 h1 b1 az1) fun x g2 tk2 px st2 b2 => wpAny_pure ?_)
  have o2 : IsPair g2 TO a b := (b2.2 TO n8).trans ((b1.2 TO (Ne.symm n2')).trans hTO)
  refine wpAny_bind (wpAny_seqItems o2 rfl (wpAny_bind (wpAny_updateSeq_pair o2 fun g3 o3 b3 => ?_)))
  refine wpAny_bind (wpAny_letGo (wpAny_pure ?_))
  refine wpAny_bind (wpAny_bind (wpAny_onRaise ?_))
  show wpAny _ _ (Builtin.SmallTypes.nextOf (.ref i2) >>= _) _ _ _
  have s23 : St2 k2 g3 := xu D2 (xu D2 (xu D2 h2 b1 az2) b2 a12) b3 ao2
  refine wpAny_bind (D2.item k2 _ _ _ l2 s23 fun y g4 tk4 py st4 b4 => wpAny_pure ?_)
  have o4 : IsPair g4 TO x b := (b4.2 TO n9).trans o3
  refine wpAny_bind (wpAny_seqItems o4 rfl (wpAny_bind (wpAny_updateSeq_pair o4 fun g5 o5 b5 => ?_)))
  replace o5 : IsPair g5 TO x y := o5
  refine wpAny_bind (wpAny_letGo (wpAny_pure (wpAny_pure ?_)))
  refine wpAny_bind (wpAny_seqItems o5 rfl ?_)
  show wpAny _ _ (newTuple [x, y] >>= _) _ _ _
  refine wpAny_bind (wpAny_newTuple ?_)
  have hsz : g5.objs.size = s.heap.objs.size := by rw [b5.1, b4.1, b3.1, b2.1, b1.1]
  have z5 : IsZip g5 z TI TO .ellipsis := (b5.2 z n2').trans ((b4.2 z n4').trans ((b3.2 z n2').trans ((b2.2 z n3').trans z1)))
  have zlt : z < g5.objs.size := Heap.lt_size z5
  show wpAny _ _ (Builtin.SmallTypes.ownedTupleHandOut (.ref z) (.ref g5.objs.size) >>= _) _ _ _
  refine wpAny_bind ?_
  unfold Builtin.SmallTypes.ownedTupleHandOut
  have z6 : IsZip (g5.push { cls := .type "tuple", data := .seq #[x, y] }) z TI TO .ellipsis := Heap.get?_push_of_some _ z5
  refine wpAny_bind (wpAny_setField_rec z6 (by simp) fun g7 z7 b7 => ?_)
  refine wpAny_setField_rec z7 (by simp) fun g8 z8 b8 => ?_
  have up : ∀ c o, c ≠ z → g5.get? c = some o → g8.get? c = some o := fun c o n e => (b8.2 c n).trans ((b7.2 c n).trans (Heap.get?_push_of_some _ e))
  have t8 : IsPair g8 g5.objs.size x y := (b8.2 _ (Nat.ne_of_gt zlt)).trans ((b7.2 _ (Nat.ne_of_gt zlt)).trans (Heap.get?_push_size _ rfl))
  have e8 : IsZip g8 z TI TO (rawInt g5.objs.size) := z8
  rw [hsz] at e8 t8
  refine wpAny_pure ⟨_, rfl, ?_⟩
  show Q (.ref g5.objs.size) _
  rw [hsz]
  have f1 : St1 (k1 + 1) g5 := xu D1 (xu D1 (xu D1 st2 b3 ao1) b4 a21) b5 ao1
  have f2 : St2 (k2 + 1) g5 := xu D2 st4 b5 ao2
  refine hQ x y g8 _ px py e8 (up _ _ (Ne.symm n2') o5) (D1.frame _ _ _ f1 fun c hc o e => up c o (fun q => az1 (q ▸ hc)) e) (D2.frame _ _ _ f2 fun c hc o e => up c o (fun q => az2 (q ▸ hc)) e) t8 fun c o hc e => ?_
  simp only [List.mem_cons, List.not_mem_nil, or_false, not_or] at hc
  obtain ⟨c1, c2, c3, c4⟩ := hc
  exact up c o c1 ((b5.2 c c2).trans ((b4.2 c c4).trans ((b3.2 c c2).trans ((b2.2 c c3).trans ((b1.2 c c1).trans e)))))
theorem zbh {Q : Fin → Shared → Prop} (D1 : Draws prog w A i1 fp1 n1 P1 St1) (az1 : z ∉ fp1) (nz : i1 ≠ z)
    (hz : IsZip s.heap z TI TO .none) (hTI : IsPair s.heap TI (.ref i1) (.ref i2)) (h1 : St1 n1 s.heap)
    (hE : ∀ h' e, (∀ c o, c ≠ z → c ≠ i1 → s.heap.get? c = some o → h'.get? c = some o) → (∃ o, h'.get? e = some o ∧ o.cls = .type "StopIteration") → E (.ref e) { s with heap := h' }) :
    wpAny (model prog w) A (Builtin.«zip.__next__» ⟨[.ref z], []⟩) Q E s := by
  show wpAny _ _ (field (.ref z) 2 >>= _) _ _ _
  refine wpAny_bind (wpAny_field hz rfl (x := .bool false) rfl ?_)
  show wpAny _ _ (field (.ref z) 3 >>= _) _ _ _
  refine wpAny_bind (wpAny_field hz rfl (x := .ref TI) rfl (wpAny_bind (wpAny_seqItems hTI rfl ?_)))
  show wpAny _ _ (Builtin.SmallTypes.ownedTupleIsFree (.ref z) >>= _) _ _ _
  refine wpAny_bind ?_
  unfold Builtin.SmallTypes.ownedTupleIsFree
  refine wpAny_bind (wpAny_field hz rfl (x := .none) rfl (wpAny_pure ?_))
  simp only [if_true]
  refine wpAny_bind (wpAny_rule (wpAny_bind (wpAny_field hz rfl (x := .ref TO) rfl (wpAny_bind (wpAny_setField_rec hz (by simp) fun g1 z1 b1 => ?_)))))
  refine wpAny_bind ?_
  simp only [List.zipIdx_cons, List.zipIdx_nil, List.forIn_cons, List.forIn_nil]
  refine wpAny_bind (wpAny_bind (wpAny_onRaise ?_))
  show wpAny _ _ (Builtin.SmallTypes.nextOf (.ref i1) >>= _) _ _ _
  refine wpAny_bind (D1.done _ _ _ (xu D1 h1 b1 az1) fun g2 e b2 he => ?_)
  obtain ⟨oe, hoe, hce⟩ := he
  have z2 : IsZip g2 z TI TO .ellipsis := b2 _ _ (Ne.symm nz) z1
  have nez : e ≠ z := fun q => by subst q; rw [z2] at hoe; cases hoe; simp at hce
  exact wpAny_setField_rec z2 (by simp) fun g3 _ b3 => hE g3 e (fun c o c1 c2 q => (b3.2 c c1).trans (b2 c o c2 ((b1.2 c c1).trans q))) ⟨oe, (b3.2 e nez).trans hoe, hce⟩
end
noncomputable def VU (b : Bool) (h : Heap) (it l : Addr) (k : Nat) : Prop := if b = true then h.IsListIter it l k else h.IsTupleIter it l k
noncomputable def zc4 (b : Bool) (h : Heap) (l : Addr) (items : Array Value) : Prop := if b = true then h.IsList l items else h.IsTuple l items
theorem Wn {prog : Program} {w : World} {A : Around} (hh : A.handled = none) (b : Bool) (it l : Addr) (hne : l ≠ it) (items : Array Value) :
    Draws prog w A it [it, l] items.size (fun i v => items[i]? = some v) (fun i h => VU b h it l i ∧ zc4 b h l items) := by
  cases b with
  | true => exact Draws.list hh it l hne items
  | false => exact YL hh it l hne items
noncomputable def zdV (b : Bool) (l : Addr) : Obj := { cls := .type (if b = true then "list_iterator" else "tuple_iterator"), data := .fields #[.ref l, .int 0 0] }
noncomputable abbrev zpA (h : Heap) (b1 : Bool) (l1 : Addr) : Heap := h.push (zdV b1 l1)
noncomputable abbrev zpB (h : Heap) (b1 b2 : Bool) (l1 l2 : Addr) : Heap := (zpA h b1 l1).push (zdV b2 l2)
noncomputable abbrev zpC (h : Heap) (b1 b2 : Bool) (l1 l2 : Addr) : Heap := (zpB h b1 b2 l1 l2).push (Obj.mk (.type "tuple") none (.seq #[.ref h.objs.size, .ref (zpA h b1 l1).objs.size]) #[])
noncomputable abbrev zpD (h : Heap) (b1 b2 : Bool) (l1 l2 : Addr) : Heap := (zpC h b1 b2 l1 l2).push (Obj.mk (.type "tuple") none (.seq #[.none, .none]) #[])
noncomputable abbrev zpE (h : Heap) (b1 b2 : Bool) (l1 l2 : Addr) : Heap := (zpD h b1 b2 l1 l2).push (Obj.mk (.type "zip") none (.fields #[.none, .bool false, .bool false, .ref (zpB h b1 b2 l1 l2).objs.size, .ref (zpC h b1 b2 l1 l2).objs.size]) #[])
theorem zbY (b1 b2 : Bool) (l1 l2 : Addr) (xs ys : Array Value) :
    Meets (Builtin.«zip.__new__» ⟨[.type "zip", .ref l1, .ref l2], []⟩) (fun _ R s => zc4 b1 s.heap l1 xs ∧ zc4 b2 s.heap l2 ys ∧
      R (.ok (.ret (.ref (zpD s.heap b1 b2 l1 l2).objs.size))) { s with heap := zpE s.heap b1 b2 l1 l2 }) :=
  .of_wp fun prog w A R s h => by
    obtain ⟨hp, g, d, tk, os⟩ := s; obtain ⟨hl1, hl2, h⟩ := h
    have hsub := sub_zip
    cases b1 with
    | true =>
      have hL1 : Heap.IsList (Shared.heap ⟨hp, g, d, tk, os⟩) l1 xs := hl1
      cases b2 with
      | true =>
        have hL2 : Heap.IsList (Shared.heap ⟨hp.push { cls := .type "list_iterator", data := .fields #[.ref l1, .int 0 0] }, g, d, tk, os⟩) l2 ys := Heap.IsList.push hl2 _
        wp_walk using wpAny_pyIter_list hL1, wpAny_pyIter_list hL2
        exact ⟨_, rfl, h⟩
      | false =>
        have hL2 : Heap.IsTuple (Shared.heap ⟨hp.push { cls := .type "list_iterator", data := .fields #[.ref l1, .int 0 0] }, g, d, tk, os⟩) l2 ys := Heap.IsTuple.push hl2 _
        wp_walk using wpAny_pyIter_list hL1, wpAny_pyIter_tuple hL2
        exact ⟨_, rfl, h⟩
    | false =>
      have hL1 : Heap.IsTuple (Shared.heap ⟨hp, g, d, tk, os⟩) l1 xs := hl1
      cases b2 with
      | true =>
        have hL2 : Heap.IsList (Shared.heap ⟨hp.push { cls := .type "tuple_iterator", data := .fields #[.ref l1, .int 0 0] }, g, d, tk, os⟩) l2 ys := Heap.IsList.push hl2 _
        wp_walk using wpAny_pyIter_tuple hL1, wpAny_pyIter_list hL2
        exact ⟨_, rfl, h⟩
      | false =>
        have hL2 : Heap.IsTuple (Shared.heap ⟨hp.push { cls := .type "tuple_iterator", data := .fields #[.ref l1, .int 0 0] }, g, d, tk, os⟩) l2 ys := Heap.IsTuple.push hl2 _
        wp_walk using wpAny_pyIter_tuple hL1, wpAny_pyIter_tuple hL2
        exact ⟨_, rfl, h⟩
end PySem
namespace PySem
section
variable {prog : Program} {w : World} {A : Around} {E : Value → Shared → Prop} {s : Shared}
theorem zay {b1 b2 : Bool} {l1 l2 : Addr} {xs ys : Array Value} {Q : Value → Shared → Prop} (hl1 : zc4 b1 s.heap l1 xs) (hl2 : zc4 b2 s.heap l2 ys)
    (h : ∀ h', IsZip h' (s.heap.objs.size + 4) (s.heap.objs.size + 2) (s.heap.objs.size + 3) .none → IsPair h' (s.heap.objs.size + 2) (.ref s.heap.objs.size) (.ref (s.heap.objs.size + 1)) →
      IsPair h' (s.heap.objs.size + 3) .none .none → VU b1 h' s.heap.objs.size l1 0 → VU b2 h' (s.heap.objs.size + 1) l2 0 →
      (∀ c o, s.heap.get? c = some o → h'.get? c = some o) → Q (.ref (s.heap.objs.size + 4)) { s with heap := h' }) :
    wpAny (model prog w) A (call (.type "zip") [.ref l1, .ref l2]) Q E s := by
  refine callType_new F.called_zip (by decide) (F.typeCall_zip_2 _ _) (F.newCall_zip_2 _ _) (fun obj => F.args_object_init_3 obj _ _) F.entry_zip_new
    (zbY b1 b2 l1 l2 xs ys) ⟨hl1, hl2, ?_⟩
  have z1 : (zpA s.heap b1 l1).objs.size = s.heap.objs.size + 1 := Heap.size_push ..
  have z2 : (zpB s.heap b1 b2 l1 l2).objs.size = s.heap.objs.size + 2 := by rw [Heap.size_push, z1]
  have z3 : (zpC s.heap b1 b2 l1 l2).objs.size = s.heap.objs.size + 3 := by rw [Heap.size_push, z2]
  have z4 : (zpD s.heap b1 b2 l1 l2).objs.size = s.heap.objs.size + 4 := by rw [Heap.size_push, z3]
  have g5 : (zpE s.heap b1 b2 l1 l2).get? (zpD s.heap b1 b2 l1 l2).objs.size = some _ := Heap.get?_push_size _ rfl
  have g4 : (zpE s.heap b1 b2 l1 l2).get? (zpC s.heap b1 b2 l1 l2).objs.size = some _ := Heap.get?_push_of_some _ (Heap.get?_push_size _ rfl)
  have g3 : (zpE s.heap b1 b2 l1 l2).get? (zpB s.heap b1 b2 l1 l2).objs.size = some _ := Heap.get?_push_of_some _ (Heap.get?_push_of_some _ (Heap.get?_push_size _ rfl))
  have g2 : (zpE s.heap b1 b2 l1 l2).get? (zpA s.heap b1 l1).objs.size = some (zdV b2 l2) := Heap.get?_push_of_some _ (Heap.get?_push_of_some _ (Heap.get?_push_of_some _ (Heap.get?_push_size _ rfl)))
  have g1 : (zpE s.heap b1 b2 l1 l2).get? s.heap.objs.size = some (zdV b1 l1) := Heap.get?_push_of_some _ (Heap.get?_push_of_some _ (Heap.get?_push_of_some _ (Heap.get?_push_of_some _ (Heap.get?_push_size _ rfl))))
  show _ ∧ _
  rw [z2, z3, z4] at g5
  rw [z1, z2] at g3
  rw [z3] at g4
  rw [z1] at g2
  rw [z4]
  have it0 : ∀ {b : Bool} {l c : Addr}, (zpE s.heap b1 b2 l1 l2).get? c = some (zdV b l) → VU b (zpE s.heap b1 b2 l1 l2) c l 0 := fun {b l c} e => by
    cases b
    · exact ⟨_, e, rfl, rfl⟩
    · exact ⟨_, e, rfl, rfl⟩
  exact ⟨⟨_, g5, rfl⟩, h _ g5 g3 g4 (it0 g1) (it0 g2) fun c o x =>
    Heap.get?_push_of_some _ (Heap.get?_push_of_some _ (Heap.get?_push_of_some _ (Heap.get?_push_of_some _ (Heap.get?_push_of_some _ x))))⟩
variable {z TI TO i1 i2 : Addr} {fp1 fp2 : List Addr} {n1 n2 k1 k2 : Nat} {P1 P2 : Nat → Value → Prop} {St1 St2 : Nat → Heap → Prop} {a b : Value}
theorem Zr {Q : Option Value → Shared → Prop} (D1 : Draws prog w A.in1 i1 fp1 n1 P1 St1) (D2 : Draws prog w A.in1 i2 fp2 n2 P2 St2) (ap : zgn z TI TO i1 i2 fp1 fp2)
    (hz : IsZip s.heap z TI TO .none) (hTI : IsPair s.heap TI (.ref i1) (.ref i2)) (hTO : IsPair s.heap TO a b) (h1 : St1 k1 s.heap) (h2 : St2 k2 s.heap) (l1 : k1 < n1) (l2 : k2 < n2)
    (hQ : ∀ x y h' tk, P1 k1 x → P2 k2 y → IsZip h' z TI TO (rawInt s.heap.objs.size) → IsPair h' TO x y → St1 (k1 + 1) h' → St2 (k2 + 1) h' → IsPair h' s.heap.objs.size x y →
      (∀ c o, c ∉ [z, TO, i1, i2] → s.heap.get? c = some o → h'.get? c = some o) → Q (some (.ref s.heap.objs.size)) { s with heap := h', toks := tk }) :
    wpAny (model prog w) A (pyNext (.ref z)) Q E s := by
  have hT : s.TypeIs (.ref z) "zip" := ⟨_, hz, rfl⟩
  unfold pyNext
  exact wpAny_bind (wpAny_attempt (wpAny_callSpecial?_slot (name := Str.ofString "__next__") hT F.slot_zip_next
    (wpAny_call_entry F.slot_zip_next hT F.entry_zip_next
      (zaR D1 D2 ap hz hTI hTO h1 h2 l1 l2 fun x y h' tk a1 a2 a3 a4 a5 a6 a7 a8 => wpAny_pure (hQ x y h' tk a1 a2 a3 a4 a5 a6 a7 a8)) (F.args_zip_next_1 _))))
theorem ZA {Q : Option Value → Shared → Prop} (D1 : Draws prog w A.in1 i1 fp1 n1 P1 St1) (az1 : z ∉ fp1) (nz : i1 ≠ z)
    (hz : IsZip s.heap z TI TO .none) (hTI : IsPair s.heap TI (.ref i1) (.ref i2)) (h1 : St1 n1 s.heap)
    (hQ : ∀ h', (∀ c o, c ≠ z → c ≠ i1 → s.heap.get? c = some o → h'.get? c = some o) → Q none { s with heap := h' }) : wpAny (model prog w) A (pyNext (.ref z)) Q E s := by
  have hT : s.TypeIs (.ref z) "zip" := ⟨_, hz, rfl⟩
  unfold pyNext
  refine wpAny_bind (wpAny_attempt (wpAny_callSpecial?_slot (name := Str.ofString "__next__") hT F.slot_zip_next
    (wpAny_call_entry F.slot_zip_next hT F.entry_zip_next (zbh D1 az1 nz hz hTI h1 fun h' e hk he => ?_) (F.args_zip_next_1 _))))
  obtain ⟨o, ho, hc⟩ := he
  refine wpAny_bind (wpAny_isInstance (T := "StopIteration") (b := true) ⟨o, ho, hc⟩ isSubtype_stop ?_)
  exact wpAny_pure (hQ _ hk)
end
end PySem
namespace L2
open PySem PySem.Spec PyProof.Rows
noncomputable def Sq (b : Bool) (K : PySem.W.Frag) (H : Hp) (a : Addr) (xs : List V) : Prop := if b = true then SqL K H a xs else SqT K H a xs
theorem Inv.sq {X : Cx} {pins : List (Addr × Obj)} {σ : St} {H : Hp} {s : Shared} {a : Addr} {xs : List V} {b : Bool} (I : Inv X pins σ H s) (h : Sq b X.K H a xs) : ∃ its : List Value, yx xs its ∧ zc4 b s.heap a its.toArray ∧ a < s.heap.objs.size := by
  cases b with
  | true =>
    obtain ⟨its, r, p, _⟩ := I.list (show SqL X.K H a xs from h)
    exact ⟨its, r, p.isList, by obtain ⟨o, n, ho, _⟩ := p; exact Heap.lt_size ho⟩
  | false =>
    obtain ⟨its, r, p, _⟩ := I.tuple (show SqT X.K H a xs from h)
    exact ⟨its, r, p, by obtain ⟨o, ho, _⟩ := p; exact Heap.lt_size ho⟩
theorem Inv.sq_inj {X : Cx} {pins : List (Addr × Obj)} {σ : St} {H : Hp} {s : Shared} {a : Addr} {xs ys : List V} {b : Bool} (I : Inv X pins σ H s) (h : Sq b X.K H a xs) (h' : Sq b X.K H a ys) : xs = ys := by
  cases b with
  | true => exact I.list_inj h h'
  | false => exact I.tuple_inj h h'
noncomputable def Izp (K : PySem.W.Frag) (b1 b2 : Bool) (l1 l2 : Addr) : It :=
  ⟨fun i H => ∃ xs ys x y, Sq b1 K H l1 xs ∧ Sq b2 K H l2 ys ∧ xs[i]? = some x ∧ ys[i]? = some y,
   fun i H v H' => ∃ T x y, v = .ref T ∧ H T = none ∧ H' = upd H T (.tup [x, y]) ∧ (∀ xs, Sq b1 K H l1 xs → xs[i]? = some x) ∧ (∀ ys, Sq b2 K H l2 ys → ys[i]? = some y),
   fun i H => ∃ xs, Sq b1 K H l1 xs ∧ i = xs.length⟩
theorem ZX {b : Bool} {h : Heap} {it l : Addr} {k : Nat} (x : VU b h it l k) : ∃ o, h.get? it = some o ∧ ∀ v, o.data ≠ .cell v := by
  cases b
  · obtain ⟨o, ho, _, hd⟩ := x
    exact ⟨o, ho, fun v z => by rw [hd] at z; cases z⟩
  · obtain ⟨o, ho, _, hd⟩ := x
    exact ⟨o, ho, fun v z => by rw [hd] at z; cases z⟩
theorem XW {b : Bool} {h h' : Heap} {it l : Addr} {k : Nat} (x : VU b h it l k) (e : ∀ o, h.get? it = some o → h'.get? it = some o) : VU b h' it l k := by
  cases b
  · obtain ⟨o, ho, r⟩ := x
    exact ⟨o, e o ho, r⟩
  · obtain ⟨o, ho, r⟩ := x
    exact ⟨o, e o ho, r⟩
theorem zfE {P : Program} {w : World} {K : PySem.W.Frag} {es : List Expr} {k : Nat} {tp : Pos} (b1 b2 : Bool) (l1 l2 z TI TO i1 i2 : Addr) (ap : zgn z TI TO i1 i2 [i1, l1] [i2, l2]) (n1 : l1 ≠ i1) (n2 : l2 ≠ i2) :
    zg6 P w K (.Tuple es k tp) (Izp K b1 b2 l1 l2) [z, TI, TO, i1, i2] z (fun i h => IsZip h z TI TO .none ∧ IsPair h TI (.ref i1) (.ref i2) ∧ (∃ a b, IsPair h TO a b) ∧ VU b1 h i1 l1 i ∧ VU b2 h i2 l2 i) where
  mem := by simp
  obj := fun i h st b hb => by
    obtain ⟨hz, hTI, ⟨a, c, hTO⟩, h1, h2⟩ := st
    simp only [List.mem_cons, List.not_mem_nil, or_false] at hb
    rcases hb with rfl | rfl | rfl | rfl | rfl
    · exact ⟨_, hz, fun v z => by cases z⟩
    · exact ⟨_, hTI, fun v z => by cases z⟩
    · exact ⟨_, hTO, fun v z => by cases z⟩
    · exact ZX h1
    · exact ZX h2
  keep := fun i h h' st kk => by
    obtain ⟨hz, hTI, ⟨a, c, hTO⟩, h1, h2⟩ := st
    exact ⟨kk z (by simp) _ hz, kk TI (by simp) _ hTI, ⟨a, c, kk TO (by simp) _ hTO⟩, XW h1 fun o q => kk i1 (by simp) o q, XW h2 fun o q => kk i2 (by simp) o q⟩
  item := by
    intro X hP hw hK hc i pins s σ H E I hf st hg
    subst hP hw hK
    obtain ⟨hz, hTI, ⟨a, c, hTO⟩, h1, h2⟩ := st
    obtain ⟨xs, ys, x, y, hq1, hq2, hx, hy⟩ := hg
    obtain ⟨its, rv, p, _⟩ := I.sq hq1
    obtain ⟨its2, rv2, p2, _⟩ := I.sq hq2
    obtain ⟨u, hu, ru⟩ := rv.get hx
    obtain ⟨u2, hu2, ru2⟩ := rv2.get hy
    have hl1 : i < its.toArray.size := by simpa using (List.getElem?_eq_some_iff.mp hu).1
    have hl2 : i < its2.toArray.size := by simpa using (List.getElem?_eq_some_iff.mp hu2).1
    have hh : X.A.in1.handled = none := I.ok.hd hc
    refine Zr (Wn hh b1 i1 l1 n1 its.toArray) (Wn hh b2 i2 l2 n2 its2.toArray) ap hz hTI hTO ⟨h1, p⟩ ⟨h2, p2⟩ hl1 hl2 fun v1 v2 h' tk e1 e2 hz' hTO' s1 s2 hT' hk => ?_
    have eu : v1 = u := by
      have : its[i]? = some v1 := by simpa using e1
      rw [hu] at this
      exact (Option.some.inj this).symm
    have eu2 : v2 = u2 := by
      have : its2[i]? = some v2 := by simpa using e2
      rw [hu2] at this
      exact (Option.some.inj this).symm
    subst eu eu2
    obtain ⟨nd, az1, az2, ao1, ao2, a12, a21⟩ := ap
    simp only [List.nodup_cons, List.mem_cons, List.not_mem_nil, or_false, not_or, not_false_eq_true, List.nodup_nil, and_true] at nd
    obtain ⟨⟨m1, m2, m3, m4⟩, ⟨m5, m6, m7⟩, ⟨m8, m9⟩, m10⟩ := nd
    refine ⟨_, rfl, wpAny_letOwnedTupleGo_zip hz' fun h2' hz2 hs2 => ?_⟩
    have hfr : H s.heap.objs.size = none := I.hok.fresh (Nat.le_refl _)
    have neZ : s.heap.objs.size ≠ z := Nat.ne_of_gt (Heap.lt_size hz)
    have hT2 : IsPair h2' s.heap.objs.size v1 v2 := (hs2.2 _ neZ).trans hT'
    have hTI' : IsPair h' TI (.ref i1) (.ref i2) := hk TI _ (by simp [Ne.symm m1, m5, m6, m7]) hTI
    have lt : ∀ b ∈ [z, TI, TO, i1, i2], b < s.heap.objs.size := fun b hb => by
      simp only [List.mem_cons, List.not_mem_nil, or_false] at hb
      rcases hb with rfl | rfl | rfl | rfl | rfl
      · exact Heap.lt_size hz
      · exact Heap.lt_size hTI
      · exact Heap.lt_size hTO
      · obtain ⟨o, ho, _⟩ := ZX h1; exact Heap.lt_size ho
      · obtain ⟨o, ho, _⟩ := ZX h2; exact Heap.lt_size ho
    refine ⟨.ref s.heap.objs.size, upd H s.heap.objs.size (.tup [x, y]), ?_, rfl, ⟨_, x, y, rfl, hfr, rfl, fun zs hz => by rw [I.sq_inj hz hq1]; exact hx, fun zs hz => by rw [I.sq_inj hz hq2]; exact hy⟩,
      ⟨hz2, (hs2.2 TI (Ne.symm m1)).trans hTI', ⟨_, _, (hs2.2 TO (Ne.symm m2)).trans hTO'⟩, XW s1.1 fun o q => (hs2.2 i1 (Ne.symm m3)).trans q, XW s2.1 fun o q => (hs2.2 i2 (Ne.symm m4)).trans q⟩, fun b hb => ?_⟩
    · refine I.grown (ch := [z, TI, TO, i1, i2]) hf (Nat.le_refl _) (fun b v hb q => ?_) ?_
      · have nb : b ≠ z := fun w => hb (by simp [w])
        refine (hs2.2 b nb).trans (hk b v (fun w => hb ?_) q)
        simp only [List.mem_cons, List.not_mem_nil, or_false] at w ⊢
        rcases w with w | w | w | w
        · exact .inl w
        · exact .inr (.inr (.inl w))
        · exact .inr (.inr (.inr (.inl w)))
        · exact .inr (.inr (.inr (.inr w)))
      · exact ⟨by show 2 ≤ sizeLine; decide, [v1, v2], .cons ru (.cons ru2 .nil), ⟨_, hT2, rfl, 0, rfl⟩⟩
    · rw [zw (Nat.ne_of_lt (lt b hb))]
      exact (hf b hb).1
  done := by
    intro X hP hw hK hc i pins s σ H E I hf st hg
    subst hP hw hK
    obtain ⟨hz, hTI, ⟨a, c, hTO⟩, h1, h2⟩ := st
    obtain ⟨xs, hq, rfl⟩ := hg
    obtain ⟨its, rv, p, _⟩ := I.sq hq
    have hl := rv.length
    have hh : X.A.in1.handled = none := I.ok.hd hc
    have D := Wn (prog := X.prog) (w := X.w) hh b1 i1 l1 n1 its.toArray
    refine ZA D ap.z1 ?_ hz hTI ⟨by rw [List.size_toArray, ← hl]; exact h1, p⟩ fun h' hk => ⟨rfl, I.turnedN (ch := [z, TI, TO, i1, i2]) (t' := s.toks) hf fun b v hb q => hk b v (fun w => hb (by simp [w])) (fun w => hb (by simp [w])) q⟩
    have nd := ap.nd
    simp only [List.nodup_cons, List.mem_cons, List.not_mem_nil, or_false, not_or, not_false_eq_true, List.nodup_nil, and_true] at nd
    exact Ne.symm nd.1.2.2.1
  self := fun _ _ _ _ _ st h => wpAny_pyIter_zip st.1 h
noncomputable def iZip (K : PySem.W.Frag) (ta : TA) : TI := fun σ H R => ta σ H fun vs H1 => ∃ b1 b2 l1 l2 xs ys, vs = [.ref l1, .ref l2] ∧ Sq b1 K H1 l1 xs ∧ Sq b2 K H1 l2 ys ∧ R (Izp K b1 b2 l1 l2) H1
theorem zkD {X : Cx} {es : List Expr} {k : Nat} {tp : Pos} {a b : Expr} {ta : TA} {p pos : Pos} (hg : Gl X "zip") (hm : X.mg "zip" = none) (hb : bootBuiltins "zip" = some (.type "zip")) (ha : PA X [a, b] ta)
    (hs : starEach [a, b] X.env = [(false, eval a X.env), (false, eval b X.env)] := by rfl) (hs2 : starEach [b] X.env = [(false, eval b X.env)] := by rfl) : PI X (.Tuple es k tp) (.Call (.Name "zip" p) [a, b] [] pos) (iZip X.K ta) := by
  intro pins s σ H R I h
  refine Call_ (ZH I hg hm hb (PyProof.Rows.callWith_type1 (thn (ha pos pins s σ H _ I h) fun us s1 hh9 => ?_) (by rw [hs, hs2]) (by rw [hs2]; rfl)))
  obtain ⟨vs, H1, I1, r1, q1⟩ := hh9
  obtain ⟨b1, b2, l1, l2, xs, ys, e, hq1, hq2, q⟩ := q1
  subst e
  obtain ⟨u, u2, rfl, ru, ru2⟩ := zdh r1
  cases ru
  cases ru2
  obtain ⟨its, rv, p1, lt1⟩ := I1.sq hq1
  obtain ⟨its2, rv2, p2, lt2⟩ := I1.sq hq2
  refine zay p1 p2 fun h2 hz hTI hTO hi1 hi2 hk => wpAny_pyIter_zip hz ?_
  have hn : ∀ b, s1.heap.objs.size ≤ b → zcd X pins H1 b := fun b hb => I1.fpOk hb (I1.hok.fresh hb)
  have ap : zgn (s1.heap.objs.size + 4) (s1.heap.objs.size + 2) (s1.heap.objs.size + 3) s1.heap.objs.size (s1.heap.objs.size + 1) [s1.heap.objs.size, l1] [s1.heap.objs.size + 1, l2] := by
    have q1 : l1 ≠ s1.heap.objs.size := Nat.ne_of_lt lt1
    have q2 : ∀ j : Nat, s1.heap.objs.size + j ≠ l1 := fun j e => Nat.lt_irrefl _ (Nat.lt_of_lt_of_le (by rw [← e] at lt1; exact lt1) (Nat.le_add_right _ _))
    have q3 : ∀ j : Nat, s1.heap.objs.size + j ≠ l2 := fun j e => Nat.lt_irrefl _ (Nat.lt_of_lt_of_le (by rw [← e] at lt2; exact lt2) (Nat.le_add_right _ _))
    have ne : ∀ i j : Nat, i ≠ j → s1.heap.objs.size + i ≠ s1.heap.objs.size + j := fun i j h e => h (Nat.add_left_cancel e)
    have n0 : ∀ i : Nat, i ≠ 0 → s1.heap.objs.size + i ≠ s1.heap.objs.size := fun i h e => h (Nat.add_left_cancel (n := s1.heap.objs.size) (m := i) (k := 0) e)
    refine ⟨?_, ?_, ?_, ?_, ?_, ?_, ?_⟩
    · simp only [List.nodup_cons, List.mem_cons, List.not_mem_nil, or_false, not_or, not_false_eq_true, List.nodup_nil, and_true]
      exact ⟨⟨ne 4 2 (by decide), ne 4 3 (by decide), n0 4 (by decide), ne 4 1 (by decide)⟩, ⟨ne 2 3 (by decide), n0 2 (by decide), ne 2 1 (by decide)⟩, ⟨n0 3 (by decide), ne 3 1 (by decide)⟩, Ne.symm (n0 1 (by decide))⟩
    · simp only [List.mem_cons, List.not_mem_nil, or_false, not_or]; exact ⟨n0 4 (by decide), q2 4⟩
    · simp only [List.mem_cons, List.not_mem_nil, or_false, not_or]; exact ⟨ne 4 1 (by decide), q3 4⟩
    · simp only [List.mem_cons, List.not_mem_nil, or_false, not_or]; exact ⟨n0 3 (by decide), q2 3⟩
    · simp only [List.mem_cons, List.not_mem_nil, or_false, not_or]; exact ⟨ne 3 1 (by decide), q3 3⟩
    · simp only [List.mem_cons, List.not_mem_nil, or_false, not_or]; exact ⟨Ne.symm (n0 1 (by decide)), q3 0⟩
    · simp only [List.mem_cons, List.not_mem_nil, or_false, not_or]; exact ⟨n0 1 (by decide), q2 1⟩
  refine ⟨_, _, _, _, H1, rfl, I1.kept (t' := s1.toks) hk, zfE b1 b2 l1 l2 _ _ _ _ _ ap (Nat.ne_of_lt lt1) (Nat.ne_of_lt (Nat.lt_succ_of_lt lt2)), ⟨hz, hTI, ⟨_, _, hTO⟩, hi1, hi2⟩, fun b hb => ?_, q⟩
  simp only [List.mem_cons, List.not_mem_nil, or_false] at hb
  rcases hb with rfl | rfl | rfl | rfl | rfl
  · exact hn _ (Nat.le_add_right _ _)
  · exact hn _ (Nat.le_add_right _ _)
  · exact hn _ (Nat.le_add_right _ _)
  · exact hn _ (Nat.le_refl _)
  · exact hn _ (Nat.le_add_right _ _)
end L2
namespace OwnSort
open PySem PyProof.Rows
section pure
variable {κ : KeyKind} {xs : Array Keyed}
theorem up1 {x : Nat} (hs : SortedToK κ xs x) (hx : 1 ≤ x) (h : κ.kle (KK κ xs (x - 1)) (KK κ xs x)) : SortedToK κ xs (x + 1) := fun i j hij hj => by
  by_cases c : j < x
  · exact hs i j hij c
  · obtain rfl : j = x := by omega
    by_cases d : i = j
    · rw [d]; exact KeyOrd.kle_refl _
    · exact KeyOrd.kle_trans (hs i (j - 1) (by omega) (by omega)) h
theorem zfC {x : Nat} (hs : NonIncK κ xs x) (hx : 1 ≤ x) (h : κ.kle (KK κ xs x) (KK κ xs (x - 1))) : NonIncK κ xs (x + 1) := fun i j hij hj => by
  by_cases c : j < x
  · exact hs i j hij c
  · obtain rfl : j = x := by omega
    by_cases d : i = j
    · rw [d]; exact KeyOrd.kle_refl _
    · exact KeyOrd.kle_trans h (hs i (j - 1) (by omega) (by omega))
theorem WB {ys : Array Keyed} {n : Nat} (e : ∀ i, KK κ ys i = KK κ xs i) (h : NonIncK κ xs n) : NonIncK κ ys n := fun i j hij hj => by rw [e, e]; exact h i j hij hj
theorem turned {n : Nat} (hn : n ≤ xs.size) (h : NonIncK κ xs n) : SortedToK κ (mirror xs 0 n ((n - 0) / 2)) n := fun i j hij hj => by
  rw [KK_mirror hn, KK_mirror hn, if_pos ⟨by omega, by omega⟩, if_pos ⟨by omega, by omega⟩]
  exact h _ _ (by omega) (by omega)
theorem zdo : SortedToK κ xs 1 := fun i j hij hj => by
  obtain rfl : i = j := by omega
  exact KeyOrd.kle_refl _
theorem zc5 : NonIncK κ xs 1 := fun i j hij hj => by
  obtain rfl : i = j := by omega
  exact KeyOrd.kle_refl _
end pure
set_option genInjectivity false in
set_option genSizeOf false in
set_option genCtorIdx false in
structure SB (k : SortKind) (a₀ : Array Keyed) (st : SortSt) : Prop where
  pm : (arrOf st).Perm a₀
  kd : kindOf st = k
  fl : failedOf st = none
  pd : pendingOf st = #[]
theorem SB.sz {k : SortKind} {a₀ : Array Keyed} {st : SortSt} (B : SB k a₀ st) : (arrOf st).size = a₀.size := B.pm.size_eq
theorem SB.put {k : SortKind} {a₀ xs : Array Keyed} {st : SortSt} (B : SB k a₀ st) (p : xs.Perm (arrOf st)) : SB k a₀ (setArr st xs) := ⟨p.trans B.pm, B.kd, B.fl, B.pd⟩
section
variable {prog : Program} {w : World} {A : Around} {E : Value → Shared → Prop} {s : Shared} {a₀ : Array Keyed} {κ : KeyKind} {k : SortKind} {st : SortSt}
noncomputable def zgW (prog : Program) (w : World) (A : Around) (E : Value → Shared → Prop) (s : Shared) (a₀ : Array Keyed) (κ : KeyKind) (k : SortKind) : Prop :=
  ∀ (st : SortSt) (i j : Nat) (Q : Option Bool → SortSt → Prop), SB k a₀ st → i < a₀.size → j < a₀.size → Q (some (κ.blt (KK κ (arrOf st) i) (KK κ (arrOf st) j))) st → wpS (model prog w) A E s (ltAt' i j) Q st
theorem zeD {a n : Nat} {Q : AscSt → SortSt → Prop} (L : zgW prog w A E s a₀ κ k) (hn : n ≤ a₀.size) (ha : 1 ≤ a) (han : a ≤ n) (B : SB k a₀ st) (hs : SortedToK κ (arrOf st) a)
    (h : ∀ m, a ≤ m → m ≤ n → SortedToK κ (arrOf st) m → (m = n ∨ κ.klt (KK κ (arrOf st) m) (KK κ (arrOf st) (m - 1))) → Q (none, m) st) : wpS (model prog w) A E s (ascLoop a n) Q st := by
  unfold ascLoop
  refine wpS_forRange (I := fun x c t => (t = st ∧ c = (none, x)) ∧ SortedToK κ (arrOf st) x) (fun x c t h1 h2 hI => ?_) (fun c t hI => ?_) ⟨⟨rfl, rfl⟩, hs⟩
  · obtain ⟨⟨rfl, rfl⟩, hx⟩ := hI
    refine wpS_bind (L _ x (x - 1) _ B (by omega) (by omega) ?_)
    cases c : κ.blt (KK κ (arrOf t) x) (KK κ (arrOf t) (x - 1)) with
    | true => exact wpS_pure (h x h1 (by omega) hx (.inr c))
    | false => exact wpS_pure ⟨⟨rfl, rfl⟩, up1 hx (by omega) c⟩
  · obtain ⟨⟨rfl, rfl⟩, hx⟩ := hI
    have e : max a n = n := by omega
    rw [e] at hx ⊢
    exact h n han (Nat.le_refl _) hx (.inl rfl)
theorem zcE {n m : Nat} {Q : Option Nat → SortSt → Prop} (L : zgW prog w A E s a₀ κ k) (hm : m ≤ a₀.size) (h1 : 1 ≤ n) (hnm : n ≤ m) (B : SB k a₀ st) (hs : NonIncK κ (arrOf st) n)
    (h : ∀ r t, SB k a₀ t → 1 ≤ r → r ≤ m → SortedToK κ (arrOf t) r → Q (some r) t) : wpS (model prog w) A E s (tail3 n m) Q st := by
  unfold tail3
  have B' := B.put (mirror_perm (arrOf st) 0 n ((n - 0) / 2))
  exact wpS_bind (wpS_reverse (wpS_bind (zeD L hm h1 hnm B' (turned (by rw [B.sz]; omega) hs) fun r g1 g2 g3 _ => wpS_pure (h r _ B' (by omega) g2 g3))))
theorem zfs {n m : Nat} {Q : DescSt → SortSt → Prop} (L : zgW prog w A E s a₀ κ k) (hm : m ≤ a₀.size) (h1 : 1 ≤ n) (hnm : n ≤ m) (B : SB k a₀ st) (hs : NonIncK κ (arrOf st) n)
    (h : ∀ r q t, SB k a₀ t → n ≤ r → r ≤ m → NonIncK κ (arrOf t) r → q + 1 ≤ r → (∀ i, r - (q + 1) ≤ i → i < r → KK κ (arrOf t) i = KK κ (arrOf t) (r - 1)) → Q (none, r, q) t) : wpS (model prog w) A E s (descLoop n m) Q st := by
  unfold descLoop
  refine wpS_forRange (I := fun x c t => ∃ q, c = (none, x, q) ∧ SB k a₀ t ∧ NonIncK κ (arrOf t) x ∧ q + 1 ≤ x ∧ ∀ i, x - (q + 1) ≤ i → i < x → KK κ (arrOf t) i = KK κ (arrOf t) (x - 1))
    (fun x c t g1 g2 hI => ?_) (fun c t hI => ?_) ⟨0, rfl, B, hs, h1, fun i c1 c2 => by rw [show i = n - 1 from Nat.le_antisymm (Nat.le_sub_one_of_lt c2) c1]⟩
  · obtain ⟨q, rfl, B1, ni, hq, he⟩ := hI
    have hxs : x < a₀.size := Nat.lt_of_lt_of_le g2 hm
    have hxs1 : x - 1 < a₀.size := Nat.lt_of_le_of_lt (Nat.sub_le _ _) hxs
    have hx1 : 1 ≤ x := Nat.le_trans h1 g1
    have hz : x ≤ (arrOf t).size := by rw [B1.sz]; exact Nat.le_of_lt hxs
    refine wpS_bind (L _ x (x - 1) _ B1 hxs hxs1 ?_)
    cases c : κ.blt (KK κ (arrOf t) x) (KK κ (arrOf t) (x - 1)) with
    | true =>
      have d := zfC ni hx1 (KeyOrd.kle_of_klt c)
      by_cases hq0 : q > 0
      · show wpS _ _ _ _ (if q > 0 then _ else _) _ _
        rw [if_pos hq0]
        exact wpS_bind (wpS_reverse (wpS_pure ⟨0, rfl, B1.put (mirror_perm _ _ _ _), WB (KK_mirror_equal hz he) d, Nat.succ_le_succ (Nat.zero_le _), fun i c1 c2 => by rw [show i = x + 1 - 1 from Nat.le_antisymm (Nat.le_of_lt_succ c2) c1]⟩))
      · show wpS _ _ _ _ (if q > 0 then _ else _) _ _
        rw [if_neg hq0]
        exact wpS_pure ⟨0, rfl, B1, d, Nat.succ_le_succ (Nat.zero_le _), fun i c1 c2 => by rw [show i = x + 1 - 1 from Nat.le_antisymm (Nat.le_of_lt_succ c2) c1]⟩
    | false =>
      refine wpS_bind (L _ (x - 1) x _ B1 hxs1 hxs ?_)
      cases c2 : κ.blt (KK κ (arrOf t) (x - 1)) (KK κ (arrOf t) x) with
      | true => exact wpS_pure (h x q t B1 g1 (Nat.le_of_lt g2) ni hq he)
      | false =>
        have same : KK κ (arrOf t) x = KK κ (arrOf t) (x - 1) := KeyOrd.kle_antisymm c2 c
        refine wpS_pure ⟨q + 1, rfl, B1, zfC ni hx1 c2, Nat.succ_le_succ hq, fun i d1 d2 => ?_⟩
        show KK κ (arrOf t) i = KK κ (arrOf t) x
        by_cases di : i = x
        · rw [di]
        · rw [same]; exact he i (by omega) (by omega)
  · obtain ⟨q, rfl, B1, ni, hq, he⟩ := hI
    have e : max n m = m := Nat.max_eq_right hnm
    rw [e] at ni hq he ⊢
    exact h m q t B1 hnm (Nat.le_refl _) ni hq he
theorem Xx {n m : Nat} {Q : Option Nat → SortSt → Prop} (L : zgW prog w A E s a₀ κ k) (hm : m ≤ a₀.size) (hnm : n + 1 ≤ m) (B : SB k a₀ st) (hs : NonIncK κ (arrOf st) (n + 1))
    (h : ∀ r t, SB k a₀ t → 1 ≤ r → r ≤ m → SortedToK κ (arrOf t) r → Q (some r) t) : wpS (model prog w) A E s (descPart n m) Q st := by
  unfold descPart
  refine wpS_bind (wpS_lift (wpAny_rule ⟨rfl, wpS_bind (zfs L hm (by omega) hnm B hs fun r q t B1 r1 r2 ni hq he => ?_)⟩))
  have hz : r ≤ (arrOf t).size := by rw [B1.sz]; omega
  by_cases hq0 : q > 0
  · show wpS _ _ _ _ (if q > 0 then _ else _) _ _
    rw [if_pos hq0]
    exact wpS_bind (wpS_reverse (zcE (n := r) L hm (by omega) r2 (B1.put (mirror_perm _ _ _ _)) (WB (KK_mirror_equal hz he) ni) h))
  · show wpS _ _ _ _ (if q > 0 then _ else _) _ _
    rw [if_neg hq0]
    exact zcE (n := r) L hm (by omega) r2 B1 ni h
theorem zhS {m : Nat} {Q : Option Nat → SortSt → Prop} (L : zgW prog w A E s a₀ κ k) (hm : m ≤ a₀.size) (h1 : 1 ≤ m) (B : SB k a₀ st)
    (h : ∀ r t, SB k a₀ t → 1 ≤ r → r ≤ m → SortedToK κ (arrOf t) r → Q (some r) t) : wpS (model prog w) A E s (countRun' 0 m) Q st := by
  rw [countRun0_eq]
  refine wpS_bind (zeD L hm (Nat.le_refl 1) h1 B zdo fun n n1 n2 sn or => ?_)
  show wpS _ _ _ _ (if (n == m) = true then _ else if n > 1 then _ else _) _ _
  by_cases e : n = m
  · rw [if_pos (by rw [e]; exact beq_self_eq_true m)]
    exact wpS_pure (h n st B n1 n2 sn)
  · rw [if_neg (fun z => e (eq_of_beq z))]
    have lt := or.resolve_left e
    by_cases g : n > 1
    · rw [if_pos g]
      refine wpS_bind (L _ 0 (n - 1) _ B (by omega) (by omega) ?_)
      cases c : κ.blt (KK κ (arrOf st) 0) (KK κ (arrOf st) (n - 1)) with
      | true => exact wpS_pure (h n st B n1 n2 sn)
      | false =>
        have hz : n ≤ (arrOf st).size := by rw [B.sz]; omega
        have eq : ∀ i, 0 ≤ i → i < n → KK κ (arrOf st) i = KK κ (arrOf st) (n - 1) := fun i _ hi =>
          KeyOrd.kle_antisymm (sn i (n - 1) (by omega) (by omega)) (KeyOrd.kle_trans c (sn 0 i (by omega) hi))
        have ni : NonIncK κ (arrOf st) n := fun i j _ hj => by rw [eq i (by omega) (by omega), eq j (by omega) hj]; exact KeyOrd.kle_refl _
        exact wpS_bind (wpS_reverse (Xx L hm (by omega) (B.put (mirror_perm _ _ _ _)) (WB (KK_mirror_equal hz eq) (zfC ni (by omega) (KeyOrd.kle_of_klt lt))) h))
    · rw [if_neg g]
      obtain rfl : n = 1 := by omega
      exact Xx L hm (by omega) B (zfC zc5 (Nat.le_refl 1) (KeyOrd.kle_of_klt lt)) h
theorem zj6 {l u md : Nat} (h : (l + u) / 2 = md) (c : ¬ l ≥ u) : l ≤ md ∧ md < u := by
  have c' : l < u := Nat.lt_of_not_le c
  rw [← h]
  exact ⟨(Nat.le_div_iff_mul_le (by decide)).mpr (by rw [Nat.mul_two]; exact Nat.add_le_add_left (Nat.le_of_lt c') l), (Nat.div_lt_iff_lt_mul (by decide)).mpr (by rw [Nat.mul_two]; exact Nat.add_lt_add_right c' u)⟩
theorem zly {l u md x y : Nat} (m1 : l ≤ md) (m2 : md < u) (e3 : u - l ≤ x - y) : md - l ≤ x - (y + 1) :=
  Nat.le_trans (Nat.le_sub_one_of_lt (Nat.sub_lt_sub_right m1 m2)) (Nat.sub_le_sub_right e3 1)
theorem zlB {l u md x y : Nat} (m1 : l ≤ md) (e3 : u - l ≤ x - y) : u - (md + 1) ≤ x - (y + 1) :=
  Nat.le_trans (Nat.sub_le_sub_left (Nat.succ_le_succ m1) u) (Nat.sub_le_sub_right e3 1)
theorem zjL (r n : Nat) : min (max (max r 1) n) n = n := Nat.min_eq_right (Nat.le_max_right _ _)
theorem zky {r n : Nat} (r0 : ¬ r = 0) (hr : r ≤ n) : min (max r 1) n = r := by
  rw [Nat.max_eq_left (Nat.pos_of_ne_zero r0), Nat.min_eq_left hr]
theorem zkE {i j r n : Nat} (hr : r = 0) (hij : i ≤ j) (hj : j < min (max r 1) n) : i = j := by
  subst hr
  have h0 : j = 0 := Nat.lt_one_iff.mp (Nat.lt_of_lt_of_le hj (Nat.min_le_left _ _))
  subst h0
  exact Nat.le_zero.mp hij
theorem zh5 {n r : Nat} {Q : Bool → SortSt → Prop} (L : zgW prog w A E s a₀ κ k) (hn : n ≤ a₀.size) (hr : r ≤ n) (B : SB k a₀ st) (hs : SortedToK κ (arrOf st) r)
    (h : ∀ t, SB k a₀ t → SortedToK κ (arrOf t) n → Q true t) : wpS (model prog w) A E s (binarySort' 0 n r) Q st := by
  rw [binarySort'_eq]
  refine wpS_bind (wpS_mono (wpS_forRange (I := fun x c t => (c = (none, ()) ∧ SB k a₀ t) ∧ SortedToK κ (arrOf t) (min x n)) (Q := fun c t => (c = (none, ()) ∧ SB k a₀ t) ∧ SortedToK κ (arrOf t) n)
    (fun x c t g1 g2 hI => ?_) (fun c t hI => ?_) ⟨⟨rfl, B⟩, ?_⟩) fun c t hI => ?_)
  · obtain ⟨⟨rfl, B1⟩, sx⟩ := hI
    rw [Nat.min_eq_left (Nat.le_of_lt g2)] at sx
    have hx : x < a₀.size := Nat.lt_of_lt_of_le g2 hn
    refine wpS_bind (wpS_mono (wpS_forRange
      (I := fun y c t' => t' = t ∧ ∃ l u, c = (none, l, u) ∧ (l ≤ u ∧ u ≤ x ∧ u - l ≤ x - y) ∧ (∀ i, i < l → κ.kle (KK κ (arrOf t) i) (KK κ (arrOf t) x)) ∧ ∀ i, u ≤ i → i < x → κ.klt (KK κ (arrOf t) x) (KK κ (arrOf t) i))
      (Q := fun c t' => t' = t ∧ ∃ l u, c = (none, l, u) ∧ l ≤ x ∧ (∀ i, i < l → κ.kle (KK κ (arrOf t) i) (KK κ (arrOf t) x)) ∧ ∀ i, l ≤ i → i < x → κ.klt (KK κ (arrOf t) x) (KK κ (arrOf t) i))
      (fun y c t' y1 y2 hJ => ?_) (fun c t' hJ => ?_) ⟨rfl, 0, x, rfl, ⟨Nat.zero_le _, Nat.le_refl _, Nat.le_refl _⟩, fun i hi => absurd hi (Nat.not_lt_zero _), fun i i1 i2 => absurd (Nat.lt_of_le_of_lt i1 i2) (Nat.lt_irrefl _)⟩) fun c t' hJ => ?_)
    · obtain ⟨rfl, l, u, rfl, ⟨e1, e2, e3⟩, lo, up⟩ := hJ
      show wpS _ _ _ _ (if l ≥ u then _ else _) _ _
      by_cases c1 : l ≥ u
      · rw [if_pos c1]
        obtain rfl : l = u := Nat.le_antisymm e1 c1
        exact wpS_pure ⟨rfl, l, l, rfl, e2, lo, up⟩
      · rw [if_neg c1]
        generalize hmd : (l + u) / 2 = md
        obtain ⟨m1, m2⟩ := zj6 hmd c1
        clear hmd c1 e1
        refine wpS_bind (L _ (0 + x) (0 + md) _ B1 (by rw [Nat.zero_add]; exact hx) (by rw [Nat.zero_add]; exact Nat.lt_of_lt_of_le m2 (Nat.le_trans e2 (Nat.le_of_lt hx))) ?_)
        rw [Nat.zero_add, Nat.zero_add]
        cases c2 : κ.blt (KK κ (arrOf t') x) (KK κ (arrOf t') md) with
        | true => exact wpS_pure ⟨rfl, l, md, rfl, ⟨m1, Nat.le_trans (Nat.le_of_lt m2) e2, zly m1 m2 e3⟩, lo, fun i i1 i2 => KeyOrd.klt_of_klt_of_kle c2 (sx _ _ i1 i2)⟩
        | false => exact wpS_pure ⟨rfl, md + 1, u, rfl, ⟨m2, e2, zlB m1 e3⟩, fun i i1 => KeyOrd.kle_trans (sx i md (Nat.le_of_lt_succ i1) (Nat.lt_of_lt_of_le m2 e2)) c2, up⟩
    · obtain ⟨rfl, l, u, rfl, ⟨e1, e2, e3⟩, lo, up⟩ := hJ
      obtain rfl : l = u := by omega
      exact ⟨rfl, l, l, rfl, e2, lo, up⟩
    · obtain ⟨rfl, l, u, rfl, e2, lo, up⟩ := hJ
      show wpS _ _ _ _ (do moveDown' (0 + x) (0 + l); pure (ForInStep.yield (none, ()))) _ _
      rw [moveDown'_eq, Nat.zero_add, Nat.zero_add]
      refine wpS_bind (wpS_modify (wpS_pure ⟨⟨rfl, B1.put (bubble_perm _ _ _)⟩, ?_⟩))
      have hz : x < (arrOf t').size := by rw [B1.sz]; exact hx
      rw [Nat.min_eq_left (Nat.succ_le_of_lt g2)]
      show SortedToK κ (bubble (arrOf t') x (x - l)) (x + 1)
      intro i j hij hj
      rw [KK_bubble hz (Nat.sub_le _ _), KK_bubble hz (Nat.sub_le _ _), Nat.sub_sub_self e2]
      by_cases i1 : i = l
      · rw [if_pos i1]
        by_cases j1 : j = l
        · rw [if_pos j1]; exact KeyOrd.kle_refl _
        · have lj : l < j := Nat.lt_of_le_of_ne (by rw [← i1]; exact hij) (fun e => j1 e.symm)
          rw [if_neg j1, if_pos ⟨lj, Nat.le_of_lt_succ hj⟩]; exact KeyOrd.kle_of_klt (up _ (Nat.le_sub_one_of_lt lj) (Nat.lt_of_lt_of_le (Nat.sub_lt (Nat.zero_lt_of_lt lj) Nat.one_pos) (Nat.le_of_lt_succ hj)))
      · rw [if_neg i1]
        by_cases i2 : l < i ∧ i ≤ x
        · have lj := Nat.lt_of_lt_of_le i2.1 hij
          rw [if_pos i2, if_neg (fun e => absurd lj (by rw [e]; exact Nat.lt_irrefl _)), if_pos ⟨lj, Nat.le_of_lt_succ hj⟩]; exact sx _ _ (Nat.sub_le_sub_right hij 1) (Nat.lt_of_lt_of_le (Nat.sub_lt (Nat.zero_lt_of_lt lj) Nat.one_pos) (Nat.le_of_lt_succ hj))
        · rw [if_neg i2]
          have i3 : i < l := Nat.lt_of_le_of_ne (Nat.le_of_not_lt fun h => i2 ⟨h, Nat.le_trans hij (Nat.le_of_lt_succ hj)⟩) i1
          clear i2 i1
          by_cases j1 : j = l
          · rw [if_pos j1]; exact lo i i3
          · rw [if_neg j1]
            by_cases j2 : l < j ∧ j ≤ x
            · rw [if_pos j2]; exact sx _ _ (Nat.le_sub_one_of_lt (Nat.lt_trans i3 j2.1)) (Nat.lt_of_lt_of_le (Nat.sub_lt (Nat.zero_lt_of_lt j2.1) Nat.one_pos) (Nat.le_of_lt_succ hj))
            · rw [if_neg j2]; exact sx _ _ hij (Nat.lt_of_lt_of_le (Nat.lt_of_le_of_ne (Nat.le_of_not_lt fun h => j2 ⟨h, Nat.le_of_lt_succ hj⟩) j1) e2)
  · obtain ⟨⟨e1, B1⟩, sx⟩ := hI
    rw [zjL] at sx
    exact ⟨⟨e1, B1⟩, sx⟩
  · by_cases r0 : r = 0
    · intro i j hij hj
      obtain rfl : i = j := zkE r0 hij hj
      exact KeyOrd.kle_refl _
    · rw [zky r0 hr]; exact hs
  · obtain ⟨⟨rfl, B1⟩, sx⟩ := hI
    exact wpS_pure (h t B1 sx)
theorem zgs {Q : Unit → SortSt → Prop} (L : zgW prog w A E s a₀ κ k) (B : SB k a₀ st) (h2 : 2 ≤ a₀.size) (h64 : a₀.size < 64)
    (h : ∀ t, (arrOf t).Perm a₀ → failedOf t = none → SortedToK κ (arrOf t) a₀.size → Q () t) : wpS (model prog w) A E s sortRuns' Q st := by
  rw [sortRuns'_eq]
  have mr : minRun' a₀.size a₀.size 0 = a₀.size := by
    cases e : a₀.size with
    | zero => omega
    | succ f => rw [minRun'_succ, if_pos (by omega), Nat.add_zero]
  refine wpS_bind (wpS_get ?_)
  simp only [B.sz, mr]
  let Dn : SortSt → Prop := fun t => (arrOf t).Perm a₀ ∧ failedOf t = none ∧ pendingOf t = #[(0, a₀.size, 0)] ∧ SortedToK κ (arrOf t) a₀.size
  have fin : ∀ t, SB k a₀ t → SortedToK κ (arrOf t) a₀.size → Dn (setPending t ((pendingOf t).push (0, a₀.size, 0))) := fun t B1 sx => ⟨B1.pm, B1.fl, by show (pendingOf t).push _ = _; rw [B1.pd]; rfl, sx⟩
  refine wpS_bind (wpS_mono (wpS_forRange (I := fun x c t => (x = 0 ∧ c = (none, 0) ∧ SB k a₀ t) ∨ (1 ≤ x ∧ c = (none, a₀.size) ∧ Dn t)) (Q := fun c t => c = (none, a₀.size) ∧ Dn t)
    (fun x c t g1 g2 hI => ?_) (fun c t hI => ?_) (.inl ⟨rfl, rfl, B⟩)) fun c t hI => ?_)
  · rcases hI with ⟨rfl, rfl, B1⟩ | ⟨_, rfl, D1⟩
    · show wpS _ _ _ _ (if 0 ≥ a₀.size then _ else _) _ _
      rw [if_neg (by omega)]
      simp only [Nat.sub_zero, Nat.min_self, Nat.zero_add]
      refine wpS_bind (zhS L (Nat.le_refl _) (by omega) B1 fun r t2 B2 r1 r2 s2 => ?_)
      show wpS _ _ _ _ (if r < a₀.size then _ else _) _ _
      by_cases c1 : r < a₀.size
      · rw [if_pos c1]
        refine wpS_bind (wpS_lift (wpAny_rule ⟨rfl, wpS_bind (zh5 L (Nat.le_refl _) r2 B2 s2 fun t3 B3 s3 => ?_)⟩))
        refine wpS_bind (wpS_get ?_)
        rw [show (pendingOf t3).back? = none by rw [B3.pd]; rfl]
        exact wpS_bind (wpS_modify (wpS_pure (.inr ⟨by omega, rfl, fin t3 B3 s3⟩)))
      · rw [if_neg c1]
        obtain rfl : r = a₀.size := by omega
        refine wpS_bind (wpS_get ?_)
        rw [show (pendingOf t2).back? = none by rw [B2.pd]; rfl]
        exact wpS_bind (wpS_modify (wpS_pure (.inr ⟨by omega, rfl, fin t2 B2 s2⟩)))
    · show wpS _ _ _ _ (if a₀.size ≥ a₀.size then _ else _) _ _
      rw [if_pos (Nat.le_refl _)]
      exact wpS_pure ⟨rfl, D1⟩
  · rcases hI with ⟨z, _, _⟩ | ⟨_, e, D1⟩
    · omega
    · exact ⟨e, D1⟩
  · obtain ⟨rfl, d1, d2, d3, d4⟩ := hI
    refine wpS_bind (wpS_mono (wpS_forRange (I := fun _ c t' => t' = t ∧ c = (none, ())) (Q := fun c t' => t' = t ∧ c = (none, ())) (fun x c t' _ _ hI => ?_) (fun _ _ z => z) ⟨rfl, rfl⟩) fun c t' hI => ?_)
    · obtain ⟨rfl, rfl⟩ := hI
      refine wpS_bind (wpS_get ?_)
      rw [if_pos (by rw [d3]; exact Nat.le_refl 1)]
      exact wpS_pure ⟨rfl, rfl⟩
    · obtain ⟨rfl, rfl⟩ := hI
      exact wpS_pure (h _ d1 d2 d4)
end
noncomputable abbrev Pr := Int × Int
noncomputable def bltP (s t : Pr) : Bool := decide (s.1 < t.1 ∨ (s.1 = t.1 ∧ s.2 < t.2))
noncomputable def TP (h : Heap) (v : Value) (t : Pr) : Prop := ∃ a o n tx ty, v = .ref a ∧ h.get? a = some o ∧ o.cls = .type "tuple" ∧ o.data = .seq #[.int t.1 tx, .int t.2 ty] n
theorem TP.uniq {h : Heap} {v : Value} {s t : Pr} (x : TP h v s) (y : TP h v t) : s = t := by
  obtain ⟨a, o, n, tx, ty, rfl, e1, _, d1⟩ := x
  obtain ⟨b, o2, n2, ux, uy, e, e2, _, d2⟩ := y
  cases e
  rw [e1] at e2
  cases e2
  rw [d1] at d2
  injection d2 with d2 _
  have := congrArg Array.toList d2
  simp at this
  exact Prod.ext this.1.1 this.2.1
theorem TP.keep {h h' : Heap} {v : Value} {t : Pr} (x : TP h v t) (k : ∀ b o, h.get? b = some o → h'.get? b = some o) : TP h' v t := by
  obtain ⟨a, o, n, tx, ty, e, e1, r⟩ := x
  exact ⟨a, o, n, tx, ty, e, k _ _ e1, r⟩
open Classical in
noncomputable def keyP (h : Heap) (v : Value) : Option Pr := if x : ∃ t, TP h v t then some x.choose else none
theorem keyP_of {h : Heap} {v : Value} {t : Pr} (x : TP h v t) : keyP h v = some t := by
  unfold keyP
  have y : ∃ t, TP h v t := ⟨t, x⟩
  rw [dif_pos y, y.choose_spec.uniq x]
@[reducible] noncomputable def zgB (h : Heap) : KeyKind where
  α := Pr
  blt := bltP
  irrefl a := by unfold bltP; exact decide_eq_false (by omega)
  trans a b c h1 h2 := by unfold bltP at *; rw [decide_eq_true_eq] at *; omega
  negTrans a b c h := by unfold bltP at *; rw [decide_eq_true_eq] at *; rw [decide_eq_true_eq]; omega
  total a b h1 h2 := by
    unfold bltP at *
    rw [decide_eq_false_iff_not] at *
    exact Prod.ext (by omega) (by omega)
  keyOf := keyP h
  dflt := (0, 0)
theorem zem (b : Bool) (x y : Value) : keyLt' (tuples' b) x y = (do
    let xs ← Builtin.List.listItems x
    let ys ← Builtin.List.listItems y
    for ((p, q), i) in (xs.toList.zip ys.toList).zipIdx do
      if !(← eqBool p q) then return ← oneLt' (b && i == 0) p q
    return xs.size < ys.size) := rfl
theorem zeT (v : Value) : firstOfTuple' v = (do
    if (← typeOf v) != .type "tuple" then return none
    return (← Builtin.List.listItems v)[0]?) := rfl
section
variable {prog : Program} {w : World} {A : Around} {E : Value → Shared → Prop} {s : Shared}
theorem lt0 {a b : Int} {t u : Tok} {Q : Bool → Shared → Prop} (h : Q (decide (a < b)) s) : wpAny (model prog w) A (oneLt' false (.int a t) (.int b u)) Q E s := by
  rw [oneLt'_eq]
  rw [if_neg Bool.false_ne_true]
  exact wpAny_bind (PyProof.Rows.lt_int (wpAny_truthy_bool h))
theorem zjR {x y : Value} {a b : Pr} {Q : Bool → Shared → Prop} (hx : TP s.heap x a) (hy : TP s.heap y b) (h : Q (bltP a b) s) : wpAny (model prog w) A (keyLt' (tuples' true) x y) Q E s := by
  obtain ⟨p, o, n, t1, t2, rfl, e1, _, d1⟩ := hx
  obtain ⟨q, o2, n2, u1, u2, rfl, e2, _, d2⟩ := hy
  rw [zem]
  refine wpAny_bind (listItems_at e1 d1 (wpAny_bind (listItems_at e2 d2 ?_)))
  simp only [List.zip_cons_cons, List.zip_nil_right, List.zipIdx_cons, List.zipIdx_nil, List.forIn_cons, List.forIn_nil]
  refine wpAny_bind (wpAny_bind (wpAny_bind (SeqAt.EqAt.int_int a.1 t1 b.1 u1 prog w E _ ?_)))
  by_cases c : a.1 = b.1
  · rw [show (a.1 == b.1) = true by rw [c]; exact beq_self_eq_true _]
    refine wpAny_pure (wpAny_bind (wpAny_bind (SeqAt.EqAt.int_int a.2 t2 b.2 u2 prog w E _ ?_)))
    by_cases c2 : a.2 = b.2
    · rw [show (a.2 == b.2) = true by rw [c2]; exact beq_self_eq_true _]
      refine wpAny_pure (wpAny_pure (wpAny_pure ?_))
      have : bltP a b = false := by unfold bltP; exact decide_eq_false (by omega)
      rw [this] at h
      exact h
    · rw [show (a.2 == b.2) = false by simpa using c2]
      refine wpAny_bind (lt0 (wpAny_pure (wpAny_pure (wpAny_pure ?_))))
      have : bltP a b = decide (a.2 < b.2) := by unfold bltP; congr 1; apply propext; omega
      rw [this] at h
      exact h
  · rw [show (a.1 == b.1) = false by simpa using c]
    refine wpAny_bind (oneLt_int (wpAny_pure (wpAny_pure (wpAny_pure ?_))))
    have : bltP a b = decide (a.1 < b.1) := by unfold bltP; congr 1; apply propext; omega
    rw [this] at h
    exact h
theorem zgv {vs : List Value} (hT : ∀ v ∈ vs, ∃ t, TP s.heap v t) : zgW prog w A E s (pairsOf vs) (zgB s.heap) (tuples' true) := by
  intro st i j Q B hi hj h
  have look : ∀ {i : Nat}, i < (pairsOf vs).size → ∃ x p t, (arrOf st)[i]? = some (x, p) ∧ TP s.heap x t ∧ KK (zgB s.heap) (arrOf st) i = t := fun {i} hi => by
    have hi' : i < (arrOf st).size := by rw [B.sz]; exact hi
    have hm : (arrOf st)[i] ∈ (pairsOf vs).toList := (Array.perm_iff_toList_perm.mp B.pm).mem_iff.mp (by simp)
    rw [pairsOf_toList] at hm
    obtain ⟨t, ht⟩ := hT _ (mem_zip_self hm).2
    refine ⟨(arrOf st)[i].1, (arrOf st)[i].2, t, getElem?_pos _ i hi', ht, ?_⟩
    unfold KK
    rw [getElem?_pos _ i hi']
    show (keyP s.heap (arrOf st)[i].1).getD _ = t
    rw [keyP_of ht]
    rfl
  obtain ⟨x, p, a, e1, ta, ka⟩ := look hi
  obtain ⟨y, q, b, e2, tb, kb⟩ := look hj
  rw [ka, kb] at h
  rw [ltAt'_eq]
  refine wpS_bind (wpS_get ?_)
  show wpS _ _ _ _ (elem' (arrOf st) i >>= fun x => elem' (arrOf st) j >>= fun y => lt' x y) Q st
  rw [elem'_eq, elem'_eq, e1, e2]
  refine wpS_bind (wpS_pure (wpS_bind (wpS_pure ?_)))
  rw [lt'_eq]
  refine wpS_bind (wpS_get ?_)
  rw [B.kd]
  exact wpS_bind (wpS_lift (wpAny_attempt (zjR ta tb ⟨rfl, wpS_pure h⟩)))
theorem zaj : ∀ {vs : List Value} {Q : List (Option Value) → Shared → Prop}, (∀ v ∈ vs, ∃ t, TP s.heap v t) → (∀ fs : List Value, fs.length = vs.length → (∀ f ∈ fs, ∃ i t, f = .int i t) → Q (fs.map some) s) → wpAny (model prog w) A (vs.mapM firstOfTuple') Q E s
  | [], Q, _, h => by rw [List.mapM_nil]; exact wpAny_pure (h [] rfl (by simp))
  | v :: vs, Q, hT, h => by
    obtain ⟨t, a, o, n, t1, t2, rfl, e1, c1, d1⟩ := hT v List.mem_cons_self
    rw [List.mapM_cons, zeT]
    refine wpAny_bind (wpAny_bind (wpAny_typeOf (T := "tuple") ⟨o, e1, c1⟩ ?_))
    rw [if_neg (by simp)]
    refine wpAny_bind (listItems_at e1 d1 (wpAny_pure (wpAny_bind (zaj (fun u hu => hT u (List.mem_cons_of_mem _ hu)) fun fs hl hf => wpAny_pure ?_))))
    exact h (.int t.1 t1 :: fs) (by simp [hl]) fun f hf' => by
      rcases List.mem_cons.mp hf' with rfl | hf'
      · exact ⟨_, _, rfl⟩
      · exact hf f hf'
theorem zcz : ∀ {fs : List Value}, (∀ f ∈ fs, ∃ i t, f = .int i t) → fs.mapM typeOf = pure (fs.map fun _ => Value.type "int")
  | [], _ => by simp
  | f :: fs, h => by
    obtain ⟨i, t, rfl⟩ := h f List.mem_cons_self
    rw [List.mapM_cons, zcz fun g hg => h g (List.mem_cons_of_mem _ hg), show typeOf (.int i t) = pure (.type "int") from rfl]
    simp
theorem zda {v₁ : Value} {vs : List Value} {Q : SortKind → Shared → Prop} (hT : ∀ v ∈ v₁ :: vs, ∃ t, TP s.heap v t) (h : Q (tuples' true) s) : wpAny (model prog w) A (keyKind' (v₁ :: vs).toArray) Q E s := by
  rw [keyKind'_eq, List.mapM_toArray, ← bind_pure_comp, bind_assoc]
  refine wpAny_bind (zaj hT fun fs hl hf => wpAny_bind (wpAny_pure ?_))
  cases fs with
  | nil => simp at hl
  | cons f fs =>
    rw [if_pos (by simp)]
    have ef : ((f :: fs).map some).toArray.filterMap id = (f :: fs).toArray := by simp
    refine wpAny_bind (wpAny_rule ?_)
    rw [ef, oneTypeOnly'_eq, List.mapM_toArray, zcz hf]
    simp only [map_pure, pure_bind]
    rw [show (List.map (fun _ => Value.type "int") (f :: fs)).toArray[0]? = some (Value.type "int") by simp]
    have al : ((List.map (fun _ => Value.type "int") (f :: fs)).toArray.all fun x => x == Value.type "int") = true := by
      simp only [List.all_toArray, List.all_map, List.all_eq_true]
      intro _ _
      rfl
    simp only [al, if_true, pure_bind, Option.any_some]
    rw [show (Value.type "int" != Value.type "tuple") = true by decide +kernel]
    exact wpAny_pure h
end
theorem TP.keepT {h h' : Heap} {v : Value} {t : Pr} (x : TP h v t) (k : ∀ b o, o.cls = .type "tuple" → h.get? b = some o → h'.get? b = some o) : TP h' v t := by
  obtain ⟨a, o, n, tx, ty, e, e1, c, r⟩ := x
  exact ⟨a, o, n, tx, ty, e, k _ _ c e1, c, r⟩
noncomputable def zjB (h : Heap) (out : List Value) : Prop := ∃ ts : List Pr, out.length = ts.length ∧ (∀ (i : Nat) (v : Value) (t : Pr), out[i]? = some v → ts[i]? = some t → TP h v t) ∧ ts.Pairwise fun a b => bltP b a = false
theorem zby {h h' : Heap} {vs : List Value} {xs : Array Keyed} (hT : ∀ v ∈ vs, ∃ t, TP h v t) (hk : ∀ v t, TP h v t → TP h' v t) (pm : xs.Perm (pairsOf vs)) (hs : SortedToK (zgB h') xs (pairsOf vs).size) : (xs.map (·.2)).toList.Perm vs ∧ zjB h (xs.map (·.2)).toList := by
  have hl : xs.toList.Perm (vs.zip vs) := by rw [← pairsOf_toList]; exact Array.perm_iff_toList_perm.mp pm
  have hm : ∀ p ∈ xs.toList, p.1 = p.2 ∧ p.1 ∈ vs := fun p hp => mem_zip_self (hl.mem_iff.mp hp)
  have e2 : (xs.map (·.2)).toList = xs.toList.map (·.2) := by simp
  rw [e2]
  refine ⟨?_, xs.toList.map fun p => (keyP h' p.1).getD (0, 0), by simp, fun i v t hv ht => ?_, ?_⟩
  · have := hl.map (·.2)
    rwa [show (vs.zip vs).map (·.2) = vs from List.map_snd_zip (Nat.le_refl _)] at this
  · rw [List.getElem?_map] at hv ht
    cases hx : xs.toList[i]? with
    | none => rw [hx] at hv; cases hv
    | some p =>
      rw [hx] at hv ht
      cases hv
      cases ht
      obtain ⟨q1, q2⟩ := hm p (List.mem_of_getElem? hx)
      obtain ⟨t, ht⟩ := hT _ q2
      show TP h p.2 ((keyP h' p.1).getD (0, 0))
      rw [keyP_of (hk _ _ ht), ← q1]
      exact ht
  · rw [List.pairwise_iff_getElem]
    intro i j hi hj hij
    have hi' : i < xs.size := by simpa using hi
    have hj' : j < xs.size := by simpa using hj
    have := hs i j (Nat.le_of_lt hij) (by rw [← pm.size_eq]; exact hj')
    unfold KK at this
    rw [getElem?_pos xs i hi', getElem?_pos xs j hj'] at this
    have this : bltP ((keyP h' xs[j].1).getD (0, 0)) ((keyP h' xs[i].1).getD (0, 0)) = false := this
    simpa using this
section
variable {prog : Program} {w : World} {A : Around} {E : Value → Shared → Prop} {s : Shared}
theorem VQ {a : Addr} {vs : List Value} {n : Nat} {P : Fin → Shared → Prop} (ho : s.heap.get? a = some (seqObj "list" vs.toArray n)) (hT : ∀ v ∈ vs, ∃ t, TP s.heap v t) (h64 : vs.length < 64)
    (h : ∀ out : Array Value, out.toList.Perm vs → zjB s.heap out.toList → P (.done (.ret .none)) { s with heap := sortedHeap s.heap a vs out }) : wpAny (model prog w) A (Builtin.«list.sort» ⟨[.ref a], []⟩) P E s := by
  have la : a < s.heap.objs.size := Heap.lt_size ho
  have zl : vs.toArray.size = vs.length := List.size_toArray
  obtain ⟨e1, o1⟩ : ∃ e1, (s.heap.update a (Obj.mapSeq fun _ => #[])).get? a = some (seqObj "list" #[] e1) := ⟨_, get?_update_seq ho (fun _ => #[])⟩
  have o6 : (((s.heap.update a (Obj.mapSeq fun _ => #[])).push (seqObj "tuple" vs.toArray 0)).push (seqObj "list" #[] 0)).get? a = some (seqObj "list" #[] e1) := Heap.get?_push_of_some _ (Heap.get?_push_of_some _ o1)
  have up : ∀ b o, o.cls = .type "tuple" → s.heap.get? b = some o → (((s.heap.update a (Obj.mapSeq fun _ => #[])).push (seqObj "tuple" vs.toArray 0)).push (seqObj "list" #[] 0)).get? b = some o := fun b o c e => by
    refine Heap.get?_push_of_some _ (Heap.get?_push_of_some _ ((Heap.get?_update_other _ _ fun z => ?_).trans e))
    subst z
    rw [ho] at e
    cases e
    exact absurd (show Value.type "list" = Value.type "tuple" from c) (by decide +kernel)
  have hT6 : ∀ v ∈ vs, ∃ t, TP (((s.heap.update a (Obj.mapSeq fun _ => #[])).push (seqObj "tuple" vs.toArray 0)).push (seqObj "list" #[] 0)) v t := fun v hv => let ⟨t, ht⟩ := hT v hv; ⟨t, ht.keepT up⟩
  rw [list_sort_plain]
  refine wpAny_bind (listItems_at ho rfl (wpAny_bind (listUpdate_at ho rfl (wpAny_bind (seqEpoch_at o1 rfl (wpAny_bind (wpAny_newTuple (wpAny_bind (wpAny_newList (wpAny_holding ?_))))))))))
  show wpAny (model prog w) A _ P E { s with heap := ((s.heap.update a (Obj.mapSeq fun _ => #[])).push (seqObj "tuple" vs.toArray 0)).push (seqObj "list" #[] 0) }
  by_cases c2 : vs.toArray.size < 2
  · rw [if_pos c2, if_pos c2]
    refine wpAny_bind (wpAny_pure ?_)
    dsimp only
    rw [StateT.run_pure]
    refine wpAny_bind (wpAny_pure ?_)
    obtain ⟨r1, r2⟩ := zby (xs := pairsOf vs) hT (fun v t ht => ht) (Array.Perm.refl _) (fun i j hij hj => by
      obtain rfl : i = j := by rw [pairsOf_size] at hj; omega
      exact KeyOrd.kle_refl _)
    refine wpAny_bind (seqEpoch_at o6 rfl (wpAny_bind (listUpdate_at o6 rfl ?_ (hsz2 := by rw [Array.size_map]; show (pairsOf vs).size ≤ _; rw [pairsOf_size, sizeLine_eq]; omega))))
    rw [show (e1 != e1) = false by simp]
    exact wpAny_pure (h _ r1 r2)
  · rw [if_neg c2, if_neg c2]
    cases vs with
    | nil => simp at c2
    | cons v₁ rest =>
      refine wpAny_bind (zda hT6 ?_)
      refine wpAny_bind (wpAny_mono (zgs (st := SortSt.mk' (tuples' true) ((v₁ :: rest).toArray.zip (v₁ :: rest).toArray) #[] 7 none) (Q := fun _ t => (arrOf t).Perm (pairsOf (v₁ :: rest)) ∧ failedOf t = none ∧ SortedToK (zgB _) (arrOf t) (pairsOf (v₁ :: rest)).size)
        (zgv hT6) ⟨Array.Perm.refl _, rfl, rfl, rfl⟩ (by rw [pairsOf_size]; omega) (by rw [pairsOf_size]; exact h64) fun t p1 p2 p3 => ⟨p1, p2, p3⟩) ?_ fun _ _ e => e)
      rintro ⟨⟨⟩, t⟩ s' ⟨rfl, p1, p2, p3⟩
      obtain ⟨r1, r2⟩ := zby hT (fun v t ht => ht.keepT up) p1 p3
      refine wpAny_bind (seqEpoch_at o6 rfl (wpAny_bind (listUpdate_at o6 rfl ?_ (hsz2 := by rw [Array.size_map]; show (arrOf t).size ≤ _; rw [p1.size_eq, pairsOf_size, sizeLine_eq]; omega))))
      rw [p2, show (e1 != e1) = false by simp]
      exact wpAny_pure (h _ r1 r2)
theorem own_sorted {l : Addr} {vs : List Value} {Q : Value → Shared → Prop} (hl : s.heap.IsList l vs.toArray) (hT : ∀ v ∈ vs, ∃ t, TP s.heap v t) (h64 : vs.length < 64)
    (h : ∀ out : Array Value, out.toList.Perm vs → zjB s.heap out.toList → Q (.ref (s.heap.objs.size + 1)) { s with heap := sortedAll s.heap vs out }) : wpAny (model prog w) A (call (.builtin "sorted") [.ref l]) Q E s := by
  have z1 : ((s.heap.push (seqObj "list" #[] 0)).update s.heap.objs.size (Obj.mapSeq (· ++ vs.toArray))).objs.size = s.heap.objs.size + 1 := (Heap.size_update ..).trans (size_push' _ _)
  have oL : (((s.heap.push (seqObj "list" #[] 0)).update s.heap.objs.size (Obj.mapSeq (· ++ vs.toArray))).push (seqObj "list" vs.toArray 0)).get? (s.heap.objs.size + 1) = some (seqObj "list" vs.toArray 0) := z1 ▸ Heap.get?_push_size _ rfl
  have up : ∀ b o, s.heap.get? b = some o → (((s.heap.push (seqObj "list" #[] 0)).update s.heap.objs.size (Obj.mapSeq (· ++ vs.toArray))).push (seqObj "list" vs.toArray 0)).get? b = some o := fun b o e =>
    Heap.get?_push_of_some _ ((Heap.get?_update_other _ _ fun z => by subst z; exact absurd (Heap.lt_size e) (Nat.lt_irrefl _)).trans (Heap.get?_push_of_some _ e))
  refine Calls.call_function_entry kind_sorted plain_sorted entry_sorted (args_sorted1 _) ?_
  unfold Builtin.«sorted»
  refine wpAny_bind (m := checkCount "sorted" 1 1 _) (wpAny_pure (wpAny_bind (collect_list hl (wpAny_bind (wpAny_newList ?_)))))
  show wpAny _ _ _ _ _ (Shared.mk (((s.heap.push (seqObj "list" #[] 0)).update s.heap.objs.size (Obj.mapSeq (· ++ vs.toArray))).push (seqObj "list" vs.toArray 0)) s.gens s.drawn s.toks s.os)
  rw [z1]
  refine wpAny_bind (wpAny_holding (wpAny_call_entry slot_list_sort ⟨_, oL, rfl⟩ entry_list_sort (VQ oL (fun v hv => let ⟨t, ht⟩ := hT v hv; ⟨t, ht.keep up⟩) h64 fun out p1 p2 => ⟨_, rfl, wpAny_pure ⟨_, rfl, h out p1 ?_⟩⟩) (args_list_sort _)))
  obtain ⟨ts, q1, q2, q3⟩ := p2
  refine ⟨ts, q1, fun i v t hv ht => ?_, q3⟩
  obtain ⟨t0, ht0⟩ := hT v (p1.mem_iff.mp (List.mem_of_getElem? hv))
  rw [(q2 i v t hv ht).uniq (ht0.keep up)]
  exact ht0
end
end OwnSort
namespace Dl
open PySem L2
class KK where
  K : PySem.W.Frag
inductive D where
  | non | bl (b : Bool) | int (i : Int) | str (x : Str) | tup (ds : List D) | lst (ds : List D) | scr (ns : List Int)
    | dct (z t : Bool) (ks : List (List Key)) (vs : List D)
  deriving Inhabited
section
variable [KK]
noncomputable def zb4 (o : HO) (t : Bool) (ks : List (List Key)) (xs : List V) : Prop :=
  if t = true then ∃ kvs, o = .dT kvs ∧ kvs.map (·.1) = ks ∧ kvs.map (·.2) = xs else ∃ kvs : List (Key × V), o = .dK kvs ∧ kvs.map (fun p => [p.1]) = ks ∧ kvs.map (·.2) = xs
noncomputable def zaG (H : Hp) (a : Addr) (z t : Bool) (ks : List (List Key)) (xs : List V) : Prop :=
  ∃ u, zb4 u t ks xs ∧ if z = true then ∃ ob, H a = some (.frz ob u) else H a = some u
theorem zaG.mono {H H' : Hp} {a : Addr} {z t : Bool} {ks : List (List Key)} {xs : List V} (s : yU H H') (h : zaG H a z t ks xs) : zaG H' a z t ks xs := by
  obtain ⟨u, h1, h2⟩ := h
  refine ⟨u, h1, ?_⟩
  cases z with
  | true =>
    rw [if_pos rfl] at h2 ⊢
    obtain ⟨ob, h2⟩ := h2
    exact ⟨ob, s _ _ h2⟩
  | false =>
    rw [if_neg Bool.false_ne_true] at h2 ⊢
    exact s _ _ h2
theorem zaG.rd {H : Hp} {a : Addr} {z t : Bool} {ks : List (List Key)} {xs : List V} (h : zaG H a z t ks xs) : ∃ u, zb4 u t ks xs ∧ Rd H a u := by
  obtain ⟨u, h1, h2⟩ := h
  refine ⟨u, h1, ?_⟩
  cases z with
  | true =>
    rw [if_pos rfl] at h2
    obtain ⟨ob, h2⟩ := h2
    exact .inr ⟨ob, h2⟩
  | false =>
    rw [if_neg Bool.false_ne_true] at h2
    exact .inl h2
mutual
noncomputable def At (H : Hp) : D → V → Prop
  | .non, v => v = .non
  | .bl b, v => v = .bl b
  | .int i, v => v = .int i
  | .str x, v => v = .str x
  | .tup ds, v => ∃ a xs, v = .ref a ∧ H a = some (.tup xs) ∧ AtL H ds xs
  | .lst ds, v => ∃ a xs, v = .ref a ∧ H a = some (.lst xs) ∧ AtL H ds xs
  | .scr ns, v => ∃ a, v = .ref a ∧ SqL KK.K H a (ns.map V.int)
  | .dct z t ks vs, v => ∃ a xs, v = .ref a ∧ zaG H a z t ks xs ∧ AtL H vs xs
noncomputable def AtL (H : Hp) : List D → List V → Prop
  | [], xs => xs = []
  | d :: ds, xs => ∃ x r, xs = x :: r ∧ At H d x ∧ AtL H ds r
end
mutual
theorem At.mono {H H' : Hp} (s : yU H H') : ∀ {d : D} {v : V}, At H d v → At H' d v
  | .non, _, h => by unfold At at h ⊢; exact h
  | .bl _, _, h => by unfold At at h ⊢; exact h
  | .int _, _, h => by unfold At at h ⊢; exact h
  | .str _, _, h => by unfold At at h ⊢; exact h
  | .tup ds, _, h => by
    unfold At at h ⊢
    obtain ⟨a, xs, e, hx, hl⟩ := h
    exact ⟨a, xs, e, s _ _ hx, AtL.mono s hl⟩
  | .lst ds, _, h => by
    unfold At at h ⊢
    obtain ⟨a, xs, e, hx, hl⟩ := h
    exact ⟨a, xs, e, s _ _ hx, AtL.mono s hl⟩
  | .scr ns, _, h => by
    unfold At at h ⊢
    obtain ⟨a, e, hx⟩ := h
    exact ⟨a, e, s.seq hx⟩
  | .dct z t ks vs, _, h => by
    unfold At at h ⊢
    obtain ⟨a, xs, e, hx, hl⟩ := h
    exact ⟨a, xs, e, hx.mono s, AtL.mono s hl⟩
theorem AtL.mono {H H' : Hp} (s : yU H H') : ∀ {ds : List D} {xs : List V}, AtL H ds xs → AtL H' ds xs
  | [], _, h => by unfold AtL at h ⊢; exact h
  | d :: ds, _, h => by
    unfold AtL at h ⊢
    obtain ⟨x, r, e, h1, h2⟩ := h
    exact ⟨x, r, e, At.mono s h1, AtL.mono s h2⟩
end
mutual
noncomputable def noL : D → Bool
  | .tup ds => zkO ds
  | .lst _ => false
  | .scr _ => false
  | .dct _ _ _ _ => false
  | _ => true
noncomputable def zkO : List D → Bool
  | [] => true
  | d :: ds => noL d && zkO ds
end
mutual
theorem At.flat {G F : Hp} (h : ∀ q xs, G q = some (.tup xs) → F q = some (.tup xs)) : ∀ {d : D} {v : V}, noL d = true → At G d v → At F d v
  | .non, _, _, a => by unfold At at a ⊢; exact a
  | .bl _, _, _, a => by unfold At at a ⊢; exact a
  | .int _, _, _, a => by unfold At at a ⊢; exact a
  | .str _, _, _, a => by unfold At at a ⊢; exact a
  | .tup ds, _, n, a => by
    unfold At at a ⊢
    unfold noL at n
    obtain ⟨p, xs, e, hx, hl⟩ := a
    exact ⟨p, xs, e, h _ _ hx, AtL.flat h n hl⟩
  | .lst ds, _, n, _ => by unfold noL at n; cases n
  | .scr ds, _, n, _ => by unfold noL at n; cases n
  | .dct _ _ _ _, _, n, _ => by unfold noL at n; cases n
theorem AtL.flat {G F : Hp} (h : ∀ q xs, G q = some (.tup xs) → F q = some (.tup xs)) : ∀ {ds : List D} {xs : List V}, zkO ds = true → AtL G ds xs → AtL F ds xs
  | [], _, _, a => by unfold AtL at a ⊢; exact a
  | d :: ds, _, n, a => by
    unfold AtL at a ⊢
    unfold zkO at n
    rw [Bool.and_eq_true] at n
    obtain ⟨x, r, e, h1, h2⟩ := a
    exact ⟨x, r, e, At.flat h n.1 h1, AtL.flat h n.2 h2⟩
end
section
variable {H H' : Hp} {d : D} {ds es : List D} {v x : V} {xs ys : List V}
theorem At.int {i : Int} : At H (.int i) (.int i) := by unfold At; rfl
theorem At.bl {b : Bool} : At H (.bl b) (.bl b) := by unfold At; rfl
theorem At.non : At H .non .non := by unfold At; rfl
theorem At.str {y : Str} : At H (.str y) (.str y) := by unfold At; rfl
theorem At.tup {a : Addr} (h : H a = some (.tup xs)) (hl : AtL H ds xs) : At H (.tup ds) (.ref a) := by unfold At; exact ⟨a, xs, rfl, h, hl⟩
theorem At.lst {a : Addr} (h : H a = some (.lst xs)) (hl : AtL H ds xs) : At H (.lst ds) (.ref a) := by unfold At; exact ⟨a, xs, rfl, h, hl⟩
theorem AtL.nil : AtL H [] [] := by unfold AtL; rfl
theorem AtL.cons (h : At H d x) (hl : AtL H ds xs) : AtL H (d :: ds) (x :: xs) := by unfold AtL; exact ⟨x, xs, rfl, h, hl⟩
theorem At.int_inv {i : Int} (h : At H (.int i) v) : v = .int i := by unfold At at h; exact h
theorem At.bl_inv {b : Bool} (h : At H (.bl b) v) : v = .bl b := by unfold At at h; exact h
theorem At.non_inv (h : At H .non v) : v = .non := by unfold At at h; exact h
theorem At.str_inv {y : Str} (h : At H (.str y) v) : v = .str y := by unfold At at h; exact h
theorem At.tup_inv (h : At H (.tup ds) v) : ∃ a xs, v = .ref a ∧ H a = some (.tup xs) ∧ AtL H ds xs := by unfold At at h; exact h
theorem At.lst_inv (h : At H (.lst ds) v) : ∃ a xs, v = .ref a ∧ H a = some (.lst xs) ∧ AtL H ds xs := by unfold At at h; exact h
theorem At.scr_inv {ns : List Int} (h : At H (.scr ns) v) : ∃ a, v = .ref a ∧ SqL KK.K H a (ns.map V.int) := by unfold At at h; exact h
theorem At.dct_inv {z t : Bool} {ks : List (List Key)} {vs : List D} (h : At H (.dct z t ks vs) v) : ∃ a xs, v = .ref a ∧ zaG H a z t ks xs ∧ AtL H vs xs := by unfold At at h; exact h
theorem AtL.nil_inv (h : AtL H [] xs) : xs = [] := by unfold AtL at h; exact h
theorem AtL.cons_inv (h : AtL H (d :: ds) xs) : ∃ x r, xs = x :: r ∧ At H d x ∧ AtL H ds r := by unfold AtL at h; exact h
theorem AtL.length : ∀ {ds : List D} {xs : List V}, AtL H ds xs → xs.length = ds.length
  | [], _, h => by rw [h.nil_inv]; rfl
  | _ :: _, _, h => by
    obtain ⟨x, r, rfl, _, h2⟩ := h.cons_inv
    rw [List.length_cons, List.length_cons, AtL.length h2]
theorem AtL.get : ∀ {ds : List D} {xs : List V} {i : Nat} {d : D}, AtL H ds xs → ds[i]? = some d → ∃ x, xs[i]? = some x ∧ At H d x
  | [], _, _, _, _, e => by simp at e
  | _ :: _, _, i, _, h, e => by
    obtain ⟨x, r, rfl, h1, h2⟩ := h.cons_inv
    cases i with
    | zero =>
      simp at e
      subst e
      exact ⟨x, rfl, h1⟩
    | succ i =>
      obtain ⟨y, hy, ha⟩ := AtL.get (i := i) h2 (by simpa using e)
      exact ⟨y, by simpa using hy, ha⟩
theorem AtL.append : ∀ {ds es : List D} {xs ys : List V}, AtL H ds xs → AtL H es ys → AtL H (ds ++ es) (xs ++ ys)
  | [], _, _, _, h, k => by rw [h.nil_inv]; exact k
  | _ :: _, _, _, _, h, k => by
    obtain ⟨x, r, rfl, h1, h2⟩ := h.cons_inv
    exact .cons h1 (AtL.append h2 k)
theorem AtL.snoc (h : AtL H ds xs) (k : At H d v) : AtL H (ds ++ [d]) (xs ++ [v]) := h.append (.cons k .nil)
theorem AtL.take : ∀ (n : Nat) {ds : List D} {xs : List V}, AtL H ds xs → AtL H (ds.take n) (xs.take n)
  | 0, _, _, _ => by simpa using AtL.nil
  | n + 1, [], _, h => by rw [h.nil_inv]; simpa using AtL.nil
  | n + 1, _ :: _, _, h => by
    obtain ⟨x, r, rfl, h1, h2⟩ := h.cons_inv
    rw [List.take_succ_cons, List.take_succ_cons]
    exact .cons h1 (AtL.take n h2)
theorem AtL.drop : ∀ (n : Nat) {ds : List D} {xs : List V}, AtL H ds xs → AtL H (ds.drop n) (xs.drop n)
  | 0, _, _, h => h
  | n + 1, [], _, h => by rw [h.nil_inv]; simpa using AtL.nil
  | n + 1, _ :: _, _, h => by
    obtain ⟨x, r, rfl, h1, h2⟩ := h.cons_inv
    rw [List.drop_succ_cons, List.drop_succ_cons]
    exact AtL.drop n h2
theorem AtL.set : ∀ (n : Nat) {ds : List D} {xs : List V}, AtL H ds xs → At H d v → AtL H (ds.set n d) (xs.set n v)
  | _, [], _, h, _ => by rw [h.nil_inv]; simpa using AtL.nil
  | 0, _ :: _, _, h, k => by
    obtain ⟨x, r, rfl, h1, h2⟩ := h.cons_inv
    exact .cons k h2
  | n + 1, _ :: _, _, h, k => by
    obtain ⟨x, r, rfl, h1, h2⟩ := h.cons_inv
    exact .cons h1 (AtL.set n h2 k)
theorem AtL.reverse : ∀ {ds : List D} {xs : List V}, AtL H ds xs → AtL H ds.reverse xs.reverse
  | [], _, h => by rw [h.nil_inv]; exact .nil
  | _ :: _, _, h => by
    obtain ⟨x, r, rfl, h1, h2⟩ := h.cons_inv
    rw [List.reverse_cons, List.reverse_cons]
    exact (AtL.reverse h2).snoc h1
theorem AtL.rep (h : AtL H ds xs) : ∀ k : Nat, AtL H (List.replicate k ds).flatten (List.replicate k xs).flatten
  | 0 => .nil
  | k + 1 => by
    rw [List.replicate_succ, List.replicate_succ, List.flatten_cons, List.flatten_cons]
    exact h.append (AtL.rep h k)
theorem AtL.ints (ns : List Int) : AtL H (ns.map D.int) (ns.map V.int) := by
  induction ns with
  | nil => exact .nil
  | cons n r ih => exact .cons .int ih
theorem AtL.of_ints : ∀ {ns : List Int} {xs : List V}, AtL H (ns.map D.int) xs → xs = ns.map V.int
  | [], _, h => h.nil_inv
  | n :: r, _, h => by
    obtain ⟨x, r', rfl, h1, h2⟩ := AtL.cons_inv (by simpa using h)
    rw [h1.int_inv, AtL.of_ints h2]
    rfl
end
noncomputable def tyN : D → String
  | .non => "NoneType" | .bl _ => "bool" | .int _ => "int" | .str _ => "str" | .tup _ => "tuple" | .lst _ => "list" | .scr _ => "list" | .dct _ _ _ _ => "dict"
noncomputable def Hid (F' : Hp) (p : Addr) (o : HO) : Prop := F' p = none ∨ ((∃ xs, o = .tup xs) ∧ F' p = some o)
noncomputable def Keep (F H F' H' : Hp) : Prop := ∀ p o, F p = none → H p = some o → Hid F' p o ∧ H' p = some o
set_option genInjectivity false in
set_option genSizeOf false in
set_option genCtorIdx false in
structure Gr (F H F' H' : Hp) : Prop where
  ff : yU F F'
  fh : yU F' H'
  kp : Keep F H F' H'
theorem Gr.refl {F H : Hp} (s : yU F H) : Gr F H F H := ⟨yU.refl _, s, fun _ _ a b => ⟨.inl a, b⟩⟩
theorem Gr.trans {F H F1 H1 F2 H2 : Hp} (a : Gr F H F1 H1) (b : Gr F1 H1 F2 H2) : Gr F H F2 H2 :=
  ⟨a.ff.trans b.ff, b.fh, fun p o e1 e2 => by
    obtain ⟨x, y⟩ := a.kp p o e1 e2
    rcases x with x | ⟨x1, x2⟩
    · exact b.kp p o x y
    · exact ⟨.inr ⟨x1, b.ff _ _ x2⟩, b.fh _ _ (b.ff _ _ x2)⟩⟩
theorem Gr.kl {F H F' H' : Hp} {p : Addr} {o : HO} (g : Gr F H F' H') (n : ∀ xs, o ≠ .tup xs) (e1 : F p = none) (e2 : H p = some o) : F' p = none ∧ H' p = some o := by
  obtain ⟨x, y⟩ := g.kp p o e1 e2
  rcases x with x | ⟨⟨xs, x1⟩, _⟩
  · exact ⟨x, y⟩
  · exact absurd x1 (n xs)
theorem Gr.alloc {F H : Hp} {p : Addr} (s : yU F H) (h : H p = none) (o : HO) : Gr F H (upd F p o) (upd H p o) := by
  have hF : F p = none := s.free h
  refine ⟨fun b u q => ?_, fun b u q => ?_, fun b u q r => ?_⟩
  · rw [zw (zq q hF)]; exact q
  · by_cases e : b = p
    · subst e; rw [zt] at q ⊢; exact q
    · rw [zw e] at q ⊢; exact s b u q
  · have e : b ≠ p := zq r h
    rw [zw e]; exact ⟨.inl (by rw [zw e]; exact q), r⟩
theorem Gr.hide {F H : Hp} {p : Addr} (s : yU F H) (h : H p = none) (o : HO) : Gr F H F (upd H p o) := by
  refine ⟨yU.refl _, fun b u q => ?_, fun b u q r => ?_⟩
  · rw [zw (zq (s b u q) h)]; exact s b u q
  · have e : b ≠ p := zq r h
    rw [zw e]; exact ⟨.inl q, r⟩
theorem Gr.show {F H : Hp} {p : Addr} {o : HO} {F0 H0 : Hp} (g : Gr F0 H0 F H) (h0 : H0 p = none) (hF : F p = none) (h : H p = some o) : Gr F0 H0 (upd F p o) H := by
  refine ⟨fun b u q => ?_, fun b u q => ?_, fun b u q r => ?_⟩
  · have := g.ff b u q
    rw [zw (zq this hF)]; exact this
  · by_cases e : b = p
    · subst e; rw [zt] at q; rw [← q]; exact h
    · rw [zw e] at q; exact g.fh b u q
  · have e : b ≠ p := zq r h0
    obtain ⟨x, y⟩ := g.kp b u q r
    refine ⟨?_, y⟩
    unfold Hid
    rw [zw e]
    exact x
noncomputable abbrev Ev := List (Option D)
noncomputable def VAt (F : Hp) (ρ : Ev) (σ : St) : Prop := ∀ (i : Nat) (d : D), ρ[i]? = some (some d) → ∃ v, σ[i]? = some (some v) ∧ At F d v
theorem VAt.mono {F F' : Hp} {ρ : Ev} {σ : St} (h : VAt F ρ σ) (s : yU F F') : VAt F' ρ σ := fun i d e => let ⟨v, e1, a⟩ := h i d e; ⟨v, e1, a.mono s⟩
noncomputable def RE (t : TE) (f : Ev → Option D) : Prop :=
  ∀ (σ : St) (ρ : Ev) (F H : Hp) (d : D) (Q : VK), yU F H → VAt F ρ σ → f ρ = some d → (∀ F' H' v, Gr F H F' H' → At F' d v → Q v H') → t σ H Q
noncomputable def RT (t : TT) (f : Ev → Option Bool) : Prop :=
  ∀ (σ : St) (ρ : Ev) (F H : Hp) (b : Bool) (Q : Bool → Hp → Prop), yU F H → VAt F ρ σ → f ρ = some b → (∀ F' H', Gr F H F' H' → Q b H') → t σ H Q
noncomputable def RA (t : TA) (f : Ev → Option (List D)) : Prop :=
  ∀ (σ : St) (ρ : Ev) (F H : Hp) (ds : List D) (Q : List V → Hp → Prop), yU F H → VAt F ρ σ → f ρ = some ds → (∀ F' H' vs, Gr F H F' H' → AtL F' ds vs → Q vs H') → t σ H Q
noncomputable def RF (t : TE) (f : Ev → Option (List D)) : Prop :=
  ∀ (σ : St) (ρ : Ev) (F H : Hp) (ds : List D) (Q : VK), yU F H → VAt F ρ σ → f ρ = some ds → (∀ F' H' p xs, Gr F H F' H' → H p = none → F' p = none → H' p = some (.lst xs) → AtL F' ds xs → Q (.ref p) H') → t σ H Q
noncomputable def ED (X : Cx) (e : Expr) (f : Ev → Option D) : Prop := ∃ t, PE X e t ∧ RE t f
noncomputable def TD (X : Cx) (e : Expr) (f : Ev → Option Bool) : Prop := ∃ t, PT X e t ∧ RT t f
noncomputable def WD (X : Cx) (e : Expr) (f : Ev → Option Bool) : Prop := ∃ t, PW X e t ∧ RT t f
noncomputable def AD (X : Cx) (es : List Expr) (f : Ev → Option (List D)) : Prop := ∃ t, PA X es t ∧ RA t f
noncomputable def FL (X : Cx) (e : Expr) (f : Ev → Option (List D)) : Prop := ∃ t, PE X e t ∧ RF t f
section
variable {X : Cx} {a b c : Expr} {pos : Pos}
noncomputable def xy (f : Ev → Option (List D)) : Ev → Option D := fun ρ => (f ρ).map .lst
theorem xb {f : Ev → Option (List D)} (h : FL X a f) : ED X a (xy f) := by
  obtain ⟨t, ht, r⟩ := h
  refine ⟨t, ht, fun σ ρ F H d Q s va e q => ?_⟩
  obtain ⟨ds, e1, rfl⟩ := Option.map_eq_some_iff.mp e
  refine r σ ρ F H ds Q s va e1 fun F' H' p xs g h0 hF hH hx => ?_
  have g2 := g.show h0 hF hH
  exact q _ _ _ g2 (At.lst zt (hx.mono (fun b u e => by rw [zw (zq e hF)]; exact e)))
noncomputable def zg (i : Nat) : Ev → Option D := fun ρ => (ρ[i]?).getD none
theorem zjk (i : Nat) (h : PE X a (zhi i)) : ED X a (zg i) := by
  refine ⟨_, h, fun σ ρ F H d Q s va e q => ?_⟩
  have e' : ρ[i]? = some (some d) := by
    unfold zg at e
    cases h : ρ[i]? with
    | none => rw [h] at e; cases e
    | some x => rw [h] at e; cases x with
      | none => cases e
      | some y => cases e; rfl
  obtain ⟨v, e1, a1⟩ := va i d e'
  exact ⟨v, e1, q _ _ _ (.refl s) a1⟩
noncomputable def eC (d : D) : Ev → Option D := fun _ => some d
theorem ze {i : Int} (h : PE X a (tC (.int i))) : ED X a (eC (.int i)) := ⟨_, h, fun _ _ _ _ _ _ s _ e q => by cases e; exact q _ _ _ (.refl s) .int⟩
theorem ve {i : Bool} (h : PE X a (tC (.bl i))) : ED X a (eC (.bl i)) := ⟨_, h, fun _ _ _ _ _ _ s _ e q => by cases e; exact q _ _ _ (.refl s) .bl⟩
theorem Y5 {i : Str} (h : PE X a (tC (.str i))) : ED X a (eC (.str i)) := ⟨_, h, fun _ _ _ _ _ _ s _ e q => by cases e; exact q _ _ _ (.refl s) .str⟩
theorem wT (h : PE X a (tC .non)) : ED X a (eC .non) := ⟨_, h, fun _ _ _ _ _ _ s _ e q => by cases e; exact q _ _ _ (.refl s) .non⟩
noncomputable def OpD (r : R2) (g : D → D → Option D) : Prop :=
  ∀ (F H : Hp) (x y : V) (d e z : D) (Q : VK), yU F H → At F d x → At F e y → g d e = some z → (∀ F' H' v, Gr F H F' H' → At F' z v → Q v H') → r x y H Q
noncomputable def zk (g : D → D → Option D) (f h : Ev → Option D) : Ev → Option D := fun ρ => (f ρ).bind fun x => (h ρ).bind fun y => g x y
theorem zgF {r : R2} {g : D → D → Option D} {ta tb : TE} {f h : Ev → Option D} (hg : OpD r g) (ra : RE ta f) (rb : RE tb h) : RE (tOp r ta tb) (zk g f h) := by
  intro σ ρ F H z Q s va e q
  obtain ⟨x, e1, e⟩ := Option.bind_eq_some_iff.mp e
  obtain ⟨y, e2, e⟩ := Option.bind_eq_some_iff.mp e
  refine ra σ ρ F H x _ s va e1 fun F1 H1 v g1 a1 => ?_
  refine rb σ ρ F1 H1 y _ g1.fh (va.mono g1.ff) e2 fun F2 H2 u g2 a2 => ?_
  exact hg F2 H2 v u x y z Q g2.fh (a1.mono g2.ff) a2 e fun F3 H3 w g3 a3 => q F3 H3 w ((g1.trans g2).trans g3) a3
theorem X6 {op : Operator} {r : R2} {g : D → D → Option D} {f h : Ev → Option D} (ho : OpR X (binaryOp op) r) (hg : OpD r g) (ha : ED X a f) (hb : ED X b h) : ED X (.BinOp a op b pos) (zk g f h) :=
  let ⟨_, pa, ra⟩ := ha
  let ⟨_, pb, rb⟩ := hb
  ⟨_, zjl ho pa pb, zgF hg ra rb⟩
theorem xS {op : CmpOp} {r : R2} {g : D → D → Option D} {f h : Ev → Option D} (ho : OpR X (compareOp op) r) (hg : OpD r g) (hm : behindInMarks op b = false) (ha : ED X a f) (hb : ED X b h) : ED X (.Compare a [op] [b] pos) (zk g f h) :=
  let ⟨_, pa, ra⟩ := ha
  let ⟨_, pb, rb⟩ := hb
  ⟨_, zel ho pa pb hm, zgF hg ra rb⟩
noncomputable def asB : D → Option Bool
  | .bl b => some b
  | _ => none
theorem ZP {d : D} {b : Bool} (h : asB d = some b) : d = .bl b := by
  cases d <;> first | (cases h; rfl) | cases h
noncomputable def tOf (f : Ev → Option D) : Ev → Option Bool := fun ρ => (f ρ).bind asB
theorem zjr {t : TE} {f : Ev → Option D} (r : RE t f) : RT (zki t) (tOf f) := by
  intro σ ρ F H b Q s va e q
  obtain ⟨x, e1, e⟩ := Option.bind_eq_some_iff.mp e
  cases ZP e
  exact r σ ρ F H _ _ s va e1 fun F1 H1 v g1 a1 => ⟨b, a1.bl_inv, q F1 H1 g1⟩
theorem zE {op : CmpOp} {r : R2} {g : D → D → Option D} {f h : Ev → Option D} (ho : OpR X (compareOp op) r) (hg : OpD r g) (hm : behindInMarks op b = false) (ha : ED X a f) (hb : ED X b h) : TD X (.Compare a [op] [b] pos) (tOf (zk g f h)) :=
  let ⟨_, pa, ra⟩ := ha
  let ⟨_, pb, rb⟩ := hb
  ⟨_, zif ho pa pb hm, zjr (zgF hg ra rb)⟩
theorem yH {f : Ev → Option D} (ha : ED X a f) (he : ∀ whole, isTrue a X.env whole = (do let v ← whole; standAt a.pos; holding [v] (truthy v)) := by intro _; rfl) : TD X a (tOf f) :=
  let ⟨_, pa, ra⟩ := ha
  ⟨_, zjT pa he, zjr ra⟩
noncomputable def xo (f g : Ev → Option Bool) : Ev → Option Bool := fun ρ => (f ρ).bind fun c => if c = true then g ρ else some false
noncomputable def Ye (f g : Ev → Option Bool) : Ev → Option Bool := fun ρ => (f ρ).bind fun c => if c = true then some true else g ρ
noncomputable def yi (f : Ev → Option Bool) : Ev → Option Bool := fun ρ => (f ρ).map (!·)
theorem zbM {f : Ev → Option Bool} (ha : TD X a f) : WD X (.BoolOp .And [a] pos) f := let ⟨_, pa, ra⟩ := ha; ⟨_, zix pa, ra⟩
theorem YA {f : Ev → Option Bool} (ha : TD X a f) : WD X (.BoolOp .Or [a] pos) f := let ⟨_, pa, ra⟩ := ha; ⟨_, zjo pa, ra⟩
theorem zdP {rest : List Expr} {f g : Ev → Option Bool} (ha : TD X a f) (hb : WD X (.BoolOp .And (b :: rest) pos) g) : WD X (.BoolOp .And (a :: b :: rest) pos) (xo f g) := by
  obtain ⟨ta, pa, ra⟩ := ha
  obtain ⟨tb, pb, rb⟩ := hb
  refine ⟨_, zja pa pb, fun σ ρ F H z Q s va e q => ?_⟩
  obtain ⟨x, e1, e⟩ := Option.bind_eq_some_iff.mp e
  refine ra σ ρ F H x _ s va e1 fun F1 H1 g1 => ?_
  cases x with
  | true =>
    rw [if_pos rfl] at e ⊢
    exact rb σ ρ F1 H1 z Q g1.fh (va.mono g1.ff) e fun F2 H2 g2 => q F2 H2 (g1.trans g2)
  | false =>
    rw [if_neg Bool.false_ne_true] at e ⊢
    cases e
    exact q F1 H1 g1
theorem XT {rest : List Expr} {f g : Ev → Option Bool} (ha : TD X a f) (hb : WD X (.BoolOp .Or (b :: rest) pos) g) : WD X (.BoolOp .Or (a :: b :: rest) pos) (Ye f g) := by
  obtain ⟨ta, pa, ra⟩ := ha
  obtain ⟨tb, pb, rb⟩ := hb
  refine ⟨_, zlm pa pb, fun σ ρ F H z Q s va e q => ?_⟩
  obtain ⟨x, e1, e⟩ := Option.bind_eq_some_iff.mp e
  refine ra σ ρ F H x _ s va e1 fun F1 H1 g1 => ?_
  cases x with
  | false =>
    rw [if_neg Bool.false_ne_true] at e ⊢
    exact rb σ ρ F1 H1 z Q g1.fh (va.mono g1.ff) e fun F2 H2 g2 => q F2 H2 (g1.trans g2)
  | true =>
    rw [if_pos rfl] at e ⊢
    cases e
    exact q F1 H1 g1
theorem zcp {f : Ev → Option Bool} (h : WD X a f) : TD X a f := let ⟨_, p, r⟩ := h; ⟨_, p.pt, r⟩
theorem yX {f : Ev → Option Bool} (ha : TD X a f) : TD X (.UnaryOp .Not a pos) (yi f) := by
  obtain ⟨ta, pa, ra⟩ := ha
  refine ⟨_, zjt pa, fun σ ρ F H z Q s va e q => ?_⟩
  obtain ⟨x, e1, rfl⟩ := Option.map_eq_some_iff.mp e
  exact ra σ ρ F H x _ s va e1 fun F1 H1 g1 => q F1 H1 g1
noncomputable def vL (f g : Ev → Option D) : Ev → Option D := fun ρ => ((f ρ).bind asB).bind fun c => if c = true then g ρ else some (.bl false)
noncomputable def eOr (f g : Ev → Option D) : Ev → Option D := fun ρ => ((f ρ).bind asB).bind fun c => if c = true then some (.bl true) else g ρ
noncomputable def XY (f : Ev → Option D) : Ev → Option D := fun ρ => ((f ρ).bind asB).map fun c => .bl (!c)
theorem vC {op} {f : Ev → Option D} (ha : ED X a f) : ED X (.BoolOp op [a] pos) f := let ⟨_, pa, ra⟩ := ha; ⟨_, zkC pa, ra⟩
theorem wX {rest : List Expr} {f g : Ev → Option D} (ha : ED X a f) (hb : ED X (.BoolOp .And (b :: rest) pos) g) : ED X (.BoolOp .And (a :: b :: rest) pos) (vL f g) := by
  obtain ⟨ta, pa, ra⟩ := ha
  obtain ⟨tb, pb, rb⟩ := hb
  refine ⟨_, ziZ pa pb, fun σ ρ F H z Q s va e q => ?_⟩
  obtain ⟨x, e1, e⟩ := Option.bind_eq_some_iff.mp e
  obtain ⟨y, e1, e2⟩ := Option.bind_eq_some_iff.mp e1
  cases ZP e2
  refine ra σ ρ F H _ _ s va e1 fun F1 H1 v g1 a1 => ⟨x, a1.bl_inv, ?_⟩
  cases x with
  | true =>
    rw [if_pos rfl] at e ⊢
    exact rb σ ρ F1 H1 z Q g1.fh (va.mono g1.ff) e fun F2 H2 w g2 a2 => q F2 H2 w (g1.trans g2) a2
  | false =>
    rw [if_neg Bool.false_ne_true] at e ⊢
    cases e
    exact q F1 H1 _ g1 .bl
theorem zlb {rest : List Expr} {f g : Ev → Option D} (ha : ED X a f) (hb : ED X (.BoolOp .Or (b :: rest) pos) g) : ED X (.BoolOp .Or (a :: b :: rest) pos) (eOr f g) := by
  obtain ⟨ta, pa, ra⟩ := ha
  obtain ⟨tb, pb, rb⟩ := hb
  refine ⟨_, zlk pa pb, fun σ ρ F H z Q s va e q => ?_⟩
  obtain ⟨x, e1, e⟩ := Option.bind_eq_some_iff.mp e
  obtain ⟨y, e1, e2⟩ := Option.bind_eq_some_iff.mp e1
  cases ZP e2
  refine ra σ ρ F H _ _ s va e1 fun F1 H1 v g1 a1 => ⟨x, a1.bl_inv, ?_⟩
  cases x with
  | false =>
    rw [if_neg Bool.false_ne_true] at e ⊢
    exact rb σ ρ F1 H1 z Q g1.fh (va.mono g1.ff) e fun F2 H2 w g2 a2 => q F2 H2 w (g1.trans g2) a2
  | true =>
    rw [if_pos rfl] at e ⊢
    cases e
    exact q F1 H1 _ g1 .bl
theorem zgS {f : Ev → Option D} (ha : ED X a f) : ED X (.UnaryOp .Not a pos) (XY f) := by
  obtain ⟨ta, pa, ra⟩ := ha
  refine ⟨_, ziY pa, fun σ ρ F H z Q s va e q => ?_⟩
  obtain ⟨x, e1, rfl⟩ := Option.map_eq_some_iff.mp e
  obtain ⟨y, e1, e2⟩ := Option.bind_eq_some_iff.mp e1
  cases ZP e2
  exact ra σ ρ F H _ _ s va e1 fun F1 H1 v g1 a1 => ⟨x, a1.bl_inv, q F1 H1 _ g1 .bl⟩
noncomputable def eIf (t : Ev → Option Bool) (f g : Ev → Option D) : Ev → Option D := fun ρ => (t ρ).bind fun c => if c = true then f ρ else g ρ
theorem zlG {t : Ev → Option Bool} {f g : Ev → Option D} (hc : TD X c t) (ha : ED X a f) (hb : ED X b g) : ED X (.IfExp c a b pos) (eIf t f g) := by
  obtain ⟨tc, pc, rc⟩ := hc
  obtain ⟨ta, pa, ra⟩ := ha
  obtain ⟨tb, pb, rb⟩ := hb
  refine ⟨_, zf9 pc pa pb, fun σ ρ F H z Q s va e q => ?_⟩
  obtain ⟨x, e1, e⟩ := Option.bind_eq_some_iff.mp e
  refine rc σ ρ F H x _ s va e1 fun F1 H1 g1 => ?_
  cases x with
  | true =>
    rw [if_pos rfl] at e ⊢
    exact ra σ ρ F1 H1 z Q g1.fh (va.mono g1.ff) e fun F2 H2 w g2 a2 => q F2 H2 w (g1.trans g2) a2
  | false =>
    rw [if_neg Bool.false_ne_true] at e ⊢
    exact rb σ ρ F1 H1 z Q g1.fh (va.mono g1.ff) e fun F2 H2 w g2 a2 => q F2 H2 w (g1.trans g2) a2
noncomputable def eUn (g : D → Option D) (f : Ev → Option D) : Ev → Option D := fun ρ => (f ρ).bind g
noncomputable def W5 : D → Option D
  | .int i => some (.int (-i))
  | _ => none
noncomputable def zp : Ev → Option (List D) := fun _ => some []
noncomputable def zb (f : Ev → Option D) (g : Ev → Option (List D)) : Ev → Option (List D) := fun ρ => (f ρ).bind fun d => (g ρ).map (d :: ·)
theorem zd : AD X [] zp := ⟨_, zcu, fun _ _ _ _ _ _ s _ e q => by cases e; exact q _ _ _ (.refl s) .nil⟩
theorem za {e : Expr} {es : List Expr} {f : Ev → Option D} {g : Ev → Option (List D)} (ha : ED X e f) (hr : AD X es g) (hs : starEach (e :: es) X.env = (false, eval e X.env) :: starEach es X.env := by rfl) : AD X (e :: es) (zb f g) := by
  obtain ⟨ta, pa, ra⟩ := ha
  obtain ⟨tb, pb, rb⟩ := hr
  refine ⟨_, WE pa pb hs, fun σ ρ F H z Q s va e q => ?_⟩
  obtain ⟨x, e1, e⟩ := Option.bind_eq_some_iff.mp e
  obtain ⟨ds, e2, rfl⟩ := Option.map_eq_some_iff.mp e
  refine ra σ ρ F H x _ s va e1 fun F1 H1 v g1 a1 => ?_
  exact rb σ ρ F1 H1 ds _ g1.fh (va.mono g1.ff) e2 fun F2 H2 w g2 a2 => q F2 H2 _ (g1.trans g2) (.cons (a1.mono g2.ff) a2)
noncomputable def lim (n : Nat) : Bool := decide (n ≤ sizeLine)
noncomputable def v9 (g : Ev → Option (List D)) : Ev → Option D := fun ρ => (g ρ).bind fun ds => if lim ds.length = true then some (.tup ds) else none
noncomputable def zY (g : Ev → Option (List D)) : Ev → Option (List D) := fun ρ => (g ρ).bind fun ds => if lim ds.length = true then some ds else none
theorem vz {es : List Expr} {x1} {g : Ev → Option (List D)} (h : AD X es g) : ED X (.Tuple es x1 pos) (v9 g) := by
  obtain ⟨ta, pa, ra⟩ := h
  refine ⟨_, zjI pa, fun σ ρ F H z Q s va e q => ?_⟩
  obtain ⟨ds, e1, e⟩ := Option.bind_eq_some_iff.mp e
  split at e <;> cases e
  rename_i hl
  refine ra σ ρ F H ds _ s va e1 fun F1 H1 vs g1 a1 => ⟨by rw [a1.length]; exact of_decide_eq_true hl, fun p hp => ?_⟩
  have g2 := Gr.alloc g1.fh hp (.tup vs)
  exact q _ _ _ (g1.trans g2) (.tup zt (a1.mono g2.ff))
theorem yL {es : List Expr} {g : Ev → Option (List D)} (h : AD X es g) : FL X (.List es pos) (zY g) := by
  obtain ⟨ta, pa, ra⟩ := h
  refine ⟨_, zj1 pa, fun σ ρ F H z Q s va e q => ?_⟩
  obtain ⟨ds, e1, e⟩ := Option.bind_eq_some_iff.mp e
  split at e <;> cases e
  rename_i hl
  refine ra σ ρ F H _ _ s va e1 fun F1 H1 vs g1 a1 => ⟨by rw [a1.length]; exact of_decide_eq_true hl, fun p hp => ?_⟩
  have g2 := Gr.hide g1.fh hp (.lst vs)
  have h0 : H p = none := by
    cases e : H p with
    | none => rfl
    | some o =>
      cases e2 : F p with
      | none => rw [(g1.kp p o e2 e).2] at hp; cases hp
      | some u => rw [g1.fh _ _ (g1.ff _ _ e2)] at hp; cases hp
  exact q _ _ _ _ (g1.trans g2) h0 (g1.fh.free hp) zt a1
end
end
end Dl
namespace Dl
open PySem L2
variable [KK]
inductive Sl where
  | no | v (d : D) | o (ds : List D) | m (t : Bool) (ks : List (List Key)) (vs : List D)
  deriving Inhabited
noncomputable abbrev SE := List Sl
noncomputable def Sl.f : Sl → Option D
  | .v d => some d
  | _ => none
noncomputable def Sl.g : Sl → Option D
  | .v d => some d
  | .o ds => some (.lst ds)
  | .m t ks vs => some (.dct false t ks vs)
  | .no => none
noncomputable def Sl.isO : Sl → Bool
  | .o _ => true
  | .m _ _ _ => true
  | _ => false
noncomputable def visF (ρ : SE) : Ev := ρ.map Sl.f
noncomputable def visG (ρ : SE) : Ev := ρ.map Sl.g
noncomputable def zdn (F : Hp) (o : HO) : Sl → Prop
  | .o ds => ∃ xs, o = .lst xs ∧ AtL F ds xs
  | .m t ks ds => ∃ xs, zb4 o t ks xs ∧ AtL F ds xs
  | _ => False
theorem zdn.mono {F F' : Hp} {o : HO} {s : Sl} (h : zdn F o s) (k : yU F F') : zdn F' o s := by
  cases s with
  | no => exact h
  | v d => exact h
  | o ds => obtain ⟨xs, e, a⟩ := h; exact ⟨xs, e, a.mono k⟩
  | m t ks ds => obtain ⟨xs, e, a⟩ := h; exact ⟨xs, e, a.mono k⟩
theorem zdn.isO {F : Hp} {o : HO} {s : Sl} (h : zdn F o s) : s.isO = true := by
  cases s with
  | no => exact h.elim
  | v d => exact h.elim
  | o ds => rfl
  | m t ks ds => rfl
theorem zdn.ntup {F : Hp} {o : HO} {s : Sl} (h : zdn F o s) (xs : List V) : o ≠ .tup xs := by
  cases s with
  | no => exact h.elim
  | v d => exact h.elim
  | o ds => obtain ⟨ys, rfl, _⟩ := h; intro e; cases e
  | m t ks ds =>
    obtain ⟨ys, e, _⟩ := h
    unfold zb4 at e
    split at e
    · obtain ⟨kvs, rfl, _⟩ := e; intro e; cases e
    · obtain ⟨kvs, rfl, _⟩ := e; intro e; cases e
theorem zdn.at {F G : Hp} {o : HO} {s : Sl} {d : D} {p : Addr} (h : zdn F o s) (e : s.g = some d) (hp : G p = some o) (k : yU F G) : At G d (.ref p) := by
  cases s with
  | no => exact h.elim
  | v d => exact h.elim
  | o ds =>
    cases e
    obtain ⟨xs, rfl, a⟩ := h
    exact .lst hp (a.mono k)
  | m t ks ds =>
    cases e
    obtain ⟨xs, e, a⟩ := h
    unfold At
    exact ⟨p, xs, rfl, ⟨o, e, hp⟩, a.mono k⟩
set_option genInjectivity false in
set_option genSizeOf false in
set_option genCtorIdx false in
structure Rl (Fb Hb F H : Hp) (ρ : SE) (σ : St) : Prop where
  gr : Gr Fb Hb F H
  vals : ∀ (i : Nat) (d : D), ρ[i]? = some (.v d) → ∃ v, σ[i]? = some (some v) ∧ At F d v
  ows : ∀ (i : Nat) (s : Sl), ρ[i]? = some s → s.isO = true → ∃ p o, σ[i]? = some (some (.ref p)) ∧ Hb p = none ∧ F p = none ∧ H p = some o ∧ zdn F o s
  dis : ∀ (i j : Nat) (p : Addr) (s t : Sl), ρ[i]? = some s → ρ[j]? = some t → s.isO = true → t.isO = true → σ[i]? = some (some (.ref p)) → σ[j]? = some (some (.ref p)) → i = j
  len : ρ.length = σ.length
section
variable {Fb Hb F H F' H' : Hp} {ρ ρ' : SE} {σ σ' : St}
theorem Rl.owns (r : Rl Fb Hb F H ρ σ) (i : Nat) (ds : List D) (e : ρ[i]? = some (.o ds)) : ∃ p xs, σ[i]? = some (some (.ref p)) ∧ Hb p = none ∧ F p = none ∧ H p = some (.lst xs) ∧ AtL F ds xs := by
  obtain ⟨p, o, e1, e2, e3, e4, xs, rfl, a⟩ := r.ows i _ e rfl
  exact ⟨p, xs, e1, e2, e3, e4, a⟩
theorem Rl.grow (r : Rl Fb Hb F H ρ σ) (g : Gr F H F' H') : Rl Fb Hb F' H' ρ σ := by
  refine ⟨r.gr.trans g, fun i d e => ?_, fun i s e h => ?_, r.dis, r.len⟩
  · obtain ⟨v, e1, a⟩ := r.vals i d e
    exact ⟨v, e1, a.mono g.ff⟩
  · obtain ⟨p, o, e1, e2, e3, e4, a⟩ := r.ows i s e h
    obtain ⟨k1, k2⟩ := g.kl a.ntup e3 e4
    exact ⟨p, o, e1, e2, k1, k2, a.mono g.ff⟩
theorem Rl.visF (r : Rl Fb Hb F H ρ σ) : VAt F (visF ρ) σ := fun i d e => by
  unfold Dl.visF at e
  rw [List.getElem?_map] at e
  cases h : ρ[i]? with
  | none => rw [h] at e; cases e
  | some x =>
    rw [h] at e
    cases x with
    | no => cases e
    | v d' =>
      cases e
      exact r.vals i d h
    | o ds => cases e
    | m t ks ds => cases e
noncomputable def Own (ρ : SE) (σ : St) (p : Addr) : Prop := ∃ (i : Nat) (s : Sl), ρ[i]? = some s ∧ s.isO = true ∧ σ[i]? = some (some (.ref p))
open Classical in
noncomputable def gOf (ρ : SE) (σ : St) (F H : Hp) : Hp := fun p => if Own ρ σ p then H p else F p
open Classical in
noncomputable def fOf (ρ : SE) (σ : St) (G : Hp) : Hp := fun p => if Own ρ σ p then none else G p
theorem Rl.own (r : Rl Fb Hb F H ρ σ) {p : Addr} (h : Own ρ σ p) : Hb p = none ∧ F p = none ∧ ∃ o, H p = some o ∧ ∀ xs, o ≠ .tup xs := by
  obtain ⟨i, s, e1, e2, e3⟩ := h
  obtain ⟨q, o, e4, e5, e6, e7, a⟩ := r.ows i s e1 e2
  rw [e3] at e4
  cases e4
  exact ⟨e5, e6, o, e7, a.ntup⟩
theorem Rl.notown (r : Rl Fb Hb F H ρ σ) {q : Addr} (h : H q = none) (j : Nat) (s : Sl) (e1 : ρ[j]? = some s) (e2 : s.isO = true) : σ[j]? ≠ some (some (.ref q)) := fun e => by
  obtain ⟨p, o, f1, _, _, f4, _⟩ := r.ows j s e1 e2
  rw [e] at f1
  cases f1
  rw [h] at f4
  cases f4
theorem Rl.notbase (r : Rl Fb Hb F H ρ σ) {q : Addr} (h : H q = none) : Hb q = none := by
  cases z : Hb q with
  | none => rfl
  | some o =>
    cases z2 : Fb q with
    | none => rw [(r.gr.kp q o z2 z).2] at h; cases h
    | some u => rw [r.gr.fh _ _ (r.gr.ff _ _ z2)] at h; cases h
theorem Rl.fg (r : Rl Fb Hb F H ρ σ) : yU F (gOf ρ σ F H) := fun p o e => by
  unfold gOf
  split
  · exact r.gr.fh p o e
  · exact e
theorem Rl.gh (r : Rl Fb Hb F H ρ σ) : yU (gOf ρ σ F H) H := fun p o e => by
  unfold gOf at e
  split at e
  · exact e
  · exact r.gr.fh p o e
theorem Rl.visG (r : Rl Fb Hb F H ρ σ) : VAt (gOf ρ σ F H) (visG ρ) σ := fun i d e => by
  unfold Dl.visG at e
  rw [List.getElem?_map] at e
  cases h : ρ[i]? with
  | none => rw [h] at e; cases e
  | some x =>
    rw [h] at e
    have e : x.g = some d := Option.some.inj e
    have own : x.isO = true → ∃ v, σ[i]? = some (some v) ∧ At (gOf ρ σ F H) d v := fun hx => by
      obtain ⟨p, o, e1, e2, e3, e4, a⟩ := r.ows i x h hx
      refine ⟨_, e1, a.at e ?_ r.fg⟩
      unfold gOf
      rw [if_pos ⟨i, x, h, hx, e1⟩]
      exact e4
    cases x with
    | no => cases e
    | v d' =>
      cases e
      obtain ⟨v, e1, a⟩ := r.vals i d h
      exact ⟨v, e1, a.mono r.fg⟩
    | o ds => exact own rfl
    | m t ks ds => exact own rfl
theorem Rl.back {G' : Hp} (r : Rl Fb Hb F H ρ σ) (g : Gr (gOf ρ σ F H) H G' H') : Gr F H (fOf ρ σ G') H' ∧ ∀ q xs, G' q = some (.tup xs) → fOf ρ σ G' q = some (.tup xs) := by
  refine ⟨⟨fun p o e => ?_, fun p o e => ?_, fun p o e1 e2 => ?_⟩, fun q xs e => ?_⟩
  · unfold fOf
    rw [if_neg (fun h => by rw [(r.own h).2.1] at e; cases e)]
    exact g.ff p o (r.fg p o e)
  · unfold fOf at e
    split at e
    · cases e
    · exact g.fh p o e
  · by_cases h : Own ρ σ p
    · refine ⟨.inl (by unfold fOf; rw [if_pos h]), g.fh p o (g.ff p o ?_)⟩
      unfold gOf
      rw [if_pos h]
      exact e2
    · obtain ⟨x, y⟩ := g.kp p o (by unfold gOf; rw [if_neg h]; exact e1) e2
      refine ⟨?_, y⟩
      unfold Hid fOf
      rw [if_neg h]
      exact x
  · unfold fOf
    rw [if_neg (fun h => ?_)]
    · exact e
    · obtain ⟨_, _, o, e2, n⟩ := r.own h
      have : G' q = some o := g.ff q _ (by unfold gOf; rw [if_pos h]; exact e2)
      rw [this] at e
      cases e
      exact n xs rfl
theorem Rl.out {G' : Hp} (r : Rl Fb Hb F H ρ σ) (g : Gr (gOf ρ σ F H) H G' H') : Gr Fb Hb G' H' := by
  refine ⟨fun p o e => g.ff p o (r.fg p o (r.gr.ff p o e)), g.fh, fun p o e1 e2 => ?_⟩
  obtain ⟨k1, k2⟩ := r.gr.kp p o e1 e2
  have e3 : gOf ρ σ F H p = F p := by
    unfold gOf
    rw [if_neg (fun h => by rw [(r.own h).1] at e2; cases e2)]
  rcases k1 with k1 | ⟨k1, k3⟩
  · exact g.kp p o (by rw [e3]; exact k1) k2
  · have := g.ff p o (by rw [e3]; exact k3)
    exact ⟨.inr ⟨k1, this⟩, g.fh _ _ this⟩
theorem Rl.set (r : Rl Fb Hb F H ρ σ) {i : Nat} {d : D} {v : V} (a : At F d v) : Rl Fb Hb F H (ρ.set i (.v d)) (σ.set i (some v)) := by
  have nj : ∀ {j : Nat} {s : Sl}, (ρ.set i (.v d))[j]? = some s → s.isO = true → i ≠ j := fun {j s} h ho e => by
    subst e
    rw [List.getElem?_set] at h
    simp only [if_true] at h
    split at h <;> cases h
    cases ho
  refine ⟨r.gr, fun j e h => ?_, fun j s h ho => ?_, fun j k p s t h1 h2 o1 o2 h3 h4 => ?_, by simp [r.len]⟩
  · by_cases hj : i = j
    · subst hj
      rw [List.getElem?_set] at h
      simp only [if_true] at h
      split at h
      · rename_i hl
        cases h
        refine ⟨v, ?_, a⟩
        rw [List.getElem?_set]
        simp [← r.len, hl]
      · cases h
    · rw [List.getElem?_set_ne hj] at h ⊢
      exact r.vals j e h
  · have hj := nj h ho
    rw [List.getElem?_set_ne hj] at h ⊢
    exact r.ows j s h ho
  · have a1 := nj h1 o1
    have a2 := nj h2 o2
    rw [List.getElem?_set_ne a1] at h1 h3
    rw [List.getElem?_set_ne a2] at h2 h4
    exact r.dis j k p s t h1 h2 o1 o2 h3 h4
theorem Rl.setW (r : Rl Fb Hb F H ρ σ) {i : Nat} {w : Sl} {p : Addr} {o : HO} (h0 : Hb p = none) (hF : F p = none) (hH : H p = some o) (a : zdn F o w)
    (nw : ∀ (j : Nat) (s : Sl), ρ[j]? = some s → s.isO = true → σ[j]? ≠ some (some (.ref p))) : Rl Fb Hb F H (ρ.set i w) (σ.set i (some (.ref p))) := by
  have at_i : ∀ {s : Sl}, (ρ.set i w)[i]? = some s → i < ρ.length ∧ s = w := fun {s} h => by
    rw [List.getElem?_set] at h
    simp only [if_true] at h
    split at h
    · rename_i hl
      cases h
      exact ⟨hl, rfl⟩
    · cases h
  have st_i : i < ρ.length → (σ.set i (some (V.ref p)))[i]? = some (some (.ref p)) := fun hl => by
    rw [List.getElem?_set]
    simp [← r.len, hl]
  refine ⟨r.gr, fun j e h => ?_, fun j s h ho => ?_, fun j k q s t h1 h2 o1 o2 h3 h4 => ?_, by simp [r.len]⟩
  · by_cases hj : i = j
    · subst hj
      have e := (at_i h).2
      have := a.isO
      rw [← e] at this
      cases this
    · rw [List.getElem?_set_ne hj] at h ⊢
      exact r.vals j e h
  · by_cases hj : i = j
    · subst hj
      obtain ⟨hl, e⟩ := at_i h
      subst e
      exact ⟨p, o, st_i hl, h0, hF, hH, a⟩
    · rw [List.getElem?_set_ne hj] at h ⊢
      exact r.ows j s h ho
  · by_cases hj : i = j
    · subst hj
      by_cases hk : i = k
      · exact hk
      · obtain ⟨hl, _⟩ := at_i h1
        rw [st_i hl] at h3
        cases h3
        rw [List.getElem?_set_ne hk] at h2 h4
        exact absurd h4 (nw k t h2 o2)
    · by_cases hk : i = k
      · subst hk
        obtain ⟨hl, _⟩ := at_i h2
        rw [st_i hl] at h4
        cases h4
        rw [List.getElem?_set_ne hj] at h1 h3
        exact absurd h3 (nw j s h1 o1)
      · rw [List.getElem?_set_ne hj] at h1 h3
        rw [List.getElem?_set_ne hk] at h2 h4
        exact r.dis j k q s t h1 h2 o1 o2 h3 h4
theorem Rl.setO (r : Rl Fb Hb F H ρ σ) {i : Nat} {ds : List D} {p : Addr} {xs : List V} (h0 : Hb p = none) (hF : F p = none) (hH : H p = some (.lst xs)) (a : AtL F ds xs)
    (nw : ∀ (j : Nat) (s : Sl), ρ[j]? = some s → s.isO = true → σ[j]? ≠ some (some (.ref p))) : Rl Fb Hb F H (ρ.set i (.o ds)) (σ.set i (some (.ref p))) := r.setW h0 hF hH ⟨xs, rfl, a⟩ nw
theorem Rl.mutW (r : Rl Fb Hb F H ρ σ) {i : Nat} {w w' : Sl} {p : Addr} {o' : HO} (e : ρ[i]? = some w) (hw : w.isO = true) (e1 : σ[i]? = some (some (.ref p))) (a : zdn F o' w') : Rl Fb Hb F (upd H p o') (ρ.set i w') σ := by
  obtain ⟨q, o, e2, h0, hF, hH, _⟩ := r.ows i w e hw
  rw [e1] at e2
  cases e2
  have hi : i < ρ.length := (List.getElem?_eq_some_iff.mp e).1
  have neP : ∀ {j : Nat} {s : Sl} {q : Addr}, i ≠ j → ρ[j]? = some s → s.isO = true → σ[j]? = some (some (.ref q)) → q ≠ p := fun {j s q} hne h1 ho h2 z => by
    subst z
    exact hne (r.dis i j q w s e h1 hw ho e1 h2)
  refine ⟨⟨r.gr.ff, fun b o z => ?_, fun b o z1 z2 => ?_⟩, fun j d h => ?_, fun j s h ho => ?_, fun j k q s t h1 h2 o1 o2 h3 h4 => ?_, by simp [r.len]⟩
  · rw [zw (zq z hF)]
    exact r.gr.fh b o z
  · rw [zw (zq z2 h0)]
    exact r.gr.kp b o z1 z2
  · by_cases hj : i = j
    · subst hj
      rw [List.getElem?_set_self hi] at h
      cases h
      exact (Bool.noConfusion a.isO)
    · rw [List.getElem?_set_ne hj] at h
      exact r.vals j d h
  · by_cases hj : i = j
    · subst hj
      rw [List.getElem?_set_self hi] at h
      cases h
      exact ⟨p, o', e1, h0, hF, zt, a⟩
    · rw [List.getElem?_set_ne hj] at h
      obtain ⟨q, z, f1, f2, f3, f4, f5⟩ := r.ows j s h ho
      refine ⟨q, z, f1, f2, f3, ?_, f5⟩
      rw [zw (neP hj h ho f1)]
      exact f4
  · have back : ∀ {j : Nat} {s : Sl}, (ρ.set i w')[j]? = some s → s.isO = true → ∃ s', ρ[j]? = some s' ∧ s'.isO = true := fun {j s} h ho => by
      by_cases hj : i = j
      · subst hj; exact ⟨w, e, hw⟩
      · rw [List.getElem?_set_ne hj] at h; exact ⟨s, h, ho⟩
    obtain ⟨f1, g1, g1'⟩ := back h1 o1
    obtain ⟨f2, g2, g2'⟩ := back h2 o2
    exact r.dis j k q f1 f2 g1 g2 g1' g2' h3 h4
theorem Rl.mutate (r : Rl Fb Hb F H ρ σ) {i : Nat} {ds es : List D} {p : Addr} {ys : List V} (e : ρ[i]? = some (.o ds)) (e1 : σ[i]? = some (some (.ref p))) (a : AtL F es ys) : Rl Fb Hb F (upd H p (.lst ys)) (ρ.set i (.o es)) σ :=
  r.mutW e rfl e1 ⟨ys, rfl, a⟩
noncomputable def Sl.fz : Sl → Sl
  | .o ds => .v (.lst ds)
  | .m t ks vs => .v (.dct false t ks vs)
  | s => s
noncomputable def zkL (ρ : SE) (i : Nat) : SE := ρ.set i ((ρ[i]?).getD .no).fz
theorem Rl.freeze (r : Rl Fb Hb F H ρ σ) (i : Nat) : ∃ F', Rl Fb Hb F' H (zkL ρ i) σ := by
  unfold zkL
  cases h : ρ[i]? with
  | none =>
    refine ⟨F, ?_⟩
    rw [List.set_eq_of_length_le (List.getElem?_eq_none_iff.mp h)]
    exact r
  | some s =>
    have hi : i < ρ.length := (List.getElem?_eq_some_iff.mp h).1
    have same : s.fz = s → ∃ F', Rl Fb Hb F' H (ρ.set i ((some s).getD .no).fz) σ := fun e => by
      refine ⟨F, ?_⟩
      show Rl Fb Hb F H (ρ.set i s.fz) σ
      rw [e]
      have : ρ.set i s = ρ := by
        apply List.ext_getElem?
        intro j
        by_cases hj : i = j
        · subst hj; rw [List.getElem?_set_self hi, h]
        · rw [List.getElem?_set_ne hj]
      rw [this]
      exact r
    have give : ∀ d, s.isO = true → s.g = some d → s.fz = .v d → ∃ F', Rl Fb Hb F' H (ρ.set i ((some s).getD .no).fz) σ := fun d ho hg hz => by
      obtain ⟨p, o, e1, e2, e3, e4, a⟩ := r.ows i s h ho
      have sF : yU F (upd F p o) := fun b u e => by rw [zw (zq e e3)]; exact e
      show ∃ F', Rl Fb Hb F' H (ρ.set i s.fz) σ
      rw [hz]
      have nj : ∀ {j : Nat} {t : Sl}, (ρ.set i (.v d))[j]? = some t → t.isO = true → i ≠ j := fun {j t} h ht e => by
        subst e
        rw [List.getElem?_set_self hi] at h
        cases h
        cases ht
      refine ⟨upd F p o, r.gr.show e2 e3 e4, fun j e z => ?_, fun j t z ht => ?_, fun j k q t u h1 h2 o1 o2 h3 h4 => ?_, by simp [r.len]⟩
      · by_cases hj : i = j
        · subst hj
          rw [List.getElem?_set_self hi] at z
          cases z
          exact ⟨_, e1, a.at hg zt sF⟩
        · rw [List.getElem?_set_ne hj] at z
          obtain ⟨v, f1, f2⟩ := r.vals j e z
          exact ⟨v, f1, f2.mono sF⟩
      · have hj := nj z ht
        rw [List.getElem?_set_ne hj] at z
        obtain ⟨q, y, f1, f2, f3, f4, f5⟩ := r.ows j t z ht
        refine ⟨q, y, f1, f2, ?_, f4, f5.mono sF⟩
        rw [zw (fun w => hj (r.dis i j p s t h z ho ht e1 (by rw [← w]; exact f1)))]
        exact f3
      · have a1 := nj h1 o1
        have a2 := nj h2 o2
        rw [List.getElem?_set_ne a1] at h1
        rw [List.getElem?_set_ne a2] at h2
        exact r.dis j k q t u h1 h2 o1 o2 h3 h4
    cases s with
    | no => exact same rfl
    | v d => exact same rfl
    | o ds => exact give _ rfl rfl rfl
    | m t ks ds => exact give _ rfl rfl rfl
end
inductive Ctl where
  | nx (ρ : SE) | rt (d : D) | bk (ρ : SE) | ct (ρ : SE) | no
  deriving Inhabited
noncomputable def SOk (Fb Hb : Hp) (E : zgO) : Ctl → Prop
  | .nx ρ => ∀ F H σ, Rl Fb Hb F H ρ σ → E.nx σ H
  | .bk ρ => ∀ F H σ, Rl Fb Hb F H ρ σ → E.bk σ H
  | .ct ρ => ∀ F H σ, Rl Fb Hb F H ρ σ → E.ct σ H
  | .rt d => ∀ F H v, Gr Fb Hb F H → At F d v → E.rt v H
  | .no => False
noncomputable def RS (t : TS) (g : SE → Ctl) : Prop := ∀ (Fb Hb F H : Hp) (ρ : SE) (σ : St) (E : zgO), Rl Fb Hb F H ρ σ → SOk Fb Hb E (g ρ) → t E σ H
noncomputable def SD (X : Cx) (st : Stmt) (g : SE → Ctl) : Prop := ∃ t, PS X st t ∧ RS t g
noncomputable def SDs (X : Cx) (sts : List Stmt) (g : SE → Ctl) : Prop := ∃ t, PSs X sts t ∧ RS t g
section
variable {X : Cx} {st : Stmt} {sts : List Stmt} {a b c e : Expr} {pos pos' : Pos}
noncomputable def zC : SE → Ctl := .nx
noncomputable def zG (g h : SE → Ctl) : SE → Ctl := fun ρ => match g ρ with
  | .nx ρ' => h ρ'
  | .rt d => .rt d
  | .bk ρ' => .bk ρ'
  | .ct ρ' => .ct ρ'
  | .no => .no
theorem zv : SDs X [] zC := ⟨_, ziL, fun _ _ F H ρ σ E r h => h F H σ r⟩
theorem zc {g h : SE → Ctl} (h1 : SD X st g) (h2 : SDs X sts h) : SDs X (st :: sts) (zG g h) := by
  obtain ⟨t, p, r⟩ := h1
  obtain ⟨u, p2, r2⟩ := h2
  refine ⟨_, zgu p p2, fun Fb Hb F H ρ σ E rl k => ?_⟩
  refine r Fb Hb F H ρ σ { E with nx := u E } rl ?_
  unfold zG at k
  cases e : g ρ with
  | nx ρ' =>
    rw [e] at k
    exact fun F' H' σ' rl' => r2 Fb Hb F' H' ρ' σ' E rl' k
  | rt d => rw [e] at k; exact k
  | bk d => rw [e] at k; exact k
  | ct d => rw [e] at k; exact k
  | no => rw [e] at k; exact k
theorem zh {g : SE → Ctl} (h1 : SD X st g) : SDs X [st] g := let ⟨_, p, r⟩ := h1; ⟨_, zim p, r⟩
noncomputable def sFz (i : Nat) (g : SE → Ctl) : SE → Ctl := fun ρ => g (zkL ρ i)
theorem Y9 {g : SE → Ctl} (i : Nat) (h : SDs X sts g) : SDs X sts (sFz i g) := by
  obtain ⟨t, p, r⟩ := h
  refine ⟨_, p, fun Fb Hb F H ρ σ E rl k => ?_⟩
  obtain ⟨F', rl'⟩ := rl.freeze i
  exact r Fb Hb F' H _ σ E rl' k
noncomputable def sNo : SE → Ctl := fun _ => .no
theorem v7 : SD X st sNo := ⟨_, zfy, fun _ _ _ _ _ _ _ _ h => h.elim⟩
noncomputable def zV (f : Ev → Option D) : SE → Ctl := fun ρ => match f (visG ρ) with
  | some d => .rt d
  | none => .no
theorem zo {f : Ev → Option D} (h : ED X e f) : SD X (.Return (some e) pos) (zV f) := by
  obtain ⟨t, p, r⟩ := h
  refine ⟨_, zkb p, fun Fb Hb F H ρ σ E rl k => ?_⟩
  unfold zV at k
  cases h : f (visG ρ) with
  | none => rw [h] at k; exact k.elim
  | some d =>
    rw [h] at k
    exact r σ _ _ H d _ rl.gh rl.visG h fun F' H' v g av => k F' H' v (rl.out g) av
noncomputable def vb : SE → Ctl := fun _ => .rt .non
noncomputable def vEv (m : Bool) (f : Ev → Option D) (ρ : SE) : Option D := if m = true then (f (visG ρ)).bind fun d => if noL d = true then some d else none else f (visF ρ)
theorem RE.at {Fb Hb F H : Hp} {ρ : SE} {σ : St} {m : Bool} {f : Ev → Option D} {t : TE} {d : D} {Q : VK} (r : RE t f) (rl : Rl Fb Hb F H ρ σ) (h : vEv m f ρ = some d) (q : ∀ F' H' v, Gr F H F' H' → At F' d v → Q v H') : t σ H Q := by
  unfold vEv at h
  cases m with
  | false =>
    rw [if_neg Bool.false_ne_true] at h
    exact r σ _ _ H d _ rl.gr.fh rl.visF h q
  | true =>
    rw [if_pos rfl] at h
    obtain ⟨d', h1, h2⟩ := Option.bind_eq_some_iff.mp h
    split at h2 <;> cases h2
    rename_i hn
    refine r σ _ _ H d _ rl.gh rl.visG h1 fun F' H' v g av => ?_
    obtain ⟨g2, fl⟩ := rl.back g
    exact q _ H' v g2 (av.flat fl hn)
noncomputable def xg (m : Bool) (i : Nat) (f : Ev → Option D) : SE → Ctl := fun ρ => match vEv m f ρ with
  | some d => .nx (ρ.set i (.v d))
  | none => .no
theorem zR {m : Bool} {i : Nat} {x : Str} {f : Ev → Option D} (hN : X.N.Nodup) (hi : X.N[i]? = some x) (hx : Loc X.env.scope x) (he : ED X e f) (hs : swapsWith e (some (.Name x pos')) pos.line X.env = pure false := by rfl)
    (hf : X.fn x = true ∨ X.env.scope.names.lookup x = some .local := by first | exact .inl rfl | exact .inr rfl | assumption) : SD X (.Assign [.Name x pos'] e pos) (xg m i f) := by
  obtain ⟨t, p, r⟩ := he
  refine ⟨_, zep hN hi hx p hs hf, fun Fb Hb F H ρ σ E rl k => ?_⟩
  unfold xg at k
  cases h : vEv m f ρ with
  | none => rw [h] at k; exact k.elim
  | some d =>
    rw [h] at k
    exact r.at rl h fun F' H' v g av => k F' H' _ ((rl.grow g).set av)
noncomputable def Yk (f : Ev → Option D) : SE → Ctl := fun ρ => match f (visG ρ) with
  | some _ => .nx ρ
  | none => .no
theorem vk {f : Ev → Option D} (he : ED X e f) (hs : swapsWith e none pos.line X.env = pure false := by rfl) : SD X (.Expr e pos) (Yk f) := by
  obtain ⟨t, p, r⟩ := he
  refine ⟨_, zbF p hs, fun Fb Hb F H ρ σ E rl k => ?_⟩
  unfold Yk at k
  cases h : f (visG ρ) with
  | none => rw [h] at k; exact k.elim
  | some d =>
    rw [h] at k
    exact r σ _ _ H d _ rl.gh rl.visG h fun F' H' v g av => k _ H' σ (rl.grow (rl.back g).1)
noncomputable def Yr (i : Nat) (f : Ev → Option (List D)) : SE → Ctl := fun ρ => match f (visF ρ) with
  | some ds => .nx (ρ.set i (.o ds))
  | none => .no
theorem Y4 {i : Nat} {x : Str} {f : Ev → Option (List D)} (hN : X.N.Nodup) (hi : X.N[i]? = some x) (hx : Loc X.env.scope x) (he : FL X e f) (hs : swapsWith e (some (.Name x pos')) pos.line X.env = pure false := by rfl)
    (hf : X.fn x = true ∨ X.env.scope.names.lookup x = some .local := by first | exact .inl rfl | exact .inr rfl | assumption) : SD X (.Assign [.Name x pos'] e pos) (Yr i f) := by
  obtain ⟨t, p, r⟩ := he
  refine ⟨_, zep hN hi hx p hs hf, fun Fb Hb F H ρ σ E rl k => ?_⟩
  unfold Yr at k
  cases h : f (visF ρ) with
  | none => rw [h] at k; exact k.elim
  | some ds =>
    rw [h] at k
    refine r σ _ _ H ds _ rl.gr.fh rl.visF h fun F' H' q xs g h0 hF hH hx => ?_
    have rl2 := rl.grow g
    exact k F' H' _ (rl2.setO (rl.notbase h0) hF hH hx (rl.notown h0))
noncomputable def sIf (t : Ev → Option Bool) (g h : SE → Ctl) : SE → Ctl := fun ρ => match t (visG ρ) with
  | some true => g ρ
  | some false => h ρ
  | none => .no
theorem yc {as bs : List Stmt} {t : Ev → Option Bool} {g h : SE → Ctl} (hc : TD X c t) (ha : SDs X as g) (hb : SDs X bs h) : SD X (.If c as bs pos) (sIf t g h) := by
  obtain ⟨tc, pc, rc⟩ := hc
  obtain ⟨ta, pa, ra⟩ := ha
  obtain ⟨tb, pb, rb⟩ := hb
  refine ⟨_, zlH pc pa pb, fun Fb Hb F H ρ σ E rl k => ?_⟩
  unfold sIf at k
  cases h : t (visG ρ) with
  | none => rw [h] at k; exact k.elim
  | some d =>
    rw [h] at k
    refine rc σ _ _ H d _ rl.gh rl.visG h fun F' H' g => ?_
    have rl2 := rl.grow (rl.back g).1
    cases d with
    | true => rw [if_pos rfl]; exact ra Fb Hb _ H' ρ σ E rl2 k
    | false => rw [if_neg Bool.false_ne_true]; exact rb Fb Hb _ H' ρ σ E rl2 k
noncomputable def Yc (t : Ev → Option Bool) (g : SE → Ctl) : Nat → SE → Ctl
  | 0, _ => .no
  | n + 1, ρ => match t (visG ρ) with
    | some true => match g ρ with
      | .nx ρ' => Yc t g n ρ'
      | .ct ρ' => Yc t g n ρ'
      | .bk ρ' => .nx ρ'
      | .rt d => .rt d
      | .no => .no
    | some false => .nx ρ
    | none => .no
theorem Vx {as : List Stmt} {t : Ev → Option Bool} {g : SE → Ctl} (n : Nat) (hp : PassesOwn (model X.prog X.w) X.A X.env X.xe) (hc : TD X c t) (ha : SDs X as g) : SD X (.While c as [] pos) (Yc t g n) := by
  obtain ⟨tc, pc, rc⟩ := hc
  obtain ⟨ta, pa, ra⟩ := ha
  refine ⟨_, zfY hp pc pa, fun Fb Hb F H ρ σ E rl k => ?_⟩
  refine ⟨fun m σ H => ∃ F ρ, Rl Fb Hb F H ρ σ ∧ SOk Fb Hb E (Yc t g m ρ), ⟨n, F, ρ, rl, k⟩, ?_⟩
  rintro m σ H ⟨F, ρ, rl, k⟩
  cases m with
  | zero => exact k.elim
  | succ m =>
    unfold Yc at k
    cases h : t (visG ρ) with
    | none => rw [h] at k; exact k.elim
    | some d =>
      rw [h] at k
      refine rc σ _ _ H d _ rl.gh rl.visG h fun F' H' gr => ?_
      have rl2 := rl.grow (rl.back gr).1
      cases d with
      | false => rw [if_neg Bool.false_ne_true]; exact k _ H' σ rl2
      | true =>
        rw [if_pos rfl]
        refine ⟨fun σ H => ∃ F ρ, Rl Fb Hb F H ρ σ ∧ SOk Fb Hb E (Yc t g m ρ), fun σ' H' w => ⟨m, Nat.lt_succ_self m, w⟩, ?_⟩
        refine ra Fb Hb _ H' ρ σ _ rl2 ?_
        dsimp only at k
        cases hg : g ρ with
        | nx ρ' => rw [hg] at k; exact fun F2 H2 σ2 r2 => ⟨F2, ρ', r2, k⟩
        | ct ρ' => rw [hg] at k; exact fun F2 H2 σ2 r2 => ⟨F2, ρ', r2, k⟩
        | bk ρ' => rw [hg] at k; exact k
        | rt d => rw [hg] at k; exact k
        | no => rw [hg] at k; exact k.elim
noncomputable def RG (t : TG) (b : D → SE → Option SE) : Prop := ∀ (Fb Hb F H : Hp) (ρ ρ' : SE) (σ : St) (d : D) (v : V) (Q : St → Hp → Prop), Rl Fb Hb F H ρ σ → At F d v → b d ρ = some ρ' → (∀ σ', Rl Fb Hb F H ρ' σ' → Q σ' H) → t v σ H Q
noncomputable def RGs (t : TGs) (b : List D → SE → Option SE) : Prop := ∀ (Fb Hb F H : Hp) (ρ ρ' : SE) (σ : St) (ds : List D) (vs : List V) (Q : St → Hp → Prop), Rl Fb Hb F H ρ σ → AtL F ds vs → b ds ρ = some ρ' → (∀ σ', Rl Fb Hb F H ρ' σ' → Q σ' H) → t vs σ H Q
noncomputable def BD (X : Cx) (tg : Expr) (b : D → SE → Option SE) : Prop := ∃ t, PG X tg t ∧ RG t b
noncomputable def BDs (X : Cx) (tgs : List Expr) (b : List D → SE → Option SE) : Prop := ∃ t, PGs X tgs t ∧ RGs t b
noncomputable def yf (i : Nat) : D → SE → Option SE := fun d ρ => some (ρ.set i (.v d))
theorem zS {i : Nat} (h : PG X a (XN i)) : BD X a (yf i) := by
  refine ⟨_, h, fun Fb Hb F H ρ ρ' σ d v Q rl av e q => ?_⟩
  cases e
  exact q _ (rl.set av)
noncomputable def Xd : List D → SE → Option SE
  | [], ρ => some ρ
  | _, _ => none
noncomputable def y0 (b : D → SE → Option SE) (c : List D → SE → Option SE) : List D → SE → Option SE
  | d :: ds, ρ => (b d ρ).bind (c ds)
  | [], _ => none
theorem Wa : BDs X [] Xd := by
  refine ⟨_, zec, fun Fb Hb F H ρ ρ' σ ds vs Q rl av e q => ?_⟩
  cases ds with
  | nil => cases e; exact ⟨av.nil_inv, q _ rl⟩
  | cons _ _ => cases e
theorem xM {es : List Expr} {b : D → SE → Option SE} {c : List D → SE → Option SE} (h1 : BD X e b) (h2 : BDs X es c)
    (hs : (assignEach (e :: es) X.env).map (·.2) = assign e X.env :: (assignEach es X.env).map (·.2) := by rfl) : BDs X (e :: es) (y0 b c) := by
  obtain ⟨t, p, r⟩ := h1
  obtain ⟨u, p2, r2⟩ := h2
  refine ⟨_, V1 p p2 hs, fun Fb Hb F H ρ ρ' σ ds vs Q rl av e q => ?_⟩
  cases ds with
  | nil => cases e
  | cons d ds =>
    obtain ⟨x, xs, rfl, a1, a2⟩ := av.cons_inv
    obtain ⟨ρ1, e1, e2⟩ := Option.bind_eq_some_iff.mp e
    exact ⟨x, xs, rfl, r Fb Hb F H ρ ρ1 σ d x _ rl a1 e1 fun σ1 rl1 => r2 Fb Hb F H ρ1 ρ' σ1 ds xs Q rl1 a2 e2 q⟩
noncomputable def Z5 (n : Nat) (c : List D → SE → Option SE) : D → SE → Option SE
  | .tup ds, ρ => if ds.length = n then c ds ρ else none
  | _, _ => none
theorem za0 {es : List Expr} {k : Nat} {n : Nat} {c : List D → SE → Option SE} (hc : X.calm = true) (h : BDs X es c)
    (hn : (assignEach es X.env).length = n := by rfl) (hst : (assignEach es X.env).findIdx? (·.1) = none := by rfl) : BD X (.Tuple es k pos) (Z5 n c) := by
  obtain ⟨t, p, r⟩ := h
  refine ⟨_, zhm hc p hn hst, fun Fb Hb F H ρ ρ' σ d v Q rl av e q => ?_⟩
  cases d with
  | tup ds =>
    unfold Z5 at e
    dsimp only at e
    split at e
    · rename_i hl
      obtain ⟨a, xs, rfl, hx, al⟩ := av.tup_inv
      exact ⟨a, xs, rfl, SqT.of (rl.gr.fh _ _ hx), by rw [al.length]; exact hl, r Fb Hb F H ρ ρ' σ ds xs Q rl al e q⟩
    · cases e
  | _ => cases e
noncomputable def XO (m : Bool) (f : Ev → Option D) (b : D → SE → Option SE) : SE → Ctl := fun ρ => match (vEv m f ρ).bind fun d => b d ρ with
  | some ρ' => .nx ρ'
  | none => .no
theorem zjV {m : Bool} {tg : Expr} {f : Ev → Option D} {b : D → SE → Option SE} (he : ED X e f) (hg : BD X tg b) (hs : swapsWithSole [tg] e pos.line X.env = pure false := by rfl) (hw : swappedStores [tg] e X.env = pure none := by rfl)
    (h1 : (assignEach [tg] X.env).map (·.2) = [assign tg X.env] := by rfl) : SD X (.Assign [tg] e pos) (XO m f b) := by
  obtain ⟨t, p, r⟩ := he
  obtain ⟨u, p2, r2⟩ := hg
  refine ⟨_, zhb p p2 hs hw h1, fun Fb Hb F H ρ σ E rl k => ?_⟩
  unfold XO at k
  cases h : (vEv m f ρ).bind fun d => b d ρ with
  | none => rw [h] at k; exact k.elim
  | some ρ' =>
    rw [h] at k
    obtain ⟨d, e1, e2⟩ := Option.bind_eq_some_iff.mp h
    refine r.at rl e1 fun F' H' v g av => ?_
    exact r2 Fb Hb F' H' ρ ρ' σ d v _ (rl.grow g) av e2 fun σ' rl' => k F' H' σ' rl'
noncomputable def Y7 (m : Bool) (i : Nat) (fk fe : Ev → Option D) : SE → Ctl := fun ρ => match (vEv m fe ρ).bind fun d => (fk (visG ρ)).bind fun k => match ρ[i]?, k with
    | some (.o ds), .int k => (ixN ds.length k).map fun j => ρ.set i (.o (ds.set j d))
    | _, _ => none with
  | some ρ' => .nx ρ'
  | none => .no
theorem Vj {m : Bool} {i : Nat} {ko : Expr} {fk fe : Ev → Option D} (he : ED X e fe) (ho : PE X a (zhi i)) (hk : ED X ko fk) (hs : swapsWithSole [.Subscript a ko pos'] e pos.line X.env = pure false := by rfl) (hw : swappedStores [.Subscript a ko pos'] e X.env = pure none := by rfl)
    (h1 : (assignEach [.Subscript a ko pos'] X.env).map (·.2) = [assign (.Subscript a ko pos') X.env] := by rfl)
    (ha : ∀ v, assign (.Subscript a ko pos') X.env v = (do
      let ov ← holding [v] (eval a X.env)
      let iv ← holding [v, ov] (eval ko X.env)
      standAt pos'
      holding [v, ov, iv] (setItem ov iv v)
      release [v, ov, iv] []) := by intro _; rfl) : SD X (.Assign [.Subscript a ko pos'] e pos) (Y7 m i fk fe) := by
  obtain ⟨t, p, r⟩ := he
  obtain ⟨tk, pk, rk⟩ := hk
  refine ⟨_, zhb p (zkA ho pk zcv ha) hs hw h1, fun Fb Hb F H ρ σ E rl k => ?_⟩
  unfold Y7 at k
  cases h : (vEv m fe ρ).bind fun d => (fk (visG ρ)).bind fun k => match ρ[i]?, k with
    | some (.o ds), .int k => (ixN ds.length k).map fun j => ρ.set i (.o (ds.set j d))
    | _, _ => none with
  | none => rw [h] at k; exact k.elim
  | some ρ' =>
    rw [h] at k
    obtain ⟨d, e1, e2⟩ := Option.bind_eq_some_iff.mp h
    obtain ⟨kd, e3, e2⟩ := Option.bind_eq_some_iff.mp e2
    cases hs : ρ[i]? with
    | none => rw [hs] at e2; cases e2
    | some sl =>
      rw [hs] at e2
      cases sl with
      | no => cases e2
      | v _ => cases e2
      | m _ _ _ => cases e2
      | o ds =>
        cases kd with
        | int kk =>
          obtain ⟨j, e4, rfl⟩ := Option.map_eq_some_iff.mp e2
          refine r.at rl e1 fun F' H' v g av => ?_
          have rl2 := rl.grow g
          obtain ⟨q, xs, f1, _⟩ := rl2.owns i ds hs
          refine ⟨_, f1, ?_⟩
          refine rk σ _ _ H' _ _ rl2.gh rl2.visG e3 fun F3 H3 v3 g3 av3 => ?_
          obtain ⟨gb, _⟩ := rl2.back g3
          have rl3 := rl2.grow gb
          obtain ⟨q3, xs3, f1', _, _, f4, f5⟩ := rl3.owns i ds hs
          rw [f1] at f1'
          cases f1'
          refine ⟨q, xs3, kk, j, rfl, av3.int_inv, f4, by rw [f5.length]; exact e4, ?_⟩
          exact k _ _ σ (rl3.mutate hs f1 (f5.set j (av.mono gb.ff)))
        | _ => cases e2
end
end Dl
namespace L2
open PySem PySem.Spec PyProof.Rows
section
variable {X : Cx} {tg : Expr}
noncomputable def iSeq (K : PySem.W.Frag) (tl : TE) : TI := fun σ H R => tl σ H fun x H1 => (∃ a, x = .ref a ∧ (∃ xs, SqL K H1 a xs) ∧ R (Itl K a) H1) ∨ (∃ a, x = .ref a ∧ (∃ xs, SqT K H1 a xs) ∧ R (Itt K a) H1)
theorem zke {l : Expr} {tl : TE} (hl : PE X l tl) : PI X tg l (iSeq X.K tl) := by
  intro pins s σ H R I h
  refine thn (hl pins s σ H _ I h) fun v s1 hh9 => ?_
  obtain ⟨x, H1, I1, r1, q1⟩ := hh9
  rcases q1 with ⟨a, e, ⟨xs, hq⟩, q⟩ | ⟨a, e, ⟨xs, hq⟩, q⟩
  · subst e
    cases r1
    obtain ⟨its, rv, p, hz⟩ := I1.list hq
    refine wpAny_pyIter_list p.isList ?_
    refine ⟨s1.heap.objs.size, [s1.heap.objs.size], _, _, H1, rfl, I1.kept (t' := s1.toks) fun b o e => Heap.get?_push_of_some _ e, zeq a _, ⟨_, Heap.get?_push_size _ rfl, rfl, rfl⟩, fun b hb => ?_, q⟩
    have e : b = s1.heap.objs.size := by simpa using hb
    subst e
    exact I1.fpOk (Nat.le_refl _) (I1.hok.fresh (Nat.le_refl _))
  · subst e
    cases r1
    obtain ⟨its, rv, p, hz⟩ := I1.tuple hq
    refine wpAny_pyIter_tuple (show s1.heap.IsTuple a its.toArray from p) ?_
    refine ⟨s1.heap.objs.size, [s1.heap.objs.size], _, _, H1, rfl, I1.kept (t' := s1.toks) fun b o e => Heap.get?_push_of_some _ e, zdv a _, ⟨_, Heap.get?_push_size _ rfl, rfl, rfl⟩, fun b hb => ?_, q⟩
    have e : b = s1.heap.objs.size := by simpa using hb
    subst e
    exact I1.fpOk (Nat.le_refl _) (I1.hok.fresh (Nat.le_refl _))
end
end L2
namespace Dl
open PySem L2
variable [KK]
noncomputable def ziT (J : It) (F : Hp) (ds : List D) : Prop := ∀ (i : Nat) (F2 H2 : Hp), yU F F2 → yU F2 H2 → (i = ds.length → J.stop i H2) ∧
  ∀ d, ds[i]? = some d → J.go i H2 ∧ ∀ x H3, J.yld i H2 x H3 → ∃ F3, Gr F2 H2 F3 H3 ∧ At F3 d x
noncomputable def RI (wi : TI) (f : Ev → Option (List D)) : Prop :=
  ∀ (σ : St) (ρ : Ev) (F H : Hp) (ds : List D) (R : It → Hp → Prop), yU F H → VAt F ρ σ → f ρ = some ds → (∀ F' H' J, Gr F H F' H' → ziT J F' ds → R J H') → wi σ H R
noncomputable def ID (X : Cx) (tg iter : Expr) (f : Ev → Option (List D)) : Prop := ∃ wi, PI X tg iter wi ∧ RI wi f
noncomputable def yR : D → Option (List D)
  | .lst ds => some ds
  | .tup ds => some ds
  | _ => none
section
variable {X : Cx} {tg a b c e : Expr} {pos : Pos}
theorem zjK {K : PySem.W.Frag} {F : Hp} {p : Addr} {xs : List V} {ds : List D} (h : F p = some (.lst xs)) (al : AtL F ds xs) : ziT (Itl K p) F ds := by
  intro i F2 H2 s1 s2
  have q : SqL K H2 p xs := SqL.of (s2 _ _ (s1 _ _ h))
  refine ⟨fun hl => ⟨xs, q, by rw [al.length, hl]; exact Nat.le_refl _⟩, fun d hd => ?_⟩
  obtain ⟨x, hx, ax⟩ := al.get hd
  refine ⟨⟨xs, x, q, hx⟩, fun y H3 hy => ?_⟩
  obtain ⟨rfl, hy⟩ := hy
  have := hy xs q
  rw [hx] at this
  cases this
  exact ⟨F2, .refl s2, ax.mono s1⟩
theorem zkc {K : PySem.W.Frag} {F : Hp} {p : Addr} {xs : List V} {ds : List D} (h : F p = some (.tup xs)) (al : AtL F ds xs) : ziT (Itt K p) F ds := by
  intro i F2 H2 s1 s2
  have q : SqT K H2 p xs := SqT.of (s2 _ _ (s1 _ _ h))
  refine ⟨fun hl => ⟨xs, q, by rw [al.length, hl]; exact Nat.le_refl _⟩, fun d hd => ?_⟩
  obtain ⟨x, hx, ax⟩ := al.get hd
  refine ⟨⟨xs, x, q, hx⟩, fun y H3 hy => ?_⟩
  obtain ⟨rfl, hy⟩ := hy
  have := hy xs q
  rw [hx] at this
  cases this
  exact ⟨F2, .refl s2, ax.mono s1⟩
noncomputable def iOf (f : Ev → Option D) : Ev → Option (List D) := fun ρ => (f ρ).bind yR
theorem wS {f : Ev → Option D} (ha : ED X a f) : ID X tg a (iOf f) := by
  obtain ⟨t, p, r⟩ := ha
  refine ⟨_, zke p, fun σ ρ F H ds R s va e q => ?_⟩
  obtain ⟨d, e1, e2⟩ := Option.bind_eq_some_iff.mp e
  refine r σ ρ F H d _ s va e1 fun F1 H1 v g1 a1 => ?_
  cases d <;> try cases e2
  · obtain ⟨p, xs, rfl, hx, al⟩ := a1.tup_inv
    exact .inr ⟨p, rfl, ⟨xs, SqT.of (g1.fh _ _ hx)⟩, q F1 H1 _ g1 (zkc hx al)⟩
  · obtain ⟨p, xs, rfl, hx, al⟩ := a1.lst_inv
    exact .inl ⟨p, rfl, ⟨xs, SqL.of (g1.fh _ _ hx)⟩, q F1 H1 _ g1 (zjK hx al)⟩
noncomputable def zag (lo : Int) (n : Nat) : List D := (List.range n).map fun k : Nat => .int (lo + k)
theorem zd8 {F : Hp} (lo : Int) (n : Nat) : ziT (Itr lo n) F (zag lo n) := by
  intro i F2 H2 s1 s2
  have hlen : (zag lo n).length = n := by unfold zag; simp
  refine ⟨fun hl => by rw [hlen] at hl; rw [hl]; exact Nat.le_refl _, fun d hd => ?_⟩
  have hi : i < n := by
    have := (List.getElem?_eq_some_iff.mp hd).1
    omega
  refine ⟨hi, fun y H3 hy => ?_⟩
  obtain ⟨rfl, rfl⟩ := hy
  refine ⟨F2, .refl s2, ?_⟩
  unfold zag at hd
  rw [List.getElem?_map, List.getElem?_range hi] at hd
  cases hd
  exact .int
@[irreducible] noncomputable def zhw (j : Int) : Bool := decide (-(2 ^ 62) ≤ j ∧ j < 2 ^ 62)
omit [KK] in
theorem xO {j : Int} : zhw j = true ↔ -(2 ^ 62) ≤ j ∧ j < 2 ^ 62 := by unfold zhw; exact decide_eq_true_iff
noncomputable def wY : List D → Option (List D)
  | [.int j] => if zhw j = true then some (zag 0 j.toNat) else none
  | _ => none
noncomputable def XG : List D → Option (List D)
  | [.int i, .int j] => if zhw i = true ∧ zhw j = true then some (zag i (j - i).toNat) else none
  | _ => none
noncomputable def Y2 (g : List D → Option (List D)) (f : Ev → Option (List D)) : Ev → Option (List D) := fun ρ => (f ρ).bind g
theorem ZB {p : Pos} {f : Ev → Option (List D)} (hg : Gl X "range") (hm : X.mg "range" = none) (ha : AD X [a] f) (hs : starEach [a] X.env = [(false, eval a X.env)] := by rfl) : ID X tg (.Call (.Name "range" p) [a] [] pos) (Y2 wY f) := by
  obtain ⟨t, pa, r⟩ := ha
  refine ⟨_, za8 hg hm pa hs, fun σ ρ F H ds R s va e q => ?_⟩
  obtain ⟨d, e1, e2⟩ := Option.bind_eq_some_iff.mp e
  refine r σ ρ F H d _ s va e1 fun F1 H1 v g1 a1 => ?_
  unfold wY at e2
  split at e2
  · split at e2
    · cases e2
      rename_i hc
      obtain ⟨x, r', rfl, ax, ar⟩ := a1.cons_inv
      cases ar.nil_inv
      exact ⟨_, by rw [ax.int_inv], (xO.mp hc).1, (xO.mp hc).2, q F1 H1 _ g1 (zd8 0 _)⟩
    · cases e2
  · cases e2
theorem zaP {p : Pos} {f : Ev → Option (List D)} (hg : Gl X "range") (hm : X.mg "range" = none) (ha : AD X [a, b] f) (hs : starEach [a, b] X.env = [(false, eval a X.env), (false, eval b X.env)] := by rfl) (hs2 : starEach [b] X.env = [(false, eval b X.env)] := by rfl) :
    ID X tg (.Call (.Name "range" p) [a, b] [] pos) (Y2 XG f) := by
  obtain ⟨t, pa, r⟩ := ha
  refine ⟨_, zdL hg hm pa hs hs2, fun σ ρ F H ds R s va e q => ?_⟩
  obtain ⟨d, e1, e2⟩ := Option.bind_eq_some_iff.mp e
  refine r σ ρ F H d _ s va e1 fun F1 H1 v g1 a1 => ?_
  unfold XG at e2
  split at e2
  · split at e2
    · cases e2
      rename_i hc
      obtain ⟨x, r', rfl, ax, ar⟩ := a1.cons_inv
      obtain ⟨y, r', rfl, ay, ar⟩ := ar.cons_inv
      cases ar.nil_inv
      exact ⟨_, _, by rw [ax.int_inv, ay.int_inv], ⟨(xO.mp hc.1).1, (xO.mp hc.1).2, (xO.mp hc.2).1, (xO.mp hc.2).2⟩, q F1 H1 _ g1 (zd8 _ _)⟩
    · cases e2
  · cases e2
noncomputable def V2 (n : Nat) : List D → List D
  | [] => []
  | d :: ds => .tup [.int n, d] :: V2 (n + 1) ds
omit [KK] in
theorem WI (ds : List D) : ∀ (n i : Nat), (V2 n ds)[i]? = (ds[i]?).map fun d => .tup [.int ((n + i : Nat) : Int), d] := by
  induction ds with
  | nil => intro n i; simp [V2]
  | cons d ds ih =>
    intro n i
    cases i with
    | zero => simp [V2]
    | succ i =>
      show (V2 (n + 1) ds)[i]? = (ds[i]?).map _
      rw [ih]
      have : n + 1 + i = n + (i + 1) := by omega
      rw [this]
omit [KK] in
theorem YB (ds : List D) : ∀ n, (V2 n ds).length = ds.length := by
  induction ds with
  | nil => intro n; rfl
  | cons d ds ih => intro n; simp [V2, ih]
noncomputable def yP (f : Ev → Option (List D)) : Ev → Option (List D) := fun ρ => (f ρ).bind fun as => match as with
  | [d] => (yR d).map (V2 0)
  | _ => none
theorem zio {es : List Expr} {k : Nat} {tp p : Pos} {f : Ev → Option (List D)} (hg : Gl X "enumerate") (hm : X.mg "enumerate" = none) (hb : bootBuiltins "enumerate" = some (.type "enumerate")) (ha : AD X [a] f)
    (hs : starEach [a] X.env = [(false, eval a X.env)] := by rfl) : ID X (.Tuple es k tp) (.Call (.Name "enumerate" p) [a] [] pos) (yP f) := by
  obtain ⟨t, pa, r⟩ := ha
  refine ⟨_, zhL hg hm hb pa hs, fun σ ρ F H ds R s va e q => ?_⟩
  obtain ⟨as, e1, e2⟩ := Option.bind_eq_some_iff.mp e
  refine r σ ρ F H as _ s va e1 fun F1 H1 v g1 a1 => ?_
  split at e2
  · obtain ⟨x, r', rfl, ax, ar⟩ := a1.cons_inv
    cases ar.nil_inv
    obtain ⟨es, e3, rfl⟩ := Option.map_eq_some_iff.mp e2
    rename_i d
    cases d <;> try cases e3
    · obtain ⟨p, xs, rfl, hx, al⟩ := ax.tup_inv
      refine ⟨p, rfl, .inr ⟨xs, SqT.of (g1.fh _ _ hx), q F1 H1 _ g1 fun i F2 H2 s1 s2 => ?_⟩⟩
      have qq : SqT X.K H2 p xs := SqT.of (s2 _ _ (s1 _ _ hx))
      refine ⟨fun hl => ⟨xs, qq, by rw [al.length, hl, YB]; exact Nat.le_refl _⟩, fun d hd => ?_⟩
      rw [WI] at hd
      obtain ⟨d', hd', rfl⟩ := Option.map_eq_some_iff.mp hd
      obtain ⟨x, hxi, ax⟩ := al.get hd'
      refine ⟨⟨xs, x, qq, hxi⟩, fun y H3 hy => ?_⟩
      obtain ⟨T, y, rfl, hT, rfl, hy⟩ := hy
      have := hy xs qq
      rw [hxi] at this
      cases this
      have g3 := Gr.alloc s2 hT (.tup [.int i, x])
      exact ⟨_, g3, .tup zt (.cons (by rw [Nat.zero_add]; exact .int) (.cons (ax.mono (s1.trans g3.ff)) .nil))⟩
    · obtain ⟨p, xs, rfl, hx, al⟩ := ax.lst_inv
      refine ⟨p, rfl, .inl ⟨xs, g1.fh _ _ hx, q F1 H1 _ g1 fun i F2 H2 s1 s2 => ?_⟩⟩
      have qq : SqL X.K H2 p xs := SqL.of (s2 _ _ (s1 _ _ hx))
      refine ⟨fun hl => ⟨xs, qq, by rw [al.length, hl, YB]; exact Nat.le_refl _⟩, fun d hd => ?_⟩
      rw [WI] at hd
      obtain ⟨d', hd', rfl⟩ := Option.map_eq_some_iff.mp hd
      obtain ⟨x, hxi, ax⟩ := al.get hd'
      refine ⟨⟨xs, x, qq, hxi⟩, fun y H3 hy => ?_⟩
      obtain ⟨T, y, rfl, hT, rfl, hy⟩ := hy
      have := hy xs qq
      rw [hxi] at this
      cases this
      have g3 := Gr.alloc s2 hT (.tup [.int i, x])
      exact ⟨_, g3, .tup zt (.cons (by rw [Nat.zero_add]; exact .int) (.cons (ax.mono (s1.trans g3.ff)) .nil))⟩
  · cases e2
noncomputable def hb2 (F1 Hb : Hp) : Hp := fun p => match F1 p with
  | some o => some o
  | none => Hb p
theorem X5 {F1 Hb : Hp} {p : Addr} (h : F1 p = none) : hb2 F1 Hb p = Hb p := by unfold hb2; rw [h]
theorem zgc {F1 Hb : Hp} {p : Addr} {o : HO} (h : F1 p = some o) : hb2 F1 Hb p = some o := by unfold hb2; rw [h]
theorem Gr.up {Fb Hb F1 H1 F H : Hp} (g1 : Gr Fb Hb F1 H1) (g : Gr F1 (hb2 F1 Hb) F H) : Gr Fb Hb F H := by
  refine ⟨g1.ff.trans g.ff, g.fh, fun p o e1 e2 => ?_⟩
  rcases (g1.kp p o e1 e2).1 with n | ⟨n1, n2⟩
  · exact g.kp p o n (by rw [X5 n]; exact e2)
  · exact ⟨.inr ⟨n1, g.ff _ _ n2⟩, g.fh _ _ (g.ff _ _ n2)⟩
theorem Gr.dn {Fb Hb F1 F H : Hp} (g : Gr Fb Hb F H) (s1 : yU Fb F1) (s : yU F1 F) : Gr F1 (hb2 F1 Hb) F H := by
  refine ⟨s, g.fh, fun p o e1 e2 => ?_⟩
  rw [X5 e1] at e2
  exact g.kp p o (s1.free e1) e2
theorem Rl.up {Fb Hb F1 H1 F H : Hp} {ρ : SE} {σ : St} (g1 : Gr Fb Hb F1 H1) (r : Rl F1 (hb2 F1 Hb) F H ρ σ) : Rl Fb Hb F H ρ σ := by
  refine ⟨g1.up r.gr, r.vals, fun i s e ho => ?_, r.dis, r.len⟩
  obtain ⟨p, o, e1, e2, e3⟩ := r.ows i s e ho
  refine ⟨p, o, e1, ?_, e3⟩
  cases h : F1 p with
  | none => rw [X5 h] at e2; exact e2
  | some o => rw [zgc h] at e2; cases e2
theorem Rl.dn {Fb Hb F1 F H : Hp} {ρ : SE} {σ : St} (r : Rl Fb Hb F H ρ σ) (s1 : yU Fb F1) (s : yU F1 F) : Rl F1 (hb2 F1 Hb) F H ρ σ := by
  refine ⟨r.gr.dn s1 s, r.vals, fun i t e ho => ?_, r.dis, r.len⟩
  obtain ⟨p, o, e1, e2, e3, e4⟩ := r.ows i t e ho
  refine ⟨p, o, e1, ?_, e3, e4⟩
  rw [X5 (s.free e3)]
  exact e2
noncomputable def zfc (b : D → SE → Option SE) (g : SE → Ctl) : List D → SE → Ctl
  | [], ρ => .nx ρ
  | d :: ds, ρ => match b d ρ with
    | none => .no
    | some ρ1 => match g ρ1 with
      | .nx ρ' => zfc b g ds ρ'
      | .ct ρ' => zfc b g ds ρ'
      | .bk ρ' => .nx ρ'
      | .rt d => .rt d
      | .no => .no
noncomputable def Yh (f : Ev → Option (List D)) (b : D → SE → Option SE) (g : SE → Ctl) : SE → Ctl := fun ρ => match f (visF ρ) with
  | some ds => zfc b g ds ρ
  | none => .no
theorem zhf {Fb Hb F1 H1 : Hp} {ρ : SE} {σ : St} {E : zgO} {J : It} {g : TG} {tb : TS} {ds : List D} {b : D → SE → Option SE} {gb : SE → Ctl} (hit : ziT J F1 ds) (rg : RG g b) (rb : RS tb gb) (rl0 : Rl Fb Hb F1 H1 ρ σ) (k : SOk Fb Hb E (zfc b gb ds ρ)) :
    ∃ W : Nat → Nat → St → Hp → Prop, (∃ m, W 0 m σ H1) ∧ ∀ i m σ H, W i m σ H →
      (J.stop i H ∧ E.nx σ H) ∨ (J.go i H ∧ ∃ N : St → Hp → Prop, (∀ σ' H', N σ' H' → ∃ m', m' < m ∧ W (i + 1) m' σ' H') ∧ ∀ x H', J.yld i H x H' → g x σ H' fun σ2 H2 => tb { E with nx := N, ct := N, bk := E.nx } σ2 H2) := by
  refine ⟨fun i m σ H => m = ds.length - i ∧ i ≤ ds.length ∧ ∃ F ρ, yU F1 F ∧ Rl Fb Hb F H ρ σ ∧ SOk Fb Hb E (zfc b gb (ds.drop i) ρ), ⟨ds.length, by simp, Nat.zero_le _, F1, ρ, yU.refl _, rl0, k⟩, ?_⟩
  rintro i m σ H ⟨rfl, hi, F, ρ, s1, rl, k⟩
  obtain ⟨stop, go⟩ := hit i F H s1 rl.gr.fh
  by_cases hlt : i < ds.length
  · have hd : ds.drop i = ds[i] :: ds.drop (i + 1) := List.drop_eq_getElem_cons hlt
    rw [hd] at k
    unfold zfc at k
    obtain ⟨g1, g2⟩ := go ds[i] (by simp [hlt])
    refine .inr ⟨g1, fun σ H => ∃ F ρ, yU F1 F ∧ Rl Fb Hb F H ρ σ ∧ SOk Fb Hb E (zfc b gb (ds.drop (i + 1)) ρ), fun σ' H' w => ⟨ds.length - (i + 1), by omega, rfl, hlt, w⟩, fun x H' hy => ?_⟩
    obtain ⟨F3, g3, a3⟩ := g2 x H' hy
    cases hb : b ds[i] ρ with
    | none => rw [hb] at k; exact k.elim
    | some ρ1 =>
      rw [hb] at k
      dsimp only at k
      refine rg Fb Hb F3 H' ρ ρ1 σ _ x _ (rl.grow g3) a3 hb fun σ2 rl2 => ?_
      have s3 := s1.trans g3.ff
      refine rb F1 (hb2 F1 Hb) F3 H' ρ1 σ2 _ (rl2.dn rl0.gr.ff s3) ?_
      cases hg : gb ρ1 with
      | nx ρ' => rw [hg] at k; exact fun F4 H4 σ4 r4 => ⟨F4, ρ', r4.gr.ff, r4.up rl0.gr, k⟩
      | ct ρ' => rw [hg] at k; exact fun F4 H4 σ4 r4 => ⟨F4, ρ', r4.gr.ff, r4.up rl0.gr, k⟩
      | bk ρ' => rw [hg] at k; exact fun F4 H4 σ4 r4 => k F4 H4 σ4 (r4.up rl0.gr)
      | rt d => rw [hg] at k; exact fun F4 H4 v g4 a4 => k F4 H4 v (rl0.gr.up g4) a4
      | no => rw [hg] at k; exact k.elim
  · have e : i = ds.length := by omega
    subst e
    rw [List.drop_length] at k
    exact .inl ⟨stop rfl, k F H σ rl⟩
theorem vH {iter : Expr} {body : List Stmt} {f : Ev → Option (List D)} {b : D → SE → Option SE} {g : SE → Ctl} (hp : PassesOwn (model X.prog X.w) X.A X.env X.xe) (hc : X.calm = true) (hi : ID X tg iter f) (hg : BD X tg b) (hb : SDs X body g)
    (hs : ∀ x, foldedSetIterable iter X.env x = pure x := by intro _; rfl) : SD X (.For tg iter body [] pos) (Yh f b g) := by
  obtain ⟨wi, pi, ri⟩ := hi
  obtain ⟨tg', pg, rg⟩ := hg
  obtain ⟨tb, pb, rb⟩ := hb
  refine ⟨_, zgV hp hc pi pg pb hs, fun Fb Hb F H ρ σ E rl k => ?_⟩
  unfold Yh at k
  cases h : f (visF ρ) with
  | none => rw [h] at k; exact k.elim
  | some ds =>
    rw [h] at k
    exact ri σ _ _ H ds _ rl.gr.fh rl.visF h fun F1 H1 J g1 ok => zhf ok rg rb (rl.grow g1) k
end
noncomputable def lcD (b : D → Option (List (Option D))) (t : Ev → Option Bool) (f : Ev → Option D) (ρ : Ev) : List D → Option (List D)
  | [] => some []
  | d :: ds => (b d).bind fun own => (t (own ++ ρ)).bind fun c => if c = true then (f (own ++ ρ)).bind fun y => (lcD b t f ρ ds).map (y :: ·) else lcD b t f ρ ds
noncomputable def fLC (i : Ev → Option (List D)) (b : D → Option (List (Option D))) (t : Ev → Option Bool) (f : Ev → Option D) : Ev → Option (List D) := fun ρ => (i ρ).bind fun ds => if lim ds.length = true then lcD b t f ρ ds else none
noncomputable def b1 : D → Option (List (Option D)) := fun d => some [some d]
noncomputable def b2 : D → Option (List (Option D))
  | .tup [x, y] => some [some x, some y]
  | _ => none
noncomputable def RB (n : Nat) (t : TG) (b : D → Option (List (Option D))) : Prop := ∀ (σ : St) (ρ : Ev) (F H : Hp) (d : D) (v : V) (own : List (Option D)) (Q : St → Hp → Prop), yU F H → VAt F ρ σ → At F d v → b d = some own → (∀ σ', VAt F (own ++ ρ) σ' → Q σ' H) → t v (List.replicate n none ++ σ) H Q
noncomputable def yM : Ev → Option Bool := fun _ => some true
theorem zkv : RT tYes yM := fun _ _ _ _ _ _ s _ e q => by cases e; exact q _ _ (.refl s)
theorem zjv {wi : TI} {n : Nat} {g : TG} {tt : TT} {te : TE} {fi : Ev → Option (List D)} {b : D → Option (List (Option D))} {ft : Ev → Option Bool} {fe : Ev → Option D} (ri : RI wi fi) (rg : RB n g b) (rt : RT tt ft) (re : RE te fe) :
    RF (tLC wi n g tt te) (fLC fi b ft fe) := by
  intro σ ρ F H out Q s va e q
  obtain ⟨ds, e1, e2⟩ := Option.bind_eq_some_iff.mp e
  split at e2 <;> try cases e2
  rename_i hlim
  have hlim : ds.length ≤ sizeLine := of_decide_eq_true hlim
  refine ri σ ρ F H ds _ s va e1 fun F1 H1 J g1 ok => ?_
  intro P hP
  have hF1 : F1 P = none := g1.fh.free hP
  have hH0 : H P = none := by
    cases e : H P with
    | none => rfl
    | some o =>
      cases e2 : F P with
      | none => rw [(g1.kp P o e2 e).2] at hP; cases hP
      | some u => rw [g1.fh _ _ (g1.ff _ _ e2)] at hP; cases hP
  refine ⟨fun i m ys H2 => m = ds.length - i ∧ i ≤ ds.length ∧ ∃ F2 done, Gr F1 H1 F2 H2 ∧ Gr F1 (upd H1 P (.lst [])) F2 (upd H2 P (.lst [])) ∧ F2 P = none ∧ H2 P = some (.lst ys) ∧ AtL F2 done ys ∧ done.length ≤ i ∧ ∃ more, lcD b ft fe ρ (ds.drop i) = some more ∧ done ++ more = out, ⟨ds.length, by simp, Nat.zero_le _, F1, [], Gr.hide g1.fh hP _, ?_, hF1, zt, .nil, Nat.zero_le _, out, e2, rfl⟩, ?_⟩
  · rw [zbg]
    exact .refl fun b u z => by rw [zw (zq z hF1)]; exact g1.fh b u z
  rintro i m ys H2 ⟨rfl, hi, F2, done, g2, g2', hF2, hH2, al, hdl, more, hm, hout⟩
  obtain ⟨stop, go⟩ := ok i F2 H2 g2.ff g2.fh
  by_cases hlt : i < ds.length
  · have hd : ds.drop i = ds[i] :: ds.drop (i + 1) := List.drop_eq_getElem_cons hlt
    rw [hd] at hm
    unfold lcD at hm
    obtain ⟨own, hb, hm⟩ := Option.bind_eq_some_iff.mp hm
    obtain ⟨cb, hc, hm⟩ := Option.bind_eq_some_iff.mp hm
    obtain ⟨k1, k2⟩ := go ds[i] (by simp [hlt])
    refine .inr ⟨k1, by rw [al.length]; omega, fun x H3 hy => ?_⟩
    obtain ⟨F3, g3, a3⟩ := k2 x H3 hy
    refine rg σ ρ F3 H3 ds[i] x own _ g3.fh (va.mono (g1.ff.trans (g2.ff.trans g3.ff))) a3 hb fun σ4 va4 => ?_
    refine rt σ4 _ F3 H3 cb _ g3.fh va4 hc fun F5 H5 g5 => ?_
    have g35 := g3.trans g5
    obtain ⟨n5, h5⟩ := g35.kl (fun _ e => by cases e) hF2 hH2
    have keep2 : ∀ {F6 H6 : Hp} {o : HO}, Gr F2 H2 F6 H6 → F6 P = none → Gr F1 (upd H1 P (.lst [])) F6 (upd (upd H6 P o) P (.lst [])) := fun {F6 H6 o} g6 n6 => by
      rw [zbg]
      refine ⟨g2.ff.trans g6.ff, fun b u z => ?_, fun b u z1 z2 => ?_⟩
      · rw [zw (zq z n6)]; exact g6.fh b u z
      · by_cases hbP : b = P
        · subst hbP
          rw [zt] at z2 ⊢
          exact ⟨.inl n6, z2⟩
        · rw [zw hbP] at z2 ⊢
          exact (g2.trans g6).kp b u z1 z2
    have keep1 : ∀ {F6 H6 : Hp} {o : HO}, Gr F2 H2 F6 H6 → F6 P = none → Gr F1 H1 F6 (upd H6 P o) := fun {F6 H6 o} g6 n6 => by
      refine ⟨g2.ff.trans g6.ff, fun b u z => ?_, fun b u z1 z2 => ?_⟩
      · rw [zw (zq z n6)]; exact g6.fh b u z
      · rw [zw (zq z2 hP)]
        exact (g2.trans g6).kp b u z1 z2
    cases cb with
    | false =>
      rw [if_neg Bool.false_ne_true] at hm ⊢
      have ups : H5 = upd H5 P (.lst ys) := by
        funext b
        by_cases hbP : b = P
        · subst hbP; rw [zt]; exact h5
        · rw [zw hbP]
      refine ⟨ds.length - (i + 1), by omega, rfl, hlt, F5, done, ?_, ?_, n5, h5, al.mono g35.ff, by omega, more, hm, hout⟩
      · rw [ups]; exact keep1 g35 n5
      · have := keep2 (o := .lst ys) g35 n5
        rw [← ups] at this
        exact this
    | true =>
      rw [if_pos rfl] at hm ⊢
      obtain ⟨y, hy, hm⟩ := Option.bind_eq_some_iff.mp hm
      obtain ⟨rest, hm', rfl⟩ := Option.map_eq_some_iff.mp hm
      refine re σ4 _ F5 H5 y _ g5.fh (va4.mono g5.ff) hy fun F6 H6 v g6 a6 => ?_
      have g36 := g35.trans g6
      obtain ⟨n6, h6⟩ := g36.kl (fun _ e => by cases e) hF2 hH2
      refine ⟨h6, ds.length - (i + 1), by omega, rfl, hlt, F6, done ++ [y], keep1 g36 n6, keep2 g36 n6, n6, zt, (al.mono g36.ff).snoc a6, by rw [List.length_append]; simp; omega, rest, hm', by rw [← hout, List.append_assoc]; rfl⟩
  · have e : i = ds.length := by omega
    subst e
    rw [List.drop_length] at hm
    cases hm
    rw [List.append_nil] at hout
    subst hout
    exact .inl ⟨stop rfl, q F2 H2 P ys (g1.trans g2) hH0 hF2 hH2 al⟩
theorem rb1 : RB 1 (XN 0) b1 := by
  intro σ ρ F H d v own Q s va av e q
  cases e
  refine q _ fun i d' h => ?_
  cases i with
  | zero => cases h; exact ⟨v, rfl, av⟩
  | succ i => exact va i d' h
theorem rb2 {K : PySem.W.Frag} : RB 2 (zkJ K 2 (zbx (XN 0) (zbx (XN 1) zkN))) b2 := by
  intro σ ρ F H d v own Q s va av e q
  unfold b2 at e
  split at e <;> cases e
  obtain ⟨p, xs, rfl, hx, al⟩ := av.tup_inv
  obtain ⟨x, r, rfl, ax, al⟩ := al.cons_inv
  obtain ⟨y, r, rfl, ay, al⟩ := al.cons_inv
  cases al.nil_inv
  refine ⟨p, _, rfl, SqT.of (s _ _ hx), rfl, x, _, rfl, y, _, rfl, rfl, ?_⟩
  refine q _ fun i d' h => ?_
  match i, h with
  | 0, h => cases h; exact ⟨x, rfl, ax⟩
  | 1, h => cases h; exact ⟨y, rfl, ay⟩
  | i + 2, h => exact va i d' h
noncomputable def tCan (f : Ev → Option D) : TE := fun σ H Q => ∃ ρ F d, yU F H ∧ VAt F ρ σ ∧ f ρ = some d ∧ ∀ F' H' v, Gr F H F' H' → At F' d v → Q v H'
noncomputable def zjE (f : Ev → Option Bool) : TT := fun σ H Q => ∃ ρ F d, yU F H ∧ VAt F ρ σ ∧ f ρ = some d ∧ ∀ F' H', Gr F H F' H' → Q d H'
theorem ED.can {X : Cx} {e : Expr} {f : Ev → Option D} (h : ED X e f) : PE X e (tCan f) := by
  obtain ⟨t, p, r⟩ := h
  rintro pins s σ H Q I ⟨ρ, F, d, h1, h2, h3, h4⟩
  exact p pins s σ H Q I (r σ ρ F H d Q h1 h2 h3 h4)
theorem TD.can {X : Cx} {e : Expr} {f : Ev → Option Bool} (h : TD X e f) : PT X e (zjE f) := by
  obtain ⟨t, p, r⟩ := h
  rintro pins s σ H Q I ⟨ρ, F, d, h1, h2, h3, h4⟩
  exact p pins s σ H Q I (r σ ρ F H d Q h1 h2 h3 h4)
theorem zgQ {f : Ev → Option D} : RE (tCan f) f := fun _ ρ F _ d _ h1 h2 h3 h4 => ⟨ρ, F, d, h1, h2, h3, h4⟩
theorem zjz {f : Ev → Option Bool} : RT (zjE f) f := fun _ ρ F _ d _ h1 h2 h3 h4 => ⟨ρ, F, d, h1, h2, h3, h4⟩
theorem We {X : Cx} {elt tg iter : Expr} {L M : List Str} {scope : Scope} {cl : List (Str × Addr)} {pos : Pos} {fi : Ev → Option (List D)} {b : D → Option (List (Option D))} {fe : Ev → Option D} {g : TG}
    (hc : X.calm = true) (S : vG X L M scope cl) (hi : ID X tg iter fi)
    (hgS : ∀ (σ : St) (v : V) (H : Hp) (Q : St → Hp → Prop), g v (List.replicate L.length none ++ σ) H Q → g v (List.replicate L.length none ++ σ) H (fun σ2 H2 => XI (List.replicate L.length none ++ σ) σ2 ∧ Q σ2 H2))
    (hrb : RB L.length g b)
    (hg : ∀ s₀ H₀ ex pn, PG (zdz X L M scope cl s₀ H₀ ex pn) tg g) (he : ∀ s₀ H₀ ex pn, ED (zdz X L M scope cl s₀ H₀ ex pn) elt fe)
    (hs : ∀ x, foldedSetIterable iter X.env x = pure x := by intro _; rfl) : FL X (.ListComp elt [⟨tg, iter, [], 0⟩] scope pos) (fLC fi b yM fe) := by
  obtain ⟨wi, pi, ri⟩ := hi
  exact ⟨_, zhh hc S pi hgS hg (fun _ _ _ _ => zhE) (fun _ _ _ _ => (he _ _ _ _).can) hs, zjv ri hrb zkv zgQ⟩
theorem zch {X : Cx} {elt tg iter c : Expr} {L M : List Str} {scope : Scope} {cl : List (Str × Addr)} {pos : Pos} {fi : Ev → Option (List D)} {b : D → Option (List (Option D))} {ft : Ev → Option Bool} {fe : Ev → Option D} {g : TG}
    (hc : X.calm = true) (S : vG X L M scope cl) (hi : ID X tg iter fi)
    (hgS : ∀ (σ : St) (v : V) (H : Hp) (Q : St → Hp → Prop), g v (List.replicate L.length none ++ σ) H Q → g v (List.replicate L.length none ++ σ) H (fun σ2 H2 => XI (List.replicate L.length none ++ σ) σ2 ∧ Q σ2 H2))
    (hrb : RB L.length g b)
    (hg : ∀ s₀ H₀ ex pn, PG (zdz X L M scope cl s₀ H₀ ex pn) tg g) (ht : ∀ s₀ H₀ ex pn, TD (zdz X L M scope cl s₀ H₀ ex pn) c ft) (he : ∀ s₀ H₀ ex pn, ED (zdz X L M scope cl s₀ H₀ ex pn) elt fe)
    (hs : ∀ x, foldedSetIterable iter X.env x = pure x := by intro _; rfl) : FL X (.ListComp elt [⟨tg, iter, [c], 0⟩] scope pos) (fLC fi b ft fe) := by
  obtain ⟨wi, pi, ri⟩ := hi
  exact ⟨_, zhh hc S pi hgS hg (fun _ _ _ _ => zil (ht _ _ _ _).can) (fun _ _ _ _ => (he _ _ _ _).can) hs, zjv ri hrb zjz zgQ⟩
noncomputable def fnD (n : Nat) (g : SE → Ctl) (ds : List D) : Option D := match g (ds.map .v ++ List.replicate (n - ds.length) .no) with
  | .rt d => some d
  | .nx _ => some .non
  | _ => none
noncomputable def spD (m : Nat) (p : List D → Option D) : Sp := fun vs H Q _ => ∃ ds d F, ds.length = m ∧ yU F H ∧ AtL F ds vs ∧ p ds = some d ∧ ∀ F' H' v, Gr F H F' H' → At F' d v → Q v H'
theorem zf3 {F H : Hp} {N : List Str} {ds : List D} {vs : List V} (s : yU F H) (a : AtL F ds vs) : Rl F H F H (ds.map .v ++ List.replicate (N.length - ds.length) .no) (L2.start N vs) := by
  have hl := a.length
  have noO : ∀ (i : Nat) (t : Sl), (ds.map Sl.v ++ List.replicate (N.length - ds.length) Sl.no)[i]? = some t → t.isO = true → False := fun i t h ho => by
    by_cases hi : i < ds.length
    · rw [List.getElem?_append_left (by simpa using hi), List.getElem?_map] at h
      cases e : ds[i]? with
      | none => rw [e] at h; cases h
      | some d => rw [e] at h; cases h; cases ho
    · rw [List.getElem?_append_right (by simpa using hi), List.getElem?_replicate] at h
      split at h <;> cases h
      cases ho
  refine ⟨.refl s, fun i d h => ?_, fun i t h ho => (noO i t h ho).elim, fun i j p t u h _ ho => (noO i t h ho).elim, ?_⟩
  · by_cases hi : i < ds.length
    · rw [List.getElem?_append_left (by simpa using hi), List.getElem?_map] at h
      cases e : ds[i]? with
      | none => rw [e] at h; cases h
      | some d' =>
        rw [e] at h
        cases h
        obtain ⟨x, hx, ax⟩ := a.get e
        refine ⟨x, ?_, ax⟩
        unfold L2.start
        rw [List.getElem?_append_left (by simpa [hl] using hi), List.getElem?_map, hx]
        rfl
    · rw [List.getElem?_append_right (by simpa using hi), List.getElem?_replicate] at h
      split at h <;> cases h
  · unfold L2.start
    simp [hl]
theorem yo {P : Program} {w : World} {K : PySem.W.Frag} {mg : Str → Option Value} {base : Heap} {x qual : Str} {st : Stmt} {f : Addr} {fd : FuncData} {N ps : List Str} {k : Nat} {g : SE → Ctl} (Fu : Fun K x qual st f fd) (S : zr N ps (zj st))
    (hb : ∀ (cdv : Value) (A : Around) (outer : List Env) (s : Shared) (H : Hp) (E : XK), Y1 k (A.deeper (PyProof.Rows.envOfC qual (zj st) s.heap.objs.size f cdv)) → SDs (zgM CX0 P w K mg base N qual (zj st) f cdv A outer s H E).nox (vg st) g) :
    yQ P w K mg base CX0 (k + 1) f fd ps (spD ps.length (fnD N.length g)) := by
  refine Fu.ok S (fun vs H Q E h => ?_) fun cdv A outer s H vs Q E hr h => ?_
  · obtain ⟨ds, d, F, hl, _, a, _⟩ := h
    rw [a.length]; exact hl
  · obtain ⟨ds, d, F, hl, sm, a, e, q⟩ := h
    obtain ⟨t, p, r⟩ := hb cdv A outer s H E hr
    refine ⟨t, p, r F H F H _ _ _ (zf3 sm a) ?_⟩
    unfold fnD at e
    cases hg : g (ds.map .v ++ List.replicate (N.length - ds.length) .no) with
    | rt d' => rw [hg] at e; cases e; exact fun F' H' v g av => q F' H' v g av
    | nx ρ => rw [hg] at e; cases e; exact fun F' H' σ rl => q F' H' _ rl.gr .non
    | bk ρ => rw [hg] at e; cases e
    | ct ρ => rw [hg] at e; cases e
    | no => rw [hg] at e; cases e
theorem wn {P : Program} {w : World} {K : PySem.W.Frag} {mg : Str → Option Value} {base : Heap} {f : Addr} {fd : FuncData} {ps : List Str} {k m : Nat} {p q : List D → Option D} (F : yQ P w K mg base CX0 k f fd ps (spD m p)) (h : ∀ ds d, ds.length = m → q ds = some d → p ds = some d) : yQ P w K mg base CX0 k f fd ps (spD m q) :=
  F.imp fun vs H Q E ⟨ds, d, F', h1, h2, h3, h4, h5⟩ => ⟨ds, d, F', h1, h2, h3, h ds d h1 h4, h5⟩
noncomputable def zn (m : Nat) (p : List D → Option D) (f : Ev → Option (List D)) : Ev → Option D := fun ρ => (f ρ).bind fun ds => if ds.length = m then p ds else none
theorem zfh {X : Cx} {x : Str} {k m : Nat} {f : Addr} {fd : FuncData} {ps : List Str} {p : List D → Option D} {e : Expr} {es : List Expr} {pp pos : Pos} {fa : Ev → Option (List D)} (F : yQ X.prog X.w X.K X.mg X.base CX0 k f fd ps (spD m p)) (hr : Y1 k X.A) (hg : Gl X x) (hm : X.mg x = some (.ref f)) (hk : PySem.W.keepIn X.K (.ref f) = true) (hb : zbC X.K fd ps [])
    (ha : AD X (e :: es) fa) (hdb : (x == ("__debug__" : Str)) = false := by decide) (he : starEach (e :: es) X.env = (false, eval e X.env) :: starEach es X.env := by rfl) (hpl : (backTo pos (starEach es X.env)).any (·.1) = false := by rfl) :
    ED X (.Call (.Name x pp) (e :: es) [] pos) (zn m p fa) := by
  obtain ⟨t, pa, r⟩ := ha
  refine ⟨_, zhG F hr hg hm hk hb .nil zlP pa hdb he hpl, fun σ ρ F0 H d Q s va e q => ?_⟩
  obtain ⟨ds, e1, e2⟩ := Option.bind_eq_some_iff.mp e
  split at e2 <;> try cases e2
  rename_i hl
  refine r σ ρ F0 H ds _ s va e1 fun F1 H1 vs g1 a1 => ?_
  refine ⟨ds, d, F1, hl, g1.fh, by rw [List.append_nil]; exact a1, e2, fun F' H' v g av => q F' H' v (g1.trans g) av⟩
end Dl
namespace Dl
open PySem L2
variable [KK]
section
variable {X : Cx} {a b c e : Expr} {pos : Pos}
theorem VV : bootBuiltins "isinstance" = some (.builtin "isinstance") := by decide +kernel
theorem Yd : bootBuiltins "len" = some (.builtin "len") := by decide +kernel
theorem zce : bootBuiltins "min" = some (.builtin "min") := by decide +kernel
theorem zgP : bootBuiltins "max" = some (.builtin "max") := by decide +kernel
theorem zeZ : bootBuiltins "sorted" = some (.builtin "sorted") := by decide +kernel
theorem Vm : bootBuiltins "sum" = some (.builtin "sum") := by decide +kernel
theorem zhp : bootBuiltins "all" = some (.builtin "all") := by decide +kernel
theorem zcq : bootBuiltins "int" = some (.type "int") := by decide +kernel
theorem VY : bootBuiltins "bool" = some (.type "bool") := by decide +kernel
theorem yg : bootBuiltins "tuple" = some (.type "tuple") := by decide +kernel
theorem Wh : bootBuiltins "list" = some (.type "list") := by decide +kernel
theorem zeG : bootBuiltins "str" = some (.type "str") := by decide +kernel
theorem zbb : bootBuiltins "enumerate" = some (.type "enumerate") := by decide +kernel
theorem zb0 : bootBuiltins "reversed" = some (.type "reversed") := by decide +kernel
theorem zjy : bootBuiltins "zip" = some (.type "zip") := by decide +kernel
noncomputable def Xk (C : Int → Int → Bool) (g : Int → Int → Int) : D → D → Option D
  | .int i, .int j => if C i j = true then some (.int (g i j)) else none
  | _, _ => none
noncomputable def xF (g : Int → Int → Int) : D → D → Option D
  | .int i, .int j => some (.int (g i j))
  | _, _ => none
noncomputable def XF (g : Int → Int → Bool) : D → D → Option D
  | .int i, .int j => some (.bl (g i j))
  | _, _ => none
theorem X2 {C : Int → Int → Prop} {Cb : Int → Int → Bool} {g : Int → Int → Int} (h : ∀ i j, Cb i j = true → C i j) : OpD (rI C fun i j => .int (g i j)) (Xk Cb g) := by
  intro F H x y d e z Q s ax ay ez q
  cases d <;> try cases ez
  cases e <;> try cases ez
  unfold Xk at ez
  dsimp only at ez
  split at ez <;> cases ez
  rename_i hc
  exact ⟨_, _, ax.int_inv, ay.int_inv, h _ _ hc, q F H _ (.refl s) .int⟩
theorem Wm {g : Int → Int → Int} : OpD (rI0 fun i j => .int (g i j)) (xF g) := by
  intro F H x y d e z Q s ax ay ez q
  cases d <;> try cases ez
  cases e <;> try cases ez
  exact ⟨_, _, ax.int_inv, ay.int_inv, q F H _ (.refl s) .int⟩
theorem zU {g : Int → Int → Bool} : OpD (rI0 fun i j => .bl (g i j)) (XF g) := by
  intro F H x y d e z Q s ax ay ez q
  cases d <;> try cases ez
  cases e <;> try cases ez
  exact ⟨_, _, ax.int_inv, ay.int_inv, q F H _ (.refl s) .bl⟩
theorem za9 {r r' : R2} {g g' : D → D → Option D} (h : OpD r g) (h' : OpD r' g') : OpD (fun x y H Q => r x y H Q ∨ r' x y H Q) (fun d e => (g d e).or (g' d e)) := by
  intro F H x y d e z Q s ax ay ez q
  dsimp only at ez
  cases hg : g d e with
  | some z' => rw [hg] at ez; cases ez; exact .inl (h F H x y d e z Q s ax ay hg q)
  | none => rw [hg] at ez; exact .inr (h' F H x y d e z Q s ax ay ez q)
noncomputable def zjf : D → D → Option D
  | .tup a, .tup b => if lim (a.length + b.length) = true then some (.tup (a ++ b)) else none
  | _, _ => none
noncomputable def zjG : D → D → Option (List D)
  | .lst a, .lst b => if lim (a.length + b.length) = true then some (a ++ b) else none
  | _, _ => none
noncomputable def zet (d e : D) : Option D := (zjG d e).map .lst
noncomputable def zkg : D → D → Option D
  | .str a, .str b => if lim (a.length + b.length) = true then some (.str (a ++ b)) else none
  | _, _ => none
theorem zgk {K : PySem.W.Frag} : OpD (zhc K) zjf := by
  intro F H x y d e z Q s ax ay ez q
  cases d <;> try cases ez
  cases e <;> try cases ez
  unfold zjf at ez
  dsimp only at ez
  split at ez <;> cases ez
  rename_i hl
  obtain ⟨p, xs, rfl, hx, al⟩ := ax.tup_inv
  obtain ⟨p2, ys, rfl, hy, bl⟩ := ay.tup_inv
  refine ⟨p, p2, xs, ys, rfl, rfl, SqT.of (s _ _ hx), SqT.of (s _ _ hy), by rw [al.length, bl.length]; exact of_decide_eq_true hl, fun e1 => ?_, fun _ e2 => ?_, fun _ _ r hr => ?_⟩
  · subst e1
    have : (_ : List D) = [] := List.length_eq_zero_iff.mp al.length.symm
    subst this
    exact q F H _ (.refl s) (.tup hy bl)
  · subst e2
    have : (_ : List D) = [] := List.length_eq_zero_iff.mp bl.length.symm
    subst this
    rw [List.append_nil] at q
    exact q F H _ (.refl s) (.tup hx al)
  · have g := Gr.alloc s hr (.tup (xs ++ ys))
    exact q _ _ _ g (.tup zt ((al.append bl).mono g.ff))
theorem zf1 : OpD rCat zet := by
  intro F H x y d e z Q s ax ay ez q
  cases d <;> try cases ez
  cases e <;> try cases ez
  unfold zet zjG at ez
  dsimp only at ez
  split at ez <;> cases ez
  rename_i hl
  obtain ⟨p, xs, rfl, hx, al⟩ := ax.lst_inv
  obtain ⟨p2, ys, rfl, hy, bl⟩ := ay.lst_inv
  refine ⟨p, p2, xs, ys, rfl, rfl, s _ _ hx, s _ _ hy, by rw [al.length, bl.length]; exact of_decide_eq_true hl, fun r hr => ?_⟩
  have g := Gr.alloc s hr (.lst (xs ++ ys))
  exact q _ _ _ g (.lst zt ((al.append bl).mono g.ff))
theorem zfD : OpD (fun x y H Q => ∃ i j, x = .str i ∧ y = .str j ∧ i.length + j.length ≤ sizeLine ∧ Q (.str (i ++ j)) H) zkg := by
  intro F H x y d e z Q s ax ay ez q
  cases d <;> try cases ez
  cases e <;> try cases ez
  unfold zkg at ez
  dsimp only at ez
  split at ez <;> cases ez
  rename_i hl
  exact ⟨_, _, ax.str_inv, ay.str_inv, of_decide_eq_true hl, q F H _ (.refl s) .str⟩
noncomputable def Yg : D → D → Option D
  | .int i, .int j => some (.int (i + j))
  | .tup a, .tup b => if lim (a.length + b.length) = true then some (.tup (a ++ b)) else none
  | .lst a, .lst b => if lim (a.length + b.length) = true then some (.lst (a ++ b)) else none
  | .str a, .str b => if lim (a.length + b.length) = true then some (.str (a ++ b)) else none
  | _, _ => none
theorem zb2 {r : R2} {g g' : D → D → Option D} (h : OpD r g) (k : ∀ d e z, g' d e = some z → g d e = some z) : OpD r g' := fun F H x y d e z Q s ax ay ez q => h F H x y d e z Q s ax ay (k d e z ez) q
theorem yC {f h : Ev → Option D} (ha : ED X a f) (hb : ED X b h) : ED X (.BinOp a .Add b pos) (zk Yg f h) :=
  X6 (((zjC.or zf7).or zi9).or zc7) (zb2 (za9 (za9 (za9 (Wm (g := fun i j => i + j)) zgk) zf1) zfD) fun d e z h => by
    cases d <;> try cases h
    all_goals cases e <;> try cases h
    · rfl
    · unfold Yg at h; dsimp only at h; split at h <;> cases h; rename_i hl; simp [xF, zjf, hl, zet, zjG, zkg]
    · unfold Yg at h; dsimp only at h; split at h <;> cases h; rename_i hl; simp [xF, zjf, hl, zet, zjG, zkg]
    · unfold Yg at h; dsimp only at h; split at h <;> cases h; rename_i hl; simp [xF, zjf, hl, zet, zjG, zkg]) ha hb
noncomputable def zk3 (g : D → D → Option (List D)) (f h : Ev → Option D) : Ev → Option (List D) := fun ρ => (f ρ).bind fun x => (h ρ).bind fun y => g x y
theorem zds {F H F1 H1 : Hp} {p : Addr} (g1 : Gr F H F1 H1) (hp : H1 p = none) : H p = none := by
  cases e : H p with
  | none => rfl
  | some o =>
    cases e2 : F p with
    | none => rw [(g1.kp p o e2 e).2] at hp; cases hp
    | some u => rw [g1.fh _ _ (g1.ff _ _ e2)] at hp; cases hp
noncomputable def X7 (i j : Int) : Bool := decide ((-(2 ^ 64) < i ∧ i < 2 ^ 64) ∨ (-(2 ^ 64) < j ∧ j < 2 ^ 64))
noncomputable def zgq : D → D → Option (List D)
  | .lst a, .int k => if -(2 ^ 63) ≤ k ∧ k < 2 ^ 63 ∧ lim (a.length * k.toNat) = true then some (List.replicate k.toNat a).flatten else none
  | _, _ => none
noncomputable def zgg (d e : D) : Option D := (zgq d e).map .lst
noncomputable def vK : D → D → Option D
  | .int i, .int j => if X7 i j = true then some (.int (i * j)) else none
  | .lst a, .int k => if -(2 ^ 63) ≤ k ∧ k < 2 ^ 63 ∧ lim (a.length * k.toNat) = true then some (.lst (List.replicate k.toNat a).flatten) else none
  | _, _ => none
theorem zgh : OpD rRep zgg := by
  intro F H x y d e z Q s ax ay ez q
  cases d <;> try cases ez
  cases e <;> try cases ez
  unfold zgg zgq at ez
  dsimp only at ez
  split at ez <;> cases ez
  rename_i hl
  obtain ⟨p, xs, rfl, hx, al⟩ := ax.lst_inv
  refine ⟨p, _, xs, rfl, ay.int_inv, s _ _ hx, hl.1, hl.2.1, by rw [al.length]; exact of_decide_eq_true hl.2.2, fun r hr => ?_⟩
  rename_i ds k
  have g := Gr.alloc s hr (.lst (List.replicate k.toNat xs).flatten)
  exact q _ _ _ g (.lst zt ((al.rep _).mono g.ff))
theorem WH {f h : Ev → Option D} (ha : ED X a f) (hb : ED X b h) : ED X (.BinOp a .Mult b pos) (zk vK f h) :=
  X6 (zi6.or zhj) (zb2 (za9 (X2 (Cb := X7) (g := fun i j => i * j) fun i j h => by have h' := of_decide_eq_true (show decide ((-(2 ^ 64) < i ∧ i < 2 ^ 64) ∨ (-(2 ^ 64) < j ∧ j < 2 ^ 64)) = true from h); exact h') zgh) fun d e z h => by
    cases d <;> try cases h
    all_goals cases e <;> try cases h
    · unfold vK at h; dsimp only at h; split at h <;> cases h; rename_i hl; simp [Xk, hl]
    · unfold vK at h; dsimp only at h; split at h <;> cases h; rename_i hl; show (zgg _ _) = _; unfold zgg zgq; dsimp only; rw [if_pos hl]; rfl) ha hb
theorem zg4 {f h : Ev → Option D} (ha : ED X a f) (hb : ED X b h) : FL X (.BinOp a .Mult b pos) (zk3 zgq f h) := by
  obtain ⟨ta, pa, ra⟩ := ha
  obtain ⟨tb, pb, rb⟩ := hb
  refine ⟨_, zjl zhj pa pb, fun σ ρ F H z Q s va e q => ?_⟩
  obtain ⟨x, e1, e3⟩ := Option.bind_eq_some_iff.mp e
  obtain ⟨y, e2, ez⟩ := Option.bind_eq_some_iff.mp e3
  clear e e3
  refine ra σ ρ F H x _ s va e1 fun F1 H1 v g1 a1 => ?_
  refine rb σ ρ F1 H1 y _ g1.fh (va.mono g1.ff) e2 fun F2 H2 u g2 a2 => ?_
  cases x <;> try cases ez
  cases y <;> try cases ez
  unfold zgq at ez
  dsimp only at ez
  split at ez <;> cases ez
  rename_i hl
  obtain ⟨p, xs, rfl, hx, al⟩ := (a1.mono g2.ff).lst_inv
  refine ⟨p, _, xs, rfl, a2.int_inv, g2.fh _ _ hx, hl.1, hl.2.1, by rw [al.length]; exact of_decide_eq_true hl.2.2, fun r hr => ?_⟩
  exact q _ _ _ _ ((g1.trans g2).trans (Gr.hide g2.fh hr _)) (zds (g1.trans g2) hr) (g2.fh.free hr) zt (al.rep _)
noncomputable def wM := xF fun i j => i - j
noncomputable def xA := Xk (fun _ j => decide (0 < j ∧ j < 1606938044258990275541962092341162602522202993782792835301376)) fun i j => i / j
noncomputable def wO := Xk (fun _ j => decide (0 < j)) fun i j => i % j
noncomputable def zlx (i j : Int) : Bool := decide (0 ≤ j ∧ j ≤ 1000000 ∧ i.natAbs < 2 ^ 64)
noncomputable def shlD := Xk zlx fun i j => i * 2 ^ j.toNat
noncomputable def zlC := xF fun i j => Builtin.bitXor i j
theorem vI {f h : Ev → Option D} (ha : ED X a f) (hb : ED X b h) : ED X (.BinOp a .Sub b pos) (zk wM f h) := X6 zjD Wm ha hb
theorem zgA : OpR X (binaryOp .FloorDiv) (rI (fun _ j => 0 < j ∧ j < 1606938044258990275541962092341162602522202993782792835301376) fun i j => .int (i / j)) := opI fun i j _ _ _ _ _ hc q => by
  have h1 : (0 : Int) < j := hc.1
  have h2 : j < 1606938044258990275541962092341162602522202993782792835301376 := hc.2
  refine PyProof.Rows.floordiv_int (by omega) (by rw [Int.fdiv_eq_ediv_of_nonneg i (by omega)]; exact q) (.inl (PyProof.noPylong_of_log2 ?_))
  have h0 : j.natAbs ≠ 0 := by omega
  have h3 : j.natAbs < 1606938044258990275541962092341162602522202993782792835301376 := by omega
  have h4 : j.natAbs.log2 < 200 := (Nat.log2_lt h0).mpr h3
  omega
theorem zad {f h : Ev → Option D} (ha : ED X a f) (hb : ED X b h) : ED X (.BinOp a .FloorDiv b pos) (zk xA f h) := X6 zgA (X2 fun _ _ h => by have h' := of_decide_eq_true h; exact h') ha hb
theorem wG {f h : Ev → Option D} (ha : ED X a f) (hb : ED X b h) : ED X (.BinOp a .Mod b pos) (zk wO f h) := X6 zjs (X2 fun _ _ h => by have h' := of_decide_eq_true h; exact h') ha hb
theorem zkt {f h : Ev → Option D} (ha : ED X a f) (hb : ED X b h) : ED X (.BinOp a .LShift b pos) (zk shlD f h) := X6 zku (X2 fun _ _ h => by have h' := of_decide_eq_true h; exact h') ha hb
theorem zg0 {f h : Ev → Option D} (ha : ED X a f) (hb : ED X b h) : ED X (.BinOp a .BitXor b pos) (zk zlC f h) := X6 zjZ Wm ha hb
noncomputable def ltD := XF fun i j => decide (i < j)
noncomputable def leD := XF fun i j => decide (i ≤ j)
noncomputable def gtD := XF fun i j => decide (j < i)
noncomputable def geD := XF fun i j => decide (j ≤ i)
noncomputable def eqS : D → D → Option Bool
  | .non, .non => some true
  | .int i, .int j => some (decide (i = j))
  | .bl i, .bl j => some (decide (i = j))
  | .str i, .str j => some (decide (i = j))
  | .non, .int _ => some false | .int _, .non => some false | .non, .bl _ => some false | .bl _, .non => some false | .non, .str _ => some false | .str _, .non => some false
  | .int _, .str _ => some false | .str _, .int _ => some false | .bl _, .str _ => some false | .str _, .bl _ => some false
  | _, _ => none
noncomputable def eqD (d e : D) : Option D := (eqS d e).map .bl
noncomputable def neD (d e : D) : Option D := (eqS d e).map fun c => .bl (!c)
theorem zhl : OpD rEq eqD := by
  intro F H x y d e z Q s ax ay ez q
  obtain ⟨c, e1, rfl⟩ := Option.map_eq_some_iff.mp ez
  cases d <;> cases e <;> try cases e1
  · cases ax.non_inv; cases ay.non_inv; exact ⟨rfl, q F H _ (.refl s) .bl⟩
  · cases ax.non_inv; cases ay.bl_inv; exact ⟨rfl, q F H _ (.refl s) .bl⟩
  · cases ax.non_inv; cases ay.int_inv; exact ⟨rfl, q F H _ (.refl s) .bl⟩
  · cases ax.non_inv; cases ay.str_inv; exact ⟨rfl, q F H _ (.refl s) .bl⟩
  · cases ax.bl_inv; cases ay.non_inv; exact ⟨rfl, q F H _ (.refl s) .bl⟩
  · cases ax.bl_inv; cases ay.bl_inv; refine ⟨rfl, ?_⟩; rw [show ∀ i j : Bool, decide (V.bl i = V.bl j) = decide (i = j) from fun i j => by simp]; exact q F H _ (.refl s) .bl
  · cases ax.bl_inv; cases ay.str_inv; exact ⟨rfl, q F H _ (.refl s) .bl⟩
  · cases ax.int_inv; cases ay.non_inv; exact ⟨rfl, q F H _ (.refl s) .bl⟩
  · cases ax.int_inv; cases ay.int_inv; refine ⟨rfl, ?_⟩; rw [show ∀ i j : Int, decide (V.int i = V.int j) = decide (i = j) from fun i j => by simp]; exact q F H _ (.refl s) .bl
  · cases ax.int_inv; cases ay.str_inv; exact ⟨rfl, q F H _ (.refl s) .bl⟩
  · cases ax.str_inv; cases ay.non_inv; exact ⟨rfl, q F H _ (.refl s) .bl⟩
  · cases ax.str_inv; cases ay.bl_inv; exact ⟨rfl, q F H _ (.refl s) .bl⟩
  · cases ax.str_inv; cases ay.int_inv; exact ⟨rfl, q F H _ (.refl s) .bl⟩
  · cases ax.str_inv; cases ay.str_inv; refine ⟨rfl, ?_⟩; rw [show ∀ i j : Str, decide (V.str i = V.str j) = decide (i = j) from fun i j => by simp]; exact q F H _ (.refl s) .bl
theorem ZY : OpD rNe neD := by
  intro F H x y d e z Q s ax ay ez q
  obtain ⟨c, e1, rfl⟩ := Option.map_eq_some_iff.mp ez
  have := zhl F H x y d e (.bl c) (fun v H' => ∃ b, v = .bl b ∧ Q (.bl (!b)) H') s ax ay (by unfold eqD; rw [e1]; rfl) fun F' H' v g av => ⟨c, av.bl_inv, q F' H' _ g .bl⟩
  obtain ⟨h1, b, h2, h3⟩ := this
  cases h2
  exact ⟨h1, h3⟩
noncomputable def Xz : D → D → Option D
  | d, .non => some (.bl (match d with | .non => true | _ => false))
  | .bl a, .bl b => some (.bl (a == b))
  | _, _ => none
noncomputable def zJ : D → D → Option D
  | d, .non => some (.bl (match d with | .non => false | _ => true))
  | .bl a, .bl b => some (.bl (!(a == b)))
  | _, _ => none
theorem zdF {F : Hp} {d : D} {x : V} (h : At F d x) : decide (x = V.non) = (match d with | .non => true | _ => false) := by
  cases d with
  | non => cases h.non_inv; rfl
  | bl b => cases h.bl_inv; rfl
  | int b => cases h.int_inv; rfl
  | str b => cases h.str_inv; rfl
  | tup ds => obtain ⟨a, xs, rfl, _⟩ := h.tup_inv; rfl
  | lst ds => obtain ⟨a, xs, rfl, _⟩ := h.lst_inv; rfl
  | scr ds => obtain ⟨a, rfl, _⟩ := h.scr_inv; rfl
  | dct z t ks vs => obtain ⟨a, xs, rfl, _⟩ := h.dct_inv; rfl
theorem zbs : OpD (fun x y H Q => (y = .non ∧ Q (.bl (decide (x = .non))) H) ∨ ∃ i j, x = .bl i ∧ y = .bl j ∧ Q (.bl (i == j)) H) Xz := by
  intro F H x y d e z Q s ax ay ez q
  unfold Xz at ez
  split at ez
  · cases ez
    refine .inl ⟨ay.non_inv, ?_⟩
    rw [zdF ax]
    have := q F H _ (.refl s) .bl
    cases d <;> exact this
  · cases ez
    exact .inr ⟨_, _, ax.bl_inv, ay.bl_inv, q F H _ (.refl s) .bl⟩
  · cases ez
theorem vE : OpD (fun x y H Q => (y = .non ∧ Q (.bl (!decide (x = .non))) H) ∨ ∃ i j, x = .bl i ∧ y = .bl j ∧ Q (.bl (!(i == j))) H) zJ := by
  intro F H x y d e z Q s ax ay ez q
  unfold zJ at ez
  split at ez
  · cases ez
    refine .inl ⟨ay.non_inv, ?_⟩
    rw [zdF ax]
    have := q F H _ (.refl s) .bl
    cases d <;> exact this
  · cases ez
    exact .inr ⟨_, _, ax.bl_inv, ay.bl_inv, q F H _ (.refl s) .bl⟩
  · cases ez
theorem zd3 : OpR X (compareOp .Is) (fun x y H Q => (y = .non ∧ Q (.bl (decide (x = .non))) H) ∨ ∃ i j, x = .bl i ∧ y = .bl j ∧ Q (.bl (i == j)) H) := zi2.or zgo
theorem Yw : OpR X (compareOp .IsNot) (fun x y H Q => (y = .non ∧ Q (.bl (!decide (x = .non))) H) ∨ ∃ i j, x = .bl i ∧ y = .bl j ∧ Q (.bl (!(i == j))) H) := zhU.or zbi
noncomputable def yJ (g g' : D → D → Option D) (f h k : Ev → Option D) : Ev → Option D := fun ρ => (f ρ).bind fun x => (h ρ).bind fun y => ((g x y).bind asB).bind fun c => if c = true then (k ρ).bind fun z => g' y z else some (.bl false)
theorem zgp {r r' : R2} {g g' : D → D → Option D} {ta tb tc : TE} {f h k : Ev → Option D} (hg : OpD r g) (hg' : OpD r' g') (ra : RE ta f) (rb : RE tb h) (rc : RE tc k) : RE (zee r r' ta tb tc) (yJ g g' f h k) := by
  intro σ ρ F H z Q s va e q
  obtain ⟨x, e1, e⟩ := Option.bind_eq_some_iff.mp e
  obtain ⟨y, e2, e⟩ := Option.bind_eq_some_iff.mp e
  obtain ⟨c, e3, e⟩ := Option.bind_eq_some_iff.mp e
  obtain ⟨cd, e3, e4⟩ := Option.bind_eq_some_iff.mp e3
  cases ZP e4
  refine ra σ ρ F H x _ s va e1 fun F1 H1 v g1 a1 => ?_
  refine rb σ ρ F1 H1 y _ g1.fh (va.mono g1.ff) e2 fun F2 H2 u g2 a2 => ?_
  refine hg F2 H2 v u x y _ _ g2.fh (a1.mono g2.ff) a2 e3 fun F3 H3 w g3 a3 => ⟨c, a3.bl_inv, ?_⟩
  have g123 := (g1.trans g2).trans g3
  cases c with
  | true =>
    rw [if_pos rfl] at e ⊢
    obtain ⟨z', e5, e6⟩ := Option.bind_eq_some_iff.mp e
    refine rc σ ρ F3 H3 z' _ g3.fh (va.mono g123.ff) e5 fun F4 H4 w4 g4 a4 => ?_
    exact hg' F4 H4 u w4 y z' z Q g4.fh (a2.mono (g3.ff.trans g4.ff)) a4 e6 fun F5 H5 w5 g5 a5 => q F5 H5 w5 ((g123.trans g4).trans g5) a5
  | false =>
    rw [if_neg Bool.false_ne_true] at e ⊢
    cases e
    exact q F3 H3 _ g123 .bl
theorem zfL {op op' : CmpOp} {r r' : R2} {g g' : D → D → Option D} {f h k : Ev → Option D} (ho : OpR X (compareOp op) r) (ho' : OpR X (compareOp op') r') (hg : OpD r g) (hg' : OpD r' g') (ha : ED X a f) (hb : ED X b h) (hc : ED X c k)
    (pch : ∀ {ta tb tc : TE}, PE X a ta → PE X b tb → PE X c tc → PE X (.Compare a [op, op'] [b, c] pos) (zee r r' ta tb tc)) : ED X (.Compare a [op, op'] [b, c] pos) (yJ g g' f h k) :=
  let ⟨_, pa, ra⟩ := ha
  let ⟨_, pb, rb⟩ := hb
  let ⟨_, pc, rc⟩ := hc
  ⟨_, pch pa pb pc, zgp hg hg' ra rb rc⟩
noncomputable def zcN : List D → Option (List Int)
  | [] => some []
  | .int b :: ds => (zcN ds).map (b :: ·)
  | _ => none
omit [KK] in
theorem Ww : ∀ {ds : List D} {bs : List Int}, zcN ds = some bs → ds = bs.map .int
  | [], bs, h => by cases h; rfl
  | d :: ds, bs, h => by
    cases d <;> try cases h
    obtain ⟨cs, h1, rfl⟩ := Option.map_eq_some_iff.mp h
    rw [Ww h1]
    rfl
noncomputable def leT : D → D → Option D
  | .tup a, .tup b => (zcN a).bind fun ns => (zcN b).map fun ms => .bl (HT.lexLe ns ms)
  | _, _ => none
theorem ziF {K : PySem.W.Frag} : OpD (rLeT K) leT := by
  intro F H x y d e z Q s ax ay ez q
  cases d <;> try cases ez
  cases e <;> try cases ez
  obtain ⟨ns, e1, e2⟩ := Option.bind_eq_some_iff.mp ez
  obtain ⟨ms, e3, rfl⟩ := Option.map_eq_some_iff.mp e2
  rw [Ww e1] at ax
  rw [Ww e3] at ay
  obtain ⟨p, xs, rfl, hx, al⟩ := ax.tup_inv
  obtain ⟨p2, ys, rfl, hy, bl⟩ := ay.tup_inv
  cases al.of_ints
  cases bl.of_ints
  exact ⟨p, p2, ns, ms, rfl, rfl, SqT.of (s _ _ hx), SqT.of (s _ _ hy), q F H _ (.refl s) .bl⟩
noncomputable def ixD : D → D → Option D
  | .lst ds, .int i => atI ds i
  | .tup ds, .int i => atI ds i
  | .scr ns, .int i => (atI ns i).map .int
  | _, _ => none
theorem AtL.atI {F : Hp} {ds : List D} {xs : List V} {i : Int} {d : D} (al : AtL F ds xs) (h : L2.atI ds i = some d) : ∃ x, L2.atI xs i = some x ∧ At F d x := by
  unfold L2.atI at h ⊢
  obtain ⟨j, e1, e2⟩ := Option.bind_eq_some_iff.mp h
  obtain ⟨x, hx, ax⟩ := al.get e2
  exact ⟨x, by rw [al.length, e1]; exact hx, ax⟩
theorem zju : OpD (rIx KK.K) ixD := by
  intro F H x y d e z Q s ax ay ez q
  cases e <;> try (cases d <;> cases ez)
  cases ay.int_inv
  cases d with
  | lst ds =>
    obtain ⟨p, xs, rfl, hx, al⟩ := ax.lst_inv
    obtain ⟨v, e1, av⟩ := al.atI ez
    exact .inl ⟨p, xs, _, v, rfl, rfl, SqL.of (s _ _ hx), e1, q F H _ (.refl s) av⟩
  | tup ds =>
    obtain ⟨p, xs, rfl, hx, al⟩ := ax.tup_inv
    obtain ⟨v, e1, av⟩ := al.atI ez
    exact .inr (.inl ⟨p, xs, _, v, rfl, rfl, SqT.of (s _ _ hx), e1, q F H _ (.refl s) av⟩)
  | scr ns =>
    obtain ⟨p, rfl, hx⟩ := ax.scr_inv
    obtain ⟨n, e1, rfl⟩ := Option.map_eq_some_iff.mp ez
    refine .inl ⟨p, ns.map V.int, _, .int n, rfl, rfl, s.seq hx, ?_, q F H _ (.refl s) .int⟩
    unfold L2.atI at e1 ⊢
    rw [List.length_map]
    obtain ⟨j, e2, e3⟩ := Option.bind_eq_some_iff.mp e1
    rw [e2]
    show (ns.map V.int)[j]? = _
    rw [List.getElem?_map, e3]
    rfl
  | _ => cases ez
theorem zD {f h : Ev → Option D} (ha : ED X a f) (hb : ED X b h) (hs : Vw b) (hK : X.K = KK.K := by rfl) : ED X (.Subscript a b pos) (zk ixD f h) :=
  let ⟨_, pa, ra⟩ := ha
  let ⟨_, pb, rb⟩ := hb
  ⟨_, zkz zkr pa pb hs, zgF (by rw [hK]; exact zju) ra rb⟩
noncomputable def zdy {α : Type} (xs : List α) (lo hi : Option Int) : List α := (xs.drop (HT.sIx xs.length 0 lo)).take (HT.sIx xs.length xs.length hi - HT.sIx xs.length 0 lo)
theorem AtL.cut {F : Hp} {ds : List D} {xs : List V} {lo hi : Option Int} (al : AtL F ds xs) : AtL F (zdy ds lo hi) (zb7 xs lo hi) := by
  unfold zdy zb7
  rw [al.length]
  exact (al.drop _).take _
noncomputable def OD (X : Cx) (e : Option Expr) (f : Ev → Option (Option Int)) : Prop := ∃ t, PO X e t ∧ ∀ (σ : St) (ρ : Ev) (F H : Hp) (i : Option Int) (Q : Option Int → Hp → Prop), yU F H → VAt F ρ σ → f ρ = some i → (∀ F' H', Gr F H F' H' → Q i H') → t σ H Q
noncomputable def wD : Ev → Option (Option Int) := fun _ => some none
noncomputable def asI : D → Option Int
  | .int i => some i
  | _ => none
noncomputable def xz (f : Ev → Option D) : Ev → Option (Option Int) := fun ρ => ((f ρ).bind asI).map some
theorem ziu : OD X none wD := ⟨_, zhD, fun _ _ _ _ _ _ s _ e q => by cases e; exact q _ _ (.refl s)⟩
theorem zbr {f : Ev → Option D} (h : ED X e f) : OD X (some e) (xz f) := by
  obtain ⟨t, p, r⟩ := h
  refine ⟨_, zhC p, fun σ ρ F H i Q s va e q => ?_⟩
  obtain ⟨j, e1, rfl⟩ := Option.map_eq_some_iff.mp e
  obtain ⟨d, e1, e2⟩ := Option.bind_eq_some_iff.mp e1
  cases d <;> cases e2
  exact r σ ρ F H _ _ s va e1 fun F1 H1 v g1 a1 => ⟨_, a1.int_inv, q F1 H1 g1⟩
noncomputable def slD : D → Option Int → Option Int → Option D
  | .lst ds, lo, hi => some (.lst (zdy ds lo hi))
  | .scr ns, lo, hi => some (.lst ((zdy ns lo hi).map .int))
  | .tup ds, lo, hi => some (.tup (zdy ds lo hi))
  | _, _, _ => none
noncomputable def eSl (g : D → Option Int → Option Int → Option D) (f : Ev → Option D) (l h : Ev → Option (Option Int)) : Ev → Option D := fun ρ => (f ρ).bind fun d => (l ρ).bind fun lo => (h ρ).bind fun hi => g d lo hi
omit [KK] in
theorem zgi {ns : List Int} {lo hi : Option Int} : zb7 (ns.map V.int) lo hi = (zdy ns lo hi).map V.int := by
  unfold zb7 zdy
  rw [List.length_map, List.map_take, List.map_drop]
end
end Dl
namespace L2
open PySem PySem.Spec PyProof.Rows
noncomputable def rSlN : V → Option Int → Option Int → Hp → VK → Prop := fun x lo hi H Q => ∃ a xs, x = .ref a ∧ H a = some (.tup xs) ∧ (zb7 xs lo hi = xs → Q (.ref a) H) ∧ ∀ p, H p = none → Q (.ref p) (upd H p (.tup (zb7 xs lo hi)))
theorem zhV {X : Cx} : SlR X rSlN := by
  intro pins s σ H x v vl vu lo hi sl Q I rx hs pl pu h
  obtain ⟨a, xs, rfl, hx, q1, q2⟩ := h
  by_cases hw : HT.sIx xs.length 0 lo = 0 ∧ HT.sIx xs.length xs.length hi = xs.length
  · cases rx
    obtain ⟨its, r, ht, hz⟩ := I.tuple (SqT.of hx)
    have hlen : its.toArray.size = xs.length := by rw [List.size_toArray]; exact r.length.symm
    refine ⟨"tuple", _, PyProof.Rows.slot_tuple_getitem.lookup, ht.typeIs, ?_⟩
    refine HT.own_getItem_whole ht hs pl pu (by rw [hlen]; exact hw) ⟨.ref a, H, I, rfl, q1 ?_⟩
    unfold zb7
    rw [hw.1, hw.2, List.drop_zero, Nat.sub_zero, List.take_length]
  · exact zjN pins s σ H (.ref a) v vl vu lo hi sl Q I rx hs pl pu ⟨a, xs, rfl, SqT.of hx, hw, q2⟩
end L2
namespace Dl
open PySem L2
variable [KK]
section
variable {X : Cx} {a b c e : Expr} {pos : Pos}
theorem zcR {lo hi : Option Expr} {p2 : Pos} {f : Ev → Option D} {l h : Ev → Option (Option Int)} (ha : ED X a f) (hl : OD X lo l) (hh : OD X hi h) (hK : X.K = KK.K := by rfl) : ED X (.Subscript a (.Slice lo hi none p2) pos) (eSl slD f l h) := by
  obtain ⟨ta, pa, ra⟩ := ha
  obtain ⟨tl, ppl, rl⟩ := hl
  obtain ⟨th, ph, rh⟩ := hh
  refine ⟨_, zfo (zid.or zhV) pa ppl ph, fun σ ρ F H z Q s va e q => ?_⟩
  obtain ⟨d, e1, e⟩ := Option.bind_eq_some_iff.mp e
  obtain ⟨i, e2, e⟩ := Option.bind_eq_some_iff.mp e
  obtain ⟨j, e3, e⟩ := Option.bind_eq_some_iff.mp e
  refine ra σ ρ F H d _ s va e1 fun F1 H1 v g1 a1 => ?_
  refine rl σ ρ F1 H1 i _ g1.fh (va.mono g1.ff) e2 fun F2 H2 g2 => ?_
  refine rh σ ρ F2 H2 j _ g2.fh (va.mono (g1.ff.trans g2.ff)) e3 fun F3 H3 g3 => ?_
  have g123 := (g1.trans g2).trans g3
  have a3 := a1.mono (g2.ff.trans g3.ff)
  cases d <;> try cases e
  · obtain ⟨p, xs, rfl, hx, al⟩ := a3.tup_inv
    refine .inr ⟨p, xs, rfl, g3.fh _ _ hx, fun ec => ?_, fun r hr => ?_⟩
    · have := al.cut (lo := i) (hi := j)
      rw [ec] at this
      exact q F3 H3 _ g123 (.tup hx this)
    · have g := Gr.alloc g3.fh hr (.tup (zb7 xs i j))
      exact q _ _ _ (g123.trans g) (.tup zt (al.cut.mono g.ff))
  · obtain ⟨p, xs, rfl, hx, al⟩ := a3.lst_inv
    refine .inl ⟨p, xs, rfl, SqL.of (g3.fh _ _ hx), fun r hr => ?_⟩
    have g := Gr.alloc g3.fh hr (.lst (zb7 xs i j))
    exact q _ _ _ (g123.trans g) (.lst zt (al.cut.mono g.ff))
  · rename_i ns _ _
    obtain ⟨p, rfl, hx⟩ := a3.scr_inv
    refine .inl ⟨p, _, rfl, (by rw [hK]; exact g3.fh.seq hx), fun r hr => ?_⟩
    rw [zgi]
    have g := Gr.alloc g3.fh hr (.lst ((zdy ns i j).map V.int))
    exact q _ _ _ (g123.trans g) (.lst zt (.ints _))
noncomputable def CaD (r : List V → Hp → VK → Prop) (g : List D → Option D) : Prop := ∀ (F H : Hp) (vs : List V) (ds : List D) (z : D) (Q : VK), yU F H → AtL F ds vs → g ds = some z → (∀ F' H' v, Gr F H F' H' → At F' z v → Q v H') → r vs H Q
noncomputable def eFn (g : List D → Option D) (f : Ev → Option (List D)) : Ev → Option D := fun ρ => (f ρ).bind g
noncomputable def fFn (g : List D → Option (List D)) (f : Ev → Option (List D)) : Ev → Option (List D) := fun ρ => (f ρ).bind g
theorem zI {x : Str} {id : String} {p : Pos} {es : List Expr} {r : List V → Hp → VK → Prop} {g : List D → Option D} {f : Ev → Option (List D)} (hc : YD X (.builtin id) r) (hg : CaD r g) (hgl : Gl X x) (hm : X.mg x = none) (hv : bootBuiltins x = some (.builtin id)) (ha : AD X (e :: es) f)
    (hn : x ≠ "__name__" := by decide) (hdb : (x == ("__debug__" : Str)) = false := by decide) (he : starEach (e :: es) X.env = (false, eval e X.env) :: starEach es X.env := by rfl) (hpl : (backTo pos (starEach es X.env)).any (·.1) = false := by rfl) :
    ED X (.Call (.Name x p) (e :: es) [] pos) (eFn g f) := by
  obtain ⟨t, pa, ra⟩ := ha
  refine ⟨_, VN hc hgl hm hv pa hn hdb he hpl, fun σ ρ F H z Q s va e q => ?_⟩
  obtain ⟨ds, e1, e2⟩ := Option.bind_eq_some_iff.mp e
  refine ra σ ρ F H ds _ s va e1 fun F1 H1 vs g1 a1 => ?_
  exact hg F1 H1 vs ds z Q g1.fh a1 e2 fun F' H' v g av => q F' H' v (g1.trans g) av
theorem yY {x : Str} {T : String} {p : Pos} {es : List Expr} {r : List V → Hp → VK → Prop} {g : List D → Option D} {f : Ev → Option (List D)} (hc : YD X (.type T) r) (hg : CaD r g) (hgl : Gl X x) (hm : X.mg x = none) (hv : bootBuiltins x = some (.type T)) (ha : AD X (e :: es) f)
    (hn : x ≠ "__name__" := by decide) (hdb : (x == ("__debug__" : Str)) = false := by decide) (he : starEach (e :: es) X.env = (false, eval e X.env) :: starEach es X.env := by rfl) (hpl : (backTo pos (starEach es X.env)).any (·.1) = false := by rfl) :
    ED X (.Call (.Name x p) (e :: es) [] pos) (eFn g f) := by
  obtain ⟨t, pa, ra⟩ := ha
  refine ⟨_, za5 hc hgl hm hv pa hn hdb he hpl, fun σ ρ F H z Q s va e q => ?_⟩
  obtain ⟨ds, e1, e2⟩ := Option.bind_eq_some_iff.mp e
  refine ra σ ρ F H ds _ s va e1 fun F1 H1 vs g1 a1 => ?_
  exact hg F1 H1 vs ds z Q g1.fh a1 e2 fun F' H' v g av => q F' H' v (g1.trans g) av
noncomputable def Yi : List D → Option D
  | [.lst ds] => some (.int ds.length)
  | [.tup ds] => some (.int ds.length)
  | [.scr ds] => some (.int ds.length)
  | _ => none
theorem wk : CaD (fun xs H Q => ∃ p ys, xs = [.ref p] ∧ (SqL KK.K H p ys ∨ SqT KK.K H p ys) ∧ Q (.int ys.length) H) Yi := by
  intro F H vs ds z Q s al e q
  unfold Yi at e
  split at e <;> cases e
  all_goals
    obtain ⟨x, r, rfl, ax, ar⟩ := al.cons_inv
    cases ar.nil_inv
  · obtain ⟨p, xs, rfl, hx, bl⟩ := ax.lst_inv
    exact ⟨p, xs, rfl, .inl (SqL.of (s _ _ hx)), by rw [bl.length]; exact q F H _ (.refl s) .int⟩
  · obtain ⟨p, xs, rfl, hx, bl⟩ := ax.tup_inv
    exact ⟨p, xs, rfl, .inr (SqT.of (s _ _ hx)), by rw [bl.length]; exact q F H _ (.refl s) .int⟩
  · obtain ⟨p, rfl, hx⟩ := ax.scr_inv
    exact ⟨p, _, rfl, .inl ((s.seq hx)), by rw [List.length_map]; exact q F H _ (.refl s) .int⟩
noncomputable def zj7 : List D → Option D
  | [.int i, .int j] => some (.int (if j > i then j else i))
  | _ => none
noncomputable def zbu : List D → Option D
  | [.int i, .int j] => some (.int (if j < i then j else i))
  | _ => none
theorem zcB {g : Int → Int → Int} : CaD (fun xs H Q => ∃ i j, xs = [.int i, .int j] ∧ Q (.int (g i j)) H) (fun ds => match ds with | [.int i, .int j] => some (.int (g i j)) | _ => none) := by
  intro F H vs ds z Q s al e q
  dsimp only at e
  split at e <;> cases e
  obtain ⟨x, r, rfl, ax, ar⟩ := al.cons_inv
  obtain ⟨y, r, rfl, ay, ar⟩ := ar.cons_inv
  cases ar.nil_inv
  exact ⟨_, _, by rw [ax.int_inv, ay.int_inv], q F H _ (.refl s) .int⟩
theorem zfz : CaD (fun xs H Q => ∃ i j, xs = [.int i, .int j] ∧ Q (.int (if j > i then j else i)) H) zj7 := zcB (g := fun i j => if j > i then j else i)
theorem VF : CaD (fun xs H Q => ∃ i j, xs = [.int i, .int j] ∧ Q (.int (if j < i then j else i)) H) zbu := zcB (g := fun i j => if j < i then j else i)
noncomputable def zT : List D → Option D
  | [.lst ds] => some (.tup ds)
  | [.tup ds] => some (.tup ds)
  | _ => none
theorem xx {K : PySem.W.Frag} : CaD (fun xs H Q => ∃ p ys, xs = [.ref p] ∧ ((SqL K H p ys ∧ ∀ l, H l = none → Q (.ref l) (upd H l (.tup ys))) ∨ (SqT K H p ys ∧ Q (.ref p) H))) zT := by
  intro F H vs ds z Q s al e q
  unfold zT at e
  split at e <;> cases e
  all_goals
    obtain ⟨x, r, rfl, ax, ar⟩ := al.cons_inv
    cases ar.nil_inv
  · obtain ⟨p, xs, rfl, hx, bl⟩ := ax.lst_inv
    refine ⟨p, xs, rfl, .inl ⟨SqL.of (s _ _ hx), fun l hl => ?_⟩⟩
    have g := Gr.alloc s hl (.tup xs)
    exact q _ _ _ g (.tup zt (bl.mono g.ff))
  · obtain ⟨p, xs, rfl, hx, bl⟩ := ax.tup_inv
    exact ⟨p, xs, rfl, .inr ⟨SqT.of (s _ _ hx), q F H _ (.refl s) (.tup hx bl)⟩⟩
noncomputable def x8 : List D → Option (List D)
  | [.lst ds] => some ds
  | [.tup ds] => some ds
  | [.scr ns] => some (ns.map .int)
  | _ => none
theorem zd9 {p : Pos} {f : Ev → Option (List D)} (hgl : Gl X "list") (hm : X.mg "list" = none) (ha : AD X [e] f) (hK : X.K = KK.K := by rfl)
    (he : starEach [e] X.env = (false, eval e X.env) :: starEach [] X.env := by rfl) (hpl : (backTo pos (starEach [] X.env)).any (·.1) = false := by rfl) : FL X (.Call (.Name "list" p) [e] [] pos) (fFn x8 f) := by
  obtain ⟨t, pa, ra⟩ := ha
  refine ⟨_, za5 zam hgl hm Wh pa (by decide) (by decide) he hpl, fun σ ρ F H z Q s va e q => ?_⟩
  obtain ⟨ds, e1, e2⟩ := Option.bind_eq_some_iff.mp e
  refine ra σ ρ F H ds _ s va e1 fun F1 H1 vs g1 a1 => ?_
  unfold x8 at e2
  split at e2 <;> cases e2
  all_goals
    obtain ⟨x, r, rfl, ax, ar⟩ := a1.cons_inv
    cases ar.nil_inv
  · obtain ⟨p, xs, rfl, hx, bl⟩ := ax.lst_inv
    exact ⟨p, xs, rfl, .inl (SqL.of (g1.fh _ _ hx)), fun l hl => q _ _ _ _ (g1.trans (Gr.hide g1.fh hl _)) (zds g1 hl) (g1.fh.free hl) zt bl⟩
  · obtain ⟨p, xs, rfl, hx, bl⟩ := ax.tup_inv
    exact ⟨p, xs, rfl, .inr (SqT.of (g1.fh _ _ hx)), fun l hl => q _ _ _ _ (g1.trans (Gr.hide g1.fh hl _)) (zds g1 hl) (g1.fh.free hl) zt bl⟩
  · obtain ⟨p, rfl, hx⟩ := ax.scr_inv
    exact ⟨p, _, rfl, .inl (by rw [hK]; exact g1.fh.seq hx), fun l hl => q _ _ _ _ (g1.trans (Gr.hide g1.fh hl _)) (zds g1 hl) (g1.fh.free hl) zt (.ints _)⟩
inductive TyD (K : PySem.W.Frag) (H : Hp) : V → Value → Prop where
  | of {v : V} {t : Value} (h : zcJ K H v t) : TyD K H v t
  | dd {a : Addr} {u : HO} (h : Rd H a u) (d : (∃ kvs, u = .dK kvs) ∨ ∃ kvs, u = .dT kvs) : TyD K H (.ref a) (.type "dict")
theorem zaV {X : Cx} : YD X (.builtin "isinstance") (fun xs H Q => ∃ x n t b, xs = [x, .ty n] ∧ TyD X.K H x t ∧ PySem.W.kitOne X.K t (.type n) = some b ∧ Q (.bl b) H) := by
  intro pins s σ H xs us Q I r h
  obtain ⟨x, n, t, b, rfl, ty, e, q⟩ := h
  cases ty with
  | of ty => exact zbW pins s σ H _ us Q I r ⟨x, n, t, b, rfl, ty, e, q⟩
  | @dd a u h d =>
    cases r with
    | cons r1 r2 =>
      cases r2 with
      | cons r3 r4 =>
        cases r4
        cases r1
        cases r3
        have ok := h.ok I.hok
        rcases d with ⟨kvs, rfl⟩ | ⟨kvs, rfl⟩
        · obtain ⟨_, _, vs, _, p⟩ := (show yZ X.prog X.w H s.heap a (.dK kvs) from ok)
          obtain ⟨o, es, ep, h1, h2, _⟩ := p
          exact PySem.W.kia_one PySem.W.kitx_dict I.kIn ⟨o, h1, h2.1⟩ e (fun z => nomatch z) fun tk => ⟨.bl b, H, I.tok tk, rfl, q⟩
        · obtain ⟨_, _, xs, _, o, es, ep, h1, h2, _⟩ := (show yZ X.prog X.w H s.heap a (.dT kvs) from ok)
          exact PySem.W.kia_one PySem.W.kitx_dict I.kIn ⟨o, h1, h2.1⟩ e (fun z => nomatch z) fun tk => ⟨.bl b, H, I.tok tk, rfl, q⟩
theorem At.ty {K : PySem.W.Frag} {F H : Hp} (s : yU F H) : ∀ {d : D} {v : V}, At F d v → (∀ ns, d ≠ .scr ns) → TyD K H v (.type (tyN d))
  | .non, _, h, _ => by cases h.non_inv; exact .of .non
  | .bl b, _, h, _ => by cases h.bl_inv; exact .of (.bl b)
  | .int i, _, h, _ => by cases h.int_inv; exact .of (.int i)
  | .str x, _, h, _ => by cases h.str_inv; exact .of (.str x)
  | .tup ds, _, h, _ => by obtain ⟨a, xs, rfl, e, _⟩ := h.tup_inv; exact .of (.tup (s _ _ e))
  | .lst ds, _, h, _ => by obtain ⟨a, xs, rfl, e, _⟩ := h.lst_inv; exact .of (.lst (s _ _ e))
  | .scr ns, _, _, n => absurd rfl (n ns)
  | .dct z t ks vs, _, h, _ => by
    obtain ⟨a, xs, rfl, d, _⟩ := h.dct_inv
    obtain ⟨u, e1, e2⟩ := (d.mono s).rd
    exact .dd e2 (by
      unfold zb4 at e1
      split at e1
      · obtain ⟨kvs, rfl, _⟩ := e1; exact .inr ⟨kvs, rfl⟩
      · obtain ⟨kvs, rfl, _⟩ := e1; exact .inl ⟨kvs, rfl⟩)
inductive Ty where
  | int | bool | tuple | list | str
noncomputable def Ty.nm : Ty → String
  | .int => "int" | .bool => "bool" | .tuple => "tuple" | .list => "list" | .str => "str"
noncomputable def isT : Ty → D → Bool
  | .int, .int _ => true | .int, .bl _ => true
  | .bool, .bl _ => true
  | .tuple, .tup _ => true
  | .list, .lst _ => true
  | .str, .str _ => true
  | _, _ => false
noncomputable def ym (n : Ty) : D → Option D
  | .scr _ => none
  | d => some (.bl (isT n d))
theorem zi3 (K : PySem.W.Frag) (n : Ty) (d : D) (h : ∀ ns, d ≠ .scr ns) : PySem.W.kitOne K (.type (tyN d)) (.type n.nm) = some (isT n d) := by
  cases n <;> cases d <;> first | exact absurd rfl (h _) | kernel_rfl
theorem zF {p : Pos} {f : Ev → Option D} (n : Ty) (hgl : Gl X "isinstance") (hm : X.mg "isinstance" = none) (ha : ED X a f) (hb : PE X b (tC (.ty n.nm)))
    (hs : starEach [a, b] X.env = (false, eval a X.env) :: starEach [b] X.env := by rfl) (hs2 : starEach [b] X.env = (false, eval b X.env) :: starEach [] X.env := by rfl) (hpl : (backTo pos (starEach [b] X.env)).any (·.1) = false := by rfl) :
    ED X (.Call (.Name "isinstance" p) [a, b] [] pos) (eUn (ym n) f) := by
  obtain ⟨t, pa, ra⟩ := ha
  refine ⟨_, VN zaV hgl hm VV (WE pa (WE hb zcu hs2) hs) (by decide) (by decide) hs hpl, fun σ ρ F H z Q s va e q => ?_⟩
  obtain ⟨d, e1, e2⟩ := Option.bind_eq_some_iff.mp e
  refine ra σ ρ F H d _ s va e1 fun F1 H1 v g1 a1 => ?_
  have ns : ∀ ns, d ≠ .scr ns := fun ns h => by subst h; cases e2
  have e3 : z = .bl (isT n d) := by
    cases d <;> first | exact (Option.some.inj e2).symm | exact absurd rfl (ns _)
  subst e3
  exact ⟨v, n.nm, _, _, rfl, a1.ty g1.fh ns, zi3 _ n d ns, q F1 H1 _ g1 .bl⟩
noncomputable def Zj (m : Bool) (i : Nat) (f : Ev → Option D) : SE → Ctl := fun ρ => match (vEv m f ρ).bind fun d => match ρ[i]? with
    | some (.o ds) => if decide (ds.length < sizeLine) = true then some (ρ.set i (.o (ds ++ [d]))) else none
    | _ => none with
  | some ρ' => .nx ρ'
  | none => .no
theorem zcn {m : Bool} {i : Nat} {p pos' : Pos} {f : Ev → Option D} (ho : PE X a (zhi i)) (he : ED X e f)
    (hp : ∀ {ta : TE} {t : TA}, PE X a ta → PA X [e] t → PE X (.Call (.Attribute a "append" p) [e] [] pos') (tBM X.K "list" zeX ta t)) (hsw : swapsWith (.Call (.Attribute a "append" p) [e] [] pos') none pos.line X.env = pure false := by rfl)
    (hs : starEach [e] X.env = (false, eval e X.env) :: starEach [] X.env := by rfl) : SD X (.Expr (.Call (.Attribute a "append" p) [e] [] pos') pos) (Zj m i f) := by
  obtain ⟨t, pe, re⟩ := he
  refine ⟨_, zbF (hp ho (WE pe zcu hs)) hsw, fun Fb Hb F H ρ σ E rl k => ?_⟩
  unfold Zj at k
  cases h : (vEv m f ρ).bind fun d => match ρ[i]? with
    | some (.o ds) => if decide (ds.length < sizeLine) = true then some (ρ.set i (.o (ds ++ [d]))) else none
    | _ => none with
  | none => rw [h] at k; exact k.elim
  | some ρ' =>
    rw [h] at k
    obtain ⟨d, e1, e2⟩ := Option.bind_eq_some_iff.mp h
    cases hs : ρ[i]? with
    | none => rw [hs] at e2; cases e2
    | some sl =>
      rw [hs] at e2
      cases sl with
      | no => cases e2
      | v _ => cases e2
      | m _ _ _ => cases e2
      | o ds =>
        dsimp only at e2
        split at e2 <;> cases e2
        rename_i hl
        obtain ⟨q, xs, f1, f2, f3, f4, f5⟩ := rl.owns i ds hs
        refine ⟨_, f1, .inl ⟨rfl, xs, SqL.of f4⟩, ?_⟩
        refine re.at rl e1 fun F' H' v g av => ?_
        have rl2 := rl.grow g
        obtain ⟨q2, xs2, f1', _, _, f4', f5'⟩ := rl2.owns i ds hs
        rw [f1] at f1'
        cases f1'
        refine ⟨q, xs2, v, rfl, rfl, f4', by rw [f5'.length]; exact of_decide_eq_true hl, ?_⟩
        exact k _ _ σ (rl2.mutate hs f1 (f5'.snoc av))
noncomputable def XR (i : Nat) (f : Ev → Option D) : SE → Ctl := fun ρ => match (f (visF ρ)).bind fun d => match ρ[i]?, d with
    | some (.o ds), .lst es => if lim (ds.length + es.length) = true then some (ρ.set i (.o (ds ++ es))) else none
    | _, _ => none with
  | some ρ' => .nx ρ'
  | none => .no
theorem zgT {i : Nat} {p pos' : Pos} {f : Ev → Option D} (ho : PE X a (zhi i)) (he : ED X e f)
    (hp : ∀ {ta : TE} {t : TA}, PE X a ta → PA X [e] t → PE X (.Call (.Attribute a "extend" p) [e] [] pos') (tBM X.K "list" zdC ta t)) (hsw : swapsWith (.Call (.Attribute a "extend" p) [e] [] pos') none pos.line X.env = pure false := by rfl)
    (hs : starEach [e] X.env = (false, eval e X.env) :: starEach [] X.env := by rfl) : SD X (.Expr (.Call (.Attribute a "extend" p) [e] [] pos') pos) (XR i f) := by
  obtain ⟨t, pe, re⟩ := he
  refine ⟨_, zbF (hp ho (WE pe zcu hs)) hsw, fun Fb Hb F H ρ σ E rl k => ?_⟩
  unfold XR at k
  cases h : (f (visF ρ)).bind fun d => match ρ[i]?, d with
    | some (.o ds), .lst es => if lim (ds.length + es.length) = true then some (ρ.set i (.o (ds ++ es))) else none
    | _, _ => none with
  | none => rw [h] at k; exact k.elim
  | some ρ' =>
    rw [h] at k
    obtain ⟨d, e1, e2⟩ := Option.bind_eq_some_iff.mp h
    cases hs : ρ[i]? with
    | none => rw [hs] at e2; cases e2
    | some sl =>
      rw [hs] at e2
      cases sl with
      | no => cases e2
      | v _ => cases e2
      | m _ _ _ => cases e2
      | o ds =>
        cases d with
        | lst es =>
          dsimp only at e2
          split at e2 <;> cases e2
          rename_i hl
          obtain ⟨q, xs, f1, f2, f3, f4, f5⟩ := rl.owns i ds hs
          refine ⟨_, f1, .inl ⟨rfl, xs, SqL.of f4⟩, ?_⟩
          refine re σ _ _ H _ _ rl.gr.fh rl.visF e1 fun F' H' v g av => ?_
          have rl2 := rl.grow g
          obtain ⟨q2, xs2, f1', _, _, f4', f5'⟩ := rl2.owns i ds hs
          rw [f1] at f1'
          cases f1'
          obtain ⟨pb, zs, rfl, hz, bl⟩ := av.lst_inv
          refine ⟨q, pb, xs2, zs, rfl, rfl, f4', g.fh _ _ hz, by rw [f5'.length, bl.length]; exact of_decide_eq_true hl, ?_⟩
          exact k _ _ σ (rl2.mutate hs f1 (f5'.append bl))
        | _ => cases e2
end
end Dl
namespace Dl
open PySem L2
variable [KK]
noncomputable def okE : Nat → D → Bool
  | _, .scr _ => false
  | _, .dct _ _ _ _ => false
  | 0, .tup _ => false
  | 0, .lst _ => false
  | n + 1, .tup ds => ds.all (okE n)
  | n + 1, .lst ds => ds.all (okE n)
  | _, _ => true
noncomputable def eqN : Nat → D → D → Bool
  | _, .non, .non => true
  | _, .bl a, .bl b => a == b
  | _, .bl a, .int b => (if a then 1 else 0) == b
  | _, .int a, .bl b => a == (if b then 1 else 0)
  | _, .int a, .int b => a == b
  | _, .str a, .str b => a == b
  | n + 1, .tup a, .tup b => (List.zipWith (eqN n) a b).all id && a.length == b.length
  | n + 1, .lst a, .lst b => (List.zipWith (eqN n) a b).all id && a.length == b.length
  | _, _, _ => false
omit [KK] in
theorem VM {n : Nat} : ∀ (a b : List D), (List.zipWith (eqN n) a b).all id = (List.range (min a.length b.length)).all fun j => eqN n (a.getD j .non) (b.getD j .non) := by
  intro a b
  have : List.zipWith (eqN n) a b = (List.range (min a.length b.length)).map fun j => eqN n (a.getD j .non) (b.getD j .non) := by
    apply List.ext_getElem
    · simp
    · intro i h1 h2
      simp at h1 h2
      have g1 : i < a.length := Nat.lt_of_lt_of_le h1 (Nat.min_le_left _ _)
      have g2 : i < b.length := Nat.lt_of_lt_of_le h1 (Nat.min_le_right _ _)
      simp [g1, g2]
  rw [this, List.all_map]
  rfl
omit [KK] in
noncomputable def vOf : D → V
  | .bl b => .bl b
  | .int i => .int i
  | .str t => .str t
  | _ => .non
theorem wf {F : Hp} {d : D} {x : V} (h : okE 0 d = true) (a : At F d x) : x = vOf d := by
  cases d with
  | non => exact a.non_inv
  | bl b => exact a.bl_inv
  | int b => exact a.int_inv
  | str b => exact a.str_inv
  | _ => cases h
omit [KK] in
theorem XX {d : D} (h : okE 0 d = true) : zie (vOf d) = true := by
  cases d <;> first | rfl | cases h
omit [KK] in
theorem VO {d : D} {p : Addr} (h : okE 0 d = true) (e : vOf d = .ref p) : False := by
  cases d <;> first | (cases h; done) | (cases e; done)
noncomputable def dOfV : V → D
  | .bl b => .bl b
  | .int i => .int i
  | .str t => .str t
  | _ => .non
omit [KK] in
theorem ze2 {d : D} (h : okE 0 d = true) : dOfV (vOf d) = d := by
  cases d <;> first | rfl | (cases h; done)
omit [KK] in
theorem zeY {d e : D} (h1 : okE 0 d = true) (h2 : okE 0 e = true) (h : vOf d = vOf e) : d = e := by
  rw [← ze2 h1, h, ze2 h2]
omit [KK] in
theorem xW {n : Nat} {d : D} (h : okE (n + 1) d = true) : okE 0 d = true ∨ (∃ ds, d = .tup ds ∧ ds.all (okE n) = true) ∨ ∃ ds, d = .lst ds ∧ ds.all (okE n) = true := by
  cases d with
  | tup ds => exact .inr (.inl ⟨ds, rfl, h⟩)
  | lst ds => exact .inr (.inr ⟨ds, rfl, h⟩)
  | scr _ => cases h
  | dct _ _ _ _ => cases h
  | _ => exact .inl rfl
theorem zfb {F : Hp} {n : Nat} (ih : ∀ {d e : D} {v : V}, okE n d = true → okE n e = true → At F d v → At F e v → d = e) : ∀ {xs : List V} {ds es : List D}, ds.all (okE n) = true → es.all (okE n) = true → AtL F ds xs → AtL F es xs → ds = es := by
  intro xs
  induction xs with
  | nil =>
    intro ds es _ _ a1 a2
    exact (List.length_eq_zero_iff.mp a1.length.symm).trans (List.length_eq_zero_iff.mp a2.length.symm).symm
  | cons x xs ih2 =>
    intro ds es h1 h2 a1 a2
    cases ds with
    | nil => cases a1.nil_inv
    | cons d ds => cases es with
      | nil => cases a2.nil_inv
      | cons e es =>
        obtain ⟨y, r, e1, b1, c1⟩ := a1.cons_inv
        obtain ⟨y2, r2, e2, b2, c2⟩ := a2.cons_inv
        cases e1
        cases e2
        rw [List.all_cons, Bool.and_eq_true] at h1 h2
        rw [ih2 h1.2 h2.2 c1 c2, ih h1.1 h2.1 b1 b2]
theorem zg1 {F : Hp} : ∀ (n : Nat) {d e : D} {v : V}, okE n d = true → okE n e = true → At F d v → At F e v → d = e := by
  intro n
  induction n with
  | zero =>
    intro d e v h1 h2 a1 a2
    exact zeY h1 h2 ((wf h1 a1).symm.trans (wf h2 a2))
  | succ n ih =>
    intro d e v h1 h2 a1 a2
    rcases xW h1 with f1 | ⟨ds, rfl, k1⟩ | ⟨ds, rfl, k1⟩
    · have e1 := wf f1 a1
      rcases xW h2 with f2 | ⟨es, rfl, _⟩ | ⟨es, rfl, _⟩
      · exact zeY f1 f2 (e1.symm.trans (wf f2 a2))
      · obtain ⟨p, xs, e2, _⟩ := a2.tup_inv
        exact (VO f1 (e1.symm.trans e2)).elim
      · obtain ⟨p, xs, e2, _⟩ := a2.lst_inv
        exact (VO f1 (e1.symm.trans e2)).elim
    · obtain ⟨p, xs, e0, hx, al⟩ := a1.tup_inv
      rcases xW h2 with f2 | ⟨es, rfl, k2⟩ | ⟨es, rfl, k2⟩
      · exact (VO f2 ((wf f2 a2).symm.trans e0)).elim
      · obtain ⟨q, ys, e1, hy, bl⟩ := a2.tup_inv
        cases e0.symm.trans e1
        cases hx.symm.trans hy
        rw [zfb ih k1 k2 al bl]
      · obtain ⟨q, ys, e1, hy, bl⟩ := a2.lst_inv
        cases e0.symm.trans e1
        cases hx.symm.trans hy
    · obtain ⟨p, xs, e0, hx, al⟩ := a1.lst_inv
      rcases xW h2 with f2 | ⟨es, rfl, k2⟩ | ⟨es, rfl, k2⟩
      · exact (VO f2 ((wf f2 a2).symm.trans e0)).elim
      · obtain ⟨q, ys, e1, hy, bl⟩ := a2.tup_inv
        cases e0.symm.trans e1
        cases hx.symm.trans hy
      · obtain ⟨q, ys, e1, hy, bl⟩ := a2.lst_inv
        cases e0.symm.trans e1
        cases hx.symm.trans hy
        rw [zfb ih k1 k2 al bl]
omit [KK] in
theorem zfn : ∀ (n : Nat) {d : D}, okE n d = true → eqN n d d = true := by
  intro n
  induction n with
  | zero =>
    intro d h
    cases d with
    | tup _ => cases h
    | lst _ => cases h
    | scr _ => cases h
    | dct _ _ _ _ => cases h
    | _ => first | rfl | exact decide_eq_true rfl | exact beq_self_eq_true _
  | succ n ih =>
    have ihl : ∀ {ds : List D}, ds.all (okE n) = true → (List.zipWith (eqN n) ds ds).all id = true := by
      intro ds
      induction ds with
      | nil => intro _; rfl
      | cons d ds ih2 =>
        intro h
        rw [List.all_cons, Bool.and_eq_true] at h
        rw [List.zipWith_cons_cons, List.all_cons, ih2 h.2, Bool.and_true]
        exact ih h.1
    intro d h
    cases d with
    | tup ds => show ((List.zipWith (eqN n) ds ds).all id && ds.length == ds.length) = true; rw [ihl h]; simp
    | lst ds => show ((List.zipWith (eqN n) ds ds).all id && ds.length == ds.length) = true; rw [ihl h]; simp
    | scr _ => cases h
    | dct _ _ _ _ => cases h
    | _ => first | rfl | exact decide_eq_true rfl | exact beq_self_eq_true _
theorem zgZ {F : Hp} (n : Nat) {d e : D} {v : V} (h1 : okE n d = true) (h2 : okE n e = true) (a1 : At F d v) (a2 : At F e v) : eqN n d e = true := by
  rw [zg1 n h1 h2 a1 a2]
  exact zfn n h2
omit [KK] in
theorem wd {n : Nat} {ds : List D} {j : Nat} (h : ds.all (okE n) = true) (hj : j < ds.length) : okE n (ds.getD j .non) = true := by
  have : ds.getD j .non = ds[j] := by simp [hj]
  rw [this]
  exact List.all_eq_true.mp h _ (List.getElem_mem hj)
theorem AtL.nth {F : Hp} {ds : List D} {xs : List V} {us : List Value} {j : Nat} (al : AtL F ds xs) (r : yx xs us) (h : j < us.length) : ∃ x, At F (ds.getD j .non) x ∧ yN x us[j] := by
  have hl := al.length
  have hl2 := r.length
  have hj : j < ds.length := by omega
  obtain ⟨x, hx, ax⟩ := al.get (i := j) (d := ds[j]) (by simp [hj])
  obtain ⟨u, hu, ru⟩ := r.get hx
  refine ⟨x, by rw [show ds.getD j .non = ds[j] by simp [hj]]; exact ax, ?_⟩
  have : us[j]? = some us[j] := by simp [h]
  rw [hu] at this
  cases this
  exact ru
omit [KK] in
theorem zcs {n : Nat} {d e : D} (h1 : okE 0 d = true) (h2 : okE 0 e = true) : eqN n d e = eqV (vOf d) (vOf e) := by
  cases n <;> cases d <;> first | (cases h1; done) | skip
  all_goals cases e <;> first | (cases h2; done) | rfl
omit [KK] in
theorem zcL {n : Nat} {d : D} (ds : List D) (h : okE 0 d = true) : eqN (n + 1) d (.tup ds) = false ∧ eqN (n + 1) d (.lst ds) = false ∧ eqN (n + 1) (.tup ds) d = false ∧ eqN (n + 1) (.lst ds) d = false := by
  cases d <;> first | exact ⟨rfl, rfl, rfl, rfl⟩ | cases h
omit [KK] in
theorem Vr {A : Around} {s : Shared} {d : D} {u : Value} {p : Addr} {its : Array Value} (h : okE 0 d = true) (r : yN (vOf d) u) (hu : A.units < cLine) :
    (s.heap.IsTuple p its → SeqAt.EqAt A s u (.ref p) false ∧ SeqAt.EqAt A s (.ref p) u false) ∧ (s.heap.IsList p its → SeqAt.EqAt A s u (.ref p) false ∧ SeqAt.EqAt A s (.ref p) u false) := by
  cases d with
  | non => cases r; exact ⟨fun ht => ⟨.none_tuple ht hu, .tuple_none ht hu⟩, fun ht => ⟨.none_list ht hu, .list_none ht hu⟩⟩
  | bl b => cases r; exact ⟨fun ht => ⟨.bool_tuple b ht hu, .tuple_bool b ht hu⟩, fun ht => ⟨.bool_list b ht hu, .list_bool b ht hu⟩⟩
  | int b => obtain ⟨t, rfl⟩ := r; exact ⟨fun ht => ⟨.int_tuple b t ht hu, .tuple_int b t ht hu⟩, fun ht => ⟨.int_list b t ht hu, .list_int b t ht hu⟩⟩
  | str b => obtain ⟨t, rfl⟩ := r; exact ⟨fun ht => ⟨.str_tuple b t ht hu, .tuple_str b t ht hu⟩, fun ht => ⟨.str_list b t ht hu, .list_str b t ht hu⟩⟩
  | _ => cases h
theorem VH {X : Cx} {pins : List (Addr × Obj)} {σ : St} {F H : Hp} {s : Shared} (I : Inv X pins σ H s) (sm : yU F H) {ds : List D} {x : V} {u : Value} (a : At F (.tup ds) x) (r : yN x u) : ∃ p its xs, u = .ref p ∧ x = .ref p ∧ yx xs its ∧ AtL F ds xs ∧ s.heap.IsTuple p its.toArray := by
  obtain ⟨p, xs, rfl, hx, al⟩ := a.tup_inv
  cases r
  obtain ⟨its, rv, ht, hz⟩ := I.tuple (SqT.of (sm _ _ hx))
  exact ⟨p, its, xs, rfl, rfl, rv, al, ht⟩
theorem Vz {X : Cx} {pins : List (Addr × Obj)} {σ : St} {F H : Hp} {s : Shared} (I : Inv X pins σ H s) (sm : yU F H) {ds : List D} {x : V} {u : Value} (a : At F (.lst ds) x) (r : yN x u) : ∃ p its xs, u = .ref p ∧ x = .ref p ∧ yx xs its ∧ AtL F ds xs ∧ s.heap.IsList p its.toArray := by
  obtain ⟨p, xs, rfl, hx, al⟩ := a.lst_inv
  cases r
  obtain ⟨its, rv, ht, hz⟩ := I.list (SqL.of (sm _ _ hx))
  exact ⟨p, its, xs, rfl, rfl, rv, al, ht.isList⟩
omit [KK] in
theorem zeJ {n : Nat} (ds es : List D) : ((List.zipWith (eqN n) ds es).all id && ds.length == es.length) = ((List.range (min ds.length es.length)).all (fun j => eqN n (ds.getD j .non) (es.getD j .non)) && ds.length == es.length) := by rw [VM]
theorem zaI {X : Cx} {pins : List (Addr × Obj)} {σ : St} {F H : Hp} {s : Shared} (I : Inv X pins σ H s) (sm : yU F H) : ∀ (n : Nat) {A : Around} {d e : D} {x y : V} {u v : Value}, okE n d = true → okE n e = true → At F d x → At F e y → yN x u → yN y v → A.units + n < cLine → SeqAt.EqAt A s u v (eqN n d e) := by
  intro n
  induction n with
  | zero =>
    intro A d e x y u v h1 h2 a1 a2 r1 r2 hu
    cases wf h1 a1
    cases wf h2 a2
    rw [zcs h1 h2]
    exact zg9 r1 r2 (XX h1) (XX h2)
  | succ n ih =>
    intro A d e x y u v h1 h2 a1 a2 r1 r2 hu
    have hu0 : A.units < cLine := Nat.lt_of_le_of_lt (Nat.le_add_right _ _) hu
    have hu1 : A.units + 1 + n < cLine := by rw [Nat.add_assoc, Nat.add_comm 1 n]; exact hu
    rcases xW h1 with f1 | ⟨ds, rfl, k1⟩ | ⟨ds, rfl, k1⟩
    · cases wf f1 a1
      rcases xW h2 with f2 | ⟨es, rfl, k2⟩ | ⟨es, rfl, k2⟩
      · cases wf f2 a2
        rw [zcs f1 f2]
        exact zg9 r1 r2 (XX f1) (XX f2)
      · obtain ⟨q, its2, ys, rfl, _, _, _, ht2⟩ := VH I sm a2 r2
        rw [(zcL es f1).1]
        exact ((Vr f1 r1 hu0).1 ht2).1
      · obtain ⟨q, its2, ys, rfl, _, _, _, ht2⟩ := Vz I sm a2 r2
        rw [(zcL es f1).2.1]
        exact ((Vr f1 r1 hu0).2 ht2).1
    · obtain ⟨p, its, xs, rfl, hxp, rv, al, ht⟩ := VH I sm a1 r1
      rcases xW h2 with f2 | ⟨es, rfl, k2⟩ | ⟨es, rfl, k2⟩
      · cases wf f2 a2
        rw [(zcL ds f2).2.2.1]
        exact ((Vr f2 r2 hu0).1 ht).2
      · obtain ⟨q, its2, ys, rfl, hyq, rv2, bl, ht2⟩ := VH I sm a2 r2
        by_cases hpq : p = q
        · subst hpq
          rw [hxp] at a1
          rw [hyq] at a2
          rw [zgZ (n + 1) h1 h2 a1 a2]
          exact .same _
        · have hl1 : its.toArray.size = ds.length := by rw [List.size_toArray, ← rv.length, al.length]
          have hl2 : its2.toArray.size = es.length := by rw [List.size_toArray, ← rv2.length, bl.length]
          have := SeqAt.RcAt.tuples (A := A) (e := fun j => eqN n (ds.getD j .non) (es.getD j .non)) ht ht2 hu0 fun j g1 g2 => by
            obtain ⟨x', ax, rx⟩ := al.nth rv (j := j) g1
            obtain ⟨y', ay, ry⟩ := bl.nth rv2 (j := j) g2
            exact ih (wd k1 (hl1 ▸ g1)) (wd k2 (hl2 ▸ g2)) ax ay rx ry hu1
          rw [hl1, hl2] at this
          rw [show eqN (n + 1) (.tup ds) (.tup es) = _ from zeJ ds es]
          exact SeqAt.EqAt.of_refs hpq this
      · obtain ⟨q, its2, ys, rfl, _, _, _, ht2⟩ := Vz I sm a2 r2
        exact .tuple_list ht ht2 hu0
    · obtain ⟨p, its, xs, rfl, hxp, rv, al, ht⟩ := Vz I sm a1 r1
      rcases xW h2 with f2 | ⟨es, rfl, k2⟩ | ⟨es, rfl, k2⟩
      · cases wf f2 a2
        rw [(zcL ds f2).2.2.2]
        exact ((Vr f2 r2 hu0).2 ht).2
      · obtain ⟨q, its2, ys, rfl, _, _, _, ht2⟩ := VH I sm a2 r2
        exact .list_tuple ht ht2 hu0
      · obtain ⟨q, its2, ys, rfl, hyq, rv2, bl, ht2⟩ := Vz I sm a2 r2
        by_cases hpq : p = q
        · subst hpq
          rw [hxp] at a1
          rw [hyq] at a2
          rw [zgZ (n + 1) h1 h2 a1 a2]
          exact .same _
        · have hl1 : its.toArray.size = ds.length := by rw [List.size_toArray, ← rv.length, al.length]
          have hl2 : its2.toArray.size = es.length := by rw [List.size_toArray, ← rv2.length, bl.length]
          rw [show eqN (n + 1) (.lst ds) (.lst es) = _ from zeJ ds es]
          by_cases hle : ds.length = es.length
          · have := SeqAt.RcAt.lists (A := A) (e := fun j => eqN n (ds.getD j .non) (es.getD j .non)) ht ht2 (by rw [hl1, hl2, hle]) hu0 fun j g1 g2 => by
              obtain ⟨x', ax, rx⟩ := al.nth rv (j := j) g1
              obtain ⟨y', ay, ry⟩ := bl.nth rv2 (j := j) g2
              exact ih (wd k1 (hl1 ▸ g1)) (wd k2 (hl2 ▸ g2)) ax ay rx ry hu1
            rw [hl1] at this
            rw [← hle, Nat.min_self, beq_self_eq_true, Bool.and_true]
            exact SeqAt.EqAt.of_refs hpq this
          · have := SeqAt.RcAt.lists_lengths (A := A) ht ht2 (by rw [hl1, hl2]; exact bne_iff_ne.mpr hle) hu0
            rw [beq_eq_false_iff_ne.mpr hle, Bool.and_false]
            exact SeqAt.EqAt.of_refs hpq this
noncomputable def zfw (d : D) (es : List D) : Option Bool := if okE 20 d = true ∧ es.all (okE 20) = true then some (es.any fun e => eqN 20 e d) else none
noncomputable def inD (d e : D) : Option D := (yR e).bind fun es => (zfw d es).map .bl
noncomputable def zdW (d e : D) : Option D := (yR e).bind fun es => (zfw d es).map fun b => .bl (!b)
open Classical in
noncomputable def zaL (F : Hp) (d : D) (u : Value) : Bool := decide (∃ d0 x, At F d0 x ∧ yN x u ∧ okE 20 d0 = true ∧ eqN 20 d0 d = true)
open Classical in
theorem zb8 {F : Hp} {d d0 : D} {x : V} {u : Value} (a : At F d0 x) (r : yN x u) (k : okE 20 d0 = true) : zaL F d u = eqN 20 d0 d := by
  unfold zaL
  cases h : eqN 20 d0 d with
  | true => exact decide_eq_true ⟨d0, x, a, r, k, h⟩
  | false =>
    refine decide_eq_false ?_
    rintro ⟨d1, y, a1, r1, k1, h1⟩
    have e := r1.inj r
    subst e
    rw [zg1 20 k1 k a1 a] at h1
    rw [h1] at h
    cases h
theorem ZC {F : Hp} {d : D} : ∀ {ds : List D} {xs : List V} {us : List Value}, AtL F ds xs → yx xs us → ds.all (okE 20) = true → us.any (zaL F d) = ds.any fun e => eqN 20 e d
  | [], _, _, al, r, _ => by cases al.nil_inv; cases r; rfl
  | e :: ds, _, _, al, r, k => by
    obtain ⟨x, xs, rfl, a1, a2⟩ := al.cons_inv
    cases r with
    | cons r1 r2 =>
      rw [List.all_cons, Bool.and_eq_true] at k
      rw [List.any_cons, List.any_cons, zb8 a1 r1 k.1, ZC a2 r2 k.2]
section
variable {X : Cx}
noncomputable def zkQ (neg : Bool) : R2 := fun x y H Q => ∃ F d e es b, yU F H ∧ At F d x ∧ At F e y ∧ yR e = some es ∧ zfw d es = some b ∧ Q (.bl (if neg then !b else b)) H
theorem zhq {k : Nat} (hr : Y1 k X.A) : OpR X (compareOp .In) (zkQ false) := by
  intro pins s σ H x y v u Q I rx ry h
  obtain ⟨F, d, e, es, b, sm, a1, a2, hs, hb, q⟩ := h
  unfold zfw at hb
  split at hb <;> cases hb
  rename_i hk
  have hu : X.A.in1.units + 20 < cLine := by have := hr.un; show X.A.units + 1 + 20 < cLine; omega
  have mem : ∀ {xs : List V} {us : List Value}, AtL F es xs → yx xs us → ∀ z ∈ us, SeqAt.EqAt X.A.in1 s z v (zaL F d z) := fun {xs us} al r z hz => by
    obtain ⟨j, hj, rfl⟩ := List.getElem_of_mem hz
    obtain ⟨x', ax, rx'⟩ := al.nth r hj
    have hj' : j < es.length := by have := al.length; have := r.length; omega
    have k2 := wd hk.2 hj'
    rw [zb8 ax rx' k2]
    exact zaI I sm 20 k2 hk.1 ax a1 rx' rx hu
  cases e <;> cases hs
  · obtain ⟨p, xs, rfl, hx, al⟩ := a2.tup_inv
    cases ry
    obtain ⟨its, r, pl, hz⟩ := I.tuple (SqT.of (sm _ _ hx))
    refine SeqAt.in_tupleAt (zaL F d) pl (fun z hz => mem al r z (by simpa using hz)) ⟨.bl _, H, I, rfl, ?_⟩
    rw [show its.toArray.any (zaL F d) = its.any (zaL F d) by simp, ZC al r hk.2]
    exact q
  · obtain ⟨p, xs, rfl, hx, al⟩ := a2.lst_inv
    cases ry
    obtain ⟨its, r, pl, hz⟩ := I.list (SqL.of (sm _ _ hx))
    refine SeqAt.in_listAt (zaL F d) pl.isList (fun z hz => mem al r z (by simpa using hz)) ⟨.bl _, H, I, rfl, ?_⟩
    rw [show its.toArray.any (zaL F d) = its.any (zaL F d) by simp, ZC al r hk.2]
    exact q
theorem zeb {k : Nat} (hr : Y1 k X.A) : OpR X (compareOp .NotIn) (zkQ true) := by
  intro pins s σ H x y v u Q I rx ry h
  obtain ⟨F, d, e, es, b, sm, a1, a2, hs, hb, q⟩ := h
  unfold zfw at hb
  split at hb <;> cases hb
  rename_i hk
  have hu : X.A.in1.units + 20 < cLine := by have := hr.un; show X.A.units + 1 + 20 < cLine; omega
  have mem : ∀ {xs : List V} {us : List Value}, AtL F es xs → yx xs us → ∀ z ∈ us, SeqAt.EqAt X.A.in1 s z v (zaL F d z) := fun {xs us} al r z hz => by
    obtain ⟨j, hj, rfl⟩ := List.getElem_of_mem hz
    obtain ⟨x', ax, rx'⟩ := al.nth r hj
    have hj' : j < es.length := by have := al.length; have := r.length; omega
    have k2 := wd hk.2 hj'
    rw [zb8 ax rx' k2]
    exact zaI I sm 20 k2 hk.1 ax a1 rx' rx hu
  cases e <;> cases hs
  · obtain ⟨p, xs, rfl, hx, al⟩ := a2.tup_inv
    cases ry
    obtain ⟨its, r, pl, hz⟩ := I.tuple (SqT.of (sm _ _ hx))
    refine SeqAt.notIn_tupleAt (zaL F d) pl (fun z hz => mem al r z (by simpa using hz)) ⟨.bl _, H, I, rfl, ?_⟩
    rw [show its.toArray.any (zaL F d) = its.any (zaL F d) by simp, ZC al r hk.2]
    exact q
  · obtain ⟨p, xs, rfl, hx, al⟩ := a2.lst_inv
    cases ry
    obtain ⟨its, r, pl, hz⟩ := I.list (SqL.of (sm _ _ hx))
    refine SeqAt.notIn_listAt (zaL F d) pl.isList (fun z hz => mem al r z (by simpa using hz)) ⟨.bl _, H, I, rfl, ?_⟩
    rw [show its.toArray.any (zaL F d) = its.any (zaL F d) by simp, ZC al r hk.2]
    exact q
theorem zhk : OpD (zkQ false) inD := by
  intro F H x y d e z Q s ax ay ez q
  obtain ⟨es, e1, e2⟩ := Option.bind_eq_some_iff.mp ez
  obtain ⟨b, e3, rfl⟩ := Option.map_eq_some_iff.mp e2
  exact ⟨F, d, e, es, b, s, ax, ay, e1, e3, q F H _ (.refl s) .bl⟩
theorem zdD : OpD (zkQ true) zdW := by
  intro F H x y d e z Q s ax ay ez q
  obtain ⟨es, e1, e2⟩ := Option.bind_eq_some_iff.mp ez
  obtain ⟨b, e3, rfl⟩ := Option.map_eq_some_iff.mp e2
  exact ⟨F, d, e, es, b, s, ax, ay, e1, e3, q F H _ (.refl s) .bl⟩
noncomputable def eqG (d e : D) : Option Bool := match d, e with
  | .tup _, .tup _ => if okE 20 d = true ∧ okE 20 e = true then some (eqN 20 d e) else none
  | .lst _, .lst _ => if okE 20 d = true ∧ okE 20 e = true then some (eqN 20 d e) else none
  | _, _ => eqS d e
noncomputable def ZQ (d e : D) : Option D := (eqG d e).map .bl
noncomputable def zkF : R2 := fun x y H Q => ∃ F d e, yU F H ∧ At F d x ∧ At F e y ∧ ((∃ ds es, d = .tup ds ∧ e = .tup es) ∨ (∃ ds es, d = .lst ds ∧ e = .lst es)) ∧ okE 20 d = true ∧ okE 20 e = true ∧ Q (.bl (eqN 20 d e)) H
theorem zji {k : Nat} (hr : Y1 k X.A) : OpR X (compareOp .Eq) zkF := by
  intro pins s σ H x y v u Q I rx ry h
  obtain ⟨F, d, e, sm, a1, a2, hk, k1, k2, q⟩ := h
  have hu : X.A.units + 30 < cLine := by have := hr.un; omega
  rcases hk with ⟨ds, es, rfl, rfl⟩ | ⟨ds, es, rfl, rfl⟩
  · obtain ⟨p, xs, rfl, hx, al⟩ := a1.tup_inv
    obtain ⟨p2, ys, rfl, hy, bl⟩ := a2.tup_inv
    cases rx
    cases ry
    obtain ⟨its, r, ht, hz⟩ := I.tuple (SqT.of (sm _ _ hx))
    obtain ⟨its2, r2, ht2, hz2⟩ := I.tuple (SqT.of (sm _ _ hy))
    have hl1 : its.toArray.size = ds.length := by rw [List.size_toArray, ← r.length, al.length]
    have hl2 : its2.toArray.size = es.length := by rw [List.size_toArray, ← r2.length, bl.length]
    refine SeqAt.eq_tupleAt (e := fun j => eqN 19 (ds.getD j .non) (es.getD j .non)) (show s.heap.IsTuple p its.toArray from ht) (show s.heap.IsTuple p2 its2.toArray from ht2) (by omega) (fun j g1 g2 => ?_) ⟨.bl _, H, I, rfl, ?_⟩
    · obtain ⟨x', ax, rx⟩ := al.nth r (j := j) (by simpa using g1)
      obtain ⟨y', ay, ry⟩ := bl.nth r2 (j := j) (by simpa using g2)
      exact zaI I sm 19 (wd k1 (by rw [← hl1]; exact g1)) (wd k2 (by rw [← hl2]; exact g2)) ax ay (by simpa using rx) (by simpa using ry) (Nat.lt_of_le_of_lt (show X.A.units + 20 ≤ X.A.units + 30 from Nat.add_le_add_left (by decide) _) hu)
    · rw [hl1, hl2, ← VM]
      exact q
  · obtain ⟨p, xs, rfl, hx, al⟩ := a1.lst_inv
    obtain ⟨p2, ys, rfl, hy, bl⟩ := a2.lst_inv
    cases rx
    cases ry
    obtain ⟨its, r, ht, hz⟩ := I.list (SqL.of (sm _ _ hx))
    obtain ⟨its2, r2, ht2, hz2⟩ := I.list (SqL.of (sm _ _ hy))
    have hl1 : its.toArray.size = ds.length := by rw [List.size_toArray, ← r.length, al.length]
    have hl2 : its2.toArray.size = es.length := by rw [List.size_toArray, ← r2.length, bl.length]
    have e1 : eqN 20 (.lst ds) (.lst es) = ((List.range (min ds.length es.length)).all (fun j => eqN 19 (ds.getD j .non) (es.getD j .non)) && ds.length == es.length) := by
      show ((List.zipWith (eqN 19) ds es).all id && ds.length == es.length) = _
      rw [VM]
    by_cases hle : ds.length = es.length
    · refine SeqAt.eq_listAt (e := fun j => eqN 19 (ds.getD j .non) (es.getD j .non)) ht.isList ht2.isList (by rw [hl1, hl2]; exact hle) (Nat.lt_of_le_of_lt (Nat.le_add_right _ 30) hu) (fun j g1 g2 => ?_) ⟨.bl _, H, I, rfl, ?_⟩
      · obtain ⟨x', ax, rx⟩ := al.nth r (j := j) (by simpa using g1)
        obtain ⟨y', ay, ry⟩ := bl.nth r2 (j := j) (by simpa using g2)
        exact zaI I sm 19 (wd k1 (by rw [← hl1]; exact g1)) (wd k2 (by rw [← hl2]; exact g2)) ax ay (by simpa using rx) (by simpa using ry) (Nat.lt_of_le_of_lt (show X.A.units + 20 ≤ X.A.units + 30 from Nat.add_le_add_left (by decide) _) hu)
      · rw [hl1]
        rw [e1, ← hle, Nat.min_self] at q
        simpa using q
    · refine SeqAt.eq_list_lengthsAt ht.isList ht2.isList (by rw [hl1, hl2]; simpa using hle) (Nat.lt_of_le_of_lt (Nat.le_add_right _ 30) hu) ⟨.bl _, H, I, rfl, ?_⟩
      have : (ds.length == es.length) = false := by simpa using hle
      rw [e1, this, Bool.and_false] at q
      exact q
theorem zhX : OpD zkF (fun d e => match d, e with
  | .tup _, .tup _ => if okE 20 d = true ∧ okE 20 e = true then some (.bl (eqN 20 d e)) else none
  | .lst _, .lst _ => if okE 20 d = true ∧ okE 20 e = true then some (.bl (eqN 20 d e)) else none
  | _, _ => none) := by
  intro F H x y d e z Q s ax ay ez q
  dsimp only at ez
  split at ez
  · split at ez <;> cases ez
    rename_i hk
    exact ⟨F, _, _, s, ax, ay, .inl ⟨_, _, rfl, rfl⟩, hk.1, hk.2, q F H _ (.refl s) .bl⟩
  · split at ez <;> cases ez
    rename_i hk
    exact ⟨F, _, _, s, ax, ay, .inr ⟨_, _, rfl, rfl⟩, hk.1, hk.2, q F H _ (.refl s) .bl⟩
  · cases ez
theorem yT {k : Nat} (hr : Y1 k X.A) : OpR X (compareOp .Eq) (fun x y H Q => rEq x y H Q ∨ zkF x y H Q) := zlO.or (zji hr)
theorem yj : OpD (fun x y H Q => rEq x y H Q ∨ zkF x y H Q) ZQ := by
  refine zb2 (za9 zhl zhX) fun d e z h => ?_
  obtain ⟨b, hb, rfl⟩ := Option.map_eq_some_iff.mp h
  unfold eqG at hb
  split at hb
  · split at hb <;> cases hb
    rename_i hk
    show (Option.or none (if okE 20 _ = true ∧ okE 20 _ = true then some (D.bl (eqN 20 _ _)) else none)) = _
    rw [if_pos hk]
    rfl
  · split at hb <;> cases hb
    rename_i hk
    show (Option.or none (if okE 20 _ = true ∧ okE 20 _ = true then some (D.bl (eqN 20 _ _)) else none)) = _
    rw [if_pos hk]
    rfl
  · show ((eqD d e).or _) = _
    unfold eqD
    rw [hb]
    rfl
theorem X4 {pins : List (Addr × Obj)} {σ : St} {H : Hp} {s : Shared} {a : Addr} {xs : List V} {A : Around} {Q : Value → Shared → Prop} {E : Value → Shared → Prop} (I : Inv X pins σ H s) (hh : A.handled = none) (h : SqL X.K H a xs ∨ SqT X.K H a xs)
    (k : ∀ (it : Addr) (its : List Value) (fp wr : List Addr) (St : Nat → Heap → Prop) (s₂ : Shared), yx xs its → Walks X.prog X.w A it fp wr its.length (fun i v => its[i]? = some v) St → St 0 s₂.heap → (∀ b ∈ fp, b < s₂.heap.objs.size) →
      (∀ (h' : Heap) (tk : Nat), (∀ b o, b ∉ wr → s₂.heap.get? b = some o → h'.get? b = some o) → Inv X pins σ H { s₂ with heap := h', toks := tk }) → Q (.ref it) s₂) :
    wpAny (model X.prog X.w) A (pyIter (.ref a)) Q E s := by
  have back : ∀ {o : Obj} {s₂ : Shared}, s₂ = { s with heap := s.heap.push o } → ∀ (h' : Heap) (tk : Nat), (∀ b u, b ∉ [s.heap.objs.size] → s₂.heap.get? b = some u → h'.get? b = some u) → Inv X pins σ H { s₂ with heap := h', toks := tk } := fun {o s₂} e h' tk kk => by
    subst e
    exact I.kept (t' := tk) fun b u z => kk b u (by simpa using Nat.ne_of_lt (Heap.lt_size z)) (Heap.get?_push_of_some _ z)
  rcases h with h | h
  · obtain ⟨its, rv, p, hz⟩ := I.list h
    have lt : a < s.heap.objs.size := by obtain ⟨o, n, ho, _⟩ := p; exact Heap.lt_size ho
    refine wpAny_pyIter_list p.isList ?_
    have W := Walks.list (prog := X.prog) (w := X.w) (A := A) hh s.heap.objs.size a (Nat.ne_of_lt lt) its.toArray
    refine k s.heap.objs.size its [s.heap.objs.size, a] [s.heap.objs.size] (fun i h => h.IsListIter s.heap.objs.size a i ∧ h.IsList a its.toArray) _ rv (by simpa using W) ⟨⟨_, Heap.get?_push_size _ rfl, rfl, rfl⟩, p.isList.at fun o e => Heap.get?_push_of_some _ e⟩ (fun b hb => ?_) (back rfl)
    show b < (s.heap.push _).objs.size
    rw [Heap.size_push]
    rcases List.mem_cons.mp hb with rfl | hb
    · exact Nat.lt_succ_self _
    · rw [List.mem_singleton.mp hb]; exact Nat.lt_succ_of_lt lt
  · obtain ⟨its, rv, p, hz⟩ := I.tuple h
    have p' : s.heap.IsTuple a its.toArray := p
    have lt : a < s.heap.objs.size := by obtain ⟨o, ho, _⟩ := p; exact Heap.lt_size ho
    refine wpAny_pyIter_tuple p' ?_
    have W := Walks.tuple (prog := X.prog) (w := X.w) (A := A) hh s.heap.objs.size a (Nat.ne_of_lt lt) its.toArray
    refine k s.heap.objs.size its [s.heap.objs.size, a] [s.heap.objs.size] (fun i h => h.IsTupleIter s.heap.objs.size a i ∧ h.IsTuple a its.toArray) _ rv (by simpa using W) ⟨⟨_, Heap.get?_push_size _ rfl, rfl, rfl⟩, p'.at fun o e => Heap.get?_push_of_some _ e⟩ (fun b hb => ?_) (back rfl)
    show b < (s.heap.push _).objs.size
    rw [Heap.size_push]
    rcases List.mem_cons.mp hb with rfl | hb
    · exact Nat.lt_succ_self _
    · rw [List.mem_singleton.mp hb]; exact Nat.lt_succ_of_lt lt
end
end Dl
namespace Dl
open PySem L2
variable [KK]
omit [KK] in
theorem zeQ {bs : List Bool} : (List.range bs.length).all (fun i => bs.getD i false) = bs.all id := by
  have : bs = (List.range bs.length).map fun i => bs.getD i false := by
    apply List.ext_getElem
    · simp
    · intro i h1 h2
      simp [h1]
  conv => rhs; rw [this]
  rw [List.all_map]
  rfl
omit [KK] in
theorem zeM : ∀ (ns : List Int) (n : Nat), n ≤ ns.length → preSum (fun i => ns.getD i 0) n = (ns.take n).sum := by
  intro ns n
  induction n with
  | zero => intro _; simp [preSum]
  | succ n ih =>
    intro h
    show preSum (fun i => ns.getD i 0) n + ns.getD n 0 = _
    rw [ih (by omega), List.take_succ, List.sum_append]
    have : ns[n]? = some ns[n] := by simp [show n < ns.length by omega]
    simp [this]
section
variable {X : Cx}
omit [KK] in
theorem zis {bs : List Bool} {its : List Value} {i : Nat} {v : Value} (r : yx (bs.map V.bl) its) (h : its[i]? = some v) : v = .bool (bs.getD i false) := by
  have hl := r.length
  have hi : i < its.length := (List.getElem?_eq_some_iff.mp h).1
  rw [List.length_map] at hl
  obtain ⟨u, hu, ru⟩ := r.get (i := i) (x := .bl (bs[i]'(by omega))) (by rw [List.getElem?_map]; simp [show i < bs.length by omega])
  rw [h] at hu
  cases hu
  cases ru
  simp [show i < bs.length by omega]
omit [KK] in
theorem v8 {ns : List Int} {its : List Value} {i : Nat} {v : Value} (r : yx (ns.map V.int) its) (h : its[i]? = some v) : ∃ t, v = .int (ns.getD i 0) t := by
  have hl := r.length
  have hi : i < its.length := (List.getElem?_eq_some_iff.mp h).1
  rw [List.length_map] at hl
  obtain ⟨u, hu, ru⟩ := r.get (i := i) (x := .int (ns[i]'(by omega))) (by rw [List.getElem?_map]; simp [show i < ns.length by omega])
  rw [h] at hu
  cases hu
  obtain ⟨t, rfl⟩ := ru
  exact ⟨t, by simp [show i < ns.length by omega]⟩
theorem zap (hc : X.calm = true) : YD X (.builtin "all") (fun xs H Q => ∃ (p : Addr) (bs : List Bool), xs = [.ref p] ∧ (SqL X.K H p (bs.map V.bl) ∨ SqT X.K H p (bs.map V.bl)) ∧ Q (.bl (bs.all id)) H) := by
  intro pins s σ H xs us Q I r h
  obtain ⟨p, bs, rfl, hq, q⟩ := h
  obtain ⟨u, rfl, ru⟩ := WG r
  cases ru
  refine call_all_walk (X4 I (I.ok.hd hc) hq fun it its fp wr St s₂ rv W st fpl back => ?_)
  have hl := rv.length
  rw [List.length_map] at hl
  refine ⟨it, fp, wr, _, _, St, fun i => bs.getD i false, rfl, W, st, fun i v s Q E hv hQ => ?_, fun h' tk kk => ⟨.bl _, H, back h' tk kk, rfl, ?_⟩⟩
  · rw [zis rv hv]
    exact wpAny_truthy_bool hQ
  · rw [← hl, zeQ]
    exact q
theorem vJ (hc : X.calm = true) : YD X (.builtin "sum") (fun xs H Q => ∃ (p : Addr) (ns : List Int), xs = [.ref p] ∧ (SqL X.K H p (ns.map V.int) ∨ SqT X.K H p (ns.map V.int)) ∧ Q (.int ns.sum) H) := by
  intro pins s σ H xs us Q I r h
  obtain ⟨p, ns, rfl, hq, q⟩ := h
  obtain ⟨u, rfl, ru⟩ := WG r
  cases ru
  refine call_sum_walkG (X4 I (I.ok.hd hc) hq fun it its fp wr St s₂ rv W st fpl back => ?_)
  have hl := rv.length
  rw [List.length_map] at hl
  refine ⟨it, fp, wr, _, _, St, fun i => ns.getD i 0, rfl, W, st, fpl, fun i v hv => v8 rv hv, fun h' tk t' kk => ⟨.int ns.sum, H, back h' tk kk, ?_, q⟩⟩
  refine ⟨t', ?_⟩
  rw [← hl, zeM ns _ (Nat.le_refl _), List.take_length]
noncomputable def zhW (ns : List Int) : Int := (ns.max?).getD 0
noncomputable def zin (ns : List Int) : Int := (ns.min?).getD 0
omit [KK] in
theorem ze8 (f : Nat → Int) : ∀ k i, i ≤ k → f i ≤ f (argBest (fun i j => decide (f j < f i)) k) ∧ argBest (fun i j => decide (f j < f i)) k ≤ k := by
  intro k
  induction k with
  | zero => intro i hi; have : i = 0 := by omega
            subst this; exact ⟨Int.le_refl _, Nat.le_refl _⟩
  | succ k ih =>
    intro i hi
    unfold argBest
    obtain ⟨h1, h2⟩ := ih (min i k) (Nat.min_le_right _ _)
    split
    · rename_i hc
      have hc : f (argBest (fun i j => decide (f j < f i)) k) < f (k + 1) := of_decide_eq_true hc
      refine ⟨?_, Nat.le_refl _⟩
      by_cases hik : i ≤ k
      · rw [Nat.min_eq_left hik] at h1; omega
      · have : i = k + 1 := by omega
        subst this; exact Int.le_refl _
    · rename_i hc
      have hc : ¬ f (argBest (fun i j => decide (f j < f i)) k) < f (k + 1) := fun z => hc (decide_eq_true z)
      refine ⟨?_, by omega⟩
      by_cases hik : i ≤ k
      · rw [Nat.min_eq_left hik] at h1; exact h1
      · have : i = k + 1 := by omega
        subst this; omega
omit [KK] in
theorem zkf {ns : List Int} {m : Int} (h1 : m ∈ ns) (h2 : ∀ x ∈ ns, x ≤ m) : zhW ns = m := by
  unfold zhW
  rw [List.max?_eq_some_iff.mpr ⟨h1, h2⟩]
  rfl
omit [KK] in
theorem zjO {ns : List Int} {m : Int} (h1 : m ∈ ns) (h2 : ∀ x ∈ ns, m ≤ x) : zin ns = m := by
  unfold zin
  rw [List.min?_eq_some_iff.mpr ⟨h1, h2⟩]
  rfl
omit [KK] in
theorem getD_mem {ns : List Int} {k : Nat} (h : k < ns.length) : ns.getD k 0 ∈ ns := by
  rw [List.getD_eq_getElem?_getD, List.getElem?_eq_getElem h]
  exact List.getElem_mem h
omit [KK] in
theorem getD_at {ns : List Int} {k : Nat} (h : k < ns.length) : ns.getD k 0 = ns[k] := by
  rw [List.getD_eq_getElem?_getD, List.getElem?_eq_getElem h]
  rfl
theorem zev (hc : X.calm = true) : YD X (.builtin "max") (fun xs H Q => ∃ (p : Addr) (ns : List Int), xs = [.ref p] ∧ (SqL X.K H p (ns.map V.int) ∨ SqT X.K H p (ns.map V.int)) ∧ ns ≠ [] ∧ Q (.int (zhW ns)) H) := by
  intro pins s σ H xs us Q I r h
  obtain ⟨p, ns, rfl, hq, hne, q⟩ := h
  obtain ⟨u, rfl, ru⟩ := WG r
  cases ru
  refine call_max_walk (X4 I (I.ok.hd hc) hq fun it its fp wr St s₂ rv W st fpl back => ?_)
  have hl := rv.length
  rw [List.length_map] at hl
  have hpos : 0 < ns.length := List.length_pos_iff.mpr hne
  refine ⟨it, fp, wr, _, _, St, fun i j => decide (ns.getD j 0 < ns.getD i 0), rfl, W, st, fpl, by omega, fun i j vi vj s Q E hi hj hQ => ?_, fun v h' tk hv kk => ?_⟩
  · obtain ⟨t1, rfl⟩ := v8 rv hi
    obtain ⟨t2, rfl⟩ := v8 rv hj
    exact PyProof.Rows.gt_int hQ
  · obtain ⟨t, rfl⟩ := v8 rv hv
    refine ⟨.int (zhW ns), H, back h' tk kk, ⟨t, ?_⟩, q⟩
    have key := ze8 (fun i => ns.getD i 0) (its.length - 1)
    have hb : argBest (fun i j => decide (ns.getD j 0 < ns.getD i 0)) (its.length - 1) < ns.length := by
      have := (key 0 (Nat.zero_le _)).2
      omega
    rw [zkf (m := ns.getD (argBest (fun i j => decide (ns.getD j 0 < ns.getD i 0)) (its.length - 1)) 0)]
    · exact getD_mem hb
    · intro x hx
      obtain ⟨j, hj, rfl⟩ := List.getElem_of_mem hx
      have := (key j (by omega)).1
      rw [← getD_at hj]
      exact this
theorem zdB (hc : X.calm = true) : YD X (.builtin "min") (fun xs H Q => ∃ (p : Addr) (ns : List Int), xs = [.ref p] ∧ (SqL X.K H p (ns.map V.int) ∨ SqT X.K H p (ns.map V.int)) ∧ ns ≠ [] ∧ Q (.int (zin ns)) H) := by
  intro pins s σ H xs us Q I r h
  obtain ⟨p, ns, rfl, hq, hne, q⟩ := h
  obtain ⟨u, rfl, ru⟩ := WG r
  cases ru
  refine call_min_walk (X4 I (I.ok.hd hc) hq fun it its fp wr St s₂ rv W st fpl back => ?_)
  have hl := rv.length
  rw [List.length_map] at hl
  have hpos : 0 < ns.length := List.length_pos_iff.mpr hne
  refine ⟨it, fp, wr, _, _, St, fun i j => decide (ns.getD i 0 < ns.getD j 0), rfl, W, st, fpl, by omega, fun i j vi vj s Q E hi hj hQ => ?_, fun v h' tk hv kk => ?_⟩
  · obtain ⟨t1, rfl⟩ := v8 rv hi
    obtain ⟨t2, rfl⟩ := v8 rv hj
    exact PyProof.Rows.lt_int hQ
  · obtain ⟨t, rfl⟩ := v8 rv hv
    refine ⟨.int (zin ns), H, back h' tk kk, ⟨t, ?_⟩, q⟩
    have key := ze8 (fun i => - ns.getD i 0) (its.length - 1)
    have e0 : (fun i j => decide (ns.getD i 0 < ns.getD j 0)) = fun i j => decide (-ns.getD j 0 < -ns.getD i 0) := by
      funext i j
      congr 1
      apply propext
      constructor <;> intro h <;> omega
    rw [e0]
    have hb : argBest (fun i j => decide (-ns.getD j 0 < -ns.getD i 0)) (its.length - 1) < ns.length := by
      have := (key 0 (Nat.zero_le _)).2
      omega
    rw [zjO (m := ns.getD (argBest (fun i j => decide (-ns.getD j 0 < -ns.getD i 0)) (its.length - 1)) 0)]
    · exact getD_mem hb
    · intro x hx
      obtain ⟨j, hj, rfl⟩ := List.getElem_of_mem hx
      have := (key j (by omega)).1
      rw [← getD_at hj]
      omega
noncomputable def ziG : List D → Option (List Bool)
  | [] => some []
  | .bl b :: ds => (ziG ds).map (b :: ·)
  | _ => none
noncomputable def zb9 : List D → Option (List Int)
  | [] => some []
  | .int b :: ds => (zb9 ds).map (b :: ·)
  | _ => none
omit [KK] in
theorem ze3 : ∀ {ds : List D} {bs : List Bool}, ziG ds = some bs → ds = bs.map .bl
  | [], bs, h => by cases h; rfl
  | d :: ds, bs, h => by
    cases d <;> try cases h
    obtain ⟨cs, h1, rfl⟩ := Option.map_eq_some_iff.mp h
    rw [ze3 h1]
    rfl
omit [KK] in
theorem Wt : ∀ {ds : List D} {bs : List Int}, zb9 ds = some bs → ds = bs.map .int
  | [], bs, h => by cases h; rfl
  | d :: ds, bs, h => by
    cases d <;> try cases h
    obtain ⟨cs, h1, rfl⟩ := Option.map_eq_some_iff.mp h
    rw [Wt h1]
    rfl
omit [KK] in
theorem zfv (bs : List Bool) : ziG (bs.map .bl) = some bs := by
  induction bs with
  | nil => rfl
  | cons b r ih => show (ziG (r.map .bl)).map (b :: ·) = _; rw [ih]; rfl
omit [KK] in
theorem ZR (bs : List Int) : zb9 (bs.map .int) = some bs := by
  induction bs with
  | nil => rfl
  | cons b r ih => show (zb9 (r.map .int)).map (b :: ·) = _; rw [ih]; rfl
theorem AtL.of_bls {H : Hp} : ∀ {ns : List Bool} {xs : List V}, AtL H (ns.map D.bl) xs → xs = ns.map V.bl
  | [], _, h => h.nil_inv
  | n :: r, _, h => by
    obtain ⟨x, r', rfl, h1, h2⟩ := AtL.cons_inv (by simpa using h)
    rw [h1.bl_inv, AtL.of_bls h2]
    rfl
noncomputable def ziU {α : Type} (as : List D → Option α) (g : α → Option D) : List D → Option D
  | [d] => ((yR d).bind as).bind g
  | _ => none
theorem VZ {K : PySem.W.Frag} {F H : Hp} {vs : List V} {ds : List D} {z : D} {α : Type} {as : List D → Option α} {g : α → Option D} (s : yU F H) (al : AtL F ds vs) (e : ziU as g ds = some z) :
    ∃ p es xs b, vs = [.ref p] ∧ (SqL K H p xs ∨ SqT K H p xs) ∧ AtL F es xs ∧ as es = some b ∧ g b = some z := by
  unfold ziU at e
  split at e
  · obtain ⟨b, e1, e2⟩ := Option.bind_eq_some_iff.mp e
    obtain ⟨es, e3, e4⟩ := Option.bind_eq_some_iff.mp e1
    obtain ⟨x, r, rfl, ax, ar⟩ := al.cons_inv
    cases ar.nil_inv
    rename_i d
    cases d <;> cases e3
    · obtain ⟨p, xs, rfl, hx, bl⟩ := ax.tup_inv
      exact ⟨p, _, xs, b, rfl, .inr (SqT.of (s _ _ hx)), bl, e4, e2⟩
    · obtain ⟨p, xs, rfl, hx, bl⟩ := ax.lst_inv
      exact ⟨p, _, xs, b, rfl, .inl (SqL.of (s _ _ hx)), bl, e4, e2⟩
  · cases e
noncomputable def ziQ := ziU ziG fun bs => some (.bl (bs.all id))
noncomputable def zcZ := ziU zb9 fun ns => some (.int ns.sum)
noncomputable def ziP := ziU zb9 fun ns => if ns = [] then none else some (.int (zhW ns))
noncomputable def zhM := ziU zb9 fun ns => if ns = [] then none else some (.int (zin ns))
theorem zeH {K : PySem.W.Frag} : CaD (fun xs H Q => ∃ (p : Addr) (bs : List Bool), xs = [.ref p] ∧ (SqL K H p (bs.map V.bl) ∨ SqT K H p (bs.map V.bl)) ∧ Q (.bl (bs.all id)) H) ziQ := by
  intro F H vs ds z Q s al e q
  obtain ⟨p, es, xs, bs, rfl, hq, bl, e1, e2⟩ := VZ (K := K) s al e
  cases e2
  rw [ze3 e1] at bl
  rw [bl.of_bls] at hq
  exact ⟨p, bs, rfl, hq, q F H _ (.refl s) .bl⟩
theorem Xb {K : PySem.W.Frag} : CaD (fun xs H Q => ∃ (p : Addr) (ns : List Int), xs = [.ref p] ∧ (SqL K H p (ns.map V.int) ∨ SqT K H p (ns.map V.int)) ∧ Q (.int ns.sum) H) zcZ := by
  intro F H vs ds z Q s al e q
  obtain ⟨p, es, xs, bs, rfl, hq, bl, e1, e2⟩ := VZ (K := K) s al e
  cases e2
  rw [Wt e1] at bl
  rw [bl.of_ints] at hq
  exact ⟨p, bs, rfl, hq, q F H _ (.refl s) .int⟩
theorem zgm {K : PySem.W.Frag} : CaD (fun xs H Q => ∃ (p : Addr) (ns : List Int), xs = [.ref p] ∧ (SqL K H p (ns.map V.int) ∨ SqT K H p (ns.map V.int)) ∧ ns ≠ [] ∧ Q (.int (zhW ns)) H) ziP := by
  intro F H vs ds z Q s al e q
  obtain ⟨p, es, xs, bs, rfl, hq, bl, e1, e2⟩ := VZ (K := K) s al e
  split at e2 <;> cases e2
  rename_i hne
  rw [Wt e1] at bl
  rw [bl.of_ints] at hq
  exact ⟨p, bs, rfl, hq, hne, q F H _ (.refl s) .int⟩
theorem zgl {K : PySem.W.Frag} : CaD (fun xs H Q => ∃ (p : Addr) (ns : List Int), xs = [.ref p] ∧ (SqL K H p (ns.map V.int) ∨ SqT K H p (ns.map V.int)) ∧ ns ≠ [] ∧ Q (.int (zin ns)) H) zhM := by
  intro F H vs ds z Q s al e q
  obtain ⟨p, es, xs, bs, rfl, hq, bl, e1, e2⟩ := VZ (K := K) s al e
  split at e2 <;> cases e2
  rename_i hne
  rw [Wt e1] at bl
  rw [bl.of_ints] at hq
  exact ⟨p, bs, rfl, hq, hne, q F H _ (.refl s) .int⟩
end
end Dl
namespace Dl
open PySem L2
variable [KK]
section
variable {X : Cx} {tg a b c e : Expr} {pos : Pos}
noncomputable def zcC : List D → List D → List D
  | x :: xs, y :: ys => .tup [x, y] :: zcC xs ys
  | _, _ => []
omit [KK] in
theorem zcF : ∀ (xs ys : List D) (i : Nat), (zcC xs ys)[i]? = match xs[i]?, ys[i]? with | some x, some y => some (.tup [x, y]) | _, _ => none
  | [], ys, i => by simp [zcC]
  | x :: xs, [], i => by simp [zcC]
  | x :: xs, y :: ys, 0 => by simp [zcC]
  | x :: xs, y :: ys, i + 1 => by simpa [zcC] using zcF xs ys i
omit [KK] in
theorem WA : ∀ (xs ys : List D), xs.length ≤ ys.length → (zcC xs ys).length = xs.length
  | [], ys, _ => by simp [zcC]
  | x :: xs, [], h => by simp at h
  | x :: xs, y :: ys, h => by simp [zcC, WA xs ys (by simpa using h)]
noncomputable def wy (f : Ev → Option (List D)) : Ev → Option (List D) := fun ρ => (f ρ).bind fun as => match as with
  | [d, e] => (yR d).bind fun xs => (yR e).bind fun ys => if xs.length ≤ ys.length then some (zcC xs ys) else none
  | _ => none
theorem zkw {K : PySem.W.Frag} {F H : Hp} {d : D} {v : V} {ds : List D} (s : yU F H) (h : At F d v) (e : yR d = some ds) : ∃ b p xs, v = .ref p ∧ (∀ {F' H' : Hp}, yU F F' → yU F' H' → Sq b K H' p xs) ∧ AtL F ds xs := by
  cases d <;> cases e
  · obtain ⟨p, xs, rfl, hx, al⟩ := h.tup_inv
    exact ⟨false, p, xs, rfl, fun s1 s2 => SqT.of (s2 _ _ (s1 _ _ hx)), al⟩
  · obtain ⟨p, xs, rfl, hx, al⟩ := h.lst_inv
    exact ⟨true, p, xs, rfl, fun s1 s2 => SqL.of (s2 _ _ (s1 _ _ hx)), al⟩
theorem zgU {es : List Expr} {k : Nat} {tp p : Pos} {f : Ev → Option (List D)} (hg : Gl X "zip") (hm : X.mg "zip" = none) (ha : AD X [a, b] f)
    (hs : starEach [a, b] X.env = [(false, eval a X.env), (false, eval b X.env)] := by rfl) (hs2 : starEach [b] X.env = [(false, eval b X.env)] := by rfl) : ID X (.Tuple es k tp) (.Call (.Name "zip" p) [a, b] [] pos) (wy f) := by
  obtain ⟨t, pa, r⟩ := ha
  refine ⟨_, zkD hg hm zjy pa hs hs2, fun σ ρ F H ds R s va e q => ?_⟩
  obtain ⟨as, e1, e2⟩ := Option.bind_eq_some_iff.mp e
  refine r σ ρ F H as _ s va e1 fun F1 H1 v g1 a1 => ?_
  split at e2
  · obtain ⟨x, r', rfl, ax, ar⟩ := a1.cons_inv
    obtain ⟨y, r', rfl, ay, ar⟩ := ar.cons_inv
    cases ar.nil_inv
    obtain ⟨xs, e3, e2'⟩ := Option.bind_eq_some_iff.mp e2
    obtain ⟨ys, e4, e2''⟩ := Option.bind_eq_some_iff.mp e2'
    clear e2 e2' e
    split at e2'' <;> cases e2''
    rename_i hle
    obtain ⟨b1, p1, us, rfl, sq1, al⟩ := zkw (K := X.K) g1.fh ax e3
    obtain ⟨b2, p2, ws, rfl, sq2, bl⟩ := zkw (K := X.K) g1.fh ay e4
    refine ⟨b1, b2, p1, p2, us, ws, rfl, sq1 (yU.refl _) g1.fh, sq2 (yU.refl _) g1.fh, q F1 H1 _ g1 fun i F2 H2 s1 s2 => ?_⟩
    have q1 := sq1 s1 s2
    have q2 := sq2 s1 s2
    refine ⟨fun hl => ⟨us, q1, by rw [hl, WA _ _ hle, al.length]⟩, fun d hd => ?_⟩
    rw [zcF] at hd
    cases h1 : xs[i]? with
    | none => rw [h1] at hd; cases hd
    | some x =>
      cases h2 : ys[i]? with
      | none => rw [h1, h2] at hd; cases hd
      | some y =>
        rw [h1, h2] at hd
        cases hd
        obtain ⟨u, hu, au⟩ := al.get h1
        obtain ⟨u2, hu2, au2⟩ := bl.get h2
        refine ⟨⟨us, ws, u, u2, q1, q2, hu, hu2⟩, fun z H3 hz => ?_⟩
        obtain ⟨T, x', y', rfl, hT, rfl, hx', hy'⟩ := hz
        have e5 := hx' us q1
        have e6 := hy' ws q2
        rw [hu] at e5
        rw [hu2] at e6
        cases e5
        cases e6
        have g3 := Gr.alloc s2 hT (.tup [u, u2])
        exact ⟨_, g3, .tup zt (.cons (au.mono (s1.trans g3.ff)) (.cons (au2.mono (s1.trans g3.ff)) .nil))⟩
  · cases e2
noncomputable def xa (g : List D → Option (List D)) (f : Ev → Option (List D)) (b : D → SE → Option SE) (h : SE → Ctl) : SE → Ctl := fun ρ => match (f (visG ρ)).bind g with
  | some ds => zfc b h ds ρ
  | none => .no
theorem YX {p pos' : Pos} {body : List Stmt} {f : Ev → Option (List D)} {b' : D → SE → Option SE} {g : SE → Ctl} (hp : PassesOwn (model X.prog X.w) X.A X.env X.xe) (hc : X.calm = true) (hgl : Gl X "range") (hm : X.mg "range" = none) (ha : AD X [a] f) (hg : BD X tg b') (hb : SDs X body g)
    (hs0 : starEach [a] X.env = [(false, eval a X.env)] := by rfl) (hs : ∀ x, foldedSetIterable (.Call (.Name "range" p) [a] [] pos) X.env x = pure x := by intro _; rfl) : SD X (.For tg (.Call (.Name "range" p) [a] [] pos) body [] pos') (xa wY f b' g) := by
  obtain ⟨t, pa, r⟩ := ha
  obtain ⟨tg', pg, rg⟩ := hg
  obtain ⟨tb, pb, rb⟩ := hb
  refine ⟨_, zgV hp hc (za8 hgl hm pa hs0) pg pb hs, fun Fb Hb F H ρ σ E rl k => ?_⟩
  unfold xa at k
  cases h : (f (visG ρ)).bind wY with
  | none => rw [h] at k; exact k.elim
  | some ds =>
    rw [h] at k
    obtain ⟨as, e1, e2⟩ := Option.bind_eq_some_iff.mp h
    refine r σ _ _ H as _ rl.gh rl.visG e1 fun F1 H1 vs g1 a1 => ?_
    have rl2 := rl.grow (rl.back g1).1
    unfold wY at e2
    split at e2
    · split at e2 <;> cases e2
      rename_i hc
      obtain ⟨x, r', rfl, ax, ar⟩ := a1.cons_inv
      cases ar.nil_inv
      exact ⟨_, by rw [ax.int_inv], (xO.mp hc).1, (xO.mp hc).2, zhf (zd8 0 _) rg rb rl2 k⟩
    · cases e2
end
theorem zhy {P : Program} {w : World} {K : PySem.W.Frag} {mg : Str → Option Value} {base : Heap} {f : Addr} {fd : FuncData} {ps : List Str} {k m : Nat} : yQ P w K mg base CX0 k f fd ps (spD m fun _ => none) := by
  refine ⟨fun vs H Q E h => ?_, fun A outer s H args us vs Q E _ _ _ _ h => ?_⟩
  · obtain ⟨_, _, _, _, _, _, e, _⟩ := h
    cases e
  · obtain ⟨_, _, _, _, _, _, e, _⟩ := h
    cases e
noncomputable def zj8 (n : Nat) (g : (List D → Option D) → SE → Ctl) : Nat → List D → Option D
  | 0 => fun _ => none
  | k + 1 => fnD n (g (zj8 n g k))
theorem zjH {P : Program} {w : World} {K : PySem.W.Frag} {mg : Str → Option Value} {base : Heap} {x qual : Str} {st : Stmt} {f : Addr} {fd : FuncData} {N ps : List Str} {k0 : Nat} {g : (List D → Option D) → SE → Ctl} (Fu : Fun K x qual st f fd) (S : zr N ps (zj st))
    (hb : ∀ (k : Nat) (r : List D → Option D), yQ P w K mg base CX0 (k0 + k) f fd ps (spD ps.length r) → ∀ (cdv : Value) (A : Around) (outer : List Env) (s : Shared) (H : Hp) (E : XK), Y1 (k0 + k) (A.deeper (PyProof.Rows.envOfC qual (zj st) s.heap.objs.size f cdv)) → SDs (zgM CX0 P w K mg base N qual (zj st) f cdv A outer s H E).nox (vg st) (g r)) :
    ∀ n, yQ P w K mg base CX0 (k0 + n) f fd ps (spD ps.length (zj8 N.length g n)) := by
  intro n
  induction n with
  | zero => exact zhy
  | succ n ih => exact yo Fu S fun cdv A outer s H E hr => hb n _ ih cdv A outer s H E hr
noncomputable def zeF (K : PySem.W.Frag) : Sp := fun vs H Q _ => ∃ (a : Addr) (ns : List Int), vs = [.ref a] ∧ SqL K H a (ns.map V.int) ∧ ns.length ≤ 63 ∧ ∀ H', Q (.bl true) H'
end Dl
namespace Dl
open PySem L2
theorem zjW {P : Program} {w : World} {K : PySem.W.Frag} {mg : Str → Option Value} {base : Heap} {f : Addr} {fd : FuncData} {ps : List Str} {k : Nat} {p : List D → Option D} (F : yQ P w K mg base CX0 k f fd ps (@spD ⟨K⟩ 1 p)) (h : ∀ ns : List Int, ns.length ≤ 63 → p [.scr ns] = some (.bl true)) :
    yQ P w K mg base CX0 k f fd ps (zeF K) := by
  letI : KK := ⟨K⟩
  refine F.imp fun vs H Q E hs => ?_
  obtain ⟨a, ns, rfl, hq, hl, q⟩ := hs
  refine ⟨[.scr ns], .bl true, H, rfl, yU.refl _, .cons ?_ .nil, h ns hl, fun F' H' v _ av => ?_⟩
  · unfold At
    exact ⟨a, rfl, hq⟩
  · rw [av.bl_inv]
    exact q H'
structure Def (K : PySem.W.Frag) (mg : Str → Option Value) (x : Str) (st : Stmt) (ps : List Str) (f : Addr) (fd : FuncData) : Prop where
  fn : Fun K x x st f fd
  bd : zbC K fd ps []
  at_ : mg x = some (.ref f)
theorem Def.kp {K : PySem.W.Frag} {mg : Str → Option Value} {x : Str} {st : Stmt} {ps : List Str} {f : Addr} {fd : FuncData} (d : Def K mg x st ps f fd) : PySem.W.keepIn K (.ref f) = true := d.fn.kp
inductive Ctl.w : Ctl → (SE → Prop) → (SE → Prop) → (SE → Prop) → (D → Prop) → Prop where
  | nx {ρ : SE} {n b k : SE → Prop} {r : D → Prop} : n ρ → Ctl.w (.nx ρ) n b k r
  | bk {ρ : SE} {n b k : SE → Prop} {r : D → Prop} : b ρ → Ctl.w (.bk ρ) n b k r
  | ct {ρ : SE} {n b k : SE → Prop} {r : D → Prop} : k ρ → Ctl.w (.ct ρ) n b k r
  | rt {d : D} {n b k : SE → Prop} {r : D → Prop} : r d → Ctl.w (.rt d) n b k r
section
variable {ρ : SE} {d : D} {n b k : SE → Prop} {r : D → Prop}
theorem Ctl.w.nxi (h : Ctl.w (.nx ρ) n b k r) : n ρ := by cases h; assumption
theorem Ctl.w.bki (h : Ctl.w (.bk ρ) n b k r) : b ρ := by cases h; assumption
theorem Ctl.w.cti (h : Ctl.w (.ct ρ) n b k r) : k ρ := by cases h; assumption
theorem Ctl.w.rti (h : Ctl.w (.rt d) n b k r) : r d := by cases h; assumption
theorem Ctl.w.noi (h : Ctl.w .no n b k r) : False := by cases h
end
noncomputable abbrev noP : SE → Prop := fun _ => False
section
variable {g h : SE → Ctl} {ρ ρ' : SE} {n b k : SE → Prop} {r : D → Prop}
theorem xm (e : (g ρ).w (fun ρ' => (h ρ').w n b k r) b k r) : (zG g h ρ).w n b k r := by
  unfold zG
  cases hg : g ρ with
  | nx ρ' => rw [hg] at e; exact e.nxi
  | bk ρ' => rw [hg] at e; exact .bk e.bki
  | ct ρ' => rw [hg] at e; exact .ct e.cti
  | rt d => rw [hg] at e; exact .rt e.rti
  | no => rw [hg] at e; exact e.noi.elim
theorem zx (e : g ρ = .nx ρ') (q : (h ρ').w n b k r) : (zG g h ρ).w n b k r := xm (by rw [e]; exact .nx q)
theorem Z4 (e : g ρ = .nx ρ') (q : n ρ') : (g ρ).w n b k r := by rw [e]; exact .nx q
theorem XA {d : D} (e : g ρ = .rt d) (q : r d) : (g ρ).w n b k r := by rw [e]; exact .rt q
theorem W0 {t : Ev → Option Bool} {c : Bool} (e : t (visG ρ) = some c) (h1 : c = true → (g ρ).w n b k r) (h2 : c = false → (h ρ).w n b k r) : (sIf t g h ρ).w n b k r := by
  unfold sIf
  rw [e]
  cases c with
  | true => exact h1 rfl
  | false => exact h2 rfl
theorem zhv {i : Nat} (e : zkL ρ i = ρ') (q : (g ρ').w n b k r) : (sFz i g ρ).w n b k r := by
  unfold sFz
  rw [e]
  exact q
theorem zfd {bd : D → SE → Option SE} (I : Nat → SE → Prop) : ∀ (ds : List D) (j : Nat) (ρ : SE), I j ρ →
    (∀ i d ρ, ds[i]? = some d → I (j + i) ρ → ∃ ρ1, bd d ρ = some ρ1 ∧ (g ρ1).w (I (j + i + 1)) n (I (j + i + 1)) r) → (∀ ρ, I (j + ds.length) ρ → n ρ) → (zfc bd g ds ρ).w n b k r
  | [], j, ρ, h0, _, fin => .nx (fin ρ h0)
  | d :: ds, j, ρ, h0, step, fin => by
    obtain ⟨ρ1, e1, e2⟩ := step 0 d ρ rfl h0
    unfold zfc
    rw [e1]
    dsimp only
    have next : ∀ ρ', I (j + 1) ρ' → (zfc bd g ds ρ').w n b k r := fun ρ' h' => zfd I ds (j + 1) ρ' h'
      (fun i d' ρ hd hI => by
        have := step (i + 1) d' ρ (by simpa using hd) (by rw [show j + (i + 1) = j + 1 + i by omega]; exact hI)
        rwa [show j + (i + 1) + 1 = j + 1 + i + 1 by omega] at this)
      (fun ρ hI => fin ρ (by rw [List.length_cons, show j + (ds.length + 1) = j + 1 + ds.length by omega]; exact hI))
    cases hg : g ρ1 with
    | nx ρ' => rw [hg] at e2; exact next ρ' e2.nxi
    | ct ρ' => rw [hg] at e2; exact next ρ' e2.cti
    | bk ρ' => rw [hg] at e2; exact .nx e2.bki
    | rt d' => rw [hg] at e2; exact .rt e2.rti
    | no => rw [hg] at e2; exact e2.noi.elim
theorem W4 {f : Ev → Option (List D)} {bd : D → SE → Option SE} {ds : List D} (I : Nat → SE → Prop) (e : f (visF ρ) = some ds) (h0 : I 0 ρ)
    (step : ∀ i d ρ, ds[i]? = some d → I i ρ → ∃ ρ1, bd d ρ = some ρ1 ∧ (g ρ1).w (I (i + 1)) n (I (i + 1)) r) (fin : ∀ ρ, I ds.length ρ → n ρ) : (Yh f bd g ρ).w n b k r := by
  unfold Yh
  rw [e]
  exact zfd I ds 0 ρ h0 (fun i d ρ hd hI => by rw [Nat.zero_add] at hI ⊢; exact step i d ρ hd hI) (fun ρ hI => fin ρ (by rw [Nat.zero_add] at hI; exact hI))
theorem zgY {f : Ev → Option (List D)} {bd : D → SE → Option SE} {rg : List D → Option (List D)} {lo : Int} {c : Nat} (I : Nat → SE → Prop) (e : (f (visG ρ)).bind rg = some (zag lo c)) (h0 : I 0 ρ)
    (step : ∀ (i : Nat) ρ, i < c → I i ρ → ∃ ρ1, bd (.int (lo + i)) ρ = some ρ1 ∧ (g ρ1).w (I (i + 1)) n (I (i + 1)) r) (fin : ∀ ρ, I c ρ → n ρ) : (xa rg f bd g ρ).w n b k r := by
  unfold xa
  rw [e]
  refine zfd I (zag lo c) 0 ρ h0 (fun i d ρ hd hI => ?_) (fun ρ hI => fin ρ ?_)
  · rw [Nat.zero_add] at hI ⊢
    unfold zag at hd
    rw [List.getElem?_map] at hd
    by_cases hi : i < c
    · rw [List.getElem?_range hi] at hd
      cases hd
      exact step i ρ hi hI
    · rw [List.getElem?_eq_none (by simpa using hi)] at hd
      cases hd
  · rw [Nat.zero_add] at hI
    rwa [show (zag lo c).length = c by unfold zag; simp] at hI
theorem zg7 {n' b' k' : SE → Prop} {r' : D → Prop} {c : Ctl} (q : c.w n b k r) (h1 : ∀ ρ, n ρ → n' ρ) (h2 : ∀ ρ, b ρ → b' ρ) (h3 : ∀ ρ, k ρ → k' ρ) (h4 : ∀ d, r d → r' d) : c.w n' b' k' r' := by
  cases q with
  | nx q => exact .nx (h1 _ q)
  | bk q => exact .bk (h2 _ q)
  | ct q => exact .ct (h3 _ q)
  | rt q => exact .rt (h4 _ q)
theorem VT {t : Ev → Option Bool} (I : SE → Prop) (μ : SE → Nat) (step : ∀ ρ, I ρ → ∃ c, t (visG ρ) = some c ∧ (c = true → (g ρ).w (fun ρ' => I ρ' ∧ μ ρ' < μ ρ) n (fun ρ' => I ρ' ∧ μ ρ' < μ ρ) r) ∧ (c = false → n ρ)) : ∀ (fu : Nat) (ρ : SE), I ρ → μ ρ < fu → (Yc t g fu ρ).w n b k r
  | 0, ρ, _, hf => by omega
  | fu + 1, ρ, hI, hf => by
    obtain ⟨c, e, q1, q2⟩ := step ρ hI
    unfold Yc
    rw [e]
    cases c with
    | false => exact .nx (q2 rfl)
    | true =>
      have q := q1 rfl
      dsimp only
      cases hg : g ρ with
      | nx ρ' => rw [hg] at q; exact VT I μ step fu ρ' q.nxi.1 (by have := q.nxi.2; omega)
      | ct ρ' => rw [hg] at q; exact VT I μ step fu ρ' q.cti.1 (by have := q.cti.2; omega)
      | bk ρ' => rw [hg] at q; exact .nx q.bki
      | rt d' => rw [hg] at q; exact .rt q.rti
      | no => rw [hg] at q; exact q.noi.elim
end
theorem Vy {m : Nat} {g : SE → Ctl} {ds : List D} {d : D} {ρ : SE} (e : ds.map .v ++ List.replicate (m - ds.length) .no = ρ) (q : (g ρ).w (fun _ => d = .non) noP noP (fun d' => d' = d)) : fnD m g ds = some d := by
  unfold fnD
  rw [e]
  cases hg : g ρ with
  | nx ρ' => rw [hg] at q; rw [show d = .non from q.nxi]
  | rt d' => rw [hg] at q; rw [show d' = d from q.rti]
  | bk _ => rw [hg] at q; exact q.bki.elim
  | ct _ => rw [hg] at q; exact q.cti.elim
  | no => rw [hg] at q; exact q.noi.elim
theorem zg2 {m : Bool} {i : Nat} {f : Ev → Option D} {ρ : SE} {ds : List D} {d : D} (h1 : vEv m f ρ = some d) (h2 : ρ[i]? = some (.o ds)) (h3 : ds.length ≤ 1000) : Zj m i f ρ = .nx (ρ.set i (.o (ds ++ [d]))) := by
  unfold Zj
  rw [h1, h2]
  show (match (if decide (ds.length < sizeLine) = true then some (ρ.set i (.o (ds ++ [d]))) else none) with | some ρ' => Ctl.nx ρ' | none => Ctl.no) = _
  rw [if_pos (decide_eq_true (Wk h3))]
theorem Vv {b : D → Option (List (Option D))} {t : Ev → Option Bool} {f : Ev → Option D} {ρ : Ev} {α : Type} (c : α → D) (y : α → D) : ∀ (xs : List α), (∀ x ∈ xs, ∃ own, b (c x) = some own ∧ t (own ++ ρ) = some true ∧ f (own ++ ρ) = some (y x)) → lcD b t f ρ (xs.map c) = some (xs.map y)
  | [], _ => rfl
  | x :: xs, h => by
    obtain ⟨own, h1, h2, h3⟩ := h x List.mem_cons_self
    show lcD b t f ρ (c x :: xs.map c) = _
    unfold lcD
    rw [h1]
    simp only [Option.bind_some, h2, if_true, h3, Vv c y xs fun z hz => h z (List.mem_cons_of_mem _ hz)]
    rfl
theorem Xh {b : D → Option (List (Option D))} {t : Ev → Option Bool} {f : Ev → Option D} {ρ : Ev} {α : Type} (c : α → D) (p : α → Bool) (y : α → D) : ∀ (xs : List α), (∀ x ∈ xs, ∃ own, b (c x) = some own ∧ t (own ++ ρ) = some (p x) ∧ (p x = true → f (own ++ ρ) = some (y x))) → lcD b t f ρ (xs.map c) = some ((xs.filter p).map y)
  | [], _ => rfl
  | x :: xs, h => by
    obtain ⟨own, h1, h2, h3⟩ := h x List.mem_cons_self
    have ih := Xh c p y xs fun z hz => h z (List.mem_cons_of_mem _ hz)
    show lcD b t f ρ (c x :: xs.map c) = _
    unfold lcD
    rw [h1]
    simp only [Option.bind_some, h2]
    cases hp : p x with
    | false =>
      rw [if_neg Bool.false_ne_true, ih, List.filter_cons, if_neg (by rw [hp]; exact Bool.false_ne_true)]
    | true =>
      rw [if_pos rfl, h3 hp, ih, List.filter_cons, if_pos hp]
      rfl
mutual
noncomputable def noS : D → Bool
  | .tup ds => zfk ds
  | .lst ds => zfk ds
  | .scr _ => false
  | _ => true
noncomputable def zfk : List D → Bool
  | [] => true
  | d :: ds => noS d && zfk ds
end
theorem v6 : ∀ {ds : List D} {i : Nat} {d : D}, zfk ds = true → ds[i]? = some d → noS d = true
  | [], _, _, _, h => by simp at h
  | d :: ds, i, e, h, he => by
    unfold zfk at h
    rw [Bool.and_eq_true] at h
    cases i with
    | zero => simp at he; subst he; exact h.1
    | succ i => exact v6 h.2 (by simpa using he)
theorem Zb {n : Nat} (h : n ≤ 1000) : lim n = true := by
  unfold lim
  exact decide_eq_true (Nat.le_of_lt (Wk h))
theorem zbn (lo : Int) (n : Nat) : (zag lo n).length = n := by unfold zag; simp
end Dl
namespace Dl
open PySem L2
noncomputable abbrev Pr := Int × Int
noncomputable def prD (t : Pr) : D := .tup [.int t.1, .int t.2]
noncomputable def zkH : D → Option Pr
  | .tup [.int a, .int b] => some (a, b)
  | _ => none
noncomputable def VP : List D → Option (List Pr)
  | [] => some []
  | d :: ds => (zkH d).bind fun t => (VP ds).map (t :: ·)
theorem ziy {d : D} {t : Pr} (h : zkH d = some t) : d = prD t := by
  unfold zkH at h
  split at h
  · cases h; rfl
  · cases h
theorem zcr : ∀ {ds : List D} {ts : List Pr}, VP ds = some ts → ds = ts.map prD
  | [], ts, h => by cases h; rfl
  | d :: ds, ts, h => by
    unfold VP at h
    obtain ⟨t, h1, h2⟩ := Option.bind_eq_some_iff.mp h
    obtain ⟨us, h3, rfl⟩ := Option.map_eq_some_iff.mp h2
    rw [ziy h1, zcr h3]
    rfl
theorem ze0 (ts : List Pr) : VP (ts.map prD) = some ts := by
  induction ts with
  | nil => rfl
  | cons t ts ih =>
    show (zkH (prD t)).bind (fun u => (VP (ts.map prD)).map (u :: ·)) = _
    rw [ih]
    rfl
noncomputable def zkn (a b : Pr) : Bool := !OwnSort.bltP b a
noncomputable def zh6 (ts : List Pr) : List Pr := ts.mergeSort zkn
noncomputable def leI (a b : Int) : Bool := decide (a ≤ b)
noncomputable def zgf (ns : List Int) : List Int := ns.mergeSort leI
theorem Vn {a b : Pr} : OwnSort.bltP b a = false ↔ zkn a b = true := by unfold zkn; simp
theorem XU {a b : Pr} : zkn a b = true ↔ a.1 < b.1 ∨ (a.1 = b.1 ∧ a.2 ≤ b.2) := by
  rw [← Vn]
  unfold OwnSort.bltP
  rw [decide_eq_false_iff_not]
  omega
theorem Vb {ts us : List Pr} (p : us.Perm ts) (h : us.Pairwise fun a b => OwnSort.bltP b a = false) : us = zh6 ts := by
  refine List.Perm.eq_of_pairwise (le := fun a b => zkn a b = true) (fun a b _ _ h1 h2 => ?_) (h.imp fun x => Vn.mp x) ?_ (p.trans (List.mergeSort_perm _ _).symm)
  · rw [XU] at h1 h2
    exact Prod.ext (by omega) (by omega)
  · exact List.pairwise_mergeSort (fun a b c h1 h2 => by rw [XU] at *; omega) (fun a b => by rw [Bool.or_eq_true, XU, XU]; omega) _
theorem zdr {ts us : List Int} (p : us.Perm ts) (h : us.Pairwise (· ≤ ·)) : us = zgf ts := by
  refine List.Perm.eq_of_pairwise (le := fun a b => leI a b = true) (fun a b _ _ h1 h2 => ?_) (h.imp fun x => decide_eq_true x) ?_ (p.trans (List.mergeSort_perm _ _).symm)
  · unfold leI at h1 h2
    rw [decide_eq_true_eq] at h1 h2
    omega
  · exact List.pairwise_mergeSort (fun a b c h1 h2 => by unfold leI at *; rw [decide_eq_true_eq] at *; omega) (fun a b => by unfold leI; rw [Bool.or_eq_true, decide_eq_true_eq, decide_eq_true_eq]; omega) _
noncomputable def zd6 : List D → Option (List D)
  | [.lst ds] => if ds.length < 64 then match VP ds with
      | some ts => some ((zh6 ts).map prD)
      | none => match zb9 ds with
        | some ns => some ((zgf ns).map .int)
        | none => none
    else none
  | _ => none
variable [KK]
section
variable {X : Cx} {e : Expr} {pos : Pos}
theorem At.pr_inv {F : Hp} {t : Pr} {v : V} (h : At F (prD t) v) : ∃ a, v = .ref a ∧ F a = some (.tup [.int t.1, .int t.2]) := by
  obtain ⟨a, xs, rfl, hx, al⟩ := h.tup_inv
  obtain ⟨x, r, rfl, a1, al⟩ := al.cons_inv
  obtain ⟨y, r, rfl, a2, al⟩ := al.cons_inv
  cases al.nil_inv
  cases a1.int_inv
  cases a2.int_inv
  exact ⟨a, rfl, hx⟩
theorem zbd (hc : X.calm = true) : YD X (.builtin "sorted") (fun xs H Q => ∃ F p ys ds out, xs = [.ref p] ∧ yU F H ∧ H p = some (.lst ys) ∧ AtL F ds ys ∧ zd6 [.lst ds] = some out ∧ ∀ l zs, H l = none → AtL F out zs → Q (.ref l) (upd H l (.lst zs))) := by
  intro pins s σ H xs us Q I r h
  obtain ⟨F, p, ys, ds, out, rfl, sm, hp, al, hs, q⟩ := h
  obtain ⟨u, rfl, ru⟩ := WG r
  cases ru
  obtain ⟨its, rv, pl, hz⟩ := I.list (SqL.of hp)
  have hlen : its.length = ds.length := by rw [← rv.length, al.length]
  unfold zd6 at hs
  dsimp only at hs
  split at hs <;> try cases hs
  rename_i h64
  have fin : ∀ (zs : List V) (ws : List Value), zs.length < 64 → yx zs ws → AtL F out zs → EP X pins σ Q (.ref (s.heap.objs.size + 1)) { s with heap := PyProof.Rows.sortedAll s.heap its ws.toArray } := fun zs ws hl rz az => by
    have hn : H (s.heap.objs.size + 1) = none := I.hok.fresh (Nat.le_succ _)
    obtain ⟨ep, he⟩ := PyProof.Rows.sortedAll_at s.heap its ws.toArray
    refine ⟨.ref (s.heap.objs.size + 1), upd H (s.heap.objs.size + 1) (.lst zs), I.laid (t' := s.toks) (fun b o z => PyProof.Rows.sortedAll_old z) (Nat.le_succ _) ?_, rfl, q _ zs hn az⟩
    exact ⟨Nat.le_of_lt (Wk (by omega)), ws, ep, rz, he⟩
  split at hs
  · rename_i ts hts
    cases hs
    have eds := zcr hts
    subst eds
    have look : ∀ {v : Value}, v ∈ its → ∃ a t, v = .ref a ∧ t ∈ ts ∧ F a = some (.tup [.int t.1, .int t.2]) ∧ OwnSort.TP s.heap v t := fun {v} hv => by
      obtain ⟨j, hj, rfl⟩ := List.getElem_of_mem hv
      have hj2 : j < ts.length := by rw [List.length_map] at hlen; omega
      obtain ⟨x, hx, ax⟩ := al.get (i := j) (d := prD ts[j]) (by rw [List.getElem?_map]; simp [hj2])
      obtain ⟨a, rfl, ha⟩ := ax.pr_inv
      obtain ⟨v, hv, rvv⟩ := rv.get hx
      have e1 : its[j]? = some its[j] := by simp [hj]
      rw [hv] at e1
      cases e1
      have e2 : its[j] = .ref a := rvv
      refine ⟨a, ts[j], e2, List.getElem_mem hj2, ha, ?_⟩
      obtain ⟨us, ru, ⟨o, ho, hcl, n, hd⟩, _⟩ := I.tuple (SqT.of (sm _ _ ha))
      obtain ⟨u1, u2, rfl, r1, r2⟩ := zdh ru
      obtain ⟨t1, rfl⟩ := r1
      obtain ⟨t2, rfl⟩ := r2
      exact ⟨a, o, n, t1, t2, e2, ho, hcl, hd⟩
    refine OwnSort.own_sorted pl.isList (fun v hv => let ⟨a, t, _, _, _, ht⟩ := look hv; ⟨t, ht⟩) (by omega) fun o2 pm ri => ?_
    obtain ⟨us, l1, l2, l3⟩ := ri
    have hlo : o2.toList.length = ts.length := by rw [pm.length_eq, hlen, List.length_map]
    -- the values' addresses
    have zsOf : ∀ (ws : List Value) (vs : List Pr), ws.length = vs.length → (∀ w ∈ ws, w ∈ its) → (∀ (i : Nat) v t, ws[i]? = some v → vs[i]? = some t → OwnSort.TP s.heap v t) → ∃ zs : List V, yx zs ws ∧ AtL F (vs.map prD) zs := by
      intro ws
      induction ws with
      | nil =>
        intro vs hl _ _
        cases vs with
        | nil => exact ⟨[], .nil, .nil⟩
        | cons _ _ => simp at hl
      | cons w ws ih =>
        intro vs hl hm ht
        cases vs with
        | nil => simp at hl
        | cons t vs =>
          obtain ⟨zs, z1, z2⟩ := ih vs (by simpa using hl) (fun w' hw' => hm w' (List.mem_cons_of_mem _ hw')) (fun i v t h1 h2 => ht (i + 1) v t (by simpa using h1) (by simpa using h2))
          obtain ⟨a, t', rfl, _, ha, htp⟩ := look (hm w List.mem_cons_self)
          have et : t' = t := htp.uniq (ht 0 _ t rfl rfl)
          subst et
          exact ⟨.ref a :: zs, .cons rfl z1, .cons (.tup ha (.cons .int (.cons .int .nil))) z2⟩
    obtain ⟨zs, z1, z2⟩ := zsOf o2.toList us l1 (fun w hw => pm.mem_iff.mp hw) l2
    have keysPerm : us.Perm ts := by
      -- by the keys of the values
      have kv : ∀ (ws : List Value) (vs : List Pr), ws.length = vs.length → (∀ (i : Nat) v t, ws[i]? = some v → vs[i]? = some t → OwnSort.TP s.heap v t) → vs = ws.map fun v => (OwnSort.keyP s.heap v).getD (0, 0) := by
        intro ws
        induction ws with
        | nil => intro vs hl _; cases vs with
          | nil => rfl
          | cons _ _ => simp at hl
        | cons w ws ih =>
          intro vs hl ht
          cases vs with
          | nil => simp at hl
          | cons t vs =>
            rw [List.map_cons, OwnSort.keyP_of (ht 0 w t rfl rfl), ← ih vs (by simpa using hl) fun i v t h1 h2 => ht (i + 1) v t (by simpa using h1) (by simpa using h2)]
            rfl
      rw [kv _ _ l1 l2, kv its ts (by rw [hlen, List.length_map]) fun i v t h1 h2 => ?_]
      · exact pm.map _
      · obtain ⟨x, hx, ax⟩ := al.get (i := i) (d := prD t) (by rw [List.getElem?_map, h2]; rfl)
        obtain ⟨a, rfl, ha⟩ := ax.pr_inv
        obtain ⟨v', hv', rvv⟩ := rv.get hx
        rw [h1] at hv'
        cases hv'
        obtain ⟨us', ru', ⟨o, ho, hcl, n, hd⟩, _⟩ := I.tuple (SqT.of (sm _ _ ha))
        obtain ⟨u1, u2, rfl, r1, r2⟩ := zdh ru'
        obtain ⟨t1, rfl⟩ := r1
        obtain ⟨t2, rfl⟩ := r2
        exact ⟨a, o, n, t1, t2, rvv, ho, hcl, hd⟩
    have e3 := Vb keysPerm l3
    rw [e3] at z2
    have := fin zs o2.toList (by rw [z1.length]; rw [List.length_map] at h64; omega) z1 z2
    simpa using this
  · split at hs <;> try cases hs
    rename_i ns hns
    have eds := Wt hns
    subst eds
    have hI : PyProof.Rows.IntsAre its ns := Xg (by rw [← al.of_ints]; exact rv)
    refine PyProof.Rows.sorted_ints pl.isList hI (by omega) fun o2 ns' h1 h2 h3 => ?_
    have e3 := zdr h2 h3
    subst e3
    have z1 : yx ((zgf ns).map V.int) o2.toList := zaz h1
    have := fin ((zgf ns).map V.int) o2.toList (by rw [List.length_map, h2.length_eq]; rw [List.length_map] at h64; omega) z1 (.ints _)
    simpa using this
theorem ze9 {p : Pos} {f : Ev → Option (List D)} (hc : X.calm = true) (hgl : Gl X "sorted") (hm : X.mg "sorted" = none) (ha : AD X [e] f)
    (he : starEach [e] X.env = (false, eval e X.env) :: starEach [] X.env := by rfl) (hpl : (backTo pos (starEach [] X.env)).any (·.1) = false := by rfl) : FL X (.Call (.Name "sorted" p) [e] [] pos) (fFn zd6 f) := by
  obtain ⟨t, pa, ra⟩ := ha
  refine ⟨_, VN (zbd hc) hgl hm zeZ pa (by decide) (by decide) he hpl, fun σ ρ F H z Q s va e q => ?_⟩
  obtain ⟨ds, e1, e2⟩ := Option.bind_eq_some_iff.mp e
  refine ra σ ρ F H ds _ s va e1 fun F1 H1 vs g1 a1 => ?_
  have e2' := e2
  unfold zd6 at e2'
  split at e2'
  · obtain ⟨x, r, rfl, ax, ar⟩ := a1.cons_inv
    cases ar.nil_inv
    obtain ⟨p, ys, rfl, hx, bl⟩ := ax.lst_inv
    exact ⟨F1, p, ys, _, z, rfl, g1.fh, g1.fh _ _ hx, bl, e2, fun l zs hl az => q _ _ _ _ (g1.trans (Gr.hide g1.fh hl _)) (zds g1 hl) (g1.fh.free hl) zt az⟩
  · cases e2'
end
end Dl
namespace Dl
open PySem L2
variable [KK]
noncomputable def ziV : List D → Option D
  | [.int i] => some (.int i)
  | [.bl k] => some (.int (if k then 1 else 0))
  | _ => none
theorem zgG : CaD (fun xs H Q => (∃ i, xs = [.int i] ∧ Q (.int i) H) ∨ ∃ k, xs = [.bl k] ∧ Q (.int (if k then 1 else 0)) H) ziV := by
  intro F H vs ds z Q s al e q
  unfold ziV at e
  split at e <;> cases e
  all_goals
    obtain ⟨x, r, rfl, ax, ar⟩ := al.cons_inv
    cases ar.nil_inv
  · exact .inl ⟨_, by rw [ax.int_inv], q F H _ (.refl s) .int⟩
  · exact .inr ⟨_, by rw [ax.bl_inv], q F H _ (.refl s) .int⟩
end Dl
namespace Dl
open PySem L2
variable [KK]
section
variable {X : Cx} {a b : Expr} {pos : Pos}
noncomputable def zkG (i j : Nat) (f : Ev → Option (List D)) : SE → Ctl := fun ρ => match f (visF ρ) with
  | some [d, e] => .nx ((ρ.set i (.v d)).set j (.v e))
  | _ => .no
theorem zhu {i j : Nat} {x y : Str} {f : Ev → Option (List D)} {px py pt : Pos} {kt k2 pt2} (hc : X.calm = true) (hN : X.N.Nodup) (hi : X.N[i]? = some x) (hj : X.N[j]? = some y) (hij : i ≠ j)
    (hx : X.env.scope.names.lookup x = some .local) (hy : X.env.scope.names.lookup y = some .local) (ha : AD X [a, b] f)
    (hw : swappedStores [.Tuple [.Name x px, .Name y py] kt pt] (.Tuple [a, b] k2 pt2) X.env = pure (some [x, y]) := by rfl)
    (hs : swapsWithSole [.Tuple [.Name x px, .Name y py] kt pt] (.Tuple [a, b] k2 pt2) pos.line X.env = pure false := by rfl) :
    SD X (.Assign [.Tuple [.Name x px, .Name y py] kt pt] (.Tuple [a, b] k2 pt2) pos) (zkG i j f) := by
  obtain ⟨t, pa, r⟩ := ha
  refine ⟨_, zjp hc hN hi hj hij hx hy pa hw hs, fun Fb Hb F H ρ σ E rl k => ?_⟩
  unfold zkG at k
  cases h : f (visF ρ) with
  | none => rw [h] at k; exact k.elim
  | some ds =>
    rw [h] at k
    refine r σ _ _ H ds _ rl.gr.fh rl.visF h fun F1 H1 vs g1 a1 => ?_
    cases ds with
    | nil => exact k.elim
    | cons d ds =>
      cases ds with
      | nil => exact k.elim
      | cons e ds =>
        cases ds with
        | cons _ _ => exact k.elim
        | nil =>
          obtain ⟨v, r1, rfl, av, ar⟩ := a1.cons_inv
          obtain ⟨u, r2, rfl, au, ar⟩ := ar.cons_inv
          cases ar.nil_inv
          exact ⟨_, _, rfl, k F1 H1 _ (((rl.grow g1).set av).set au)⟩
end
end Dl
namespace Dl
open PySem L2
noncomputable def zk6 : D → Option Key
  | .int i => some (.inl i)
  | .str x => some (.inr x)
  | _ => none
noncomputable def zdm : List D → Option (List Key)
  | [] => some []
  | d :: ds => (zk6 d).bind fun k => (zdm ds).map (k :: ·)
noncomputable def zfj : D → Option (List Key)
  | .tup ds => zdm ds
  | _ => none
noncomputable def zh8 (t : Bool) (d : D) : Option (List Key) := if t = true then zfj d else (zk6 d).map ([·])
noncomputable def intQ : Int → Int → Bool
  | .ofNat a, .ofNat b => Nat.beq a b
  | .negSucc a, .negSucc b => Nat.beq a b
  | _, _ => false
theorem zcO {a b : Int} : intQ a b = true ↔ a = b := by
  cases a with
  | ofNat a => cases b with
    | ofNat b => exact ⟨fun h => (by rw [Nat.eq_of_beq_eq_true h]), fun h => (by cases h; exact Nat.beq_refl a)⟩
    | negSucc b => exact ⟨fun h => (by cases h), fun h => (by cases h)⟩
  | negSucc a => cases b with
    | ofNat b => exact ⟨fun h => (by cases h), fun h => (by cases h)⟩
    | negSucc b => exact ⟨fun h => (by rw [Nat.eq_of_beq_eq_true h]), fun h => (by cases h; exact Nat.beq_refl a)⟩
noncomputable def zf0 : Key → Key → Bool
  | .inl i, .inl j => intQ i j
  | .inr a, .inr b => decide (a = b)
  | _, _ => false
noncomputable def zkP : List Key → List Key → Bool
  | [], [] => true
  | a :: r, b :: s => match zf0 a b with
    | true => zkP r s
    | false => false
  | _, _ => false
theorem zaB {a b : Key} : zf0 a b = true ↔ a = b := by
  cases a with
  | inl i => cases b with
    | inl j => exact ⟨fun h => (by rw [zcO.mp h]), fun h => (by cases h; exact zcO.mpr rfl)⟩
    | inr b => exact ⟨fun h => (by cases h), fun h => (by cases h)⟩
  | inr i => cases b with
    | inl j => exact ⟨fun h => (by cases h), fun h => (by cases h)⟩
    | inr b => exact ⟨fun h => (by rw [of_decide_eq_true h]), fun h => (by cases h; exact decide_eq_true rfl)⟩
theorem zcA {x y : List Key} : zkP x y = true ↔ x = y := by
  induction x generalizing y with
  | nil => cases y with
    | nil => exact ⟨fun _ => rfl, fun _ => rfl⟩
    | cons b s => exact ⟨fun h => (by cases h), fun h => (by cases h)⟩
  | cons a r ih => cases y with
    | nil => exact ⟨fun h => (by cases h), fun h => (by cases h)⟩
    | cons b s =>
      show (match zf0 a b with | true => zkP r s | false => false) = true ↔ _
      cases h : zf0 a b with
      | true => rw [zaB.mp h]; exact ih.trans ⟨fun h => (by rw [h]), fun h => (by cases h; rfl)⟩
      | false => exact ⟨fun h => (by cases h), fun e => (by cases e; rw [zaB.mpr rfl] at h; cases h)⟩
noncomputable def zfg (x y : List Key) : Decidable (x = y) := match h : zkP x y with
  | true => .isTrue (zcA.mp h)
  | false => .isFalse fun e => by rw [zcA.mpr e] at h; cases h
noncomputable def XJ : List (List Key) → List D → List Key → Option D
  | k' :: ks, v :: vs, k => @ite _ (k' = k) (zfg k' k) (some v) (XJ ks vs k)
  | _, _, _ => none
noncomputable def zkI : List (List Key) → List D → List Key → D → List D
  | k' :: ks, v :: vs, k, d => (@ite _ (k' = k) (zfg k' k) d v) :: zkI ks vs k d
  | _, _, _, _ => []
noncomputable def zdw (ks : List (List Key)) (vs : List D) (k : List Key) : List (List Key) := if (XJ ks vs k).isSome = true then ks else ks ++ [k]
noncomputable def zcV (ks : List (List Key)) (vs : List D) (k : List Key) (d : D) : List D := if (XJ ks vs k).isSome = true then zkI ks vs k d else vs ++ [d]
theorem WT {k' k : List Key} {ks : List (List Key)} {v : D} {vs : List D} : XJ (k' :: ks) (v :: vs) k = if k' = k then some v else XJ ks vs k := by
  show @ite _ (k' = k) (zfg k' k) (some v) (XJ ks vs k) = _
  by_cases h : k' = k
  · rw [if_pos h, if_pos h]
  · rw [if_neg h, if_neg h]
section
variable [KK]
theorem zbv {F : Hp} {d : D} {k : Key} {y : V} (h : zk6 d = some k) (a : At F d y) : y = kV k := by
  cases d with
  | int i => cases h; exact a.int_inv
  | str x => cases h; exact a.str_inv
  | _ => cases h
theorem zcH {F : Hp} : ∀ {ds : List D} {ks : List Key} {ys : List V}, zdm ds = some ks → AtL F ds ys → ys = ks.map kV
  | [], _, _, h, a => by cases h; exact a.nil_inv
  | d :: ds, _, _, h, a => by
    obtain ⟨k, h1, h2⟩ := Option.bind_eq_some_iff.mp h
    obtain ⟨r, h3, rfl⟩ := Option.map_eq_some_iff.mp h2
    obtain ⟨x, xs, rfl, a1, a2⟩ := a.cons_inv
    rw [zbv h1 a1, zcH h3 a2]
    rfl
theorem zbI {F : Hp} {d : D} {k : List Key} {y : V} (h : zfj d = some k) (a : At F d y) : ∃ b, y = .ref b ∧ F b = some (.tup (k.map kV)) := by
  cases d with
  | tup ds =>
    obtain ⟨b, ys, rfl, hb, al⟩ := a.tup_inv
    rw [zcH (show zdm ds = some k from h) al] at hb
    exact ⟨b, rfl, hb⟩
  | _ => cases h
section
variable {κ : Type} [DecidableEq κ] (f : κ → List Key) (hf : ∀ a b, f a = f b → a = b)
include hf
theorem VG {F : Hp} {k : κ} : ∀ {kvs : List (κ × V)} {vs : List D}, AtL F vs (kvs.map (·.2)) →
    (∀ d, XJ (kvs.map fun p => f p.1) vs (f k) = some d → ∃ x, zcD kvs k = some x ∧ At F d x) ∧ (XJ (kvs.map fun p => f p.1) vs (f k) = none → zcD kvs k = none)
  | [], _, _ => ⟨fun d h => (by cases h), fun _ => rfl⟩
  | p :: kvs, [], a => by cases a.nil_inv
  | p :: kvs, v :: vs, a => by
    obtain ⟨x, r, e, a1, a2⟩ := a.cons_inv
    cases e
    have ih := VG (k := k) a2
    by_cases h : p.1 = k
    · rw [X0 h]
      have e : XJ ((p :: kvs).map fun p => f p.1) (v :: vs) (f k) = some v := by
        rw [List.map_cons, WT, if_pos (by rw [h])]
      rw [e]
      exact ⟨fun d z => (by cases z; exact ⟨_, rfl, a1⟩), fun z => (by cases z)⟩
    · rw [XZ h]
      have e : XJ ((p :: kvs).map fun p => f p.1) (v :: vs) (f k) = XJ (kvs.map fun p => f p.1) vs (f k) := by
        rw [List.map_cons, WT, if_neg (fun z => h (hf _ _ z))]
      rw [e]
      exact ih
theorem zfU {F : Hp} {k : κ} {kvs : List (κ × V)} {vs : List D} (a : AtL F vs (kvs.map (·.2))) : (XJ (kvs.map fun p => f p.1) vs (f k)).isSome = (zcD kvs k).isSome := by
  obtain ⟨h1, h2⟩ := VG f hf (k := k) a
  cases h : XJ (kvs.map fun p => f p.1) vs (f k) with
  | none => rw [h2 h]; rfl
  | some d => obtain ⟨x, e, _⟩ := h1 d h; rw [e]; rfl
theorem zdK {F : Hp} {k : κ} {d : D} {y : V} (ad : At F d y) : ∀ {kvs : List (κ × V)} {vs : List D}, AtL F vs (kvs.map (·.2)) →
    AtL F (zkI (kvs.map fun p => f p.1) vs (f k) d) ((kvs.map fun kv => if kv.1 = k then (kv.1, y) else kv).map (·.2))
  | [], _, _ => by unfold zkI; exact .nil
  | p :: kvs, [], a => by cases a.nil_inv
  | p :: kvs, v :: vs, a => by
    obtain ⟨x, r, e, a1, a2⟩ := a.cons_inv
    cases e
    have ih := zdK (k := k) ad a2
    rw [List.map_cons, List.map_cons]
    refine AtL.cons ?_ ih
    by_cases h : p.1 = k
    · rw [if_pos h, if_pos (by rw [h])]; exact ad
    · rw [if_neg h, if_neg (fun z => h (hf _ _ z))]; exact a1
theorem zdE {F : Hp} {k : κ} {d : D} {y : V} (ad : At F d y) {kvs : List (κ × V)} {vs : List D} (a : AtL F vs (kvs.map (·.2))) :
    (zbD kvs k y).map (fun p => f p.1) = zdw (kvs.map fun p => f p.1) vs (f k) ∧ AtL F (zcV (kvs.map fun p => f p.1) vs (f k) d) ((zbD kvs k y).map (·.2)) := by
  unfold zbD zdw zcV
  rw [zfU f hf a, VI]
  cases h : (zcD kvs k).isSome with
  | true =>
    rw [if_pos rfl, if_pos rfl, if_pos rfl]
    refine ⟨?_, zdK f hf ad a⟩
    rw [List.map_map]
    refine List.map_congr_left fun p _ => ?_
    by_cases e : p.1 = k
    · show f (if p.1 = k then (p.1, y) else p).1 = _; rw [if_pos e]
    · show f (if p.1 = k then (p.1, y) else p).1 = _; rw [if_neg e]
  | false =>
    rw [if_neg Bool.false_ne_true, if_neg Bool.false_ne_true, if_neg Bool.false_ne_true, List.map_append, List.map_append]
    exact ⟨rfl, a.append (.cons ad .nil)⟩
end
theorem zdX (a b : Key) (h : [a] = [b]) : a = b := by cases h; rfl
theorem zht (a b : List Key) (h : a = b) : a = b := h
theorem zey {F H : Hp} {a : Addr} {z t : Bool} {ks : List (List Key)} {xs : List V} {vs : List D} {kd : D} {k : List Key} {y : V} (s : yU F H) (hd : zaG F a z t ks xs) (al : AtL F vs xs) (hk : zh8 t kd = some k) (ak : At F kd y) :
    ∃ o, ziR H a y o ∧ (∀ d, XJ ks vs k = some d → ∃ x, o = some x ∧ At F d x) ∧ (XJ ks vs k = none → o = none) := by
  obtain ⟨u, hd, rd⟩ := (hd.mono s).rd
  unfold zb4 at hd
  unfold zh8 at hk
  cases t with
  | true =>
    rw [if_pos rfl] at hd hk
    obtain ⟨kvs, rfl, rfl, rfl⟩ := hd
    obtain ⟨b, rfl, hb⟩ := zbI hk ak
    exact ⟨_, .inr ⟨kvs, k, b, rd, rfl, s _ _ hb, rfl⟩, VG (fun k => k) zht al⟩
  | false =>
    rw [if_neg Bool.false_ne_true] at hd hk
    obtain ⟨kvs, rfl, rfl, rfl⟩ := hd
    obtain ⟨k0, h2, rfl⟩ := Option.map_eq_some_iff.mp hk
    rw [zbv h2 ak]
    exact ⟨_, .inl ⟨kvs, k0, rd, rfl, rfl⟩, VG (fun k => [k]) zdX al⟩
theorem zhI {F H : Hp} {a : Addr} {o : HO} {t : Bool} {ks : List (List Key)} {xs : List V} {vs : List D} {kd d : D} {k : List Key} {y v : V} {G : Hp} (h : H a = some o) (hd : zb4 o t ks xs) (al : AtL F vs xs) (hk : zh8 t kd = some k) (ak : At G kd y) (s : yU G H) (ad : At F d v)
    (hl : ks.length < sizeLine) : ∃ o', zfM H a y v (upd H a o') ∧ zdn F o' (.m t (zdw ks vs k) (zcV ks vs k d)) := by
  unfold zb4 at hd
  unfold zh8 at hk
  cases t with
  | true =>
    rw [if_pos rfl] at hd hk
    obtain ⟨kvs, rfl, rfl, rfl⟩ := hd
    obtain ⟨b, rfl, hb⟩ := zbI hk ak
    obtain ⟨q1, q2⟩ := zdE (fun k => k) zht (k := k) ad al
    refine ⟨_, zfM.t h (s _ _ hb) (by simpa using hl), _, ?_, q2⟩
    unfold zb4
    rw [if_pos rfl]
    exact ⟨_, rfl, q1, rfl⟩
  | false =>
    rw [if_neg Bool.false_ne_true] at hd hk
    obtain ⟨kvs, rfl, rfl, rfl⟩ := hd
    obtain ⟨k0, h2, rfl⟩ := Option.map_eq_some_iff.mp hk
    rw [zbv h2 ak]
    obtain ⟨q1, q2⟩ := zdE (fun k => [k]) zdX (k := k0) ad al
    refine ⟨_, zfM.k h (by simpa using hl), _, ?_, q2⟩
    unfold zb4
    rw [if_neg Bool.false_ne_true]
    exact ⟨_, rfl, q1, rfl⟩
noncomputable def VC : D → D → Option D
  | .dct _ t ks vs, kd => (zh8 t kd).bind fun k => XJ ks vs k
  | _, _ => none
noncomputable def zkK (neg : Bool) : D → D → Option D
  | kd, .dct _ t ks vs => (zh8 t kd).map fun k => .bl (neg != (XJ ks vs k).isSome)
  | _, _ => none
section
variable {X : Cx} {a b c : Expr} {pos apos : Pos}
theorem zb5 {k : Nat} {f h : Ev → Option D} (hr : Y1 k X.A) (ha : ED X a f) (hb : ED X b h) (hs : zll b) : ED X (.Subscript a b pos) (zk VC f h) := by
  obtain ⟨ta, pa, ra⟩ := ha
  obtain ⟨tb, pb, rb⟩ := hb
  refine ⟨_, zhQ (zfQ hr) pa pb hs, fun σ ρ F H z Q s va e q => ?_⟩
  obtain ⟨x, e1, e⟩ := Option.bind_eq_some_iff.mp e
  obtain ⟨y, e2, e⟩ := Option.bind_eq_some_iff.mp e
  refine ra σ ρ F H x _ s va e1 fun F1 H1 v g1 a1 => ?_
  refine rb σ ρ F1 H1 y _ g1.fh (va.mono g1.ff) e2 fun F2 H2 u g2 a2 => ?_
  cases x with
  | dct z' t ks vs =>
    obtain ⟨kk, h1, h2⟩ := Option.bind_eq_some_iff.mp e
    obtain ⟨p, xs, rfl, hd, al⟩ := (a1.mono g2.ff).dct_inv
    obtain ⟨o, hg, h3, _⟩ := zey g2.fh hd al h1 a2
    obtain ⟨w, rfl, aw⟩ := h3 z h2
    exact ⟨p, w, rfl, hg, q F2 H2 w (g1.trans g2) aw⟩
  | _ => cases e
noncomputable def rDIn (neg : Bool) : R2 := fun x y H Q => ∃ a o, y = .ref a ∧ ziR H a x o ∧ Q (.bl (neg != o.isSome)) H
theorem zd4 {k : Nat} (hr : Y1 k X.A) : OpR X (compareOp .NotIn) (rDIn true) := by
  intro pins s σ H x y v u Q I rx ry h
  obtain ⟨a, o, rfl, g, q⟩ := h
  obtain rfl : u = Value.ref a := ry
  exact ziE (zfQ hr) I g rx fun s3 I3 => ⟨.bl (!o.isSome), H, I3, rfl, by simpa using q⟩
theorem ziM {neg : Bool} : OpD (rDIn neg) (zkK neg) := by
  intro F H x y d e z Q s a1 a2 h q
  cases e with
  | dct z' t ks vs =>
    obtain ⟨k, h1, rfl⟩ := Option.map_eq_some_iff.mp h
    obtain ⟨p, xs, rfl, hd, al⟩ := a2.dct_inv
    obtain ⟨o, hg, h3, h4⟩ := zey s hd al h1 a1
    refine ⟨p, o, rfl, hg, ?_⟩
    have e : (XJ ks vs k).isSome = o.isSome := by
      cases h : XJ ks vs k with
      | none => rw [h4 h]; rfl
      | some d => obtain ⟨w, rfl, _⟩ := h3 d h; rfl
    rw [← e]
    exact q F H _ (.refl s) .bl
  | _ => cases h
end
section
variable {X : Cx} {a e ko : Expr} {pos pos' : Pos} {st : Stmt}
noncomputable def ziW (ρ : SE) (i : Nat) (kd d : D) : Option SE := match ρ[i]? with
  | some (.m t ks vs) => (zh8 t kd).bind fun k => if decide (ks.length < sizeLine) = true then some (ρ.set i (.m t (zdw ks vs k) (zcV ks vs k d))) else none
  | _ => none
noncomputable def zff (m : Bool) (i : Nat) (fk fe : Ev → Option D) : SE → Ctl := fun ρ => match (vEv m fe ρ).bind fun d => (fk (visG ρ)).bind fun kd => ziW ρ i kd d with
  | some ρ' => .nx ρ'
  | none => .no
theorem zir {k : Nat} {m : Bool} {i : Nat} {fk fe : Ev → Option D} (hr : Y1 k X.A) (he : ED X e fe) (ho : PE X a (zhi i)) (hk : ED X ko fk) (hs : swapsWith e (some (.Subscript a ko pos')) pos.line X.env = pure false := by rfl) : SD X (.Assign [.Subscript a ko pos'] e pos) (zff m i fk fe) := by
  obtain ⟨t, p, r⟩ := he
  obtain ⟨tk, pk, rk⟩ := hk
  refine ⟨_, zhB (zfQ hr) ho pk p hs, fun Fb Hb F H ρ σ E rl k => ?_⟩
  unfold zff at k
  cases h : (vEv m fe ρ).bind fun d => (fk (visG ρ)).bind fun kd => ziW ρ i kd d with
  | none => rw [h] at k; exact k.elim
  | some ρ' =>
    rw [h] at k
    obtain ⟨d, e1, e2⟩ := Option.bind_eq_some_iff.mp h
    obtain ⟨kd, e3, e2⟩ := Option.bind_eq_some_iff.mp e2
    unfold ziW at e2
    split at e2
    · rename_i tt ks vs hs
      obtain ⟨kk, e4, e5⟩ := Option.bind_eq_some_iff.mp e2
      have hl : decide (ks.length < sizeLine) = true := by
        cases hh : decide (ks.length < sizeLine) with
        | true => rfl
        | false => rw [hh, if_neg Bool.false_ne_true] at e5; cases e5
      rw [if_pos hl] at e5
      cases e5
      refine r.at rl e1 fun F' H' v g av => ?_
      have rl2 := rl.grow g
      obtain ⟨q, o, f1, _⟩ := rl2.ows i _ hs rfl
      refine ⟨_, f1, ?_⟩
      refine rk σ _ _ H' _ _ rl2.gh rl2.visG e3 fun F3 H3 v3 g3 av3 => ?_
      obtain ⟨gb, _⟩ := rl2.back g3
      have rl3 := rl2.grow gb
      obtain ⟨q3, o3, f1', _, _, f4, xs, f5, f6⟩ := rl3.ows i _ hs rfl
      rw [f1] at f1'
      cases f1'
      obtain ⟨o', hp, hw⟩ := zhI f4 f5 f6 e4 av3 g3.fh (av.mono gb.ff) (of_decide_eq_true hl)
      exact ⟨q, _, rfl, hp, k _ _ σ (rl3.mutW hs rfl f1 hw)⟩
    · cases e2
end
end
end Dl
namespace Dl
open PySem L2
variable [KK]
section
variable {X : Cx}
noncomputable def rNeL : R2 := fun x y H Q => ∃ F ds es, yU F H ∧ At F (.lst ds) x ∧ At F (.lst es) y ∧ okE 20 (.lst ds) = true ∧ okE 20 (.lst es) = true ∧ Q (.bl (!eqN 20 (.lst ds) (.lst es))) H
theorem zj2 {k : Nat} (hr : Y1 k X.A) : OpR X (compareOp .NotEq) rNeL := by
  intro pins s σ H x y v u Q I rx ry h
  obtain ⟨F, ds, es, sm, a1, a2, k1, k2, q⟩ := h
  have hu : X.A.units + 30 < cLine := by have := hr.un; omega
  obtain ⟨p, xs, rfl, hx, al⟩ := a1.lst_inv
  obtain ⟨p2, ys, rfl, hy, bl⟩ := a2.lst_inv
  cases rx
  cases ry
  obtain ⟨its, r, ht, hz⟩ := I.list (SqL.of (sm _ _ hx))
  obtain ⟨its2, r2, ht2, hz2⟩ := I.list (SqL.of (sm _ _ hy))
  have hl1 : its.toArray.size = ds.length := by rw [List.size_toArray, ← r.length, al.length]
  have hl2 : its2.toArray.size = es.length := by rw [List.size_toArray, ← r2.length, bl.length]
  have e1 : eqN 20 (.lst ds) (.lst es) = ((List.range (min ds.length es.length)).all (fun j => eqN 19 (ds.getD j .non) (es.getD j .non)) && ds.length == es.length) := by
    show ((List.zipWith (eqN 19) ds es).all id && ds.length == es.length) = _
    rw [VM]
  by_cases hle : ds.length = es.length
  · refine SeqAt.RcNeAt.lists (e := fun j => eqN 19 (ds.getD j .non) (es.getD j .non)) ht.isList ht2.isList (by rw [hl1, hl2]; exact hle) (Nat.lt_of_le_of_lt (Nat.le_add_right _ 30) hu) (fun j g1 g2 => ?_) _ _ _ _ ⟨.bl _, H, I, rfl, ?_⟩
    · obtain ⟨x', ax, rx⟩ := al.nth r (j := j) (by simpa using g1)
      obtain ⟨y', ay, ry⟩ := bl.nth r2 (j := j) (by simpa using g2)
      exact zaI I sm 19 (wd k1 (by rw [← hl1]; exact g1)) (wd k2 (by rw [← hl2]; exact g2)) ax ay (by simpa using rx) (by simpa using ry) (Nat.lt_of_le_of_lt (show X.A.units + 20 ≤ X.A.units + 30 from Nat.add_le_add_left (by decide) _) hu)
    · rw [hl1]
      rw [e1, ← hle, Nat.min_self] at q
      simpa using q
  · refine SeqAt.RcNeAt.lists_lengths ht.isList ht2.isList (by rw [hl1, hl2]; simpa using hle) (Nat.lt_of_le_of_lt (Nat.le_add_right _ 30) hu) _ _ _ _ ⟨.bl _, H, I, rfl, ?_⟩
    have : (ds.length == es.length) = false := by simpa using hle
    rw [e1, this, Bool.and_false] at q
    exact q
end
noncomputable def zjY : D → D → Option D
  | .lst ds, .lst es => if (okE 20 (.lst ds) && okE 20 (.lst es)) = true then some (.bl (!eqN 20 (.lst ds) (.lst es))) else none
  | _, _ => none
theorem zhO : OpD rNeL zjY := by
  intro F H x y d e z Q s ax ay ez q
  unfold zjY at ez
  split at ez
  · split at ez <;> cases ez
    rename_i hk
    rw [Bool.and_eq_true] at hk
    exact ⟨F, _, _, s, ax, ay, hk.1, hk.2, q F H _ (.refl s) .bl⟩
  · cases ez
omit [KK] in
theorem zft {ds : List D} (h : okE 20 (.lst ds) = true) : zjY (.lst ds) (.lst []) = some (.bl (!ds.isEmpty)) := by
  show (if (okE 20 (.lst ds) && true) = true then some (D.bl (!eqN 20 (.lst ds) (.lst []))) else none) = _
  rw [Bool.and_true, if_pos h]
  cases ds <;> rfl
end Dl
namespace L2
open PySem PySem.Spec PyProof.Rows
section
variable {prog : Program} {w : World} {A : Around} {E : Value → Shared → Prop} {s : Shared} {d it : Addr} {o : Obj} {es : Array DictEntry} {ep i : Nat}
theorem zfA {Q : Value → Shared → Prop} (hs : (d == sysModules) = false) (ho : s.heap.get? d = some o) (hc : o.ExactDict) (hd : o.data = .dict es ep)
    (hQ : Q (.ref s.heap.objs.size) { s with heap := s.heap.push { cls := .type "dict_keyiterator", data := .fields #[.ref d, .int 0 0, .int es.size 0, .int ep 0] } }) : wpAny (model prog w) A (pyIter (.ref d)) Q E s := by
  have hT : s.TypeIs (.ref d) "dict" := ⟨o, ho, hc.1⟩
  refine wpAny_pyIter_slot hT PySem.F.slot_dict_iter (wpAny_call_entry PySem.F.slot_dict_iter hT PySem.F.entry_dict_iter ?_ (PySem.F.args_dict_iter_1 _))
  unfold Builtin.«dict.__iter__»
  refine wpAny_bind ?_
  unfold Builtin.Dict.dictSlotNone
  refine wpAny_bind (wpAny_notOrdered_dict hT ?_)
  show wpAny _ _ (pure (Value.ref d)) _ _ s
  refine wpAny_pure ?_
  show wpAny _ _ (Builtin.Dict.showsAll d >>= _) _ _ s
  unfold Builtin.Dict.showsAll
  rw [if_neg (by rw [hs]; exact Bool.false_ne_true)]
  refine wpAny_bind (wpAny_pure (wpAny_bind (wpAny_dictEntries ho hd (wpAny_bind (wpAny_dictEpoch ho hd ?_)))))
  refine wpAny_bind (wpAny_newObj_type (wpAny_pure ⟨_, rfl, "dict_keyiterator", _, ⟨_, Heap.get?_push_size _ rfl, rfl⟩, PySem.F.slot_dict_keyiterator_next.lookup, ?_⟩))
  simpa [rawInt] using hQ
theorem zfl {e : DictEntry} {Q : Option Value → Shared → Prop} (hit : s.heap.IsKeyIter it d i es.size ep) (ho : s.heap.get? d = some o) (hd : o.data = .dict es ep) (hx : es[i]? = some e)
    (hQ : ∀ h', h'.IsKeyIter it d (i + 1) es.size ep → Heap.SameBut it s.heap h' → Q (some e.key) { s with heap := h' }) : wpAny (model prog w) A (pyNext (.ref it)) Q E s := by
  obtain ⟨oi, hoi, hci, hdi⟩ := id hit
  unfold pyNext
  refine wpAny_bind (wpAny_attempt (wpAny_callSpecial?_slot (name := Str.ofString "__next__") hit.typeIs PySem.F.slot_dict_keyiterator_next
    (wpAny_call_entry PySem.F.slot_dict_keyiterator_next hit.typeIs PySem.F.entry_dict_keyiterator_next ?_ (PySem.F.args_dict_keyiterator_next_1 _))))
  refine wpAny_bind (wpAny_pure ?_)
  refine wpAny_bind ?_
  refine wpAny_bind ?_
  first | refine wpAny_bind (wpAny_typeNameOfWhole_keyiter hit.typeIs (wpAny_pure ?_)) | refine wpAny_bind (wpAny_typeNameOf_keyiter hit.typeIs (wpAny_pure ?_))
  refine wpAny_bind (wpAny_fieldsOf hoi hdi ?_)
  have hown : Builtin.Dict_items.ownsTuple "dict_keyiterator" = false := by decide
  simp only [hown, Bool.false_eq_true, if_false]
  show wpAny _ _ (if (Value.ref d == Value.none) = true then _ else _) _ _ s
  rw [if_neg (show ¬ ((Value.ref d == Value.none) = true) from Bool.false_ne_true)]
  refine wpAny_bind (wpAny_pure (wpAny_bind (wpAny_dictEntries ho hd ?_)))
  rw [if_neg (by simp)]
  refine wpAny_bind (wpAny_pure (wpAny_bind (wpAny_dictEpoch ho hd ?_)))
  rw [if_neg (by simp)]
  refine wpAny_pure ?_
  simp only [show ¬ ((i : Int) < 0) from by omega, if_false, Int.toNat_natCast, hx]
  refine wpAny_bind ?_
  first | refine wpAny_bind (wpAny_typeNameOfWhole_keyiter hit.typeIs (wpAny_pure ?_)) | refine wpAny_bind (wpAny_typeNameOf_keyiter hit.typeIs (wpAny_pure ?_))
  refine wpAny_bind (wpAny_isOneOf_keyiter hit.typeIs ?_)
  show wpAny _ _ (setField (.ref it) 1 (rawInt ((i : Int) + 1)) >>= _) _ _ s
  refine wpAny_bind (wpAny_setField hoi hdi (by simp) ?_)
  have hit' : (s.heap.update it (Obj.mapFields (·.setIfInBounds 1 (rawInt ((i : Int) + 1))))).IsKeyIter it d (i + 1) es.size ep :=
    ⟨_, Heap.get?_update_self _ hoi (Obj.isFreed_of_fields (Obj.data_mapFields hdi _)), (Obj.cls_mapFields ..).trans hci, by rw [Obj.data_mapFields hdi]; simp [rawInt]⟩
  refine wpAny_bind (wpAny_holding ?_)
  refine wpAny_bind (wpAny_isOneOf_keyiter (s := { s with heap := s.heap.update it (Obj.mapFields (·.setIfInBounds 1 (rawInt ((i : Int) + 1)))) }) hit'.typeIs ?_)
  show wpAny _ _ (pure e.key) _ _ _
  exact wpAny_pure (wpAny_pure ⟨_, rfl, wpAny_pure (hQ _ hit' (Heap.SameBut.update ..))⟩)
theorem ziJ {Q : Option Value → Shared → Prop} (hh : A.handled = none) (hit : s.heap.IsKeyIter it d i es.size ep) (ho : s.heap.get? d = some o) (hd : o.data = .dict es ep) (hx : es.size ≤ i)
    (hQ : ∀ h', Heap.ExtBut it s.heap h' → Q none { s with heap := h' }) : wpAny (model prog w) A (pyNext (.ref it)) Q E s := by
  obtain ⟨oi, hoi, hci, hdi⟩ := id hit
  unfold pyNext
  refine wpAny_bind (wpAny_attempt (wpAny_callSpecial?_slot (name := Str.ofString "__next__") hit.typeIs PySem.F.slot_dict_keyiterator_next
    (wpAny_call_entry PySem.F.slot_dict_keyiterator_next hit.typeIs PySem.F.entry_dict_keyiterator_next ?_ (PySem.F.args_dict_keyiterator_next_1 _))))
  refine wpAny_bind (wpAny_pure ?_)
  refine wpAny_bind ?_
  refine wpAny_bind ?_
  first | refine wpAny_bind (wpAny_typeNameOfWhole_keyiter hit.typeIs (wpAny_pure ?_)) | refine wpAny_bind (wpAny_typeNameOf_keyiter hit.typeIs (wpAny_pure ?_))
  refine wpAny_bind (wpAny_fieldsOf hoi hdi ?_)
  have hown : Builtin.Dict_items.ownsTuple "dict_keyiterator" = false := by decide
  simp only [hown, Bool.false_eq_true, if_false]
  show wpAny _ _ (if (Value.ref d == Value.none) = true then _ else _) _ _ s
  rw [if_neg (show ¬ ((Value.ref d == Value.none) = true) from Bool.false_ne_true)]
  refine wpAny_bind (wpAny_pure (wpAny_bind (wpAny_dictEntries ho hd ?_)))
  rw [if_neg (by simp)]
  refine wpAny_bind (wpAny_pure (wpAny_bind (wpAny_dictEpoch ho hd ?_)))
  rw [if_neg (by simp)]
  refine wpAny_pure ?_
  simp only [show ¬ ((i : Int) < 0) from by omega, if_false, Int.toNat_natCast, Array.getElem?_eq_none hx]
  refine wpAny_bind ?_
  first | refine wpAny_bind (wpAny_typeNameOfWhole_keyiter hit.typeIs (wpAny_pure ?_)) | refine wpAny_bind (wpAny_typeNameOf_keyiter hit.typeIs (wpAny_pure ?_))
  show wpAny _ _ (setField (.ref it) 0 .none >>= _) _ _ s
  refine wpAny_bind (wpAny_setField hoi hdi (by simp) ?_)
  show wpAny _ _ (newExc (.type "StopIteration") [] >>= _) _ _ _
  refine wpAny_bind ?_
  simp only [newExc, newTuple]
  refine wpAny_bind (wpAny_newObj_type ?_ (by size_fits))
  refine wpAny_bind (m := firstArgMember _ _) (wpAny_of_eq (a := Value.none) (by first | rfl | (simp only [firstArgMember]; rfl)) ?_)
  refine wpAny_newObj_type ?_ (by size_fits)
  simp only [raiseNew]
  refine wpAny_bind (wpAny_handled ?_)
  rw [show A.in1.handled = none from hh]
  refine wpAny_bind (wpAny_pure (wpAny_throw ?_))
  refine wpAny_bind (wpAny_isInstance (T := "StopIteration") (b := true) ⟨_, Heap.get?_push_size _ rfl, rfl⟩ isSubtype_stop ?_)
  exact wpAny_pure (hQ _ (((Heap.SameBut.update ..).extBut.push _).push _))
end
noncomputable def zko : HO → Nat
  | .dK kvs => kvs.length
  | .dT kvs => kvs.length
  | _ => 0
noncomputable def zbq (u : HO) : Prop := (∃ kvs, u = .dK kvs) ∨ ∃ kvs, u = .dT kvs
noncomputable def zi5 (H : Hp) (u : HO) (i : Nat) (x : V) : Prop := match u with
  | .dK kvs => ∃ p, kvs[i]? = some p ∧ x = kV p.1
  | .dT kvs => ∃ p b, kvs[i]? = some p ∧ x = .ref b ∧ H b = some (.tup (p.1.map kV))
  | _ => False
theorem zi4 {P : Program} {w : World} {k : Key} {v : Value} (h : (yO P w).is k v = true) : yN (kV k) v := by
  rcases yt h with ⟨i, t, rfl, rfl⟩ | ⟨x, t, rfl, rfl⟩
  · exact ⟨t, rfl⟩
  · exact ⟨t, rfl⟩
structure DObj (H : Hp) (a : Addr) (ob : Obj) (u : HO) (es : Array DictEntry) (ep : Nat) : Prop where
  sys : (a == sysModules) = false
  exact_ : ob.ExactDict
  data : ob.data = .dict es ep
  size : es.size = zko u
theorem zbP {P : Program} {w : World} {H : Hp} {h : Heap} {a : Addr} {ob : Obj} {u : HO} (ok : yZ P w H h a (.frz ob u)) (hu : zbq u) : h.get? a = some ob ∧ ∃ es ep, DObj H a ob u es ep ∧ ∀ (i : Nat) (e : DictEntry), es[i]? = some e → ∃ x, yN x e.key ∧ zi5 H u i x := by
  obtain ⟨e0, ok⟩ := ok
  rcases hu with ⟨kvs, rfl⟩ | ⟨kvs, rfl⟩
  · obtain ⟨_, sys, vs, kv, o, es, ep, e1, ex, dt, ko, pr, nd⟩ := ok
    rw [e0] at e1
    cases e1
    have hl : es.size = vs.length := by rw [← pr.length]; simp
    refine ⟨e0, es, ep, ⟨sys, ex, dt, by rw [hl, ← kv.length]; rfl⟩, fun i e he => ?_⟩
    have hi : i < kvs.length := by
      have := (Array.getElem?_eq_some_iff.mp he).1
      rw [kv.length]; omega
    have hv : i < vs.length := by rw [← kv.length]; exact hi
    have h1 := pr.get? (i := i) (e := e) (k := vs[i].1) (v := vs[i].2) (by simpa using he) (by simp [hv])
    have hk : kvs[i].1 = vs[i].1 := by
      have := congrArg (fun l => l[i]?) kv.keys
      simp only [List.getElem?_map] at this
      rw [List.getElem?_eq_getElem hi, List.getElem?_eq_getElem hv] at this
      exact Option.some.inj this
    exact ⟨kV kvs[i].1, by rw [hk]; exact zi4 h1.1, kvs[i], List.getElem?_eq_getElem hi, rfl⟩
  · obtain ⟨_, sys, xs, pr, o, es, ep, e1, ex, dt, he, nd⟩ := ok
    rw [e0] at e1
    cases e1
    have hl : es.size = xs.length := by rw [← Array.length_toList, he, List.length_map]
    have hp := Paired.length pr
    refine ⟨e0, es, ep, ⟨sys, ex, dt, by rw [hl, ← hp]; rfl⟩, fun i e hei => ?_⟩
    have hx : i < xs.length := by
      have := (Array.getElem?_eq_some_iff.mp hei).1
      omega
    have hi : i < kvs.length := by omega
    have e2 : e = entryOfKey (tupleKind (yO P w)) xs[i] := by
      have : es.toList[i]? = some e := by simpa using hei
      rw [he, List.getElem?_map, List.getElem?_eq_getElem hx] at this
      exact (Option.some.inj this).symm
    have rel : ∀ {l : List (List Key × V)} {m : List (List Key × Addr × Value)}, Paired (fun p q => p.1 = q.1 ∧ H q.2.1 = some (.tup (p.1.map kV)) ∧ yN p.2 q.2.2) l m → ∀ (j : Nat) (h1 : j < l.length) (h2 : j < m.length), l[j].1 = m[j].1 ∧ H m[j].2.1 = some (.tup (l[j].1.map kV)) := fun {l m} r => by
      induction r with
      | nil => intro j h1; simp at h1
      | cons h t ih =>
        intro j h1 h2
        cases j with
        | zero => exact ⟨h.1, h.2.1⟩
        | succ j => exact ih j (by simpa using h1) (by simpa using h2)
    obtain ⟨_, r2⟩ := rel pr i hi hx
    subst e2
    exact ⟨.ref xs[i].2.1, rfl, kvs[i], xs[i].2.1, List.getElem?_eq_getElem hi, rfl, r2⟩
noncomputable def Itf (a : Addr) (ob : Obj) (u : HO) : It :=
  ⟨fun i H => H a = some (.frz ob u) ∧ i < zko u, fun i H x H' => H' = H ∧ zi5 H u i x, fun i H => H a = some (.frz ob u) ∧ zko u ≤ i⟩
theorem zek {P : Program} {w : World} {K : PySem.W.Frag} {tg : Expr} {a it : Addr} {ob : Obj} {u : HO} {es : Array DictEntry} {ep : Nat} (hu : zbq u) (hn : es.size = zko u) (hd : ob.data = .dict es ep) : zg6 P w K tg (Itf a ob u) [it] it (fun i h => h.IsKeyIter it a i es.size ep) where
  mem := by simp
  obj := fun i h st b hb => by
    have e : b = it := by simpa using hb
    subst e
    obtain ⟨o, e, c, d⟩ := st
    exact ⟨o, e, fun v z => by rw [d] at z; cases z⟩
  keep := fun i h h' st k => by
    obtain ⟨o, e, r⟩ := st
    exact ⟨o, k it (by simp) o e, r⟩
  item := by
    intro X hP hw hK hc i pins s σ H E I hf st hg
    subst hP hw hK
    obtain ⟨e1, hi⟩ := hg
    obtain ⟨e0, es', ep', D, ky⟩ := zbP (I.hok a _ e1) hu
    have e2 := D.data
    rw [hd] at e2
    cases e2
    obtain ⟨f0, f1, f2, f3, f4, f5⟩ := hf it (by simp)
    have hlt : i < es.size := by omega
    obtain ⟨x, rx, kx⟩ := ky i es[i] (Array.getElem?_eq_getElem hlt)
    refine zfl st e0 hd (Array.getElem?_eq_getElem hlt) fun h' st' sb => ?_
    have I1 : Inv X pins σ H { s with heap := h' } := I.turned (t' := s.toks) (fun b o hb e => (sb.2 b hb).trans e) f0 f1 f3 f4 f5
    obtain ⟨o, e, c, d⟩ := id st'
    exact ⟨_, rfl, zfN (s := { s with heap := h' }) e c d (by decide) ⟨x, H, I1, rx, ⟨rfl, kx⟩, st', fun b hb => (hf b hb).1⟩⟩
  done := by
    intro X hP hw hK hc i pins s σ H E I hf st hg
    subst hP hw hK
    obtain ⟨e1, hi⟩ := hg
    obtain ⟨e0, es', ep', D, ky⟩ := zbP (I.hok a _ e1) hu
    obtain ⟨f0, f1, f2, f3, f4, f5⟩ := hf it (by simp)
    exact ziJ (I.ok.hd hc) st e0 hd (by omega) fun h' eb => ⟨rfl, I.turned (t' := s.toks) (fun b o hb e => eb b o hb e) f0 f1 f3 f4 f5⟩
  self := fun _ _ _ _ _ st h => wpAny_pyIter_keyiter st h
section
variable {X : Cx} {tg : Expr}
noncomputable def zlg (tl : TE) : TI := fun σ H R => tl σ H fun x H1 => ∃ a ob u, x = .ref a ∧ H1 a = some (.frz ob u) ∧ zbq u ∧ R (Itf a ob u) H1
theorem zhz {l : Expr} {tl : TE} (hl : PE X l tl) : PI X tg l (zlg tl) := by
  intro pins s σ H R I h
  refine thn (hl pins s σ H _ I h) fun v s1 hh9 => ?_
  obtain ⟨x, H1, I1, r1, q1⟩ := hh9
  obtain ⟨a, ob, u, e, e1, hu, q⟩ := q1
  subst e
  cases r1
  obtain ⟨e0, es, ep, D, _⟩ := zbP (I1.hok a _ e1) hu
  refine zfA D.sys e0 D.exact_ D.data ?_
  refine ⟨s1.heap.objs.size, [s1.heap.objs.size], _, _, H1, rfl, I1.kept (t' := s1.toks) fun b o e => Heap.get?_push_of_some _ e, zek hu D.size D.data, ⟨_, Heap.get?_push_size _ rfl, rfl, rfl⟩, fun b hb => ?_, q⟩
  have e : b = s1.heap.objs.size := by simpa using hb
  subst e
  exact I1.fpOk (Nat.le_refl _) (I1.hok.fresh (Nat.le_refl _))
theorem Inv.frz {pins : List (Addr × Obj)} {σ : St} {H : Hp} {s : Shared} {p : Addr} {u : HO} (I : Inv X pins σ H s) (e : H p = some u) (hu : zbq u) : ∃ ob, Inv X pins σ (upd H p (.frz ob u)) s := by
  have ok := I.hok p u e
  have mu : Mut (H p) := by
    rw [e]
    rcases hu with ⟨kvs, rfl⟩ | ⟨kvs, rfl⟩ <;> exact True.intro
  rcases hu with ⟨kvs, rfl⟩ | ⟨kvs, rfl⟩
  · obtain ⟨z, sys, vs, kv, o, es, ep, e1, r⟩ := ok
    refine ⟨o, I.write (h' := s.heap) (t' := s.toks) mu (.inl rfl) (fun b u _ e => e) ⟨o, e1⟩ ⟨e1, z, sys, vs, kv, o, es, ep, e1, r⟩⟩
  · obtain ⟨z, sys, xs, pr, o, es, ep, e1, r⟩ := ok
    refine ⟨o, I.write (h' := s.heap) (t' := s.toks) mu (.inl rfl) (fun b u _ e => e) ⟨o, e1⟩ ⟨e1, z, sys, xs, ?_, o, es, ep, e1, r⟩⟩
    exact KT.keeps pr fun b ys eb => by
      rw [zw (zhF eb e (fun z => nomatch z))]
      exact eb
noncomputable def tFrz (i : Nat) (t : TS) : TS := fun E σ H => ∃ p u, σ[i]? = some (some (.ref p)) ∧ H p = some u ∧ zbq u ∧ ∀ ob, t E σ (upd H p (.frz ob u))
theorem zia {sts : List Stmt} {t : TS} (i : Nat) (h : PSs X sts t) : PSs X sts (tFrz i t) := by
  intro pins s σ H E I q
  obtain ⟨p, u, _, e, hu, q⟩ := q
  obtain ⟨ob, I2⟩ := I.frz e hu
  exact h pins s σ _ E I2 (q ob)
noncomputable def zgN (z : Bool) (tk tv : TE) : TE := fun σ H Q => ∀ p, H p = none → tk σ (upd H p (.dT [])) fun x H1 => tv σ H1 fun y H2 => H2 p = some (.dT []) ∧ ∃ b k, x = .ref b ∧ H2 b = some (.tup (k.map kV)) ∧
  if z = true then ∀ ob, Q (.ref p) (upd H2 p (.frz ob (.dT [(k, y)]))) else Q (.ref p) (upd H2 p (.dT [(k, y)]))
theorem zge {z : Bool} {k v : Expr} {pos : Pos} {tk tv : TE} (hu : X.A.units + 1 < cLine) (hk : PE X k tk) (hv : PE X v tv) : PE X (.Dict [some k] [v] pos) (zgN z tk tv) := by
  intro pins s σ H Q I q
  have hn := I.hok.fresh (Nat.le_refl s.heap.objs.size)
  have I1 := I.laid (a := s.heap.objs.size) (o := .dT []) (h' := s.heap.push { cls := .type "dict", data := .dict #[] }) (t' := s.toks) (fun _ _ q => Heap.get?_push_of_some _ q) (Nat.le_refl _) (zfp s.heap I.big)
  refine wpAny_Dict_any (by rfl) rfl (by simp) (by simp) ?_
  refine pairTrees_cons_walk (thn (hk pins _ σ _ _ I1 (q _ hn)) fun u s1 ⟨x, H1, I1, rx, q1⟩ => thn (hv pins s1 σ H1 _ I1 q1) fun w2 s2 hh9 => ?_)
  obtain ⟨y, H2, I2, ry, q2⟩ := hh9
  obtain ⟨e, b, kk, ex, eb, q2⟩ := q2
  subst ex
  obtain rfl : u = Value.ref b := rx
  refine pairTrees_nil_walk ?_
  unfold storeAll
  simp only [List.forIn_cons, List.forIn_nil]
  obtain ⟨zz, hd, xs, rel, dd⟩ := zkk I2.hok e
  cases rel
  refine wpAny_bind (wpAny_bind (wpAny_dictSet_heap (hsz := Nat.zero_le _) (show (tupleKind (yO X.prog X.w)).room X.A from Nat.lt_of_succ_lt hu) (zaF I2.hok eb) dd fun h' dd' hs => wpAny_pure (wpAny_pure ?_)))
  have dd2 := dd'
  obtain ⟨q, es, ep, hq, h2, h3, h4, _, h5⟩ := dd'
  have I3 := zb6 (t' := s2.toks + (tupleKind (yO X.prog X.w)).draws kk) (ob := .dT [(kk, y)]) I2 (by rw [e]; exact True.intro) hs ⟨q, hq⟩ ⟨by show 1 ≤ sizeLine; decide, hd, _, ((show KT H2 [] [] from .nil).put kk eb ry).keeps fun c ys ec => by
    rw [zw (zhF ec e (fun z => nomatch z))]
    exact ec, q, es, ep, hq, h2, h3, h4, h5⟩
  cases z with
  | false => exact ⟨.ref s.heap.objs.size, _, I3, rfl, by rw [if_neg Bool.false_ne_true] at q2; exact q2⟩
  | true =>
    rw [if_pos rfl] at q2
    obtain ⟨ob, I4⟩ := I3.frz (p := s.heap.objs.size) (u := .dT [(kk, y)]) zt (.inr ⟨_, rfl⟩)
    rw [zbg] at I4
    exact ⟨.ref s.heap.objs.size, _, I4, rfl, q2 ob⟩
end
end L2
namespace Dl
open PySem L2
noncomputable def k1D : Key → D
  | .inl i => .int i
  | .inr x => .str x
noncomputable def zcc (t : Bool) (k : List Key) : D := if t = true then .tup (k.map k1D) else match k with
  | [a] => k1D a
  | _ => .non
noncomputable def zci : D → Option (List D)
  | .dct true t ks _ => some (ks.map (zcc t))
  | _ => none
section
variable [KK]
theorem zg3 {F : Hp} (k : Key) : At F (k1D k) (kV k) := by
  cases k with
  | inl i => exact .int
  | inr x => exact .str
theorem zd0 {F : Hp} : ∀ ks : List Key, AtL F (ks.map k1D) (ks.map kV)
  | [] => .nil
  | k :: ks => .cons (zg3 k) (zd0 ks)
theorem zbS {u : HO} {t : Bool} {ks : List (List Key)} {xs : List V} (h : zb4 u t ks xs) : zbq u ∧ zko u = ks.length := by
  unfold zb4 at h
  cases t with
  | true => rw [if_pos rfl] at h; obtain ⟨kvs, rfl, rfl, _⟩ := h; exact ⟨.inr ⟨_, rfl⟩, by rw [List.length_map]; rfl⟩
  | false => rw [if_neg Bool.false_ne_true] at h; obtain ⟨kvs, rfl, rfl, _⟩ := h; exact ⟨.inl ⟨_, rfl⟩, by rw [List.length_map]; rfl⟩
theorem Gr.see {F H : Hp} {b : Addr} {ys : List V} (s : yU F H) (h : H b = some (.tup ys)) : ∃ F', Gr F H F' H ∧ F' b = some (.tup ys) := by
  cases e : F b with
  | some o =>
    have := s _ _ e
    rw [h] at this
    cases this
    exact ⟨F, .refl s, e⟩
  | none =>
    refine ⟨upd F b (.tup ys), ⟨fun p o z => ?_, fun p o z => ?_, fun p o z1 z2 => ⟨?_, z2⟩⟩, zt⟩
    · rw [zw (zq z e)]; exact z
    · by_cases hp : p = b
      · subst hp; rw [zt] at z; cases z; exact h
      · rw [zw hp] at z; exact s p o z
    · by_cases hp : p = b
      · subst hp
        rw [h] at z2
        cases z2
        exact .inr ⟨⟨_, rfl⟩, zt⟩
      · exact .inl (by rw [zw hp]; exact z1)
theorem zkp {F : Hp} {a : Addr} {ob : Obj} {u : HO} {t : Bool} {ks : List (List Key)} {xs : List V} (h : F a = some (.frz ob u)) (hd : zb4 u t ks xs) : ziT (Itf a ob u) F (ks.map (zcc t)) := by
  intro i F2 H2 s1 s2
  have e2 := s2 _ _ (s1 _ _ h)
  obtain ⟨_, hl⟩ := zbS hd
  refine ⟨fun hi => ⟨e2, by rw [hl, hi, List.length_map]; exact Nat.le_refl _⟩, fun d hdi => ?_⟩
  rw [List.getElem?_map] at hdi
  obtain ⟨k, hk, rfl⟩ := Option.map_eq_some_iff.mp hdi
  refine ⟨⟨e2, by rw [hl]; exact (List.getElem?_eq_some_iff.mp hk).1⟩, fun x H3 hy => ?_⟩
  obtain ⟨rfl, hy⟩ := hy
  unfold zb4 at hd
  cases t with
  | true =>
    rw [if_pos rfl] at hd
    obtain ⟨kvs, rfl, rfl, _⟩ := hd
    obtain ⟨p, b, hp, rfl, hb⟩ := hy
    rw [List.getElem?_map, hp] at hk
    cases hk
    obtain ⟨F3, g, hF⟩ := Gr.see s2 hb
    exact ⟨F3, g, .tup hF (zd0 _)⟩
  | false =>
    rw [if_neg Bool.false_ne_true] at hd
    obtain ⟨kvs, rfl, rfl, _⟩ := hd
    obtain ⟨p, hp, rfl⟩ := hy
    rw [List.getElem?_map, hp] at hk
    cases hk
    exact ⟨F2, .refl s2, zg3 _⟩
section
variable {X : Cx} {tg a b e k v : Expr} {pos pos' : Pos} {sts : List Stmt}
noncomputable def iDct (f : Ev → Option D) : Ev → Option (List D) := fun ρ => (f ρ).bind zci
theorem zh7 {f : Ev → Option D} (ha : ED X a f) : ID X tg a (iDct f) := by
  obtain ⟨t, p, r⟩ := ha
  refine ⟨_, zhz p, fun σ ρ F H ds R s va e q => ?_⟩
  obtain ⟨d, e1, e2⟩ := Option.bind_eq_some_iff.mp e
  refine r σ ρ F H d _ s va e1 fun F1 H1 v g1 a1 => ?_
  unfold zci at e2
  split at e2
  · cases e2
    obtain ⟨p, xs, rfl, ⟨u, hd, hz⟩, _⟩ := a1.dct_inv
    rw [if_pos rfl] at hz
    obtain ⟨ob, hz⟩ := hz
    exact ⟨p, ob, u, rfl, g1.fh _ _ hz, (zbS hd).1, q F1 H1 _ g1 (zkp hz hd)⟩
  · cases e2
noncomputable def zlz (i : Nat) (g : SE → Ctl) : SE → Ctl := fun ρ => match ρ[i]? with
  | some (.m t ks vs) => g (ρ.set i (.v (.dct true t ks vs)))
  | _ => .no
theorem Rl.fzM {Fb Hb F H : Hp} {ρ : SE} {σ : St} {i : Nat} {t : Bool} {ks : List (List Key)} {vs : List D} (r : Rl Fb Hb F H ρ σ) (h : ρ[i]? = some (.m t ks vs)) :
    ∃ p u, σ[i]? = some (some (.ref p)) ∧ H p = some u ∧ zbq u ∧ ∀ ob, Rl Fb Hb (upd F p (.frz ob u)) (upd H p (.frz ob u)) (ρ.set i (.v (.dct true t ks vs))) σ := by
  obtain ⟨p, u, e1, e2, e3, e4, xs, hd, al⟩ := r.ows i _ h rfl
  refine ⟨p, u, e1, e4, (zbS hd).1, fun ob => ?_⟩
  have hi : i < ρ.length := (List.getElem?_eq_some_iff.mp h).1
  have sF : yU F (upd F p (.frz ob u)) := fun b o e => by rw [zw (zq e e3)]; exact e
  have nj : ∀ {j : Nat} {s : Sl}, (ρ.set i (.v (.dct true t ks vs)))[j]? = some s → s.isO = true → i ≠ j := fun {j s} h ht e => by
    subst e
    rw [List.getElem?_set_self hi] at h
    cases h
    cases ht
  refine ⟨⟨r.gr.ff.trans sF, fun b o z => ?_, fun b o z1 z2 => ?_⟩, fun j d z => ?_, fun j s z ht => ?_, fun j k q s s' h1 h2 o1 o2 h3 h4 => ?_, by simp [r.len]⟩
  · by_cases hb : b = p
    · subst hb; rw [zt] at z ⊢; exact z
    · rw [zw hb] at z ⊢; exact r.gr.fh b o z
  · have hb : b ≠ p := zq z2 e2
    obtain ⟨x, y⟩ := r.gr.kp b o z1 z2
    refine ⟨?_, by rw [zw hb]; exact y⟩
    unfold Hid
    rw [zw hb]
    exact x
  · by_cases hj : i = j
    · subst hj
      rw [List.getElem?_set_self hi] at z
      cases z
      refine ⟨_, e1, ?_⟩
      unfold At
      exact ⟨p, xs, rfl, ⟨u, hd, by rw [if_pos rfl]; exact ⟨ob, zt⟩⟩, al.mono sF⟩
    · rw [List.getElem?_set_ne hj] at z
      obtain ⟨v, f1, f2⟩ := r.vals j d z
      exact ⟨v, f1, f2.mono sF⟩
  · have hj := nj z ht
    rw [List.getElem?_set_ne hj] at z
    obtain ⟨q, y, f1, f2, f3, f4, f5⟩ := r.ows j s z ht
    have hq : q ≠ p := fun w => hj (r.dis i j p _ s h z rfl ht e1 (by rw [← w]; exact f1))
    exact ⟨q, y, f1, f2, by rw [zw hq]; exact f3, by rw [zw hq]; exact f4, f5.mono sF⟩
  · have a1 := nj h1 o1
    have a2 := nj h2 o2
    rw [List.getElem?_set_ne a1] at h1
    rw [List.getElem?_set_ne a2] at h2
    exact r.dis j k q s s' h1 h2 o1 o2 h3 h4
theorem zhP {g : SE → Ctl} (i : Nat) (h : SDs X sts g) : SDs X sts (zlz i g) := by
  obtain ⟨t, p, r⟩ := h
  refine ⟨_, zia i p, fun Fb Hb F H ρ σ E rl k => ?_⟩
  unfold zlz at k
  split at k
  · rename_i tt ks vs hs
    obtain ⟨q, u, e1, e2, e3, e4⟩ := rl.fzM hs
    exact ⟨q, u, e1, e2, e3, fun ob => r Fb Hb _ _ _ σ E (e4 ob) k⟩
  · exact k.elim
theorem zeB {z : Bool} {tk tv : TE} {fk fv : Ev → Option D} {σ : St} {ρ : Ev} {F H : Hp} {kd d : D} {kk : List Key} {Q : VK} (rk : RE tk fk) (rv : RE tv fv) (s : yU F H) (va : VAt F ρ σ) (e1 : fk ρ = some kd) (e2 : fv ρ = some d) (e3 : zfj kd = some kk)
    (q : ∀ F2 H2 p y, Gr F H F2 H2 → H p = none → F2 p = none → H2 p = some (.dT []) → At F2 d y → if z = true then ∀ ob, Q (.ref p) (upd H2 p (.frz ob (.dT [(kk, y)]))) else Q (.ref p) (upd H2 p (.dT [(kk, y)]))) : zgN z tk tv σ H Q := by
  intro p hp
  have g0 := Gr.hide s hp (.dT [])
  refine rk σ ρ F _ kd _ g0.fh va e1 fun F1 H1 x g1 a1 => ?_
  refine rv σ ρ F1 H1 d _ g1.fh (va.mono g1.ff) e2 fun F2 H2 y g2 a2 => ?_
  have g12 := g1.trans g2
  obtain ⟨n2, h2⟩ := g12.kl (o := .dT []) (fun _ e => by cases e) (s.free hp) zt
  obtain ⟨b, rfl, hb⟩ := zbI e3 a1
  exact ⟨h2, b, kk, rfl, g2.fh _ _ (g2.ff _ _ hb), q F2 H2 p y (g0.trans g12) hp n2 h2 a2⟩
noncomputable def zgI (i : Nat) (fk fv : Ev → Option D) : SE → Ctl := fun ρ => match (fk (visF ρ)).bind fun kd => (fv (visF ρ)).bind fun d => (zfj kd).map fun k => Sl.m true [k] [d] with
  | some s => .nx (ρ.set i s)
  | none => .no
theorem ziK {n i : Nat} {x : Str} {fk fv : Ev → Option D} (hr : Y1 n X.A) (hN : X.N.Nodup) (hi : X.N[i]? = some x) (hx : Loc X.env.scope x) (hk : ED X k fk) (hv : ED X v fv) {p2 : Pos}
    (hs : swapsWith (.Dict [some k] [v] p2) (some (.Name x pos')) pos.line X.env = pure false := by rfl)
    (hf : X.fn x = true ∨ X.env.scope.names.lookup x = some .local := by first | exact .inl rfl | exact .inr rfl | assumption) : SD X (.Assign [.Name x pos'] (.Dict [some k] [v] p2) pos) (zgI i fk fv) := by
  obtain ⟨tk, pk, rk⟩ := hk
  obtain ⟨tv, pv, rv⟩ := hv
  refine ⟨_, zep hN hi hx (zge (z := false) (zfQ hr) pk pv) hs hf, fun Fb Hb F H ρ σ E rl kk => ?_⟩
  unfold zgI at kk
  cases h : (fk (visF ρ)).bind fun kd => (fv (visF ρ)).bind fun d => (zfj kd).map fun k => Sl.m true [k] [d] with
  | none => rw [h] at kk; exact kk.elim
  | some s =>
    rw [h] at kk
    obtain ⟨kd, e1, e⟩ := Option.bind_eq_some_iff.mp h
    obtain ⟨d, e2, e⟩ := Option.bind_eq_some_iff.mp e
    obtain ⟨k0, e3, rfl⟩ := Option.map_eq_some_iff.mp e
    refine zeB (z := false) rk rv rl.gr.fh rl.visF e1 e2 e3 fun F2 H2 p y g hp n2 h2 ay => ?_
    rw [if_neg Bool.false_ne_true]
    have g2 : Gr F H F2 (upd H2 p (.dT [(k0, y)])) := by
      refine ⟨g.ff, fun b o z => ?_, fun b o z1 z2 => ?_⟩
      · rw [zw (zq z n2)]; exact g.fh b o z
      · rw [zw (zq z2 hp)]; exact g.kp b o z1 z2
    refine kk F2 _ _ ((rl.grow g2).setW (rl.notbase hp) n2 zt ⟨[y], ?_, .cons ay .nil⟩ (rl.notown hp))
    unfold zb4
    rw [if_pos rfl]
    exact ⟨_, rfl, rfl, rfl⟩
end
end
end Dl
namespace PySem
open Sem (wp)
namespace OwnRev
theorem lri_slot_hint : Slot "list_reverseiterator" "__length_hint__" "list_reverseiterator.__length_hint__" :=
  .of (owner := "list_reverseiterator") (n := "__length_hint__") (by rw [typeLookup_type, builtinLookup_eq_fast]; kernel_rfl) (by decide +kernel) (by decide +kernel) (by decide +kernel)
    (by first | exact .inl (by decide +kernel) | exact .inr (by decide +kernel)) (by rw [isSubtype_type]; kernel_rfl)
theorem lri_no_len : typeLookup (.type "list_reverseiterator") "__len__" = pure none := by rw [typeLookup_type, builtinLookup_eq_fast]; kernel_rfl
theorem lri_sub_self : isSubtype (.type "list_reverseiterator") (.type "list_reverseiterator") = pure true := by rw [isSubtype_type]; kernel_rfl
end OwnRev
section
variable {prog : Program} {w : World} {A : Around} {E : Value → Shared → Prop} {s : Shared}
theorem za2 {I l : Addr} {i : Int} {Q : Bool → Shared → Prop} (he : s.heap.IsRevIter I l i) (hQ : Q false s) : wpAny (model prog w) A (Builtin.List.listLengthHint (.ref I)) Q E s := by
  have hT := he.typeIs
  unfold Builtin.List.listLengthHint
  refine wpAny_bind (wpAny_specialOf hT OwnRev.lri_no_len ?_)
  try dsimp only
  show wpAny _ _ (if false = true then _ else (if false = true then _ else _)) _ _ _
  rw [if_neg Bool.false_ne_true, if_neg Bool.false_ne_true]
  refine wpAny_bind (wpAny_specialOf hT OwnRev.lri_slot_hint.lookup ?_)
  try dsimp only
  have hsp : splitId "list_reverseiterator.__length_hint__" = some ("list_reverseiterator", "__length_hint__") := by decide +kernel
  rw [hsp]
  try dsimp only
  refine wpAny_bind (wpAny_isInstance (T := "list_reverseiterator") (b := true) hT OwnRev.lri_sub_self ?_)
  rw [if_neg (by decide)]
  show wpAny _ _ (if true = true then _ else _) _ _ _
  rw [if_pos rfl, if_neg (by decide)]
  exact wpAny_pure hQ
theorem zaC {I l : Addr} {items : Array Value} {Q : Value → Shared → Prop} (hh : A.handled = none) (he : s.heap.IsRevIter I l ((items.size : Int) - 1)) (hl : s.heap.IsList l items) (hne : l ≠ I) (hsz : items.size ≤ sizeLine)
    (hQ : ∀ (h' : Heap) (c' tk : Nat), (∀ b o, b ≠ I → s.heap.get? b = some o → h'.get? b = some o) →
      h'.get? s.heap.objs.size = some { cls := .type "list", dict := none, data := .seq items.toList.reverse.toArray c', slots := #[] } → Q (.ref s.heap.objs.size) { s with heap := h', toks := tk }) :
    wpAny (model prog w) A (call (.type "list") [.ref I]) Q E s := by
  have hIl : I < s.heap.objs.size := by obtain ⟨o, ho, _⟩ := he; exact Heap.lt_size ho
  have hll : l < s.heap.objs.size := by obtain ⟨o, ho, _⟩ := hl; exact Heap.lt_size ho
  have hSI : s.heap.objs.size ≠ I := Nat.ne_of_gt hIl
  have hSf : s.heap.objs.size ∉ [I, l] := fun hm => by
    rcases List.mem_cons.mp hm with h | h
    · exact hSI h
    · exact Nat.ne_of_gt hll (List.mem_singleton.mp h)
  have W := Walks.listRev (prog := prog) (w := w) (A := A.in1.in1) hh I l hne items
  have ends : ∀ acc : Array Value, ItemsOf (fun i v => items[items.size - 1 - i]? = some v) acc items.size → acc = items.toList.reverse.toArray := fun acc ha => by
    apply Array.ext'
    apply List.ext_getElem?
    intro i
    by_cases hi : i < items.size
    · have e1 : acc[i]? = some (acc[i]'(by rw [ha.1]; exact hi)) := Array.getElem?_eq_getElem _
      have e2 := ha.2 i _ e1
      show acc.toList[i]? = items.toList.reverse[i]?
      rw [List.getElem?_reverse (by simpa using hi)]
      simp only [Array.getElem?_toList, Array.length_toList]
      rw [e1, e2]
    · rw [List.getElem?_eq_none (by simp [ha.1]; omega), List.getElem?_eq_none (by simp; omega)]
  refine callType_codes (Q₁ := fun obj s₁ => obj = .ref s.heap.objs.size ∧ s₁ = { s with heap := s.heap.push { cls := .type "list", data := .seq #[] } }) F.called_list (F.typeCall_list_1 _) F.entry_list_init
    (code_list_new _ ⟨rfl, rfl⟩) fun obj s₁ h₁ => ?_
  obtain ⟨rfl, rfl⟩ := h₁
  have hS : (s.heap.push { cls := .type "list", data := .seq #[] }).get? s.heap.objs.size = some { cls := .type "list", data := .seq #[] } := Heap.get?_push_size _ rfl
  refine ⟨⟨_, hS, rfl⟩, F.args_list_init_2 _ _, ?_⟩
  show wpAny _ A.in1.in1 (do let old ← Builtin.List.listItems (.ref s.heap.objs.size); Builtin.List.listUpdate (.ref s.heap.objs.size) (fun _ => #[]); letGo old.toList.reverse; Builtin.List.listExtendWith (.ref s.heap.objs.size) (.ref I) .none) _ _ _
  refine wpAny_bind ?_
  unfold Builtin.List.listItems
  refine wpAny_bind (wpAny_seqItems hS rfl (wpAny_pure ?_))
  show wpAny _ A.in1.in1 (updateSeq s.heap.objs.size (fun _ => #[]) >>= fun _ => letGo (#[] : Array Value).toList.reverse >>= fun _ => Builtin.List.listExtendWith (.ref s.heap.objs.size) (.ref I) .none) _ _ _
  refine wpAny_bind (wpAny_updateSeq hS rfl ?_)
  have hS2 := Heap.get?_update_self (Obj.mapSeq (fun _ => (#[] : Array Value))) hS rfl
  have oth : ∀ b o, b ≠ s.heap.objs.size → s.heap.get? b = some o → ((s.heap.push { cls := .type "list", data := .seq #[] }).update s.heap.objs.size (Obj.mapSeq (fun _ => (#[] : Array Value)))).get? b = some o :=
    fun b o hb e => (Heap.get?_update_other _ _ (Ne.symm hb)).trans (Heap.get?_push_of_some _ e)
  refine wpAny_bind (wpAny_letGo ?_)
  have he1 := he.at (h' := (s.heap.push { cls := .type "list", data := .seq #[] }).update s.heap.objs.size (Obj.mapSeq (fun _ => (#[] : Array Value)))) fun o e => oth I o (Ne.symm hSI) e
  have hl1 : ((s.heap.push { cls := .type "list", data := .seq #[] }).update s.heap.objs.size (Obj.mapSeq (fun _ => (#[] : Array Value)))).IsList l items := hl.at fun o e => oth l o (Nat.ne_of_lt hll) e
  unfold Builtin.List.listExtendWith
  refine wpAny_bind (wpAny_typeOf he1.typeIs ?_)
  have h1 : Builtin.List.listSameRef (.ref s.heap.objs.size) (.ref I) = false := by simp [Builtin.List.listSameRef, hSI]
  have h2 : (Value.type "list_reverseiterator" == Value.type "list") = false := by decide
  have h3 : (Value.type "list_reverseiterator" == Value.type "tuple") = false := by decide
  simp only [h1, h2, h3, Bool.or_false, Bool.false_eq_true, if_false]
  refine wpAny_bind (wpAny_pyIter_revIter he1 ?_)
  refine wpAny_bind (wpAny_holding (za2 he1 ?_))
  show wpAny _ A.in1.in1 (if false = true then _ else _) _ _ _
  rw [if_neg Bool.false_ne_true]
  refine wpAny_pure ⟨plainId_quiet F.plain_extend_loop _, codeAny_extend_loopS W.toS hsz _ hSf _ items.size 0 _ #[] _ rfl (Nat.zero_le _) ⟨Nat.zero_le _, ?_, hl1⟩ hS2 (ItemsOf.nil _) fun s' acc' c' hm hS' hacc => ?_⟩
  · have : (items.size : Int) - 1 - ((0 : Nat) : Int) = (items.size : Int) - 1 := by omega
    rw [this]
    exact he1
  · refine ⟨rfl, ?_⟩
    rw [ends _ hacc] at hS'
    obtain ⟨h', g', d', tk', os'⟩ := s'
    have e1 : g' = s.gens := hm.gens
    have e2 : d' = s.drawn := hm.drawn
    have e3 : os' = s.os := hm.os
    subst e1 e2 e3
    refine hQ h' c' tk' (fun b o hb q => hm.heap b o (fun hmem => ?_) (oth b o (Nat.ne_of_lt (Heap.lt_size q)) q)) hS'
    rcases List.mem_cons.mp hmem with h | h
    · exact Nat.ne_of_lt (Heap.lt_size q) h
    · exact hb (List.mem_singleton.mp h)
end
end PySem
namespace L2
open PySem PySem.Spec PyProof.Rows
noncomputable def tLR (K : PySem.W.Frag) (ta : TE) : TE := fun σ H Q => ta σ H fun x H1 => ∃ a xs, x = .ref a ∧ SqL K H1 a xs ∧ ∀ l, H1 l = none → Q (.ref l) (upd H1 l (.lst xs.reverse))
theorem zc8 {X : Cx} {a : Expr} {ta : TE} {p1 p2 pos1 pos2 : Pos} (hc : X.calm = true) (hg1 : Gl X "list") (hm1 : X.mg "list" = none) (hb1 : bootBuiltins "list" = some (.type "list")) (hg2 : Gl X "reversed") (hm2 : X.mg "reversed" = none) (hb2 : bootBuiltins "reversed" = some (.type "reversed")) (ha : PE X a ta)
    (hs : starEach [a] X.env = [(false, eval a X.env)] := by rfl) (hs2 : starEach [.Call (.Name "reversed" p2) [a] [] pos2] X.env = [(false, eval (.Call (.Name "reversed" p2) [a] [] pos2) X.env)] := by rfl) : PE X (.Call (.Name "list" p1) [.Call (.Name "reversed" p2) [a] [] pos2] [] pos1) (tLR X.K ta) := by
  intro pins s σ H Q I h
  refine Call_ (ZH I hg1 hm1 hb1 (PyProof.Rows.callWith_type1 (Q := EP X pins σ Q) ?_ hs2 rfl))
  rw [hs2]
  show wpAny _ _ (spliced ((false, eval (.Call (.Name "reversed" p2) [a] [] pos2) X.env) :: [])) _ _ _
  refine Calls.spliced_cons ?_
  refine Call_ (ZH I hg2 hm2 hb2 (PyProof.Rows.callWith_type1 ?_ hs rfl))
  rw [hs]
  show wpAny _ _ (spliced ((false, eval a X.env) :: [])) _ _ _
  refine Calls.spliced_cons (thn (ha pins s σ H _ I h) fun v s1 hh9 => ?_)
  obtain ⟨x, H1, I1, r1, q1⟩ := hh9
  obtain ⟨t, xs, rfl, hx, q⟩ := q1
  cases r1
  obtain ⟨its, rv, pt, hz⟩ := I1.list hx
  have hlen : its.toArray.size ≤ sizeLine := by rw [List.size_toArray, ← rv.length]; exact hz
  have lt : t < s1.heap.objs.size := by
    obtain ⟨o, ho, _⟩ := pt.isList
    exact Heap.lt_size ho
  refine Calls.spliced_nil ?_
  refine call_reversed_list pt.isList ?_
  refine Calls.spliced_nil ?_
  refine zaC (I := s1.heap.objs.size) (l := t) (items := its.toArray) (I.ok.hd hc) ⟨_, Heap.get?_push_size _ rfl, rfl, rfl⟩ (pt.isList.at fun o e => Heap.get?_push_of_some _ e) (Nat.ne_of_lt lt) hlen fun h' c' tk' hk hS => ?_
  have hS' : h'.get? (s1.heap.push (revObj t (((its.toArray.size : Nat) : Int) - 1))).objs.size = some { cls := .type "list", dict := none, data := .seq its.reverse.toArray c', slots := #[] } := hS
  refine ⟨.ref _, _, I1.laid (t' := tk') (a := (s1.heap.push (revObj t (((its.toArray.size : Nat) : Int) - 1))).objs.size) (fun b o e => hk b o (Nat.ne_of_lt (Heap.lt_size e)) (Heap.get?_push_of_some _ e)) ?_ (show yZ X.prog X.w _ h' _ (.lst xs.reverse) from ⟨by rw [List.length_reverse]; exact hz, its.reverse, c', rv.reverse, hS'⟩), rfl, q _ (I1.hok.fresh ?_)⟩
  all_goals exact Nat.le_of_lt (by rw [Heap.push]; simp)
end L2
namespace Dl
open PySem L2 PySem.Spec PyProof.Rows
variable [KK] {X : Cx} {e : Expr}
noncomputable def revD : D → Option (List D)
  | .lst ds => some ds.reverse
  | _ => none
noncomputable def fRev (f : Ev → Option D) : Ev → Option (List D) := fun ρ => (f ρ).bind revD
theorem zc9 {p1 p2 pos1 pos2 : Pos} {f : Ev → Option D} (hc : X.calm = true) (hg1 : Gl X "list") (hm1 : X.mg "list" = none) (hg2 : Gl X "reversed") (hm2 : X.mg "reversed" = none) (ha : ED X e f)
    (hs : starEach [e] X.env = [(false, eval e X.env)] := by rfl) (hs2 : starEach [.Call (.Name "reversed" p2) [e] [] pos2] X.env = [(false, eval (.Call (.Name "reversed" p2) [e] [] pos2) X.env)] := by rfl) :
    FL X (.Call (.Name "list" p1) [.Call (.Name "reversed" p2) [e] [] pos2] [] pos1) (fRev f) := by
  obtain ⟨t, pa, ra⟩ := ha
  refine ⟨_, zc8 hc hg1 hm1 Wh hg2 hm2 zb0 pa hs hs2, fun σ ρ F H z Q s va e q => ?_⟩
  obtain ⟨d, e1, e2⟩ := Option.bind_eq_some_iff.mp e
  refine ra σ ρ F H d _ s va e1 fun F1 H1 v g1 a1 => ?_
  unfold revD at e2
  split at e2 <;> cases e2
  obtain ⟨p, xs, rfl, hx, bl⟩ := a1.lst_inv
  exact ⟨p, xs, rfl, SqL.of (g1.fh _ _ hx), fun l hl => q _ _ _ _ (g1.trans (Gr.hide g1.fh hl _)) (zds g1 hl) (g1.fh.free hl) zt bl.reverse⟩
end Dl
namespace L2
open PySem PySem.Spec PyProof.Rows
theorem zcw {h₀ : Heap} {k : Str} {P : Value → Prop} : ∀ {D : List (Str × KTD.Dat)}, (∀ d, KTD.datumAt k D = some d → KTD.Opened h₀ P d) → KTD.EachL h₀ k P D
  | [], _ => trivial
  | [(x, d)], h => fun e => h d (by show (if decide (k = x) = true then some d else none) = _; rw [if_pos (decide_eq_true e)])
  | (x, d) :: q :: D, h => by
    show if decide (k = x) = true then KTD.Opened h₀ P d else KTD.EachL h₀ k P (q :: D)
    by_cases e : k = x
    · rw [if_pos (decide_eq_true e)]
      exact h d (by show (if decide (k = x) = true then some d else _) = _; rw [if_pos (decide_eq_true e)])
    · rw [if_neg (by rw [decide_eq_false e]; exact Bool.false_ne_true)]
      refine zcw fun d' h' => h d' ?_
      show (if decide (k = x) = true then some d else KTD.datumAt k (q :: D)) = _
      rw [if_neg (by rw [decide_eq_false e]; exact Bool.false_ne_true), h']
theorem Vk : ∀ {ns : List Int} {vs : List Value}, KTD.Flats vs (ns.map PyData.int) → yx (ns.map V.int) vs
  | [], _, h => by cases h; exact .nil
  | n :: ns, _, h => by
    cases h with
    | cons h1 h2 =>
      obtain ⟨t, rfl⟩ := h1.int_inv
      exact .cons ⟨t, rfl⟩ (Vk h2)
section
variable {X : Cx} {a : Addr} {D : List (Str × KTD.Dat)} {nm : Str} {b : Expr} {p pos : Pos} {tb : TE}
noncomputable def zjS (a : Addr) (D : List (Str × KTD.Dat)) : R2 := fun x y H Q => ∃ s, x = .str s ∧ y = .ref a ∧ Q (.bl (KTD.inKeys s D)) H
theorem zfT (T : ∀ h : Heap, X.K.In h → KTD.TextTab h a D) : OpR X (compareOp .In) (zjS a D) := by
  intro pins s σ H x y v u Q I rx ry h
  obtain ⟨z, rfl, rfl, q⟩ := h
  obtain ⟨t, rfl⟩ := rx
  cases ry
  exact KTD.in_text ⟨T _ I.kIn, fun _ _ e => e⟩ ⟨.bl _, H, I.tok _, rfl, q⟩
noncomputable def tTab (D : List (Str × KTD.Dat)) (base : Heap) (tb : TE) : TE := fun σ H Q => tb σ H fun y H1 => ∃ (z : Str) (ns : List Int), y = .str z ∧ KTD.datumAt z D = some (.tup (ns.map PyData.int)) ∧ ∀ p its, IsTup base p (List.toArray its) → yx (ns.map V.int) its → Q (.ref p) H1
theorem zj9 (T : ∀ h : Heap, X.K.In h → KTD.TextTab h a D) (hg : Gl X nm) (hm : X.mg nm = some (.ref a)) (hb : PE X b tb) (hs : Vw b) (hd : (nm == ("__debug__" : Str)) = false := by decide) : PE X (.Subscript (.Name nm p) b pos) (tTab D X.base tb) := by
  intro pins s σ H Q I h
  refine Subscript_ (zbZ I hg hm (thn (hb pins s σ H _ I h) fun u s1 hq => ?_) hd)
  obtain ⟨y, H1, I1, ry, z, ns, rfl, hz, q⟩ := hq
  obtain ⟨t, rfl⟩ := ry
  have hin : KTD.inKeys z D = true := by rw [← KTD.isSome_datumAt, hz]; rfl
  refine KTD.item_text (h₀ := X.base) ⟨T _ I.mod.kin, I1.bk⟩ hin (zcw fun d hd => ?_) (hs _ _) (by intro _; with_unfolding_all rfl)
  rw [hz] at hd
  cases hd
  exact fun p its h1 h2 => ⟨.ref p, H1, I1.tok _, rfl, q p its h1 (Vk h2)⟩
noncomputable def rIxB (base : Heap) : R2 := fun x y H Q => ∃ p its xs i v, x = .ref p ∧ y = .int i ∧ IsTup base p (List.toArray its) ∧ yx xs its ∧ xs.length ≤ sizeLine ∧ atI xs i = some v ∧ Q v H
theorem ziz : IxR X (rIxB X.base) := by
  intro value slice pins s σ H x y v u Q I rx ry h hs
  obtain ⟨p, its, xs, i, z, rfl, rfl, hq, r, hz, he, q⟩ := h
  cases rx
  obtain ⟨t, rfl⟩ := ry
  have pl : IsTup s.heap p its.toArray := by
    obtain ⟨o, ho, hc, n, hd⟩ := hq
    exact ⟨o, I.bk _ _ ho, hc, n, hd⟩
  obtain ⟨j, h1, h2, h3, h4, h5⟩ := zab he
  obtain ⟨w, ew, rw'⟩ := r.get h2
  have hl := r.length
  have hn := Wz
  have fin : EP X pins σ Q w s := ⟨z, H, I, rw', q⟩
  exact subscriptTail_builtinR (x := w) pl.typeIs slot_tuple_getitem.lookup
    (getItem_tuple (j := j) (Q := fun r s' => r = w ∧ EP X pins σ Q r s') pl (by omega) (by omega) (by rw [List.size_toArray, ← hl]; exact h1) (by simpa using ew) ⟨rfl, fin⟩) hs
end
end L2
namespace Dl
open PySem L2 PySem.Spec PyProof.Rows
variable [KK] {X : Cx} {a : Addr} {T : List (Str × KTD.Dat)} {nm : Str} {b : Expr} {p p2 p3 pos : Pos} {f : Ev → Option D}
noncomputable abbrev zfB := List (Str × List Int)
noncomputable def zaK (t : zfB) : List (Str × KTD.Dat) := t.map fun q => (q.1, .tup (q.2.map PyData.int))
noncomputable def Wr : zfB → Str → Option (List Int)
  | [], _ => none
  | q :: t, x => if x = q.1 then some q.2 else Wr t x
omit [KK] in
theorem Wg (x : Str) : ∀ t : zfB, KTD.datumAt x (zaK t) = (Wr t x).map fun ns => KTD.Dat.tup (ns.map PyData.int)
  | [] => rfl
  | q :: t => by
    show (if decide (x = q.1) = true then some (KTD.Dat.tup (q.2.map PyData.int)) else KTD.datumAt x (zaK t)) = (if x = q.1 then some q.2 else Wr t x).map _
    by_cases h : x = q.1
    · rw [if_pos (decide_eq_true h), if_pos h]; rfl
    · rw [if_neg (by rw [decide_eq_false h]; exact Bool.false_ne_true), if_neg h, Wg x t]
noncomputable def zhg (t : zfB) : D → Option D
  | .str x => some (.bl (Wr t x).isSome)
  | _ => none
noncomputable def zed (t : zfB) (i : Int) : D → Option D
  | .str x => (Wr t x).bind fun ns => (atI ns i).map D.int
  | _ => none
theorem zgC {t : zfB} (T : ∀ h : Heap, X.K.In h → KTD.TextTab h a (zaK t)) (hg : Gl X nm) (hm : X.mg nm = some (.ref a)) (hb : ED X b f) (hk : behindInMarks .In (.Name nm p) = false := by with_unfolding_all rfl) (hd : (nm == ("__debug__" : Str)) = false := by decide) :
    ED X (.Compare b [.In] [.Name nm p] pos) (eUn (zhg t) f) := by
  obtain ⟨tb, pb, rb⟩ := hb
  refine ⟨_, zel (zfT T) pb (Wy (v := .ref a) hg hm rfl hd) hk, fun σ ρ F H z Q s va e q => ?_⟩
  obtain ⟨d, e1, e2⟩ := Option.bind_eq_some_iff.mp e
  refine rb σ ρ F H d _ s va e1 fun F1 H1 v g1 a1 => ?_
  cases d with
  | str x =>
    cases e2
    cases a1.str_inv
    refine ⟨x, rfl, rfl, ?_⟩
    rw [← KTD.isSome_datumAt, Wg, Option.isSome_map]
    exact q F1 H1 _ g1 .bl
  | _ => cases e2
theorem zcy {t : zfB} {i : Int} {j : Nat} (T : ∀ h : Heap, X.K.In h → KTD.TextTab h a (zaK t)) (hl : ∀ q ∈ t, q.2.length ≤ sizeLine) (hg : Gl X nm) (hm : X.mg nm = some (.ref a)) (hb : ED X b f) (hs : Vw b) (hd : (nm == ("__debug__" : Str)) = false := by decide) :
    ED X (.Subscript (.Subscript (.Name nm p) b p2) (.Constant (.int i) j p3) pos) (eUn (zed t i) f) := by
  obtain ⟨tb, pb, rb⟩ := hb
  refine ⟨_, zkz ziz (zj9 T hg hm pb hs hd) zf (fun _ _ => rfl), fun σ ρ F H z Q s va e q => ?_⟩
  obtain ⟨d, e1, e2⟩ := Option.bind_eq_some_iff.mp e
  refine rb σ ρ F H d _ s va e1 fun F1 H1 v g1 a1 => ?_
  cases d with
  | str x =>
    obtain ⟨ns, h1, h2⟩ := Option.bind_eq_some_iff.mp e2
    obtain ⟨n, h3, rfl⟩ := Option.map_eq_some_iff.mp h2
    cases a1.str_inv
    have hmem : ∀ t : zfB, (∀ q ∈ t, q.2.length ≤ sizeLine) → Wr t x = some ns → ns.length ≤ sizeLine := by
      intro t
      induction t with
      | nil => intro _ h; cases h
      | cons q t ih =>
        intro hl h
        unfold Wr at h
        split at h
        · cases h; exact hl q List.mem_cons_self
        · exact ih (fun r hr => hl r (List.mem_cons_of_mem _ hr)) h
    refine ⟨x, ns, rfl, by rw [Wg, h1]; rfl, fun p its h4 h5 => ⟨p, its, ns.map V.int, i, .int n, rfl, rfl, h4, h5, by rw [List.length_map]; exact hmem t hl h1, ?_, q F1 H1 _ g1 .int⟩⟩
    have : ∀ (xs : List Int), atI xs i = some n → atI (xs.map V.int) i = some (V.int n) := fun xs h => by
      unfold atI at h ⊢
      rw [List.length_map]
      cases hi : ixN xs.length i with
      | none => rw [hi] at h; cases h
      | some k =>
        rw [hi] at h
        show (xs.map V.int)[k]? = _
        have h : xs[k]? = some n := h
        rw [List.getElem?_map, h]
        rfl
    exact this ns h3
  | _ => cases e2
end Dl
namespace L2
open PySem PySem.Spec PyProof.Rows
noncomputable def zlJ : V → V → Hp → VK → Prop := fun o i H Q => ∃ p xs k v, o = .ref p ∧ i = .int k ∧ 0 ≤ k ∧ H p = some (.lst xs) ∧ xs[k.toNat]? = some v ∧ Q v H
theorem zgJ {X : Cx} : PGet X zlJ := by
  intro pins s σ H o i ov iv Q I ro ri h
  obtain ⟨p, xs, k, v, rfl, rfl, h0, hp, hv, q⟩ := h
  cases ro
  obtain ⟨t, rfl⟩ := ri
  obtain ⟨its, r, pl, hz⟩ := I.list (SqL.of (K := X.K) hp)
  obtain ⟨w, ew, rw'⟩ := r.get hv
  have hn := Wz
  have hk : k.toNat < xs.length := (List.getElem?_eq_some_iff.mp hv).1
  exact wpAny_getItem_list pl.isList h0 (by omega) (x := w) (by simpa using ew) ⟨v, H, I, rw', q⟩
end L2
namespace Dl
open PySem L2 PySem.Spec PyProof.Rows
variable [KK] {X : Cx} {a e ko : Expr} {pos tpos : Pos}
noncomputable def zij (ρ : SE) (i : Nat) (kd yd : D) : Option SE := match ρ[i]?, kd, yd with
  | some (.o ds), .int k, .int y => if 0 ≤ k then match ds[k.toNat]? with
    | some (.int x) => some (ρ.set i (.o (ds.set k.toNat (.int (x + y)))))
    | _ => none else none
  | _, _, _ => none
noncomputable def ziX (i : Nat) (fk fe : Ev → Option D) : SE → Ctl := fun ρ => match (fk (visG ρ)).bind fun kd => (fe (visG ρ)).bind fun yd => zij ρ i kd yd with
  | some ρ' => .nx ρ'
  | none => .no
omit [KK] in
theorem zfx {ρ ρ' : SE} {i : Nat} {kd yd : D} (h : zij ρ i kd yd = some ρ') : ∃ ds k x y, ρ[i]? = some (.o ds) ∧ kd = .int k ∧ yd = .int y ∧ 0 ≤ k ∧ ds[k.toNat]? = some (.int x) ∧ ρ' = ρ.set i (.o (ds.set k.toNat (.int (x + y)))) := by
  unfold zij at h
  split at h
  · rename_i ds k y e
    split at h
    · rename_i h0
      split at h
      · rename_i x hx
        cases h
        exact ⟨ds, k, x, y, e, rfl, rfl, h0, hx, rfl⟩
      · cases h
    · cases h
  · cases h
theorem zhn {i : Nat} {fk fe : Ev → Option D} (ho : PE X a (zhi i)) (hk : ED X ko fk) (he : ED X e fe)
    (ha : ∀ ov iv new, augStore ko ov iv new = (do holding [new, ov, iv] (setItem ov iv new); release [new, ov, iv] []; pure .next) := by intros; rfl) : SD X (.AugAssign (.Subscript a ko tpos) .Add e pos) (ziX i fk fe) := by
  obtain ⟨tk, pk, rk⟩ := hk
  obtain ⟨te, pe, re⟩ := he
  refine ⟨_, zhJ ho pk zgJ pe zj3 zcv ha, fun Fb Hb F H ρ σ E rl k => ?_⟩
  unfold ziX at k
  cases h : (fk (visG ρ)).bind fun kd => (fe (visG ρ)).bind fun yd => zij ρ i kd yd with
  | none => rw [h] at k; exact k.elim
  | some ρ' =>
    rw [h] at k
    obtain ⟨kd, e1, e2⟩ := Option.bind_eq_some_iff.mp h
    obtain ⟨yd, e3, e2⟩ := Option.bind_eq_some_iff.mp e2
    obtain ⟨ds, kk, x, y, hs, rfl, rfl, h0, hx, rfl⟩ := zfx e2
    obtain ⟨q, xs, f1, _⟩ := rl.owns i ds hs
    refine ⟨_, f1, ?_⟩
    refine rk σ _ _ H _ _ rl.gh rl.visG e1 fun F3 H3 v3 g3 av3 => ?_
    obtain ⟨gb, _⟩ := rl.back g3
    have rl3 := rl.grow gb
    obtain ⟨q3, xs3, f1', _, _, f4, f5⟩ := rl3.owns i ds hs
    rw [f1] at f1'
    cases f1'
    obtain ⟨xv, hxv, axv⟩ := f5.get hx
    cases axv.int_inv
    refine ⟨q, xs3, kk, .int x, rfl, av3.int_inv, h0, f4, hxv, ?_⟩
    refine re σ _ _ H3 _ _ rl3.gh rl3.visG e3 fun F5 H5 v5 g5 av5 => ?_
    obtain ⟨gb5, _⟩ := rl3.back g5
    have rl5 := rl3.grow gb5
    obtain ⟨q5, xs5, f1'', _, _, f4', f5'⟩ := rl5.owns i ds hs
    rw [f1] at f1''
    cases f1''
    refine ⟨x, y, rfl, av5.int_inv, q, xs5, kk, kk.toNat, rfl, av3.int_inv, f4', ?_, ?_⟩
    · have hlt := (List.getElem?_eq_some_iff.mp hx).1
      rw [f5'.length]
      unfold ixN
      rw [if_pos h0, if_pos (by omega)]
    · exact k _ _ σ (rl5.mutate hs f1 (f5'.set kk.toNat .int))
end Dl
namespace L2
open PySem PySem.Spec PyProof.Rows
open Sem (wp)
section
variable {prog : Program} {w : World} {A : Around} {E : Value → Shared → Prop} {h : Heap} {g : Array GenState} {d : Drawn} {t : Nat} {os : OsState}
  {nm q : Str} {C N fI : Addr} {bs bm : List Value} {hdct : Bool} {sn : List Str} {sub : List Value} {ab : Bool} {col : Option Bool} {dd : Option Addr} {k0 k1 k2 k3 k5 : Option Value} {mN : Str → Option Value} {us : List Value} {oI : Obj}
end
end L2
namespace L2
open PySem PySem.Spec PyProof.Rows
section
variable {prog : Program} {w : World} {A : Around} {E : Value → Shared → Prop} {s : Shared} {env : Env}
  {nm q : Str} {C N fI : Addr} {bs bm : List Value} {hdct : Bool} {sn : List Str} {sub : List Value} {ab : Bool} {col : Option Bool} {dd : Option Addr} {k0 k1 k2 k3 k5 : Option Value} {mN : Str → Option Value} {oI : Obj}
end
end L2
namespace OwnTim
open PySem PyProof.Rows
noncomputable abbrev KA := Array Keyed
noncomputable abbrev dn (v u o : KA) (i j : Nat) : KA := o ++ v.extract i v.size ++ u.extract j u.size
noncomputable def ky (κ : KeyKind) (x : Keyed) : κ.α := (κ.keyOf x.1).getD κ.dflt
noncomputable def LE (κ : KeyKind) (x y : Keyed) : Prop := κ.kle (ky κ x) (ky κ y)
noncomputable abbrev fh (v u o : KA) (i j : Nat) : KA := u.extract 0 j ++ v.extract 0 i ++ o.reverse
noncomputable abbrev Pd := Array (Nat × Nat × Nat)
noncomputable abbrev g2 (r : Nat × Nat × Nat) : Nat × Nat := (r.1, r.2.1)
end OwnTim
namespace OwnSortT
open PySem PyProof.Rows OwnSort
theorem ziO : ∀ a : List Int, HT.lexLt a a = false := by
  intro a
  induction a with
  | nil => rfl
  | cons x xs ih => rw [HT.lexLt_cons, if_pos rfl, ih]
theorem zaQ : ∀ a b c : List Int, HT.lexLt a b = true → HT.lexLt b c = true → HT.lexLt a c = true := by
  intro a
  induction a with
  | nil =>
    intro b c h1 h2
    cases c with
    | nil => cases b <;> cases h2
    | cons _ _ => rfl
  | cons x xs ih =>
    intro b c h1 h2
    cases b with
    | nil => cases h1
    | cons y ys => cases c with
      | nil => cases h2
      | cons z zs =>
        rw [HT.lexLt_cons] at h1 h2 ⊢
        by_cases e1 : x = y
        · rw [if_pos e1] at h1
          by_cases e2 : y = z
          · rw [if_pos e2] at h2; rw [if_pos (e1.trans e2)]; exact ih _ _ h1 h2
          · rw [if_neg e2, decide_eq_true_eq] at h2; rw [if_neg (by omega), decide_eq_true_eq]; omega
        · rw [if_neg e1, decide_eq_true_eq] at h1
          by_cases e2 : y = z
          · rw [if_neg (by omega), decide_eq_true_eq]; omega
          · rw [if_neg e2, decide_eq_true_eq] at h2; rw [if_neg (by omega), decide_eq_true_eq]; omega
theorem zaO : ∀ a b : List Int, HT.lexLt a b = false → HT.lexLt b a = false → a = b := by
  intro a
  induction a with
  | nil =>
    intro b h1 h2
    cases b with
    | nil => rfl
    | cons _ _ => cases h1
  | cons x xs ih =>
    intro b h1 h2
    cases b with
    | nil => cases h2
    | cons y ys =>
      rw [HT.lexLt_cons] at h1 h2
      by_cases e : x = y
      · rw [if_pos e] at h1; rw [if_pos e.symm] at h2; rw [e, ih _ h1 h2]
      · rw [if_neg e, decide_eq_false_iff_not] at h1; rw [if_neg (Ne.symm e), decide_eq_false_iff_not] at h2; omega
theorem zit (a b c : List Int) (h : HT.lexLt a c = true) : HT.lexLt a b = true ∨ HT.lexLt b c = true := by
  cases h1 : HT.lexLt a b with
  | true => exact .inl rfl
  | false =>
    refine .inr ?_
    cases h2 : HT.lexLt b a with
    | true => exact zaQ _ _ _ h2 h
    | false => rw [← zaO _ _ h1 h2]; exact h
noncomputable def TT (h : Heap) (v : Value) (t : List Int) : Prop := ∃ a o n its, v = .ref a ∧ h.get? a = some o ∧ o.cls = .type "tuple" ∧ o.data = .seq its.toArray n ∧ IntsAre its t ∧ t ≠ []
theorem zew : ∀ {vs : List Value} {ns ms : List Int}, IntsAre vs ns → IntsAre vs ms → ns = ms := by
  intro vs ns ms h
  induction h generalizing ms with
  | nil => intro h2; cases h2; rfl
  | cons n t h ih => intro h2; cases h2 with | cons n' t' h' => rw [ih h']
theorem TT.uniq {h : Heap} {v : Value} {s t : List Int} (x : TT h v s) (y : TT h v t) : s = t := by
  obtain ⟨a, o, n, its, rfl, e1, _, d1, i1, _⟩ := x
  obtain ⟨b, p, m, its', e, e2, _, d2, i2, _⟩ := y
  cases e
  rw [e1] at e2
  cases e2
  rw [d1] at d2
  have e3 : its.toArray = its'.toArray := by injection d2
  cases List.toArray_inj e3
  exact zew i1 i2
open Classical in
noncomputable def zbz (h : Heap) (v : Value) : Option (List Int) := if x : ∃ t, TT h v t then some x.choose else none
theorem zfq {h : Heap} {v : Value} {t : List Int} (x : TT h v t) : zbz h v = some t := by
  unfold zbz
  have y : ∃ t, TT h v t := ⟨t, x⟩
  rw [dif_pos y, y.choose_spec.uniq x]
@[reducible] noncomputable def zje (h : Heap) : KeyKind where
  α := List Int
  blt := HT.lexLt
  irrefl := ziO
  trans := zaQ
  negTrans := zit
  total := zaO
  keyOf := zbz h
  dflt := []
noncomputable def zjB (h : Heap) (out : List Value) : Prop := ∃ ts : List (List Int), out.length = ts.length ∧ (∀ (i : Nat) (v : Value) (t : (List Int)), out[i]? = some v → ts[i]? = some t → TT h v t) ∧ ts.Pairwise fun a b => HT.lexLt b a = false
theorem zby {h h' : Heap} {vs : List Value} {xs : Array Keyed} (hT : ∀ v ∈ vs, ∃ t, TT h v t) (hk : ∀ v t, TT h v t → TT h' v t) (pm : xs.Perm (pairsOf vs)) (hs : SortedToK (zje h') xs (pairsOf vs).size) : (xs.map (·.2)).toList.Perm vs ∧ zjB h (xs.map (·.2)).toList := by
  have hl : xs.toList.Perm (vs.zip vs) := by rw [← pairsOf_toList]; exact Array.perm_iff_toList_perm.mp pm
  have hm : ∀ p ∈ xs.toList, p.1 = p.2 ∧ p.1 ∈ vs := fun p hp => mem_zip_self (hl.mem_iff.mp hp)
  have e2 : (xs.map (·.2)).toList = xs.toList.map (·.2) := by simp
  rw [e2]
  refine ⟨?_, xs.toList.map fun p => (zbz h' p.1).getD ([] : List Int), by simp, fun i v t hv ht => ?_, ?_⟩
  · have := hl.map (·.2)
    rwa [show (vs.zip vs).map (·.2) = vs from List.map_snd_zip (Nat.le_refl _)] at this
  · rw [List.getElem?_map] at hv ht
    cases hx : xs.toList[i]? with
    | none => rw [hx] at hv; cases hv
    | some p =>
      rw [hx] at hv ht
      cases hv
      cases ht
      obtain ⟨q1, q2⟩ := hm p (List.mem_of_getElem? hx)
      obtain ⟨t, ht⟩ := hT _ q2
      show TT h p.2 ((zbz h' p.1).getD ([] : List Int))
      rw [zfq (hk _ _ ht), ← q1]
      exact ht
  · rw [List.pairwise_iff_getElem]
    intro i j hi hj hij
    have hi' : i < xs.size := by simpa using hi
    have hj' : j < xs.size := by simpa using hj
    have := hs i j (Nat.le_of_lt hij) (by rw [← pm.size_eq]; exact hj')
    unfold KK at this
    rw [getElem?_pos xs i hi', getElem?_pos xs j hj'] at this
    have this : HT.lexLt ((zbz h' xs[j].1).getD ([] : List Int)) ((zbz h' xs[i].1).getD ([] : List Int)) = false := this
    simpa using this
end OwnSortT
namespace Dl
open PySem L2
noncomputable def zjq : List Key → Option (List Int)
  | [] => some []
  | .inl i :: r => (zjq r).map (i :: ·)
  | _ => none
noncomputable def zi1 : List (List Key) → Option (List (List Int))
  | [] => some []
  | k :: ks => match zjq k with
    | some (i :: t) => (zi1 ks).map ((i :: t) :: ·)
    | _ => none
noncomputable def insT (t : List Int) : List (List Int) → List (List Int)
  | [] => [t]
  | u :: us => if HT.lexLt u t = true then u :: insT t us else t :: u :: us
noncomputable def zg8 : List (List Int) → List (List Int)
  | [] => []
  | t :: ts => insT t (zg8 ts)
noncomputable def tupI (t : List Int) : D := .tup (t.map .int)
noncomputable def sortMD : List D → Option (List D)
  | [.dct _ true ks _] => if ks.length < 64 then (zi1 ks).map fun ts => (zg8 ts).map tupI else none
  | _ => none
variable [KK]
noncomputable def ziS (t : Pr) : List Pr → List Pr
  | [] => [t]
  | u :: us => if OwnSort.bltP u t = true then u :: ziS t us else t :: u :: us
noncomputable def zcx : List Pr → List Pr
  | [] => []
  | t :: ts => ziS t (zcx ts)
omit [KK] in
theorem zaJ (t : Pr) : ∀ us : List Pr, (ziS t us).Perm (t :: us) := by
  intro us
  induction us with
  | nil => exact List.Perm.refl _
  | cons u us ih =>
    unfold ziS
    split
    · exact (ih.cons u).trans (List.Perm.swap _ _ _)
    · exact List.Perm.refl _
omit [KK] in
theorem zbl : ∀ ts : List Pr, (zcx ts).Perm ts := by
  intro ts
  induction ts with
  | nil => exact List.Perm.refl _
  | cons t ts ih => exact (zaJ t _).trans (ih.cons t)
omit [KK] in
theorem zeh (t : Pr) : ∀ us : List Pr, us.Pairwise (fun a b => OwnSort.bltP b a = false) → (ziS t us).Pairwise fun a b => OwnSort.bltP b a = false := by
  intro us
  induction us with
  | nil => intro _; exact List.pairwise_singleton _ _
  | cons u us ih =>
    intro h
    rw [List.pairwise_cons] at h
    unfold ziS
    by_cases c : OwnSort.bltP u t = true
    · rw [if_pos c]
      refine List.pairwise_cons.mpr ⟨fun v hv => ?_, ih h.2⟩
      rcases List.mem_cons.mp ((zaJ t us).mem_iff.mp hv) with rfl | hv
      · unfold OwnSort.bltP at c ⊢
        rw [decide_eq_true_eq] at c
        exact decide_eq_false (by omega)
      · exact h.1 v hv
    · rw [if_neg c]
      refine List.pairwise_cons.mpr ⟨fun v hv => ?_, List.pairwise_cons.mpr h⟩
      rcases List.mem_cons.mp hv with rfl | hv
      · cases e : OwnSort.bltP v t with
        | false => rfl
        | true => exact absurd e c
      · have h1 := h.1 v hv
        unfold OwnSort.bltP at c h1 ⊢
        rw [decide_eq_true_eq] at c
        rw [decide_eq_false_iff_not] at h1
        exact decide_eq_false (by omega)
omit [KK] in
theorem zen (ts : List Pr) : zcx ts = zh6 ts := by
  refine Vb (zbl ts) ?_
  induction ts with
  | nil => exact List.Pairwise.nil
  | cons t ts ih => exact zeh t _ ih
noncomputable def zco : List D → Option (List D)
  | [.lst ds] => if ds.length < 64 then (VP ds).map fun ts => (zcx ts).map prD else none
  | _ => none
omit [KK] in
theorem zdJ {ds : List D} {z : List D} (h : zco ds = some z) : zd6 ds = some z := by
  unfold zco at h
  split at h
  · rename_i es
    show (if es.length < 64 then _ else none) = _
    split at h
    · rename_i h64
      obtain ⟨ts, e, rfl⟩ := Option.map_eq_some_iff.mp h
      rw [if_pos h64, e, zen]
    · cases h
  · cases h
theorem zdq {X : Cx} {e : Expr} {pos p : Pos} {f : Ev → Option (List D)} (hc : X.calm = true) (hgl : Gl X "sorted") (hm : X.mg "sorted" = none) (ha : AD X [e] f)
    (he : starEach [e] X.env = (false, eval e X.env) :: starEach [] X.env := by rfl) (hpl : (backTo pos (starEach [] X.env)).any (·.1) = false := by rfl) : FL X (.Call (.Name "sorted" p) [e] [] pos) (fFn zco f) := by
  obtain ⟨t, pt, r⟩ := ze9 hc hgl hm ha he hpl
  refine ⟨t, pt, fun σ ρ F H z Q s va e q => r σ ρ F H z Q s va ?_ q⟩
  obtain ⟨ds, e1, e2⟩ := Option.bind_eq_some_iff.mp e
  unfold fFn
  rw [e1]
  exact zdJ e2
end Dl
namespace Dl
open PySem L2
noncomputable def b3 : D → Option (List (Option D))
  | .tup [x, y, z] => some [some x, some y, some z]
  | _ => none
end Dl
namespace Dl
open PySem L2
variable [KK]
theorem edv {X : Cx} (i : Nat) {x : Str} {pos : Pos} (hN : X.N[i]? = some x := by rfl) (hv : Vis X.env.scope x := by first | exact Or.inl rfl | exact Or.inr (Or.inl rfl) | exact Or.inr (Or.inr rfl)) (hd : (x == ("__debug__" : Str)) = false := by decide)
    (hcd : (x == ("__classdict__" : Str)) = false := by decide) : ED X (.Name x pos) (zg i) := zjk i (pv i hN hv hd hcd)
theorem zi {X : Cx} {x : Str} {j k m : Nat} {f : Addr} {fd : FuncData} {ps : List Str} {st : Stmt} {p : List D → Option D} {e : Expr} {es : List Expr} {pp pos : Pos} {fa : Ev → Option (List D)} (F : yQ X.prog X.w X.K X.mg X.base CX0 j f fd ps (spD m p)) (hr : Y1 k X.A) (hg : Gl X x) (d : Def X.K X.mg x st ps f fd)
    (ha : AD X (e :: es) fa) (hj : j ≤ k := by decide) (hdb : (x == ("__debug__" : Str)) = false := by decide) (he : starEach (e :: es) X.env = (false, eval e X.env) :: starEach es X.env := by rfl) (hpl : (backTo pos (starEach es X.env)).any (·.1) = false := by rfl) :
    ED X (.Call (.Name x pp) (e :: es) [] pos) (zn m p fa) := zfh (F.mono hj) hr hg d.at_ d.kp d.bd ha hdb he hpl
end Dl
namespace Mz
open PySem Dl
noncomputable abbrev Tie := Int × Int
noncomputable def ltP (s t : Tie) : Prop := s.1 < t.1 ∨ (s.1 = t.1 ∧ s.2 < t.2)
noncomputable instance (s t : Tie) : Decidable (ltP s t) := by unfold ltP; infer_instance
theorem zeW {a b c : Tie} (h : ltP a b) (k : ltP b c) : ltP a c := by
  unfold ltP at *
  omega
noncomputable def zm (t : Tie) : D := .tup [.int t.1, .int t.2]
theorem zeC {s t : Tie} (h : zm s = zm t) : s = t := by
  unfold zm at h
  injection h with h
  injection h with h1 h2
  injection h2 with h2 _
  injection h1 with h1
  injection h2 with h2
  exact Prod.ext h1 h2
noncomputable def xQ (many : Int) (ties : List Tie) : D := .tup [.int many, .tup (ties.map zm)]
set_option genInjectivity false in
set_option genSizeOf false in
set_option genCtorIdx false in
structure wC (many : Int) (ties : List Tie) : Prop where
  lo : 1 ≤ many
  hi : many ≤ 8
  rng : ∀ t ∈ ties, 0 ≤ t.1 ∧ t.1 < t.2 ∧ t.2 < many
  srt : ties.Pairwise ltP
noncomputable def leP (s t : Tie) : Bool := if s.1 = t.1 then (if s.2 = t.2 then true else decide (s.2 ≤ t.2)) else decide (s.1 ≤ t.1)
theorem zaM {s t : Tie} : leP s t = false ↔ ltP t s := by
  unfold leP ltP
  by_cases h : s.1 = t.1
  · rw [if_pos h]
    by_cases k : s.2 = t.2
    · rw [if_pos k]; simp; omega
    · rw [if_neg k, decide_eq_false_iff_not]; omega
  · rw [if_neg h, decide_eq_false_iff_not]; omega
noncomputable def Zd : D → Option Tie
  | .tup [.int a, .int b] => some (a, b)
  | _ => none
theorem YJ (t : Tie) : Zd (zm t) = some t := rfl
theorem WF {d : D} {t : Tie} (h : Zd d = some t) : d = zm t := by
  unfold Zd at h
  split at h
  · cases h; rfl
  · cases h
noncomputable def inR (m a : Int) : Bool := decide (0 ≤ a) && decide (a ≤ m - 1)
noncomputable def wj (m : Int) (d : D) : Bool := match Zd d with
  | some t => inR m t.1 && inR m t.2 && !decide (t.1 = t.2)
  | none => false
noncomputable def zak (p : Option Tie) (t : Tie) : Bool := match p with
  | some q => !leP t q
  | none => true
noncomputable def yB (m : Int) : Option Tie → List D → Bool
  | _, [] => true
  | p, d :: r => match Zd d with
    | some t => wj m d && !decide (t.2 < t.1) && zak p t && yB m (some t) r
    | none => false
noncomputable def YR (m : Int) : D → Bool
  | .tup ts => yB m none ts
  | _ => false
noncomputable def Yb : D → Bool
  | .tup [.int m, t] => decide (1 ≤ m) && decide (m ≤ 8) && YR m t
  | _ => false
theorem XD (m : Int) : ∀ (ts : List D) (p : Option Tie), yB m p ts = true ↔ ∃ l : List Tie, ts = l.map zm ∧ (∀ t ∈ l, 0 ≤ t.1 ∧ t.1 < t.2 ∧ t.2 < m) ∧ (∀ q, p = some q → ∀ t ∈ l, ltP q t) ∧ l.Pairwise ltP := by
  intro ts
  induction ts with
  | nil =>
    intro p
    refine ⟨fun _ => ⟨[], rfl, by simp, by simp, .nil⟩, fun _ => rfl⟩
  | cons d r ih =>
    intro p
    unfold yB
    cases e : Zd d with
    | none =>
      refine Iff.intro (fun h => nomatch h) (fun hh => ?_)
      obtain ⟨l, h, _⟩ := hh
      cases l with
      | nil => cases h
      | cons t l' =>
        rw [List.map_cons] at h
        injection h with h1 _
        rw [h1, YJ] at e
        cases e
    | some t =>
      have ed := WF e
      subst ed
      simp only [wj, YJ, Bool.and_eq_true, Bool.not_eq_true', decide_eq_false_iff_not, inR, decide_eq_true_eq]
      rw [ih (some t)]
      constructor
      · rintro ⟨⟨⟨⟨⟨h1, h2⟩, h3⟩, h4⟩, h5⟩, l, rfl, hr, hq, hs⟩
        refine ⟨t :: l, rfl, ?_, ?_, List.pairwise_cons.mpr ⟨hq t rfl, hs⟩⟩
        · intro u hu
          rcases List.mem_cons.mp hu with rfl | hu
          · omega
          · exact hr u hu
        · rintro q rfl u hu
          have hqt : ltP q t := zaM.mp (by simpa [zak] using h5)
          rcases List.mem_cons.mp hu with rfl | hu
          · exact hqt
          · exact zeW hqt (hq t rfl u hu)
      · rintro ⟨l, h, hr, hq, hs⟩
        cases l with
        | nil => cases h
        | cons u l' =>
          rw [List.map_cons] at h
          injection h with h1 h2
          have hu := zeC h1
          subst hu
          have hb := hr t (by simp)
          refine ⟨⟨⟨⟨⟨by omega, by omega⟩, by omega⟩, by omega⟩, ?_⟩, l', h2, fun v hv => hr v (by simp [hv]), fun q hqe v hv => ?_, (List.pairwise_cons.mp hs).2⟩
          · cases p with
            | none => rfl
            | some q =>
              have := zaM.mpr (hq q rfl t (by simp))
              simp [zak, this]
          · cases hqe
            exact (List.pairwise_cons.mp hs).1 v hv
theorem wA (d : D) : Yb d = true ↔ ∃ m ties, d = xQ m ties ∧ wC m ties := by
  constructor
  · intro h
    unfold Yb at h
    split at h
    · rename_i m t
      simp only [Bool.and_eq_true, decide_eq_true_eq] at h
      obtain ⟨⟨h1, h2⟩, h3⟩ := h
      unfold YR at h3
      split at h3
      · rename_i ts
        obtain ⟨l, rfl, hr, _, hs⟩ := (XD m ts none).mp h3
        exact ⟨m, l, rfl, h1, h2, hr, hs⟩
      · cases h3
    · cases h
  · rintro ⟨m, ties, rfl, w⟩
    unfold xQ Yb YR
    simp only [Bool.and_eq_true, decide_eq_true_eq]
    exact ⟨⟨w.lo, w.hi⟩, (XD m _ none).mpr ⟨ties, rfl, w.rng, by simp, w.srt⟩⟩
theorem ziH {d : D} (h : ∀ m ties, d = xQ m ties → ¬ wC m ties) : Yb d = false := by
  cases e : Yb d with
  | false => rfl
  | true =>
    obtain ⟨m, ties, rfl, w⟩ := (wA d).mp e
    exact absurd w (h m ties rfl)
end Mz
namespace Mz
open Dl
noncomputable def VL (c k : Int) : Int :=
  let a := (c % 2147483647 + 977 * k + 1) * 48271 % 2147483647
  let b := a * a % 2147483629
  (b + 40692 * (k + 3)) * 69621 % 2147483647 / 8
theorem XQ {P : Nat → Prop} : ∀ k, P k → ∃ j, P j ∧ ∀ i, P i → j ≤ i := by
  intro k
  induction k using Nat.strongRecOn with
  | _ k ih =>
    intro h
    by_cases c : ∃ i, i < k ∧ P i
    · obtain ⟨i, hi, h2⟩ := c
      exact ih i hi h2
    · exact ⟨k, h, fun i hi => Nat.le_of_not_lt fun z => c ⟨i, z, hi⟩⟩
theorem zgR {n : Nat} {i : Int} (h0 : 0 ≤ i) (h1 : i < n) : L2.ixN n i = some i.toNat := by
  unfold L2.ixN
  rw [if_pos h0, if_pos h1]
theorem zjU {α : Type} {xs : List α} {i : Int} {x : α} (h0 : 0 ≤ i) (h : xs[i.toNat]? = some x) : L2.atI xs i = some x := by
  have := (List.getElem?_eq_some_iff.mp h).1
  unfold L2.atI
  rw [zgR h0 (by omega)]
  exact h
theorem zg5 {m : Bool} {i : Nat} {fk fe : Ev → Option D} {ρ : SE} {ds : List D} {d : D} {k : Int} (h1 : vEv m fe ρ = some d) (h2 : fk (visG ρ) = some (.int k)) (h3 : ρ[i]? = some (.o ds)) (h4 : 0 ≤ k) (h5 : k < ds.length) :
    Y7 m i fk fe ρ = .nx (ρ.set i (.o (ds.set k.toNat d))) := by
  unfold Y7
  rw [h1, h2, h3]
  show (match ((L2.ixN ds.length k).map fun j => ρ.set i (Sl.o (ds.set j d))) with | some ρ' => Ctl.nx ρ' | none => Ctl.no) = _
  rw [zgR h4 h5]
  rfl
theorem zeL : ∀ {ns : List Int} {k : Nat} {x : Int} (h : k < ns.length), (ns.set k x).sum = ns.sum - ns[k] + x
  | [], _, _, h => by simp at h
  | n :: ns, 0, x, _ => by simp; omega
  | n :: ns, k + 1, x, h => by
    have := zeL (ns := ns) (k := k) (x := x) (by simpa using h)
    simp only [List.set_cons_succ, List.sum_cons, List.getElem_cons_succ, this]
    omega
theorem ziB {d : D} {n : Int} (h0 : 0 ≤ n) (h1 : n ≤ 1000) : zgq (.lst [d]) (.int n) = some (List.replicate n.toNat d) := by
  show (if -(2 ^ 63) ≤ n ∧ n < 2 ^ 63 ∧ lim (1 * n.toNat) = true then _ else none) = _
  rw [if_pos ⟨by omega, by omega, Zb (by omega)⟩, List.flatten_replicate_singleton]
theorem ziv {m : Bool} {i : Nat} {fk fe : Ev → Option D} {ρ : SE} {n b kk : SE → Prop} {r : D → Prop} (ds : List D) (d : D) (k : Int) (h1 : vEv m fe ρ = some d) (h2 : fk (visG ρ) = some (.int k)) (h3 : ρ[i]? = some (.o ds)) (h4 : 0 ≤ k) (h5 : k < ds.length) (q : n (ρ.set i (.o (ds.set k.toNat d)))) :
    (Y7 m i fk fe ρ).w n b kk r := Z4 (zg5 h1 h2 h3 h4 h5) q
theorem zdI (n : Nat) : (List.replicate n (0 : Int)).sum = 0 := by
  induction n with
  | zero => rfl
  | succ n ih => rw [List.replicate_succ, List.sum_cons, ih]; rfl
theorem zgr (ns : List Int) : zcZ [.lst (ns.map .int)] = some (.int ns.sum) := by
  show ((zb9 (ns.map .int)).bind fun ns => some (D.int ns.sum)) = _
  rw [ZR]
  rfl
theorem zgx {α : Type} (xs : List α) (lo hi : Option Int) : (zdy xs lo hi).length ≤ xs.length := by
  unfold zdy
  rw [List.length_take, List.length_drop]
  omega
theorem zgb {a b : List D} (h : a.length + b.length ≤ 1000) : Yg (.lst a) (.lst b) = some (.lst (a ++ b)) := by
  show (if lim (a.length + b.length) = true then _ else none) = _
  rw [if_pos (Zb h)]
theorem Vc : ∀ {ns : List Int}, (∀ x ∈ ns, 0 ≤ x) → 0 ≤ ns.sum
  | [], _ => by simp
  | n :: ns, h => by
    have := Vc (ns := ns) fun x hx => h x (List.mem_cons_of_mem _ hx)
    have := h n List.mem_cons_self
    rw [List.sum_cons]
    omega
theorem vv {m : Bool} {i : Nat} {f : Ev → Option D} {ρ ρ' : SE} {d : D} (h : vEv m f ρ = some d) (h2 : ρ.set i (.v d) = ρ' := by rfl) : xg m i f ρ = .nx ρ' := by
  unfold xg
  rw [h, ← h2]
theorem vp {f : Ev → Option D} {ρ : SE} {d : D} (h : f (visG ρ) = some d) : Yk f ρ = .nx ρ := by
  unfold Yk
  rw [h]
theorem Zi {f : Ev → Option D} {ρ : SE} {d : D} (h : f (visG ρ) = some d) : zV f ρ = .rt d := by
  unfold zV
  rw [h]
theorem zih {i : Nat} {f : Ev → Option (List D)} {ρ ρ' : SE} {ds : List D} (h : f (visF ρ) = some ds) (h2 : ρ.set i (.o ds) = ρ' := by rfl) : Yr i f ρ = .nx ρ' := by
  unfold Yr
  rw [h, ← h2]
theorem yr {a b : Int} : neD (.int a) (.int b) = some (.bl (!decide (a = b))) := rfl
theorem wx {a m x : Int} (h : 0 < m) (hx : a % m = x) : 0 ≤ x ∧ x < m := by
  subst hx
  exact ⟨Int.emod_nonneg _ (by omega), Int.emod_lt_of_pos _ h⟩
theorem zN {a b : Int} : ZQ (.int a) (.int b) = some (.bl (decide (a = b))) := rfl
theorem yp {a b : Bool} : ZQ (.bl a) (.bl b) = some (.bl (decide (a = b))) := rfl
theorem zQ {a b : PySem.Str} : ZQ (.str a) (.str b) = some (.bl (decide (a = b))) := rfl
theorem zO {a b : Int} : Yg (.int a) (.int b) = some (.int (a + b)) := rfl
section
variable {ρ : Ev} {f g h : Ev → Option D} {a : Ev → Option (List D)} {t u : Ev → Option Bool} {d e x y z : D} {ds es : List D} {b c : Bool}
theorem wN : zp ρ = some [] := rfl
theorem zL (h1 : f ρ = some d) (h2 : a ρ = some ds) : zb f a ρ = some (d :: ds) := by unfold zb; rw [h1, h2]; rfl
theorem ye {n : Nat} {p : List D → Option D} (h1 : a ρ = some ds) (h2 : p ds = some d) (hl : ds.length = n := by rfl) : zn n p a ρ = some d := by
  unfold zn
  rw [h1, Option.bind_some, if_pos hl, h2]
theorem Ys {i n : Nat} {p : List D → Option D} {σ σ' : SE} (h1 : a (visF σ) = some ds) (h2 : p ds = some d) (hl : ds.length = n := by rfl) (h3 : σ.set i (.v d) = σ' := by rfl) : xg false i (zn n p a) σ = .nx σ' := vv (show zn n p a (visF σ) = some d from ye h1 h2 hl) h3
theorem zdb {i : Nat} {f : Ev → Option D} {σ σ' : SE} (h : f (visF σ) = some d) (h3 : σ.set i (.v d) = σ' := by rfl) : xg false i f σ = .nx σ' := vv (show f (visF σ) = some d from h) h3
theorem zH {k : D → D → Option D} (h1 : f ρ = some x) (h2 : g ρ = some y) (h3 : k x y = some z) : zk k f g ρ = some z := by unfold zk; rw [h1, h2]; exact h3
theorem zks (h1 : a ρ = some ds) : xy a ρ = some (.lst ds) := by unfold xy; rw [h1]; rfl
theorem zbe {k : List D → Option D} (h1 : a ρ = some ds) (h2 : k ds = some d) : eFn k a ρ = some d := by unfold eFn; rw [h1]; exact h2
theorem zjj (h1 : a ρ = some ds) (hl : ds.length ≤ 1000) : v9 a ρ = some (.tup ds) := by unfold v9; rw [h1, Option.bind_some, if_pos (Zb hl)]
theorem zi0 (h1 : f ρ = some d) (h2 : yR d = some ds) : iOf f ρ = some ds := by unfold iOf; rw [h1]; exact h2
theorem Xa (h1 : f ρ = some (.bl b)) : tOf f ρ = some b := by unfold tOf; rw [h1]; rfl
theorem zcG (h1 : t ρ = some b) : yi t ρ = some (!b) := by unfold yi; rw [h1]; rfl
theorem zjn (h1 : t ρ = some b) (h2 : u ρ = some c) : Ye t u ρ = some (b || c) := by unfold Ye; rw [h1, h2]; cases b <;> rfl
theorem zhH (h1 : t ρ = some false) : xo t u ρ = some false := by unfold xo; rw [h1]; rfl
theorem ziN (h1 : t ρ = some true) (h2 : u ρ = some c) : xo t u ρ = some c := by unfold xo; rw [h1]; exact h2
theorem zho (h1 : t ρ = some false) (h2 : u ρ = some c) : Ye t u ρ = some c := by unfold Ye; rw [h1]; exact h2
end
end Mz
namespace Mz
open PySem L2 Dl
noncomputable def ZI : zfB := [("row", [1, 8]), ("ring", [3, 8]), ("cube", [0, 3]), ("full", [1, 8]), ("star", [1, 7])]
noncomputable def top (i : Nat) : Stmt := PySem.Challenge.pw_twoforone_k55_whole_cubes_are_reached.main.body.getD i (.Pass ⟨0, 0, 0, 0⟩)
noncomputable abbrev Zg : Stmt := top 11
noncomputable abbrev xn : Stmt := top 12
noncomputable abbrev xB : Stmt := top 13
noncomputable abbrev xp : Stmt := top 14
noncomputable abbrev xE : Stmt := top 15
noncomputable abbrev Zu : Stmt := top 16
noncomputable abbrev vS : Stmt := top 17
noncomputable abbrev Xi : Stmt := top 19
noncomputable abbrev Zq : Stmt := top 20
noncomputable abbrev WC : Stmt := top 21
noncomputable abbrev vm : Stmt := top 22
noncomputable abbrev wg : Stmt := top 23
noncomputable abbrev w6 : Stmt := top 24
noncomputable abbrev vZ : Stmt := top 25
noncomputable abbrev vV : Stmt := top 27
noncomputable abbrev wK : Stmt := top 28
noncomputable abbrev Yn : Stmt := top 29
noncomputable abbrev Xc : Stmt := top 30
noncomputable abbrev wJ : Stmt := top 33
noncomputable abbrev Zx : Stmt := top 34
noncomputable abbrev x9 : Stmt := top 35
noncomputable abbrev VD : Stmt := top 36
noncomputable abbrev Xs : Stmt := top 39
noncomputable abbrev YC : Stmt := top 40
noncomputable abbrev YM : Stmt := top 41
noncomputable abbrev Zw : Stmt := top 42
noncomputable abbrev Xf : Stmt := top 43
noncomputable abbrev xJ : Stmt := top 45
noncomputable abbrev Yq : Stmt := top 46
noncomputable abbrev vM : Stmt := top 47
noncomputable abbrev Zl : Stmt := top 48
noncomputable abbrev vX : Stmt := top 49
noncomputable abbrev wI : Stmt := top 51
noncomputable abbrev Yv : Stmt := top 52
noncomputable abbrev Ym : Stmt := top 53
noncomputable abbrev YG : Stmt := top 54
noncomputable abbrev xD : Stmt := top 55
noncomputable abbrev vn : Stmt := top 56
noncomputable abbrev Yu : Stmt := top 57
noncomputable abbrev vt : Stmt := top 58
noncomputable abbrev vQ : Stmt := top 59
noncomputable abbrev vh : Stmt := top 60
noncomputable abbrev xC : Stmt := top 61
noncomputable abbrev zeU : Stmt := top 62
theorem zbN : zr ["thing"] ["thing"] (zj Zg) := ⟨rfl, rfl, rfl, by decide +kernel, rfl, by decide +kernel, by decide +kernel⟩
theorem ZE : zr ["thing", "least", "most"] ["thing", "least", "most"] (zj xn) := ⟨rfl, rfl, rfl, by decide +kernel, rfl, by decide +kernel, by decide +kernel⟩
theorem Xm : zr ["thing", "least", "most"] ["thing", "least", "most"] (zj xB) := ⟨rfl, rfl, rfl, by decide +kernel, rfl, by decide +kernel, by decide +kernel⟩
theorem ZL : zr ["many", "most"] ["many", "most"] (zj xp) := ⟨rfl, rfl, rfl, by decide +kernel, rfl, by decide +kernel, by decide +kernel⟩
theorem Xq : zr ["thing"] ["thing"] (zj xE) := ⟨rfl, rfl, rfl, by decide +kernel, rfl, by decide +kernel, by decide +kernel⟩
theorem zbG : zr ["many", "thing"] ["many", "thing"] (zj Zu) := ⟨rfl, rfl, rfl, by decide +kernel, rfl, by decide +kernel, by decide +kernel⟩
theorem V9 : zr ["many", "thing"] ["many", "thing"] (zj vS) := ⟨rfl, rfl, rfl, by decide +kernel, rfl, by decide +kernel, by decide +kernel⟩
theorem zc6 : zr ["many", "thing"] ["many", "thing"] (zj Xi) := ⟨rfl, rfl, rfl, by decide +kernel, rfl, by decide +kernel, by decide +kernel⟩
theorem Zf : zr ["many", "thing", "at", "tie"] ["many", "thing"] (zj Zq) := ⟨rfl, rfl, rfl, by decide +kernel, rfl, by decide +kernel, by decide +kernel⟩
theorem zeI : zr ["thing"] ["thing"] (zj WC) := ⟨rfl, rfl, rfl, by decide +kernel, rfl, by decide +kernel, by decide +kernel⟩
theorem W6 : zr ["thing"] ["thing"] (zj vm) := ⟨rfl, rfl, rfl, by decide +kernel, rfl, by decide +kernel, by decide +kernel⟩
theorem XL : zr ["web", "thing"] ["web", "thing"] (zj wg) := ⟨rfl, rfl, rfl, by decide +kernel, rfl, by decide +kernel, by decide +kernel⟩
theorem WV : zr ["one", "other"] ["one", "other"] (zj w6) := ⟨rfl, rfl, rfl, by decide +kernel, rfl, by decide +kernel, by decide +kernel⟩
theorem zac : zr ["web", "place"] ["web", "place"] (zj vZ) := ⟨rfl, rfl, rfl, by decide +kernel, rfl, by decide +kernel, by decide +kernel⟩
theorem VJ : zr ["web", "thing"] ["web", "thing"] (zj vV) := ⟨rfl, rfl, rfl, by decide +kernel, rfl, by decide +kernel, by decide +kernel⟩
theorem Wq : zr ["web", "thing"] ["web", "thing"] (zj wK) := ⟨rfl, rfl, rfl, by decide +kernel, rfl, by decide +kernel, by decide +kernel⟩
theorem Yt : zr ["web", "found", "place"] ["web"] (zj Yn) := ⟨rfl, rfl, rfl, by decide +kernel, rfl, by decide +kernel, by decide +kernel⟩
theorem Vf : zr ["heap", "step", "stones"] ["heap", "step"] (zj Xc) := ⟨rfl, rfl, rfl, by decide +kernel, rfl, by decide +kernel, by decide +kernel⟩
theorem zK : zr ["web", "heap", "steps", "found", "rim", "further", "now", "step", "then"] ["web", "heap"] (zj wJ) := ⟨rfl, rfl, rfl, by decide +kernel, rfl, by decide +kernel, by decide +kernel⟩
theorem v4 : zr ["found", "heap", "steps", "now"] ["found", "heap"] (zj Zx) := ⟨rfl, rfl, rfl, by decide +kernel, rfl, by decide +kernel, by decide +kernel⟩
theorem XH : zr ["web", "heap", "place", "many"] ["web", "heap", "place", "many"] (zj x9) := ⟨rfl, rfl, rfl, by decide +kernel, rfl, by decide +kernel, by decide +kernel⟩
theorem V5 : zr ["web", "heap", "place", "many", "found", "other"] ["web", "heap", "place", "many"] (zj VD) := ⟨rfl, rfl, rfl, by decide +kernel, rfl, by decide +kernel, by decide +kernel⟩
theorem zc2 : zr ["thing"] ["thing"] (zj Xs) := ⟨rfl, rfl, rfl, by decide +kernel, rfl, by decide +kernel, by decide +kernel⟩
theorem XC : zr ["thing", "word"] ["thing"] (zj YC) := ⟨rfl, rfl, rfl, by decide +kernel, rfl, by decide +kernel, by decide +kernel⟩
theorem zba : zr ["word", "size"] ["word", "size"] (zj YM) := ⟨rfl, rfl, rfl, by decide +kernel, rfl, by decide +kernel, by decide +kernel⟩
theorem zbk : zr ["word", "size", "one", "other"] ["word", "size", "one", "other"] (zj Zw) := ⟨rfl, rfl, rfl, by decide +kernel, rfl, by decide +kernel, by decide +kernel⟩
theorem wz : zr ["kind", "word", "size", "many", "ties", "one"] ["kind"] (zj Xf) := ⟨rfl, rfl, rfl, by decide +kernel, rfl, by decide +kernel, by decide +kernel⟩
theorem Xl : zr ["d"] ["d"] (zj xJ) := ⟨rfl, rfl, rfl, by decide +kernel, rfl, by decide +kernel, by decide +kernel⟩
theorem za4 : zr ["d"] ["d"] (zj Yq) := ⟨rfl, rfl, rfl, by decide +kernel, rfl, by decide +kernel, by decide +kernel⟩
theorem vT : zr ["d", "place", "web", "most"] ["d", "place"] (zj vM) := ⟨rfl, rfl, rfl, by decide +kernel, rfl, by decide +kernel, by decide +kernel⟩
theorem Zh : zr ["heap", "stones", "taken", "many"] ["heap", "stones"] (zj Zl) := ⟨rfl, rfl, rfl, by decide +kernel, rfl, by decide +kernel, by decide +kernel⟩
theorem ZG : zr ["d", "heap", "place", "web"] ["d", "heap", "place"] (zj vX) := ⟨rfl, rfl, rfl, by decide +kernel, rfl, by decide +kernel, by decide +kernel⟩
theorem X8 : zr ["script", "k"] ["script", "k"] (zj wI) := ⟨rfl, rfl, rfl, by decide +kernel, rfl, by decide +kernel, by decide +kernel⟩
theorem YI : zr ["found", "due", "one", "other"] ["found", "due"] (zj Yv) := ⟨rfl, rfl, rfl, by decide +kernel, rfl, by decide +kernel, by decide +kernel⟩
theorem wV : zr ["cell", "k", "number"] ["cell", "k"] (zj Ym) := ⟨rfl, rfl, rfl, by decide +kernel, rfl, by decide +kernel, by decide +kernel⟩
theorem wU : zr ["d", "ties", "a", "bit"] ["d"] (zj YG) := ⟨rfl, rfl, rfl, by decide +kernel, rfl, by decide +kernel, by decide +kernel⟩
theorem zZ : zr ["many", "stones", "cell", "found", "left", "k", "here"] ["many", "stones", "cell"] (zj xD) := ⟨rfl, rfl, rfl, by decide +kernel, rfl, by decide +kernel, by decide +kernel⟩
theorem vo : zr ["web", "heap", "steps", "here", "step"] ["web", "heap", "steps"] (zj vn) := ⟨rfl, rfl, rfl, by decide +kernel, rfl, by decide +kernel, by decide +kernel⟩
theorem xV : zr ["web", "place", "found", "turn", "a", "b"] ["web", "place"] (zj Yu) := ⟨rfl, rfl, rfl, by decide +kernel, rfl, by decide +kernel, by decide +kernel⟩
theorem vd : zr ["top", "bottom", "one", "other"] ["top", "bottom"] (zj vt) := ⟨rfl, rfl, rfl, by decide +kernel, rfl, by decide +kernel, by decide +kernel⟩
theorem xl : zr ["web", "stones", "place", "top", "many", "far_here"] ["web", "stones", "place"] (zj vQ) := ⟨rfl, rfl, rfl, by decide +kernel, rfl, by decide +kernel, by decide +kernel⟩
theorem w8 : zr ["d", "heap", "place", "steps", "last"] ["d", "heap", "place"] (zj vh) := ⟨rfl, rfl, rfl, by decide +kernel, rfl, by decide +kernel, by decide +kernel⟩
theorem zP : zr ["many", "stones", "found", "k", "longer", "row"] ["many", "stones"] (zj xC) := ⟨rfl, rfl, rfl, by decide +kernel, rfl, by decide +kernel, by decide +kernel⟩
theorem Yf : zr ["script", "cell", "d", "many", "place", "poorest", "top", "bottom", "heap"] ["script"] (zj zeU) := ⟨rfl, rfl, rfl, by decide +kernel, rfl, by decide +kernel, by decide +kernel⟩
set_option genInjectivity false in
set_option genSizeOf false in
set_option genCtorIdx false in
structure Adr where
  f_is_whole : Addr
  e_is_whole : FuncData
  f_is_whole_within : Addr
  e_is_whole_within : FuncData
  f_must_be_within : Addr
  e_must_be_within : FuncData
  f_must_be_at_most : Addr
  e_must_be_at_most : FuncData
  f_is_place_count : Addr
  e_is_place_count : FuncData
  f_is_place : Addr
  e_is_place : FuncData
  f_are_counts : Addr
  e_are_counts : FuncData
  f_is_pair : Addr
  e_is_pair : FuncData
  f_are_ties : Addr
  e_are_ties : FuncData
  f_is_web : Addr
  e_is_web : FuncData
  f_must_be_web : Addr
  e_must_be_web : FuncData
  f_must_be_place : Addr
  e_must_be_place : FuncData
  f_tie_between : Addr
  e_tie_between : FuncData
  f_neighbours : Addr
  e_neighbours : FuncData
  f_are_stones : Addr
  e_are_stones : FuncData
  f_must_be_heap : Addr
  e_must_be_heap : FuncData
  f_all_steps : Addr
  e_all_steps : FuncData
  f_stepped : Addr
  e_stepped : FuncData
  f_heaps_behind : Addr
  e_heaps_behind : FuncData
  f_steps_to : Addr
  e_steps_to : FuncData
  f_must_be_asked : Addr
  e_must_be_asked : FuncData
  f_reach : Addr
  e_reach : FuncData
  f_is_over : Addr
  e_is_over : FuncData
  f_kind_good : Addr
  e_kind_good : FuncData
  f_places_of : Addr
  e_places_of : FuncData
  f_are_tied : Addr
  e_are_tied : FuncData
  f_web_for : Addr
  e_web_for : FuncData
  f_cube_of_digits : Addr
  e_cube_of_digits : FuncData
  f_cube_need : Addr
  e_cube_need : FuncData
  f_cube_worst : Addr
  e_cube_worst : FuncData
  f_lessened : Addr
  e_lessened : FuncData
  f_cube_steps : Addr
  e_cube_steps : FuncData
  f__law_cell_at : Addr
  e__law_cell_at : FuncData
  f__law_same : Addr
  e__law_same : FuncData
  f__law_stir : Addr
  e__law_stir : FuncData
  f__law_cube : Addr
  e__law_cube : FuncData
  f__law_some_heap : Addr
  e__law_some_heap : FuncData
  f__law_played : Addr
  e__law_played : FuncData
  f__law_fars : Addr
  e__law_fars : FuncData
  f__law_lowest : Addr
  e__law_lowest : FuncData
  f__law_worth : Addr
  e__law_worth : FuncData
  f__law_brings : Addr
  e__law_brings : FuncData
  f__law_all_heaps : Addr
  e__law_all_heaps : FuncData
  f_law : Addr
  e_law : FuncData
  t_MOST_PLACES : Tok
  t_MOST_STONES : Tok
  t_MOST_SEARCHED : Tok
  s_SIZES : Addr
set_option genInjectivity false in
set_option genSizeOf false in
set_option genCtorIdx false in
structure Txt (K : PySem.W.Frag) (mg : Str → Option Value) (ad : Adr) : Prop where
  d_is_whole : Def K mg "is_whole" Zg ["thing"] ad.f_is_whole ad.e_is_whole
  d_is_whole_within : Def K mg "is_whole_within" xn ["thing", "least", "most"] ad.f_is_whole_within ad.e_is_whole_within
  d_must_be_within : Def K mg "must_be_within" xB ["thing", "least", "most"] ad.f_must_be_within ad.e_must_be_within
  d_must_be_at_most : Def K mg "must_be_at_most" xp ["many", "most"] ad.f_must_be_at_most ad.e_must_be_at_most
  d_is_place_count : Def K mg "is_place_count" xE ["thing"] ad.f_is_place_count ad.e_is_place_count
  d_is_place : Def K mg "is_place" Zu ["many", "thing"] ad.f_is_place ad.e_is_place
  d_are_counts : Def K mg "are_counts" vS ["many", "thing"] ad.f_are_counts ad.e_are_counts
  d_is_pair : Def K mg "is_pair" Xi ["many", "thing"] ad.f_is_pair ad.e_is_pair
  d_are_ties : Def K mg "are_ties" Zq ["many", "thing"] ad.f_are_ties ad.e_are_ties
  d_is_web : Def K mg "is_web" WC ["thing"] ad.f_is_web ad.e_is_web
  d_must_be_web : Def K mg "must_be_web" vm ["thing"] ad.f_must_be_web ad.e_must_be_web
  d_must_be_place : Def K mg "must_be_place" wg ["web", "thing"] ad.f_must_be_place ad.e_must_be_place
  d_tie_between : Def K mg "tie_between" w6 ["one", "other"] ad.f_tie_between ad.e_tie_between
  d_neighbours : Def K mg "neighbours" vZ ["web", "place"] ad.f_neighbours ad.e_neighbours
  d_are_stones : Def K mg "are_stones" vV ["web", "thing"] ad.f_are_stones ad.e_are_stones
  d_must_be_heap : Def K mg "must_be_heap" wK ["web", "thing"] ad.f_must_be_heap ad.e_must_be_heap
  d_all_steps : Def K mg "all_steps" Yn ["web"] ad.f_all_steps ad.e_all_steps
  d_stepped : Def K mg "stepped" Xc ["heap", "step"] ad.f_stepped ad.e_stepped
  d_heaps_behind : Def K mg "heaps_behind" wJ ["web", "heap"] ad.f_heaps_behind ad.e_heaps_behind
  d_steps_to : Def K mg "steps_to" Zx ["found", "heap"] ad.f_steps_to ad.e_steps_to
  d_must_be_asked : Def K mg "must_be_asked" x9 ["web", "heap", "place", "many"] ad.f_must_be_asked ad.e_must_be_asked
  d_reach : Def K mg "reach" VD ["web", "heap", "place", "many"] ad.f_reach ad.e_reach
  d_is_over : Def K mg "is_over" Xs ["thing"] ad.f_is_over ad.e_is_over
  d_kind_good : Def K mg "kind_good" YC ["thing"] ad.f_kind_good ad.e_kind_good
  d_places_of : Def K mg "places_of" YM ["word", "size"] ad.f_places_of ad.e_places_of
  d_are_tied : Def K mg "are_tied" Zw ["word", "size", "one", "other"] ad.f_are_tied ad.e_are_tied
  d_web_for : Def K mg "web_for" Xf ["kind"] ad.f_web_for ad.e_web_for
  d_cube_of_digits : Def K mg "cube_of_digits" xJ ["d"] ad.f_cube_of_digits ad.e_cube_of_digits
  d_cube_need : Def K mg "cube_need" Yq ["d"] ad.f_cube_need ad.e_cube_need
  d_cube_worst : Def K mg "cube_worst" vM ["d", "place"] ad.f_cube_worst ad.e_cube_worst
  d_lessened : Def K mg "lessened" Zl ["heap", "stones"] ad.f_lessened ad.e_lessened
  d_cube_steps : Def K mg "cube_steps" vX ["d", "heap", "place"] ad.f_cube_steps ad.e_cube_steps
  d__law_cell_at : Def K mg "_law_cell_at" wI ["script", "k"] ad.f__law_cell_at ad.e__law_cell_at
  d__law_same : Def K mg "_law_same" Yv ["found", "due"] ad.f__law_same ad.e__law_same
  d__law_stir : Def K mg "_law_stir" Ym ["cell", "k"] ad.f__law_stir ad.e__law_stir
  d__law_cube : Def K mg "_law_cube" YG ["d"] ad.f__law_cube ad.e__law_cube
  d__law_some_heap : Def K mg "_law_some_heap" xD ["many", "stones", "cell"] ad.f__law_some_heap ad.e__law_some_heap
  d__law_played : Def K mg "_law_played" vn ["web", "heap", "steps"] ad.f__law_played ad.e__law_played
  d__law_fars : Def K mg "_law_fars" Yu ["web", "place"] ad.f__law_fars ad.e__law_fars
  d__law_lowest : Def K mg "_law_lowest" vt ["top", "bottom"] ad.f__law_lowest ad.e__law_lowest
  d__law_worth : Def K mg "_law_worth" vQ ["web", "stones", "place"] ad.f__law_worth ad.e__law_worth
  d__law_brings : Def K mg "_law_brings" vh ["d", "heap", "place"] ad.f__law_brings ad.e__law_brings
  d__law_all_heaps : Def K mg "_law_all_heaps" xC ["many", "stones"] ad.f__law_all_heaps ad.e__law_all_heaps
  d_law : Def K mg "law" zeU ["script"] ad.f_law ad.e_law
  g_MOST_PLACES : mg "MOST_PLACES" = some (Value.int 8 ad.t_MOST_PLACES)
  g_MOST_STONES : mg "MOST_STONES" = some (Value.int 300 ad.t_MOST_STONES)
  g_MOST_SEARCHED : mg "MOST_SEARCHED" = some (Value.int 12 ad.t_MOST_SEARCHED)
  z_all : mg "all" = none
  z_bool : mg "bool" = none
  z_enumerate : mg "enumerate" = none
  z_int : mg "int" = none
  z_isinstance : mg "isinstance" = none
  z_len : mg "len" = none
  z_list : mg "list" = none
  z_max : mg "max" = none
  z_min : mg "min" = none
  z_range : mg "range" = none
  z_reversed : mg "reversed" = none
  z_sorted : mg "sorted" = none
  z_str : mg "str" = none
  z_sum : mg "sum" = none
  z_tuple : mg "tuple" = none
  z_zip : mg "zip" = none
  g_SIZES : mg "SIZES" = some (Value.ref ad.s_SIZES)
  b_SIZES : ∀ h : Heap, K.In h → PyProof.Rows.KTD.TextTab h ad.s_SIZES (zaK ZI)
theorem zk0 : (["part", "many", "thing"] : List Str).Nodup := by decide +kernel
theorem zlN : (["other", "web", "place"] : List Str).Nodup := by decide +kernel
theorem zk9 : (["other", "web", "found", "place"] : List Str).Nodup := by decide +kernel
theorem zlu : (["step", "web", "heap", "steps", "found", "rim", "further", "now", "·step", "then"] : List Str).Nodup := by decide +kernel
theorem zlK : (["place", "thing"] : List Str).Nodup := by decide +kernel
theorem zlM : (["other", "kind", "word", "size", "many", "ties", "one"] : List Str).Nodup := by decide +kernel
theorem zkZ : (["other", "d", "place", "web", "most"] : List Str).Nodup := by decide +kernel
theorem zka : (["a", "b", "web", "place", "found", "turn", "·a", "·b"] : List Str).Nodup := by decide +kernel
theorem zlr : (["row", "many", "stones", "found", "k", "longer", "·row"] : List Str).Nodup := by decide +kernel
theorem zlQ : (["here", "many", "stones", "found", "k", "longer", "row"] : List Str).Nodup := by decide +kernel
theorem zi8 : (["k", "script", "cell", "d", "many", "place", "poorest", "top", "bottom", "heap"] : List Str).Nodup := by decide +kernel
noncomputable def ZS : D → Bool
  | .int _ => true
  | _ => false
noncomputable def yy (d : D) (lo hi : Int) : Bool := match d with
  | .int i => decide (lo ≤ i) && decide (i ≤ hi)
  | _ => false
section
variable {P : Program} {w : World} {K : PySem.W.Frag} {mg : Str → Option Value} {base : Heap} {ad : Adr}
noncomputable def yl : List D → Option D
  | [d] => if noS d = true then some (.bl (ZS d)) else none
  | _ => none
noncomputable def Xe : SE → Ctl :=
  (zV (vL (eUn (ym .int) (zg 0)) (XY (eUn (ym .bool) (zg 0)))))
noncomputable def zdj : List D → Option D := fnD 1 Xe
theorem zjd {α : Type} {ds : List α} (h : ds.length = 1) : ∃ a, ds = [a] := by match ds, h with | [a], _ => exact ⟨a, rfl⟩
theorem zdA {α : Type} {ds : List α} (h : ds.length = 2) : ∃ a b, ds = [a, b] := by match ds, h with | [a, b], _ => exact ⟨a, b, rfl⟩
theorem len3 {α : Type} {ds : List α} (h : ds.length = 3) : ∃ a b c, ds = [a, b, c] := by match ds, h with | [a, b, c], _ => exact ⟨a, b, c, rfl⟩
theorem ifS {c : Bool} {x y : D} (h : (if c = true then some x else none) = some y) : c = true ∧ x = y := by
  split at h
  · cases h
    exact ⟨by assumption, rfl⟩
  · cases h
theorem zca : ∀ ds d, ds.length = 1 → yl ds = some d → zdj ds = some d := by
  intro ds d hl h
  obtain ⟨a, rfl⟩ := zjd hl
  obtain ⟨hn, rfl⟩ := ifS h
  cases a <;> first | rfl | cases hn
theorem WO (T : Txt K mg ad) : yQ P w K mg base CX0 1 ad.f_is_whole ad.e_is_whole ["thing"] (@spD ⟨K⟩ 1 yl) := by
  letI : KK := ⟨K⟩
  refine wn (yo (N := ["thing"]) (ps := ["thing"]) T.d_is_whole.fn zbN (g := Xe) fun cdv A outer s H E hr => ?_) zca
  unfold Xe
  exact (zh (zo (wX (zF .int rfl T.z_isinstance (edv 0) (yh (v := .ty "int") rfl T.z_int zcq rfl)) (vC (zgS (zF .bool rfl T.z_isinstance (edv 0) (yh (v := .ty "bool") rfl T.z_bool VY rfl)))))))
noncomputable def yz : SE → Ctl :=
  (zV (vL (zn 1 yl (zb (zg 0) zp)) (yJ leD leD (zg 1) (zg 0) (zg 2))))
noncomputable def vD : List D → Option D := fnD 3 yz
noncomputable def zA : List D → Option D
  | [d, .int lo, .int hi] => if noS d = true then some (.bl (yy d lo hi)) else none
  | _ => none
theorem VR {a : D} {lo hi : Int} (hn : noS a = true) (hw : ZS a = false) : vD [a, .int lo, .int hi] = some (.bl false) := by
  have e : yl [a] = some (.bl false) := by
    show (if noS a = true then some (D.bl (ZS a)) else none) = _
    rw [if_pos hn, hw]
  refine Vy (ρ := [.v a, .v (.int lo), .v (.int hi)]) rfl ?_
  unfold yz
  refine XA (Zi ?_) rfl
  show (((yl [a]).bind asB).bind fun c => if c = true then _ else some (D.bl false)) = _
  rw [e]
  rfl
theorem ZM : ∀ ds d, ds.length = 3 → zA ds = some d → vD ds = some d := by
  intro ds d hl h
  obtain ⟨a, b, c, rfl⟩ := len3 hl
  cases b <;> try cases h
  cases c <;> try cases h
  rename_i lo hi
  obtain ⟨hn, rfl⟩ := ifS h
  cases a with
  | scr _ => cases hn
  | int i =>
    refine Vy (ρ := [.v (.int i), .v (.int lo), .v (.int hi)]) rfl ?_
    unfold yz
    refine XA (Zi ?_) rfl
    show (if decide (lo ≤ i) = true then some (D.bl (decide (i ≤ hi))) else some (.bl false)) = some (.bl (decide (lo ≤ i) && decide (i ≤ hi)))
    cases decide (lo ≤ i) <;> rfl
  | tup es => exact VR hn rfl
  | lst es => exact VR hn rfl
  | dct z t ks vs => exact VR hn rfl
  | non => rfl
  | bl _ => rfl
  | str _ => rfl
theorem yK (T : Txt K mg ad) : yQ P w K mg base CX0 2 ad.f_is_whole_within ad.e_is_whole_within ["thing", "least", "most"] (@spD ⟨K⟩ 3 zA) := by
  letI : KK := ⟨K⟩
  have G_is_whole := WO (P := P) (w := w) (base := base) T
  refine wn (yo (N := ["thing", "least", "most"]) (ps := ["thing", "least", "most"]) T.d_is_whole_within.fn ZE (g := yz) fun cdv A outer s H E hr => ?_) ZM
  unfold yz
  exact (zh (zo (wX (zi G_is_whole hr rfl T.d_is_whole (za (edv 0) zd)) (vC (zfL zdY zdY zU zU (edv 1) (edv 0) (edv 2) (fun a b c => zgz zdY zdY a b c))))))
noncomputable def y3 : SE → Ctl :=
  (zV (zn 3 zA (zb (zg 0) (zb (eC (.int 1)) (zb (eC (.int 8)) zp)))))
noncomputable def wl : List D → Option D := fnD 1 y3
noncomputable def yk : List D → Option D
  | [d] => if noS d = true then some (.bl (yy d 1 8)) else none
  | _ => none
theorem Xo : ∀ ds d, ds.length = 1 → yk ds = some d → wl ds = some d := by
  intro ds d hl h
  obtain ⟨a, rfl⟩ := zjd hl
  have e : wl [a] = zA [a, .int 1, .int 8] := by
    cases h2 : zA [a, .int 1, .int 8] <;> simp [wl, y3, fnD, zG, zV, vb, sIf, xg, Yk, sNo, zC, XO, Yr, Zj, XR, Y7, vEv, visF, visG, Sl.f, Sl.g, zg, eC, zk, vL, eOr, XY, eIf, eUn, W5, v9, xy, zY, zb, zp, zn, eFn, fFn, tOf, xo, Ye, yi, asB, asI, zO, wM, vK, xA, wO, Xk, xF, ltD, leD, gtD, geD, XF, zN, yp, zQ, yr, Xz, zJ, ixD, Yi, ym, isT, eSl, wD, xz, yJ, yR, iOf, Yh, xa, Y2, wY, XG, yP, wy, fLC, yM, zT, x8, yf, Z5, y0, Xd, b1, b2, h2]
  rw [e]
  exact h
theorem vF (T : Txt K mg ad) : yQ P w K mg base CX0 3 ad.f_is_place_count ad.e_is_place_count ["thing"] (@spD ⟨K⟩ 1 yk) := by
  letI : KK := ⟨K⟩
  have G_is_whole_within := yK (P := P) (w := w) (base := base) T
  refine wn (yo (N := ["thing"]) (ps := ["thing"]) T.d_is_place_count.fn Xq (g := y3) fun cdv A outer s H E hr => ?_) Xo
  unfold y3
  exact (zh (zo (zi G_is_whole_within hr rfl T.d_is_whole_within (za (edv 0) (za (ze zf) (za (ze (Wy (v := .int 8) rfl T.g_MOST_PLACES ⟨_, rfl⟩)) zd))))))
noncomputable def YU : SE → Ctl :=
  (zV (zn 3 zA (zb (zg 1) (zb (eC (.int 0)) (zb (zk wM (zg 0) (eC (.int 1))) zp)))))
noncomputable def Z6 : List D → Option D := fnD 2 YU
noncomputable def yw : List D → Option D
  | [.int m, d] => if noS d = true then some (.bl (yy d 0 (m - 1))) else none
  | _ => none
theorem zbA : ∀ ds d, ds.length = 2 → yw ds = some d → Z6 ds = some d := by
  intro ds d hl h
  obtain ⟨a, b, rfl⟩ := zdA hl
  cases a <;> try cases h
  rename_i m
  have e : Z6 [.int m, b] = zA [b, .int 0, .int (m - 1)] := by
    cases h2 : zA [b, .int 0, .int (m - 1)] <;> simp [Z6, YU, fnD, zG, zV, vb, sIf, xg, Yk, sNo, zC, XO, Yr, Zj, XR, Y7, vEv, visF, visG, Sl.f, Sl.g, zg, eC, zk, vL, eOr, XY, eIf, eUn, W5, v9, xy, zY, zb, zp, zn, eFn, fFn, tOf, xo, Ye, yi, asB, asI, zO, wM, vK, xA, wO, Xk, xF, ltD, leD, gtD, geD, XF, zN, yp, zQ, yr, Xz, zJ, ixD, Yi, ym, isT, eSl, wD, xz, yJ, yR, iOf, Yh, xa, Y2, wY, XG, yP, wy, fLC, yM, zT, x8, yf, Z5, y0, Xd, b1, b2, h2]
  rw [e]
  exact h
theorem Zz (T : Txt K mg ad) : yQ P w K mg base CX0 3 ad.f_is_place ad.e_is_place ["many", "thing"] (@spD ⟨K⟩ 2 yw) := by
  letI : KK := ⟨K⟩
  have G_is_whole_within := yK (P := P) (w := w) (base := base) T
  refine wn (yo (N := ["many", "thing"]) (ps := ["many", "thing"]) T.d_is_place.fn zbG (g := YU) fun cdv A outer s H E hr => ?_) zbA
  unfold YU
  exact (zh (zo (zi G_is_whole_within hr rfl T.d_is_whole_within (za (edv 1) (za (ze zf) (za (vI (edv 0) (ze zf)) zd))))))
theorem zbX {m i : Int} : yy (.int i) 0 (m - 1) = inR m i := rfl
theorem ziq {d : D} {lo hi : Int} (h : ∀ i, d ≠ .int i) : yy d lo hi = false := by
  cases d <;> first | rfl | exact absurd rfl (h _)
theorem zah {d : D} {lo hi : Int} (h : yy d lo hi = true) : ∃ i, d = .int i := by
  cases d with
  | int i => exact ⟨i, rfl⟩
  | _ => cases h
noncomputable def ZZ : SE → Ctl :=
  (zG (sIf (Ye (yi (tOf (eUn (ym .tuple) (zg 1)))) (tOf (zk neD (eFn Yi (zb (zg 1) zp)) (eC (.int 2))))) (zV (eC (.bl false))) zC)
    (zV (vL (zn 2 yw (zb (zg 0) (zb (zk ixD (zg 1) (eC (.int 0))) zp))) (vL (zn 2 yw (zb (zg 0) (zb (zk ixD (zg 1) (eC (.int 1))) zp))) (zk neD (zk ixD (zg 1) (eC (.int 0))) (zk ixD (zg 1) (eC (.int 1))))))))
noncomputable def zef : List D → Option D := fnD 2 ZZ
noncomputable def wE : List D → Option D
  | [.int m, d] => if noS d = true then some (.bl (wj m d)) else none
  | _ => none
theorem zgD {m : Int} {x y : D} (h : yy x 0 (m - 1) = false) : wj m (.tup [x, y]) = false := by
  cases x with
  | int i =>
    cases y with
    | int j =>
      show (inR m i && inR m j && !decide (i = j)) = false
      rw [show inR m i = false from h]
      rfl
    | _ => rfl
  | _ => rfl
theorem zf5 {m : Int} {x y : D} (h : yy y 0 (m - 1) = false) : wj m (.tup [x, y]) = false := by
  cases x with
  | int i =>
    cases y with
    | int j =>
      show (inR m i && inR m j && !decide (i = j)) = false
      rw [show inR m j = false from h, Bool.and_false]
      rfl
    | _ => rfl
  | _ => rfl
theorem zc0 : ∀ ds d, ds.length = 2 → wE ds = some d → zef ds = some d := by
  intro ds d hl h
  obtain ⟨a, b, rfl⟩ := zdA hl
  cases a <;> try cases h
  rename_i m
  obtain ⟨hn, rfl⟩ := ifS h
  clear h
  cases b with
  | tup es =>
    refine Vy (ρ := [.v (.int m), .v (.tup es)]) rfl ?_
    unfold ZZ
    by_cases hl : es.length = 2
    · obtain ⟨x, y, rfl⟩ := zdA hl
      have hx : noS x = true := v6 (ds := [x, y]) (i := 0) hn rfl
      have hy : noS y = true := v6 (ds := [x, y]) (i := 1) hn rfl
      have e0 : yw [.int m, x] = some (.bl (yy x 0 (m - 1))) := by
        show (if noS x = true then some (D.bl (yy x 0 (m - 1))) else none) = _
        rw [if_pos hx]
      have e1 : yw [.int m, y] = some (.bl (yy y 0 (m - 1))) := by
        show (if noS y = true then some (D.bl (yy y 0 (m - 1))) else none) = _
        rw [if_pos hy]
      refine zx (ρ' := [.v (.int m), .v (.tup [x, y])]) rfl (XA (Zi ?_) rfl)
      show (((yw [.int m, x]).bind asB).bind fun c => if c = true then (((yw [.int m, y]).bind asB).bind fun c => if c = true then neD x y else some (D.bl false)) else some (D.bl false)) = _
      rw [e0, e1]
      cases h1 : yy x 0 (m - 1) with
      | false => rw [zgD h1]; rfl
      | true =>
        cases h2 : yy y 0 (m - 1) with
        | false => rw [zf5 h2]; rfl
        | true =>
          obtain ⟨i, rfl⟩ := zah h1
          obtain ⟨j, rfl⟩ := zah h2
          show some (D.bl (!decide (i = j))) = some (.bl (inR m i && inR m j && !decide (i = j)))
          rw [show inR m i = true from h1, show inR m j = true from h2]
          rfl
    · have e : wj m (.tup es) = false := by
        unfold wj Zd
        split
        · rename_i t ht
          split at ht
          · rename_i e'
            injection e' with e'
            rw [e'] at hl
            exact absurd rfl hl
          · cases ht
        · rfl
      rw [e]
      refine xm (W0 (c := true) ?_ (fun _ => XA rfl rfl) fun z => by cases z)
      show some (!decide ((es.length : Int) = 2)) = _
      rw [decide_eq_false (show ¬ (es.length : Int) = 2 from fun h => hl (Int.ofNat.inj h))]
      rfl
  | scr _ => cases hn
  | _ => rfl
theorem zcY (T : Txt K mg ad) : yQ P w K mg base CX0 4 ad.f_is_pair ad.e_is_pair ["many", "thing"] (@spD ⟨K⟩ 2 wE) := by
  letI : KK := ⟨K⟩
  have G_is_place := Zz (P := P) (w := w) (base := base) T
  refine wn (yo (N := ["many", "thing"]) (ps := ["many", "thing"]) T.d_is_pair.fn zc6 (g := ZZ) fun cdv A outer s H E hr => ?_) zc0
  unfold ZZ
  exact (zc (yc (zcp (XT (yX (yH (zF .tuple rfl T.z_isinstance (edv 1) (yh (v := .ty "tuple") rfl T.z_tuple yg rfl)))) (YA (zE Vo ZY (zy _) (zI zM wk rfl T.z_len Yd (za (edv 1) zd)) (ze zf))))) (zh (zo (ve vf))) zv)
      (zh (zo (wX (zi G_is_place hr rfl T.d_is_place (za (edv 0) (za (zD (edv 1) (ze zf) (fun _ _ => rfl)) zd))) (wX (zi G_is_place hr rfl T.d_is_place (za (edv 0) (za (zD (edv 1) (ze zf) (fun _ _ => rfl)) zd))) (vC (xS Vo ZY (zy _) (zD (edv 1) (ze zf) (fun _ _ => rfl)) (zD (edv 1) (ze zf) (fun _ _ => rfl)))))))))
noncomputable def zav (ds : List D) : Nat → Option Tie
  | 0 => none
  | k + 1 => (ds[k]?).bind Zd
noncomputable def YE : SE → Ctl :=
  (zG (sIf (Ye (yi (tOf (zn 2 wE (zb (zg 0) (zb (zg 3) zp))))) (tOf (zk gtD (zk ixD (zg 3) (eC (.int 0))) (zk ixD (zg 3) (eC (.int 1)))))) (zV (eC (.bl false))) zC)
    (sIf (xo (tOf (zk gtD (zg 2) (eC (.int 0)))) (tOf (zk leT (zg 3) (zk ixD (zg 1) (zk wM (zg 2) (eC (.int 1))))))) (zV (eC (.bl false))) zC))
noncomputable def vw : SE → Ctl :=
  (zG (sIf (yi (tOf (eUn (ym .tuple) (zg 1)))) (zV (eC (.bl false))) zC)
    (zG (Yh (yP (zb (zg 1) zp)) (Z5 2 (y0 (yf 2) (y0 (yf 3) Xd))) YE)
    (zV (eC (.bl true)))))
noncomputable def zdl : List D → Option D := fnD 4 vw
noncomputable def vx : List D → Option D
  | [.int m, d] => if noS d = true then some (.bl (YR m d)) else none
  | _ => none
theorem WZ {m : Int} {d : D} (h : wj m d = true) : ∃ t, d = zm t := by
  unfold wj at h
  split at h
  · rename_i t ht
    exact ⟨t, WF ht⟩
  · cases h
theorem zbt : ∀ ds d, ds.length = 2 → vx ds = some d → zdl ds = some d := by
  intro ds d hl h
  obtain ⟨a, b, rfl⟩ := zdA hl
  cases a <;> try cases h
  rename_i m
  obtain ⟨hn, rfl⟩ := ifS h
  clear h hl
  cases b with
  | scr _ => cases hn
  | tup es =>
    refine Vy (g := vw) rfl ?_
    unfold vw
    refine zx rfl ?_
    refine xm (W4 (ds := V2 0 es) (fun i ρ => ∃ o1 o2, ρ = [.v (.int m), .v (.tup es), o1, o2] ∧ yB m none es = yB m (zav es i) (es.drop i) ∧ ∀ k, i = k + 1 → ∃ p, es[k]? = some (zm p)) rfl
      ⟨.no, .no, rfl, rfl, fun k e => by cases e⟩ ?_ ?_)
    · rintro i d ρ hd ⟨o1, o2, rfl, hp, hk⟩
      rw [WI] at hd
      obtain ⟨dx, hdx, rfl⟩ := Option.map_eq_some_iff.mp hd
      rw [Nat.zero_add]
      refine ⟨_, rfl, ?_⟩
      have hdrop : es.drop i = dx :: es.drop (i + 1) := by
        obtain ⟨h1, h2⟩ := List.getElem?_eq_some_iff.mp hdx
        rw [List.drop_eq_getElem_cons h1, h2]
      have hnx : noS dx = true := v6 hn hdx
      unfold YE
      cases hpr : wj m dx with
      | false =>
        have e1 : wE [.int m, dx] = some (.bl false) := by
          show (if noS dx = true then some (D.bl (wj m dx)) else none) = _
          rw [if_pos hnx, hpr]
        refine xm (W0 (c := true) (show (((wE [.int m, dx]).bind asB).map (!·)).bind (fun c => if c = true then some true else _) = _ by rw [e1]; rfl) (fun _ => XA rfl ?_) (fun z => by cases z))
        have e : yB m none es = false := by
          rw [hp, hdrop]
          unfold yB
          split
          · rw [hpr]; rfl
          · rfl
        show D.bl false = .bl (yB m none es)
        rw [e]
      | true =>
        obtain ⟨t, rfl⟩ := WZ hpr
        have e1 : wE [.int m, zm t] = some (.bl true) := by
          show (if noS (zm t) = true then some (D.bl (wj m (zm t))) else none) = _
          rw [if_pos hnx, hpr]
        have step : yB m none es = (!decide (t.2 < t.1) && zak (zav es i) t && yB m (some t) (es.drop (i + 1))) := by
          rw [hp, hdrop]
          conv => lhs; unfold yB
          rw [YJ, hpr]
          rfl
        have prevS : zav es (i + 1) = some t := by
          show (es[i]?).bind Zd = some t
          rw [hdx]
          rfl
        refine xm (W0 (c := decide (t.2 < t.1)) (show (((wE [.int m, zm t]).bind asB).map (!·)).bind (fun c => if c = true then some true else some (decide (t.2 < t.1))) = _ by rw [e1]; rfl) (fun c => XA rfl ?_) (fun c => Z4 rfl ?_))
        · show D.bl false = .bl (yB m none es)
          rw [step, c]
          rfl
        · cases i with
          | zero =>
            refine W0 (c := false) rfl (fun z => by cases z) (fun _ => Z4 rfl ?_)
            refine ⟨_, _, rfl, ?_, fun k e => ?_⟩
            · rw [prevS, step, c]
              rfl
            · cases e
              exact ⟨t, hdx⟩
          | succ j =>
            obtain ⟨p, hpk⟩ := hk j rfl
            have prevK : zav es (j + 1) = some p := by
              show (es[j]?).bind Zd = some p
              rw [hpk]
              rfl
            rw [prevK] at step
            have ea : atI es ((((j + 1 : Nat) : Int)) - 1) = some (zm p) := by
              rw [show (((j + 1 : Nat) : Int)) - 1 = (j : Nat) from Int.add_sub_cancel (j : Int) 1]
              exact zeN hpk
            have okP : zak (some p) t = !leP t p := rfl
            refine W0 (c := leP t p) ?_ (fun c2 => XA rfl ?_) (fun c2 => Z4 rfl ?_)
            · have z : decide ((0 : Int) < ((j + 1 : Nat) : Int)) = true := decide_eq_true (Int.natCast_pos.mpr (Nat.succ_pos j))
              show ((some (decide ((0 : Int) < ((j + 1 : Nat) : Int)))).bind fun c => if c = true then (((atI es (((j + 1 : Nat) : Int) - 1)).bind fun y => leT (zm t) y).bind asB) else some false) = _
              rw [z, ea]
              rfl
            · show D.bl false = .bl (yB m none es)
              rw [step, okP, c2, c]
              rfl
            · refine ⟨_, _, rfl, ?_, fun k' e => ?_⟩
              · rw [prevS, step, okP, c2, c]
                rfl
              · cases e
                exact ⟨t, hdx⟩
    · rintro ρ ⟨o1, o2, rfl, hp, hk⟩
      refine XA rfl ?_
      show D.bl true = .bl (yB m none es)
      rw [hp, YB, List.drop_length]
      cases zav es es.length <;> rfl
  | _ => rfl
theorem zbL (T : Txt K mg ad) : yQ P w K mg base CX0 5 ad.f_are_ties ad.e_are_ties ["many", "thing"] (@spD ⟨K⟩ 2 vx) := by
  letI : KK := ⟨K⟩
  have G_is_pair := zcY (P := P) (w := w) (base := base) T
  refine wn (yo (N := ["many", "thing", "at", "tie"]) (ps := ["many", "thing"]) T.d_are_ties.fn Zf (g := vw) fun cdv A outer s H E hr => ?_) zbt
  unfold vw YE
  exact (zc (yc (yX (yH (zF .tuple rfl T.z_isinstance (edv 1) (yh (v := .ty "tuple") rfl T.z_tuple yg rfl)))) (zh (zo (ve vf))) zv)
      (zc (vH PassesOwn.never rfl (zio rfl T.z_enumerate zbb (za (edv 1) zd)) (za0 rfl (xM (zS (zB (i := 2) Zf.nd rfl (Or.inl rfl))) (xM (zS (zB (i := 3) Zf.nd rfl (Or.inl rfl))) Wa))) (zc (yc (zcp (XT (yX (yH (zi G_is_pair hr rfl T.d_is_pair (za (edv 0) (za (edv 3) zd))))) (YA (zE VS zU (zy _) (zD (edv 3) (ze zf) (fun _ _ => rfl)) (zD (edv 3) (ze zf) (fun _ _ => rfl)))))) (zh (zo (ve vf))) zv)
      (zh (yc (zcp (zdP (zE VS zU (zy _) (edv 2) (ze zf)) (zbM (zE (zj0 hr.units0) ziF (zy _) (edv 3) (zD (edv 1) (vI (edv 2) (ze zf)) (fun _ _ => rfl)))))) (zh (zo (ve vf))) zv))))
      (zh (zo (ve vf)))))
noncomputable def YT : SE → Ctl :=
  (zG (sIf (Ye (yi (tOf (eUn (ym .tuple) (zg 0)))) (tOf (zk neD (eFn Yi (zb (zg 0) zp)) (eC (.int 2))))) (zV (eC (.bl false))) zC)
    (zV (vL (zn 1 yk (zb (zk ixD (zg 0) (eC (.int 0))) zp)) (zn 2 vx (zb (zk ixD (zg 0) (eC (.int 0))) (zb (zk ixD (zg 0) (eC (.int 1))) zp))))))
noncomputable def XV : List D → Option D := fnD 1 YT
noncomputable def ZW : List D → Option D
  | [d] => if noS d = true then some (.bl (Yb d)) else none
  | _ => none
theorem zdU {x y : D} : Yb (.tup [x, y]) = (yy x 1 8 && match x with | .int m => YR m y | _ => false) := by
  cases x <;> rfl
theorem zes : ∀ ds d, ds.length = 1 → ZW ds = some d → XV ds = some d := by
  intro ds d hl h
  obtain ⟨a, rfl⟩ := zjd hl
  obtain ⟨hn, rfl⟩ := ifS h
  clear h hl
  cases a with
  | scr _ => cases hn
  | tup es =>
    by_cases hl : es.length = 2
    · obtain ⟨x, y, rfl⟩ := zdA hl
      have hx : noS x = true := v6 (ds := [x, y]) (i := 0) hn rfl
      have hy : noS y = true := v6 (ds := [x, y]) (i := 1) hn rfl
      have ec : yk [x] = some (.bl (yy x 1 8)) := by simp [yk, hx]
      rw [zdU]
      by_cases ix : ∃ i, x = .int i
      · obtain ⟨i, rfl⟩ := ix
        have et : vx [.int i, y] = some (.bl (YR i y)) := by simp [vx, hy]
        cases hc : yy (.int i) 1 8 <;> rw [hc] at ec <;> simp [XV, YT, fnD, zG, zV, vb, sIf, xg, Yk, sNo, zC, XO, Yr, Zj, XR, Y7, vEv, visF, visG, Sl.f, Sl.g, zg, eC, zk, vL, eOr, XY, eIf, eUn, W5, v9, xy, zY, zb, zp, zn, eFn, fFn, tOf, xo, Ye, yi, asB, asI, zO, wM, vK, xA, wO, Xk, xF, ltD, leD, gtD, geD, XF, zN, yp, zQ, yr, Xz, zJ, ixD, Yi, ym, isT, eSl, wD, xz, yJ, yR, iOf, Yh, xa, Y2, wY, XG, yP, wy, fLC, yM, zT, x8, yf, Z5, y0, Xd, b1, b2, ec, et, atI, ixN]
      · have n2 : yy x 1 8 = false := ziq fun j hj => ix ⟨j, hj⟩
        rw [n2] at ec ⊢
        simp [XV, YT, fnD, zG, zV, vb, sIf, xg, Yk, sNo, zC, XO, Yr, Zj, XR, Y7, vEv, visF, visG, Sl.f, Sl.g, zg, eC, zk, vL, eOr, XY, eIf, eUn, W5, v9, xy, zY, zb, zp, zn, eFn, fFn, tOf, xo, Ye, yi, asB, asI, zO, wM, vK, xA, wO, Xk, xF, ltD, leD, gtD, geD, XF, zN, yp, zQ, yr, Xz, zJ, ixD, Yi, ym, isT, eSl, wD, xz, yJ, yR, iOf, Yh, xa, Y2, wY, XG, yP, wy, fLC, yM, zT, x8, yf, Z5, y0, Xd, b1, b2, ec, atI, ixN]
    · have e : Yb (.tup es) = false := ziH fun m ties h _ => by
        unfold xQ at h
        injection h with h
        rw [h] at hl
        exact hl rfl
      rw [e]
      have : ¬ (es.length : Int) = 2 := by omega
      simp [XV, YT, fnD, zG, zV, vb, sIf, xg, Yk, sNo, zC, XO, Yr, Zj, XR, Y7, vEv, visF, visG, Sl.f, Sl.g, zg, eC, zk, vL, eOr, XY, eIf, eUn, W5, v9, xy, zY, zb, zp, zn, eFn, fFn, tOf, xo, Ye, yi, asB, asI, zO, wM, vK, xA, wO, Xk, xF, ltD, leD, gtD, geD, XF, zN, yp, zQ, yr, Xz, zJ, ixD, Yi, ym, isT, eSl, wD, xz, yJ, yR, iOf, Yh, xa, Y2, wY, XG, yP, wy, fLC, yM, zT, x8, yf, Z5, y0, Xd, b1, b2, this]
  | _ => rfl
theorem zeS (T : Txt K mg ad) : yQ P w K mg base CX0 6 ad.f_is_web ad.e_is_web ["thing"] (@spD ⟨K⟩ 1 ZW) := by
  letI : KK := ⟨K⟩
  have G_is_place_count := vF (P := P) (w := w) (base := base) T
  have G_are_ties := zbL (P := P) (w := w) (base := base) T
  refine wn (yo (N := ["thing"]) (ps := ["thing"]) T.d_is_web.fn zeI (g := YT) fun cdv A outer s H E hr => ?_) zes
  unfold YT
  exact (zc (yc (zcp (XT (yX (yH (zF .tuple rfl T.z_isinstance (edv 0) (yh (v := .ty "tuple") rfl T.z_tuple yg rfl)))) (YA (zE Vo ZY (zy _) (zI zM wk rfl T.z_len Yd (za (edv 0) zd)) (ze zf))))) (zh (zo (ve vf))) zv)
      (zh (zo (wX (zi G_is_place_count hr rfl T.d_is_place_count (za (zD (edv 0) (ze zf) (fun _ _ => rfl)) zd)) (vC (zi G_are_ties hr rfl T.d_are_ties (za (zD (edv 0) (ze zf) (fun _ _ => rfl)) (za (zD (edv 0) (ze zf) (fun _ _ => rfl)) zd))))))))
theorem zhZ (m : Int) (ts : List Tie) : noS (xQ m ts) = true := by
  have : ∀ ts : List Tie, zfk (ts.map zm) = true := by
    intro ts
    induction ts with
    | nil => rfl
    | cons t ts ih => show (noS (zm t) && zfk (ts.map zm)) = true; rw [ih]; rfl
  show (noS (.int m) && (noS (.tup (ts.map zm)) && true)) = true
  rw [show noS (.tup (ts.map zm)) = zfk (ts.map zm) from rfl, this ts]
  rfl
noncomputable def wt : SE → Ctl :=
  (sIf (yi (tOf (zn 1 ZW (zb (zg 0) zp)))) sNo zC)
noncomputable def ZU : List D → Option D := fnD 1 wt
noncomputable def xh : List D → Option D
  | [d] => if Yb d = true then some .non else none
  | _ => none
theorem W8 : ∀ ds d, ds.length = 1 → xh ds = some d → ZU ds = some d := by
  intro ds d hl h
  obtain ⟨a, rfl⟩ := zjd hl
  obtain ⟨hw, rfl⟩ := ifS h
  obtain ⟨m, ts, rfl, _⟩ := (wA a).mp hw
  have e : ZW [xQ m ts] = some (.bl true) := by simp [ZW, zhZ m ts, hw]
  simp [ZU, wt, fnD, zG, zV, vb, sIf, xg, Yk, sNo, zC, XO, Yr, Zj, XR, Y7, vEv, visF, visG, Sl.f, Sl.g, zg, eC, zk, vL, eOr, XY, eIf, eUn, W5, v9, xy, zY, zb, zp, zn, eFn, fFn, tOf, xo, Ye, yi, asB, asI, zO, wM, vK, xA, wO, Xk, xF, ltD, leD, gtD, geD, XF, zN, yp, zQ, yr, Xz, zJ, ixD, Yi, ym, isT, eSl, wD, xz, yJ, yR, iOf, Yh, xa, Y2, wY, XG, yP, wy, fLC, yM, zT, x8, yf, Z5, y0, Xd, b1, b2, e]
theorem W3 (T : Txt K mg ad) : yQ P w K mg base CX0 7 ad.f_must_be_web ad.e_must_be_web ["thing"] (@spD ⟨K⟩ 1 xh) := by
  letI : KK := ⟨K⟩
  have G_is_web := zeS (P := P) (w := w) (base := base) T
  refine wn (yo (N := ["thing"]) (ps := ["thing"]) T.d_must_be_web.fn W6 (g := wt) fun cdv A outer s H E hr => ?_) W8
  unfold wt
  exact (zh (yc (yX (yH (zi G_is_web hr rfl T.d_is_web (za (edv 0) zd)))) (zh v7) zv))
noncomputable def xi : D → Bool
  | .int i => decide (0 ≤ i)
  | _ => false
noncomputable def zkW : D → Int
  | .int i => i
  | _ => 0
noncomputable def xt (m : Int) : D → Bool
  | .tup ds => decide ((ds.length : Int) = m) && ds.all xi
  | _ => false
theorem zgE {α : Type} (f : α → Bool) (l : List α) : ziQ [.lst (l.map fun x => .bl (f x))] = some (.bl (l.all f)) := by
  have : ziG (l.map fun x => D.bl (f x)) = some (l.map f) := by
    have := zfv (l.map f)
    rwa [List.map_map] at this
  show ((ziG (l.map fun x => D.bl (f x))).bind fun bs => some (D.bl (bs.all id))) = _
  rw [this]
  show some (D.bl ((l.map f).all id)) = _
  rw [List.all_map]
  rfl
theorem zbB {ds : List D} (h : ds.all xi = true) : ∃ ns : List Int, ds = ns.map .int ∧ ∀ n ∈ ns, 0 ≤ n := by
  induction ds with
  | nil => exact ⟨[], rfl, by simp⟩
  | cons d ds ih =>
    rw [List.all_cons, Bool.and_eq_true] at h
    obtain ⟨ns, rfl, hn⟩ := ih h.2
    cases d with
    | int i => exact ⟨i :: ns, rfl, fun n hm => by
        rcases List.mem_cons.mp hm with rfl | hm
        · exact of_decide_eq_true h.1
        · exact hn n hm⟩
    | _ => exact absurd h.1 Bool.false_ne_true
theorem zfi {ns : List Int} (h : ∀ n ∈ ns, 0 ≤ n) : (ns.map D.int).all xi = true := by
  rw [List.all_map, List.all_eq_true]
  exact fun n hn => decide_eq_true (h n hn)
theorem zez (ns : List Int) : zcZ [.tup (ns.map .int)] = some (.int ns.sum) := by
  show ((zb9 (ns.map .int)).bind fun ns => some (D.int ns.sum)) = _
  rw [ZR]
  rfl
noncomputable def xf : SE → Ctl :=
  (zG (sIf (Ye (yi (tOf (eUn (ym .tuple) (zg 1)))) (tOf (zk neD (eFn Yi (zb (zg 1) zp)) (zg 0)))) (zV (eC (.bl false))) zC)
    (zV (eFn ziQ (zb (xy (fLC (iOf (zg 1)) b1 yM (vL (zn 1 yl (zb (zg 0) zp)) (zk geD (zg 0) (eC (.int 0)))))) zp))))
noncomputable def Xy : List D → Option D := fnD 2 xf
noncomputable def xR : List D → Option D
  | [.int m, d] => if (noS d && decide (m ≤ 1000)) = true then some (.bl (xt m d)) else none
  | _ => none
theorem zkl {d : D} (hn : noS d = true) : ((yl [d]).bind asB).bind (fun c => if c = true then geD d (.int 0) else some (.bl false)) = some (.bl (xi d)) := by
  cases d with
  | scr _ => cases hn
  | tup _ => simp [yl, hn, ZS, asB, xi]
  | lst _ => simp [yl, hn, ZS, asB, xi]
  | _ => rfl
theorem Vt : ∀ ds d, ds.length = 2 → xR ds = some d → Xy ds = some d := by
  intro ds d hl h
  obtain ⟨a, b, rfl⟩ := zdA hl
  cases a <;> try cases h
  rename_i m
  obtain ⟨hn, rfl⟩ := ifS h
  clear h hl
  rw [Bool.and_eq_true, decide_eq_true_eq] at hn
  obtain ⟨hn, hm⟩ := hn
  cases b with
  | scr _ => cases hn
  | tup es =>
    by_cases hl : (es.length : Int) = m
    · have e : fLC (iOf (zg 1)) b1 yM (vL (zn 1 yl (zb (zg 0) zp)) (zk geD (zg 0) (eC (.int 0)))) [some (.int m), some (.tup es)] = some (es.map fun d => .bl (xi d)) := by
        unfold fLC
        show (if lim es.length = true then _ else none) = _
        rw [if_pos (Zb (by omega))]
        have := Vv (b := b1) (t := yM) (f := vL (zn 1 yl (zb (zg 0) zp)) (zk geD (zg 0) (eC (.int 0)))) (ρ := [some (.int m), some (.tup es)]) id (fun d => .bl (xi d)) es
          (fun d hd => ⟨[some d], rfl, rfl, zkl (by obtain ⟨j, hj, rfl⟩ := List.getElem_of_mem hd; exact v6 (i := j) hn (by simp [hj]))⟩)
        rwa [List.map_id] at this
      show fnD 2 xf _ = _
      refine Vy rfl ?_
      unfold xf
      refine xm (W0 (c := false) (by simp [fnD, zG, zV, vb, sIf, xg, Yk, sNo, zC, XO, Yr, Zj, XR, Y7, vEv, visF, visG, Sl.f, Sl.g, zg, eC, zk, vL, eOr, XY, eIf, eUn, W5, v9, xy, zY, zb, zp, zn, eFn, fFn, tOf, xo, Ye, yi, asB, asI, zO, wM, vK, xA, wO, Xk, xF, ltD, leD, gtD, geD, XF, zN, yp, zQ, yr, Xz, zJ, ixD, Yi, ym, isT, eSl, wD, xz, yJ, yR, iOf, Yh, xa, Y2, wY, XG, yP, wy, fLC, yM, zT, x8, yf, Z5, y0, Xd, b1, b2, hl]) (fun z => by cases z) fun _ => Z4 rfl (XA (d := .bl (es.all xi)) ?_ ?_))
      · show (match (((fLC (iOf (zg 1)) b1 yM (vL (zn 1 yl (zb (zg 0) zp)) (zk geD (zg 0) (eC (.int 0)))) [some (.int m), some (.tup es)]).map D.lst).bind fun d => (some [] : Option (List D)).map (d :: ·)).bind ziQ with | some d => Ctl.rt d | none => Ctl.no) = _
        rw [e]
        show (match ziQ [.lst (es.map fun d => .bl (xi d))] with | some d => Ctl.rt d | none => Ctl.no) = _
        rw [zgE]
      · show D.bl (es.all xi) = .bl (decide ((es.length : Int) = m) && es.all xi)
        rw [decide_eq_true hl, Bool.true_and]
    · have e : xt m (.tup es) = false := by
        show (decide ((es.length : Int) = m) && es.all xi) = false
        rw [decide_eq_false hl, Bool.false_and]
      rw [e]
      simp [Xy, xf, fnD, zG, zV, vb, sIf, xg, Yk, sNo, zC, XO, Yr, Zj, XR, Y7, vEv, visF, visG, Sl.f, Sl.g, zg, eC, zk, vL, eOr, XY, eIf, eUn, W5, v9, xy, zY, zb, zp, zn, eFn, fFn, tOf, xo, Ye, yi, asB, asI, zO, wM, vK, xA, wO, Xk, xF, ltD, leD, gtD, geD, XF, zN, yp, zQ, yr, Xz, zJ, ixD, Yi, ym, isT, eSl, wD, xz, yJ, yR, iOf, Yh, xa, Y2, wY, XG, yP, wy, fLC, yM, zT, x8, yf, Z5, y0, Xd, b1, b2, hl]
  | _ => rfl
theorem V3 (T : Txt K mg ad) : yQ P w K mg base CX0 2 ad.f_are_counts ad.e_are_counts ["many", "thing"] (@spD ⟨K⟩ 2 xR) := by
  letI : KK := ⟨K⟩
  have G_is_whole := WO (P := P) (w := w) (base := base) T
  refine wn (yo (N := ["many", "thing"]) (ps := ["many", "thing"]) T.d_are_counts.fn V9 (g := xf) fun cdv A outer s H E hr => ?_) Vt
  unfold xf
  exact (zc (yc (zcp (XT (yX (yH (zF .tuple rfl T.z_isinstance (edv 1) (yh (v := .ty "tuple") rfl T.z_tuple yg rfl)))) (YA (zE Vo ZY (zy _) (zI zM wk rfl T.z_len Yd (za (edv 1) zd)) (edv 0))))) (zh (zo (ve vf))) zv)
      (zh (zo (zI (zap rfl) zeH rfl T.z_all zhp (za (xb (We (L := ["part"]) (M := ["many", "thing"]) rfl (Yx (by rfl) (by rfl) (by rfl) (by with_unfolding_all rfl) (by rfl) (by rfl) (by kernel_rfl) wH) (wS (edv 1)) gs1 rb1 (fun _ _ _ _ => (zB (i := 0) zk0 rfl (Or.inl rfl) (.inr rfl))) (fun _ _ _ _ => (wX (zi G_is_whole hr rfl T.d_is_whole (za (edv 0) zd)) (vC (xS zfr zU (zy _) (edv 0) (ze zf))))))) zd)))))
noncomputable def Zn (m : Int) : D → Bool
  | .tup ds => xt m (.tup ds) && decide ((ds.map zkW).sum ≤ 300)
  | _ => false
theorem Ve (ns : List Int) : (ns.map D.int).map zkW = ns := by rw [List.map_map]; exact (List.map_congr_left fun _ _ => rfl).trans (List.map_id _)
noncomputable def xU : SE → Ctl :=
  (zV (vL (zn 2 xR (zb (zk ixD (zg 0) (eC (.int 0))) (zb (zg 1) zp))) (zk leD (eFn zcZ (zb (zg 1) zp)) (eC (.int 300)))))
noncomputable def YH : List D → Option D := fnD 2 xU
noncomputable def xc : List D → Option D
  | [.tup [.int m, _], d] => if (noS d && decide (m ≤ 1000)) = true then some (.bl (Zn m d)) else none
  | _ => none
theorem V8 : ∀ ds d, ds.length = 2 → xc ds = some d → YH ds = some d := by
  intro ds d hl h
  obtain ⟨a, b, rfl⟩ := zdA hl
  unfold xc at h
  split at h
  · rename_i m t b' e
    injection e with e1 e2
    injection e2 with e2 _
    subst e1 e2
    obtain ⟨hn, rfl⟩ := ifS h
    have ec : xR [.int m, b] = some (.bl (xt m b)) := by simp only [xR]; rw [if_pos hn]
    cases hc : xt m b with
    | false =>
      rw [hc] at ec
      have e3 : Zn m b = false := by
        cases b <;> try rfl
        show (xt m _ && _) = false
        rw [hc]
        rfl
      rw [e3]
      simp [YH, xU, fnD, zG, zV, vb, sIf, xg, Yk, sNo, zC, XO, Yr, Zj, XR, Y7, vEv, visF, visG, Sl.f, Sl.g, zg, eC, zk, vL, eOr, XY, eIf, eUn, W5, v9, xy, zY, zb, zp, zn, eFn, fFn, tOf, xo, Ye, yi, asB, asI, zO, wM, vK, xA, wO, Xk, xF, ltD, leD, gtD, geD, XF, zN, yp, zQ, yr, Xz, zJ, ixD, Yi, ym, isT, eSl, wD, xz, yJ, yR, iOf, Yh, xa, Y2, wY, XG, yP, wy, fLC, yM, zT, x8, yf, Z5, y0, Xd, b1, b2, ec, atI, ixN]
    | true =>
      rw [hc] at ec
      cases b with
      | tup es =>
        have h2 : es.all xi = true := by
          unfold xt at hc
          rw [Bool.and_eq_true] at hc
          exact hc.2
        obtain ⟨ns, rfl, hns⟩ := zbB h2
        have e3 : Zn m (.tup (ns.map .int)) = decide (ns.sum ≤ 300) := by
          show (xt m _ && decide (((ns.map D.int).map zkW).sum ≤ 300)) = _
          rw [hc, Ve, Bool.true_and]
        rw [e3]
        simp [YH, xU, fnD, zG, zV, vb, sIf, xg, Yk, sNo, zC, XO, Yr, Zj, XR, Y7, vEv, visF, visG, Sl.f, Sl.g, zg, eC, zk, vL, eOr, XY, eIf, eUn, W5, v9, xy, zY, zb, zp, zn, eFn, fFn, tOf, xo, Ye, yi, asB, asI, zO, wM, vK, xA, wO, Xk, xF, ltD, leD, gtD, geD, XF, zN, yp, zQ, yr, Xz, zJ, ixD, Yi, ym, isT, eSl, wD, xz, yJ, yR, iOf, Yh, xa, Y2, wY, XG, yP, wy, fLC, yM, zT, x8, yf, Z5, y0, Xd, b1, b2, ec, zez, atI, ixN]
      | _ => cases hc
  · cases h
theorem VE (T : Txt K mg ad) : yQ P w K mg base CX0 3 ad.f_are_stones ad.e_are_stones ["web", "thing"] (@spD ⟨K⟩ 2 xc) := by
  letI : KK := ⟨K⟩
  have G_are_counts := V3 (P := P) (w := w) (base := base) T
  refine wn (yo (N := ["web", "thing"]) (ps := ["web", "thing"]) T.d_are_stones.fn VJ (g := xU) fun cdv A outer s H E hr => ?_) V8
  unfold xU
  exact (zh (zo (wX (zi G_are_counts hr rfl T.d_are_counts (za (zD (edv 0) (ze zf) (fun _ _ => rfl)) (za (edv 1) zd))) (vC (xS zdY zU (zy _) (zI (vJ rfl) Xb rfl T.z_sum Vm (za (edv 1) zd)) (ze (Wy (v := .int 300) rfl T.g_MOST_STONES ⟨_, rfl⟩)))))))
theorem zcm {m : Int} {ts : List Tie} (h : wC m ts) : wY [.int m] = some (zag 0 m.toNat) := by
  have := h.lo
  have := h.hi
  show (if zhw m = true then some (zag 0 m.toNat) else none) = _
  rw [if_pos (xO.mpr ⟨by omega, by omega⟩)]
noncomputable def xP : SE → Ctl :=
  (sIf (yi (tOf (zn 2 xc (zb (zg 0) (zb (zg 1) zp))))) sNo zC)
noncomputable def Za : List D → Option D := fnD 2 xP
noncomputable def yI : List D → Option D
  | [.tup [.int m, _], d] => if (noS d && decide (m ≤ 1000) && Zn m d) = true then some .non else none
  | _ => none
theorem Wj : ∀ ds d, ds.length = 2 → yI ds = some d → Za ds = some d := by
  intro ds d hl h
  obtain ⟨a, b, rfl⟩ := zdA hl
  unfold yI at h
  split at h
  · rename_i m t b' e
    injection e with e1 e2
    injection e2 with e2 _
    subst e1 e2
    obtain ⟨hn, rfl⟩ := ifS h
    rw [Bool.and_eq_true] at hn
    have ec : xc [.tup [.int m, t], b] = some (.bl true) := by simp only [xc]; rw [if_pos hn.1, hn.2]
    simp [Za, xP, fnD, zG, zV, vb, sIf, xg, Yk, sNo, zC, XO, Yr, Zj, XR, Y7, vEv, visF, visG, Sl.f, Sl.g, zg, eC, zk, vL, eOr, XY, eIf, eUn, W5, v9, xy, zY, zb, zp, zn, eFn, fFn, tOf, xo, Ye, yi, asB, asI, zO, wM, vK, xA, wO, Xk, xF, ltD, leD, gtD, geD, XF, zN, yp, zQ, yr, Xz, zJ, ixD, Yi, ym, isT, eSl, wD, xz, yJ, yR, iOf, Yh, xa, Y2, wY, XG, yP, wy, fLC, yM, zT, x8, yf, Z5, y0, Xd, b1, b2, ec]
  · cases h
theorem Yj (T : Txt K mg ad) : yQ P w K mg base CX0 4 ad.f_must_be_heap ad.e_must_be_heap ["web", "thing"] (@spD ⟨K⟩ 2 yI) := by
  letI : KK := ⟨K⟩
  have G_are_stones := VE (P := P) (w := w) (base := base) T
  refine wn (yo (N := ["web", "thing"]) (ps := ["web", "thing"]) T.d_must_be_heap.fn Wq (g := xP) fun cdv A outer s H E hr => ?_) Wj
  unfold xP
  exact (zh (yc (yX (yH (zi G_are_stones hr rfl T.d_are_stones (za (edv 0) (za (edv 1) zd))))) (zh v7) zv))
theorem zdN {m : Int} {ts : List Tie} (h : wC m ts) : decide (m ≤ 1000) = true := decide_eq_true (by have := h.hi; omega)
noncomputable def zhA : D → Int
  | .tup [.int m, _] => m
  | _ => 0
noncomputable def zh3 : D → List Tie
  | .tup [_, .tup l] => (VP l).getD []
  | _ => []
theorem ZK (m : Int) (ts : List Tie) : zhA (xQ m ts) = m := rfl
theorem zdZ (ts : List Tie) : ts.map zm = ts.map prD := rfl
theorem Z1 (m : Int) (ts : List Tie) : zh3 (xQ m ts) = ts := by
  show (VP (ts.map zm)).getD [] = ts
  rw [zdZ, ze0]
  rfl
noncomputable def zbO (a b : Int) : Tie := (if b < a then b else a, if b > a then b else a)
noncomputable def xw : SE → Ctl :=
  (sIf (yi (tOf (zn 2 yw (zb (zk ixD (zg 0) (eC (.int 0))) (zb (zg 1) zp))))) sNo zC)
noncomputable def YK : List D → Option D := fnD 2 xw
noncomputable def yb : List D → Option D
  | [.tup [.int m, _], .int p] => if (decide (0 ≤ p) && decide (p ≤ m - 1)) = true then some .non else none
  | _ => none
theorem XS : ∀ ds d, ds.length = 2 → yb ds = some d → YK ds = some d := by
  intro ds d hl h
  obtain ⟨a, b, rfl⟩ := zdA hl
  unfold yb at h
  split at h
  · rename_i m t p' e
    injection e with e1 e2
    injection e2 with e2 _
    subst e1 e2
    obtain ⟨hn, rfl⟩ := ifS h
    have ec : yw [.int m, .int p'] = some (.bl true) := by
      show (if noS (.int p') = true then some (D.bl (yy (.int p') 0 (m - 1))) else none) = _
      rw [if_pos (show noS (.int p') = true from rfl), zbX]
      unfold inR
      rw [hn]
    simp [YK, xw, fnD, zG, zV, vb, sIf, xg, Yk, sNo, zC, XO, Yr, Zj, XR, Y7, vEv, visF, visG, Sl.f, Sl.g, zg, eC, zk, vL, eOr, XY, eIf, eUn, W5, v9, xy, zY, zb, zp, zn, eFn, fFn, tOf, xo, Ye, yi, asB, asI, zO, wM, vK, xA, wO, Xk, xF, ltD, leD, gtD, geD, XF, zN, yp, zQ, yr, Xz, zJ, ixD, Yi, ym, isT, eSl, wD, xz, yJ, yR, iOf, Yh, xa, Y2, wY, XG, yP, wy, fLC, yM, zT, x8, yf, Z5, y0, Xd, b1, b2, ec, atI, ixN]
  · cases h
theorem xY (T : Txt K mg ad) : yQ P w K mg base CX0 4 ad.f_must_be_place ad.e_must_be_place ["web", "thing"] (@spD ⟨K⟩ 2 yb) := by
  letI : KK := ⟨K⟩
  have G_is_place := Zz (P := P) (w := w) (base := base) T
  refine wn (yo (N := ["web", "thing"]) (ps := ["web", "thing"]) T.d_must_be_place.fn XL (g := xw) fun cdv A outer s H E hr => ?_) XS
  unfold xw
  exact (zh (yc (yX (yH (zi G_is_place hr rfl T.d_is_place (za (zD (edv 0) (ze zf) (fun _ _ => rfl)) (za (edv 1) zd))))) (zh v7) zv))
theorem Xj {m : Int} {ts : List Tie} {p : Int} (hp : 0 ≤ p ∧ p < m) : yb [xQ m ts, .int p] = some .non := by
  show (if (decide (0 ≤ p) && decide (p ≤ m - 1)) = true then some D.non else none) = _
  rw [decide_eq_true hp.1, decide_eq_true (by omega)]
  rfl
noncomputable def vY : SE → Ctl :=
  (zV (v9 (zb (eFn zbu (zb (zg 0) (zb (zg 1) zp))) (zb (eFn zj7 (zb (zg 0) (zb (zg 1) zp))) zp))))
noncomputable def V6 : List D → Option D := fnD 2 vY
noncomputable def xq : List D → Option D
  | [.int a, .int b] => some (zm (zbO a b))
  | _ => none
theorem W7 : ∀ ds d, ds.length = 2 → xq ds = some d → V6 ds = some d := by
  intro ds d hl h
  obtain ⟨a, b, rfl⟩ := zdA hl
  cases a <;> try cases h
  cases b <;> try cases h
  rfl
theorem WX (T : Txt K mg ad) : yQ P w K mg base CX0 1 ad.f_tie_between ad.e_tie_between ["one", "other"] (@spD ⟨K⟩ 2 xq) := by
  letI : KK := ⟨K⟩
  refine wn (yo (N := ["one", "other"]) (ps := ["one", "other"]) T.d_tie_between.fn WV (g := vY) fun cdv A outer s H E hr => ?_) W7
  unfold vY
  exact (zh (zo (vz (za (zI (WK rfl) VF rfl T.z_min zce (za (edv 0) (za (edv 1) zd))) (za (zI (zei rfl) zfz rfl T.z_max zgP (za (edv 0) (za (edv 1) zd))) zd)))))
theorem zeE (ts : List Tie) : (ts.map zm).all (okE 20) = true := by
  rw [List.all_map, List.all_eq_true]
  exact fun t _ => rfl
theorem zcf (s t : Tie) : eqN 20 (zm s) (zm t) = decide (s = t) := by
  have : eqN 20 (zm s) (zm t) = ((s.1 == t.1) && ((s.2 == t.2) && true) && true) := rfl
  rw [this, Bool.and_true, Bool.and_true]
  by_cases h : s = t
  · subst h
    simp
  · rw [decide_eq_false h, Bool.and_eq_false_iff]
    by_cases h1 : s.1 = t.1
    · exact .inr (beq_eq_false_iff_ne.mpr fun h2 => h (Prod.ext h1 h2))
    · exact .inl (beq_eq_false_iff_ne.mpr h1)
theorem zcK (t : Tie) (ts : List Tie) : inD (zm t) (.tup (ts.map zm)) = some (.bl (decide (t ∈ ts))) := by
  show (zfw (zm t) (ts.map zm)).map D.bl = _
  unfold zfw
  rw [if_pos ⟨rfl, zeE ts⟩]
  show some (D.bl ((ts.map zm).any fun e => eqN 20 e (zm t))) = _
  rw [List.any_map]
  congr 2
  rw [Bool.eq_iff_iff, List.any_eq_true, decide_eq_true_eq]
  constructor
  · rintro ⟨s, hs, h⟩
    have h : eqN 20 (zm s) (zm t) = true := h
    rw [zcf, decide_eq_true_eq] at h
    subst h
    exact hs
  · exact fun h => ⟨t, h, by show eqN 20 (zm t) (zm t) = true; rw [zcf]; exact decide_eq_true rfl⟩
noncomputable def nbN (m : Int) (ts : List Tie) (p : Int) : List Nat := (List.range m.toNat).filter fun k : Nat => decide (zbO p k ∈ ts)
noncomputable def zbf (k : Nat) : D := .int ((0 : Int) + (k : Int))
noncomputable def wQ : SE → Ctl :=
  (zV (xy (fLC (Y2 wY (zb (zk ixD (zg 0) (eC (.int 0))) zp)) b1 (tOf (zk inD (zn 2 xq (zb (zg 2) (zb (zg 0) zp))) (zk ixD (zg 1) (eC (.int 1))))) (zg 0))))
noncomputable def zar : List D → Option D := fnD 2 wQ
noncomputable def yA : List D → Option D
  | [w, .int p] => if Yb w = true then some (.lst ((nbN (zhA w) (zh3 w) p).map zbf)) else none
  | _ => none
theorem VB : ∀ ds d, ds.length = 2 → yA ds = some d → zar ds = some d := by
  intro ds d hl h
  obtain ⟨a, b, rfl⟩ := zdA hl
  cases b <;> try cases h
  rename_i p
  obtain ⟨hw, rfl⟩ := ifS h
  obtain ⟨m, ts, rfl, ok⟩ := (wA a).mp hw
  rw [ZK, Z1]
  refine Vy rfl ?_
  unfold wQ
  refine XA (d := .lst ((nbN m ts p).map zbf)) ?_ rfl
  have e : fLC (Y2 wY (zb (zk ixD (zg 0) (eC (.int 0))) zp)) b1 (tOf (zk inD (zn 2 xq (zb (zg 2) (zb (zg 0) zp))) (zk ixD (zg 1) (eC (.int 1))))) (zg 0) [some (xQ m ts), some (.int p)] = some ((nbN m ts p).map zbf) := by
    unfold fLC
    show ((wY [.int m]).bind fun ds => if lim ds.length = true then _ else none) = _
    rw [zcm ok]
    show (if lim (zag 0 m.toNat).length = true then _ else none) = _
    rw [if_pos (Zb (by rw [zbn]; have := ok.hi; omega))]
    refine Xh (c := zbf) (p := fun k => decide (zbO p k ∈ ts)) (y := zbf) (List.range m.toNat) fun k hk => ⟨[some (zbf k)], rfl, ?_, fun _ => rfl⟩
    show ((inD (zm (zbO p (0 + (k : Int)))) (.tup (ts.map zm))).bind asB) = _
    rw [Int.zero_add, zcK]
    rfl
  show (match ((fLC (Y2 wY (zb (zk ixD (zg 0) (eC (.int 0))) zp)) b1 (tOf (zk inD (zn 2 xq (zb (zg 2) (zb (zg 0) zp))) (zk ixD (zg 1) (eC (.int 1))))) (zg 0) [some (xQ m ts), some (.int p)]).map D.lst) with | some d => Ctl.rt d | none => Ctl.no) = _
  rw [e]
  rfl
theorem VX (T : Txt K mg ad) : yQ P w K mg base CX0 2 ad.f_neighbours ad.e_neighbours ["web", "place"] (@spD ⟨K⟩ 2 yA) := by
  letI : KK := ⟨K⟩
  have G_tie_between := WX (P := P) (w := w) (base := base) T
  refine wn (yo (N := ["web", "place"]) (ps := ["web", "place"]) T.d_neighbours.fn zac (g := wQ) fun cdv A outer s H E hr => ?_) VB
  unfold wQ
  exact (zh (zo (xb (zch (L := ["other"]) (M := ["web", "place"]) rfl (Yx (by rfl) (by rfl) (by rfl) (by with_unfolding_all rfl) (by rfl) (by rfl) (by kernel_rfl) (all_cons rfl (all_cons rfl wH))) (ZB rfl T.z_range (za (zD (edv 0) (ze zf) (fun _ _ => rfl)) zd)) gs1 rb1 (fun _ _ _ _ => (zB (i := 0) zlN rfl (Or.inl rfl) (.inr rfl))) (fun _ _ _ _ => (zE (zhq hr) zhk (by with_unfolding_all rfl) (zi G_tie_between hr rfl T.d_tie_between (za (edv 2) (za (edv 0) zd))) (zD (edv 1) (ze zf) (fun _ _ => rfl)))) (fun _ _ _ _ => (edv 0))))))
noncomputable def xH (m : Int) (ts : List Tie) (i : Nat) : List Tie := (List.range i).flatMap fun k : Nat => (nbN m ts k).map fun o : Nat => ((0 : Int) + (k : Int), (0 : Int) + (o : Int))
noncomputable def zu (m : Int) (ts : List Tie) : List Tie := xH m ts m.toNat
theorem XB (m : Int) (ts : List Tie) (i : Nat) : xH m ts (i + 1) = xH m ts i ++ (nbN m ts i).map fun o : Nat => ((0 : Int) + (i : Int), (0 : Int) + (o : Int)) := by
  unfold xH
  rw [List.range_succ, List.flatMap_append]
  simp
theorem Z7 {m : Int} {ts : List Tie} {p : Int} (h : wC m ts) : (nbN m ts p).length ≤ 8 := by
  refine Nat.le_trans (List.length_filter_le _ _) ?_
  rw [List.length_range]
  have := h.hi
  omega
theorem Zc {m : Int} {ts : List Tie} (h : wC m ts) (i : Nat) : (xH m ts i).length ≤ 8 * i := by
  induction i with
  | zero => simp [xH]
  | succ i ih =>
    rw [XB, List.length_append, List.length_map]
    have := Z7 (p := (i : Int)) h
    omega
noncomputable def vO : SE → Ctl :=
  (XR 1 (xy (fLC (iOf (zn 2 yA (zb (zg 0) (zb (zg 2) zp)))) b1 yM (v9 (zb (zg 3) (zb (zg 0) zp))))))
noncomputable def vW : SE → Ctl :=
  (zG (Yr 1 (zY zp))
    (zG (xa wY (zb (zk ixD (zg 0) (eC (.int 0))) zp) (yf 2) vO)
    (sFz 1 (zV (zg 1)))))
noncomputable def zbp : List D → Option D := fnD 3 vW
noncomputable def wF : List D → Option D
  | [w] => if Yb w = true then some (.lst ((zu (zhA w) (zh3 w)).map zm)) else none
  | _ => none
theorem zaD : ∀ ds d, ds.length = 1 → wF ds = some d → zbp ds = some d := by
  intro ds d hl h
  obtain ⟨a, rfl⟩ := zjd hl
  obtain ⟨hw, rfl⟩ := ifS h
  obtain ⟨m, ts, rfl, ok⟩ := (wA a).mp hw
  rw [ZK, Z1]
  refine Vy rfl ?_
  unfold vW
  refine zx rfl ?_
  refine xm (zgY (lo := 0) (c := m.toNat) (fun i ρ => ∃ o2, ρ = [.v (xQ m ts), .o ((xH m ts i).map zm), o2]) (zcm ok) ⟨.no, rfl⟩ ?_ ?_)
  · rintro i ρ hi ⟨o2, rfl⟩
    refine ⟨_, rfl, ?_⟩
    unfold vO
    refine Z4 (ρ' := [.v (xQ m ts), .o ((xH m ts (i + 1)).map zm), .v (.int (0 + (i : Int)))]) ?_ ⟨_, rfl⟩
    have e : fLC (iOf (zn 2 yA (zb (zg 0) (zb (zg 2) zp)))) b1 yM (v9 (zb (zg 3) (zb (zg 0) zp))) [some (xQ m ts), none, some (.int (0 + (i : Int)))] = some (((nbN m ts i).map fun o : Nat => ((0 : Int) + (i : Int), (0 : Int) + (o : Int))).map zm) := by
      unfold fLC
      have e1 : yA [xQ m ts, .int (0 + (i : Int))] = some (.lst ((nbN m ts i).map zbf)) := by
        simp only [yA]
        rw [if_pos hw, ZK, Z1, Int.zero_add]
      show ((yA [xQ m ts, .int (0 + (i : Int))]).bind yR).bind _ = _
      rw [e1]
      show (if lim ((nbN m ts i).map zbf).length = true then _ else none) = _
      rw [if_pos (Zb (by rw [List.length_map]; have := Z7 (p := (i : Int)) ok; omega)), List.map_map]
      refine Vv zbf _ (nbN m ts i) fun o _ => ⟨[some (zbf o)], rfl, rfl, ?_⟩
      rfl
    have hl : lim (((xH m ts i).map zm).length + (((nbN m ts i).map fun o : Nat => ((0 : Int) + (i : Int), (0 : Int) + (o : Int))).map zm).length) = true := by
      refine Zb ?_
      simp only [List.length_map]
      have := Zc ok i
      have := Z7 (p := (i : Int)) ok
      have := ok.hi
      omega
    show (match (((fLC (iOf (zn 2 yA (zb (zg 0) (zb (zg 2) zp)))) b1 yM (v9 (zb (zg 3) (zb (zg 0) zp))) [some (xQ m ts), none, some (.int (0 + (i : Int)))]).map D.lst).bind fun d => match (some (Sl.o ((xH m ts i).map zm))), d with
      | some (.o ds), .lst es => if lim (ds.length + es.length) = true then some ([.v (xQ m ts), .o (ds ++ es), .v (.int (0 + (i : Int)))] : SE) else none
      | _, _ => none) with | some ρ' => Ctl.nx ρ' | none => Ctl.no) = _
    rw [e]
    show (match (if lim (((xH m ts i).map zm).length + (((nbN m ts i).map fun o : Nat => ((0 : Int) + (i : Int), (0 : Int) + (o : Int))).map zm).length) = true then some ([.v (xQ m ts), .o ((xH m ts i).map zm ++ ((nbN m ts i).map fun o : Nat => ((0 : Int) + (i : Int), (0 : Int) + (o : Int))).map zm), .v (.int (0 + (i : Int)))] : SE) else none) with | some ρ' => Ctl.nx ρ' | none => Ctl.no) = _
    rw [if_pos hl, XB, List.map_append]
  · rintro ρ ⟨o2, rfl⟩
    exact zhv rfl (XA rfl rfl)
theorem za1 (T : Txt K mg ad) : yQ P w K mg base CX0 3 ad.f_all_steps ad.e_all_steps ["web"] (@spD ⟨K⟩ 1 wF) := by
  letI : KK := ⟨K⟩
  have G_neighbours := VX (P := P) (w := w) (base := base) T
  refine wn (yo (N := ["web", "found", "place"]) (ps := ["web"]) T.d_all_steps.fn Yt (g := vW) fun cdv A outer s H E hr => ?_) zaD
  unfold vW vO
  exact (zc (Y4 (i := 1) Yt.nd rfl (Or.inl rfl) (yL zd))
      (zc (YX PassesOwn.never rfl rfl T.z_range (za (zD (edv 0) (ze zf) (fun _ _ => rfl)) zd) (zS (zB (i := 2) Yt.nd rfl (Or.inr rfl))) (zh (zgT (pv 1) (xb (We (L := ["other"]) (M := ["web", "found", "place"]) rfl (Yx (by rfl) (by rfl) (by rfl) (by with_unfolding_all rfl) (by rfl) (by rfl) (by kernel_rfl) (all_cons rfl wH)) (wS (zi G_neighbours hr rfl T.d_neighbours (za (edv 0) (za (edv 2) zd)))) gs1 rb1 (fun _ _ _ _ => (zB (i := 0) zk9 rfl (Or.inl rfl) (.inr rfl))) (fun _ _ _ _ => (vz (za (edv 3) (za (edv 0) zd)))))) (fun a b => zcX PySem.F.plainAttrs_list PySem.F.slot_list_extend PySem.F.type_list_extend zal a b))))
      (Y9 1 (zh (zo (edv 1))))))
theorem zdx {m : Int} {ns : List Int} (h1 : (ns.length : Int) = m) (h2 : ∀ n ∈ ns, 0 ≤ n) (h3 : ns.sum ≤ 300) : Zn m (.tup (ns.map .int)) = true := by
  unfold Zn xt
  rw [Bool.and_eq_true, Bool.and_eq_true, decide_eq_true_eq, decide_eq_true_eq, Ve, List.length_map]
  exact ⟨⟨h1, zfi h2⟩, h3⟩
theorem zfG (ns : List Int) : noS (.tup (ns.map .int)) = true := by
  show zfk (ns.map .int) = true
  induction ns with
  | nil => rfl
  | cons n ns ih => show (noS (.int n) && zfk (ns.map .int)) = true; rw [ih]; rfl
noncomputable def vAt (ns : List Int) (i : Int) : Int := ns.getD i.toNat 0
theorem wv {ns : List Int} {i : Int} (h0 : 0 ≤ i) (h1 : i < ns.length) : atI (ns.map D.int) i = some (.int (vAt ns i)) := by
  unfold vAt
  obtain ⟨k, hk⟩ : ∃ k : Nat, i = k := ⟨i.toNat, by omega⟩
  subst hk
  refine zeN ?_
  rw [Int.toNat_natCast, List.getElem?_map, List.getElem?_eq_getElem (by omega), List.getD_eq_getElem?_getD, List.getElem?_eq_getElem (by omega)]
  rfl
theorem zhT {ns : List Int} {i m : Int} (h : 0 ≤ i ∧ i < m) (hl : (ns.length : Int) = m) : atI (ns.map D.int) i = some (.int (vAt ns i)) := wv h.1 (by omega)
theorem Vh {m : Int} {ts : List Tie} {s : Tie} : s ∈ zu m ts ↔ (0 ≤ s.1 ∧ s.1 < m) ∧ (0 ≤ s.2 ∧ s.2 < m) ∧ zbO s.1 s.2 ∈ ts := by
  unfold zu xH nbN
  rw [List.mem_flatMap]
  constructor
  · rintro ⟨k, hk, h⟩
    obtain ⟨o, ho, rfl⟩ := List.mem_map.mp h
    rw [List.mem_filter, List.mem_range, decide_eq_true_eq] at ho
    rw [List.mem_range] at hk
    simp only [Int.zero_add]
    exact ⟨⟨by (clear h ho hk; omega), by (clear h ho; omega)⟩, ⟨by (clear h ho hk; omega), by omega⟩, ho.2⟩
  · rintro ⟨⟨a1, a2⟩, ⟨b1, b2⟩, h⟩
    refine ⟨s.1.toNat, List.mem_range.mpr (by (clear b2 b1 h; omega)), List.mem_map.mpr ⟨s.2.toNat, ?_, ?_⟩⟩
    · rw [List.mem_filter, List.mem_range, decide_eq_true_eq]
      refine ⟨by omega, ?_⟩
      rw [show ((s.1.toNat : Nat) : Int) = s.1 by (clear b2 b1 h a2; omega), show ((s.2.toNat : Nat) : Int) = s.2 by omega]
      exact h
    · exact Prod.ext (by show (0 : Int) + (s.1.toNat : Int) = s.1; (clear b2 b1 h a2; omega)) (by show (0 : Int) + (s.2.toNat : Int) = s.2; omega)
end
theorem zeu {m : Nat} {g : SE → Ctl} {ds : List D} {R : D → Prop} {ρ : SE} (e : ds.map .v ++ List.replicate (m - ds.length) .no = ρ) (q : (g ρ).w (fun _ => R .non) noP noP R) : ∃ d, fnD m g ds = some d ∧ R d := by
  unfold fnD
  rw [e]
  cases hg : g ρ with
  | nx ρ' => rw [hg] at q; exact ⟨_, rfl, q.nxi⟩
  | rt d' => rw [hg] at q; exact ⟨_, rfl, q.rti⟩
  | bk _ => rw [hg] at q; exact q.bki.elim
  | ct _ => rw [hg] at q; exact q.cti.elim
  | no => rw [hg] at q; exact q.noi.elim
section
variable {P : Program} {w : World} {K : PySem.W.Frag} {mg : Str → Option Value} {base : Heap} {ad : Adr}
noncomputable def vP : SE → Ctl :=
  (zG (xg false 2 (zk wO (zk vK (zk Yg (zk Yg (zk wO (zg 0) (eC (.int 2147483647))) (zk vK (eC (.int 977)) (zg 1))) (eC (.int 1))) (eC (.int 48271))) (eC (.int 2147483647))))
    (zG (xg false 2 (zk wO (zk vK (zg 2) (zg 2)) (eC (.int 2147483629))))
    (zG (xg false 2 (zk wO (zk vK (zk Yg (zg 2) (zk vK (eC (.int 40692)) (zk Yg (zg 1) (eC (.int 3))))) (eC (.int 69621))) (eC (.int 2147483647))))
    (zV (zk xA (zg 2) (eC (.int 8)))))))
noncomputable def zb3 : List D → Option D := fnD 3 vP
noncomputable def ya : List D → Option D
  | [.int c, .int k] => some (.int (VL c k))
  | _ => none
theorem zbT {i j : Int} (h1 : -(2 ^ 64) < i) (h2 : i < 2 ^ 64) : X7 i j = true := decide_eq_true (.inl ⟨h1, h2⟩)
theorem zaa {i j : Int} (h1 : -(2 ^ 64) < j) (h2 : j < 2 ^ 64) : X7 i j = true := decide_eq_true (.inr ⟨h1, h2⟩)
theorem Zy {i j : Int} (h : X7 i j = true) : vK (.int i) (.int j) = some (.int (i * j)) := by
  show (if X7 i j = true then _ else none) = _
  rw [if_pos h]
theorem xI {i j : Int} (h : 0 < j) : wO (.int i) (.int j) = some (.int (i % j)) := by
  show (if decide (0 < j) = true then _ else none) = _
  rw [if_pos (decide_eq_true h)]
theorem zfJ {i j : Int} (h : 0 < j) (h2 : j < 1606938044258990275541962092341162602522202993782792835301376) : xA (.int i) (.int j) = some (.int (i / j)) := by
  show (if decide (0 < j ∧ j < 1606938044258990275541962092341162602522202993782792835301376) = true then _ else none) = _
  rw [if_pos (decide_eq_true ⟨h, h2⟩)]
theorem zaZ : ∀ ds d, ds.length = 2 → ya ds = some d → zb3 ds = some d := by
  intro ds d hl h
  obtain ⟨a, b, rfl⟩ := zdA hl
  cases a <;> try cases h
  cases b <;> try cases h
  rename_i c k
  have h1 := Int.emod_nonneg ((c % 2147483647 + 977 * k + 1) * 48271) (show (2147483647 : Int) ≠ 0 by decide)
  have h2 := Int.emod_lt_of_pos ((c % 2147483647 + 977 * k + 1) * 48271) (show (0 : Int) < 2147483647 by decide)
  have m1 : X7 977 k = true := zbT (by decide) (by decide)
  have m2 : X7 (c % 2147483647 + 977 * k + 1) 48271 = true := zaa (by decide) (by decide)
  obtain ⟨x, hx⟩ : ∃ x, (c % 2147483647 + 977 * k + 1) * 48271 % 2147483647 = x := ⟨_, rfl⟩
  rw [hx] at h1 h2
  have m3 : X7 x x = true := zbT (Int.lt_of_lt_of_le (by decide) h1) (Int.lt_trans h2 (by decide))
  have m4 : X7 40692 (k + 3) = true := zbT (by decide) (by decide)
  have m5 : ∀ x, X7 x 69621 = true := fun x => zaa (by decide) (by decide)
  obtain ⟨y, hy⟩ : ∃ y, x * x % 2147483629 = y := ⟨_, rfl⟩
  obtain ⟨z, hz⟩ : ∃ z, (y + 40692 * (k + 3)) * 69621 % 2147483647 = z := ⟨_, rfl⟩
  have hst : VL c k = z / 8 := by
    show ((((c % 2147483647 + 977 * k + 1) * 48271 % 2147483647) * ((c % 2147483647 + 977 * k + 1) * 48271 % 2147483647) % 2147483629 + 40692 * (k + 3)) * 69621 % 2147483647 / 8) = _
    rw [hx, hy, hz]
  rw [hst]
  refine Vy (ρ := [.v (.int c), .v (.int k), .no]) rfl ?_
  unfold vP
  refine zx (ρ' := [.v (.int c), .v (.int k), .v (.int x)]) (vv ?_) ?_
  · show (((((wO (.int c) (.int 2147483647)).bind fun a => (vK (.int 977) (.int k)).bind fun b => Yg a b).bind fun a => Yg a (.int 1)).bind fun a => vK a (.int 48271)).bind fun a => wO a (.int 2147483647)) = _
    rw [xI (by decide), Zy m1]
    show ((vK (.int (c % 2147483647 + 977 * k + 1)) (.int 48271)).bind fun a => wO a (.int 2147483647)) = _
    rw [Zy m2, ← hx]
    exact xI (by decide)
  refine zx (ρ' := [.v (.int c), .v (.int k), .v (.int y)]) (vv ?_) ?_
  · show ((vK (.int x) (.int x)).bind fun a => wO a (.int 2147483629)) = _
    rw [Zy m3, ← hy]
    exact xI (by decide)
  refine zx (ρ' := [.v (.int c), .v (.int k), .v (.int z)]) (vv ?_) ?_
  · show ((((vK (.int 40692) (.int (k + 3))).bind fun b => Yg (.int y) b).bind fun a => vK a (.int 69621)).bind fun a => wO a (.int 2147483647)) = _
    rw [Zy m4]
    show ((vK (.int (y + 40692 * (k + 3))) (.int 69621)).bind fun a => wO a (.int 2147483647)) = _
    rw [Zy (m5 _), ← hz]
    exact xI (by decide)
  exact XA (Zi (show xA (.int z) (.int 8) = _ from zfJ (by decide) (by decide))) rfl
theorem XE (T : Txt K mg ad) : yQ P w K mg base CX0 1 ad.f__law_stir ad.e__law_stir ["cell", "k"] (@spD ⟨K⟩ 2 ya) := by
  letI : KK := ⟨K⟩
  refine wn (yo (N := ["cell", "k", "number"]) (ps := ["cell", "k"]) T.d__law_stir.fn wV (g := vP) fun cdv A outer s H E hr => ?_) zaZ
  unfold vP
  exact (zc (zR (m := false) (i := 2) wV.nd rfl (Or.inl rfl) (wG (WH (yC (yC (wG (edv 0) (ze zf)) (WH (ze zf) (edv 1))) (ze zf)) (ze zf)) (ze zf)))
      (zc (zR (m := false) (i := 2) wV.nd rfl (Or.inl rfl) (wG (WH (edv 2) (edv 2)) (ze zf)))
      (zc (zR (m := false) (i := 2) wV.nd rfl (Or.inl rfl) (wG (WH (yC (edv 2) (WH (ze zf) (yC (edv 1) (ze zf)))) (ze zf)) (ze zf)))
      (zh (zo (zad (edv 2) (ze zf)))))))
theorem Vg {j : Int} (h3 : 0 ≤ j) (h4 : j ≤ 1000000) : wY [.int j] = some (zag 0 j.toNat) := by
  show (if zhw j = true then some (zag 0 j.toNat) else none) = _
  rw [if_pos (xO.mpr ⟨by omega, by omega⟩)]
noncomputable def xN : SE → Ctl :=
  (zG (sIf (tOf (zk ltD (zg 1) (eFn Yi (zb (zg 0) zp)))) (zV (zk ixD (zg 0) (zg 1))) zC)
    (zV (eC (.int 0))))
noncomputable def yu : List D → Option D := fnD 2 xN
theorem Va (ns : List Int) : ∃ c : Int, yu [.scr ns, .int 0] = some (.int c) := by
  cases ns with
  | nil => exact ⟨0, rfl⟩
  | cons n ns =>
    refine ⟨n, ?_⟩
    have e : atI (n :: ns) 0 = some n := zjU (Int.le_refl _) rfl
    simp [yu, xN, fnD, zG, zV, vb, sIf, xg, Yk, sNo, zC, XO, Yr, Zj, XR, Y7, vEv, visF, visG, Sl.f, Sl.g, zg, eC, zk, vL, eOr, XY, eIf, eUn, W5, v9, xy, zY, zb, zp, zn, eFn, fFn, tOf, xo, Ye, yi, asB, asI, zO, wM, vK, xA, wO, Xk, xF, ltD, leD, gtD, geD, XF, zN, yp, zQ, yr, Xz, zJ, ixD, Yi, ym, isT, eSl, wD, xz, yJ, yR, iOf, Yh, xa, Y2, wY, XG, yP, wy, fLC, yM, zT, x8, yf, Z5, y0, Xd, b1, b2, e]
theorem WQ (T : Txt K mg ad) : yQ P w K mg base CX0 1 ad.f__law_cell_at ad.e__law_cell_at ["script", "k"] (@spD ⟨K⟩ 2 yu) := by
  letI : KK := ⟨K⟩
  refine yo (N := ["script", "k"]) (ps := ["script", "k"]) T.d__law_cell_at.fn X8 (g := xN) fun cdv A outer s H E hr => ?_
  unfold xN
  exact (zc (yc (zE zig zU (zy _) (edv 1) (zI zM wk rfl T.z_len Yd (za (edv 0) zd))) (zh (zo (zD (edv 0) (edv 1) (fun _ _ => rfl)))) zv)
      (zh (zo (ze zf))))
theorem zgw {ρ : Ev} (ns : List Int) (k : Int) (h : ns.length ≤ 63) : ∃ xs : List Int, (iOf (zk Yg (xy (zY (zb (zn 2 yu (zb (zg 0) (zb (eC (.int 0)) zp))) zp))) (eSl slD (zg 0) (xz (eC (.int 1))) (xz (eC (.int k)))))) (some (.scr ns) :: ρ) = some (xs.map .int) := by
  obtain ⟨c, hc⟩ := Va ns
  refine ⟨c :: zdy ns (some 1) (some k), ?_⟩
  have e := zgb (a := [.int c]) (b := (zdy ns (some 1) (some k)).map .int) (by have := zgx ns (some 1) (some k); simp; omega)
  simp [iOf, zk, xy, zY, zb, zp, zn, zg, eC, hc, Zb, eSl, xz, asI, slD, e, yR]
noncomputable def ww (r : List D → Option D) : SE → Ctl :=
  (sIf (yi (tOf (zn 2 r (zb (zg 2) (zb (zg 3) zp))))) (zV (eC (.bl false))) zC)
noncomputable def yq (r : List D → Option D) : SE → Ctl :=
  (zG (sIf (tOf (zk Xz (zg 1) (eC .non))) (zV (zk Xz (zg 0) (eC .non))) zC)
    (zG (sIf (tOf (eUn (ym .bool) (zg 1))) (zV (vL (eUn (ym .bool) (zg 0)) (zk ZQ (zg 0) (zg 1)))) zC)
    (zG (sIf (tOf (eUn (ym .int) (zg 1))) (zV (vL (eUn (ym .int) (zg 0)) (vL (XY (eUn (ym .bool) (zg 0))) (zk ZQ (zg 0) (zg 1))))) zC)
    (zG (sIf (tOf (eUn (ym .str) (zg 1))) (zV (vL (eUn (ym .str) (zg 0)) (zk ZQ (zg 0) (zg 1)))) zC)
    (zG (sIf (Ye (tOf (zk neD (eUn (ym .list) (zg 1)) (eUn (ym .list) (zg 0)))) (tOf (zk neD (eUn (ym .tuple) (zg 1)) (eUn (ym .tuple) (zg 0))))) (zV (eC (.bl false))) zC)
    (zG (sIf (tOf (zk neD (eFn Yi (zb (zg 0) zp)) (eFn Yi (zb (zg 1) zp)))) (zV (eC (.bl false))) zC)
    (zG (Yh (wy (zb (zg 0) (zb (zg 1) zp))) (Z5 2 (y0 (yf 2) (y0 (yf 3) Xd))) (ww r))
    (zV (eC (.bl true))))))))))
noncomputable def vN : List D → Option D := zj8 4 yq 6
theorem zaw (ds : List D) : zcC ds ds = ds.map fun d => .tup [d, d] := by
  induction ds with
  | nil => rfl
  | cons d ds ih => show D.tup [d, d] :: zcC ds ds = _; rw [ih]; rfl
theorem zaU {r : List D → Option D} {d : D} (hr : ∀ es, (d = .tup es ∨ d = .lst es) → ∀ e ∈ es, r [e, e] = some (.bl true)) (hn : ∀ ns, d ≠ .scr ns) (hd : ∀ z t ks vs, d ≠ .dct z t ks vs) : fnD 4 (yq r) [d, d] = some (.bl true) := by
  cases d with
  | scr ns => exact absurd rfl (hn ns)
  | dct z t ks vs => exact absurd rfl (hd z t ks vs)
  | non => rfl
  | bl b => cases b <;> rfl
  | int i => simp [yq, fnD, zG, zV, vb, sIf, xg, Yk, sNo, zC, XO, Yr, Zj, XR, Y7, vEv, visF, visG, Sl.f, Sl.g, zg, eC, zk, vL, eOr, XY, eIf, eUn, W5, v9, xy, zY, zb, zp, zn, eFn, fFn, tOf, xo, Ye, yi, asB, asI, zO, wM, vK, xA, wO, Xk, xF, ltD, leD, gtD, geD, XF, zN, yp, zQ, yr, Xz, zJ, ixD, Yi, ym, isT, eSl, wD, xz, yJ, yR, iOf, Yh, xa, Y2, wY, XG, yP, wy, fLC, yM, zT, x8, yf, Z5, y0, Xd, b1, b2]
  | str x => simp [yq, fnD, zG, zV, vb, sIf, xg, Yk, sNo, zC, XO, Yr, Zj, XR, Y7, vEv, visF, visG, Sl.f, Sl.g, zg, eC, zk, vL, eOr, XY, eIf, eUn, W5, v9, xy, zY, zb, zp, zn, eFn, fFn, tOf, xo, Ye, yi, asB, asI, zO, wM, vK, xA, wO, Xk, xF, ltD, leD, gtD, geD, XF, zN, yp, zQ, yr, Xz, zJ, ixD, Yi, ym, isT, eSl, wD, xz, yJ, yR, iOf, Yh, xa, Y2, wY, XG, yP, wy, fLC, yM, zT, x8, yf, Z5, y0, Xd, b1, b2]
  | tup es =>
    refine Vy (ρ := [.v (.tup es), .v (.tup es), .no, .no]) rfl ?_
    unfold yq
    refine zx rfl (zx rfl (zx rfl (zx rfl (zx rfl (xm (W0 (c := false) (by simp [fnD, zG, zV, vb, sIf, xg, Yk, sNo, zC, XO, Yr, Zj, XR, Y7, vEv, visF, visG, Sl.f, Sl.g, zg, eC, zk, vL, eOr, XY, eIf, eUn, W5, v9, xy, zY, zb, zp, zn, eFn, fFn, tOf, xo, Ye, yi, asB, asI, zO, wM, vK, xA, wO, Xk, xF, ltD, leD, gtD, geD, XF, zN, yp, zQ, yr, Xz, zJ, ixD, Yi, ym, isT, eSl, wD, xz, yJ, yR, iOf, Yh, xa, Y2, wY, XG, yP, wy, fLC, yM, zT, x8, yf, Z5, y0, Xd, b1, b2]) (fun z => by cases z) fun _ => Z4 rfl ?_))))))
    refine xm (W4 (ds := zcC es es) (fun i ρ => ∃ o1 o2, ρ = [.v (.tup es), .v (.tup es), o1, o2]) (by simp [fnD, zG, zV, vb, sIf, xg, Yk, sNo, zC, XO, Yr, Zj, XR, Y7, vEv, visF, visG, Sl.f, Sl.g, zg, eC, zk, vL, eOr, XY, eIf, eUn, W5, v9, xy, zY, zb, zp, zn, eFn, fFn, tOf, xo, Ye, yi, asB, asI, zO, wM, vK, xA, wO, Xk, xF, ltD, leD, gtD, geD, XF, zN, yp, zQ, yr, Xz, zJ, ixD, Yi, ym, isT, eSl, wD, xz, yJ, yR, iOf, Yh, xa, Y2, wY, XG, yP, wy, fLC, yM, zT, x8, yf, Z5, y0, Xd, b1, b2]) ⟨_, _, rfl⟩ ?_ ?_)
    · rintro i d ρ hd ⟨o1, o2, rfl⟩
      rw [zaw, List.getElem?_map] at hd
      obtain ⟨e, he, rfl⟩ := Option.map_eq_some_iff.mp hd
      have hre := hr es (.inl rfl) e (List.mem_of_getElem? he)
      refine ⟨_, rfl, ?_⟩
      unfold ww
      refine W0 (c := false) (by simp [fnD, zG, zV, vb, sIf, xg, Yk, sNo, zC, XO, Yr, Zj, XR, Y7, vEv, visF, visG, Sl.f, Sl.g, zg, eC, zk, vL, eOr, XY, eIf, eUn, W5, v9, xy, zY, zb, zp, zn, eFn, fFn, tOf, xo, Ye, yi, asB, asI, zO, wM, vK, xA, wO, Xk, xF, ltD, leD, gtD, geD, XF, zN, yp, zQ, yr, Xz, zJ, ixD, Yi, ym, isT, eSl, wD, xz, yJ, yR, iOf, Yh, xa, Y2, wY, XG, yP, wy, fLC, yM, zT, x8, yf, Z5, y0, Xd, b1, b2, hre]) (fun z => by cases z) fun _ => Z4 rfl ⟨_, _, rfl⟩
    · rintro ρ ⟨o1, o2, rfl⟩
      exact XA rfl rfl
  | lst es =>
    refine Vy (ρ := [.v (.lst es), .v (.lst es), .no, .no]) rfl ?_
    unfold yq
    refine zx rfl (zx rfl (zx rfl (zx rfl (zx rfl (xm (W0 (c := false) (by simp [fnD, zG, zV, vb, sIf, xg, Yk, sNo, zC, XO, Yr, Zj, XR, Y7, vEv, visF, visG, Sl.f, Sl.g, zg, eC, zk, vL, eOr, XY, eIf, eUn, W5, v9, xy, zY, zb, zp, zn, eFn, fFn, tOf, xo, Ye, yi, asB, asI, zO, wM, vK, xA, wO, Xk, xF, ltD, leD, gtD, geD, XF, zN, yp, zQ, yr, Xz, zJ, ixD, Yi, ym, isT, eSl, wD, xz, yJ, yR, iOf, Yh, xa, Y2, wY, XG, yP, wy, fLC, yM, zT, x8, yf, Z5, y0, Xd, b1, b2]) (fun z => by cases z) fun _ => Z4 rfl ?_))))))
    refine xm (W4 (ds := zcC es es) (fun i ρ => ∃ o1 o2, ρ = [.v (.lst es), .v (.lst es), o1, o2]) (by simp [fnD, zG, zV, vb, sIf, xg, Yk, sNo, zC, XO, Yr, Zj, XR, Y7, vEv, visF, visG, Sl.f, Sl.g, zg, eC, zk, vL, eOr, XY, eIf, eUn, W5, v9, xy, zY, zb, zp, zn, eFn, fFn, tOf, xo, Ye, yi, asB, asI, zO, wM, vK, xA, wO, Xk, xF, ltD, leD, gtD, geD, XF, zN, yp, zQ, yr, Xz, zJ, ixD, Yi, ym, isT, eSl, wD, xz, yJ, yR, iOf, Yh, xa, Y2, wY, XG, yP, wy, fLC, yM, zT, x8, yf, Z5, y0, Xd, b1, b2]) ⟨_, _, rfl⟩ ?_ ?_)
    · rintro i d ρ hd ⟨o1, o2, rfl⟩
      rw [zaw, List.getElem?_map] at hd
      obtain ⟨e, he, rfl⟩ := Option.map_eq_some_iff.mp hd
      have hre := hr es (.inr rfl) e (List.mem_of_getElem? he)
      refine ⟨_, rfl, ?_⟩
      unfold ww
      refine W0 (c := false) (by simp [fnD, zG, zV, vb, sIf, xg, Yk, sNo, zC, XO, Yr, Zj, XR, Y7, vEv, visF, visG, Sl.f, Sl.g, zg, eC, zk, vL, eOr, XY, eIf, eUn, W5, v9, xy, zY, zb, zp, zn, eFn, fFn, tOf, xo, Ye, yi, asB, asI, zO, wM, vK, xA, wO, Xk, xF, ltD, leD, gtD, geD, XF, zN, yp, zQ, yr, Xz, zJ, ixD, Yi, ym, isT, eSl, wD, xz, yJ, yR, iOf, Yh, xa, Y2, wY, XG, yP, wy, fLC, yM, zT, x8, yf, Z5, y0, Xd, b1, b2, hre]) (fun z => by cases z) fun _ => Z4 rfl ⟨_, _, rfl⟩
    · rintro ρ ⟨o1, o2, rfl⟩
      exact XA rfl rfl
theorem zeO : ∀ (n : Nat) {d : D}, okE n d = true → zj8 4 yq (n + 1) [d, d] = some (.bl true) := by
  intro n
  induction n with
  | zero =>
    intro d h
    refine zaU (fun es he => ?_) (fun ns e => by subst e; cases h) (fun _ _ _ _ e => by subst e; cases h)
    rcases he with rfl | rfl <;> cases h
  | succ n ih =>
    intro d h
    refine zaU (fun es he e hm => ?_) (fun ns e => by subst e; cases h) (fun _ _ _ _ e => by subst e; cases h)
    rcases he with rfl | rfl
    · exact ih (List.all_eq_true.mp h e hm)
    · exact ih (List.all_eq_true.mp h e hm)
theorem zgL {d : D} (h : okE 5 d = true) : vN [d, d] = some (.bl true) := zeO 5 h
theorem zaH (T : Txt K mg ad) : yQ P w K mg base CX0 7 ad.f__law_same ad.e__law_same ["found", "due"] (@spD ⟨K⟩ 2 vN) := by
  letI : KK := ⟨K⟩
  have R : ∀ n, yQ P w K mg base CX0 (1 + n) ad.f__law_same ad.e__law_same ["found", "due"] (spD 2 (zj8 4 yq n)) := by
    refine zjH (P := P) (w := w) (mg := mg) (base := base) (k0 := 1) (g := yq) T.d__law_same.fn YI fun k r hrec cdv A outer s H E hr => ?_
    unfold yq ww
    exact (zc (yc (zE zd3 zbs (zy _) (edv 1) (wT wW)) (zh (zo (xS zd3 zbs (zy _) (edv 0) (wT wW)))) zv)
      (zc (yc (yH (zF .bool rfl T.z_isinstance (edv 1) (yh (v := .ty "bool") rfl T.z_bool VY rfl))) (zh (zo (wX (zF .bool rfl T.z_isinstance (edv 0) (yh (v := .ty "bool") rfl T.z_bool VY rfl)) (vC (xS (yT hr) yj (zy _) (edv 0) (edv 1)))))) zv)
      (zc (yc (yH (zF .int rfl T.z_isinstance (edv 1) (yh (v := .ty "int") rfl T.z_int zcq rfl))) (zh (zo (wX (zF .int rfl T.z_isinstance (edv 0) (yh (v := .ty "int") rfl T.z_int zcq rfl)) (wX (zgS (zF .bool rfl T.z_isinstance (edv 0) (yh (v := .ty "bool") rfl T.z_bool VY rfl))) (vC (xS (yT hr) yj (zy _) (edv 0) (edv 1))))))) zv)
      (zc (yc (yH (zF .str rfl T.z_isinstance (edv 1) (yh (v := .ty "str") rfl T.z_str zeG rfl))) (zh (zo (wX (zF .str rfl T.z_isinstance (edv 0) (yh (v := .ty "str") rfl T.z_str zeG rfl)) (vC (xS (yT hr) yj (zy _) (edv 0) (edv 1)))))) zv)
      (zc (yc (zcp (XT (zE Vo ZY (zy _) (zF .list rfl T.z_isinstance (edv 1) (yh (v := .ty "list") rfl T.z_list Wh rfl)) (zF .list rfl T.z_isinstance (edv 0) (yh (v := .ty "list") rfl T.z_list Wh rfl))) (YA (zE Vo ZY (zy _) (zF .tuple rfl T.z_isinstance (edv 1) (yh (v := .ty "tuple") rfl T.z_tuple yg rfl)) (zF .tuple rfl T.z_isinstance (edv 0) (yh (v := .ty "tuple") rfl T.z_tuple yg rfl)))))) (zh (zo (ve vf))) zv)
      (zc (yc (zE Vo ZY (zy _) (zI zM wk rfl T.z_len Yd (za (edv 0) zd)) (zI zM wk rfl T.z_len Yd (za (edv 1) zd))) (zh (zo (ve vf))) zv)
      (zc (vH PassesOwn.never rfl (zgU rfl T.z_zip (za (edv 0) (za (edv 1) zd))) (za0 rfl (xM (zS (zB (i := 2) YI.nd rfl (Or.inl rfl))) (xM (zS (zB (i := 3) YI.nd rfl (Or.inl rfl))) Wa))) (zh (yc (yX (yH (zfh hrec hr rfl T.d__law_same.at_ T.d__law_same.kp T.d__law_same.bd (za (edv 2) (za (edv 3) zd))))) (zh (zo (ve vf))) zv)))
      (zh (zo (ve vf))))))))))
  exact R 6
noncomputable abbrev Hl := List Int
noncomputable def hD (h : Hl) : D := .tup (h.map .int)
noncomputable def hK (h : Hl) : List Key := h.map Sum.inl
theorem zhe : ∀ {a b : Hl}, hK a = hK b → a = b
  | [], [], _ => rfl
  | [], _ :: _, h => by cases h
  | _ :: _, [], h => by cases h
  | a :: r, b :: q, h => by
    injection h with h1 h2
    injection h1 with h1
    rw [h1, zhe h2]
theorem Vs (h : Hl) : zfj (hD h) = some (hK h) := by
  show zdm (h.map .int) = some (h.map Sum.inl)
  induction h with
  | nil => rfl
  | cons a r ih =>
    show (some (Sum.inl a)).bind (fun k => (zdm (r.map .int)).map (k :: ·)) = _
    rw [ih]
    rfl
theorem zeP (h : Hl) : zcc true (hK h) = hD h := by
  show D.tup ((h.map Sum.inl).map k1D) = _
  rw [List.map_map]
  rfl
noncomputable def zbc (h : Hl) (i x : Int) : Hl := h.set i.toNat x
noncomputable def moved (h : Hl) (s : Tie) : Hl := zbc (zbc h s.1 (vAt h s.1 - 2)) s.2 (vAt (zbc h s.1 (vAt h s.1 - 2)) s.2 + 1)
theorem Z3 (h : Hl) (i x : Int) : (zbc h i x).length = h.length := by unfold zbc; exact List.length_set
theorem Yz (h : Hl) (s : Tie) : (moved h s).length = h.length := by unfold moved; rw [Z3, Z3]
theorem X1 {h : Hl} {i j x : Int} (hi : 0 ≤ i) (hl : i < h.length) (hj : 0 ≤ j) : vAt (zbc h i x) j = if j = i then x else vAt h j := by
  unfold vAt zbc
  rw [List.getD_eq_getElem?_getD, List.getElem?_set, List.getD_eq_getElem?_getD]
  by_cases e : j = i
  · subst e
    rw [if_pos rfl, if_pos (by omega), if_pos rfl]
    rfl
  · rw [if_neg (by omega), if_neg e]
theorem zcQ {h : Hl} {i x : Int} (hi : 0 ≤ i) (hl : i < h.length) : (zbc h i x).sum = h.sum - vAt h i + x := by
  unfold zbc
  rw [zeL (h := by omega)]
  unfold vAt
  rw [Dl.getD_at (by omega)]
theorem zck {h : Hl} {i x v : Int} (hv : v ∈ zbc h i x) : v = x ∨ v ∈ h := by
  unfold zbc at hv
  rcases List.mem_or_eq_of_mem_set hv with e | e
  · exact .inr e
  · exact .inl e
set_option genInjectivity false in
set_option genSizeOf false in
set_option genCtorIdx false in
structure wP (n : Nat) (s : Tie) : Prop where
  a0 : 0 ≤ s.1
  a1 : s.1 < (n : Int)
  b0 : 0 ≤ s.2
  b1 : s.2 < (n : Int)
  ne : s.1 ≠ s.2
theorem WJ {h : Hl} {s : Tie} (hs : wP h.length s) : (moved h s).sum = h.sum - 1 := by
  unfold moved
  rw [zcQ hs.b0 (by rw [Z3]; exact hs.b1), zcQ hs.a0 hs.a1]
  omega
theorem Xn {h : Hl} {i : Int} (hi : 0 ≤ i) (hl : i < h.length) : vAt h i ∈ h := by
  unfold vAt
  exact Dl.getD_mem (by omega)
theorem zf6 {h : Hl} {s : Tie} (hs : wP h.length s) (hn : ∀ v ∈ h, 0 ≤ v) (h2 : 2 ≤ vAt h s.1) : ∀ v ∈ moved h s, 0 ≤ v := by
  intro v hv
  unfold moved at hv
  have e : vAt (zbc h s.1 (vAt h s.1 - 2)) s.2 = vAt h s.2 := by
    rw [X1 hs.a0 hs.a1 hs.b0, if_neg (fun e => hs.ne e.symm)]
  rcases zck hv with rfl | hv
  · rw [e]
    have := hn _ (Xn hs.b0 hs.b1)
    omega
  · rcases zck hv with rfl | hv
    · omega
    · exact hn v hv
noncomputable def ZT : SE → Ctl :=
  (zG (Yr 2 (fFn x8 (zb (zg 0) zp)))
    (zG (Y7 true 2 (zk ixD (zg 1) (eC (.int 0))) (zk wM (zk ixD (zg 2) (zk ixD (zg 1) (eC (.int 0)))) (eC (.int 2))))
    (zG (Y7 true 2 (zk ixD (zg 1) (eC (.int 1))) (zk Yg (zk ixD (zg 2) (zk ixD (zg 1) (eC (.int 1)))) (eC (.int 1))))
    (sFz 2 (zV (eFn zT (zb (zg 2) zp)))))))
noncomputable def Wl : List D → Option D := fnD 3 ZT
theorem zdg {h : Hl} {s : Tie} (hs : wP h.length s) : Wl [hD h, zm s] = some (hD (moved h s)) := by
  obtain ⟨a, b⟩ := s
  obtain ⟨a0, a1, b0, b1, ne⟩ := hs
  dsimp only at a0 a1 b0 b1 ne
  refine Vy (ρ := [.v (hD h), .v (zm (a, b)), .no]) rfl ?_
  unfold ZT
  refine zx (ρ' := [.v (hD h), .v (zm (a, b)), .o (h.map .int)]) rfl ?_
  have ea := wv (ns := h) a0 a1
  obtain ⟨g, hg⟩ : ∃ g, zbc h a (vAt h a - 2) = g := ⟨_, rfl⟩
  have gl : g.length = h.length := by rw [← hg, Z3]
  have eb := wv (ns := g) b0 (by rw [gl]; exact b1)
  have hm : moved h (a, b) = zbc g b (vAt g b + 1) := by unfold moved; rw [hg]
  rw [hm]
  refine xm (ziv (h.map .int) (.int (vAt h a - 2)) a ?_ rfl rfl a0 (by rw [List.length_map]; exact a1) ?_)
  · show (Option.bind ((atI (h.map D.int) a).bind fun x => wM x (.int 2)) fun d => if noL d = true then some d else none) = _
    rw [ea]
    rfl
  rw [show (h.map D.int).set a.toNat (.int (vAt h a - 2)) = g.map .int by rw [← hg]; unfold zbc; rw [List.map_set]]
  refine xm (ziv (g.map .int) (.int (vAt g b + 1)) b ?_ rfl rfl b0 (by rw [List.length_map, gl]; exact b1) ?_)
  · show (Option.bind ((atI (g.map D.int) b).bind fun x => Yg x (.int 1)) fun d => if noL d = true then some d else none) = _
    rw [eb]
    rfl
  rw [show (g.map D.int).set b.toNat (.int (vAt g b + 1)) = (zbc g b (vAt g b + 1)).map .int by unfold zbc; rw [List.map_set]]
  exact zhv rfl (XA rfl rfl)
theorem zdi (T : Txt K mg ad) : yQ P w K mg base CX0 1 ad.f_stepped ad.e_stepped ["heap", "step"] (@spD ⟨K⟩ 2 Wl) := by
  letI : KK := ⟨K⟩
  refine yo (N := ["heap", "step", "stones"]) (ps := ["heap", "step"]) T.d_stepped.fn Vf (g := ZT) fun cdv A outer s H E hr => ?_
  unfold ZT
  exact (zc (Y4 (i := 2) Vf.nd rfl (Or.inl rfl) (zd9 rfl T.z_list (za (edv 0) zd)))
      (zc (Vj (m := true) (vI (zD (edv 2) (zD (edv 1) (ze zf) (fun _ _ => rfl)) (fun _ _ => rfl)) (ze zf)) (pv 2) (zD (edv 1) (ze zf) (fun _ _ => rfl)))
      (zc (Vj (m := true) (yC (zD (edv 2) (zD (edv 1) (ze zf) (fun _ _ => rfl)) (fun _ _ => rfl)) (ze zf)) (pv 2) (zD (edv 1) (ze zf) (fun _ _ => rfl)))
      (Y9 2 (zh (zo (yY zW xx rfl T.z_tuple yg (za (edv 2) zd))))))))
inductive Beh (ss : List Tie) (h0 : Hl) : Hl → Prop
  | zero : Beh ss h0 h0
  | step {g : Hl} {s : Tie} : Beh ss h0 g → s ∈ ss → 2 ≤ vAt g s.1 → Beh ss h0 (moved g s)
noncomputable abbrev Fd := List (Hl × Option (Hl × Tie))
noncomputable def zfX : Option (Hl × Tie) → D
  | none => .non
  | some p => .tup [hD p.1, zm p.2]
noncomputable def fdK (f : Fd) : List (List Key) := f.map fun e => hK e.1
noncomputable def fdV (f : Fd) : List D := f.map fun e => zfX e.2
noncomputable def W1 : Fd → Hl → Option (Option (Hl × Tie))
  | [], _ => none
  | e :: f, g => if e.1 = g then some e.2 else W1 f g
theorem V0 (g : Hl) : ∀ f : Fd, XJ (fdK f) (fdV f) (hK g) = (W1 f g).map zfX
  | [] => rfl
  | e :: f => by
    refine WT.trans ?_
    show (if hK e.1 = hK g then some (zfX e.2) else XJ (fdK f) (fdV f) (hK g)) = (if e.1 = g then some e.2 else W1 f g).map zfX
    by_cases h : e.1 = g
    · rw [if_pos h, if_pos (by rw [h])]; rfl
    · rw [if_neg h, if_neg (fun z => h (zhe z)), V0 g f]
noncomputable def InF (f : Fd) (g : Hl) : Prop := (W1 f g).isSome = true
theorem yV {g : Hl} : ∀ {f : Fd}, InF f g ↔ ∃ e ∈ f, e.1 = g
  | [] => ⟨fun h => (by cases h), fun ⟨_, h, _⟩ => (by cases h)⟩
  | e :: f => by
    have ih := yV (g := g) (f := f)
    unfold InF at ih ⊢
    show (if e.1 = g then some e.2 else W1 f g).isSome = true ↔ _
    by_cases h : e.1 = g
    · rw [if_pos h]
      exact ⟨fun _ => ⟨e, .head _, h⟩, fun _ => rfl⟩
    · rw [if_neg h, ih]
      constructor
      · rintro ⟨x, hx, he⟩
        exact ⟨x, .tail _ hx, he⟩
      · rintro ⟨x, hx, he⟩
        rcases List.mem_cons.mp hx with rfl | hx
        · exact absurd he h
        · exact ⟨x, hx, he⟩
theorem zcl {e : Hl × Option (Hl × Tie)} {g : Hl} : ∀ {f : Fd}, W1 (f ++ [e]) g = if (W1 f g).isSome = true then W1 f g else if e.1 = g then some e.2 else none
  | [] => rfl
  | x :: f => by
    have ih := zcl (e := e) (g := g) (f := f)
    show (if x.1 = g then some x.2 else W1 (f ++ [e]) g) = if (if x.1 = g then some x.2 else W1 f g).isSome = true then (if x.1 = g then some x.2 else W1 f g) else _
    by_cases h : x.1 = g
    · rw [if_pos h, if_pos h]; rfl
    · rw [if_neg h, if_neg h, ih]
theorem InF.app {f : Fd} {g : Hl} (h : InF f g) (e : Hl × Option (Hl × Tie)) : InF (f ++ [e]) g := by
  obtain ⟨x, hx, he⟩ := yV.mp h
  exact yV.mpr ⟨x, List.mem_append.mpr (.inl hx), he⟩
theorem zd2 (f : Fd) (e : Hl × Option (Hl × Tie)) : InF (f ++ [e]) e.1 := yV.mpr ⟨e, List.mem_append.mpr (.inr (.head _)), rfl⟩
theorem zbE {f : Fd} {e : Hl × Option (Hl × Tie)} {g : Hl} (h : InF (f ++ [e]) g) : InF f g ∨ g = e.1 := by
  obtain ⟨x, hx, he⟩ := yV.mp h
  rcases List.mem_append.mp hx with hx | hx
  · exact .inl (yV.mpr ⟨x, hx, he⟩)
  · cases List.mem_singleton.mp hx
    exact .inr he.symm
set_option genInjectivity false in
set_option genSizeOf false in
set_option genCtorIdx false in
structure zcT (ss : List Tie) (h0 : Hl) (f : Fd) : Prop where
  nd : (f.map (·.1)).Nodup
  beh : ∀ e ∈ f, Beh ss h0 e.1
  prv : ∀ e ∈ f, (e.2 = none ∧ e.1 = h0) ∨ ∃ p s, e.2 = some (p, s) ∧ s ∈ ss ∧ 2 ≤ vAt p s.1 ∧ e.1 = moved p s ∧ InF f p
  root : W1 f h0 = some none
theorem zcT.start (ss : List Tie) (h0 : Hl) : zcT ss h0 [(h0, none)] := by
  refine ⟨by simp, fun e he => ?_, fun e he => ?_, ?_⟩
  · cases List.mem_singleton.mp he; exact .zero
  · cases List.mem_singleton.mp he; exact .inl ⟨rfl, rfl⟩
  · show (if h0 = h0 then _ else _) = _
    rw [if_pos rfl]
theorem zcT.add {ss : List Tie} {h0 p : Hl} {f : Fd} {s : Tie} (h : zcT ss h0 f) (hp : InF f p) (hs : s ∈ ss) (h2 : 2 ≤ vAt p s.1) (hn : ¬ InF f (moved p s)) : zcT ss h0 (f ++ [(moved p s, some (p, s))]) := by
  refine ⟨?_, fun e he => ?_, fun e he => ?_, ?_⟩
  · rw [List.map_append]
    refine List.nodup_append.mpr ⟨h.nd, by simp, fun a ha b hb e => ?_⟩
    cases List.mem_singleton.mp hb
    obtain ⟨x, hx, he⟩ := List.mem_map.mp ha
    exact hn (yV.mpr ⟨x, hx, he.trans e⟩)
  · rcases List.mem_append.mp he with he | he
    · exact h.beh e he
    · cases List.mem_singleton.mp he
      obtain ⟨x, hx, rfl⟩ := yV.mp hp
      exact .step (h.beh x hx) hs h2
  · rcases List.mem_append.mp he with he | he
    · rcases h.prv e he with z | ⟨q, t, z1, z2, z3, z4, z5⟩
      · exact .inl z
      · exact .inr ⟨q, t, z1, z2, z3, z4, z5.app _⟩
    · cases List.mem_singleton.mp he
      exact .inr ⟨p, s, rfl, hs, h2, rfl, hp.app _⟩
  · rw [zcl, h.root]
    rfl
structure HOk (n : Nat) (S : Int) (g : Hl) : Prop where
  len : g.length = n
  nn : ∀ v ∈ g, 0 ≤ v
  sum : g.sum ≤ S
theorem Beh.ok {n : Nat} {ss : List Tie} {h0 g : Hl} (hs : ∀ s ∈ ss, wP n s) (h : HOk n h0.sum h0) (b : Beh ss h0 g) : HOk n h0.sum g := by
  induction b with
  | zero => exact h
  | step b hs' h2 ih =>
    have e := hs _ hs'
    rw [← ih.len] at e
    refine ⟨by rw [Yz]; exact ih.len, zf6 e ih.nn h2, ?_⟩
    rw [WJ e]
    have := ih.sum
    omega
noncomputable def zjM : Nat → Nat → List Hl
  | 0, _ => [[]]
  | n + 1, S => (List.range (S + 1)).flatMap fun x => (zjM n (S - x)).map ((x : Int) :: ·)
theorem zct : ∀ {n S : Nat} {g : Hl}, g.length = n → (∀ v ∈ g, 0 ≤ v) → g.sum ≤ (S : Int) → g ∈ zjM n S
  | 0, S, g, hl, _, _ => by
    cases g with
    | nil => exact .head _
    | cons _ _ => cases hl
  | n + 1, S, g, hl, hn, hs => by
    cases g with
    | nil => cases hl
    | cons x r =>
      have hx := hn x (.head _)
      have hr : 0 ≤ r.sum := Vc fun v hv => hn v (.tail _ hv)
      rw [List.sum_cons] at hs
      obtain ⟨k, hk⟩ := Int.eq_ofNat_of_zero_le hx
      have ih := zct (n := n) (S := S - k) (g := r) (by simpa using hl) (fun v hv => hn v (.tail _ hv)) (by omega)
      exact List.mem_flatMap.mpr ⟨k, List.mem_range.mpr (by omega), List.mem_map.mpr ⟨r, ih, by rw [hk]⟩⟩
theorem Wo {α : Type} [DecidableEq α] : ∀ (L l : List α), l.Nodup → (∀ x ∈ l, x ∈ L) → l.length ≤ L.length
  | [], l, _, h => by
    cases l with
    | nil => exact Nat.le_refl _
    | cons a r => cases h a (.head _)
  | a :: L, l, hn, h => by
    by_cases hm : a ∈ l
    · have h1 := Wo L (l.erase a) (hn.erase a) fun x hx => by
        have h2 := (hn.mem_erase_iff).mp hx
        exact (List.mem_cons.mp (h x h2.2)).resolve_left h2.1
      rw [List.length_erase_of_mem hm] at h1
      rw [List.length_cons]
      omega
    · exact Nat.le_succ_of_le (Wo L l hn fun x hx => (List.mem_cons.mp (h x hx)).resolve_left fun e => hm (e ▸ hx))
noncomputable def cH (n S : Nat) : Nat := (zjM n S).length
theorem zcT.count {n : Nat} {ss : List Tie} {h0 : Hl} {f : Fd} (hs : ∀ s ∈ ss, wP n s) (h : HOk n h0.sum h0) (ok : zcT ss h0 f) : f.length ≤ cH n h0.sum.toNat := by
  have h0s : 0 ≤ h0.sum := Vc h.nn
  have e := Wo (zjM n h0.sum.toNat) (f.map (·.1)) ok.nd fun x hx => by
    obtain ⟨y, hy, rfl⟩ := List.mem_map.mp hx
    have k := (ok.beh y hy).ok hs h
    exact zct k.len k.nn (by have := k.sum; omega)
  rwa [List.length_map] at e
noncomputable def zjg (ss : List Tie) (f : Fd) (g : Hl) : Prop := ∀ s ∈ ss, 2 ≤ vAt g s.1 → InF f (moved g s)
set_option genInjectivity false in
set_option genSizeOf false in
set_option genCtorIdx false in
structure WU (ss : List Tie) (h0 : Hl) (L : Int) (f : Fd) (fu todo : List Hl) : Prop where
  ok : zcT ss h0 f
  fur : ∀ g ∈ fu, InF f g ∧ g.sum = L - 1
  rim : ∀ g ∈ todo, InF f g ∧ g.sum = L
  all : ∀ g, InF f g → zjg ss f g ∨ g ∈ todo ∨ g ∈ fu
  len : fu.length < f.length
theorem WU.start (ss : List Tie) (h0 : Hl) : WU ss h0 h0.sum [(h0, none)] [] [h0] := by
  refine ⟨zcT.start ss h0, fun g hg => (by cases hg), fun g hg => ?_, fun g hg => .inr (.inl ?_), Nat.one_pos⟩
  · cases List.mem_singleton.mp hg
    exact ⟨yV.mpr ⟨_, .head _, rfl⟩, rfl⟩
  · obtain ⟨x, hx, rfl⟩ := yV.mp hg
    cases List.mem_singleton.mp hx
    exact .head _
theorem WU.add {n : Nat} {ss : List Tie} {h0 p : Hl} {L : Int} {f : Fd} {fu todo : List Hl} {s : Tie} (hS : ∀ s ∈ ss, wP n s) (h0k : HOk n h0.sum h0) (h : WU ss h0 L f fu todo) (hp : InF f p) (hL : p.sum = L) (hs : s ∈ ss) (h2 : 2 ≤ vAt p s.1) (hn : ¬ InF f (moved p s)) :
    WU ss h0 L (f ++ [(moved p s, some (p, s))]) (fu ++ [moved p s]) todo := by
  refine ⟨h.ok.add hp hs h2 hn, fun g hg => ?_, fun g hg => ⟨(h.rim g hg).1.app _, (h.rim g hg).2⟩, fun g hg => ?_, by rw [List.length_append, List.length_append]; exact Nat.succ_lt_succ h.len⟩
  · rcases List.mem_append.mp hg with hg | hg
    · exact ⟨(h.fur g hg).1.app _, (h.fur g hg).2⟩
    · cases List.mem_singleton.mp hg
      obtain ⟨x, hx, rfl⟩ := yV.mp hp
      have e := hS s hs
      rw [← ((h.ok.beh x hx).ok hS h0k).len] at e
      exact ⟨zd2 f (moved x.1 s, some (x.1, s)), by rw [WJ e, hL]⟩
  · rcases zbE hg with hg | rfl
    · rcases h.all g hg with z | z | z
      · exact .inl fun t ht ht2 => (z t ht ht2).app _
      · exact .inr (.inl z)
      · exact .inr (.inr (List.mem_append.mpr (.inl z)))
    · exact .inr (.inr (List.mem_append.mpr (.inr (.head _))))
theorem WU.done {ss : List Tie} {h0 p : Hl} {L : Int} {f : Fd} {fu todo : List Hl} (h : WU ss h0 L f fu (p :: todo)) (hd : zjg ss f p) : WU ss h0 L f fu todo := by
  refine ⟨h.ok, h.fur, fun g hg => h.rim g (.tail _ hg), fun g hg => ?_, h.len⟩
  rcases h.all g hg with z | z | z
  · exact .inl z
  · rcases List.mem_cons.mp z with rfl | z
    · exact .inl hd
    · exact .inr (.inl z)
  · exact .inr (.inr z)
theorem WU.turn {ss : List Tie} {h0 : Hl} {L : Int} {f : Fd} {fu : List Hl} (h : WU ss h0 L f fu []) : WU ss h0 (L - 1) f [] fu := by
  refine ⟨h.ok, fun g hg => (by cases hg), h.fur, fun g hg => ?_, Nat.lt_of_le_of_lt (Nat.zero_le _) h.len⟩
  rcases h.all g hg with z | z | z
  · exact .inl z
  · cases z
  · exact .inr (.inl z)
structure zkq (ss : List Tie) (h0 : Hl) (f : Fd) : Prop where
  ok : zcT ss h0 f
  iff : ∀ g, InF f g ↔ Beh ss h0 g
theorem WU.fin {ss : List Tie} {h0 : Hl} {L : Int} {f : Fd} (h : WU ss h0 L f [] []) : zkq ss h0 f := by
  refine ⟨h.ok, fun g => ⟨fun hg => ?_, fun hg => ?_⟩⟩
  · obtain ⟨x, hx, rfl⟩ := yV.mp hg
    exact h.ok.beh x hx
  · induction hg with
    | zero => unfold InF; rw [h.ok.root]; rfl
    | step b hs h2 ih =>
      rcases h.all _ ih with z | z | z
      · exact z _ hs h2
      · cases z
      · cases z
theorem ziA {m : Bool} {i : Nat} {f : Ev → Option D} {ρ ρ' : SE} {ds : List D} {d : D} (h1 : vEv m f ρ = some d) (h2 : ρ[i]? = some (.o ds)) (h3 : ds.length < sizeLine) (h4 : ρ.set i (.o (ds ++ [d])) = ρ') : Zj m i f ρ = .nx ρ' := by
  unfold Zj
  rw [h1, h2]
  show (match (if decide (ds.length < sizeLine) = true then some (ρ.set i (.o (ds ++ [d]))) else none) with | some ρ' => Ctl.nx ρ' | none => Ctl.no) = _
  rw [if_pos (decide_eq_true h3), h4]
theorem zfV {m : Bool} {i : Nat} {fk fe : Ev → Option D} {ρ ρ' : SE} {f : Fd} {g : Hl} {o : Option (Hl × Tie)} (h1 : vEv m fe ρ = some (zfX o)) (h2 : fk (visG ρ) = some (hD g)) (h3 : ρ[i]? = some (.m true (fdK f) (fdV f))) (h4 : (W1 f g).isSome = false) (h5 : f.length < sizeLine)
    (h6 : ρ.set i (.m true (fdK (f ++ [(g, o)])) (fdV (f ++ [(g, o)]))) = ρ') : zff m i fk fe ρ = .nx ρ' := by
  have e : ziW ρ i (hD g) (zfX o) = some ρ' := by
    unfold ziW
    rw [h3]
    show (zfj (hD g)).bind (fun k => if decide ((fdK f).length < sizeLine) = true then some (ρ.set i (.m true (zdw (fdK f) (fdV f) k) (zcV (fdK f) (fdV f) k (zfX o)))) else none) = _
    have hd : (XJ (fdK f) (fdV f) (hK g)).isSome = false := by rw [V0, Option.isSome_map]; exact h4
    rw [Vs, Option.bind_some, if_pos (decide_eq_true (by unfold fdK; rw [List.length_map]; exact h5))]
    unfold zdw zcV
    rw [hd, if_neg Bool.false_ne_true, if_neg Bool.false_ne_true, ← h6]
    unfold fdK fdV
    rw [List.map_append, List.map_append]
    rfl
  unfold zff
  rw [h1, h2]
  show (match ziW ρ i (hD g) (zfX o) with | some ρ' => Ctl.nx ρ' | none => Ctl.no) = _
  rw [e]
theorem zjX {f : Fd} {g : Hl} {z : Bool} : zkK true (hD g) (.dct z true (fdK f) (fdV f)) = some (.bl (!(W1 f g).isSome)) := by
  show (zfj (hD g)).map (fun k => D.bl (true != (XJ (fdK f) (fdV f) k).isSome)) = _
  rw [Vs]
  show some (D.bl (true != (XJ (fdK f) (fdV f) (hK g)).isSome)) = _
  rw [V0, Option.isSome_map]
  cases (W1 f g).isSome <;> rfl
theorem yn {m : Int} {ts : List Tie} (ok : wC m ts) : ∀ s ∈ zu m ts, wP m.toNat s := fun s hs => by
  obtain ⟨⟨a0, a1⟩, ⟨b0, b1⟩, ht⟩ := Vh.mp hs
  refine ⟨a0, by omega, b0, by omega, fun e => ?_⟩
  have h3 := (ok.rng _ ht).2.1
  rw [show zbO s.1 s.2 = (s.2, s.2) by unfold zbO; rw [e, if_neg (Int.lt_irrefl _)]] at h3
  exact absurd h3 (Int.lt_irrefl _)
theorem zcT.each {m : Int} {ts : List Tie} {h0 : Hl} {f : Fd} (ok : wC m ts) (hl : (h0.length : Int) = m) (hn : ∀ v ∈ h0, 0 ≤ v) (h : zcT (zu m ts) h0 f) : ∀ e ∈ f, HOk m.toNat h0.sum e.1 := fun e he => (h.beh e he).ok (yn ok) ⟨by omega, hn, Int.le_refl _⟩
noncomputable def y9 : SE → Ctl :=
  (zG (xg false 8 (zn 2 Wl (zb (zg 6) (zb (zg 7) zp))))
    (sIf (tOf (zk (zkK true) (zg 8) (zg 3))) (zG (zff false 3 (zg 8) (v9 (zb (zg 6) (zb (zg 7) zp))))
    (Zj false 5 (zg 8))) zC))
noncomputable def y8 : SE → Ctl :=
  (Yh (iOf (xy (fLC (iOf (zg 2)) b1 (tOf (zk geD (zk ixD (zg 7) (zk ixD (zg 0) (eC (.int 0)))) (eC (.int 2)))) (zg 0)))) (yf 7) y9)
noncomputable def yD : SE → Ctl :=
  (zG (Yr 5 (zY zp))
    (zG (Yh (iOf (zg 4)) (yf 6) y8)
    (sFz 5 (xg false 4 (zg 5)))))
noncomputable def yW : SE → Ctl :=
  (zG (xg false 2 (zn 1 wF (zb (zg 0) zp)))
    (zG (zgI 3 (zg 1) (eC .non))
    (zG (xg false 4 (xy (zY (zb (zg 1) zp))))
    (zG (Yc (tOf (zk gtD (eFn Yi (zb (zg 4) zp)) (eC (.int 0)))) yD 20)
    (zlz 3 (zV (zg 3)))))))
noncomputable def vq : List D → Option D := fnD 9 yW
section
variable {N B C : SE → Prop} {R : D → Prop} {W : D} {rm : D} {h0 : Hl} {ss : List Tie} {n : Nat} {L : Int}
noncomputable abbrev hSt (W : D) (h0 : Hl) (ss : List Tie) (f : Fd) (rm : D) (fu : List Hl) (o6 o7 o8 : Sl) : SE := [.v W, .v (hD h0), .v (.lst (ss.map zm)), .m true (fdK f) (fdV f), .v rm, .o (fu.map hD), o6, o7, o8]
theorem zlF {now : Hl} {s : Tie} {f : Fd} {fu : List Hl} {o8 : Sl} (hs : wP now.length s) (hl : f.length < sizeLine) (hfu : fu.length < sizeLine)
    (q1 : InF f (moved now s) → N (hSt W h0 ss f rm fu (.v (hD now)) (.v (zm s)) (.v (hD (moved now s)))))
    (q2 : ¬ InF f (moved now s) → N (hSt W h0 ss (f ++ [(moved now s, some (now, s))]) rm (fu ++ [moved now s]) (.v (hD now)) (.v (zm s)) (.v (hD (moved now s))))) :
    (y9 (hSt W h0 ss f rm fu (.v (hD now)) (.v (zm s)) o8)).w N B C R := by
  unfold y9
  refine zx (vv (d := hD (moved now s)) (zdg hs)) ?_
  refine W0 (c := !(W1 f (moved now s)).isSome) ?_ (fun e => ?_) (fun e => ?_)
  · show ((zkK true (hD (moved now s)) (.dct false true (fdK f) (fdV f))).bind asB) = _
    rw [zjX]
    rfl
  · have e : (W1 f (moved now s)).isSome = false := by simpa using e
    refine zx (zfV (f := f) (g := moved now s) (o := some (now, s)) rfl rfl rfl e hl rfl) ?_
    refine Z4 (ziA (ds := fu.map hD) (d := hD (moved now s)) rfl rfl (by rw [List.length_map]; exact hfu) rfl) ?_
    have q := q2 (fun z => by unfold InF at z; rw [e] at z; cases z)
    rw [hSt, List.map_append] at q
    exact q
  · have e : (W1 f (moved now s)).isSome = true := by simpa using e
    exact Z4 rfl (q1 e)
noncomputable def zkx (ss : List Tie) (now : Hl) : List Tie := ss.filter fun s => decide (2 ≤ vAt now s.1)
theorem zli {now : Hl} {f : Fd} {fu rest : List Hl} {o7 o8 : Sl} (hS : ∀ s ∈ ss, wP n s) (hss : ss.length ≤ 1000) (h0k : HOk n h0.sum h0) (hc : cH n h0.sum.toNat < sizeLine) (h : WU ss h0 L f fu (now :: rest)) :
    (y8 (hSt W h0 ss f rm fu (.v (hD now)) o7 o8)).w (fun ρ' => ∃ f' fu' o6 o7 o8, ρ' = hSt W h0 ss f' rm fu' o6 o7 o8 ∧ WU ss h0 L f' fu' rest) B C R := by
  unfold y8
  have hnow := h.rim now (.head _)
  have hnl : now.length = n := by
    obtain ⟨x, hx, rfl⟩ := yV.mp hnow.1
    exact ((h.ok.beh x hx).ok hS h0k).len
  refine W4 (ds := (zkx ss now).map zm) (fun j ρ => ∃ f fu o7 o8, ρ = hSt W h0 ss f rm fu (.v (hD now)) o7 o8 ∧ WU ss h0 L f fu (now :: rest) ∧ ∀ s ∈ (zkx ss now).take j, InF f (moved now s)) ?_ ⟨f, fu, o7, o8, rfl, h, fun s hs => (by rw [List.take_zero] at hs; cases hs)⟩ ?_ ?_
  · have e : fLC (iOf (zg 2)) b1 (tOf (zk geD (zk ixD (zg 7) (zk ixD (zg 0) (eC (.int 0)))) (eC (.int 2)))) (zg 0) (visF (hSt W h0 ss f rm fu (.v (hD now)) o7 o8)) = some ((zkx ss now).map zm) := by
      unfold fLC
      show (if lim (ss.map zm).length = true then _ else none) = _
      rw [if_pos (Zb (by rw [List.length_map]; exact hss))]
      refine Xh zm (fun s => decide (2 ≤ vAt now s.1)) zm ss fun s hs => ⟨[some (zm s)], rfl, ?_, fun _ => rfl⟩
      have hi := hS s hs
      show (Option.bind ((atI (now.map D.int) s.1).bind fun x => geD x (.int 2)) asB) = _
      rw [wv hi.a0 (by rw [hnl]; exact hi.a1)]
      rfl
    show ((fLC _ _ _ _ _).map D.lst).bind yR = _
    rw [e]
    rfl
  · rintro i d ρ hd ⟨f, fu, o7, o8, rfl, hm, ha⟩
    rw [List.getElem?_map] at hd
    obtain ⟨s, hs, rfl⟩ := Option.map_eq_some_iff.mp hd
    have hmem : s ∈ zkx ss now := List.mem_of_getElem? hs
    have hs2 := List.mem_filter.mp hmem
    have h2 : 2 ≤ vAt now s.1 := of_decide_eq_true hs2.2
    refine ⟨hSt W h0 ss f rm fu (.v (hD now)) (.v (zm s)) o8, rfl, ?_⟩
    have hi := hS s hs2.1
    rw [← hnl] at hi
    have hcnt := Nat.lt_of_le_of_lt (hm.ok.count hS h0k) hc
    have ht : ∀ f' : Fd, (∀ g, InF f g → InF f' g) → InF f' (moved now s) → ∀ t ∈ (zkx ss now).take (i + 1), InF f' (moved now t) := fun f' up hin t ht => by
      rw [List.take_add_one, hs] at ht
      rcases List.mem_append.mp ht with ht | ht
      · exact up _ (ha t ht)
      · cases List.mem_singleton.mp ht
        exact hin
    refine zlF hi hcnt (Nat.lt_trans hm.len hcnt) (fun q => ⟨f, fu, _, _, rfl, hm, ht f (fun g hg => hg) q⟩) fun q => ⟨_, _, _, _, rfl, hm.add hS h0k (hm.rim now (.head _)).1 (hm.rim now (.head _)).2 hs2.1 h2 q, ht _ (fun g hg => hg.app _) (zd2 f (moved now s, some (now, s)))⟩
  · rintro ρ ⟨f, fu, o7, o8, rfl, hm, ha⟩
    rw [List.length_map, List.take_length] at ha
    exact ⟨f, fu, _, o7, o8, rfl, hm.done fun s hs h2 => ha s (List.mem_filter.mpr ⟨hs, decide_eq_true h2⟩)⟩
noncomputable abbrev hWt (W : D) (h0 : Hl) (ss : List Tie) (f : Fd) (rim : List Hl) (o5 o6 o7 o8 : Sl) : SE := [.v W, .v (hD h0), .v (.lst (ss.map zm)), .m true (fdK f) (fdV f), .v (.lst (rim.map hD)), o5, o6, o7, o8]
theorem zkY {f : Fd} {rim : List Hl} {o5 o6 o7 o8 : Sl} (hS : ∀ s ∈ ss, wP n s) (hss : ss.length ≤ 1000) (h0k : HOk n h0.sum h0) (hc : cH n h0.sum.toNat < sizeLine) (h : WU ss h0 L f [] rim) :
    (yD (hWt W h0 ss f rim o5 o6 o7 o8)).w (fun ρ' => ∃ f' rim' o5 o6 o7 o8, ρ' = hWt W h0 ss f' rim' o5 o6 o7 o8 ∧ WU ss h0 (L - 1) f' [] rim') B C R := by
  unfold yD
  refine zx (ρ' := hSt W h0 ss f (.lst (rim.map hD)) [] o6 o7 o8) rfl ?_
  refine xm (W4 (ds := rim.map hD) (fun i ρ => ∃ f fu o6 o7 o8, ρ = hSt W h0 ss f (.lst (rim.map hD)) fu o6 o7 o8 ∧ WU ss h0 L f fu (rim.drop i)) rfl ⟨f, [], o6, o7, o8, rfl, h⟩ ?_ ?_)
  · rintro i d ρ hd ⟨f, fu, o6, o7, o8, rfl, hm⟩
    rw [List.getElem?_map] at hd
    obtain ⟨now, hnow, rfl⟩ := Option.map_eq_some_iff.mp hd
    refine ⟨hSt W h0 ss f (.lst (rim.map hD)) fu (.v (hD now)) o7 o8, rfl, ?_⟩
    obtain ⟨hi, he⟩ := List.getElem?_eq_some_iff.mp hnow
    rw [List.drop_eq_getElem_cons hi, he] at hm
    exact zli hS hss h0k hc hm
  · rintro ρ ⟨f, fu, o6, o7, o8, rfl, hm⟩
    rw [List.length_map, List.drop_length] at hm
    refine zhv (ρ' := [.v W, .v (hD h0), .v (.lst (ss.map zm)), .m true (fdK f) (fdV f), .v (.lst (rim.map hD)), .v (.lst (fu.map hD)), o6, o7, o8]) rfl ?_
    exact Z4 (ρ' := hWt W h0 ss f fu (.v (.lst (fu.map hD))) o6 o7 o8) rfl ⟨f, fu, _, _, _, _, rfl, hm.turn⟩
noncomputable def zh1 : SE → Nat
  | [_, _, _, _, .v (.lst (.tup ds :: _)), _, _, _, _] => (((zb9 ds).getD []).sum + 1).toNat
  | _ => 0
theorem Z9 {f : Fd} {g : Hl} {rim : List Hl} {o5 o6 o7 o8 : Sl} : zh1 (hWt W h0 ss f (g :: rim) o5 o6 o7 o8) = (g.sum + 1).toNat := by
  show (((zb9 (g.map .int)).getD []).sum + 1).toNat = _
  rw [ZR]
  rfl
theorem zaX {f : Fd} {o5 o6 o7 o8 : Sl} : zh1 (hWt W h0 ss f [] o5 o6 o7 o8) = 0 := rfl
theorem zlh {f : Fd} {rim : List Hl} {o5 o6 o7 o8 : Sl} (hS : ∀ s ∈ ss, wP n s) (hss : ss.length ≤ 1000) (h0k : HOk n h0.sum h0) (hc : cH n h0.sum.toNat < sizeLine) (hr : h0.sum ≤ 18) (h : WU ss h0 h0.sum f [] rim) :
    (Yc (tOf (zk gtD (eFn Yi (zb (zg 4) zp)) (eC (.int 0)))) yD 20 (hWt W h0 ss f rim o5 o6 o7 o8)).w (fun ρ' => ∃ f' o5 o6 o7 o8, ρ' = hWt W h0 ss f' [] o5 o6 o7 o8 ∧ zkq ss h0 f') B C R := by
  have nn : ∀ {f : Fd} {g : Hl}, zcT ss h0 f → InF f g → 0 ≤ g.sum ∧ g.sum ≤ h0.sum := fun {f g} ok hg => by
    obtain ⟨x, hx, rfl⟩ := yV.mp hg
    have b := (ok.beh x hx).ok hS h0k
    exact ⟨Vc b.nn, b.sum⟩
  refine VT (fun ρ => ∃ L f rim o5 o6 o7 o8, ρ = hWt W h0 ss f rim o5 o6 o7 o8 ∧ WU ss h0 L f [] rim) zh1 ?_ 20 _ ⟨_, f, rim, o5, o6, o7, o8, rfl, h⟩ ?_
  · rintro ρ ⟨L, f, rim, o5, o6, o7, o8, rfl, hm⟩
    refine ⟨decide ((0 : Int) < ((rim.map hD).length : Int)), rfl, fun c => ?_, fun c => ?_⟩
    · cases rim with
      | nil => cases c
      | cons g rim =>
        have hg := hm.rim g (.head _)
        refine zg7 (zkY hS hss h0k hc hm) ?_ (fun _ h => h) (fun _ h => h) (fun _ h => h)
        · rintro ρ ⟨f', rim', o5, o6, o7, o8, rfl, hm'⟩
          refine ⟨⟨_, f', rim', o5, o6, o7, o8, rfl, hm'⟩, ?_⟩
          rw [Z9, hg.2]
          have h3 := (nn hm.ok hg.1).1
          rw [hg.2] at h3
          cases rim' with
          | nil => rw [zaX]; omega
          | cons g' rim' =>
            rw [Z9, (hm'.rim g' (.head _)).2]
            omega
    · cases rim with
      | nil => exact ⟨f, o5, o6, o7, o8, rfl, hm.fin⟩
      | cons g rim =>
        exfalso
        have := of_decide_eq_false c
        rw [List.map_cons, List.length_cons] at this
        omega
  · cases rim with
    | nil => rw [zaX]; decide
    | cons g rim =>
      rw [Z9]
      have := (nn h.ok (h.rim g (.head _)).1).2
      omega
end
theorem Wd {m : Int} {ts : List Tie} {h0 : Hl} (ok : wC m ts) (hl : (h0.length : Int) = m) (hn : ∀ v ∈ h0, 0 ≤ v) (hr : h0.sum ≤ 18) (hc : cH m.toNat h0.sum.toNat < sizeLine) :
    ∃ f, vq [xQ m ts, hD h0] = some (.dct true true (fdK f) (fdV f)) ∧ zkq (zu m ts) h0 f := by
  have hS := yn ok
  have hss : (zu m ts).length ≤ 1000 := by
    have h1 := Zc ok m.toNat
    have := ok.hi
    unfold zu
    omega
  have h0k : HOk m.toNat h0.sum h0 := ⟨by omega, hn, Int.le_refl _⟩
  have hw := (wA (xQ m ts)).mpr ⟨m, ts, rfl, ok⟩
  have e1 : wF [xQ m ts] = some (.lst ((zu m ts).map zm)) := by
    simp only [wF]
    rw [if_pos hw, ZK, Z1]
  obtain ⟨d, e, f, rfl, hf⟩ := zeu (m := 9) (g := yW) (ds := [xQ m ts, hD h0]) (R := fun d => ∃ f, d = .dct true true (fdK f) (fdV f) ∧ zkq (zu m ts) h0 f) rfl (by
    unfold yW
    refine zx (vv (d := .lst ((zu m ts).map zm)) e1) ?_
    refine zx (ρ' := [.v (xQ m ts), .v (hD h0), .v (.lst ((zu m ts).map zm)), .m true (fdK [(h0, none)]) (fdV [(h0, none)]), .no, .no, .no, .no, .no]) ?_ ?_
    · unfold zgI
      show (match ((zfj (hD h0)).map fun k => Sl.m true [k] [D.non]) with | some s => Ctl.nx _ | none => Ctl.no) = _
      rw [Vs]
      rfl
    refine zx (ρ' := hWt (xQ m ts) h0 (zu m ts) [(h0, none)] [h0] .no .no .no .no) rfl ?_
    refine xm (zg7 (zlh hS hss h0k hc hr (WU.start (zu m ts) h0)) ?_ (fun _ h => h) (fun _ h => h) (fun _ h => h))
    rintro ρ ⟨f, o5, o6, o7, o8, rfl, hf⟩
    exact XA (d := .dct true true (fdK f) (fdV f)) rfl ⟨f, rfl, hf⟩)
  exact ⟨f, e, hf⟩
theorem Wb (T : Txt K mg ad) : yQ P w K mg base CX0 4 ad.f_heaps_behind ad.e_heaps_behind ["web", "heap"] (@spD ⟨K⟩ 2 vq) := by
  letI : KK := ⟨K⟩
  have G_all_steps := za1 (P := P) (w := w) (base := base) T
  have G_stepped := zdi (P := P) (w := w) (base := base) T
  refine yo (N := ["web", "heap", "steps", "found", "rim", "further", "now", "step", "then"]) (ps := ["web", "heap"]) T.d_heaps_behind.fn zK (g := yW) fun cdv A outer s H E hr => ?_
  unfold yW yD y8 y9
  exact (zc (zR (m := false) (i := 2) zK.nd rfl (Or.inl rfl) (zi G_all_steps hr rfl T.d_all_steps (za (edv 0) zd)))
      (zc (ziK (i := 3) hr zK.nd rfl (Or.inl rfl) (edv 1) (wT wW))
      (zc (zR (m := false) (i := 4) zK.nd rfl (Or.inl rfl) (xb (yL (za (edv 1) zd))))
      (zc (Vx 20 PassesOwn.never (zE VS zU (zy _) (zI zM wk rfl T.z_len Yd (za (edv 4) zd)) (ze zf)) (zc (Y4 (i := 5) zK.nd rfl (Or.inl rfl) (yL zd))
      (zc (vH PassesOwn.never rfl (wS (edv 4)) (zS (zB (i := 6) zK.nd rfl (Or.inr rfl))) (zh (vH PassesOwn.never rfl (wS (xb (zch (L := ["step"]) (M := ["web", "heap", "steps", "found", "rim", "further", "now", "·step", "then"]) rfl (Yx (by rfl) (by rfl) (by rfl) (by with_unfolding_all rfl) (by rfl) (by rfl) (by kernel_rfl) (all_cons rfl wH)) (wS (edv 2)) gs1 rb1 (fun _ _ _ _ => (zB (i := 0) zlu rfl (Or.inl rfl) (.inr rfl))) (fun _ _ _ _ => (zE zfr zU (zy _) (zD (edv 7) (zD (edv 0) (ze zf) (fun _ _ => rfl)) (fun _ _ => rfl)) (ze zf))) (fun _ _ _ _ => (edv 0))))) (zS (zB (i := 7) zK.nd rfl (Or.inl rfl))) (zc (zR (m := false) (i := 8) zK.nd rfl (Or.inl rfl) (zi G_stepped hr rfl T.d_stepped (za (edv 6) (za (edv 7) zd))))
      (zh (yc (zE (zd4 hr) ziM (by with_unfolding_all rfl) (edv 8) (edv 3)) (zc (zir (m := false) hr (vz (za (edv 6) (za (edv 7) zd))) (pv 3) (edv 8))
      (zh (zcn (m := false) (pv 5) (edv 8) (fun a b => zcX PySem.F.plainAttrs_list PySem.F.slot_list_append PySem.F.type_list_append ZF a b)))) zv))))))
      (Y9 5 (zh (zR (m := false) (i := 4) zK.nd rfl (Or.inl rfl) (edv 5)))))))
      (zhP 3 (zh (zo (edv 3))))))))
theorem WS (ns : List Int) : zcZ [.tup (ns.map .int)] = some (.int ns.sum) := by
  show ((zb9 (ns.map .int)).bind fun ns => some (D.int ns.sum)) = _
  rw [ZR]
  rfl
theorem zfK {m : Nat} {p : List D → Option D} {f : Ev → Option (List D)} {ρ : Ev} {ds : List D} (h : f ρ = some ds) (hl : ds.length = m) : zn m p f ρ = p ds := by
  unfold zn
  rw [h, Option.bind_some, if_pos hl]
theorem ze6 (f : Fd) : zci (.dct true true (fdK f) (fdV f)) = some (f.map fun e => hD e.1) := by
  show some ((fdK f).map (zcc true)) = _
  unfold fdK
  rw [List.map_map]
  congr 1
  exact List.map_congr_left fun e _ => zeP e.1
noncomputable def yS : SE → Ctl :=
  (sIf (tOf (zk gtD (zg 0) (zg 1))) sNo zC)
noncomputable def xL : List D → Option D := fnD 2 yS
theorem zax {a b : Int} (h : a ≤ b) : xL [.int a, .int b] = some .non := by
  refine Vy (ρ := [.v (.int a), .v (.int b)]) rfl ?_
  unfold yS
  refine W0 (c := false) ?_ (fun z => by cases z) (fun _ => Z4 rfl rfl)
  show some (decide (b < a)) = _
  rw [decide_eq_false (Int.not_lt.mpr h)]
theorem Z2 (T : Txt K mg ad) : yQ P w K mg base CX0 1 ad.f_must_be_at_most ad.e_must_be_at_most ["many", "most"] (@spD ⟨K⟩ 2 xL) := by
  letI : KK := ⟨K⟩
  refine yo (N := ["many", "most"]) (ps := ["many", "most"]) T.d_must_be_at_most.fn ZL (g := yS) fun cdv A outer s H E hr => ?_
  unfold yS
  exact (zh (yc (zE VS zU (zy _) (edv 0) (edv 1)) (zh v7) zv))
theorem zfI {m : Int} {ts : List Tie} (ok : wC m ts) : xh [xQ m ts] = some .non := by
  have hw : Yb (xQ m ts) = true := (wA _).mpr ⟨_, _, rfl, ok⟩
  simp only [xh]
  rw [if_pos hw]
theorem WR {m : Int} {ts : List Tie} {h : Hl} (ok : wC m ts) (hl : (h.length : Int) = m) (hn : ∀ v ∈ h, 0 ≤ v) (hr : h.sum ≤ 300) : yI [xQ m ts, hD h] = some .non := by
  show (if (noS (.tup (h.map .int)) && decide (m ≤ 1000) && Zn m (.tup (h.map .int))) = true then some D.non else none) = _
  rw [zfG, zdN ok, zdx hl hn hr]
  rfl
theorem zcb {m : Int} {ts : List Tie} {a b : Int} (ok : wC m ts) (h : zbO a b ∈ ts) : (0 ≤ a ∧ a < m) ∧ (0 ≤ b ∧ b < m) ∧ a ≠ b := by
  have := ok.rng _ h
  unfold zbO at this
  dsimp only at this
  split at this <;> split at this <;> omega
theorem zhd {hs : List Int} (h : ∀ x ∈ hs, 0 ≤ x) (k : Int) : 0 ≤ vAt hs k := by
  unfold vAt
  rw [List.getD_eq_getElem?_getD]
  cases e : hs[k.toNat]? with
  | none => exact Int.le_refl _
  | some x => exact h x (List.mem_of_getElem? e)
theorem WL {h : Hl} {s : Tie} (hs : wP h.length s) {x : Int} (hx : 0 ≤ x) : vAt (moved h s) x = vAt h x - (if x = s.1 then 2 else 0) + (if x = s.2 then 1 else 0) := by
  obtain ⟨a, b⟩ := s
  obtain ⟨a0, a1, b0, b1, ne⟩ := hs
  dsimp only at a0 a1 b0 b1 ne ⊢
  unfold moved
  dsimp only
  rw [X1 b0 (by rw [Z3]; exact b1) hx, X1 a0 a1 b0, X1 a0 a1 hx]
  by_cases c : x = b
  · rw [if_pos c, if_neg (fun e => ne e.symm), c, if_neg (fun e => ne e.symm), if_pos rfl]; omega
  · rw [if_neg c, if_neg c]
    by_cases c2 : x = a
    · rw [if_pos c2, if_pos c2, c2]; omega
    · rw [if_neg c2, if_neg c2]; omega
theorem Beh.trans {ss : List Tie} {a b c : Hl} (h : Beh ss a b) (h2 : Beh ss b c) : Beh ss a c := by
  induction h2 with
  | zero => exact h
  | step _ hs h2 ih => exact .step ih hs h2
noncomputable def plS (gs : List Int) (s : Tie) : List Int := (gs.set s.1.toNat (vAt gs s.1 - 2)).set s.2.toNat (vAt (gs.set s.1.toNat (vAt gs s.1 - 2)) s.2 + 1)
inductive zbw (n : Int) : List Int → List Tie → List Int → Prop
  | nil {gs : List Int} : zbw n gs [] gs
  | cons {gs gs' : List Int} {s : Tie} {ss : List Tie} : (0 ≤ s.1 ∧ s.1 < n) → (0 ≤ s.2 ∧ s.2 < n) → 2 ≤ vAt gs s.1 → zbw n (plS gs s) ss gs' → zbw n gs (s :: ss) gs'
theorem Zm : ∀ (xs : List Int) (k : Nat) (y : Int), k < xs.length → (xs.set k (xs.getD k 0 + y)).sum = xs.sum + y
  | [], _, _, h => by cases h
  | x :: xs, 0, y, _ => by
    show x + y + xs.sum = x + xs.sum + y
    omega
  | x :: xs, k + 1, y, h => by
    have := Zm xs k y (by simpa using h)
    show x + (xs.set k (xs.getD k 0 + y)).sum = x + xs.sum + y
    omega
theorem zgX {xs : List Int} {k : Nat} {y : Int} (h : ∀ x ∈ xs, 0 ≤ x) (hy : 0 ≤ y) : ∀ x ∈ xs.set k y, 0 ≤ x := fun x hx => by
  rcases List.mem_or_eq_of_mem_set hx with hx | rfl
  · exact h x hx
  · exact hy
noncomputable def xr : SE → Ctl :=
  (zG (xg false 6 (eFn zbu (zb (zg 4) (zb (zk wO (zn 2 ya (zb (zg 2) (zb (zk Yg (eC (.int 51)) (zg 5)) zp))) (zk Yg (zg 1) (eC (.int 1)))) zp))))
    (zG (ziX 3 (zk wO (zn 2 ya (zb (zg 2) (zb (zk Yg (eC (.int 70)) (zg 5)) zp))) (zg 0)) (zg 6))
    (xg false 4 (zk wM (zg 4) (zg 6)))))
noncomputable def yG : SE → Ctl :=
  (zG (Yr 3 (zk3 zgq (xy (zY (zb (eC (.int 0)) zp))) (zg 0)))
    (zG (xg false 4 (zg 1))
    (zG (xa wY (zb (zk Yg (eC (.int 1)) (zk wO (zn 2 ya (zb (zg 2) (zb (eC (.int 50)) zp))) (eC (.int 9)))) zp) (yf 5) xr)
    (zG (ziX 3 (zk wO (zn 2 ya (zb (zg 2) (zb (eC (.int 90)) zp))) (zg 0)) (zg 4))
    (sFz 3 (zV (eFn zT (zb (zg 3) zp))))))))
noncomputable def wa : List D → Option D := fnD 7 yG
theorem zha {i : Nat} {fk fe : Ev → Option D} {ρ : SE} {xs : List Int} {k y : Int} (h1 : fk (visG ρ) = some (.int k)) (h2 : fe (visG ρ) = some (.int y)) (h3 : ρ[i]? = some (.o (xs.map .int))) (h4 : 0 ≤ k) (h5 : k < (xs.length : Int)) :
    ziX i fk fe ρ = .nx (ρ.set i (.o ((xs.set k.toNat (vAt xs k + y)).map .int))) := by
  unfold ziX
  rw [h1, h2]
  show (match zij ρ i (.int k) (.int y) with | some ρ' => Ctl.nx ρ' | none => Ctl.no) = _
  have e : (xs.map D.int)[k.toNat]? = some (.int (vAt xs k)) := by
    unfold vAt
    rw [List.getElem?_map, List.getElem?_eq_getElem (by omega), List.getD_eq_getElem?_getD, List.getElem?_eq_getElem (by omega)]
    rfl
  have e2 : zij ρ i (.int k) (.int y) = some (ρ.set i (.o ((xs.set k.toNat (vAt xs k + y)).map .int))) := by
    unfold zij
    rw [h3]
    dsimp only
    rw [if_pos h4, e, List.map_set]
  rw [e2]
theorem zaW {n m c : Int} (h3 : 1 ≤ n) (h8 : n ≤ 8) (hm : 0 ≤ m ∧ m ≤ 300) : ∃ hs : List Int, wa [.int n, .int m, .int c] = some (.tup (hs.map .int)) ∧ (hs.length : Int) = n ∧ (∀ x ∈ hs, 0 ≤ x) ∧ hs.sum = m := by
  have es : ∀ k : Int, ya [.int c, .int k] = some (.int (VL c k)) := fun k => rfl
  have key := zeu (m := 7) (g := yG) (ds := [.int n, .int m, .int c]) (R := fun d => ∃ hs : List Int, d = .tup (hs.map .int) ∧ (hs.length : Int) = n ∧ (∀ x ∈ hs, 0 ≤ x) ∧ hs.sum = m) (ρ := [.v (.int n), .v (.int m), .v (.int c), .no, .no, .no, .no]) rfl ?_
  · obtain ⟨d, e, hs, rfl, h⟩ := key
    exact ⟨hs, e, h⟩
  unfold yG
  refine zx (ρ' := [.v (.int n), .v (.int m), .v (.int c), .o ((List.replicate n.toNat (0 : Int)).map .int), .no, .no, .no]) (zih (ds := (List.replicate n.toNat (0 : Int)).map .int) ?_) (zx rfl ?_)
  · show zgq (.lst [.int 0]) (.int n) = _
    rw [ziB (by omega) (by omega), List.map_replicate]
  obtain ⟨t, ht⟩ : ∃ t : Int, VL c 50 % 9 = t := ⟨_, rfl⟩
  obtain ⟨t0, t9⟩ := wx (by decide) ht
  refine xm (zgY (lo := 0) (c := (1 + t).toNat) (fun i ρ => ∃ (xs : List Int) (l : Int) (o5 o6 : Sl), ρ = [.v (.int n), .v (.int m), .v (.int c), .o (xs.map .int), .v (.int l), o5, o6] ∧ (xs.length : Int) = n ∧ (∀ x ∈ xs, 0 ≤ x) ∧ 0 ≤ l ∧ xs.sum + l = m) ?_ ⟨List.replicate n.toNat 0, m, _, _, rfl, by rw [List.length_replicate]; omega, fun x hx => by rw [(List.mem_replicate.mp hx).2]; exact Int.le_refl _, hm.1, by rw [zdI]; omega⟩ ?_ ?_)
  · rw [zL (d := .int (1 + t)) (ds := []) (zH (x := .int 1) (y := .int t) rfl (zH (x := .int (VL c 50)) (y := .int 9) (ye (ds := [.int c, .int 50]) rfl (es _)) rfl (by rw [xI (by decide), ht])) rfl) wN, Option.bind_some, Vg (by omega) (by omega)]
  · rintro i ρ hi ⟨xs, l, o5, o6, rfl, hx, hn, hl0, hsum⟩
    obtain ⟨k, hk⟩ : ∃ k : Int, (0 : Int) + (i : Int) = k := ⟨_, rfl⟩
    rw [hk]
    refine ⟨_, rfl, ?_⟩
    unfold xr
    obtain ⟨v, hv⟩ : ∃ v : Int, VL c (51 + k) % (m + 1) = v := ⟨_, rfl⟩
    obtain ⟨v0, v1⟩ := wx (by omega) hv
    obtain ⟨y, hy⟩ : ∃ y : Int, (if v < l then v else l) = y := ⟨_, rfl⟩
    have hy0 : 0 ≤ y ∧ y ≤ l := by
      rw [← hy]
      by_cases c : v < l
      · rw [if_pos c]; omega
      · rw [if_neg c]; omega
    obtain ⟨a, ha⟩ : ∃ a : Int, VL c (70 + k) % n = a := ⟨_, rfl⟩
    obtain ⟨a0, a1⟩ := wx (by omega) ha
    refine zx (ρ' := [.v (.int n), .v (.int m), .v (.int c), .o (xs.map .int), .v (.int l), .v (.int k), .v (.int y)]) (vv (d := .int y) ?_) ?_
    · show eFn zbu _ (visF [.v (.int n), .v (.int m), .v (.int c), .o (xs.map .int), .v (.int l), .v (.int k), o6]) = _
      refine zbe (ds := [.int l, .int v]) (zL (d := .int l) rfl (zL (zH (x := .int (VL c (51 + k))) (y := .int (m + 1)) (ye (ds := [.int c, .int (51 + k)]) rfl (es _)) rfl (by rw [xI (by omega), hv])) wN)) ?_
      show some (D.int (if v < l then v else l)) = _
      rw [hy]
    refine zx (zha (xs := xs) (k := a) (y := y) (zH (x := .int (VL c (70 + k))) (y := .int n) (ye (ds := [.int c, .int (70 + k)]) rfl (es _)) rfl (by rw [xI (by omega), ha])) rfl rfl a0 (by omega)) ?_
    have ev := Zm xs a.toNat y (by omega)
    have hva := zhd hn a
    refine Z4 rfl ⟨xs.set a.toNat (vAt xs a + y), l - y, .v (.int k), .v (.int y), rfl, by rw [List.length_set]; exact hx, zgX hn (by omega), by omega, ?_⟩
    unfold vAt
    omega
  · rintro ρ ⟨xs, l, o5, o6, rfl, hx, hn, hl0, hsum⟩
    obtain ⟨a, ha⟩ : ∃ a : Int, VL c 90 % n = a := ⟨_, rfl⟩
    obtain ⟨a0, a1⟩ := wx (by omega) ha
    refine zx (zha (xs := xs) (k := a) (y := l) (zH (x := .int (VL c 90)) (y := .int n) (ye (ds := [.int c, .int 90]) rfl (es _)) rfl (by rw [xI (by omega), ha])) rfl rfl a0 (by omega)) ?_
    have ev := Zm xs a.toNat l (by omega)
    have hva := zhd hn a
    refine zhv rfl (XA rfl ⟨xs.set a.toNat (vAt xs a + l), rfl, by rw [List.length_set]; exact hx, zgX hn (by omega), ?_⟩)
    unfold vAt
    omega
theorem Xv (T : Txt K mg ad) : yQ P w K mg base CX0 2 ad.f__law_some_heap ad.e__law_some_heap ["many", "stones", "cell"] (@spD ⟨K⟩ 3 wa) := by
  letI : KK := ⟨K⟩
  have G__law_stir := XE (P := P) (w := w) (base := base) T
  refine yo (N := ["many", "stones", "cell", "found", "left", "k", "here"]) (ps := ["many", "stones", "cell"]) T.d__law_some_heap.fn zZ (g := yG) fun cdv A outer s H E hr => ?_
  unfold yG xr
  exact (zc (Y4 (i := 3) zZ.nd rfl (Or.inl rfl) (zg4 (xb (yL (za (ze zf) zd))) (edv 0)))
      (zc (zR (m := false) (i := 4) zZ.nd rfl (Or.inl rfl) (edv 1))
      (zc (YX PassesOwn.never rfl rfl T.z_range (za (yC (ze zf) (wG (zi G__law_stir hr rfl T.d__law_stir (za (edv 2) (za (ze zf) zd))) (ze zf))) zd) (zS (zB (i := 5) zZ.nd rfl (Or.inl rfl))) (zc (zR (m := false) (i := 6) zZ.nd rfl (Or.inl rfl) (zI (WK rfl) VF rfl T.z_min zce (za (edv 4) (za (wG (zi G__law_stir hr rfl T.d__law_stir (za (edv 2) (za (yC (ze zf) (edv 5)) zd))) (yC (edv 1) (ze zf))) zd))))
      (zc (zhn (pv 3) (wG (zi G__law_stir hr rfl T.d__law_stir (za (edv 2) (za (yC (ze zf) (edv 5)) zd))) (edv 0)) (edv 6))
      (zh (zR (m := false) (i := 4) zZ.nd rfl (Or.inl rfl) (vI (edv 4) (edv 6)))))))
      (zc (zhn (pv 3) (wG (zi G__law_stir hr rfl T.d__law_stir (za (edv 2) (za (ze zf) zd))) (edv 0)) (edv 4))
      (Y9 3 (zh (zo (yY zW xx rfl T.z_tuple yg (za (edv 3) zd)))))))))
noncomputable def wL : SE → Ctl :=
  (zG (sIf (Ye (yi (tOf (eUn (ym .tuple) (zg 4)))) (Ye (tOf (zk neD (eFn Yi (zb (zg 4) zp)) (eC (.int 2)))) (tOf (zk zdW (v9 (zb (eFn zhM (zb (zg 4) zp)) (zb (eFn ziP (zb (zg 4) zp)) zp))) (zk ixD (zg 0) (eC (.int 1))))))) (zV (eC .non)) zC)
    (zG (sIf (tOf (zk ltD (zk ixD (zg 3) (zk ixD (zg 4) (eC (.int 0)))) (eC (.int 2)))) (zV (eC .non)) zC)
    (zG (Y7 true 3 (zk ixD (zg 4) (eC (.int 0))) (zk wM (zk ixD (zg 3) (zk ixD (zg 4) (eC (.int 0)))) (eC (.int 2))))
    (Y7 true 3 (zk ixD (zg 4) (eC (.int 1))) (zk Yg (zk ixD (zg 3) (zk ixD (zg 4) (eC (.int 1)))) (eC (.int 1)))))))
noncomputable def wu : SE → Ctl :=
  (zG (Yr 3 (fFn x8 (zb (zg 1) zp)))
    (zG (sIf (yi (tOf (eUn (ym .list) (zg 2)))) (zV (eC .non)) zC)
    (zG (Yh (iOf (zg 2)) (yf 4) wL)
    (sFz 3 (zV (zg 3))))))
noncomputable def vR : List D → Option D := fnD 5 wu
theorem za6 {t : Tie} {ts : List Tie} (h1 : t ∈ ts) : zdW (zm t) (.tup (ts.map zm)) = some (.bl false) := by
  have h := zcK t ts
  have h : (zfw (zm t) (ts.map zm)).map D.bl = some (.bl (decide (t ∈ ts))) := h
  obtain ⟨b, e, h2⟩ := Option.map_eq_some_iff.mp h
  injection h2 with h2
  show (zfw (zm t) (ts.map zm)).map (fun b => D.bl (!b)) = _
  rw [e, h2, decide_eq_true h1]
  rfl
theorem zh4 (a b : Int) : zhM [.tup [.int a, .int b]] = some (.int (if b < a then b else a)) := by
  show some (D.int (zin [a, b])) = _
  congr 2
  show min a b = _
  by_cases c : b < a
  · rw [if_pos c]; omega
  · rw [if_neg c]; omega
theorem ziw (a b : Int) : ziP [.tup [.int a, .int b]] = some (.int (if b > a then b else a)) := by
  show some (D.int (zhW [a, b])) = _
  congr 2
  show max a b = _
  by_cases c : b > a
  · rw [if_pos c]; omega
  · rw [if_neg c]; omega
theorem zdR {n : Int} {ts : List Tie} {hs gs' : List Int} {ss : List Tie} (hl : (hs.length : Int) = n) (ht : ∀ s ∈ ss, zbO s.1 s.2 ∈ ts) (hp : zbw n hs ss gs') : vR [xQ n ts, .tup (hs.map .int), .lst (ss.map zm)] = some (.lst (gs'.map .int)) := by
  refine Vy (ρ := [.v (xQ n ts), .v (.tup (hs.map .int)), .v (.lst (ss.map zm)), .no, .no]) rfl ?_
  unfold wu
  refine zx (ρ' := [.v (xQ n ts), .v (.tup (hs.map .int)), .v (.lst (ss.map zm)), .o (hs.map .int), .no]) rfl (xm (W0 (c := false) rfl (fun z => by cases z) (fun _ => Z4 rfl ?_)))
  refine xm (W4 (ds := ss.map zm) (fun i ρ => ∃ (gs : List Int) (o4 : Sl), ρ = [.v (xQ n ts), .v (.tup (hs.map .int)), .v (.lst (ss.map zm)), .o (gs.map .int), o4] ∧ (gs.length : Int) = n ∧ zbw n gs (ss.drop i) gs') rfl ⟨hs, _, rfl, hl, hp⟩ ?_ ?_)
  · rintro i d ρ hd ⟨gs, o4, rfl, hg, hpl⟩
    rw [List.getElem?_map] at hd
    obtain ⟨s, hs', rfl⟩ := Option.map_eq_some_iff.mp hd
    have d1 : ss.drop i = s :: ss.drop (i + 1) := by
      obtain ⟨h1, h2⟩ := List.getElem?_eq_some_iff.mp hs'
      rw [List.drop_eq_getElem_cons h1, h2]
    rw [d1] at hpl
    cases hpl with
    | cons p1 p2 p3 p4 =>
    obtain ⟨a, b⟩ := s
    have hm := ht _ (List.mem_of_getElem? hs')
    refine ⟨_, rfl, ?_⟩
    unfold wL
    have ea : ∀ gs : List Int, zk ixD (zg 4) (eC (.int 0)) (visG [.v (xQ n ts), .v (.tup (hs.map .int)), .v (.lst (ss.map zm)), .o (gs.map .int), .v (zm (a, b))]) = some (.int a) := fun gs => rfl
    have eb : ∀ gs : List Int, zk ixD (zg 4) (eC (.int 1)) (visG [.v (xQ n ts), .v (.tup (hs.map .int)), .v (.lst (ss.map zm)), .o (gs.map .int), .v (zm (a, b))]) = some (.int b) := fun gs => rfl
    refine xm (W0 (c := false) (zho rfl (zho rfl (Xa (zH (x := zm (zbO a b)) (y := .tup (ts.map zm)) (zjj (zL (zbe (ds := [zm (a, b)]) rfl (zh4 a b)) (zL (zbe (ds := [zm (a, b)]) rfl (ziw a b)) wN)) (by show 2 ≤ 1000; decide)) rfl (za6 hm))))) (fun z => by cases z) (fun _ => Z4 rfl ?_))
    refine xm (W0 (c := false) (Xa (zH (x := .int (vAt gs a)) (y := .int 2) (zH (x := .lst (gs.map .int)) (y := .int a) rfl (ea gs) (zhT p1 hg)) rfl ?_)) (fun z => by cases z) (fun _ => Z4 rfl ?_))
    · show some (D.bl (decide (vAt gs a < 2))) = _
      rw [decide_eq_false (by have : 2 ≤ vAt gs a := p3; omega)]
    have p1 : 0 ≤ a ∧ a < n := p1
    have p2 : 0 ≤ b ∧ b < n := p2
    refine zx (zg5 (m := true) (ds := gs.map .int) (d := .int (vAt gs a - 2)) (k := a) ?_ (ea gs) rfl p1.1 (by rw [List.length_map]; omega)) ?_
    · show (Option.bind (zk wM _ (eC (.int 2)) (visG [.v (xQ n ts), .v (.tup (hs.map .int)), .v (.lst (ss.map zm)), .o (gs.map .int), .v (zm (a, b))])) fun d => if noL d = true then some d else none) = _
      rw [zH (x := .int (vAt gs a)) (y := .int 2) (z := .int (vAt gs a - 2)) (zH (x := .lst (gs.map .int)) (y := .int a) rfl (ea gs) (zhT p1 hg)) rfl rfl]
      rfl
    rw [← List.map_set]
    obtain ⟨g1, hg1⟩ : ∃ g1, gs.set a.toNat (vAt gs a - 2) = g1 := ⟨_, rfl⟩
    have hl1 : (g1.length : Int) = n := by rw [← hg1, List.length_set]; exact hg
    rw [hg1]
    have p4 : zbw n ((gs.set a.toNat (vAt gs a - 2)).set b.toNat (vAt (gs.set a.toNat (vAt gs a - 2)) b + 1)) (ss.drop (i + 1)) gs' := p4
    rw [hg1] at p4
    refine ziv (g1.map .int) (.int (vAt g1 b + 1)) b ?_ (eb g1) rfl p2.1 (by rw [List.length_map]; omega) ⟨g1.set b.toNat (vAt g1 b + 1), .v (zm (a, b)), ?_, by rw [List.length_set]; exact hl1, p4⟩
    · show (Option.bind (zk Yg _ (eC (.int 1)) (visG [.v (xQ n ts), .v (.tup (hs.map .int)), .v (.lst (ss.map zm)), .o (g1.map .int), .v (zm (a, b))])) fun d => if noL d = true then some d else none) = _
      rw [zH (x := .int (vAt g1 b)) (y := .int 1) (z := .int (vAt g1 b + 1)) (zH (x := .lst (g1.map .int)) (y := .int b) rfl (eb g1) (zhT p2 hl1)) rfl rfl]
      rfl
    · rw [List.map_set]
      rfl
  · rintro ρ ⟨gs, o4, rfl, hg, hpl⟩
    rw [List.length_map, List.drop_length] at hpl
    cases hpl
    exact zhv rfl (XA rfl rfl)
theorem WY (T : Txt K mg ad) : yQ P w K mg base CX0 1 ad.f__law_played ad.e__law_played ["web", "heap", "steps"] (@spD ⟨K⟩ 3 vR) := by
  letI : KK := ⟨K⟩
  refine yo (N := ["web", "heap", "steps", "here", "step"]) (ps := ["web", "heap", "steps"]) T.d__law_played.fn vo (g := wu) fun cdv A outer s H E hr => ?_
  unfold wu wL
  exact (zc (Y4 (i := 3) vo.nd rfl (Or.inl rfl) (zd9 rfl T.z_list (za (edv 1) zd)))
      (zc (yc (yX (yH (zF .list rfl T.z_isinstance (edv 2) (yh (v := .ty "list") rfl T.z_list Wh rfl)))) (zh (zo (wT wW))) zv)
      (zc (vH PassesOwn.never rfl (wS (edv 2)) (zS (zB (i := 4) vo.nd rfl (Or.inl rfl))) (zc (yc (zcp (XT (yX (yH (zF .tuple rfl T.z_isinstance (edv 4) (yh (v := .ty "tuple") rfl T.z_tuple yg rfl)))) (XT (zE Vo ZY (zy _) (zI zM wk rfl T.z_len Yd (za (edv 4) zd)) (ze zf)) (YA (zE (zeb hr) zdD (by with_unfolding_all rfl) (vz (za (zI (zdB rfl) zgl rfl T.z_min zce (za (edv 4) zd)) (za (zI (zev rfl) zgm rfl T.z_max zgP (za (edv 4) zd)) zd))) (zD (edv 0) (ze zf) (fun _ _ => rfl))))))) (zh (zo (wT wW))) zv)
      (zc (yc (zE zig zU (zy _) (zD (edv 3) (zD (edv 4) (ze zf) (fun _ _ => rfl)) (fun _ _ => rfl)) (ze zf)) (zh (zo (wT wW))) zv)
      (zc (Vj (m := true) (vI (zD (edv 3) (zD (edv 4) (ze zf) (fun _ _ => rfl)) (fun _ _ => rfl)) (ze zf)) (pv 3) (zD (edv 4) (ze zf) (fun _ _ => rfl)))
      (zh (Vj (m := true) (yC (zD (edv 3) (zD (edv 4) (ze zf) (fun _ _ => rfl)) (fun _ _ => rfl)) (ze zf)) (pv 3) (zD (edv 4) (ze zf) (fun _ _ => rfl))))))))
      (Y9 3 (zh (zo (edv 3)))))))
inductive Pl : Hl → List Tie → Hl → Prop
  | nil {h : Hl} : Pl h [] h
  | cons {h g : Hl} {s : Tie} {ss : List Tie} : 2 ≤ vAt h s.1 → Pl (moved h s) ss g → Pl h (s :: ss) g
set_option genInjectivity false in
set_option genSizeOf false in
set_option genCtorIdx false in
structure Pth (ts : List Tie) (h : Hl) (ss : List Tie) (g : Hl) : Prop where
  tie : ∀ s ∈ ss, zbO s.1 s.2 ∈ ts
  go : Pl h ss g
theorem Pth.nil (ts : List Tie) (h : Hl) : Pth ts h [] h := ⟨fun _ h => (by cases h), .nil⟩
theorem Pth.cons {ts : List Tie} {p g : Hl} {s : Tie} {ss : List Tie} (h : Pth ts (moved p s) ss g) (hs : zbO s.1 s.2 ∈ ts) (h2 : 2 ≤ vAt p s.1) : Pth ts p (s :: ss) g := by
  refine ⟨fun x hx => ?_, .cons h2 h.go⟩
  rcases List.mem_cons.mp hx with rfl | hx
  · exact hs
  · exact h.tie x hx
theorem Pl.plays {m : Int} {ts : List Tie} (ok : wC m ts) {h g : Hl} {ss : List Tie} (hp : Pl h ss g) : (∀ s ∈ ss, zbO s.1 s.2 ∈ ts) → zbw m h ss g := by
  induction hp with
  | nil => intro _; exact .nil
  | cons h2 _ ih =>
    intro ht
    have r := zcb ok (ht _ (.head _))
    exact .cons r.1 r.2.1 h2 (ih fun x hx => ht x (.tail _ hx))
theorem Pl.up {m : Int} {ts : List Tie} (ok : wC m ts) {h g : Hl} {ss : List Tie} (hp : Pl h ss g) : (∀ s ∈ ss, zbO s.1 s.2 ∈ ts) → ∀ h' : Hl, (h.length : Int) = m → (h'.length : Int) = m → (∀ y, 0 ≤ y → vAt h y ≤ vAt h' y) → ∃ g', Pl h' ss g' ∧ ∀ y, 0 ≤ y → vAt g y ≤ vAt g' y := by
  induction hp with
  | nil => intro _ h' _ _ le; exact ⟨h', .nil, le⟩
  | @cons h g s ss h2 _ ih =>
    intro ht h' hl hl' le
    have r := zcb ok (ht s (.head _))
    have i1 : wP h.length s := ⟨r.1.1, by omega, r.2.1.1, by omega, r.2.2⟩
    have i2 : wP h'.length s := ⟨r.1.1, by omega, r.2.1.1, by omega, r.2.2⟩
    have h2' := le s.1 r.1.1
    obtain ⟨g', p, q⟩ := ih (fun x hx => ht x (.tail _ hx)) (moved h' s) (by rw [Yz]; exact hl) (by rw [Yz]; exact hl') fun y hy => by
      rw [WL i1 hy, WL i2 hy]
      have := le y hy
      omega
    exact ⟨g', .cons (by omega) p, q⟩
noncomputable def y4 : SE → Ctl :=
  (sIf (yi (tOf (zn 3 zA (zb (zg 0) (zb (zg 1) (zb (zg 2) zp)))))) sNo zC)
noncomputable def y6 : List D → Option D := fnD 3 y4
theorem zeg {x a b : Int} (h1 : a ≤ x) (h2 : x ≤ b) : y6 [.int x, .int a, .int b] = some .non := by
  refine Vy (ρ := [.v (.int x), .v (.int a), .v (.int b)]) rfl ?_
  unfold y4
  refine W0 (c := false) ?_ (fun z => by cases z) (fun _ => Z4 rfl rfl)
  show (((if noS (.int x) = true then some (D.bl (yy (.int x) a b)) else none).bind asB).map fun c => !c) = _
  rw [if_pos (show noS (.int x) = true from rfl)]
  show some (!(decide (a ≤ x) && decide (x ≤ b))) = _
  rw [decide_eq_true h1, decide_eq_true h2]
  rfl
theorem vB (T : Txt K mg ad) : yQ P w K mg base CX0 3 ad.f_must_be_within ad.e_must_be_within ["thing", "least", "most"] (@spD ⟨K⟩ 3 y6) := by
  letI : KK := ⟨K⟩
  have G_is_whole_within := yK (P := P) (w := w) (base := base) T
  refine yo (N := ["thing", "least", "most"]) (ps := ["thing", "least", "most"]) T.d_must_be_within.fn Xm (g := y4) fun cdv A outer s H E hr => ?_
  unfold y4
  exact (zh (yc (yX (yH (zi G_is_whole_within hr rfl T.d_is_whole_within (za (edv 0) (za (edv 1) (za (edv 2) zd)))))) (zh v7) zv))
noncomputable def xj : SE → Ctl :=
  (zG (Yk (zn 1 xh (zb (zg 0) zp)))
    (zG (Yk (zn 2 yI (zb (zg 0) (zb (zg 1) zp))))
    (zG (Yk (zn 2 yb (zb (zg 0) (zb (zg 2) zp))))
    (Yk (zn 3 y6 (zb (zg 3) (zb (eC (.int 1)) (zb (eC (.int 300)) zp))))))))
noncomputable def wB : List D → Option D := fnD 4 xj
theorem zfO {m : Int} {ts : List Tie} {h : Hl} {p n : Int} (ok : wC m ts) (hl : (h.length : Int) = m) (hn : ∀ v ∈ h, 0 ≤ v) (hr : h.sum ≤ 300) (hp : 0 ≤ p ∧ p < m) (n1 : 1 ≤ n) (n3 : n ≤ 300) : wB [xQ m ts, hD h, .int p, .int n] = some .non := by
  refine Vy (ρ := [.v (xQ m ts), .v (hD h), .v (.int p), .v (.int n)]) rfl ?_
  unfold xj
  refine zx (vp (zfI ok)) ?_
  refine zx (vp (WR ok hl hn hr)) ?_
  refine zx (vp (Xj (ts := ts) hp)) ?_
  exact Z4 (vp (zeg n1 n3)) rfl
theorem XM (T : Txt K mg ad) : yQ P w K mg base CX0 8 ad.f_must_be_asked ad.e_must_be_asked ["web", "heap", "place", "many"] (@spD ⟨K⟩ 4 wB) := by
  letI : KK := ⟨K⟩
  have G_must_be_within := vB (P := P) (w := w) (base := base) T
  have G_must_be_web := W3 (P := P) (w := w) (base := base) T
  have G_must_be_place := xY (P := P) (w := w) (base := base) T
  have G_must_be_heap := Yj (P := P) (w := w) (base := base) T
  refine yo (N := ["web", "heap", "place", "many"]) (ps := ["web", "heap", "place", "many"]) T.d_must_be_asked.fn XH (g := xj) fun cdv A outer s H E hr => ?_
  unfold xj
  exact (zc (vk (zi G_must_be_web hr rfl T.d_must_be_web (za (edv 0) zd)))
      (zc (vk (zi G_must_be_heap hr rfl T.d_must_be_heap (za (edv 0) (za (edv 1) zd))))
      (zc (vk (zi G_must_be_place hr rfl T.d_must_be_place (za (edv 0) (za (edv 2) zd))))
      (zh (vk (zi G_must_be_within hr rfl T.d_must_be_within (za (edv 3) (za (ze zf) (za (ze (Wy (v := .int 300) rfl T.g_MOST_STONES ⟨_, rfl⟩)) zd)))))))))
theorem Vp {g : Hl} {o : Option (Hl × Tie)} : ∀ {f : Fd}, W1 f g = some o → (g, o) ∈ f
  | [], h => by cases h
  | e :: f, h => by
    unfold W1 at h
    by_cases c : e.1 = g
    · rw [if_pos c] at h
      cases h
      subst c
      exact List.mem_cons_self
    · rw [if_neg c] at h
      exact List.mem_cons_of_mem _ (Vp h)
theorem zic {f : Fd} {g : Hl} {o : Option (Hl × Tie)} (h : W1 f g = some o) : VC (.dct true true (fdK f) (fdV f)) (hD g) = some (zfX o) := by
  show ((zfj (hD g)).bind fun k => XJ (fdK f) (fdV f) k) = _
  rw [Vs, Option.bind_some, V0, h]
  rfl
noncomputable def Yo : SE → Ctl :=
  (zG (Zj false 2 (zk ixD (zk VC (zg 0) (zg 3)) (eC (.int 1))))
    (xg false 3 (zk ixD (zk VC (zg 0) (zg 3)) (eC (.int 0)))))
noncomputable def vA : SE → Ctl :=
  (zG (Yr 2 (zY zp))
    (zG (xg false 3 (zg 1))
    (zG (Yc (tOf (zk zJ (zk VC (zg 0) (zg 3)) (eC .non))) Yo 20)
    (sFz 2 (zV (xy (fRev (zg 2))))))))
noncomputable def Xp : List D → Option D := fnD 4 vA
noncomputable abbrev stS (f : Fd) (g : Hl) (ss : List Tie) (now : Hl) : SE := [.v (.dct true true (fdK f) (fdV f)), .v (hD g), .o (ss.map zm), .v (hD now)]
noncomputable def stMu (S : Int) : SE → Nat
  | [_, _, _, .v (.tup ds)] => (S - ((zb9 ds).getD []).sum).toNat
  | _ => 0
theorem zb1 {S : Int} {f : Fd} {g now : Hl} {ss : List Tie} : stMu S (stS f g ss now) = (S - now.sum).toNat := by
  show (S - ((zb9 (now.map .int)).getD []).sum).toNat = _
  rw [ZR]
  rfl
theorem zbV {m : Int} {ts : List Tie} {h0 g : Hl} {f : Fd} (ok : wC m ts) (hl : (h0.length : Int) = m) (hn : ∀ v ∈ h0, 0 ≤ v) (hr : h0.sum ≤ 12) (hf : zkq (zu m ts) h0 f) (hg : InF f g) :
    ∃ ss : List Tie, Xp [.dct true true (fdK f) (fdV f), hD g] = some (.lst (ss.map zm)) ∧ Pth ts h0 ss g ∧ ss.length ≤ 12 := by
  have hS := yn ok
  have hB : ∀ {x : Hl}, InF f x → HOk m.toNat h0.sum x := fun {x} hx => ((hf.iff x).mp hx).ok hS ⟨by omega, hn, Int.le_refl _⟩
  obtain ⟨d, e, ss, rfl, hpt⟩ := zeu (m := 4) (g := vA) (ds := [.dct true true (fdK f) (fdV f), hD g]) (R := fun d => ∃ ss : List Tie, d = .lst (ss.map zm) ∧ Pth ts h0 ss g ∧ ss.length ≤ 12) (ρ := [.v (.dct true true (fdK f) (fdV f)), .v (hD g), .no, .no]) rfl (by
    unfold vA
    refine zx (ρ' := [.v (.dct true true (fdK f) (fdV f)), .v (hD g), .o (([] : List Tie).map zm), .no]) rfl ?_
    refine zx (ρ' := stS f g [] g) rfl ?_
    refine xm (VT (fun ρ => ∃ (ss : List Tie) (now : Hl), ρ = stS f g ss now ∧ InF f now ∧ (ss.length : Int) ≤ now.sum ∧ Pth ts now ss.reverse g) (stMu (h0.sum + 1)) ?_ 20 _ ⟨[], g, rfl, hg, Vc (hB hg).nn, Pth.nil ts g⟩ ?_)
    · rintro ρ ⟨ss, now, rfl, hnow, hsl, hpt⟩
      have hb := hB hnow
      obtain ⟨o, ho⟩ := Option.isSome_iff_exists.mp hnow
      have ed := zic ho
      cases o with
      | none =>
        refine ⟨false, ?_, (fun c => by cases c), fun _ => ?_⟩
        · show (((VC (.dct true true (fdK f) (fdV f)) (hD now))).bind fun x => zJ x .non).bind asB = _
          rw [ed]
          rfl
        · refine zhv (ρ' := [.v (.dct true true (fdK f) (fdV f)), .v (hD g), .v (.lst (ss.map zm)), .v (hD now)]) rfl (XA (d := .lst (ss.map zm).reverse) rfl ⟨ss.reverse, by rw [List.map_reverse], ?_, ?_⟩)
          · rcases hf.ok.prv _ (Vp ho) with ⟨_, z⟩ | ⟨p', s', z, _⟩
            · have z : now = h0 := z
              rw [← z]; exact hpt
            · cases z
          · rw [List.length_reverse]; have := hb.sum; omega
      | some ps =>
        obtain ⟨p, s⟩ := ps
        refine ⟨true, ?_, fun _ => ?_, (fun c => by cases c)⟩
        · show (((VC (.dct true true (fdK f) (fdV f)) (hD now))).bind fun x => zJ x .non).bind asB = _
          rw [ed]
          rfl
        · rcases hf.ok.prv _ (Vp ho) with ⟨z, _⟩ | ⟨p', s', z, z2, z3, z4, z5⟩
          · cases z
          · cases z
            have hbp := hB z5
            have hs1 : now.sum = p.sum - 1 := by
              rw [show now = moved p s from z4, WJ (by rw [hbp.len]; exact hS s z2)]
            have hsm := hb.sum
            unfold Yo
            refine zx (zg2 (ds := ss.map zm) (d := zm s) ?_ rfl (by rw [List.length_map]; omega)) ?_
            · show (((VC (.dct true true (fdK f) (fdV f)) (hD now))).bind fun x => ixD x (.int 1)) = _
              rw [ed]
              rfl
            · refine Z4 (ρ' := stS f g (ss ++ [s]) p) ?_ ⟨⟨ss ++ [s], p, rfl, z5, by rw [List.length_append]; simp; omega, ?_⟩, ?_⟩
              · refine vv (d := hD p) ?_ (by rw [show stS f g (ss ++ [s]) p = [.v (.dct true true (fdK f) (fdV f)), .v (hD g), .o ((ss ++ [s]).map zm), .v (hD p)] from rfl, List.map_append]; rfl)
                show (((VC (.dct true true (fdK f) (fdV f)) (hD now))).bind fun x => ixD x (.int 0)) = _
                rw [ed]
                rfl
              · rw [List.reverse_append]
                have z4 : now = moved p s := z4
                rw [z4] at hpt
                exact hpt.cons (Vh.mp z2).2.2 z3
              · rw [zb1, zb1]
                have := hbp.sum
                omega
    · rw [zb1]
      have := Vc (hB hg).nn
      omega)
  exact ⟨ss, e, hpt⟩
theorem zbm (T : Txt K mg ad) : yQ P w K mg base CX0 1 ad.f_steps_to ad.e_steps_to ["found", "heap"] (@spD ⟨K⟩ 2 Xp) := by
  letI : KK := ⟨K⟩
  refine yo (N := ["found", "heap", "steps", "now"]) (ps := ["found", "heap"]) T.d_steps_to.fn v4 (g := vA) fun cdv A outer s H E hr => ?_
  unfold vA Yo
  exact (zc (Y4 (i := 2) v4.nd rfl (Or.inl rfl) (yL zd))
      (zc (zR (m := false) (i := 3) v4.nd rfl (Or.inl rfl) (edv 1))
      (zc (Vx 20 PassesOwn.never (zE Yw vE (zy _) (zb5 hr (edv 0) (edv 3) (fun _ _ => rfl)) (wT wW)) (zc (zcn (m := false) (pv 2) (zD (zb5 hr (edv 0) (edv 3) (fun _ _ => rfl)) (ze zf) (fun _ _ => rfl)) (fun a b => zcX PySem.F.plainAttrs_list PySem.F.slot_list_append PySem.F.type_list_append ZF a b))
      (zh (zR (m := false) (i := 3) v4.nd rfl (Or.inl rfl) (zD (zb5 hr (edv 0) (edv 3) (fun _ _ => rfl)) (ze zf) (fun _ _ => rfl))))))
      (Y9 2 (zh (zo (xb (zc9 rfl rfl T.z_list rfl T.z_reversed (edv 2)))))))))
noncomputable def WP : SE → Ctl :=
  (sIf (tOf (zk geD (zk ixD (zg 5) (zg 2)) (zg 3))) (zV (zn 2 Xp (zb (zg 4) (zb (zg 5) zp)))) zC)
noncomputable def Wx : SE → Ctl :=
  (zG (Yk (zn 4 wB (zb (zg 0) (zb (zg 1) (zb (zg 2) (zb (zg 3) zp))))))
    (zG (Yk (zn 2 xL (zb (eFn zcZ (zb (zg 1) zp)) (zb (eC (.int 12)) zp))))
    (zG (xg false 4 (zn 2 vq (zb (zg 0) (zb (zg 1) zp))))
    (zG (Yh (iDct (zg 4)) (yf 5) WP)
    (zV (eC .non))))))
noncomputable def zbH : List D → Option D := fnD 6 Wx
theorem zdf {m : Int} {ts : List Tie} {h0 : Hl} {p n : Int} (ok : wC m ts) (hl : (h0.length : Int) = m) (hn : ∀ v ∈ h0, 0 ≤ v) (hr : h0.sum ≤ 12) (hc : cH m.toNat h0.sum.toNat < sizeLine) (hp : 0 ≤ p ∧ p < m) (n1 : 1 ≤ n) (n3 : n ≤ 300) :
    ∃ d, zbH [xQ m ts, hD h0, .int p, .int n] = some d ∧ ((∃ (ss : List Tie) (g : Hl), d = .lst (ss.map zm) ∧ Beh (zu m ts) h0 g ∧ n ≤ vAt g p ∧ Pth ts h0 ss g ∧ ss.length ≤ 12) ∨ (d = .non ∧ ∀ g, Beh (zu m ts) h0 g → ¬ n ≤ vAt g p)) := by
  obtain ⟨f, e, hf⟩ := Wd ok hl hn (Int.le_trans hr (by decide)) hc
  have hfe := hf.ok.each ok hl hn
  refine zeu (m := 6) (g := Wx) (ds := [xQ m ts, hD h0, .int p, .int n]) (ρ := [.v (xQ m ts), .v (hD h0), .v (.int p), .v (.int n), .no, .no]) rfl ?_
  unfold Wx
  refine zx (vp (zfO ok hl hn (Int.le_trans hr (by decide)) hp n1 n3)) ?_
  refine zx (vp (d := .non) ?_) ?_
  · refine (zfK (ds := [.int h0.sum, .int 12]) ?_ rfl).trans (zax hr)
    show (zcZ [.tup (h0.map .int)]).bind (fun d => (some [D.int 12]).map (d :: ·)) = _
    rw [WS]
    rfl
  refine zx (vv (d := .dct true true (fdK f) (fdV f)) e) ?_
  refine xm (W4 (ds := f.map fun e : Hl × Option (Hl × Tie) => hD e.1) (fun i ρ => ∃ o5, ρ = [.v (xQ m ts), .v (hD h0), .v (.int p), .v (.int n), .v (.dct true true (fdK f) (fdV f)), o5] ∧ ∀ e ∈ f.take i, ¬ n ≤ vAt e.1 p) (show zci _ = _ from ze6 f) ⟨_, rfl, fun e he => by cases he⟩ ?_ ?_)
  · rintro i d ρ hd ⟨o5, rfl, hi⟩
    rw [List.getElem?_map] at hd
    obtain ⟨x, hx, rfl⟩ := Option.map_eq_some_iff.mp hd
    have hm : x ∈ f := List.mem_of_getElem? hx
    refine ⟨[.v (xQ m ts), .v (hD h0), .v (.int p), .v (.int n), .v (.dct true true (fdK f) (fdV f)), .v (hD x.1)], rfl, ?_⟩
    unfold WP
    have hb := (hfe x hm).len
    refine W0 (c := decide (n ≤ vAt x.1 p)) ?_ (fun c => ?_) (fun c => ?_)
    · show ((atI (x.1.map D.int) p).bind fun y => geD y (.int n)).bind asB = _
      rw [wv hp.1 (by omega)]
      rfl
    · obtain ⟨ss, es, hpt⟩ := zbV ok hl hn hr hf (yV.mpr ⟨x, hm, rfl⟩)
      exact XA (Zi (d := .lst (ss.map zm)) es) (.inl ⟨ss, x.1, rfl, hf.ok.beh x hm, of_decide_eq_true c, hpt⟩)
    · refine Z4 rfl ⟨_, rfl, fun e he => ?_⟩
      rw [List.take_succ, hx] at he
      rcases List.mem_append.mp he with he | he
      · exact hi e he
      · cases List.mem_singleton.mp he
        exact of_decide_eq_false c
  · rintro ρ ⟨o5, rfl, hi⟩
    refine XA (d := .non) rfl (.inr ⟨rfl, fun g hg => ?_⟩)
    obtain ⟨x, hx, rfl⟩ := yV.mp ((hf.iff g).mpr hg)
    rw [List.length_map, List.take_length] at hi
    exact hi x hx
theorem zf2 (T : Txt K mg ad) : yQ P w K mg base CX0 9 ad.f_reach ad.e_reach ["web", "heap", "place", "many"] (@spD ⟨K⟩ 4 zbH) := by
  letI : KK := ⟨K⟩
  have G_must_be_at_most := Z2 (P := P) (w := w) (base := base) T
  have G_heaps_behind := Wb (P := P) (w := w) (base := base) T
  have G_steps_to := zbm (P := P) (w := w) (base := base) T
  have G_must_be_asked := XM (P := P) (w := w) (base := base) T
  refine yo (N := ["web", "heap", "place", "many", "found", "other"]) (ps := ["web", "heap", "place", "many"]) T.d_reach.fn V5 (g := Wx) fun cdv A outer s H E hr => ?_
  unfold Wx WP
  exact (zc (vk (zi G_must_be_asked hr rfl T.d_must_be_asked (za (edv 0) (za (edv 1) (za (edv 2) (za (edv 3) zd))))))
      (zc (vk (zi G_must_be_at_most hr rfl T.d_must_be_at_most (za (zI (vJ rfl) Xb rfl T.z_sum Vm (za (edv 1) zd)) (za (ze (Wy (v := .int 12) rfl T.g_MOST_SEARCHED ⟨_, rfl⟩)) zd))))
      (zc (zR (m := false) (i := 4) V5.nd rfl (Or.inl rfl) (zi G_heaps_behind hr rfl T.d_heaps_behind (za (edv 0) (za (edv 1) zd))))
      (zc (vH PassesOwn.never rfl (zh7 (edv 4)) (zS (zB (i := 5) V5.nd rfl (Or.inl rfl))) (zh (yc (zE zfr zU (zy _) (zD (edv 5) (edv 2) (fun _ _ => rfl)) (edv 3)) (zh (zo (zi G_steps_to hr rfl T.d_steps_to (za (edv 4) (za (edv 5) zd))))) zv)))
      (zh (zo (wT wW)))))))
theorem zcP {t : Ev → Option Bool} {g : SE → Ctl} {ρ : SE} (e : t (visG ρ) = some false) : sIf t g zC ρ = .nx ρ := by
  unfold sIf
  rw [e]
  rfl
theorem YV {m : Int} {ts : List Tie} {h : Hl} {s : Tie} (ok : wC m ts) (hs : s ∈ zu m ts) (hl : (h.length : Int) = m) : ∀ k : Nat, 2 * (k : Int) ≤ vAt h s.1 → ∃ g, Beh (zu m ts) h g ∧ (g.length : Int) = m ∧ ∀ y, 0 ≤ y → vAt g y = vAt h y - (if y = s.1 then 2 * (k : Int) else 0) + (if y = s.2 then (k : Int) else 0)
  | 0, _ => ⟨h, .zero, hl, fun y _ => by simp⟩
  | k + 1, hk => by
    obtain ⟨g, b, l, e⟩ := YV ok hs hl k (by omega)
    have hin := yn ok s hs
    rw [show m.toNat = g.length by omega] at hin
    have e1 := e s.1 hin.a0
    rw [if_pos rfl, if_neg hin.ne] at e1
    refine ⟨moved g s, .step b hs (by omega), by rw [Yz]; exact l, fun y hy => ?_⟩
    rw [WL hin hy, e y hy]
    by_cases c1 : y = s.1
    · have c2 : ¬ y = s.2 := fun z => hin.ne (c1.symm.trans z)
      rw [if_pos c1, if_pos c1, if_pos c1, if_neg c2, if_neg c2, if_neg c2]
      omega
    · rw [if_neg c1, if_neg c1, if_neg c1]
      by_cases c2 : y = s.2
      · rw [if_pos c2, if_pos c2, if_pos c2]; omega
      · rw [if_neg c2, if_neg c2, if_neg c2]; omega
section
variable {m : Int} {ts : List Tie} {h : Hl} {a u v t p : Int}
theorem Xr (ok : wC m ts) (hl : (h.length : Int) = m) (hn : ∀ x ∈ h, 0 ≤ x) (ap : ((a, p) : Tie) ∈ zu m ts) (q : 2 ≤ vAt h a) : ∃ g, Beh (zu m ts) h g ∧ 1 ≤ vAt g p := by
  obtain ⟨g, b, l, e⟩ := YV ok ap hl 1 (by dsimp only; omega)
  have hin := yn ok _ ap
  have e1 := e p hin.b0
  dsimp only at e1
  rw [if_neg (fun z => hin.ne z.symm), if_pos rfl] at e1
  have := hn _ (Xn (h := h) (i := p) hin.b0 (by have := hin.b1; dsimp only at this; omega))
  exact ⟨g, b, by omega⟩
theorem wm (ok : wC m ts) (hl : (h.length : Int) = m) (hn : ∀ x ∈ h, 0 ≤ x) (ua : ((u, a) : Tie) ∈ zu m ts) (ap : ((a, p) : Tie) ∈ zu m ts) (q : 2 ≤ vAt h a + vAt h u / 2) : ∃ g, Beh (zu m ts) h g ∧ 1 ≤ vAt g p := by
  have hin := yn ok _ ua
  have hu := hn _ (Xn (h := h) (i := u) hin.a0 (by have := hin.a1; dsimp only at this; omega))
  obtain ⟨g, b, l, e⟩ := YV ok ua hl (vAt h u / 2).toNat (by dsimp only; omega)
  have e1 := e a hin.b0
  dsimp only at e1
  rw [if_neg (fun z => hin.ne z.symm), if_pos rfl] at e1
  have hg := (b.ok (yn ok) ⟨by omega, hn, Int.le_refl _⟩).nn
  obtain ⟨g2, b2, q2⟩ := Xr ok l hg ap (by omega)
  exact ⟨g2, b.trans b2, q2⟩
theorem zhY {A U V x y gu ga gv ha hv : Int} (r1 : gu = U - 0 + x - 0 + 0) (r2 : ga = A - 0 + 0 - 0 + 0) (r3 : gv = V - 0 + 0 - 0 + y) (r4 : ha = ga - 0 + gu / 2) (r5 : hv = gv - 0 + 0) (q : 2 ≤ A + (U + x) / 2 + (V + y) / 2) : 2 ≤ ha + hv / 2 := by
  have e1 : gu = U + x := by omega
  have e2 : ha = A + (U + x) / 2 := by rw [r4, r2, e1]; omega
  have e3 : hv = V + y := by omega
  rw [e2, e3]
  exact q
theorem YW (ok : wC m ts) (hl : (h.length : Int) = m) (hn : ∀ x ∈ h, 0 ≤ x) (tu : ((t, u) : Tie) ∈ zu m ts) (tv : ((t, v) : Tie) ∈ zu m ts) (ua : ((u, a) : Tie) ∈ zu m ts) (va : ((v, a) : Tie) ∈ zu m ts) (ap : ((a, p) : Tie) ∈ zu m ts) (d1 : a ≠ t) (d2 : u ≠ v) (x y : Nat) (hx : 2 * ((x : Int) + (y : Int)) ≤ vAt h t) (q : 2 ≤ vAt h a + (vAt h u + (x : Int)) / 2 + (vAt h v + (y : Int)) / 2) : ∃ g, Beh (zu m ts) h g ∧ 1 ≤ vAt g p := by
  have i1 := yn ok _ tu
  have i2 := yn ok _ tv
  have i3 := yn ok _ ua
  have i4 := yn ok _ va
  have n1 : u ≠ t := fun z => i1.ne z.symm
  have n2 : v ≠ t := fun z => i2.ne z.symm
  have n3 : a ≠ u := fun z => i3.ne z.symm
  have n4 : a ≠ v := fun z => i4.ne z.symm
  have t0 : 0 ≤ t := i1.a0
  have u0 : 0 ≤ u := i1.b0
  have v0 : 0 ≤ v := i2.b0
  have a0 : 0 ≤ a := i3.b0
  obtain ⟨g1, b1, l1, e1⟩ := YV ok tu hl x (by dsimp only; omega)
  have f1 := e1 t t0
  have f2 := e1 u u0
  have f3 := e1 v v0
  have f4 := e1 a a0
  dsimp only at f1 f2 f3 f4
  rw [if_pos rfl, if_neg i1.ne] at f1
  rw [if_neg n1, if_pos rfl] at f2
  rw [if_neg n2, if_neg (fun z => d2 z.symm)] at f3
  rw [if_neg d1, if_neg n3] at f4
  obtain ⟨g2, b2, l2, e2⟩ := YV ok tv l1 y (by dsimp only; omega)
  have k2 := e2 u u0
  have k3 := e2 v v0
  have k4 := e2 a a0
  dsimp only at k2 k3 k4
  rw [if_neg n1, if_neg d2] at k2
  rw [if_neg n2, if_pos rfl] at k3
  rw [if_neg d1, if_neg n4] at k4
  have hg2 := ((b1.trans b2).ok (yn ok) ⟨by omega, hn, Int.le_refl _⟩).nn
  have hu := hg2 _ (Xn (h := g2) (i := u) u0 (by have := i1.b1; dsimp only at this; omega))
  obtain ⟨g3, b3, l3, e3⟩ := YV ok ua l2 (vAt g2 u / 2).toNat (by dsimp only; omega)
  have j3 := e3 v v0
  have j4 := e3 a a0
  dsimp only at j3 j4
  rw [if_neg (fun z => d2 z.symm), if_neg (fun z => n4 z.symm)] at j3
  rw [if_neg n3, if_pos rfl] at j4
  have hg3 := ((b1.trans (b2.trans b3)).ok (yn ok) ⟨by omega, hn, Int.le_refl _⟩).nn
  have tn : (((vAt g2 u / 2).toNat : Nat) : Int) = vAt g2 u / 2 := Int.toNat_of_nonneg (Int.ediv_nonneg hu (by decide))
  obtain ⟨g4, b4, q4⟩ := wm ok l3 hg3 va ap (zhY (k2.trans (by rw [f2])) (k4.trans (by rw [f4])) (k3.trans (by rw [f3])) (j4.trans (by rw [tn])) j3 q)
  exact ⟨g4, b1.trans (b2.trans (b3.trans b4)), q4⟩
end
theorem zjQ : ∀ (a b c : _root_.Fin 2) (u v w : _root_.Fin 4), a.val + b.val + c.val + u.val + v.val + w.val ≤ 8 →
    2 ≤ a.val + (u.val + 0) / 2 + (v.val + (8 - (a.val + b.val + c.val + u.val + v.val + w.val)) / 2) / 2 ∨ (1 ≤ (8 - (a.val + b.val + c.val + u.val + v.val + w.val)) / 2 ∧ 2 ≤ a.val + (u.val + 1) / 2 + (v.val + ((8 - (a.val + b.val + c.val + u.val + v.val + w.val)) / 2 - 1)) / 2) ∨
    2 ≤ b.val + (u.val + 0) / 2 + (w.val + (8 - (a.val + b.val + c.val + u.val + v.val + w.val)) / 2) / 2 ∨ (1 ≤ (8 - (a.val + b.val + c.val + u.val + v.val + w.val)) / 2 ∧ 2 ≤ b.val + (u.val + 1) / 2 + (w.val + ((8 - (a.val + b.val + c.val + u.val + v.val + w.val)) / 2 - 1)) / 2) ∨
    2 ≤ c.val + (v.val + 0) / 2 + (w.val + (8 - (a.val + b.val + c.val + u.val + v.val + w.val)) / 2) / 2 ∨ (1 ≤ (8 - (a.val + b.val + c.val + u.val + v.val + w.val)) / 2 ∧ 2 ≤ c.val + (v.val + 1) / 2 + (w.val + ((8 - (a.val + b.val + c.val + u.val + v.val + w.val)) / 2 - 1)) / 2) := by decide +kernel
set_option genInjectivity false in
set_option genSizeOf false in
set_option genCtorIdx false in
structure Q3 (m : Int) (ts : List Tie) (a b c u v w t p : Int) : Prop where
  tu : ((t, u) : Tie) ∈ zu m ts
  tv : ((t, v) : Tie) ∈ zu m ts
  tw : ((t, w) : Tie) ∈ zu m ts
  ua : ((u, a) : Tie) ∈ zu m ts
  ub : ((u, b) : Tie) ∈ zu m ts
  va : ((v, a) : Tie) ∈ zu m ts
  vc : ((v, c) : Tie) ∈ zu m ts
  wb : ((w, b) : Tie) ∈ zu m ts
  wc : ((w, c) : Tie) ∈ zu m ts
  ap : ((a, p) : Tie) ∈ zu m ts
  bp : ((b, p) : Tie) ∈ zu m ts
  cp : ((c, p) : Tie) ∈ zu m ts
  ne : a ≠ t ∧ b ≠ t ∧ c ≠ t ∧ u ≠ v ∧ u ≠ w ∧ v ≠ w
theorem zdd {A U V x y : Nat} (h : 2 ≤ A + (U + x) / 2 + (V + y) / 2) : (2 : Int) ≤ (A : Int) + ((U : Int) + (x : Int)) / 2 + ((V : Int) + (y : Int)) / 2 := by omega
theorem zkd {m : Int} {ts : List Tie} {h : Hl} {a b c u v w t p : Int} (ok : wC m ts) (hl : (h.length : Int) = m) (hn : ∀ x ∈ h, 0 ≤ x) (Q : Q3 m ts a b c u v w t p) (hs : vAt h a + vAt h b + vAt h c + vAt h u + vAt h v + vAt h w + vAt h t = 8) : ∃ g, Beh (zu m ts) h g ∧ 1 ≤ vAt g p := by
  have nn : ∀ {s : Tie}, s ∈ zu m ts → 0 ≤ vAt h s.1 := fun {s} hs => by
    have i := yn ok s hs
    exact hn _ (Xn i.a0 (by have := i.a1; omega))
  have ha := nn Q.ap
  have hb := nn Q.bp
  have hc := nn Q.cp
  have hu := nn Q.ua
  have hv := nn Q.va
  have hw := nn Q.wb
  have ht := nn Q.tu
  dsimp only at ha hb hc hu hv hw ht
  by_cases ca : 2 ≤ vAt h a
  · exact Xr ok hl hn Q.ap ca
  by_cases cb : 2 ≤ vAt h b
  · exact Xr ok hl hn Q.bp cb
  by_cases cc : 2 ≤ vAt h c
  · exact Xr ok hl hn Q.cp cc
  by_cases cu : 4 ≤ vAt h u
  · exact wm ok hl hn Q.ua Q.ap (by omega)
  by_cases cv : 4 ≤ vAt h v
  · exact wm ok hl hn Q.va Q.ap (by omega)
  by_cases cw : 4 ≤ vAt h w
  · exact wm ok hl hn Q.wb Q.bp (by omega)
  obtain ⟨A, hA⟩ := Int.eq_ofNat_of_zero_le ha
  obtain ⟨B, hB⟩ := Int.eq_ofNat_of_zero_le hb
  obtain ⟨C, hC⟩ := Int.eq_ofNat_of_zero_le hc
  obtain ⟨U, hU⟩ := Int.eq_ofNat_of_zero_le hu
  obtain ⟨V, hV⟩ := Int.eq_ofNat_of_zero_le hv
  obtain ⟨W, hW⟩ := Int.eq_ofNat_of_zero_le hw
  obtain ⟨T, hT⟩ := Int.eq_ofNat_of_zero_le ht
  rw [hA] at ca
  rw [hB] at cb
  rw [hC] at cc
  rw [hU] at cu
  rw [hV] at cv
  rw [hW] at cw
  rw [hA, hB, hC, hU, hV, hW, hT] at hs
  have F := zjQ ⟨A, by omega⟩ ⟨B, by omega⟩ ⟨C, by omega⟩ ⟨U, by omega⟩ ⟨V, by omega⟩ ⟨W, by omega⟩ (by show A + B + C + U + V + W ≤ 8; omega)
  dsimp only at F
  rw [show 8 - (A + B + C + U + V + W) = T by omega] at F
  obtain ⟨q, hq⟩ : ∃ q : Nat, T / 2 = q := ⟨_, rfl⟩
  rw [hq] at F
  have h2q : 2 * q ≤ T := by omega
  obtain ⟨d1, d2, d3, d4, d5, d6⟩ := Q.ne
  clear ha hb hc hu hv hw ht nn ca cb cc cu cv cw hs hq
  rcases F with F | ⟨F1, F⟩ | F | ⟨F1, F⟩ | F | ⟨F1, F⟩
  · exact YW ok hl hn Q.tu Q.tv Q.ua Q.va Q.ap d1 d4 0 q (by rw [hT]; omega) (by rw [hA, hU, hV]; exact zdd F)
  · exact YW ok hl hn Q.tu Q.tv Q.ua Q.va Q.ap d1 d4 1 (q - 1) (by rw [hT]; omega) (by rw [hA, hU, hV]; exact zdd F)
  · exact YW ok hl hn Q.tu Q.tw Q.ub Q.wb Q.bp d2 d5 0 q (by rw [hT]; omega) (by rw [hB, hU, hW]; exact zdd F)
  · exact YW ok hl hn Q.tu Q.tw Q.ub Q.wb Q.bp d2 d5 1 (q - 1) (by rw [hT]; omega) (by rw [hB, hU, hW]; exact zdd F)
  · exact YW ok hl hn Q.tv Q.tw Q.vc Q.wc Q.cp d3 d6 0 q (by rw [hT]; omega) (by rw [hC, hV, hW]; exact zdd F)
  · exact YW ok hl hn Q.tv Q.tw Q.vc Q.wc Q.cp d3 d6 1 (q - 1) (by rw [hT]; omega) (by rw [hC, hV, hW]; exact zdd F)
noncomputable def mC : Nat → Int
  | 0 => 1
  | 1 => 2
  | 2 => 4
  | _ => 8
noncomputable def tC : Nat → List Tie
  | 0 => []
  | 1 => [(0, 1)]
  | 2 => [(0, 1), (0, 2), (1, 3), (2, 3)]
  | _ => [(0, 1), (0, 2), (0, 4), (1, 3), (1, 5), (2, 3), (2, 6), (3, 7), (4, 5), (4, 6), (5, 7), (6, 7)]
theorem zfH {h : Hl} (hl : (h.length : Int) = 4) : ∃ x0 x1 x2 x3, h = [x0, x1, x2, x3] := by
  match h, hl with
  | [x0, x1, x2, x3], _ => exact ⟨_, _, _, _, rfl⟩
  | [], e => cases e
  | [_], e => exfalso; simp only [List.length_cons, List.length_nil] at e; omega
  | [_, _], e => exfalso; simp only [List.length_cons, List.length_nil] at e; omega
  | [_, _, _], e => exfalso; simp only [List.length_cons, List.length_nil] at e; omega
  | _ :: _ :: _ :: _ :: _ :: l, e => exfalso; simp only [List.length_cons] at e; omega
theorem zej {h : Hl} (hl : (h.length : Int) = 8) : ∃ x0 x1 x2 x3 x4 x5 x6 x7, h = [x0, x1, x2, x3, x4, x5, x6, x7] := by
  match h, hl with
  | [x0, x1, x2, x3, x4, x5, x6, x7], _ => exact ⟨_, _, _, _, _, _, _, _, rfl⟩
  | [], e => cases e
  | [_], e => exfalso; simp only [List.length_cons, List.length_nil] at e; omega
  | [_, _], e => exfalso; simp only [List.length_cons, List.length_nil] at e; omega
  | [_, _, _], e => exfalso; simp only [List.length_cons, List.length_nil] at e; omega
  | [_, _, _, _], e => exfalso; simp only [List.length_cons, List.length_nil] at e; omega
  | [_, _, _, _, _], e => exfalso; simp only [List.length_cons, List.length_nil] at e; omega
  | [_, _, _, _, _, _], e => exfalso; simp only [List.length_cons, List.length_nil] at e; omega
  | [_, _, _, _, _, _, _], e => exfalso; simp only [List.length_cons, List.length_nil] at e; omega
  | _ :: _ :: _ :: _ :: _ :: _ :: _ :: _ :: _ :: l, e => exfalso; simp only [List.length_cons] at e; omega
theorem okC : ∀ d : Nat, d ≤ 3 → wC (mC d) (tC d)
  | 0, _ => ⟨by decide, by decide, by decide, by decide⟩
  | 1, _ => ⟨by decide, by decide, by decide, by decide⟩
  | 2, _ => ⟨by decide, by decide, by decide, by decide⟩
  | 3, _ => ⟨by decide, by decide, by decide, by decide⟩
theorem zlE : ∀ p : Nat, p < 8 → Q3 8 (tC 3) ((p ^^^ 1 : Nat) : Int) ((p ^^^ 2 : Nat) : Int) ((p ^^^ 4 : Nat) : Int) ((p ^^^ 3 : Nat) : Int) ((p ^^^ 5 : Nat) : Int) ((p ^^^ 6 : Nat) : Int) ((p ^^^ 7 : Nat) : Int) (p : Int) := by
  intro p hp
  match p, hp with
  | 0, _ => exact ⟨by decide +kernel, by decide +kernel, by decide +kernel, by decide +kernel, by decide +kernel, by decide +kernel, by decide +kernel, by decide +kernel, by decide +kernel, by decide +kernel, by decide +kernel, by decide +kernel, by decide +kernel⟩
  | 1, _ => exact ⟨by decide +kernel, by decide +kernel, by decide +kernel, by decide +kernel, by decide +kernel, by decide +kernel, by decide +kernel, by decide +kernel, by decide +kernel, by decide +kernel, by decide +kernel, by decide +kernel, by decide +kernel⟩
  | 2, _ => exact ⟨by decide +kernel, by decide +kernel, by decide +kernel, by decide +kernel, by decide +kernel, by decide +kernel, by decide +kernel, by decide +kernel, by decide +kernel, by decide +kernel, by decide +kernel, by decide +kernel, by decide +kernel⟩
  | 3, _ => exact ⟨by decide +kernel, by decide +kernel, by decide +kernel, by decide +kernel, by decide +kernel, by decide +kernel, by decide +kernel, by decide +kernel, by decide +kernel, by decide +kernel, by decide +kernel, by decide +kernel, by decide +kernel⟩
  | 4, _ => exact ⟨by decide +kernel, by decide +kernel, by decide +kernel, by decide +kernel, by decide +kernel, by decide +kernel, by decide +kernel, by decide +kernel, by decide +kernel, by decide +kernel, by decide +kernel, by decide +kernel, by decide +kernel⟩
  | 5, _ => exact ⟨by decide +kernel, by decide +kernel, by decide +kernel, by decide +kernel, by decide +kernel, by decide +kernel, by decide +kernel, by decide +kernel, by decide +kernel, by decide +kernel, by decide +kernel, by decide +kernel, by decide +kernel⟩
  | 6, _ => exact ⟨by decide +kernel, by decide +kernel, by decide +kernel, by decide +kernel, by decide +kernel, by decide +kernel, by decide +kernel, by decide +kernel, by decide +kernel, by decide +kernel, by decide +kernel, by decide +kernel, by decide +kernel⟩
  | 7, _ => exact ⟨by decide +kernel, by decide +kernel, by decide +kernel, by decide +kernel, by decide +kernel, by decide +kernel, by decide +kernel, by decide +kernel, by decide +kernel, by decide +kernel, by decide +kernel, by decide +kernel, by decide +kernel⟩
theorem zdS (x0 x1 x2 x3 x4 x5 x6 x7 : Int) : ([x0, x1, x2, x3, x4, x5, x6, x7] : Hl).sum = x0 + x1 + x2 + x3 + x4 + x5 + x6 + x7 := by
  simp only [List.sum_cons, List.sum_nil]
  omega
theorem zfW : ∀ d : Nat, d ≤ 3 → ∀ {h : Hl} {p : Nat}, (h.length : Int) = mC d → (∀ x ∈ h, 0 ≤ x) → h.sum = mC d → (p : Int) < mC d → ∃ g, Beh (zu (mC d) (tC d)) h g ∧ 1 ≤ vAt g (p : Int)
  | 0, _, h, p, hl, hn, hs, hp => by
    match h, hl with
    | [x], _ =>
      have hp : p = 0 := by have : (p : Int) < 1 := hp; omega
      subst hp
      have hs : x + 0 = 1 := hs
      exact ⟨[x], .zero, by show 1 ≤ x; omega⟩
  | 1, _, h, p, hl, hn, hs, hp => by
    have ok := okC 1 (by decide)
    match h, hl with
    | [x, y], hl =>
      have hp : p = 0 ∨ p = 1 := by have : (p : Int) < 2 := hp; omega
      have hs : x + (y + 0) = 2 := hs
      have hx := hn x (.head _)
      have hy := hn y (.tail _ (.head _))
      rcases hp with rfl | rfl
      · by_cases c : 1 ≤ x
        · exact ⟨_, .zero, c⟩
        · exact Xr ok hl hn (show ((1, 0) : Tie) ∈ zu (mC 1) (tC 1) by decide +kernel) (show 2 ≤ y by omega)
      · by_cases c : 1 ≤ y
        · exact ⟨_, .zero, c⟩
        · exact Xr ok hl hn (show ((0, 1) : Tie) ∈ zu (mC 1) (tC 1) by decide +kernel) (show 2 ≤ x by omega)
  | 2, _, h, p, hl, hn, hs, hp => by
    have ok := okC 2 (by decide)
    obtain ⟨x0, x1, x2, x3, rfl⟩ := zfH hl
    have hp : p = 0 ∨ p = 1 ∨ p = 2 ∨ p = 3 := by have : (p : Int) < 4 := hp; omega
    have hs : x0 + (x1 + (x2 + (x3 + 0))) = 4 := hs
    have h0 := hn x0 (.head _)
    have h1 := hn x1 (.tail _ (.head _))
    have h2 := hn x2 (.tail _ (.tail _ (.head _)))
    have h3 := hn x3 (.tail _ (.tail _ (.tail _ (.head _))))
    rcases hp with rfl | rfl | rfl | rfl
    · by_cases c : 1 ≤ x0
      · exact ⟨_, .zero, c⟩
      · by_cases c1 : 2 ≤ x1 + x3 / 2
        · exact wm ok hl hn (show ((3, 1) : Tie) ∈ zu (mC 2) (tC 2) by decide +kernel) (show ((1, 0) : Tie) ∈ zu (mC 2) (tC 2) by decide +kernel) c1
        · exact wm ok hl hn (show ((3, 2) : Tie) ∈ zu (mC 2) (tC 2) by decide +kernel) (show ((2, 0) : Tie) ∈ zu (mC 2) (tC 2) by decide +kernel) (show 2 ≤ x2 + x3 / 2 by omega)
    · by_cases c : 1 ≤ x1
      · exact ⟨_, .zero, c⟩
      · by_cases c1 : 2 ≤ x0 + x2 / 2
        · exact wm ok hl hn (show ((2, 0) : Tie) ∈ zu (mC 2) (tC 2) by decide +kernel) (show ((0, 1) : Tie) ∈ zu (mC 2) (tC 2) by decide +kernel) c1
        · exact wm ok hl hn (show ((2, 3) : Tie) ∈ zu (mC 2) (tC 2) by decide +kernel) (show ((3, 1) : Tie) ∈ zu (mC 2) (tC 2) by decide +kernel) (show 2 ≤ x3 + x2 / 2 by omega)
    · by_cases c : 1 ≤ x2
      · exact ⟨_, .zero, c⟩
      · by_cases c1 : 2 ≤ x0 + x1 / 2
        · exact wm ok hl hn (show ((1, 0) : Tie) ∈ zu (mC 2) (tC 2) by decide +kernel) (show ((0, 2) : Tie) ∈ zu (mC 2) (tC 2) by decide +kernel) c1
        · exact wm ok hl hn (show ((1, 3) : Tie) ∈ zu (mC 2) (tC 2) by decide +kernel) (show ((3, 2) : Tie) ∈ zu (mC 2) (tC 2) by decide +kernel) (show 2 ≤ x3 + x1 / 2 by omega)
    · by_cases c : 1 ≤ x3
      · exact ⟨_, .zero, c⟩
      · by_cases c1 : 2 ≤ x1 + x0 / 2
        · exact wm ok hl hn (show ((0, 1) : Tie) ∈ zu (mC 2) (tC 2) by decide +kernel) (show ((1, 3) : Tie) ∈ zu (mC 2) (tC 2) by decide +kernel) c1
        · exact wm ok hl hn (show ((0, 2) : Tie) ∈ zu (mC 2) (tC 2) by decide +kernel) (show ((2, 3) : Tie) ∈ zu (mC 2) (tC 2) by decide +kernel) (show 2 ≤ x2 + x0 / 2 by omega)
  | 3, _, h, p, hl, hn, hs, hp => by
    have ok := okC 3 (by decide)
    have hp8 : p < 8 := by have : (p : Int) < 8 := hp; omega
    by_cases c : 1 ≤ vAt h (p : Int)
    · exact ⟨h, .zero, c⟩
    · have h0 := hn _ (Xn (h := h) (i := (p : Int)) (by omega) (by have : (p : Int) < 8 := hp; have : (h.length : Int) = 8 := hl; omega))
      refine zkd ok hl hn (zlE p hp8) ?_
      obtain ⟨x0, x1, x2, x3, x4, x5, x6, x7, rfl⟩ := zej hl
      have hs : ([x0, x1, x2, x3, x4, x5, x6, x7] : Hl).sum = 8 := hs
      rw [zdS] at hs
      match p, hp8 with
      | 0, _ => have c : ¬ 1 ≤ x0 := c; have h0 : 0 ≤ x0 := h0; show x1 + x2 + x4 + x3 + x5 + x6 + x7 = 8; omega
      | 1, _ => have c : ¬ 1 ≤ x1 := c; have h0 : 0 ≤ x1 := h0; show x0 + x3 + x5 + x2 + x4 + x7 + x6 = 8; omega
      | 2, _ => have c : ¬ 1 ≤ x2 := c; have h0 : 0 ≤ x2 := h0; show x3 + x0 + x6 + x1 + x7 + x4 + x5 = 8; omega
      | 3, _ => have c : ¬ 1 ≤ x3 := c; have h0 : 0 ≤ x3 := h0; show x2 + x1 + x7 + x0 + x6 + x5 + x4 = 8; omega
      | 4, _ => have c : ¬ 1 ≤ x4 := c; have h0 : 0 ≤ x4 := h0; show x5 + x6 + x0 + x7 + x1 + x2 + x3 = 8; omega
      | 5, _ => have c : ¬ 1 ≤ x5 := c; have h0 : 0 ≤ x5 := h0; show x4 + x7 + x1 + x6 + x0 + x3 + x2 = 8; omega
      | 6, _ => have c : ¬ 1 ≤ x6 := c; have h0 : 0 ≤ x6 := h0; show x7 + x4 + x2 + x5 + x3 + x0 + x1 = 8; omega
      | 7, _ => have c : ¬ 1 ≤ x7 := c; have h0 : 0 ≤ x7 := h0; show x6 + x5 + x3 + x4 + x2 + x1 + x0 = 8; omega
noncomputable def WM : SE → Ctl :=
  (zG (sIf (Ye (yi (tOf (eUn (ym .tuple) (zg 0)))) (yi (tOf (zn 1 yk (zb (eFn Yi (zb (zg 0) zp)) zp))))) (zV (eC (.bl false))) zC)
    (zG (sIf (tOf (zk zJ (zk ixD (zg 0) (eC (.int 0))) (eC .non))) (zV (eC (.bl false))) zC)
    (zV (eFn ziQ (zb (xy (fLC (Y2 XG (zb (eC (.int 1)) (zb (eFn Yi (zb (zg 0) zp)) zp))) b1 yM (zn 2 yw (zb (zg 0) (zb (zk ixD (zg 1) (zg 0)) zp))))) zp)))))
noncomputable def za3 : List D → Option D := fnD 1 WM
theorem zcU (T : Txt K mg ad) : yQ P w K mg base CX0 4 ad.f_is_over ad.e_is_over ["thing"] (@spD ⟨K⟩ 1 za3) := by
  letI : KK := ⟨K⟩
  have G_is_place_count := vF (P := P) (w := w) (base := base) T
  have G_is_place := Zz (P := P) (w := w) (base := base) T
  refine yo (N := ["thing"]) (ps := ["thing"]) T.d_is_over.fn zc2 (g := WM) fun cdv A outer s H E hr => ?_
  unfold WM
  exact (zc (yc (zcp (XT (yX (yH (zF .tuple rfl T.z_isinstance (edv 0) (yh (v := .ty "tuple") rfl T.z_tuple yg rfl)))) (YA (yX (yH (zi G_is_place_count hr rfl T.d_is_place_count (za (zI zM wk rfl T.z_len Yd (za (edv 0) zd)) zd))))))) (zh (zo (ve vf))) zv)
      (zc (yc (zE Yw vE (zy _) (zD (edv 0) (ze zf) (fun _ _ => rfl)) (wT wW)) (zh (zo (ve vf))) zv)
      (zh (zo (zI (zap rfl) zeH rfl T.z_all zhp (za (xb (We (L := ["place"]) (M := ["thing"]) rfl (Yx (by rfl) (by rfl) (by rfl) (by with_unfolding_all rfl) (by rfl) (by rfl) (by kernel_rfl) (all_cons rfl wH)) (zaP rfl T.z_range (za (ze zf) (za (zI zM wk rfl T.z_len Yd (za (edv 0) zd)) zd))) gs1 rb1 (fun _ _ _ _ => (zB (i := 0) zlK rfl (Or.inl rfl) (.inr rfl))) (fun _ _ _ _ => (zi G_is_place hr rfl T.d_is_place (za (edv 0) (za (zD (edv 1) (edv 0) (fun _ _ => rfl)) zd)))))) zd))))))
noncomputable def Zt : SE → Ctl :=
  (zG (sIf (Ye (yi (tOf (eUn (ym .tuple) (zg 0)))) (tOf (zk neD (eFn Yi (zb (zg 0) zp)) (eC (.int 2))))) (zV (eC (.bl false))) zC)
    (zG (xg false 1 (zk ixD (zg 0) (eC (.int 0))))
    (zG (sIf (yi (tOf (eUn (ym .str) (zg 1)))) (zV (eC (.bl false))) zC)
    (zG (sIf (tOf (zk ZQ (zg 1) (eC (.str "tree")))) (zV (zn 1 za3 (zb (zk ixD (zg 0) (eC (.int 1))) zp))) zC)
    (zV (vL (eUn (zhg ZI) (zg 1)) (zn 3 zA (zb (zk ixD (zg 0) (eC (.int 1))) (zb (eUn (zed ZI 0) (zg 1)) (zb (eUn (zed ZI 1) (zg 1)) zp))))))))))
noncomputable def Wi : List D → Option D := fnD 2 Zt
theorem zau (T : Txt K mg ad) : yQ P w K mg base CX0 5 ad.f_kind_good ad.e_kind_good ["thing"] (@spD ⟨K⟩ 1 Wi) := by
  letI : KK := ⟨K⟩
  have G_is_whole_within := yK (P := P) (w := w) (base := base) T
  have G_is_over := zcU (P := P) (w := w) (base := base) T
  refine yo (N := ["thing", "word"]) (ps := ["thing"]) T.d_kind_good.fn XC (g := Zt) fun cdv A outer s H E hr => ?_
  unfold Zt
  exact (zc (yc (zcp (XT (yX (yH (zF .tuple rfl T.z_isinstance (edv 0) (yh (v := .ty "tuple") rfl T.z_tuple yg rfl)))) (YA (zE Vo ZY (zy _) (zI zM wk rfl T.z_len Yd (za (edv 0) zd)) (ze zf))))) (zh (zo (ve vf))) zv)
      (zc (zR (m := false) (i := 1) XC.nd rfl (Or.inl rfl) (zD (edv 0) (ze zf) (fun _ _ => rfl)))
      (zc (yc (yX (yH (zF .str rfl T.z_isinstance (edv 1) (yh (v := .ty "str") rfl T.z_str zeG rfl)))) (zh (zo (ve vf))) zv)
      (zc (yc (zE (yT hr) yj (zy _) (edv 1) (Y5 Y8)) (zh (zo (zi G_is_over hr rfl T.d_is_over (za (zD (edv 0) (ze zf) (fun _ _ => rfl)) zd)))) zv)
      (zh (zo (wX (zgC T.b_SIZES rfl T.g_SIZES (edv 1)) (vC (zi G_is_whole_within hr rfl T.d_is_whole_within (za (zD (edv 0) (ze zf) (fun _ _ => rfl)) (za (zcy T.b_SIZES (by decide) rfl T.g_SIZES (edv 1) (fun _ _ => rfl)) (za (zcy T.b_SIZES (by decide) rfl T.g_SIZES (edv 1) (fun _ _ => rfl)) zd))))))))))))
noncomputable def Zp : SE → Ctl :=
  (zG (sIf (tOf (zk ZQ (zg 0) (eC (.str "cube")))) (zV (zk ixD (v9 (zb (eC (.int 1)) (zb (eC (.int 2)) (zb (eC (.int 4)) (zb (eC (.int 8)) zp))))) (zg 1))) zC)
    (zG (sIf (tOf (zk ZQ (zg 0) (eC (.str "star")))) (zV (zk Yg (zg 1) (eC (.int 1)))) zC)
    (zG (sIf (tOf (zk ZQ (zg 0) (eC (.str "tree")))) (zV (eFn Yi (zb (zg 1) zp))) zC)
    (zV (zg 1)))))
noncomputable def Wp : List D → Option D := fnD 2 Zp
theorem zaS (T : Txt K mg ad) : yQ P w K mg base CX0 1 ad.f_places_of ad.e_places_of ["word", "size"] (@spD ⟨K⟩ 2 Wp) := by
  letI : KK := ⟨K⟩
  refine yo (N := ["word", "size"]) (ps := ["word", "size"]) T.d_places_of.fn zba (g := Zp) fun cdv A outer s H E hr => ?_
  unfold Zp
  exact (zc (yc (zE (yT hr) yj (zy _) (edv 0) (Y5 Y8)) (zh (zo (zD (vz (za (ze zf) (za (ze zf) (za (ze zf) (za (ze zf) zd))))) (edv 1) (fun _ _ => rfl)))) zv)
      (zc (yc (zE (yT hr) yj (zy _) (edv 0) (Y5 Y8)) (zh (zo (yC (edv 1) (ze zf)))) zv)
      (zc (yc (zE (yT hr) yj (zy _) (edv 0) (Y5 Y8)) (zh (zo (zI zM wk rfl T.z_len Yd (za (edv 1) zd)))) zv)
      (zh (zo (edv 1))))))
noncomputable def Xt : SE → Ctl :=
  (zG (sIf (tOf (zk ZQ (zg 0) (eC (.str "row")))) (zV (zk ZQ (zg 3) (zk Yg (zg 2) (eC (.int 1))))) zC)
    (zG (sIf (tOf (zk ZQ (zg 0) (eC (.str "ring")))) (zV (eOr (zk ZQ (zg 3) (zk Yg (zg 2) (eC (.int 1)))) (vL (zk ZQ (zg 2) (eC (.int 0))) (zk ZQ (zg 3) (zk wM (zg 1) (eC (.int 1))))))) zC)
    (zG (sIf (tOf (zk ZQ (zg 0) (eC (.str "cube")))) (zV (zk inD (zk zlC (zg 2) (zg 3)) (v9 (zb (eC (.int 1)) (zb (eC (.int 2)) (zb (eC (.int 4)) zp)))))) zC)
    (zG (sIf (tOf (zk ZQ (zg 0) (eC (.str "star")))) (zV (zk ZQ (zg 2) (eC (.int 0)))) zC)
    (zG (sIf (tOf (zk ZQ (zg 0) (eC (.str "tree")))) (zV (zk ZQ (zk ixD (zg 1) (zg 3)) (zg 2))) zC)
    (zV (eC (.bl true))))))))
noncomputable def Vi : List D → Option D := fnD 4 Xt
theorem zbj (T : Txt K mg ad) : yQ P w K mg base CX0 1 ad.f_are_tied ad.e_are_tied ["word", "size", "one", "other"] (@spD ⟨K⟩ 4 Vi) := by
  letI : KK := ⟨K⟩
  refine yo (N := ["word", "size", "one", "other"]) (ps := ["word", "size", "one", "other"]) T.d_are_tied.fn zbk (g := Xt) fun cdv A outer s H E hr => ?_
  unfold Xt
  exact (zc (yc (zE (yT hr) yj (zy _) (edv 0) (Y5 Y8)) (zh (zo (xS (yT hr) yj (zy _) (edv 3) (yC (edv 2) (ze zf))))) zv)
      (zc (yc (zE (yT hr) yj (zy _) (edv 0) (Y5 Y8)) (zh (zo (zlb (xS (yT hr) yj (zy _) (edv 3) (yC (edv 2) (ze zf))) (vC (wX (xS (yT hr) yj (zy _) (edv 2) (ze zf)) (vC (xS (yT hr) yj (zy _) (edv 3) (vI (edv 1) (ze zf))))))))) zv)
      (zc (yc (zE (yT hr) yj (zy _) (edv 0) (Y5 Y8)) (zh (zo (xS (zhq hr) zhk (by with_unfolding_all rfl) (zg0 (edv 2) (edv 3)) (vz (za (ze zf) (za (ze zf) (za (ze zf) zd))))))) zv)
      (zc (yc (zE (yT hr) yj (zy _) (edv 0) (Y5 Y8)) (zh (zo (xS (yT hr) yj (zy _) (edv 2) (ze zf)))) zv)
      (zc (yc (zE (yT hr) yj (zy _) (edv 0) (Y5 Y8)) (zh (zo (xS (yT hr) yj (zy _) (zD (edv 1) (edv 3) (fun _ _ => rfl)) (edv 2)))) zv)
      (zh (zo (ve vf))))))))
noncomputable def Ws : SE → Ctl :=
  (XR 4 (xy (fLC (Y2 XG (zb (zk Yg (zg 5) (eC (.int 1))) (zb (zg 3) zp))) b1 (tOf (zn 4 Vi (zb (zg 2) (zb (zg 3) (zb (zg 6) (zb (zg 0) zp)))))) (v9 (zb (zg 6) (zb (zg 0) zp))))))
noncomputable def Wv : SE → Ctl :=
  (zG (sIf (yi (tOf (zn 1 Wi (zb (zg 0) zp)))) sNo zC)
    (zG (xg false 1 (zk ixD (zg 0) (eC (.int 0))))
    (zG (xg false 2 (zk ixD (zg 0) (eC (.int 1))))
    (zG (xg false 3 (zn 2 Wp (zb (zg 1) (zb (zg 2) zp))))
    (zG (Yr 4 (zY zp))
    (zG (xa wY (zb (zg 3) zp) (yf 5) Ws)
    (sFz 4 (zV (v9 (zb (zg 3) (zb (eFn zT (zb (zg 4) zp)) zp)))))))))))
noncomputable def zaA : List D → Option D := fnD 6 Wv
theorem zde (T : Txt K mg ad) : yQ P w K mg base CX0 6 ad.f_web_for ad.e_web_for ["kind"] (@spD ⟨K⟩ 1 zaA) := by
  letI : KK := ⟨K⟩
  have G_kind_good := zau (P := P) (w := w) (base := base) T
  have G_places_of := zaS (P := P) (w := w) (base := base) T
  have G_are_tied := zbj (P := P) (w := w) (base := base) T
  refine yo (N := ["kind", "word", "size", "many", "ties", "one"]) (ps := ["kind"]) T.d_web_for.fn wz (g := Wv) fun cdv A outer s H E hr => ?_
  unfold Wv Ws
  exact (zc (yc (yX (yH (zi G_kind_good hr rfl T.d_kind_good (za (edv 0) zd)))) (zh v7) zv)
      (zc (zR (m := false) (i := 1) wz.nd rfl (Or.inr rfl) (zD (edv 0) (ze zf) (fun _ _ => rfl)))
      (zc (zR (m := false) (i := 2) wz.nd rfl (Or.inr rfl) (zD (edv 0) (ze zf) (fun _ _ => rfl)))
      (zc (zR (m := false) (i := 3) wz.nd rfl (Or.inl rfl) (zi G_places_of hr rfl T.d_places_of (za (edv 1) (za (edv 2) zd))))
      (zc (Y4 (i := 4) wz.nd rfl (Or.inl rfl) (yL zd))
      (zc (YX PassesOwn.never rfl rfl T.z_range (za (edv 3) zd) (zS (zB (i := 5) wz.nd rfl (Or.inr rfl))) (zh (zgT (pv 4) (xb (zch (L := ["other"]) (M := ["kind", "word", "size", "many", "ties", "one"]) rfl (Yx (by rfl) (by rfl) (by rfl) (by with_unfolding_all rfl) (by rfl) (by rfl) (by kernel_rfl) (all_cons rfl (all_cons rfl (all_cons rfl wH)))) (zaP rfl T.z_range (za (yC (edv 5) (ze zf)) (za (edv 3) zd))) gs1 rb1 (fun _ _ _ _ => (zB (i := 0) zlM rfl (Or.inl rfl) (.inr rfl))) (fun _ _ _ _ => (yH (zi G_are_tied hr rfl T.d_are_tied (za (edv 2) (za (edv 3) (za (edv 6) (za (edv 0) zd))))))) (fun _ _ _ _ => (vz (za (edv 6) (za (edv 0) zd)))))) (fun a b => zcX PySem.F.plainAttrs_list PySem.F.slot_list_extend PySem.F.type_list_extend zal a b))))
      (Y9 4 (zh (zo (vz (za (edv 3) (za (yY zW xx rfl T.z_tuple yg (za (edv 4) zd)) zd))))))))))))
noncomputable def we : SE → Ctl :=
  (zG (Yk (zn 3 y6 (zb (zg 0) (zb (eC (.int 0)) (zb (eC (.int 3)) zp)))))
    (zV (zn 1 zaA (zb (v9 (zb (eC (.str "cube")) (zb (zg 0) zp))) zp))))
noncomputable def yF : List D → Option D := fnD 1 we
theorem zea : ∀ d : Nat, d ≤ 3 → yF [.int (d : Int)] = some (xQ (mC d) (tC d))
  | 0, _ => by kernel_rfl
  | 1, _ => by kernel_rfl
  | 2, _ => by kernel_rfl
  | 3, _ => by kernel_rfl
theorem xK (T : Txt K mg ad) : yQ P w K mg base CX0 7 ad.f_cube_of_digits ad.e_cube_of_digits ["d"] (@spD ⟨K⟩ 1 yF) := by
  letI : KK := ⟨K⟩
  have G_must_be_within := vB (P := P) (w := w) (base := base) T
  have G_web_for := zde (P := P) (w := w) (base := base) T
  refine yo (N := ["d"]) (ps := ["d"]) T.d_cube_of_digits.fn Xl (g := we) fun cdv A outer s H E hr => ?_
  unfold we
  exact (zc (vk (zi G_must_be_within hr rfl T.d_must_be_within (za (edv 0) (za (ze zf) (za (ze zf) zd)))))
      (zh (zo (zi G_web_for hr rfl T.d_web_for (za (vz (za (Y5 Y8) (za (edv 0) zd))) zd)))))
noncomputable def Zv : SE → Ctl :=
  (zV (zk ixD (zn 1 yF (zb (zg 0) zp)) (eC (.int 0))))
noncomputable def Zk : List D → Option D := fnD 1 Zv
theorem zat : ∀ d : Nat, d ≤ 3 → Zk [.int (d : Int)] = some (.int (mC d))
  | 0, _ => by kernel_rfl
  | 1, _ => by kernel_rfl
  | 2, _ => by kernel_rfl
  | 3, _ => by kernel_rfl
theorem zaT (T : Txt K mg ad) : yQ P w K mg base CX0 8 ad.f_cube_need ad.e_cube_need ["d"] (@spD ⟨K⟩ 1 Zk) := by
  letI : KK := ⟨K⟩
  have G_cube_of_digits := xK (P := P) (w := w) (base := base) T
  refine yo (N := ["d"]) (ps := ["d"]) T.d_cube_need.fn za4 (g := Zv) fun cdv A outer s H E hr => ?_
  unfold Zv
  exact (zh (zo (zD (zi G_cube_of_digits hr rfl T.d_cube_of_digits (za (edv 0) zd)) (ze zf) (fun _ _ => rfl))))
noncomputable def YO : SE → Ctl :=
  (zG (xg false 2 (zn 1 yF (zb (zg 0) zp)))
    (zG (Yk (zn 2 yb (zb (zg 2) (zb (zg 1) zp))))
    (zG (xg false 3 (zk wM (zk ixD (zg 2) (eC (.int 0))) (eC (.int 1))))
    (zV (eFn zT (zb (xy (fLC (Y2 wY (zb (zk ixD (zg 2) (eC (.int 0))) zp)) b1 yM (eIf (tOf (zk ZQ (zg 0) (zk zlC (zg 4) (zg 2)))) (zg 4) (eC (.int 0))))) zp))))))
noncomputable def Yp : List D → Option D := fnD 4 YO
noncomputable def zc1 (M p : Int) : Hl := (List.range M.toNat).map fun k : Nat => if (k : Int) = M - 1 - p then M - 1 else 0
theorem zaf : ∀ d p : Nat, d ≤ 3 → (p : Int) < mC d → Yp [.int (d : Int), .int (p : Int)] = some (hD (zc1 (mC d) (p : Int)))
  | 0, 0, _, _ => by kernel_rfl
  | 1, 0, _, _ => by kernel_rfl
  | 1, 1, _, _ => by kernel_rfl
  | 2, 0, _, _ => by kernel_rfl
  | 2, 1, _, _ => by kernel_rfl
  | 2, 2, _, _ => by kernel_rfl
  | 2, 3, _, _ => by kernel_rfl
  | 3, 0, _, _ => by kernel_rfl
  | 3, 1, _, _ => by kernel_rfl
  | 3, 2, _, _ => by kernel_rfl
  | 3, 3, _, _ => by kernel_rfl
  | 3, 4, _, _ => by kernel_rfl
  | 3, 5, _, _ => by kernel_rfl
  | 3, 6, _, _ => by kernel_rfl
  | 3, 7, _, _ => by kernel_rfl
  | 0, p + 1, _, h => by have h : ((p + 1 : Nat) : Int) < 1 := h; omega
  | 1, p + 2, _, h => by have h : ((p + 2 : Nat) : Int) < 2 := h; omega
  | 2, p + 4, _, h => by have h : ((p + 4 : Nat) : Int) < 4 := h; omega
  | 3, p + 8, _, h => by have h : ((p + 8 : Nat) : Int) < 8 := h; omega
theorem VA (T : Txt K mg ad) : yQ P w K mg base CX0 8 ad.f_cube_worst ad.e_cube_worst ["d", "place"] (@spD ⟨K⟩ 2 Yp) := by
  letI : KK := ⟨K⟩
  have G_must_be_place := xY (P := P) (w := w) (base := base) T
  have G_cube_of_digits := xK (P := P) (w := w) (base := base) T
  refine yo (N := ["d", "place", "web", "most"]) (ps := ["d", "place"]) T.d_cube_worst.fn vT (g := YO) fun cdv A outer s H E hr => ?_
  unfold YO
  exact (zc (zR (m := false) (i := 2) vT.nd rfl (Or.inl rfl) (zi G_cube_of_digits hr rfl T.d_cube_of_digits (za (edv 0) zd)))
      (zc (vk (zi G_must_be_place hr rfl T.d_must_be_place (za (edv 2) (za (edv 1) zd))))
      (zc (zR (m := false) (i := 3) vT.nd rfl (Or.inr rfl) (vI (zD (edv 2) (ze zf) (fun _ _ => rfl)) (ze zf)))
      (zh (zo (yY zW xx rfl T.z_tuple yg (za (xb (We (L := ["other"]) (M := ["d", "place", "web", "most"]) rfl (Yx (by rfl) (by rfl) (by rfl) (by with_unfolding_all rfl) (by rfl) (by rfl) (by kernel_rfl) (all_cons rfl (all_cons rfl wH))) (ZB rfl T.z_range (za (zD (edv 2) (ze zf) (fun _ _ => rfl)) zd)) gs1 rb1 (fun _ _ _ _ => (zB (i := 0) zkZ rfl (Or.inl rfl) (.inr rfl))) (fun _ _ _ _ => (zlG (zE (yT hr) yj (zy _) (edv 0) (zg0 (edv 4) (edv 2))) (edv 4) (ze zf))))) zd)))))))
noncomputable def Yy : SE → Ctl :=
  (Zj true 2 (eFn zbu (zb (zg 3) (zb (zk wM (zg 1) (eFn zcZ (zb (zg 2) zp))) zp))))
noncomputable def vy : SE → Ctl :=
  (zG (Yr 2 (zY zp))
    (zG (Yh (iOf (zg 0)) (yf 3) Yy)
    (sFz 2 (zV (eFn zT (zb (zg 2) zp))))))
noncomputable def Xu : List D → Option D := fnD 4 vy
theorem zdO (ts : Hl) (y : Int) (j : Nat) : (ts ++ [y]).getD j 0 = if j < ts.length then ts.getD j 0 else if j = ts.length then y else 0 := by
  rw [List.getD_eq_getElem?_getD]
  by_cases c : j < ts.length
  · rw [if_pos c, List.getElem?_append_left c, List.getD_eq_getElem?_getD]
  · rw [if_neg c, List.getElem?_append_right (by omega)]
    by_cases c2 : j = ts.length
    · rw [if_pos c2, c2, Nat.sub_self]; rfl
    · rw [if_neg c2, List.getElem?_eq_none (by simp; omega)]; rfl
set_option genInjectivity false in
set_option genSizeOf false in
set_option genCtorIdx false in
structure Les (M : Int) (h ts : Hl) (i : Nat) : Prop where
  len : ts.length = i
  sum : ts.sum ≤ M
  pt : ∀ j, 0 ≤ ts.getD j 0 ∧ ts.getD j 0 ≤ h.getD j 0
  or : ts.sum = M ∨ ts = h.take i
theorem zdQ {h : Hl} (hn : ∀ v ∈ h, 0 ≤ v) (j : Nat) : 0 ≤ h.getD j 0 := by
  rw [List.getD_eq_getElem?_getD]
  cases e : h[j]? with
  | none => exact Int.le_refl _
  | some x => exact hn x (List.mem_of_getElem? e)
theorem Les.add {M : Int} {h ts : Hl} {i : Nat} {x y : Int} (L : Les M h ts i) (hn : ∀ v ∈ h, 0 ≤ v) (hx : h[i]? = some x) (hy : (if M - ts.sum < x then M - ts.sum else x) = y) : Les M h (ts ++ [y]) (i + 1) := by
  have hxn := hn x (List.mem_of_getElem? hx)
  have hgx : h.getD i 0 = x := by rw [List.getD_eq_getElem?_getD, hx]; rfl
  have hs := L.sum
  have hy2 : 0 ≤ y ∧ y ≤ x ∧ ts.sum + y ≤ M := by rw [← hy]; split <;> omega
  have es : (ts ++ [y]).sum = ts.sum + y := by simp
  refine ⟨by rw [List.length_append, L.len]; rfl, by omega, fun j => ?_, ?_⟩
  · rw [zdO, L.len]
    have hj := L.pt j
    by_cases c : j < i
    · rw [if_pos c]; exact hj
    · rw [if_neg c]
      by_cases c2 : j = i
      · rw [if_pos c2, c2, hgx]; omega
      · rw [if_neg c2]; exact ⟨Int.le_refl _, zdQ hn j⟩
  · rw [es]
    by_cases c : M - ts.sum < x
    · left
      rw [if_pos c] at hy
      omega
    · rw [if_neg c] at hy
      subst hy
      rcases L.or with e | e
      · left; omega
      · right
        rw [List.take_add_one, hx, ← e]
        rfl
theorem zbo {M : Int} {h : Hl} (h0 : 0 ≤ M) (hn : ∀ v ∈ h, 0 ≤ v) (hl : h.length ≤ 8) (hs : M ≤ h.sum) : ∃ t : Hl, Xu [hD h, .int M] = some (hD t) ∧ t.length = h.length ∧ (∀ v ∈ t, 0 ≤ v) ∧ t.sum = M ∧ ∀ y, 0 ≤ y → vAt t y ≤ vAt h y := by
  have key := zeu (m := 4) (g := vy) (ds := [hD h, .int M]) (R := fun d => ∃ t : Hl, d = hD t ∧ t.length = h.length ∧ (∀ v ∈ t, 0 ≤ v) ∧ t.sum = M ∧ ∀ y, 0 ≤ y → vAt t y ≤ vAt h y) (ρ := [.v (hD h), .v (.int M), .no, .no]) rfl ?_
  · obtain ⟨d, e, t, rfl, h⟩ := key
    exact ⟨t, e, h⟩
  unfold vy
  refine zx (ρ' := [.v (hD h), .v (.int M), .o (([] : Hl).map .int), .no]) rfl ?_
  refine xm (W4 (ds := h.map .int) (fun i ρ => ∃ (ts : Hl) (o3 : Sl), ρ = [.v (hD h), .v (.int M), .o (ts.map .int), o3] ∧ Les M h ts i) rfl ⟨[], _, rfl, ⟨rfl, h0, fun j => ⟨by simp, by simpa using zdQ hn j⟩, .inr rfl⟩⟩ ?_ ?_)
  · rintro i d ρ hd ⟨ts, o3, rfl, L⟩
    rw [List.getElem?_map] at hd
    obtain ⟨x, hx, rfl⟩ := Option.map_eq_some_iff.mp hd
    refine ⟨_, rfl, ?_⟩
    unfold Yy
    obtain ⟨y, hy⟩ : ∃ y, (if M - ts.sum < x then M - ts.sum else x) = y := ⟨_, rfl⟩
    have hil : i < h.length := (List.getElem?_eq_some_iff.mp hx).1
    have hL := L.len
    refine Z4 (zg2 (m := true) (ds := ts.map .int) (d := .int y) ?_ rfl (by rw [List.length_map]; omega)) ⟨ts ++ [y], .v (.int x), ?_, L.add hn hx hy⟩
    · show (Option.bind (eFn zbu (zb (zg 3) (zb (zk wM (zg 1) (eFn zcZ (zb (zg 2) zp))) zp)) (visG [.v (hD h), .v (.int M), .o (ts.map .int), .v (.int x)])) fun d => if noL d = true then some d else none) = _
      rw [show eFn zbu (zb (zg 3) (zb (zk wM (zg 1) (eFn zcZ (zb (zg 2) zp))) zp)) (visG [.v (hD h), .v (.int M), .o (ts.map .int), .v (.int x)]) = some (.int y) from zbe (ds := [.int x, .int (M - ts.sum)]) (zL rfl (zL (zH (x := .int M) (y := .int ts.sum) rfl (zbe (ds := [.lst (ts.map .int)]) rfl (zgr ts)) rfl) wN)) (by show some (D.int (if M - ts.sum < x then M - ts.sum else x)) = _; rw [hy])]
      rfl
    · rw [List.map_append]; rfl
  · rintro ρ ⟨ts, o3, rfl, L⟩
    have hL := L.len
    rw [List.length_map] at hL
    refine zhv (ρ' := [.v (hD h), .v (.int M), .v (.lst (ts.map .int)), o3]) rfl (XA rfl ⟨ts, rfl, hL, fun v hv => ?_, ?_, fun y _ => (L.pt y.toNat).2⟩)
    · obtain ⟨j, hj, rfl⟩ := List.getElem_of_mem hv
      have := (L.pt j).1
      rw [List.getD_eq_getElem?_getD, List.getElem?_eq_getElem hj] at this
      exact this
    · rcases L.or with e | e
      · exact e
      · rw [List.length_map, List.take_length] at e
        have := L.sum
        rw [e] at this ⊢
        omega
theorem zbJ (T : Txt K mg ad) : yQ P w K mg base CX0 1 ad.f_lessened ad.e_lessened ["heap", "stones"] (@spD ⟨K⟩ 2 Xu) := by
  letI : KK := ⟨K⟩
  refine yo (N := ["heap", "stones", "taken", "many"]) (ps := ["heap", "stones"]) T.d_lessened.fn Zh (g := vy) fun cdv A outer s H E hr => ?_
  unfold vy Yy
  exact (zc (Y4 (i := 2) Zh.nd rfl (Or.inl rfl) (yL zd))
      (zc (vH PassesOwn.never rfl (wS (edv 0)) (zS (zB (i := 3) Zh.nd rfl (Or.inl rfl))) (zh (zcn (m := true) (pv 2) (zI (WK rfl) VF rfl T.z_min zce (za (edv 3) (za (vI (edv 1) (zI (vJ rfl) Xb rfl T.z_sum Vm (za (edv 2) zd))) zd))) (fun a b => zcX PySem.F.plainAttrs_list PySem.F.slot_list_append PySem.F.type_list_append ZF a b))))
      (Y9 2 (zh (zo (yY zW xx rfl T.z_tuple yg (za (edv 2) zd)))))))
noncomputable def xT : SE → Ctl :=
  (zG (xg false 3 (zn 1 yF (zb (zg 0) zp)))
    (zG (Yk (zn 2 yI (zb (zg 3) (zb (zg 1) zp))))
    (zG (Yk (zn 2 yb (zb (zg 3) (zb (zg 2) zp))))
    (zG (sIf (tOf (zk ltD (eFn zcZ (zb (zg 1) zp)) (zk ixD (zg 3) (eC (.int 0))))) sNo zC)
    (zG (sIf (tOf (zk gtD (zk ixD (zg 1) (zg 2)) (eC (.int 0)))) (zV (xy (zY zp))) zC)
    (zV (zn 4 zbH (zb (zg 3) (zb (zn 2 Xu (zb (zg 1) (zb (zk ixD (zg 3) (eC (.int 0))) zp))) (zb (zg 2) (zb (eC (.int 1)) zp)))))))))))
noncomputable def Yl : List D → Option D := fnD 4 xT
theorem zgd : ∀ d : Nat, d ≤ 3 → cH (mC d).toNat (mC d).toNat < 20000
  | 0, _ => by decide +kernel
  | 1, _ => by decide +kernel
  | 2, _ => by decide +kernel
  | 3, _ => by decide +kernel
theorem zii : ∀ d : Nat, d ≤ 3 → 1 ≤ mC d ∧ mC d ≤ 8
  | 0, _ => by decide
  | 1, _ => by decide
  | 2, _ => by decide
  | 3, _ => by decide
theorem Vq {d p : Nat} {h : Hl} (hd : d ≤ 3) (hl : (h.length : Int) = mC d) (hn : ∀ v ∈ h, 0 ≤ v) (hs : mC d ≤ h.sum) (h3 : h.sum ≤ 300) (hp : (p : Int) < mC d) :
    ∃ ss : List Tie, Yl [.int (d : Int), hD h, .int (p : Int)] = some (.lst (ss.map zm)) ∧ (0 < vAt h (p : Int) → ss = []) ∧ ∃ g, Pth (tC d) h ss g ∧ 0 < vAt g (p : Int) := by
  have ok := okC d hd
  obtain ⟨m1, m8⟩ := zii d hd
  have hpr : 0 ≤ (p : Int) ∧ (p : Int) < mC d := ⟨by omega, hp⟩
  obtain ⟨t, et, tl, tn, ts, tle⟩ := zbo (M := mC d) (h := h) (by omega) hn (by omega) hs
  have hc : cH (mC d).toNat t.sum.toNat < sizeLine := by
    rw [ts]
    exact Nat.lt_trans (zgd d hd) (by decide)
  obtain ⟨dd, er, hr⟩ := zdf (n := 1) ok (show (t.length : Int) = mC d by rw [tl]; exact hl) tn (by omega) hc hpr (by decide) (by decide)
  by_cases c : 0 < vAt h (p : Int)
  · refine ⟨[], ?_, fun _ => rfl, h, Pth.nil _ _, c⟩
    refine Vy (ρ := [.v (.int (d : Int)), .v (hD h), .v (.int (p : Int)), .no]) rfl ?_
    unfold xT
    refine zx (ρ' := [.v (.int (d : Int)), .v (hD h), .v (.int (p : Int)), .v (xQ (mC d) (tC d))]) (Ys (ds := [_]) rfl (zea d hd)) ?_
    refine zx (vp (WR ok hl hn h3)) ?_
    refine zx (vp (Xj (ts := tC d) hpr)) ?_
    refine xm (W0 (c := false) (Xa (zH (x := .int h.sum) (y := .int (mC d)) (zbe (ds := [hD h]) rfl (WS h)) (zH (x := xQ (mC d) (tC d)) (y := .int 0) rfl rfl rfl) (by show some (D.bl (decide (h.sum < mC d))) = _; rw [decide_eq_false (by omega)]))) (fun z => by cases z) (fun _ => Z4 rfl ?_))
    exact xm (W0 (c := true) (Xa (zH (x := .int (vAt h (p : Int))) (y := .int 0) (zH (x := hD h) (y := .int (p : Int)) rfl rfl (wv hpr.1 (by omega))) rfl (by show some (D.bl (decide (0 < vAt h (p : Int)))) = _; rw [decide_eq_true c]))) (fun _ => XA rfl rfl) (fun z => by cases z))
  · rcases hr with ⟨ss, g, rfl, hg, hgn, hpt, _⟩ | ⟨_, hno⟩
    · obtain ⟨g', q1, q2⟩ := hpt.go.up ok hpt.tie h (by rw [tl]; exact hl) hl tle
      refine ⟨ss, ?_, fun z => absurd z c, g', ⟨hpt.tie, q1⟩, by have := q2 (p : Int) hpr.1; omega⟩
      refine Vy (ρ := [.v (.int (d : Int)), .v (hD h), .v (.int (p : Int)), .no]) rfl ?_
      unfold xT
      refine zx (ρ' := [.v (.int (d : Int)), .v (hD h), .v (.int (p : Int)), .v (xQ (mC d) (tC d))]) (Ys (ds := [_]) rfl (zea d hd)) ?_
      refine zx (vp (WR ok hl hn h3)) ?_
      refine zx (vp (Xj (ts := tC d) hpr)) ?_
      refine xm (W0 (c := false) (Xa (zH (x := .int h.sum) (y := .int (mC d)) (zbe (ds := [hD h]) rfl (WS h)) (zH (x := xQ (mC d) (tC d)) (y := .int 0) rfl rfl rfl) (by show some (D.bl (decide (h.sum < mC d))) = _; rw [decide_eq_false (by omega)]))) (fun z => by cases z) (fun _ => Z4 rfl ?_))
      refine xm (W0 (c := false) (Xa (zH (x := .int (vAt h (p : Int))) (y := .int 0) (zH (x := hD h) (y := .int (p : Int)) rfl rfl (wv hpr.1 (by omega))) rfl (by show some (D.bl (decide (0 < vAt h (p : Int)))) = _; rw [decide_eq_false c]))) (fun z => by cases z) (fun _ => Z4 rfl ?_))
      exact XA (Zi (ye (ds := [xQ (mC d) (tC d), hD t, .int (p : Int), .int 1]) (zL rfl (zL (ye (ds := [hD h, .int (mC d)]) (zL rfl (zL (zH (x := xQ (mC d) (tC d)) (y := .int 0) rfl rfl rfl) wN)) et) (zL rfl (zL rfl wN)))) er)) rfl
    · exfalso
      obtain ⟨g, hg, h1⟩ := zfW d hd (h := t) (p := p) (by rw [tl]; exact hl) tn ts hp
      exact hno g hg h1
theorem Vu (T : Txt K mg ad) : yQ P w K mg base CX0 10 ad.f_cube_steps ad.e_cube_steps ["d", "heap", "place"] (@spD ⟨K⟩ 3 Yl) := by
  letI : KK := ⟨K⟩
  have G_must_be_place := xY (P := P) (w := w) (base := base) T
  have G_must_be_heap := Yj (P := P) (w := w) (base := base) T
  have G_reach := zf2 (P := P) (w := w) (base := base) T
  have G_cube_of_digits := xK (P := P) (w := w) (base := base) T
  have G_lessened := zbJ (P := P) (w := w) (base := base) T
  refine yo (N := ["d", "heap", "place", "web"]) (ps := ["d", "heap", "place"]) T.d_cube_steps.fn ZG (g := xT) fun cdv A outer s H E hr => ?_
  unfold xT
  exact (zc (zR (m := false) (i := 3) ZG.nd rfl (Or.inl rfl) (zi G_cube_of_digits hr rfl T.d_cube_of_digits (za (edv 0) zd)))
      (zc (vk (zi G_must_be_heap hr rfl T.d_must_be_heap (za (edv 3) (za (edv 1) zd))))
      (zc (vk (zi G_must_be_place hr rfl T.d_must_be_place (za (edv 3) (za (edv 2) zd))))
      (zc (yc (zE zig zU (zy _) (zI (vJ rfl) Xb rfl T.z_sum Vm (za (edv 1) zd)) (zD (edv 3) (ze zf) (fun _ _ => rfl))) (zh v7) zv)
      (zc (yc (zE VS zU (zy _) (zD (edv 1) (edv 2) (fun _ _ => rfl)) (ze zf)) (zh (zo (xb (yL zd)))) zv)
      (zh (zo (zi G_reach hr rfl T.d_reach (za (edv 3) (za (zi G_lessened hr rfl T.d_lessened (za (edv 1) (za (zD (edv 3) (ze zf) (fun _ _ => rfl)) zd))) (za (edv 2) (za (ze zf) zd))))))))))))
noncomputable def ZO : SE → Ctl :=
  (sIf (tOf (zk ZQ (zk wO (zk xA (zg 2) (zg 3)) (eC (.int 2))) (eC (.int 0)))) (Zj false 1 (v9 (zb (zg 2) (zb (zk Yg (zg 2) (zg 3)) zp)))) zC)
noncomputable def Z0 : SE → Ctl :=
  (Yh (iOf (eSl slD (xy (zY (zb (eC (.int 1)) (zb (eC (.int 2)) (zb (eC (.int 4)) zp))))) wD (xz (zg 0)))) (yf 3) ZO)
noncomputable def Zs : SE → Ctl :=
  (zG (Yr 1 (zY zp))
    (zG (xa wY (zb (zk ixD (xy (zY (zb (eC (.int 1)) (zb (eC (.int 2)) (zb (eC (.int 4)) (zb (eC (.int 8)) zp)))))) (zg 0)) zp) (yf 2) Z0)
    (sFz 1 (zV (v9 (zb (zk ixD (xy (zY (zb (eC (.int 1)) (zb (eC (.int 2)) (zb (eC (.int 4)) (zb (eC (.int 8)) zp)))))) (zg 0)) (zb (eFn zT (zb (xy (fFn zco (zb (zg 1) zp))) zp)) zp)))))))
noncomputable def xG : List D → Option D := fnD 4 Zs
theorem Wc : ∀ d : Nat, d ≤ 3 → xG [.int (d : Int)] = some (xQ (mC d) (tC d))
  | 0, _ => by kernel_rfl
  | 1, _ => by kernel_rfl
  | 2, _ => by kernel_rfl
  | 3, _ => by kernel_rfl
theorem Xw (T : Txt K mg ad) : yQ P w K mg base CX0 1 ad.f__law_cube ad.e__law_cube ["d"] (@spD ⟨K⟩ 1 xG) := by
  letI : KK := ⟨K⟩
  refine yo (N := ["d", "ties", "a", "bit"]) (ps := ["d"]) T.d__law_cube.fn wU (g := Zs) fun cdv A outer s H E hr => ?_
  unfold Zs Z0 ZO
  exact (zc (Y4 (i := 1) wU.nd rfl (Or.inl rfl) (yL zd))
      (zc (YX PassesOwn.never rfl rfl T.z_range (za (zD (xb (yL (za (ze zf) (za (ze zf) (za (ze zf) (za (ze zf) zd)))))) (edv 0) (fun _ _ => rfl)) zd) (zS (zB (i := 2) wU.nd rfl (Or.inl rfl))) (zh (vH PassesOwn.never rfl (wS (zcR (xb (yL (za (ze zf) (za (ze zf) (za (ze zf) zd))))) ziu (zbr (edv 0)))) (zS (zB (i := 3) wU.nd rfl (Or.inl rfl))) (zh (yc (zE (yT hr) yj (zy _) (wG (zad (edv 2) (edv 3)) (ze zf)) (ze zf)) (zh (zcn (m := false) (pv 1) (vz (za (edv 2) (za (yC (edv 2) (edv 3)) zd))) (fun a b => zcX PySem.F.plainAttrs_list PySem.F.slot_list_append PySem.F.type_list_append ZF a b))) zv)))))
      (Y9 1 (zh (zo (vz (za (zD (xb (yL (za (ze zf) (za (ze zf) (za (ze zf) (za (ze zf) zd)))))) (edv 0) (fun _ _ => rfl)) (za (yY zW xx rfl T.z_tuple yg (za (xb (zdq rfl rfl T.z_sorted (za (edv 1) zd))) zd)) zd))))))))
noncomputable def ZN : SE → Ctl :=
  (sIf (xo (tOf (zk zJ (zk ixD (zg 2) (zg 4)) (eC .non))) (Ye (tOf (zk Xz (zk ixD (zg 2) (zg 5)) (eC .non))) (tOf (zk gtD (zk ixD (zg 2) (zg 5)) (zk Yg (zk ixD (zg 2) (zg 4)) (eC (.int 1))))))) (Y7 true 2 (zg 5) (zk Yg (zk ixD (zg 2) (zg 4)) (eC (.int 1)))) zC)
noncomputable def ZJ : SE → Ctl :=
  (Yh (iOf (zk Yg (zk ixD (zg 0) (eC (.int 1))) (eFn zT (zb (xy (fLC (iOf (zk ixD (zg 0) (eC (.int 1)))) b2 yM (v9 (zb (zg 1) (zb (zg 0) zp))))) zp)))) (Z5 2 (y0 (yf 4) (y0 (yf 5) Xd))) ZN)
noncomputable def Ze : SE → Ctl :=
  (zG (Yr 2 (zk3 zgq (xy (zY (zb (eC .non) zp))) (zk ixD (zg 0) (eC (.int 0)))))
    (zG (Y7 false 2 (zg 1) (eC (.int 0)))
    (zG (xa wY (zb (zk ixD (zg 0) (eC (.int 0))) zp) (yf 3) ZJ)
    (sFz 2 (zV (zg 2))))))
noncomputable def X9 : List D → Option D := fnD 6 Ze
theorem zaY (T : Txt K mg ad) : yQ P w K mg base CX0 1 ad.f__law_fars ad.e__law_fars ["web", "place"] (@spD ⟨K⟩ 2 X9) := by
  letI : KK := ⟨K⟩
  refine yo (N := ["web", "place", "found", "turn", "a", "b"]) (ps := ["web", "place"]) T.d__law_fars.fn xV (g := Ze) fun cdv A outer s H E hr => ?_
  unfold Ze ZJ ZN
  exact (zc (Y4 (i := 2) xV.nd rfl (Or.inl rfl) (zg4 (xb (yL (za (wT wW) zd))) (zD (edv 0) (ze zf) (fun _ _ => rfl))))
      (zc (Vj (m := false) (ze zf) (pv 2) (edv 1))
      (zc (YX PassesOwn.never rfl rfl T.z_range (za (zD (edv 0) (ze zf) (fun _ _ => rfl)) zd) (zS (zB (i := 3) xV.nd rfl (Or.inl rfl))) (zh (vH PassesOwn.never rfl (wS (yC (zD (edv 0) (ze zf) (fun _ _ => rfl)) (yY zW xx rfl T.z_tuple yg (za (xb (We (L := ["a", "b"]) (M := ["web", "place", "found", "turn", "·a", "·b"]) rfl (Yx (by rfl) (by rfl) (by rfl) (by with_unfolding_all rfl) (by rfl) (by rfl) (by kernel_rfl) wH) (wS (zD (edv 0) (ze zf) (fun _ _ => rfl))) gs2 rb2 (fun _ _ _ _ => (zhm rfl (V1 (zB (i := 0) zka rfl (Or.inl rfl) (.inr rfl)) (V1 (zB (i := 1) zka rfl (Or.inl rfl) (.inr rfl)) zec)))) (fun _ _ _ _ => (vz (za (edv 1) (za (edv 0) zd)))))) zd)))) (za0 rfl (xM (zS (zB (i := 4) xV.nd rfl (Or.inl rfl))) (xM (zS (zB (i := 5) xV.nd rfl (Or.inl rfl))) Wa))) (zh (yc (zcp (zdP (zE Yw vE (zy _) (zD (edv 2) (edv 4) (fun _ _ => rfl)) (wT wW)) (zbM (zcp (XT (zE zd3 zbs (zy _) (zD (edv 2) (edv 5) (fun _ _ => rfl)) (wT wW)) (YA (zE VS zU (zy _) (zD (edv 2) (edv 5) (fun _ _ => rfl)) (yC (zD (edv 2) (edv 4) (fun _ _ => rfl)) (ze zf))))))))) (zh (Vj (m := true) (yC (zD (edv 2) (edv 4) (fun _ _ => rfl)) (ze zf)) (pv 2) (edv 5))) zv)))))
      (Y9 2 (zh (zo (edv 2)))))))
noncomputable def YQ : SE → Ctl :=
  (zkG 2 3 (zb (zg 3) (zb (zk wO (zg 2) (zg 3)) zp)))
noncomputable def vU : SE → Ctl :=
  (zG (zkG 2 3 (zb (zg 0) (zb (zg 1) zp)))
    (zG (Yc (tOf (zk gtD (zg 3) (eC (.int 0)))) YQ 20)
    (zV (v9 (zb (zk xA (zg 0) (zg 2)) (zb (zk xA (zg 1) (zg 2)) zp))))))
noncomputable def ZV : List D → Option D := fnD 4 vU
theorem WW (T : Txt K mg ad) : yQ P w K mg base CX0 1 ad.f__law_lowest ad.e__law_lowest ["top", "bottom"] (@spD ⟨K⟩ 2 ZV) := by
  letI : KK := ⟨K⟩
  refine yo (N := ["top", "bottom", "one", "other"]) (ps := ["top", "bottom"]) T.d__law_lowest.fn vd (g := vU) fun cdv A outer s H E hr => ?_
  unfold vU YQ
  exact (zc (zhu rfl vd.nd rfl rfl (by decide) rfl rfl (za (edv 0) (za (edv 1) zd)))
      (zc (Vx 20 PassesOwn.never (zE VS zU (zy _) (edv 3) (ze zf)) (zh (zhu rfl vd.nd rfl rfl (by decide) rfl rfl (za (edv 3) (za (wG (edv 2) (edv 3)) zd)))))
      (zh (zo (vz (za (zad (edv 0) (edv 2)) (za (zad (edv 1) (edv 2)) zd)))))))
noncomputable def Y6 : SE → Ctl :=
  (sIf (tOf (zk zJ (zg 5) (eC .non))) (xg false 3 (zk Yg (zg 3) (zk vK (zg 4) (zk shlD (eC (.int 1)) (zk wM (eC (.int 8)) (zg 5)))))) zC)
noncomputable def YN : SE → Ctl :=
  (zG (xg false 3 (eC (.int 0)))
    (zG (Yh (wy (zb (zg 1) (zb (zn 2 X9 (zb (zg 0) (zb (zg 2) zp))) zp))) (Z5 2 (y0 (yf 4) (y0 (yf 5) Xd))) Y6)
    (zV (zn 2 ZV (zb (zg 3) (zb (eC (.int 256)) zp))))))
noncomputable def xX : List D → Option D := fnD 6 YN
theorem zfS : ∀ d p : Nat, d ≤ 3 → (p : Int) < mC d → xX [xQ (mC d) (tC d), hD (zc1 (mC d) (p : Int)), .int (p : Int)] = some (.tup [.int (mC d - 1), .int (mC d)])
  | 0, 0, _, _ => by kernel_rfl
  | 1, 0, _, _ => by kernel_rfl
  | 1, 1, _, _ => by kernel_rfl
  | 2, 0, _, _ => by kernel_rfl
  | 2, 1, _, _ => by kernel_rfl
  | 2, 2, _, _ => by kernel_rfl
  | 2, 3, _, _ => by kernel_rfl
  | 3, 0, _, _ => by kernel_rfl
  | 3, 1, _, _ => by kernel_rfl
  | 3, 2, _, _ => by kernel_rfl
  | 3, 3, _, _ => by kernel_rfl
  | 3, 4, _, _ => by kernel_rfl
  | 3, 5, _, _ => by kernel_rfl
  | 3, 6, _, _ => by kernel_rfl
  | 3, 7, _, _ => by kernel_rfl
  | 0, p + 1, _, h => by have h : ((p + 1 : Nat) : Int) < 1 := h; omega
  | 1, p + 2, _, h => by have h : ((p + 2 : Nat) : Int) < 2 := h; omega
  | 2, p + 4, _, h => by have h : ((p + 4 : Nat) : Int) < 4 := h; omega
  | 3, p + 8, _, h => by have h : ((p + 8 : Nat) : Int) < 8 := h; omega
theorem zae (T : Txt K mg ad) : yQ P w K mg base CX0 2 ad.f__law_worth ad.e__law_worth ["web", "stones", "place"] (@spD ⟨K⟩ 3 xX) := by
  letI : KK := ⟨K⟩
  have G__law_fars := zaY (P := P) (w := w) (base := base) T
  have G__law_lowest := WW (P := P) (w := w) (base := base) T
  refine yo (N := ["web", "stones", "place", "top", "many", "far_here"]) (ps := ["web", "stones", "place"]) T.d__law_worth.fn xl (g := YN) fun cdv A outer s H E hr => ?_
  unfold YN Y6
  exact (zc (zR (m := false) (i := 3) xl.nd rfl (Or.inl rfl) (ze zf))
      (zc (vH PassesOwn.never rfl (zgU rfl T.z_zip (za (edv 1) (za (zi G__law_fars hr rfl T.d__law_fars (za (edv 0) (za (edv 2) zd))) zd))) (za0 rfl (xM (zS (zB (i := 4) xl.nd rfl (Or.inl rfl))) (xM (zS (zB (i := 5) xl.nd rfl (Or.inl rfl))) Wa))) (zh (yc (zE Yw vE (zy _) (edv 5) (wT wW)) (zh (zR (m := false) (i := 3) xl.nd rfl (Or.inl rfl) (yC (edv 3) (WH (edv 4) (zkt (ze zf) (vI (ze zf) (edv 5))))))) zv)))
      (zh (zo (zi G__law_lowest hr rfl T.d__law_lowest (za (edv 3) (za (ze zf) zd)))))))
noncomputable def wq : SE → Ctl :=
  (zG (xg false 3 (zn 3 Yl (zb (zg 0) (zb (zg 1) (zb (zg 2) zp)))))
    (zG (xg false 4 (zn 3 vR (zb (zn 1 xG (zb (zg 0) zp)) (zb (zg 1) (zb (zg 3) zp)))))
    (zG (sIf (xo (tOf (zk gtD (zk ixD (zg 1) (zg 2)) (eC (.int 0)))) (tOf (zk zjY (zg 3) (xy (zY zp))))) (zV (eC (.bl false))) zC)
    (zV (vL (zk zJ (zg 4) (eC .non)) (zk gtD (zk ixD (zg 4) (zg 2)) (eC (.int 0))))))))
noncomputable def xk : List D → Option D := fnD 5 wq
theorem zgK (ss : List Tie) : zjY (.lst (ss.map zm)) (.lst []) = some (.bl (!ss.isEmpty)) := by
  have : okE 20 (.lst (ss.map zm)) = true := by
    show (ss.map zm).all (okE 19) = true
    rw [List.all_map, List.all_eq_true]
    exact fun _ _ => rfl
  rw [zft this]
  cases ss <;> rfl
theorem zaq {d p : Nat} {h : Hl} (hd : d ≤ 3) (hl : (h.length : Int) = mC d) (hn : ∀ v ∈ h, 0 ≤ v) (hs : mC d ≤ h.sum) (h3 : h.sum ≤ 300) (hp : (p : Int) < mC d) : xk [.int (d : Int), hD h, .int (p : Int)] = some (.bl true) := by
  have ok := okC d hd
  have hpr : 0 ≤ (p : Int) ∧ (p : Int) < mC d := ⟨by omega, hp⟩
  obtain ⟨ss, e, hz, g, hpt, hg⟩ := Vq hd hl hn hs h3 hp
  have pl := hpt.go.plays ok hpt.tie
  have ep := zdR hl hpt.tie pl
  have gl : (g.length : Int) = mC d := by
    have : ∀ {a b : Hl} {l : List Tie}, Pl a l b → b.length = a.length := by
      intro a b l x
      induction x with
      | nil => rfl
      | cons _ _ ih => rw [ih, Yz]
    rw [this hpt.go]
    exact hl
  refine Vy (ρ := [.v (.int (d : Int)), .v (hD h), .v (.int (p : Int)), .no, .no]) rfl ?_
  unfold wq
  refine zx (ρ' := [.v (.int (d : Int)), .v (hD h), .v (.int (p : Int)), .v (.lst (ss.map zm)), .no]) (Ys (ds := [_, _, _]) rfl e) ?_
  refine zx (ρ' := [.v (.int (d : Int)), .v (hD h), .v (.int (p : Int)), .v (.lst (ss.map zm)), .v (.lst (g.map .int))]) (Ys (ds := [xQ (mC d) (tC d), hD h, .lst (ss.map zm)]) (zL (ye (ds := [.int (d : Int)]) rfl (Wc d hd)) rfl) ep) ?_
  refine zx (zcP ?_) ?_
  · have e1 : tOf (zk gtD (zk ixD (zg 1) (zg 2)) (eC (.int 0))) (visG [.v (.int (d : Int)), .v (hD h), .v (.int (p : Int)), .v (.lst (ss.map zm)), .v (.lst (g.map .int))]) = some (decide (0 < vAt h (p : Int))) := Xa (zH (x := .int (vAt h (p : Int))) (y := .int 0) (zH (x := hD h) (y := .int (p : Int)) rfl rfl (wv hpr.1 (by omega))) rfl rfl)
    by_cases c : 0 < vAt h (p : Int)
    · rw [decide_eq_true c] at e1
      refine ziN e1 (Xa (zH (x := .lst (ss.map zm)) (y := .lst []) rfl rfl ?_))
      rw [zgK, hz c]
      rfl
    · rw [decide_eq_false c] at e1
      exact zhH e1
  · refine XA (Zi (d := .bl true) ?_) rfl
    have e2 : zk gtD (zk ixD (zg 4) (zg 2)) (eC (.int 0)) (visG [.v (.int (d : Int)), .v (hD h), .v (.int (p : Int)), .v (.lst (ss.map zm)), .v (.lst (g.map .int))]) = some (.bl true) := zH (x := .int (vAt g (p : Int))) (y := .int 0) (zH (x := .lst (g.map .int)) (y := .int (p : Int)) rfl rfl (wv hpr.1 (by omega))) rfl (by show some (D.bl (decide (0 < vAt g (p : Int)))) = _; rw [decide_eq_true hg])
    unfold vL
    rw [show zk zJ (zg 4) (eC .non) (visG [.v (.int (d : Int)), .v (hD h), .v (.int (p : Int)), .v (.lst (ss.map zm)), .v (.lst (g.map .int))]) = some (.bl true) from rfl]
    exact e2
theorem W2 (T : Txt K mg ad) : yQ P w K mg base CX0 11 ad.f__law_brings ad.e__law_brings ["d", "heap", "place"] (@spD ⟨K⟩ 3 xk) := by
  letI : KK := ⟨K⟩
  have G_cube_steps := Vu (P := P) (w := w) (base := base) T
  have G__law_cube := Xw (P := P) (w := w) (base := base) T
  have G__law_played := WY (P := P) (w := w) (base := base) T
  refine yo (N := ["d", "heap", "place", "steps", "last"]) (ps := ["d", "heap", "place"]) T.d__law_brings.fn w8 (g := wq) fun cdv A outer s H E hr => ?_
  unfold wq
  exact (zc (zR (m := false) (i := 3) w8.nd rfl (Or.inl rfl) (zi G_cube_steps hr rfl T.d_cube_steps (za (edv 0) (za (edv 1) (za (edv 2) zd)))))
      (zc (zR (m := false) (i := 4) w8.nd rfl (Or.inl rfl) (zi G__law_played hr rfl T.d__law_played (za (zi G__law_cube hr rfl T.d__law_cube (za (edv 0) zd)) (za (edv 1) (za (edv 3) zd)))))
      (zc (yc (zcp (zdP (zE VS zU (zy _) (zD (edv 1) (edv 2) (fun _ _ => rfl)) (ze zf)) (zbM (zE (zj2 hr) zhO (zy _) (edv 3) (xb (yL zd)))))) (zh (zo (ve vf))) zv)
      (zh (zo (wX (xS Yw vE (zy _) (edv 4) (wT wW)) (vC (xS VS zU (zy _) (zD (edv 4) (edv 2) (fun _ _ => rfl)) (ze zf)))))))))
noncomputable def wZ : SE → Ctl :=
  (xg false 4 (zk Yg (zg 4) (xy (fLC (Y2 wY (zb (zk wM (zk Yg (zg 1) (eC (.int 1))) (eFn zcZ (zb (zg 5) zp))) zp)) b1 yM (zk Yg (zg 6) (xy (zY (zb (zg 0) zp))))))))
noncomputable def wR : SE → Ctl :=
  (zG (xg false 4 (xy (zY zp)))
    (zG (Yh (iOf (zg 2)) (yf 5) wZ)
    (xg false 2 (zg 4))))
noncomputable def xZ : SE → Ctl :=
  (zG (xg false 2 (xy (zY (zb (xy (zY zp)) zp))))
    (zG (xa wY (zb (zg 0) zp) (yf 3) wR)
    (zV (xy (fLC (iOf (zg 2)) b1 (tOf (zk ZQ (eFn zcZ (zb (zg 0) zp)) (zg 2))) (eFn zT (zb (zg 0) zp)))))))
noncomputable def yE : List D → Option D := fnD 6 xZ
noncomputable def h22 : List Hl := [[0, 2], [1, 1], [2, 0]]
noncomputable def h44 : List Hl := (zjM 4 4).filter fun g => decide (g.sum = 4)
theorem zlR : yE [.int 2, .int 2] = some (.lst (h22.map hD)) := by kernel_rfl
theorem zk4 : yE [.int 4, .int 4] = some (.lst (h44.map hD)) := by kernel_rfl
theorem ok22 : ∀ g ∈ h22, g.length = 2 ∧ (∀ v ∈ g, 0 ≤ v) ∧ g.sum = 2 := by decide +kernel
theorem ok44 : ∀ g ∈ h44, g.length = 4 ∧ (∀ v ∈ g, 0 ≤ v) ∧ g.sum = 4 := by decide +kernel
theorem Z8 (T : Txt K mg ad) : yQ P w K mg base CX0 1 ad.f__law_all_heaps ad.e__law_all_heaps ["many", "stones"] (@spD ⟨K⟩ 2 yE) := by
  letI : KK := ⟨K⟩
  refine yo (N := ["many", "stones", "found", "k", "longer", "row"]) (ps := ["many", "stones"]) T.d__law_all_heaps.fn zP (g := xZ) fun cdv A outer s H E hr => ?_
  unfold xZ wR wZ
  exact (zc (zR (m := false) (i := 2) zP.nd rfl (Or.inl rfl) (xb (yL (za (xb (yL zd)) zd))))
      (zc (YX PassesOwn.never rfl rfl T.z_range (za (edv 0) zd) (zS (zB (i := 3) zP.nd rfl (Or.inl rfl))) (zc (zR (m := false) (i := 4) zP.nd rfl (Or.inl rfl) (xb (yL zd)))
      (zc (vH PassesOwn.never rfl (wS (edv 2)) (zS (zB (i := 5) zP.nd rfl (Or.inr rfl))) (zh (zR (m := false) (i := 4) zP.nd rfl (Or.inl rfl) (yC (edv 4) (xb (We (L := ["here"]) (M := ["many", "stones", "found", "k", "longer", "row"]) rfl (Yx (by rfl) (by rfl) (by rfl) (by with_unfolding_all rfl) (by rfl) (by rfl) (by kernel_rfl) (all_cons rfl wH)) (ZB rfl T.z_range (za (vI (yC (edv 1) (ze zf)) (zI (vJ rfl) Xb rfl T.z_sum Vm (za (edv 5) zd))) zd)) gs1 rb1 (fun _ _ _ _ => (zB (i := 0) zlQ rfl (Or.inl rfl) (.inr rfl))) (fun _ _ _ _ => (yC (edv 6) (xb (yL (za (edv 0) zd)))))))))))
      (zh (zR (m := false) (i := 2) zP.nd rfl (Or.inl rfl) (edv 4))))))
      (zh (zo (xb (zch (L := ["row"]) (M := ["many", "stones", "found", "k", "longer", "·row"]) rfl (Yx (by rfl) (by rfl) (by rfl) (by with_unfolding_all rfl) (by rfl) (by rfl) (by kernel_rfl) (all_cons rfl wH)) (wS (edv 2)) gs1 rb1 (fun _ _ _ _ => (zB (i := 0) zlr rfl (Or.inl rfl) (.inr rfl))) (fun _ _ _ _ => (zE (yT hr) yj (zy _) (zI (vJ rfl) Xb rfl T.z_sum Vm (za (edv 0) zd)) (edv 2))) (fun _ _ _ _ => (yY zW xx rfl T.z_tuple yg (za (edv 0) zd)))))))))
noncomputable def zbU : SE → Ctl :=
  (sIf (yi (tOf (zn 3 xk (zb (zg 2) (zb (zg 8) (zb (zg 4) zp)))))) (zV (eC (.bl false))) zC)
noncomputable def V4 : SE → Ctl :=
  (zG (xg false 2 (zk ixD (xy (zY (zb (eC (.int 0)) (zb (eC (.int 1)) (zb (eC (.int 2)) (zb (eC (.int 2)) (zb (eC (.int 3)) (zb (eC (.int 3)) zp)))))))) (zk wO (zg 1) (eC (.int 6)))))
    (zG (xg false 3 (zk ixD (xy (zY (zb (eC (.int 1)) (zb (eC (.int 2)) (zb (eC (.int 4)) (zb (eC (.int 8)) zp)))))) (zg 2)))
    (zG (xg false 4 (zk wO (zn 2 ya (zb (zg 1) (zb (eC (.int 1)) zp))) (zg 3)))
    (zG (xg false 5 (eFn zT (zb (xy (fLC (Y2 wY (zb (zg 3) zp)) b1 yM (zk vK (zk wM (zg 4) (eC (.int 1))) (eFn ziV (zb (zk ZQ (zg 0) (zk wM (zk wM (zg 4) (eC (.int 1))) (zg 5))) zp))))) zp)))
    (zG (sIf (Ye (yi (tOf (zn 2 vN (zb (zn 1 Zk (zb (zg 2) zp)) (zb (zg 3) zp))))) (yi (tOf (zn 2 vN (zb (zn 2 Yp (zb (zg 2) (zb (zg 4) zp))) (zb (zg 5) zp)))))) (zV (eC (.bl false))) zC)
    (zG (XO false (zn 3 xX (zb (zn 1 xG (zb (zg 2) zp)) (zb (zg 5) (zb (zg 4) zp)))) (Z5 2 (y0 (yf 6) (y0 (yf 7) Xd))))
    (zG (xg false 8 (zn 3 wa (zb (zg 3) (zb (zk Yg (zg 3) (zk wO (zn 2 ya (zb (zg 1) (zb (eC (.int 2)) zp))) (eC (.int 3)))) (zb (zn 2 ya (zb (zg 1) (zb (eC (.int 3)) zp))) zp)))))
    (sIf (Ye (tOf (zk geD (zg 6) (zg 7))) (yi (tOf (zn 3 xk (zb (zg 2) (zb (zg 8) (zb (zg 4) zp))))))) (zV (eC (.bl false))) zC))))))))
noncomputable def zfu : SE → Ctl :=
  (zG (Yh (iOf (zk Yg (xy (zY (zb (zn 2 yu (zb (zg 0) (zb (eC (.int 0)) zp))) zp))) (eSl slD (zg 0) (xz (eC (.int 1))) (xz (eC (.int 3)))))) (yf 1) V4)
    (zG (xg false 2 (zk Yg (eC (.int 1)) (zk wO (zn 2 yu (zb (zg 0) (zb (eC (.int 0)) zp))) (eC (.int 2)))))
    (zG (xg false 4 (zk wO (zn 2 ya (zb (zn 2 yu (zb (zg 0) (zb (eC (.int 0)) zp))) (zb (eC (.int 4)) zp))) (zk ixD (xy (zY (zb (eC (.int 1)) (zb (eC (.int 2)) (zb (eC (.int 4)) zp))))) (zg 2))))
    (zG (Yh (iOf (zn 2 yE (zb (zk ixD (xy (zY (zb (eC (.int 1)) (zb (eC (.int 2)) (zb (eC (.int 4)) zp))))) (zg 2)) (zb (zk ixD (xy (zY (zb (eC (.int 1)) (zb (eC (.int 2)) (zb (eC (.int 4)) zp))))) (zg 2)) zp)))) (yf 8) zbU)
    (zV (eC (.bl true)))))))
noncomputable def zkj : List D → Option D := fnD 9 zfu
theorem six : ∀ k : Nat, k < 6 → ∃ d : Nat, d ≤ 3 ∧ ixD (.lst [.int 0, .int 1, .int 2, .int 2, .int 3, .int 3]) (.int (k : Int)) = some (.int (d : Int))
  | 0, _ => ⟨0, by decide, rfl⟩
  | 1, _ => ⟨1, by decide, rfl⟩
  | 2, _ => ⟨2, by decide, rfl⟩
  | 3, _ => ⟨2, by decide, rfl⟩
  | 4, _ => ⟨3, by decide, rfl⟩
  | 5, _ => ⟨3, by decide, rfl⟩
theorem zh9 : ∀ d : Nat, d ≤ 3 → ixD (.lst [.int 1, .int 2, .int 4, .int 8]) (.int (d : Int)) = some (.int (mC d))
  | 0, _ => rfl
  | 1, _ => rfl
  | 2, _ => rfl
  | 3, _ => rfl
theorem ziI {M : Int} {p : Nat} {ρ : Ev} (h1 : 1 ≤ M) (h8 : M ≤ 8) (hp : (p : Int) < M) (h3 : zg 3 ρ = some (.int M)) (h4 : zg 4 ρ = some (.int (p : Int))) : eFn zT (zb (xy (fLC (Y2 wY (zb (zg 3) zp)) b1 yM (zk vK (zk wM (zg 4) (eC (.int 1))) (eFn ziV (zb (zk ZQ (zg 0) (zk wM (zk wM (zg 4) (eC (.int 1))) (zg 5))) zp))))) zp) ρ = some (hD (zc1 M (p : Int))) := by
  refine zbe (ds := [.lst ((zc1 M (p : Int)).map .int)]) (zL (zks ?_) wN) rfl
  unfold fLC
  have er : Y2 wY (zb (zg 3) zp) ρ = some ((List.range M.toNat).map zbf) := by
    have e : zb (zg 3) zp ρ = some [.int M] := zL h3 wN
    refine (congrArg (·.bind wY) e).trans ?_
    rw [Option.bind_some, Vg (by omega) (by omega)]
    rfl
  unfold zc1
  rw [er, Option.bind_some, if_pos (Zb (by rw [List.length_map, List.length_range]; omega)), List.map_map]
  refine Vv zbf _ (List.range M.toNat) fun k hk => ⟨[some (zbf k)], rfl, rfl, ?_⟩
  have ei : eFn ziV (zb (zk ZQ (zg 0) (zk wM (zk wM (zg 4) (eC (.int 1))) (zg 5))) zp) ([some (zbf k)] ++ ρ) = some (.int (if (k : Int) = M - 1 - (p : Int) then 1 else 0)) := by
    have e1 : zb (zk ZQ (zg 0) (zk wM (zk wM (zg 4) (eC (.int 1))) (zg 5))) zp ([some (zbf k)] ++ ρ) = some [.bl (decide ((0 : Int) + (k : Int) = M - 1 - (p : Int)))] := zL (zH (x := zbf k) (y := .int (M - 1 - (p : Int))) rfl (zH (x := .int (M - 1)) (y := .int (p : Int)) (zH (x := .int M) (y := .int 1) h3 rfl rfl) h4 rfl) zN) wN
    refine (congrArg (·.bind ziV) e1).trans ?_
    rw [Int.zero_add, Option.bind_some]
    by_cases c : (k : Int) = M - 1 - (p : Int)
    · rw [decide_eq_true c, if_pos c]; rfl
    · rw [decide_eq_false c, if_neg c]; rfl
  refine zH (x := .int (M - 1)) (y := .int (if (k : Int) = M - 1 - (p : Int) then 1 else 0)) (zH (x := .int M) (y := .int 1) h3 rfl rfl) ei ?_
  show vK _ _ = some (D.int (if (k : Int) = M - 1 - (p : Int) then M - 1 else 0))
  by_cases c : (k : Int) = M - 1 - (p : Int)
  · rw [if_pos c, if_pos c, Zy (zaa (by decide) (by decide)), Int.mul_one]
  · rw [if_neg c, if_neg c, Zy (zaa (by decide) (by decide)), Int.mul_zero]
theorem zfR (h : Hl) : okE 5 (hD h) = true := by
  show (h.map D.int).all (okE 4) = true
  rw [List.all_map, List.all_eq_true]
  exact fun _ _ => rfl
theorem zhK (s : D) (z : Int) (o2 o3 o4 o5 o6 o7 o8 : Sl) (n b : SE → Prop) (r : D → Prop) (I : SE → Prop) (hI : ∀ o2 o3 o4 o5 o6 o7 o8, I [.v s, .v (.int z), o2, o3, o4, o5, o6, o7, o8]) : (V4 [.v s, .v (.int z), o2, o3, o4, o5, o6, o7, o8]).w I b n r := by
  obtain ⟨q, hq⟩ : ∃ q : Int, z % 6 = q := ⟨_, rfl⟩
  obtain ⟨q0, q1⟩ := wx (by decide) hq
  obtain ⟨k, hk⟩ := Int.eq_ofNat_of_zero_le q0
  subst hk
  obtain ⟨d, hd, ed⟩ := six k (by omega)
  obtain ⟨m1, m8⟩ := zii d hd
  have em := zh9 d hd
  have ec := Wc d hd
  have en := zat d hd
  obtain ⟨pz, hpz⟩ : ∃ pz : Int, VL z 1 % mC d = pz := ⟨_, rfl⟩
  obtain ⟨p0, p1⟩ := wx (by omega) hpz
  obtain ⟨p, hp⟩ := Int.eq_ofNat_of_zero_le p0
  subst hp
  have ew := zaf d p hd p1
  have eo := zfS d p hd p1
  obtain ⟨e, he⟩ : ∃ e : Int, VL z 2 % 3 = e := ⟨_, rfl⟩
  obtain ⟨e0, e1⟩ := wx (by decide) he
  obtain ⟨h, eh, hl, hn, hs⟩ := zaW (n := mC d) (m := mC d + e) (c := VL z 3) m1 m8 ⟨by omega, by omega⟩
  have eb := zaq (p := p) hd hl hn (by omega) (by omega) p1
  generalize mC d = M at *
  unfold V4
  refine zx (ρ' := [.v s, .v (.int z), .v (.int (d : Int)), o3, o4, o5, o6, o7, o8]) (zdb (zH (x := .lst [.int 0, .int 1, .int 2, .int 2, .int 3, .int 3]) (y := .int (k : Int)) rfl (zH (x := .int z) (y := .int 6) rfl rfl (by rw [xI (by decide), hq])) ed)) ?_
  refine zx (ρ' := [.v s, .v (.int z), .v (.int (d : Int)), .v (.int M), o4, o5, o6, o7, o8]) (zdb (zH (x := .lst [.int 1, .int 2, .int 4, .int 8]) (y := .int (d : Int)) rfl rfl em)) ?_
  refine zx (ρ' := [.v s, .v (.int z), .v (.int (d : Int)), .v (.int M), .v (.int (p : Int)), o5, o6, o7, o8]) (zdb (zH (x := .int (VL z 1)) (y := .int M) (ye (ds := [.int z, .int 1]) rfl rfl) rfl (by rw [xI (by omega), hpz]))) ?_
  refine zx (ρ' := [.v s, .v (.int z), .v (.int (d : Int)), .v (.int M), .v (.int (p : Int)), .v (hD (zc1 M (p : Int))), o6, o7, o8]) (zdb (ziI m1 m8 p1 rfl rfl)) ?_
  refine zx (zcP (zjn (b := false) (c := false) (zcG (b := true) (Xa (ye (ds := [.int M, .int M]) (zL (ye (ds := [.int (d : Int)]) rfl en) (zL rfl wN)) (zgL rfl)))) (zcG (b := true) (Xa (ye (ds := [hD (zc1 M (p : Int)), hD (zc1 M (p : Int))]) (zL (ye (ds := [.int (d : Int), .int (p : Int)]) rfl ew) (zL rfl wN)) (zgL (zfR _))))))) ?_
  refine zx (ρ' := [.v s, .v (.int z), .v (.int (d : Int)), .v (.int M), .v (.int (p : Int)), .v (hD (zc1 M (p : Int))), .v (.int (M - 1)), .v (.int M), o8]) ?_ ?_
  · have e5 : zn 3 xX (zb (zn 1 xG (zb (zg 2) zp)) (zb (zg 5) (zb (zg 4) zp))) (visF [.v s, .v (.int z), .v (.int (d : Int)), .v (.int M), .v (.int (p : Int)), .v (hD (zc1 M (p : Int))), o6, o7, o8]) = some (.tup [.int (M - 1), .int M]) := ye (ds := [xQ M (tC d), hD (zc1 M (p : Int)), .int (p : Int)]) (zL (ye (ds := [.int (d : Int)]) rfl ec) rfl) eo
    unfold XO
    rw [show vEv false (zn 3 xX (zb (zn 1 xG (zb (zg 2) zp)) (zb (zg 5) (zb (zg 4) zp)))) [.v s, .v (.int z), .v (.int (d : Int)), .v (.int M), .v (.int (p : Int)), .v (hD (zc1 M (p : Int))), o6, o7, o8] = some (.tup [.int (M - 1), .int M]) from (if_neg Bool.false_ne_true).trans e5]
    rfl
  refine zx (ρ' := [.v s, .v (.int z), .v (.int (d : Int)), .v (.int M), .v (.int (p : Int)), .v (hD (zc1 M (p : Int))), .v (.int (M - 1)), .v (.int M), .v (hD h)]) (Ys (ds := [.int M, .int (M + e), .int (VL z 3)]) (zL rfl (zL (zH (x := .int M) (y := .int e) rfl (zH (x := .int (VL z 2)) (y := .int 3) (ye (ds := [.int z, .int 2]) rfl rfl) rfl (by rw [xI (by decide), he])) rfl) (zL (ye (ds := [.int z, .int 3]) rfl rfl) wN))) eh) ?_
  exact Z4 (zcP (zjn (b := false) (c := false) (Xa (zH (x := .int (M - 1)) (y := .int M) rfl rfl (by show some (D.bl (decide (M ≤ M - 1))) = _; rw [decide_eq_false (by omega)]))) (zcG (b := true) (Xa (ye (ds := [.int (d : Int), hD h, .int (p : Int)]) rfl eb))))) (hI _ _ _ _ _ _ _)
theorem zfm (ns : List Int) (h : ns.length ≤ 63) : zkj [.scr ns] = some (.bl true) := by
  refine Vy (ρ := [.v (.scr ns), .no, .no, .no, .no, .no, .no, .no, .no]) rfl ?_
  unfold zfu
  obtain ⟨xs, hxs⟩ := zgw (ρ := [none, none, none, none, none, none, none, none]) ns 3 h
  obtain ⟨c, hc⟩ := Va ns
  refine xm (W4 (ds := xs.map .int) (fun i ρ => ∃ o1 o2 o3 o4 o5 o6 o7 o8, ρ = [.v (.scr ns), o1, o2, o3, o4, o5, o6, o7, o8]) hxs ⟨_, _, _, _, _, _, _, _, rfl⟩ ?_ ?_)
  · rintro i d ρ hd ⟨o1, o2, o3, o4, o5, o6, o7, o8, rfl⟩
    rw [List.getElem?_map] at hd
    obtain ⟨z, hz, rfl⟩ := Option.map_eq_some_iff.mp hd
    exact ⟨_, rfl, zhK _ _ _ _ _ _ _ _ _ _ _ _ _ fun _ _ _ _ _ _ _ => ⟨_, _, _, _, _, _, _, _, rfl⟩⟩
  · rintro ρ ⟨o1, o2, o3, o4, o5, o6, o7, o8, rfl⟩
    obtain ⟨q, hq⟩ : ∃ q : Int, c % 2 = q := ⟨_, rfl⟩
    obtain ⟨q0, q1⟩ := wx (by decide) hq
    obtain ⟨k, hk⟩ := Int.eq_ofNat_of_zero_le q0
    subst hk
    obtain ⟨d, hd⟩ : ∃ d : Nat, 1 + k = d := ⟨_, rfl⟩
    have hd2 : d = 1 ∨ d = 2 := by omega
    have hd3 : d ≤ 3 := by omega
    obtain ⟨m1, m8⟩ := zii d hd3
    have em : ixD (.lst [.int 1, .int 2, .int 4]) (.int (d : Int)) = some (.int (mC d)) := by rcases hd2 with rfl | rfl <;> rfl
    have ea : ∃ L : List Hl, yE [.int (mC d), .int (mC d)] = some (.lst (L.map hD)) ∧ ∀ g ∈ L, (g.length : Int) = mC d ∧ (∀ v ∈ g, 0 ≤ v) ∧ g.sum = mC d := by
      rcases hd2 with rfl | rfl
      · exact ⟨h22, zlR, fun g hg => by have := ok22 g hg; exact ⟨by rw [this.1]; rfl, this.2⟩⟩
      · exact ⟨h44, zk4, fun g hg => by have := ok44 g hg; exact ⟨by rw [this.1]; rfl, this.2⟩⟩
    obtain ⟨L, eL, hL⟩ := ea
    obtain ⟨pz, hpz⟩ : ∃ pz : Int, VL c 4 % mC d = pz := ⟨_, rfl⟩
    obtain ⟨p0, p1⟩ := wx (by omega) hpz
    obtain ⟨p, hp⟩ := Int.eq_ofNat_of_zero_le p0
    subst hp
    have eb : ∀ g ∈ L, xk [.int (d : Int), hD g, .int (p : Int)] = some (.bl true) := fun g hg => by
      obtain ⟨l1, l2, l3⟩ := hL g hg
      exact zaq hd3 l1 l2 (by omega) (by omega) p1
    refine zx (ρ' := [.v (.scr ns), o1, .v (.int (d : Int)), o3, o4, o5, o6, o7, o8]) (zdb (zH (x := .int 1) (y := .int (k : Int)) rfl (zH (x := .int c) (y := .int 2) (ye (ds := [.scr ns, .int 0]) rfl hc) rfl (by rw [xI (by decide), hq])) (show Yg (.int 1) (.int (k : Int)) = some (.int (d : Int)) by rw [zO, ← hd]; rfl))) ?_
    refine zx (ρ' := [.v (.scr ns), o1, .v (.int (d : Int)), o3, .v (.int (p : Int)), o5, o6, o7, o8]) (zdb (zH (x := .int (VL c 4)) (y := .int (mC d)) (ye (ds := [.int c, .int 4]) (zL (ye (ds := [.scr ns, .int 0]) rfl hc) (zL rfl wN)) rfl) (zH (x := .lst [.int 1, .int 2, .int 4]) (y := .int (d : Int)) rfl rfl em) (by rw [xI (by omega), hpz]))) ?_
    refine xm (W4 (ds := L.map hD) (fun _ ρ => ∃ o8, ρ = [.v (.scr ns), o1, .v (.int (d : Int)), o3, .v (.int (p : Int)), o5, o6, o7, o8]) ?_ ⟨_, rfl⟩ ?_ ?_)
    · exact zi0 (ye (ds := [.int (mC d), .int (mC d)]) (zL (zH (x := .lst [.int 1, .int 2, .int 4]) (y := .int (d : Int)) rfl rfl em) (zL (zH (x := .lst [.int 1, .int 2, .int 4]) (y := .int (d : Int)) rfl rfl em) wN)) eL) rfl
    · rintro i dd ρ hdd ⟨o8, rfl⟩
      rw [List.getElem?_map] at hdd
      obtain ⟨g, hg, rfl⟩ := Option.map_eq_some_iff.mp hdd
      refine ⟨[.v (.scr ns), o1, .v (.int (d : Int)), o3, .v (.int (p : Int)), o5, o6, o7, .v (hD g)], rfl, ?_⟩
      unfold zbU
      exact Z4 (zcP (zcG (b := true) (Xa (ye (ds := [.int (d : Int), hD g, .int (p : Int)]) rfl (eb g (List.mem_of_getElem? hg)))))) ⟨_, rfl⟩
    · rintro ρ ⟨o8, rfl⟩
      exact XA rfl rfl
theorem zi7 (T : Txt K mg ad) : yQ P w K mg base CX0 30 ad.f_law ad.e_law ["script"] (zeF K) := by
  letI : KK := ⟨K⟩
  have G_cube_need := zaT (P := P) (w := w) (base := base) T
  have G_cube_worst := VA (P := P) (w := w) (base := base) T
  have G__law_cell_at := WQ (P := P) (w := w) (base := base) T
  have G__law_same := zaH (P := P) (w := w) (base := base) T
  have G__law_stir := XE (P := P) (w := w) (base := base) T
  have G__law_cube := Xw (P := P) (w := w) (base := base) T
  have G__law_some_heap := Xv (P := P) (w := w) (base := base) T
  have G__law_worth := zae (P := P) (w := w) (base := base) T
  have G__law_brings := W2 (P := P) (w := w) (base := base) T
  have G__law_all_heaps := Z8 (P := P) (w := w) (base := base) T
  refine (zjW (p := zkj) (yo (N := ["script", "cell", "d", "many", "place", "poorest", "top", "bottom", "heap"]) (ps := ["script"]) T.d_law.fn Yf (g := zfu) fun cdv A outer s H E hr => ?_) zfm).mono (j := 12) (by decide)
  unfold zfu V4 zbU
  exact (zc (vH PassesOwn.never rfl (wS (yC (xb (yL (za (zi G__law_cell_at hr rfl T.d__law_cell_at (za (edv 0) (za (ze zf) zd))) zd))) (zcR (edv 0) (zbr (ze zf)) (zbr (ze zf))))) (zS (zB (i := 1) Yf.nd rfl (Or.inl rfl))) (zc (zR (m := false) (i := 2) Yf.nd rfl (Or.inl rfl) (zD (xb (yL (za (ze zf) (za (ze zf) (za (ze zf) (za (ze zf) (za (ze zf) (za (ze zf) zd)))))))) (wG (edv 1) (ze zf)) (fun _ _ => rfl)))
      (zc (zR (m := false) (i := 3) Yf.nd rfl (Or.inr rfl) (zD (xb (yL (za (ze zf) (za (ze zf) (za (ze zf) (za (ze zf) zd)))))) (edv 2) (fun _ _ => rfl)))
      (zc (zR (m := false) (i := 4) Yf.nd rfl (Or.inr rfl) (wG (zi G__law_stir hr rfl T.d__law_stir (za (edv 1) (za (ze zf) zd))) (edv 3)))
      (zc (zR (m := false) (i := 5) Yf.nd rfl (Or.inl rfl) (yY zW xx rfl T.z_tuple yg (za (xb (We (L := ["k"]) (M := ["script", "cell", "d", "many", "place", "poorest", "top", "bottom", "heap"]) rfl (Yx (by rfl) (by rfl) (by rfl) (by with_unfolding_all rfl) (by rfl) (by rfl) (by kernel_rfl) (all_cons rfl (all_cons rfl wH))) (ZB rfl T.z_range (za (edv 3) zd)) gs1 rb1 (fun _ _ _ _ => (zB (i := 0) zi8 rfl (Or.inl rfl) (.inr rfl))) (fun _ _ _ _ => (WH (vI (edv 4) (ze zf)) (yY zeA zgG rfl T.z_int zcq (za (xS (yT hr) yj (zy _) (edv 0) (vI (vI (edv 4) (ze zf)) (edv 5))) zd)))))) zd)))
      (zc (yc (zcp (XT (yX (yH (zi G__law_same hr rfl T.d__law_same (za (zi G_cube_need hr rfl T.d_cube_need (za (edv 2) zd)) (za (edv 3) zd))))) (YA (yX (yH (zi G__law_same hr rfl T.d__law_same (za (zi G_cube_worst hr rfl T.d_cube_worst (za (edv 2) (za (edv 4) zd))) (za (edv 5) zd)))))))) (zh (zo (ve vf))) zv)
      (zc (zjV (m := false) (zi G__law_worth hr rfl T.d__law_worth (za (zi G__law_cube hr rfl T.d__law_cube (za (edv 2) zd)) (za (edv 5) (za (edv 4) zd)))) (za0 rfl (xM (zS (zB (i := 6) Yf.nd rfl (Or.inl rfl))) (xM (zS (zB (i := 7) Yf.nd rfl (Or.inl rfl))) Wa))))
      (zc (zR (m := false) (i := 8) Yf.nd rfl (Or.inl rfl) (zi G__law_some_heap hr rfl T.d__law_some_heap (za (edv 3) (za (yC (edv 3) (wG (zi G__law_stir hr rfl T.d__law_stir (za (edv 1) (za (ze zf) zd))) (ze zf))) (za (zi G__law_stir hr rfl T.d__law_stir (za (edv 1) (za (ze zf) zd))) zd)))))
      (zh (yc (zcp (XT (zE zfr zU (zy _) (edv 6) (edv 7)) (YA (yX (yH (zi G__law_brings hr rfl T.d__law_brings (za (edv 2) (za (edv 8) (za (edv 4) zd))))))))) (zh (zo (ve vf))) zv))))))))))
      (zc (zR (m := false) (i := 2) Yf.nd rfl (Or.inl rfl) (yC (ze zf) (wG (zi G__law_cell_at hr rfl T.d__law_cell_at (za (edv 0) (za (ze zf) zd))) (ze zf))))
      (zc (zR (m := false) (i := 4) Yf.nd rfl (Or.inr rfl) (wG (zi G__law_stir hr rfl T.d__law_stir (za (zi G__law_cell_at hr rfl T.d__law_cell_at (za (edv 0) (za (ze zf) zd))) (za (ze zf) zd))) (zD (xb (yL (za (ze zf) (za (ze zf) (za (ze zf) zd))))) (edv 2) (fun _ _ => rfl))))
      (zc (vH PassesOwn.never rfl (wS (zi G__law_all_heaps hr rfl T.d__law_all_heaps (za (zD (xb (yL (za (ze zf) (za (ze zf) (za (ze zf) zd))))) (edv 2) (fun _ _ => rfl)) (za (zD (xb (yL (za (ze zf) (za (ze zf) (za (ze zf) zd))))) (edv 2) (fun _ _ => rfl)) zd)))) (zS (zB (i := 8) Yf.nd rfl (Or.inl rfl))) (zh (yc (yX (yH (zi G__law_brings hr rfl T.d__law_brings (za (edv 2) (za (edv 8) (za (edv 4) zd)))))) (zh (zo (ve vf))) zv)))
      (zh (zo (ve vf)))))))
end
theorem zk1 {us : List Value} (h : us.length = 1) : ∃ x0, us = [x0] := by
  cases us with
  | nil => cases h
  | cons x0 us =>
    cases us with
    | nil => exact ⟨x0, rfl⟩
    | cons _ _ => cases h
theorem zls {us : List Value} (h : us.length = 2) : ∃ x0 x1, us = [x0, x1] := by
  cases us with
  | nil => cases h
  | cons x0 us =>
    cases us with
    | nil => cases h
    | cons x1 us =>
      cases us with
      | nil => exact ⟨x0, x1, rfl⟩
      | cons _ _ => cases h
theorem zlq {us : List Value} (h : us.length = 3) : ∃ x0 x1 x2, us = [x0, x1, x2] := by
  cases us with
  | nil => cases h
  | cons x0 us =>
    cases us with
    | nil => cases h
    | cons x1 us =>
      cases us with
      | nil => cases h
      | cons x2 us =>
        cases us with
        | nil => exact ⟨x0, x1, x2, rfl⟩
        | cons _ _ => cases h
theorem zlp {us : List Value} (h : us.length = 4) : ∃ x0 x1 x2 x3, us = [x0, x1, x2, x3] := by
  cases us with
  | nil => cases h
  | cons x0 us =>
    cases us with
    | nil => cases h
    | cons x1 us =>
      cases us with
      | nil => cases h
      | cons x2 us =>
        cases us with
        | nil => cases h
        | cons x3 us =>
          cases us with
          | nil => exact ⟨x0, x1, x2, x3, rfl⟩
          | cons _ _ => cases h
noncomputable abbrev Lk (x : Str) (st : Stmt) (oc : Value) (od : Option Addr) (kV dc pm : Value) (an : Option Addr) (cd ct : Value) (sl : Array (Option Value)) : Option Obj := some ⟨oc, od, .func (PySem.W.fnOf x x (Zo st) (vg st) (zj st) .none kV dc pm an cd ct), sl⟩
theorem mkD {K : PySem.W.Frag} {h : Heap} {mg : Str → Option Value} {x : Str} {st : Stmt} {ps : List Str} {f : Addr} {oc kV dc pm cd ct : Value} {od an : Option Addr} {sl : Array (Option Value)} (X : K.In h) (G : h.Ns mainGlobals mg) (a : PySem.W.nsIn K mainGlobals x = some (some (.ref f))) (l : K.lookup f = Lk x st oc od kV dc pm an cd ct sl) (c : PySem.W.codeIn K cd x = true) (k : PySem.W.keepIn K (.ref f) = true)
    (b : ∀ (kV doc pm : Value) (an : Option Addr) (cdv ct : Value) (us : List Value), us.length = ps.length → bindArgs (PySem.W.fnOf x x (Zo st) (vg st) (zj st) .none kV doc pm an cdv ct) ⟨us, []⟩ = pure (ps.zip us)) : Def K mg x st ps f (PySem.W.fnOf x x (Zo st) (vg st) (zj st) .none kV dc pm an cd ct) := ⟨zhs l c k, (zhs l c k).binds b, PySem.W.mg_of X G a⟩
theorem bn1 {F : Value → Value → Value → Option Addr → Value → Value → List Value → Prop} (h : ∀ a b c d e f x0, F a b c d e f [x0]) : ∀ a b c d e f us, us.length = 1 → F a b c d e f us := fun a b c d e f us hl => by obtain ⟨x0, rfl⟩ := zk1 hl; exact h a b c d e f x0
theorem bn2 {F : Value → Value → Value → Option Addr → Value → Value → List Value → Prop} (h : ∀ a b c d e f x0 x1, F a b c d e f [x0, x1]) : ∀ a b c d e f us, us.length = 2 → F a b c d e f us := fun a b c d e f us hl => by obtain ⟨x0, x1, rfl⟩ := zls hl; exact h a b c d e f x0 x1
theorem bn3 {F : Value → Value → Value → Option Addr → Value → Value → List Value → Prop} (h : ∀ a b c d e f x0 x1 x2, F a b c d e f [x0, x1, x2]) : ∀ a b c d e f us, us.length = 3 → F a b c d e f us := fun a b c d e f us hl => by obtain ⟨x0, x1, x2, rfl⟩ := zlq hl; exact h a b c d e f x0 x1 x2
theorem bn4 {F : Value → Value → Value → Option Addr → Value → Value → List Value → Prop} (h : ∀ a b c d e f x0 x1 x2 x3, F a b c d e f [x0, x1, x2, x3]) : ∀ a b c d e f us, us.length = 4 → F a b c d e f us := fun a b c d e f us hl => by obtain ⟨x0, x1, x2, x3, rfl⟩ := zlp hl; exact h a b c d e f x0 x1 x2 x3
theorem all_mk {l : PySem.W.OpenLaw} {w : World} {K : PySem.W.Frag} {h : Heap} {mg : Str → Option Value} {fa f0 f1 f2 f3 f4 f5 f6 f7 f8 f9 f10 f11 f12 f13 f14 f15 f16 f17 f18 f19 f20 f21 f22 f23 f24 f25 f26 f27 f28 f29 f30 f31 f32 f33 f34 f35 f36 f37 f38 f39 f40 f41 f42 f43 : Addr} (X : K.In h) (G : h.Ns mainGlobals mg) (hfa : mg "law" = some (.ref fa))
    {od0 an0 od1 an1 od2 an2 od3 an3 od4 an4 od5 an5 od6 an6 od7 an7 od8 an8 od9 an9 od10 an10 od11 an11 od12 an12 od13 an13 od14 an14 od15 an15 od16 an16 od17 an17 od18 an18 od19 an19 od20 an20 od21 an21 od22 an22 od23 an23 od24 an24 od25 an25 od26 an26 od27 an27 od28 an28 od29 an29 od30 an30 od31 an31 od32 an32 od33 an33 od34 an34 od35 an35 od36 an36 od37 an37 od38 an38 od39 an39 od40 an40 od41 an41 od42 an42 od43 an43 : Option Addr} {sl0 sl1 sl2 sl3 sl4 sl5 sl6 sl7 sl8 sl9 sl10 sl11 sl12 sl13 sl14 sl15 sl16 sl17 sl18 sl19 sl20 sl21 sl22 sl23 sl24 sl25 sl26 sl27 sl28 sl29 sl30 sl31 sl32 sl33 sl34 sl35 sl36 sl37 sl38 sl39 sl40 sl41 sl42 sl43 : Array (Option Value)} {oc0 kV0 dc0 pm0 cd0 ct0 oc1 kV1 dc1 pm1 cd1 ct1 oc2 kV2 dc2 pm2 cd2 ct2 oc3 kV3 dc3 pm3 cd3 ct3 oc4 kV4 dc4 pm4 cd4 ct4 oc5 kV5 dc5 pm5 cd5 ct5 oc6 kV6 dc6 pm6 cd6 ct6 oc7 kV7 dc7 pm7 cd7 ct7 oc8 kV8 dc8 pm8 cd8 ct8 oc9 kV9 dc9 pm9 cd9 ct9 oc10 kV10 dc10 pm10 cd10 ct10 oc11 kV11 dc11 pm11 cd11 ct11 oc12 kV12 dc12 pm12 cd12 ct12 oc13 kV13 dc13 pm13 cd13 ct13 oc14 kV14 dc14 pm14 cd14 ct14 oc15 kV15 dc15 pm15 cd15 ct15 oc16 kV16 dc16 pm16 cd16 ct16 oc17 kV17 dc17 pm17 cd17 ct17 oc18 kV18 dc18 pm18 cd18 ct18 oc19 kV19 dc19 pm19 cd19 ct19 oc20 kV20 dc20 pm20 cd20 ct20 oc21 kV21 dc21 pm21 cd21 ct21 oc22 kV22 dc22 pm22 cd22 ct22 oc23 kV23 dc23 pm23 cd23 ct23 oc24 kV24 dc24 pm24 cd24 ct24 oc25 kV25 dc25 pm25 cd25 ct25 oc26 kV26 dc26 pm26 cd26 ct26 oc27 kV27 dc27 pm27 cd27 ct27 oc28 kV28 dc28 pm28 cd28 ct28 oc29 kV29 dc29 pm29 cd29 ct29 oc30 kV30 dc30 pm30 cd30 ct30 oc31 kV31 dc31 pm31 cd31 ct31 oc32 kV32 dc32 pm32 cd32 ct32 oc33 kV33 dc33 pm33 cd33 ct33 oc34 kV34 dc34 pm34 cd34 ct34 oc35 kV35 dc35 pm35 cd35 ct35 oc36 kV36 dc36 pm36 cd36 ct36 oc37 kV37 dc37 pm37 cd37 ct37 oc38 kV38 dc38 pm38 cd38 ct38 oc39 kV39 dc39 pm39 cd39 ct39 oc40 kV40 dc40 pm40 cd40 ct40 oc41 kV41 dc41 pm41 cd41 ct41 oc42 kV42 dc42 pm42 cd42 ct42 oc43 kV43 dc43 pm43 cd43 ct43 : Value} {tk0 : Tok} {tk1 : Tok} {tk2 : Tok}
    {sz0 ep0 : Nat} {rr0_0 rr0_1 rr0_2 rr0_3 rr0_4 : Addr} {hh0_0 hh0_1 hh0_2 hh0_3 hh0_4 : Int} {tt0_0 tu0_0_0 tu0_0_1 tt0_1 tu0_1_0 tu0_1_1 tt0_2 tu0_2_0 tu0_2_1 tt0_3 tu0_3_0 tu0_3_1 tt0_4 tu0_4_0 tu0_4_1 : Tok} {nn0_0 nn0_1 nn0_2 nn0_3 nn0_4 : Nat} {oo0_0 oo0_1 oo0_2 oo0_3 oo0_4 : Option Addr} {ss0_0 ss0_1 ss0_2 ss0_3 ss0_4 : Array (Option Value)}
    (a0 : PySem.W.nsIn K mainGlobals "is_whole" = some (some (.ref f0))) (l0 : K.lookup f0 = Lk "is_whole" Zg oc0 od0 kV0 dc0 pm0 an0 cd0 ct0 sl0) (c0 : PySem.W.codeIn K cd0 "is_whole" = true) (k0 : PySem.W.keepIn K (.ref f0) = true)
    (a1 : PySem.W.nsIn K mainGlobals "is_whole_within" = some (some (.ref f1))) (l1 : K.lookup f1 = Lk "is_whole_within" xn oc1 od1 kV1 dc1 pm1 an1 cd1 ct1 sl1) (c1 : PySem.W.codeIn K cd1 "is_whole_within" = true) (k1 : PySem.W.keepIn K (.ref f1) = true)
    (a2 : PySem.W.nsIn K mainGlobals "must_be_within" = some (some (.ref f2))) (l2 : K.lookup f2 = Lk "must_be_within" xB oc2 od2 kV2 dc2 pm2 an2 cd2 ct2 sl2) (c2 : PySem.W.codeIn K cd2 "must_be_within" = true) (k2 : PySem.W.keepIn K (.ref f2) = true)
    (a3 : PySem.W.nsIn K mainGlobals "must_be_at_most" = some (some (.ref f3))) (l3 : K.lookup f3 = Lk "must_be_at_most" xp oc3 od3 kV3 dc3 pm3 an3 cd3 ct3 sl3) (c3 : PySem.W.codeIn K cd3 "must_be_at_most" = true) (k3 : PySem.W.keepIn K (.ref f3) = true)
    (a4 : PySem.W.nsIn K mainGlobals "is_place_count" = some (some (.ref f4))) (l4 : K.lookup f4 = Lk "is_place_count" xE oc4 od4 kV4 dc4 pm4 an4 cd4 ct4 sl4) (c4 : PySem.W.codeIn K cd4 "is_place_count" = true) (k4 : PySem.W.keepIn K (.ref f4) = true)
    (a5 : PySem.W.nsIn K mainGlobals "is_place" = some (some (.ref f5))) (l5 : K.lookup f5 = Lk "is_place" Zu oc5 od5 kV5 dc5 pm5 an5 cd5 ct5 sl5) (c5 : PySem.W.codeIn K cd5 "is_place" = true) (k5 : PySem.W.keepIn K (.ref f5) = true)
    (a6 : PySem.W.nsIn K mainGlobals "are_counts" = some (some (.ref f6))) (l6 : K.lookup f6 = Lk "are_counts" vS oc6 od6 kV6 dc6 pm6 an6 cd6 ct6 sl6) (c6 : PySem.W.codeIn K cd6 "are_counts" = true) (k6 : PySem.W.keepIn K (.ref f6) = true)
    (a7 : PySem.W.nsIn K mainGlobals "is_pair" = some (some (.ref f7))) (l7 : K.lookup f7 = Lk "is_pair" Xi oc7 od7 kV7 dc7 pm7 an7 cd7 ct7 sl7) (c7 : PySem.W.codeIn K cd7 "is_pair" = true) (k7 : PySem.W.keepIn K (.ref f7) = true)
    (a8 : PySem.W.nsIn K mainGlobals "are_ties" = some (some (.ref f8))) (l8 : K.lookup f8 = Lk "are_ties" Zq oc8 od8 kV8 dc8 pm8 an8 cd8 ct8 sl8) (c8 : PySem.W.codeIn K cd8 "are_ties" = true) (k8 : PySem.W.keepIn K (.ref f8) = true)
    (a9 : PySem.W.nsIn K mainGlobals "is_web" = some (some (.ref f9))) (l9 : K.lookup f9 = Lk "is_web" WC oc9 od9 kV9 dc9 pm9 an9 cd9 ct9 sl9) (c9 : PySem.W.codeIn K cd9 "is_web" = true) (k9 : PySem.W.keepIn K (.ref f9) = true)
    (a10 : PySem.W.nsIn K mainGlobals "must_be_web" = some (some (.ref f10))) (l10 : K.lookup f10 = Lk "must_be_web" vm oc10 od10 kV10 dc10 pm10 an10 cd10 ct10 sl10) (c10 : PySem.W.codeIn K cd10 "must_be_web" = true) (k10 : PySem.W.keepIn K (.ref f10) = true)
    (a11 : PySem.W.nsIn K mainGlobals "must_be_place" = some (some (.ref f11))) (l11 : K.lookup f11 = Lk "must_be_place" wg oc11 od11 kV11 dc11 pm11 an11 cd11 ct11 sl11) (c11 : PySem.W.codeIn K cd11 "must_be_place" = true) (k11 : PySem.W.keepIn K (.ref f11) = true)
    (a12 : PySem.W.nsIn K mainGlobals "tie_between" = some (some (.ref f12))) (l12 : K.lookup f12 = Lk "tie_between" w6 oc12 od12 kV12 dc12 pm12 an12 cd12 ct12 sl12) (c12 : PySem.W.codeIn K cd12 "tie_between" = true) (k12 : PySem.W.keepIn K (.ref f12) = true)
    (a13 : PySem.W.nsIn K mainGlobals "neighbours" = some (some (.ref f13))) (l13 : K.lookup f13 = Lk "neighbours" vZ oc13 od13 kV13 dc13 pm13 an13 cd13 ct13 sl13) (c13 : PySem.W.codeIn K cd13 "neighbours" = true) (k13 : PySem.W.keepIn K (.ref f13) = true)
    (a14 : PySem.W.nsIn K mainGlobals "are_stones" = some (some (.ref f14))) (l14 : K.lookup f14 = Lk "are_stones" vV oc14 od14 kV14 dc14 pm14 an14 cd14 ct14 sl14) (c14 : PySem.W.codeIn K cd14 "are_stones" = true) (k14 : PySem.W.keepIn K (.ref f14) = true)
    (a15 : PySem.W.nsIn K mainGlobals "must_be_heap" = some (some (.ref f15))) (l15 : K.lookup f15 = Lk "must_be_heap" wK oc15 od15 kV15 dc15 pm15 an15 cd15 ct15 sl15) (c15 : PySem.W.codeIn K cd15 "must_be_heap" = true) (k15 : PySem.W.keepIn K (.ref f15) = true)
    (a16 : PySem.W.nsIn K mainGlobals "all_steps" = some (some (.ref f16))) (l16 : K.lookup f16 = Lk "all_steps" Yn oc16 od16 kV16 dc16 pm16 an16 cd16 ct16 sl16) (c16 : PySem.W.codeIn K cd16 "all_steps" = true) (k16 : PySem.W.keepIn K (.ref f16) = true)
    (a17 : PySem.W.nsIn K mainGlobals "stepped" = some (some (.ref f17))) (l17 : K.lookup f17 = Lk "stepped" Xc oc17 od17 kV17 dc17 pm17 an17 cd17 ct17 sl17) (c17 : PySem.W.codeIn K cd17 "stepped" = true) (k17 : PySem.W.keepIn K (.ref f17) = true)
    (a18 : PySem.W.nsIn K mainGlobals "heaps_behind" = some (some (.ref f18))) (l18 : K.lookup f18 = Lk "heaps_behind" wJ oc18 od18 kV18 dc18 pm18 an18 cd18 ct18 sl18) (c18 : PySem.W.codeIn K cd18 "heaps_behind" = true) (k18 : PySem.W.keepIn K (.ref f18) = true)
    (a19 : PySem.W.nsIn K mainGlobals "steps_to" = some (some (.ref f19))) (l19 : K.lookup f19 = Lk "steps_to" Zx oc19 od19 kV19 dc19 pm19 an19 cd19 ct19 sl19) (c19 : PySem.W.codeIn K cd19 "steps_to" = true) (k19 : PySem.W.keepIn K (.ref f19) = true)
    (a20 : PySem.W.nsIn K mainGlobals "must_be_asked" = some (some (.ref f20))) (l20 : K.lookup f20 = Lk "must_be_asked" x9 oc20 od20 kV20 dc20 pm20 an20 cd20 ct20 sl20) (c20 : PySem.W.codeIn K cd20 "must_be_asked" = true) (k20 : PySem.W.keepIn K (.ref f20) = true)
    (a21 : PySem.W.nsIn K mainGlobals "reach" = some (some (.ref f21))) (l21 : K.lookup f21 = Lk "reach" VD oc21 od21 kV21 dc21 pm21 an21 cd21 ct21 sl21) (c21 : PySem.W.codeIn K cd21 "reach" = true) (k21 : PySem.W.keepIn K (.ref f21) = true)
    (a22 : PySem.W.nsIn K mainGlobals "is_over" = some (some (.ref f22))) (l22 : K.lookup f22 = Lk "is_over" Xs oc22 od22 kV22 dc22 pm22 an22 cd22 ct22 sl22) (c22 : PySem.W.codeIn K cd22 "is_over" = true) (k22 : PySem.W.keepIn K (.ref f22) = true)
    (a23 : PySem.W.nsIn K mainGlobals "kind_good" = some (some (.ref f23))) (l23 : K.lookup f23 = Lk "kind_good" YC oc23 od23 kV23 dc23 pm23 an23 cd23 ct23 sl23) (c23 : PySem.W.codeIn K cd23 "kind_good" = true) (k23 : PySem.W.keepIn K (.ref f23) = true)
    (a24 : PySem.W.nsIn K mainGlobals "places_of" = some (some (.ref f24))) (l24 : K.lookup f24 = Lk "places_of" YM oc24 od24 kV24 dc24 pm24 an24 cd24 ct24 sl24) (c24 : PySem.W.codeIn K cd24 "places_of" = true) (k24 : PySem.W.keepIn K (.ref f24) = true)
    (a25 : PySem.W.nsIn K mainGlobals "are_tied" = some (some (.ref f25))) (l25 : K.lookup f25 = Lk "are_tied" Zw oc25 od25 kV25 dc25 pm25 an25 cd25 ct25 sl25) (c25 : PySem.W.codeIn K cd25 "are_tied" = true) (k25 : PySem.W.keepIn K (.ref f25) = true)
    (a26 : PySem.W.nsIn K mainGlobals "web_for" = some (some (.ref f26))) (l26 : K.lookup f26 = Lk "web_for" Xf oc26 od26 kV26 dc26 pm26 an26 cd26 ct26 sl26) (c26 : PySem.W.codeIn K cd26 "web_for" = true) (k26 : PySem.W.keepIn K (.ref f26) = true)
    (a27 : PySem.W.nsIn K mainGlobals "cube_of_digits" = some (some (.ref f27))) (l27 : K.lookup f27 = Lk "cube_of_digits" xJ oc27 od27 kV27 dc27 pm27 an27 cd27 ct27 sl27) (c27 : PySem.W.codeIn K cd27 "cube_of_digits" = true) (k27 : PySem.W.keepIn K (.ref f27) = true)
    (a28 : PySem.W.nsIn K mainGlobals "cube_need" = some (some (.ref f28))) (l28 : K.lookup f28 = Lk "cube_need" Yq oc28 od28 kV28 dc28 pm28 an28 cd28 ct28 sl28) (c28 : PySem.W.codeIn K cd28 "cube_need" = true) (k28 : PySem.W.keepIn K (.ref f28) = true)
    (a29 : PySem.W.nsIn K mainGlobals "cube_worst" = some (some (.ref f29))) (l29 : K.lookup f29 = Lk "cube_worst" vM oc29 od29 kV29 dc29 pm29 an29 cd29 ct29 sl29) (c29 : PySem.W.codeIn K cd29 "cube_worst" = true) (k29 : PySem.W.keepIn K (.ref f29) = true)
    (a30 : PySem.W.nsIn K mainGlobals "lessened" = some (some (.ref f30))) (l30 : K.lookup f30 = Lk "lessened" Zl oc30 od30 kV30 dc30 pm30 an30 cd30 ct30 sl30) (c30 : PySem.W.codeIn K cd30 "lessened" = true) (k30 : PySem.W.keepIn K (.ref f30) = true)
    (a31 : PySem.W.nsIn K mainGlobals "cube_steps" = some (some (.ref f31))) (l31 : K.lookup f31 = Lk "cube_steps" vX oc31 od31 kV31 dc31 pm31 an31 cd31 ct31 sl31) (c31 : PySem.W.codeIn K cd31 "cube_steps" = true) (k31 : PySem.W.keepIn K (.ref f31) = true)
    (a32 : PySem.W.nsIn K mainGlobals "_law_cell_at" = some (some (.ref f32))) (l32 : K.lookup f32 = Lk "_law_cell_at" wI oc32 od32 kV32 dc32 pm32 an32 cd32 ct32 sl32) (c32 : PySem.W.codeIn K cd32 "_law_cell_at" = true) (k32 : PySem.W.keepIn K (.ref f32) = true)
    (a33 : PySem.W.nsIn K mainGlobals "_law_same" = some (some (.ref f33))) (l33 : K.lookup f33 = Lk "_law_same" Yv oc33 od33 kV33 dc33 pm33 an33 cd33 ct33 sl33) (c33 : PySem.W.codeIn K cd33 "_law_same" = true) (k33 : PySem.W.keepIn K (.ref f33) = true)
    (a34 : PySem.W.nsIn K mainGlobals "_law_stir" = some (some (.ref f34))) (l34 : K.lookup f34 = Lk "_law_stir" Ym oc34 od34 kV34 dc34 pm34 an34 cd34 ct34 sl34) (c34 : PySem.W.codeIn K cd34 "_law_stir" = true) (k34 : PySem.W.keepIn K (.ref f34) = true)
    (a35 : PySem.W.nsIn K mainGlobals "_law_cube" = some (some (.ref f35))) (l35 : K.lookup f35 = Lk "_law_cube" YG oc35 od35 kV35 dc35 pm35 an35 cd35 ct35 sl35) (c35 : PySem.W.codeIn K cd35 "_law_cube" = true) (k35 : PySem.W.keepIn K (.ref f35) = true)
    (a36 : PySem.W.nsIn K mainGlobals "_law_some_heap" = some (some (.ref f36))) (l36 : K.lookup f36 = Lk "_law_some_heap" xD oc36 od36 kV36 dc36 pm36 an36 cd36 ct36 sl36) (c36 : PySem.W.codeIn K cd36 "_law_some_heap" = true) (k36 : PySem.W.keepIn K (.ref f36) = true)
    (a37 : PySem.W.nsIn K mainGlobals "_law_played" = some (some (.ref f37))) (l37 : K.lookup f37 = Lk "_law_played" vn oc37 od37 kV37 dc37 pm37 an37 cd37 ct37 sl37) (c37 : PySem.W.codeIn K cd37 "_law_played" = true) (k37 : PySem.W.keepIn K (.ref f37) = true)
    (a38 : PySem.W.nsIn K mainGlobals "_law_fars" = some (some (.ref f38))) (l38 : K.lookup f38 = Lk "_law_fars" Yu oc38 od38 kV38 dc38 pm38 an38 cd38 ct38 sl38) (c38 : PySem.W.codeIn K cd38 "_law_fars" = true) (k38 : PySem.W.keepIn K (.ref f38) = true)
    (a39 : PySem.W.nsIn K mainGlobals "_law_lowest" = some (some (.ref f39))) (l39 : K.lookup f39 = Lk "_law_lowest" vt oc39 od39 kV39 dc39 pm39 an39 cd39 ct39 sl39) (c39 : PySem.W.codeIn K cd39 "_law_lowest" = true) (k39 : PySem.W.keepIn K (.ref f39) = true)
    (a40 : PySem.W.nsIn K mainGlobals "_law_worth" = some (some (.ref f40))) (l40 : K.lookup f40 = Lk "_law_worth" vQ oc40 od40 kV40 dc40 pm40 an40 cd40 ct40 sl40) (c40 : PySem.W.codeIn K cd40 "_law_worth" = true) (k40 : PySem.W.keepIn K (.ref f40) = true)
    (a41 : PySem.W.nsIn K mainGlobals "_law_brings" = some (some (.ref f41))) (l41 : K.lookup f41 = Lk "_law_brings" vh oc41 od41 kV41 dc41 pm41 an41 cd41 ct41 sl41) (c41 : PySem.W.codeIn K cd41 "_law_brings" = true) (k41 : PySem.W.keepIn K (.ref f41) = true)
    (a42 : PySem.W.nsIn K mainGlobals "_law_all_heaps" = some (some (.ref f42))) (l42 : K.lookup f42 = Lk "_law_all_heaps" xC oc42 od42 kV42 dc42 pm42 an42 cd42 ct42 sl42) (c42 : PySem.W.codeIn K cd42 "_law_all_heaps" = true) (k42 : PySem.W.keepIn K (.ref f42) = true)
    (a43 : PySem.W.nsIn K mainGlobals "law" = some (some (.ref f43))) (l43 : K.lookup f43 = Lk "law" zeU oc43 od43 kV43 dc43 pm43 an43 cd43 ct43 sl43) (c43 : PySem.W.codeIn K cd43 "law" = true) (k43 : PySem.W.keepIn K (.ref f43) = true)
    (gg0 : PySem.W.nsIn K mainGlobals "MOST_PLACES" = some (some (.int 8 tk0)))
    (gg1 : PySem.W.nsIn K mainGlobals "MOST_STONES" = some (some (.int 300 tk1)))
    (gg2 : PySem.W.nsIn K mainGlobals "MOST_SEARCHED" = some (some (.int 12 tk2)))
    (sa0 : PySem.W.nsIn K mainGlobals "SIZES" = some (some (.ref sz0))) (sb0 : K.lookup sz0 = some { cls := .type "dict", data := .dict #[{ hash := hh0_0, key := .str "row" tt0_0, val := .ref rr0_0 }, { hash := hh0_1, key := .str "ring" tt0_1, val := .ref rr0_1 }, { hash := hh0_2, key := .str "cube" tt0_2, val := .ref rr0_2 }, { hash := hh0_3, key := .str "full" tt0_3, val := .ref rr0_3 }, { hash := hh0_4, key := .str "star" tt0_4, val := .ref rr0_4 }] ep0 }) (sd0 : (sz0 == sysModules) = false)
    (sc0_0 : K.lookup rr0_0 = some { cls := .type "tuple", dict := oo0_0, data := .seq #[.int 1 tu0_0_0, .int 8 tu0_0_1] nn0_0, slots := ss0_0 })
    (sc0_1 : K.lookup rr0_1 = some { cls := .type "tuple", dict := oo0_1, data := .seq #[.int 3 tu0_1_0, .int 8 tu0_1_1] nn0_1, slots := ss0_1 })
    (sc0_2 : K.lookup rr0_2 = some { cls := .type "tuple", dict := oo0_2, data := .seq #[.int 0 tu0_2_0, .int 3 tu0_2_1] nn0_2, slots := ss0_2 })
    (sc0_3 : K.lookup rr0_3 = some { cls := .type "tuple", dict := oo0_3, data := .seq #[.int 1 tu0_3_0, .int 8 tu0_3_1] nn0_3, slots := ss0_3 })
    (sc0_4 : K.lookup rr0_4 = some { cls := .type "tuple", dict := oo0_4, data := .seq #[.int 1 tu0_4_0, .int 7 tu0_4_1] nn0_4, slots := ss0_4 })
    (z0 : PySem.W.nsIn K mainGlobals "all" = some none)
    (z1 : PySem.W.nsIn K mainGlobals "bool" = some none)
    (z2 : PySem.W.nsIn K mainGlobals "enumerate" = some none)
    (z3 : PySem.W.nsIn K mainGlobals "int" = some none)
    (z4 : PySem.W.nsIn K mainGlobals "isinstance" = some none)
    (z5 : PySem.W.nsIn K mainGlobals "len" = some none)
    (z6 : PySem.W.nsIn K mainGlobals "list" = some none)
    (z7 : PySem.W.nsIn K mainGlobals "max" = some none)
    (z8 : PySem.W.nsIn K mainGlobals "min" = some none)
    (z9 : PySem.W.nsIn K mainGlobals "range" = some none)
    (z10 : PySem.W.nsIn K mainGlobals "reversed" = some none)
    (z11 : PySem.W.nsIn K mainGlobals "sorted" = some none)
    (z12 : PySem.W.nsIn K mainGlobals "str" = some none)
    (z13 : PySem.W.nsIn K mainGlobals "sum" = some none)
    (z14 : PySem.W.nsIn K mainGlobals "tuple" = some none)
    (z15 : PySem.W.nsIn K mainGlobals "zip" = some none)
    : ∃ fd : FuncData, (∀ (s : Shared) (v : Value), BindsTo s fd ⟨[v], []⟩ [("script", v)]) ∧ ∀ base : Heap, K.In base → base.Ns mainGlobals mg → yQ l.prog w K mg base CX0 30 fa fd ["script"] (zeF K) := by
  have e := hfa.symm.trans (PySem.W.mg_of X G a43)
  cases e
  have T : Txt K mg ⟨_, _, _, _, _, _, _, _, _, _, _, _, _, _, _, _, _, _, _, _, _, _, _, _, _, _, _, _, _, _, _, _, _, _, _, _, _, _, _, _, _, _, _, _, _, _, _, _, _, _, _, _, _, _, _, _, _, _, _, _, _, _, _, _, _, _, _, _, _, _, _, _, _, _, _, _, _, _, _, _, _, _, _, _, _, _, _, _, tk0, tk1, tk2, sz0⟩ := ⟨
    mkD X G a0 l0 c0 k0 (bn1 fun _ _ _ _ _ _ _ => rfl),
    mkD X G a1 l1 c1 k1 (bn3 fun _ _ _ _ _ _ _ _ _ => rfl),
    mkD X G a2 l2 c2 k2 (bn3 fun _ _ _ _ _ _ _ _ _ => rfl),
    mkD X G a3 l3 c3 k3 (bn2 fun _ _ _ _ _ _ _ _ => rfl),
    mkD X G a4 l4 c4 k4 (bn1 fun _ _ _ _ _ _ _ => rfl),
    mkD X G a5 l5 c5 k5 (bn2 fun _ _ _ _ _ _ _ _ => rfl),
    mkD X G a6 l6 c6 k6 (bn2 fun _ _ _ _ _ _ _ _ => rfl),
    mkD X G a7 l7 c7 k7 (bn2 fun _ _ _ _ _ _ _ _ => rfl),
    mkD X G a8 l8 c8 k8 (bn2 fun _ _ _ _ _ _ _ _ => rfl),
    mkD X G a9 l9 c9 k9 (bn1 fun _ _ _ _ _ _ _ => rfl),
    mkD X G a10 l10 c10 k10 (bn1 fun _ _ _ _ _ _ _ => rfl),
    mkD X G a11 l11 c11 k11 (bn2 fun _ _ _ _ _ _ _ _ => rfl),
    mkD X G a12 l12 c12 k12 (bn2 fun _ _ _ _ _ _ _ _ => rfl),
    mkD X G a13 l13 c13 k13 (bn2 fun _ _ _ _ _ _ _ _ => rfl),
    mkD X G a14 l14 c14 k14 (bn2 fun _ _ _ _ _ _ _ _ => rfl),
    mkD X G a15 l15 c15 k15 (bn2 fun _ _ _ _ _ _ _ _ => rfl),
    mkD X G a16 l16 c16 k16 (bn1 fun _ _ _ _ _ _ _ => rfl),
    mkD X G a17 l17 c17 k17 (bn2 fun _ _ _ _ _ _ _ _ => rfl),
    mkD X G a18 l18 c18 k18 (bn2 fun _ _ _ _ _ _ _ _ => rfl),
    mkD X G a19 l19 c19 k19 (bn2 fun _ _ _ _ _ _ _ _ => rfl),
    mkD X G a20 l20 c20 k20 (bn4 fun _ _ _ _ _ _ _ _ _ _ => rfl),
    mkD X G a21 l21 c21 k21 (bn4 fun _ _ _ _ _ _ _ _ _ _ => rfl),
    mkD X G a22 l22 c22 k22 (bn1 fun _ _ _ _ _ _ _ => rfl),
    mkD X G a23 l23 c23 k23 (bn1 fun _ _ _ _ _ _ _ => rfl),
    mkD X G a24 l24 c24 k24 (bn2 fun _ _ _ _ _ _ _ _ => rfl),
    mkD X G a25 l25 c25 k25 (bn4 fun _ _ _ _ _ _ _ _ _ _ => rfl),
    mkD X G a26 l26 c26 k26 (bn1 fun _ _ _ _ _ _ _ => rfl),
    mkD X G a27 l27 c27 k27 (bn1 fun _ _ _ _ _ _ _ => rfl),
    mkD X G a28 l28 c28 k28 (bn1 fun _ _ _ _ _ _ _ => rfl),
    mkD X G a29 l29 c29 k29 (bn2 fun _ _ _ _ _ _ _ _ => rfl),
    mkD X G a30 l30 c30 k30 (bn2 fun _ _ _ _ _ _ _ _ => rfl),
    mkD X G a31 l31 c31 k31 (bn3 fun _ _ _ _ _ _ _ _ _ => rfl),
    mkD X G a32 l32 c32 k32 (bn2 fun _ _ _ _ _ _ _ _ => rfl),
    mkD X G a33 l33 c33 k33 (bn2 fun _ _ _ _ _ _ _ _ => rfl),
    mkD X G a34 l34 c34 k34 (bn2 fun _ _ _ _ _ _ _ _ => rfl),
    mkD X G a35 l35 c35 k35 (bn1 fun _ _ _ _ _ _ _ => rfl),
    mkD X G a36 l36 c36 k36 (bn3 fun _ _ _ _ _ _ _ _ _ => rfl),
    mkD X G a37 l37 c37 k37 (bn3 fun _ _ _ _ _ _ _ _ _ => rfl),
    mkD X G a38 l38 c38 k38 (bn2 fun _ _ _ _ _ _ _ _ => rfl),
    mkD X G a39 l39 c39 k39 (bn2 fun _ _ _ _ _ _ _ _ => rfl),
    mkD X G a40 l40 c40 k40 (bn3 fun _ _ _ _ _ _ _ _ _ => rfl),
    mkD X G a41 l41 c41 k41 (bn3 fun _ _ _ _ _ _ _ _ _ => rfl),
    mkD X G a42 l42 c42 k42 (bn2 fun _ _ _ _ _ _ _ _ => rfl),
    mkD X G a43 l43 c43 k43 (bn1 fun _ _ _ _ _ _ _ => rfl),
    PySem.W.mg_of X G gg0,
    PySem.W.mg_of X G gg1,
    PySem.W.mg_of X G gg2,
    PySem.W.mg_none_of X G z0,
    PySem.W.mg_none_of X G z1,
    PySem.W.mg_none_of X G z2,
    PySem.W.mg_none_of X G z3,
    PySem.W.mg_none_of X G z4,
    PySem.W.mg_none_of X G z5,
    PySem.W.mg_none_of X G z6,
    PySem.W.mg_none_of X G z7,
    PySem.W.mg_none_of X G z8,
    PySem.W.mg_none_of X G z9,
    PySem.W.mg_none_of X G z10,
    PySem.W.mg_none_of X G z11,
    PySem.W.mg_none_of X G z12,
    PySem.W.mg_none_of X G z13,
    PySem.W.mg_none_of X G z14,
    PySem.W.mg_none_of X G z15,
    PySem.W.mg_of X G sa0,
    fun h hK => ⟨sd0, _, _, _, hK _ _ sb0, ⟨rfl, rfl, rfl⟩, rfl, (.cons rfl ⟨_, _, rfl, ⟨_, hK _ _ sc0_0, rfl, _, rfl⟩, (.cons (.int _ _) (.cons (.int _ _) .nil))⟩ (.cons rfl ⟨_, _, rfl, ⟨_, hK _ _ sc0_1, rfl, _, rfl⟩, (.cons (.int _ _) (.cons (.int _ _) .nil))⟩ (.cons rfl ⟨_, _, rfl, ⟨_, hK _ _ sc0_2, rfl, _, rfl⟩, (.cons (.int _ _) (.cons (.int _ _) .nil))⟩ (.cons rfl ⟨_, _, rfl, ⟨_, hK _ _ sc0_3, rfl, _, rfl⟩, (.cons (.int _ _) (.cons (.int _ _) .nil))⟩ (.cons rfl ⟨_, _, rfl, ⟨_, hK _ _ sc0_4, rfl, _, rfl⟩, (.cons (.int _ _) (.cons (.int _ _) .nil))⟩ .nil)))))⟩⟩
  exact ⟨_, fun s v => .of_eq rfl, fun base _ _ => zi7 T⟩
theorem walk {l : PySem.W.OpenLaw} {q : Program} {loose : List Str} {XP : (Str → Option Value) → Heap → Prop} {YP : World → Heap → Prop} {d : DefRec} {K : Params → PySem.W.Frag} (hn : l.most = some 63) (hdf : d.params.defaults = [])
    (hY : ∀ (w : World) (h : Heap), YP w h → (K w.params).In h)
    (F : ∀ (w : World) (mg : Str → Option Value) (fa : Addr) (h : Heap), (K w.params).In h → h.Ns mainGlobals mg → mg d.name = some (.ref fa) →
      ∃ fd : FuncData, (∀ (s : Shared) (u : Value), BindsTo s fd ⟨[u], []⟩ [("script", u)]) ∧ ∀ base : Heap, (K w.params).In base → base.Ns mainGlobals mg → yQ l.prog w (K w.params) mg base CX0 30 fa fd ["script"] (zeF (K w.params))) :
    PySem.W.WalkO q loose XP YP l.row.toRowW d [] (fun f vs => PySem.call f vs) :=
  L2.walk_of (n := 63) (k := 30) (x := "script") (CX := fun _ => CX0) (sp := fun w => zeF (K w.params)) hn (by decide) hdf ⟨rfl, by decide, by decide⟩ hY F (fun _ _ a ns hl _ hS => ⟨a, ns, rfl, hS, hl, fun _ => rfl⟩) fun _ _ _ _ _ z => z
end Mz
open PySem PySem.W PyProof.Rows
theorem PySem.W.Fast.tw16127324202087120681:True:=⟨⟩
theorem PySem.W.Fast.tw18431692965313518863:True:=⟨⟩
theorem PySem.W.Fast.tw14042367948310698630:True:=⟨⟩
theorem PySem.W.Fast.tw15667939373693885465:True:=⟨⟩
theorem PySem.W.Fast.tw933411203773937338:True:=⟨⟩
theorem PySem.W.Fast.tw14249270750208333978:True:=⟨⟩
theorem PySem.W.Fast.tw6988544367750434608:True:=⟨⟩
theorem PySem.W.Fast.tw6528389454370046698:True:=⟨⟩
theorem PySem.W.Fast.tw4052687277727330491:True:=⟨⟩
theorem PySem.W.Fast.tw5581583628936570258:True:=⟨⟩
theorem PySem.W.Fast.tw17120438658526839724:True:=⟨⟩
theorem PySem.W.Fast.tw8455598947548198581:True:=⟨⟩
theorem PySem.W.Fast.tw7025926427471531666:True:=⟨⟩
theorem PySem.W.Fast.tw10971877173755443043:True:=⟨⟩
theorem PySem.W.Fast.tw1468833108180363791:True:=⟨⟩
theorem PySem.W.Fast.tw8015714320921674399:True:=⟨⟩
theorem PySem.W.Fast.tw14990386642583810889:True:=⟨⟩
theorem PySem.W.Fast.tw13754783906229481181:True:=⟨⟩
theorem PySem.W.Fast.tw13951790786034699013:True:=⟨⟩
theorem PySem.W.Fast.tw996311049096581634:True:=⟨⟩
theorem PySem.W.Fast.tw6257126288745942410:True:=⟨⟩
theorem PySem.W.Fast.tw1932091515329156344:True:=⟨⟩
theorem PySem.W.Fast.tw5888505889678438504:True:=⟨⟩
theorem PySem.W.Fast.tw7989898252548519408:True:=⟨⟩
theorem PySem.W.Fast.tw1499333041956608701:True:=⟨⟩
set_option maxRecDepth 100000 in
set_option maxHeartbeats 0 in
theorem PySem.Challenge.cw_twoforone_k55_whole_cubes_are_reached_holds : PySem.Challenge.rw_twoforone_k55_whole_cubes_are_reached.Holds := by
  w_on; o_law; k_head; (case hw => w_witness2)
  k_fill
  refine Mz.walk (l := PySem.Challenge.rw_twoforone_k55_whole_cubes_are_reached) rfl rfl (fun w h Y => PySem.W.kIn_of Y) ?F
  case F =>
    intro w mg fa h KX G hmg
    refine' Mz.all_mk KX G hmg ?a0 ?l0 ?c0 ?k0 ?a1 ?l1 ?c1 ?k1 ?a2 ?l2 ?c2 ?k2 ?a3 ?l3 ?c3 ?k3 ?a4 ?l4 ?c4 ?k4 ?a5 ?l5 ?c5 ?k5 ?a6 ?l6 ?c6 ?k6 ?a7 ?l7 ?c7 ?k7 ?a8 ?l8 ?c8 ?k8 ?a9 ?l9 ?c9 ?k9 ?a10 ?l10 ?c10 ?k10 ?a11 ?l11 ?c11 ?k11 ?a12 ?l12 ?c12 ?k12 ?a13 ?l13 ?c13 ?k13 ?a14 ?l14 ?c14 ?k14 ?a15 ?l15 ?c15 ?k15 ?a16 ?l16 ?c16 ?k16 ?a17 ?l17 ?c17 ?k17 ?a18 ?l18 ?c18 ?k18 ?a19 ?l19 ?c19 ?k19 ?a20 ?l20 ?c20 ?k20 ?a21 ?l21 ?c21 ?k21 ?a22 ?l22 ?c22 ?k22 ?a23 ?l23 ?c23 ?k23 ?a24 ?l24 ?c24 ?k24 ?a25 ?l25 ?c25 ?k25 ?a26 ?l26 ?c26 ?k26 ?a27 ?l27 ?c27 ?k27 ?a28 ?l28 ?c28 ?k28 ?a29 ?l29 ?c29 ?k29 ?a30 ?l30 ?c30 ?k30 ?a31 ?l31 ?c31 ?k31 ?a32 ?l32 ?c32 ?k32 ?a33 ?l33 ?c33 ?k33 ?a34 ?l34 ?c34 ?k34 ?a35 ?l35 ?c35 ?k35 ?a36 ?l36 ?c36 ?k36 ?a37 ?l37 ?c37 ?k37 ?a38 ?l38 ?c38 ?k38 ?a39 ?l39 ?c39 ?k39 ?a40 ?l40 ?c40 ?k40 ?a41 ?l41 ?c41 ?k41 ?a42 ?l42 ?c42 ?k42 ?a43 ?l43 ?c43 ?k43 ?gg0 ?gg1 ?gg2 ?sa0 ?sb0 ?sd0 ?sc0_0 ?sc0_1 ?sc0_2 ?sc0_3 ?sc0_4 ?z0 ?z1 ?z2 ?z3 ?z4 ?z5 ?z6 ?z7 ?z8 ?z9 ?z10 ?z11 ?z12 ?z13 ?z14 ?z15
    case a0 | l0 | c0 | k0 | a1 | l1 | c1 | k1 | a2 | l2 | c2 | k2 | a3 | l3 | c3 | k3 | a4 | l4 | c4 | k4 | a5 | l5 | c5 | k5 | a6 | l6 | c6 | k6 | a7 | l7 | c7 | k7 | a8 | l8 | c8 | k8 | a9 | l9 | c9 | k9 | a10 | l10 | c10 | k10 | a11 | l11 | c11 | k11 | a12 | l12 | c12 | k12 | a13 | l13 | c13 | k13 | a14 | l14 | c14 | k14 | a15 | l15 | c15 | k15 | a16 | l16 | c16 | k16 | a17 | l17 | c17 | k17 | a18 | l18 | c18 | k18 | a19 | l19 | c19 | k19 | a20 | l20 | c20 | k20 | a21 | l21 | c21 | k21 | a22 | l22 | c22 | k22 | a23 | l23 | c23 | k23 | a24 | l24 | c24 | k24 | a25 | l25 | c25 | k25 | a26 | l26 | c26 | k26 | a27 | l27 | c27 | k27 | a28 | l28 | c28 | k28 | a29 | l29 | c29 | k29 | a30 | l30 | c30 | k30 | a31 | l31 | c31 | k31 | a32 | l32 | c32 | k32 | a33 | l33 | c33 | k33 | a34 | l34 | c34 | k34 | a35 | l35 | c35 | k35 | a36 | l36 | c36 | k36 | a37 | l37 | c37 | k37 | a38 | l38 | c38 | k38 | a39 | l39 | c39 | k39 | a40 | l40 | c40 | k40 | a41 | l41 | c41 | k41 | a42 | l42 | c42 | k42 | a43 | l43 | c43 | k43 | gg0 | gg1 | gg2 | sa0 | sb0 => k_is
    case sd0 => decide
    case sc0_0 | sc0_1 | sc0_2 | sc0_3 | sc0_4 | z0 | z1 | z2 | z3 | z4 | z5 | z6 | z7 | z8 | z9 | z10 | z11 | z12 | z13 | z14 | z15 => k_is
