import PyProof.Rows.All
import Wide.All
import OpenK.AllK
import Wide.FinOn
import Lean
import PyProof.EqAt
import PyProof.EqKinds
import PyProof.TupleCall
import PyProof.NeKinds
import PySem.Challenge.RW_twoforone_k63_need_of_all_places
set_option Elab.async false
set_option linter.all false
set_option maxRecDepth 100000
set_option maxHeartbeats 4000000
namespace L2
open PySem PySem.Spec PyProof.Rows
noncomputable abbrev Key := Sum Int Str
noncomputable def zdK : Key → Value → Bool
  | .inl k, v => Value.isInt k v
  | .inr x, v => Value.isStrOf x v
noncomputable def keyH (w : World) : Key → Int
  | .inl k => hashInt k
  | .inr x => hashStr w x
theorem zY : ∀ {k : Key} {v : Value}, zdK k v = true → (∃ i t, k = Sum.inl i ∧ v = Value.int i t) ∨ (∃ x t, k = Sum.inr x ∧ v = Value.str x t)
  | .inl i, v, h => by
    obtain ⟨t, e⟩ := Value.isInt_shape (k := i) (v := v) h
    exact .inl ⟨i, t, rfl, e⟩
  | .inr x, v, h => by
    obtain ⟨t, e⟩ := Value.isStrOf_shape (x := x) (v := v) h
    exact .inr ⟨x, t, rfl, e⟩
theorem zfj (i : Int) (t : Tok) : zdK (.inl i) (.int i t) = true := by simp [zdK, Value.isInt]
theorem zfG (x : Str) (t : Tok) : zdK (.inr x) (.str x t) = true := by simp [zdK, Value.isStrOf]
theorem zkj (a b : Int) : decide ((Sum.inl a : Key) = Sum.inl b) = (a == b) := by
  by_cases e : a = b
  · subst e; simp
  · have h : ¬ (Sum.inl a : Key) = Sum.inl b := fun q => e (Sum.inl.inj q)
    rw [decide_eq_false h]
    exact (beq_eq_false_iff_ne.mpr e).symm
theorem zkM (a b : Str) : decide ((Sum.inr a : Key) = Sum.inr b) = decide (a = b) := by
  by_cases e : a = b
  · subst e; simp
  · have h : ¬ (Sum.inr a : Key) = Sum.inr b := fun q => e (Sum.inr.inj q)
    rw [decide_eq_false h, decide_eq_false e]
theorem zkd (a : Int) (b : Str) : decide ((Sum.inl a : Key) = Sum.inr b) = false := decide_eq_false (fun q => nomatch q)
theorem zkr (a : Str) (b : Int) : decide ((Sum.inr a : Key) = Sum.inl b) = false := decide_eq_false (fun q => nomatch q)
noncomputable def yC (prog : Program) (w : World) : PySem.KeyKind prog w Key where
  is := zdK
  hash := keyH w
  inj := fun v a b ha hb => by
    rcases zY ha with ⟨i, t, rfl, rfl⟩ | ⟨x, t, rfl, rfl⟩
    · rcases zY hb with ⟨j, u, rfl, e⟩ | ⟨y, u, rfl, e⟩
      · injection e with e1 _; rw [e1]
      · exact nomatch e
    · rcases zY hb with ⟨j, u, rfl, e⟩ | ⟨y, u, rfl, e⟩
      · exact nomatch e
      · injection e with e1 _; rw [e1]
  byValue := fun k v h => by
    rcases zY h with ⟨i, t, rfl, rfl⟩ | ⟨x, t, rfl, rfl⟩ <;> rfl
  pyHash := fun hv h => by
    rcases zY hv with ⟨i, t, rfl, rfl⟩ | ⟨x, t, rfl, rfl⟩
    · exact wpAny_pyHash_int h
    · exact wpAny_pyHash_str h
  eqBool := fun hu hv h => by
    rcases zY hu with ⟨i, t, rfl, rfl⟩ | ⟨x, t, rfl, rfl⟩
    · rcases zY hv with ⟨j, u, rfl, rfl⟩ | ⟨y, u, rfl, rfl⟩
      · rw [zkj] at h; exact wpAny_eqBool_int h
      · rw [zkd] at h; exact SeqAt.EqAt.int_str i t y u _ _ _ _ h
    · rcases zY hv with ⟨j, u, rfl, rfl⟩ | ⟨y, u, rfl, rfl⟩
      · rw [zkr] at h; exact SeqAt.EqAt.str_int x t j u _ _ _ _ h
      · rw [zkM] at h; exact wpAny_eqBool_str h
  «strs» := fun k x t v h => by
    rcases zY h with ⟨i, u, rfl, e⟩ | ⟨y, u, rfl, e⟩
    · exact nomatch e
    · injection e with e1 _
      subst e1
      cases v <;> rfl
theorem zcE (prog : Program) (w : World) (i : Int) (t : Tok) : (yC prog w).is (.inl i) (.int i t) = true := zfj i t
theorem zbb (prog : Program) (w : World) (x : Str) (t : Tok) : (yC prog w).is (.inr x) (.str x t) = true := zfG x t
end L2
namespace L2
open PySem PySem.Spec PyProof.Rows
inductive V where
  | non | bl (b : Bool) | int (i : Int) | str (x : Str) | byt (b : Array UInt8) | flt (b : UInt64) | ref (a : Addr) | ty (n : String)
  deriving DecidableEq
noncomputable def yO : V → Value → Prop
  | .non, u => u = Value.none
  | .bl b, u => u = Value.bool b
  | .int i, u => ∃ t, u = Value.int i t
  | .str x, u => ∃ t, u = Value.str x t
  | .byt b, u => ∃ t, u = Value.bytes b t
  | .flt b, u => ∃ t, u = Value.float b t
  | .ref a, u => u = Value.ref a
  | .ty n, u => u = Value.type n
noncomputable abbrev yx : List V → List Value → Prop := Paired yO
theorem yx.length {xs : List V} {us : List Value} (r : yx xs us) : xs.length = us.length := Paired.length r
theorem yx.get : ∀ {xs : List V} {us : List Value} {i : Nat} {x : V}, yx xs us → xs[i]? = some x → ∃ u, us[i]? = some u ∧ yO x u
  | _, _, _, _, .nil, e => by simp at e
  | _, _, 0, _, .cons r _, e => by simp at e; subst e; exact ⟨_, rfl, r⟩
  | _, _, i + 1, x, .cons _ t, e => by
    obtain ⟨u, h1, h2⟩ := yx.get (i := i) (x := x) t (by simpa using e)
    exact ⟨u, by simpa using h1, h2⟩
theorem yx.set {x : V} {u : Value} (r : yO x u) : ∀ {xs : List V} {us : List Value} (i : Nat), yx xs us → yx (xs.set i x) (us.set i u)
  | _, _, _, .nil => .nil
  | _, _, 0, .cons _ t => .cons r t
  | _, _, i + 1, .cons q t => .cons q (yx.set r i t)
theorem yx.append : ∀ {xs ys : List V} {us ws : List Value}, yx xs us → yx ys ws → yx (xs ++ ys) (us ++ ws) := by
  intro xs ys us ws h s
  induction h with
  | nil => exact s
  | cons r t ih => exact .cons r ih
theorem yx.take : ∀ {xs : List V} {us : List Value} (n : Nat), yx xs us → yx (xs.take n) (us.take n)
  | _, _, 0, _ => .nil
  | _, _, _ + 1, .nil => .nil
  | _, _, n + 1, .cons r t => .cons r (yx.take n t)
theorem yx.drop : ∀ {xs : List V} {us : List Value} (n : Nat), yx xs us → yx (xs.drop n) (us.drop n)
  | _, _, 0, r => r
  | _, _, _ + 1, .nil => .nil
  | _, _, n + 1, .cons _ t => yx.drop n t
noncomputable def ziP : Option V → Option Value → Prop
  | some v, some u => yO v u
  | none, none => True
  | _, _ => False
noncomputable def KV {κ : Type} : List (κ × V) → List (κ × Value) → Prop := Paired fun (p : κ × V) (q : κ × Value) => p.1 = q.1 ∧ yO p.2 q.2
noncomputable def kV : Key → V
  | .inl i => .int i
  | .inr x => .str x
inductive HO where
    | lst (xs : List V)
    | tup (xs : List V)
    | dK (kvs : List (Key × V)) | dT (kvs : List (List Key × V))
    | set (S : Int → Bool) (n : Nat)
    | ins (C dx : Addr) (fs : List (Str × V))
    | own (x : Addr)
    | xd (fs : List (Str × V))
    | met (f x : Addr)
    | rng (lo hi : Int)
    | frz (o : Obj) (u : HO)
    | tbl (ps : Array Value)
    | ext (φ : Heap → Prop)
noncomputable abbrev Hp := Addr → Option HO
noncomputable def upd (H : Hp) (a : Addr) (o : HO) : Hp := fun b => if b = a then some o else H b
theorem zo {H : Hp} {a : Addr} {o : HO} : upd H a o a = some o := by unfold upd; rw [if_pos rfl]
theorem zp {H : Hp} {a b : Addr} {o : HO} (h : b ≠ a) : upd H a o b = H b := by unfold upd; rw [if_neg h]
theorem zcb {H : Hp} {a : Addr} {o u : HO} : upd (upd H a o) a u = upd H a u := by
  funext b; unfold upd; split <;> rfl
theorem ze8 {H : Hp} {a b : Addr} {o u : HO} (h : H a = some o) (h' : H b = some u) (d : o ≠ u) : a ≠ b := by
  intro e; subst e; rw [h] at h'; exact d (Option.some.inj h')
theorem zj {H : Hp} {a b : Addr} {o : HO} (h : H a = some o) (h' : H b = none) : a ≠ b := by
  intro e; subst e; rw [h] at h'; cases h'
section
variable (P : Program) (w : World)
noncomputable def yK (H : Hp) (h : Heap) (a : Addr) : HO → Prop
  | .lst xs => xs.length ≤ sizeLine ∧ ∃ (its : List Value) (n : Nat), yx xs its ∧ h.get? a = some { cls := .type "list", data := .seq its.toArray n }
  | .tup xs => xs.length ≤ sizeLine ∧ ∃ its : List Value, yx xs its ∧ IsTup h a its.toArray
  | .dK kvs => kvs.length ≤ sizeLine ∧ (a == sysModules) = false ∧ ∃ vs, KV kvs vs ∧ h.DictOf (yC P w) a vs
  | .dT kvs => kvs.length ≤ sizeLine ∧ (a == sysModules) = false ∧ ∃ xs : List (List Key × Addr × Value),
      Paired (fun (p : List Key × V) (q : List Key × Addr × Value) => p.1 = q.1 ∧ H q.2.1 = some (.tup (p.1.map kV)) ∧ yO p.2 q.2.2) kvs xs ∧
      ∃ o es ep, h.get? a = some o ∧ o.ExactDict ∧ o.data = .dict es ep ∧ es.toList = xs.map (entryOfKey (tupleKind (yC P w))) ∧ (xs.map (·.1)).Nodup
  | .set S n => h.SetOf (intKind P w) a S n
  | .ins C dx fs => H dx = some (.own a) ∧ fs.length ≤ 1000 ∧ dx ≠ a ∧ h.get? a = some (PySem.W.instObj C dx) ∧
      ∃ mA, h.Ns1 dx mA ∧ (∀ f, ziP (fs.lookup f) (mA f)) ∧ PySem.Within mA (fs.map (·.1))
  | .own _ => ∃ o, h.get? a = some o
  | .xd fs => ∃ mA, h.Ns1 a mA ∧ ∀ f, ziP (fs.lookup f) (mA f)
  | .rng lo hi => ∃ t u v, h.get? a = some { cls := .type "range", data := .fields #[.int lo t, .int hi u, .int 1 v] }
  | .frz o u => h.get? a = some o ∧ yK H h a u
  | .tbl ps => h.get? a = some { cls := .none, data := .fields ps }
  | .met f x => h.get? a = some (PySem.W.methodObj (.ref f) (.ref x))
  | .ext φ => φ h ∧ (∃ o, h.get? a = some o) ∧ ∀ h1 h2 : Heap, φ h1 → (∀ o, h1.get? a = some o → h2.get? a = some o) → φ h2
noncomputable def HOk (H : Hp) (h : Heap) : Prop := ∀ a o, H a = some o → yK P w H h a o
end
section
variable {P : Program} {w : World} {H H' : Hp} {h h' : Heap} {a : Addr} {o : HO}
theorem yK.lt (x : yK P w H h a o) : a < h.objs.size := by
  cases o with
  | lst xs => obtain ⟨_, _, _, _, e⟩ := x; exact Heap.lt_size e
  | tup xs => obtain ⟨_, _, _, p⟩ := x; exact p.lt
  | dK kvs => obtain ⟨_, _, _, _, o, _, _, e, _⟩ := x; exact Heap.lt_size e
  | dT kvs => obtain ⟨_, _, _, _, o, _, _, e, _⟩ := x; exact Heap.lt_size e
  | set S n => obtain ⟨o, _, _, _, e, _⟩ := x; exact Heap.lt_size e
  | ins C dx fs => obtain ⟨_, _, _, e, _⟩ := x; exact Heap.lt_size e
  | own y => obtain ⟨_, e⟩ := x; exact Heap.lt_size e
  | xd fs => obtain ⟨_, ⟨_, _, _, e, _⟩, _⟩ := x; exact Heap.lt_size e
  | rng lo hi => obtain ⟨_, _, _, e⟩ := x; exact Heap.lt_size e
  | frz ob u => obtain ⟨e, _⟩ := x; exact Heap.lt_size e
  | tbl ps => exact Heap.lt_size (show h.get? a = some _ from x)
  | met f y => exact Heap.lt_size (show h.get? a = some _ from x)
  | ext φ => obtain ⟨_, ⟨_, e⟩, _⟩ := x; exact Heap.lt_size e
theorem Paired.mapP {α β : Type} {F G : α → β → Prop} : ∀ {l₁ : List α} {l₂ : List β}, Paired F l₁ l₂ → (∀ a b, F a b → G a b) → Paired G l₁ l₂ := by
  intro l1 l2 h f
  induction h with
  | nil => exact .nil
  | cons r t ih => exact .cons (f _ _ r) ih
theorem yK.stay (x : yK P w H h a o) (k : ∀ b u, (b = a ∨ H b = some (.own a)) → h.get? b = some u → h'.get? b = some u)
    (ho : ∀ b, H b = some (.own a) → H' b = some (.own a)) (ht : ∀ b xs, H b = some (.tup xs) → H' b = some (.tup xs)) : yK P w H' h' a o := by
  induction o with
  | lst xs => obtain ⟨z, its, n, r, e⟩ := x; exact ⟨z, its, n, r, k _ _ (.inl rfl) e⟩
  | tup xs => obtain ⟨z, its, r, ob, e, c⟩ := x; exact ⟨z, its, r, ob, k _ _ (.inl rfl) e, c⟩
  | dK kvs => obtain ⟨z, y, vs, r, ob, es, ep, e, c⟩ := x; exact ⟨z, y, vs, r, ob, es, ep, k _ _ (.inl rfl) e, c⟩
  | dT kvs =>
    obtain ⟨z, y, xs, r, ob, es, ep, e, c⟩ := x
    exact ⟨z, y, xs, Paired.mapP r fun p q z => ⟨z.1, ht _ _ z.2.1, z.2.2⟩, ob, es, ep, k _ _ (.inl rfl) e, c⟩
  | set S n => obtain ⟨ob, es, ep, t, e, c⟩ := x; exact ⟨ob, es, ep, t, k _ _ (.inl rfl) e, c⟩
  | ins C dx fs =>
    obtain ⟨d, z, ne, e, mA, ⟨od, es, ep, e2, c⟩, r⟩ := x
    exact ⟨ho _ d, z, ne, k _ _ (.inl rfl) e, mA, ⟨od, es, ep, k _ _ (.inr d) e2, c⟩, r⟩
  | own y => obtain ⟨ob, e⟩ := x; exact ⟨ob, k _ _ (.inl rfl) e⟩
  | xd fs => obtain ⟨mA, ⟨od, es, ep, e, c⟩, r⟩ := x; exact ⟨mA, ⟨od, es, ep, k _ _ (.inl rfl) e, c⟩, r⟩
  | rng lo hi => obtain ⟨t, u, v, e⟩ := x; exact ⟨t, u, v, k _ _ (.inl rfl) e⟩
  | frz ob u ih => obtain ⟨e, q⟩ := x; exact ⟨k _ _ (.inl rfl) e, ih q⟩
  | tbl ps =>
    have e : h.get? a = some { cls := .none, data := .fields ps } := x
    show h'.get? a = some { cls := .none, data := .fields ps }
    exact k a _ (.inl rfl) e
  | met f y =>
    have e : h.get? a = some (PySem.W.methodObj (.ref f) (.ref y)) := x
    show h'.get? a = some (PySem.W.methodObj (.ref f) (.ref y))
    exact k a _ (.inl rfl) e
  | ext φ => obtain ⟨p, ⟨o, e⟩, st⟩ := x; exact ⟨st _ _ p fun o q => k _ _ (.inl rfl) q, ⟨o, k _ _ (.inl rfl) e⟩, st⟩
theorem HOk.lt (x : HOk P w H h) (e : H a = some o) : a < h.objs.size := (x a o e).lt
theorem HOk.fresh (x : HOk P w H h) (e : h.objs.size ≤ a) : H a = none := by
  cases q : H a with
  | none => rfl
  | some u => exact absurd (Nat.lt_of_lt_of_le (x.lt q) e) (Nat.lt_irrefl _)
theorem HOk.kept (x : HOk P w H h) (k : ∀ b u, h.get? b = some u → h'.get? b = some u) : HOk P w H h' := fun a o e =>
  (x a o e).stay (fun b u _ q => k b u q) (fun _ q => q) fun _ _ q => q
theorem HOk.laid (x : HOk P w H h) (k : ∀ b u, h.get? b = some u → h'.get? b = some u) (hp : h.objs.size ≤ a) (new : yK P w (upd H a o) h' a o) : HOk P w (upd H a o) h' := fun b u e => by
  have hn := x.fresh hp
  by_cases hb : b = a
  · subst hb; rw [zo] at e; cases e; exact new
  · rw [zp hb] at e
    exact (x b u e).stay (fun c v _ q => k c v q) (fun c q => by rw [zp (zj q hn)]; exact q) fun c xs q => by rw [zp (zj q hn)]; exact q
end
noncomputable def Rd (H : Hp) (a : Addr) (u : HO) : Prop := H a = some u ∨ ∃ o, H a = some (.frz o u)
theorem Rd.ok {P : Program} {w : World} {H : Hp} {h : Heap} {a : Addr} {u : HO} (r : Rd H a u) (x : HOk P w H h) : yK P w H h a u := by
  rcases r with r | ⟨o, r⟩
  · exact x a u r
  · obtain ⟨_, q⟩ := x a _ r
    exact q
noncomputable def Mut : Option HO → Prop
  | some (.lst _) => True
  | some (.dK _) => True
  | some (.dT _) => True
  | some (.set _ _) => True
  | some (.ins _ _ _) => True
  | some (.ext _) => True
  | _ => False
section
variable {P : Program} {w : World} {H : Hp} {h h' : Heap} {x e : Addr} {o' : HO}
theorem HOk.write (ok : HOk P w H h) (mu : Mut (H x)) (he : e = x ∨ H e = some (.own x)) (k : ∀ b u, b ≠ e → h.get? b = some u → h'.get? b = some u) (heo : ∃ u, h'.get? e = some u)
    (new : yK P w (upd H x o') h' x o') : HOk P w (upd H x o') h' := fun b u q => by
  have nown : ∀ c y, H c = some (.own y) → c ≠ x := fun c y r z => by subst z; rw [r] at mu; exact mu
  have ntup : ∀ c xs, H c = some (.tup xs) → c ≠ x := fun c xs r z => by subst z; rw [r] at mu; exact mu
  by_cases hb : b = x
  · subst hb; rw [zo] at q; cases q; exact new
  · rw [zp hb] at q
    by_cases hbe : b = e
    · have q' : H b = some (.own x) := by
        rcases he with z | z
        · exact absurd (hbe.trans z) hb
        · rw [hbe]; exact z
      rw [q] at q'; cases q'
      obtain ⟨v, hv⟩ := heo
      exact ⟨v, by rw [hbe]; exact hv⟩
    · refine (ok b u q).stay (fun c v hc r => k c v ?_ r) (fun c r => by rw [zp (nown c b r)]; exact r) fun c xs r => by rw [zp (ntup c xs r)]; exact r
      rcases hc with rfl | hc
      · exact hbe
      · rintro rfl
        rcases he with z | z
        · exact nown c b hc z
        · rw [hc] at z; cases z; exact hb rfl
end
set_option genInjectivity false in
set_option genSizeOf false in
set_option genCtorIdx false in
structure Un (fs ex : List Addr) (H H' : Hp) (h h' : Heap) : Prop where
  keep : ∀ b o, h.get? b = some o → H b = none → b ∉ fs → b ∉ ex → h'.get? b = some o
  slot : ∀ b o, h.get? b = some o → H b = none → b ∈ fs → b ∉ ex → ∃ sl, h'.get? b = some { o with slots := sl }
  free : ∀ b o, h.get? b = some o → H b = none → b ∉ ex → H' b = none
  there : ∀ b o, h.get? b = some o → b ∉ ex → ∃ o', h'.get? b = some o'
  tups : ∀ b xs, H b = some (.tup xs) → H' b = some (.tup xs)
  frzs : ∀ b o u, H b = some (.frz o u) → H' b = some (.frz o u)
  tbls : ∀ b ps, H b = some (.tbl ps) → ∃ more, H' b = some (.tbl (ps ++ more))
section
variable {fs fs' ex ex' : List Addr} {H H1 H2 : Hp} {h h1 h2 h' : Heap} {a x e : Addr} {o : HO}
theorem Un.any (u : Un fs ex H H1 h h1) {b : Addr} {ob : Obj} (q : h.get? b = some ob) (n : H b = none) (hx : b ∉ ex) : ∃ sl, h1.get? b = some { ob with slots := sl } := by
  by_cases hb : b ∈ fs
  · exact u.slot b ob q n hb hx
  · exact ⟨ob.slots, u.keep b ob q n hb hx⟩
theorem Un.kept (k : ∀ b u, h.get? b = some u → h'.get? b = some u) : Un fs ex H H h h' :=
  ⟨fun b ob q _ _ _ => k b ob q, fun b ob q _ _ _ => ⟨ob.slots, k b ob q⟩, fun _ _ _ n _ => n, fun b ob q _ => ⟨ob, k b ob q⟩, fun _ _ q => q, fun _ _ _ q => q, fun _ ps q => ⟨#[], by rw [q]; simp⟩⟩
theorem Un.refl : Un fs ex H H h h := Un.kept fun _ _ q => q
theorem Un.laid (k : ∀ b u, h.get? b = some u → h'.get? b = some u) (hp : h.objs.size ≤ a) (hn : H a = none) : Un fs ex H (upd H a o) h h' where
  keep := fun b u q _ _ _ => k b u q
  slot := fun b u q _ _ _ => ⟨u.slots, k b u q⟩
  free := fun b u q n _ => by rw [zp (Nat.ne_of_lt (Nat.lt_of_lt_of_le (Heap.lt_size q) hp))]; exact n
  there := fun b u q _ => ⟨u, k b u q⟩
  tups := fun b xs q => by rw [zp (zj q hn)]; exact q
  frzs := fun b u xs q => by rw [zp (zj q hn)]; exact q
  tbls := fun b ps q => ⟨#[], by rw [zp (zj q hn), q]; simp⟩
theorem Un.write (mu : Mut (H x)) (he : e = x ∨ H e = some (.own x)) (k : ∀ b u, b ≠ e → h.get? b = some u → h'.get? b = some u) (heo : ∃ u, h'.get? e = some u) : Un fs ex H (upd H x o) h h' := by
  have hx : ∀ b, H b = none → b ≠ x := fun b n z => by subst z; rw [n] at mu; exact mu
  have hb : ∀ b, H b = none → b ≠ e := fun b n z => by
    subst z
    rcases he with r | r
    · exact hx b n r
    · rw [n] at r; cases r
  have hm : ∀ b u, H b = some u → ¬ Mut (some u) → b ≠ x := fun b u q nm z => by subst z; rw [q] at mu; exact nm mu
  refine ⟨fun b u q n _ _ => k b u (hb b n) q, fun b u q n _ _ => ⟨u.slots, k b u (hb b n) q⟩, fun b u q n _ => by rw [zp (hx b n)]; exact n, fun b u q _ => ?_,
    fun b xs q => by rw [zp (hm b _ q fun z => z)]; exact q, fun b u xs q => by rw [zp (hm b _ q fun z => z)]; exact q, fun b ps q => ⟨#[], by rw [zp (hm b _ q fun z => z), q]; simp⟩⟩
  by_cases hbe : b = e
  · subst hbe; exact heo
  · exact ⟨u, k b u hbe q⟩
end
noncomputable def trk (h : Heap) (H : Hp) : List Addr := (List.range h.objs.size).filter fun a => (H a).isSome
noncomputable def zf1 (h : Heap) (H : Hp) : Heap := PySem.W.hideAll h (trk h H)
theorem ze5 (h : Heap) (H : Hp) : (zf1 h H).objs.size = h.objs.size := PySem.W.hideAll_size _ _
theorem zge {h : Heap} {H : Hp} {b : Addr} {o : Obj} (e : h.get? b = some o) (n : H b = none) : (zf1 h H).get? b = some o :=
  PySem.W.hideAll_get _ e fun hm => by
    have q : (H b).isSome = true := (List.mem_filter.mp hm).2
    rw [n] at q; simp at q
theorem zh4 {h : Heap} {H : Hp} {b : Addr} {o : Obj} (e : (zf1 h H).get? b = some o) : h.get? b = some o ∧ H b = none := by
  have e' : h.get? b = some o := PySem.W.of_hideAll (trk h H) e
  refine ⟨e', ?_⟩
  cases q : H b with
  | none => rfl
  | some x =>
    have hm : b ∈ trk h H := List.mem_filter.mpr ⟨List.mem_range.mpr (Heap.lt_size e'), by simp [q]⟩
    have z : (zf1 h H).get? b = none := PySem.W.hideAll_none (trk h H) hm
    rw [z] at e; cases e
noncomputable def ziQ (g h : Heap) (L : Addr) : List (Addr × Obj) := (List.range h.objs.size).filterMap fun a => if a = L ∨ (g.get? a).isSome = true then none else (h.get? a).map fun o => (a, o)
noncomputable def rest (g h : Heap) (L d : Addr) : List (Addr × Obj) := (ziQ g h L).filter fun p => decide (p.1 ≠ d)
end L2
namespace L2
open PySem PySem.Spec PyProof.Rows
structure Mod (K : PySem.W.Frag) (mg : Str → Option Value) (base : Heap) : Prop where
  kin : K.In base
  glob : base.Ns mainGlobals mg
  blt : ∃ mb, base.Ns builtinsNs mb ∧ ∀ x : Str, x ≠ "__name__" → mb x = bootBuiltins x
  nolimit : base.NoLimit
structure Cx where
  prog : Program
  w : World
  K : PySem.W.Frag
  mg : Str → Option Value
  base : Heap
  A : Around
  N : List Str
  s₀ : Shared
  H₀ : Hp
  env : Env
  outer : List Env
  stack : List Env
  ex : List Addr
  fn : Str → Bool
  calm : Bool
  pn : List (Addr × Obj)
  xe : Value → Shared → Prop
noncomputable def frs (l : List Env) : List Addr := l.filterMap (·.frame)
noncomputable abbrev Cx.fs (X : Cx) : List Addr := frs X.outer
noncomputable def Vis (sc : Scope) (x : Str) : Prop := sc.names.lookup x = some .local ∨ sc.names.lookup x = some .cell ∨ sc.names.lookup x = some .free
noncomputable def Loc (sc : Scope) (x : Str) : Prop := sc.names.lookup x = some .local ∨ sc.names.lookup x = some .cell
noncomputable def Look (env : Env) (h : Heap) (m : Str → Option Value) (x : Str) (u : Value) : Prop :=
  (env.kindOf x = some .local ∧ m x = some u) ∨ ((env.kindOf x = some .cell ∨ env.kindOf x = some .free) ∧ ∃ c, env.cells.lookup x = some c ∧ h.IsCell c (some u))
set_option genInjectivity false in
set_option genSizeOf false in
set_option genCtorIdx false in
structure Cx.Ok (X : Cx) : Prop where
  mod : Mod X.K X.mg X.base
  kind : X.env.scope.kind = .function
  glob : X.env.globals = mainGlobals
  blt : X.env.builtins = builtinsNs
  above : X.s₀.heap.objs.size ≤ X.env.locals
  inj : ∀ x y c, X.env.cells.lookup x = some c → X.env.cells.lookup y = some c → x = y
  has : ∀ x, (X.env.kindOf x = some .cell ∨ X.env.kindOf x = some .free) → ∃ c, X.env.cells.lookup x = some c
  cab : ∀ x c, X.fn x = true → X.env.cells.lookup x = some c → X.s₀.heap.objs.size ≤ c
  hd : X.calm = true → X.A.handled = none
  frames : X.A.frames = some X.stack
  stk : X.stack = X.outer ∨ (X.stack = X.env :: X.outer ∧ X.env.frame = some X.env.locals)
  exf : ∀ b ∈ X.ex, b ≠ X.env.locals ∧ ∀ x c, X.env.cells.lookup x = some c → c ≠ b
  bs : ∀ b o, X.base.get? b = some o → X.s₀.heap.get? b = some o ∧ X.H₀ b = none
  bsz : X.base.objs.size ≤ X.s₀.heap.objs.size
  noex : ∀ b o, X.base.get? b = some o → b ∉ X.ex
  exfs : ∀ b ∈ X.ex, b ∉ X.fs
  funs : X.s₀.heap.FunFrames X.base X.outer
  frf : ∀ b ∈ X.fs, X.H₀ b = none
set_option genInjectivity false in
set_option genSizeOf false in
set_option genCtorIdx false in
structure Inv (X : Cx) (pins : List (Addr × Obj)) (σ : List (Option V)) (H : Hp) (s : Shared) : Prop where
  ok : X.Ok
  os : s.os = X.s₀.os
  bare : AllBare s.gens
  base : Un X.fs X.ex X.H₀ H X.s₀.heap s.heap
  loc : ∃ m, s.heap.Ns X.env.locals m ∧ ∀ (i : Nat) (x : Str) (v : V), X.N[i]? = some x → σ[i]? = some (some v) → Vis X.env.scope x → ∃ u, yO v u ∧ Look X.env s.heap m x u
  cell : ∀ x c, X.env.cells.lookup x = some c → ∃ v, s.heap.IsCell c v
  free : H X.env.locals = none
  freeC : ∀ x c, X.env.cells.lookup x = some c → H c = none
  pin : ∀ p ∈ X.pn ++ pins, s.heap.get? p.1 = some p.2 ∧ H p.1 = none ∧ p.1 ≠ X.env.locals ∧ p.1 ∉ X.fs ∧ ∀ v, p.2.data ≠ .cell v
  hok : HOk X.prog X.w H s.heap
  len : σ.length = X.N.length
section
variable {X : Cx} {pins : List (Addr × Obj)} {σ : List (Option V)} {H H' : Hp} {s : Shared} {h' : Heap}
theorem Cx.Ok.nofr (ok : X.Ok) {b : Addr} {o : Obj} (e : X.base.get? b = some o) : b ∉ X.fs := fun hb => by
  have := (ok.funs.mem hb).1
  rw [e] at this; cases this
theorem Inv.bs (I : Inv X pins σ H s) : ∀ b o, X.base.get? b = some o → s.heap.get? b = some o ∧ H b = none := fun b o e =>
  ⟨I.base.keep b o (I.ok.bs b o e).1 (I.ok.bs b o e).2 (I.ok.nofr e) (I.ok.noex b o e), I.base.free b o (I.ok.bs b o e).1 (I.ok.bs b o e).2 (I.ok.noex b o e)⟩
theorem Inv.bk (I : Inv X pins σ H s) : ∀ b o, X.base.get? b = some o → s.heap.get? b = some o := fun b o e => (I.bs b o e).1
theorem Inv.mod (I : Inv X pins σ H s) : Mod X.K X.mg X.base := I.ok.mod
theorem Inv.kIn (I : Inv X pins σ H s) : X.K.In s.heap := I.ok.mod.kin.keeps I.bk
theorem Inv.fr (I : Inv X pins σ H s) : ∃ m, Fr X.base X.env.locals s.heap m :=
  let ⟨m, hn, _⟩ := I.loc
  ⟨m, hn, I.bk, Nat.le_trans I.ok.bsz I.ok.above⟩
theorem Inv.lt (I : Inv X pins σ H s) : X.env.locals < s.heap.objs.size := let ⟨_, hn, _⟩ := I.loc; hn.lt
theorem Inv.sz (I : Inv X pins σ H s) : X.s₀.heap.objs.size ≤ s.heap.objs.size := Nat.le_trans I.ok.above (Nat.le_of_lt I.lt)
theorem Inv.nofs (I : Inv X pins σ H s) {a : Addr} (h : s.heap.objs.size ≤ a) : a ∉ X.fs := fun hb => by
  obtain ⟨_, o, ho, _⟩ := I.ok.funs.mem hb
  exact absurd (Nat.lt_of_lt_of_le (Heap.lt_size ho) (Nat.le_trans I.sz h)) (Nat.lt_irrefl _)
theorem Inv.cne (I : Inv X pins σ H s) : ∀ x c, X.env.cells.lookup x = some c → c ≠ X.env.locals := fun x c e z => by
  obtain ⟨v, o, ho, hd⟩ := I.cell x c e
  obtain ⟨m, ⟨o', es, ep, ho', hd', _⟩, _⟩ := I.loc
  rw [z, ho'] at ho; cases ho; rw [hd'] at hd; cases hd
theorem Inv.funs (I : Inv X pins σ H s) : s.heap.FunFrames X.base X.outer := by
  have all : ∀ (l : List Env), (∀ b ∈ frs l, b ∈ X.fs) → X.s₀.heap.FunFrames X.base l → s.heap.FunFrames X.base l := by
    intro l
    induction l with
    | nil => intro _ _; trivial
    | cons env r ih =>
      intro hs hl
      obtain ⟨hk, ⟨L, o, hf, hn, ho, hd⟩, hr⟩ := hl
      have hL : L ∈ X.fs := hs L (by unfold frs; rw [List.filterMap_cons, hf]; exact List.mem_cons_self)
      obtain ⟨sl, e⟩ := I.base.slot L o ho (I.ok.frf L hL) hL fun z => I.ok.exfs L z hL
      exact ⟨hk, ⟨L, _, hf, hn, e, hd⟩, ih (fun b hb => hs b (by unfold frs; rw [List.filterMap_cons, hf]; exact List.mem_cons_of_mem _ hb)) hr⟩
  exact all X.outer (fun _ hb => hb) I.ok.funs
theorem Inv.stack (I : Inv X pins σ H s) : s.heap.FunFrames X.base X.stack := by
  rcases I.ok.stk with e | ⟨e, hf⟩
  · rw [e]; exact I.funs
  · rw [e]
    obtain ⟨m, hn, _⟩ := I.loc
    refine .cons (by rw [I.ok.kind]; decide) hf hn ?_ I.funs
    exact Heap.get?_none_of_le (Nat.le_trans I.ok.bsz I.ok.above)
theorem Inv.stkSub (I : Inv X pins σ H s) : ∀ b ∈ frs X.stack, b ∈ X.env.locals :: X.fs := fun b hb => by
  rcases I.ok.stk with e | ⟨e, hf⟩
  · rw [e] at hb; exact List.mem_cons_of_mem _ hb
  · rw [e] at hb
    unfold frs at hb
    rw [List.filterMap_cons, hf] at hb
    exact hb
theorem Inv.stkFree (I : Inv X pins σ H s) : ∀ b ∈ frs X.stack, H b = none := fun b hb => by
  rcases List.mem_cons.mp (I.stkSub b hb) with e | hb
  · rw [e]; exact I.free
  · obtain ⟨_, o, ho, _⟩ := I.ok.funs.mem hb
    exact I.base.free b o ho (I.ok.frf b hb) fun z => I.ok.exfs b z hb
theorem Inv.step {g' : Array GenState} {t' : Nat} {d' : Drawn} {ch : List Addr} (I : Inv X pins σ H s)
    (hch : ∀ b ∈ ch, (b ∈ X.ex ∨ X.s₀.heap.objs.size ≤ b) ∧ b ≠ X.env.locals ∧ (∀ x c, X.env.cells.lookup x = some c → c ≠ b) ∧ ∀ p ∈ X.pn ++ pins, p.1 ≠ b)
    (keep : ∀ b o, b ≠ X.env.locals → b ∉ X.fs → b ∉ ch → s.heap.get? b = some o → H b = none → h'.get? b = some o)
    (slot : ∀ b o, b ≠ X.env.locals → b ∈ X.fs → b ∉ ch → s.heap.get? b = some o → H b = none → ∃ sl, h'.get? b = some { o with slots := sl }) (free : ∀ b o, b ∉ ch → s.heap.get? b = some o → H b = none → H' b = none)
    (there : ∀ b o, b ∉ ch → s.heap.get? b = some o → ∃ o', h'.get? b = some o')
    (tups : ∀ b xs, H b = some (.tup xs) → H' b = some (.tup xs)) (frzs : ∀ b o u, H b = some (.frz o u) → H' b = some (.frz o u)) (tbls : ∀ b ps, H b = some (.tbl ps) → ∃ more, H' b = some (.tbl (ps ++ more)))
    (ns : ∀ m, s.heap.Ns X.env.locals m → h'.Ns X.env.locals m) (hok : HOk X.prog X.w H' h') (hg : AllBare g') :
    Inv X pins σ H' { s with heap := h', gens := g', drawn := d', toks := t' } := by
  have neL : ∀ b o, X.s₀.heap.get? b = some o → b ≠ X.env.locals := fun b o e => Nat.ne_of_lt (Nat.lt_of_lt_of_le (Heap.lt_size e) I.ok.above)
  have neC : ∀ b o, X.s₀.heap.get? b = some o → b ∉ X.ex → b ∉ ch := fun b o e hx hb => by
    rcases (hch b hb).1 with z | z
    · exact hx z
    · exact absurd (Nat.lt_of_lt_of_le (Heap.lt_size e) z) (Nat.lt_irrefl _)
  have cellK : ∀ x c, X.env.cells.lookup x = some c → ∀ v, s.heap.IsCell c v → h'.IsCell c v := fun x c e v ⟨o, ho, hd⟩ => by
    have nch : c ∉ ch := fun z => (hch c z).2.2.1 x c e rfl
    by_cases hc : c ∈ X.fs
    · obtain ⟨sl, q⟩ := slot c o (I.cne x c e) hc nch ho (I.freeC x c e)
      exact ⟨_, q, hd⟩
    · exact ⟨o, keep c o (I.cne x c e) hc nch ho (I.freeC x c e), hd⟩
  refine ⟨I.ok, I.os, hg, ⟨fun b o e n hb hx => ?_, fun b o e n hb hx => ?_, fun b o e n hx => ?_, fun b o e hx => ?_, fun b xs e => tups b xs (I.base.tups b xs e), fun b o xs e => frzs b o xs (I.base.frzs b o xs e), fun b ps e => ?_⟩, ?_, fun x c e => ?_, ?_, fun x c e => ?_, fun p hp => ?_, hok, I.len⟩
  · exact keep b o (neL b o e) hb (neC b o e hx) (I.base.keep b o e n hb hx) (I.base.free b o e n hx)
  · obtain ⟨sl, e1⟩ := I.base.slot b o e n hb hx
    obtain ⟨sl', e2⟩ := slot b _ (neL b o e) hb (neC b o e hx) e1 (I.base.free b o e n hx)
    exact ⟨sl', e2⟩
  · obtain ⟨o', e1⟩ := I.base.there b o e hx
    exact free b o' (neC b o e hx) e1 (I.base.free b o e n hx)
  · obtain ⟨o', e1⟩ := I.base.there b o e hx
    exact there b o' (neC b o e hx) e1
  · obtain ⟨m1, e1⟩ := I.base.tbls b ps e
    obtain ⟨m2, e2⟩ := tbls b _ e1
    exact ⟨m1 ++ m2, by rw [e2, Array.append_assoc]⟩
  · obtain ⟨m, hn, hl⟩ := I.loc
    refine ⟨m, ns m hn, fun i x v e1 e2 e3 => ?_⟩
    obtain ⟨u, r, l⟩ := hl i x v e1 e2 e3
    refine ⟨u, r, ?_⟩
    rcases l with l | ⟨k, c, e, z⟩
    · exact .inl l
    · exact .inr ⟨k, c, e, cellK x c e _ z⟩
  · obtain ⟨v, z⟩ := I.cell x c e
    exact ⟨v, cellK x c e v z⟩
  · obtain ⟨m, ⟨o, _, _, ho, _⟩, _⟩ := I.loc
    exact free _ o (fun z => (hch _ z).2.1 rfl) ho I.free
  · obtain ⟨v, o, ho, hd⟩ := I.cell x c e
    exact free c o (fun z => (hch c z).2.2.1 x c e rfl) ho (I.freeC x c e)
  · obtain ⟨e, n, ne, nf, d⟩ := I.pin p hp
    have nch : p.1 ∉ ch := fun z => (hch p.1 z).2.2.2 p hp rfl
    exact ⟨keep p.1 p.2 ne nf nch e n, free p.1 p.2 nch e n, ne, nf, d⟩
theorem Inv.un {t' : Nat} (I : Inv X pins σ H s) (u : Un X.fs [] H H' s.heap h') (hok : HOk X.prog X.w H' h') : Inv X pins σ H' { s with heap := h', toks := t' } := by
  obtain ⟨m, ⟨o, es, ep, ho, r⟩, _⟩ := id I.loc
  obtain ⟨sl, hL⟩ := u.any ho I.free (by simp)
  exact I.step (g' := s.gens) (d' := s.drawn) (ch := []) (fun _ z => nomatch z) (fun b o _ hb _ e n => u.keep b o e n hb (by simp)) (fun b o _ hb _ e n => u.slot b o e n hb (by simp)) (fun b o _ e n => u.free b o e n (by simp)) (fun b o _ e => u.there b o e (by simp)) u.tups u.frzs u.tbls (fun m' hm => by
    obtain ⟨o', es', ep', ho', r'⟩ := hm
    rw [ho] at ho'; cases ho'
    exact ⟨_, es', ep', hL, r'⟩) hok I.bare
theorem Inv.call {g' : Array GenState} {t' : Nat} {d' : Drawn} {ch : List Addr} (I : Inv X pins σ H s) (u : Un (frs X.stack) ch H H' s.heap h') (hok : HOk X.prog X.w H' h') (hg : AllBare g')
    (hch : ∀ b ∈ ch, (b ∈ X.ex ∨ X.s₀.heap.objs.size ≤ b) ∧ b ≠ X.env.locals ∧ (∀ x c, X.env.cells.lookup x = some c → c ≠ b) ∧ ∀ p ∈ X.pn ++ pins, p.1 ≠ b) :
    Inv X pins σ H' { s with heap := h', gens := g', drawn := d', toks := t' } := by
  obtain ⟨m, ⟨o, es, ep, ho, r⟩, _⟩ := id I.loc
  obtain ⟨sl, hL⟩ := u.any ho I.free fun z => (hch _ z).2.1 rfl
  exact I.step (ch := ch) hch (fun b o hL hb hc e n => u.keep b o e n (fun z => (List.mem_cons.mp (I.stkSub b z)).elim hL hb) hc) (fun b o _ _ hc e n => u.any e n hc) (fun b o hc e n => u.free b o e n hc) (fun b o hc e => u.there b o e hc) u.tups u.frzs u.tbls (fun m' hm => by
    obtain ⟨o', es', ep', ho', r'⟩ := hm
    rw [ho] at ho'; cases ho'
    exact ⟨_, es', ep', hL, r'⟩) hok hg
theorem Inv.turned {t' : Nat} {it : Addr} (I : Inv X pins σ H s) (k : ∀ b o, b ≠ it → s.heap.get? b = some o → h'.get? b = some o) (hn : H it = none) (hL : it ≠ X.env.locals)
    (h1 : it ∈ X.ex ∨ X.s₀.heap.objs.size ≤ it) (h2 : ∀ x c, X.env.cells.lookup x = some c → c ≠ it) (h3 : ∀ p ∈ X.pn ++ pins, p.1 ≠ it) : Inv X pins σ H { s with heap := h', toks := t' } := by
  have nit : ∀ b u, H b = some u → b ≠ it := fun b u e z => by rw [z, hn] at e; cases e
  refine I.step (g' := s.gens) (d' := s.drawn) (ch := [it]) (fun b hb => ?_) (fun b o _ _ hc e _ => k b o (fun z => hc (by simp [z])) e) (fun b o _ _ hc e _ => ⟨o.slots, k b o (fun z => hc (by simp [z])) e⟩) (fun _ _ _ _ n => n)
    (fun b o hc e => ⟨o, k b o (fun z => hc (by simp [z])) e⟩) (fun _ _ e => e) (fun _ _ _ e => e) (fun b ps e => ⟨#[], by rw [e]; simp⟩) (fun m hm => ?_) (fun b u e => ?_) I.bare
  · have e : b = it := by simpa using hb
    subst e
    exact ⟨h1, hL, h2, h3⟩
  · obtain ⟨o, es, ep, ho, r⟩ := hm
    exact ⟨o, es, ep, k _ o (Ne.symm hL) ho, r⟩
  · refine (I.hok b u e).stay (fun c v hc q => k c v ?_ q) (fun _ q => q) fun _ _ q => q
    rcases hc with z | z
    · rw [z]; exact nit b u e
    · exact nit c _ z
theorem Inv.tok (I : Inv X pins σ H s) (t : Nat) : Inv X pins σ H { s with toks := t } := I.un (h' := s.heap) (t' := t) Un.refl I.hok
theorem Inv.kept {t' : Nat} (I : Inv X pins σ H s) (k : ∀ b u, s.heap.get? b = some u → h'.get? b = some u) : Inv X pins σ H { s with heap := h', toks := t' } := I.un (Un.kept k) (I.hok.kept k)
theorem Inv.laid {a : Addr} {o : HO} {t' : Nat} (I : Inv X pins σ H s) (k : ∀ b u, s.heap.get? b = some u → h'.get? b = some u) (hp : s.heap.objs.size ≤ a) (new : yK X.prog X.w (upd H a o) h' a o) :
    Inv X pins σ (upd H a o) { s with heap := h', toks := t' } := I.un (Un.laid k hp (I.hok.fresh hp)) (I.hok.laid k hp new)
theorem Inv.write {x e : Addr} {o : HO} {t' : Nat} (I : Inv X pins σ H s) (mu : Mut (H x)) (he : e = x ∨ H e = some (.own x)) (k : ∀ b u, b ≠ e → s.heap.get? b = some u → h'.get? b = some u) (heo : ∃ u, h'.get? e = some u)
    (new : yK X.prog X.w (upd H x o) h' x o) : Inv X pins σ (upd H x o) { s with heap := h', toks := t' } := I.un (Un.write mu he k heo) (I.hok.write mu he k heo new)
theorem Inv.weak {σ' : List (Option V)} (I : Inv X pins σ H s) (hl : σ'.length = σ.length) (w : ∀ (i : Nat) v, σ'[i]? = some (some v) → σ[i]? = some (some v)) : Inv X pins σ' H s :=
  ⟨I.ok, I.os, I.bare, I.base, let ⟨m, hn, hl'⟩ := I.loc; ⟨m, hn, fun i x v e1 e2 e3 => hl' i x v e1 (w i v e2) e3⟩, I.cell, I.free, I.freeC, I.pin, I.hok, hl.trans I.len⟩
theorem Inv.pins_of {pins' : List (Addr × Obj)} (I : Inv X pins σ H s) (h : ∀ p ∈ pins', s.heap.get? p.1 = some p.2 ∧ H p.1 = none ∧ p.1 ≠ X.env.locals ∧ p.1 ∉ X.fs ∧ ∀ v, p.2.data ≠ .cell v) : Inv X pins' σ H s :=
  ⟨I.ok, I.os, I.bare, I.base, I.loc, I.cell, I.free, I.freeC, fun p hp => (List.mem_append.mp hp).elim (fun z => I.pin p (List.mem_append_left _ z)) (h p), I.hok, I.len⟩
theorem zdH {N : List Str} (hN : N.Nodup) {i j : Nat} {x : Str} (a : N[i]? = some x) (b : N[j]? = some x) : i = j := by
  obtain ⟨h1, e1⟩ := List.getElem?_eq_some_iff.mp a
  obtain ⟨h2, e2⟩ := List.getElem?_eq_some_iff.mp b
  exact (List.getElem_inj hN).mp (e1.trans e2.symm)
theorem zfv {M : Model} {A : Around} {E : Value → Shared → Prop} {i : Nat} {x : Str} {v : V} {u : Value} {Q : Unit → Shared → Prop} (I : Inv X pins σ H s) (hN : X.N.Nodup) (hi : X.N[i]? = some x) (hx : Loc X.env.scope x) (r : yO v u)
    (h : ∀ s', Inv X pins (σ.set i (some v)) H s' → (∃ a, Heap.SameBut a s.heap s'.heap ∧ (a = X.env.locals ∨ X.env.cells.lookup x = some a)) → Q () s') (hf : X.fn x = true ∨ X.env.scope.names.lookup x = some .local := by first | exact .inl rfl | exact .inr rfl | assumption) : wpAny M A (storeName X.env x u) Q E s := by
  obtain ⟨m, hn, hl⟩ := id I.loc
  have hcls : (X.env.scope.kind == .class || (X.env.scope.kind == .module && X.env.locals != X.env.globals)) = false := by rw [I.ok.kind]; rfl
  have hiσ : i < σ.length := by rw [I.len]; exact (List.getElem?_eq_some_iff.mp hi).1
  have cne := I.cne
  have tracked : ∀ {a : Addr} {h' : Heap}, (∃ o, s.heap.get? a = some o ∧ H a = none) → Heap.SameBut a s.heap h' → HOk X.prog X.w H h' := fun {a h'} ha hs b ob e => by
    obtain ⟨_, _, hfree⟩ := ha
    refine (I.hok b ob e).stay (fun c w' hc q => (hs.2 c ?_).trans q) (fun _ q => q) fun _ _ q => q
    rintro rfl
    rcases hc with rfl | hc
    · rw [hfree] at e; cases e
    · rw [hfree] at hc; cases hc
  rcases hx with hk | hk
  · refine wpAny_storeName_local hk hn (fun h' hn' hs => ?_) hcls
    obtain ⟨oL, _, _, hoL, _⟩ := id hn
    refine h _ ⟨I.ok, I.os, I.bare, ⟨fun b o e n hb hx => ?_, fun b o e n hb hx => ?_, I.base.free, fun b o e hx => ?_, I.base.tups, I.base.frzs, I.base.tbls⟩, ⟨_, hn', fun j y v' e1 e2 e3 => ?_⟩, fun y c e => ?_, I.free, I.freeC, fun p hp => ?_, tracked ⟨oL, hoL, I.free⟩ hs, by simpa using I.len⟩ ⟨_, hs, .inl rfl⟩
    · exact (hs.2 b (Nat.ne_of_lt (Nat.lt_of_lt_of_le (Heap.lt_size e) I.ok.above))).trans (I.base.keep b o e n hb hx)
    · obtain ⟨sl, e1⟩ := I.base.slot b o e n hb hx
      exact ⟨sl, (hs.2 b (Nat.ne_of_lt (Nat.lt_of_lt_of_le (Heap.lt_size e) I.ok.above))).trans e1⟩
    · obtain ⟨o', e1⟩ := I.base.there b o e hx
      exact ⟨o', (hs.2 b (Nat.ne_of_lt (Nat.lt_of_lt_of_le (Heap.lt_size e) I.ok.above))).trans e1⟩
    · by_cases hj : j = i
      · subst hj
        rw [hi] at e1; cases e1
        rw [List.getElem?_set_self hiσ] at e2
        cases e2
        exact ⟨u, r, .inl ⟨hk, by simp⟩⟩
      · rw [List.getElem?_set_ne (Ne.symm hj)] at e2
        obtain ⟨u', r', q⟩ := hl j y v' e1 e2 e3
        refine ⟨u', r', ?_⟩
        rcases q with ⟨k, e⟩ | ⟨k, c, e, z⟩
        · refine .inl ⟨k, ?_⟩
          have : y ≠ x := fun e => hj (zdH hN e1 (e ▸ hi))
          simp [this, e]
        · exact .inr ⟨k, c, e, z.sameBut hs (cne y c e)⟩
    · obtain ⟨w', z⟩ := I.cell y c e
      exact ⟨w', z.sameBut hs (cne y c e)⟩
    · obtain ⟨e, n, ne, nf, d⟩ := I.pin p hp
      exact ⟨(hs.2 p.1 ne).trans e, n, ne, nf, d⟩
  · have hfn : X.fn x = true := by
      rcases hf with z | z
      · exact z
      · rw [z] at hk; cases hk
    obtain ⟨c, hc⟩ := I.ok.has x (.inl hk)
    obtain ⟨w', z⟩ := I.cell x c hc
    refine wpAny_storeName_cell I.ok.kind hk hc z (fun h' hc' hs => ?_)
    obtain ⟨oc, hoc, hocd⟩ := id z
    refine h { s with heap := h' } ⟨I.ok, I.os, I.bare, ⟨fun b o e n hb hx => ?_, fun b o e n hb hx => ?_, I.base.free, fun b o e hx => ?_, I.base.tups, I.base.frzs, I.base.tbls⟩, ⟨m, hn.sameBut hs (Ne.symm (cne x c hc)), fun j y v' e1 e2 e3 => ?_⟩, fun y c' e => ?_, I.free, I.freeC, fun p hp => ?_, tracked ⟨oc, hoc, I.freeC x c hc⟩ hs, by simpa using I.len⟩ ⟨c, hs, .inr hc⟩
    · exact (hs.2 b (Nat.ne_of_lt (Nat.lt_of_lt_of_le (Heap.lt_size e) (I.ok.cab x c hfn hc)))).trans (I.base.keep b o e n hb hx)
    · obtain ⟨sl, e1⟩ := I.base.slot b o e n hb hx
      exact ⟨sl, (hs.2 b (Nat.ne_of_lt (Nat.lt_of_lt_of_le (Heap.lt_size e) (I.ok.cab x c hfn hc)))).trans e1⟩
    · obtain ⟨o', e1⟩ := I.base.there b o e hx
      exact ⟨o', (hs.2 b (Nat.ne_of_lt (Nat.lt_of_lt_of_le (Heap.lt_size e) (I.ok.cab x c hfn hc)))).trans e1⟩
    · by_cases hj : j = i
      · subst hj
        rw [hi] at e1; cases e1
        rw [List.getElem?_set_self hiσ] at e2
        cases e2
        exact ⟨u, r, .inr ⟨.inl hk, c, hc, hc'⟩⟩
      · rw [List.getElem?_set_ne (Ne.symm hj)] at e2
        obtain ⟨u', r', q⟩ := hl j y v' e1 e2 e3
        refine ⟨u', r', ?_⟩
        rcases q with q | ⟨k, c', e, z'⟩
        · exact .inl q
        · refine .inr ⟨k, c', e, z'.sameBut hs ?_⟩
          rintro rfl
          exact hj (zdH hN e1 (I.ok.inj _ _ _ e hc ▸ hi))
    · by_cases hcc : c' = c
      · subst hcc; exact ⟨_, hc'⟩
      · obtain ⟨w2, z2⟩ := I.cell y c' e
        exact ⟨w2, z2.sameBut hs hcc⟩
    · obtain ⟨e, n, ne, nf, d⟩ := I.pin p hp
      refine ⟨(hs.2 p.1 ?_).trans e, n, ne, nf, d⟩
      intro q
      rw [q, hoc] at e
      have q' : oc = p.2 := Option.some.inj e
      exact d w' (by rw [← q']; exact hocd)
theorem zde {M : Model} {A : Around} {E : Value → Shared → Prop} {i : Nat} {x : Str} {v : V} {u : Value} {Q : Unit → Shared → Prop} (I : Inv X pins σ H s) (hN : X.N.Nodup) (hi : X.N[i]? = some x) (hx : Loc X.env.scope x) (r : yO v u)
    (h : ∀ s', Inv X pins (σ.set i (some v)) H s' → Q () s') (hf : X.fn x = true ∨ X.env.scope.names.lookup x = some .local := by first | exact .inl rfl | exact .inr rfl | assumption) : wpAny M A (storeName X.env x u) Q E s :=
  zfv I hN hi hx r (fun s' I' _ => h s' I') hf
theorem Inv.call' {s' : Shared} {ch : List Addr} (I : Inv X pins σ H s) (ho : s'.os = s.os) (u : Un (frs X.stack) ch H H' s.heap s'.heap) (hok : HOk X.prog X.w H' s'.heap) (hg : AllBare s'.gens)
    (hch : ∀ b ∈ ch, (b ∈ X.ex ∨ X.s₀.heap.objs.size ≤ b) ∧ b ≠ X.env.locals ∧ (∀ x c, X.env.cells.lookup x = some c → c ≠ b) ∧ ∀ p ∈ X.pn ++ pins, p.1 ≠ b) : Inv X pins σ H' s' := by
  obtain ⟨h', g', d', t', o'⟩ := s'
  have e : o' = s.os := ho
  subst e
  exact I.call (g' := g') (t' := t') (d' := d') u hok hg hch
end
noncomputable abbrev XK := Value → Option Addr → Hp → Prop
noncomputable abbrev St := List (Option V)
noncomputable abbrev VK := V → Hp → Prop
noncomputable abbrev TE := St → Hp → VK → Prop
noncomputable abbrev TT := St → Hp → (Bool → Hp → Prop) → Prop
noncomputable abbrev TA := St → Hp → (List V → Hp → Prop) → Prop
structure zer where
  nx : St → Hp → Prop
  rt : VK
  bk : St → Hp → Prop := fun _ _ => False
  ct : St → Hp → Prop := fun _ _ => False
noncomputable abbrev TS := zer → St → Hp → Prop
noncomputable def EP (X : Cx) (pins : List (Addr × Obj)) (σ : St) (Q : VK) (u : Value) (s' : Shared) : Prop := ∃ v H', Inv X pins σ H' s' ∧ yO v u ∧ Q v H'
noncomputable def TP (X : Cx) (pins : List (Addr × Obj)) (σ : St) (Q : Bool → Hp → Prop) (b : Bool) (s' : Shared) : Prop := ∃ H', Inv X pins σ H' s' ∧ Q b H'
noncomputable def AP (X : Cx) (pins : List (Addr × Obj)) (σ : St) (Q : List V → Hp → Prop) (us : List Value) (s' : Shared) : Prop := ∃ vs H', Inv X pins σ H' s' ∧ yx vs us ∧ Q vs H'
noncomputable def SP (X : Cx) (pins : List (Addr × Obj)) (D : zer) (f : Flow) (s' : Shared) : Prop :=
  match f with
  | .next => ∃ σ' H', Inv X pins σ' H' s' ∧ D.nx σ' H'
  | .brk => ∃ σ' H', Inv X pins σ' H' s' ∧ D.bk σ' H'
  | .cont => ∃ σ' H', Inv X pins σ' H' s' ∧ D.ct σ' H'
  | .ret u => ∃ v σ' H', Inv X pins σ' H' s' ∧ yO v u ∧ D.rt v H'
noncomputable def PE (X : Cx) (e : Expr) (t : TE) : Prop :=
  ∀ (pins : List (Addr × Obj)) (s : Shared) (σ : St) (H : Hp) (Q : VK), Inv X pins σ H s → t σ H Q → wpAny (model X.prog X.w) X.A (eval e X.env) (EP X pins σ Q) X.xe s
noncomputable def PT (X : Cx) (e : Expr) (t : TT) : Prop :=
  ∀ (pins : List (Addr × Obj)) (s : Shared) (σ : St) (H : Hp) (Q : Bool → Hp → Prop), Inv X pins σ H s → t σ H Q → wpAny (model X.prog X.w) X.A (isTrue e X.env (eval e X.env)) (TP X pins σ Q) X.xe s
noncomputable def PW (X : Cx) (e : Expr) (t : TT) : Prop :=
  ∀ (whole : Sem Value) (pins : List (Addr × Obj)) (s : Shared) (σ : St) (H : Hp) (Q : Bool → Hp → Prop), Inv X pins σ H s → t σ H Q → wpAny (model X.prog X.w) X.A (isTrue e X.env whole) (TP X pins σ Q) X.xe s
theorem PW.pt {X : Cx} {e : Expr} {t : TT} (h : PW X e t) : PT X e t := h _
noncomputable def PA (X : Cx) (es : List Expr) (t : TA) : Prop :=
  ∀ (pos : Pos) (pins : List (Addr × Obj)) (s : Shared) (σ : St) (H : Hp) (Q : List V → Hp → Prop), Inv X pins σ H s → t σ H Q → wpAny (model X.prog X.w) X.A (spliced (backTo pos (starEach es X.env))) (AP X pins σ Q) X.xe s
noncomputable def PS (X : Cx) (st : Stmt) (t : TS) : Prop :=
  ∀ (pins : List (Addr × Obj)) (s : Shared) (σ : St) (H : Hp) (D : zer), Inv X pins σ H s → t D σ H → wpAny (model X.prog X.w) X.A (exec st X.env) (SP X pins D) X.xe s
noncomputable def PSs (X : Cx) (st : List Stmt) (t : TS) : Prop :=
  ∀ (pins : List (Addr × Obj)) (s : Shared) (σ : St) (H : Hp) (D : zer), Inv X pins σ H s → t D σ H → wpAny (model X.prog X.w) X.A (execs st X.env) (SP X pins D) X.xe s
theorem thn {α : Type} {t : Sem α} {Q Q' : α → Shared → Prop} {M : Model} {A : Around} {E : Value → Shared → Prop} {s : Shared} (h : wpAny M A t Q E s) (hQ : ∀ a s, Q a s → Q' a s) : wpAny M A t Q' E s := wpAny_mono h hQ fun _ _ x => x
end L2
namespace L2
open PySem PySem.Spec PyProof.Rows
section
variable {X : Cx}
theorem bin {a b : Expr} {ta tb : TE} (ha : PE X a ta) (hb : PE X b tb) {pins : List (Addr × Obj)} {s : Shared} {σ : St} {H : Hp} {R : V → V → Hp → Prop} (I : Inv X pins σ H s) (h : ta σ H fun x H1 => tb σ H1 fun y H2 => R x y H2)
    {α : Type} {Q : α → Shared → Prop} {f : Value → Value → Sem α}
    (hf : ∀ v u s2 x y H2, Inv X pins σ H2 s2 → yO x v → yO y u → R x y H2 → wpAny (model X.prog X.w) X.A (f v u) Q X.xe s2) :
    wpAny (model X.prog X.w) X.A (eval a X.env) (fun v s₁ => wpAny (model X.prog X.w) X.A (eval b X.env) (fun u s₂ => wpAny (model X.prog X.w) X.A (f v u) Q X.xe s₂) X.xe s₁) X.xe s := by
  refine thn (ha pins s σ H _ I h) fun v s1 hh9 => ?_
  obtain ⟨x, H1, I1, r1, q1⟩ := hh9
  refine thn (hb pins s1 σ H1 _ I1 q1) fun u s2 hh9 => ?_
  obtain ⟨y, H2, I2, r2, q2⟩ := hh9
  exact hf v u s2 x y H2 I2 r1 r2 q2
noncomputable def zhE (i : Nat) : TE := fun σ H Q => ∃ v, σ[i]? = some (some v) ∧ Q v H
noncomputable def tC (v : V) : TE := fun _ H Q => Q v H
theorem zji {i : Nat} {x : Str} {pos : Pos} (hN : X.N[i]? = some x) (hv : Vis X.env.scope x) (hd : (x == ("__debug__" : Str)) = false := by decide) (hcd : (x == ("__classdict__" : Str)) = false := by decide) : PE X (.Name x pos) (zhE i) := by
  intro pins s σ H Q I h
  obtain ⟨v, e, h⟩ := h
  obtain ⟨m, hn, hl⟩ := I.loc
  obtain ⟨u, r, l⟩ := hl i x v hN e hv
  have fin : EP X pins σ Q u s := ⟨v, H, I, r, h⟩
  rcases l with ⟨hk, hm⟩ | ⟨hk, c, hc, hcell⟩
  · exact wpAny_Name (wpAny_loadName_local I.ok.kind hk hn hm fin) hd
  · rcases hk with hk | hk
    · exact wpAny_Name (wpAny_loadName_cell I.ok.kind hk hc hcell fin) hd
    · exact wpAny_Name (wpAny_loadName_free I.ok.kind hk hc hcell fin hcd) hd
theorem zn {i j pos} : PE X (.Constant (.int i) j pos) (tC (.int i)) := fun _ _ _ H _ I h => wpAny_Constant_int ⟨.int i, H, I.tok _, ⟨_, rfl⟩, h⟩
theorem vD {b j pos} : PE X (.Constant (.bool b) j pos) (tC (.bl b)) := fun _ _ _ H _ I h => Constant_bool ⟨.bl b, H, I, rfl, h⟩
theorem V0 {j pos} : PE X (.Constant .none j pos) (tC .non) := fun _ _ _ H _ I h => Constant_none ⟨.non, H, I, rfl, h⟩
noncomputable def Gl (X : Cx) (x : Str) : Prop := X.env.kindOf x = some .globalImplicit
theorem zfu {E : Value → Shared → Prop} {pins : List (Addr × Obj)} {s : Shared} {σ : St} {H : Hp} {x : Str} {u : Value} {pos : Pos} {Q : Value → Shared → Prop} (I : Inv X pins σ H s) (hg : Gl X x) (hm : X.mg x = some u) (h : Q u s)
    (hd : (x == ("__debug__" : Str)) = false := by decide) : wpAny (model X.prog X.w) X.A (eval (.Name x pos) X.env) Q E s :=
  Calls.Name_function_global I.ok.kind hg (Calls.loadGlobal_global (by rw [I.ok.glob]; exact I.mod.glob.keeps I.bk) hm h) hd
theorem Y1 {E : Value → Shared → Prop} {pins : List (Addr × Obj)} {s : Shared} {σ : St} {H : Hp} {x : Str} {u : Value} {pos : Pos} {Q : Value → Shared → Prop} (I : Inv X pins σ H s) (hg : Gl X x) (hm : X.mg x = none) (hv : bootBuiltins x = some u) (h : Q u s)
    (hn : x ≠ "__name__" := by decide) (hd : (x == ("__debug__" : Str)) = false := by decide) : wpAny (model X.prog X.w) X.A (eval (.Name x pos) X.env) Q E s := by
  obtain ⟨mb, h1, h2⟩ := I.mod.blt
  exact Calls.Name_function_global I.ok.kind hg (Calls.loadGlobal_builtin (by rw [I.ok.glob]; exact I.mod.glob.keeps I.bk) hm (by rw [I.ok.blt]; exact h1.keeps I.bk) ((h2 x hn).trans hv) h) hd
theorem Xz {x : Str} {v : V} {u : Value} {pos : Pos} (hg : Gl X x) (hm : X.mg x = some u) (r : yO v u) (hd : (x == ("__debug__" : Str)) = false := by decide) : PE X (.Name x pos) (tC v) :=
  fun _ _ _ H _ I h => zfu I hg hm ⟨v, H, I, r, h⟩ hd
theorem yG {x : Str} {v : V} {u : Value} {pos : Pos} (hg : Gl X x) (hm : X.mg x = none) (hv : bootBuiltins x = some u) (r : yO v u) (hn : x ≠ "__name__" := by decide) (hd : (x == ("__debug__" : Str)) = false := by decide) : PE X (.Name x pos) (tC v) :=
  fun _ _ _ H _ I h => Y1 I hg hm hv ⟨v, H, I, r, h⟩ hn hd
variable {a b : Expr} {ta tb : TE} {pos : Pos}
noncomputable def PC (X : Cx) (op : CmpOp) (a b : Expr) (t : TE) : Prop :=
  ∀ (pins : List (Addr × Obj)) (s : Shared) (σ : St) (H : Hp) (Q : VK), Inv X pins σ H s → t σ H Q →
    wpAny (model X.prog X.w) X.A (eval a X.env) (fun v s₁ => wpAny (model X.prog X.w) X.A (eval b X.env) (fun u s₂ => wpAny (model X.prog X.w) X.A (compareOp op v u) (EP X pins σ Q) X.xe s₂) X.xe s₁) X.xe s
theorem zgz (b : Expr) {op : CmpOp} (h : op ≠ .In) (h2 : op ≠ .NotIn) : behindInMarks op b = false := by
  have e1 : (op == CmpOp.In) = false := by cases op <;> first | rfl | exact absurd rfl h
  have e2 : (op == CmpOp.NotIn) = false := by cases op <;> first | rfl | exact absurd rfl h2
  cases b <;> simp [behindInMarks, e1, e2]
noncomputable def tB (t : TE) : TT := fun σ H Q => t σ H fun x H1 => ∃ c, x = .bl c ∧ Q c H1
theorem pt_cmp {op : CmpOp} {t : TE} (h : PC X op a b t) (h1 : behindInMarks op b = false := by first | exact zgz _ (by decide) (by decide) | rfl) : PT X (.Compare a [op] [b] pos) (tB t) := by
  intro pins s σ H Q I hw
  refine wpAny_isTrue_Compare1 (thn (h pins s σ H _ I hw) fun v s1 h1 => thn h1 fun u s2 h2 => thn h2 fun c s3 hh9 => ?_) h1
  obtain ⟨x, H1, I1, r1, q1⟩ := hh9
  obtain ⟨d, rfl, q⟩ := q1
  cases r1
  exact wpAny_truthy_bool ⟨H1, I1, q⟩
theorem zkp {e : Expr} {t : TE} (h : PE X e t) (he : ∀ whole, isTrue e X.env whole = (do let v ← whole; standAt e.pos; holding [v] (truthy v)) := by intro _; rfl) : PT X e (tB t) := by
  intro pins s σ H Q I hw
  refine isTrue_plain (thn (h pins s σ H _ I hw) fun v s1 hh9 => ?_) (he _)
  obtain ⟨x, H1, I1, r1, q1⟩ := hh9
  obtain ⟨d, rfl, q⟩ := q1
  cases r1
  exact wpAny_truthy_bool ⟨H1, I1, q⟩
variable {tA tB' : TT} {rest : List Expr}
noncomputable def tAnd (t u : TT) : TT := fun σ H Q => t σ H fun c H1 => if c = true then u σ H1 Q else Q false H1
noncomputable def tOr (t u : TT) : TT := fun σ H Q => t σ H fun c H1 => if c = true then Q true H1 else u σ H1 Q
noncomputable def tNot (t : TT) : TT := fun σ H Q => t σ H fun c H1 => Q (!c) H1
theorem zh7 (ha : PT X a tA) : PW X (.BoolOp .And [a] pos) tA := by
  intro wh pins s σ H Q I h
  refine isTrue_and (thn (ha pins s σ H Q I h) fun c s1 e => ?_)
  cases c with
  | true => exact isTrue_and_nil e
  | false => exact e
theorem zkV (ha : PT X a tA) : PW X (.BoolOp .Or [a] pos) tA := by
  intro wh pins s σ H Q I h
  refine isTrue_or (thn (ha pins s σ H Q I h) fun c s1 e => ?_)
  cases c with
  | false => exact isTrue_or_nil e
  | true => exact e
theorem zkD (ha : PT X a tA) (hb : PW X (.BoolOp .And (b :: rest) pos) tB') : PW X (.BoolOp .And (a :: b :: rest) pos) (tAnd tA tB') := by
  intro wh pins s σ H Q I h
  refine isTrue_and (thn (ha pins s σ H _ I h) fun c s1 hh9 => ?_)
  obtain ⟨H1, I1, q1⟩ := hh9
  cases c with
  | true => exact hb wh pins s1 σ H1 Q I1 q1
  | false => exact ⟨H1, I1, q1⟩
theorem zlC (ha : PT X a tA) (hb : PW X (.BoolOp .Or (b :: rest) pos) tB') : PW X (.BoolOp .Or (a :: b :: rest) pos) (tOr tA tB') := by
  intro wh pins s σ H Q I h
  refine isTrue_or (thn (ha pins s σ H _ I h) fun c s1 hh9 => ?_)
  obtain ⟨H1, I1, q1⟩ := hh9
  cases c with
  | true => exact ⟨H1, I1, q1⟩
  | false => exact hb wh pins s1 σ H1 Q I1 q1
theorem zjo (ha : PT X a tA) : PT X (.UnaryOp .Not a pos) (tNot tA) := by
  intro pins s σ H Q I h
  exact isTrue_not (ha pins s σ H (fun c H1 => Q (!c) H1) I h)
noncomputable def zlP (ta tb : TE) : TE := fun σ H Q => ta σ H fun x H1 => ∃ c, x = .bl c ∧ if c = true then tb σ H1 Q else Q (.bl false) H1
noncomputable def zlQ (ta : TE) : TE := fun σ H Q => ta σ H fun x H1 => ∃ c, x = .bl c ∧ Q (.bl (!c)) H1
theorem zj7 {op} {t : TE} (h : PE X a t) : PE X (.BoolOp op [a] pos) t := fun pins s σ H Q I hw => BoolOp_one (h pins s σ H Q I hw)
theorem zkN (ha : PE X a ta) (hb : PE X (.BoolOp .And (b :: rest) pos) tb) : PE X (.BoolOp .And (a :: b :: rest) pos) (zlP ta tb) := by
  intro pins s σ H Q I h
  refine BoolOp_and (thn (ha pins s σ H _ I h) fun v s1 hh9 => ?_)
  obtain ⟨x, H1, I1, r1, q1⟩ := hh9
  obtain ⟨c, rfl, q1⟩ := q1
  cases r1
  refine wpAny_truthy_bool ?_
  cases c with
  | true => exact hb pins s1 σ H1 Q I1 q1
  | false => exact ⟨.bl false, H1, I1, rfl, q1⟩
theorem zk4 (ha : PE X a ta) : PE X (.UnaryOp .Not a pos) (zlQ ta) := by
  intro pins s σ H Q I h
  refine UnaryOp_ (thn (ha pins s σ H _ I h) fun v s1 hh9 => ?_)
  obtain ⟨x, H1, I1, r1, q1⟩ := hh9
  obtain ⟨c, rfl, q1⟩ := q1
  cases r1
  exact not_of (wpAny_truthy_bool ⟨.bl (!c), H1, I1, rfl, q1⟩)
end
end L2
namespace L2
open PySem PySem.Spec PyProof.Rows
noncomputable def SqL (K : PySem.W.Frag) (H : Hp) (a : Addr) (xs : List V) : Prop :=
  Rd H a (.lst xs) ∨
    ∃ (o : Obj) (its : Array Value) (n : Nat), K.lookup a = some o ∧ o.cls = .type "list" ∧ o.dict = none ∧ o.data = .seq its n ∧ its.size ≤ sizeLine ∧ yx xs its.toList
noncomputable def SqT (K : PySem.W.Frag) (H : Hp) (a : Addr) (xs : List V) : Prop :=
  Rd H a (.tup xs) ∨
    ∃ (o : Obj) (its : Array Value) (n : Nat), K.lookup a = some o ∧ o.cls = .type "tuple" ∧ o.data = .seq its n ∧ its.size ≤ sizeLine ∧ yx xs its.toList
noncomputable def absV : Value → Option V
  | .none => some .non
  | .bool b => some (.bl b)
  | .int i _ => some (.int i)
  | .str x _ => some (.str x)
  | .bytes b _ => some (.byt b)
  | .float b _ => some (.flt b)
  | .ref a => some (.ref a)
  | .type n => some (.ty n)
  | _ => none
theorem yO.abs {x : V} {u : Value} (r : yO x u) : absV u = some x := by
  cases x with
  | non => cases r; rfl
  | bl _ => cases r; rfl
  | int _ => obtain ⟨t, rfl⟩ := r; rfl
  | str _ => obtain ⟨t, rfl⟩ := r; rfl
  | byt _ => obtain ⟨t, rfl⟩ := r; rfl
  | flt _ => obtain ⟨t, rfl⟩ := r; rfl
  | ref _ => cases r; rfl
  | ty _ => cases r; rfl
theorem yO.inj {x y : V} {u : Value} (r : yO x u) (q : yO y u) : x = y := Option.some.inj (r.abs.symm.trans q.abs)
theorem yx.inj : ∀ {xs ys : List V} {us : List Value}, yx xs us → yx ys us → xs = ys := by
  intro xs ys us h
  induction h generalizing ys with
  | nil => intro h2; cases h2; rfl
  | cons r t ih => intro h2; cases h2 with | cons r' t' => rw [r.inj r', ih t']
section
variable {X : Cx} {pins : List (Addr × Obj)} {σ : St} {H : Hp} {s : Shared} {a : Addr} {xs ys : List V}
theorem SqL.of {K : PySem.W.Frag} (h : H a = some (.lst xs)) : SqL K H a xs := .inl (.inl h)
theorem SqT.of {K : PySem.W.Frag} (h : H a = some (.tup xs)) : SqT K H a xs := .inl (.inl h)
theorem Inv.list (I : Inv X pins σ H s) (h : SqL X.K H a xs) : ∃ its : List Value, yx xs its ∧ PlainL s.heap a its.toArray ∧ xs.length ≤ sizeLine := by
  rcases h with h | ⟨o, its, n, hk, hc, hd, hs, hz, r⟩
  · obtain ⟨z, its, n, r, e⟩ := h.ok I.hok
    exact ⟨its, r, ⟨_, n, e, rfl, rfl, rfl⟩, z⟩
  · refine ⟨its.toList, r, ⟨o, n, I.kIn a o hk, hc, hd, by simpa using hs⟩, ?_⟩
    have e := r.length
    simp only [Array.length_toList] at e
    omega
theorem Inv.tuple (I : Inv X pins σ H s) (h : SqT X.K H a xs) : ∃ its : List Value, yx xs its ∧ IsTup s.heap a its.toArray ∧ xs.length ≤ sizeLine := by
  rcases h with h | ⟨o, its, n, hk, hc, hs, hz, r⟩
  · obtain ⟨z, its, r, p⟩ := h.ok I.hok
    exact ⟨its, r, p, z⟩
  · refine ⟨its.toList, r, ⟨o, I.kIn a o hk, hc, n, by simpa using hs⟩, ?_⟩
    have e := r.length
    simp only [Array.length_toList] at e
    omega
theorem Inv.list_inj (I : Inv X pins σ H s) (h : SqL X.K H a xs) (h' : SqL X.K H a ys) : xs = ys := by
  obtain ⟨its, r, ⟨o, n, e, _, _, d⟩, _⟩ := I.list h
  obtain ⟨its', r', ⟨o', n', e', _, _, d'⟩, _⟩ := I.list h'
  rw [e] at e'; cases e'
  rw [d] at d'
  injection d' with d1 _
  have : its = its' := by simpa using congrArg Array.toList d1
  subst this
  exact r.inj r'
theorem Inv.tuple_inj (I : Inv X pins σ H s) (h : SqT X.K H a xs) (h' : SqT X.K H a ys) : xs = ys := by
  obtain ⟨its, r, ⟨o, e, _, n, d⟩, _⟩ := I.tuple h
  obtain ⟨its', r', ⟨o', e', _, n', d'⟩, _⟩ := I.tuple h'
  rw [e] at e'; cases e'
  rw [d] at d'
  injection d' with d1 _
  have : its = its' := by simpa using congrArg Array.toList d1
  subst this
  exact r.inj r'
end
noncomputable abbrev Cx.wish (X : Cx) (E : Value → Shared → Prop) : Cx := { X with xe := E }
noncomputable abbrev Cx.nox (X : Cx) : Cx := X.wish fun _ _ => False
theorem Cx.Ok.wish {X : Cx} (ok : X.Ok) (E : Value → Shared → Prop) : (X.wish E).Ok :=
  ⟨ok.mod, ok.kind, ok.glob, ok.blt, ok.above, ok.inj, ok.has, ok.cab, ok.hd, ok.frames, ok.stk, ok.exf, ok.bs, ok.bsz, ok.noex, ok.exfs, ok.funs, ok.frf⟩
theorem Cx.Ok.unwish {X : Cx} {E : Value → Shared → Prop} (ok : (X.wish E).Ok) : X.Ok :=
  ⟨ok.mod, ok.kind, ok.glob, ok.blt, ok.above, ok.inj, ok.has, ok.cab, ok.hd, ok.frames, ok.stk, ok.exf, ok.bs, ok.bsz, ok.noex, ok.exfs, ok.funs, ok.frf⟩
section
variable {X : Cx} {pins : List (Addr × Obj)} {σ : St} {H : Hp} {s : Shared} {E : Value → Shared → Prop}
theorem Inv.wish (I : Inv X pins σ H s) (E : Value → Shared → Prop) : Inv (X.wish E) pins σ H s := ⟨I.ok.wish E, I.os, I.bare, I.base, I.loc, I.cell, I.free, I.freeC, I.pin, I.hok, I.len⟩
theorem Inv.unwish (I : Inv (X.wish E) pins σ H s) : Inv X pins σ H s := ⟨I.ok.unwish, I.os, I.bare, I.base, I.loc, I.cell, I.free, I.freeC, I.pin, I.hok, I.len⟩
theorem SP.unwish {D : zer} {f : Flow} {s' : Shared} (h : SP (X.wish E) pins D f s') : SP X pins D f s' := by
  cases f with
  | next => obtain ⟨σ', H', I, q⟩ := h; exact ⟨σ', H', I.unwish, q⟩
  | brk => obtain ⟨σ', H', I, q⟩ := h; exact ⟨σ', H', I.unwish, q⟩
  | cont => obtain ⟨σ', H', I, q⟩ := h; exact ⟨σ', H', I.unwish, q⟩
  | ret u => obtain ⟨v, σ', H', I, r, q⟩ := h; exact ⟨v, σ', H', I.unwish, r, q⟩
theorem PSs.nox {st : List Stmt} {t : TS} (h : PSs X.nox st t) : PSs X st t := fun pins s σ H D I hw =>
  wpAny_mono (h pins s σ H D (I.wish _) hw) (fun _ _ q => q.unwish) fun _ _ z => False.elim z
end
section
variable {X : Cx} {st : Stmt} {rest : List Stmt} {t u : TS} {e : Expr} {te : TE} {pos : Pos}
noncomputable def zlr : TS := fun D σ H => D.nx σ H
noncomputable def tSeq (t u : TS) : TS := fun D σ H => t { D with nx := u D } σ H
theorem zfJ : PSs X [] zlr := fun _ _ σ H _ I h => wpAny_execs_nil ⟨σ, H, I, h⟩
theorem Zl (h1 : PS X st t) (h2 : PSs X rest u) : PSs X (st :: rest) (tSeq t u) := by
  intro pins s σ H D I h
  refine wpAny_execs_cons (thn (h1 pins s σ H { D with nx := u D } I h) fun f s1 q => ?_)
  cases f with
  | next =>
    obtain ⟨σ', H', I', q⟩ := q
    exact h2 pins s1 σ' H' D I' q
  | ret v => exact q
  | brk => exact q
  | cont => exact q
theorem X2 (h1 : PS X st t) : PSs X [st] t := by
  intro pins s σ H D I h
  refine wpAny_execs_cons (thn (h1 pins s σ H D I h) fun f s1 q => ?_)
  cases f with
  | next => exact wpAny_execs_nil q
  | ret v => exact q
  | brk => exact q
  | cont => exact q
theorem Inv.quiet {pins : List (Addr × Obj)} {σ : St} {H : Hp} {s : Shared} (I : Inv X pins σ H s) : interactive X.env = false := by simp [interactive, I.ok.kind]
noncomputable def zlv (te : TE) : TS := fun D σ H => te σ H fun _ H1 => D.nx σ H1
theorem XH (he : PE X e te) (hs : swapsWith e none pos.line X.env = pure false := by rfl) : PS X (.Expr e pos) (zlv te) := by
  intro pins s σ H D I h
  exact wpAny_Expr_any (thn (he pins s σ H _ I h) fun v s1 ⟨x, H1, I1, r1, q1⟩ => ⟨σ, H1, I1, q1⟩) I.quiet hs
noncomputable def tRet (te : TE) : TS := fun D σ H => te σ H D.rt
theorem zeR (he : PE X e te) : PS X (.Return (some e) pos) (tRet te) := by
  intro pins s σ H D I h
  exact wpAny_Return_some (thn (he pins s σ H _ I h) fun v s1 ⟨x, H1, I1, r1, q1⟩ => ⟨x, σ, H1, I1, r1, q1⟩)
noncomputable def tIfS (c : TT) (t u : TS) : TS := fun D σ H => c σ H fun b H1 => if b = true then t D σ H1 else u D σ H1
theorem zkS {c : Expr} {a b : List Stmt} {tc : TT} (hc : PT X c tc) (ha : PSs X a t) (hb : PSs X b u) : PS X (.If c a b pos) (tIfS tc t u) := by
  intro pins s σ H D I h
  refine wpAny_If (thn (hc pins s σ H _ I h) fun d s1 hh9 => ?_)
  obtain ⟨H1, I1, q1⟩ := hh9
  cases d with
  | true => exact ha pins s1 σ H1 D I1 q1
  | false => exact hb pins s1 σ H1 D I1 q1
noncomputable def zjD : TS := fun _ _ _ => False
theorem zgE : PS X st zjD := fun _ _ _ _ _ _ h => h.elim
end
noncomputable abbrev TG := V → St → Hp → (St → Hp → Prop) → Prop
noncomputable abbrev TGs := List V → St → Hp → (St → Hp → Prop) → Prop
noncomputable def PG (X : Cx) (target : Expr) (t : TG) : Prop :=
  ∀ (pins : List (Addr × Obj)) (s : Shared) (σ : St) (H : Hp) (v : V) (u : Value) (Q : St → Hp → Prop), Inv X pins σ H s → yO v u → t v σ H Q →
    wpAny (model X.prog X.w) X.A (assign target X.env u) (fun _ s' => ∃ σ' H', Inv X pins σ' H' s' ∧ Q σ' H') X.xe s
noncomputable def PGs (X : Cx) (ts : List Expr) (t : TGs) : Prop :=
  ∀ (pins : List (Addr × Obj)) (s : Shared) (σ : St) (H : Hp) (vs : List V) (us : List Value) (Q : St → Hp → Prop), Inv X pins σ H s → yx vs us → t vs σ H Q →
    wpAny (model X.prog X.w) X.A (assignInOrder ((assignEach ts X.env).map (·.2)) us) (fun _ s' => ∃ σ' H', Inv X pins σ' H' s' ∧ Q σ' H') X.xe s
noncomputable abbrev zlF := V → V → V → Hp → (Hp → Prop) → Prop
noncomputable def PSet (X : Cx) (t : zlF) : Prop :=
  ∀ (pins : List (Addr × Obj)) (s : Shared) (σ : St) (H : Hp) (o i v : V) (ov iv u : Value) (Q : Hp → Prop), Inv X pins σ H s → yO o ov → yO i iv → yO v u → t o i v H Q →
    wpAny (model X.prog X.w) X.A (setItem ov iv u) (fun _ s' => ∃ H', Inv X pins σ H' s' ∧ Q H') X.xe s
section
variable {X : Cx} {pos : Pos}
noncomputable def Yn (i : Nat) : TG := fun v σ H Q => Q (σ.set i (some v)) H
theorem zC {i : Nat} {x : Str} (hN : X.N.Nodup) (hi : X.N[i]? = some x) (hx : Loc X.env.scope x) (hf : X.fn x = true ∨ X.env.scope.names.lookup x = some .local := by first | exact .inl rfl | exact .inr rfl | assumption) : PG X (.Name x pos) (Yn i) := by
  intro pins s σ H v u Q I r h
  exact wpAny_assign_Name (zde I hN hi hx r (fun s' I' => ⟨_, H, I', h⟩) hf)
noncomputable def zk9 : TGs := fun vs σ H Q => vs = [] ∧ Q σ H
noncomputable def zbj (t : TG) (u : TGs) : TGs := fun vs σ H Q => ∃ v r, vs = v :: r ∧ t v σ H fun σ' H' => u r σ' H' Q
theorem zev : PGs X [] zk9 := by
  intro pins s σ H vs us Q I r h
  obtain ⟨e, h⟩ := h
  subst e
  cases r
  exact assignInOrder_nil ⟨σ, H, I, h⟩
theorem Wc {e : Expr} {es : List Expr} {t : TG} {u : TGs} (h1 : PG X e t) (h2 : PGs X es u)
    (hs : (assignEach (e :: es) X.env).map (·.2) = assign e X.env :: (assignEach es X.env).map (·.2) := by rfl) : PGs X (e :: es) (zbj t u) := by
  intro pins s σ H vs us Q I r h
  obtain ⟨v, vr, e1, h⟩ := h
  subst e1
  cases r with
  | cons r rr =>
    rw [hs]
    refine assignInOrder_cons (thn (h1 pins s σ H _ _ _ I r h) fun _ s1 hh9 => ?_)
    obtain ⟨σ1, H1, I1, q1⟩ := hh9
    exact h2 pins s1 σ1 H1 _ _ Q I1 rr q1
noncomputable def zk6 (K : PySem.W.Frag) (n : Nat) (t : TGs) : TG := fun v σ H Q => ∃ a xs, v = .ref a ∧ SqT K H a xs ∧ xs.length = n ∧ t xs σ H Q
theorem zho {es : List Expr} {k : Nat} {t : TGs} {n : Nat} (hc : X.calm = true) (h : PGs X es t)
    (hn : (assignEach es X.env).length = n := by rfl) (hst : (assignEach es X.env).findIdx? (·.1) = none := by rfl) : PG X (.Tuple es k pos) (zk6 X.K n t) := by
  intro pins s σ H v u Q I r hw
  obtain ⟨a, xs, e1, hq, hl, hw⟩ := hw
  subst e1
  cases r
  obtain ⟨its, rv, ht, hz⟩ := I.tuple hq
  refine assign_Tuple_tuple (I.ok.hd hc) ht (by simp [hn, ← hl, rv.length]) hst fun h' hx => ?_
  have I1 : Inv X pins σ H { s with heap := h' } := I.kept (t' := s.toks) fun b o e => hx b o (Nat.ne_of_lt (Heap.lt_size e)) e
  exact h pins _ σ H xs _ Q I1 (by simpa using rv) hw
noncomputable def gSub (to ti : TE) (t : zlF) : TG := fun v σ H Q => to σ H fun o H1 => ti σ H1 fun i H2 => t o i v H2 fun H3 => Q σ H3
theorem zkb {o i : Expr} {to ti : TE} {t : zlF} (ho : PE X o to) (hi : PE X i ti) (hs : PSet X t)
    (ha : ∀ v, assign (.Subscript o i pos) X.env v = (do
      let ov ← holding [v] (eval o X.env)
      let iv ← holding [v, ov] (eval i X.env)
      standAt pos
      holding [v, ov, iv] (setItem ov iv v)
      release [v, ov, iv] []) := by intro _; rfl) : PG X (.Subscript o i pos) (gSub to ti t) := by
  intro pins s σ H v u Q I r h
  rw [ha]
  refine wpAny_bind (wpAny_holding (thn (ho pins s σ H _ I h) fun ov s1 hh9 => ?_))
  obtain ⟨x, H1, I1, r1, q1⟩ := hh9
  refine wpAny_bind (wpAny_holding (thn (hi pins s1 σ H1 _ I1 q1) fun iv s2 hh9 => ?_))
  obtain ⟨y, H2, I2, r2, q2⟩ := hh9
  refine wpAny_bind (wpAny_standAt (wpAny_bind (wpAny_holding (thn (hs pins s2 σ H2 x y v ov iv u _ I2 r1 r2 r q2) fun _ s3 hh9 => ?_))))
  obtain ⟨H3, I3, q3⟩ := hh9
  exact wpAny_release ⟨σ, H3, I3, q3⟩
noncomputable def zlg (te : TE) (g : TG) : TS := fun D σ H => te σ H fun x H1 => g x σ H1 D.nx
theorem zjB {tg e : Expr} {te : TE} {g : TG} (he : PE X e te) (hg : PG X tg g) (hs : swapsWithSole [tg] e pos.line X.env = pure false := by rfl) (hw : swappedStores [tg] e X.env = pure none := by rfl)
    (h1 : (assignEach [tg] X.env).map (·.2) = [assign tg X.env] := by rfl) : PS X (.Assign [tg] e pos) (zlg te g) := by
  intro pins s σ H D I h
  refine wpAny_Assign_stores (thn (he pins s σ H _ I h) fun v s1 hh9 => ?_) hs hw
  obtain ⟨x, H1, I1, r1, q1⟩ := hh9
  rw [h1]
  exact thn (hg pins s1 σ H1 x v _ I1 r1 q1) fun _ s2 q => q
theorem WW {i : Nat} {x : Str} {e : Expr} {te : TE} {pos' : Pos} (hN : X.N.Nodup) (hi : X.N[i]? = some x) (hx : Loc X.env.scope x) (he : PE X e te) (hs : swapsWith e (some (.Name x pos')) pos.line X.env = pure false := by rfl) (hf : X.fn x = true ∨ X.env.scope.names.lookup x = some .local := by first | exact .inl rfl | exact .inr rfl | assumption) :
    PS X (.Assign [.Name x pos'] e pos) (zlg te (Yn i)) := by
  intro pins s σ H D I h
  refine wpAny_Assign_Name (thn (he pins s σ H _ I h) fun v s1 hh9 => ?_) hs
  obtain ⟨y, H1, I1, r1, q1⟩ := hh9
  exact zde I1 hN hi hx r1 (fun s2 I2 => ⟨_, H1, I2, q1⟩) hf
end
section
variable {X : Cx} {pos : Pos}
noncomputable def zkf (c : TT) (tb : TS) : TS := fun D σ H => ∃ W : Nat → St → Hp → Prop, (∃ m, W m σ H) ∧ ∀ m σ H, W m σ H →
  c σ H fun b H1 => if b = true then ∃ N : St → Hp → Prop, (∀ σ' H', N σ' H' → ∃ m', m' < m ∧ W m' σ' H') ∧ tb { D with nx := N, ct := N, bk := D.nx } σ H1 else D.nx σ H1
theorem zgk {c : Expr} {body : List Stmt} {tc : TT} {tb : TS} (hp : PassesOwn (model X.prog X.w) X.A X.env X.xe) (hc : PT X c tc) (hb : PSs X body tb) : PS X (.While c body [] pos) (zkf tc tb) := by
  intro pins s σ H D I h
  obtain ⟨W, ⟨m0, w0⟩, turn⟩ := h
  refine wpAny_While (codeAny_whileLoop (fun n s' => ∃ σ' H', Inv X pins σ' H' s' ∧ W n σ' H') ?_ m0 ⟨σ, H, I, w0⟩)
  rintro n s1 ⟨σ1, H1, I1, w1⟩
  refine wpAny_passesOwn hp (thn (hc pins s1 σ1 H1 _ I1 (turn n σ1 H1 w1)) fun b s2 hh9 => ?_)
  obtain ⟨H2, I2, q2⟩ := hh9
  cases b with
  | true =>
    obtain ⟨N, hN, q2⟩ := q2
    rw [if_pos rfl]
    refine wpAny_passesOwn hp (thn (hb pins s2 σ1 H2 _ I2 q2) fun f s3 q3 => ?_)
    cases f with
    | next =>
      obtain ⟨σ3, H3, I3, n3⟩ := q3
      obtain ⟨m', hm, w3⟩ := hN σ3 H3 n3
      exact ⟨m', hm, σ3, H3, I3, w3⟩
    | cont =>
      obtain ⟨σ3, H3, I3, n3⟩ := q3
      obtain ⟨m', hm, w3⟩ := hN σ3 H3 n3
      exact ⟨m', hm, σ3, H3, I3, w3⟩
    | brk => exact q3
    | ret v => exact q3
  | false =>
    rw [if_neg Bool.false_ne_true]
    exact wpAny_execs_nil ⟨σ1, H2, I2, q2⟩
end
structure It where
  go : Nat → Hp → Prop
  yld : Nat → Hp → V → Hp → Prop
  stop : Nat → Hp → Prop
noncomputable def zdd (X : Cx) (pins : List (Addr × Obj)) (H : Hp) (b : Addr) : Prop :=
  H b = none ∧ b ≠ X.env.locals ∧ b ∉ X.fs ∧ (b ∈ X.ex ∨ X.s₀.heap.objs.size ≤ b) ∧ (∀ x c, X.env.cells.lookup x = some c → c ≠ b) ∧ ∀ p ∈ X.pn ++ pins, p.1 ≠ b
theorem Inv.fpOk {X : Cx} {pins : List (Addr × Obj)} {σ : St} {H H' : Hp} {s : Shared} {b : Addr} (I : Inv X pins σ H s) (hb : s.heap.objs.size ≤ b) (hn : H' b = none) : zdd X pins H' b := by
  refine ⟨hn, Nat.ne_of_gt (Nat.lt_of_lt_of_le I.lt hb), I.nofs hb, .inr (Nat.le_trans I.sz hb), fun x c e z => ?_, fun p hp z => ?_⟩
  · obtain ⟨v, q⟩ := I.cell x c e
    exact absurd (Nat.lt_of_lt_of_le q.lt (by rw [z]; exact hb)) (Nat.lt_irrefl _)
  · exact absurd (Nat.lt_of_lt_of_le (Heap.lt_size (I.pin p hp).1) (by rw [z]; exact hb)) (Nat.lt_irrefl _)
set_option genInjectivity false in
set_option genSizeOf false in
set_option genCtorIdx false in
structure zhm (P : Program) (w : World) (K : PySem.W.Frag) (tg : Expr) (J : It) (fp : List Addr) (it : Addr) (tn : Nat → Heap → Prop) : Prop where
  mem : it ∈ fp
  obj : ∀ i h, tn i h → ∀ b ∈ fp, ∃ o, h.get? b = some o ∧ ∀ v, o.data ≠ .cell v
  keep : ∀ i h h', tn i h → (∀ b ∈ fp, ∀ o, h.get? b = some o → h'.get? b = some o) → tn i h'
  item : ∀ (X : Cx), X.prog = P → X.w = w → X.K = K → X.calm = true → ∀ (i : Nat) (pins : List (Addr × Obj)) (s : Shared) (σ : St) (H : Hp) (E : Value → Shared → Prop), Inv X pins σ H s → (∀ b ∈ fp, zdd X pins H b) → tn i s.heap → J.go i H →
    wpAny (model P w) X.A (pyNext (.ref it)) (fun r s1 => ∃ u, r = some u ∧
      wpAny (model P w) X.A (letOwnedTupleGo tg (.ref it) u) (fun _ s2 => ∃ x H', Inv X pins σ H' s2 ∧ yO x u ∧ J.yld i H x H' ∧ tn (i + 1) s2.heap ∧ ∀ b ∈ fp, H' b = none) E s1) E s
  done : ∀ (X : Cx), X.prog = P → X.w = w → X.K = K → X.calm = true → ∀ (i : Nat) (pins : List (Addr × Obj)) (s : Shared) (σ : St) (H : Hp) (E : Value → Shared → Prop), Inv X pins σ H s → (∀ b ∈ fp, zdd X pins H b) → tn i s.heap → J.stop i H →
    wpAny (model P w) X.A (pyNext (.ref it)) (fun r s1 => r = none ∧ Inv X pins σ H s1) E s
  self : ∀ (A : Around) (i : Nat) (s : Shared) (Q : Value → Shared → Prop) (E : Value → Shared → Prop), tn i s.heap → Q (.ref it) s → wpAny (model P w) A (pyIter (.ref it)) Q E s
noncomputable abbrev TI := St → Hp → (It → Hp → Prop) → Prop
noncomputable def PIE (X : Cx) (pins : List (Addr × Obj)) (σ : St) (tg : Expr) (R : It → Hp → Prop) (itv : Value) (s2 : Shared) : Prop :=
  ∃ (it : Addr) (fp : List Addr) (tn : Nat → Heap → Prop) (J : It) (H' : Hp), itv = .ref it ∧ Inv X pins σ H' s2 ∧ zhm X.prog X.w X.K tg J fp it tn ∧ tn 0 s2.heap ∧ (∀ b ∈ fp, zdd X pins H' b) ∧ R J H'
noncomputable def PI (X : Cx) (tg iter : Expr) (wi : TI) : Prop :=
  ∀ (pins : List (Addr × Obj)) (s : Shared) (σ : St) (H : Hp) (R : It → Hp → Prop), Inv X pins σ H s → wi σ H R →
    wpAny (model X.prog X.w) X.A (eval iter X.env) (fun v s1 => wpAny (model X.prog X.w) X.A (pyIter v) (PIE X pins σ tg R) X.xe s1) X.xe s
theorem zhe {M : Model} {A : Around} {E : Value → Shared → Prop} {s : Shared} {tg : Expr} {it : Addr} {u : Value} {o : Obj} {n : String} {vs : Array Value} {Q : Unit → Shared → Prop} (ho : s.heap.get? it = some o) (hc : o.cls = .type n) (hd : o.data = .fields vs)
    (hn : ["enumerate", "zip", "dict_itemiterator", "dict_reverseitemiterator", "odict_iterator", "itertools.zip_longest", "itertools.pairwise"].contains n = false) (hQ : Q () s) : wpAny M A (letOwnedTupleGo tg (.ref it) u) Q E s := by
  unfold letOwnedTupleGo
  cases tg <;> first
    | exact wpAny_pure hQ
    | (cases u <;> first
        | exact wpAny_pure hQ
        | (refine wpAny_bind (wpAny_load ho ?_)
           rw [hc, hd]
           show wpAny M A (if (["enumerate", "zip", "dict_itemiterator", "dict_reverseitemiterator", "odict_iterator", "itertools.zip_longest", "itertools.pairwise"].contains n && vs[0]? == some (rawInt _)) = true then _ else _) Q E s
           rw [if_neg (by intro h; rw [hn, Bool.false_and] at h; cases h)]
           exact wpAny_pure hQ))
noncomputable def Itl (K : PySem.W.Frag) (a : Addr) : It :=
  ⟨fun i H => ∃ xs x, SqL K H a xs ∧ xs[i]? = some x, fun i H x H' => H' = H ∧ ∀ xs, SqL K H a xs → xs[i]? = some x, fun i H => ∃ xs, SqL K H a xs ∧ xs.length ≤ i⟩
noncomputable def Itt (K : PySem.W.Frag) (a : Addr) : It :=
  ⟨fun i H => ∃ xs x, SqT K H a xs ∧ xs[i]? = some x, fun i H x H' => H' = H ∧ ∀ xs, SqT K H a xs → xs[i]? = some x, fun i H => ∃ xs, SqT K H a xs ∧ xs.length ≤ i⟩
noncomputable def Itr (lo : Int) (n : Nat) : It := ⟨fun i _ => i < n, fun i H x H' => H' = H ∧ x = .int (lo + i), fun i _ => n ≤ i⟩
theorem zfR {P : Program} {w : World} {K : PySem.W.Frag} {tg : Expr} (a it : Addr) : zhm P w K tg (Itl K a) [it] it (fun i h => h.IsListIter it a i) where
  mem := by simp
  obj := fun i h st b hb => by
    have e : b = it := by simpa using hb
    subst e
    obtain ⟨o, e, c, d⟩ := st
    exact ⟨o, e, fun v z => by rw [d] at z; cases z⟩
  keep := fun i h h' st k => st.at fun o e => k it (by simp) o e
  item := by
    intro X hP hw hK hc i pins s σ H E I hf st hg
    subst hP hw hK
    obtain ⟨xs, x, hq, hx⟩ := hg
    obtain ⟨its, rv, p, hz⟩ := I.list hq
    obtain ⟨u, hu, ru⟩ := rv.get hx
    obtain ⟨f0, f1, f2, f3, f4, f5⟩ := hf it (by simp)
    refine wpAny_pyNext_list_item st p.isList (x := u) (by simpa using hu) fun h' st' sb => ?_
    have I1 : Inv X pins σ H { s with heap := h' } := I.turned (t' := s.toks) (fun b o hb e => (sb.2 b hb).trans e) f0 f1 f3 f4 f5
    obtain ⟨o, e, c, d⟩ := id st'
    exact ⟨u, rfl, zhe (s := { s with heap := h' }) e c d (by decide) ⟨x, H, I1, ru, ⟨rfl, fun ys hy => by rw [I.list_inj hy hq]; exact hx⟩, st', fun b hb => (hf b hb).1⟩⟩
  done := by
    intro X hP hw hK hc i pins s σ H E I hf st hg
    subst hP hw hK
    obtain ⟨xs, hq, hx⟩ := hg
    obtain ⟨its, rv, p, hz⟩ := I.list hq
    obtain ⟨f0, f1, f2, f3, f4, f5⟩ := hf it (by simp)
    have hl := rv.length
    exact wpAny_pyNext_list_end (I.ok.hd hc) st p.isList (by simp; omega) fun h' eb => ⟨rfl, I.turned (t' := s.toks) (fun b o hb e => eb b o hb e) f0 f1 f3 f4 f5⟩
  self := fun _ _ _ _ _ st h => wpAny_pyIter_listiter st h
theorem zdY {P : Program} {w : World} {K : PySem.W.Frag} {tg : Expr} (a it : Addr) : zhm P w K tg (Itt K a) [it] it (fun i h => h.IsTupleIter it a i) where
  mem := by simp
  obj := fun i h st b hb => by
    have e : b = it := by simpa using hb
    subst e
    obtain ⟨o, e, c, d⟩ := st
    exact ⟨o, e, fun v z => by rw [d] at z; cases z⟩
  keep := fun i h h' st k => st.at fun o e => k it (by simp) o e
  item := by
    intro X hP hw hK hc i pins s σ H E I hf st hg
    subst hP hw hK
    obtain ⟨xs, x, hq, hx⟩ := hg
    obtain ⟨its, rv, p, hz⟩ := I.tuple hq
    obtain ⟨u, hu, ru⟩ := rv.get hx
    obtain ⟨f0, f1, f2, f3, f4, f5⟩ := hf it (by simp)
    refine wpAny_pyNext_tuple_item st (show s.heap.IsTuple a its.toArray from p) (x := u) (by simpa using hu) fun h' st' sb => ?_
    have I1 : Inv X pins σ H { s with heap := h' } := I.turned (t' := s.toks) (fun b o hb e => (sb.2 b hb).trans e) f0 f1 f3 f4 f5
    obtain ⟨o, e, c, d⟩ := id st'
    exact ⟨u, rfl, zhe (s := { s with heap := h' }) e c d (by decide) ⟨x, H, I1, ru, ⟨rfl, fun ys hy => by rw [I.tuple_inj hy hq]; exact hx⟩, st', fun b hb => (hf b hb).1⟩⟩
  done := by
    intro X hP hw hK hc i pins s σ H E I hf st hg
    subst hP hw hK
    obtain ⟨xs, hq, hx⟩ := hg
    obtain ⟨its, rv, p, hz⟩ := I.tuple hq
    obtain ⟨f0, f1, f2, f3, f4, f5⟩ := hf it (by simp)
    have hl := rv.length
    exact wpAny_pyNext_tuple_end (I.ok.hd hc) st (show s.heap.IsTuple a its.toArray from p) (by simp; omega) fun h' eb => ⟨rfl, I.turned (t' := s.toks) (fun b o hb e => eb b o hb e) f0 f1 f3 f4 f5⟩
  self := fun _ _ _ _ _ st h => wpAny_pyIter_tupleiter st h
theorem zef {P : Program} {w : World} {K : PySem.W.Frag} {tg : Expr} (it : Addr) (lo : Int) (n : Nat) : zhm P w K tg (Itr lo n) [it] it (fun i h => IsRangeIter h it (lo + (i : Nat) * 1) ((n : Int) - (i : Nat)) 1) where
  mem := by simp
  obj := fun i h st b hb => by
    have e : b = it := by simpa using hb
    subst e
    exact ⟨_, st, fun v z => by
      have z' : Data.fields _ = Data.cell v := z
      cases z'⟩
  keep := fun i h h' st k => k it (by simp) _ st
  item := by
    intro X hP hw hK hc i pins s σ H E I hf st hg
    subst hP hw hK
    obtain ⟨f0, f1, f2, f3, f4, f5⟩ := hf it (by simp)
    have W := Walks.range (prog := X.prog) (w := X.w) (I.ok.hd hc) it lo 1 n
    refine W.item i s _ _ hg st fun v h' tk hv st' kk => ?_
    obtain ⟨t, rfl⟩ := hv
    have I1 : Inv X pins σ H { s with heap := h', toks := tk } := I.turned (fun b o hb e => kk b o (by simpa using hb) e) f0 f1 f3 f4 f5
    refine ⟨_, rfl, zhe (s := { s with heap := h', toks := tk }) (n := "range_iterator") st' rfl rfl (by decide) ⟨.int (lo + i), H, I1, ⟨t, ?_⟩, ⟨rfl, rfl⟩, st', fun b hb => (hf b hb).1⟩⟩
    rw [Int.mul_one]
  done := by
    intro X hP hw hK hc i pins s σ H E I hf st hg
    subst hP hw hK
    obtain ⟨f0, f1, f2, f3, f4, f5⟩ := hf it (by simp)
    exact wpAny_pyNext_range_end (I.ok.hd hc) st (by have : n ≤ i := hg; omega) fun h' eb => ⟨rfl, I.turned (t' := s.toks) (fun b o hb e => eb b o hb e) f0 f1 f3 f4 f5⟩
  self := fun _ _ _ _ _ st h => wpAny_pyIter_rangeiter st h
end L2
namespace L2
open PySem PySem.Spec PyProof.Rows
section
variable {X : Cx} {tg : Expr}
theorem zds {pins : List (Addr × Obj)} {σ : St} {H : Hp} {s : Shared} {R : It → Hp → Prop} {E : Value → Shared → Prop} {lo hi : Int} {t u v : Tok} {tk : Nat} (I : Inv X pins σ H s) (h1 : -(2 ^ 62) ≤ lo) (h2 : lo < 2 ^ 62) (h3 : -(2 ^ 62) ≤ hi) (h4 : hi < 2 ^ 62)
    (q : R (Itr lo (hi - lo).toNat) H) : wpAny (model X.prog X.w) X.A (pyIter (.ref s.heap.objs.size)) (PIE X pins σ tg R) E { s with heap := s.heap.push { cls := .type "range", data := .fields #[.int lo t, .int hi u, .int 1 v] }, toks := tk } := by
  refine wpAny_pyIter_range (IsRange.new ..) (small_one h1 h2 h3 h4) ?_
  have I1 : Inv X pins σ H { s with heap := s.heap.push { cls := .type "range", data := .fields #[.int lo t, .int hi u, .int 1 v] }, toks := tk } := I.kept fun b o e => Heap.get?_push_of_some _ e
  refine ⟨(s.heap.push { cls := .type "range", data := .fields #[.int lo t, .int hi u, .int 1 v] }).objs.size, [(s.heap.push { cls := .type "range", data := .fields #[.int lo t, .int hi u, .int 1 v] }).objs.size], _, _, H, rfl,
    I1.kept (t' := tk) fun b o e => Heap.get?_push_of_some _ e, zef _ lo (hi - lo).toNat, ?_, fun b hb => ?_, q⟩
  · have e1 : lo + ((0 : Nat) : Int) * 1 = lo := by simp
    have e2 : (((hi - lo).toNat : Nat) : Int) - ((0 : Nat) : Int) = Builtin.Range.rangeSize lo hi 1 := by rw [rangeSize_one]; split <;> omega
    show IsRangeIter _ _ (lo + ((0 : Nat) : Int) * 1) ((((hi - lo).toNat : Nat) : Int) - ((0 : Nat) : Int)) 1
    rw [e1, e2]
    exact Heap.get?_push_size _ rfl
  · have e : b = (s.heap.push { cls := .type "range", data := .fields #[.int lo t, .int hi u, .int 1 v] }).objs.size := by simpa using hb
    subst e
    exact I1.fpOk (Nat.le_refl _) (I1.hok.fresh (Nat.le_refl _))
noncomputable def zlW (ta : TA) : TI := fun σ H R => ta σ H fun vs H1 => ∃ j : Int, vs = [.int j] ∧ -(2 ^ 62) ≤ j ∧ j < 2 ^ 62 ∧ R (Itr 0 j.toNat) H1
noncomputable def zlT (ta : TA) : TI := fun σ H R => ta σ H fun vs H1 => ∃ i j : Int, vs = [.int i, .int j] ∧ (-(2 ^ 62) ≤ i ∧ i < 2 ^ 62 ∧ -(2 ^ 62) ≤ j ∧ j < 2 ^ 62) ∧ R (Itr i (j - i).toNat) H1
theorem WH {a : Expr} {ta : TA} {p pos : Pos} (hg : Gl X "range") (hm : X.mg "range" = none) (ha : PA X [a] ta) (hs : starEach [a] X.env = [(false, eval a X.env)] := by rfl) : PI X tg (.Call (.Name "range" p) [a] [] pos) (zlW ta) := by
  intro pins s σ H R I h
  refine Call_ (Y1 I hg hm boot_range (PyProof.Rows.callWith_type1 (thn (ha pos pins s σ H _ I h) fun us s1 hh9 => ?_) hs rfl))
  obtain ⟨vs, H1, I1, r1, q1⟩ := hh9
  obtain ⟨j, e, q1, q2, q⟩ := q1
  subst e
  cases r1 with
  | cons r rr =>
    cases rr
    obtain ⟨t, rfl⟩ := r
    exact call_range_1 (zds I1 (by omega) (by omega) q1 q2 (by simpa using q))
theorem V2 {a b : Expr} {ta : TA} {p pos : Pos} (hg : Gl X "range") (hm : X.mg "range" = none) (ha : PA X [a, b] ta) (hs : starEach [a, b] X.env = [(false, eval a X.env), (false, eval b X.env)] := by rfl) (hs2 : starEach [b] X.env = [(false, eval b X.env)] := by rfl) :
    PI X tg (.Call (.Name "range" p) [a, b] [] pos) (zlT ta) := by
  intro pins s σ H R I h
  refine Call_ (Y1 I hg hm boot_range (PyProof.Rows.callWith_type1 (thn (ha pos pins s σ H _ I h) fun us s1 hh9 => ?_) (by rw [hs, hs2]) (by rw [hs2]; rfl)))
  obtain ⟨vs, H1, I1, r1, q1⟩ := hh9
  obtain ⟨i, j, e, ⟨q1, q2, q3, q4⟩, q⟩ := q1
  subst e
  cases r1 with
  | cons r rr =>
    cases rr with
    | cons r' rr =>
      cases rr
      obtain ⟨t, rfl⟩ := r
      obtain ⟨t', rfl⟩ := r'
      exact call_range_2 (zds I1 q1 q2 q3 q4 q)
noncomputable def tFor (wi : TI) (g : TG) (tb : TS) : TS := fun D σ H => wi σ H fun J H1 => ∃ W : Nat → Nat → St → Hp → Prop, (∃ m, W 0 m σ H1) ∧ ∀ i m σ H, W i m σ H →
  (J.stop i H ∧ D.nx σ H) ∨ (J.go i H ∧ ∃ N : St → Hp → Prop, (∀ σ' H', N σ' H' → ∃ m', m' < m ∧ W (i + 1) m' σ' H') ∧ ∀ x H', J.yld i H x H' → g x σ H' fun σ2 H2 => tb { D with nx := N, ct := N, bk := D.nx } σ2 H2)
noncomputable def Xf (fp : List Addr) (h : Heap) : List (Addr × Obj) := fp.filterMap fun b => (h.get? b).map fun o => (b, o)
theorem vz {fp : List Addr} {h : Heap} {b : Addr} {o : Obj} (hb : b ∈ fp) (e : h.get? b = some o) : (b, o) ∈ Xf fp h := List.mem_filterMap.mpr ⟨b, hb, by rw [e]; rfl⟩
theorem zeu {fp : List Addr} {h : Heap} {p : Addr × Obj} (hp : p ∈ Xf fp h) : p.1 ∈ fp ∧ h.get? p.1 = some p.2 := by
  obtain ⟨b, hb, e⟩ := List.mem_filterMap.mp hp
  cases q : h.get? b with
  | none => rw [q] at e; cases e
  | some o =>
    rw [q] at e
    have e' : (b, o) = p := Option.some.inj e
    subst e'
    exact ⟨hb, q⟩
theorem Inv.pinned {pins : List (Addr × Obj)} {σ : St} {H : Hp} {s : Shared} {fp : List Addr} (I : Inv X pins σ H s) (hf : ∀ b ∈ fp, zdd X pins H b) (ho : ∀ b ∈ fp, ∃ o, s.heap.get? b = some o ∧ ∀ v, o.data ≠ .cell v) : Inv X (pins ++ Xf fp s.heap) σ H s :=
  I.pins_of fun p hp => (List.mem_append.mp hp).elim (fun z => I.pin p (List.mem_append_right _ z)) fun z => by
    obtain ⟨hb, e⟩ := zeu z
    obtain ⟨f0, f1, f2, _⟩ := hf p.1 hb
    obtain ⟨o, e', d⟩ := ho p.1 hb
    rw [e] at e'; cases e'
    exact ⟨e, f0, f1, f2, d⟩
theorem Inv.unpinned {pins pl : List (Addr × Obj)} {σ : St} {H : Hp} {s : Shared} (I : Inv X (pins ++ pl) σ H s) : Inv X pins σ H s := I.pins_of fun p hp => I.pin p (List.mem_append_right _ (List.mem_append_left _ hp))
theorem zeH {iter : Expr} {body : List Stmt} {wi : TI} {g : TG} {tb : TS} {pos : Pos} (hp : PassesOwn (model X.prog X.w) X.A X.env X.xe) (hc : X.calm = true) (hi : PI X tg iter wi) (hg : PG X tg g) (hb : PSs X body tb)
    (hs : ∀ x, foldedSetIterable iter X.env x = pure x := by intro _; rfl) : PS X (.For tg iter body [] pos) (tFor wi g tb) := by
  intro pins s σ H D I h
  refine wpAny_For (thn (hi pins s σ H _ I h) fun v s1 h1 => thn h1 fun itv s2 h2 => ?_) hs
  obtain ⟨it, fp, tn, J, H2, e, I2, T, st2, f2, W, ⟨m0, w0⟩, turn⟩ := h2
  subst e
  -- what stays true of the iterator's objects through the loop
  have stat : ∀ {H' : Hp}, (∀ b ∈ fp, H' b = none) → ∀ b ∈ fp, zdd X pins H' b := fun hn b hb => ⟨hn b hb, (f2 b hb).2⟩
  refine codeAny_forLoop_any (fun n s' => ∃ i σ' H', Inv X pins σ' H' s' ∧ tn i s'.heap ∧ (∀ b ∈ fp, H' b = none) ∧ W i n σ' H') ?_ m0 ⟨0, σ, H2, I2, st2, fun b hb => (f2 b hb).1, w0⟩
  rintro n s3 ⟨i, σ3, H3, I3, st3, fr3, w3⟩
  rcases turn i n σ3 H3 w3 with ⟨stop, qn⟩ | ⟨go, N, hN, step⟩
  · refine wpAny_passesOwn hp (thn (T.done X rfl rfl rfl hc i pins s3 σ3 H3 X.xe I3 (stat fr3) st3 stop) fun r s4 hh9 => ?_)
    obtain ⟨hr, I4⟩ := hh9
    subst hr
    exact wpAny_execs_nil ⟨σ3, H3, I4, qn⟩
  · refine wpAny_passesOwn hp (thn (T.item X rfl rfl rfl hc i pins s3 σ3 H3 X.xe I3 (stat fr3) st3 go) fun r s4 hh9 => ?_)
    obtain ⟨u, hr, h4⟩ := hh9
    subst hr
    refine wpAny_passesOwn hp (thn h4 fun _ s5 hh9 => ?_)
    obtain ⟨x, H5, I5, r5, y5, st5, fr5⟩ := hh9
    have I5' := I5.pinned (stat fr5) (T.obj _ _ st5)
    refine wpAny_passesOwn hp (thn (hg _ s5 σ3 H5 x u _ I5' r5 (step x H5 y5)) fun _ s6 hh9 => ?_)
    obtain ⟨σ6, H6, I6, q6⟩ := hh9
    refine wpAny_passesOwn hp (thn (hb _ s6 σ6 H6 _ I6 q6) fun f s7 q7 => ?_)
    have again : ∀ {σ7 : St} {H7 : Hp}, Inv X (pins ++ Xf fp s5.heap) σ7 H7 s7 → N σ7 H7 → ∃ m, m < n ∧ ∃ i σ' H', Inv X pins σ' H' s7 ∧ tn i s7.heap ∧ (∀ b ∈ fp, H' b = none) ∧ W i m σ' H' := fun {σ7 H7} I7 n7 => by
      obtain ⟨m', hm, w7⟩ := hN σ7 H7 n7
      refine ⟨m', hm, i + 1, σ7, H7, I7.unpinned, T.keep _ _ _ st5 fun b hb o e => (I7.pin (b, o) (List.mem_append_right _ (List.mem_append_right _ (vz hb e)))).1, fun b hb => ?_, w7⟩
      obtain ⟨o, e, d⟩ := T.obj _ _ st5 b hb
      exact (I7.pin (b, o) (List.mem_append_right _ (List.mem_append_right _ (vz hb e)))).2.1
    cases f with
    | next => obtain ⟨σ7, H7, I7, n7⟩ := q7; exact again I7 n7
    | cont => obtain ⟨σ7, H7, I7, n7⟩ := q7; exact again I7 n7
    | brk => obtain ⟨σ7, H7, I7, q7⟩ := q7; exact ⟨σ7, H7, I7.unpinned, q7⟩
    | ret v => obtain ⟨x7, σ7, H7, I7, r7, q7⟩ := q7; exact ⟨x7, σ7, H7, I7.unpinned, r7, q7⟩
end
end L2
namespace L2
open PySem PySem.Spec PyProof.Rows
noncomputable abbrev R2 := V → V → Hp → VK → Prop
noncomputable def OpR (X : Cx) (f : Value → Value → Sem Value) (r : R2) : Prop :=
  ∀ (pins : List (Addr × Obj)) (s : Shared) (σ : St) (H : Hp) (x y : V) (v u : Value) (Q : VK), Inv X pins σ H s → yO x v → yO y u → r x y H Q →
    wpAny (model X.prog X.w) X.A (f v u) (EP X pins σ Q) X.xe s
noncomputable def Yu (X : Cx) (f : Value) (r : List V → Hp → VK → Prop) : Prop :=
  ∀ (pins : List (Addr × Obj)) (s : Shared) (σ : St) (H : Hp) (xs : List V) (us : List Value) (Q : VK), Inv X pins σ H s → yx xs us → r xs H Q →
    wpAny (model X.prog X.w) X.A (call f us) (EP X pins σ Q) X.xe s
noncomputable def tOp (r : R2) (ta tb : TE) : TE := fun σ H Q => ta σ H fun x H1 => tb σ H1 fun y H2 => r x y H2 Q
noncomputable def rI (C : Int → Int → Prop) (g : Int → Int → V) : R2 := fun x y H Q => ∃ i j, x = .int i ∧ y = .int j ∧ C i j ∧ Q (g i j) H
noncomputable def rI0 (g : Int → Int → V) : R2 := fun x y H Q => ∃ i j, x = .int i ∧ y = .int j ∧ Q (g i j) H
section
variable {X : Cx} {a b c : Expr} {ta tb tc : TE} {pos : Pos}
theorem zlS (ha : PE X a ta) (hb : PE X b tb) {pins : List (Addr × Obj)} {s : Shared} {σ : St} {H : Hp} {R : V → V → Hp → Prop} (I : Inv X pins σ H s)
    (h : ta σ H fun x H1 => tb σ H1 fun y H2 => R x y H2) {Q : Value → Shared → Prop} {f : Value → Value → Sem Value}
    (hf : ∀ v u s2 x y H2, Inv X pins σ H2 s2 → yO x v → yO y u → R x y H2 → wpAny (model X.prog X.w) X.A (f v u) Q X.xe s2) :
    wpAny (model X.prog X.w) X.A (eval a X.env) (fun v s₁ => wpAny (model X.prog X.w) X.A (eval b X.env) (fun u s₂ => wpAny (model X.prog X.w) X.A (f v u) Q X.xe s₂) X.xe s₁) X.xe s := by
  refine thn (ha pins s σ H _ I h) fun v s1 hh9 => ?_
  obtain ⟨x, H1, I1, r1, q1⟩ := hh9
  refine thn (hb pins s1 σ H1 _ I1 q1) fun u s2 hh9 => ?_
  obtain ⟨y, H2, I2, r2, q2⟩ := hh9
  exact hf v u s2 x y H2 I2 r1 r2 q2
theorem zjv {op : Operator} {r : R2} (ho : OpR X (binaryOp op) r) (ha : PE X a ta) (hb : PE X b tb) : PE X (.BinOp a op b pos) (tOp r ta tb) := by
  intro pins s σ H Q I h
  exact wpAny_BinOp (zlS ha hb I h fun v u s2 x y H2 I2 rx ry q => ho pins s2 σ H2 x y v u Q I2 rx ry q)
theorem opI {f : Value → Value → Sem Value} {C : Int → Int → Prop} {g : Int → Int → Int}
    (rule : ∀ (i j : Int) (t u : Tok) (s : Shared) (Q : Value → Shared → Prop) (E : Value → Shared → Prop), C i j → Q (.int (g i j) s.toks) { s with toks := s.toks + 1 } → wpAny (model X.prog X.w) X.A (f (.int i t) (.int j u)) Q E s) :
    OpR X f (rI C fun i j => .int (g i j)) := by
  intro pins s σ H x y v u Q I rx ry h
  obtain ⟨i, j, rfl, rfl, hc, q⟩ := h
  obtain ⟨t, rfl⟩ := rx
  obtain ⟨t', rfl⟩ := ry
  exact rule i j t t' s _ _ hc ⟨.int (g i j), H, I.tok _, ⟨_, rfl⟩, q⟩
theorem opI0 {f : Value → Value → Sem Value} {g : Int → Int → Int}
    (rule : ∀ (i j : Int) (t u : Tok) (s : Shared) (Q : Value → Shared → Prop) (E : Value → Shared → Prop), Q (.int (g i j) s.toks) { s with toks := s.toks + 1 } → wpAny (model X.prog X.w) X.A (f (.int i t) (.int j u)) Q E s) :
    OpR X f (rI0 fun i j => .int (g i j)) := by
  intro pins s σ H x y v u Q I rx ry h
  obtain ⟨i, j, rfl, rfl, q⟩ := h
  obtain ⟨t, rfl⟩ := rx
  obtain ⟨t', rfl⟩ := ry
  exact rule i j t t' s _ _ ⟨.int (g i j), H, I.tok _, ⟨_, rfl⟩, q⟩
theorem zlf {f : Value → Value → Sem Value} {g : Int → Int → Bool}
    (rule : ∀ (i j : Int) (t u : Tok) (s : Shared) (Q : Value → Shared → Prop) (E : Value → Shared → Prop), Q (.bool (g i j)) s → wpAny (model X.prog X.w) X.A (f (.int i t) (.int j u)) Q E s) :
    OpR X f (rI0 fun i j => .bl (g i j)) := by
  intro pins s σ H x y v u Q I rx ry h
  obtain ⟨i, j, rfl, rfl, q⟩ := h
  obtain ⟨t, rfl⟩ := rx
  obtain ⟨t', rfl⟩ := ry
  exact rule i j t t' s _ _ ⟨.bl (g i j), H, I, rfl, q⟩
noncomputable def zl6 (i j : Int) : Prop := (-(2 ^ 64) < i ∧ i < 2 ^ 64) ∨ (-(2 ^ 64) < j ∧ j < 2 ^ 64)
theorem zl6.ok {i j : Int} (h : zl6 i j) : IntMulOk i j := by
  rcases h with ⟨h1, h2⟩ | ⟨h1, h2⟩
  · exact .of_left (intBits_le_64 h1 h2)
  · exact .of_right (intBits_le_64 h1 h2)
theorem zdP (k : Nat) : (0 : Int) ≤ 2 ^ k := by
  rw [two_pow_cast]
  exact Int.natCast_nonneg _
theorem zj9 : OpR X (binaryOp .Add) (rI0 fun i j => .int (i + j)) := opI0 fun _ _ _ _ _ _ _ q => add_int q
theorem zkw : OpR X (binaryOp .Sub) (rI0 fun i j => .int (i - j)) := opI0 fun _ _ _ _ _ _ _ q => sub_int q
theorem zk3 : OpR X (binaryOp .Mult) (rI zl6 fun i j => .int (i * j)) := opI fun _ _ _ _ _ _ _ hc q => mul_int q hc.ok
theorem zkY : OpR X (binaryOp .Mod) (rI (fun _ j => 0 < j) fun i j => .int (i % j)) := opI fun i j _ _ _ _ _ hc q => by
  have h1 : (0 : Int) < j := hc
  exact mod_int' (by omega) (by rw [Int.fmod_eq_emod_of_nonneg i (by omega)]; exact q)
theorem zjM : OpR X (binaryOp .RShift) (rI (fun _ j => 0 ≤ j) fun i j => .int (i / 2 ^ j.toNat)) := opI fun i j _ _ _ _ _ hc q =>
  rshift_int hc (by rw [Int.fdiv_eq_ediv_of_nonneg i (zdP _)]; exact q)
end
noncomputable def scal : V → V → Bool
  | .non, .non => true | .non, .int _ => true | .int _, .non => true | .non, .bl _ => true | .bl _, .non => true | .non, .str _ => true | .str _, .non => true
  | .int _, .int _ => true | .bl _, .bl _ => true | .str _, .str _ => true | .byt _, .byt _ => true
  | .int _, .str _ => true | .str _, .int _ => true | .bl _, .str _ => true | .str _, .bl _ => true
  | _, _ => false
noncomputable def rEq : R2 := fun x y H Q => scal x y = true ∧ Q (.bl (decide (x = y))) H
noncomputable def rNe : R2 := fun x y H Q => scal x y = true ∧ Q (.bl (!decide (x = y))) H
theorem zeL {i j : Int} : decide (V.int i = V.int j) = (i == j) := by
  rw [Bool.eq_iff_iff]
  simp
theorem zhl {i j : Bool} : decide (V.bl i = V.bl j) = (i == j) := by
  rw [Bool.eq_iff_iff]
  simp
theorem zfc {i j : Str} : decide (V.str i = V.str j) = (i == j) := by
  rw [Bool.eq_iff_iff]
  simp
theorem ze0 {i j : Array UInt8} : decide (V.byt i = V.byt j) = (i.toList == j.toList) := by
  rw [Bool.eq_iff_iff]
  cases i
  cases j
  simp
section
variable {X : Cx} {a b c : Expr} {ta tb tc : TE} {pos : Pos}
theorem zL {pins : List (Addr × Obj)} {σ : St} {H : Hp} {s : Shared} {Q : VK} {k k' : Bool} (I : Inv X pins σ H s) (q : Q (.bl k) H) (e : k = k') : EP X pins σ Q (.bool k') s := by
  subst e
  exact ⟨.bl k, H, I, rfl, q⟩
theorem zlo : OpR X (compareOp .Eq) rEq := by
  intro pins s σ H x y v u Q I rx ry h
  obtain ⟨hs, q⟩ := h
  cases x with
  | non =>
    cases rx
    cases y with
    | non => cases ry; exact PySem.EqNone.eq_none_none (zL I q (by simp))
    | bl j => cases ry; exact PySem.EqNone.eq_none_bool (zL I q (by simp))
    | int j => obtain ⟨t', rfl⟩ := ry; exact PySem.EqNone.eq_none_int (zL I q (by simp))
    | str j => obtain ⟨t', rfl⟩ := ry; exact PySem.EqNone.eq_none_str (zL I q (by simp))
    | _ => exact absurd (show false = true from hs) Bool.false_ne_true
  | bl i =>
    cases rx
    cases y with
    | non => cases ry; exact PySem.EqNone.eq_bool_none (zL I q (by simp))
    | bl j => cases ry; exact eq_bool (zL I q zhl)
    | str j => obtain ⟨t', rfl⟩ := ry; exact PySem.EqMixed.eq_bool_str (zL I q (by simp))
    | _ => exact absurd (show false = true from hs) Bool.false_ne_true
  | int i =>
    obtain ⟨t, rfl⟩ := rx
    cases y with
    | non => cases ry; exact PySem.EqNone.eq_int_none (zL I q (by simp))
    | int j => obtain ⟨t', rfl⟩ := ry; exact eq_int (zL I q zeL)
    | str j => obtain ⟨t', rfl⟩ := ry; exact PySem.EqMixed.eq_int_str (zL I q (by simp))
    | _ => exact absurd (show false = true from hs) Bool.false_ne_true
  | str i =>
    obtain ⟨t, rfl⟩ := rx
    cases y with
    | non => cases ry; exact PySem.EqNone.eq_str_none (zL I q (by simp))
    | bl j => cases ry; exact PySem.EqMixed.eq_str_bool (zL I q (by simp))
    | int j => obtain ⟨t', rfl⟩ := ry; exact PySem.EqMixed.eq_str_int (zL I q (by simp))
    | str j => obtain ⟨t', rfl⟩ := ry; exact eq_str (zL I q zfc)
    | _ => exact absurd (show false = true from hs) Bool.false_ne_true
  | byt i =>
    obtain ⟨t, rfl⟩ := rx
    cases y with
    | byt j => obtain ⟨t', rfl⟩ := ry; exact PySem.W.eq_bytes (zL I q ze0)
    | _ => exact absurd (show false = true from hs) Bool.false_ne_true
  | _ => cases y <;> exact absurd (show false = true from hs) Bool.false_ne_true
theorem zeh : OpR X (compareOp .NotEq) rNe := by
  intro pins s σ H x y v u Q I rx ry h
  obtain ⟨hs, q⟩ := h
  cases x with
  | non =>
    cases rx
    cases y with
    | non => cases ry; exact PySem.EqNone.ne_none_none (zL I q (by simp))
    | bl j => cases ry; exact PySem.EqNone.ne_none_bool (zL I q (by simp))
    | int j => obtain ⟨t', rfl⟩ := ry; exact PySem.EqNone.ne_none_int (zL I q (by simp))
    | str j => obtain ⟨t', rfl⟩ := ry; exact PySem.EqNone.ne_none_str (zL I q (by simp))
    | _ => exact absurd (show false = true from hs) Bool.false_ne_true
  | bl i =>
    cases rx
    cases y with
    | non => cases ry; exact PySem.EqNone.ne_bool_none (zL I q (by simp))
    | bl j => cases ry; exact ne_bool (zL I q (congrArg not zhl))
    | str j => obtain ⟨t', rfl⟩ := ry; exact PySem.EqMixed.ne_bool_str (zL I q (by simp))
    | _ => exact absurd (show false = true from hs) Bool.false_ne_true
  | int i =>
    obtain ⟨t, rfl⟩ := rx
    cases y with
    | non => cases ry; exact PySem.EqNone.ne_int_none (zL I q (by simp))
    | int j => obtain ⟨t', rfl⟩ := ry; exact ne_int (zL I q (congrArg not zeL))
    | str j => obtain ⟨t', rfl⟩ := ry; exact PySem.EqMixed.ne_int_str (zL I q (by simp))
    | _ => exact absurd (show false = true from hs) Bool.false_ne_true
  | str i =>
    obtain ⟨t, rfl⟩ := rx
    cases y with
    | non => cases ry; exact PySem.EqNone.ne_str_none (zL I q (by simp))
    | bl j => cases ry; exact PySem.EqMixed.ne_str_bool (zL I q (by simp))
    | int j => obtain ⟨t', rfl⟩ := ry; exact PySem.EqMixed.ne_str_int (zL I q (by simp))
    | str j => obtain ⟨t', rfl⟩ := ry; exact ne_str (zL I q (congrArg not zfc))
    | _ => exact absurd (show false = true from hs) Bool.false_ne_true
  | byt i =>
    obtain ⟨t, rfl⟩ := rx
    cases y with
    | byt j => obtain ⟨t', rfl⟩ := ry; exact PySem.W.ne_bytes (zL I q (congrArg not ze0))
    | _ => exact absurd (show false = true from hs) Bool.false_ne_true
  | _ => cases y <;> exact absurd (show false = true from hs) Bool.false_ne_true
theorem zkA : OpR X (compareOp .Lt) (rI0 fun i j => .bl (decide (i < j))) := zlf fun _ _ _ _ _ _ _ q => lt_int q
theorem zfO : OpR X (compareOp .LtE) (rI0 fun i j => .bl (decide (i ≤ j))) := zlf fun _ _ _ _ _ _ _ q => le_int q
theorem zdU : OpR X (compareOp .Gt) (rI0 fun i j => .bl (decide (j < i))) := zlf fun _ _ _ _ _ _ _ q => gt_int q
theorem zlw : OpR X (compareOp .GtE) (rI0 fun i j => .bl (decide (j ≤ i))) := zlf fun _ _ _ _ _ _ _ q => ge_int q
theorem zkx : OpR X (compareOp .Is) (fun x y H Q => y = .non ∧ Q (.bl (decide (x = .non))) H) := by
  intro pins s σ H x y v u Q I rx ry h
  obtain ⟨rfl, q⟩ := h
  cases ry
  refine is_none_gen (zL I q ?_)
  cases x <;> first
    | (cases rx; rfl)
    | (obtain ⟨t, rfl⟩ := rx; rfl)
theorem zh5 : OpR X (compareOp .IsNot) (fun x y H Q => y = .non ∧ Q (.bl (!decide (x = .non))) H) := by
  intro pins s σ H x y v u Q I rx ry h
  obtain ⟨rfl, q⟩ := h
  cases ry
  refine isnot_none_gen (zL I q ?_)
  cases x <;> first
    | (cases rx; rfl)
    | (obtain ⟨t, rfl⟩ := rx; rfl)
theorem OpR.or {f : Value → Value → Sem Value} {r r' : R2} (h : OpR X f r) (h' : OpR X f r') : OpR X f (fun x y H Q => r x y H Q ∨ r' x y H Q) := by
  intro pins s σ H x y v u Q I rx ry q
  rcases q with q | q
  · exact h pins s σ H x y v u Q I rx ry q
  · exact h' pins s σ H x y v u Q I rx ry q
theorem zG (b : Expr) {op : CmpOp} (h : op ≠ .In := by decide) (h2 : op ≠ .NotIn := by decide) : behindInMarks op b = false := by
  have e1 : (op == CmpOp.In) = false := by cases op <;> first | rfl | exact absurd rfl h
  have e2 : (op == CmpOp.NotIn) = false := by cases op <;> first | rfl | exact absurd rfl h2
  cases b <;> simp [behindInMarks, e1, e2]
theorem zhW {op : CmpOp} {r : R2} (ho : OpR X (compareOp op) r) (ha : PE X a ta) (hb : PE X b tb) (hm : behindInMarks op b = false) : PE X (.Compare a [op] [b] pos) (tOp r ta tb) := by
  intro pins s σ H Q I h
  exact wpAny_Compare1 (zlS ha hb I h fun v u s2 x y H2 I2 rx ry q => ho pins s2 σ H2 x y v u Q I2 rx ry q) hm
noncomputable def zkR (t : TE) : TT := fun σ H Q => t σ H fun x H' => ∃ k, x = .bl k ∧ Q k H'
theorem ziM {op : CmpOp} {r : R2} (ho : OpR X (compareOp op) r) (ha : PE X a ta) (hb : PE X b tb) (hm : behindInMarks op b = false) : PT X (.Compare a [op] [b] pos) (zkR (tOp r ta tb)) := by
  intro pins s σ H Q I h
  refine wpAny_isTrue_Compare1 (thn (ha pins s σ H _ I h) fun v s1 ⟨x, H1, I1, r1, q1⟩ => thn (hb pins s1 σ H1 _ I1 q1) fun u s2 ⟨y, H2, I2, r2, q2⟩ =>
    thn (ho pins s2 σ H2 x y v u _ I2 r1 r2 q2) fun c s3 ⟨z, H3, I3, r3, k, e, q3⟩ => ?_) hm
  subst e
  cases r3
  exact wpAny_truthy_bool ⟨H3, I3, q3⟩
noncomputable def zft (r r' : R2) (ta tb tc : TE) : TE := fun σ H Q => ta σ H fun x H1 => tb σ H1 fun y H2 => r x y H2 fun z H3 => ∃ k, z = .bl k ∧
  (if k = true then tc σ H3 fun w' H4 => r' y w' H4 Q else Q (.bl false) H3)
theorem zf4 {op op' : CmpOp} {r r' : R2} (ho : OpR X (compareOp op) r) (ho' : OpR X (compareOp op') r') (ha : PE X a ta) (hb : PE X b tb) (hc : PE X c tc)
    (hm : lastMarks [op, op'] [b, c] = false := by with_unfolding_all rfl) : PE X (.Compare a [op, op'] [b, c] pos) (zft r r' ta tb tc) := by
  intro pins s σ H Q I h
  refine Compare_chain (thn (ha pins s σ H _ I h) fun v s1 ⟨x, H1, I1, r1, q1⟩ => chain_link (thn (hb pins s1 σ H1 _ I1 q1) fun u s2 ⟨y, H2, I2, r2, q2⟩ =>
    thn (ho pins s2 σ H2 x y v u _ I2 r1 r2 q2) fun d s3 ⟨z, H3, I3, r3, k, e, q3⟩ => ?_)) hm
  subst e
  cases r3
  refine wpAny_truthy_bool ?_
  cases k with
  | false => exact ite_ff ⟨.bl false, H3, I3, rfl, q3⟩
  | true => exact ite_tt (chain_last (thn (hc pins s3 σ H3 _ I3 q3) fun w' s4 ⟨z', H4, I4, r4, q4⟩ => ho' pins s4 σ H4 y z' u w' Q I4 r2 r4 q4))
theorem Xg : (sizeLine : Nat) < 2 ^ 63 := by rw [sizeLine_eq]; decide
theorem zdX : OpR X (binaryOp .Add) (fun x y H Q => ∃ i j, x = .str i ∧ y = .str j ∧ i.length + j.length ≤ sizeLine ∧ Q (.str (i ++ j)) H) := by
  intro pins s σ H x y v u Q I rx ry h
  obtain ⟨i, j, rfl, rfl, hz, q⟩ := h
  obtain ⟨t, rfl⟩ := rx
  obtain ⟨t', rfl⟩ := ry
  exact add_str (fun t' tk => ⟨.str (i ++ j), H, I.tok _, ⟨_, rfl⟩, q⟩) hz
theorem zac {x : V} {us : List Value} (r : yx [x] us) : ∃ u, us = [u] ∧ yO x u := by
  cases r with
  | cons r1 r2 => cases r2; exact ⟨_, rfl, r1⟩
theorem zeg {x y : V} {us : List Value} (r : yx [x, y] us) : ∃ u w', us = [u, w'] ∧ yO x u ∧ yO y w' := by
  cases r with
  | cons r1 r2 =>
    cases r2 with
    | cons r3 r4 => cases r4; exact ⟨_, _, rfl, r1, r3⟩
theorem zeD (hc : X.calm = true) : Yu X (.builtin "max") (fun xs H Q => ∃ i j, xs = [.int i, .int j] ∧ Q (.int (if j > i then j else i)) H) := by
  intro pins s σ H xs us Q I r h
  obtain ⟨i, j, rfl, q⟩ := h
  obtain ⟨u, w', rfl, ⟨t, rfl⟩, ⟨t', rfl⟩⟩ := zeg r
  refine max_two_ints (I.ok.hd hc) fun h' tk k => ⟨_, H, I.kept k, ?_, q⟩
  by_cases hj : j > i
  · rw [if_pos hj, if_pos hj]; exact ⟨_, rfl⟩
  · rw [if_neg hj, if_neg hj]; exact ⟨_, rfl⟩
theorem zfA (hc : X.calm = true) : Yu X (.builtin "min") (fun xs H Q => ∃ i j, xs = [.int i, .int j] ∧ Q (.int (if j < i then j else i)) H) := by
  intro pins s σ H xs us Q I r h
  obtain ⟨i, j, rfl, q⟩ := h
  obtain ⟨u, w', rfl, ⟨t, rfl⟩, ⟨t', rfl⟩⟩ := zeg r
  refine min_two_ints (I.ok.hd hc) fun h' tk k => ⟨_, H, I.kept k, ?_, q⟩
  by_cases hj : j < i
  · rw [if_pos hj, if_pos hj]; exact ⟨_, rfl⟩
  · rw [if_neg hj, if_neg hj]; exact ⟨_, rfl⟩
end
end L2
namespace L2
open PySem PySem.Spec PyProof.Rows
set_option genInjectivity false in
set_option genSizeOf false in
set_option genCtorIdx false in
structure zlm (h : Heap) (x dx C : Addr) (mA : Str → Option Value) : Prop where
  obj : h.get? x = some (PySem.W.instObj C dx)
  ns : h.Ns1 dx mA
  ne : dx ≠ x
theorem zeE {h : Heap} {dx : Addr} {mA : Str → Option Value} (n : h.Ns1 dx mA) : ∃ od, h.get? dx = some od ∧ ∀ name, PySem.W.lookIn name od = some (mA name) := by
  obtain ⟨o, es, ep, ho, hd, hk, _, hm⟩ := n
  refine ⟨o, ho, fun name => ?_⟩
  have e := hm name
  unfold nsFind findBy at e
  rw [← Array.find?_toList] at e
  unfold PySem.W.lookIn
  rw [hd]
  dsimp only
  split
  · rename_i y q
    rw [q] at e
    exact congrArg some e
  · rename_i q
    rw [q] at e
    have a : es.toList.any (·.refKey) = false := by
      rw [List.any_eq_false]
      intro y hy
      obtain ⟨z, t, hkey⟩ := hk y (Array.mem_toList_iff.mp hy)
      simp [DictEntry.refKey, hkey]
    have a' : ¬ es.toList.any (·.refKey) = true := by rw [a]; exact Bool.false_ne_true
    rw [if_neg a']
    exact congrArg some e
theorem zlm.look {h : Heap} {x dx C : Addr} {mA : Str → Option Value} (I : zlm h x dx C mA) : ∃ od, PySem.W.InstAt h x (PySem.W.instObj C dx) C (some od) ∧ ∀ name, PySem.W.lookIn name od = some (mA name) :=
  let ⟨od, ho, hl⟩ := zeE I.ns
  ⟨od, ⟨I.obj, rfl, rfl, ho⟩, hl⟩
section
variable {prog : Program} {w : World} {A : Around} {E : Value → Shared → Prop} {s : Shared} {K : PySem.W.Frag} {x dx C f : Addr} {mA : Str → Option Value} {name : Str} {v : Value}
end
section
variable {P : Program} {w : World} {H H' : Hp} {h h' : Heap} {a C dx : Addr} {fs fs' : List (Str × V)}
theorem zhQ (hok : HOk P w H h) (e : H a = some (.ins C dx fs)) : ∃ mA, zlm h a dx C mA ∧ (∀ f, ziP (fs.lookup f) (mA f)) ∧ PySem.Within mA (fs.map (·.1)) ∧ fs.length ≤ 1000 ∧ H dx = some (.own a) := by
  obtain ⟨d, z, ne, ob, mA, n, r, q⟩ := (show yK P w H h a (.ins C dx fs) from hok a _ e)
  exact ⟨mA, ⟨ob, n, ne⟩, r, q, z, d⟩
end
set_option genInjectivity false in
set_option genSizeOf false in
set_option genCtorIdx false in
structure Cls (K : PySem.W.Frag) (C : Addr) : Prop where
  pg : PySem.W.plainGet K C Str.empty = true
  hd : PySem.W.hasDictIn K C = true
  po : PySem.W.plainOver K C = true
  sa : PySem.W.findIn K (.ref C) "__setattr__" = some (some (.builtin "object.__setattr__"))
theorem Cls.get {K : PySem.W.Frag} {C : Addr} (c : Cls K C) (f : Str) : PySem.W.plainGet K C f = true := c.pg
section
variable {X : Cx} {pins : List (Addr × Obj)} {σ : St} {H : Hp} {s : Shared} {a C dx : Addr} {fs : List (Str × V)} {f : Str} {v : V} {A : Around} {E : Value → Shared → Prop}
end
section
variable {X : Cx} {o e value : Expr} {f : Str} {pos pos' tpos : Pos} {ta tv : TE}
end
section
variable {X : Cx} {pins : List (Addr × Obj)} {σ : St} {H : Hp} {s : Shared} {A : Around} {E : Value → Shared → Prop} {Q : Value → Shared → Prop} {c : Value} {b : Bool}
inductive zdD (K : PySem.W.Frag) (H : Hp) : V → Value → Prop where
  | non : zdD K H .non (.type "NoneType")
  | bl (x : Bool) : zdD K H (.bl x) (.type "bool")
  | int (i : Int) : zdD K H (.int i) (.type "int")
  | str (x : Str) : zdD K H (.str x) (.type "str")
  | flt (x : UInt64) : zdD K H (.flt x) (.type "float")
  | lst {a : Addr} {xs : List V} (e : H a = some (.lst xs)) : zdD K H (.ref a) (.type "list")
  | frz {a : Addr} {o : Obj} {xs : List V} (e : H a = some (.frz o (.lst xs))) : zdD K H (.ref a) (.type "list")
  | tup {a : Addr} {xs : List V} (e : H a = some (.tup xs)) : zdD K H (.ref a) (.type "tuple")
  | dK {a : Addr} {kvs : List (Key × V)} (e : H a = some (.dK kvs)) : zdD K H (.ref a) (.type "dict")
  | dT {a : Addr} {kvs : List (List Key × V)} (e : H a = some (.dT kvs)) : zdD K H (.ref a) (.type "dict")
  | ins {a C dx : Addr} {fs : List (Str × V)} (e : H a = some (.ins C dx fs)) (cl : Cls K C) (ha : PySem.W.findIn K (.ref C) "__class__" = some (some (.builtin "object.__class__")))
      (hn : PySem.W.specialIn K (.builtin "object.__class__") "__get__" = some (some (.builtin "getset_descriptor.__get__"))) (htk : PySem.W.takesIn K (.builtin "object.__class__") = some true)
      (hm : PySem.W.mroIn K C (.type "object") = some true) : zdD K H (.ref a) (.ref C)
theorem zfa {x : V} {u t : Value} (I : Inv X pins σ H s) (rx : yO x u) (ty : zdD X.K H x t) (e : PySem.W.kitOne X.K t c = some b) (h : ∀ tk, Q (.bool b) { s with toks := tk }) :
    wpAny (model X.prog X.w) A (call (.builtin "isinstance") [u, c]) Q E s := by
  cases ty with
  | non => cases (show u = Value.none from rx); exact PySem.W.kia_one PySem.W.kitx_none I.kIn True.intro e (fun z => nomatch z) h
  | bl y => cases (show u = Value.bool y from rx); exact PySem.W.kia_one PySem.W.kitx_bool I.kIn True.intro e (fun z => nomatch z) h
  | int i => obtain ⟨t, q⟩ := (show ∃ t, u = Value.int i t from rx); cases q; exact PySem.W.kia_one PySem.W.kitx_int I.kIn True.intro e (fun z => nomatch z) h
  | str y => obtain ⟨t, q⟩ := (show ∃ t, u = Value.str y t from rx); cases q; exact PySem.W.kia_one PySem.W.kitx_str I.kIn True.intro e (fun z => nomatch z) h
  | flt y => obtain ⟨t, q⟩ := (show ∃ t, u = Value.float y t from rx); cases q; exact PySem.W.kia_one PySem.W.kitx_float I.kIn True.intro e (fun z => nomatch z) h
  | @lst a xs ea =>
    cases (show u = Value.ref a from rx)
    obtain ⟨_, _, n, _, h1⟩ := (show yK X.prog X.w H s.heap a (.lst xs) from I.hok a _ ea)
    exact PySem.W.kia_one PySem.W.kitx_list I.kIn ⟨_, h1, rfl⟩ e (fun z => nomatch z) h
  | @frz a ob xs ea =>
    cases (show u = Value.ref a from rx)
    obtain ⟨_, _, _, n, _, h1⟩ := (show yK X.prog X.w H s.heap a (.frz ob (.lst xs)) from I.hok a _ ea)
    exact PySem.W.kia_one PySem.W.kitx_list I.kIn ⟨_, h1, rfl⟩ e (fun z => nomatch z) h
  | @tup a xs ea =>
    cases (show u = Value.ref a from rx)
    obtain ⟨_, _, _, p⟩ := (show yK X.prog X.w H s.heap a (.tup xs) from I.hok a _ ea)
    obtain ⟨o, h1, h2, _⟩ := p
    exact PySem.W.kia_one PySem.W.kitx_tuple I.kIn ⟨o, h1, h2⟩ e (fun z => nomatch z) h
  | @dK a kvs ea =>
    cases (show u = Value.ref a from rx)
    obtain ⟨_, _, vs, _, p⟩ := (show yK X.prog X.w H s.heap a (.dK kvs) from I.hok a _ ea)
    obtain ⟨o, es, ep, h1, h2, _⟩ := p
    exact PySem.W.kia_one PySem.W.kitx_dict I.kIn ⟨o, h1, h2.1⟩ e (fun z => nomatch z) h
  | @dT a kvs ea =>
    cases (show u = Value.ref a from rx)
    obtain ⟨_, _, xs, _, o, es, ep, h1, h2, _⟩ := (show yK X.prog X.w H s.heap a (.dT kvs) from I.hok a _ ea)
    exact PySem.W.kia_one PySem.W.kitx_dict I.kIn ⟨o, h1, h2.1⟩ e (fun z => nomatch z) h
  | @ins a C dx fs ea cl ha hn htk hm =>
    cases (show u = Value.ref a from rx)
    obtain ⟨mA, O, _⟩ := zhQ I.hok ea
    obtain ⟨od, J, _⟩ := O.look
    exact PySem.W.kia_one (PySem.W.kitx_own (cl.get _) cl.hd ha hn htk hm) I.kIn J e (fun z => nomatch z) h
end
end L2
namespace L2
open PySem PySem.Spec PyProof.Rows
set_option genInjectivity false in
set_option genSizeOf false in
set_option genCtorIdx false in
structure vW (k : Nat) (A : Around) : Prop where
  hd : A.handled = none
  dp : A.depth + 3 * k + 5 < recursionLimit
  un : A.units + 16 * k + 200 < cLine
theorem vW.mono {j k : Nat} {A : Around} (r : vW k A) (h : j ≤ k) : vW j A := ⟨r.hd, by have := r.dp; omega, by have := r.un; omega⟩
theorem vW.deeper {k : Nat} {A : Around} (r : vW (k + 1) A) (env : Env) : vW k (A.deeper env) :=
  ⟨r.hd, by have := r.dp; show A.depth + 1 + 3 * k + 5 < _; omega, by have := r.un; show A.units + 3 + 16 * k + 200 < _; omega⟩
theorem vW.depth {k : Nat} {A : Around} (r : vW k A) : A.depth < recursionLimit := by have := r.dp; omega
theorem vW.units {k : Nat} {A : Around} (r : vW k A) : A.units + 64 < cLine := by have := r.un; omega
theorem vW.units0 {k : Nat} {A : Around} (r : vW k A) : A.units < cLine := by have := r.un; omega
noncomputable def tNil : TA := fun _ H Q => Q [] H
noncomputable def zkW (ta : TE) (tr : TA) : TA := fun σ H Q => ta σ H fun x H1 => tr σ H1 fun xs H2 => Q (x :: xs) H2
section
variable {X : Cx} {e : Expr} {es : List Expr} {te : TE} {t : TA} {pos : Pos}
theorem ZA : PA X [] tNil := fun _ _ _ _ H Q I h => Calls.spliced_nil ⟨[], H, I, .nil, h⟩
theorem wD (ha : PE X e te) (hr : PA X es t) (hs : starEach (e :: es) X.env = (false, eval e X.env) :: starEach es X.env := by rfl) : PA X (e :: es) (zkW te t) := by
  intro pos pins s σ H Q I h
  rw [hs]
  show wpAny _ _ (spliced ((false, eval e X.env) :: backTo pos (starEach es X.env))) _ _ s
  refine Calls.spliced_cons (thn (ha pins s σ H _ I h) fun u s1 hh9 => ?_)
  obtain ⟨x, H1, I1, r1, q1⟩ := hh9
  exact thn (hr pos pins s1 σ H1 _ I1 q1) fun us s2 ⟨xs, H2, I2, r2, q2⟩ => ⟨x :: xs, H2, I2, .cons r1 r2, q2⟩
noncomputable def tTup (t : TA) : TE := fun σ H Q => t σ H fun xs H1 => xs.length ≤ sizeLine ∧ ∀ p, H1 p = none → Q (.ref p) (upd H1 p (.tup xs))
noncomputable def tLst (t : TA) : TE := fun σ H Q => t σ H fun xs H1 => xs.length ≤ sizeLine ∧ ∀ p, H1 p = none → Q (.ref p) (upd H1 p (.lst xs))
theorem zhP {x1} (h : PA X es t) : PE X (.Tuple es x1 pos) (tTup t) := by
  intro pins s σ H Q I hq
  refine wpAny_Tuple_spliced (thn (h pos pins s σ H _ I hq) fun us s1 ⟨xs, H1, I1, r, z, q⟩ => ⟨by rw [← r.length]; exact z, ?_⟩)
  have hf : H1 s1.heap.objs.size = none := I1.hok.fresh (Nat.le_refl _)
  refine ⟨.ref s1.heap.objs.size, upd H1 s1.heap.objs.size (.tup xs), I1.laid (t' := s1.toks) (fun b u e => Heap.get?_push_of_some _ e) (Nat.le_refl _) ?_, rfl, q _ hf⟩
  exact ⟨z, us, r, ⟨_, Heap.get?_push_size _ rfl, rfl, _, rfl⟩⟩
theorem zk1 (h : PA X es t) : PE X (.List es pos) (tLst t) := by
  intro pins s σ H Q I hq
  refine wpAny_List_spliced (thn (h pos pins s σ H _ I hq) fun us s1 ⟨xs, H1, I1, r, z, q⟩ => ⟨by rw [← r.length]; exact z, ?_⟩)
  have hf : H1 s1.heap.objs.size = none := I1.hok.fresh (Nat.le_refl _)
  refine ⟨.ref s1.heap.objs.size, upd H1 s1.heap.objs.size (.lst xs), I1.laid (t' := s1.toks) (fun b u e => Heap.get?_push_of_some _ e) (Nat.le_refl _) ?_, rfl, q _ hf⟩
  exact ⟨z, us, 0, r, Heap.get?_push_size _ rfl⟩
end
noncomputable abbrev Sp := List V → Hp → VK → XK → Prop
noncomputable abbrev CXT := List Env → Hp → Shared → XK → Value → Shared → Prop
structure zlj (P : Program) (w : World) (K : PySem.W.Frag) (mg : Str → Option Value) (base : Heap) (A : Around) (outer : List Env) (s : Shared) (H : Hp) : Prop where
  frames : A.frames = some outer
  mod : Mod K mg base
  bs : ∀ b o, base.get? b = some o → s.heap.get? b = some o ∧ H b = none
  bsz : base.objs.size ≤ s.heap.objs.size
  funs : s.heap.FunFrames base outer
  frf : ∀ b ∈ frs outer, H b = none
  hok : HOk P w H s.heap
  bare : AllBare s.gens
noncomputable def CE (outer : List Env) (P : Program) (w : World) (H : Hp) (s : Shared) (Q : VK) (u : Value) (s' : Shared) : Prop :=
  ∃ v H', s'.os = s.os ∧ AllBare s'.gens ∧ Un (frs outer) [] H H' s.heap s'.heap ∧ HOk P w H' s'.heap ∧ yO v u ∧ Q v H'
noncomputable def CR (CX : CXT) (outer : List Env) (P : Program) (w : World) (H : Hp) (s : Shared) (Q : VK) (E : XK) (r : Result) (s' : Shared) : Prop :=
  match r with
  | .ok (.ret u) => CE outer P w H s Q u s'
  | .ok _ => False
  | .error e => CX outer H s E e s'
set_option genInjectivity false in
set_option genSizeOf false in
set_option genCtorIdx false in
structure yU (P : Program) (w : World) (K : PySem.W.Frag) (mg : Str → Option Value) (base : Heap) (CX : CXT) (k : Nat) (f : Addr) (fd : FuncData) (ps : List Str) (sp : Sp) : Prop where
  len : ∀ vs H Q E, sp vs H Q E → vs.length = ps.length
  run : ∀ (A : Around) (outer : List Env) (s : Shared) (H : Hp) (args : Args) (us : List Value) (vs : List V) (Q : VK) (E : XK), vW k A → zlj P w K mg base A outer s H → BindsTo s fd args (ps.zip us) → yx vs us → sp vs H Q E →
    codeAny (model P w) A (.call (.ref f) args) (CR CX outer P w H s Q E) s
theorem yU.mono {P : Program} {w : World} {K : PySem.W.Frag} {mg : Str → Option Value} {base : Heap} {CX : CXT} {j k : Nat} {f : Addr} {fd : FuncData} {ps : List Str} {sp : Sp} (F : yU P w K mg base CX j f fd ps sp) (h : j ≤ k) :
    yU P w K mg base CX k f fd ps sp := ⟨F.len, fun A outer s H args us vs Q E hr => F.run A outer s H args us vs Q E (hr.mono h)⟩
theorem yU.imp {P : Program} {w : World} {K : PySem.W.Frag} {mg : Str → Option Value} {base : Heap} {CX : CXT} {k : Nat} {f : Addr} {fd : FuncData} {ps : List Str} {sp sp' : Sp} (F : yU P w K mg base CX k f fd ps sp)
    (h : ∀ vs H Q E, sp' vs H Q E → sp vs H Q E) : yU P w K mg base CX k f fd ps sp' :=
  ⟨fun vs H Q E q => F.len vs H Q E (h _ _ _ _ q), fun A outer s H args us vs Q E hr he hb hv hs => F.run A outer s H args us vs Q E hr he hb hv (h _ _ _ _ hs)⟩
section
variable {X : Cx} {pins : List (Addr × Obj)} {σ : St} {H : Hp} {s s' : Shared}
theorem Inv.env0 (I : Inv X pins σ H s) : zlj X.prog X.w X.K X.mg X.base X.A X.stack s H :=
  ⟨I.ok.frames, I.ok.mod, I.bs, Nat.le_trans I.ok.bsz I.sz, I.stack, I.stkFree, I.hok, I.bare⟩
theorem Inv.after {Q : VK} {u : Value} (I : Inv X pins σ H s) (h : CE X.stack X.prog X.w H s Q u s') : EP X pins σ Q u s' := by
  obtain ⟨v, H', os, bare, un, hok, r, q⟩ := h
  obtain ⟨hh, g, d, t, os'⟩ := s'
  obtain rfl : os' = s.os := os
  exact ⟨v, H', I.call (h' := hh) (g' := g) (d' := d) (t' := t) (ch := []) un hok bare (fun b z => absurd z (by simp)), r, q⟩
end
noncomputable def zl1 (sp : Sp) (dvs : List V) (E : XK) (t : TA) : TE := fun σ H Q => t σ H fun vs H1 => sp (vs ++ dvs) H1 Q E
noncomputable def WQ (K : PySem.W.Frag) (fd : FuncData) (ps : List Str) (ds : List Value) : Prop :=
  ∀ (s : Shared) (us : List Value), K.In s.heap → (us ++ ds).length = ps.length → BindsTo s fd ⟨us, []⟩ (ps.zip (us ++ ds))
theorem WQ.all {K : PySem.W.Frag} {fd : FuncData} {ps : List Str} (h : ∀ us : List Value, us.length = ps.length → bindArgs fd ⟨us, []⟩ = pure (ps.zip us)) : WQ K fd ps [] := fun s us _ hl => by
  rw [List.append_nil] at hl ⊢
  exact .of_eq (h us hl)
noncomputable def zeP (CX : CXT) (X : Cx) (E : XK) : Prop := ∀ (pins : List (Addr × Obj)) (σ : St) (H : Hp) (s : Shared) (e : Value) (s' : Shared), Inv X pins σ H s → CX X.stack H s E e s' → X.xe e s'
section
variable {X : Cx} {CX : CXT} {k : Nat} {f C : Addr} {fd : FuncData} {ps : List Str} {sp : Sp} {dvs : List V} {ds : List Value} {E : XK} {x m : Str} {p pos apos : Pos} {e o : Expr} {es : List Expr} {ta : TE} {t : TA}
theorem zkk {pins : List (Addr × Obj)} {σ : St} {H : Hp} {s : Shared} {Q : VK} {us : List Value} {vs : List V} (F : yU X.prog X.w X.K X.mg X.base CX k f fd ps sp) (hr : vW k X.A) (hb : WQ X.K fd ps ds) (hd : yx dvs ds) (hx : zeP CX X E)
    (I : Inv X pins σ H s) (r : yx vs us) (h : sp (vs ++ dvs) H Q E) : wpAny (model X.prog X.w) X.A (call (.ref f) us) (EP X pins σ Q) X.xe s := by
  have r2 : yx (vs ++ dvs) (us ++ ds) := r.append hd
  have hl : (us ++ ds).length = ps.length := by rw [← r2.length]; exact F.len _ _ _ _ h
  refine wpAny_call (codeAny_mono (F.run X.A X.stack s H ⟨us, []⟩ (us ++ ds) (vs ++ dvs) Q E hr I.env0 (hb s us I.kIn hl) r2 h) fun r s' hq => ?_)
  cases r with
  | error e => exact hx pins σ H s e s' I hq
  | ok fl =>
    cases fl with
    | ret u => exact I.after hq
    | next => exact False.elim hq
    | brk => exact False.elim hq
    | cont => exact False.elim hq
theorem zfI (F : yU X.prog X.w X.K X.mg X.base CX k f fd ps sp) (hr : vW k X.A) (hg : Gl X x) (hm : X.mg x = some (.ref f)) (hk : PySem.W.keepIn X.K (.ref f) = true) (hb : WQ X.K fd ps ds) (hd : yx dvs ds) (hx : zeP CX X E)
    (ha : PA X (e :: es) t) (hdb : (x == ("__debug__" : Str)) = false := by decide) (he : starEach (e :: es) X.env = (false, eval e X.env) :: starEach es X.env := by rfl) (hpl : (backTo pos (starEach es X.env)).any (·.1) = false := by rfl) :
    PE X (.Call (.Name x p) (e :: es) [] pos) (zl1 sp dvs E t) := by
  intro pins s σ H Q I h
  refine wpAny_Call_Name_kw (zfu I hg hm ?_ hdb)
  refine PySem.W.callWith_K (h₀ := X.base) I.ok.mod.kin hk (thn (ha pos pins s σ H _ I h) fun us s1 ⟨vs, H1, I1, r, q⟩ => ⟨I1.kIn, ?_⟩) he hpl
  exact zkk F hr hb hd hx I1 r q
end
section
variable {X : Cx} {CX : CXT} {k : Nat} {f C : Addr} {fd : FuncData} {ps ks : List Str} {sp : Sp} {E : XK} {x m : Str} {p pos apos kpos : Pos} {e o : Expr} {es : List Expr} {kws : List Keyword} {te ta : TE} {t tk : TA} {nm : Option Str}
variable {g : List Value → List Value → List Value} {gV : List V → List V → List V}
end
structure zv (N P : List Str) (sc : Scope) : Prop where
  kind : sc.kind = .function
  co : sc.isCoroutine = false
  gen : sc.isGenerator = false
  nd : N.Nodup
  pre : N.take P.length = P
  par : ∀ x ∈ P, sc.names.lookup x = some .local ∨ sc.names.lookup x = some .cell
  nofree : ∀ y ∈ sc.names, y.2 ≠ .free
theorem zaA {kindOf : Str → Option NameKind} {x : Str} : ∀ {binds : List (Str × Value)} {m : Str → Option Value}, (∀ v, (x, v) ∉ binds) → bindL kindOf binds m x = m x
  | [], _, _ => rfl
  | (n, v) :: r, m, h => by
    unfold bindL
    rw [zaA fun w hw => h w (List.mem_cons_of_mem _ hw)]
    split
    · have : x ≠ n := by rintro rfl; exact h v List.mem_cons_self
      simp [this]
    · rfl
theorem Wn {kindOf : Str → Option NameKind} {x : Str} : ∀ {binds : List (Str × Value)} {m : Str → Option Value}, (∀ v, (x, v) ∉ binds) → bindC kindOf binds m x = m x
  | [], _, _ => rfl
  | (n, v) :: r, m, h => by
    unfold bindC
    rw [Wn fun w hw => h w (List.mem_cons_of_mem _ hw)]
    split
    · rfl
    · have : x ≠ n := by rintro rfl; exact h v List.mem_cons_self
      simp [this]
theorem W7 {kindOf : Str → Option NameKind} {x : Str} {v : Value} : ∀ {P : List Str} {vs : List Value} {i : Nat} {m : Str → Option Value}, P.Nodup → P[i]? = some x → vs[i]? = some v → kindOf x = some .local →
    bindL kindOf (P.zip vs) m x = some v
  | [], _, _, _, _, h, _, _ => by simp at h
  | _ :: _, [], _, _, _, _, h, _ => by simp at h
  | p :: P, w :: vs, 0, m, nd, h1, h2, hk => by
    simp at h1 h2; subst h1; subst h2
    show bindL kindOf ((p, w) :: P.zip vs) m p = _
    unfold bindL
    rw [zaA fun v hv => (List.nodup_cons.mp nd).1 (List.of_mem_zip hv).1, if_pos hk]
    simp
  | p :: P, w :: vs, i + 1, m, nd, h1, h2, hk => by
    show bindL kindOf ((p, w) :: P.zip vs) m x = _
    unfold bindL
    exact W7 (i := i) (List.nodup_cons.mp nd).2 (by simpa using h1) (by simpa using h2) hk
theorem Wu {kindOf : Str → Option NameKind} {x : Str} {v : Value} : ∀ {P : List Str} {vs : List Value} {i : Nat} {m : Str → Option Value}, P.Nodup → P[i]? = some x → vs[i]? = some v → kindOf x ≠ some .local →
    bindC kindOf (P.zip vs) m x = some v
  | [], _, _, _, _, h, _, _ => by simp at h
  | _ :: _, [], _, _, _, _, h, _ => by simp at h
  | p :: P, w :: vs, 0, m, nd, h1, h2, hk => by
    simp at h1 h2; subst h1; subst h2
    show bindC kindOf ((p, w) :: P.zip vs) m p = _
    unfold bindC
    rw [Wn fun v hv => (List.nodup_cons.mp nd).1 (List.of_mem_zip hv).1, if_neg hk]
    simp
  | p :: P, w :: vs, i + 1, m, nd, h1, h2, hk => by
    show bindC kindOf ((p, w) :: P.zip vs) m x = _
    unfold bindC
    exact Wu (i := i) (List.nodup_cons.mp nd).2 (by simpa using h1) (by simpa using h2) hk
noncomputable def start (N : List Str) (vs : List V) : St := vs.map some ++ List.replicate (N.length - vs.length) none
noncomputable def zg0 (CX : CXT) (P : Program) (w : World) (K : PySem.W.Frag) (mg : Str → Option Value) (base : Heap) (N : List Str) (qual : Str) (scope : Scope) (f : Addr) (cd : Value) (A : Around) (outer : List Env) (s : Shared) (H : Hp) (E : XK) : Cx where
  prog := P
  w := w
  K := K
  mg := mg
  base := base
  A := A.deeper (envOfC qual scope s.heap.objs.size f cd)
  N := N
  s₀ := s
  H₀ := H
  env := envOfC qual scope s.heap.objs.size f cd
  outer := outer
  stack := envOfC qual scope s.heap.objs.size f cd :: outer
  ex := []
  calm := true
  fn := fun _ => true
  pn := []
  xe := fun e s' => wpAny (model P w) (A.deeper (envOfC qual scope s.heap.objs.size f cd)) (leaving (envOfC qual scope s.heap.objs.size f cd) e) (fun _ s'' => CX outer H s E e s'') (fun e' s'' => CX outer H s E e' s'') s'
theorem zdJ {sc : Scope} {n : Nat} {x : Str} (h : sc.names.lookup x = some .cell) : ∃ c, (cellsFrom n sc.names []).lookup x = some c := by
  have q := PySem.W.cellsFrom_some sc.names n [] (.inl h)
  exact Option.isSome_iff_exists.mp q
theorem zfH {CX : CXT} {P : Program} {w : World} {K : PySem.W.Frag} {mg : Str → Option Value} {base : Heap} {N ps : List Str} {qual : Str} {scope : Scope} {f : Addr} {cd : Value} {A : Around} {outer : List Env} {s s1 : Shared} {H : Hp} {E : XK} {us : List Value} {vs : List V}
    (S : zv N ps scope) (hd : A.handled = none) (e0 : zlj P w K mg base A outer s H) (hl : vs.length = ps.length) (r : yx vs us)
    (x : InCallC s s.heap.objs.size (bindL (envOfC qual scope s.heap.objs.size f cd).kindOf (ps.zip us) fun _ => none) (cellsFrom (s.heap.objs.size + 1) scope.names []) (bindC (envOfC qual scope s.heap.objs.size f cd).kindOf (ps.zip us) fun _ => none) s1) :
    Inv (zg0 CX P w K mg base N qual scope f cd A outer s H E) [] (start N vs) H s1 := by
  have hpl : ps.length ≤ N.length := by have := congrArg List.length S.pre; rw [List.length_take] at this; omega
  obtain ⟨h1, tk, rfl, hk⟩ := x.done
  have noA : ∀ b : Addr, b ∉ (zg0 CX P w K mg base N qual scope f cd A outer s H E).ex := fun b z => absurd (show b ∈ ([] : List Addr) from z) (by simp)
  refine ⟨⟨e0.mod, S.kind, rfl, rfl, Nat.le_refl _, fun y z c h1 h2 => ?_, fun y hy => ?_, fun y c _ h => ?_, fun _ => hd, Around.frames_deeper e0.frames, .inr ⟨rfl, rfl⟩, fun b z => absurd z (noA b), e0.bs, e0.bsz, fun b _ _ => noA b, fun b z => absurd z (noA b), e0.funs, e0.frf⟩,
    rfl, e0.bare, Un.kept hk, ⟨_, x.toInCall.ns, fun i y v h1 h2 h3 => ?_⟩, fun y c h => ⟨_, x.cell y c h⟩, e0.hok.fresh (Nat.le_refl _), fun y c h => ?_, fun p hp => absurd (show p ∈ ([] : List (Addr × Obj)) from hp) (by simp), e0.hok.kept hk, ?_⟩
  · exact name_of_addr x.apart (PySem.mem_of_lookup h1) (PySem.mem_of_lookup h2)
  · have hy : scope.names.lookup y = some .cell ∨ scope.names.lookup y = some .free := hy
    rcases hy with hy | hy
    · exact zdJ hy
    · exact absurd rfl (S.nofree _ (PySem.mem_of_lookup hy))
  · exact Nat.le_of_lt (x.above y c (PySem.mem_of_lookup h))
  · have hi : i < vs.length := by
      unfold start at h2
      by_cases hi : i < vs.length
      · exact hi
      · rw [List.getElem?_append_right (by simpa using hi)] at h2
        rw [List.getElem?_replicate] at h2
        split at h2 <;> cases h2
    have ha : vs[i]? = some v := by
      unfold start at h2
      rw [List.getElem?_append_left (by simpa using hi), List.getElem?_map] at h2
      cases e : vs[i]? with
      | none => rw [e] at h2; cases h2
      | some a => rw [e] at h2; cases h2; rfl
    obtain ⟨u, hu, rv⟩ := r.get ha
    have hp : ps[i]? = some y := by
      rw [← S.pre, List.getElem?_take_of_lt (by omega)]; exact h1
    have ndP : ps.Nodup := by rw [← S.pre]; exact S.nd.sublist (List.take_sublist _ _)
    refine ⟨u, rv, ?_⟩
    rcases S.par y (List.mem_of_getElem? hp) with k | k
    · exact .inl ⟨k, W7 ndP hp hu k⟩
    · obtain ⟨c, e⟩ := zdJ (n := s.heap.objs.size + 1) k
      refine .inr ⟨.inl k, c, e, ?_⟩
      have q := x.cell y c e
      rw [Wu ndP hp hu (by show scope.names.lookup y ≠ _; rw [k]; decide)] at q
      exact q
  · exact e0.hok.fresh (Nat.le_of_lt (x.above y c (PySem.mem_of_lookup h)))
  · unfold start
    show _ = N.length
    rw [List.length_append, List.length_map, List.length_replicate]
    omega
theorem zlK {CX : CXT} {P : Program} {w : World} {K : PySem.W.Frag} {mg : Str → Option Value} {base : Heap} {k : Nat} {f : Addr} {name qual : Str} {params : Arguments} {body : List Stmt} {scope : Scope} {dV kV doc pm cdv ct oc : Value} {an od : Option Addr}
    {osl : Array (Option Value)} {N ps : List Str} {sp : Sp} (lk : K.lookup f = some ⟨oc, od, .func (PySem.W.fnOf name qual params body scope dV kV doc pm an cdv ct), osl⟩) (hcd : PySem.W.codeIn K cdv qual = true) (S : zv N ps scope)
    (len : ∀ vs H Q E, sp vs H Q E → vs.length = ps.length)
    (hbody : ∀ (A : Around) (outer : List Env) (s : Shared) (H : Hp) (vs : List V) (Q : VK) (E : XK), vW k (A.deeper (envOfC qual scope s.heap.objs.size f cdv)) → sp vs H Q E →
      ∃ t, PSs (zg0 CX P w K mg base N qual scope f cdv A outer s H E) body t ∧ t { nx := fun _ H' => Q .non H', rt := Q } (start N vs) H) :
    yU P w K mg base CX (k + 1) f (PySem.W.fnOf name qual params body scope dV kV doc pm an cdv ct) ps sp := by
  refine ⟨len, fun A outer s H args us vs Q E hr e0 hb r hsp => ?_⟩
  have hl := len _ _ _ _ hsp
  have KX : K.In s.heap := e0.mod.kin.keeps fun b o e => (e0.bs b o e).1
  have lim : s.heap.NoLimit := e0.mod.nolimit.keeps fun b o e => (e0.bs b o e).1
  have hkind : ∀ y ∈ ps.zip us, scope.names.lookup y.1 = some .local ∨ (scope.names.lookup y.1 = some .cell ∧ ((cellsFrom (s.heap.objs.size + 1) scope.names []).lookup y.1).isSome = true) := fun ⟨n, v⟩ hy => by
    rcases S.par n (List.of_mem_zip hy).1 with q | q
    · exact .inl q
    · exact .inr ⟨q, PySem.W.cellsFrom_some _ _ _ (.inl q)⟩
  refine codeAny_call_function hr.depth (KX _ _ lk) rfl S.co S.gen rfl (PySem.W.codeRec_of KX hcd) (hb _ _ _ _ ?_)
  refine wpAny_newFunctionEnv_cells S.kind hkind fun env he s1 x => ?_
  subst he
  refine ⟨lim.keeps x.toInCall.keep, codeAny_func ?_⟩
  obtain ⟨t, ht, hq⟩ := hbody A outer s H vs Q E (hr.deeper _) hsp
  have I : Inv (zg0 CX P w K mg base N qual scope f cdv A outer s H E) [] (start N vs) H s1 := zfH S hr.hd e0 hl r x
  refine wpAny_mono (ht [] s1 (start N vs) H _ I hq) (fun fl s' hs => ?_) fun e s' hs => hs
  have fin : ∀ {σ' : St} {H' : Hp} {v : V} {u : Value}, Inv (zg0 CX P w K mg base N qual scope f cdv A outer s H E) [] σ' H' s' → yO v u → Q v H' → CE outer P w H s Q u s' :=
    fun {σ' H' v u} J rv q => ⟨v, H', J.os, J.bare, J.base, J.hok, rv, q⟩
  cases fl with
  | ret u =>
    obtain ⟨v, σ', H', J, rv, q⟩ := hs
    exact fin J rv q
  | next =>
    obtain ⟨σ', H', J, q⟩ := hs
    exact fin (v := V.non) (u := Value.none) J rfl q
  | brk =>
    obtain ⟨_, _, _, q⟩ := hs
    exact False.elim q
  | cont =>
    obtain ⟨_, _, _, q⟩ := hs
    exact False.elim q
end L2
namespace L2
open PySem PySem.Spec PyProof.Rows
section
variable {X : Cx} {x : Str} {p pos : Pos} {e : Expr} {es : List Expr} {t : TA} {id T : String} {r : List V → Hp → VK → Prop}
noncomputable def tCB (r : List V → Hp → VK → Prop) (t : TA) : TE := fun σ H Q => t σ H fun vs H1 => r vs H1 Q
theorem Xv (hc : Yu X (.builtin id) r) (hg : Gl X x) (hm : X.mg x = none) (hv : bootBuiltins x = some (.builtin id)) (ha : PA X (e :: es) t) (hn : x ≠ "__name__" := by decide) (hdb : (x == ("__debug__" : Str)) = false := by decide)
    (he : starEach (e :: es) X.env = (false, eval e X.env) :: starEach es X.env := by rfl) (hpl : (backTo pos (starEach es X.env)).any (·.1) = false := by rfl) : PE X (.Call (.Name x p) (e :: es) [] pos) (tCB r t) := by
  intro pins s σ H Q I h
  refine wpAny_Call_Name_kw (Y1 I hg hm hv ?_ hn hdb)
  exact PyProof.Rows.callWith_builtin1 (thn (ha pos pins s σ H _ I h) fun us s1 ⟨vs, H1, I1, r1, q1⟩ => hc pins s1 σ H1 vs us Q I1 r1 q1) he hpl
theorem VU (hc : Yu X (.type T) r) (hg : Gl X x) (hm : X.mg x = none) (hv : bootBuiltins x = some (.type T)) (ha : PA X (e :: es) t) (hn : x ≠ "__name__" := by decide) (hdb : (x == ("__debug__" : Str)) = false := by decide)
    (he : starEach (e :: es) X.env = (false, eval e X.env) :: starEach es X.env := by rfl) (hpl : (backTo pos (starEach es X.env)).any (·.1) = false := by rfl) : PE X (.Call (.Name x p) (e :: es) [] pos) (tCB r t) := by
  intro pins s σ H Q I h
  refine wpAny_Call_Name_kw (Y1 I hg hm hv ?_ hn hdb)
  exact PyProof.Rows.callWith_type1 (thn (ha pos pins s σ H _ I h) fun us s1 ⟨vs, H1, I1, r1, q1⟩ => hc pins s1 σ H1 vs us Q I1 r1 q1) he hpl
end
end L2
namespace HT
open PySem PyProof.Rows
noncomputable def lexLt : List Int → List Int → Bool
  | [], [] => false
  | [], _ :: _ => true
  | _ :: _, [] => false
  | x :: xs, y :: ys => if x = y then lexLt xs ys else decide (x < y)
theorem lexLt_cons (x y : Int) (xs ys : List Int) : lexLt (x :: xs) (y :: ys) = if x = y then lexLt xs ys else decide (x < y) := rfl
theorem zgK (A : Around) (s : Shared) (a : Int) (t : Tok) (c : Int) (u : Tok) : ∃ e, SeqAt.EqAt A s (.int a t) (.int c u) e ∧ (e = true ↔ a = c) :=
  ⟨(a == c), SeqAt.EqAt.int_int a t c u, by simp⟩
section
open PySem.SeqAt
open PySem.AutoSeq1 (wpAny_loadPart')
open PySem.MeetsSeq PySem.MeetsSeq2 PySem.MeetsSeq3
end
section
variable {prog : Program} {w : World} {A : Around} {E : Value → Shared → Prop} {s : Shared}
theorem cat_tup {t b : Addr} {vs ws : List Value} {Q : Value → Shared → Prop} (ht : IsTup s.heap t vs.toArray) (hb : IsTup s.heap b ws.toArray) (hv : vs ≠ [])
    (h1 : ws = [] → Q (.ref t) s) (h2 : ws ≠ [] → Q (.ref s.heap.objs.size) { s with heap := s.heap.push { cls := .type "tuple", data := .seq (vs ++ ws).toArray } })
    (hsz : vs.length + ws.length ≤ sizeLine) : wpAny (model prog w) A (binaryOp .Add (.ref t) (.ref b)) Q E s := by
  obtain ⟨⟨cls, dd, data, sl⟩, ho, hc, n, hd⟩ := id ht
  obtain ⟨⟨cls2, dd2, data2, sl2⟩, ho2, hc2, n2, hd2⟩ := id hb
  simp only at hc hd hc2 hd2
  subst hc hd hc2 hd2
  have e : vs.toArray ++ ws.toArray = (vs ++ ws).toArray := by simp
  by_cases hw : ws = []
  · exact concat_meets ⟨_, ho, rfl⟩ ⟨_, ho2, rfl⟩ noFill_tuple_add seq_tuple_add PySem.F.slot_tuple_add PySem.F.entry_tuple_add (PySem.F.args_tuple_add_2 _ _)
      (tuple_addW1 t b vs.toArray ws.toArray n n2 dd dd2 sl sl2 (by simpa using hv) (by simp [hw])) ⟨ho, ho2, h1 hw⟩
  · refine concat_meets ⟨_, ho, rfl⟩ ⟨_, ho2, rfl⟩ noFill_tuple_add seq_tuple_add PySem.F.slot_tuple_add PySem.F.entry_tuple_add (PySem.F.args_tuple_add_2 _ _)
      (tuple_addW2 t b vs.toArray ws.toArray n n2 dd dd2 sl sl2 (by simpa using hv) (by simpa using hw) (by rw [List.size_toArray, List.size_toArray]; exact hsz)) ⟨ho, ho2, ?_⟩
    rw [e]
    exact h2 hw
noncomputable def sIx (n d : Nat) : Option Int → Nat
  | none => d
  | some v => if v < 0 then (v + (n : Int)).toNat else min v.toNat n
theorem zjy (n d : Nat) (hd : d ≤ n) (o : Option Int) : sIx n d o ≤ n := by
  cases o with
  | none => exact hd
  | some v =>
    show (if v < 0 then (v + (n : Int)).toNat else min v.toNat n) ≤ n
    by_cases hv : v < 0
    · rw [if_pos hv]; omega
    · rw [if_neg hv]; exact Nat.min_le_right _ _
theorem zeG (v : Int) (n d : Nat) : (if v < 0 then max (v + (n : Int)) 0 else min v (n : Int)) = ((sIx n d (some v) : Nat) : Int) := by
  show (if v < 0 then max (v + (n : Int)) 0 else min v (n : Int)) = (((if v < 0 then (v + (n : Int)).toNat else min v.toNat n) : Nat) : Int)
  by_cases hv : v < 0
  · simp only [if_pos hv]; omega
  · simp only [if_neg hv]; omega
theorem zea (lo hi : Option Int) (n : Nat) : Builtin.Slice.sliceAdjust lo hi 1 (n : Int) = (((sIx n 0 lo : Nat) : Int), ((sIx n n hi : Nat) : Int)) := by
  have h1 : ¬ ((1 : Int) < 0) := by omega
  unfold Builtin.Slice.sliceAdjust
  simp only [h1, if_false]
  refine Prod.ext ?_ ?_
  · cases lo with
    | none => rfl
    | some v => exact zeG v n 0
  · cases hi with
    | none => rfl
    | some v => exact zeG v n n
theorem zdO (i j : Nat) : Builtin.Slice.slicePlaces (i : Int) (j : Int) 1 = j - i := by
  unfold Builtin.Slice.slicePlaces
  have h1 : (1 : Int) > 0 := by omega
  simp only [h1, if_true, Int.ediv_one]
  split <;> omega
theorem Xe {v : Value} {o : Option Int} {Q : Option Int → Shared → Prop} (p : IsPart v o) (h : Q o s) : wpAny (model prog w) A (Builtin.Slice.slicePartIndex v) Q E s := by
  cases p with
  | none => exact slicePart_none h
  | int i t => exact slicePart_int h
theorem wO {sl : Addr} {vl vu : Value} {lo hi : Option Int} {n : Nat} {Q : Int × Int × Nat → Shared → Prop} (hs : s.heap.IsSliceOf sl vl vu .none) (pl : IsPart vl lo) (pu : IsPart vu hi)
    (h : Q (((sIx n 0 lo : Nat) : Int), 1, sIx n n hi - sIx n 0 lo) s) : wpAny (model prog w) A (Builtin.Slice.sliceApplied (.ref sl) (pure (n : Int))) Q E s := by
  obtain ⟨os, hos, hcs, hds⟩ := id hs
  unfold Builtin.Slice.sliceApplied Builtin.Slice.sliceFields
  refine wpAny_bind (wpAny_bind (wpAny_field hos hds (x := vl) rfl (wpAny_bind (wpAny_field hos hds (x := vu) rfl (wpAny_bind (wpAny_field hos hds (x := .none) rfl (wpAny_pure ?_)))))))
  refine wpAny_bind (slicePart_none ?_)
  show wpAny _ _ (if ((1 : Int) == 0) = true then _ else _) _ _ s
  rw [if_neg (by decide)]
  refine wpAny_bind (Xe pl (wpAny_bind (Xe pu (wpAny_bind (wpAny_pure ?_)))))
  show wpAny _ _ (match Builtin.Slice.sliceAdjust lo hi 1 (n : Int) with | (lo, hi) => pure (lo, (1 : Int), Builtin.Slice.slicePlaces lo hi 1)) _ _ s
  rw [zea lo hi n]
  show wpAny _ _ (pure (((sIx n 0 lo : Nat) : Int), (1 : Int), Builtin.Slice.slicePlaces ((sIx n 0 lo : Nat) : Int) ((sIx n n hi : Nat) : Int) 1)) _ _ s
  rw [zdO]
  exact wpAny_pure h
theorem zg1 (xs : Array Value) (i k : Nat) : ((List.range k).filterMap fun (m : Nat) => xs[((i : Int) + (m : Int) * 1).toNat]?).toArray = ((xs.toList.drop i).take k).toArray := by
  have e : (fun (m : Nat) => xs[((i : Int) + (m : Int) * 1).toNat]?) = fun m => xs[i + m]? := by
    funext m
    have : ((i : Int) + (m : Int) * 1).toNat = i + m := by omega
    rw [this]
  rw [e]
  have := pick_run xs i k
  rw [List.filterMap_map] at this
  have e2 : ((fun x => xs[x]?) ∘ fun x => i + x) = fun m => xs[i + m]? := rfl
  rw [e2] at this
  rw [this]
theorem getItem_tuple_cut {t sl : Addr} {items : Array Value} {vl vu : Value} {lo hi : Option Int} {Q : Value → Shared → Prop} (ht : IsTup s.heap t items) (hs : s.heap.IsSliceOf sl vl vu .none) (pl : IsPart vl lo) (pu : IsPart vu hi)
    (hw : ¬ (sIx items.size 0 lo = 0 ∧ sIx items.size items.size hi = items.size))
    (h : Q (.ref s.heap.objs.size) { s with heap := s.heap.push { cls := .type "tuple", data := .seq ((items.toList.drop (sIx items.size 0 lo)).take (sIx items.size items.size hi - sIx items.size 0 lo)).toArray } })
    (hsz : items.size ≤ sizeLine) : wpAny (model prog w) A (getItem (.ref t) (.ref sl)) Q E s := by
  have htake : sizeOk (.seq ((items.toList.drop (sIx items.size 0 lo)).take (sIx items.size items.size hi - sIx items.size 0 lo)).toArray) := by
    show ((items.toList.drop (sIx items.size 0 lo)).take (sIx items.size items.size hi - sIx items.size 0 lo)).toArray.size ≤ sizeLine
    rw [List.size_toArray, List.length_take, List.length_drop, Array.length_toList]
    omega
  have hj : sIx items.size items.size hi ≤ items.size := zjy _ _ (Nat.le_refl _) hi
  obtain ⟨os, hos, hcs, hds⟩ := id hs
  have hTs : s.TypeIs (.ref sl) "slice" := ⟨os, hos, hcs⟩
  unfold getItem
  try with_reducible refine wpAny_holding ?_
  first | refine wpAny_bind (wpAny_pure ?_) | skip
  refine wpAny_bind (wpAny_sequenceKey ht.typeIs (by decide) ?_)
  refine wpAny_bind (wpAny_callSpecial?_slot (name := Str.ofString "__getitem__") ht.typeIs PyProof.Rows.slot_tuple_getitem
    (wpAny_call_entry PyProof.Rows.slot_tuple_getitem ht.typeIs entry_tuple_getitem ?_ (args_tuple_getitem _ _)))
  show wpAny _ _ (Builtin.Tuple.tupleItemsOf (.ref t) >>= _) _ _ s
  refine wpAny_bind (tupleItemsOf_ ht ?_)
  refine wpAny_bind (wpAny_typeOf hTs ?_)
  rw [if_pos (by decide)]
  refine wpAny_bind (wO hs pl pu ?_)
  have hno : ¬ ((((sIx items.size 0 lo : Nat) : Int) == 0 && (1 : Int) == 1 && (sIx items.size items.size hi - sIx items.size 0 lo) == items.size) = true) := by
    intro q
    rw [Bool.and_eq_true, Bool.and_eq_true] at q
    have q1 : ((sIx items.size 0 lo : Nat) : Int) = 0 := eq_of_beq q.1.1
    have q2 : sIx items.size items.size hi - sIx items.size 0 lo = items.size := eq_of_beq q.2
    exact hw ⟨by omega, by omega⟩
  show wpAny _ _ (if (((sIx items.size 0 lo : Nat) : Int) == 0 && (1 : Int) == 1 && (sIx items.size items.size hi - sIx items.size 0 lo) == items.size) = true then _ else _) _ _ s
  rw [if_neg hno, zg1]
  first
    | exact wpAny_bind (m := Builtin.Tuple.tupleExact _) (wpAny_newObj_type (wpAny_pure ⟨_, rfl, wpAny_pure h⟩) htake)
    | exact wpAny_bind (m := Builtin.Tuple.tupleExact _) (wpAny_newObj_type (wpAny_bind (wpAny_pure (wpAny_pure ⟨_, rfl, wpAny_pure h⟩))) htake)
    | exact wpAny_bind (wpAny_bind (m := Builtin.Tuple.tupleExact _) (wpAny_newObj_type (wpAny_pure (wpAny_pure ⟨_, rfl, wpAny_pure h⟩)) htake))
    | exact wpAny_bind (wpAny_bind (m := Builtin.Tuple.tupleExact _) (wpAny_newObj_type (wpAny_pure ⟨_, rfl, wpAny_pure h⟩) htake))
end
end HT
namespace L2
open PySem PySem.Spec PyProof.Rows
noncomputable abbrev TO := St → Hp → (Option Int → Hp → Prop) → Prop
noncomputable def PO (X : Cx) (e : Option Expr) (t : TO) : Prop :=
  ∀ (pins : List (Addr × Obj)) (s : Shared) (σ : St) (H : Hp) (Q : Option Int → Hp → Prop), Inv X pins σ H s → t σ H Q →
    wpAny (model X.prog X.w) X.A (evalPart e X.env) (fun u s' => ∃ o H', Inv X pins σ H' s' ∧ IsPart u o ∧ Q o H') X.xe s
noncomputable def zia : TO := fun _ H Q => Q none H
noncomputable def zlA (t : TE) : TO := fun σ H Q => t σ H fun x H1 => ∃ i, x = .int i ∧ Q (some i) H1
theorem YV {ns : List Int} : ∀ {us : List Value}, yx (ns.map V.int) us → IntsAre us ns := by
  induction ns with
  | nil => intro us r; rw [List.map_nil] at r; cases r; exact .nil
  | cons n ns ih =>
    intro us r
    rw [List.map_cons] at r
    cases r with
    | cons r1 r2 =>
      obtain ⟨t, e⟩ := r1
      subst e
      exact .cons n t (ih r2)
section
variable {X : Cx} {e : Expr} {te : TE} {lo hi : Option Expr} {tl th : TO} {pos p2 : Pos}
theorem ziy : PO X none zia := by
  intro pins s σ H Q I h
  rw [evalPart_none]
  exact wpAny_pure ⟨none, H, I, .none, h⟩
theorem ziU (h : PE X e te) : PO X (some e) (zlA te) := by
  intro pins s σ H Q I hw
  rw [evalPart_some]
  refine thn (h pins s σ H _ I hw) fun u s1 hh9 => ?_
  obtain ⟨x, H1, I1, r1, q1⟩ := hh9
  obtain ⟨i, rfl, q⟩ := q1
  obtain ⟨t, rfl⟩ := r1
  exact ⟨some i, H1, I1, .int i t, q⟩
noncomputable def SlR (X : Cx) (r : V → Option Int → Option Int → Hp → VK → Prop) : Prop :=
  ∀ (pins : List (Addr × Obj)) (s : Shared) (σ : St) (H : Hp) (x : V) (v vl vu : Value) (lo hi : Option Int) (sl : Addr) (Q : VK), Inv X pins σ H s → yO x v → s.heap.IsSliceOf sl vl vu .none → IsPart vl lo → IsPart vu hi → r x lo hi H Q →
    ∃ T id, typeLookup (.type T) "__getitem__" = pure (some (.builtin id)) ∧ s.TypeIs v T ∧ wpAny (model X.prog X.w) X.A (getItem v (.ref sl)) (EP X pins σ Q) X.xe s
theorem SlR.or {r r' : V → Option Int → Option Int → Hp → VK → Prop} (h : SlR X r) (h' : SlR X r') : SlR X (fun x lo hi H Q => r x lo hi H Q ∨ r' x lo hi H Q) := by
  intro pins s σ H x v vl vu lo hi sl Q I rx hs pl pu q
  rcases q with q | q
  · exact h pins s σ H x v vl vu lo hi sl Q I rx hs pl pu q
  · exact h' pins s σ H x v vl vu lo hi sl Q I rx hs pl pu q
noncomputable def tSl (r : V → Option Int → Option Int → Hp → VK → Prop) (te : TE) (tl th : TO) : TE := fun σ H Q => te σ H fun x H1 => tl σ H1 fun l H2 => th σ H2 fun u H3 => r x l u H3 Q
theorem zhf {r : V → Option Int → Option Int → Hp → VK → Prop} (hr : SlR X r) (he : PE X e te) (hl : PO X lo tl) (hu : PO X hi th) : PE X (.Subscript e (.Slice lo hi none p2) pos) (tSl r te tl th) := by
  intro pins s σ H Q I h
  refine Subscript_ (thn (he pins s σ H _ I h) fun v s1 hh9 => ?_)
  obtain ⟨x, H1, I1, r1, q1⟩ := hh9
  refine wpAny_Slice (thn (hl pins s1 σ H1 _ I1 q1) fun vl s2 ⟨l, H2, I2, pl, q2⟩ => thn (hu pins s2 σ H2 _ I2 q2) fun vu s3 hh9 => ?_)
  obtain ⟨u, H3, I3, pu, q3⟩ := hh9
  rw [evalPart_none]
  refine wpAny_pure ?_
  have I4 : Inv X pins σ H3 { s3 with heap := s3.heap.push { cls := .type "slice", data := .fields #[vl, vu, .none] } } := I3.kept (t' := s3.toks) fun b ob q => Heap.get?_push_of_some _ q
  obtain ⟨T, id, hT, ht, hg⟩ := hr pins { s3 with heap := s3.heap.push { cls := .type "slice", data := .fields #[vl, vu, .none] } } σ H3 x v vl vu l u s3.heap.objs.size Q I4 r1 (Heap.IsSliceOf.new ..) pl pu q3
  show wpAny (model X.prog X.w) X.A (subscriptTail e (.Slice lo hi none p2) v (.ref s3.heap.objs.size)) (EP X pins σ Q) X.xe { s3 with heap := s3.heap.push { cls := .type "slice", data := .fields #[vl, vu, .none] } }
  exact tail_any (ops := [.ref s3.heap.objs.size, v]) ht hT hg (by with_unfolding_all rfl)
noncomputable def zaN (xs : List V) (lo hi : Option Int) : List V := (xs.drop (HT.sIx xs.length 0 lo)).take (HT.sIx xs.length xs.length hi - HT.sIx xs.length 0 lo)
theorem ZF (xs : List V) (lo hi : Option Int) : (zaN xs lo hi).length ≤ xs.length := by
  unfold zaN
  rw [List.length_take, List.length_drop]
  omega
noncomputable def rSlT (K : PySem.W.Frag) : V → Option Int → Option Int → Hp → VK → Prop := fun x lo hi H Q => ∃ a xs, x = .ref a ∧ SqT K H a xs ∧
  ¬ (HT.sIx xs.length 0 lo = 0 ∧ HT.sIx xs.length xs.length hi = xs.length) ∧ ∀ p, H p = none → Q (.ref p) (upd H p (.tup (zaN xs lo hi)))
theorem zjJ : SlR X (rSlT X.K) := by
  intro pins s σ H x v vl vu lo hi sl Q I rx hs pl pu h
  obtain ⟨a, xs, rfl, hx, hw, q⟩ := h
  cases rx
  obtain ⟨its, r, ht, hz⟩ := I.tuple hx
  have hlen : its.toArray.size = xs.length := by rw [List.size_toArray]; exact r.length.symm
  refine ⟨"tuple", _, PyProof.Rows.slot_tuple_getitem.lookup, ht.typeIs, ?_⟩
  refine HT.getItem_tuple_cut ht hs pl pu (by rw [hlen]; exact hw) ?_ (by rw [hlen]; exact hz)
  rw [hlen]
  refine ⟨.ref s.heap.objs.size, _, I.laid (t' := s.toks) (o := .tup (zaN xs lo hi)) (fun b ob q => Heap.get?_push_of_some _ q) (Nat.le_refl _) ?_, rfl, q _ (I.hok.fresh (Nat.le_refl _))⟩
  exact ⟨Nat.le_trans (ZF xs lo hi) hz, _, (r.drop (HT.sIx xs.length 0 lo)).take (HT.sIx xs.length xs.length hi - HT.sIx xs.length 0 lo), IsTup.new _ _⟩
noncomputable def zls (K : PySem.W.Frag) : R2 := fun x y H Q => ∃ a b xs ys, x = .ref a ∧ y = .ref b ∧ SqT K H a xs ∧ SqT K H b ys ∧ xs ≠ [] ∧ xs.length + ys.length ≤ sizeLine ∧
  (ys = [] → Q (.ref a) H) ∧ (ys ≠ [] → ∀ p, H p = none → Q (.ref p) (upd H p (.tup (xs ++ ys))))
theorem yx.nil_iff {xs : List V} {us : List Value} (r : yx xs us) : us = [] ↔ xs = [] := by
  cases r with
  | nil => simp
  | cons _ _ => simp
theorem ziA : OpR X (binaryOp .Add) (zls X.K) := by
  intro pins s σ H x y v u Q I rx ry h
  obtain ⟨a, b, xs, ys, rfl, rfl, ha, hb, hx, hz, q1, q2⟩ := h
  cases rx
  cases ry
  obtain ⟨its, r1, p1, _⟩ := I.tuple ha
  obtain ⟨its2, r2, p2, _⟩ := I.tuple hb
  refine HT.cat_tup p1 p2 (fun z => hx (r1.nil_iff.mp z)) (fun z => ⟨.ref a, H, I, rfl, q1 (r2.nil_iff.mp z)⟩) (fun z => ?_) (by rw [← r1.length, ← r2.length]; exact hz)
  refine ⟨.ref s.heap.objs.size, _, I.laid (t' := s.toks) (o := .tup (xs ++ ys)) (fun b ob q => Heap.get?_push_of_some _ q) (Nat.le_refl _) ?_, rfl, q2 (fun w => z (r2.nil_iff.mpr w)) _ (I.hok.fresh (Nat.le_refl _))⟩
  exact ⟨by rw [List.length_append]; exact hz, _, r1.append r2, IsTup.new _ _⟩
end
end L2
namespace L2
open PySem PySem.Spec PyProof.Rows
noncomputable def ixN (n : Nat) (i : Int) : Option Nat := if 0 ≤ i then (if i < n then some i.toNat else none) else if -(n : Int) ≤ i then some (i + n).toNat else none
noncomputable def atI {α : Type} (xs : List α) (i : Int) : Option α := (ixN xs.length i).bind fun j => xs[j]?
theorem zff {n : Nat} {i : Int} {j : Nat} (h : ixN n i = some j) : seqIndex? i n = some j ∧ j < n ∧ -(n : Int) ≤ i ∧ i < n := by
  unfold ixN at h
  by_cases h0 : 0 ≤ i
  · rw [if_pos h0] at h
    by_cases h1 : i < n
    · rw [if_pos h1] at h
      have e : i.toNat = j := Option.some.inj h
      exact ⟨by rw [seqIndex_of h0 h1, e], by omega, by omega, h1⟩
    · rw [if_neg h1] at h; cases h
  · rw [if_neg h0] at h
    by_cases h1 : -(n : Int) ≤ i
    · rw [if_pos h1] at h
      have e : (i + n).toNat = j := Option.some.inj h
      exact ⟨by rw [seqIndex_neg (by omega) h1, e], by omega, h1, by omega⟩
    · rw [if_neg h1] at h; cases h
theorem zcd {α : Type} {xs : List α} {i : Int} {v : α} (h : atI xs i = some v) : ∃ j, seqIndex? i xs.length = some j ∧ xs[j]? = some v ∧ j < xs.length ∧ -(xs.length : Int) ≤ i ∧ i < xs.length := by
  unfold atI at h
  cases e : ixN xs.length i with
  | none => rw [e] at h; cases h
  | some j =>
    rw [e] at h
    obtain ⟨h1, h2, h3, h4⟩ := zff e
    exact ⟨j, h1, h, h2, h3, h4⟩
theorem zfg {α : Type} {xs : List α} {j : Nat} {v : α} (h : xs[j]? = some v) : atI xs (j : Int) = some v := by
  have hj : j < xs.length := (List.getElem?_eq_some_iff.mp h).1
  have e : ixN xs.length (j : Int) = some j := by
    unfold ixN
    rw [if_pos (by omega), if_pos (by omega)]; simp
  unfold atI; rw [e]; exact h
noncomputable def ze6 (b : Expr) : Prop := ∀ o i, subscripted b false o i = operate [o, i] (getItem o i)
noncomputable def IxR (X : Cx) (r : R2) : Prop :=
  ∀ (value slice : Expr) (pins : List (Addr × Obj)) (s : Shared) (σ : St) (H : Hp) (x y : V) (v u : Value) (Q : VK), Inv X pins σ H s → yO x v → yO y u → r x y H Q →
    subscripted slice false v u = operate [v, u] (getItem v u) → wpAny (model X.prog X.w) X.A (subscriptTail value slice v u) (EP X pins σ Q) X.xe s
noncomputable def MtR (X : Cx) (id : String) (r : V → List V → Hp → VK → Prop) : Prop :=
  ∀ (pins : List (Addr × Obj)) (s : Shared) (σ : St) (H : Hp) (x : V) (xs : List V) (v : Value) (us : List Value) (Q : VK), Inv X pins σ H s → yO x v → yx xs us → r x xs H Q →
    wpAny (model X.prog X.w) X.A (call (.builtin id) (v :: us)) (EP X pins σ Q) X.xe s
section
variable {X : Cx} {a b : Expr} {ta tb : TE} {pos : Pos}
theorem IxR.or {r r' : R2} (h : IxR X r) (h' : IxR X r') : IxR X (fun x y H Q => r x y H Q ∨ r' x y H Q) := by
  intro value slice pins s σ H x y v u Q I rx ry q hs
  rcases q with q | q
  · exact h value slice pins s σ H x y v u Q I rx ry q hs
  · exact h' value slice pins s σ H x y v u Q I rx ry q hs
theorem zjS {r : R2} (hr : IxR X r) (ha : PE X a ta) (hb : PE X b tb) (hs : ze6 b) : PE X (.Subscript a b pos) (tOp r ta tb) := by
  intro pins s σ H Q I h
  exact Subscript_ (zlS ha hb I h fun v u s2 x y H2 I2 rx ry q => hr a b pins s2 σ H2 x y v u Q I2 rx ry q (hs _ _))
noncomputable def rIxL (K : PySem.W.Frag) : R2 := fun x y H Q => ∃ p xs i v, x = .ref p ∧ y = .int i ∧ SqL K H p xs ∧ atI xs i = some v ∧ Q v H
noncomputable def zlE (K : PySem.W.Frag) : R2 := fun x y H Q => ∃ p xs i v, x = .ref p ∧ y = .int i ∧ SqT K H p xs ∧ atI xs i = some v ∧ Q v H
noncomputable def rIxS : R2 := fun x y H Q => ∃ z i c, x = .str z ∧ y = .int i ∧ z.length ≤ sizeLine ∧ atI z.cps.toList i = some c ∧ Q (.str ⟨#[c]⟩) H
theorem zir : IxR X (rIxL X.K) := by
  intro value slice pins s σ H x y v u Q I rx ry h hs
  obtain ⟨p, xs, i, z, rfl, rfl, hq, he, q⟩ := h
  cases rx
  obtain ⟨t, rfl⟩ := ry
  obtain ⟨its, r, pl, hz⟩ := I.list hq
  obtain ⟨j, h1, h2, h3, h4, h5⟩ := zcd he
  obtain ⟨w, ew, rw'⟩ := r.get h2
  have hl := r.length
  have hn := Xg
  have fin : EP X pins σ Q w s := ⟨z, H, I, rw', q⟩
  by_cases h0 : 0 ≤ i
  · have hj : i.toNat = j := by
      rw [seqIndex_of h0 h5] at h1
      exact Option.some.inj h1
    exact item_listR pl.isList h0 (by omega) (by rw [hj]; simpa using ew) fin hs
  · have hj : (i + (its.toArray.size : Int)).toNat = j := by
      rw [seqIndex_neg (by omega) h4] at h1
      rw [List.size_toArray, ← hl]
      exact Option.some.inj h1
    exact subscriptTail_builtinR (x := w) pl.isList.typeIs slot_list_getitem.lookup
      (wpAny_getItem_list_neg (Q := fun r s' => r = w ∧ EP X pins σ Q r s') pl.isList (by omega) (by rw [List.size_toArray] <;> omega) (by omega) (by rw [hj]; simpa using ew) ⟨rfl, fin⟩) hs
theorem zhO : IxR X (zlE X.K) := by
  intro value slice pins s σ H x y v u Q I rx ry h hs
  obtain ⟨p, xs, i, z, rfl, rfl, hq, he, q⟩ := h
  cases rx
  obtain ⟨t, rfl⟩ := ry
  obtain ⟨its, r, pl, hz⟩ := I.tuple hq
  obtain ⟨j, h1, h2, h3, h4, h5⟩ := zcd he
  obtain ⟨w, ew, rw'⟩ := r.get h2
  have hl := r.length
  have hn := Xg
  have fin : EP X pins σ Q w s := ⟨z, H, I, rw', q⟩
  exact subscriptTail_builtinR (x := w) pl.typeIs slot_tuple_getitem.lookup
    (getItem_tuple (j := j) (Q := fun r s' => r = w ∧ EP X pins σ Q r s') pl (by omega) (by omega) (by rw [List.size_toArray, ← hl]; exact h1) (by simpa using ew) ⟨rfl, fin⟩) hs
theorem zjC : IxR X rIxS := by
  intro value slice pins s σ H x y v u Q I rx ry h hs
  obtain ⟨z, i, c, rfl, rfl, hz, he, q⟩ := h
  obtain ⟨t, rfl⟩ := rx
  obtain ⟨t', rfl⟩ := ry
  obtain ⟨j, h1, h2, h3, h4, h5⟩ := zcd he
  have hl : z.cps.toList.length = z.length := by simp [Str.length]
  rw [hl] at h1 h4 h5
  have hn := Xg
  exact tail_any (typeIs_str s z t) slot_str_getitem.lookup (getItem_str (c := c) (by
    have e1 : decide (i < -(2 ^ 63 : Int)) = false := decide_eq_false (by omega)
    have e2 : decide (i ≥ 2 ^ 63) = false := decide_eq_false (by omega)
    rw [e1, e2, Bool.or_false]) (by rw [h1]; simpa using h2) ⟨.str ⟨#[c]⟩, H, I.tok _, ⟨_, rfl⟩, q⟩) hs
noncomputable def rIx (K : PySem.W.Frag) : R2 := fun x y H Q => rIxL K x y H Q ∨ zlE K x y H Q ∨ rIxS x y H Q
theorem zkC : IxR X (rIx X.K) := zir.or (zhO.or zjC)
theorem zd6 (its : List Value) (n j : Nat) (u : Value) : Obj.mapSeq (·.setIfInBounds j u) { cls := .type "list", data := .seq its.toArray n } = { cls := .type "list", data := .seq (its.set j u).toArray n } := by
  simp [Obj.mapSeq]
theorem Inv.lst {pins : List (Addr × Obj)} {σ : St} {H : Hp} {s : Shared} {p : Addr} {xs : List V} (I : Inv X pins σ H s) (h : H p = some (.lst xs)) :
    ∃ (its : List Value) (n : Nat), yx xs its ∧ s.heap.get? p = some { cls := .type "list", data := .seq its.toArray n } ∧ xs.length ≤ sizeLine := by
  obtain ⟨z, its, n, r, e⟩ := I.hok p _ h
  exact ⟨its, n, r, e, z⟩
theorem Inv.lstUpd {pins : List (Addr × Obj)} {σ : St} {H : Hp} {s : Shared} {p : Addr} {xs ys : List V} {its its' : List Value} {n n' : Nat} {f : Obj → Obj} (I : Inv X pins σ H s) (h : H p = some (.lst xs))
    (ho : s.heap.get? p = some { cls := .type "list", data := .seq its.toArray n }) (hf : f { cls := .type "list", data := .seq its.toArray n } = { cls := .type "list", data := .seq its'.toArray n' }) (r : yx ys its') (hz : ys.length ≤ sizeLine) (t : Nat) :
    Inv X pins σ (upd H p (.lst ys)) { s with heap := s.heap.update p f, toks := t } := by
  have e : (s.heap.update p f).get? p = some { cls := .type "list", data := .seq its'.toArray n' } := by
    rw [Heap.get?_update_self f ho (by rw [hf] <;> rfl), hf]
  refine I.write (x := p) (e := p) (by rw [h]; trivial) (.inl rfl) (fun b u hb q => (Heap.get?_update_other _ _ (Ne.symm hb)).trans q) ⟨_, e⟩ ?_
  exact ⟨hz, its', n', r, e⟩
noncomputable def zl5 : V → V → V → Hp → (Hp → Prop) → Prop := fun o i v H Q => ∃ p xs k j, o = .ref p ∧ i = .int k ∧ H p = some (.lst xs) ∧ ixN xs.length k = some j ∧ Q (upd H p (.lst (xs.set j v)))
theorem zgv : PSet X zl5 := by
  intro pins s σ H o i v ov iv u Q I ro ri rv h
  obtain ⟨p, xs, k, j, rfl, rfl, hp, hj, q⟩ := h
  cases ro
  obtain ⟨t, rfl⟩ := ri
  obtain ⟨its, n, r, ho, hz⟩ := I.lst hp
  obtain ⟨h1, h2, h3, h4⟩ := zff hj
  have hl := r.length
  have hn := Xg
  have I' : Inv X pins σ (upd H p (.lst (xs.set j v))) { s with heap := s.heap.update p (Obj.mapSeq (·.setIfInBounds j u)) } :=
    I.lstUpd hp ho (zd6 its n j u) (r.set rv j) (by rw [List.length_set]; exact hz) s.toks
  by_cases h0 : 0 ≤ k
  · have hk : k.toNat = j := by
      rw [seqIndex_of h0 h4] at h1
      exact Option.some.inj h1
    exact PySem.W.ki_setAt ho h0 (by omega) (by rw [List.size_toArray, ← hl]; exact h4) (by rw [hk]; exact ⟨_, I', q⟩)
  · have hk : (k + (its.toArray.size : Int)).toNat = j := by
      rw [seqIndex_neg (by omega) h3] at h1
      rw [List.size_toArray, ← hl]
      exact Option.some.inj h1
    exact PySem.W.ki_setBack ho (by omega) (by rw [List.size_toArray, ← hl]; exact h3) (by omega) (by rw [hk]; exact ⟨_, I', q⟩)
theorem Wr (lo hi : Option Int) (n : Nat) : (sliceBounds lo hi none n).1 = ((HT.sIx n 0 lo : Nat) : Int) ∧ (sliceBounds lo hi none n).2.1 = ((HT.sIx n n hi : Nat) : Int) ∧ (sliceBounds lo hi none n).2.2 = 1 := by
  refine ⟨?_, ?_, rfl⟩
  · cases lo with
    | none => simp [sliceBounds, HT.sIx]
    | some i =>
      simp only [sliceBounds, HT.sIx, Option.getD_none, show (1 : Int) > 0 by decide, if_true]
      by_cases h : i < 0
      · simp only [h, if_true] <;> omega
      · simp only [h, if_false] <;> omega
  · cases hi with
    | none => simp [sliceBounds, HT.sIx]
    | some i =>
      simp only [sliceBounds, HT.sIx, Option.getD_none, show (1 : Int) > 0 by decide, if_true]
      by_cases h : i < 0
      · simp only [h, if_true] <;> omega
      · simp only [h, if_false] <;> omega
theorem Wb (its : List Value) (lo hi : Option Int) : slicePick its.toArray lo hi none = ((its.drop (HT.sIx its.length 0 lo)).take (HT.sIx its.length its.length hi - HT.sIx its.length 0 lo)).toArray := by
  obtain ⟨h1, h2, h3⟩ := Wr lo hi its.toArray.size
  unfold slicePick
  rw [h1, h2, h3]
  simp only [sliceRange_one, pick_run, List.size_toArray] <;> rfl
noncomputable def rSlL (K : PySem.W.Frag) : V → Option Int → Option Int → Hp → VK → Prop := fun x lo hi H Q => ∃ a xs, x = .ref a ∧ SqL K H a xs ∧ ∀ p, H p = none → Q (.ref p) (upd H p (.lst (zaN xs lo hi)))
theorem ziV : SlR X (rSlL X.K) := by
  intro pins s σ H x v vl vu lo hi sl Q I rx hs pl pu h
  obtain ⟨a, xs, rfl, hx, q⟩ := h
  cases rx
  obtain ⟨its, r, ht, hz⟩ := I.list hx
  have hlen := r.length
  refine ⟨"list", _, slot_list_getitem.lookup, ht.isList.typeIs, ?_⟩
  refine wpAny_getItem_list_slice ht.isList hs pl pu .none (by simp) ?_ (by rw [List.size_toArray] <;> omega)
  rw [Wb, ← hlen]
  refine ⟨.ref s.heap.objs.size, _, I.laid (t' := s.toks) (o := .lst (zaN xs lo hi)) (fun b ob q => Heap.get?_push_of_some _ q) (Nat.le_refl _) ?_, rfl, q _ (I.hok.fresh (Nat.le_refl _))⟩
  exact ⟨Nat.le_trans (ZF xs lo hi) hz, _, 0, (r.drop (HT.sIx xs.length 0 lo)).take (HT.sIx xs.length xs.length hi - HT.sIx xs.length 0 lo), Heap.get?_push_size _ rfl⟩
noncomputable def zic : V → Bool
  | .non => true
  | .bl _ => true
  | .int _ => true
  | .str _ => true
  | _ => false
noncomputable def eqV : V → V → Bool
  | .non, .non => true
  | .bl a, .bl b => a == b
  | .bl a, .int b => (if a then 1 else 0) == b
  | .int a, .bl b => a == (if b then 1 else 0)
  | .int a, .int b => a == b
  | .str a, .str b => a == b
  | _, _ => false
theorem zhs {A : Around} {s : Shared} {y x : V} {u v : Value} (ry : yO y u) (rx : yO x v) (fy : zic y = true) (fx : zic x = true) : SeqAt.EqAt A s u v (eqV y x) := by
  cases y with
  | non =>
    cases ry
    cases x with
    | non => cases rx; exact SeqAt.EqAt.same _
    | bl b => cases rx; exact SeqAt.EqAt.none_bool b
    | int b => obtain ⟨t, rfl⟩ := rx; exact SeqAt.EqAt.none_int b t
    | str b => obtain ⟨t, rfl⟩ := rx; exact SeqAt.EqAt.none_str b t
    | _ => exact absurd (show false = true from fx) Bool.false_ne_true
  | bl a =>
    cases ry
    cases x with
    | non => cases rx; exact SeqAt.EqAt.bool_none a
    | bl b => cases rx; exact SeqAt.EqAt.bool_bool a b
    | int b => obtain ⟨t, rfl⟩ := rx; exact SeqAt.EqAt.bool_int a b t
    | str b => obtain ⟨t, rfl⟩ := rx; exact SeqAt.EqAt.bool_str a b t
    | _ => exact absurd (show false = true from fx) Bool.false_ne_true
  | int a =>
    obtain ⟨t', rfl⟩ := ry
    cases x with
    | non => cases rx; exact SeqAt.EqAt.int_none a t'
    | bl b => cases rx; exact SeqAt.EqAt.int_bool a t' b
    | int b => obtain ⟨t, rfl⟩ := rx; exact SeqAt.EqAt.int_int a t' b t
    | str b => obtain ⟨t, rfl⟩ := rx; exact SeqAt.EqAt.int_str a t' b t
    | _ => exact absurd (show false = true from fx) Bool.false_ne_true
  | str a =>
    obtain ⟨t', rfl⟩ := ry
    cases x with
    | non => cases rx; exact SeqAt.EqAt.str_none a t'
    | bl b => cases rx; exact SeqAt.EqAt.str_bool a t' b
    | int b => obtain ⟨t, rfl⟩ := rx; exact SeqAt.EqAt.str_int a t' b t
    | str b => obtain ⟨t, rfl⟩ := rx; exact SeqAt.EqAt.str_str a t' b t
    | _ => exact absurd (show false = true from fx) Bool.false_ne_true
  | _ => exact absurd (show false = true from fy) Bool.false_ne_true
theorem zK : Yu X (.builtin "len") (fun xs H Q => ∃ p ys, xs = [.ref p] ∧ (SqL X.K H p ys ∨ SqT X.K H p ys) ∧ Q (.int ys.length) H) := by
  intro pins s σ H xs us Q I r h
  obtain ⟨p, ys, rfl, hq, q⟩ := h
  obtain ⟨u, rfl, rx⟩ := zac r
  cases rx
  have hn := Xg
  rcases hq with hq | hq
  · obtain ⟨its, r', pl, hz⟩ := I.list hq
    have hlen := r'.length
    exact Calls.call_len_list pl.isList (by simp only [List.size_toArray] <;> omega) ⟨.int ys.length, H, I.tok _, ⟨s.toks + 1, by rw [List.size_toArray, hlen]⟩, q⟩
  · obtain ⟨its, r', pl, hz⟩ := I.tuple hq
    have hlen := r'.length
    exact len_tuple pl (by simp only [List.size_toArray] <;> omega) ⟨.int ys.length, H, I.tok _, ⟨s.toks + 1, by rw [List.size_toArray, hlen]⟩, q⟩
theorem Wo : Yu X (.type "list") (fun xs H Q => ∃ p ys, xs = [.ref p] ∧ (SqL X.K H p ys ∨ SqT X.K H p ys) ∧ ∀ l, H l = none → Q (.ref l) (upd H l (.lst ys))) := by
  intro pins s σ H xs us Q I r h
  obtain ⟨p, ys, rfl, hq, q⟩ := h
  obtain ⟨u, rfl, rx⟩ := zac r
  cases rx
  have fin : ∀ (its : List Value), yx ys its → ys.length ≤ sizeLine → ∀ (h' : Heap) (c' : Nat), (∀ b o', s.heap.get? b = some o' → h'.get? b = some o') →
      h'.get? s.heap.objs.size = some { cls := .type "list", dict := none, data := .seq its.toArray c', slots := #[] } → EP X pins σ Q (.ref s.heap.objs.size) { s with heap := h' } := fun its r' hz h' c' kp e =>
    ⟨.ref s.heap.objs.size, _, I.laid (t' := s.toks) kp (Nat.le_refl _) (show yK X.prog X.w _ h' _ (.lst ys) from ⟨hz, its, c', r', e⟩), rfl, q _ (I.hok.fresh (Nat.le_refl _))⟩
  rcases hq with hq | hq
  · obtain ⟨its, r', pl, hz⟩ := I.list hq
    have hlen := r'.length
    obtain ⟨o, ho, hc, n, hd⟩ := pl.isList
    exact call_list_seq p (.inl rfl) ho hc hd (fun h' c' kp e => fin its r' hz h' c' kp e) (by simp only [List.size_toArray] <;> omega)
  · obtain ⟨its, r', pl, hz⟩ := I.tuple hq
    have hlen := r'.length
    obtain ⟨o, ho, hc, n, hd⟩ := pl
    exact call_list_seq p (.inr rfl) ho hc hd (fun h' c' kp e => fin its r' hz h' c' kp e) (by simp only [List.size_toArray] <;> omega)
theorem yY : Yu X (.type "tuple") (fun xs H Q => ∃ p ys, xs = [.ref p] ∧ ((SqL X.K H p ys ∧ ∀ l, H l = none → Q (.ref l) (upd H l (.tup ys))) ∨ (SqT X.K H p ys ∧ Q (.ref p) H))) := by
  intro pins s σ H xs us Q I r h
  obtain ⟨p, ys, rfl, h⟩ := h
  obtain ⟨u, rfl, rx⟩ := zac r
  cases rx
  rcases h with ⟨hq, q⟩ | ⟨hq, q⟩
  · obtain ⟨its, r', pl, hz⟩ := I.list hq
    have hlen := r'.length
    refine call_tuple_list pl.isList (fun h' kp => ?_) (by simp only [List.size_toArray] <;> omega)
    have I1 : Inv X pins σ H { s with heap := h' } := I.kept (t' := s.toks) kp
    have I2 : Inv X pins σ (upd H h'.objs.size (.tup ys)) { s with heap := h'.push { cls := .type "tuple", data := .seq its.toArray } } :=
      I1.laid (t' := s.toks) (fun b o e => Heap.get?_push_of_some _ e) (Nat.le_refl _) (show yK X.prog X.w _ _ _ (.tup ys) from ⟨hz, its, r', IsTup.new _ _⟩)
    exact ⟨.ref h'.objs.size, _, I2, rfl, q _ (I1.hok.fresh (Nat.le_refl _))⟩
  · obtain ⟨its, r', pl, hz⟩ := I.tuple hq
    exact call_tuple_same pl ⟨.ref p, H, I, rfl, q⟩
noncomputable def tyV (K : PySem.W.Frag) (T : String) (x : V) (H : Hp) : Prop := match x with
  | .str _ => T = "str"
  | .int _ => T = "int"
  | .ref p => (T = "list" ∧ ∃ xs, SqL K H p xs) ∨ (T = "tuple" ∧ ∃ o, K.lookup p = some o ∧ o.cls = .type "tuple" ∧ o.dict = none) ∨
      (T = "dict" ∧ ((∃ kvs, H p = some (.dK kvs)) ∨ ∃ kvs, H p = some (.dT kvs))) ∨ (T = "set" ∧ ∃ S n, H p = some (.set S n))
  | _ => False
theorem zke {pins : List (Addr × Obj)} {σ : St} {H : Hp} {s : Shared} {T : String} {x : V} {v : Value} (I : Inv X pins σ H s) (r : yO x v) (ty : tyV X.K T x H) :
    s.TypeIs v T ∧ ∀ a, v = .ref a → ∃ ob, s.heap.get? a = some ob ∧ ob.dict = none := by
  cases x with
  | str z =>
    obtain ⟨t, rfl⟩ := r
    cases (show T = "str" from ty)
    exact ⟨typeIs_str s z t, fun _ e => nomatch e⟩
  | int i =>
    obtain ⟨t, rfl⟩ := r
    cases (show T = "int" from ty)
    exact ⟨typeIs_int s i t, fun _ e => nomatch e⟩
  | ref p =>
    cases r
    rcases ty with ⟨rfl, xs, hq⟩ | ⟨rfl, o, hk, hc, hd⟩ | ⟨rfl, hk⟩ | ⟨rfl, S, n, hk⟩
    · obtain ⟨its, _, pl, _⟩ := I.list hq
      refine ⟨pl.isList.typeIs, fun a e => ?_⟩
      cases e
      obtain ⟨o, n, e, c, hd, _⟩ := pl
      exact ⟨o, e, hd⟩
    · refine ⟨⟨o, I.kIn p o hk, hc⟩, fun a e => ?_⟩
      cases e
      exact ⟨o, I.kIn _ o hk, hd⟩
    · have z : ∃ o, s.heap.get? p = some o ∧ o.ExactDict := by
        rcases hk with ⟨kvs, hk⟩ | ⟨kvs, hk⟩
        · obtain ⟨_, _, _, _, o, _, _, e, ex, _⟩ := I.hok p _ hk
          exact ⟨o, e, ex⟩
        · obtain ⟨_, _, _, _, o, _, _, e, ex, _⟩ := I.hok p _ hk
          exact ⟨o, e, ex⟩
      obtain ⟨o, e, ex⟩ := z
      refine ⟨⟨o, e, ex.1⟩, fun a e2 => ?_⟩
      cases e2
      exact ⟨o, e, ex.2.1⟩
    · obtain ⟨o, _, _, _, e, ex, _⟩ := I.hok p _ hk
      refine ⟨⟨o, e, ex.1⟩, fun a e2 => ?_⟩
      cases e2
      exact ⟨o, e, ex.2.1⟩
  | _ => exact False.elim ty
noncomputable def tBM (K : PySem.W.Frag) (T : String) (r : V → List V → Hp → VK → Prop) (to : TE) (t : TA) : TE := fun σ H Q => to σ H fun x H1 => tyV K T x H1 ∧ t σ H1 fun xs H2 => r x xs H2 Q
variable {o e : Expr} {es : List Expr} {to : TE} {t : TA} {name : Str} {apos cpos : Pos} {T id : String} {r : V → List V → Hp → VK → Prop}
theorem zan (pa : PlainAttrs T) (slot : Slot T name id) (hty : typeOf (.builtin id) = pure (.type "method_descriptor")) (hm : MtR X id r) (ho : PE X o to) (ha : PA X (e :: es) t)
    (hbase : attributeBase o name X.env (eval o X.env) = eval o X.env := by rfl)
    (hfew : ((backTo cpos (starEach (e :: es) X.env)).all (fun x => !x.1) && (backToKw cpos (keywordEach [] X.env)).all (fun x => x.1.isSome)
      && decide ((e :: es).length + ([] : List Keyword).length + (if ([] : List Keyword).isEmpty then 0 else 1) < 30)) = true := by rfl)
    (hline : (apos.endLine == cpos.line) = true := by rfl) (hs : starEach (e :: es) X.env = (false, eval e X.env) :: starEach es X.env := by rfl) (hplain : (backTo cpos (starEach es X.env)).any (·.1) = false := by rfl) :
    PE X (.Call (.Attribute o name apos) (e :: es) [] cpos) (tBM X.K T r to t) := by
  intro pins s σ H Q I h
  refine wpAny_Call_method_late hbase hfew hline rfl (thn (ho pins s σ H _ I h) fun v s1 hh9 => ?_)
  obtain ⟨x, H1, I1, r1, ty, q1⟩ := hh9
  obtain ⟨h1, h2⟩ := zke I1 r1 ty
  refine ⟨T, id, pa, slot, hty, h1, h2, ?_⟩
  have hA := ha cpos pins s1 σ H1 _ I1 q1
  rw [hs] at hA ⊢
  refine Calls.callWith_builtin (by show (false || (backTo cpos (starEach es X.env)).any (·.1)) = false; rw [hplain] <;> rfl) (Calls.evalArgs_plain ?_)
  exact thn hA fun us s2 ⟨vs, H2, I2, r2, q2⟩ => hm pins s2 σ H2 x vs v us Q I2 r1 r2 q2
/- xs.append(e), list.index on a module's tuple .. are MtR facts of 06m -/
end
end L2
namespace L2
open PySem PySem.Spec PyProof.Rows
noncomputable def MtM (X : Cx) (id : String) (r : V → List V → Hp → VK → Prop) : Prop :=
  ∀ (pins : List (Addr × Obj)) (s : Shared) (σ : St) (H : Hp) (x : V) (xs : List V) (v : Value) (us : List Value) (Q : VK), Inv X pins σ H s → yO x v → yx xs us → r x xs H Q →
    wpAny (model X.prog X.w) X.A (call (.builtin id) (v :: us)) (EP X pins σ Q) X.xe s
theorem yx.one : ∀ {x : V} {us : List Value}, yx [x] us → ∃ u, us = [u] ∧ yO x u := by
  intro x us h
  cases h with | cons r t => cases t; exact ⟨_, rfl, r⟩
theorem yx.rep {xs : List V} {us : List Value} (h : yx xs us) : ∀ k : Nat, yx (List.replicate k xs).flatten (List.replicate k us).flatten
  | 0 => .nil
  | k + 1 => by
    rw [List.replicate_succ, List.replicate_succ, List.flatten_cons, List.flatten_cons]
    exact yx.append h (yx.rep h k)
theorem Vr (its : List Value) : ∀ (k : Nat) (acc : List Value),
    List.foldl (fun x1 x2 => x1 ++ x2) acc.toArray (List.replicate k its.toArray) = (acc ++ (List.replicate k its).flatten).toArray
  | 0, acc => by simp
  | k + 1, acc => by
    have e : acc.toArray ++ its.toArray = (acc ++ its).toArray := by simp
    have e2 : (acc ++ its) ++ (List.replicate k its).flatten = acc ++ (List.replicate (k + 1) its).flatten := by
      rw [List.replicate_succ, List.flatten_cons, List.append_assoc]
    rw [← e2, ← Vr its k (acc ++ its), ← e, List.replicate_succ, List.foldl_cons]
section
variable {X : Cx} {pins : List (Addr × Obj)} {σ : St} {H : Hp} {s : Shared} {l b : Addr} {xs ys zs : List V}
theorem Inv.lset {its its' : List Value} {n : Nat} {f : Array Value → Array Value} {t' : Nat} (I : Inv X pins σ H s) (hH : H l = some (.lst xs))
    (e : s.heap.get? l = some { cls := .type "list", data := .seq its.toArray n }) (hf : f its.toArray = its'.toArray) (hv : yx ys its') (hz : ys.length ≤ sizeLine) :
    Inv X pins σ (upd H l (.lst ys)) { s with heap := s.heap.update l (Obj.mapSeq f), toks := t' } := by
  have q := PySem.IsL.update e f
  rw [hf] at q
  refine I.write (x := l) (e := l) (by rw [hH]; exact trivial) (.inl rfl) (fun b' u hb hu => (Heap.get?_update_other s.heap (Obj.mapSeq f) (Ne.symm hb)).trans hu) ⟨_, q⟩ ?_
  exact ⟨hz, its', _, hv, q⟩
theorem Inv.lnew {its : List Value} {t' : Nat} (I : Inv X pins σ H s) (hv : yx ys its) (hz : ys.length ≤ sizeLine) :
    Inv X pins σ (upd H s.heap.objs.size (.lst ys)) { s with heap := s.heap.push { cls := .type "list", data := .seq its.toArray }, toks := t' } :=
  I.laid (fun _ _ q => Heap.get?_push_of_some _ q) (Nat.le_refl _) ⟨hz, its, 0, hv, Heap.get?_push_size _ rfl⟩
theorem Inv.fresh (I : Inv X pins σ H s) : H s.heap.objs.size = none := I.hok.fresh (Nat.le_refl _)
theorem Inv.lstM (I : Inv X pins σ H s) (hH : H l = some (.lst xs)) : xs.length ≤ sizeLine ∧ ∃ (its : List Value) (n : Nat), yx xs its ∧ xs.length = its.length ∧ s.heap.get? l = some { cls := .type "list", data := .seq its.toArray n } := by
  obtain ⟨z, its, n, r, e⟩ := I.hok l _ hH
  exact ⟨z, its, n, r, r.length, e⟩
theorem zda {n : Nat} (h : n ≤ sizeLine) : Builtin.List.listTooLong n = false := by
  unfold Builtin.List.listTooLong
  exact decide_eq_false (by omega)
end
section
variable {X : Cx}
noncomputable def zbS : V → List V → Hp → VK → Prop := fun x vs H Q => ∃ l xs y, x = .ref l ∧ vs = [y] ∧ H l = some (.lst xs) ∧ xs.length < sizeLine ∧ Q .non (upd H l (.lst (xs ++ [y])))
theorem xX : MtM X "list.append" zbS := by
  intro pins s σ H x vs v us Q I rx rv h
  obtain ⟨l, xs, y, rfl, rfl, hH, hz, q⟩ := h
  cases rx
  obtain ⟨u, rfl, ru⟩ := rv.one
  obtain ⟨z, its, n, r, hl, e⟩ := I.lstM hH
  refine call_meets F.slot_list_append ⟨_, e, rfl⟩ F.entry_list_append (F.args_list_append_2 _ _) (PySem.list_append l its.toArray n u (by rw [List.size_toArray]; omega)) ⟨e, ?_⟩
  refine ⟨.non, _, I.lset (its' := its ++ [u]) hH e (by simp) (r.append (.cons ru .nil)) ?_, rfl, q⟩
  rw [List.length_append, List.length_singleton]
  omega
noncomputable def zfT : V → List V → Hp → VK → Prop := fun x vs H Q => ∃ l b xs zs, x = .ref l ∧ vs = [.ref b] ∧ H l = some (.lst xs) ∧ H b = some (.lst zs) ∧ xs.length + zs.length ≤ sizeLine ∧ Q .non (upd H l (.lst (xs ++ zs)))
theorem zeI : MtM X "list.extend" zfT := by
  intro pins s σ H x vs v us Q I rx rv h
  obtain ⟨l, b, xs, zs, rfl, rfl, hH, hB, hz, q⟩ := h
  cases rx
  obtain ⟨u, rfl, ru⟩ := rv.one
  cases ru
  obtain ⟨z, its, n, r, hl, e⟩ := I.lstM hH
  obtain ⟨z2, its2, n2, r2, hl2, e2⟩ := I.lstM hB
  have hsz : its.toArray.size + its2.toArray.size ≤ sizeLine := by rw [List.size_toArray, List.size_toArray]; omega
  have hlong : ¬ (!its.toArray.isEmpty && Builtin.List.listTooLong (its.toArray.size + its2.toArray.size)) = true := by
    rw [zda hsz, Bool.and_false]
    exact Bool.false_ne_true
  refine call_meets F.slot_list_extend ⟨_, e, rfl⟩ F.entry_list_extend (F.args_list_extend_2 _ _)
    (AutoSeq1.list_extend_list_list_0 l its.toArray n b its2.toArray n2 hlong (by rw [List.size_toArray]; omega) (by omega)) ⟨e, e2, ?_⟩
  refine ⟨.non, _, I.lset (its' := its ++ its2) hH e (by simp) (r.append r2) ?_, rfl, q⟩
  rw [List.length_append]
  omega
noncomputable def rCat : R2 := fun x y H Q => ∃ l b xs zs, x = .ref l ∧ y = .ref b ∧ H l = some (.lst xs) ∧ H b = some (.lst zs) ∧ xs.length + zs.length ≤ sizeLine ∧ ∀ p, H p = none → Q (.ref p) (upd H p (.lst (xs ++ zs)))
theorem zjk : OpR X (binaryOp .Add) rCat := by
  intro pins s σ H x y v u Q I rx ry h
  obtain ⟨l, b, xs, zs, rfl, rfl, hH, hB, hz, q⟩ := h
  cases rx
  cases ry
  obtain ⟨z, its, n, r, hl, e⟩ := I.lstM hH
  obtain ⟨z2, its2, n2, r2, hl2, e2⟩ := I.lstM hB
  refine PySem.P.add_list e e2 ?_ (by rw [List.size_toArray, List.size_toArray]; omega)
  have ea : its.toArray ++ its2.toArray = (its ++ its2).toArray := by simp
  rw [ea]
  exact ⟨.ref _, _, I.lnew (t' := s.toks) (r.append r2) (by rw [List.length_append]; omega), rfl, q _ I.fresh⟩
noncomputable def rRep : R2 := fun x y H Q => ∃ l k xs, x = .ref l ∧ y = .int k ∧ H l = some (.lst xs) ∧ -(2 ^ 63) ≤ k ∧ k < 2 ^ 63 ∧ xs.length * k.toNat ≤ sizeLine ∧
  ∀ p, H p = none → Q (.ref p) (upd H p (.lst (List.replicate k.toNat xs).flatten))
theorem ziK {α : Type} (xs : List α) (k : Nat) : (List.replicate k xs).flatten.length = k * xs.length := by
  induction k with
  | zero => simp
  | succ k ih => rw [List.replicate_succ, List.flatten_cons, List.length_append, ih, Nat.succ_mul, Nat.add_comm]
theorem zhw : OpR X (binaryOp .Mult) rRep := by
  intro pins s σ H x y v u Q I rx ry h
  obtain ⟨l, k, xs, rfl, rfl, hH, h1, h2, hz, q⟩ := h
  cases rx
  obtain ⟨t, rfl⟩ := ry
  obtain ⟨z, its, n, r, hl, e⟩ := I.lstM hH
  have hlen : its.toArray.size * k.toNat ≤ sizeLine := by rw [List.size_toArray, ← hl]; exact hz
  have hcap : ¬ its.toArray.size * k.toNat > (2 ^ 63 - 1) / 8 := by
    have : (sizeLine : Nat) ≤ (2 ^ 63 - 1) / 8 := by decide
    omega
  have hfit : ¬ (!Builtin.List.listFitsIndex k) = true := by
    rw [fitsIndex_both h1 h2]
    exact Bool.false_ne_true
  have hlong : ¬ Builtin.List.listTooLong (its.toArray.size * k.toNat) = true := by
    rw [zda hlen]
    exact Bool.false_ne_true
  have hnew : List.foldl (fun x1 x2 => x1 ++ x2) #[] (List.replicate (if its.toArray.isEmpty = true then 0 else k.toNat) its.toArray) = (List.replicate k.toNat its).flatten.toArray := by
    have f0 : ∀ m : Nat, List.foldl (fun x1 x2 => x1 ++ x2) #[] (List.replicate m its.toArray) = (List.replicate m its).flatten.toArray := fun m => by
      have := Vr its m []
      rw [List.nil_append] at this
      exact this
    rw [f0]
    cases its with
    | nil => simp
    | cons a r' => rw [if_neg (by simp)]
  refine wpAny_binaryOp_repeat_ref (T := "list") (U := "int") (by decide) ⟨_, e, rfl⟩ (fun s' => typeIs_int s' k t) noFill_list_mul F.fills_int_mul F.slot_int_rmul repeat_list F.slot_int_index.lookup
    (call_meets F.slot_int_rmul (typeIs_int s k t) F.entry_int_rmul (F.args_int_rmul_2 _ _) (int___rmul___int_list k t l its.toArray n)
      ⟨e, rfl, ⟨_, e, rfl⟩, call_meets F.slot_list_mul ⟨_, e, rfl⟩ F.entry_list_mul (F.args_list_mul_2 _ _) (AutoListH.list___mul___list_int_3 l its.toArray n k t hfit hcap hlong) ⟨e, ?_⟩⟩)
  rw [hnew]
  exact ⟨.ref _, _, I.lnew (t' := s.toks) (r.rep k.toNat) (by rw [ziK, Nat.mul_comm]; exact hz), rfl, q _ I.fresh⟩
end
section
variable {prog : Program} {w : World} {A : Around} {E : Value → Shared → Prop} {s : Shared}
end
section
variable {X : Cx}
end
end L2
namespace Att
open PySem PySem.W PySem.Calls PyProof.Rows
theorem Zw {P : Params} {h : Heap} : ∀ (ns : List Int) (vs : List Value), WellAll P h vs (ns.map WData.int) → IntsAre vs ns := by
  intro ns
  induction ns with
  | nil =>
    intro vs w
    rw [List.map_nil] at w
    cases w
    exact .nil
  | cons n ns ih =>
    intro vs w
    rw [List.map_cons] at w
    cases w with
    | cons a b =>
      cases a
      exact .cons _ _ (ih _ b)
theorem zfr {l : OpenLaw} {n : Nat} (hn : l.most = some n) {P : Params} {h : Heap} {args : List WData} {vals : List Value}
    (hpre : l.row.toRowW.claim.pre args = true) (hwl : WellAll P h vals args) :
    ∃ a vs ns, vals = [Value.ref a] ∧ args = [WData.list (ns.map WData.int)] ∧ h.get? a = some { cls := .type "list", data := .seq vs.toArray } ∧ IntsAre vs ns ∧ ns.length ≤ n := by
  have hsh : WShape.hasAll [] args [.list .int] = true := (pre_splitW hpre).1
  have hc : l.pre.holds [] { args := args } = true := (pre_splitW hpre).2
  obtain ⟨d, r, rfl, h1, h2⟩ := hasAllW_cons hsh
  obtain rfl := hasAllW_nil h2
  obtain ⟨xs, rfl, h3⟩ := hasW_list h1
  obtain ⟨ns, rfl⟩ := items_int h3
  have hlen : ns.length ≤ n := by
    unfold OpenLaw.pre at hc
    have h4 : (WTm.not (.lt (.lit (.int (n : Int))) (.len (.arg 0)))).holds [] { args := [.list (ns.map .int)] } = true := by
      have h4 := (holds_andW hc).1
      rw [hn] at h4
      exact h4
    have h5 := condW_of h4 (w_not (w_lt w_lit (w_len_list (w_arg rfl))))
    rw [List.length_map] at h5
    refine Nat.le_of_not_lt fun q => ?_
    have q' : (n : Int) < ((ns.length : Nat) : Int) := by omega
    first
      | (rw [decide_eq_true q'] at h5; exact absurd h5 (by decide))
      | (simp at h5; omega)
  cases hwl with
  | cons w1 w2 =>
    cases w2
    cases w1 with
    | list ho hall => exact ⟨_, _, ns, rfl, rfl, ho, Zw ns _ hall, hlen⟩
theorem ze7 (l : OpenLaw) (args : List WData) : l.row.toRowW.claim.post args (.bool true) args = true :=
  postW_of (r := l.row.toRowW) (X := (true == true))
    (show WShape.has [] (.bool true) .bool = true by first | rfl | decide | simp [WShape.has, WShape.arms, WShape.armsAll])
    (show (WTm.eq .res (.lit (.bool true))).value [] { args := args, res := some (.bool true), after := args } = some (.bool (true == true)) from w_eq_bool (w_res rfl) w_lit) rfl
theorem attach_call {l : OpenLaw} {n : Nat} {q : Program} {loose : List Str} {XP : (Str → Option Value) → Heap → Prop} {YP : World → Heap → Prop} {d : DefRec}
    (hn : l.most = some n) (hdf : d.params.defaults = [])
    (call : ∀ (w : World) (s₀ s₁ : Shared) (mg mb : Str → Option Value) (fa : Addr) (o : Obj) (pm cd doc : Value) (a : Addr) (vs : List Value) (ns : List Int),
      Ground q loose [] XP w s₀ mg mb s₁.heap → YP w s₁.heap →
      s₁.heap.get? fa = some o → o.data = .func (docDef d.name d.params d.body d.scope pm cd doc) → s₁.heap.CodeRec cd d.name → mg d.name = some (.ref fa) →
      s₁.heap.get? a = some { cls := .type "list", data := .seq vs.toArray } → IntsAre vs ns → ns.length ≤ n → s₁.gens = #[] →
      codeAny (model l.prog w) callerA (.call (.ref fa) ⟨[.ref a], []⟩) (fun r s' => r = .ok (.ret (.bool true)) ∧ OldK s₁.heap s'.heap ∧ s'.os = s₁.os ∧ AllBare s'.gens) s₁) :
    WalkO q loose XP YP l.row.toRowW d [] (fun f vs => PySem.call f vs) := by
  intro w s₀ s₁ mg mb G Y fa o pm cd doc dV kV ho hd hcd hD hmg hg args vals as hpre hlay hrd hwl hlo
  obtain rfl : dV = .none := Dflts.none hD hdf
  obtain rfl : kV = .none := Dflts.noKw hD
  obtain ⟨a, vs, ns, rfl, rfl, hobj, hints, hlen⟩ := zfr hn hpre hwl
  refine enter_call (codeAny_mono (call w s₀ s₁ mg mb fa o pm cd doc a vs ns G Y ho (fd_plain hd) hcd hmg hobj hints hlen hg) fun r s' hq => ?_)
  obtain ⟨rfl, h2, h3, h4⟩ := hq
  exact ⟨.inl ⟨.bool true, .bool true, [], rfl, fun _ => rfl, .bool true, ze7 l _, fun _ => ⟨List.Pairwise.nil, fun _ hm => (nomatch hm)⟩⟩, h2, h3, h4⟩
section
variable {prog : Program} {w : World} {A : Around} {E : Value → Shared → Prop} {s : Shared} {K : Frag}
noncomputable def ledger (h : Heap) (L d : Addr) : List (Addr × Obj) := (List.range h.objs.size).filterMap fun a => if a = L ∨ a = d then none else (h.get? a).map fun o => (a, o)
end
end Att
namespace L2
open PySem PySem.Spec PyProof.Rows
theorem Vl : ∀ {vs : List Value} {ns : List Int}, IntsAre vs ns → yx (ns.map V.int) vs := by
  intro vs ns h
  induction h with
  | nil => exact .nil
  | cons n t h ih => exact .cons ⟨t, rfl⟩ ih
noncomputable def zlz (H : Hp) : Prop := ∀ b, H b = none ∨ ∃ o xs, H b = some (.frz o (.lst xs))
theorem zgh {P : Program} {w : World} {K : PySem.W.Frag} {mg mb : Str → Option Value} {CX : CXT} {k : Nat} {fa a : Addr} {fd : FuncData} {x : Str} {sp : Sp} {s₁ : Shared} {vs : List Value} {ns : List Int}
    (KX : K.In s₁.heap) (hns : s₁.heap.Ns mainGlobals mg) (hb : s₁.heap.Ns builtinsNs mb) (hbb : ∀ x : Str, x ≠ "__name__" → mb x = bootBuiltins x) (hlim : s₁.heap.NoLimit) (hg : s₁.gens = #[])
    (ha : s₁.heap.get? a = some { cls := .type "list", data := .seq vs.toArray }) (hi : IntsAre vs ns) (hl : ns.length ≤ sizeLine) (hr : vW k callerA)
    (F : ∀ base : Heap, K.In base → base.Ns mainGlobals mg → yU P w K mg base CX k fa fd [x] sp) (hbind : ∀ (s : Shared) (u : Value), BindsTo s fd ⟨[u], []⟩ [(x, u)])
    (hsp : ∀ H : Hp, zlz H → SqL K H a (ns.map V.int) → sp [.ref a] H (fun v _ => v = .bl true) fun _ _ _ => False)
    (hCX : ∀ H e s', CX [] H s₁ (fun _ _ _ => False) e s' → False) :
    codeAny (model P w) callerA (.call (.ref fa) ⟨[.ref a], []⟩) (fun r s' => r = .ok (.ret (.bool true)) ∧ OldK s₁.heap s'.heap ∧ s'.os = s₁.os ∧ AllBare s'.gens) s₁ := by
  have rv := Vl hi
  have lenV := hi.length
  -- from an abstract heap in which nothing but the script may be tracked
  have core : ∀ H : Hp, zlz H → SqL K H a (ns.map V.int) → HOk P w H s₁.heap → (∀ b, H b ≠ none → b = a) → (H a ≠ none → K.lookup a = none) →
      codeAny (model P w) callerA (.call (.ref fa) ⟨[.ref a], []⟩) (fun r s' => r = .ok (.ret (.bool true)) ∧ OldK s₁.heap s'.heap ∧ s'.os = s₁.os ∧ AllBare s'.gens) s₁ := by
    intro H hO hS hok hA hK
    have base_of : ∀ {b : Addr} {o : Obj}, s₁.heap.get? b = some o → H b = none → (zf1 s₁.heap H).get? b = some o := fun e n => zge e n
    have noA : ∀ {b : Addr} {o : Obj} {es : Array DictEntry} {ep : Nat}, s₁.heap.get? b = some o → o.data = .dict es ep → H b = none := fun {b o es ep} e d => by
      cases q : H b with
      | none => rfl
      | some u =>
        have e' : b = a := hA b (by rw [q]; simp)
        subst e'
        rw [ha] at e; cases e
        have d' : Data.seq vs.toArray _ = Data.dict es ep := d
        cases d'
    have nsK : ∀ {b : Addr} {m : Str → Option Value}, s₁.heap.Ns b m → (zf1 s₁.heap H).Ns b m := fun {b m} ⟨o, es, ep, e, d, r⟩ => ⟨o, es, ep, base_of e (noA e d), d, r⟩
    have hKb : K.In (zf1 s₁.heap H) := fun b o e => base_of (KX b o e) (by
      cases q : H b with
      | none => rfl
      | some u =>
        have e' : b = a := hA b (by rw [q]; simp)
        subst e'
        rw [hK (by rw [q]; simp)] at e; cases e)
    have hM : Mod K mg (zf1 s₁.heap H) := ⟨hKb, nsK hns, ⟨mb, nsK hb, hbb⟩, let ⟨mc, h1, h2⟩ := hlim; ⟨mc, nsK h1, h2⟩⟩
    have e0 : zlj P w K mg (zf1 s₁.heap H) callerA [] s₁ H := ⟨rfl, hM, fun b o e => zh4 e, Nat.le_of_eq (ze5 _ _), trivial, fun b hb => absurd (show b ∈ ([] : List Addr) from hb) (by simp), hok, .of_eq hg⟩
    refine codeAny_mono ((F _ hKb (nsK hns)).run callerA [] s₁ H ⟨[.ref a], []⟩ [.ref a] [.ref a] _ _ hr e0 (hbind s₁ (.ref a)) (.cons rfl .nil) (hsp H hO hS)) fun r s' h => ?_
    cases r with
    | error e => exact (hCX H e s' h).elim
    | ok fl =>
      cases fl with
      | next => exact False.elim h
      | brk => exact False.elim h
      | cont => exact False.elim h
      | ret u =>
        obtain ⟨v, H', os, bare, un, hok', r', q⟩ := h
        have q' : v = .bl true := q
        subst q'
        obtain rfl : u = Value.bool true := r'
        refine ⟨rfl, OldK.of_keep fun b o e => ?_, os, bare⟩
        cases q : H b with
        | none => exact un.keep b o e q (by intro z; exact absurd (show b ∈ ([] : List Addr) from z) (by simp)) (by simp)
        | some u =>
          rcases hO b with z | ⟨ob, xs, z⟩
          · rw [q] at z; cases z
          · have z2 := un.frzs b ob _ z
            obtain ⟨e1, _⟩ := hok b _ z
            obtain ⟨e2, _⟩ := hok' b _ z2
            rw [e] at e1; cases e1
            exact e2
  cases hk : K.lookup a with
  | some o =>
    -- the script is one of the module's own objects
    have e := KX a o hk
    rw [ha] at e
    cases e
    refine core (fun _ => none) (fun _ => .inl rfl) (.inr ⟨_, vs.toArray, _, hk, rfl, rfl, rfl, by rw [List.size_toArray, lenV]; exact hl, by simpa using rv⟩) (fun b u z => by have z' : (none : Option HO) = some u := z; cases z') (fun b z => absurd rfl z) fun z => absurd rfl z
  | none =>
    refine core (fun b => if b = a then some (.frz { cls := .type "list", data := .seq vs.toArray } (.lst (ns.map V.int))) else none) (fun b => ?_) (.inl (.inr ⟨{ cls := .type "list", data := .seq vs.toArray }, if_pos rfl⟩)) (fun b u z => ?_) (fun b z => ?_) fun _ => hk
    · by_cases hb : b = a
      · exact .inr ⟨_, _, if_pos hb⟩
      · exact .inl (if_neg hb)
    · by_cases hb : b = a
      · have z' := (if_pos hb).symm.trans z
        cases z'
        subst hb
        exact ⟨ha, by rw [List.length_map]; exact hl, vs, _, rv, ha⟩
      · have z' := (if_neg hb).symm.trans z
        cases z'
    · by_cases hb : b = a
      · exact hb
      · exact absurd (if_neg hb) z
end L2
namespace L2
open PySem PySem.Spec PyProof.Rows
theorem walk_of {l : PySem.W.OpenLaw} {n k : Nat} {q : Program} {loose : List Str} {XP : (Str → Option Value) → Heap → Prop} {YP : World → Heap → Prop} {d : DefRec} {K : Params → PySem.W.Frag} {CX : World → CXT} {sp : World → Sp} {x : Str}
    (hn : l.most = some n) (hn2 : n ≤ sizeLine) (hdf : d.params.defaults = []) (hr : vW k callerA)
    (hY : ∀ (w : World) (h : Heap), YP w h → (K w.params).In h)
    (F : ∀ (w : World) (mg : Str → Option Value) (fa : Addr) (h : Heap), (K w.params).In h → h.Ns mainGlobals mg → mg d.name = some (.ref fa) →
      ∃ fd : FuncData, (∀ (s : Shared) (u : Value), BindsTo s fd ⟨[u], []⟩ [(x, u)]) ∧
        ∀ base : Heap, (K w.params).In base → base.Ns mainGlobals mg → yU l.prog w (K w.params) mg base (CX w) k fa fd [x] (sp w))
    (hsp : ∀ (w : World) (H : Hp) (a : Addr) (ns : List Int), ns.length ≤ n → zlz H → SqL (K w.params) H a (ns.map V.int) → sp w [.ref a] H (fun v _ => v = .bl true) fun _ _ _ => False)
    (hCX : ∀ (w : World) (H : Hp) (s : Shared) (e : Value) (s' : Shared), CX w [] H s (fun _ _ _ => False) e s' → False) :
    PySem.W.WalkO q loose XP YP l.row.toRowW d [] (fun f vs => PySem.call f vs) := by
  refine Att.attach_call hn hdf fun w s₀ s₁ mg mb fa o pm cd doc a vs ns G Y ho hd hcd hmg hobj hints hlen hg => ?_
  have KX := hY w _ Y
  obtain ⟨fd, hb, hF⟩ := F w mg fa _ KX G.T.g hmg
  exact zgh KX G.T.g G.T.b G.T.builtins G.T.nolimit hg hobj hints (Nat.le_trans hlen hn2) hr hF hb (fun H hO hS => hsp w H a ns hlen hO hS) fun H e s' => hCX w H s₁ e s'
end L2
namespace L2
open PySem PySem.Spec PyProof.Rows
noncomputable def zx (s : Stmt) : Arguments := match s with
  | .FunctionDef _ a _ _ _ _ _ _ _ _ => a
  | _ => { posonlyargs := [], args := [], vararg := none, kwonlyargs := [], kw_defaults := [], kwarg := none, defaults := [] }
noncomputable def zu (s : Stmt) : List Stmt := match s with
  | .FunctionDef _ _ b _ _ _ _ _ _ _ => b
  | _ => []
noncomputable def ze (s : Stmt) : Scope := match s with
  | .FunctionDef _ _ _ _ _ _ sc _ _ _ => sc
  | _ => { kind := .function, names := [], isGenerator := false, isCoroutine := false }
noncomputable abbrev CX0 : CXT := fun _ _ _ _ _ _ => False
noncomputable abbrev E0 : XK := fun _ _ _ => False
theorem zjL {X : Cx} : zeP CX0 X E0 := fun _ _ _ _ _ _ _ h => h.elim
set_option genInjectivity false in
set_option genSizeOf false in
set_option genCtorIdx false in
structure Fun (K : PySem.W.Frag) (x qual : Str) (st : Stmt) (f : Addr) (fd : FuncData) : Prop where
  ex : ∃ (oc : Value) (od : Option Addr) (kV doc pm : Value) (an : Option Addr) (cdv ct : Value) (osl : Array (Option Value)),
    fd = PySem.W.fnOf x qual (zx st) (zu st) (ze st) .none kV doc pm an cdv ct ∧ K.lookup f = some ⟨oc, od, .func fd, osl⟩ ∧ PySem.W.codeIn K cdv qual = true
  kp : PySem.W.keepIn K (.ref f) = true
section
variable {P : Program} {w : World} {K : PySem.W.Frag} {mg : Str → Option Value} {base : Heap}
theorem Fun.ok {x qual : Str} {st : Stmt} {f : Addr} {fd : FuncData} {N ps : List Str} {k : Nat} {sp : Sp} (F : Fun K x qual st f fd) (S : zv N ps (ze st)) (len : ∀ vs H Q E, sp vs H Q E → vs.length = ps.length)
    (hbody : ∀ (cdv : Value) (A : Around) (outer : List Env) (s : Shared) (H : Hp) (vs : List V) (Q : VK) (E : XK), vW k (A.deeper (envOfC qual (ze st) s.heap.objs.size f cdv)) → sp vs H Q E →
      ∃ t, PSs (zg0 CX0 P w K mg base N qual (ze st) f cdv A outer s H E).nox (zu st) t ∧ t { nx := fun _ H' => Q .non H', rt := Q } (start N vs) H) : yU P w K mg base CX0 (k + 1) f fd ps sp := by
  obtain ⟨oc, od, kV, doc, pm, an, cdv, ct, osl, rfl, lk, hcd⟩ := F.ex
  refine zlK lk hcd S len fun A outer s H vs Q E hr hsp => ?_
  obtain ⟨t, h, q⟩ := hbody cdv A outer s H vs Q E hr hsp
  exact ⟨t, h.nox, q⟩
theorem Fun.binds {x qual : Str} {st : Stmt} {f : Addr} {fd : FuncData} {ps : List Str} (F : Fun K x qual st f fd)
    (h : ∀ (kV doc pm : Value) (an : Option Addr) (cdv ct : Value) (us : List Value), us.length = ps.length → bindArgs (PySem.W.fnOf x qual (zx st) (zu st) (ze st) .none kV doc pm an cdv ct) ⟨us, []⟩ = pure (ps.zip us)) : WQ K fd ps [] := by
  obtain ⟨oc, od, kV, doc, pm, an, cdv, ct, osl, rfl, lk, hcd⟩ := F.ex
  exact .all (h kV doc pm an cdv ct)
theorem zI {x qual : Str} {st : Stmt} {f : Addr} {oc : Value} {od an : Option Addr} {osl : Array (Option Value)} {kV doc pm cdv ct : Value} (l : K.lookup f = some ⟨oc, od, .func (PySem.W.fnOf x qual (zx st) (zu st) (ze st) .none kV doc pm an cdv ct), osl⟩)
    (c : PySem.W.codeIn K cdv qual = true) (k : PySem.W.keepIn K (.ref f) = true) : Fun K x qual st f (PySem.W.fnOf x qual (zx st) (zu st) (ze st) .none kV doc pm an cdv ct) := ⟨⟨oc, od, kV, doc, pm, an, cdv, ct, osl, rfl, l, c⟩, k⟩
end
theorem ziD {A : Around} {k : Nat} (hr : vW k A) : A.units + 1 < cLine := Nat.lt_of_le_of_lt (Nat.add_le_add_left (by decide : 1 ≤ 64) _) hr.units
theorem vk {n : Nat} (h : n ≤ 1000) : n < sizeLine := Nat.lt_of_le_of_lt h (by decide)
section
variable {X : Cx}
theorem pv (i : Nat) {x : Str} {pos : Pos} (hN : X.N[i]? = some x := by rfl) (hv : Vis X.env.scope x := by first | exact Or.inl rfl | exact Or.inr (Or.inl rfl) | exact Or.inr (Or.inr rfl)) (hd : (x == ("__debug__" : Str)) = false := by decide)
    (hcd : (x == ("__classdict__" : Str)) = false := by decide) : PE X (.Name x pos) (zhE i) := zji hN hv hd hcd
end
noncomputable def yl (H H' : Hp) : Prop := ∀ b o, H b = some o → H' b = some o
theorem yl.refl (H : Hp) : yl H H := fun _ _ h => h
theorem yl.trans {H H1 H2 : Hp} (a : yl H H1) (b : yl H1 H2) : yl H H2 := fun c o h => b c o (a c o h)
theorem yl.free {H H' : Hp} (e : yl H H') {l : Addr} (h : H' l = Option.none) : H l = Option.none := by
  cases q : H l with
  | none => rfl
  | some o =>
    rw [e l o q] at h
    cases h
theorem yl.seq {K : PySem.W.Frag} {H H' : Hp} {a : Addr} {xs : List V} (e : yl H H') (h : SqL K H a xs) : SqL K H' a xs := by
  rcases h with (h | ⟨o, h⟩) | h
  · exact .inl (.inl (e _ _ h))
  · exact .inl (.inr ⟨o, e _ _ h⟩)
  · exact .inr h
end L2
namespace L2
open PySem PySem.Spec PyProof.Rows
end L2
namespace L2
open PySem PySem.Spec PyProof.Rows
section
variable (P : Program) (w : World)
end
section
variable {P : Program} {w : World} {H H' : Hp} {h h' : Heap} {a : Addr} {o : HO}
end
section
variable {P : Program} {w : World} {H : Hp} {h h' : Heap} {x e : Addr} {o' : HO}
end
section
variable {fs fs' ex ex' : List Addr} {H H1 H2 : Hp} {h h1 h2 h' : Heap} {a x e : Addr} {o : HO}
end
end L2
namespace L2
open PySem PySem.Spec PyProof.Rows
section
variable {X : Cx} {pins : List (Addr × Obj)} {σ : List (Option V)} {H H' : Hp} {s : Shared} {h' : Heap}
end
end L2
namespace L2
open PySem PySem.Spec PyProof.Rows
section
variable {X : Cx}
variable {a b : Expr} {ta tb : TE} {pos : Pos}
variable {tA tB' : TT} {rest : List Expr}
end
end L2
namespace L2
open PySem PySem.Spec PyProof.Rows
section
variable {X : Cx} {pins : List (Addr × Obj)} {σ : St} {H : Hp} {s : Shared} {a : Addr} {xs ys : List V}
end
section
variable {X : Cx} {pins : List (Addr × Obj)} {σ : St} {H : Hp} {s : Shared} {E : Value → Shared → Prop}
end
section
variable {X : Cx} {st : Stmt} {rest : List Stmt} {t u : TS} {e : Expr} {te : TE} {pos : Pos}
end
section
variable {X : Cx} {pos : Pos}
end
section
variable {X : Cx} {pos : Pos}
end
end L2
namespace L2
open PySem PySem.Spec PyProof.Rows
section
variable {X : Cx} {tg : Expr}
end
end L2
namespace L2
open PySem PySem.Spec PyProof.Rows
section
variable {X : Cx} {a b c : Expr} {ta tb tc : TE} {pos : Pos}
end
section
variable {X : Cx} {a b c : Expr} {ta tb tc : TE} {pos : Pos}
end
end L2
namespace L2
open PySem PySem.Spec PyProof.Rows
section
variable {prog : Program} {w : World} {A : Around} {E : Value → Shared → Prop} {s : Shared} {K : PySem.W.Frag} {x dx C f : Addr} {mA : Str → Option Value} {name : Str} {v : Value}
end
section
variable {P : Program} {w : World} {H H' : Hp} {h h' : Heap} {a C dx : Addr} {fs fs' : List (Str × V)}
end
section
variable {X : Cx} {pins : List (Addr × Obj)} {σ : St} {H : Hp} {s : Shared} {a C dx : Addr} {fs : List (Str × V)} {f : Str} {v : V} {A : Around} {E : Value → Shared → Prop}
end
section
variable {X : Cx} {o e value : Expr} {f : Str} {pos pos' tpos : Pos} {ta tv : TE}
end
section
variable {X : Cx} {pins : List (Addr × Obj)} {σ : St} {H : Hp} {s : Shared} {A : Around} {E : Value → Shared → Prop} {Q : Value → Shared → Prop} {c : Value} {b : Bool}
end
end L2
namespace L2
open PySem PySem.Spec PyProof.Rows
section
variable {X : Cx} {e : Expr} {es : List Expr} {te : TE} {t : TA} {pos : Pos}
end
section
variable {X : Cx} {pins : List (Addr × Obj)} {σ : St} {H : Hp} {s s' : Shared}
end
section
variable {X : Cx} {CX : CXT} {k : Nat} {f C : Addr} {fd : FuncData} {ps : List Str} {sp : Sp} {dvs : List V} {ds : List Value} {E : XK} {x m : Str} {p pos apos : Pos} {e o : Expr} {es : List Expr} {ta : TE} {t : TA}
end
section
variable {X : Cx} {CX : CXT} {k : Nat} {f C : Addr} {fd : FuncData} {ps ks : List Str} {sp : Sp} {E : XK} {x m : Str} {p pos apos kpos : Pos} {e o : Expr} {es : List Expr} {kws : List Keyword} {te ta : TE} {t tk : TA} {nm : Option Str}
variable {g : List Value → List Value → List Value} {gV : List V → List V → List V}
end
end L2
namespace L2
open PySem PySem.Spec PyProof.Rows
section
variable {X : Cx} {x : Str} {p pos : Pos} {e : Expr} {es : List Expr} {t : TA} {id T : String} {r : List V → Hp → VK → Prop}
end
end L2
namespace L2
open PySem PySem.Spec PyProof.Rows
section
variable {κ : Type} [DecidableEq κ]
noncomputable def zdv (kvs : List (κ × V)) (k : κ) : Option V := (kvs.find? fun kv => decide (kv.1 = k)).map (·.2)
noncomputable def zbh (kvs : List (κ × V)) (k : κ) (v : V) : List (κ × V) :=
  if (kvs.any fun kv => decide (kv.1 = k)) = true then kvs.map (fun kv => if kv.1 = k then (kv.1, v) else kv) else kvs ++ [(k, v)]
theorem Zr {p : κ × V} {r : List (κ × V)} {k : κ} (e : p.1 = k) : zdv (p :: r) k = some p.2 := by simp [zdv, List.find?_cons, e]
theorem Zk {p : κ × V} {r : List (κ × V)} {k : κ} (e : ¬ p.1 = k) : zdv (p :: r) k = zdv r k := by simp [zdv, List.find?_cons, e]
theorem XU (k : κ) : ∀ kvs : List (κ × V), (kvs.any fun kv => decide (kv.1 = k)) = (zdv kvs k).isSome
  | [] => rfl
  | p :: r => by
    rw [List.any_cons]
    by_cases e : p.1 = k
    · simp only [Zr e, decide_eq_true e, Bool.true_or, Option.isSome_some]
    · rw [Zk e, decide_eq_false e, Bool.false_or]; exact XU k r
theorem ZG (kvs : List (κ × V)) (k : κ) (v : V) : (zbh kvs k v).length ≤ kvs.length + 1 := by
  unfold zbh
  split
  · rw [List.length_map]; omega
  · rw [List.length_append, List.length_cons, List.length_nil]; omega
theorem ziP.isSome_eq {o : Option V} {u : Option Value} (r : ziP o u) : o.isSome = u.isSome := by
  cases o with
  | none => cases u with
    | none => rfl
    | some _ => exact (show False from r).elim
  | some _ => cases u with
    | none => exact (show False from r).elim
    | some _ => rfl
theorem KV.val {kvs : List (κ × V)} {vs : List (κ × Value)} (r : KV kvs vs) (k : κ) : ziP (zdv kvs k) (valueAt vs k) := by
  unfold KV at r
  induction r with
  | nil => exact True.intro
  | @cons p q ps qs h t ih =>
    obtain ⟨h1, h2⟩ := h
    by_cases e : p.1 = k
    · have e' : q.1 = k := h1.symm.trans e
      have b : valueAt (q :: qs) k = some q.2 := by simp [valueAt, List.find?_cons, e']
      rw [Zr e, b]; exact h2
    · have e' : ¬ q.1 = k := fun z => e (h1.trans z)
      have b : valueAt (q :: qs) k = valueAt qs k := by simp [valueAt, List.find?_cons, e']
      rw [Zk e, b]; exact ih
theorem KV.any {kvs : List (κ × V)} {vs : List (κ × Value)} (r : KV kvs vs) (k : κ) : (kvs.any fun kv => decide (kv.1 = k)) = vs.any fun kv => decide (kv.1 = k) := by
  unfold KV at r
  induction r with
  | nil => rfl
  | cons h t ih => rw [List.any_cons, List.any_cons, ih, h.1]
theorem KV.repl {kvs : List (κ × V)} {vs : List (κ × Value)} (r : KV kvs vs) (k : κ) {y : V} {u : Value} (ry : yO y u) :
    KV (kvs.map fun kv => if kv.1 = k then (kv.1, y) else kv) (vs.map fun kv => if kv.1 = k then (kv.1, u) else kv) := by
  unfold KV at r ⊢
  induction r with
  | nil => exact .nil
  | @cons p q ps qs h t ih =>
    rw [List.map_cons, List.map_cons]
    refine .cons ?_ ih
    obtain ⟨h1, h2⟩ := h
    by_cases e : p.1 = k
    · rw [if_pos e, if_pos (h1.symm.trans e)]; exact ⟨h1, ry⟩
    · rw [if_neg e, if_neg (fun z => e (h1.trans z))]; exact ⟨h1, h2⟩
theorem KV.put {kvs : List (κ × V)} {vs : List (κ × Value)} (r : KV kvs vs) (k : κ) {y : V} {u : Value} (ry : yO y u) : KV (zbh kvs k y) (stored vs k u) := by
  unfold zbh stored
  rw [r.any k]
  by_cases e : (vs.any fun kv => decide (kv.1 = k)) = true
  · rw [if_pos e, if_pos e]; exact r.repl k ry
  · rw [if_neg e, if_neg e]; exact Paired.snoc r ⟨rfl, ry⟩
theorem KV.keys {kvs : List (κ × V)} {vs : List (κ × Value)} (r : KV kvs vs) : kvs.map (·.1) = vs.map (·.1) := by
  unfold KV at r
  induction r with
  | nil => rfl
  | cons h t ih => rw [List.map_cons, List.map_cons, ih, h.1]
theorem KV.length {kvs : List (κ × V)} {vs : List (κ × Value)} (r : KV kvs vs) : kvs.length = vs.length := Paired.length r
end
theorem zit {P : Program} {w : World} {k : Key} {u : Value} (r : yO (kV k) u) : (yC P w).is k u = true := by
  cases k with
  | inl i => obtain ⟨t, e⟩ := (show ∃ t, u = Value.int i t from r); subst e; exact zcE P w i t
  | inr x => obtain ⟨t, e⟩ := (show ∃ t, u = Value.str x t from r); subst e; exact zbb P w x t
theorem Wz {P : Program} {w : World} : ∀ {ks : List Key} {us : List Value}, yx (ks.map kV) us → ItemsAre (yC P w) ks us
  | [], _, r => by rw [List.map_nil] at r; cases r; exact .nil
  | k :: ks, _, r => by
    rw [List.map_cons] at r
    cases r with
    | cons h t => exact .cons (zit h) (Wz t)
noncomputable abbrev KT (H : Hp) : List (List Key × V) → List (List Key × Addr × Value) → Prop := Paired fun p q => p.1 = q.1 ∧ H q.2.1 = some (.tup (p.1.map kV)) ∧ yO p.2 q.2.2
theorem KT.val {H : Hp} {kvs : List (List Key × V)} {xs : List (List Key × Addr × Value)} (r : KT H kvs xs) (k : List Key) : ziP (zdv kvs k) ((atKey xs k).map (·.2)) := by
  induction r with
  | nil => exact True.intro
  | @cons p q ps qs h t ih =>
    obtain ⟨h1, _, h2⟩ := h
    by_cases e : p.1 = k
    · have e' : q.1 = k := h1.symm.trans e
      have b : atKey (q :: qs) k = some q.2 := by simp [atKey, List.find?_cons, e']
      rw [Zr e, b]; exact h2
    · have e' : ¬ q.1 = k := fun z => e (h1.trans z)
      have b : atKey (q :: qs) k = atKey qs k := by simp [atKey, List.find?_cons, e']
      rw [Zk e, b]; exact ih
theorem KT.repl {H : Hp} {kvs : List (List Key × V)} {xs : List (List Key × Addr × Value)} (r : KT H kvs xs) (k : List Key) {y : V} {u : Value} (ry : yO y u) :
    KT H (kvs.map fun kv => if kv.1 = k then (kv.1, y) else kv) (xs.map (putAt k u)) := by
  induction r with
  | nil => exact .nil
  | @cons p q ps qs h t ih =>
    rw [List.map_cons, List.map_cons]
    refine .cons ?_ ih
    obtain ⟨h1, h2, h3⟩ := h
    unfold putAt
    by_cases e : p.1 = k
    · rw [if_pos e, if_pos (h1.symm.trans e)]; exact ⟨h1, h2, ry⟩
    · rw [if_neg e, if_neg (fun z => e (h1.trans z))]; exact ⟨h1, h2, h3⟩
theorem KT.put {H : Hp} {kvs : List (List Key × V)} {xs : List (List Key × Addr × Value)} (r : KT H kvs xs) (k : List Key) {b : Addr} {y : V} {u : Value} (hb : H b = some (.tup (k.map kV))) (ry : yO y u) :
    KT H (zbh kvs k y) (storedH xs k b u) := by
  have e : (kvs.any fun kv => decide (kv.1 = k)) = (atKey xs k).isSome := by
    rw [XU, (r.val k).isSome_eq, Option.isSome_map]
  unfold zbh storedH
  rw [e]
  by_cases q : (atKey xs k).isSome = true
  · rw [if_pos q, if_pos q]; exact r.repl k ry
  · rw [if_neg q, if_neg q]; exact Paired.snoc r ⟨rfl, hb, ry⟩
theorem KT.keeps {H H' : Hp} {kvs : List (List Key × V)} {xs : List (List Key × Addr × Value)} (r : KT H kvs xs) (ht : ∀ b ys, H b = some (.tup ys) → H' b = some (.tup ys)) : KT H' kvs xs :=
  Paired.mapP r fun _ _ z => ⟨z.1, ht _ _ z.2.1, z.2.2⟩
section
variable {P : Program} {w : World} {H : Hp} {h : Heap} {a : Addr}
theorem zj8 {u : HO} (ok : HOk P w H h) (e : Rd H a u) : yK P w H h a u := e.ok ok
theorem zjq {kvs : List (Key × V)} (ok : HOk P w H h) (e : Rd H a (.dK kvs)) : kvs.length ≤ sizeLine ∧ (a == sysModules) = false ∧ ∃ vs, KV kvs vs ∧ h.DictOf (yC P w) a vs :=
  show yK P w H h a (.dK kvs) from zj8 ok e
theorem zlJ {kvs : List (Key × V)} (ok : HOk P w H h) (e : H a = some (.dK kvs)) : kvs.length ≤ sizeLine ∧ (a == sysModules) = false ∧ ∃ vs, KV kvs vs ∧ h.DictOf (yC P w) a vs := zjq ok (.inl e)
theorem zdF {ks : List Key} (ok : HOk P w H h) (e : H a = some (.tup (ks.map kV))) : (tupleKind (yC P w)).is h ks a := by
  obtain ⟨_, its, r, o, h1, h2, n, h3⟩ := (show yK P w H h a (.tup (ks.map kV)) from ok a _ e)
  exact ⟨o, its.toArray, n, h1, h2, h3, by simpa using Wz r⟩
theorem zh0 {kvs : List (List Key × V)} (ok : HOk P w H h) (e : Rd H a (.dT kvs)) : kvs.length ≤ sizeLine ∧ (a == sysModules) = false ∧
    ∃ xs, KT H kvs xs ∧ h.DictOfH (tupleKind (yC P w)) a xs := by
  obtain ⟨z, y, xs, r, o, es, ep, h1, h2, h3, h4, h5⟩ := (show yK P w H h a (.dT kvs) from zj8 ok e)
  refine ⟨z, y, xs, r, o, es, ep, h1, h2, h3, h4, fun x hx => ?_, h5⟩
  have all : ∀ {l : List (List Key × V)} {m : List (List Key × Addr × Value)}, KT H l m → ∀ x ∈ m, (tupleKind (yC P w)).is h x.1 x.2.1 := by
    intro l m q
    induction q with
    | nil => intro x hx; exact nomatch hx
    | @cons p q ps qs hq t ih =>
      intro x hx
      rcases List.mem_cons.mp hx with e | hx
      · subst e
        exact zdF ok (by rw [← hq.1]; exact hq.2.1)
      · exact ih x hx
  exact all r x hx
theorem zkX {kvs : List (List Key × V)} (ok : HOk P w H h) (e : H a = some (.dT kvs)) : kvs.length ≤ sizeLine ∧ (a == sysModules) = false ∧
    ∃ xs, KT H kvs xs ∧ h.DictOfH (tupleKind (yC P w)) a xs := zh0 ok (.inl e)
end
noncomputable def zlG (H : Hp) (a : Addr) (y : V) (r : Option V) : Prop :=
  (∃ kvs k, Rd H a (.dK kvs) ∧ y = kV k ∧ r = zdv kvs k) ∨ ∃ kvs k b, Rd H a (.dT kvs) ∧ y = .ref b ∧ H b = some (.tup (k.map kV)) ∧ r = zdv kvs k
noncomputable def zgu (H : Hp) (a : Addr) (y v : V) (H' : Hp) : Prop :=
  (∃ kvs k, H a = some (.dK kvs) ∧ y = kV k ∧ kvs.length < sizeLine ∧ H' = upd H a (.dK (zbh kvs k v))) ∨
  ∃ kvs k b, H a = some (.dT kvs) ∧ y = .ref b ∧ H b = some (.tup (k.map kV)) ∧ kvs.length < sizeLine ∧ H' = upd H a (.dT (zbh kvs k v))
theorem zgu.k {H : Hp} {a : Addr} {kvs : List (Key × V)} {k : Key} {v : V} (e : H a = some (.dK kvs)) (hl : kvs.length < sizeLine) : zgu H a (kV k) v (upd H a (.dK (zbh kvs k v))) := .inl ⟨kvs, k, e, rfl, hl, rfl⟩
theorem zgu.t {H : Hp} {a b : Addr} {kvs : List (List Key × V)} {k : List Key} {v : V} (e : H a = some (.dT kvs)) (eb : H b = some (.tup (k.map kV))) (hl : kvs.length < sizeLine) :
    zgu H a (.ref b) v (upd H a (.dT (zbh kvs k v))) := .inr ⟨kvs, k, b, e, rfl, eb, hl, rfl⟩
section
variable {X : Cx} {pins : List (Addr × Obj)} {σ : St} {H : Hp} {s : Shared} {a : Addr} {y v : V} {u r : Value} {o : Option V} {A : Around} {E : Value → Shared → Prop}
theorem Inv.big (I : Inv X pins σ H s) : sysModules < s.heap.objs.size := by
  have h : mainGlobals < s.heap.objs.size := (I.mod.glob.keeps I.bk).lt
  exact Nat.lt_trans (by decide) h
theorem ziS {Q : Value → Shared → Prop} (hu : A.units + 1 < cLine) (I : Inv X pins σ H s) (g : zlG H a y o) (ry : yO y u) (h : ∀ s', Inv X pins σ H s' → Q (.bool (!o.isSome)) s') :
    wpAny (model X.prog X.w) A (compareOp .NotIn u (.ref a)) Q E s := by
  rcases g with ⟨kvs, k, e, ey, l⟩ | ⟨kvs, k, b, e, ey, eb, l⟩
  · subst ey
    obtain ⟨z, hd, vs, rel, dd⟩ := zjq I.hok e
    refine wpAny_notIn_of (zit ry) hd dd.mapOf ?_
    rw [← (rel.val k).isSome_eq, ← l]
    exact h _ (I.tok _)
  · subst ey
    cases (show u = Value.ref b from ry)
    obtain ⟨z, hd, xs, rel, dd⟩ := zh0 I.hok e
    refine wpAny_notIn_heap (tupleKind_room_in1 hu) (zdF I.hok eb) hd dd ?_
    have q := (rel.val k).isSome_eq
    rw [Option.isSome_map] at q
    rw [← q, ← l]
    exact h _ (I.tok _)
theorem zbo {h' : Heap} {t' : Nat} {ob : HO} (I : Inv X pins σ H s) (mu : Mut (H a)) (hs : Heap.SameBut a s.heap h') (he : ∃ q, h'.get? a = some q) (new : yK X.prog X.w (upd H a ob) h' a ob) :
    Inv X pins σ (upd H a ob) { s with heap := h', toks := t' } :=
  I.write (x := a) (e := a) mu (.inl rfl) (fun b q hb z => (hs.2 b hb).trans z) he new
theorem zkP {P : Program} {w : World} {H' : Hp} {h' : Heap} {kvs : List (Key × V)} {vs : List (Key × Value)} (z : kvs.length ≤ sizeLine) (hd : (a == sysModules) = false) (rel : KV kvs vs) (dd : h'.DictOf (yC P w) a vs) :
    yK P w H' h' a (.dK kvs) := ⟨z, hd, vs, rel, dd⟩
theorem zeN {H' : Hp} {Q : Unit → Shared → Prop} (hu : A.units + 1 < cLine) (I : Inv X pins σ H s) (g : zgu H a y v H') (ry : yO y u) (rv : yO v r) (h : ∀ s', Inv X pins σ H' s' → Q () s') :
    wpAny (model X.prog X.w) A (setItem (.ref a) u r) Q E s := by
  rcases g with ⟨kvs, k, e, ey, l, eH⟩ | ⟨kvs, k, b, e, ey, eb, l, eH⟩
  · subst ey eH
    obtain ⟨z, hd, vs, rel, dd⟩ := zlJ I.hok e
    have hz : vs.length ≤ sizeLine := by rw [← rel.length]; exact z
    have hl : (zbh kvs k v).length ≤ sizeLine := by have := ZG kvs k v; omega
    refine wpAny_setItem_pairs (hsz := hz) (zit ry) dd fun h' dd' hs => h _ ?_
    have he : ∃ q, h'.get? a = some q := let ⟨q, _, _, hq, _⟩ := dd'; ⟨q, hq⟩
    exact zbo I (by rw [e]; exact True.intro) hs he (zkP hl hd (rel.put k rv) dd')
  · subst ey eH
    cases (show u = Value.ref b from ry)
    obtain ⟨z, hd, xs, rel, dd⟩ := zkX I.hok e
    have hz : xs.length ≤ sizeLine := by rw [← Paired.length rel]; exact z
    have hl : (zbh kvs k v).length ≤ sizeLine := by have := ZG kvs k v; omega
    refine wpAny_setItem_heap (hsz := hz) (tupleKind_room_in1 hu) (zdF I.hok eb) dd fun h' dd' hs => h _ ?_
    obtain ⟨q, es, ep, hq, h2, h3, h4, _, h5⟩ := dd'
    refine zbo I (by rw [e]; exact True.intro) hs ⟨q, hq⟩ ⟨hl, hd, _, (rel.put k eb rv).keeps fun c ys ec => ?_, q, es, ep, hq, h2, h3, h4, h5⟩
    rw [zp (ze8 ec e (fun z => nomatch z))]
    exact ec
end
section
variable {X : Cx} {pins : List (Addr × Obj)} {σ : St} {H : Hp} {s : Shared} {a : Addr} {kvs : List (Key × V)} {k : Key} {u : Value} {A : Around} {E : Value → Shared → Prop}
end
noncomputable def zlY (td ty tv : TE) : TS := fun D σ H => tv σ H fun v H1 => td σ H1 fun x H2 => ty σ H2 fun y H3 => ∃ a H4, x = .ref a ∧ zgu H3 a y v H4 ∧ D.nx σ H4
section
variable {X : Cx} {o i e value : Expr} {pos pos' tpos : Pos} {td ty tv : TE}
theorem ziJ (hu : X.A.units + 1 < cLine) (ho : PE X o td) (hi : PE X i ty) (hv : PE X value tv) (hs : swapsWith value (some (.Subscript o i pos')) pos.line X.env = pure false) :
    PS X (.Assign [.Subscript o i pos'] value pos) (zlY td ty tv) := by
  intro pins s σ H D I h
  refine wpAny_Assign_Subscript (thn (hv pins s σ H _ I h) fun r s1 ⟨v, H1, I1, rv, q1⟩ => thn (ho pins s1 σ H1 _ I1 q1) fun u s2 ⟨x, H2, I2, rx, q2⟩ => thn (hi pins s2 σ H2 _ I2 q2) fun iv s3 hh9 => ?_) hs
  obtain ⟨y, H3, I3, ry, a, H4, ex, g, q3⟩ := hh9
  subst ex
  obtain rfl : u = Value.ref a := rx
  exact zeN hu I3 g ry rv fun s4 I4 => ⟨σ, H4, I4, q3⟩
end
theorem zgV {P : Program} {w : World} {H : Hp} (h : Heap) (hb : sysModules < h.objs.size) : yK P w H (h.push { cls := .type "dict", data := .dict #[] }) h.objs.size (.dK []) :=
  ⟨Nat.zero_le _, beq_eq_false_iff_ne.mpr (Ne.symm (Nat.ne_of_lt hb)), [], .nil, Heap.DictOf.new h⟩
theorem zdp {P : Program} {w : World} {H : Hp} (h : Heap) (hb : sysModules < h.objs.size) : yK P w H (h.push { cls := .type "dict", data := .dict #[] }) h.objs.size (.dT []) :=
  ⟨Nat.zero_le _, beq_eq_false_iff_ne.mpr (Ne.symm (Nat.ne_of_lt hb)), [], .nil, _, #[], 0, Heap.get?_push_size _ rfl, ⟨rfl, rfl, rfl⟩, rfl, rfl, List.nodup_nil⟩
noncomputable def zkZ : TE := fun _ H Q => ∀ p, H p = none → Q (.ref p) (upd H p (.dK []))
noncomputable def zjZ : TE := fun _ H Q => ∀ p, H p = none → Q (.ref p) (upd H p (.dT []))
section
variable {X : Cx} {pos : Pos}
theorem zf6 : PE X (.Dict [] [] pos) zkZ := fun pins s σ H Q I h =>
  wpAny_Dict_empty ⟨.ref s.heap.objs.size, _, I.laid (a := s.heap.objs.size) (o := .dK []) (t' := s.toks) (fun _ _ q => Heap.get?_push_of_some _ q) (Nat.le_refl _) (zgV s.heap I.big), rfl, h _ (I.hok.fresh (Nat.le_refl _))⟩
theorem zha : PE X (.Dict [] [] pos) zjZ := fun pins s σ H Q I h =>
  wpAny_Dict_empty ⟨.ref s.heap.objs.size, _, I.laid (a := s.heap.objs.size) (o := .dT []) (t' := s.toks) (fun _ _ q => Heap.get?_push_of_some _ q) (Nat.le_refl _) (zdp s.heap I.big), rfl, h _ (I.hok.fresh (Nat.le_refl _))⟩
end
section
variable {X : Cx} {pins : List (Addr × Obj)} {σ : St} {H : Hp} {s : Shared} {a : Addr} {y d : V} {u r : Value} {o : Option V} {A : Around} {E : Value → Shared → Prop}
end
section
variable {X : Cx} {o e f : Expr} {apos cpos : Pos} {td ty tx : TE}
end
section
variable {X : Cx} {pins : List (Addr × Obj)} {σ : St} {H : Hp} {s : Shared} {a : Addr} {kvs : List (Key × V)} {A : Around} {E : Value → Shared → Prop}
end
section
variable {X : Cx} {pins : List (Addr × Obj)} {σ : St} {H : Hp} {s : Shared} {a : Addr} {y : V} {u : Value} {A : Around} {E : Value → Shared → Prop}
end
end L2
namespace Att
open PySem PySem.W PySem.Calls PyProof.Rows
section
variable {prog : Program} {w : World} {A : Around} {E : Value → Shared → Prop} {s : Shared} {K : Frag}
end
end Att
namespace L2
open PySem PySem.Spec PyProof.Rows
end L2
namespace L2
open PySem PySem.Spec PyProof.Rows
end L2
namespace L2
open PySem PySem.Spec PyProof.Rows
section
variable {P : Program} {w : World} {K : PySem.W.Frag} {mg : Str → Option Value} {base : Heap}
end
section
variable {X : Cx}
end
section
variable {κ : Type} [DecidableEq κ]
end
end L2
namespace L2
open PySem PySem.Spec PyProof.Rows
theorem zbk {X : Cx} : Yu X (.builtin "isinstance") (fun xs H Q => ∃ x n t b, xs = [x, .ty n] ∧ zdD X.K H x t ∧ PySem.W.kitOne X.K t (.type n) = some b ∧ Q (.bl b) H) := by
  intro pins s σ H xs us Q I r h
  obtain ⟨x, n, t, b, rfl, ty, e, q⟩ := h
  obtain ⟨u, w', rfl, rx, rt⟩ := zeg r
  cases (show w' = Value.type n from rt)
  exact zfa I rx ty e fun tk => ⟨.bl b, H, I.tok _, rfl, q⟩
theorem zgX {X : Cx} : OpR X (compareOp .Is) (fun x y H Q => ∃ i j, x = .bl i ∧ y = .bl j ∧ Q (.bl (i == j)) H) := by
  intro pins s σ H x y v u Q I rx ry h
  obtain ⟨i, j, rfl, rfl, q⟩ := h
  cases rx
  cases ry
  refine wpAny_is_plain (by rfl) ⟨.bl (i == j), H, I, ?_, q⟩
  cases i <;> cases j <;> rfl
theorem zc1 {X : Cx} : OpR X (compareOp .IsNot) (fun x y H Q => ∃ i j, x = .bl i ∧ y = .bl j ∧ Q (.bl (!(i == j))) H) := by
  intro pins s σ H x y v u Q I rx ry h
  obtain ⟨i, j, rfl, rfl, q⟩ := h
  cases rx
  cases ry
  refine wpAny_isNot_plain (by rfl) ⟨.bl (!(i == j)), H, I, ?_, q⟩
  cases i <;> cases j <;> rfl
noncomputable def zhq (K : PySem.W.Frag) : R2 := fun x y H Q => ∃ a b xs ys, x = .ref a ∧ y = .ref b ∧ SqT K H a xs ∧ SqT K H b ys ∧ xs.length + ys.length ≤ sizeLine ∧
  (xs = [] → Q (.ref b) H) ∧ (xs ≠ [] → ys = [] → Q (.ref a) H) ∧ (xs ≠ [] → ys ≠ [] → ∀ p, H p = none → Q (.ref p) (upd H p (.tup (xs ++ ys))))
theorem zgW {X : Cx} : OpR X (binaryOp .Add) (zhq X.K) := by
  intro pins s σ H x y v u Q I rx ry h
  obtain ⟨a, b, xs, ys, rfl, rfl, ha, hb, hz, q0, q1, q2⟩ := h
  by_cases hx : xs = []
  · subst hx
    cases rx
    cases ry
    obtain ⟨its, r, p, _⟩ := I.tuple ha
    obtain ⟨its', r', p', _⟩ := I.tuple hb
    cases r
    obtain ⟨⟨cls, dd, data, sl⟩, ho, hc, n, hd⟩ := id p
    obtain ⟨⟨cls2, dd2, data2, sl2⟩, ho2, hc2, n2, hd2⟩ := id p'
    simp only at hc hd hc2 hd2
    subst hc hd hc2 hd2
    exact concat_meets ⟨_, ho, rfl⟩ ⟨_, ho2, rfl⟩ noFill_tuple_add seq_tuple_add PySem.F.slot_tuple_add PySem.F.entry_tuple_add (PySem.F.args_tuple_add_2 _ _)
      (tuple_addW0 a b #[] its'.toArray n n2 dd dd2 sl sl2 rfl) ⟨ho, ho2, ⟨.ref b, H, I, rfl, q0 rfl⟩⟩
  · refine ziA pins s σ H (.ref a) (.ref b) v u Q I rx ry ⟨a, b, xs, ys, rfl, rfl, ha, hb, hx, hz, ?_⟩
    exact ⟨fun e => q1 hx e, fun e => q2 hx e⟩
end L2
namespace L2
open PySem PySem.Spec PyProof.Rows
inductive Zh : St → St → Prop where
  | nil : Zh [] []
  | non {a : Option V} {s t : St} : Zh s t → Zh (none :: s) (a :: t)
  | same {a : Option V} {s t : St} : Zh s t → Zh (a :: s) (a :: t)
theorem Zh.refl : ∀ s : St, Zh s s
  | [] => .nil
  | _ :: r => .same (Zh.refl r)
theorem Zh.length {s t : St} (h : Zh s t) : s.length = t.length := by
  induction h with
  | nil => rfl
  | non _ ih => simp [ih]
  | same _ ih => simp [ih]
theorem Zh.get {s t : St} (h : Zh s t) : ∀ (i : Nat) (v : V), s[i]? = some (some v) → t[i]? = some (some v) := by
  induction h with
  | nil => intro i v e; exact e
  | non _ ih =>
    intro i v e
    cases i with
    | zero => simp at e
    | succ i => simpa using ih i v (by simpa using e)
  | same _ ih =>
    intro i v e
    cases i with
    | zero => simpa using e
    | succ i => simpa using ih i v (by simpa using e)
theorem Zh.set {n : Nat} {v : V} : ∀ {s t : St}, Zh s t → s[n]? = some none → Zh s (t.set n (some v))
  | _, _, .nil, _ => .nil
  | _, _, .non (a := a) h, e => by
    cases n with
    | zero => exact .non h
    | succ n => exact .non (Zh.set h (by simpa using e))
  | _, _, .same (a := a) h, e => by
    cases n with
    | zero =>
      have e' : a = none := by simpa using e
      subst e'
      exact .non h
    | succ n => exact .same (Zh.set h (by simpa using e))
theorem Inv.sub {X : Cx} {pins : List (Addr × Obj)} {σ σ' : St} {H : Hp} {s : Shared} (I : Inv X pins σ H s) (h : Zh σ' σ) : Inv X pins σ' H s := I.weak h.length h.get
noncomputable def PIf (X : Cx) (ifs : List Expr) (t : TT) : Prop :=
  ∀ (pins : List (Addr × Obj)) (s : Shared) (σ : St) (H : Hp) (Q : Bool → Hp → Prop), Inv X pins σ H s → t σ H Q →
    wpAny (model X.prog X.w) X.A (forIn ifs true fun c r => if r = true then do let ok ← isTrue c X.env (eval c X.env); pure (ForInStep.yield ok) else pure (ForInStep.yield r)) (TP X pins σ Q) X.xe s
noncomputable def tYes : TT := fun _ H Q => Q true H
theorem zio {X : Cx} : PIf X [] tYes := by
  intro pins s σ H Q I h
  rw [List.forIn_nil]
  exact wpAny_pure ⟨H, I, h⟩
theorem ziu {X : Cx} {c : Expr} {t : TT} (hc : PT X c t) : PIf X [c] t := by
  intro pins s σ H Q I h
  rw [List.forIn_cons]
  refine wpAny_bind ?_
  rw [if_pos rfl]
  refine wpAny_bind (thn (hc pins s σ H Q I h) fun b s1 q => wpAny_pure ?_)
  show wpAny _ _ (forIn [] b _) _ _ _
  rw [List.forIn_nil]
  exact wpAny_pure q
section
variable {prog : Program} {w : World} {A : Around} {R : Result → Shared → Prop} {s : Shared}
theorem vF {elt target iter : Expr} {ifs : List Expr} {scope : Scope} {pos : Pos} {it acc : Value} {env : Env} (I : Nat → Shared → Prop)
    (turn : ∀ n s, I n s → wpAny (model prog w) A (pyNext it) (fun r s₁ => match r with
      | none => R (.ok .next) s₁
      | some v => wpAny (model prog w) A (letOwnedTupleGo target it v) (fun _ s₁' => wpAny (model prog w) A (assign target env v) (fun _ s₂ =>
          wpAny (model prog w) A (forIn ifs true fun c r => if r = true then do let ok ← isTrue c env (eval c env); pure (ForInStep.yield ok) else pure (ForInStep.yield r)) (fun ok s₃ =>
            if ok = true then wpAny (model prog w) A (eval elt env) (fun x s₄ =>
              wpAny (model prog w) A (call (.builtin "list.append") [acc, x]) (fun _ s₅ => ∃ m, m < n ∧ I m s₅) (fun _ _ => False) s₄) (fun _ _ => False) s₃
            else ∃ m, m < n ∧ I m s₃) (fun _ _ => False) s₂) (fun _ _ => False) s₁') (fun _ _ => False) s₁) (fun _ _ => False) s)
    (n : Nat) (h : I n s) :
    codeAny (model prog w) A (.compLoop (.ListComp elt [⟨target, iter, ifs, 0⟩] scope pos) 0 it acc env) R s := by
  refine codeAny_loop rfl I (fun n s hI => ?_) n h
  show wpAny _ A ((compTurn (.ListComp elt [⟨target, iter, ifs, 0⟩] scope pos) 0 it acc env).onRaise (fun x => do noteFrame x env; theTreesLotGoes x)) _ _ s
  refine wpAny_noted ?_
  rw [compTurn_list]
  refine wpAny_bind (wpAny_standAt (wpAny_bind (wpAny_mono (turn n s hI) (fun r s₁ h₁ => ?_) fun _ _ h' => h'.elim)))
  cases r with
  | none => exact wpAny_pure h₁
  | some v =>
    refine wpAny_bind (wpAny_mono h₁ (fun _ s₁' h₁' => ?_) fun _ _ h' => h'.elim)
    refine wpAny_bind (wpAny_mono h₁' (fun _ s₂ h₂ => wpAny_bind (wpAny_mono h₂ (fun ok s₃ h₃ => ?_) fun _ _ h' => h'.elim)) fun _ _ h' => h'.elim)
    cases ok with
    | false => exact wpAny_pure ⟨rfl, h₃⟩
    | true =>
      exact wpAny_bind (wpAny_bind (wpAny_mono h₃ (fun x s₄ h₄ => wpAny_bind (wpAny_mono h₄ (fun _ s₅ h₅ => wpAny_pure (wpAny_pure ⟨rfl, h₅⟩)) fun _ _ h' => h'.elim)) fun _ _ h' => h'.elim))
end
noncomputable def tLC (wi : TI) (n : Nat) (g : TG) (tt : TT) (te : TE) : TE := fun σ H Q => wi σ H fun J H1 => ∀ D, H1 D = none → ∃ W : Nat → Nat → List V → Hp → Prop, (∃ m, W 0 m [] (upd H1 D (.lst []))) ∧
  ∀ i m ys H2, W i m ys H2 → (J.stop i H2 ∧ Q (.ref D) H2) ∨ (J.go i H2 ∧ ys.length < sizeLine ∧ ∀ x H3, J.yld i H2 x H3 → g x (List.replicate n none ++ σ) H3 fun σ2 H4 => tt σ2 H4 fun b H5 =>
    if b = true then te σ2 H5 fun y H6 => H6 D = some (.lst ys) ∧ ∃ m', m' < m ∧ W (i + 1) m' (ys ++ [y]) (upd H6 D (.lst (ys ++ [y]))) else ∃ m', m' < m ∧ W (i + 1) m' ys H5)
theorem vJ {α : Type} : ∀ {l : List (Str × α)} {y : Str}, y ∈ l.map Prod.fst → ∃ c, l.lookup y = some c
  | [], _, h => by simp at h
  | (k, v) :: r, y, h => by
    by_cases e : y = k
    · exact ⟨v, by simp [List.lookup, e]⟩
    · obtain ⟨c, hc⟩ := vJ (l := r) (y := y) (by simpa [e] using h)
      have hb : (y == k) = false := beq_eq_false_iff_ne.mpr e
      exact ⟨c, by simp only [List.lookup, hb]; exact hc⟩
theorem xW {α : Type} {P : α → Prop} : ∀ p ∈ ([] : List α), P p := fun _ h => nomatch h
theorem all_cons {α : Type} {P : α → Prop} {a : α} {l : List α} (h : P a) (t : ∀ p ∈ l, P p) : ∀ p ∈ a :: l, P p := fun p hp => by
  rcases List.mem_cons.mp hp with e | hp
  · rw [e]; exact h
  · exact t p hp
theorem gs1 (σ : St) (v : V) (H : Hp) (Q : St → Hp → Prop) (h : Yn 0 v (List.replicate 1 none ++ σ) H Q) : Yn 0 v (List.replicate 1 none ++ σ) H (fun σ2 H2 => Zh (List.replicate 1 none ++ σ) σ2 ∧ Q σ2 H2) := ⟨.set (.refl _) rfl, h⟩
theorem gs2 {K : PySem.W.Frag} (σ : St) (v : V) (H : Hp) (Q : St → Hp → Prop) (h : zk6 K 2 (zbj (Yn 0) (zbj (Yn 1) zk9)) v (List.replicate 2 none ++ σ) H Q) :
    zk6 K 2 (zbj (Yn 0) (zbj (Yn 1) zk9)) v (List.replicate 2 none ++ σ) H (fun σ2 H2 => Zh (List.replicate 2 none ++ σ) σ2 ∧ Q σ2 H2) := by
  obtain ⟨a, xs, e, hq, hl, x, r, e1, y, r2, e2, e3, q⟩ := h
  exact ⟨a, xs, e, hq, hl, x, r, e1, y, r2, e2, e3, .set (.set (.refl _) rfl) rfl, q⟩
end L2
namespace L2
open PySem PySem.Spec PyProof.Rows
noncomputable def zel (X : Cx) (L M : List Str) (scope : Scope) (cl : List (Str × Addr)) (s₀ : Shared) (H₀ : Hp) (ex : List Addr) (pn : List (Addr × Obj)) : Cx :=
  { X with N := L ++ M, s₀ := s₀, H₀ := H₀, env := compEnvC scope cl s₀.heap.objs.size X.env, outer := X.stack, stack := X.stack, ex := ex, fn := fun _ => false, pn := pn, xe := fun _ _ => False }
structure wj (X : Cx) (L M : List Str) (scope : Scope) (cl : List (Str × Addr)) : Prop where
  clos : closureFor scope X.env = pure cl
  cell : ∀ y ∈ scope.names, y.2 ≠ .cell
  kind : scope.kind = .function
  names : ∀ y ∈ scope.names, y.2 = .local → scope.names.lookup y.1 = some .local
  sub : ∀ y c, cl.lookup y = some c → X.env.cells.lookup y = some c
  has : ∀ y, ((relabel scope X.env).names.lookup y = some .cell ∨ (relabel scope X.env).names.lookup y = some .free) → ∃ c, cl.lookup y = some c
  mlen : M.length = X.N.length
  msk : ∀ (i : Nat) y, M[i]? = some y → Vis (relabel scope X.env) y → X.N[i]? = some y
  vis : ∀ (i : Nat) y, M[i]? = some y → Vis (relabel scope X.env) y → ((relabel scope X.env).names.lookup y = some .cell ∨ (relabel scope X.env).names.lookup y = some .free)
  out : ∀ (i : Nat) y, M[i]? = some y → Vis (relabel scope X.env) y → Vis X.env.scope y ∧ X.env.kindOf y ≠ some .local
theorem Inv.letGo {X : Cx} {pins : List (Addr × Obj)} {σ : St} {H : Hp} {s : Shared} {C : Addr} {h' : Heap} (I : Inv X pins σ H s) (f : zdd X pins H C) (sb : Heap.SameBut C s.heap h') : Inv X pins σ H { s with heap := h' } := by
  obtain ⟨f0, f1, f2, f3, f4, f5⟩ := f
  have ne : ∀ b, b ∉ [C] → b ≠ C := fun b hb z => hb (by rw [z]; exact List.mem_singleton.mpr rfl)
  refine I.call' (s' := { s with heap := h' }) (ch := [C]) rfl ⟨fun b o e _ _ hx => (sb.2 b (ne b hx)).trans e, fun b o e _ _ hx => ⟨o.slots, (sb.2 b (ne b hx)).trans e⟩, fun _ _ _ n _ => n, fun b o e hx => ⟨o, (sb.2 b (ne b hx)).trans e⟩, fun _ _ q => q, fun _ _ _ q => q, fun _ ps q => ⟨#[], by rw [q]; simp⟩⟩ ?_ I.bare fun b hb => ?_
  · intro b ob e
    refine (I.hok b ob e).stay (fun c v hc q => (sb.2 c ?_).trans q) (fun _ q => q) fun _ _ q => q
    rintro rfl
    rcases hc with z | z
    · rw [← z, f0] at e; cases e
    · rw [f0] at z; cases z
  · rw [List.mem_singleton.mp hb]
    exact ⟨f3, f1, f4, f5⟩
theorem zig {use : Option (Value → Sem Unit)} {Qf : Value → Shared → Prop} {X : Cx} {elt tg iter : Expr} {ifs : List Expr} {L M : List Str} {scope : Scope} {cl : List (Str × Addr)} {pos : Pos} {wi : TI} {g : TG} {tt : TT} {te : TE}
    (hc : X.calm = true) (S : wj X L M scope cl) (hi : PI X tg iter wi)
    (hgS : ∀ (σ : St) (v : V) (H : Hp) (Q : St → Hp → Prop), g v (List.replicate L.length none ++ σ) H Q → g v (List.replicate L.length none ++ σ) H (fun σ2 H2 => Zh (List.replicate L.length none ++ σ) σ2 ∧ Q σ2 H2))
    (hg : ∀ s₀ H₀ ex pn, PG (zel X L M scope cl s₀ H₀ ex pn) tg g) (ht : ∀ s₀ H₀ ex pn, PIf (zel X L M scope cl s₀ H₀ ex pn) ifs tt) (he : ∀ s₀ H₀ ex pn, PE (zel X L M scope cl s₀ H₀ ex pn) elt te)
    (hs : ∀ x, foldedSetIterable iter X.env x = pure x := by intro _; rfl) :
    ∀ (pos' : Pos) (pins : List (Addr × Obj)) (s : Shared) (σ : St) (H : Hp) (Q : VK), Inv X pins σ H s → tLC wi L.length g tt te σ H Q →
      (∀ (D C : Addr) (H' : Hp) (s' : Shared), Inv X pins σ H' s' → (∃ m, s'.heap.Ns C m) → zdd X pins H' C → Q (.ref D) H' → compPost (model X.prog X.w) X.A X.xe use Qf (.ref D) C (.ok .next) s') →
      wpAny (model X.prog X.w) X.A (comprehension (.ListComp elt [⟨tg, iter, ifs, 0⟩] scope pos) scope X.env pos' (newList []) false (eval iter X.env) use) Qf X.xe s := by
  intro pos' pins s σ H Q I h fin
  refine wpAny_comprehension_free (use := use) rfl hs S.clos S.kind S.names (thn (hi pins s σ H _ I h) fun v s1 h1 => thn h1 fun itv s2 h2 => ?_)
  obtain ⟨it, fp, tn, J, H2, e, I2, T, st2, f2, q⟩ := h2
  subst e
  have hD : H2 s2.heap.objs.size = none := I2.hok.fresh (Nat.le_refl _)
  obtain ⟨W, ⟨m0, w0⟩, turn⟩ := q _ hD
  refine wpAny_newObj_type (wpAny_newFunctionEnv S.cell (by intro y hy; simp at hy) (fun h₁ hns₁ hsb₁ => ?_) S.kind)
  have I3 : Inv X pins σ (upd H2 s2.heap.objs.size (.lst [])) { s2 with heap := s2.heap.push { cls := .type "list", data := .seq ([] : List Value).toArray } } := by
    refine I2.laid (t' := s2.toks) (fun b u e => Heap.get?_push_of_some _ e) (Nat.le_refl _) ?_
    exact ⟨Nat.zero_le _, [], 0, .nil, Heap.get?_push_size _ rfl⟩
  generalize hs3 : ({ s2 with heap := s2.heap.push { cls := .type "list", data := .seq ([] : List Value).toArray } } : Shared) = s3 at I3 hns₁ hsb₁ ⊢
  have hobj : ∀ b ∈ fp, b < s2.heap.objs.size := fun b hb => by
    obtain ⟨o, ho, _⟩ := T.obj _ _ st2 b hb
    exact Heap.lt_size ho
  have hz3 : s3.heap.objs.size = s2.heap.objs.size + 1 := by rw [← hs3]; exact Heap.size_push ..
  have k23 : ∀ b o, s2.heap.get? b = some o → s3.heap.get? b = some o := fun b o e => by rw [← hs3]; exact Heap.get?_push_of_some _ e
  have k34 : ∀ b o, s3.heap.get? b = some o → h₁.get? b = some o := fun b o e => (hsb₁.2 b (Nat.ne_of_lt (Heap.lt_size e))).trans (Heap.get?_push_of_some _ e)
  generalize hH3 : upd H2 s2.heap.objs.size (.lst []) = H3 at I3 w0
  have hfp3 : ∀ b ∈ fp, H3 b = none := fun b hb => by
    rw [← hH3, zp (Nat.ne_of_lt (hobj b hb))]
    exact (f2 b hb).1
  have nfs : ∀ b ∈ fp, b ∉ frs X.stack := fun b hb z => by
    obtain ⟨_, n1, n2, _⟩ := f2 b hb
    rcases List.mem_cons.mp (I3.stkSub b z) with e | e
    · exact n1 e
    · exact n2 e
  let Y : Cx := zel X L M scope cl s3 H3 fp (X.pn ++ pins)
  have OkY : Y.Ok := by
    refine ⟨I.ok.mod, S.kind, I.ok.glob, I.ok.blt, Nat.le_refl _, fun x y c h1 h2 => I.ok.inj x y c (S.sub x c h1) (S.sub y c h2), fun x hx => S.has x hx, (fun x c h _ => absurd h Bool.false_ne_true), I.ok.hd, I.ok.frames, .inl rfl, fun b hb => ⟨?_, fun x c e z => ?_⟩,
      fun b o e => I3.bs b o e, Nat.le_trans I.ok.bsz I3.sz, fun b o e hb => ?_, nfs, I3.stack, I3.stkFree⟩
    · show b ≠ s3.heap.objs.size
      exact Nat.ne_of_lt (Nat.lt_of_lt_of_le (hobj b hb) (by rw [hz3]; exact Nat.le_succ _))
    · exact (f2 b hb).2.2.2.2.1 x c (S.sub x c e) z
    · rcases (f2 b hb).2.2.2.1 with z | z
      · exact I.ok.noex b o e z
      · have h1 := Heap.lt_size e
        have h2 := I.ok.bsz
        exact absurd (Nat.lt_of_lt_of_le h1 (Nat.le_trans h2 z)) (Nat.lt_irrefl _)
  have I4 : Inv Y [] (List.replicate L.length none ++ σ) H3 { s3 with heap := h₁, toks := s3.toks + ([] : List (Str × Value)).length } := by
    refine ⟨OkY, rfl, I3.bare, Un.kept k34, ⟨_, hns₁, fun i y v e1 e2 e3 => ?_⟩, fun x c e => ?_, I3.hok.fresh (Nat.le_refl _), fun x c e => I3.freeC x c (S.sub x c e), fun p hp => ?_, I3.hok.kept k34, ?_⟩
    · have hi : ¬ i < L.length := fun hlt => by
        rw [List.getElem?_append_left (by simpa using hlt), List.getElem?_replicate] at e2
        split at e2 <;> cases e2
      have e0' : M[i - L.length]? = some y := by
        have e1 : (L ++ M)[i]? = some y := e1
        rw [List.getElem?_append_right (by omega)] at e1
        exact e1
      have e2' : σ[i - L.length]? = some (some v) := by rw [List.getElem?_append_right (by simpa using Nat.le_of_not_lt hi)] at e2; simpa using e2
      have e1' := S.msk _ y e0' e3
      obtain ⟨ov, ok⟩ := S.out _ y e0' e3
      obtain ⟨m, hn, hl⟩ := I3.loc
      obtain ⟨u, ru, lk⟩ := hl _ y v e1' e2' ov
      refine ⟨u, ru, ?_⟩
      rcases lk with ⟨hk, _⟩ | ⟨_, c, hc', hcell⟩
      · exact absurd hk ok
      · have kn := S.vis _ y e0' e3
        obtain ⟨c', hc2⟩ := S.has y kn
        have := S.sub y c' hc2
        rw [hc'] at this
        cases this
        refine .inr ⟨kn, c, hc2, ?_⟩
        obtain ⟨o, ho, hd⟩ := hcell
        exact ⟨o, k34 _ _ ho, hd⟩
    · obtain ⟨v, o, ho, hd⟩ := I3.cell x c (S.sub x c e)
      exact ⟨v, o, k34 _ _ ho, hd⟩
    · have hp' : p ∈ X.pn ++ pins := List.append_nil (X.pn ++ pins) ▸ hp
      obtain ⟨a1, a2, a3, a4, a5⟩ := I3.pin p hp'
      refine ⟨k34 _ _ a1, a2, Nat.ne_of_lt (Heap.lt_size a1), fun z => ?_, a5⟩
      rcases List.mem_cons.mp (I3.stkSub p.1 z) with e | e
      · exact a3 e
      · exact a4 e
    · show (List.replicate L.length none ++ σ).length = (L ++ M).length
      rw [List.length_append, List.length_append, List.length_replicate, I.len, S.mlen]
  have fpY : ∀ {H' : Hp}, (∀ b ∈ fp, H' b = none) → ∀ b ∈ fp, zdd Y [] H' b := fun {H'} hn b hb => by
    refine ⟨hn b hb, (OkY.exf b hb).1, nfs b hb, .inl hb, (OkY.exf b hb).2, fun p hp => ?_⟩
    have hp' : p ∈ X.pn ++ pins := List.append_nil (X.pn ++ pins) ▸ hp
    exact (f2 b hb).2.2.2.2.2 p hp'
  have st4 : tn 0 h₁ := T.keep _ _ _ st2 fun b hb o e => k34 b o (k23 b o e)
  -- behind the loop
  have back : ∀ (H' : Hp) (s' : Shared), Inv Y [] (List.replicate L.length none ++ σ) H' s' → Q (.ref s2.heap.objs.size) H' → compPost (model X.prog X.w) X.A X.xe use Qf (.ref s2.heap.objs.size) s3.heap.objs.size (.ok .next) s' := fun H' s' J' q' => by
    obtain ⟨m, hn, _⟩ := J'.loc
    refine fin _ _ H' s' (I3.call' (ch := fp) J'.os J'.base J'.hok J'.bare fun b hb => ?_) ⟨m, hn⟩ (I3.fpOk (Nat.le_refl _) J'.free) q'
    obtain ⟨_, n1, _, n3, n4, n5⟩ := f2 b hb
    exact ⟨n3, n1, n4, n5⟩
  have loop : codeAny (model X.prog X.w) X.A (.compLoop (.ListComp elt [⟨tg, iter, ifs, 0⟩] scope pos) 0 (.ref it) (.ref s2.heap.objs.size) (compEnvC scope cl s3.heap.objs.size X.env))
      (compPost (model X.prog X.w) X.A X.xe use Qf (.ref s2.heap.objs.size) s3.heap.objs.size) { s3 with heap := h₁, toks := s3.toks + ([] : List (Str × Value)).length } := by
    refine vF (fun n s' => ∃ i ys H', Inv Y [] (List.replicate L.length none ++ σ) H' s' ∧ tn i s'.heap ∧ (∀ b ∈ fp, H' b = none) ∧ W i n ys H') ?_ m0 ⟨0, [], H3, I4, st4, hfp3, w0⟩
    rintro n s5 ⟨i, ys, H5, I5, st5, fr5, w5⟩
    rcases turn i n ys H5 w5 with ⟨stop, qn⟩ | ⟨go, hlen, step⟩
    · refine thn (T.done Y rfl rfl rfl hc i [] s5 _ H5 _ I5 (fpY fr5) st5 stop) fun r s6 hh9 => ?_
      obtain ⟨hr, I6⟩ := hh9
      subst hr
      exact back H5 s6 I6 qn
    · refine thn (T.item Y rfl rfl rfl hc i [] s5 _ H5 _ I5 (fpY fr5) st5 go) fun r s6 hh9 => ?_
      obtain ⟨u, hr, h6⟩ := hh9
      subst hr
      refine thn h6 fun _ s7 hh9 => ?_
      obtain ⟨x, H7, I7, r7, y7, st7, fr7⟩ := hh9
      have I7' := I7.pinned (fpY fr7) (T.obj _ _ st7)
      have g7 := hgS σ x H7 _ (step x H7 y7)
      refine thn (hg _ _ _ _ _ s7 _ H7 x u _ I7' r7 g7) fun _ s8 hh9 => ?_
      obtain ⟨σ8, H8, I8, sub8, q8⟩ := hh9
      have again : ∀ {σ9 : St} {H9 : Hp} {s9 : Shared} {zs : List V}, Inv Y ([] ++ Xf fp s7.heap) σ9 H9 s9 → Zh (List.replicate L.length none ++ σ) σ9 → (∃ m', m' < n ∧ W (i + 1) m' zs H9) →
          ∃ m, m < n ∧ ∃ i ys H', Inv Y [] (List.replicate L.length none ++ σ) H' s9 ∧ tn i s9.heap ∧ (∀ b ∈ fp, H' b = none) ∧ W i m ys H' := fun {σ9 H9 s9 zs} I9 sub9 w9 => by
        obtain ⟨m', hm, w9⟩ := w9
        refine ⟨m', hm, i + 1, zs, H9, (I9.sub sub9).unpinned, T.keep _ _ _ st7 fun b hb o e => (I9.pin (b, o) (List.mem_append_right _ (List.mem_append_right _ (vz hb e)))).1, fun b hb => ?_, w9⟩
        obtain ⟨o, e, d⟩ := T.obj _ _ st7 b hb
        exact (I9.pin (b, o) (List.mem_append_right _ (List.mem_append_right _ (vz hb e)))).2.1
      refine thn (ht _ _ _ _ _ s8 σ8 H8 _ I8 q8) fun b s9 hh9 => ?_
      obtain ⟨H9, I9, q9⟩ := hh9
      cases b with
      | false =>
        rw [if_neg Bool.false_ne_true] at q9
        rw [if_neg Bool.false_ne_true]
        exact again I9 sub8 q9
      | true =>
        rw [if_pos rfl] at q9
        rw [if_pos rfl]
        refine thn (he _ _ _ _ _ s9 σ8 H9 _ I9 q9) fun y s10 hh9 => ?_
        obtain ⟨yv, H10, I10, r10, hD10, w10⟩ := hh9
        obtain ⟨z10, its, k, rv, e10⟩ : ys.length ≤ sizeLine ∧ ∃ (its : List Value) (n : Nat), yx ys its ∧ s10.heap.get? s2.heap.objs.size = some { cls := .type "list", data := .seq its.toArray n } := I10.hok _ _ hD10
        have hl10 : s10.heap.PlainList s2.heap.objs.size its.toArray := ⟨k, e10⟩
        refine wpAny_list_append_plain (hsz := by rw [List.size_toArray, ← rv.length]; exact z10) hl10 fun h11 hl11 sb11 => ?_
        obtain ⟨k', e11⟩ := hl11
        have I11 : Inv Y ([] ++ Xf fp s7.heap) σ8 (upd H10 s2.heap.objs.size (.lst (ys ++ [yv]))) { s10 with heap := h11 } := by
          refine I10.write (x := s2.heap.objs.size) (e := s2.heap.objs.size) (t' := s10.toks) (by rw [hD10]; exact True.intro) (.inl rfl) (fun b u hb e => (sb11.2 b hb).trans e) ⟨_, e11⟩ ?_
          refine ⟨by rw [List.length_append]; show ys.length + 1 ≤ sizeLine; exact hlen, its ++ [y], k', rv.append (.cons r10 .nil), ?_⟩
          rw [e11]
          simp
        exact again I11 sub8 w10
  exact codeAny_compStart_list loop (T.self _ 0 _ _ _ st4 loop)
theorem zhF {X : Cx} {elt tg iter : Expr} {ifs : List Expr} {L M : List Str} {scope : Scope} {cl : List (Str × Addr)} {pos : Pos} {wi : TI} {g : TG} {tt : TT} {te : TE}
    (hc : X.calm = true) (S : wj X L M scope cl) (hi : PI X tg iter wi)
    (hgS : ∀ (σ : St) (v : V) (H : Hp) (Q : St → Hp → Prop), g v (List.replicate L.length none ++ σ) H Q → g v (List.replicate L.length none ++ σ) H (fun σ2 H2 => Zh (List.replicate L.length none ++ σ) σ2 ∧ Q σ2 H2))
    (hg : ∀ s₀ H₀ ex pn, PG (zel X L M scope cl s₀ H₀ ex pn) tg g) (ht : ∀ s₀ H₀ ex pn, PIf (zel X L M scope cl s₀ H₀ ex pn) ifs tt) (he : ∀ s₀ H₀ ex pn, PE (zel X L M scope cl s₀ H₀ ex pn) elt te)
    (hs : ∀ x, foldedSetIterable iter X.env x = pure x := by intro _; rfl) :
    PE X (.ListComp elt [⟨tg, iter, ifs, 0⟩] scope pos) (tLC wi L.length g tt te) := by
  intro pins s σ H Q I h
  rw [eval_ListComp]
  refine zig hc S hi hgS hg ht he hs _ pins s σ H Q I h fun D C H' s' I' ⟨m, hn⟩ f q => ⟨m, hn, fun h' sb => ⟨.ref D, _, I'.letGo f sb, rfl, q⟩⟩
noncomputable def Xi (names rn dn : List (Str × NameKind)) (N M cn : List Str) : Bool :=
  names.all (fun y => decide (y.2 ≠ .cell)) && names.all (fun y => decide (y.2 = .local → names.lookup y.1 = some .local)) &&
  rn.all (fun y => decide ((y.2 = .cell ∨ y.2 = .free) → y.1 ∈ cn)) &&
  (M.length == N.length) && (M.zip N).all (fun p => decide ((rn.lookup p.1 = some .local ∨ rn.lookup p.1 = some .cell ∨ rn.lookup p.1 = some .free) → p.1 = p.2)) &&
  M.all (fun y => decide ((rn.lookup y = some .local ∨ rn.lookup y = some .cell ∨ rn.lookup y = some .free) →
    (rn.lookup y = some .cell ∨ rn.lookup y = some .free) ∧ (dn.lookup y = some .local ∨ dn.lookup y = some .cell ∨ dn.lookup y = some .free) ∧ dn.lookup y ≠ some .local))
theorem w8 {X : Cx} {L N M cn : List Str} {scope : Scope} {cl : List (Str × Addr)} {rn dn : List (Str × NameKind)} (hr : (relabel scope X.env).names = rn) (hd : X.env.scope.names = dn) (hN : X.N = N)
    (clos : closureFor scope X.env = pure cl) (kind : scope.kind = .function) (hc : cl.map Prod.fst = cn) (good : Xi scope.names rn dn N M cn = true) (sub : ∀ p ∈ cl, X.env.cells.lookup p.1 = some p.2) : wj X L M scope cl := by
  unfold Xi at good
  simp only [Bool.and_eq_true, List.all_eq_true, decide_eq_true_eq] at good
  obtain ⟨⟨⟨⟨⟨g1, g2⟩, g3⟩, g5⟩, g6⟩, g4⟩ := good
  have g5 : M.length = N.length := by simpa using g5
  refine ⟨clos, g1, kind, g2, fun y c h => sub (y, c) (PySem.mem_of_lookup h), fun y h => ?_, by rw [hN]; exact g5, fun i y e v => ?_, fun i y e v => ?_, fun i y e v => ?_⟩
  · rw [hr] at h
    have hy : y ∈ cn := by
      rcases h with h | h
      · exact g3 _ (PySem.mem_of_lookup h) (.inl rfl)
      · exact g3 _ (PySem.mem_of_lookup h) (.inr rfl)
    exact vJ (by rw [hc]; exact hy)
  · unfold Vis at v
    rw [hr] at v
    have hi := (List.getElem?_eq_some_iff.mp e).1
    have hj : i < N.length := by rw [← g5]; exact hi
    have hz : (M.zip N)[i]? = some (y, N[i]) := by
      rw [List.getElem?_zip_eq_some]
      exact ⟨e, List.getElem?_eq_getElem hj⟩
    have := g6 _ (List.mem_of_getElem? hz) v
    rw [hN, List.getElem?_eq_getElem hj]
    exact congrArg some this.symm
  · unfold Vis at v
    rw [hr] at v ⊢
    exact (g4 y (List.mem_of_getElem? e) v).1
  · unfold Vis at v
    rw [hr] at v
    obtain ⟨_, k1, k2⟩ := g4 y (List.mem_of_getElem? e) v
    refine ⟨?_, ?_⟩
    · unfold Vis; rw [hd]; exact k1
    · show X.env.scope.names.lookup y ≠ _; rw [hd]; exact k2
end L2
namespace PySem
open Sem (wp)
open AutoSeq1 (wpAny_loadPart')
section
variable {prog : Program} {w : World} {A : Around} {E : Value → Shared → Prop} {s : Shared}
theorem vg {it l : Addr} {i : Nat} {items} {x : Value} {Q : Value → Shared → Prop} (hit : s.heap.IsTupleIter it l i)
    (hl : s.heap.IsTuple l items) (hx : items[i]? = some x)
    (hQ : ∀ h', h'.IsTupleIter it l (i + 1) → Heap.SameBut it s.heap h' → Q x { s with heap := h' }) :
    wpAny (model prog w) A (Builtin.SmallTypes.nextOf (.ref it)) Q E s := by
  obtain ⟨o, ho, hc, hd⟩ := id hit
  obtain ⟨ol, hol, _, nl, hdl⟩ := hl
  unfold Builtin.SmallTypes.nextOf
  refine wpAny_bind (wpAny_callSpecial?_slot (name := Str.ofString "__next__") hit.typeIs F.slot_tuple_iterator_next
    (wpAny_call_entry F.slot_tuple_iterator_next hit.typeIs F.entry_tuple_iterator_next ?_ (F.args_tuple_iterator_next_1 _)))
  show wpAny _ _ (field (.ref it) 0 >>= _) _ _ s
  refine wpAny_bind (wpAny_field ho hd (x := .ref l) rfl ?_)
  show wpAny _ _ (if (Value.ref l == Value.none) = true then _ else _) _ _ s
  rw [if_neg (show ¬ ((Value.ref l == Value.none) = true) from Bool.false_ne_true)]
  show wpAny _ _ (field (.ref it) 1 >>= _) _ _ s
  refine wpAny_bind (wpAny_field ho hd (x := .int i 0) rfl ?_)
  show wpAny _ _ (seqItems? (.ref l) >>= _) _ _ s
  refine wpAny_bind (wpAny_seqItems hol hdl ?_)
  simp only [Int.toNat_natCast, hx]
  refine wpAny_bind (wpAny_setField ho hd (by simp) (wpAny_pure ⟨x, rfl, wpAny_pure (hQ _ ?_ (Heap.SameBut.update ..))⟩))
  exact ⟨_, Heap.get?_update_self _ ho (Obj.isFreed_of_fields (Obj.data_mapFields hd _)), (Obj.cls_mapFields ..).trans hc, by
    rw [Obj.data_mapFields hd]; simp [rawInt]⟩
theorem xM {it l : Addr} {i : Nat} {items} {Q : Value → Shared → Prop} (hh : A.handled = none)
    (hit : s.heap.IsTupleIter it l i) (hl : s.heap.IsTuple l items) (hx : items[i]? = none)
    (hE : ∀ h' e, Heap.ExtBut it s.heap h' → (∃ o, h'.get? e = some o ∧ o.cls = .type "StopIteration") → E (.ref e) { s with heap := h' }) :
    wpAny (model prog w) A (Builtin.SmallTypes.nextOf (.ref it)) Q E s := by
  obtain ⟨o, ho, hc, hd⟩ := id hit
  obtain ⟨ol, hol, _, nl, hdl⟩ := hl
  unfold Builtin.SmallTypes.nextOf
  refine wpAny_bind (wpAny_callSpecial?_slot (name := Str.ofString "__next__") hit.typeIs F.slot_tuple_iterator_next
    (wpAny_call_entry F.slot_tuple_iterator_next hit.typeIs F.entry_tuple_iterator_next ?_ (F.args_tuple_iterator_next_1 _)))
  show wpAny _ _ (field (.ref it) 0 >>= _) _ _ s
  refine wpAny_bind (wpAny_field ho hd (x := .ref l) rfl ?_)
  show wpAny _ _ (if (Value.ref l == Value.none) = true then _ else _) _ _ s
  rw [if_neg (show ¬ ((Value.ref l == Value.none) = true) from Bool.false_ne_true)]
  show wpAny _ _ (field (.ref it) 1 >>= _) _ _ s
  refine wpAny_bind (wpAny_field ho hd (x := .int i 0) rfl ?_)
  show wpAny _ _ (seqItems? (.ref l) >>= _) _ _ s
  refine wpAny_bind (wpAny_seqItems hol hdl ?_)
  simp only [Int.toNat_natCast, hx]
  refine wpAny_bind (wpAny_rule (wpAny_bind (wpAny_setField ho hd (by simp) ?_)))
  show wpAny _ _ (newExc (.type "StopIteration") [] >>= _) _ _ _
  refine wpAny_bind ?_
  simp only [newExc, newTuple]
  refine wpAny_bind (wpAny_newObj_type ?_ (by size_fits))
  refine wpAny_bind (m := firstArgMember _ _) (wpAny_of_eq (a := Value.none) (by first | rfl | (simp only [firstArgMember]; rfl)) ?_)
  refine wpAny_newObj_type ?_ (by size_fits)
  simp only [raiseNew]
  refine wpAny_bind (wpAny_handled ?_)
  first | rw [show A.in1.handled = none from hh] | rw [hh]
  refine wpAny_bind (wpAny_pure (wpAny_throw ?_))
  exact hE _ _ (((Heap.SameBut.update ..).extBut.push _).push _) ⟨_, Heap.get?_push_size _ rfl, rfl⟩
end
theorem vH {prog : Program} {w : World} {A : Around} {E : Value → Shared → Prop} {s : Shared} {e it l : Addr} {i : Nat} {items : Array Value} {old : Value} {Q : Option Value → Shared → Prop} (hh : A.handled = none)
    (he : IsEnum s.heap e it i old) (hit : s.heap.IsTupleIter it l i) (hl : s.heap.IsTuple l items) (hx : items[i]? = none)
    (hQ : ∀ h', Heap.ExtBut it s.heap h' → Q none { s with heap := h' }) : wpAny (model prog w) A (pyNext (.ref e)) Q E s := by
  have hT : s.TypeIs (.ref e) "enumerate" := ⟨_, he, rfl⟩
  unfold pyNext
  refine wpAny_bind (wpAny_attempt (wpAny_callSpecial?_slot (name := Str.ofString "__next__") hT F.slot_enumerate_next
    (wpAny_call_entry F.slot_enumerate_next hT F.entry_enumerate_next ?_ (F.args_enumerate_next_1 _))))
  show wpAny _ _ (field (.ref e) 2 >>= _) _ _ _
  refine wpAny_bind (wpAny_field he rfl (x := .ref it) rfl ?_)
  refine wpAny_bind (xM hh hit hl hx fun h' x he' hx' => ?_)
  obtain ⟨o, ho, hc⟩ := hx'
  refine wpAny_bind (wpAny_isInstance (T := "StopIteration") (b := true) ⟨o, ho, hc⟩ isSubtype_stop ?_)
  exact wpAny_pure (hQ _ he')
theorem vm {prog : Program} {w : World} {A : Around} (hh : A.handled = none) (it l : Addr) (hne : l ≠ it) (items : Array Value) :
    Draws prog w A it [it, l] items.size (fun i v => items[i]? = some v) (fun i h => h.IsTupleIter it l i ∧ h.IsTuple l items) where
  live := fun _ _ st => let ⟨o, ho, _⟩ := st.1; ⟨o, ho⟩
  frame := fun _ _ _ st hk => by
    obtain ⟨⟨o, ho, r⟩, ⟨o2, ho2, r2⟩⟩ := st
    exact ⟨⟨o, hk it (by simp) o ho, r⟩, ⟨o2, hk l (by simp) o2 ho2, r2⟩⟩
  item := fun i s Q E hi st hQ => by
    refine vg st.1 st.2 (x := items[i]) (by simp [hi]) fun h' hit' hs' => ?_
    exact hQ _ h' s.toks (by simp [hi]) ⟨hit', st.2.extBut hs'.extBut hne⟩ hs'
  done := fun s Q E st hE => xM hh st.1 st.2 (by simp) hE
theorem Yw (l : Addr) (items : Array Value) (n : Nat) (dd : Option Addr) (sl : Array (Option Value)) :
    Meets (Builtin.«enumerate.__new__» ⟨[.type "enumerate", .ref l], []⟩) (fun _ R s => s.heap.get? l = some { cls := .type "tuple", dict := dd, data := .seq items n, slots := sl } ∧
      R (.ok (.ret (.ref (s.heap.push { cls := .type "tuple_iterator", data := .fields #[.ref l, .int 0 0] }).objs.size)))
        { s with heap := (s.heap.push { cls := .type "tuple_iterator", data := .fields #[.ref l, .int 0 0] }).push { cls := .type "enumerate", data := .fields #[.none, .bool false, .ref s.heap.objs.size, rawInt 0, .none, .none] } }) :=
  .of_wp fun prog w A R s h => by
    obtain ⟨hp, g, d, tk, os⟩ := s; obtain ⟨hl, h⟩ := h
    have hsub := sub_enumerate
    have hL : Heap.IsTuple (Shared.heap ⟨hp, g, d, tk, os⟩) l items := ⟨_, hl, rfl, n, rfl⟩
    wp_walk using wpAny_loadPart' hl
    refine wpAny_stack_any fun st => wpAny_pure ?_
    split
    · rename_i c _ _ _ _ _
      cases (c == Value.type "enumerate")
      · wp_walk using wpAny_loadPart' hl, wpAny_pyIter_tuple hL
        exact ⟨_, rfl, h⟩
      · wp_walk using wpAny_loadPart' hl, wpAny_pyIter_tuple hL
        exact ⟨_, rfl, h⟩
    · wp_walk using wpAny_loadPart' hl, wpAny_pyIter_tuple hL
      exact ⟨_, rfl, h⟩
section
variable {prog : Program} {w : World} {A : Around} {E : Value → Shared → Prop} {s : Shared}
theorem vG {l : Addr} {items : Array Value} {Q : Value → Shared → Prop}
    (hl : s.heap.IsTuple l items)
    (h : ∀ h', IsEnum h' (s.heap.objs.size + 1) s.heap.objs.size 0 .none → h'.IsTupleIter s.heap.objs.size l 0 → h'.objs.size = s.heap.objs.size + 2 →
      (∀ b o, s.heap.get? b = some o → h'.get? b = some o) → Q (.ref (s.heap.objs.size + 1)) { s with heap := h' }) :
    wpAny (model prog w) A (call (.type "enumerate") [.ref l]) Q E s := by
  obtain ⟨⟨cls, dd, data, sl⟩, ho, hc, n, hd⟩ := hl
  simp only at hc hd
  subst hc hd
  refine callType_new F.called_enumerate (by decide) (F.typeCall_enumerate_1 _) (F.newCall_enumerate_1 _) (fun obj => F.args_object_init_2 obj _) F.entry_enumerate_new
    (Yw l items n dd sl) ⟨ho, ?_⟩
  have hz : (s.heap.push { cls := .type "tuple_iterator", data := .fields #[.ref l, .int 0 0] }).objs.size = s.heap.objs.size + 1 := Heap.size_push ..
  show _ ∧ _
  rw [hz]
  have he : IsEnum ((s.heap.push { cls := .type "tuple_iterator", data := .fields #[.ref l, .int 0 0] }).push
      { cls := .type "enumerate", data := .fields #[.none, .bool false, .ref s.heap.objs.size, rawInt 0, .none, .none] }) (s.heap.objs.size + 1) s.heap.objs.size 0 .none := by
    have := Heap.get?_push_size (s.heap.push { cls := .type "tuple_iterator", data := .fields #[.ref l, .int 0 0] })
      (o := { cls := .type "enumerate", data := .fields #[.none, .bool false, .ref s.heap.objs.size, rawInt 0, .none, .none] }) rfl
    rw [hz] at this; exact this
  refine ⟨⟨_, he, rfl⟩, h _ he ⟨_, Heap.get?_push_of_some _ (Heap.get?_push_size _ rfl), rfl, rfl⟩ (by rw [Heap.size_push, hz]) fun b o x => Heap.get?_push_of_some _ (Heap.get?_push_of_some _ x)⟩
end
end PySem
namespace L2
open PySem PySem.Spec PyProof.Rows
section
variable {X : Cx} {pins : List (Addr × Obj)} {σ : St} {H : Hp} {s : Shared} {h' : Heap}
theorem Inv.grown {ch : List Addr} {T : Addr} {o : HO} {t' : Nat} (I : Inv X pins σ H s) (hch : ∀ b ∈ ch, zdd X pins H b) (hT : s.heap.objs.size ≤ T) (k : ∀ b u, b ∉ ch → s.heap.get? b = some u → h'.get? b = some u)
    (new : yK X.prog X.w (upd H T o) h' T o) : Inv X pins σ (upd H T o) { s with heap := h', toks := t' } := by
  have hn : H T = none := I.hok.fresh hT
  have neT : ∀ b u, s.heap.get? b = some u → b ≠ T := fun b u e => Nat.ne_of_lt (Nat.lt_of_lt_of_le (Heap.lt_size e) hT)
  have nch : ∀ b u, H b = some u → b ∉ ch := fun b u e z => by rw [(hch b z).1] at e; cases e
  refine I.step (g' := s.gens) (d' := s.drawn) (ch := ch) (fun b hb => ?_) (fun b u _ _ hc e _ => k b u hc e) (fun b u _ _ hc e _ => ⟨u.slots, k b u hc e⟩) (fun b u _ e n => by rw [zp (neT b u e)]; exact n)
    (fun b u hc e => ⟨u, k b u hc e⟩) (fun b xs e => by rw [zp (zj e hn)]; exact e) (fun b u xs e => by rw [zp (zj e hn)]; exact e) (fun b ps e => ⟨#[], by rw [zp (zj e hn), e]; simp⟩) (fun m hm => ?_) (fun b u e => ?_) I.bare
  · obtain ⟨_, n1, _, n3, n4, n5⟩ := hch b hb
    exact ⟨n3, n1, n4, n5⟩
  · obtain ⟨ob, es, ep, ho, r⟩ := hm
    exact ⟨ob, es, ep, k _ ob (fun z => (hch _ z).2.1 rfl) ho, r⟩
  · by_cases hb : b = T
    · subst hb; rw [zo] at e; cases e; exact new
    · rw [zp hb] at e
      refine (I.hok b u e).stay (fun c v hc q => k c v ?_ q) (fun c q => by rw [zp (zj q hn)]; exact q) fun c xs q => by rw [zp (zj q hn)]; exact q
      rcases hc with z | z
      · rw [z]; exact nch b u e
      · exact nch c _ z
theorem Inv.turnedN {ch : List Addr} {t' : Nat} (I : Inv X pins σ H s) (hch : ∀ b ∈ ch, zdd X pins H b) (k : ∀ b u, b ∉ ch → s.heap.get? b = some u → h'.get? b = some u) : Inv X pins σ H { s with heap := h', toks := t' } := by
  have nch : ∀ b u, H b = some u → b ∉ ch := fun b u e z => by rw [(hch b z).1] at e; cases e
  refine I.step (g' := s.gens) (d' := s.drawn) (ch := ch) (fun b hb => ?_) (fun b u _ _ hc e _ => k b u hc e) (fun b u _ _ hc e _ => ⟨u.slots, k b u hc e⟩) (fun b u _ e n => n)
    (fun b u hc e => ⟨u, k b u hc e⟩) (fun b xs e => e) (fun b u xs e => e) (fun b ps e => ⟨#[], by rw [e]; simp⟩) (fun m hm => ?_) (fun b u e => ?_) I.bare
  · obtain ⟨_, n1, _, n3, n4, n5⟩ := hch b hb
    exact ⟨n3, n1, n4, n5⟩
  · obtain ⟨ob, es, ep, ho, r⟩ := hm
    exact ⟨ob, es, ep, k _ ob (fun z => (hch _ z).2.1 rfl) ho, r⟩
  · refine (I.hok b u e).stay (fun c v hc q => k c v ?_ q) (fun c q => q) fun c xs q => q
    rcases hc with z | z
    · rw [z]; exact nch b u e
    · exact nch c _ z
end
noncomputable def Iel (K : PySem.W.Frag) (a : Addr) : It :=
  ⟨fun i H => ∃ xs x, SqL K H a xs ∧ xs[i]? = some x, fun i H v H' => ∃ T x, v = .ref T ∧ H T = none ∧ H' = upd H T (.tup [.int i, x]) ∧ ∀ xs, SqL K H a xs → xs[i]? = some x, fun i H => ∃ xs, SqL K H a xs ∧ xs.length ≤ i⟩
noncomputable def Iet (K : PySem.W.Frag) (a : Addr) : It :=
  ⟨fun i H => ∃ xs x, SqT K H a xs ∧ xs[i]? = some x, fun i H v H' => ∃ T x, v = .ref T ∧ H T = none ∧ H' = upd H T (.tup [.int i, x]) ∧ ∀ xs, SqT K H a xs → xs[i]? = some x, fun i H => ∃ xs, SqT K H a xs ∧ xs.length ≤ i⟩
theorem zd4 {P : Program} {w : World} {K : PySem.W.Frag} {es : List Expr} {k : Nat} {tp : Pos} (a e it : Addr) (hne : e ≠ it) :
    zhm P w K (.Tuple es k tp) (Iel K a) [e, it] e (fun i h => (∃ old, IsEnum h e it i old) ∧ h.IsListIter it a i) where
  mem := by simp
  obj := fun i h st b hb => by
    obtain ⟨⟨old, he⟩, o, ho, _, hd⟩ := st
    rcases List.mem_cons.mp hb with rfl | hb
    · exact ⟨_, he, fun v z => by cases z⟩
    · rw [List.mem_singleton.mp hb]
      exact ⟨o, ho, fun v z => by rw [hd] at z; cases z⟩
  keep := fun i h h' st kk => by
    obtain ⟨⟨old, he⟩, hit⟩ := st
    exact ⟨⟨old, kk e (by simp) _ he⟩, hit.at fun o q => kk it (by simp) o q⟩
  item := by
    intro X hP hw hK hc i pins s σ H E I hf st hg
    subst hP hw hK
    obtain ⟨⟨old, he⟩, hit⟩ := st
    obtain ⟨xs, x, hq, hx⟩ := hg
    obtain ⟨its, rv, p, hz⟩ := I.list hq
    obtain ⟨u, hu, ru⟩ := rv.get hx
    refine wpAny_pyNext_enum_item he hit p.isList (x := u) (by simpa using hu) hne fun h1 ho1 hit1 hT1 hz1 hk1 => ?_
    refine ⟨_, rfl, wpAny_letOwnedTupleGo_enum ho1 fun h2 he2 hs2 => ?_⟩
    have hfr : H s.heap.objs.size = none := I.hok.fresh (Nat.le_refl _)
    have neE : s.heap.objs.size ≠ e := Nat.ne_of_gt (Heap.lt_size he)
    have hT2 : h2.get? s.heap.objs.size = some { cls := .type "tuple", data := .seq #[.int i s.toks, u] } := (hs2.2 _ neE).trans hT1
    refine ⟨.ref s.heap.objs.size, upd H s.heap.objs.size (.tup [.int i, x]), ?_, rfl, ⟨_, x, rfl, hfr, rfl, fun ys hy => by rw [I.list_inj hy hq]; exact hx⟩, ⟨⟨_, by simpa using he2⟩, hit1.at fun o q => (hs2.2 it (Ne.symm hne)).trans q⟩, fun b hb => ?_⟩
    · refine I.grown (ch := [e, it]) hf (Nat.le_refl _) (fun b v hb q => ?_) ?_
      · have n1 : b ≠ e := fun z => hb (by simp [z])
        have n2 : b ≠ it := fun z => hb (by simp [z])
        exact (hs2.2 b n1).trans (hk1 b v n1 n2 q)
      · exact ⟨by show 2 ≤ sizeLine; decide, [.int i s.toks, u], .cons ⟨_, rfl⟩ (.cons ru .nil), ⟨_, hT2, rfl, 0, rfl⟩⟩
    · obtain ⟨o, hb2, _⟩ : ∃ o, s.heap.get? b = some o ∧ True := by
        rcases List.mem_cons.mp hb with rfl | hb
        · exact ⟨_, he, trivial⟩
        · rw [List.mem_singleton.mp hb]
          obtain ⟨o, ho, _⟩ := hit
          exact ⟨o, ho, trivial⟩
      rw [zp (Nat.ne_of_lt (Heap.lt_size hb2))]
      exact (hf b hb).1
  done := by
    intro X hP hw hK hc i pins s σ H E I hf st hg
    subst hP hw hK
    obtain ⟨⟨old, he⟩, hit⟩ := st
    obtain ⟨xs, hq, hx⟩ := hg
    obtain ⟨its, rv, p, hz⟩ := I.list hq
    have hl := rv.length
    exact wpAny_pyNext_enum_end (I.ok.hd hc) he hit p.isList (by simp; omega) fun h1 hx1 => ⟨rfl, I.turnedN (ch := [e, it]) (t' := s.toks) hf fun b v hb q => hx1 b v (fun z => hb (by simp [z])) q⟩
  self := fun _ _ _ _ _ st h => wpAny_pyIter_enum st.1.choose_spec h
theorem zej {P : Program} {w : World} {K : PySem.W.Frag} {es : List Expr} {k : Nat} {tp : Pos} (a e it : Addr) (hne : e ≠ it) (hai : a ≠ it) (hae : a ≠ e) :
    zhm P w K (.Tuple es k tp) (Iet K a) [e, it] e (fun i h => (∃ old, IsEnum h e it i old) ∧ h.IsTupleIter it a i) where
  mem := by simp
  obj := fun i h st b hb => by
    obtain ⟨⟨old, he⟩, o, ho, _, hd⟩ := st
    rcases List.mem_cons.mp hb with rfl | hb
    · exact ⟨_, he, fun v z => by cases z⟩
    · rw [List.mem_singleton.mp hb]
      exact ⟨o, ho, fun v z => by rw [hd] at z; cases z⟩
  keep := fun i h h' st kk => by
    obtain ⟨⟨old, he⟩, o, ho, r⟩ := st
    exact ⟨⟨old, kk e (by simp) _ he⟩, o, kk it (by simp) o ho, r⟩
  item := by
    intro X hP hw hK hc i pins s σ H E I hf st hg
    subst hP hw hK
    obtain ⟨⟨old, he⟩, hit⟩ := st
    obtain ⟨xs, x, hq, hx⟩ := hg
    obtain ⟨its, rv, p, hz⟩ := I.tuple hq
    obtain ⟨u, hu, ru⟩ := rv.get hx
    have p' : s.heap.IsTuple a its.toArray := p
    have D := vm (prog := X.prog) (w := X.w) (A := X.A.in1) (I.ok.hd hc) it a hai its.toArray
    have hlt : i < its.toArray.size := by
      obtain ⟨h1, _⟩ := List.getElem?_eq_some_iff.mp hu
      simpa using h1
    refine wpAny_pyNext_enum_itemD D he ⟨hit, p'⟩ hlt hne (by simp [hne, Ne.symm hae]) fun u' h1 tk hP1 ho1 hit1 hT1 hz1 hk1 => ?_
    have eu : u' = u := by
      have : its[i]? = some u' := by simpa using hP1
      rw [hu] at this
      exact (Option.some.inj this).symm
    subst eu
    refine ⟨_, rfl, wpAny_letOwnedTupleGo_enum ho1 fun h2 he2 hs2 => ?_⟩
    have hfr : H s.heap.objs.size = none := I.hok.fresh (Nat.le_refl _)
    have neE : s.heap.objs.size ≠ e := Nat.ne_of_gt (Heap.lt_size he)
    have hT2 : h2.get? s.heap.objs.size = some { cls := .type "tuple", data := .seq #[.int i tk, u'] } := (hs2.2 _ neE).trans hT1
    refine ⟨.ref s.heap.objs.size, upd H s.heap.objs.size (.tup [.int i, x]), ?_, rfl, ⟨_, x, rfl, hfr, rfl, fun ys hy => by rw [I.tuple_inj hy hq]; exact hx⟩, ⟨⟨_, by simpa using he2⟩, ?_⟩, fun b hb => ?_⟩
    · refine I.grown (ch := [e, it]) hf (Nat.le_refl _) (fun b v hb q => ?_) ?_
      · have n1 : b ≠ e := fun z => hb (by simp [z])
        have n2 : b ≠ it := fun z => hb (by simp [z])
        exact (hs2.2 b n1).trans (hk1 b v n1 n2 q)
      · exact ⟨by show 2 ≤ sizeLine; decide, [.int i tk, u'], .cons ⟨_, rfl⟩ (.cons ru .nil), ⟨_, hT2, rfl, 0, rfl⟩⟩
    · obtain ⟨o, ho, r⟩ := hit1.1
      exact ⟨o, (hs2.2 it (Ne.symm hne)).trans ho, r⟩
    · obtain ⟨o, hb2, _⟩ : ∃ o, s.heap.get? b = some o ∧ True := by
        rcases List.mem_cons.mp hb with rfl | hb
        · exact ⟨_, he, trivial⟩
        · rw [List.mem_singleton.mp hb]
          obtain ⟨o, ho, _⟩ := hit
          exact ⟨o, ho, trivial⟩
      rw [zp (Nat.ne_of_lt (Heap.lt_size hb2))]
      exact (hf b hb).1
  done := by
    intro X hP hw hK hc i pins s σ H E I hf st hg
    subst hP hw hK
    obtain ⟨⟨old, he⟩, hit⟩ := st
    obtain ⟨xs, hq, hx⟩ := hg
    obtain ⟨its, rv, p, hz⟩ := I.tuple hq
    have hl := rv.length
    have p' : s.heap.IsTuple a its.toArray := p
    exact vH (I.ok.hd hc) he hit p' (by simp; omega) fun h1 hx1 => ⟨rfl, I.turnedN (ch := [e, it]) (t' := s.toks) hf fun b v hb q => hx1 b v (fun z => hb (by simp [z])) q⟩
  self := fun _ _ _ _ _ st h => wpAny_pyIter_enum st.1.choose_spec h
noncomputable def zlD (K : PySem.W.Frag) (ta : TA) : TI := fun σ H R => ta σ H fun vs H1 => ∃ a, vs = [.ref a] ∧ ((∃ xs, H1 a = some (.lst xs) ∧ R (Iel K a) H1) ∨ (∃ xs, SqT K H1 a xs ∧ R (Iet K a) H1))
theorem zi9 {X : Cx} {es : List Expr} {k : Nat} {tp : Pos} {a : Expr} {ta : TA} {p pos : Pos} (hg : Gl X "enumerate") (hm : X.mg "enumerate" = none) (hb : bootBuiltins "enumerate" = some (.type "enumerate")) (ha : PA X [a] ta)
    (hs : starEach [a] X.env = [(false, eval a X.env)] := by rfl) : PI X (.Tuple es k tp) (.Call (.Name "enumerate" p) [a] [] pos) (zlD X.K ta) := by
  intro pins s σ H R I h
  refine Call_ (Y1 I hg hm hb (PyProof.Rows.callWith_type1 (thn (ha pos pins s σ H _ I h) fun us s1 hh9 => ?_) hs rfl))
  obtain ⟨vs, H1, I1, r1, q1⟩ := hh9
  obtain ⟨l, e, q⟩ := q1
  subst e
  obtain ⟨u, rfl, ru⟩ := zac r1
  cases ru
  have hn : ∀ b, s1.heap.objs.size ≤ b → zdd X pins H1 b := fun b hb => I1.fpOk hb (I1.hok.fresh hb)
  have hne : s1.heap.objs.size + 1 ≠ s1.heap.objs.size := by omega
  have hfp : ∀ b ∈ [s1.heap.objs.size + 1, s1.heap.objs.size], zdd X pins H1 b := fun b hb => by
    rcases List.mem_cons.mp hb with rfl | hb
    · exact hn _ (Nat.le_succ _)
    · rw [List.mem_singleton.mp hb]; exact hn _ (Nat.le_refl _)
  rcases q with ⟨xs, hx, q⟩ | ⟨xs, hx, q⟩
  · obtain ⟨_, its, n, _, e⟩ : xs.length ≤ sizeLine ∧ ∃ (its : List Value) (n : Nat), yx xs its ∧ s1.heap.get? l = some { cls := .type "list", data := .seq its.toArray n } := I1.hok _ _ hx
    refine call_enumerate_1 e fun h2 he hit hz hk => wpAny_pyIter_enum he ?_
    exact ⟨_, _, _, _, H1, rfl, I1.kept (t' := s1.toks) hk, zd4 l _ _ hne, ⟨⟨_, he⟩, hit⟩, hfp, q⟩
  · obtain ⟨its, _, p1, _⟩ := I1.tuple hx
    have lt : l < s1.heap.objs.size := by
      obtain ⟨o, ho, _⟩ := p1
      exact Heap.lt_size ho
    refine vG (show s1.heap.IsTuple l its.toArray from p1) fun h2 he hit hz hk => wpAny_pyIter_enum he ?_
    exact ⟨_, _, _, _, H1, rfl, I1.kept (t' := s1.toks) hk, zej l _ _ hne (Nat.ne_of_lt lt) (Nat.ne_of_lt (Nat.lt_succ_of_lt lt)), ⟨⟨_, he⟩, hit⟩, hfp, q⟩
end L2
namespace HT
open PySem PyProof.Rows
noncomputable def lexLe : List Int → List Int → Bool
  | [], _ => true
  | _ :: _, [] => false
  | x :: xs, y :: ys => if x = y then lexLe xs ys else decide (x ≤ y)
theorem zdM (x y : Int) (xs ys : List Int) : lexLe (x :: xs) (y :: ys) = if x = y then lexLe xs ys else decide (x ≤ y) := rfl
theorem zhb (A : Around) (s : Shared) (a : Int) (t : Tok) (c : Int) (u : Tok) (prog : Program) (w : World) (E : Value → Shared → Prop) (Q : Value → Shared → Prop) (h : Q (.bool (decide (a ≤ c))) s) :
    wpAny (model prog w) A (richCompare .LtE (.int a t) (.int c u)) Q E s :=
  (PyProof.Rows.le_int h : wpAny (model prog w) A (compareOp .LtE (.int a t) (.int c u)) Q E s)
section
open PySem.SeqAt
open PySem.AutoSeq1 (wpAny_loadPart')
open PySem.MeetsSeq PySem.MeetsSeq2 PySem.MeetsSeq3
theorem Xw (l b : Addr) (items items2 : Array Value) (n n2 : Nat) (dd dd2 : Option Addr) (sl sl2 : Array (Option Value)) (ns ms : List Int) (hi : IntsAre items.toList ns) (hj : IntsAre items2.toList ms) :
    Meets (Builtin.«tuple.__le__» ⟨[.ref l, .ref b], []⟩)
      (fun _ R s => s.heap.get? l = some { cls := .type "tuple", dict := dd, data := .seq items n, slots := sl } ∧ s.heap.get? b = some { cls := .type "tuple", dict := dd2, data := .seq items2 n2, slots := sl2 } ∧
        R (.ok (.ret (.bool (lexLe ns ms)))) s) :=
  .of_wp fun prog w A R s h => by
    obtain ⟨hp, g, d, tk, os⟩ := s; obtain ⟨hl, hb, h⟩ := h
    have f2 := AutoSeq1.sub_tuple_tuple
    have z1 : items.size = ns.length := by rw [← hi.length]; simp
    have z2 : items2.size = ms.length := by rw [← hj.length]; simp
    wp_walk using wpAny_loadPart' hl, wpAny_loadPart' hb, wpAny_forIn_list _ (fun rest b s' => b.1 = none ∧ s' = ⟨hp, g, d, tk, os⟩ ∧ ∃ (vs ws : List Value) (ns' ms' : List Int), rest = vs.zip ws ∧
      IntsAre vs ns' ∧ IntsAre ws ms' ∧ ns'.length + items2.size = ms'.length + items.size ∧ R (.ok (.ret (.bool (lexLe ns' ms')))) ⟨hp, g, d, tk, os⟩) _
    case turn =>
      rintro ⟨y, x⟩ rest b s' ⟨hb', rfl, vs, ws, ns', ms', hz, hvi, hwi, hlen, hR⟩
      cases hvi with
      | nil => rw [List.zip_nil_left] at hz; cases hz
      | cons a t hvi' =>
        cases hwi with
        | nil => rw [List.zip_nil_right] at hz; cases hz
        | cons c u hwi' =>
          rw [List.zip_cons_cons] at hz
          injection hz with hyx hrest
          injection hyx with hy hx
          subst hy hx
          rw [zdM] at hR
          simp only [List.length_cons] at hlen
          obtain ⟨e, he, hiff⟩ := zgK A.in1 ⟨hp, g, d, tk, os⟩ a t c u
          refine wpAny_bind (he prog w _ _ ?_)
          cases e with
          | true =>
            rw [if_pos (hiff.mp rfl)] at hR
            wp_walk
            exact ⟨rfl, rfl, _, _, _, _, hrest, hvi', hwi', by omega, hR⟩
          | false =>
            rw [if_neg (fun q => absurd (hiff.mpr q) Bool.false_ne_true)] at hR
            have hri := zhb A.in1 ⟨hp, g, d, tk, os⟩ a t c u prog w
            wp_walk using hri
            exact ⟨_, rfl, by simpa using hR⟩
    case fin =>
      rintro ⟨b1, b2⟩ s' ⟨hb', rfl, vs, ws, ns', ms', hz, hvi, hwi, hlen, hR⟩
      simp only at hb'
      subst hb'
      have hv : lexLe ns' ms' = decide (items.size ≤ items2.size) := by
        cases hvi with
        | nil =>
          simp only [List.length_nil] at hlen
          show true = _
          exact (decide_eq_true (by omega)).symm
        | cons a t hv =>
          cases hwi with
          | nil =>
            simp only [List.length_nil, List.length_cons] at hlen
            show false = _
            exact (decide_eq_false (by omega)).symm
          | cons c u hw =>
            rw [List.zip_cons_cons] at hz
            cases hz
      rw [hv] at hR
      wp_walk
      exact ⟨_, rfl, by simpa [Builtin.Tuple.tupleCompareSizes] using hR⟩
    case h =>
      exact ⟨rfl, rfl, items.toList, items2.toList, ns, ms, rfl, hi, hj, by omega, h⟩
end
section
variable {prog : Program} {w : World} {A : Around} {E : Value → Shared → Prop} {s : Shared}
theorem le_tupInts {l b : Addr} {items items2 : Array Value} {ns ms : List Int} {Q : Value → Shared → Prop} (hl : IsTup s.heap l items) (hb : IsTup s.heap b items2) (hi : IntsAre items.toList ns) (hj : IntsAre items2.toList ms)
    (hu : A.units < cLine) (h : Q (.bool (lexLe ns ms)) s) : wpAny (model prog w) A (compareOp .LtE (.ref l) (.ref b)) Q E s := by
  obtain ⟨⟨cls, dd, data, sl⟩, ho, hc, n, hd⟩ := id hl
  obtain ⟨⟨cls2, dd2, data2, sl2⟩, ho2, hc2, n2, hd2⟩ := id hb
  simp only at hc hd hc2 hd2
  subst hc hd hc2 hd2
  exact richCompare_meets_room (op := .LtE) ⟨_, ho, rfl⟩ ⟨_, ho2, rfl⟩ PySem.F.slot_tuple_le PySem.F.entry_tuple_le (PySem.F.args_tuple_le_2 _ _) (Xw l b items items2 n n2 dd dd2 sl sl2 ns ms hi hj)
    ⟨ho, ho2, show Value.bool (lexLe ns ms) ≠ Value.notImplemented ∧ Q (.bool (lexLe ns ms)) s from ⟨(fun x => nomatch x), h⟩⟩ hu
end
end HT
namespace L2
open PySem PySem.Spec PyProof.Rows
noncomputable def rLeT (K : PySem.W.Frag) : R2 := fun x y H Q => ∃ a b ns ms, x = .ref a ∧ y = .ref b ∧ SqT K H a (ns.map V.int) ∧ SqT K H b (ms.map V.int) ∧ Q (.bl (HT.lexLe ns ms)) H
theorem zju {X : Cx} (hu : X.A.units < cLine) : OpR X (compareOp .LtE) (rLeT X.K) := by
  intro pins s σ H x y v u Q I rx ry h
  obtain ⟨a, b, ns, ms, rfl, rfl, ha, hb, q⟩ := h
  cases rx
  cases ry
  obtain ⟨its, r1, p1, _⟩ := I.tuple ha
  obtain ⟨its2, r2, p2, _⟩ := I.tuple hb
  have i1 : IntsAre its.toArray.toList ns := YV r1
  have i2 : IntsAre its2.toArray.toList ms := YV r2
  exact HT.le_tupInts p1 p2 i1 i2 hu ⟨.bl (HT.lexLe ns ms), H, I, rfl, q⟩
end L2
namespace HT
open PySem PyProof.Rows
section
variable {prog : Program} {w : World} {A : Around} {E : Value → Shared → Prop} {s : Shared}
theorem own_getItem_whole {t sl : Addr} {items : Array Value} {vl vu : Value} {lo hi : Option Int} {Q : Value → Shared → Prop} (ht : IsTup s.heap t items) (hs : s.heap.IsSliceOf sl vl vu .none) (pl : IsPart vl lo) (pu : IsPart vu hi)
    (hw : sIx items.size 0 lo = 0 ∧ sIx items.size items.size hi = items.size) (h : Q (.ref t) s) : wpAny (model prog w) A (getItem (.ref t) (.ref sl)) Q E s := by
  obtain ⟨os, hos, hcs, hds⟩ := id hs
  have hTs : s.TypeIs (.ref sl) "slice" := ⟨os, hos, hcs⟩
  unfold getItem
  try with_reducible refine wpAny_holding ?_
  first | refine wpAny_bind (wpAny_pure ?_) | skip
  refine wpAny_bind (wpAny_sequenceKey ht.typeIs (by decide) ?_)
  refine wpAny_bind (wpAny_callSpecial?_slot (name := Str.ofString "__getitem__") ht.typeIs PyProof.Rows.slot_tuple_getitem
    (wpAny_call_entry PyProof.Rows.slot_tuple_getitem ht.typeIs entry_tuple_getitem ?_ (args_tuple_getitem _ _)))
  show wpAny _ _ (Builtin.Tuple.tupleItemsOf (.ref t) >>= _) _ _ s
  refine wpAny_bind (tupleItemsOf_ ht ?_)
  refine wpAny_bind (wpAny_typeOf hTs ?_)
  rw [if_pos (by decide)]
  refine wpAny_bind (wO hs pl pu ?_)
  have hyes : (((sIx items.size 0 lo : Nat) : Int) == 0 && (1 : Int) == 1 && (sIx items.size items.size hi - sIx items.size 0 lo) == items.size) = true := by
    rw [hw.1, hw.2]
    simp
  show wpAny _ _ (if (((sIx items.size 0 lo : Nat) : Int) == 0 && (1 : Int) == 1 && (sIx items.size items.size hi - sIx items.size 0 lo) == items.size) = true then _ else _) _ _ s
  rw [if_pos hyes]
  refine wpAny_bind (m := Builtin.Tuple.tupleIsExact (.ref t)) ?_
  unfold Builtin.Tuple.tupleIsExact
  refine wpAny_bind (wpAny_typeOf ht.typeIs (wpAny_pure ?_))
  rw [if_pos (by decide)]
  refine wpAny_bind (wpAny_rule ?_)
  first
    | exact wpAny_pure ⟨_, rfl, wpAny_pure h⟩
    | exact wpAny_bind (wpAny_pure (wpAny_pure ⟨_, rfl, wpAny_pure h⟩))
end
end HT
namespace L2
open PySem PySem.Spec PyProof.Rows
end L2
namespace PySem
open Sem (wp)
theorem xc {prog : Program} {w : World} {A : Around} {it a : Addr} {fp : List Addr} {n k : Nat} {P : Nat → Value → Prop} {St : Nat → Heap → Prop} (D : Draws prog w A it fp n P St) {h h' : Heap} (st : St k h) (sb : Heap.SameBut a h h') (na : a ∉ fp) : St k h' :=
  D.frame _ _ _ st fun b hb o e => (sb.2 b fun z => na (z ▸ hb)).trans e
set_option genInjectivity false in
set_option genSizeOf false in
set_option genCtorIdx false in
structure zgs (z TI TO i1 i2 : Addr) (fp1 fp2 : List Addr) : Prop where
  nd : [z, TI, TO, i1, i2].Nodup
  z1 : z ∉ fp1
  z2 : z ∉ fp2
  o1 : TO ∉ fp1
  o2 : TO ∉ fp2
  i12 : i1 ∉ fp2
  i21 : i2 ∉ fp1
section
variable {prog : Program} {w : World} {A : Around} {E : Value → Shared → Prop} {s : Shared} {z TI TO i1 i2 : Addr} {fp1 fp2 : List Addr} {n1 n2 k1 k2 : Nat} {P1 P2 : Nat → Value → Prop} {St1 St2 : Nat → Heap → Prop} {a b : Value}
theorem Vj {Q : Value → Shared → Prop} (D1 : Draws prog w A i1 fp1 n1 P1 St1) (D2 : Draws prog w A i2 fp2 n2 P2 St2) (ap : zgs z TI TO i1 i2 fp1 fp2)
    (hz : IsZip s.heap z TI TO .none) (hTI : IsPair s.heap TI (.ref i1) (.ref i2)) (hTO : IsPair s.heap TO a b) (h1 : St1 k1 s.heap) (h2 : St2 k2 s.heap) (l1 : k1 < n1) (l2 : k2 < n2)
    (hQ : ∀ x y h' tk, P1 k1 x → P2 k2 y → IsZip h' z TI TO (rawInt s.heap.objs.size) → IsPair h' TO x y → St1 (k1 + 1) h' → St2 (k2 + 1) h' → IsPair h' s.heap.objs.size x y →
      (∀ c o, c ∉ [z, TO, i1, i2] → s.heap.get? c = some o → h'.get? c = some o) → Q (.ref s.heap.objs.size) { s with heap := h', toks := tk }) :
    wpAny (model prog w) A (Builtin.«zip.__next__» ⟨[.ref z], []⟩) (fun fin s' => ∃ v, fin = .done (.ret v) ∧ Q v s') E s := by
  obtain ⟨nd, az1, az2, ao1, ao2, a12, a21⟩ := ap
  simp only [List.nodup_cons, List.mem_cons, List.not_mem_nil, or_false, not_or, not_false_eq_true, List.nodup_nil, and_true] at nd
  obtain ⟨⟨n1', n2', n3', n4'⟩, ⟨n5, n6, n7⟩, ⟨n8, n9⟩, n10⟩ := nd
  show wpAny _ _ (field (.ref z) 2 >>= _) _ _ _
  refine wpAny_bind (wpAny_field hz rfl (x := .bool false) rfl ?_)
  show wpAny _ _ (field (.ref z) 3 >>= _) _ _ _
  refine wpAny_bind (wpAny_field hz rfl (x := .ref TI) rfl (wpAny_bind (wpAny_seqItems hTI rfl ?_)))
  show wpAny _ _ (Builtin.SmallTypes.ownedTupleIsFree (.ref z) >>= _) _ _ _
  refine wpAny_bind ?_
  unfold Builtin.SmallTypes.ownedTupleIsFree
  refine wpAny_bind (wpAny_field hz rfl (x := .none) rfl (wpAny_pure ?_))
  simp only [if_true]
  refine wpAny_bind (wpAny_rule (wpAny_bind (wpAny_field hz rfl (x := .ref TO) rfl (wpAny_bind (wpAny_setField_rec hz (by simp) fun g1 z1 b1 => ?_)))))
  refine wpAny_bind ?_
  simp only [List.zipIdx_cons, List.zipIdx_nil, List.forIn_cons, List.forIn_nil]
  refine wpAny_bind (wpAny_bind (wpAny_onRaise ?_))
  show wpAny _ _ (Builtin.SmallTypes.nextOf (.ref i1) >>= _) _ _ _
  refine wpAny_bind (D1.item k1 _ _ _ l1 (xc D1 h1 b1 az1) fun x g2 tk2 px st2 b2 => wpAny_pure ?_)
  have o2 : IsPair g2 TO a b := (b2.2 TO n8).trans ((b1.2 TO (Ne.symm n2')).trans hTO)
  refine wpAny_bind (wpAny_seqItems o2 rfl (wpAny_bind (wpAny_updateSeq_pair o2 fun g3 o3 b3 => ?_)))
  refine wpAny_bind (wpAny_letGo (wpAny_pure ?_))
  refine wpAny_bind (wpAny_bind (wpAny_onRaise ?_))
  show wpAny _ _ (Builtin.SmallTypes.nextOf (.ref i2) >>= _) _ _ _
  have s23 : St2 k2 g3 := xc D2 (xc D2 (xc D2 h2 b1 az2) b2 a12) b3 ao2
  refine wpAny_bind (D2.item k2 _ _ _ l2 s23 fun y g4 tk4 py st4 b4 => wpAny_pure ?_)
  have o4 : IsPair g4 TO x b := (b4.2 TO n9).trans o3
  refine wpAny_bind (wpAny_seqItems o4 rfl (wpAny_bind (wpAny_updateSeq_pair o4 fun g5 o5 b5 => ?_)))
  replace o5 : IsPair g5 TO x y := o5
  refine wpAny_bind (wpAny_letGo (wpAny_pure (wpAny_pure ?_)))
  refine wpAny_bind (wpAny_seqItems o5 rfl ?_)
  show wpAny _ _ (newTuple [x, y] >>= _) _ _ _
  refine wpAny_bind (wpAny_newTuple ?_)
  have hsz : g5.objs.size = s.heap.objs.size := by rw [b5.1, b4.1, b3.1, b2.1, b1.1]
  have z5 : IsZip g5 z TI TO .ellipsis := (b5.2 z n2').trans ((b4.2 z n4').trans ((b3.2 z n2').trans ((b2.2 z n3').trans z1)))
  have zlt : z < g5.objs.size := Heap.lt_size z5
  show wpAny _ _ (Builtin.SmallTypes.ownedTupleHandOut (.ref z) (.ref g5.objs.size) >>= _) _ _ _
  refine wpAny_bind ?_
  unfold Builtin.SmallTypes.ownedTupleHandOut
  have z6 : IsZip (g5.push { cls := .type "tuple", data := .seq #[x, y] }) z TI TO .ellipsis := Heap.get?_push_of_some _ z5
  refine wpAny_bind (wpAny_setField_rec z6 (by simp) fun g7 z7 b7 => ?_)
  refine wpAny_setField_rec z7 (by simp) fun g8 z8 b8 => ?_
  have up : ∀ c o, c ≠ z → g5.get? c = some o → g8.get? c = some o := fun c o n e => (b8.2 c n).trans ((b7.2 c n).trans (Heap.get?_push_of_some _ e))
  have t8 : IsPair g8 g5.objs.size x y := (b8.2 _ (Nat.ne_of_gt zlt)).trans ((b7.2 _ (Nat.ne_of_gt zlt)).trans (Heap.get?_push_size _ rfl))
  have e8 : IsZip g8 z TI TO (rawInt g5.objs.size) := z8
  rw [hsz] at e8 t8
  refine wpAny_pure ⟨_, rfl, ?_⟩
  show Q (.ref g5.objs.size) _
  rw [hsz]
  have f1 : St1 (k1 + 1) g5 := xc D1 (xc D1 (xc D1 st2 b3 ao1) b4 a21) b5 ao1
  have f2 : St2 (k2 + 1) g5 := xc D2 st4 b5 ao2
  refine hQ x y g8 _ px py e8 (up _ _ (Ne.symm n2') o5) (D1.frame _ _ _ f1 fun c hc o e => up c o (fun q => az1 (q ▸ hc)) e) (D2.frame _ _ _ f2 fun c hc o e => up c o (fun q => az2 (q ▸ hc)) e) t8 fun c o hc e => ?_
  simp only [List.mem_cons, List.not_mem_nil, or_false, not_or] at hc
  obtain ⟨c1, c2, c3, c4⟩ := hc
  exact up c o c1 ((b5.2 c c2).trans ((b4.2 c c4).trans ((b3.2 c c2).trans ((b2.2 c c3).trans ((b1.2 c c1).trans e)))))
theorem zcj {Q : Fin → Shared → Prop} (D1 : Draws prog w A i1 fp1 n1 P1 St1) (az1 : z ∉ fp1) (nz : i1 ≠ z)
    (hz : IsZip s.heap z TI TO .none) (hTI : IsPair s.heap TI (.ref i1) (.ref i2)) (h1 : St1 n1 s.heap)
    (hE : ∀ h' e, (∀ c o, c ≠ z → c ≠ i1 → s.heap.get? c = some o → h'.get? c = some o) → (∃ o, h'.get? e = some o ∧ o.cls = .type "StopIteration") → E (.ref e) { s with heap := h' }) :
    wpAny (model prog w) A (Builtin.«zip.__next__» ⟨[.ref z], []⟩) Q E s := by
  show wpAny _ _ (field (.ref z) 2 >>= _) _ _ _
  refine wpAny_bind (wpAny_field hz rfl (x := .bool false) rfl ?_)
  show wpAny _ _ (field (.ref z) 3 >>= _) _ _ _
  refine wpAny_bind (wpAny_field hz rfl (x := .ref TI) rfl (wpAny_bind (wpAny_seqItems hTI rfl ?_)))
  show wpAny _ _ (Builtin.SmallTypes.ownedTupleIsFree (.ref z) >>= _) _ _ _
  refine wpAny_bind ?_
  unfold Builtin.SmallTypes.ownedTupleIsFree
  refine wpAny_bind (wpAny_field hz rfl (x := .none) rfl (wpAny_pure ?_))
  simp only [if_true]
  refine wpAny_bind (wpAny_rule (wpAny_bind (wpAny_field hz rfl (x := .ref TO) rfl (wpAny_bind (wpAny_setField_rec hz (by simp) fun g1 z1 b1 => ?_)))))
  refine wpAny_bind ?_
  simp only [List.zipIdx_cons, List.zipIdx_nil, List.forIn_cons, List.forIn_nil]
  refine wpAny_bind (wpAny_bind (wpAny_onRaise ?_))
  show wpAny _ _ (Builtin.SmallTypes.nextOf (.ref i1) >>= _) _ _ _
  refine wpAny_bind (D1.done _ _ _ (xc D1 h1 b1 az1) fun g2 e b2 he => ?_)
  obtain ⟨oe, hoe, hce⟩ := he
  have z2 : IsZip g2 z TI TO .ellipsis := b2 _ _ (Ne.symm nz) z1
  have nez : e ≠ z := fun q => by subst q; rw [z2] at hoe; cases hoe; simp at hce
  exact wpAny_setField_rec z2 (by simp) fun g3 _ b3 => hE g3 e (fun c o c1 c2 q => (b3.2 c c1).trans (b2 c o c2 ((b1.2 c c1).trans q))) ⟨oe, (b3.2 e nez).trans hoe, hce⟩
end
noncomputable def XF (b : Bool) (h : Heap) (it l : Addr) (k : Nat) : Prop := if b = true then h.IsListIter it l k else h.IsTupleIter it l k
noncomputable def zdN (b : Bool) (h : Heap) (l : Addr) (items : Array Value) : Prop := if b = true then h.IsList l items else h.IsTuple l items
theorem Zz {prog : Program} {w : World} {A : Around} (hh : A.handled = none) (b : Bool) (it l : Addr) (hne : l ≠ it) (items : Array Value) :
    Draws prog w A it [it, l] items.size (fun i v => items[i]? = some v) (fun i h => XF b h it l i ∧ zdN b h l items) := by
  cases b with
  | true => exact Draws.list hh it l hne items
  | false => exact vm hh it l hne items
noncomputable def zfn (b : Bool) (l : Addr) : Obj := { cls := .type (if b = true then "list_iterator" else "tuple_iterator"), data := .fields #[.ref l, .int 0 0] }
noncomputable abbrev zpA (h : Heap) (b1 : Bool) (l1 : Addr) : Heap := h.push (zfn b1 l1)
noncomputable abbrev zpB (h : Heap) (b1 b2 : Bool) (l1 l2 : Addr) : Heap := (zpA h b1 l1).push (zfn b2 l2)
noncomputable abbrev zpC (h : Heap) (b1 b2 : Bool) (l1 l2 : Addr) : Heap := (zpB h b1 b2 l1 l2).push (Obj.mk (.type "tuple") none (.seq #[.ref h.objs.size, .ref (zpA h b1 l1).objs.size]) #[])
noncomputable abbrev zpD (h : Heap) (b1 b2 : Bool) (l1 l2 : Addr) : Heap := (zpC h b1 b2 l1 l2).push (Obj.mk (.type "tuple") none (.seq #[.none, .none]) #[])
noncomputable abbrev zpE (h : Heap) (b1 b2 : Bool) (l1 l2 : Addr) : Heap := (zpD h b1 b2 l1 l2).push (Obj.mk (.type "zip") none (.fields #[.none, .bool false, .bool false, .ref (zpB h b1 b2 l1 l2).objs.size, .ref (zpC h b1 b2 l1 l2).objs.size]) #[])
theorem zbp (b1 b2 : Bool) (l1 l2 : Addr) (xs ys : Array Value) :
    Meets (Builtin.«zip.__new__» ⟨[.type "zip", .ref l1, .ref l2], []⟩) (fun _ R s => zdN b1 s.heap l1 xs ∧ zdN b2 s.heap l2 ys ∧
      R (.ok (.ret (.ref (zpD s.heap b1 b2 l1 l2).objs.size))) { s with heap := zpE s.heap b1 b2 l1 l2 }) :=
  .of_wp fun prog w A R s h => by
    obtain ⟨hp, g, d, tk, os⟩ := s; obtain ⟨hl1, hl2, h⟩ := h
    have hsub := sub_zip
    cases b1 with
    | true =>
      have hL1 : Heap.IsList (Shared.heap ⟨hp, g, d, tk, os⟩) l1 xs := hl1
      cases b2 with
      | true =>
        have hL2 : Heap.IsList (Shared.heap ⟨hp.push { cls := .type "list_iterator", data := .fields #[.ref l1, .int 0 0] }, g, d, tk, os⟩) l2 ys := Heap.IsList.push hl2 _
        wp_walk using wpAny_pyIter_list hL1, wpAny_pyIter_list hL2
        exact ⟨_, rfl, h⟩
      | false =>
        have hL2 : Heap.IsTuple (Shared.heap ⟨hp.push { cls := .type "list_iterator", data := .fields #[.ref l1, .int 0 0] }, g, d, tk, os⟩) l2 ys := Heap.IsTuple.push hl2 _
        wp_walk using wpAny_pyIter_list hL1, wpAny_pyIter_tuple hL2
        exact ⟨_, rfl, h⟩
    | false =>
      have hL1 : Heap.IsTuple (Shared.heap ⟨hp, g, d, tk, os⟩) l1 xs := hl1
      cases b2 with
      | true =>
        have hL2 : Heap.IsList (Shared.heap ⟨hp.push { cls := .type "tuple_iterator", data := .fields #[.ref l1, .int 0 0] }, g, d, tk, os⟩) l2 ys := Heap.IsList.push hl2 _
        wp_walk using wpAny_pyIter_tuple hL1, wpAny_pyIter_list hL2
        exact ⟨_, rfl, h⟩
      | false =>
        have hL2 : Heap.IsTuple (Shared.heap ⟨hp.push { cls := .type "tuple_iterator", data := .fields #[.ref l1, .int 0 0] }, g, d, tk, os⟩) l2 ys := Heap.IsTuple.push hl2 _
        wp_walk using wpAny_pyIter_tuple hL1, wpAny_pyIter_tuple hL2
        exact ⟨_, rfl, h⟩
end PySem
namespace PySem
section
variable {prog : Program} {w : World} {A : Around} {E : Value → Shared → Prop} {s : Shared}
theorem WX {b1 b2 : Bool} {l1 l2 : Addr} {xs ys : Array Value} {Q : Value → Shared → Prop} (hl1 : zdN b1 s.heap l1 xs) (hl2 : zdN b2 s.heap l2 ys)
    (h : ∀ h', IsZip h' (s.heap.objs.size + 4) (s.heap.objs.size + 2) (s.heap.objs.size + 3) .none → IsPair h' (s.heap.objs.size + 2) (.ref s.heap.objs.size) (.ref (s.heap.objs.size + 1)) →
      IsPair h' (s.heap.objs.size + 3) .none .none → XF b1 h' s.heap.objs.size l1 0 → XF b2 h' (s.heap.objs.size + 1) l2 0 →
      (∀ c o, s.heap.get? c = some o → h'.get? c = some o) → Q (.ref (s.heap.objs.size + 4)) { s with heap := h' }) :
    wpAny (model prog w) A (call (.type "zip") [.ref l1, .ref l2]) Q E s := by
  refine callType_new F.called_zip (by decide) (F.typeCall_zip_2 _ _) (F.newCall_zip_2 _ _) (fun obj => F.args_object_init_3 obj _ _) F.entry_zip_new
    (zbp b1 b2 l1 l2 xs ys) ⟨hl1, hl2, ?_⟩
  have z1 : (zpA s.heap b1 l1).objs.size = s.heap.objs.size + 1 := Heap.size_push ..
  have z2 : (zpB s.heap b1 b2 l1 l2).objs.size = s.heap.objs.size + 2 := by rw [Heap.size_push, z1]
  have z3 : (zpC s.heap b1 b2 l1 l2).objs.size = s.heap.objs.size + 3 := by rw [Heap.size_push, z2]
  have z4 : (zpD s.heap b1 b2 l1 l2).objs.size = s.heap.objs.size + 4 := by rw [Heap.size_push, z3]
  have g5 : (zpE s.heap b1 b2 l1 l2).get? (zpD s.heap b1 b2 l1 l2).objs.size = some _ := Heap.get?_push_size _ rfl
  have g4 : (zpE s.heap b1 b2 l1 l2).get? (zpC s.heap b1 b2 l1 l2).objs.size = some _ := Heap.get?_push_of_some _ (Heap.get?_push_size _ rfl)
  have g3 : (zpE s.heap b1 b2 l1 l2).get? (zpB s.heap b1 b2 l1 l2).objs.size = some _ := Heap.get?_push_of_some _ (Heap.get?_push_of_some _ (Heap.get?_push_size _ rfl))
  have g2 : (zpE s.heap b1 b2 l1 l2).get? (zpA s.heap b1 l1).objs.size = some (zfn b2 l2) := Heap.get?_push_of_some _ (Heap.get?_push_of_some _ (Heap.get?_push_of_some _ (Heap.get?_push_size _ rfl)))
  have g1 : (zpE s.heap b1 b2 l1 l2).get? s.heap.objs.size = some (zfn b1 l1) := Heap.get?_push_of_some _ (Heap.get?_push_of_some _ (Heap.get?_push_of_some _ (Heap.get?_push_of_some _ (Heap.get?_push_size _ rfl))))
  show _ ∧ _
  rw [z2, z3, z4] at g5
  rw [z1, z2] at g3
  rw [z3] at g4
  rw [z1] at g2
  rw [z4]
  have it0 : ∀ {b : Bool} {l c : Addr}, (zpE s.heap b1 b2 l1 l2).get? c = some (zfn b l) → XF b (zpE s.heap b1 b2 l1 l2) c l 0 := fun {b l c} e => by
    cases b
    · exact ⟨_, e, rfl, rfl⟩
    · exact ⟨_, e, rfl, rfl⟩
  exact ⟨⟨_, g5, rfl⟩, h _ g5 g3 g4 (it0 g1) (it0 g2) fun c o x =>
    Heap.get?_push_of_some _ (Heap.get?_push_of_some _ (Heap.get?_push_of_some _ (Heap.get?_push_of_some _ (Heap.get?_push_of_some _ x))))⟩
variable {z TI TO i1 i2 : Addr} {fp1 fp2 : List Addr} {n1 n2 k1 k2 : Nat} {P1 P2 : Nat → Value → Prop} {St1 St2 : Nat → Heap → Prop} {a b : Value}
theorem vS {Q : Option Value → Shared → Prop} (D1 : Draws prog w A.in1 i1 fp1 n1 P1 St1) (D2 : Draws prog w A.in1 i2 fp2 n2 P2 St2) (ap : zgs z TI TO i1 i2 fp1 fp2)
    (hz : IsZip s.heap z TI TO .none) (hTI : IsPair s.heap TI (.ref i1) (.ref i2)) (hTO : IsPair s.heap TO a b) (h1 : St1 k1 s.heap) (h2 : St2 k2 s.heap) (l1 : k1 < n1) (l2 : k2 < n2)
    (hQ : ∀ x y h' tk, P1 k1 x → P2 k2 y → IsZip h' z TI TO (rawInt s.heap.objs.size) → IsPair h' TO x y → St1 (k1 + 1) h' → St2 (k2 + 1) h' → IsPair h' s.heap.objs.size x y →
      (∀ c o, c ∉ [z, TO, i1, i2] → s.heap.get? c = some o → h'.get? c = some o) → Q (some (.ref s.heap.objs.size)) { s with heap := h', toks := tk }) :
    wpAny (model prog w) A (pyNext (.ref z)) Q E s := by
  have hT : s.TypeIs (.ref z) "zip" := ⟨_, hz, rfl⟩
  unfold pyNext
  exact wpAny_bind (wpAny_attempt (wpAny_callSpecial?_slot (name := Str.ofString "__next__") hT F.slot_zip_next
    (wpAny_call_entry F.slot_zip_next hT F.entry_zip_next
      (Vj D1 D2 ap hz hTI hTO h1 h2 l1 l2 fun x y h' tk a1 a2 a3 a4 a5 a6 a7 a8 => wpAny_pure (hQ x y h' tk a1 a2 a3 a4 a5 a6 a7 a8)) (F.args_zip_next_1 _))))
theorem Yk {Q : Option Value → Shared → Prop} (D1 : Draws prog w A.in1 i1 fp1 n1 P1 St1) (az1 : z ∉ fp1) (nz : i1 ≠ z)
    (hz : IsZip s.heap z TI TO .none) (hTI : IsPair s.heap TI (.ref i1) (.ref i2)) (h1 : St1 n1 s.heap)
    (hQ : ∀ h', (∀ c o, c ≠ z → c ≠ i1 → s.heap.get? c = some o → h'.get? c = some o) → Q none { s with heap := h' }) : wpAny (model prog w) A (pyNext (.ref z)) Q E s := by
  have hT : s.TypeIs (.ref z) "zip" := ⟨_, hz, rfl⟩
  unfold pyNext
  refine wpAny_bind (wpAny_attempt (wpAny_callSpecial?_slot (name := Str.ofString "__next__") hT F.slot_zip_next
    (wpAny_call_entry F.slot_zip_next hT F.entry_zip_next (zcj D1 az1 nz hz hTI h1 fun h' e hk he => ?_) (F.args_zip_next_1 _))))
  obtain ⟨o, ho, hc⟩ := he
  refine wpAny_bind (wpAny_isInstance (T := "StopIteration") (b := true) ⟨o, ho, hc⟩ isSubtype_stop ?_)
  exact wpAny_pure (hQ _ hk)
end
end PySem
namespace L2
open PySem PySem.Spec PyProof.Rows
noncomputable def Sq (b : Bool) (K : PySem.W.Frag) (H : Hp) (a : Addr) (xs : List V) : Prop := if b = true then SqL K H a xs else SqT K H a xs
theorem Inv.sq {X : Cx} {pins : List (Addr × Obj)} {σ : St} {H : Hp} {s : Shared} {a : Addr} {xs : List V} {b : Bool} (I : Inv X pins σ H s) (h : Sq b X.K H a xs) : ∃ its : List Value, yx xs its ∧ zdN b s.heap a its.toArray ∧ a < s.heap.objs.size := by
  cases b with
  | true =>
    obtain ⟨its, r, p, _⟩ := I.list (show SqL X.K H a xs from h)
    exact ⟨its, r, p.isList, by obtain ⟨o, n, ho, _⟩ := p; exact Heap.lt_size ho⟩
  | false =>
    obtain ⟨its, r, p, _⟩ := I.tuple (show SqT X.K H a xs from h)
    exact ⟨its, r, p, by obtain ⟨o, ho, _⟩ := p; exact Heap.lt_size ho⟩
theorem Inv.sq_inj {X : Cx} {pins : List (Addr × Obj)} {σ : St} {H : Hp} {s : Shared} {a : Addr} {xs ys : List V} {b : Bool} (I : Inv X pins σ H s) (h : Sq b X.K H a xs) (h' : Sq b X.K H a ys) : xs = ys := by
  cases b with
  | true => exact I.list_inj h h'
  | false => exact I.tuple_inj h h'
noncomputable def Izp (K : PySem.W.Frag) (b1 b2 : Bool) (l1 l2 : Addr) : It :=
  ⟨fun i H => ∃ xs ys x y, Sq b1 K H l1 xs ∧ Sq b2 K H l2 ys ∧ xs[i]? = some x ∧ ys[i]? = some y,
   fun i H v H' => ∃ T x y, v = .ref T ∧ H T = none ∧ H' = upd H T (.tup [x, y]) ∧ (∀ xs, Sq b1 K H l1 xs → xs[i]? = some x) ∧ (∀ ys, Sq b2 K H l2 ys → ys[i]? = some y),
   fun i H => ∃ xs, Sq b1 K H l1 xs ∧ i = xs.length⟩
theorem Yq {b : Bool} {h : Heap} {it l : Addr} {k : Nat} (x : XF b h it l k) : ∃ o, h.get? it = some o ∧ ∀ v, o.data ≠ .cell v := by
  cases b
  · obtain ⟨o, ho, _, hd⟩ := x
    exact ⟨o, ho, fun v z => by rw [hd] at z; cases z⟩
  · obtain ⟨o, ho, _, hd⟩ := x
    exact ⟨o, ho, fun v z => by rw [hd] at z; cases z⟩
theorem Zn {b : Bool} {h h' : Heap} {it l : Addr} {k : Nat} (x : XF b h it l k) (e : ∀ o, h.get? it = some o → h'.get? it = some o) : XF b h' it l k := by
  cases b
  · obtain ⟨o, ho, r⟩ := x
    exact ⟨o, e o ho, r⟩
  · obtain ⟨o, ho, r⟩ := x
    exact ⟨o, e o ho, r⟩
theorem zgl {P : Program} {w : World} {K : PySem.W.Frag} {es : List Expr} {k : Nat} {tp : Pos} (b1 b2 : Bool) (l1 l2 z TI TO i1 i2 : Addr) (ap : zgs z TI TO i1 i2 [i1, l1] [i2, l2]) (n1 : l1 ≠ i1) (n2 : l2 ≠ i2) :
    zhm P w K (.Tuple es k tp) (Izp K b1 b2 l1 l2) [z, TI, TO, i1, i2] z (fun i h => IsZip h z TI TO .none ∧ IsPair h TI (.ref i1) (.ref i2) ∧ (∃ a b, IsPair h TO a b) ∧ XF b1 h i1 l1 i ∧ XF b2 h i2 l2 i) where
  mem := by simp
  obj := fun i h st b hb => by
    obtain ⟨hz, hTI, ⟨a, c, hTO⟩, h1, h2⟩ := st
    simp only [List.mem_cons, List.not_mem_nil, or_false] at hb
    rcases hb with rfl | rfl | rfl | rfl | rfl
    · exact ⟨_, hz, fun v z => by cases z⟩
    · exact ⟨_, hTI, fun v z => by cases z⟩
    · exact ⟨_, hTO, fun v z => by cases z⟩
    · exact Yq h1
    · exact Yq h2
  keep := fun i h h' st kk => by
    obtain ⟨hz, hTI, ⟨a, c, hTO⟩, h1, h2⟩ := st
    exact ⟨kk z (by simp) _ hz, kk TI (by simp) _ hTI, ⟨a, c, kk TO (by simp) _ hTO⟩, Zn h1 fun o q => kk i1 (by simp) o q, Zn h2 fun o q => kk i2 (by simp) o q⟩
  item := by
    intro X hP hw hK hc i pins s σ H E I hf st hg
    subst hP hw hK
    obtain ⟨hz, hTI, ⟨a, c, hTO⟩, h1, h2⟩ := st
    obtain ⟨xs, ys, x, y, hq1, hq2, hx, hy⟩ := hg
    obtain ⟨its, rv, p, _⟩ := I.sq hq1
    obtain ⟨its2, rv2, p2, _⟩ := I.sq hq2
    obtain ⟨u, hu, ru⟩ := rv.get hx
    obtain ⟨u2, hu2, ru2⟩ := rv2.get hy
    have hl1 : i < its.toArray.size := by simpa using (List.getElem?_eq_some_iff.mp hu).1
    have hl2 : i < its2.toArray.size := by simpa using (List.getElem?_eq_some_iff.mp hu2).1
    have hh : X.A.in1.handled = none := I.ok.hd hc
    refine vS (Zz hh b1 i1 l1 n1 its.toArray) (Zz hh b2 i2 l2 n2 its2.toArray) ap hz hTI hTO ⟨h1, p⟩ ⟨h2, p2⟩ hl1 hl2 fun v1 v2 h' tk e1 e2 hz' hTO' s1 s2 hT' hk => ?_
    have eu : v1 = u := by
      have : its[i]? = some v1 := by simpa using e1
      rw [hu] at this
      exact (Option.some.inj this).symm
    have eu2 : v2 = u2 := by
      have : its2[i]? = some v2 := by simpa using e2
      rw [hu2] at this
      exact (Option.some.inj this).symm
    subst eu eu2
    obtain ⟨nd, az1, az2, ao1, ao2, a12, a21⟩ := ap
    simp only [List.nodup_cons, List.mem_cons, List.not_mem_nil, or_false, not_or, not_false_eq_true, List.nodup_nil, and_true] at nd
    obtain ⟨⟨m1, m2, m3, m4⟩, ⟨m5, m6, m7⟩, ⟨m8, m9⟩, m10⟩ := nd
    refine ⟨_, rfl, wpAny_letOwnedTupleGo_zip hz' fun h2' hz2 hs2 => ?_⟩
    have hfr : H s.heap.objs.size = none := I.hok.fresh (Nat.le_refl _)
    have neZ : s.heap.objs.size ≠ z := Nat.ne_of_gt (Heap.lt_size hz)
    have hT2 : IsPair h2' s.heap.objs.size v1 v2 := (hs2.2 _ neZ).trans hT'
    have hTI' : IsPair h' TI (.ref i1) (.ref i2) := hk TI _ (by simp [Ne.symm m1, m5, m6, m7]) hTI
    have lt : ∀ b ∈ [z, TI, TO, i1, i2], b < s.heap.objs.size := fun b hb => by
      simp only [List.mem_cons, List.not_mem_nil, or_false] at hb
      rcases hb with rfl | rfl | rfl | rfl | rfl
      · exact Heap.lt_size hz
      · exact Heap.lt_size hTI
      · exact Heap.lt_size hTO
      · obtain ⟨o, ho, _⟩ := Yq h1; exact Heap.lt_size ho
      · obtain ⟨o, ho, _⟩ := Yq h2; exact Heap.lt_size ho
    refine ⟨.ref s.heap.objs.size, upd H s.heap.objs.size (.tup [x, y]), ?_, rfl, ⟨_, x, y, rfl, hfr, rfl, fun zs hz => by rw [I.sq_inj hz hq1]; exact hx, fun zs hz => by rw [I.sq_inj hz hq2]; exact hy⟩,
      ⟨hz2, (hs2.2 TI (Ne.symm m1)).trans hTI', ⟨_, _, (hs2.2 TO (Ne.symm m2)).trans hTO'⟩, Zn s1.1 fun o q => (hs2.2 i1 (Ne.symm m3)).trans q, Zn s2.1 fun o q => (hs2.2 i2 (Ne.symm m4)).trans q⟩, fun b hb => ?_⟩
    · refine I.grown (ch := [z, TI, TO, i1, i2]) hf (Nat.le_refl _) (fun b v hb q => ?_) ?_
      · have nb : b ≠ z := fun w => hb (by simp [w])
        refine (hs2.2 b nb).trans (hk b v (fun w => hb ?_) q)
        simp only [List.mem_cons, List.not_mem_nil, or_false] at w ⊢
        rcases w with w | w | w | w
        · exact .inl w
        · exact .inr (.inr (.inl w))
        · exact .inr (.inr (.inr (.inl w)))
        · exact .inr (.inr (.inr (.inr w)))
      · exact ⟨by show 2 ≤ sizeLine; decide, [v1, v2], .cons ru (.cons ru2 .nil), ⟨_, hT2, rfl, 0, rfl⟩⟩
    · rw [zp (Nat.ne_of_lt (lt b hb))]
      exact (hf b hb).1
  done := by
    intro X hP hw hK hc i pins s σ H E I hf st hg
    subst hP hw hK
    obtain ⟨hz, hTI, ⟨a, c, hTO⟩, h1, h2⟩ := st
    obtain ⟨xs, hq, rfl⟩ := hg
    obtain ⟨its, rv, p, _⟩ := I.sq hq
    have hl := rv.length
    have hh : X.A.in1.handled = none := I.ok.hd hc
    have D := Zz (prog := X.prog) (w := X.w) hh b1 i1 l1 n1 its.toArray
    refine Yk D ap.z1 ?_ hz hTI ⟨by rw [List.size_toArray, ← hl]; exact h1, p⟩ fun h' hk => ⟨rfl, I.turnedN (ch := [z, TI, TO, i1, i2]) (t' := s.toks) hf fun b v hb q => hk b v (fun w => hb (by simp [w])) (fun w => hb (by simp [w])) q⟩
    have nd := ap.nd
    simp only [List.nodup_cons, List.mem_cons, List.not_mem_nil, or_false, not_or, not_false_eq_true, List.nodup_nil, and_true] at nd
    exact Ne.symm nd.1.2.2.1
  self := fun _ _ _ _ _ st h => wpAny_pyIter_zip st.1 h
noncomputable def iZip (K : PySem.W.Frag) (ta : TA) : TI := fun σ H R => ta σ H fun vs H1 => ∃ b1 b2 l1 l2 xs ys, vs = [.ref l1, .ref l2] ∧ Sq b1 K H1 l1 xs ∧ Sq b2 K H1 l2 ys ∧ R (Izp K b1 b2 l1 l2) H1
theorem zjQ {X : Cx} {es : List Expr} {k : Nat} {tp : Pos} {a b : Expr} {ta : TA} {p pos : Pos} (hg : Gl X "zip") (hm : X.mg "zip" = none) (hb : bootBuiltins "zip" = some (.type "zip")) (ha : PA X [a, b] ta)
    (hs : starEach [a, b] X.env = [(false, eval a X.env), (false, eval b X.env)] := by rfl) (hs2 : starEach [b] X.env = [(false, eval b X.env)] := by rfl) : PI X (.Tuple es k tp) (.Call (.Name "zip" p) [a, b] [] pos) (iZip X.K ta) := by
  intro pins s σ H R I h
  refine Call_ (Y1 I hg hm hb (PyProof.Rows.callWith_type1 (thn (ha pos pins s σ H _ I h) fun us s1 hh9 => ?_) (by rw [hs, hs2]) (by rw [hs2]; rfl)))
  obtain ⟨vs, H1, I1, r1, q1⟩ := hh9
  obtain ⟨b1, b2, l1, l2, xs, ys, e, hq1, hq2, q⟩ := q1
  subst e
  obtain ⟨u, u2, rfl, ru, ru2⟩ := zeg r1
  cases ru
  cases ru2
  obtain ⟨its, rv, p1, lt1⟩ := I1.sq hq1
  obtain ⟨its2, rv2, p2, lt2⟩ := I1.sq hq2
  refine WX p1 p2 fun h2 hz hTI hTO hi1 hi2 hk => wpAny_pyIter_zip hz ?_
  have hn : ∀ b, s1.heap.objs.size ≤ b → zdd X pins H1 b := fun b hb => I1.fpOk hb (I1.hok.fresh hb)
  have ap : zgs (s1.heap.objs.size + 4) (s1.heap.objs.size + 2) (s1.heap.objs.size + 3) s1.heap.objs.size (s1.heap.objs.size + 1) [s1.heap.objs.size, l1] [s1.heap.objs.size + 1, l2] := by
    have q1 : l1 ≠ s1.heap.objs.size := Nat.ne_of_lt lt1
    have q2 : ∀ j : Nat, s1.heap.objs.size + j ≠ l1 := fun j e => Nat.lt_irrefl _ (Nat.lt_of_lt_of_le (by rw [← e] at lt1; exact lt1) (Nat.le_add_right _ _))
    have q3 : ∀ j : Nat, s1.heap.objs.size + j ≠ l2 := fun j e => Nat.lt_irrefl _ (Nat.lt_of_lt_of_le (by rw [← e] at lt2; exact lt2) (Nat.le_add_right _ _))
    have ne : ∀ i j : Nat, i ≠ j → s1.heap.objs.size + i ≠ s1.heap.objs.size + j := fun i j h e => h (Nat.add_left_cancel e)
    have n0 : ∀ i : Nat, i ≠ 0 → s1.heap.objs.size + i ≠ s1.heap.objs.size := fun i h e => h (Nat.add_left_cancel (n := s1.heap.objs.size) (m := i) (k := 0) e)
    refine ⟨?_, ?_, ?_, ?_, ?_, ?_, ?_⟩
    · simp only [List.nodup_cons, List.mem_cons, List.not_mem_nil, or_false, not_or, not_false_eq_true, List.nodup_nil, and_true]
      exact ⟨⟨ne 4 2 (by decide), ne 4 3 (by decide), n0 4 (by decide), ne 4 1 (by decide)⟩, ⟨ne 2 3 (by decide), n0 2 (by decide), ne 2 1 (by decide)⟩, ⟨n0 3 (by decide), ne 3 1 (by decide)⟩, Ne.symm (n0 1 (by decide))⟩
    · simp only [List.mem_cons, List.not_mem_nil, or_false, not_or]; exact ⟨n0 4 (by decide), q2 4⟩
    · simp only [List.mem_cons, List.not_mem_nil, or_false, not_or]; exact ⟨ne 4 1 (by decide), q3 4⟩
    · simp only [List.mem_cons, List.not_mem_nil, or_false, not_or]; exact ⟨n0 3 (by decide), q2 3⟩
    · simp only [List.mem_cons, List.not_mem_nil, or_false, not_or]; exact ⟨ne 3 1 (by decide), q3 3⟩
    · simp only [List.mem_cons, List.not_mem_nil, or_false, not_or]; exact ⟨Ne.symm (n0 1 (by decide)), q3 0⟩
    · simp only [List.mem_cons, List.not_mem_nil, or_false, not_or]; exact ⟨n0 1 (by decide), q2 1⟩
  refine ⟨_, _, _, _, H1, rfl, I1.kept (t' := s1.toks) hk, zgl b1 b2 l1 l2 _ _ _ _ _ ap (Nat.ne_of_lt lt1) (Nat.ne_of_lt (Nat.lt_succ_of_lt lt2)), ⟨hz, hTI, ⟨_, _, hTO⟩, hi1, hi2⟩, fun b hb => ?_, q⟩
  simp only [List.mem_cons, List.not_mem_nil, or_false] at hb
  rcases hb with rfl | rfl | rfl | rfl | rfl
  · exact hn _ (Nat.le_add_right _ _)
  · exact hn _ (Nat.le_add_right _ _)
  · exact hn _ (Nat.le_add_right _ _)
  · exact hn _ (Nat.le_refl _)
  · exact hn _ (Nat.le_add_right _ _)
end L2
namespace OwnSort
open PySem PyProof.Rows
section pure
variable {κ : KeyKind} {xs : Array Keyed}
theorem up1 {x : Nat} (hs : SortedToK κ xs x) (hx : 1 ≤ x) (h : κ.kle (KK κ xs (x - 1)) (KK κ xs x)) : SortedToK κ xs (x + 1) := fun i j hij hj => by
  by_cases c : j < x
  · exact hs i j hij c
  · obtain rfl : j = x := by omega
    by_cases d : i = j
    · rw [d]; exact KeyOrd.kle_refl _
    · exact KeyOrd.kle_trans (hs i (j - 1) (by omega) (by omega)) h
theorem zg6 {x : Nat} (hs : NonIncK κ xs x) (hx : 1 ≤ x) (h : κ.kle (KK κ xs x) (KK κ xs (x - 1))) : NonIncK κ xs (x + 1) := fun i j hij hj => by
  by_cases c : j < x
  · exact hs i j hij c
  · obtain rfl : j = x := by omega
    by_cases d : i = j
    · rw [d]; exact KeyOrd.kle_refl _
    · exact KeyOrd.kle_trans h (hs i (j - 1) (by omega) (by omega))
theorem ZE {ys : Array Keyed} {n : Nat} (e : ∀ i, KK κ ys i = KK κ xs i) (h : NonIncK κ xs n) : NonIncK κ ys n := fun i j hij hj => by rw [e, e]; exact h i j hij hj
theorem turned {n : Nat} (hn : n ≤ xs.size) (h : NonIncK κ xs n) : SortedToK κ (mirror xs 0 n ((n - 0) / 2)) n := fun i j hij hj => by
  rw [KK_mirror hn, KK_mirror hn, if_pos ⟨by omega, by omega⟩, if_pos ⟨by omega, by omega⟩]
  exact h _ _ (by omega) (by omega)
theorem zd5 : SortedToK κ xs 1 := fun i j hij hj => by
  obtain rfl : i = j := by omega
  exact KeyOrd.kle_refl _
theorem zd8 : NonIncK κ xs 1 := fun i j hij hj => by
  obtain rfl : i = j := by omega
  exact KeyOrd.kle_refl _
end pure
set_option genInjectivity false in
set_option genSizeOf false in
set_option genCtorIdx false in
structure SB (k : SortKind) (a₀ : Array Keyed) (st : SortSt) : Prop where
  pm : (arrOf st).Perm a₀
  kd : kindOf st = k
  fl : failedOf st = none
  pd : pendingOf st = #[]
theorem SB.sz {k : SortKind} {a₀ : Array Keyed} {st : SortSt} (B : SB k a₀ st) : (arrOf st).size = a₀.size := B.pm.size_eq
theorem SB.put {k : SortKind} {a₀ xs : Array Keyed} {st : SortSt} (B : SB k a₀ st) (p : xs.Perm (arrOf st)) : SB k a₀ (setArr st xs) := ⟨p.trans B.pm, B.kd, B.fl, B.pd⟩
section
variable {prog : Program} {w : World} {A : Around} {E : Value → Shared → Prop} {s : Shared} {a₀ : Array Keyed} {κ : KeyKind} {k : SortKind} {st : SortSt}
noncomputable def zhv (prog : Program) (w : World) (A : Around) (E : Value → Shared → Prop) (s : Shared) (a₀ : Array Keyed) (κ : KeyKind) (k : SortKind) : Prop :=
  ∀ (st : SortSt) (i j : Nat) (Q : Option Bool → SortSt → Prop), SB k a₀ st → i < a₀.size → j < a₀.size → Q (some (κ.blt (KK κ (arrOf st) i) (KK κ (arrOf st) j))) st → wpS (model prog w) A E s (ltAt' i j) Q st
theorem zfx {a n : Nat} {Q : AscSt → SortSt → Prop} (L : zhv prog w A E s a₀ κ k) (hn : n ≤ a₀.size) (ha : 1 ≤ a) (han : a ≤ n) (B : SB k a₀ st) (hs : SortedToK κ (arrOf st) a)
    (h : ∀ m, a ≤ m → m ≤ n → SortedToK κ (arrOf st) m → (m = n ∨ κ.klt (KK κ (arrOf st) m) (KK κ (arrOf st) (m - 1))) → Q (none, m) st) : wpS (model prog w) A E s (ascLoop a n) Q st := by
  unfold ascLoop
  refine wpS_forRange (I := fun x c t => (t = st ∧ c = (none, x)) ∧ SortedToK κ (arrOf st) x) (fun x c t h1 h2 hI => ?_) (fun c t hI => ?_) ⟨⟨rfl, rfl⟩, hs⟩
  · obtain ⟨⟨rfl, rfl⟩, hx⟩ := hI
    refine wpS_bind (L _ x (x - 1) _ B (by omega) (by omega) ?_)
    cases c : κ.blt (KK κ (arrOf t) x) (KK κ (arrOf t) (x - 1)) with
    | true => exact wpS_pure (h x h1 (by omega) hx (.inr c))
    | false => exact wpS_pure ⟨⟨rfl, rfl⟩, up1 hx (by omega) c⟩
  · obtain ⟨⟨rfl, rfl⟩, hx⟩ := hI
    have e : max a n = n := by omega
    rw [e] at hx ⊢
    exact h n han (Nat.le_refl _) hx (.inl rfl)
theorem zdz {n m : Nat} {Q : Option Nat → SortSt → Prop} (L : zhv prog w A E s a₀ κ k) (hm : m ≤ a₀.size) (h1 : 1 ≤ n) (hnm : n ≤ m) (B : SB k a₀ st) (hs : NonIncK κ (arrOf st) n)
    (h : ∀ r t, SB k a₀ t → 1 ≤ r → r ≤ m → SortedToK κ (arrOf t) r → Q (some r) t) : wpS (model prog w) A E s (tail3 n m) Q st := by
  unfold tail3
  have B' := B.put (mirror_perm (arrOf st) 0 n ((n - 0) / 2))
  exact wpS_bind (wpS_reverse (wpS_bind (zfx L hm h1 hnm B' (turned (by rw [B.sz]; omega) hs) fun r g1 g2 g3 _ => wpS_pure (h r _ B' (by omega) g2 g3))))
theorem zgA {n m : Nat} {Q : DescSt → SortSt → Prop} (L : zhv prog w A E s a₀ κ k) (hm : m ≤ a₀.size) (h1 : 1 ≤ n) (hnm : n ≤ m) (B : SB k a₀ st) (hs : NonIncK κ (arrOf st) n)
    (h : ∀ r q t, SB k a₀ t → n ≤ r → r ≤ m → NonIncK κ (arrOf t) r → q + 1 ≤ r → (∀ i, r - (q + 1) ≤ i → i < r → KK κ (arrOf t) i = KK κ (arrOf t) (r - 1)) → Q (none, r, q) t) : wpS (model prog w) A E s (descLoop n m) Q st := by
  unfold descLoop
  refine wpS_forRange (I := fun x c t => ∃ q, c = (none, x, q) ∧ SB k a₀ t ∧ NonIncK κ (arrOf t) x ∧ q + 1 ≤ x ∧ ∀ i, x - (q + 1) ≤ i → i < x → KK κ (arrOf t) i = KK κ (arrOf t) (x - 1))
    (fun x c t g1 g2 hI => ?_) (fun c t hI => ?_) ⟨0, rfl, B, hs, h1, fun i c1 c2 => by rw [show i = n - 1 from Nat.le_antisymm (Nat.le_sub_one_of_lt c2) c1]⟩
  · obtain ⟨q, rfl, B1, ni, hq, he⟩ := hI
    have hxs : x < a₀.size := Nat.lt_of_lt_of_le g2 hm
    have hxs1 : x - 1 < a₀.size := Nat.lt_of_le_of_lt (Nat.sub_le _ _) hxs
    have hx1 : 1 ≤ x := Nat.le_trans h1 g1
    have hz : x ≤ (arrOf t).size := by rw [B1.sz]; exact Nat.le_of_lt hxs
    refine wpS_bind (L _ x (x - 1) _ B1 hxs hxs1 ?_)
    cases c : κ.blt (KK κ (arrOf t) x) (KK κ (arrOf t) (x - 1)) with
    | true =>
      have d := zg6 ni hx1 (KeyOrd.kle_of_klt c)
      by_cases hq0 : q > 0
      · show wpS _ _ _ _ (if q > 0 then _ else _) _ _
        rw [if_pos hq0]
        exact wpS_bind (wpS_reverse (wpS_pure ⟨0, rfl, B1.put (mirror_perm _ _ _ _), ZE (KK_mirror_equal hz he) d, Nat.succ_le_succ (Nat.zero_le _), fun i c1 c2 => by rw [show i = x + 1 - 1 from Nat.le_antisymm (Nat.le_of_lt_succ c2) c1]⟩))
      · show wpS _ _ _ _ (if q > 0 then _ else _) _ _
        rw [if_neg hq0]
        exact wpS_pure ⟨0, rfl, B1, d, Nat.succ_le_succ (Nat.zero_le _), fun i c1 c2 => by rw [show i = x + 1 - 1 from Nat.le_antisymm (Nat.le_of_lt_succ c2) c1]⟩
    | false =>
      refine wpS_bind (L _ (x - 1) x _ B1 hxs1 hxs ?_)
      cases c2 : κ.blt (KK κ (arrOf t) (x - 1)) (KK κ (arrOf t) x) with
      | true => exact wpS_pure (h x q t B1 g1 (Nat.le_of_lt g2) ni hq he)
      | false =>
        have same : KK κ (arrOf t) x = KK κ (arrOf t) (x - 1) := KeyOrd.kle_antisymm c2 c
        refine wpS_pure ⟨q + 1, rfl, B1, zg6 ni hx1 c2, Nat.succ_le_succ hq, fun i d1 d2 => ?_⟩
        show KK κ (arrOf t) i = KK κ (arrOf t) x
        by_cases di : i = x
        · rw [di]
        · rw [same]; exact he i (by omega) (by omega)
  · obtain ⟨q, rfl, B1, ni, hq, he⟩ := hI
    have e : max n m = m := Nat.max_eq_right hnm
    rw [e] at ni hq he ⊢
    exact h m q t B1 hnm (Nat.le_refl _) ni hq he
theorem Y5 {n m : Nat} {Q : Option Nat → SortSt → Prop} (L : zhv prog w A E s a₀ κ k) (hm : m ≤ a₀.size) (hnm : n + 1 ≤ m) (B : SB k a₀ st) (hs : NonIncK κ (arrOf st) (n + 1))
    (h : ∀ r t, SB k a₀ t → 1 ≤ r → r ≤ m → SortedToK κ (arrOf t) r → Q (some r) t) : wpS (model prog w) A E s (descPart n m) Q st := by
  unfold descPart
  refine wpS_bind (wpS_lift (wpAny_rule ⟨rfl, wpS_bind (zgA L hm (by omega) hnm B hs fun r q t B1 r1 r2 ni hq he => ?_)⟩))
  have hz : r ≤ (arrOf t).size := by rw [B1.sz]; omega
  by_cases hq0 : q > 0
  · show wpS _ _ _ _ (if q > 0 then _ else _) _ _
    rw [if_pos hq0]
    exact wpS_bind (wpS_reverse (zdz (n := r) L hm (by omega) r2 (B1.put (mirror_perm _ _ _ _)) (ZE (KK_mirror_equal hz he) ni) h))
  · show wpS _ _ _ _ (if q > 0 then _ else _) _ _
    rw [if_neg hq0]
    exact zdz (n := r) L hm (by omega) r2 B1 ni h
theorem ziX {m : Nat} {Q : Option Nat → SortSt → Prop} (L : zhv prog w A E s a₀ κ k) (hm : m ≤ a₀.size) (h1 : 1 ≤ m) (B : SB k a₀ st)
    (h : ∀ r t, SB k a₀ t → 1 ≤ r → r ≤ m → SortedToK κ (arrOf t) r → Q (some r) t) : wpS (model prog w) A E s (countRun' 0 m) Q st := by
  rw [countRun0_eq]
  refine wpS_bind (zfx L hm (Nat.le_refl 1) h1 B zd5 fun n n1 n2 sn or => ?_)
  show wpS _ _ _ _ (if (n == m) = true then _ else if n > 1 then _ else _) _ _
  by_cases e : n = m
  · rw [if_pos (by rw [e]; exact beq_self_eq_true m)]
    exact wpS_pure (h n st B n1 n2 sn)
  · rw [if_neg (fun z => e (eq_of_beq z))]
    have lt := or.resolve_left e
    by_cases g : n > 1
    · rw [if_pos g]
      refine wpS_bind (L _ 0 (n - 1) _ B (by omega) (by omega) ?_)
      cases c : κ.blt (KK κ (arrOf st) 0) (KK κ (arrOf st) (n - 1)) with
      | true => exact wpS_pure (h n st B n1 n2 sn)
      | false =>
        have hz : n ≤ (arrOf st).size := by rw [B.sz]; omega
        have eq : ∀ i, 0 ≤ i → i < n → KK κ (arrOf st) i = KK κ (arrOf st) (n - 1) := fun i _ hi =>
          KeyOrd.kle_antisymm (sn i (n - 1) (by omega) (by omega)) (KeyOrd.kle_trans c (sn 0 i (by omega) hi))
        have ni : NonIncK κ (arrOf st) n := fun i j _ hj => by rw [eq i (by omega) (by omega), eq j (by omega) hj]; exact KeyOrd.kle_refl _
        exact wpS_bind (wpS_reverse (Y5 L hm (by omega) (B.put (mirror_perm _ _ _ _)) (ZE (KK_mirror_equal hz eq) (zg6 ni (by omega) (KeyOrd.kle_of_klt lt))) h))
    · rw [if_neg g]
      obtain rfl : n = 1 := by omega
      exact Y5 L hm (by omega) B (zg6 zd8 (Nat.le_refl 1) (KeyOrd.kle_of_klt lt)) h
theorem zj0 {l u md : Nat} (h : (l + u) / 2 = md) (c : ¬ l ≥ u) : l ≤ md ∧ md < u := by
  have c' : l < u := Nat.lt_of_not_le c
  rw [← h]
  exact ⟨(Nat.le_div_iff_mul_le (by decide)).mpr (by rw [Nat.mul_two]; exact Nat.add_le_add_left (Nat.le_of_lt c') l), (Nat.div_lt_iff_lt_mul (by decide)).mpr (by rw [Nat.mul_two]; exact Nat.add_lt_add_right c' u)⟩
theorem zlH {l u md x y : Nat} (m1 : l ≤ md) (m2 : md < u) (e3 : u - l ≤ x - y) : md - l ≤ x - (y + 1) :=
  Nat.le_trans (Nat.le_sub_one_of_lt (Nat.sub_lt_sub_right m1 m2)) (Nat.sub_le_sub_right e3 1)
theorem zlx {l u md x y : Nat} (m1 : l ≤ md) (e3 : u - l ≤ x - y) : u - (md + 1) ≤ x - (y + 1) :=
  Nat.le_trans (Nat.sub_le_sub_left (Nat.succ_le_succ m1) u) (Nat.sub_le_sub_right e3 1)
theorem zkg (r n : Nat) : min (max (max r 1) n) n = n := Nat.min_eq_right (Nat.le_max_right _ _)
theorem zkq {r n : Nat} (r0 : ¬ r = 0) (hr : r ≤ n) : min (max r 1) n = r := by
  rw [Nat.max_eq_left (Nat.pos_of_ne_zero r0), Nat.min_eq_left hr]
theorem zkH {i j r n : Nat} (hr : r = 0) (hij : i ≤ j) (hj : j < min (max r 1) n) : i = j := by
  subst hr
  have h0 : j = 0 := Nat.lt_one_iff.mp (Nat.lt_of_lt_of_le hj (Nat.min_le_left _ _))
  subst h0
  exact Nat.le_zero.mp hij
theorem zhR {n r : Nat} {Q : Bool → SortSt → Prop} (L : zhv prog w A E s a₀ κ k) (hn : n ≤ a₀.size) (hr : r ≤ n) (B : SB k a₀ st) (hs : SortedToK κ (arrOf st) r)
    (h : ∀ t, SB k a₀ t → SortedToK κ (arrOf t) n → Q true t) : wpS (model prog w) A E s (binarySort' 0 n r) Q st := by
  rw [binarySort'_eq]
  refine wpS_bind (wpS_mono (wpS_forRange (I := fun x c t => (c = (none, ()) ∧ SB k a₀ t) ∧ SortedToK κ (arrOf t) (min x n)) (Q := fun c t => (c = (none, ()) ∧ SB k a₀ t) ∧ SortedToK κ (arrOf t) n)
    (fun x c t g1 g2 hI => ?_) (fun c t hI => ?_) ⟨⟨rfl, B⟩, ?_⟩) fun c t hI => ?_)
  · obtain ⟨⟨rfl, B1⟩, sx⟩ := hI
    rw [Nat.min_eq_left (Nat.le_of_lt g2)] at sx
    have hx : x < a₀.size := Nat.lt_of_lt_of_le g2 hn
    refine wpS_bind (wpS_mono (wpS_forRange
      (I := fun y c t' => t' = t ∧ ∃ l u, c = (none, l, u) ∧ (l ≤ u ∧ u ≤ x ∧ u - l ≤ x - y) ∧ (∀ i, i < l → κ.kle (KK κ (arrOf t) i) (KK κ (arrOf t) x)) ∧ ∀ i, u ≤ i → i < x → κ.klt (KK κ (arrOf t) x) (KK κ (arrOf t) i))
      (Q := fun c t' => t' = t ∧ ∃ l u, c = (none, l, u) ∧ l ≤ x ∧ (∀ i, i < l → κ.kle (KK κ (arrOf t) i) (KK κ (arrOf t) x)) ∧ ∀ i, l ≤ i → i < x → κ.klt (KK κ (arrOf t) x) (KK κ (arrOf t) i))
      (fun y c t' y1 y2 hJ => ?_) (fun c t' hJ => ?_) ⟨rfl, 0, x, rfl, ⟨Nat.zero_le _, Nat.le_refl _, Nat.le_refl _⟩, fun i hi => absurd hi (Nat.not_lt_zero _), fun i i1 i2 => absurd (Nat.lt_of_le_of_lt i1 i2) (Nat.lt_irrefl _)⟩) fun c t' hJ => ?_)
    · obtain ⟨rfl, l, u, rfl, ⟨e1, e2, e3⟩, lo, up⟩ := hJ
      show wpS _ _ _ _ (if l ≥ u then _ else _) _ _
      by_cases c1 : l ≥ u
      · rw [if_pos c1]
        obtain rfl : l = u := Nat.le_antisymm e1 c1
        exact wpS_pure ⟨rfl, l, l, rfl, e2, lo, up⟩
      · rw [if_neg c1]
        generalize hmd : (l + u) / 2 = md
        obtain ⟨m1, m2⟩ := zj0 hmd c1
        clear hmd c1 e1
        refine wpS_bind (L _ (0 + x) (0 + md) _ B1 (by rw [Nat.zero_add]; exact hx) (by rw [Nat.zero_add]; exact Nat.lt_of_lt_of_le m2 (Nat.le_trans e2 (Nat.le_of_lt hx))) ?_)
        rw [Nat.zero_add, Nat.zero_add]
        cases c2 : κ.blt (KK κ (arrOf t') x) (KK κ (arrOf t') md) with
        | true => exact wpS_pure ⟨rfl, l, md, rfl, ⟨m1, Nat.le_trans (Nat.le_of_lt m2) e2, zlH m1 m2 e3⟩, lo, fun i i1 i2 => KeyOrd.klt_of_klt_of_kle c2 (sx _ _ i1 i2)⟩
        | false => exact wpS_pure ⟨rfl, md + 1, u, rfl, ⟨m2, e2, zlx m1 e3⟩, fun i i1 => KeyOrd.kle_trans (sx i md (Nat.le_of_lt_succ i1) (Nat.lt_of_lt_of_le m2 e2)) c2, up⟩
    · obtain ⟨rfl, l, u, rfl, ⟨e1, e2, e3⟩, lo, up⟩ := hJ
      obtain rfl : l = u := by omega
      exact ⟨rfl, l, l, rfl, e2, lo, up⟩
    · obtain ⟨rfl, l, u, rfl, e2, lo, up⟩ := hJ
      show wpS _ _ _ _ (do moveDown' (0 + x) (0 + l); pure (ForInStep.yield (none, ()))) _ _
      rw [moveDown'_eq, Nat.zero_add, Nat.zero_add]
      refine wpS_bind (wpS_modify (wpS_pure ⟨⟨rfl, B1.put (bubble_perm _ _ _)⟩, ?_⟩))
      have hz : x < (arrOf t').size := by rw [B1.sz]; exact hx
      rw [Nat.min_eq_left (Nat.succ_le_of_lt g2)]
      show SortedToK κ (bubble (arrOf t') x (x - l)) (x + 1)
      intro i j hij hj
      rw [KK_bubble hz (Nat.sub_le _ _), KK_bubble hz (Nat.sub_le _ _), Nat.sub_sub_self e2]
      by_cases i1 : i = l
      · rw [if_pos i1]
        by_cases j1 : j = l
        · rw [if_pos j1]; exact KeyOrd.kle_refl _
        · have lj : l < j := Nat.lt_of_le_of_ne (by rw [← i1]; exact hij) (fun e => j1 e.symm)
          rw [if_neg j1, if_pos ⟨lj, Nat.le_of_lt_succ hj⟩]; exact KeyOrd.kle_of_klt (up _ (Nat.le_sub_one_of_lt lj) (Nat.lt_of_lt_of_le (Nat.sub_lt (Nat.zero_lt_of_lt lj) Nat.one_pos) (Nat.le_of_lt_succ hj)))
      · rw [if_neg i1]
        by_cases i2 : l < i ∧ i ≤ x
        · have lj := Nat.lt_of_lt_of_le i2.1 hij
          rw [if_pos i2, if_neg (fun e => absurd lj (by rw [e]; exact Nat.lt_irrefl _)), if_pos ⟨lj, Nat.le_of_lt_succ hj⟩]; exact sx _ _ (Nat.sub_le_sub_right hij 1) (Nat.lt_of_lt_of_le (Nat.sub_lt (Nat.zero_lt_of_lt lj) Nat.one_pos) (Nat.le_of_lt_succ hj))
        · rw [if_neg i2]
          have i3 : i < l := Nat.lt_of_le_of_ne (Nat.le_of_not_lt fun h => i2 ⟨h, Nat.le_trans hij (Nat.le_of_lt_succ hj)⟩) i1
          clear i2 i1
          by_cases j1 : j = l
          · rw [if_pos j1]; exact lo i i3
          · rw [if_neg j1]
            by_cases j2 : l < j ∧ j ≤ x
            · rw [if_pos j2]; exact sx _ _ (Nat.le_sub_one_of_lt (Nat.lt_trans i3 j2.1)) (Nat.lt_of_lt_of_le (Nat.sub_lt (Nat.zero_lt_of_lt j2.1) Nat.one_pos) (Nat.le_of_lt_succ hj))
            · rw [if_neg j2]; exact sx _ _ hij (Nat.lt_of_lt_of_le (Nat.lt_of_le_of_ne (Nat.le_of_not_lt fun h => j2 ⟨h, Nat.le_of_lt_succ hj⟩) j1) e2)
  · obtain ⟨⟨e1, B1⟩, sx⟩ := hI
    rw [zkg] at sx
    exact ⟨⟨e1, B1⟩, sx⟩
  · by_cases r0 : r = 0
    · intro i j hij hj
      obtain rfl : i = j := zkH r0 hij hj
      exact KeyOrd.kle_refl _
    · rw [zkq r0 hr]; exact hs
  · obtain ⟨⟨rfl, B1⟩, sx⟩ := hI
    exact wpS_pure (h t B1 sx)
theorem zgt {Q : Unit → SortSt → Prop} (L : zhv prog w A E s a₀ κ k) (B : SB k a₀ st) (h2 : 2 ≤ a₀.size) (h64 : a₀.size < 64)
    (h : ∀ t, (arrOf t).Perm a₀ → failedOf t = none → SortedToK κ (arrOf t) a₀.size → Q () t) : wpS (model prog w) A E s sortRuns' Q st := by
  rw [sortRuns'_eq]
  have mr : minRun' a₀.size a₀.size 0 = a₀.size := by
    cases e : a₀.size with
    | zero => omega
    | succ f => rw [minRun'_succ, if_pos (by omega), Nat.add_zero]
  refine wpS_bind (wpS_get ?_)
  simp only [B.sz, mr]
  let Dn : SortSt → Prop := fun t => (arrOf t).Perm a₀ ∧ failedOf t = none ∧ pendingOf t = #[(0, a₀.size, 0)] ∧ SortedToK κ (arrOf t) a₀.size
  have fin : ∀ t, SB k a₀ t → SortedToK κ (arrOf t) a₀.size → Dn (setPending t ((pendingOf t).push (0, a₀.size, 0))) := fun t B1 sx => ⟨B1.pm, B1.fl, by show (pendingOf t).push _ = _; rw [B1.pd]; rfl, sx⟩
  refine wpS_bind (wpS_mono (wpS_forRange (I := fun x c t => (x = 0 ∧ c = (none, 0) ∧ SB k a₀ t) ∨ (1 ≤ x ∧ c = (none, a₀.size) ∧ Dn t)) (Q := fun c t => c = (none, a₀.size) ∧ Dn t)
    (fun x c t g1 g2 hI => ?_) (fun c t hI => ?_) (.inl ⟨rfl, rfl, B⟩)) fun c t hI => ?_)
  · rcases hI with ⟨rfl, rfl, B1⟩ | ⟨_, rfl, D1⟩
    · show wpS _ _ _ _ (if 0 ≥ a₀.size then _ else _) _ _
      rw [if_neg (by omega)]
      simp only [Nat.sub_zero, Nat.min_self, Nat.zero_add]
      refine wpS_bind (ziX L (Nat.le_refl _) (by omega) B1 fun r t2 B2 r1 r2 s2 => ?_)
      show wpS _ _ _ _ (if r < a₀.size then _ else _) _ _
      by_cases c1 : r < a₀.size
      · rw [if_pos c1]
        refine wpS_bind (wpS_lift (wpAny_rule ⟨rfl, wpS_bind (zhR L (Nat.le_refl _) r2 B2 s2 fun t3 B3 s3 => ?_)⟩))
        refine wpS_bind (wpS_get ?_)
        rw [show (pendingOf t3).back? = none by rw [B3.pd]; rfl]
        exact wpS_bind (wpS_modify (wpS_pure (.inr ⟨by omega, rfl, fin t3 B3 s3⟩)))
      · rw [if_neg c1]
        obtain rfl : r = a₀.size := by omega
        refine wpS_bind (wpS_get ?_)
        rw [show (pendingOf t2).back? = none by rw [B2.pd]; rfl]
        exact wpS_bind (wpS_modify (wpS_pure (.inr ⟨by omega, rfl, fin t2 B2 s2⟩)))
    · show wpS _ _ _ _ (if a₀.size ≥ a₀.size then _ else _) _ _
      rw [if_pos (Nat.le_refl _)]
      exact wpS_pure ⟨rfl, D1⟩
  · rcases hI with ⟨z, _, _⟩ | ⟨_, e, D1⟩
    · omega
    · exact ⟨e, D1⟩
  · obtain ⟨rfl, d1, d2, d3, d4⟩ := hI
    refine wpS_bind (wpS_mono (wpS_forRange (I := fun _ c t' => t' = t ∧ c = (none, ())) (Q := fun c t' => t' = t ∧ c = (none, ())) (fun x c t' _ _ hI => ?_) (fun _ _ z => z) ⟨rfl, rfl⟩) fun c t' hI => ?_)
    · obtain ⟨rfl, rfl⟩ := hI
      refine wpS_bind (wpS_get ?_)
      rw [if_pos (by rw [d3]; exact Nat.le_refl 1)]
      exact wpS_pure ⟨rfl, rfl⟩
    · obtain ⟨rfl, rfl⟩ := hI
      exact wpS_pure (h _ d1 d2 d4)
end
end OwnSort
namespace OwnSort
open PySem PyProof.Rows
noncomputable abbrev Pr := Int × Int
noncomputable def bltP (s t : Pr) : Bool := decide (s.1 < t.1 ∨ (s.1 = t.1 ∧ s.2 < t.2))
noncomputable def TP (h : Heap) (v : Value) (t : Pr) : Prop := ∃ a o n tx ty, v = .ref a ∧ h.get? a = some o ∧ o.cls = .type "tuple" ∧ o.data = .seq #[.int t.1 tx, .int t.2 ty] n
theorem TP.uniq {h : Heap} {v : Value} {s t : Pr} (x : TP h v s) (y : TP h v t) : s = t := by
  obtain ⟨a, o, n, tx, ty, rfl, e1, _, d1⟩ := x
  obtain ⟨b, o2, n2, ux, uy, e, e2, _, d2⟩ := y
  cases e
  rw [e1] at e2
  cases e2
  rw [d1] at d2
  injection d2 with d2 _
  have := congrArg Array.toList d2
  simp at this
  exact Prod.ext this.1.1 this.2.1
theorem TP.keep {h h' : Heap} {v : Value} {t : Pr} (x : TP h v t) (k : ∀ b o, h.get? b = some o → h'.get? b = some o) : TP h' v t := by
  obtain ⟨a, o, n, tx, ty, e, e1, r⟩ := x
  exact ⟨a, o, n, tx, ty, e, k _ _ e1, r⟩
open Classical in
noncomputable def keyP (h : Heap) (v : Value) : Option Pr := if x : ∃ t, TP h v t then some x.choose else none
theorem keyP_of {h : Heap} {v : Value} {t : Pr} (x : TP h v t) : keyP h v = some t := by
  unfold keyP
  have y : ∃ t, TP h v t := ⟨t, x⟩
  rw [dif_pos y, y.choose_spec.uniq x]
@[reducible] noncomputable def zgG (h : Heap) : KeyKind where
  α := Pr
  blt := bltP
  irrefl a := by unfold bltP; exact decide_eq_false (by omega)
  trans a b c h1 h2 := by unfold bltP at *; rw [decide_eq_true_eq] at *; omega
  negTrans a b c h := by unfold bltP at *; rw [decide_eq_true_eq] at *; rw [decide_eq_true_eq]; omega
  total a b h1 h2 := by
    unfold bltP at *
    rw [decide_eq_false_iff_not] at *
    exact Prod.ext (by omega) (by omega)
  keyOf := keyP h
  dflt := (0, 0)
theorem zen (b : Bool) (x y : Value) : keyLt' (tuples' b) x y = (do
    let xs ← Builtin.List.listItems x
    let ys ← Builtin.List.listItems y
    for ((p, q), i) in (xs.toList.zip ys.toList).zipIdx do
      if !(← eqBool p q) then return ← oneLt' (b && i == 0) p q
    return xs.size < ys.size) := rfl
theorem zet (v : Value) : firstOfTuple' v = (do
    if (← typeOf v) != .type "tuple" then return none
    return (← Builtin.List.listItems v)[0]?) := rfl
section
variable {prog : Program} {w : World} {A : Around} {E : Value → Shared → Prop} {s : Shared}
theorem lt0 {a b : Int} {t u : Tok} {Q : Bool → Shared → Prop} (h : Q (decide (a < b)) s) : wpAny (model prog w) A (oneLt' false (.int a t) (.int b u)) Q E s := by
  rw [oneLt'_eq]
  rw [if_neg Bool.false_ne_true]
  exact wpAny_bind (PyProof.Rows.lt_int (wpAny_truthy_bool h))
theorem zjN {x y : Value} {a b : Pr} {Q : Bool → Shared → Prop} (hx : TP s.heap x a) (hy : TP s.heap y b) (h : Q (bltP a b) s) : wpAny (model prog w) A (keyLt' (tuples' true) x y) Q E s := by
  obtain ⟨p, o, n, t1, t2, rfl, e1, _, d1⟩ := hx
  obtain ⟨q, o2, n2, u1, u2, rfl, e2, _, d2⟩ := hy
  rw [zen]
  refine wpAny_bind (listItems_at e1 d1 (wpAny_bind (listItems_at e2 d2 ?_)))
  simp only [List.zip_cons_cons, List.zip_nil_right, List.zipIdx_cons, List.zipIdx_nil, List.forIn_cons, List.forIn_nil]
  refine wpAny_bind (wpAny_bind (wpAny_bind (SeqAt.EqAt.int_int a.1 t1 b.1 u1 prog w E _ ?_)))
  by_cases c : a.1 = b.1
  · rw [show (a.1 == b.1) = true by rw [c]; exact beq_self_eq_true _]
    refine wpAny_pure (wpAny_bind (wpAny_bind (SeqAt.EqAt.int_int a.2 t2 b.2 u2 prog w E _ ?_)))
    by_cases c2 : a.2 = b.2
    · rw [show (a.2 == b.2) = true by rw [c2]; exact beq_self_eq_true _]
      refine wpAny_pure (wpAny_pure (wpAny_pure ?_))
      have : bltP a b = false := by unfold bltP; exact decide_eq_false (by omega)
      rw [this] at h
      exact h
    · rw [show (a.2 == b.2) = false by simpa using c2]
      refine wpAny_bind (lt0 (wpAny_pure (wpAny_pure (wpAny_pure ?_))))
      have : bltP a b = decide (a.2 < b.2) := by unfold bltP; congr 1; apply propext; omega
      rw [this] at h
      exact h
  · rw [show (a.1 == b.1) = false by simpa using c]
    refine wpAny_bind (oneLt_int (wpAny_pure (wpAny_pure (wpAny_pure ?_))))
    have : bltP a b = decide (a.1 < b.1) := by unfold bltP; congr 1; apply propext; omega
    rw [this] at h
    exact h
theorem zf5 {vs : List Value} (hT : ∀ v ∈ vs, ∃ t, TP s.heap v t) : zhv prog w A E s (pairsOf vs) (zgG s.heap) (tuples' true) := by
  intro st i j Q B hi hj h
  have look : ∀ {i : Nat}, i < (pairsOf vs).size → ∃ x p t, (arrOf st)[i]? = some (x, p) ∧ TP s.heap x t ∧ KK (zgG s.heap) (arrOf st) i = t := fun {i} hi => by
    have hi' : i < (arrOf st).size := by rw [B.sz]; exact hi
    have hm : (arrOf st)[i] ∈ (pairsOf vs).toList := (Array.perm_iff_toList_perm.mp B.pm).mem_iff.mp (by simp)
    rw [pairsOf_toList] at hm
    obtain ⟨t, ht⟩ := hT _ (mem_zip_self hm).2
    refine ⟨(arrOf st)[i].1, (arrOf st)[i].2, t, getElem?_pos _ i hi', ht, ?_⟩
    unfold KK
    rw [getElem?_pos _ i hi']
    show (keyP s.heap (arrOf st)[i].1).getD _ = t
    rw [keyP_of ht]
    rfl
  obtain ⟨x, p, a, e1, ta, ka⟩ := look hi
  obtain ⟨y, q, b, e2, tb, kb⟩ := look hj
  rw [ka, kb] at h
  rw [ltAt'_eq]
  refine wpS_bind (wpS_get ?_)
  show wpS _ _ _ _ (elem' (arrOf st) i >>= fun x => elem' (arrOf st) j >>= fun y => lt' x y) Q st
  rw [elem'_eq, elem'_eq, e1, e2]
  refine wpS_bind (wpS_pure (wpS_bind (wpS_pure ?_)))
  rw [lt'_eq]
  refine wpS_bind (wpS_get ?_)
  rw [B.kd]
  exact wpS_bind (wpS_lift (wpAny_attempt (zjN ta tb ⟨rfl, wpS_pure h⟩)))
theorem Wl : ∀ {vs : List Value} {Q : List (Option Value) → Shared → Prop}, (∀ v ∈ vs, ∃ t, TP s.heap v t) → (∀ fs : List Value, fs.length = vs.length → (∀ f ∈ fs, ∃ i t, f = .int i t) → Q (fs.map some) s) → wpAny (model prog w) A (vs.mapM firstOfTuple') Q E s
  | [], Q, _, h => by rw [List.mapM_nil]; exact wpAny_pure (h [] rfl (by simp))
  | v :: vs, Q, hT, h => by
    obtain ⟨t, a, o, n, t1, t2, rfl, e1, c1, d1⟩ := hT v List.mem_cons_self
    rw [List.mapM_cons, zet]
    refine wpAny_bind (wpAny_bind (wpAny_typeOf (T := "tuple") ⟨o, e1, c1⟩ ?_))
    rw [if_neg (by simp)]
    refine wpAny_bind (listItems_at e1 d1 (wpAny_pure (wpAny_bind (Wl (fun u hu => hT u (List.mem_cons_of_mem _ hu)) fun fs hl hf => wpAny_pure ?_))))
    exact h (.int t.1 t1 :: fs) (by simp [hl]) fun f hf' => by
      rcases List.mem_cons.mp hf' with rfl | hf'
      · exact ⟨_, _, rfl⟩
      · exact hf f hf'
theorem zdq : ∀ {fs : List Value}, (∀ f ∈ fs, ∃ i t, f = .int i t) → fs.mapM typeOf = pure (fs.map fun _ => Value.type "int")
  | [], _ => by simp
  | f :: fs, h => by
    obtain ⟨i, t, rfl⟩ := h f List.mem_cons_self
    rw [List.mapM_cons, zdq fun g hg => h g (List.mem_cons_of_mem _ hg), show typeOf (.int i t) = pure (.type "int") from rfl]
    simp
theorem zee {v₁ : Value} {vs : List Value} {Q : SortKind → Shared → Prop} (hT : ∀ v ∈ v₁ :: vs, ∃ t, TP s.heap v t) (h : Q (tuples' true) s) : wpAny (model prog w) A (keyKind' (v₁ :: vs).toArray) Q E s := by
  rw [keyKind'_eq, List.mapM_toArray, ← bind_pure_comp, bind_assoc]
  refine wpAny_bind (Wl hT fun fs hl hf => wpAny_bind (wpAny_pure ?_))
  cases fs with
  | nil => simp at hl
  | cons f fs =>
    rw [if_pos (by simp)]
    have ef : ((f :: fs).map some).toArray.filterMap id = (f :: fs).toArray := by simp
    refine wpAny_bind (wpAny_rule ?_)
    rw [ef, oneTypeOnly'_eq, List.mapM_toArray, zdq hf]
    simp only [map_pure, pure_bind]
    rw [show (List.map (fun _ => Value.type "int") (f :: fs)).toArray[0]? = some (Value.type "int") by simp]
    have al : ((List.map (fun _ => Value.type "int") (f :: fs)).toArray.all fun x => x == Value.type "int") = true := by
      simp only [List.all_toArray, List.all_map, List.all_eq_true]
      intro _ _
      rfl
    simp only [al, if_true, pure_bind, Option.any_some]
    rw [show (Value.type "int" != Value.type "tuple") = true by decide +kernel]
    exact wpAny_pure h
end
end OwnSort
namespace OwnSort
open PySem PyProof.Rows
theorem TP.keepT {h h' : Heap} {v : Value} {t : Pr} (x : TP h v t) (k : ∀ b o, o.cls = .type "tuple" → h.get? b = some o → h'.get? b = some o) : TP h' v t := by
  obtain ⟨a, o, n, tx, ty, e, e1, c, r⟩ := x
  exact ⟨a, o, n, tx, ty, e, k _ _ c e1, c, r⟩
noncomputable def zjA (h : Heap) (out : List Value) : Prop := ∃ ts : List Pr, out.length = ts.length ∧ (∀ (i : Nat) (v : Value) (t : Pr), out[i]? = some v → ts[i]? = some t → TP h v t) ∧ ts.Pairwise fun a b => bltP b a = false
theorem zbX {h h' : Heap} {vs : List Value} {xs : Array Keyed} (hT : ∀ v ∈ vs, ∃ t, TP h v t) (hk : ∀ v t, TP h v t → TP h' v t) (pm : xs.Perm (pairsOf vs)) (hs : SortedToK (zgG h') xs (pairsOf vs).size) : (xs.map (·.2)).toList.Perm vs ∧ zjA h (xs.map (·.2)).toList := by
  have hl : xs.toList.Perm (vs.zip vs) := by rw [← pairsOf_toList]; exact Array.perm_iff_toList_perm.mp pm
  have hm : ∀ p ∈ xs.toList, p.1 = p.2 ∧ p.1 ∈ vs := fun p hp => mem_zip_self (hl.mem_iff.mp hp)
  have e2 : (xs.map (·.2)).toList = xs.toList.map (·.2) := by simp
  rw [e2]
  refine ⟨?_, xs.toList.map fun p => (keyP h' p.1).getD (0, 0), by simp, fun i v t hv ht => ?_, ?_⟩
  · have := hl.map (·.2)
    rwa [show (vs.zip vs).map (·.2) = vs from List.map_snd_zip (Nat.le_refl _)] at this
  · rw [List.getElem?_map] at hv ht
    cases hx : xs.toList[i]? with
    | none => rw [hx] at hv; cases hv
    | some p =>
      rw [hx] at hv ht
      cases hv
      cases ht
      obtain ⟨q1, q2⟩ := hm p (List.mem_of_getElem? hx)
      obtain ⟨t, ht⟩ := hT _ q2
      show TP h p.2 ((keyP h' p.1).getD (0, 0))
      rw [keyP_of (hk _ _ ht), ← q1]
      exact ht
  · rw [List.pairwise_iff_getElem]
    intro i j hi hj hij
    have hi' : i < xs.size := by simpa using hi
    have hj' : j < xs.size := by simpa using hj
    have := hs i j (Nat.le_of_lt hij) (by rw [← pm.size_eq]; exact hj')
    unfold KK at this
    rw [getElem?_pos xs i hi', getElem?_pos xs j hj'] at this
    have this : bltP ((keyP h' xs[j].1).getD (0, 0)) ((keyP h' xs[i].1).getD (0, 0)) = false := this
    simpa using this
section
variable {prog : Program} {w : World} {A : Around} {E : Value → Shared → Prop} {s : Shared}
theorem Xx {a : Addr} {vs : List Value} {n : Nat} {P : Fin → Shared → Prop} (ho : s.heap.get? a = some (seqObj "list" vs.toArray n)) (hT : ∀ v ∈ vs, ∃ t, TP s.heap v t) (h64 : vs.length < 64)
    (h : ∀ out : Array Value, out.toList.Perm vs → zjA s.heap out.toList → P (.done (.ret .none)) { s with heap := sortedHeap s.heap a vs out }) : wpAny (model prog w) A (Builtin.«list.sort» ⟨[.ref a], []⟩) P E s := by
  have la : a < s.heap.objs.size := Heap.lt_size ho
  have zl : vs.toArray.size = vs.length := List.size_toArray
  obtain ⟨e1, o1⟩ : ∃ e1, (s.heap.update a (Obj.mapSeq fun _ => #[])).get? a = some (seqObj "list" #[] e1) := ⟨_, get?_update_seq ho (fun _ => #[])⟩
  have o6 : (((s.heap.update a (Obj.mapSeq fun _ => #[])).push (seqObj "tuple" vs.toArray 0)).push (seqObj "list" #[] 0)).get? a = some (seqObj "list" #[] e1) := Heap.get?_push_of_some _ (Heap.get?_push_of_some _ o1)
  have up : ∀ b o, o.cls = .type "tuple" → s.heap.get? b = some o → (((s.heap.update a (Obj.mapSeq fun _ => #[])).push (seqObj "tuple" vs.toArray 0)).push (seqObj "list" #[] 0)).get? b = some o := fun b o c e => by
    refine Heap.get?_push_of_some _ (Heap.get?_push_of_some _ ((Heap.get?_update_other _ _ fun z => ?_).trans e))
    subst z
    rw [ho] at e
    cases e
    exact absurd (show Value.type "list" = Value.type "tuple" from c) (by decide +kernel)
  have hT6 : ∀ v ∈ vs, ∃ t, TP (((s.heap.update a (Obj.mapSeq fun _ => #[])).push (seqObj "tuple" vs.toArray 0)).push (seqObj "list" #[] 0)) v t := fun v hv => let ⟨t, ht⟩ := hT v hv; ⟨t, ht.keepT up⟩
  rw [list_sort_plain]
  refine wpAny_bind (listItems_at ho rfl (wpAny_bind (listUpdate_at ho rfl (wpAny_bind (seqEpoch_at o1 rfl (wpAny_bind (wpAny_newTuple (wpAny_bind (wpAny_newList (wpAny_holding ?_))))))))))
  show wpAny (model prog w) A _ P E { s with heap := ((s.heap.update a (Obj.mapSeq fun _ => #[])).push (seqObj "tuple" vs.toArray 0)).push (seqObj "list" #[] 0) }
  by_cases c2 : vs.toArray.size < 2
  · rw [if_pos c2, if_pos c2]
    refine wpAny_bind (wpAny_pure ?_)
    dsimp only
    rw [StateT.run_pure]
    refine wpAny_bind (wpAny_pure ?_)
    obtain ⟨r1, r2⟩ := zbX (xs := pairsOf vs) hT (fun v t ht => ht) (Array.Perm.refl _) (fun i j hij hj => by
      obtain rfl : i = j := by rw [pairsOf_size] at hj; omega
      exact KeyOrd.kle_refl _)
    refine wpAny_bind (seqEpoch_at o6 rfl (wpAny_bind (listUpdate_at o6 rfl ?_ (hsz2 := by rw [Array.size_map]; show (pairsOf vs).size ≤ _; rw [pairsOf_size, sizeLine_eq]; omega))))
    rw [show (e1 != e1) = false by simp]
    exact wpAny_pure (h _ r1 r2)
  · rw [if_neg c2, if_neg c2]
    cases vs with
    | nil => simp at c2
    | cons v₁ rest =>
      refine wpAny_bind (zee hT6 ?_)
      refine wpAny_bind (wpAny_mono (zgt (st := SortSt.mk' (tuples' true) ((v₁ :: rest).toArray.zip (v₁ :: rest).toArray) #[] 7 none) (Q := fun _ t => (arrOf t).Perm (pairsOf (v₁ :: rest)) ∧ failedOf t = none ∧ SortedToK (zgG _) (arrOf t) (pairsOf (v₁ :: rest)).size)
        (zf5 hT6) ⟨Array.Perm.refl _, rfl, rfl, rfl⟩ (by rw [pairsOf_size]; omega) (by rw [pairsOf_size]; exact h64) fun t p1 p2 p3 => ⟨p1, p2, p3⟩) ?_ fun _ _ e => e)
      rintro ⟨⟨⟩, t⟩ s' ⟨rfl, p1, p2, p3⟩
      obtain ⟨r1, r2⟩ := zbX hT (fun v t ht => ht.keepT up) p1 p3
      refine wpAny_bind (seqEpoch_at o6 rfl (wpAny_bind (listUpdate_at o6 rfl ?_ (hsz2 := by rw [Array.size_map]; show (arrOf t).size ≤ _; rw [p1.size_eq, pairsOf_size, sizeLine_eq]; omega))))
      rw [p2, show (e1 != e1) = false by simp]
      exact wpAny_pure (h _ r1 r2)
theorem own_sorted {l : Addr} {vs : List Value} {Q : Value → Shared → Prop} (hl : s.heap.IsList l vs.toArray) (hT : ∀ v ∈ vs, ∃ t, TP s.heap v t) (h64 : vs.length < 64)
    (h : ∀ out : Array Value, out.toList.Perm vs → zjA s.heap out.toList → Q (.ref (s.heap.objs.size + 1)) { s with heap := sortedAll s.heap vs out }) : wpAny (model prog w) A (call (.builtin "sorted") [.ref l]) Q E s := by
  have z1 : ((s.heap.push (seqObj "list" #[] 0)).update s.heap.objs.size (Obj.mapSeq (· ++ vs.toArray))).objs.size = s.heap.objs.size + 1 := (Heap.size_update ..).trans (size_push' _ _)
  have oL : (((s.heap.push (seqObj "list" #[] 0)).update s.heap.objs.size (Obj.mapSeq (· ++ vs.toArray))).push (seqObj "list" vs.toArray 0)).get? (s.heap.objs.size + 1) = some (seqObj "list" vs.toArray 0) := z1 ▸ Heap.get?_push_size _ rfl
  have up : ∀ b o, s.heap.get? b = some o → (((s.heap.push (seqObj "list" #[] 0)).update s.heap.objs.size (Obj.mapSeq (· ++ vs.toArray))).push (seqObj "list" vs.toArray 0)).get? b = some o := fun b o e =>
    Heap.get?_push_of_some _ ((Heap.get?_update_other _ _ fun z => by subst z; exact absurd (Heap.lt_size e) (Nat.lt_irrefl _)).trans (Heap.get?_push_of_some _ e))
  refine Calls.call_function_entry kind_sorted plain_sorted entry_sorted (args_sorted1 _) ?_
  unfold Builtin.«sorted»
  refine wpAny_bind (m := checkCount "sorted" 1 1 _) (wpAny_pure (wpAny_bind (collect_list hl (wpAny_bind (wpAny_newList ?_)))))
  show wpAny _ _ _ _ _ (Shared.mk (((s.heap.push (seqObj "list" #[] 0)).update s.heap.objs.size (Obj.mapSeq (· ++ vs.toArray))).push (seqObj "list" vs.toArray 0)) s.gens s.drawn s.toks s.os)
  rw [z1]
  refine wpAny_bind (wpAny_holding (wpAny_call_entry slot_list_sort ⟨_, oL, rfl⟩ entry_list_sort (Xx oL (fun v hv => let ⟨t, ht⟩ := hT v hv; ⟨t, ht.keep up⟩) h64 fun out p1 p2 => ⟨_, rfl, wpAny_pure ⟨_, rfl, h out p1 ?_⟩⟩) (args_list_sort _)))
  obtain ⟨ts, q1, q2, q3⟩ := p2
  refine ⟨ts, q1, fun i v t hv ht => ?_, q3⟩
  obtain ⟨t0, ht0⟩ := hT v (p1.mem_iff.mp (List.mem_of_getElem? hv))
  rw [(q2 i v t hv ht).uniq (ht0.keep up)]
  exact ht0
end
end OwnSort
namespace Dl
open PySem L2
class KK where
  K : PySem.W.Frag
inductive D where
  | non | bl (b : Bool) | int (i : Int) | str (x : Str) | tup (ds : List D) | lst (ds : List D) | scr (ns : List Int)
    | dct (z t : Bool) (ks : List (List Key)) (vs : List D)
  deriving Inhabited
section
variable [KK]
noncomputable def V4 (o : HO) (t : Bool) (ks : List (List Key)) (xs : List V) : Prop :=
  if t = true then ∃ kvs, o = .dT kvs ∧ kvs.map (·.1) = ks ∧ kvs.map (·.2) = xs else ∃ kvs : List (Key × V), o = .dK kvs ∧ kvs.map (fun p => [p.1]) = ks ∧ kvs.map (·.2) = xs
noncomputable def Vz (H : Hp) (a : Addr) (z t : Bool) (ks : List (List Key)) (xs : List V) : Prop :=
  ∃ u, V4 u t ks xs ∧ if z = true then ∃ ob, H a = some (.frz ob u) else H a = some u
theorem Vz.mono {H H' : Hp} {a : Addr} {z t : Bool} {ks : List (List Key)} {xs : List V} (s : yl H H') (h : Vz H a z t ks xs) : Vz H' a z t ks xs := by
  obtain ⟨u, h1, h2⟩ := h
  refine ⟨u, h1, ?_⟩
  cases z with
  | true =>
    rw [if_pos rfl] at h2 ⊢
    obtain ⟨ob, h2⟩ := h2
    exact ⟨ob, s _ _ h2⟩
  | false =>
    rw [if_neg Bool.false_ne_true] at h2 ⊢
    exact s _ _ h2
theorem Vz.rd {H : Hp} {a : Addr} {z t : Bool} {ks : List (List Key)} {xs : List V} (h : Vz H a z t ks xs) : ∃ u, V4 u t ks xs ∧ Rd H a u := by
  obtain ⟨u, h1, h2⟩ := h
  refine ⟨u, h1, ?_⟩
  cases z with
  | true =>
    rw [if_pos rfl] at h2
    obtain ⟨ob, h2⟩ := h2
    exact .inr ⟨ob, h2⟩
  | false =>
    rw [if_neg Bool.false_ne_true] at h2
    exact .inl h2
mutual
noncomputable def At (H : Hp) : D → V → Prop
  | .non, v => v = .non
  | .bl b, v => v = .bl b
  | .int i, v => v = .int i
  | .str x, v => v = .str x
  | .tup ds, v => ∃ a xs, v = .ref a ∧ H a = some (.tup xs) ∧ AtL H ds xs
  | .lst ds, v => ∃ a xs, v = .ref a ∧ H a = some (.lst xs) ∧ AtL H ds xs
  | .scr ns, v => ∃ a, v = .ref a ∧ SqL KK.K H a (ns.map V.int)
  | .dct z t ks vs, v => ∃ a xs, v = .ref a ∧ Vz H a z t ks xs ∧ AtL H vs xs
noncomputable def AtL (H : Hp) : List D → List V → Prop
  | [], xs => xs = []
  | d :: ds, xs => ∃ x r, xs = x :: r ∧ At H d x ∧ AtL H ds r
end
mutual
theorem At.mono {H H' : Hp} (s : yl H H') : ∀ {d : D} {v : V}, At H d v → At H' d v
  | .non, _, h => by unfold At at h ⊢; exact h
  | .bl _, _, h => by unfold At at h ⊢; exact h
  | .int _, _, h => by unfold At at h ⊢; exact h
  | .str _, _, h => by unfold At at h ⊢; exact h
  | .tup ds, _, h => by
    unfold At at h ⊢
    obtain ⟨a, xs, e, hx, hl⟩ := h
    exact ⟨a, xs, e, s _ _ hx, AtL.mono s hl⟩
  | .lst ds, _, h => by
    unfold At at h ⊢
    obtain ⟨a, xs, e, hx, hl⟩ := h
    exact ⟨a, xs, e, s _ _ hx, AtL.mono s hl⟩
  | .scr ns, _, h => by
    unfold At at h ⊢
    obtain ⟨a, e, hx⟩ := h
    exact ⟨a, e, s.seq hx⟩
  | .dct z t ks vs, _, h => by
    unfold At at h ⊢
    obtain ⟨a, xs, e, hx, hl⟩ := h
    exact ⟨a, xs, e, hx.mono s, AtL.mono s hl⟩
theorem AtL.mono {H H' : Hp} (s : yl H H') : ∀ {ds : List D} {xs : List V}, AtL H ds xs → AtL H' ds xs
  | [], _, h => by unfold AtL at h ⊢; exact h
  | d :: ds, _, h => by
    unfold AtL at h ⊢
    obtain ⟨x, r, e, h1, h2⟩ := h
    exact ⟨x, r, e, At.mono s h1, AtL.mono s h2⟩
end
mutual
noncomputable def noL : D → Bool
  | .tup ds => zld ds
  | .lst _ => false
  | .scr _ => false
  | .dct _ _ _ _ => false
  | _ => true
noncomputable def zld : List D → Bool
  | [] => true
  | d :: ds => noL d && zld ds
end
mutual
theorem At.flat {G F : Hp} (h : ∀ q xs, G q = some (.tup xs) → F q = some (.tup xs)) : ∀ {d : D} {v : V}, noL d = true → At G d v → At F d v
  | .non, _, _, a => by unfold At at a ⊢; exact a
  | .bl _, _, _, a => by unfold At at a ⊢; exact a
  | .int _, _, _, a => by unfold At at a ⊢; exact a
  | .str _, _, _, a => by unfold At at a ⊢; exact a
  | .tup ds, _, n, a => by
    unfold At at a ⊢
    unfold noL at n
    obtain ⟨p, xs, e, hx, hl⟩ := a
    exact ⟨p, xs, e, h _ _ hx, AtL.flat h n hl⟩
  | .lst ds, _, n, _ => by unfold noL at n; cases n
  | .scr ds, _, n, _ => by unfold noL at n; cases n
  | .dct _ _ _ _, _, n, _ => by unfold noL at n; cases n
theorem AtL.flat {G F : Hp} (h : ∀ q xs, G q = some (.tup xs) → F q = some (.tup xs)) : ∀ {ds : List D} {xs : List V}, zld ds = true → AtL G ds xs → AtL F ds xs
  | [], _, _, a => by unfold AtL at a ⊢; exact a
  | d :: ds, _, n, a => by
    unfold AtL at a ⊢
    unfold zld at n
    rw [Bool.and_eq_true] at n
    obtain ⟨x, r, e, h1, h2⟩ := a
    exact ⟨x, r, e, At.flat h n.1 h1, AtL.flat h n.2 h2⟩
end
section
variable {H H' : Hp} {d : D} {ds es : List D} {v x : V} {xs ys : List V}
theorem At.int {i : Int} : At H (.int i) (.int i) := by unfold At; rfl
theorem At.bl {b : Bool} : At H (.bl b) (.bl b) := by unfold At; rfl
theorem At.non : At H .non .non := by unfold At; rfl
theorem At.str {y : Str} : At H (.str y) (.str y) := by unfold At; rfl
theorem At.tup {a : Addr} (h : H a = some (.tup xs)) (hl : AtL H ds xs) : At H (.tup ds) (.ref a) := by unfold At; exact ⟨a, xs, rfl, h, hl⟩
theorem At.lst {a : Addr} (h : H a = some (.lst xs)) (hl : AtL H ds xs) : At H (.lst ds) (.ref a) := by unfold At; exact ⟨a, xs, rfl, h, hl⟩
theorem AtL.nil : AtL H [] [] := by unfold AtL; rfl
theorem AtL.cons (h : At H d x) (hl : AtL H ds xs) : AtL H (d :: ds) (x :: xs) := by unfold AtL; exact ⟨x, xs, rfl, h, hl⟩
theorem At.int_inv {i : Int} (h : At H (.int i) v) : v = .int i := by unfold At at h; exact h
theorem At.bl_inv {b : Bool} (h : At H (.bl b) v) : v = .bl b := by unfold At at h; exact h
theorem At.non_inv (h : At H .non v) : v = .non := by unfold At at h; exact h
theorem At.str_inv {y : Str} (h : At H (.str y) v) : v = .str y := by unfold At at h; exact h
theorem At.tup_inv (h : At H (.tup ds) v) : ∃ a xs, v = .ref a ∧ H a = some (.tup xs) ∧ AtL H ds xs := by unfold At at h; exact h
theorem At.lst_inv (h : At H (.lst ds) v) : ∃ a xs, v = .ref a ∧ H a = some (.lst xs) ∧ AtL H ds xs := by unfold At at h; exact h
theorem At.scr_inv {ns : List Int} (h : At H (.scr ns) v) : ∃ a, v = .ref a ∧ SqL KK.K H a (ns.map V.int) := by unfold At at h; exact h
theorem At.dct_inv {z t : Bool} {ks : List (List Key)} {vs : List D} (h : At H (.dct z t ks vs) v) : ∃ a xs, v = .ref a ∧ Vz H a z t ks xs ∧ AtL H vs xs := by unfold At at h; exact h
theorem AtL.nil_inv (h : AtL H [] xs) : xs = [] := by unfold AtL at h; exact h
theorem AtL.cons_inv (h : AtL H (d :: ds) xs) : ∃ x r, xs = x :: r ∧ At H d x ∧ AtL H ds r := by unfold AtL at h; exact h
theorem AtL.length : ∀ {ds : List D} {xs : List V}, AtL H ds xs → xs.length = ds.length
  | [], _, h => by rw [h.nil_inv]; rfl
  | _ :: _, _, h => by
    obtain ⟨x, r, rfl, _, h2⟩ := h.cons_inv
    rw [List.length_cons, List.length_cons, AtL.length h2]
theorem AtL.get : ∀ {ds : List D} {xs : List V} {i : Nat} {d : D}, AtL H ds xs → ds[i]? = some d → ∃ x, xs[i]? = some x ∧ At H d x
  | [], _, _, _, _, e => by simp at e
  | _ :: _, _, i, _, h, e => by
    obtain ⟨x, r, rfl, h1, h2⟩ := h.cons_inv
    cases i with
    | zero =>
      simp at e
      subst e
      exact ⟨x, rfl, h1⟩
    | succ i =>
      obtain ⟨y, hy, ha⟩ := AtL.get (i := i) h2 (by simpa using e)
      exact ⟨y, by simpa using hy, ha⟩
theorem AtL.append : ∀ {ds es : List D} {xs ys : List V}, AtL H ds xs → AtL H es ys → AtL H (ds ++ es) (xs ++ ys)
  | [], _, _, _, h, k => by rw [h.nil_inv]; exact k
  | _ :: _, _, _, _, h, k => by
    obtain ⟨x, r, rfl, h1, h2⟩ := h.cons_inv
    exact .cons h1 (AtL.append h2 k)
theorem AtL.snoc (h : AtL H ds xs) (k : At H d v) : AtL H (ds ++ [d]) (xs ++ [v]) := h.append (.cons k .nil)
theorem AtL.take : ∀ (n : Nat) {ds : List D} {xs : List V}, AtL H ds xs → AtL H (ds.take n) (xs.take n)
  | 0, _, _, _ => by simpa using AtL.nil
  | n + 1, [], _, h => by rw [h.nil_inv]; simpa using AtL.nil
  | n + 1, _ :: _, _, h => by
    obtain ⟨x, r, rfl, h1, h2⟩ := h.cons_inv
    rw [List.take_succ_cons, List.take_succ_cons]
    exact .cons h1 (AtL.take n h2)
theorem AtL.drop : ∀ (n : Nat) {ds : List D} {xs : List V}, AtL H ds xs → AtL H (ds.drop n) (xs.drop n)
  | 0, _, _, h => h
  | n + 1, [], _, h => by rw [h.nil_inv]; simpa using AtL.nil
  | n + 1, _ :: _, _, h => by
    obtain ⟨x, r, rfl, h1, h2⟩ := h.cons_inv
    rw [List.drop_succ_cons, List.drop_succ_cons]
    exact AtL.drop n h2
theorem AtL.set : ∀ (n : Nat) {ds : List D} {xs : List V}, AtL H ds xs → At H d v → AtL H (ds.set n d) (xs.set n v)
  | _, [], _, h, _ => by rw [h.nil_inv]; simpa using AtL.nil
  | 0, _ :: _, _, h, k => by
    obtain ⟨x, r, rfl, h1, h2⟩ := h.cons_inv
    exact .cons k h2
  | n + 1, _ :: _, _, h, k => by
    obtain ⟨x, r, rfl, h1, h2⟩ := h.cons_inv
    exact .cons h1 (AtL.set n h2 k)
theorem AtL.rep (h : AtL H ds xs) : ∀ k : Nat, AtL H (List.replicate k ds).flatten (List.replicate k xs).flatten
  | 0 => .nil
  | k + 1 => by
    rw [List.replicate_succ, List.replicate_succ, List.flatten_cons, List.flatten_cons]
    exact h.append (AtL.rep h k)
theorem AtL.ints (ns : List Int) : AtL H (ns.map D.int) (ns.map V.int) := by
  induction ns with
  | nil => exact .nil
  | cons n r ih => exact .cons .int ih
theorem AtL.of_ints : ∀ {ns : List Int} {xs : List V}, AtL H (ns.map D.int) xs → xs = ns.map V.int
  | [], _, h => h.nil_inv
  | n :: r, _, h => by
    obtain ⟨x, r', rfl, h1, h2⟩ := AtL.cons_inv (by simpa using h)
    rw [h1.int_inv, AtL.of_ints h2]
    rfl
end
noncomputable def tyN : D → String
  | .non => "NoneType" | .bl _ => "bool" | .int _ => "int" | .str _ => "str" | .tup _ => "tuple" | .lst _ => "list" | .scr _ => "list" | .dct _ _ _ _ => "dict"
noncomputable def Hid (F' : Hp) (p : Addr) (o : HO) : Prop := F' p = none ∨ ((∃ xs, o = .tup xs) ∧ F' p = some o)
noncomputable def Keep (F H F' H' : Hp) : Prop := ∀ p o, F p = none → H p = some o → Hid F' p o ∧ H' p = some o
set_option genInjectivity false in
set_option genSizeOf false in
set_option genCtorIdx false in
structure Gr (F H F' H' : Hp) : Prop where
  ff : yl F F'
  fh : yl F' H'
  kp : Keep F H F' H'
theorem Gr.refl {F H : Hp} (s : yl F H) : Gr F H F H := ⟨yl.refl _, s, fun _ _ a b => ⟨.inl a, b⟩⟩
theorem Gr.trans {F H F1 H1 F2 H2 : Hp} (a : Gr F H F1 H1) (b : Gr F1 H1 F2 H2) : Gr F H F2 H2 :=
  ⟨a.ff.trans b.ff, b.fh, fun p o e1 e2 => by
    obtain ⟨x, y⟩ := a.kp p o e1 e2
    rcases x with x | ⟨x1, x2⟩
    · exact b.kp p o x y
    · exact ⟨.inr ⟨x1, b.ff _ _ x2⟩, b.fh _ _ (b.ff _ _ x2)⟩⟩
theorem Gr.kl {F H F' H' : Hp} {p : Addr} {o : HO} (g : Gr F H F' H') (n : ∀ xs, o ≠ .tup xs) (e1 : F p = none) (e2 : H p = some o) : F' p = none ∧ H' p = some o := by
  obtain ⟨x, y⟩ := g.kp p o e1 e2
  rcases x with x | ⟨⟨xs, x1⟩, _⟩
  · exact ⟨x, y⟩
  · exact absurd x1 (n xs)
theorem Gr.alloc {F H : Hp} {p : Addr} (s : yl F H) (h : H p = none) (o : HO) : Gr F H (upd F p o) (upd H p o) := by
  have hF : F p = none := s.free h
  refine ⟨fun b u q => ?_, fun b u q => ?_, fun b u q r => ?_⟩
  · rw [zp (zj q hF)]; exact q
  · by_cases e : b = p
    · subst e; rw [zo] at q ⊢; exact q
    · rw [zp e] at q ⊢; exact s b u q
  · have e : b ≠ p := zj r h
    rw [zp e]; exact ⟨.inl (by rw [zp e]; exact q), r⟩
theorem Gr.hide {F H : Hp} {p : Addr} (s : yl F H) (h : H p = none) (o : HO) : Gr F H F (upd H p o) := by
  refine ⟨yl.refl _, fun b u q => ?_, fun b u q r => ?_⟩
  · rw [zp (zj (s b u q) h)]; exact s b u q
  · have e : b ≠ p := zj r h
    rw [zp e]; exact ⟨.inl q, r⟩
theorem Gr.show {F H : Hp} {p : Addr} {o : HO} {F0 H0 : Hp} (g : Gr F0 H0 F H) (h0 : H0 p = none) (hF : F p = none) (h : H p = some o) : Gr F0 H0 (upd F p o) H := by
  refine ⟨fun b u q => ?_, fun b u q => ?_, fun b u q r => ?_⟩
  · have := g.ff b u q
    rw [zp (zj this hF)]; exact this
  · by_cases e : b = p
    · subst e; rw [zo] at q; rw [← q]; exact h
    · rw [zp e] at q; exact g.fh b u q
  · have e : b ≠ p := zj r h0
    obtain ⟨x, y⟩ := g.kp b u q r
    refine ⟨?_, y⟩
    unfold Hid
    rw [zp e]
    exact x
noncomputable abbrev Ev := List (Option D)
noncomputable def VAt (F : Hp) (ρ : Ev) (σ : St) : Prop := ∀ (i : Nat) (d : D), ρ[i]? = some (some d) → ∃ v, σ[i]? = some (some v) ∧ At F d v
theorem VAt.mono {F F' : Hp} {ρ : Ev} {σ : St} (h : VAt F ρ σ) (s : yl F F') : VAt F' ρ σ := fun i d e => let ⟨v, e1, a⟩ := h i d e; ⟨v, e1, a.mono s⟩
noncomputable def RE (t : TE) (f : Ev → Option D) : Prop :=
  ∀ (σ : St) (ρ : Ev) (F H : Hp) (d : D) (Q : VK), yl F H → VAt F ρ σ → f ρ = some d → (∀ F' H' v, Gr F H F' H' → At F' d v → Q v H') → t σ H Q
noncomputable def RT (t : TT) (f : Ev → Option Bool) : Prop :=
  ∀ (σ : St) (ρ : Ev) (F H : Hp) (b : Bool) (Q : Bool → Hp → Prop), yl F H → VAt F ρ σ → f ρ = some b → (∀ F' H', Gr F H F' H' → Q b H') → t σ H Q
noncomputable def RA (t : TA) (f : Ev → Option (List D)) : Prop :=
  ∀ (σ : St) (ρ : Ev) (F H : Hp) (ds : List D) (Q : List V → Hp → Prop), yl F H → VAt F ρ σ → f ρ = some ds → (∀ F' H' vs, Gr F H F' H' → AtL F' ds vs → Q vs H') → t σ H Q
noncomputable def RF (t : TE) (f : Ev → Option (List D)) : Prop :=
  ∀ (σ : St) (ρ : Ev) (F H : Hp) (ds : List D) (Q : VK), yl F H → VAt F ρ σ → f ρ = some ds → (∀ F' H' p xs, Gr F H F' H' → H p = none → F' p = none → H' p = some (.lst xs) → AtL F' ds xs → Q (.ref p) H') → t σ H Q
noncomputable def ED (X : Cx) (e : Expr) (f : Ev → Option D) : Prop := ∃ t, PE X e t ∧ RE t f
noncomputable def TD (X : Cx) (e : Expr) (f : Ev → Option Bool) : Prop := ∃ t, PT X e t ∧ RT t f
noncomputable def WD (X : Cx) (e : Expr) (f : Ev → Option Bool) : Prop := ∃ t, PW X e t ∧ RT t f
noncomputable def AD (X : Cx) (es : List Expr) (f : Ev → Option (List D)) : Prop := ∃ t, PA X es t ∧ RA t f
noncomputable def FL (X : Cx) (e : Expr) (f : Ev → Option (List D)) : Prop := ∃ t, PE X e t ∧ RF t f
section
variable {X : Cx} {a b c : Expr} {pos : Pos}
noncomputable def wV (f : Ev → Option (List D)) : Ev → Option D := fun ρ => (f ρ).map .lst
theorem vI {f : Ev → Option (List D)} (h : FL X a f) : ED X a (wV f) := by
  obtain ⟨t, ht, r⟩ := h
  refine ⟨t, ht, fun σ ρ F H d Q s va e q => ?_⟩
  obtain ⟨ds, e1, rfl⟩ := Option.map_eq_some_iff.mp e
  refine r σ ρ F H ds Q s va e1 fun F' H' p xs g h0 hF hH hx => ?_
  have g2 := g.show h0 hF hH
  exact q _ _ _ g2 (At.lst zo (hx.mono (fun b u e => by rw [zp (zj e hF)]; exact e)))
noncomputable def zf (i : Nat) : Ev → Option D := fun ρ => (ρ[i]?).getD none
theorem za (i : Nat) (h : PE X a (zhE i)) : ED X a (zf i) := by
  refine ⟨_, h, fun σ ρ F H d Q s va e q => ?_⟩
  have e' : ρ[i]? = some (some d) := by
    unfold zf at e
    cases h : ρ[i]? with
    | none => rw [h] at e; cases e
    | some x => rw [h] at e; cases x with
      | none => cases e
      | some y => cases e; rfl
  obtain ⟨v, e1, a1⟩ := va i d e'
  exact ⟨v, e1, q _ _ _ (.refl s) a1⟩
noncomputable def eC (d : D) : Ev → Option D := fun _ => some d
theorem zk {i : Int} (h : PE X a (tC (.int i))) : ED X a (eC (.int i)) := ⟨_, h, fun _ _ _ _ _ _ s _ e q => by cases e; exact q _ _ _ (.refl s) .int⟩
theorem vY {i : Bool} (h : PE X a (tC (.bl i))) : ED X a (eC (.bl i)) := ⟨_, h, fun _ _ _ _ _ _ s _ e q => by cases e; exact q _ _ _ (.refl s) .bl⟩
theorem zaC (h : PE X a (tC .non)) : ED X a (eC .non) := ⟨_, h, fun _ _ _ _ _ _ s _ e q => by cases e; exact q _ _ _ (.refl s) .non⟩
noncomputable def OpD (r : R2) (g : D → D → Option D) : Prop :=
  ∀ (F H : Hp) (x y : V) (d e z : D) (Q : VK), yl F H → At F d x → At F e y → g d e = some z → (∀ F' H' v, Gr F H F' H' → At F' z v → Q v H') → r x y H Q
noncomputable def zr (g : D → D → Option D) (f h : Ev → Option D) : Ev → Option D := fun ρ => (f ρ).bind fun x => (h ρ).bind fun y => g x y
theorem zf9 {r : R2} {g : D → D → Option D} {ta tb : TE} {f h : Ev → Option D} (hg : OpD r g) (ra : RE ta f) (rb : RE tb h) : RE (tOp r ta tb) (zr g f h) := by
  intro σ ρ F H z Q s va e q
  obtain ⟨x, e1, e⟩ := Option.bind_eq_some_iff.mp e
  obtain ⟨y, e2, e⟩ := Option.bind_eq_some_iff.mp e
  refine ra σ ρ F H x _ s va e1 fun F1 H1 v g1 a1 => ?_
  refine rb σ ρ F1 H1 y _ g1.fh (va.mono g1.ff) e2 fun F2 H2 u g2 a2 => ?_
  exact hg F2 H2 v u x y z Q g2.fh (a1.mono g2.ff) a2 e fun F3 H3 w g3 a3 => q F3 H3 w ((g1.trans g2).trans g3) a3
theorem Xm {op : Operator} {r : R2} {g : D → D → Option D} {f h : Ev → Option D} (ho : OpR X (binaryOp op) r) (hg : OpD r g) (ha : ED X a f) (hb : ED X b h) : ED X (.BinOp a op b pos) (zr g f h) :=
  let ⟨_, pa, ra⟩ := ha
  let ⟨_, pb, rb⟩ := hb
  ⟨_, zjv ho pa pb, zf9 hg ra rb⟩
theorem Xb {op : CmpOp} {r : R2} {g : D → D → Option D} {f h : Ev → Option D} (ho : OpR X (compareOp op) r) (hg : OpD r g) (hm : behindInMarks op b = false) (ha : ED X a f) (hb : ED X b h) : ED X (.Compare a [op] [b] pos) (zr g f h) :=
  let ⟨_, pa, ra⟩ := ha
  let ⟨_, pb, rb⟩ := hb
  ⟨_, zhW ho pa pb hm, zf9 hg ra rb⟩
noncomputable def asB : D → Option Bool
  | .bl b => some b
  | _ => none
theorem Zm {d : D} {b : Bool} (h : asB d = some b) : d = .bl b := by
  cases d <;> first | (cases h; rfl) | cases h
noncomputable def tOf (f : Ev → Option D) : Ev → Option Bool := fun ρ => (f ρ).bind asB
theorem zjs {t : TE} {f : Ev → Option D} (r : RE t f) : RT (zkR t) (tOf f) := by
  intro σ ρ F H b Q s va e q
  obtain ⟨x, e1, e⟩ := Option.bind_eq_some_iff.mp e
  cases Zm e
  exact r σ ρ F H _ _ s va e1 fun F1 H1 v g1 a1 => ⟨b, a1.bl_inv, q F1 H1 g1⟩
theorem zV {op : CmpOp} {r : R2} {g : D → D → Option D} {f h : Ev → Option D} (ho : OpR X (compareOp op) r) (hg : OpD r g) (hm : behindInMarks op b = false) (ha : ED X a f) (hb : ED X b h) : TD X (.Compare a [op] [b] pos) (tOf (zr g f h)) :=
  let ⟨_, pa, ra⟩ := ha
  let ⟨_, pb, rb⟩ := hb
  ⟨_, ziM ho pa pb hm, zjs (zf9 hg ra rb)⟩
theorem x8 {f : Ev → Option D} (ha : ED X a f) (he : ∀ whole, isTrue a X.env whole = (do let v ← whole; standAt a.pos; holding [v] (truthy v)) := by intro _; rfl) : TD X a (tOf f) :=
  let ⟨_, pa, ra⟩ := ha
  ⟨_, zkp pa he, zjs ra⟩
noncomputable def xy (f g : Ev → Option Bool) : Ev → Option Bool := fun ρ => (f ρ).bind fun c => if c = true then g ρ else some false
noncomputable def Xu (f g : Ev → Option Bool) : Ev → Option Bool := fun ρ => (f ρ).bind fun c => if c = true then some true else g ρ
noncomputable def xb (f : Ev → Option Bool) : Ev → Option Bool := fun ρ => (f ρ).map (!·)
theorem YU {f : Ev → Option Bool} (ha : TD X a f) : WD X (.BoolOp .And [a] pos) f := let ⟨_, pa, ra⟩ := ha; ⟨_, zh7 pa, ra⟩
theorem zdw {f : Ev → Option Bool} (ha : TD X a f) : WD X (.BoolOp .Or [a] pos) f := let ⟨_, pa, ra⟩ := ha; ⟨_, zkV pa, ra⟩
theorem Xj {rest : List Expr} {f g : Ev → Option Bool} (ha : TD X a f) (hb : WD X (.BoolOp .And (b :: rest) pos) g) : WD X (.BoolOp .And (a :: b :: rest) pos) (xy f g) := by
  obtain ⟨ta, pa, ra⟩ := ha
  obtain ⟨tb, pb, rb⟩ := hb
  refine ⟨_, zkD pa pb, fun σ ρ F H z Q s va e q => ?_⟩
  obtain ⟨x, e1, e⟩ := Option.bind_eq_some_iff.mp e
  refine ra σ ρ F H x _ s va e1 fun F1 H1 g1 => ?_
  cases x with
  | true =>
    rw [if_pos rfl] at e ⊢
    exact rb σ ρ F1 H1 z Q g1.fh (va.mono g1.ff) e fun F2 H2 g2 => q F2 H2 (g1.trans g2)
  | false =>
    rw [if_neg Bool.false_ne_true] at e ⊢
    cases e
    exact q F1 H1 g1
theorem zgo {rest : List Expr} {f g : Ev → Option Bool} (ha : TD X a f) (hb : WD X (.BoolOp .Or (b :: rest) pos) g) : WD X (.BoolOp .Or (a :: b :: rest) pos) (Xu f g) := by
  obtain ⟨ta, pa, ra⟩ := ha
  obtain ⟨tb, pb, rb⟩ := hb
  refine ⟨_, zlC pa pb, fun σ ρ F H z Q s va e q => ?_⟩
  obtain ⟨x, e1, e⟩ := Option.bind_eq_some_iff.mp e
  refine ra σ ρ F H x _ s va e1 fun F1 H1 g1 => ?_
  cases x with
  | false =>
    rw [if_neg Bool.false_ne_true] at e ⊢
    exact rb σ ρ F1 H1 z Q g1.fh (va.mono g1.ff) e fun F2 H2 g2 => q F2 H2 (g1.trans g2)
  | true =>
    rw [if_pos rfl] at e ⊢
    cases e
    exact q F1 H1 g1
theorem zfW {f : Ev → Option Bool} (h : WD X a f) : TD X a f := let ⟨_, p, r⟩ := h; ⟨_, p.pt, r⟩
theorem vK {f : Ev → Option Bool} (ha : TD X a f) : TD X (.UnaryOp .Not a pos) (xb f) := by
  obtain ⟨ta, pa, ra⟩ := ha
  refine ⟨_, zjo pa, fun σ ρ F H z Q s va e q => ?_⟩
  obtain ⟨x, e1, rfl⟩ := Option.map_eq_some_iff.mp e
  exact ra σ ρ F H x _ s va e1 fun F1 H1 g1 => q F1 H1 g1
noncomputable def Ze (f g : Ev → Option D) : Ev → Option D := fun ρ => ((f ρ).bind asB).bind fun c => if c = true then g ρ else some (.bl false)
noncomputable def eOr (f g : Ev → Option D) : Ev → Option D := fun ρ => ((f ρ).bind asB).bind fun c => if c = true then some (.bl true) else g ρ
noncomputable def Wf (f : Ev → Option D) : Ev → Option D := fun ρ => ((f ρ).bind asB).map fun c => .bl (!c)
theorem ZB {op} {f : Ev → Option D} (ha : ED X a f) : ED X (.BoolOp op [a] pos) f := let ⟨_, pa, ra⟩ := ha; ⟨_, zj7 pa, ra⟩
theorem Yc {rest : List Expr} {f g : Ev → Option D} (ha : ED X a f) (hb : ED X (.BoolOp .And (b :: rest) pos) g) : ED X (.BoolOp .And (a :: b :: rest) pos) (Ze f g) := by
  obtain ⟨ta, pa, ra⟩ := ha
  obtain ⟨tb, pb, rb⟩ := hb
  refine ⟨_, zkN pa pb, fun σ ρ F H z Q s va e q => ?_⟩
  obtain ⟨x, e1, e⟩ := Option.bind_eq_some_iff.mp e
  obtain ⟨y, e1, e2⟩ := Option.bind_eq_some_iff.mp e1
  cases Zm e2
  refine ra σ ρ F H _ _ s va e1 fun F1 H1 v g1 a1 => ⟨x, a1.bl_inv, ?_⟩
  cases x with
  | true =>
    rw [if_pos rfl] at e ⊢
    exact rb σ ρ F1 H1 z Q g1.fh (va.mono g1.ff) e fun F2 H2 w g2 a2 => q F2 H2 w (g1.trans g2) a2
  | false =>
    rw [if_neg Bool.false_ne_true] at e ⊢
    cases e
    exact q F1 H1 _ g1 .bl
theorem zhJ {f : Ev → Option D} (ha : ED X a f) : ED X (.UnaryOp .Not a pos) (Wf f) := by
  obtain ⟨ta, pa, ra⟩ := ha
  refine ⟨_, zk4 pa, fun σ ρ F H z Q s va e q => ?_⟩
  obtain ⟨x, e1, rfl⟩ := Option.map_eq_some_iff.mp e
  obtain ⟨y, e1, e2⟩ := Option.bind_eq_some_iff.mp e1
  cases Zm e2
  exact ra σ ρ F H _ _ s va e1 fun F1 H1 v g1 a1 => ⟨x, a1.bl_inv, q F1 H1 _ g1 .bl⟩
noncomputable def eIf (t : Ev → Option Bool) (f g : Ev → Option D) : Ev → Option D := fun ρ => (t ρ).bind fun c => if c = true then f ρ else g ρ
noncomputable def eUn (g : D → Option D) (f : Ev → Option D) : Ev → Option D := fun ρ => (f ρ).bind g
noncomputable def zcv : D → Option D
  | .int i => some (.int (-i))
  | _ => none
noncomputable def zy : Ev → Option (List D) := fun _ => some []
noncomputable def zd (f : Ev → Option D) (g : Ev → Option (List D)) : Ev → Option (List D) := fun ρ => (f ρ).bind fun d => (g ρ).map (d :: ·)
theorem zg : AD X [] zy := ⟨_, ZA, fun _ _ _ _ _ _ s _ e q => by cases e; exact q _ _ _ (.refl s) .nil⟩
theorem zc {e : Expr} {es : List Expr} {f : Ev → Option D} {g : Ev → Option (List D)} (ha : ED X e f) (hr : AD X es g) (hs : starEach (e :: es) X.env = (false, eval e X.env) :: starEach es X.env := by rfl) : AD X (e :: es) (zd f g) := by
  obtain ⟨ta, pa, ra⟩ := ha
  obtain ⟨tb, pb, rb⟩ := hr
  refine ⟨_, wD pa pb hs, fun σ ρ F H z Q s va e q => ?_⟩
  obtain ⟨x, e1, e⟩ := Option.bind_eq_some_iff.mp e
  obtain ⟨ds, e2, rfl⟩ := Option.map_eq_some_iff.mp e
  refine ra σ ρ F H x _ s va e1 fun F1 H1 v g1 a1 => ?_
  exact rb σ ρ F1 H1 ds _ g1.fh (va.mono g1.ff) e2 fun F2 H2 w g2 a2 => q F2 H2 _ (g1.trans g2) (.cons (a1.mono g2.ff) a2)
noncomputable def lim (n : Nat) : Bool := decide (n ≤ sizeLine)
noncomputable def v5 (g : Ev → Option (List D)) : Ev → Option D := fun ρ => (g ρ).bind fun ds => if lim ds.length = true then some (.tup ds) else none
noncomputable def xi (g : Ev → Option (List D)) : Ev → Option (List D) := fun ρ => (g ρ).bind fun ds => if lim ds.length = true then some ds else none
theorem Y6 {es : List Expr} {x1} {g : Ev → Option (List D)} (h : AD X es g) : ED X (.Tuple es x1 pos) (v5 g) := by
  obtain ⟨ta, pa, ra⟩ := h
  refine ⟨_, zhP pa, fun σ ρ F H z Q s va e q => ?_⟩
  obtain ⟨ds, e1, e⟩ := Option.bind_eq_some_iff.mp e
  split at e <;> cases e
  rename_i hl
  refine ra σ ρ F H ds _ s va e1 fun F1 H1 vs g1 a1 => ⟨by rw [a1.length]; exact of_decide_eq_true hl, fun p hp => ?_⟩
  have g2 := Gr.alloc g1.fh hp (.tup vs)
  exact q _ _ _ (g1.trans g2) (.tup zo (a1.mono g2.ff))
theorem vL {es : List Expr} {g : Ev → Option (List D)} (h : AD X es g) : FL X (.List es pos) (xi g) := by
  obtain ⟨ta, pa, ra⟩ := h
  refine ⟨_, zk1 pa, fun σ ρ F H z Q s va e q => ?_⟩
  obtain ⟨ds, e1, e⟩ := Option.bind_eq_some_iff.mp e
  split at e <;> cases e
  rename_i hl
  refine ra σ ρ F H _ _ s va e1 fun F1 H1 vs g1 a1 => ⟨by rw [a1.length]; exact of_decide_eq_true hl, fun p hp => ?_⟩
  have g2 := Gr.hide g1.fh hp (.lst vs)
  have h0 : H p = none := by
    cases e : H p with
    | none => rfl
    | some o =>
      cases e2 : F p with
      | none => rw [(g1.kp p o e2 e).2] at hp; cases hp
      | some u => rw [g1.fh _ _ (g1.ff _ _ e2)] at hp; cases hp
  exact q _ _ _ _ (g1.trans g2) h0 (g1.fh.free hp) zo a1
end
end
end Dl
namespace Dl
open PySem L2
variable [KK]
inductive Sl where
  | no | v (d : D) | o (ds : List D) | m (t : Bool) (ks : List (List Key)) (vs : List D)
  deriving Inhabited
noncomputable abbrev SE := List Sl
noncomputable def Sl.f : Sl → Option D
  | .v d => some d
  | _ => none
noncomputable def Sl.g : Sl → Option D
  | .v d => some d
  | .o ds => some (.lst ds)
  | .m t ks vs => some (.dct false t ks vs)
  | .no => none
noncomputable def Sl.isO : Sl → Bool
  | .o _ => true
  | .m _ _ _ => true
  | _ => false
noncomputable def visF (ρ : SE) : Ev := ρ.map Sl.f
noncomputable def visG (ρ : SE) : Ev := ρ.map Sl.g
noncomputable def zdE (F : Hp) (o : HO) : Sl → Prop
  | .o ds => ∃ xs, o = .lst xs ∧ AtL F ds xs
  | .m t ks ds => ∃ xs, V4 o t ks xs ∧ AtL F ds xs
  | _ => False
theorem zdE.mono {F F' : Hp} {o : HO} {s : Sl} (h : zdE F o s) (k : yl F F') : zdE F' o s := by
  cases s with
  | no => exact h
  | v d => exact h
  | o ds => obtain ⟨xs, e, a⟩ := h; exact ⟨xs, e, a.mono k⟩
  | m t ks ds => obtain ⟨xs, e, a⟩ := h; exact ⟨xs, e, a.mono k⟩
theorem zdE.isO {F : Hp} {o : HO} {s : Sl} (h : zdE F o s) : s.isO = true := by
  cases s with
  | no => exact h.elim
  | v d => exact h.elim
  | o ds => rfl
  | m t ks ds => rfl
theorem zdE.ntup {F : Hp} {o : HO} {s : Sl} (h : zdE F o s) (xs : List V) : o ≠ .tup xs := by
  cases s with
  | no => exact h.elim
  | v d => exact h.elim
  | o ds => obtain ⟨ys, rfl, _⟩ := h; intro e; cases e
  | m t ks ds =>
    obtain ⟨ys, e, _⟩ := h
    unfold V4 at e
    split at e
    · obtain ⟨kvs, rfl, _⟩ := e; intro e; cases e
    · obtain ⟨kvs, rfl, _⟩ := e; intro e; cases e
theorem zdE.at {F G : Hp} {o : HO} {s : Sl} {d : D} {p : Addr} (h : zdE F o s) (e : s.g = some d) (hp : G p = some o) (k : yl F G) : At G d (.ref p) := by
  cases s with
  | no => exact h.elim
  | v d => exact h.elim
  | o ds =>
    cases e
    obtain ⟨xs, rfl, a⟩ := h
    exact .lst hp (a.mono k)
  | m t ks ds =>
    cases e
    obtain ⟨xs, e, a⟩ := h
    unfold At
    exact ⟨p, xs, rfl, ⟨o, e, hp⟩, a.mono k⟩
set_option genInjectivity false in
set_option genSizeOf false in
set_option genCtorIdx false in
structure Rl (Fb Hb F H : Hp) (ρ : SE) (σ : St) : Prop where
  gr : Gr Fb Hb F H
  vals : ∀ (i : Nat) (d : D), ρ[i]? = some (.v d) → ∃ v, σ[i]? = some (some v) ∧ At F d v
  ows : ∀ (i : Nat) (s : Sl), ρ[i]? = some s → s.isO = true → ∃ p o, σ[i]? = some (some (.ref p)) ∧ Hb p = none ∧ F p = none ∧ H p = some o ∧ zdE F o s
  dis : ∀ (i j : Nat) (p : Addr) (s t : Sl), ρ[i]? = some s → ρ[j]? = some t → s.isO = true → t.isO = true → σ[i]? = some (some (.ref p)) → σ[j]? = some (some (.ref p)) → i = j
  len : ρ.length = σ.length
section
variable {Fb Hb F H F' H' : Hp} {ρ ρ' : SE} {σ σ' : St}
theorem Rl.owns (r : Rl Fb Hb F H ρ σ) (i : Nat) (ds : List D) (e : ρ[i]? = some (.o ds)) : ∃ p xs, σ[i]? = some (some (.ref p)) ∧ Hb p = none ∧ F p = none ∧ H p = some (.lst xs) ∧ AtL F ds xs := by
  obtain ⟨p, o, e1, e2, e3, e4, xs, rfl, a⟩ := r.ows i _ e rfl
  exact ⟨p, xs, e1, e2, e3, e4, a⟩
theorem Rl.grow (r : Rl Fb Hb F H ρ σ) (g : Gr F H F' H') : Rl Fb Hb F' H' ρ σ := by
  refine ⟨r.gr.trans g, fun i d e => ?_, fun i s e h => ?_, r.dis, r.len⟩
  · obtain ⟨v, e1, a⟩ := r.vals i d e
    exact ⟨v, e1, a.mono g.ff⟩
  · obtain ⟨p, o, e1, e2, e3, e4, a⟩ := r.ows i s e h
    obtain ⟨k1, k2⟩ := g.kl a.ntup e3 e4
    exact ⟨p, o, e1, e2, k1, k2, a.mono g.ff⟩
theorem Rl.visF (r : Rl Fb Hb F H ρ σ) : VAt F (visF ρ) σ := fun i d e => by
  unfold Dl.visF at e
  rw [List.getElem?_map] at e
  cases h : ρ[i]? with
  | none => rw [h] at e; cases e
  | some x =>
    rw [h] at e
    cases x with
    | no => cases e
    | v d' =>
      cases e
      exact r.vals i d h
    | o ds => cases e
    | m t ks ds => cases e
noncomputable def Own (ρ : SE) (σ : St) (p : Addr) : Prop := ∃ (i : Nat) (s : Sl), ρ[i]? = some s ∧ s.isO = true ∧ σ[i]? = some (some (.ref p))
open Classical in
noncomputable def gOf (ρ : SE) (σ : St) (F H : Hp) : Hp := fun p => if Own ρ σ p then H p else F p
open Classical in
noncomputable def fOf (ρ : SE) (σ : St) (G : Hp) : Hp := fun p => if Own ρ σ p then none else G p
theorem Rl.own (r : Rl Fb Hb F H ρ σ) {p : Addr} (h : Own ρ σ p) : Hb p = none ∧ F p = none ∧ ∃ o, H p = some o ∧ ∀ xs, o ≠ .tup xs := by
  obtain ⟨i, s, e1, e2, e3⟩ := h
  obtain ⟨q, o, e4, e5, e6, e7, a⟩ := r.ows i s e1 e2
  rw [e3] at e4
  cases e4
  exact ⟨e5, e6, o, e7, a.ntup⟩
theorem Rl.notown (r : Rl Fb Hb F H ρ σ) {q : Addr} (h : H q = none) (j : Nat) (s : Sl) (e1 : ρ[j]? = some s) (e2 : s.isO = true) : σ[j]? ≠ some (some (.ref q)) := fun e => by
  obtain ⟨p, o, f1, _, _, f4, _⟩ := r.ows j s e1 e2
  rw [e] at f1
  cases f1
  rw [h] at f4
  cases f4
theorem Rl.notbase (r : Rl Fb Hb F H ρ σ) {q : Addr} (h : H q = none) : Hb q = none := by
  cases z : Hb q with
  | none => rfl
  | some o =>
    cases z2 : Fb q with
    | none => rw [(r.gr.kp q o z2 z).2] at h; cases h
    | some u => rw [r.gr.fh _ _ (r.gr.ff _ _ z2)] at h; cases h
theorem Rl.fg (r : Rl Fb Hb F H ρ σ) : yl F (gOf ρ σ F H) := fun p o e => by
  unfold gOf
  split
  · exact r.gr.fh p o e
  · exact e
theorem Rl.gh (r : Rl Fb Hb F H ρ σ) : yl (gOf ρ σ F H) H := fun p o e => by
  unfold gOf at e
  split at e
  · exact e
  · exact r.gr.fh p o e
theorem Rl.visG (r : Rl Fb Hb F H ρ σ) : VAt (gOf ρ σ F H) (visG ρ) σ := fun i d e => by
  unfold Dl.visG at e
  rw [List.getElem?_map] at e
  cases h : ρ[i]? with
  | none => rw [h] at e; cases e
  | some x =>
    rw [h] at e
    have e : x.g = some d := Option.some.inj e
    have own : x.isO = true → ∃ v, σ[i]? = some (some v) ∧ At (gOf ρ σ F H) d v := fun hx => by
      obtain ⟨p, o, e1, e2, e3, e4, a⟩ := r.ows i x h hx
      refine ⟨_, e1, a.at e ?_ r.fg⟩
      unfold gOf
      rw [if_pos ⟨i, x, h, hx, e1⟩]
      exact e4
    cases x with
    | no => cases e
    | v d' =>
      cases e
      obtain ⟨v, e1, a⟩ := r.vals i d h
      exact ⟨v, e1, a.mono r.fg⟩
    | o ds => exact own rfl
    | m t ks ds => exact own rfl
theorem Rl.back {G' : Hp} (r : Rl Fb Hb F H ρ σ) (g : Gr (gOf ρ σ F H) H G' H') : Gr F H (fOf ρ σ G') H' ∧ ∀ q xs, G' q = some (.tup xs) → fOf ρ σ G' q = some (.tup xs) := by
  refine ⟨⟨fun p o e => ?_, fun p o e => ?_, fun p o e1 e2 => ?_⟩, fun q xs e => ?_⟩
  · unfold fOf
    rw [if_neg (fun h => by rw [(r.own h).2.1] at e; cases e)]
    exact g.ff p o (r.fg p o e)
  · unfold fOf at e
    split at e
    · cases e
    · exact g.fh p o e
  · by_cases h : Own ρ σ p
    · refine ⟨.inl (by unfold fOf; rw [if_pos h]), g.fh p o (g.ff p o ?_)⟩
      unfold gOf
      rw [if_pos h]
      exact e2
    · obtain ⟨x, y⟩ := g.kp p o (by unfold gOf; rw [if_neg h]; exact e1) e2
      refine ⟨?_, y⟩
      unfold Hid fOf
      rw [if_neg h]
      exact x
  · unfold fOf
    rw [if_neg (fun h => ?_)]
    · exact e
    · obtain ⟨_, _, o, e2, n⟩ := r.own h
      have : G' q = some o := g.ff q _ (by unfold gOf; rw [if_pos h]; exact e2)
      rw [this] at e
      cases e
      exact n xs rfl
theorem Rl.out {G' : Hp} (r : Rl Fb Hb F H ρ σ) (g : Gr (gOf ρ σ F H) H G' H') : Gr Fb Hb G' H' := by
  refine ⟨fun p o e => g.ff p o (r.fg p o (r.gr.ff p o e)), g.fh, fun p o e1 e2 => ?_⟩
  obtain ⟨k1, k2⟩ := r.gr.kp p o e1 e2
  have e3 : gOf ρ σ F H p = F p := by
    unfold gOf
    rw [if_neg (fun h => by rw [(r.own h).1] at e2; cases e2)]
  rcases k1 with k1 | ⟨k1, k3⟩
  · exact g.kp p o (by rw [e3]; exact k1) k2
  · have := g.ff p o (by rw [e3]; exact k3)
    exact ⟨.inr ⟨k1, this⟩, g.fh _ _ this⟩
theorem Rl.set (r : Rl Fb Hb F H ρ σ) {i : Nat} {d : D} {v : V} (a : At F d v) : Rl Fb Hb F H (ρ.set i (.v d)) (σ.set i (some v)) := by
  have nj : ∀ {j : Nat} {s : Sl}, (ρ.set i (.v d))[j]? = some s → s.isO = true → i ≠ j := fun {j s} h ho e => by
    subst e
    rw [List.getElem?_set] at h
    simp only [if_true] at h
    split at h <;> cases h
    cases ho
  refine ⟨r.gr, fun j e h => ?_, fun j s h ho => ?_, fun j k p s t h1 h2 o1 o2 h3 h4 => ?_, by simp [r.len]⟩
  · by_cases hj : i = j
    · subst hj
      rw [List.getElem?_set] at h
      simp only [if_true] at h
      split at h
      · rename_i hl
        cases h
        refine ⟨v, ?_, a⟩
        rw [List.getElem?_set]
        simp [← r.len, hl]
      · cases h
    · rw [List.getElem?_set_ne hj] at h ⊢
      exact r.vals j e h
  · have hj := nj h ho
    rw [List.getElem?_set_ne hj] at h ⊢
    exact r.ows j s h ho
  · have a1 := nj h1 o1
    have a2 := nj h2 o2
    rw [List.getElem?_set_ne a1] at h1 h3
    rw [List.getElem?_set_ne a2] at h2 h4
    exact r.dis j k p s t h1 h2 o1 o2 h3 h4
theorem Rl.setW (r : Rl Fb Hb F H ρ σ) {i : Nat} {w : Sl} {p : Addr} {o : HO} (h0 : Hb p = none) (hF : F p = none) (hH : H p = some o) (a : zdE F o w)
    (nw : ∀ (j : Nat) (s : Sl), ρ[j]? = some s → s.isO = true → σ[j]? ≠ some (some (.ref p))) : Rl Fb Hb F H (ρ.set i w) (σ.set i (some (.ref p))) := by
  have at_i : ∀ {s : Sl}, (ρ.set i w)[i]? = some s → i < ρ.length ∧ s = w := fun {s} h => by
    rw [List.getElem?_set] at h
    simp only [if_true] at h
    split at h
    · rename_i hl
      cases h
      exact ⟨hl, rfl⟩
    · cases h
  have st_i : i < ρ.length → (σ.set i (some (V.ref p)))[i]? = some (some (.ref p)) := fun hl => by
    rw [List.getElem?_set]
    simp [← r.len, hl]
  refine ⟨r.gr, fun j e h => ?_, fun j s h ho => ?_, fun j k q s t h1 h2 o1 o2 h3 h4 => ?_, by simp [r.len]⟩
  · by_cases hj : i = j
    · subst hj
      have e := (at_i h).2
      have := a.isO
      rw [← e] at this
      cases this
    · rw [List.getElem?_set_ne hj] at h ⊢
      exact r.vals j e h
  · by_cases hj : i = j
    · subst hj
      obtain ⟨hl, e⟩ := at_i h
      subst e
      exact ⟨p, o, st_i hl, h0, hF, hH, a⟩
    · rw [List.getElem?_set_ne hj] at h ⊢
      exact r.ows j s h ho
  · by_cases hj : i = j
    · subst hj
      by_cases hk : i = k
      · exact hk
      · obtain ⟨hl, _⟩ := at_i h1
        rw [st_i hl] at h3
        cases h3
        rw [List.getElem?_set_ne hk] at h2 h4
        exact absurd h4 (nw k t h2 o2)
    · by_cases hk : i = k
      · subst hk
        obtain ⟨hl, _⟩ := at_i h2
        rw [st_i hl] at h4
        cases h4
        rw [List.getElem?_set_ne hj] at h1 h3
        exact absurd h3 (nw j s h1 o1)
      · rw [List.getElem?_set_ne hj] at h1 h3
        rw [List.getElem?_set_ne hk] at h2 h4
        exact r.dis j k q s t h1 h2 o1 o2 h3 h4
theorem Rl.setO (r : Rl Fb Hb F H ρ σ) {i : Nat} {ds : List D} {p : Addr} {xs : List V} (h0 : Hb p = none) (hF : F p = none) (hH : H p = some (.lst xs)) (a : AtL F ds xs)
    (nw : ∀ (j : Nat) (s : Sl), ρ[j]? = some s → s.isO = true → σ[j]? ≠ some (some (.ref p))) : Rl Fb Hb F H (ρ.set i (.o ds)) (σ.set i (some (.ref p))) := r.setW h0 hF hH ⟨xs, rfl, a⟩ nw
theorem Rl.mutW (r : Rl Fb Hb F H ρ σ) {i : Nat} {w w' : Sl} {p : Addr} {o' : HO} (e : ρ[i]? = some w) (hw : w.isO = true) (e1 : σ[i]? = some (some (.ref p))) (a : zdE F o' w') : Rl Fb Hb F (upd H p o') (ρ.set i w') σ := by
  obtain ⟨q, o, e2, h0, hF, hH, _⟩ := r.ows i w e hw
  rw [e1] at e2
  cases e2
  have hi : i < ρ.length := (List.getElem?_eq_some_iff.mp e).1
  have neP : ∀ {j : Nat} {s : Sl} {q : Addr}, i ≠ j → ρ[j]? = some s → s.isO = true → σ[j]? = some (some (.ref q)) → q ≠ p := fun {j s q} hne h1 ho h2 z => by
    subst z
    exact hne (r.dis i j q w s e h1 hw ho e1 h2)
  refine ⟨⟨r.gr.ff, fun b o z => ?_, fun b o z1 z2 => ?_⟩, fun j d h => ?_, fun j s h ho => ?_, fun j k q s t h1 h2 o1 o2 h3 h4 => ?_, by simp [r.len]⟩
  · rw [zp (zj z hF)]
    exact r.gr.fh b o z
  · rw [zp (zj z2 h0)]
    exact r.gr.kp b o z1 z2
  · by_cases hj : i = j
    · subst hj
      rw [List.getElem?_set_self hi] at h
      cases h
      exact (Bool.noConfusion a.isO)
    · rw [List.getElem?_set_ne hj] at h
      exact r.vals j d h
  · by_cases hj : i = j
    · subst hj
      rw [List.getElem?_set_self hi] at h
      cases h
      exact ⟨p, o', e1, h0, hF, zo, a⟩
    · rw [List.getElem?_set_ne hj] at h
      obtain ⟨q, z, f1, f2, f3, f4, f5⟩ := r.ows j s h ho
      refine ⟨q, z, f1, f2, f3, ?_, f5⟩
      rw [zp (neP hj h ho f1)]
      exact f4
  · have back : ∀ {j : Nat} {s : Sl}, (ρ.set i w')[j]? = some s → s.isO = true → ∃ s', ρ[j]? = some s' ∧ s'.isO = true := fun {j s} h ho => by
      by_cases hj : i = j
      · subst hj; exact ⟨w, e, hw⟩
      · rw [List.getElem?_set_ne hj] at h; exact ⟨s, h, ho⟩
    obtain ⟨f1, g1, g1'⟩ := back h1 o1
    obtain ⟨f2, g2, g2'⟩ := back h2 o2
    exact r.dis j k q f1 f2 g1 g2 g1' g2' h3 h4
theorem Rl.mutate (r : Rl Fb Hb F H ρ σ) {i : Nat} {ds es : List D} {p : Addr} {ys : List V} (e : ρ[i]? = some (.o ds)) (e1 : σ[i]? = some (some (.ref p))) (a : AtL F es ys) : Rl Fb Hb F (upd H p (.lst ys)) (ρ.set i (.o es)) σ :=
  r.mutW e rfl e1 ⟨ys, rfl, a⟩
noncomputable def Sl.fz : Sl → Sl
  | .o ds => .v (.lst ds)
  | .m t ks vs => .v (.dct false t ks vs)
  | s => s
noncomputable def zli (ρ : SE) (i : Nat) : SE := ρ.set i ((ρ[i]?).getD .no).fz
theorem Rl.freeze (r : Rl Fb Hb F H ρ σ) (i : Nat) : ∃ F', Rl Fb Hb F' H (zli ρ i) σ := by
  unfold zli
  cases h : ρ[i]? with
  | none =>
    refine ⟨F, ?_⟩
    rw [List.set_eq_of_length_le (List.getElem?_eq_none_iff.mp h)]
    exact r
  | some s =>
    have hi : i < ρ.length := (List.getElem?_eq_some_iff.mp h).1
    have same : s.fz = s → ∃ F', Rl Fb Hb F' H (ρ.set i ((some s).getD .no).fz) σ := fun e => by
      refine ⟨F, ?_⟩
      show Rl Fb Hb F H (ρ.set i s.fz) σ
      rw [e]
      have : ρ.set i s = ρ := by
        apply List.ext_getElem?
        intro j
        by_cases hj : i = j
        · subst hj; rw [List.getElem?_set_self hi, h]
        · rw [List.getElem?_set_ne hj]
      rw [this]
      exact r
    have give : ∀ d, s.isO = true → s.g = some d → s.fz = .v d → ∃ F', Rl Fb Hb F' H (ρ.set i ((some s).getD .no).fz) σ := fun d ho hg hz => by
      obtain ⟨p, o, e1, e2, e3, e4, a⟩ := r.ows i s h ho
      have sF : yl F (upd F p o) := fun b u e => by rw [zp (zj e e3)]; exact e
      show ∃ F', Rl Fb Hb F' H (ρ.set i s.fz) σ
      rw [hz]
      have nj : ∀ {j : Nat} {t : Sl}, (ρ.set i (.v d))[j]? = some t → t.isO = true → i ≠ j := fun {j t} h ht e => by
        subst e
        rw [List.getElem?_set_self hi] at h
        cases h
        cases ht
      refine ⟨upd F p o, r.gr.show e2 e3 e4, fun j e z => ?_, fun j t z ht => ?_, fun j k q t u h1 h2 o1 o2 h3 h4 => ?_, by simp [r.len]⟩
      · by_cases hj : i = j
        · subst hj
          rw [List.getElem?_set_self hi] at z
          cases z
          exact ⟨_, e1, a.at hg zo sF⟩
        · rw [List.getElem?_set_ne hj] at z
          obtain ⟨v, f1, f2⟩ := r.vals j e z
          exact ⟨v, f1, f2.mono sF⟩
      · have hj := nj z ht
        rw [List.getElem?_set_ne hj] at z
        obtain ⟨q, y, f1, f2, f3, f4, f5⟩ := r.ows j t z ht
        refine ⟨q, y, f1, f2, ?_, f4, f5.mono sF⟩
        rw [zp (fun w => hj (r.dis i j p s t h z ho ht e1 (by rw [← w]; exact f1)))]
        exact f3
      · have a1 := nj h1 o1
        have a2 := nj h2 o2
        rw [List.getElem?_set_ne a1] at h1
        rw [List.getElem?_set_ne a2] at h2
        exact r.dis j k q t u h1 h2 o1 o2 h3 h4
    cases s with
    | no => exact same rfl
    | v d => exact same rfl
    | o ds => exact give _ rfl rfl rfl
    | m t ks ds => exact give _ rfl rfl rfl
end
inductive Ctl where
  | nx (ρ : SE) | rt (d : D) | bk (ρ : SE) | ct (ρ : SE) | no
  deriving Inhabited
noncomputable def SOk (Fb Hb : Hp) (E : zer) : Ctl → Prop
  | .nx ρ => ∀ F H σ, Rl Fb Hb F H ρ σ → E.nx σ H
  | .bk ρ => ∀ F H σ, Rl Fb Hb F H ρ σ → E.bk σ H
  | .ct ρ => ∀ F H σ, Rl Fb Hb F H ρ σ → E.ct σ H
  | .rt d => ∀ F H v, Gr Fb Hb F H → At F d v → E.rt v H
  | .no => False
noncomputable def RS (t : TS) (g : SE → Ctl) : Prop := ∀ (Fb Hb F H : Hp) (ρ : SE) (σ : St) (E : zer), Rl Fb Hb F H ρ σ → SOk Fb Hb E (g ρ) → t E σ H
noncomputable def SD (X : Cx) (st : Stmt) (g : SE → Ctl) : Prop := ∃ t, PS X st t ∧ RS t g
noncomputable def SDs (X : Cx) (sts : List Stmt) (g : SE → Ctl) : Prop := ∃ t, PSs X sts t ∧ RS t g
section
variable {X : Cx} {st : Stmt} {sts : List Stmt} {a b c e : Expr} {pos pos' : Pos}
noncomputable def yf : SE → Ctl := .nx
noncomputable def zW (g h : SE → Ctl) : SE → Ctl := fun ρ => match g ρ with
  | .nx ρ' => h ρ'
  | .rt d => .rt d
  | .bk ρ' => .bk ρ'
  | .ct ρ' => .ct ρ'
  | .no => .no
theorem zJ : SDs X [] yf := ⟨_, zfJ, fun _ _ F H ρ σ E r h => h F H σ r⟩
theorem zh {g h : SE → Ctl} (h1 : SD X st g) (h2 : SDs X sts h) : SDs X (st :: sts) (zW g h) := by
  obtain ⟨t, p, r⟩ := h1
  obtain ⟨u, p2, r2⟩ := h2
  refine ⟨_, Zl p p2, fun Fb Hb F H ρ σ E rl k => ?_⟩
  refine r Fb Hb F H ρ σ { E with nx := u E } rl ?_
  unfold zW at k
  cases e : g ρ with
  | nx ρ' =>
    rw [e] at k
    exact fun F' H' σ' rl' => r2 Fb Hb F' H' ρ' σ' E rl' k
  | rt d => rw [e] at k; exact k
  | bk d => rw [e] at k; exact k
  | ct d => rw [e] at k; exact k
  | no => rw [e] at k; exact k
theorem zi {g : SE → Ctl} (h1 : SD X st g) : SDs X [st] g := let ⟨_, p, r⟩ := h1; ⟨_, X2 p, r⟩
noncomputable def sFz (i : Nat) (g : SE → Ctl) : SE → Ctl := fun ρ => g (zli ρ i)
theorem Y7 {g : SE → Ctl} (i : Nat) (h : SDs X sts g) : SDs X sts (sFz i g) := by
  obtain ⟨t, p, r⟩ := h
  refine ⟨_, p, fun Fb Hb F H ρ σ E rl k => ?_⟩
  obtain ⟨F', rl'⟩ := rl.freeze i
  exact r Fb Hb F' H _ σ E rl' k
noncomputable def sNo : SE → Ctl := fun _ => .no
theorem Ys : SD X st sNo := ⟨_, zgE, fun _ _ _ _ _ _ _ _ h => h.elim⟩
noncomputable def xf (f : Ev → Option D) : SE → Ctl := fun ρ => match f (visG ρ) with
  | some d => .rt d
  | none => .no
theorem zB {f : Ev → Option D} (h : ED X e f) : SD X (.Return (some e) pos) (xf f) := by
  obtain ⟨t, p, r⟩ := h
  refine ⟨_, zeR p, fun Fb Hb F H ρ σ E rl k => ?_⟩
  unfold xf at k
  cases h : f (visG ρ) with
  | none => rw [h] at k; exact k.elim
  | some d =>
    rw [h] at k
    exact r σ _ _ H d _ rl.gh rl.visG h fun F' H' v g av => k F' H' v (rl.out g) av
noncomputable def vP : SE → Ctl := fun _ => .rt .non
noncomputable def vEv (m : Bool) (f : Ev → Option D) (ρ : SE) : Option D := if m = true then (f (visG ρ)).bind fun d => if noL d = true then some d else none else f (visF ρ)
theorem RE.at {Fb Hb F H : Hp} {ρ : SE} {σ : St} {m : Bool} {f : Ev → Option D} {t : TE} {d : D} {Q : VK} (r : RE t f) (rl : Rl Fb Hb F H ρ σ) (h : vEv m f ρ = some d) (q : ∀ F' H' v, Gr F H F' H' → At F' d v → Q v H') : t σ H Q := by
  unfold vEv at h
  cases m with
  | false =>
    rw [if_neg Bool.false_ne_true] at h
    exact r σ _ _ H d _ rl.gr.fh rl.visF h q
  | true =>
    rw [if_pos rfl] at h
    obtain ⟨d', h1, h2⟩ := Option.bind_eq_some_iff.mp h
    split at h2 <;> cases h2
    rename_i hn
    refine r σ _ _ H d _ rl.gh rl.visG h1 fun F' H' v g av => ?_
    obtain ⟨g2, fl⟩ := rl.back g
    exact q _ H' v g2 (av.flat fl hn)
noncomputable def xY (m : Bool) (i : Nat) (f : Ev → Option D) : SE → Ctl := fun ρ => match vEv m f ρ with
  | some d => .nx (ρ.set i (.v d))
  | none => .no
theorem yI {m : Bool} {i : Nat} {x : Str} {f : Ev → Option D} (hN : X.N.Nodup) (hi : X.N[i]? = some x) (hx : Loc X.env.scope x) (he : ED X e f) (hs : swapsWith e (some (.Name x pos')) pos.line X.env = pure false := by rfl)
    (hf : X.fn x = true ∨ X.env.scope.names.lookup x = some .local := by first | exact .inl rfl | exact .inr rfl | assumption) : SD X (.Assign [.Name x pos'] e pos) (xY m i f) := by
  obtain ⟨t, p, r⟩ := he
  refine ⟨_, WW hN hi hx p hs hf, fun Fb Hb F H ρ σ E rl k => ?_⟩
  unfold xY at k
  cases h : vEv m f ρ with
  | none => rw [h] at k; exact k.elim
  | some d =>
    rw [h] at k
    exact r.at rl h fun F' H' v g av => k F' H' _ ((rl.grow g).set av)
noncomputable def Yv (f : Ev → Option D) : SE → Ctl := fun ρ => match f (visG ρ) with
  | some _ => .nx ρ
  | none => .no
theorem wY {f : Ev → Option D} (he : ED X e f) (hs : swapsWith e none pos.line X.env = pure false := by rfl) : SD X (.Expr e pos) (Yv f) := by
  obtain ⟨t, p, r⟩ := he
  refine ⟨_, XH p hs, fun Fb Hb F H ρ σ E rl k => ?_⟩
  unfold Yv at k
  cases h : f (visG ρ) with
  | none => rw [h] at k; exact k.elim
  | some d =>
    rw [h] at k
    exact r σ _ _ H d _ rl.gh rl.visG h fun F' H' v g av => k _ H' σ (rl.grow (rl.back g).1)
noncomputable def YI (i : Nat) (f : Ev → Option (List D)) : SE → Ctl := fun ρ => match f (visF ρ) with
  | some ds => .nx (ρ.set i (.o ds))
  | none => .no
theorem Y0 {i : Nat} {x : Str} {f : Ev → Option (List D)} (hN : X.N.Nodup) (hi : X.N[i]? = some x) (hx : Loc X.env.scope x) (he : FL X e f) (hs : swapsWith e (some (.Name x pos')) pos.line X.env = pure false := by rfl)
    (hf : X.fn x = true ∨ X.env.scope.names.lookup x = some .local := by first | exact .inl rfl | exact .inr rfl | assumption) : SD X (.Assign [.Name x pos'] e pos) (YI i f) := by
  obtain ⟨t, p, r⟩ := he
  refine ⟨_, WW hN hi hx p hs hf, fun Fb Hb F H ρ σ E rl k => ?_⟩
  unfold YI at k
  cases h : f (visF ρ) with
  | none => rw [h] at k; exact k.elim
  | some ds =>
    rw [h] at k
    refine r σ _ _ H ds _ rl.gr.fh rl.visF h fun F' H' q xs g h0 hF hH hx => ?_
    have rl2 := rl.grow g
    exact k F' H' _ (rl2.setO (rl.notbase h0) hF hH hx (rl.notown h0))
noncomputable def sIf (t : Ev → Option Bool) (g h : SE → Ctl) : SE → Ctl := fun ρ => match t (visG ρ) with
  | some true => g ρ
  | some false => h ρ
  | none => .no
theorem xQ {as bs : List Stmt} {t : Ev → Option Bool} {g h : SE → Ctl} (hc : TD X c t) (ha : SDs X as g) (hb : SDs X bs h) : SD X (.If c as bs pos) (sIf t g h) := by
  obtain ⟨tc, pc, rc⟩ := hc
  obtain ⟨ta, pa, ra⟩ := ha
  obtain ⟨tb, pb, rb⟩ := hb
  refine ⟨_, zkS pc pa pb, fun Fb Hb F H ρ σ E rl k => ?_⟩
  unfold sIf at k
  cases h : t (visG ρ) with
  | none => rw [h] at k; exact k.elim
  | some d =>
    rw [h] at k
    refine rc σ _ _ H d _ rl.gh rl.visG h fun F' H' g => ?_
    have rl2 := rl.grow (rl.back g).1
    cases d with
    | true => rw [if_pos rfl]; exact ra Fb Hb _ H' ρ σ E rl2 k
    | false => rw [if_neg Bool.false_ne_true]; exact rb Fb Hb _ H' ρ σ E rl2 k
noncomputable def Y8 (t : Ev → Option Bool) (g : SE → Ctl) : Nat → SE → Ctl
  | 0, _ => .no
  | n + 1, ρ => match t (visG ρ) with
    | some true => match g ρ with
      | .nx ρ' => Y8 t g n ρ'
      | .ct ρ' => Y8 t g n ρ'
      | .bk ρ' => .nx ρ'
      | .rt d => .rt d
      | .no => .no
    | some false => .nx ρ
    | none => .no
theorem zdo {as : List Stmt} {t : Ev → Option Bool} {g : SE → Ctl} (n : Nat) (hp : PassesOwn (model X.prog X.w) X.A X.env X.xe) (hc : TD X c t) (ha : SDs X as g) : SD X (.While c as [] pos) (Y8 t g n) := by
  obtain ⟨tc, pc, rc⟩ := hc
  obtain ⟨ta, pa, ra⟩ := ha
  refine ⟨_, zgk hp pc pa, fun Fb Hb F H ρ σ E rl k => ?_⟩
  refine ⟨fun m σ H => ∃ F ρ, Rl Fb Hb F H ρ σ ∧ SOk Fb Hb E (Y8 t g m ρ), ⟨n, F, ρ, rl, k⟩, ?_⟩
  rintro m σ H ⟨F, ρ, rl, k⟩
  cases m with
  | zero => exact k.elim
  | succ m =>
    unfold Y8 at k
    cases h : t (visG ρ) with
    | none => rw [h] at k; exact k.elim
    | some d =>
      rw [h] at k
      refine rc σ _ _ H d _ rl.gh rl.visG h fun F' H' gr => ?_
      have rl2 := rl.grow (rl.back gr).1
      cases d with
      | false => rw [if_neg Bool.false_ne_true]; exact k _ H' σ rl2
      | true =>
        rw [if_pos rfl]
        refine ⟨fun σ H => ∃ F ρ, Rl Fb Hb F H ρ σ ∧ SOk Fb Hb E (Y8 t g m ρ), fun σ' H' w => ⟨m, Nat.lt_succ_self m, w⟩, ?_⟩
        refine ra Fb Hb _ H' ρ σ _ rl2 ?_
        dsimp only at k
        cases hg : g ρ with
        | nx ρ' => rw [hg] at k; exact fun F2 H2 σ2 r2 => ⟨F2, ρ', r2, k⟩
        | ct ρ' => rw [hg] at k; exact fun F2 H2 σ2 r2 => ⟨F2, ρ', r2, k⟩
        | bk ρ' => rw [hg] at k; exact k
        | rt d => rw [hg] at k; exact k
        | no => rw [hg] at k; exact k.elim
noncomputable def RG (t : TG) (b : D → SE → Option SE) : Prop := ∀ (Fb Hb F H : Hp) (ρ ρ' : SE) (σ : St) (d : D) (v : V) (Q : St → Hp → Prop), Rl Fb Hb F H ρ σ → At F d v → b d ρ = some ρ' → (∀ σ', Rl Fb Hb F H ρ' σ' → Q σ' H) → t v σ H Q
noncomputable def RGs (t : TGs) (b : List D → SE → Option SE) : Prop := ∀ (Fb Hb F H : Hp) (ρ ρ' : SE) (σ : St) (ds : List D) (vs : List V) (Q : St → Hp → Prop), Rl Fb Hb F H ρ σ → AtL F ds vs → b ds ρ = some ρ' → (∀ σ', Rl Fb Hb F H ρ' σ' → Q σ' H) → t vs σ H Q
noncomputable def BD (X : Cx) (tg : Expr) (b : D → SE → Option SE) : Prop := ∃ t, PG X tg t ∧ RG t b
noncomputable def BDs (X : Cx) (tgs : List Expr) (b : List D → SE → Option SE) : Prop := ∃ t, PGs X tgs t ∧ RGs t b
noncomputable def yH (i : Nat) : D → SE → Option SE := fun d ρ => some (ρ.set i (.v d))
theorem yy {i : Nat} (h : PG X a (Yn i)) : BD X a (yH i) := by
  refine ⟨_, h, fun Fb Hb F H ρ ρ' σ d v Q rl av e q => ?_⟩
  cases e
  exact q _ (rl.set av)
noncomputable def X9 : List D → SE → Option SE
  | [], ρ => some ρ
  | _, _ => none
noncomputable def xZ (b : D → SE → Option SE) (c : List D → SE → Option SE) : List D → SE → Option SE
  | d :: ds, ρ => (b d ρ).bind (c ds)
  | [], _ => none
theorem zbT : BDs X [] X9 := by
  refine ⟨_, zev, fun Fb Hb F H ρ ρ' σ ds vs Q rl av e q => ?_⟩
  cases ds with
  | nil => cases e; exact ⟨av.nil_inv, q _ rl⟩
  | cons _ _ => cases e
theorem vC {es : List Expr} {b : D → SE → Option SE} {c : List D → SE → Option SE} (h1 : BD X e b) (h2 : BDs X es c)
    (hs : (assignEach (e :: es) X.env).map (·.2) = assign e X.env :: (assignEach es X.env).map (·.2) := by rfl) : BDs X (e :: es) (xZ b c) := by
  obtain ⟨t, p, r⟩ := h1
  obtain ⟨u, p2, r2⟩ := h2
  refine ⟨_, Wc p p2 hs, fun Fb Hb F H ρ ρ' σ ds vs Q rl av e q => ?_⟩
  cases ds with
  | nil => cases e
  | cons d ds =>
    obtain ⟨x, xs, rfl, a1, a2⟩ := av.cons_inv
    obtain ⟨ρ1, e1, e2⟩ := Option.bind_eq_some_iff.mp e
    exact ⟨x, xs, rfl, r Fb Hb F H ρ ρ1 σ d x _ rl a1 e1 fun σ1 rl1 => r2 Fb Hb F H ρ1 ρ' σ1 ds xs Q rl1 a2 e2 q⟩
noncomputable def Xt (n : Nat) (c : List D → SE → Option SE) : D → SE → Option SE
  | .tup ds, ρ => if ds.length = n then c ds ρ else none
  | _, _ => none
theorem zfq {es : List Expr} {k : Nat} {n : Nat} {c : List D → SE → Option SE} (hc : X.calm = true) (h : BDs X es c)
    (hn : (assignEach es X.env).length = n := by rfl) (hst : (assignEach es X.env).findIdx? (·.1) = none := by rfl) : BD X (.Tuple es k pos) (Xt n c) := by
  obtain ⟨t, p, r⟩ := h
  refine ⟨_, zho hc p hn hst, fun Fb Hb F H ρ ρ' σ d v Q rl av e q => ?_⟩
  cases d with
  | tup ds =>
    unfold Xt at e
    dsimp only at e
    split at e
    · rename_i hl
      obtain ⟨a, xs, rfl, hx, al⟩ := av.tup_inv
      exact ⟨a, xs, rfl, SqT.of (rl.gr.fh _ _ hx), by rw [al.length]; exact hl, r Fb Hb F H ρ ρ' σ ds xs Q rl al e q⟩
    · cases e
  | _ => cases e
noncomputable def zcq (m : Bool) (f : Ev → Option D) (b : D → SE → Option SE) : SE → Ctl := fun ρ => match (vEv m f ρ).bind fun d => b d ρ with
  | some ρ' => .nx ρ'
  | none => .no
noncomputable def Z6 (m : Bool) (i : Nat) (fk fe : Ev → Option D) : SE → Ctl := fun ρ => match (vEv m fe ρ).bind fun d => (fk (visG ρ)).bind fun k => match ρ[i]?, k with
    | some (.o ds), .int k => (ixN ds.length k).map fun j => ρ.set i (.o (ds.set j d))
    | _, _ => none with
  | some ρ' => .nx ρ'
  | none => .no
theorem zdI {m : Bool} {i : Nat} {ko : Expr} {fk fe : Ev → Option D} (he : ED X e fe) (ho : PE X a (zhE i)) (hk : ED X ko fk) (hs : swapsWithSole [.Subscript a ko pos'] e pos.line X.env = pure false := by rfl) (hw : swappedStores [.Subscript a ko pos'] e X.env = pure none := by rfl)
    (h1 : (assignEach [.Subscript a ko pos'] X.env).map (·.2) = [assign (.Subscript a ko pos') X.env] := by rfl)
    (ha : ∀ v, assign (.Subscript a ko pos') X.env v = (do
      let ov ← holding [v] (eval a X.env)
      let iv ← holding [v, ov] (eval ko X.env)
      standAt pos'
      holding [v, ov, iv] (setItem ov iv v)
      release [v, ov, iv] []) := by intro _; rfl) : SD X (.Assign [.Subscript a ko pos'] e pos) (Z6 m i fk fe) := by
  obtain ⟨t, p, r⟩ := he
  obtain ⟨tk, pk, rk⟩ := hk
  refine ⟨_, zjB p (zkb ho pk zgv ha) hs hw h1, fun Fb Hb F H ρ σ E rl k => ?_⟩
  unfold Z6 at k
  cases h : (vEv m fe ρ).bind fun d => (fk (visG ρ)).bind fun k => match ρ[i]?, k with
    | some (.o ds), .int k => (ixN ds.length k).map fun j => ρ.set i (.o (ds.set j d))
    | _, _ => none with
  | none => rw [h] at k; exact k.elim
  | some ρ' =>
    rw [h] at k
    obtain ⟨d, e1, e2⟩ := Option.bind_eq_some_iff.mp h
    obtain ⟨kd, e3, e2⟩ := Option.bind_eq_some_iff.mp e2
    cases hs : ρ[i]? with
    | none => rw [hs] at e2; cases e2
    | some sl =>
      rw [hs] at e2
      cases sl with
      | no => cases e2
      | v _ => cases e2
      | m _ _ _ => cases e2
      | o ds =>
        cases kd with
        | int kk =>
          obtain ⟨j, e4, rfl⟩ := Option.map_eq_some_iff.mp e2
          refine r.at rl e1 fun F' H' v g av => ?_
          have rl2 := rl.grow g
          obtain ⟨q, xs, f1, _⟩ := rl2.owns i ds hs
          refine ⟨_, f1, ?_⟩
          refine rk σ _ _ H' _ _ rl2.gh rl2.visG e3 fun F3 H3 v3 g3 av3 => ?_
          obtain ⟨gb, _⟩ := rl2.back g3
          have rl3 := rl2.grow gb
          obtain ⟨q3, xs3, f1', _, _, f4, f5⟩ := rl3.owns i ds hs
          rw [f1] at f1'
          cases f1'
          refine ⟨q, xs3, kk, j, rfl, av3.int_inv, f4, by rw [f5.length]; exact e4, ?_⟩
          exact k _ _ σ (rl3.mutate hs f1 (f5.set j (av.mono gb.ff)))
        | _ => cases e2
end
end Dl
namespace L2
open PySem PySem.Spec PyProof.Rows
section
variable {X : Cx} {tg : Expr}
noncomputable def iSeq (K : PySem.W.Frag) (tl : TE) : TI := fun σ H R => tl σ H fun x H1 => (∃ a, x = .ref a ∧ (∃ xs, SqL K H1 a xs) ∧ R (Itl K a) H1) ∨ (∃ a, x = .ref a ∧ (∃ xs, SqT K H1 a xs) ∧ R (Itt K a) H1)
theorem zkm {l : Expr} {tl : TE} (hl : PE X l tl) : PI X tg l (iSeq X.K tl) := by
  intro pins s σ H R I h
  refine thn (hl pins s σ H _ I h) fun v s1 hh9 => ?_
  obtain ⟨x, H1, I1, r1, q1⟩ := hh9
  rcases q1 with ⟨a, e, ⟨xs, hq⟩, q⟩ | ⟨a, e, ⟨xs, hq⟩, q⟩
  · subst e
    cases r1
    obtain ⟨its, rv, p, hz⟩ := I1.list hq
    refine wpAny_pyIter_list p.isList ?_
    refine ⟨s1.heap.objs.size, [s1.heap.objs.size], _, _, H1, rfl, I1.kept (t' := s1.toks) fun b o e => Heap.get?_push_of_some _ e, zfR a _, ⟨_, Heap.get?_push_size _ rfl, rfl, rfl⟩, fun b hb => ?_, q⟩
    have e : b = s1.heap.objs.size := by simpa using hb
    subst e
    exact I1.fpOk (Nat.le_refl _) (I1.hok.fresh (Nat.le_refl _))
  · subst e
    cases r1
    obtain ⟨its, rv, p, hz⟩ := I1.tuple hq
    refine wpAny_pyIter_tuple (show s1.heap.IsTuple a its.toArray from p) ?_
    refine ⟨s1.heap.objs.size, [s1.heap.objs.size], _, _, H1, rfl, I1.kept (t' := s1.toks) fun b o e => Heap.get?_push_of_some _ e, zdY a _, ⟨_, Heap.get?_push_size _ rfl, rfl, rfl⟩, fun b hb => ?_, q⟩
    have e : b = s1.heap.objs.size := by simpa using hb
    subst e
    exact I1.fpOk (Nat.le_refl _) (I1.hok.fresh (Nat.le_refl _))
end
end L2
namespace Dl
open PySem L2
variable [KK]
noncomputable def zjd (J : It) (F : Hp) (ds : List D) : Prop := ∀ (i : Nat) (F2 H2 : Hp), yl F F2 → yl F2 H2 → (i = ds.length → J.stop i H2) ∧
  ∀ d, ds[i]? = some d → J.go i H2 ∧ ∀ x H3, J.yld i H2 x H3 → ∃ F3, Gr F2 H2 F3 H3 ∧ At F3 d x
noncomputable def RI (wi : TI) (f : Ev → Option (List D)) : Prop :=
  ∀ (σ : St) (ρ : Ev) (F H : Hp) (ds : List D) (R : It → Hp → Prop), yl F H → VAt F ρ σ → f ρ = some ds → (∀ F' H' J, Gr F H F' H' → zjd J F' ds → R J H') → wi σ H R
noncomputable def ID (X : Cx) (tg iter : Expr) (f : Ev → Option (List D)) : Prop := ∃ wi, PI X tg iter wi ∧ RI wi f
noncomputable def xz : D → Option (List D)
  | .lst ds => some ds
  | .tup ds => some ds
  | _ => none
section
variable {X : Cx} {tg a b c e : Expr} {pos : Pos}
theorem zj4 {K : PySem.W.Frag} {F : Hp} {p : Addr} {xs : List V} {ds : List D} (h : F p = some (.lst xs)) (al : AtL F ds xs) : zjd (Itl K p) F ds := by
  intro i F2 H2 s1 s2
  have q : SqL K H2 p xs := SqL.of (s2 _ _ (s1 _ _ h))
  refine ⟨fun hl => ⟨xs, q, by rw [al.length, hl]; exact Nat.le_refl _⟩, fun d hd => ?_⟩
  obtain ⟨x, hx, ax⟩ := al.get hd
  refine ⟨⟨xs, x, q, hx⟩, fun y H3 hy => ?_⟩
  obtain ⟨rfl, hy⟩ := hy
  have := hy xs q
  rw [hx] at this
  cases this
  exact ⟨F2, .refl s2, ax.mono s1⟩
theorem zjl {K : PySem.W.Frag} {F : Hp} {p : Addr} {xs : List V} {ds : List D} (h : F p = some (.tup xs)) (al : AtL F ds xs) : zjd (Itt K p) F ds := by
  intro i F2 H2 s1 s2
  have q : SqT K H2 p xs := SqT.of (s2 _ _ (s1 _ _ h))
  refine ⟨fun hl => ⟨xs, q, by rw [al.length, hl]; exact Nat.le_refl _⟩, fun d hd => ?_⟩
  obtain ⟨x, hx, ax⟩ := al.get hd
  refine ⟨⟨xs, x, q, hx⟩, fun y H3 hy => ?_⟩
  obtain ⟨rfl, hy⟩ := hy
  have := hy xs q
  rw [hx] at this
  cases this
  exact ⟨F2, .refl s2, ax.mono s1⟩
noncomputable def iOf (f : Ev → Option D) : Ev → Option (List D) := fun ρ => (f ρ).bind xz
theorem Zu {f : Ev → Option D} (ha : ED X a f) : ID X tg a (iOf f) := by
  obtain ⟨t, p, r⟩ := ha
  refine ⟨_, zkm p, fun σ ρ F H ds R s va e q => ?_⟩
  obtain ⟨d, e1, e2⟩ := Option.bind_eq_some_iff.mp e
  refine r σ ρ F H d _ s va e1 fun F1 H1 v g1 a1 => ?_
  cases d <;> try cases e2
  · obtain ⟨p, xs, rfl, hx, al⟩ := a1.tup_inv
    exact .inr ⟨p, rfl, ⟨xs, SqT.of (g1.fh _ _ hx)⟩, q F1 H1 _ g1 (zjl hx al)⟩
  · obtain ⟨p, xs, rfl, hx, al⟩ := a1.lst_inv
    exact .inl ⟨p, rfl, ⟨xs, SqL.of (g1.fh _ _ hx)⟩, q F1 H1 _ g1 (zj4 hx al)⟩
noncomputable def YD (lo : Int) (n : Nat) : List D := (List.range n).map fun k : Nat => .int (lo + k)
theorem zdx {F : Hp} (lo : Int) (n : Nat) : zjd (Itr lo n) F (YD lo n) := by
  intro i F2 H2 s1 s2
  have hlen : (YD lo n).length = n := by unfold YD; simp
  refine ⟨fun hl => by rw [hlen] at hl; rw [hl]; exact Nat.le_refl _, fun d hd => ?_⟩
  have hi : i < n := by
    have := (List.getElem?_eq_some_iff.mp hd).1
    omega
  refine ⟨hi, fun y H3 hy => ?_⟩
  obtain ⟨rfl, rfl⟩ := hy
  refine ⟨F2, .refl s2, ?_⟩
  unfold YD at hd
  rw [List.getElem?_map, List.getElem?_range hi] at hd
  cases hd
  exact .int
@[irreducible] noncomputable def zfi (j : Int) : Bool := decide (-(2 ^ 62) ≤ j ∧ j < 2 ^ 62)
omit [KK] in
theorem zR {j : Int} : zfi j = true ↔ -(2 ^ 62) ≤ j ∧ j < 2 ^ 62 := by unfold zfi; exact decide_eq_true_iff
noncomputable def wl : List D → Option (List D)
  | [.int j] => if zfi j = true then some (YD 0 j.toNat) else none
  | _ => none
noncomputable def v4 : List D → Option (List D)
  | [.int i, .int j] => if zfi i = true ∧ zfi j = true then some (YD i (j - i).toNat) else none
  | _ => none
noncomputable def vN (g : List D → Option (List D)) (f : Ev → Option (List D)) : Ev → Option (List D) := fun ρ => (f ρ).bind g
theorem wz {p : Pos} {f : Ev → Option (List D)} (hg : Gl X "range") (hm : X.mg "range" = none) (ha : AD X [a] f) (hs : starEach [a] X.env = [(false, eval a X.env)] := by rfl) : ID X tg (.Call (.Name "range" p) [a] [] pos) (vN wl f) := by
  obtain ⟨t, pa, r⟩ := ha
  refine ⟨_, WH hg hm pa hs, fun σ ρ F H ds R s va e q => ?_⟩
  obtain ⟨d, e1, e2⟩ := Option.bind_eq_some_iff.mp e
  refine r σ ρ F H d _ s va e1 fun F1 H1 v g1 a1 => ?_
  unfold wl at e2
  split at e2
  · split at e2
    · cases e2
      rename_i hc
      obtain ⟨x, r', rfl, ax, ar⟩ := a1.cons_inv
      cases ar.nil_inv
      exact ⟨_, by rw [ax.int_inv], (zR.mp hc).1, (zR.mp hc).2, q F1 H1 _ g1 (zdx 0 _)⟩
    · cases e2
  · cases e2
theorem Wv {p : Pos} {f : Ev → Option (List D)} (hg : Gl X "range") (hm : X.mg "range" = none) (ha : AD X [a, b] f) (hs : starEach [a, b] X.env = [(false, eval a X.env), (false, eval b X.env)] := by rfl) (hs2 : starEach [b] X.env = [(false, eval b X.env)] := by rfl) :
    ID X tg (.Call (.Name "range" p) [a, b] [] pos) (vN v4 f) := by
  obtain ⟨t, pa, r⟩ := ha
  refine ⟨_, V2 hg hm pa hs hs2, fun σ ρ F H ds R s va e q => ?_⟩
  obtain ⟨d, e1, e2⟩ := Option.bind_eq_some_iff.mp e
  refine r σ ρ F H d _ s va e1 fun F1 H1 v g1 a1 => ?_
  unfold v4 at e2
  split at e2
  · split at e2
    · cases e2
      rename_i hc
      obtain ⟨x, r', rfl, ax, ar⟩ := a1.cons_inv
      obtain ⟨y, r', rfl, ay, ar⟩ := ar.cons_inv
      cases ar.nil_inv
      exact ⟨_, _, by rw [ax.int_inv, ay.int_inv], ⟨(zR.mp hc.1).1, (zR.mp hc.1).2, (zR.mp hc.2).1, (zR.mp hc.2).2⟩, q F1 H1 _ g1 (zdx _ _)⟩
    · cases e2
  · cases e2
noncomputable def ZY (n : Nat) : List D → List D
  | [] => []
  | d :: ds => .tup [.int n, d] :: ZY (n + 1) ds
omit [KK] in
theorem v8 (ds : List D) : ∀ (n i : Nat), (ZY n ds)[i]? = (ds[i]?).map fun d => .tup [.int ((n + i : Nat) : Int), d] := by
  induction ds with
  | nil => intro n i; simp [ZY]
  | cons d ds ih =>
    intro n i
    cases i with
    | zero => simp [ZY]
    | succ i =>
      show (ZY (n + 1) ds)[i]? = (ds[i]?).map _
      rw [ih]
      have : n + 1 + i = n + (i + 1) := by omega
      rw [this]
omit [KK] in
theorem vp (ds : List D) : ∀ n, (ZY n ds).length = ds.length := by
  induction ds with
  | nil => intro n; rfl
  | cons d ds ih => intro n; simp [ZY, ih]
noncomputable def yZ (f : Ev → Option (List D)) : Ev → Option (List D) := fun ρ => (f ρ).bind fun as => match as with
  | [d] => (xz d).map (ZY 0)
  | _ => none
theorem zc4 {es : List Expr} {k : Nat} {tp p : Pos} {f : Ev → Option (List D)} (hg : Gl X "enumerate") (hm : X.mg "enumerate" = none) (hb : bootBuiltins "enumerate" = some (.type "enumerate")) (ha : AD X [a] f)
    (hs : starEach [a] X.env = [(false, eval a X.env)] := by rfl) : ID X (.Tuple es k tp) (.Call (.Name "enumerate" p) [a] [] pos) (yZ f) := by
  obtain ⟨t, pa, r⟩ := ha
  refine ⟨_, zi9 hg hm hb pa hs, fun σ ρ F H ds R s va e q => ?_⟩
  obtain ⟨as, e1, e2⟩ := Option.bind_eq_some_iff.mp e
  refine r σ ρ F H as _ s va e1 fun F1 H1 v g1 a1 => ?_
  split at e2
  · obtain ⟨x, r', rfl, ax, ar⟩ := a1.cons_inv
    cases ar.nil_inv
    obtain ⟨es, e3, rfl⟩ := Option.map_eq_some_iff.mp e2
    rename_i d
    cases d <;> try cases e3
    · obtain ⟨p, xs, rfl, hx, al⟩ := ax.tup_inv
      refine ⟨p, rfl, .inr ⟨xs, SqT.of (g1.fh _ _ hx), q F1 H1 _ g1 fun i F2 H2 s1 s2 => ?_⟩⟩
      have qq : SqT X.K H2 p xs := SqT.of (s2 _ _ (s1 _ _ hx))
      refine ⟨fun hl => ⟨xs, qq, by rw [al.length, hl, vp]; exact Nat.le_refl _⟩, fun d hd => ?_⟩
      rw [v8] at hd
      obtain ⟨d', hd', rfl⟩ := Option.map_eq_some_iff.mp hd
      obtain ⟨x, hxi, ax⟩ := al.get hd'
      refine ⟨⟨xs, x, qq, hxi⟩, fun y H3 hy => ?_⟩
      obtain ⟨T, y, rfl, hT, rfl, hy⟩ := hy
      have := hy xs qq
      rw [hxi] at this
      cases this
      have g3 := Gr.alloc s2 hT (.tup [.int i, x])
      exact ⟨_, g3, .tup zo (.cons (by rw [Nat.zero_add]; exact .int) (.cons (ax.mono (s1.trans g3.ff)) .nil))⟩
    · obtain ⟨p, xs, rfl, hx, al⟩ := ax.lst_inv
      refine ⟨p, rfl, .inl ⟨xs, g1.fh _ _ hx, q F1 H1 _ g1 fun i F2 H2 s1 s2 => ?_⟩⟩
      have qq : SqL X.K H2 p xs := SqL.of (s2 _ _ (s1 _ _ hx))
      refine ⟨fun hl => ⟨xs, qq, by rw [al.length, hl, vp]; exact Nat.le_refl _⟩, fun d hd => ?_⟩
      rw [v8] at hd
      obtain ⟨d', hd', rfl⟩ := Option.map_eq_some_iff.mp hd
      obtain ⟨x, hxi, ax⟩ := al.get hd'
      refine ⟨⟨xs, x, qq, hxi⟩, fun y H3 hy => ?_⟩
      obtain ⟨T, y, rfl, hT, rfl, hy⟩ := hy
      have := hy xs qq
      rw [hxi] at this
      cases this
      have g3 := Gr.alloc s2 hT (.tup [.int i, x])
      exact ⟨_, g3, .tup zo (.cons (by rw [Nat.zero_add]; exact .int) (.cons (ax.mono (s1.trans g3.ff)) .nil))⟩
  · cases e2
noncomputable def hb2 (F1 Hb : Hp) : Hp := fun p => match F1 p with
  | some o => some o
  | none => Hb p
theorem Zp {F1 Hb : Hp} {p : Addr} (h : F1 p = none) : hb2 F1 Hb p = Hb p := by unfold hb2; rw [h]
theorem zgR {F1 Hb : Hp} {p : Addr} {o : HO} (h : F1 p = some o) : hb2 F1 Hb p = some o := by unfold hb2; rw [h]
theorem Gr.up {Fb Hb F1 H1 F H : Hp} (g1 : Gr Fb Hb F1 H1) (g : Gr F1 (hb2 F1 Hb) F H) : Gr Fb Hb F H := by
  refine ⟨g1.ff.trans g.ff, g.fh, fun p o e1 e2 => ?_⟩
  rcases (g1.kp p o e1 e2).1 with n | ⟨n1, n2⟩
  · exact g.kp p o n (by rw [Zp n]; exact e2)
  · exact ⟨.inr ⟨n1, g.ff _ _ n2⟩, g.fh _ _ (g.ff _ _ n2)⟩
theorem Gr.dn {Fb Hb F1 F H : Hp} (g : Gr Fb Hb F H) (s1 : yl Fb F1) (s : yl F1 F) : Gr F1 (hb2 F1 Hb) F H := by
  refine ⟨s, g.fh, fun p o e1 e2 => ?_⟩
  rw [Zp e1] at e2
  exact g.kp p o (s1.free e1) e2
theorem Rl.up {Fb Hb F1 H1 F H : Hp} {ρ : SE} {σ : St} (g1 : Gr Fb Hb F1 H1) (r : Rl F1 (hb2 F1 Hb) F H ρ σ) : Rl Fb Hb F H ρ σ := by
  refine ⟨g1.up r.gr, r.vals, fun i s e ho => ?_, r.dis, r.len⟩
  obtain ⟨p, o, e1, e2, e3⟩ := r.ows i s e ho
  refine ⟨p, o, e1, ?_, e3⟩
  cases h : F1 p with
  | none => rw [Zp h] at e2; exact e2
  | some o => rw [zgR h] at e2; cases e2
theorem Rl.dn {Fb Hb F1 F H : Hp} {ρ : SE} {σ : St} (r : Rl Fb Hb F H ρ σ) (s1 : yl Fb F1) (s : yl F1 F) : Rl F1 (hb2 F1 Hb) F H ρ σ := by
  refine ⟨r.gr.dn s1 s, r.vals, fun i t e ho => ?_, r.dis, r.len⟩
  obtain ⟨p, o, e1, e2, e3, e4⟩ := r.ows i t e ho
  refine ⟨p, o, e1, ?_, e3, e4⟩
  rw [Zp (s.free e3)]
  exact e2
noncomputable def ze3 (b : D → SE → Option SE) (g : SE → Ctl) : List D → SE → Ctl
  | [], ρ => .nx ρ
  | d :: ds, ρ => match b d ρ with
    | none => .no
    | some ρ1 => match g ρ1 with
      | .nx ρ' => ze3 b g ds ρ'
      | .ct ρ' => ze3 b g ds ρ'
      | .bk ρ' => .nx ρ'
      | .rt d => .rt d
      | .no => .no
noncomputable def YC (f : Ev → Option (List D)) (b : D → SE → Option SE) (g : SE → Ctl) : SE → Ctl := fun ρ => match f (visF ρ) with
  | some ds => ze3 b g ds ρ
  | none => .no
theorem zeC {Fb Hb F1 H1 : Hp} {ρ : SE} {σ : St} {E : zer} {J : It} {g : TG} {tb : TS} {ds : List D} {b : D → SE → Option SE} {gb : SE → Ctl} (hit : zjd J F1 ds) (rg : RG g b) (rb : RS tb gb) (rl0 : Rl Fb Hb F1 H1 ρ σ) (k : SOk Fb Hb E (ze3 b gb ds ρ)) :
    ∃ W : Nat → Nat → St → Hp → Prop, (∃ m, W 0 m σ H1) ∧ ∀ i m σ H, W i m σ H →
      (J.stop i H ∧ E.nx σ H) ∨ (J.go i H ∧ ∃ N : St → Hp → Prop, (∀ σ' H', N σ' H' → ∃ m', m' < m ∧ W (i + 1) m' σ' H') ∧ ∀ x H', J.yld i H x H' → g x σ H' fun σ2 H2 => tb { E with nx := N, ct := N, bk := E.nx } σ2 H2) := by
  refine ⟨fun i m σ H => m = ds.length - i ∧ i ≤ ds.length ∧ ∃ F ρ, yl F1 F ∧ Rl Fb Hb F H ρ σ ∧ SOk Fb Hb E (ze3 b gb (ds.drop i) ρ), ⟨ds.length, by simp, Nat.zero_le _, F1, ρ, yl.refl _, rl0, k⟩, ?_⟩
  rintro i m σ H ⟨rfl, hi, F, ρ, s1, rl, k⟩
  obtain ⟨stop, go⟩ := hit i F H s1 rl.gr.fh
  by_cases hlt : i < ds.length
  · have hd : ds.drop i = ds[i] :: ds.drop (i + 1) := List.drop_eq_getElem_cons hlt
    rw [hd] at k
    unfold ze3 at k
    obtain ⟨g1, g2⟩ := go ds[i] (by simp [hlt])
    refine .inr ⟨g1, fun σ H => ∃ F ρ, yl F1 F ∧ Rl Fb Hb F H ρ σ ∧ SOk Fb Hb E (ze3 b gb (ds.drop (i + 1)) ρ), fun σ' H' w => ⟨ds.length - (i + 1), by omega, rfl, hlt, w⟩, fun x H' hy => ?_⟩
    obtain ⟨F3, g3, a3⟩ := g2 x H' hy
    cases hb : b ds[i] ρ with
    | none => rw [hb] at k; exact k.elim
    | some ρ1 =>
      rw [hb] at k
      dsimp only at k
      refine rg Fb Hb F3 H' ρ ρ1 σ _ x _ (rl.grow g3) a3 hb fun σ2 rl2 => ?_
      have s3 := s1.trans g3.ff
      refine rb F1 (hb2 F1 Hb) F3 H' ρ1 σ2 _ (rl2.dn rl0.gr.ff s3) ?_
      cases hg : gb ρ1 with
      | nx ρ' => rw [hg] at k; exact fun F4 H4 σ4 r4 => ⟨F4, ρ', r4.gr.ff, r4.up rl0.gr, k⟩
      | ct ρ' => rw [hg] at k; exact fun F4 H4 σ4 r4 => ⟨F4, ρ', r4.gr.ff, r4.up rl0.gr, k⟩
      | bk ρ' => rw [hg] at k; exact fun F4 H4 σ4 r4 => k F4 H4 σ4 (r4.up rl0.gr)
      | rt d => rw [hg] at k; exact fun F4 H4 v g4 a4 => k F4 H4 v (rl0.gr.up g4) a4
      | no => rw [hg] at k; exact k.elim
  · have e : i = ds.length := by omega
    subst e
    rw [List.drop_length] at k
    exact .inl ⟨stop rfl, k F H σ rl⟩
theorem Yi {iter : Expr} {body : List Stmt} {f : Ev → Option (List D)} {b : D → SE → Option SE} {g : SE → Ctl} (hp : PassesOwn (model X.prog X.w) X.A X.env X.xe) (hc : X.calm = true) (hi : ID X tg iter f) (hg : BD X tg b) (hb : SDs X body g)
    (hs : ∀ x, foldedSetIterable iter X.env x = pure x := by intro _; rfl) : SD X (.For tg iter body [] pos) (YC f b g) := by
  obtain ⟨wi, pi, ri⟩ := hi
  obtain ⟨tg', pg, rg⟩ := hg
  obtain ⟨tb, pb, rb⟩ := hb
  refine ⟨_, zeH hp hc pi pg pb hs, fun Fb Hb F H ρ σ E rl k => ?_⟩
  unfold YC at k
  cases h : f (visF ρ) with
  | none => rw [h] at k; exact k.elim
  | some ds =>
    rw [h] at k
    exact ri σ _ _ H ds _ rl.gr.fh rl.visF h fun F1 H1 J g1 ok => zeC ok rg rb (rl.grow g1) k
end
noncomputable def lcD (b : D → Option (List (Option D))) (t : Ev → Option Bool) (f : Ev → Option D) (ρ : Ev) : List D → Option (List D)
  | [] => some []
  | d :: ds => (b d).bind fun own => (t (own ++ ρ)).bind fun c => if c = true then (f (own ++ ρ)).bind fun y => (lcD b t f ρ ds).map (y :: ·) else lcD b t f ρ ds
noncomputable def fLC (i : Ev → Option (List D)) (b : D → Option (List (Option D))) (t : Ev → Option Bool) (f : Ev → Option D) : Ev → Option (List D) := fun ρ => (i ρ).bind fun ds => if lim ds.length = true then lcD b t f ρ ds else none
noncomputable def b1 : D → Option (List (Option D)) := fun d => some [some d]
noncomputable def b2 : D → Option (List (Option D))
  | .tup [x, y] => some [some x, some y]
  | _ => none
noncomputable def RB (n : Nat) (t : TG) (b : D → Option (List (Option D))) : Prop := ∀ (σ : St) (ρ : Ev) (F H : Hp) (d : D) (v : V) (own : List (Option D)) (Q : St → Hp → Prop), yl F H → VAt F ρ σ → At F d v → b d = some own → (∀ σ', VAt F (own ++ ρ) σ' → Q σ' H) → t v (List.replicate n none ++ σ) H Q
noncomputable def xn : Ev → Option Bool := fun _ => some true
theorem zka : RT tYes xn := fun _ _ _ _ _ _ s _ e q => by cases e; exact q _ _ (.refl s)
theorem zjI {wi : TI} {n : Nat} {g : TG} {tt : TT} {te : TE} {fi : Ev → Option (List D)} {b : D → Option (List (Option D))} {ft : Ev → Option Bool} {fe : Ev → Option D} (ri : RI wi fi) (rg : RB n g b) (rt : RT tt ft) (re : RE te fe) :
    RF (tLC wi n g tt te) (fLC fi b ft fe) := by
  intro σ ρ F H out Q s va e q
  obtain ⟨ds, e1, e2⟩ := Option.bind_eq_some_iff.mp e
  split at e2 <;> try cases e2
  rename_i hlim
  have hlim : ds.length ≤ sizeLine := of_decide_eq_true hlim
  refine ri σ ρ F H ds _ s va e1 fun F1 H1 J g1 ok => ?_
  intro P hP
  have hF1 : F1 P = none := g1.fh.free hP
  have hH0 : H P = none := by
    cases e : H P with
    | none => rfl
    | some o =>
      cases e2 : F P with
      | none => rw [(g1.kp P o e2 e).2] at hP; cases hP
      | some u => rw [g1.fh _ _ (g1.ff _ _ e2)] at hP; cases hP
  refine ⟨fun i m ys H2 => m = ds.length - i ∧ i ≤ ds.length ∧ ∃ F2 done, Gr F1 H1 F2 H2 ∧ Gr F1 (upd H1 P (.lst [])) F2 (upd H2 P (.lst [])) ∧ F2 P = none ∧ H2 P = some (.lst ys) ∧ AtL F2 done ys ∧ done.length ≤ i ∧ ∃ more, lcD b ft fe ρ (ds.drop i) = some more ∧ done ++ more = out, ⟨ds.length, by simp, Nat.zero_le _, F1, [], Gr.hide g1.fh hP _, ?_, hF1, zo, .nil, Nat.zero_le _, out, e2, rfl⟩, ?_⟩
  · rw [zcb]
    exact .refl fun b u z => by rw [zp (zj z hF1)]; exact g1.fh b u z
  rintro i m ys H2 ⟨rfl, hi, F2, done, g2, g2', hF2, hH2, al, hdl, more, hm, hout⟩
  obtain ⟨stop, go⟩ := ok i F2 H2 g2.ff g2.fh
  by_cases hlt : i < ds.length
  · have hd : ds.drop i = ds[i] :: ds.drop (i + 1) := List.drop_eq_getElem_cons hlt
    rw [hd] at hm
    unfold lcD at hm
    obtain ⟨own, hb, hm⟩ := Option.bind_eq_some_iff.mp hm
    obtain ⟨cb, hc, hm⟩ := Option.bind_eq_some_iff.mp hm
    obtain ⟨k1, k2⟩ := go ds[i] (by simp [hlt])
    refine .inr ⟨k1, by rw [al.length]; omega, fun x H3 hy => ?_⟩
    obtain ⟨F3, g3, a3⟩ := k2 x H3 hy
    refine rg σ ρ F3 H3 ds[i] x own _ g3.fh (va.mono (g1.ff.trans (g2.ff.trans g3.ff))) a3 hb fun σ4 va4 => ?_
    refine rt σ4 _ F3 H3 cb _ g3.fh va4 hc fun F5 H5 g5 => ?_
    have g35 := g3.trans g5
    obtain ⟨n5, h5⟩ := g35.kl (fun _ e => by cases e) hF2 hH2
    have keep2 : ∀ {F6 H6 : Hp} {o : HO}, Gr F2 H2 F6 H6 → F6 P = none → Gr F1 (upd H1 P (.lst [])) F6 (upd (upd H6 P o) P (.lst [])) := fun {F6 H6 o} g6 n6 => by
      rw [zcb]
      refine ⟨g2.ff.trans g6.ff, fun b u z => ?_, fun b u z1 z2 => ?_⟩
      · rw [zp (zj z n6)]; exact g6.fh b u z
      · by_cases hbP : b = P
        · subst hbP
          rw [zo] at z2 ⊢
          exact ⟨.inl n6, z2⟩
        · rw [zp hbP] at z2 ⊢
          exact (g2.trans g6).kp b u z1 z2
    have keep1 : ∀ {F6 H6 : Hp} {o : HO}, Gr F2 H2 F6 H6 → F6 P = none → Gr F1 H1 F6 (upd H6 P o) := fun {F6 H6 o} g6 n6 => by
      refine ⟨g2.ff.trans g6.ff, fun b u z => ?_, fun b u z1 z2 => ?_⟩
      · rw [zp (zj z n6)]; exact g6.fh b u z
      · rw [zp (zj z2 hP)]
        exact (g2.trans g6).kp b u z1 z2
    cases cb with
    | false =>
      rw [if_neg Bool.false_ne_true] at hm ⊢
      have ups : H5 = upd H5 P (.lst ys) := by
        funext b
        by_cases hbP : b = P
        · subst hbP; rw [zo]; exact h5
        · rw [zp hbP]
      refine ⟨ds.length - (i + 1), by omega, rfl, hlt, F5, done, ?_, ?_, n5, h5, al.mono g35.ff, by omega, more, hm, hout⟩
      · rw [ups]; exact keep1 g35 n5
      · have := keep2 (o := .lst ys) g35 n5
        rw [← ups] at this
        exact this
    | true =>
      rw [if_pos rfl] at hm ⊢
      obtain ⟨y, hy, hm⟩ := Option.bind_eq_some_iff.mp hm
      obtain ⟨rest, hm', rfl⟩ := Option.map_eq_some_iff.mp hm
      refine re σ4 _ F5 H5 y _ g5.fh (va4.mono g5.ff) hy fun F6 H6 v g6 a6 => ?_
      have g36 := g35.trans g6
      obtain ⟨n6, h6⟩ := g36.kl (fun _ e => by cases e) hF2 hH2
      refine ⟨h6, ds.length - (i + 1), by omega, rfl, hlt, F6, done ++ [y], keep1 g36 n6, keep2 g36 n6, n6, zo, (al.mono g36.ff).snoc a6, by rw [List.length_append]; simp; omega, rest, hm', by rw [← hout, List.append_assoc]; rfl⟩
  · have e : i = ds.length := by omega
    subst e
    rw [List.drop_length] at hm
    cases hm
    rw [List.append_nil] at hout
    subst hout
    exact .inl ⟨stop rfl, q F2 H2 P ys (g1.trans g2) hH0 hF2 hH2 al⟩
theorem rb1 : RB 1 (Yn 0) b1 := by
  intro σ ρ F H d v own Q s va av e q
  cases e
  refine q _ fun i d' h => ?_
  cases i with
  | zero => cases h; exact ⟨v, rfl, av⟩
  | succ i => exact va i d' h
theorem rb2 {K : PySem.W.Frag} : RB 2 (zk6 K 2 (zbj (Yn 0) (zbj (Yn 1) zk9))) b2 := by
  intro σ ρ F H d v own Q s va av e q
  unfold b2 at e
  split at e <;> cases e
  obtain ⟨p, xs, rfl, hx, al⟩ := av.tup_inv
  obtain ⟨x, r, rfl, ax, al⟩ := al.cons_inv
  obtain ⟨y, r, rfl, ay, al⟩ := al.cons_inv
  cases al.nil_inv
  refine ⟨p, _, rfl, SqT.of (s _ _ hx), rfl, x, _, rfl, y, _, rfl, rfl, ?_⟩
  refine q _ fun i d' h => ?_
  match i, h with
  | 0, h => cases h; exact ⟨x, rfl, ax⟩
  | 1, h => cases h; exact ⟨y, rfl, ay⟩
  | i + 2, h => exact va i d' h
noncomputable def tCan (f : Ev → Option D) : TE := fun σ H Q => ∃ ρ F d, yl F H ∧ VAt F ρ σ ∧ f ρ = some d ∧ ∀ F' H' v, Gr F H F' H' → At F' d v → Q v H'
noncomputable def zjj (f : Ev → Option Bool) : TT := fun σ H Q => ∃ ρ F d, yl F H ∧ VAt F ρ σ ∧ f ρ = some d ∧ ∀ F' H', Gr F H F' H' → Q d H'
theorem ED.can {X : Cx} {e : Expr} {f : Ev → Option D} (h : ED X e f) : PE X e (tCan f) := by
  obtain ⟨t, p, r⟩ := h
  rintro pins s σ H Q I ⟨ρ, F, d, h1, h2, h3, h4⟩
  exact p pins s σ H Q I (r σ ρ F H d Q h1 h2 h3 h4)
theorem TD.can {X : Cx} {e : Expr} {f : Ev → Option Bool} (h : TD X e f) : PT X e (zjj f) := by
  obtain ⟨t, p, r⟩ := h
  rintro pins s σ H Q I ⟨ρ, F, d, h1, h2, h3, h4⟩
  exact p pins s σ H Q I (r σ ρ F H d Q h1 h2 h3 h4)
theorem zhK {f : Ev → Option D} : RE (tCan f) f := fun _ ρ F _ d _ h1 h2 h3 h4 => ⟨ρ, F, d, h1, h2, h3, h4⟩
theorem zjz {f : Ev → Option Bool} : RT (zjj f) f := fun _ ρ F _ d _ h1 h2 h3 h4 => ⟨ρ, F, d, h1, h2, h3, h4⟩
theorem WF {X : Cx} {elt tg iter : Expr} {L M : List Str} {scope : Scope} {cl : List (Str × Addr)} {pos : Pos} {fi : Ev → Option (List D)} {b : D → Option (List (Option D))} {fe : Ev → Option D} {g : TG}
    (hc : X.calm = true) (S : wj X L M scope cl) (hi : ID X tg iter fi)
    (hgS : ∀ (σ : St) (v : V) (H : Hp) (Q : St → Hp → Prop), g v (List.replicate L.length none ++ σ) H Q → g v (List.replicate L.length none ++ σ) H (fun σ2 H2 => Zh (List.replicate L.length none ++ σ) σ2 ∧ Q σ2 H2))
    (hrb : RB L.length g b)
    (hg : ∀ s₀ H₀ ex pn, PG (zel X L M scope cl s₀ H₀ ex pn) tg g) (he : ∀ s₀ H₀ ex pn, ED (zel X L M scope cl s₀ H₀ ex pn) elt fe)
    (hs : ∀ x, foldedSetIterable iter X.env x = pure x := by intro _; rfl) : FL X (.ListComp elt [⟨tg, iter, [], 0⟩] scope pos) (fLC fi b xn fe) := by
  obtain ⟨wi, pi, ri⟩ := hi
  exact ⟨_, zhF hc S pi hgS hg (fun _ _ _ _ => zio) (fun _ _ _ _ => (he _ _ _ _).can) hs, zjI ri hrb zka zhK⟩
theorem Xq {X : Cx} {elt tg iter c : Expr} {L M : List Str} {scope : Scope} {cl : List (Str × Addr)} {pos : Pos} {fi : Ev → Option (List D)} {b : D → Option (List (Option D))} {ft : Ev → Option Bool} {fe : Ev → Option D} {g : TG}
    (hc : X.calm = true) (S : wj X L M scope cl) (hi : ID X tg iter fi)
    (hgS : ∀ (σ : St) (v : V) (H : Hp) (Q : St → Hp → Prop), g v (List.replicate L.length none ++ σ) H Q → g v (List.replicate L.length none ++ σ) H (fun σ2 H2 => Zh (List.replicate L.length none ++ σ) σ2 ∧ Q σ2 H2))
    (hrb : RB L.length g b)
    (hg : ∀ s₀ H₀ ex pn, PG (zel X L M scope cl s₀ H₀ ex pn) tg g) (ht : ∀ s₀ H₀ ex pn, TD (zel X L M scope cl s₀ H₀ ex pn) c ft) (he : ∀ s₀ H₀ ex pn, ED (zel X L M scope cl s₀ H₀ ex pn) elt fe)
    (hs : ∀ x, foldedSetIterable iter X.env x = pure x := by intro _; rfl) : FL X (.ListComp elt [⟨tg, iter, [c], 0⟩] scope pos) (fLC fi b ft fe) := by
  obtain ⟨wi, pi, ri⟩ := hi
  exact ⟨_, zhF hc S pi hgS hg (fun _ _ _ _ => ziu (ht _ _ _ _).can) (fun _ _ _ _ => (he _ _ _ _).can) hs, zjI ri hrb zjz zhK⟩
noncomputable def fnD (n : Nat) (g : SE → Ctl) (ds : List D) : Option D := match g (ds.map .v ++ List.replicate (n - ds.length) .no) with
  | .rt d => some d
  | .nx _ => some .non
  | _ => none
noncomputable def spD (m : Nat) (p : List D → Option D) : Sp := fun vs H Q _ => ∃ ds d F, ds.length = m ∧ yl F H ∧ AtL F ds vs ∧ p ds = some d ∧ ∀ F' H' v, Gr F H F' H' → At F' d v → Q v H'
theorem zdh {F H : Hp} {N : List Str} {ds : List D} {vs : List V} (s : yl F H) (a : AtL F ds vs) : Rl F H F H (ds.map .v ++ List.replicate (N.length - ds.length) .no) (L2.start N vs) := by
  have hl := a.length
  have noO : ∀ (i : Nat) (t : Sl), (ds.map Sl.v ++ List.replicate (N.length - ds.length) Sl.no)[i]? = some t → t.isO = true → False := fun i t h ho => by
    by_cases hi : i < ds.length
    · rw [List.getElem?_append_left (by simpa using hi), List.getElem?_map] at h
      cases e : ds[i]? with
      | none => rw [e] at h; cases h
      | some d => rw [e] at h; cases h; cases ho
    · rw [List.getElem?_append_right (by simpa using hi), List.getElem?_replicate] at h
      split at h <;> cases h
      cases ho
  refine ⟨.refl s, fun i d h => ?_, fun i t h ho => (noO i t h ho).elim, fun i j p t u h _ ho => (noO i t h ho).elim, ?_⟩
  · by_cases hi : i < ds.length
    · rw [List.getElem?_append_left (by simpa using hi), List.getElem?_map] at h
      cases e : ds[i]? with
      | none => rw [e] at h; cases h
      | some d' =>
        rw [e] at h
        cases h
        obtain ⟨x, hx, ax⟩ := a.get e
        refine ⟨x, ?_, ax⟩
        unfold L2.start
        rw [List.getElem?_append_left (by simpa [hl] using hi), List.getElem?_map, hx]
        rfl
    · rw [List.getElem?_append_right (by simpa using hi), List.getElem?_replicate] at h
      split at h <;> cases h
  · unfold L2.start
    simp [hl]
theorem yL {P : Program} {w : World} {K : PySem.W.Frag} {mg : Str → Option Value} {base : Heap} {x qual : Str} {st : Stmt} {f : Addr} {fd : FuncData} {N ps : List Str} {k : Nat} {g : SE → Ctl} (Fu : Fun K x qual st f fd) (S : zv N ps (ze st))
    (hb : ∀ (cdv : Value) (A : Around) (outer : List Env) (s : Shared) (H : Hp) (E : XK), vW k (A.deeper (PyProof.Rows.envOfC qual (ze st) s.heap.objs.size f cdv)) → SDs (zg0 CX0 P w K mg base N qual (ze st) f cdv A outer s H E).nox (zu st) g) :
    yU P w K mg base CX0 (k + 1) f fd ps (spD ps.length (fnD N.length g)) := by
  refine Fu.ok S (fun vs H Q E h => ?_) fun cdv A outer s H vs Q E hr h => ?_
  · obtain ⟨ds, d, F, hl, _, a, _⟩ := h
    rw [a.length]; exact hl
  · obtain ⟨ds, d, F, hl, sm, a, e, q⟩ := h
    obtain ⟨t, p, r⟩ := hb cdv A outer s H E hr
    refine ⟨t, p, r F H F H _ _ _ (zdh sm a) ?_⟩
    unfold fnD at e
    cases hg : g (ds.map .v ++ List.replicate (N.length - ds.length) .no) with
    | rt d' => rw [hg] at e; cases e; exact fun F' H' v g av => q F' H' v g av
    | nx ρ => rw [hg] at e; cases e; exact fun F' H' σ rl => q F' H' _ rl.gr .non
    | bk ρ => rw [hg] at e; cases e
    | ct ρ => rw [hg] at e; cases e
    | no => rw [hg] at e; cases e
theorem wa {P : Program} {w : World} {K : PySem.W.Frag} {mg : Str → Option Value} {base : Heap} {f : Addr} {fd : FuncData} {ps : List Str} {k m : Nat} {p q : List D → Option D} (F : yU P w K mg base CX0 k f fd ps (spD m p)) (h : ∀ ds d, ds.length = m → q ds = some d → p ds = some d) : yU P w K mg base CX0 k f fd ps (spD m q) :=
  F.imp fun vs H Q E ⟨ds, d, F', h1, h2, h3, h4, h5⟩ => ⟨ds, d, F', h1, h2, h3, h ds d h1 h4, h5⟩
noncomputable def zw (m : Nat) (p : List D → Option D) (f : Ev → Option (List D)) : Ev → Option D := fun ρ => (f ρ).bind fun ds => if ds.length = m then p ds else none
theorem zt {X : Cx} {x : Str} {k m : Nat} {f : Addr} {fd : FuncData} {ps : List Str} {p : List D → Option D} {e : Expr} {es : List Expr} {pp pos : Pos} {fa : Ev → Option (List D)} (F : yU X.prog X.w X.K X.mg X.base CX0 k f fd ps (spD m p)) (hr : vW k X.A) (hg : Gl X x) (hm : X.mg x = some (.ref f)) (hk : PySem.W.keepIn X.K (.ref f) = true) (hb : WQ X.K fd ps [])
    (ha : AD X (e :: es) fa) (hdb : (x == ("__debug__" : Str)) = false := by decide) (he : starEach (e :: es) X.env = (false, eval e X.env) :: starEach es X.env := by rfl) (hpl : (backTo pos (starEach es X.env)).any (·.1) = false := by rfl) :
    ED X (.Call (.Name x pp) (e :: es) [] pos) (zw m p fa) := by
  obtain ⟨t, pa, r⟩ := ha
  refine ⟨_, zfI F hr hg hm hk hb .nil zjL pa hdb he hpl, fun σ ρ F0 H d Q s va e q => ?_⟩
  obtain ⟨ds, e1, e2⟩ := Option.bind_eq_some_iff.mp e
  split at e2 <;> try cases e2
  rename_i hl
  refine r σ ρ F0 H ds _ s va e1 fun F1 H1 vs g1 a1 => ?_
  refine ⟨ds, d, F1, hl, g1.fh, by rw [List.append_nil]; exact a1, e2, fun F' H' v g av => q F' H' v (g1.trans g) av⟩
end Dl
namespace Dl
open PySem L2
variable [KK]
section
variable {X : Cx} {a b c e : Expr} {pos : Pos}
theorem XJ : bootBuiltins "isinstance" = some (.builtin "isinstance") := by decide +kernel
theorem wX : bootBuiltins "len" = some (.builtin "len") := by decide +kernel
theorem zko : bootBuiltins "min" = some (.builtin "min") := by decide +kernel
theorem zas : bootBuiltins "max" = some (.builtin "max") := by decide +kernel
theorem zeM : bootBuiltins "sorted" = some (.builtin "sorted") := by decide +kernel
theorem zeY : bootBuiltins "int" = some (.type "int") := by decide +kernel
theorem XS : bootBuiltins "bool" = some (.type "bool") := by decide +kernel
theorem xu : bootBuiltins "tuple" = some (.type "tuple") := by decide +kernel
theorem zc5 : bootBuiltins "list" = some (.type "list") := by decide +kernel
theorem zht : bootBuiltins "str" = some (.type "str") := by decide +kernel
theorem ve : bootBuiltins "enumerate" = some (.type "enumerate") := by decide +kernel
theorem zjY : bootBuiltins "zip" = some (.type "zip") := by decide +kernel
noncomputable def ZV (C : Int → Int → Bool) (g : Int → Int → Int) : D → D → Option D
  | .int i, .int j => if C i j = true then some (.int (g i j)) else none
  | _, _ => none
noncomputable def wo (g : Int → Int → Int) : D → D → Option D
  | .int i, .int j => some (.int (g i j))
  | _, _ => none
noncomputable def Xr (g : Int → Int → Bool) : D → D → Option D
  | .int i, .int j => some (.bl (g i j))
  | _, _ => none
theorem Zs {C : Int → Int → Prop} {Cb : Int → Int → Bool} {g : Int → Int → Int} (h : ∀ i j, Cb i j = true → C i j) : OpD (rI C fun i j => .int (g i j)) (ZV Cb g) := by
  intro F H x y d e z Q s ax ay ez q
  cases d <;> try cases ez
  cases e <;> try cases ez
  unfold ZV at ez
  dsimp only at ez
  split at ez <;> cases ez
  rename_i hc
  exact ⟨_, _, ax.int_inv, ay.int_inv, h _ _ hc, q F H _ (.refl s) .int⟩
theorem WA {g : Int → Int → Int} : OpD (rI0 fun i j => .int (g i j)) (wo g) := by
  intro F H x y d e z Q s ax ay ez q
  cases d <;> try cases ez
  cases e <;> try cases ez
  exact ⟨_, _, ax.int_inv, ay.int_inv, q F H _ (.refl s) .int⟩
theorem yM {g : Int → Int → Bool} : OpD (rI0 fun i j => .bl (g i j)) (Xr g) := by
  intro F H x y d e z Q s ax ay ez q
  cases d <;> try cases ez
  cases e <;> try cases ez
  exact ⟨_, _, ax.int_inv, ay.int_inv, q F H _ (.refl s) .bl⟩
theorem Vb {r r' : R2} {g g' : D → D → Option D} (h : OpD r g) (h' : OpD r' g') : OpD (fun x y H Q => r x y H Q ∨ r' x y H Q) (fun d e => (g d e).or (g' d e)) := by
  intro F H x y d e z Q s ax ay ez q
  dsimp only at ez
  cases hg : g d e with
  | some z' => rw [hg] at ez; cases ez; exact .inl (h F H x y d e z Q s ax ay hg q)
  | none => rw [hg] at ez; exact .inr (h' F H x y d e z Q s ax ay ez q)
noncomputable def zjr : D → D → Option D
  | .tup a, .tup b => if lim (a.length + b.length) = true then some (.tup (a ++ b)) else none
  | _, _ => none
noncomputable def zkL : D → D → Option (List D)
  | .lst a, .lst b => if lim (a.length + b.length) = true then some (a ++ b) else none
  | _, _ => none
noncomputable def zeO (d e : D) : Option D := (zkL d e).map .lst
noncomputable def zk0 : D → D → Option D
  | .str a, .str b => if lim (a.length + b.length) = true then some (.str (a ++ b)) else none
  | _, _ => none
theorem zgf {K : PySem.W.Frag} : OpD (zhq K) zjr := by
  intro F H x y d e z Q s ax ay ez q
  cases d <;> try cases ez
  cases e <;> try cases ez
  unfold zjr at ez
  dsimp only at ez
  split at ez <;> cases ez
  rename_i hl
  obtain ⟨p, xs, rfl, hx, al⟩ := ax.tup_inv
  obtain ⟨p2, ys, rfl, hy, bl⟩ := ay.tup_inv
  refine ⟨p, p2, xs, ys, rfl, rfl, SqT.of (s _ _ hx), SqT.of (s _ _ hy), by rw [al.length, bl.length]; exact of_decide_eq_true hl, fun e1 => ?_, fun _ e2 => ?_, fun _ _ r hr => ?_⟩
  · subst e1
    have : (_ : List D) = [] := List.length_eq_zero_iff.mp al.length.symm
    subst this
    exact q F H _ (.refl s) (.tup hy bl)
  · subst e2
    have : (_ : List D) = [] := List.length_eq_zero_iff.mp bl.length.symm
    subst this
    rw [List.append_nil] at q
    exact q F H _ (.refl s) (.tup hx al)
  · have g := Gr.alloc s hr (.tup (xs ++ ys))
    exact q _ _ _ g (.tup zo ((al.append bl).mono g.ff))
theorem zgi : OpD rCat zeO := by
  intro F H x y d e z Q s ax ay ez q
  cases d <;> try cases ez
  cases e <;> try cases ez
  unfold zeO zkL at ez
  dsimp only at ez
  split at ez <;> cases ez
  rename_i hl
  obtain ⟨p, xs, rfl, hx, al⟩ := ax.lst_inv
  obtain ⟨p2, ys, rfl, hy, bl⟩ := ay.lst_inv
  refine ⟨p, p2, xs, ys, rfl, rfl, s _ _ hx, s _ _ hy, by rw [al.length, bl.length]; exact of_decide_eq_true hl, fun r hr => ?_⟩
  have g := Gr.alloc s hr (.lst (xs ++ ys))
  exact q _ _ _ g (.lst zo ((al.append bl).mono g.ff))
theorem zgS : OpD (fun x y H Q => ∃ i j, x = .str i ∧ y = .str j ∧ i.length + j.length ≤ sizeLine ∧ Q (.str (i ++ j)) H) zk0 := by
  intro F H x y d e z Q s ax ay ez q
  cases d <;> try cases ez
  cases e <;> try cases ez
  unfold zk0 at ez
  dsimp only at ez
  split at ez <;> cases ez
  rename_i hl
  exact ⟨_, _, ax.str_inv, ay.str_inv, of_decide_eq_true hl, q F H _ (.refl s) .str⟩
noncomputable def vE : D → D → Option D
  | .int i, .int j => some (.int (i + j))
  | .tup a, .tup b => if lim (a.length + b.length) = true then some (.tup (a ++ b)) else none
  | .lst a, .lst b => if lim (a.length + b.length) = true then some (.lst (a ++ b)) else none
  | .str a, .str b => if lim (a.length + b.length) = true then some (.str (a ++ b)) else none
  | _, _ => none
theorem zbR {r : R2} {g g' : D → D → Option D} (h : OpD r g) (k : ∀ d e z, g' d e = some z → g d e = some z) : OpD r g' := fun F H x y d e z Q s ax ay ez q => h F H x y d e z Q s ax ay (k d e z ez) q
theorem xw {f h : Ev → Option D} (ha : ED X a f) (hb : ED X b h) : ED X (.BinOp a .Add b pos) (zr vE f h) :=
  Xm (((zj9.or zgW).or zjk).or zdX) (zbR (Vb (Vb (Vb (WA (g := fun i j => i + j)) zgf) zgi) zgS) fun d e z h => by
    cases d <;> try cases h
    all_goals cases e <;> try cases h
    · rfl
    · unfold vE at h; dsimp only at h; split at h <;> cases h; rename_i hl; simp [wo, zjr, hl, zeO, zkL, zk0]
    · unfold vE at h; dsimp only at h; split at h <;> cases h; rename_i hl; simp [wo, zjr, hl, zeO, zkL, zk0]
    · unfold vE at h; dsimp only at h; split at h <;> cases h; rename_i hl; simp [wo, zjr, hl, zeO, zkL, zk0]) ha hb
noncomputable def fBin (g : D → D → Option (List D)) (f h : Ev → Option D) : Ev → Option (List D) := fun ρ => (f ρ).bind fun x => (h ρ).bind fun y => g x y
theorem zb2 {F H F1 H1 : Hp} {p : Addr} (g1 : Gr F H F1 H1) (hp : H1 p = none) : H p = none := by
  cases e : H p with
  | none => rfl
  | some o =>
    cases e2 : F p with
    | none => rw [(g1.kp p o e2 e).2] at hp; cases hp
    | some u => rw [g1.fh _ _ (g1.ff _ _ e2)] at hp; cases hp
noncomputable def ZH (i j : Int) : Bool := decide ((-(2 ^ 64) < i ∧ i < 2 ^ 64) ∨ (-(2 ^ 64) < j ∧ j < 2 ^ 64))
noncomputable def zjh : D → D → Option (List D)
  | .lst a, .int k => if -(2 ^ 63) ≤ k ∧ k < 2 ^ 63 ∧ lim (a.length * k.toNat) = true then some (List.replicate k.toNat a).flatten else none
  | _, _ => none
noncomputable def zgM (d e : D) : Option D := (zjh d e).map .lst
noncomputable def vO : D → D → Option D
  | .int i, .int j => if ZH i j = true then some (.int (i * j)) else none
  | .lst a, .int k => if -(2 ^ 63) ≤ k ∧ k < 2 ^ 63 ∧ lim (a.length * k.toNat) = true then some (.lst (List.replicate k.toNat a).flatten) else none
  | _, _ => none
theorem zf3 : OpD rRep zgM := by
  intro F H x y d e z Q s ax ay ez q
  cases d <;> try cases ez
  cases e <;> try cases ez
  unfold zgM zjh at ez
  dsimp only at ez
  split at ez <;> cases ez
  rename_i hl
  obtain ⟨p, xs, rfl, hx, al⟩ := ax.lst_inv
  refine ⟨p, _, xs, rfl, ay.int_inv, s _ _ hx, hl.1, hl.2.1, by rw [al.length]; exact of_decide_eq_true hl.2.2, fun r hr => ?_⟩
  rename_i ds k
  have g := Gr.alloc s hr (.lst (List.replicate k.toNat xs).flatten)
  exact q _ _ _ g (.lst zo ((al.rep _).mono g.ff))
theorem Xs {f h : Ev → Option D} (ha : ED X a f) (hb : ED X b h) : ED X (.BinOp a .Mult b pos) (zr vO f h) :=
  Xm (zk3.or zhw) (zbR (Vb (Zs (Cb := ZH) (g := fun i j => i * j) fun i j h => by have h' := of_decide_eq_true (show decide ((-(2 ^ 64) < i ∧ i < 2 ^ 64) ∨ (-(2 ^ 64) < j ∧ j < 2 ^ 64)) = true from h); exact h') zf3) fun d e z h => by
    cases d <;> try cases h
    all_goals cases e <;> try cases h
    · unfold vO at h; dsimp only at h; split at h <;> cases h; rename_i hl; simp [ZV, hl]
    · unfold vO at h; dsimp only at h; split at h <;> cases h; rename_i hl; show (zgM _ _) = _; unfold zgM zjh; dsimp only; rw [if_pos hl]; rfl) ha hb
theorem zkt {f h : Ev → Option D} (ha : ED X a f) (hb : ED X b h) : FL X (.BinOp a .Mult b pos) (fBin zjh f h) := by
  obtain ⟨ta, pa, ra⟩ := ha
  obtain ⟨tb, pb, rb⟩ := hb
  refine ⟨_, zjv zhw pa pb, fun σ ρ F H z Q s va e q => ?_⟩
  obtain ⟨x, e1, e3⟩ := Option.bind_eq_some_iff.mp e
  obtain ⟨y, e2, ez⟩ := Option.bind_eq_some_iff.mp e3
  clear e e3
  refine ra σ ρ F H x _ s va e1 fun F1 H1 v g1 a1 => ?_
  refine rb σ ρ F1 H1 y _ g1.fh (va.mono g1.ff) e2 fun F2 H2 u g2 a2 => ?_
  cases x <;> try cases ez
  cases y <;> try cases ez
  unfold zjh at ez
  dsimp only at ez
  split at ez <;> cases ez
  rename_i hl
  obtain ⟨p, xs, rfl, hx, al⟩ := (a1.mono g2.ff).lst_inv
  refine ⟨p, _, xs, rfl, a2.int_inv, g2.fh _ _ hx, hl.1, hl.2.1, by rw [al.length]; exact of_decide_eq_true hl.2.2, fun r hr => ?_⟩
  exact q _ _ _ _ ((g1.trans g2).trans (Gr.hide g2.fh hr _)) (zb2 (g1.trans g2) hr) (g2.fh.free hr) zo (al.rep _)
noncomputable def XL := wo fun i j => i - j
noncomputable def yQ := ZV (fun _ j => decide (0 < j ∧ j < 1606938044258990275541962092341162602522202993782792835301376)) fun i j => i / j
noncomputable def xL := ZV (fun _ j => decide (0 < j)) fun i j => i % j
noncomputable def zjf := ZV (fun _ j => decide (0 ≤ j)) fun i j => i / 2 ^ j.toNat
theorem zeZ {f h : Ev → Option D} (ha : ED X a f) (hb : ED X b h) : ED X (.BinOp a .Sub b pos) (zr XL f h) := Xm zkw WA ha hb
theorem zgC : OpR X (binaryOp .FloorDiv) (rI (fun _ j => 0 < j ∧ j < 1606938044258990275541962092341162602522202993782792835301376) fun i j => .int (i / j)) := opI fun i j _ _ _ _ _ hc q => by
  have h1 : (0 : Int) < j := hc.1
  have h2 : j < 1606938044258990275541962092341162602522202993782792835301376 := hc.2
  refine PyProof.Rows.floordiv_int (by omega) (by rw [Int.fdiv_eq_ediv_of_nonneg i (by omega)]; exact q) (.inl (PyProof.noPylong_of_log2 ?_))
  have h0 : j.natAbs ≠ 0 := by omega
  have h3 : j.natAbs < 1606938044258990275541962092341162602522202993782792835301376 := by omega
  have h4 : j.natAbs.log2 < 200 := (Nat.log2_lt h0).mpr h3
  omega
theorem YG {f h : Ev → Option D} (ha : ED X a f) (hb : ED X b h) : ED X (.BinOp a .FloorDiv b pos) (zr yQ f h) := Xm zgC (Zs fun _ _ h => by have h' := of_decide_eq_true h; exact h') ha hb
theorem wU {f h : Ev → Option D} (ha : ED X a f) (hb : ED X b h) : ED X (.BinOp a .Mod b pos) (zr xL f h) := Xm zkY (Zs fun _ _ h => by have h' := of_decide_eq_true h; exact h') ha hb
theorem zkB {f h : Ev → Option D} (ha : ED X a f) (hb : ED X b h) : ED X (.BinOp a .RShift b pos) (zr zjf f h) := Xm zjM (Zs fun _ _ h => by have h' := of_decide_eq_true h; exact h') ha hb
noncomputable def ltD := Xr fun i j => decide (i < j)
noncomputable def leD := Xr fun i j => decide (i ≤ j)
noncomputable def gtD := Xr fun i j => decide (j < i)
noncomputable def geD := Xr fun i j => decide (j ≤ i)
noncomputable def eqS : D → D → Option Bool
  | .non, .non => some true
  | .int i, .int j => some (decide (i = j))
  | .bl i, .bl j => some (decide (i = j))
  | .str i, .str j => some (decide (i = j))
  | .non, .int _ => some false | .int _, .non => some false | .non, .bl _ => some false | .bl _, .non => some false | .non, .str _ => some false | .str _, .non => some false
  | .int _, .str _ => some false | .str _, .int _ => some false | .bl _, .str _ => some false | .str _, .bl _ => some false
  | _, _ => none
noncomputable def eqD (d e : D) : Option D := (eqS d e).map .bl
noncomputable def neD (d e : D) : Option D := (eqS d e).map fun c => .bl (!c)
theorem zhA : OpD rEq eqD := by
  intro F H x y d e z Q s ax ay ez q
  obtain ⟨c, e1, rfl⟩ := Option.map_eq_some_iff.mp ez
  cases d <;> cases e <;> try cases e1
  · cases ax.non_inv; cases ay.non_inv; exact ⟨rfl, q F H _ (.refl s) .bl⟩
  · cases ax.non_inv; cases ay.bl_inv; exact ⟨rfl, q F H _ (.refl s) .bl⟩
  · cases ax.non_inv; cases ay.int_inv; exact ⟨rfl, q F H _ (.refl s) .bl⟩
  · cases ax.non_inv; cases ay.str_inv; exact ⟨rfl, q F H _ (.refl s) .bl⟩
  · cases ax.bl_inv; cases ay.non_inv; exact ⟨rfl, q F H _ (.refl s) .bl⟩
  · cases ax.bl_inv; cases ay.bl_inv; refine ⟨rfl, ?_⟩; rw [show ∀ i j : Bool, decide (V.bl i = V.bl j) = decide (i = j) from fun i j => by simp]; exact q F H _ (.refl s) .bl
  · cases ax.bl_inv; cases ay.str_inv; exact ⟨rfl, q F H _ (.refl s) .bl⟩
  · cases ax.int_inv; cases ay.non_inv; exact ⟨rfl, q F H _ (.refl s) .bl⟩
  · cases ax.int_inv; cases ay.int_inv; refine ⟨rfl, ?_⟩; rw [show ∀ i j : Int, decide (V.int i = V.int j) = decide (i = j) from fun i j => by simp]; exact q F H _ (.refl s) .bl
  · cases ax.int_inv; cases ay.str_inv; exact ⟨rfl, q F H _ (.refl s) .bl⟩
  · cases ax.str_inv; cases ay.non_inv; exact ⟨rfl, q F H _ (.refl s) .bl⟩
  · cases ax.str_inv; cases ay.bl_inv; exact ⟨rfl, q F H _ (.refl s) .bl⟩
  · cases ax.str_inv; cases ay.int_inv; exact ⟨rfl, q F H _ (.refl s) .bl⟩
  · cases ax.str_inv; cases ay.str_inv; refine ⟨rfl, ?_⟩; rw [show ∀ i j : Str, decide (V.str i = V.str j) = decide (i = j) from fun i j => by simp]; exact q F H _ (.refl s) .bl
theorem Xl : OpD rNe neD := by
  intro F H x y d e z Q s ax ay ez q
  obtain ⟨c, e1, rfl⟩ := Option.map_eq_some_iff.mp ez
  have := zhA F H x y d e (.bl c) (fun v H' => ∃ b, v = .bl b ∧ Q (.bl (!b)) H') s ax ay (by unfold eqD; rw [e1]; rfl) fun F' H' v g av => ⟨c, av.bl_inv, q F' H' _ g .bl⟩
  obtain ⟨h1, b, h2, h3⟩ := this
  cases h2
  exact ⟨h1, h3⟩
noncomputable def Xa : D → D → Option D
  | d, .non => some (.bl (match d with | .non => true | _ => false))
  | .bl a, .bl b => some (.bl (a == b))
  | _, _ => none
noncomputable def yw : D → D → Option D
  | d, .non => some (.bl (match d with | .non => false | _ => true))
  | .bl a, .bl b => some (.bl (!(a == b)))
  | _, _ => none
theorem zeQ {F : Hp} {d : D} {x : V} (h : At F d x) : decide (x = V.non) = (match d with | .non => true | _ => false) := by
  cases d with
  | non => cases h.non_inv; rfl
  | bl b => cases h.bl_inv; rfl
  | int b => cases h.int_inv; rfl
  | str b => cases h.str_inv; rfl
  | tup ds => obtain ⟨a, xs, rfl, _⟩ := h.tup_inv; rfl
  | lst ds => obtain ⟨a, xs, rfl, _⟩ := h.lst_inv; rfl
  | scr ds => obtain ⟨a, rfl, _⟩ := h.scr_inv; rfl
  | dct z t ks vs => obtain ⟨a, xs, rfl, _⟩ := h.dct_inv; rfl
theorem zaZ : OpD (fun x y H Q => (y = .non ∧ Q (.bl (decide (x = .non))) H) ∨ ∃ i j, x = .bl i ∧ y = .bl j ∧ Q (.bl (i == j)) H) Xa := by
  intro F H x y d e z Q s ax ay ez q
  unfold Xa at ez
  split at ez
  · cases ez
    refine .inl ⟨ay.non_inv, ?_⟩
    rw [zeQ ax]
    have := q F H _ (.refl s) .bl
    cases d <;> exact this
  · cases ez
    exact .inr ⟨_, _, ax.bl_inv, ay.bl_inv, q F H _ (.refl s) .bl⟩
  · cases ez
theorem zd0 : OpD (fun x y H Q => (y = .non ∧ Q (.bl (!decide (x = .non))) H) ∨ ∃ i j, x = .bl i ∧ y = .bl j ∧ Q (.bl (!(i == j))) H) yw := by
  intro F H x y d e z Q s ax ay ez q
  unfold yw at ez
  split at ez
  · cases ez
    refine .inl ⟨ay.non_inv, ?_⟩
    rw [zeQ ax]
    have := q F H _ (.refl s) .bl
    cases d <;> exact this
  · cases ez
    exact .inr ⟨_, _, ax.bl_inv, ay.bl_inv, q F H _ (.refl s) .bl⟩
  · cases ez
theorem zex : OpR X (compareOp .Is) (fun x y H Q => (y = .non ∧ Q (.bl (decide (x = .non))) H) ∨ ∃ i j, x = .bl i ∧ y = .bl j ∧ Q (.bl (i == j)) H) := zkx.or zgX
theorem zfz : OpR X (compareOp .IsNot) (fun x y H Q => (y = .non ∧ Q (.bl (!decide (x = .non))) H) ∨ ∃ i j, x = .bl i ∧ y = .bl j ∧ Q (.bl (!(i == j))) H) := zh5.or zc1
noncomputable def xg (g g' : D → D → Option D) (f h k : Ev → Option D) : Ev → Option D := fun ρ => (f ρ).bind fun x => (h ρ).bind fun y => ((g x y).bind asB).bind fun c => if c = true then (k ρ).bind fun z => g' y z else some (.bl false)
theorem zgU {r r' : R2} {g g' : D → D → Option D} {ta tb tc : TE} {f h k : Ev → Option D} (hg : OpD r g) (hg' : OpD r' g') (ra : RE ta f) (rb : RE tb h) (rc : RE tc k) : RE (zft r r' ta tb tc) (xg g g' f h k) := by
  intro σ ρ F H z Q s va e q
  obtain ⟨x, e1, e⟩ := Option.bind_eq_some_iff.mp e
  obtain ⟨y, e2, e⟩ := Option.bind_eq_some_iff.mp e
  obtain ⟨c, e3, e⟩ := Option.bind_eq_some_iff.mp e
  obtain ⟨cd, e3, e4⟩ := Option.bind_eq_some_iff.mp e3
  cases Zm e4
  refine ra σ ρ F H x _ s va e1 fun F1 H1 v g1 a1 => ?_
  refine rb σ ρ F1 H1 y _ g1.fh (va.mono g1.ff) e2 fun F2 H2 u g2 a2 => ?_
  refine hg F2 H2 v u x y _ _ g2.fh (a1.mono g2.ff) a2 e3 fun F3 H3 w g3 a3 => ⟨c, a3.bl_inv, ?_⟩
  have g123 := (g1.trans g2).trans g3
  cases c with
  | true =>
    rw [if_pos rfl] at e ⊢
    obtain ⟨z', e5, e6⟩ := Option.bind_eq_some_iff.mp e
    refine rc σ ρ F3 H3 z' _ g3.fh (va.mono g123.ff) e5 fun F4 H4 w4 g4 a4 => ?_
    exact hg' F4 H4 u w4 y z' z Q g4.fh (a2.mono (g3.ff.trans g4.ff)) a4 e6 fun F5 H5 w5 g5 a5 => q F5 H5 w5 ((g123.trans g4).trans g5) a5
  | false =>
    rw [if_neg Bool.false_ne_true] at e ⊢
    cases e
    exact q F3 H3 _ g123 .bl
theorem zg5 {op op' : CmpOp} {r r' : R2} {g g' : D → D → Option D} {f h k : Ev → Option D} (ho : OpR X (compareOp op) r) (ho' : OpR X (compareOp op') r') (hg : OpD r g) (hg' : OpD r' g') (ha : ED X a f) (hb : ED X b h) (hc : ED X c k)
    (pch : ∀ {ta tb tc : TE}, PE X a ta → PE X b tb → PE X c tc → PE X (.Compare a [op, op'] [b, c] pos) (zft r r' ta tb tc)) : ED X (.Compare a [op, op'] [b, c] pos) (xg g g' f h k) :=
  let ⟨_, pa, ra⟩ := ha
  let ⟨_, pb, rb⟩ := hb
  let ⟨_, pc, rc⟩ := hc
  ⟨_, pch pa pb pc, zgU hg hg' ra rb rc⟩
noncomputable def zdA : List D → Option (List Int)
  | [] => some []
  | .int b :: ds => (zdA ds).map (b :: ·)
  | _ => none
omit [KK] in
theorem ZO : ∀ {ds : List D} {bs : List Int}, zdA ds = some bs → ds = bs.map .int
  | [], bs, h => by cases h; rfl
  | d :: ds, bs, h => by
    cases d <;> try cases h
    obtain ⟨cs, h1, rfl⟩ := Option.map_eq_some_iff.mp h
    rw [ZO h1]
    rfl
noncomputable def leT : D → D → Option D
  | .tup a, .tup b => (zdA a).bind fun ns => (zdA b).map fun ms => .bl (HT.lexLe ns ms)
  | _, _ => none
theorem zib {K : PySem.W.Frag} : OpD (rLeT K) leT := by
  intro F H x y d e z Q s ax ay ez q
  cases d <;> try cases ez
  cases e <;> try cases ez
  obtain ⟨ns, e1, e2⟩ := Option.bind_eq_some_iff.mp ez
  obtain ⟨ms, e3, rfl⟩ := Option.map_eq_some_iff.mp e2
  rw [ZO e1] at ax
  rw [ZO e3] at ay
  obtain ⟨p, xs, rfl, hx, al⟩ := ax.tup_inv
  obtain ⟨p2, ys, rfl, hy, bl⟩ := ay.tup_inv
  cases al.of_ints
  cases bl.of_ints
  exact ⟨p, p2, ns, ms, rfl, rfl, SqT.of (s _ _ hx), SqT.of (s _ _ hy), q F H _ (.refl s) .bl⟩
noncomputable def ixD : D → D → Option D
  | .lst ds, .int i => atI ds i
  | .tup ds, .int i => atI ds i
  | .scr ns, .int i => (atI ns i).map .int
  | _, _ => none
theorem AtL.atI {F : Hp} {ds : List D} {xs : List V} {i : Int} {d : D} (al : AtL F ds xs) (h : L2.atI ds i = some d) : ∃ x, L2.atI xs i = some x ∧ At F d x := by
  unfold L2.atI at h ⊢
  obtain ⟨j, e1, e2⟩ := Option.bind_eq_some_iff.mp h
  obtain ⟨x, hx, ax⟩ := al.get e2
  exact ⟨x, by rw [al.length, e1]; exact hx, ax⟩
theorem zjG : OpD (rIx KK.K) ixD := by
  intro F H x y d e z Q s ax ay ez q
  cases e <;> try (cases d <;> cases ez)
  cases ay.int_inv
  cases d with
  | lst ds =>
    obtain ⟨p, xs, rfl, hx, al⟩ := ax.lst_inv
    obtain ⟨v, e1, av⟩ := al.atI ez
    exact .inl ⟨p, xs, _, v, rfl, rfl, SqL.of (s _ _ hx), e1, q F H _ (.refl s) av⟩
  | tup ds =>
    obtain ⟨p, xs, rfl, hx, al⟩ := ax.tup_inv
    obtain ⟨v, e1, av⟩ := al.atI ez
    exact .inr (.inl ⟨p, xs, _, v, rfl, rfl, SqT.of (s _ _ hx), e1, q F H _ (.refl s) av⟩)
  | scr ns =>
    obtain ⟨p, rfl, hx⟩ := ax.scr_inv
    obtain ⟨n, e1, rfl⟩ := Option.map_eq_some_iff.mp ez
    refine .inl ⟨p, ns.map V.int, _, .int n, rfl, rfl, s.seq hx, ?_, q F H _ (.refl s) .int⟩
    unfold L2.atI at e1 ⊢
    rw [List.length_map]
    obtain ⟨j, e2, e3⟩ := Option.bind_eq_some_iff.mp e1
    rw [e2]
    show (ns.map V.int)[j]? = _
    rw [List.getElem?_map, e3]
    rfl
  | _ => cases ez
theorem yi {f h : Ev → Option D} (ha : ED X a f) (hb : ED X b h) (hs : ze6 b) (hK : X.K = KK.K := by rfl) : ED X (.Subscript a b pos) (zr ixD f h) :=
  let ⟨_, pa, ra⟩ := ha
  let ⟨_, pb, rb⟩ := hb
  ⟨_, zjS zkC pa pb hs, zf9 (by rw [hK]; exact zjG) ra rb⟩
noncomputable def zdL {α : Type} (xs : List α) (lo hi : Option Int) : List α := (xs.drop (HT.sIx xs.length 0 lo)).take (HT.sIx xs.length xs.length hi - HT.sIx xs.length 0 lo)
theorem AtL.cut {F : Hp} {ds : List D} {xs : List V} {lo hi : Option Int} (al : AtL F ds xs) : AtL F (zdL ds lo hi) (zaN xs lo hi) := by
  unfold zdL zaN
  rw [al.length]
  exact (al.drop _).take _
noncomputable def OD (X : Cx) (e : Option Expr) (f : Ev → Option (Option Int)) : Prop := ∃ t, PO X e t ∧ ∀ (σ : St) (ρ : Ev) (F H : Hp) (i : Option Int) (Q : Option Int → Hp → Prop), yl F H → VAt F ρ σ → f ρ = some i → (∀ F' H', Gr F H F' H' → Q i H') → t σ H Q
noncomputable def wG : Ev → Option (Option Int) := fun _ => some none
noncomputable def asI : D → Option Int
  | .int i => some i
  | _ => none
noncomputable def wL (f : Ev → Option D) : Ev → Option (Option Int) := fun ρ => ((f ρ).bind asI).map some
theorem zcp : OD X none wG := ⟨_, ziy, fun _ _ _ _ _ _ s _ e q => by cases e; exact q _ _ (.refl s)⟩
theorem zcx {f : Ev → Option D} (h : ED X e f) : OD X (some e) (wL f) := by
  obtain ⟨t, p, r⟩ := h
  refine ⟨_, ziU p, fun σ ρ F H i Q s va e q => ?_⟩
  obtain ⟨j, e1, rfl⟩ := Option.map_eq_some_iff.mp e
  obtain ⟨d, e1, e2⟩ := Option.bind_eq_some_iff.mp e1
  cases d <;> cases e2
  exact r σ ρ F H _ _ s va e1 fun F1 H1 v g1 a1 => ⟨_, a1.int_inv, q F1 H1 g1⟩
noncomputable def slD : D → Option Int → Option Int → Option D
  | .lst ds, lo, hi => some (.lst (zdL ds lo hi))
  | .scr ns, lo, hi => some (.lst ((zdL ns lo hi).map .int))
  | .tup ds, lo, hi => some (.tup (zdL ds lo hi))
  | _, _, _ => none
noncomputable def eSl (g : D → Option Int → Option Int → Option D) (f : Ev → Option D) (l h : Ev → Option (Option Int)) : Ev → Option D := fun ρ => (f ρ).bind fun d => (l ρ).bind fun lo => (h ρ).bind fun hi => g d lo hi
omit [KK] in
theorem zf8 {ns : List Int} {lo hi : Option Int} : zaN (ns.map V.int) lo hi = (zdL ns lo hi).map V.int := by
  unfold zaN zdL
  rw [List.length_map, List.map_take, List.map_drop]
end
end Dl
namespace L2
open PySem PySem.Spec PyProof.Rows
noncomputable def rSlN : V → Option Int → Option Int → Hp → VK → Prop := fun x lo hi H Q => ∃ a xs, x = .ref a ∧ H a = some (.tup xs) ∧ (zaN xs lo hi = xs → Q (.ref a) H) ∧ ∀ p, H p = none → Q (.ref p) (upd H p (.tup (zaN xs lo hi)))
theorem ziB {X : Cx} : SlR X rSlN := by
  intro pins s σ H x v vl vu lo hi sl Q I rx hs pl pu h
  obtain ⟨a, xs, rfl, hx, q1, q2⟩ := h
  by_cases hw : HT.sIx xs.length 0 lo = 0 ∧ HT.sIx xs.length xs.length hi = xs.length
  · cases rx
    obtain ⟨its, r, ht, hz⟩ := I.tuple (SqT.of hx)
    have hlen : its.toArray.size = xs.length := by rw [List.size_toArray]; exact r.length.symm
    refine ⟨"tuple", _, PyProof.Rows.slot_tuple_getitem.lookup, ht.typeIs, ?_⟩
    refine HT.own_getItem_whole ht hs pl pu (by rw [hlen]; exact hw) ⟨.ref a, H, I, rfl, q1 ?_⟩
    unfold zaN
    rw [hw.1, hw.2, List.drop_zero, Nat.sub_zero, List.take_length]
  · exact zjJ pins s σ H (.ref a) v vl vu lo hi sl Q I rx hs pl pu ⟨a, xs, rfl, SqT.of hx, hw, q2⟩
end L2
namespace Dl
open PySem L2
variable [KK]
section
variable {X : Cx} {a b c e : Expr} {pos : Pos}
theorem Wd {lo hi : Option Expr} {p2 : Pos} {f : Ev → Option D} {l h : Ev → Option (Option Int)} (ha : ED X a f) (hl : OD X lo l) (hh : OD X hi h) (hK : X.K = KK.K := by rfl) : ED X (.Subscript a (.Slice lo hi none p2) pos) (eSl slD f l h) := by
  obtain ⟨ta, pa, ra⟩ := ha
  obtain ⟨tl, ppl, rl⟩ := hl
  obtain ⟨th, ph, rh⟩ := hh
  refine ⟨_, zhf (ziV.or ziB) pa ppl ph, fun σ ρ F H z Q s va e q => ?_⟩
  obtain ⟨d, e1, e⟩ := Option.bind_eq_some_iff.mp e
  obtain ⟨i, e2, e⟩ := Option.bind_eq_some_iff.mp e
  obtain ⟨j, e3, e⟩ := Option.bind_eq_some_iff.mp e
  refine ra σ ρ F H d _ s va e1 fun F1 H1 v g1 a1 => ?_
  refine rl σ ρ F1 H1 i _ g1.fh (va.mono g1.ff) e2 fun F2 H2 g2 => ?_
  refine rh σ ρ F2 H2 j _ g2.fh (va.mono (g1.ff.trans g2.ff)) e3 fun F3 H3 g3 => ?_
  have g123 := (g1.trans g2).trans g3
  have a3 := a1.mono (g2.ff.trans g3.ff)
  cases d <;> try cases e
  · obtain ⟨p, xs, rfl, hx, al⟩ := a3.tup_inv
    refine .inr ⟨p, xs, rfl, g3.fh _ _ hx, fun ec => ?_, fun r hr => ?_⟩
    · have := al.cut (lo := i) (hi := j)
      rw [ec] at this
      exact q F3 H3 _ g123 (.tup hx this)
    · have g := Gr.alloc g3.fh hr (.tup (zaN xs i j))
      exact q _ _ _ (g123.trans g) (.tup zo (al.cut.mono g.ff))
  · obtain ⟨p, xs, rfl, hx, al⟩ := a3.lst_inv
    refine .inl ⟨p, xs, rfl, SqL.of (g3.fh _ _ hx), fun r hr => ?_⟩
    have g := Gr.alloc g3.fh hr (.lst (zaN xs i j))
    exact q _ _ _ (g123.trans g) (.lst zo (al.cut.mono g.ff))
  · rename_i ns _ _
    obtain ⟨p, rfl, hx⟩ := a3.scr_inv
    refine .inl ⟨p, _, rfl, (by rw [hK]; exact g3.fh.seq hx), fun r hr => ?_⟩
    rw [zf8]
    have g := Gr.alloc g3.fh hr (.lst ((zdL ns i j).map V.int))
    exact q _ _ _ (g123.trans g) (.lst zo (.ints _))
noncomputable def CaD (r : List V → Hp → VK → Prop) (g : List D → Option D) : Prop := ∀ (F H : Hp) (vs : List V) (ds : List D) (z : D) (Q : VK), yl F H → AtL F ds vs → g ds = some z → (∀ F' H' v, Gr F H F' H' → At F' z v → Q v H') → r vs H Q
noncomputable def eFn (g : List D → Option D) (f : Ev → Option (List D)) : Ev → Option D := fun ρ => (f ρ).bind g
noncomputable def fFn (g : List D → Option (List D)) (f : Ev → Option (List D)) : Ev → Option (List D) := fun ρ => (f ρ).bind g
theorem yc {x : Str} {id : String} {p : Pos} {es : List Expr} {r : List V → Hp → VK → Prop} {g : List D → Option D} {f : Ev → Option (List D)} (hc : Yu X (.builtin id) r) (hg : CaD r g) (hgl : Gl X x) (hm : X.mg x = none) (hv : bootBuiltins x = some (.builtin id)) (ha : AD X (e :: es) f)
    (hn : x ≠ "__name__" := by decide) (hdb : (x == ("__debug__" : Str)) = false := by decide) (he : starEach (e :: es) X.env = (false, eval e X.env) :: starEach es X.env := by rfl) (hpl : (backTo pos (starEach es X.env)).any (·.1) = false := by rfl) :
    ED X (.Call (.Name x p) (e :: es) [] pos) (eFn g f) := by
  obtain ⟨t, pa, ra⟩ := ha
  refine ⟨_, Xv hc hgl hm hv pa hn hdb he hpl, fun σ ρ F H z Q s va e q => ?_⟩
  obtain ⟨ds, e1, e2⟩ := Option.bind_eq_some_iff.mp e
  refine ra σ ρ F H ds _ s va e1 fun F1 H1 vs g1 a1 => ?_
  exact hg F1 H1 vs ds z Q g1.fh a1 e2 fun F' H' v g av => q F' H' v (g1.trans g) av
theorem w6 {x : Str} {T : String} {p : Pos} {es : List Expr} {r : List V → Hp → VK → Prop} {g : List D → Option D} {f : Ev → Option (List D)} (hc : Yu X (.type T) r) (hg : CaD r g) (hgl : Gl X x) (hm : X.mg x = none) (hv : bootBuiltins x = some (.type T)) (ha : AD X (e :: es) f)
    (hn : x ≠ "__name__" := by decide) (hdb : (x == ("__debug__" : Str)) = false := by decide) (he : starEach (e :: es) X.env = (false, eval e X.env) :: starEach es X.env := by rfl) (hpl : (backTo pos (starEach es X.env)).any (·.1) = false := by rfl) :
    ED X (.Call (.Name x p) (e :: es) [] pos) (eFn g f) := by
  obtain ⟨t, pa, ra⟩ := ha
  refine ⟨_, VU hc hgl hm hv pa hn hdb he hpl, fun σ ρ F H z Q s va e q => ?_⟩
  obtain ⟨ds, e1, e2⟩ := Option.bind_eq_some_iff.mp e
  refine ra σ ρ F H ds _ s va e1 fun F1 H1 vs g1 a1 => ?_
  exact hg F1 H1 vs ds z Q g1.fh a1 e2 fun F' H' v g av => q F' H' v (g1.trans g) av
noncomputable def YE : List D → Option D
  | [.lst ds] => some (.int ds.length)
  | [.tup ds] => some (.int ds.length)
  | [.scr ds] => some (.int ds.length)
  | _ => none
theorem we : CaD (fun xs H Q => ∃ p ys, xs = [.ref p] ∧ (SqL KK.K H p ys ∨ SqT KK.K H p ys) ∧ Q (.int ys.length) H) YE := by
  intro F H vs ds z Q s al e q
  unfold YE at e
  split at e <;> cases e
  all_goals
    obtain ⟨x, r, rfl, ax, ar⟩ := al.cons_inv
    cases ar.nil_inv
  · obtain ⟨p, xs, rfl, hx, bl⟩ := ax.lst_inv
    exact ⟨p, xs, rfl, .inl (SqL.of (s _ _ hx)), by rw [bl.length]; exact q F H _ (.refl s) .int⟩
  · obtain ⟨p, xs, rfl, hx, bl⟩ := ax.tup_inv
    exact ⟨p, xs, rfl, .inr (SqT.of (s _ _ hx)), by rw [bl.length]; exact q F H _ (.refl s) .int⟩
  · obtain ⟨p, rfl, hx⟩ := ax.scr_inv
    exact ⟨p, _, rfl, .inl ((s.seq hx)), by rw [List.length_map]; exact q F H _ (.refl s) .int⟩
noncomputable def zkJ : List D → Option D
  | [.int i, .int j] => some (.int (if j > i then j else i))
  | _ => none
noncomputable def zkv : List D → Option D
  | [.int i, .int j] => some (.int (if j < i then j else i))
  | _ => none
theorem zdk {g : Int → Int → Int} : CaD (fun xs H Q => ∃ i j, xs = [.int i, .int j] ∧ Q (.int (g i j)) H) (fun ds => match ds with | [.int i, .int j] => some (.int (g i j)) | _ => none) := by
  intro F H vs ds z Q s al e q
  dsimp only at e
  split at e <;> cases e
  obtain ⟨x, r, rfl, ax, ar⟩ := al.cons_inv
  obtain ⟨y, r, rfl, ay, ar⟩ := ar.cons_inv
  cases ar.nil_inv
  exact ⟨_, _, by rw [ax.int_inv, ay.int_inv], q F H _ (.refl s) .int⟩
theorem zhi : CaD (fun xs H Q => ∃ i j, xs = [.int i, .int j] ∧ Q (.int (if j > i then j else i)) H) zkJ := zdk (g := fun i j => if j > i then j else i)
theorem zg3 : CaD (fun xs H Q => ∃ i j, xs = [.int i, .int j] ∧ Q (.int (if j < i then j else i)) H) zkv := zdk (g := fun i j => if j < i then j else i)
noncomputable def yB : List D → Option D
  | [.lst ds] => some (.tup ds)
  | [.tup ds] => some (.tup ds)
  | _ => none
theorem vh {K : PySem.W.Frag} : CaD (fun xs H Q => ∃ p ys, xs = [.ref p] ∧ ((SqL K H p ys ∧ ∀ l, H l = none → Q (.ref l) (upd H l (.tup ys))) ∨ (SqT K H p ys ∧ Q (.ref p) H))) yB := by
  intro F H vs ds z Q s al e q
  unfold yB at e
  split at e <;> cases e
  all_goals
    obtain ⟨x, r, rfl, ax, ar⟩ := al.cons_inv
    cases ar.nil_inv
  · obtain ⟨p, xs, rfl, hx, bl⟩ := ax.lst_inv
    refine ⟨p, xs, rfl, .inl ⟨SqL.of (s _ _ hx), fun l hl => ?_⟩⟩
    have g := Gr.alloc s hl (.tup xs)
    exact q _ _ _ g (.tup zo (bl.mono g.ff))
  · obtain ⟨p, xs, rfl, hx, bl⟩ := ax.tup_inv
    exact ⟨p, xs, rfl, .inr ⟨SqT.of (s _ _ hx), q F H _ (.refl s) (.tup hx bl)⟩⟩
noncomputable def wy : List D → Option (List D)
  | [.lst ds] => some ds
  | [.tup ds] => some ds
  | [.scr ns] => some (ns.map .int)
  | _ => none
theorem ze1 {p : Pos} {f : Ev → Option (List D)} (hgl : Gl X "list") (hm : X.mg "list" = none) (ha : AD X [e] f) (hK : X.K = KK.K := by rfl)
    (he : starEach [e] X.env = (false, eval e X.env) :: starEach [] X.env := by rfl) (hpl : (backTo pos (starEach [] X.env)).any (·.1) = false := by rfl) : FL X (.Call (.Name "list" p) [e] [] pos) (fFn wy f) := by
  obtain ⟨t, pa, ra⟩ := ha
  refine ⟨_, VU Wo hgl hm zc5 pa (by decide) (by decide) he hpl, fun σ ρ F H z Q s va e q => ?_⟩
  obtain ⟨ds, e1, e2⟩ := Option.bind_eq_some_iff.mp e
  refine ra σ ρ F H ds _ s va e1 fun F1 H1 vs g1 a1 => ?_
  unfold wy at e2
  split at e2 <;> cases e2
  all_goals
    obtain ⟨x, r, rfl, ax, ar⟩ := a1.cons_inv
    cases ar.nil_inv
  · obtain ⟨p, xs, rfl, hx, bl⟩ := ax.lst_inv
    exact ⟨p, xs, rfl, .inl (SqL.of (g1.fh _ _ hx)), fun l hl => q _ _ _ _ (g1.trans (Gr.hide g1.fh hl _)) (zb2 g1 hl) (g1.fh.free hl) zo bl⟩
  · obtain ⟨p, xs, rfl, hx, bl⟩ := ax.tup_inv
    exact ⟨p, xs, rfl, .inr (SqT.of (g1.fh _ _ hx)), fun l hl => q _ _ _ _ (g1.trans (Gr.hide g1.fh hl _)) (zb2 g1 hl) (g1.fh.free hl) zo bl⟩
  · obtain ⟨p, rfl, hx⟩ := ax.scr_inv
    exact ⟨p, _, rfl, .inl (by rw [hK]; exact g1.fh.seq hx), fun l hl => q _ _ _ _ (g1.trans (Gr.hide g1.fh hl _)) (zb2 g1 hl) (g1.fh.free hl) zo (.ints _)⟩
inductive TyD (K : PySem.W.Frag) (H : Hp) : V → Value → Prop where
  | of {v : V} {t : Value} (h : zdD K H v t) : TyD K H v t
  | dd {a : Addr} {u : HO} (h : Rd H a u) (d : (∃ kvs, u = .dK kvs) ∨ ∃ kvs, u = .dT kvs) : TyD K H (.ref a) (.type "dict")
theorem zaz {X : Cx} : Yu X (.builtin "isinstance") (fun xs H Q => ∃ x n t b, xs = [x, .ty n] ∧ TyD X.K H x t ∧ PySem.W.kitOne X.K t (.type n) = some b ∧ Q (.bl b) H) := by
  intro pins s σ H xs us Q I r h
  obtain ⟨x, n, t, b, rfl, ty, e, q⟩ := h
  cases ty with
  | of ty => exact zbk pins s σ H _ us Q I r ⟨x, n, t, b, rfl, ty, e, q⟩
  | @dd a u h d =>
    cases r with
    | cons r1 r2 =>
      cases r2 with
      | cons r3 r4 =>
        cases r4
        cases r1
        cases r3
        have ok := h.ok I.hok
        rcases d with ⟨kvs, rfl⟩ | ⟨kvs, rfl⟩
        · obtain ⟨_, _, vs, _, p⟩ := (show yK X.prog X.w H s.heap a (.dK kvs) from ok)
          obtain ⟨o, es, ep, h1, h2, _⟩ := p
          exact PySem.W.kia_one PySem.W.kitx_dict I.kIn ⟨o, h1, h2.1⟩ e (fun z => nomatch z) fun tk => ⟨.bl b, H, I.tok tk, rfl, q⟩
        · obtain ⟨_, _, xs, _, o, es, ep, h1, h2, _⟩ := (show yK X.prog X.w H s.heap a (.dT kvs) from ok)
          exact PySem.W.kia_one PySem.W.kitx_dict I.kIn ⟨o, h1, h2.1⟩ e (fun z => nomatch z) fun tk => ⟨.bl b, H, I.tok tk, rfl, q⟩
theorem At.ty {K : PySem.W.Frag} {F H : Hp} (s : yl F H) : ∀ {d : D} {v : V}, At F d v → (∀ ns, d ≠ .scr ns) → TyD K H v (.type (tyN d))
  | .non, _, h, _ => by cases h.non_inv; exact .of .non
  | .bl b, _, h, _ => by cases h.bl_inv; exact .of (.bl b)
  | .int i, _, h, _ => by cases h.int_inv; exact .of (.int i)
  | .str x, _, h, _ => by cases h.str_inv; exact .of (.str x)
  | .tup ds, _, h, _ => by obtain ⟨a, xs, rfl, e, _⟩ := h.tup_inv; exact .of (.tup (s _ _ e))
  | .lst ds, _, h, _ => by obtain ⟨a, xs, rfl, e, _⟩ := h.lst_inv; exact .of (.lst (s _ _ e))
  | .scr ns, _, _, n => absurd rfl (n ns)
  | .dct z t ks vs, _, h, _ => by
    obtain ⟨a, xs, rfl, d, _⟩ := h.dct_inv
    obtain ⟨u, e1, e2⟩ := (d.mono s).rd
    exact .dd e2 (by
      unfold V4 at e1
      split at e1
      · obtain ⟨kvs, rfl, _⟩ := e1; exact .inr ⟨kvs, rfl⟩
      · obtain ⟨kvs, rfl, _⟩ := e1; exact .inl ⟨kvs, rfl⟩)
inductive Ty where
  | int | bool | tuple | list | str
noncomputable def Ty.nm : Ty → String
  | .int => "int" | .bool => "bool" | .tuple => "tuple" | .list => "list" | .str => "str"
noncomputable def isT : Ty → D → Bool
  | .int, .int _ => true | .int, .bl _ => true
  | .bool, .bl _ => true
  | .tuple, .tup _ => true
  | .list, .lst _ => true
  | .str, .str _ => true
  | _, _ => false
noncomputable def yJ (n : Ty) : D → Option D
  | .scr _ => none
  | d => some (.bl (isT n d))
theorem zku (K : PySem.W.Frag) (n : Ty) (d : D) (h : ∀ ns, d ≠ .scr ns) : PySem.W.kitOne K (.type (tyN d)) (.type n.nm) = some (isT n d) := by
  cases n <;> cases d <;> first | exact absurd rfl (h _) | kernel_rfl
theorem zH {p : Pos} {f : Ev → Option D} (n : Ty) (hgl : Gl X "isinstance") (hm : X.mg "isinstance" = none) (ha : ED X a f) (hb : PE X b (tC (.ty n.nm)))
    (hs : starEach [a, b] X.env = (false, eval a X.env) :: starEach [b] X.env := by rfl) (hs2 : starEach [b] X.env = (false, eval b X.env) :: starEach [] X.env := by rfl) (hpl : (backTo pos (starEach [b] X.env)).any (·.1) = false := by rfl) :
    ED X (.Call (.Name "isinstance" p) [a, b] [] pos) (eUn (yJ n) f) := by
  obtain ⟨t, pa, ra⟩ := ha
  refine ⟨_, Xv zaz hgl hm XJ (wD pa (wD hb ZA hs2) hs) (by decide) (by decide) hs hpl, fun σ ρ F H z Q s va e q => ?_⟩
  obtain ⟨d, e1, e2⟩ := Option.bind_eq_some_iff.mp e
  refine ra σ ρ F H d _ s va e1 fun F1 H1 v g1 a1 => ?_
  have ns : ∀ ns, d ≠ .scr ns := fun ns h => by subst h; cases e2
  have e3 : z = .bl (isT n d) := by
    cases d <;> first | exact (Option.some.inj e2).symm | exact absurd rfl (ns _)
  subst e3
  exact ⟨v, n.nm, _, _, rfl, a1.ty g1.fh ns, zku _ n d ns, q F1 H1 _ g1 .bl⟩
noncomputable def Zf (m : Bool) (i : Nat) (f : Ev → Option D) : SE → Ctl := fun ρ => match (vEv m f ρ).bind fun d => match ρ[i]? with
    | some (.o ds) => if decide (ds.length < sizeLine) = true then some (ρ.set i (.o (ds ++ [d]))) else none
    | _ => none with
  | some ρ' => .nx ρ'
  | none => .no
theorem Xp {m : Bool} {i : Nat} {p pos' : Pos} {f : Ev → Option D} (ho : PE X a (zhE i)) (he : ED X e f)
    (hp : ∀ {ta : TE} {t : TA}, PE X a ta → PA X [e] t → PE X (.Call (.Attribute a "append" p) [e] [] pos') (tBM X.K "list" zbS ta t)) (hsw : swapsWith (.Call (.Attribute a "append" p) [e] [] pos') none pos.line X.env = pure false := by rfl)
    (hs : starEach [e] X.env = (false, eval e X.env) :: starEach [] X.env := by rfl) : SD X (.Expr (.Call (.Attribute a "append" p) [e] [] pos') pos) (Zf m i f) := by
  obtain ⟨t, pe, re⟩ := he
  refine ⟨_, XH (hp ho (wD pe ZA hs)) hsw, fun Fb Hb F H ρ σ E rl k => ?_⟩
  unfold Zf at k
  cases h : (vEv m f ρ).bind fun d => match ρ[i]? with
    | some (.o ds) => if decide (ds.length < sizeLine) = true then some (ρ.set i (.o (ds ++ [d]))) else none
    | _ => none with
  | none => rw [h] at k; exact k.elim
  | some ρ' =>
    rw [h] at k
    obtain ⟨d, e1, e2⟩ := Option.bind_eq_some_iff.mp h
    cases hs : ρ[i]? with
    | none => rw [hs] at e2; cases e2
    | some sl =>
      rw [hs] at e2
      cases sl with
      | no => cases e2
      | v _ => cases e2
      | m _ _ _ => cases e2
      | o ds =>
        dsimp only at e2
        split at e2 <;> cases e2
        rename_i hl
        obtain ⟨q, xs, f1, f2, f3, f4, f5⟩ := rl.owns i ds hs
        refine ⟨_, f1, .inl ⟨rfl, xs, SqL.of f4⟩, ?_⟩
        refine re.at rl e1 fun F' H' v g av => ?_
        have rl2 := rl.grow g
        obtain ⟨q2, xs2, f1', _, _, f4', f5'⟩ := rl2.owns i ds hs
        rw [f1] at f1'
        cases f1'
        refine ⟨q, xs2, v, rfl, rfl, f4', by rw [f5'.length]; exact of_decide_eq_true hl, ?_⟩
        exact k _ _ σ (rl2.mutate hs f1 (f5'.snoc av))
noncomputable def Wg (i : Nat) (f : Ev → Option D) : SE → Ctl := fun ρ => match (f (visF ρ)).bind fun d => match ρ[i]?, d with
    | some (.o ds), .lst es => if lim (ds.length + es.length) = true then some (ρ.set i (.o (ds ++ es))) else none
    | _, _ => none with
  | some ρ' => .nx ρ'
  | none => .no
theorem zjX {i : Nat} {p pos' : Pos} {f : Ev → Option D} (ho : PE X a (zhE i)) (he : ED X e f)
    (hp : ∀ {ta : TE} {t : TA}, PE X a ta → PA X [e] t → PE X (.Call (.Attribute a "extend" p) [e] [] pos') (tBM X.K "list" zfT ta t)) (hsw : swapsWith (.Call (.Attribute a "extend" p) [e] [] pos') none pos.line X.env = pure false := by rfl)
    (hs : starEach [e] X.env = (false, eval e X.env) :: starEach [] X.env := by rfl) : SD X (.Expr (.Call (.Attribute a "extend" p) [e] [] pos') pos) (Wg i f) := by
  obtain ⟨t, pe, re⟩ := he
  refine ⟨_, XH (hp ho (wD pe ZA hs)) hsw, fun Fb Hb F H ρ σ E rl k => ?_⟩
  unfold Wg at k
  cases h : (f (visF ρ)).bind fun d => match ρ[i]?, d with
    | some (.o ds), .lst es => if lim (ds.length + es.length) = true then some (ρ.set i (.o (ds ++ es))) else none
    | _, _ => none with
  | none => rw [h] at k; exact k.elim
  | some ρ' =>
    rw [h] at k
    obtain ⟨d, e1, e2⟩ := Option.bind_eq_some_iff.mp h
    cases hs : ρ[i]? with
    | none => rw [hs] at e2; cases e2
    | some sl =>
      rw [hs] at e2
      cases sl with
      | no => cases e2
      | v _ => cases e2
      | m _ _ _ => cases e2
      | o ds =>
        cases d with
        | lst es =>
          dsimp only at e2
          split at e2 <;> cases e2
          rename_i hl
          obtain ⟨q, xs, f1, f2, f3, f4, f5⟩ := rl.owns i ds hs
          refine ⟨_, f1, .inl ⟨rfl, xs, SqL.of f4⟩, ?_⟩
          refine re σ _ _ H _ _ rl.gr.fh rl.visF e1 fun F' H' v g av => ?_
          have rl2 := rl.grow g
          obtain ⟨q2, xs2, f1', _, _, f4', f5'⟩ := rl2.owns i ds hs
          rw [f1] at f1'
          cases f1'
          obtain ⟨pb, zs, rfl, hz, bl⟩ := av.lst_inv
          refine ⟨q, pb, xs2, zs, rfl, rfl, f4', g.fh _ _ hz, by rw [f5'.length, bl.length]; exact of_decide_eq_true hl, ?_⟩
          exact k _ _ σ (rl2.mutate hs f1 (f5'.append bl))
        | _ => cases e2
end
end Dl
namespace Dl
open PySem L2
variable [KK]
noncomputable def okE : Nat → D → Bool
  | _, .scr _ => false
  | _, .dct _ _ _ _ => false
  | 0, .tup _ => false
  | 0, .lst _ => false
  | n + 1, .tup ds => ds.all (okE n)
  | n + 1, .lst ds => ds.all (okE n)
  | _, _ => true
noncomputable def eqN : Nat → D → D → Bool
  | _, .non, .non => true
  | _, .bl a, .bl b => a == b
  | _, .bl a, .int b => (if a then 1 else 0) == b
  | _, .int a, .bl b => a == (if b then 1 else 0)
  | _, .int a, .int b => a == b
  | _, .str a, .str b => a == b
  | n + 1, .tup a, .tup b => (List.zipWith (eqN n) a b).all id && a.length == b.length
  | n + 1, .lst a, .lst b => (List.zipWith (eqN n) a b).all id && a.length == b.length
  | _, _, _ => false
omit [KK] in
theorem zcD {n : Nat} : ∀ (a b : List D), (List.zipWith (eqN n) a b).all id = (List.range (min a.length b.length)).all fun j => eqN n (a.getD j .non) (b.getD j .non) := by
  intro a b
  have : List.zipWith (eqN n) a b = (List.range (min a.length b.length)).map fun j => eqN n (a.getD j .non) (b.getD j .non) := by
    apply List.ext_getElem
    · simp
    · intro i h1 h2
      simp at h1 h2
      have g1 : i < a.length := Nat.lt_of_lt_of_le h1 (Nat.min_le_left _ _)
      have g2 : i < b.length := Nat.lt_of_lt_of_le h1 (Nat.min_le_right _ _)
      simp [g1, g2]
  rw [this, List.all_map]
  rfl
omit [KK] in
noncomputable def vOf : D → V
  | .bl b => .bl b
  | .int i => .int i
  | .str t => .str t
  | _ => .non
theorem xD {F : Hp} {d : D} {x : V} (h : okE 0 d = true) (a : At F d x) : x = vOf d := by
  cases d with
  | non => exact a.non_inv
  | bl b => exact a.bl_inv
  | int b => exact a.int_inv
  | str b => exact a.str_inv
  | _ => cases h
omit [KK] in
theorem Zq {d : D} (h : okE 0 d = true) : zic (vOf d) = true := by
  cases d <;> first | rfl | cases h
omit [KK] in
theorem X5 {d : D} {p : Addr} (h : okE 0 d = true) (e : vOf d = .ref p) : False := by
  cases d <;> first | (cases h; done) | (cases e; done)
noncomputable def dOfV : V → D
  | .bl b => .bl b
  | .int i => .int i
  | .str t => .str t
  | _ => .non
omit [KK] in
theorem zeJ {d : D} (h : okE 0 d = true) : dOfV (vOf d) = d := by
  cases d <;> first | rfl | (cases h; done)
omit [KK] in
theorem zfL {d e : D} (h1 : okE 0 d = true) (h2 : okE 0 e = true) (h : vOf d = vOf e) : d = e := by
  rw [← zeJ h1, h, zeJ h2]
omit [KK] in
theorem xB {n : Nat} {d : D} (h : okE (n + 1) d = true) : okE 0 d = true ∨ (∃ ds, d = .tup ds ∧ ds.all (okE n) = true) ∨ ∃ ds, d = .lst ds ∧ ds.all (okE n) = true := by
  cases d with
  | tup ds => exact .inr (.inl ⟨ds, rfl, h⟩)
  | lst ds => exact .inr (.inr ⟨ds, rfl, h⟩)
  | scr _ => cases h
  | dct _ _ _ _ => cases h
  | _ => exact .inl rfl
theorem zew {F : Hp} {n : Nat} (ih : ∀ {d e : D} {v : V}, okE n d = true → okE n e = true → At F d v → At F e v → d = e) : ∀ {xs : List V} {ds es : List D}, ds.all (okE n) = true → es.all (okE n) = true → AtL F ds xs → AtL F es xs → ds = es := by
  intro xs
  induction xs with
  | nil =>
    intro ds es _ _ a1 a2
    exact (List.length_eq_zero_iff.mp a1.length.symm).trans (List.length_eq_zero_iff.mp a2.length.symm).symm
  | cons x xs ih2 =>
    intro ds es h1 h2 a1 a2
    cases ds with
    | nil => cases a1.nil_inv
    | cons d ds => cases es with
      | nil => cases a2.nil_inv
      | cons e es =>
        obtain ⟨y, r, e1, b1, c1⟩ := a1.cons_inv
        obtain ⟨y2, r2, e2, b2, c2⟩ := a2.cons_inv
        cases e1
        cases e2
        rw [List.all_cons, Bool.and_eq_true] at h1 h2
        rw [ih2 h1.2 h2.2 c1 c2, ih h1.1 h2.1 b1 b2]
theorem zhC {F : Hp} : ∀ (n : Nat) {d e : D} {v : V}, okE n d = true → okE n e = true → At F d v → At F e v → d = e := by
  intro n
  induction n with
  | zero =>
    intro d e v h1 h2 a1 a2
    exact zfL h1 h2 ((xD h1 a1).symm.trans (xD h2 a2))
  | succ n ih =>
    intro d e v h1 h2 a1 a2
    rcases xB h1 with f1 | ⟨ds, rfl, k1⟩ | ⟨ds, rfl, k1⟩
    · have e1 := xD f1 a1
      rcases xB h2 with f2 | ⟨es, rfl, _⟩ | ⟨es, rfl, _⟩
      · exact zfL f1 f2 (e1.symm.trans (xD f2 a2))
      · obtain ⟨p, xs, e2, _⟩ := a2.tup_inv
        exact (X5 f1 (e1.symm.trans e2)).elim
      · obtain ⟨p, xs, e2, _⟩ := a2.lst_inv
        exact (X5 f1 (e1.symm.trans e2)).elim
    · obtain ⟨p, xs, e0, hx, al⟩ := a1.tup_inv
      rcases xB h2 with f2 | ⟨es, rfl, k2⟩ | ⟨es, rfl, k2⟩
      · exact (X5 f2 ((xD f2 a2).symm.trans e0)).elim
      · obtain ⟨q, ys, e1, hy, bl⟩ := a2.tup_inv
        cases e0.symm.trans e1
        cases hx.symm.trans hy
        rw [zew ih k1 k2 al bl]
      · obtain ⟨q, ys, e1, hy, bl⟩ := a2.lst_inv
        cases e0.symm.trans e1
        cases hx.symm.trans hy
    · obtain ⟨p, xs, e0, hx, al⟩ := a1.lst_inv
      rcases xB h2 with f2 | ⟨es, rfl, k2⟩ | ⟨es, rfl, k2⟩
      · exact (X5 f2 ((xD f2 a2).symm.trans e0)).elim
      · obtain ⟨q, ys, e1, hy, bl⟩ := a2.tup_inv
        cases e0.symm.trans e1
        cases hx.symm.trans hy
      · obtain ⟨q, ys, e1, hy, bl⟩ := a2.lst_inv
        cases e0.symm.trans e1
        cases hx.symm.trans hy
        rw [zew ih k1 k2 al bl]
omit [KK] in
theorem zgb : ∀ (n : Nat) {d : D}, okE n d = true → eqN n d d = true := by
  intro n
  induction n with
  | zero =>
    intro d h
    cases d with
    | tup _ => cases h
    | lst _ => cases h
    | scr _ => cases h
    | dct _ _ _ _ => cases h
    | _ => first | rfl | exact decide_eq_true rfl | exact beq_self_eq_true _
  | succ n ih =>
    have ihl : ∀ {ds : List D}, ds.all (okE n) = true → (List.zipWith (eqN n) ds ds).all id = true := by
      intro ds
      induction ds with
      | nil => intro _; rfl
      | cons d ds ih2 =>
        intro h
        rw [List.all_cons, Bool.and_eq_true] at h
        rw [List.zipWith_cons_cons, List.all_cons, ih2 h.2, Bool.and_true]
        exact ih h.1
    intro d h
    cases d with
    | tup ds => show ((List.zipWith (eqN n) ds ds).all id && ds.length == ds.length) = true; rw [ihl h]; simp
    | lst ds => show ((List.zipWith (eqN n) ds ds).all id && ds.length == ds.length) = true; rw [ihl h]; simp
    | scr _ => cases h
    | dct _ _ _ _ => cases h
    | _ => first | rfl | exact decide_eq_true rfl | exact beq_self_eq_true _
theorem zhk {F : Hp} (n : Nat) {d e : D} {v : V} (h1 : okE n d = true) (h2 : okE n e = true) (a1 : At F d v) (a2 : At F e v) : eqN n d e = true := by
  rw [zhC n h1 h2 a1 a2]
  exact zgb n h2
omit [KK] in
theorem wJ {n : Nat} {ds : List D} {j : Nat} (h : ds.all (okE n) = true) (hj : j < ds.length) : okE n (ds.getD j .non) = true := by
  have : ds.getD j .non = ds[j] := by simp [hj]
  rw [this]
  exact List.all_eq_true.mp h _ (List.getElem_mem hj)
theorem AtL.nth {F : Hp} {ds : List D} {xs : List V} {us : List Value} {j : Nat} (al : AtL F ds xs) (r : yx xs us) (h : j < us.length) : ∃ x, At F (ds.getD j .non) x ∧ yO x us[j] := by
  have hl := al.length
  have hl2 := r.length
  have hj : j < ds.length := by omega
  obtain ⟨x, hx, ax⟩ := al.get (i := j) (d := ds[j]) (by simp [hj])
  obtain ⟨u, hu, ru⟩ := r.get hx
  refine ⟨x, by rw [show ds.getD j .non = ds[j] by simp [hj]]; exact ax, ?_⟩
  have : us[j]? = some us[j] := by simp [h]
  rw [hu] at this
  cases this
  exact ru
omit [KK] in
theorem zdm {n : Nat} {d e : D} (h1 : okE 0 d = true) (h2 : okE 0 e = true) : eqN n d e = eqV (vOf d) (vOf e) := by
  cases n <;> cases d <;> first | (cases h1; done) | skip
  all_goals cases e <;> first | (cases h2; done) | rfl
omit [KK] in
theorem zdl {n : Nat} {d : D} (ds : List D) (h : okE 0 d = true) : eqN (n + 1) d (.tup ds) = false ∧ eqN (n + 1) d (.lst ds) = false ∧ eqN (n + 1) (.tup ds) d = false ∧ eqN (n + 1) (.lst ds) d = false := by
  cases d <;> first | exact ⟨rfl, rfl, rfl, rfl⟩ | cases h
omit [KK] in
theorem XQ {A : Around} {s : Shared} {d : D} {u : Value} {p : Addr} {its : Array Value} (h : okE 0 d = true) (r : yO (vOf d) u) (hu : A.units < cLine) :
    (s.heap.IsTuple p its → SeqAt.EqAt A s u (.ref p) false ∧ SeqAt.EqAt A s (.ref p) u false) ∧ (s.heap.IsList p its → SeqAt.EqAt A s u (.ref p) false ∧ SeqAt.EqAt A s (.ref p) u false) := by
  cases d with
  | non => cases r; exact ⟨fun ht => ⟨.none_tuple ht hu, .tuple_none ht hu⟩, fun ht => ⟨.none_list ht hu, .list_none ht hu⟩⟩
  | bl b => cases r; exact ⟨fun ht => ⟨.bool_tuple b ht hu, .tuple_bool b ht hu⟩, fun ht => ⟨.bool_list b ht hu, .list_bool b ht hu⟩⟩
  | int b => obtain ⟨t, rfl⟩ := r; exact ⟨fun ht => ⟨.int_tuple b t ht hu, .tuple_int b t ht hu⟩, fun ht => ⟨.int_list b t ht hu, .list_int b t ht hu⟩⟩
  | str b => obtain ⟨t, rfl⟩ := r; exact ⟨fun ht => ⟨.str_tuple b t ht hu, .tuple_str b t ht hu⟩, fun ht => ⟨.str_list b t ht hu, .list_str b t ht hu⟩⟩
  | _ => cases h
theorem X7 {X : Cx} {pins : List (Addr × Obj)} {σ : St} {F H : Hp} {s : Shared} (I : Inv X pins σ H s) (sm : yl F H) {ds : List D} {x : V} {u : Value} (a : At F (.tup ds) x) (r : yO x u) : ∃ p its xs, u = .ref p ∧ x = .ref p ∧ yx xs its ∧ AtL F ds xs ∧ s.heap.IsTuple p its.toArray := by
  obtain ⟨p, xs, rfl, hx, al⟩ := a.tup_inv
  cases r
  obtain ⟨its, rv, ht, hz⟩ := I.tuple (SqT.of (sm _ _ hx))
  exact ⟨p, its, xs, rfl, rfl, rv, al, ht⟩
theorem X3 {X : Cx} {pins : List (Addr × Obj)} {σ : St} {F H : Hp} {s : Shared} (I : Inv X pins σ H s) (sm : yl F H) {ds : List D} {x : V} {u : Value} (a : At F (.lst ds) x) (r : yO x u) : ∃ p its xs, u = .ref p ∧ x = .ref p ∧ yx xs its ∧ AtL F ds xs ∧ s.heap.IsList p its.toArray := by
  obtain ⟨p, xs, rfl, hx, al⟩ := a.lst_inv
  cases r
  obtain ⟨its, rv, ht, hz⟩ := I.list (SqL.of (sm _ _ hx))
  exact ⟨p, its, xs, rfl, rfl, rv, al, ht.isList⟩
omit [KK] in
theorem ze9 {n : Nat} (ds es : List D) : ((List.zipWith (eqN n) ds es).all id && ds.length == es.length) = ((List.range (min ds.length es.length)).all (fun j => eqN n (ds.getD j .non) (es.getD j .non)) && ds.length == es.length) := by rw [zcD]
theorem zfk {X : Cx} {pins : List (Addr × Obj)} {σ : St} {F H : Hp} {s : Shared} (I : Inv X pins σ H s) (sm : yl F H) : ∀ (n : Nat) {A : Around} {d e : D} {x y : V} {u v : Value}, okE n d = true → okE n e = true → At F d x → At F e y → yO x u → yO y v → A.units + n < cLine → SeqAt.EqAt A s u v (eqN n d e) := by
  intro n
  induction n with
  | zero =>
    intro A d e x y u v h1 h2 a1 a2 r1 r2 hu
    cases xD h1 a1
    cases xD h2 a2
    rw [zdm h1 h2]
    exact zhs r1 r2 (Zq h1) (Zq h2)
  | succ n ih =>
    intro A d e x y u v h1 h2 a1 a2 r1 r2 hu
    have hu0 : A.units < cLine := Nat.lt_of_le_of_lt (Nat.le_add_right _ _) hu
    have hu1 : A.units + 1 + n < cLine := by rw [Nat.add_assoc, Nat.add_comm 1 n]; exact hu
    rcases xB h1 with f1 | ⟨ds, rfl, k1⟩ | ⟨ds, rfl, k1⟩
    · cases xD f1 a1
      rcases xB h2 with f2 | ⟨es, rfl, k2⟩ | ⟨es, rfl, k2⟩
      · cases xD f2 a2
        rw [zdm f1 f2]
        exact zhs r1 r2 (Zq f1) (Zq f2)
      · obtain ⟨q, its2, ys, rfl, _, _, _, ht2⟩ := X7 I sm a2 r2
        rw [(zdl es f1).1]
        exact ((XQ f1 r1 hu0).1 ht2).1
      · obtain ⟨q, its2, ys, rfl, _, _, _, ht2⟩ := X3 I sm a2 r2
        rw [(zdl es f1).2.1]
        exact ((XQ f1 r1 hu0).2 ht2).1
    · obtain ⟨p, its, xs, rfl, hxp, rv, al, ht⟩ := X7 I sm a1 r1
      rcases xB h2 with f2 | ⟨es, rfl, k2⟩ | ⟨es, rfl, k2⟩
      · cases xD f2 a2
        rw [(zdl ds f2).2.2.1]
        exact ((XQ f2 r2 hu0).1 ht).2
      · obtain ⟨q, its2, ys, rfl, hyq, rv2, bl, ht2⟩ := X7 I sm a2 r2
        by_cases hpq : p = q
        · subst hpq
          rw [hxp] at a1
          rw [hyq] at a2
          rw [zhk (n + 1) h1 h2 a1 a2]
          exact .same _
        · have hl1 : its.toArray.size = ds.length := by rw [List.size_toArray, ← rv.length, al.length]
          have hl2 : its2.toArray.size = es.length := by rw [List.size_toArray, ← rv2.length, bl.length]
          have := SeqAt.RcAt.tuples (A := A) (e := fun j => eqN n (ds.getD j .non) (es.getD j .non)) ht ht2 hu0 fun j g1 g2 => by
            obtain ⟨x', ax, rx⟩ := al.nth rv (j := j) g1
            obtain ⟨y', ay, ry⟩ := bl.nth rv2 (j := j) g2
            exact ih (wJ k1 (hl1 ▸ g1)) (wJ k2 (hl2 ▸ g2)) ax ay rx ry hu1
          rw [hl1, hl2] at this
          rw [show eqN (n + 1) (.tup ds) (.tup es) = _ from ze9 ds es]
          exact SeqAt.EqAt.of_refs hpq this
      · obtain ⟨q, its2, ys, rfl, _, _, _, ht2⟩ := X3 I sm a2 r2
        exact .tuple_list ht ht2 hu0
    · obtain ⟨p, its, xs, rfl, hxp, rv, al, ht⟩ := X3 I sm a1 r1
      rcases xB h2 with f2 | ⟨es, rfl, k2⟩ | ⟨es, rfl, k2⟩
      · cases xD f2 a2
        rw [(zdl ds f2).2.2.2]
        exact ((XQ f2 r2 hu0).2 ht).2
      · obtain ⟨q, its2, ys, rfl, _, _, _, ht2⟩ := X7 I sm a2 r2
        exact .list_tuple ht ht2 hu0
      · obtain ⟨q, its2, ys, rfl, hyq, rv2, bl, ht2⟩ := X3 I sm a2 r2
        by_cases hpq : p = q
        · subst hpq
          rw [hxp] at a1
          rw [hyq] at a2
          rw [zhk (n + 1) h1 h2 a1 a2]
          exact .same _
        · have hl1 : its.toArray.size = ds.length := by rw [List.size_toArray, ← rv.length, al.length]
          have hl2 : its2.toArray.size = es.length := by rw [List.size_toArray, ← rv2.length, bl.length]
          rw [show eqN (n + 1) (.lst ds) (.lst es) = _ from ze9 ds es]
          by_cases hle : ds.length = es.length
          · have := SeqAt.RcAt.lists (A := A) (e := fun j => eqN n (ds.getD j .non) (es.getD j .non)) ht ht2 (by rw [hl1, hl2, hle]) hu0 fun j g1 g2 => by
              obtain ⟨x', ax, rx⟩ := al.nth rv (j := j) g1
              obtain ⟨y', ay, ry⟩ := bl.nth rv2 (j := j) g2
              exact ih (wJ k1 (hl1 ▸ g1)) (wJ k2 (hl2 ▸ g2)) ax ay rx ry hu1
            rw [hl1] at this
            rw [← hle, Nat.min_self, beq_self_eq_true, Bool.and_true]
            exact SeqAt.EqAt.of_refs hpq this
          · have := SeqAt.RcAt.lists_lengths (A := A) ht ht2 (by rw [hl1, hl2]; exact bne_iff_ne.mpr hle) hu0
            rw [beq_eq_false_iff_ne.mpr hle, Bool.and_false]
            exact SeqAt.EqAt.of_refs hpq this
noncomputable def zkE (d : D) (es : List D) : Option Bool := if okE 20 d = true ∧ es.all (okE 20) = true then some (es.any fun e => eqN 20 e d) else none
noncomputable def inD (d e : D) : Option D := (xz e).bind fun es => (zkE d es).map .bl
open Classical in
noncomputable def zfX (F : Hp) (d : D) (u : Value) : Bool := decide (∃ d0 x, At F d0 x ∧ yO x u ∧ okE 20 d0 = true ∧ eqN 20 d0 d = true)
open Classical in
theorem zeV {F : Hp} {d d0 : D} {x : V} {u : Value} (a : At F d0 x) (r : yO x u) (k : okE 20 d0 = true) : zfX F d u = eqN 20 d0 d := by
  unfold zfX
  cases h : eqN 20 d0 d with
  | true => exact decide_eq_true ⟨d0, x, a, r, k, h⟩
  | false =>
    refine decide_eq_false ?_
    rintro ⟨d1, y, a1, r1, k1, h1⟩
    have e := r1.inj r
    subst e
    rw [zhC 20 k1 k a1 a] at h1
    rw [h1] at h
    cases h
theorem XC {F : Hp} {d : D} : ∀ {ds : List D} {xs : List V} {us : List Value}, AtL F ds xs → yx xs us → ds.all (okE 20) = true → us.any (zfX F d) = ds.any fun e => eqN 20 e d
  | [], _, _, al, r, _ => by cases al.nil_inv; cases r; rfl
  | e :: ds, _, _, al, r, k => by
    obtain ⟨x, xs, rfl, a1, a2⟩ := al.cons_inv
    cases r with
    | cons r1 r2 =>
      rw [List.all_cons, Bool.and_eq_true] at k
      rw [List.any_cons, List.any_cons, zeV a1 r1 k.1, XC a2 r2 k.2]
section
variable {X : Cx}
noncomputable def rInD (neg : Bool) : R2 := fun x y H Q => ∃ F d e es b, yl F H ∧ At F d x ∧ At F e y ∧ xz e = some es ∧ zkE d es = some b ∧ Q (.bl (if neg then !b else b)) H
theorem zj3 {k : Nat} (hr : vW k X.A) : OpR X (compareOp .In) (rInD false) := by
  intro pins s σ H x y v u Q I rx ry h
  obtain ⟨F, d, e, es, b, sm, a1, a2, hs, hb, q⟩ := h
  unfold zkE at hb
  split at hb <;> cases hb
  rename_i hk
  have hu : X.A.in1.units + 20 < cLine := by have := hr.un; show X.A.units + 1 + 20 < cLine; omega
  have mem : ∀ {xs : List V} {us : List Value}, AtL F es xs → yx xs us → ∀ z ∈ us, SeqAt.EqAt X.A.in1 s z v (zfX F d z) := fun {xs us} al r z hz => by
    obtain ⟨j, hj, rfl⟩ := List.getElem_of_mem hz
    obtain ⟨x', ax, rx'⟩ := al.nth r hj
    have hj' : j < es.length := by have := al.length; have := r.length; omega
    have k2 := wJ hk.2 hj'
    rw [zeV ax rx' k2]
    exact zfk I sm 20 k2 hk.1 ax a1 rx' rx hu
  cases e <;> cases hs
  · obtain ⟨p, xs, rfl, hx, al⟩ := a2.tup_inv
    cases ry
    obtain ⟨its, r, pl, hz⟩ := I.tuple (SqT.of (sm _ _ hx))
    refine SeqAt.in_tupleAt (zfX F d) pl (fun z hz => mem al r z (by simpa using hz)) ⟨.bl _, H, I, rfl, ?_⟩
    rw [show its.toArray.any (zfX F d) = its.any (zfX F d) by simp, XC al r hk.2]
    exact q
  · obtain ⟨p, xs, rfl, hx, al⟩ := a2.lst_inv
    cases ry
    obtain ⟨its, r, pl, hz⟩ := I.list (SqL.of (sm _ _ hx))
    refine SeqAt.in_listAt (zfX F d) pl.isList (fun z hz => mem al r z (by simpa using hz)) ⟨.bl _, H, I, rfl, ?_⟩
    rw [show its.toArray.any (zfX F d) = its.any (zfX F d) by simp, XC al r hk.2]
    exact q
theorem zjO : OpD (rInD false) inD := by
  intro F H x y d e z Q s ax ay ez q
  obtain ⟨es, e1, e2⟩ := Option.bind_eq_some_iff.mp ez
  obtain ⟨b, e3, rfl⟩ := Option.map_eq_some_iff.mp e2
  exact ⟨F, d, e, es, b, s, ax, ay, e1, e3, q F H _ (.refl s) .bl⟩
noncomputable def eqG (d e : D) : Option Bool := match d, e with
  | .tup _, .tup _ => if okE 20 d = true ∧ okE 20 e = true then some (eqN 20 d e) else none
  | .lst _, .lst _ => if okE 20 d = true ∧ okE 20 e = true then some (eqN 20 d e) else none
  | _, _ => eqS d e
noncomputable def YB (d e : D) : Option D := (eqG d e).map .bl
noncomputable def zlb : R2 := fun x y H Q => ∃ F d e, yl F H ∧ At F d x ∧ At F e y ∧ ((∃ ds es, d = .tup ds ∧ e = .tup es) ∨ (∃ ds es, d = .lst ds ∧ e = .lst es)) ∧ okE 20 d = true ∧ okE 20 e = true ∧ Q (.bl (eqN 20 d e)) H
theorem zkF {k : Nat} (hr : vW k X.A) : OpR X (compareOp .Eq) zlb := by
  intro pins s σ H x y v u Q I rx ry h
  obtain ⟨F, d, e, sm, a1, a2, hk, k1, k2, q⟩ := h
  have hu : X.A.units + 30 < cLine := by have := hr.un; omega
  rcases hk with ⟨ds, es, rfl, rfl⟩ | ⟨ds, es, rfl, rfl⟩
  · obtain ⟨p, xs, rfl, hx, al⟩ := a1.tup_inv
    obtain ⟨p2, ys, rfl, hy, bl⟩ := a2.tup_inv
    cases rx
    cases ry
    obtain ⟨its, r, ht, hz⟩ := I.tuple (SqT.of (sm _ _ hx))
    obtain ⟨its2, r2, ht2, hz2⟩ := I.tuple (SqT.of (sm _ _ hy))
    have hl1 : its.toArray.size = ds.length := by rw [List.size_toArray, ← r.length, al.length]
    have hl2 : its2.toArray.size = es.length := by rw [List.size_toArray, ← r2.length, bl.length]
    refine SeqAt.eq_tupleAt (e := fun j => eqN 19 (ds.getD j .non) (es.getD j .non)) (show s.heap.IsTuple p its.toArray from ht) (show s.heap.IsTuple p2 its2.toArray from ht2) (by omega) (fun j g1 g2 => ?_) ⟨.bl _, H, I, rfl, ?_⟩
    · obtain ⟨x', ax, rx⟩ := al.nth r (j := j) (by simpa using g1)
      obtain ⟨y', ay, ry⟩ := bl.nth r2 (j := j) (by simpa using g2)
      exact zfk I sm 19 (wJ k1 (by rw [← hl1]; exact g1)) (wJ k2 (by rw [← hl2]; exact g2)) ax ay (by simpa using rx) (by simpa using ry) (Nat.lt_of_le_of_lt (show X.A.units + 20 ≤ X.A.units + 30 from Nat.add_le_add_left (by decide) _) hu)
    · rw [hl1, hl2, ← zcD]
      exact q
  · obtain ⟨p, xs, rfl, hx, al⟩ := a1.lst_inv
    obtain ⟨p2, ys, rfl, hy, bl⟩ := a2.lst_inv
    cases rx
    cases ry
    obtain ⟨its, r, ht, hz⟩ := I.list (SqL.of (sm _ _ hx))
    obtain ⟨its2, r2, ht2, hz2⟩ := I.list (SqL.of (sm _ _ hy))
    have hl1 : its.toArray.size = ds.length := by rw [List.size_toArray, ← r.length, al.length]
    have hl2 : its2.toArray.size = es.length := by rw [List.size_toArray, ← r2.length, bl.length]
    have e1 : eqN 20 (.lst ds) (.lst es) = ((List.range (min ds.length es.length)).all (fun j => eqN 19 (ds.getD j .non) (es.getD j .non)) && ds.length == es.length) := by
      show ((List.zipWith (eqN 19) ds es).all id && ds.length == es.length) = _
      rw [zcD]
    by_cases hle : ds.length = es.length
    · refine SeqAt.eq_listAt (e := fun j => eqN 19 (ds.getD j .non) (es.getD j .non)) ht.isList ht2.isList (by rw [hl1, hl2]; exact hle) (Nat.lt_of_le_of_lt (Nat.le_add_right _ 30) hu) (fun j g1 g2 => ?_) ⟨.bl _, H, I, rfl, ?_⟩
      · obtain ⟨x', ax, rx⟩ := al.nth r (j := j) (by simpa using g1)
        obtain ⟨y', ay, ry⟩ := bl.nth r2 (j := j) (by simpa using g2)
        exact zfk I sm 19 (wJ k1 (by rw [← hl1]; exact g1)) (wJ k2 (by rw [← hl2]; exact g2)) ax ay (by simpa using rx) (by simpa using ry) (Nat.lt_of_le_of_lt (show X.A.units + 20 ≤ X.A.units + 30 from Nat.add_le_add_left (by decide) _) hu)
      · rw [hl1]
        rw [e1, ← hle, Nat.min_self] at q
        simpa using q
    · refine SeqAt.eq_list_lengthsAt ht.isList ht2.isList (by rw [hl1, hl2]; simpa using hle) (Nat.lt_of_le_of_lt (Nat.le_add_right _ 30) hu) ⟨.bl _, H, I, rfl, ?_⟩
      have : (ds.length == es.length) = false := by simpa using hle
      rw [e1, this, Bool.and_false] at q
      exact q
theorem ziv : OpD zlb (fun d e => match d, e with
  | .tup _, .tup _ => if okE 20 d = true ∧ okE 20 e = true then some (.bl (eqN 20 d e)) else none
  | .lst _, .lst _ => if okE 20 d = true ∧ okE 20 e = true then some (.bl (eqN 20 d e)) else none
  | _, _ => none) := by
  intro F H x y d e z Q s ax ay ez q
  dsimp only at ez
  split at ez
  · split at ez <;> cases ez
    rename_i hk
    exact ⟨F, _, _, s, ax, ay, .inl ⟨_, _, rfl, rfl⟩, hk.1, hk.2, q F H _ (.refl s) .bl⟩
  · split at ez <;> cases ez
    rename_i hk
    exact ⟨F, _, _, s, ax, ay, .inr ⟨_, _, rfl, rfl⟩, hk.1, hk.2, q F H _ (.refl s) .bl⟩
  · cases ez
theorem wP {k : Nat} (hr : vW k X.A) : OpR X (compareOp .Eq) (fun x y H Q => rEq x y H Q ∨ zlb x y H Q) := zlo.or (zkF hr)
theorem xK : OpD (fun x y H Q => rEq x y H Q ∨ zlb x y H Q) YB := by
  refine zbR (Vb zhA ziv) fun d e z h => ?_
  obtain ⟨b, hb, rfl⟩ := Option.map_eq_some_iff.mp h
  unfold eqG at hb
  split at hb
  · split at hb <;> cases hb
    rename_i hk
    show (Option.or none (if okE 20 _ = true ∧ okE 20 _ = true then some (D.bl (eqN 20 _ _)) else none)) = _
    rw [if_pos hk]
    rfl
  · split at hb <;> cases hb
    rename_i hk
    show (Option.or none (if okE 20 _ = true ∧ okE 20 _ = true then some (D.bl (eqN 20 _ _)) else none)) = _
    rw [if_pos hk]
    rfl
  · show ((eqD d e).or _) = _
    unfold eqD
    rw [hb]
    rfl
theorem seq_walk {pins : List (Addr × Obj)} {σ : St} {H : Hp} {s : Shared} {a : Addr} {xs : List V} {A : Around} {Q : Value → Shared → Prop} {E : Value → Shared → Prop} (I : Inv X pins σ H s) (hh : A.handled = none) (h : SqL X.K H a xs ∨ SqT X.K H a xs)
    (k : ∀ (it : Addr) (its : List Value) (fp wr : List Addr) (St : Nat → Heap → Prop) (s₂ : Shared), yx xs its → Walks X.prog X.w A it fp wr its.length (fun i v => its[i]? = some v) St → St 0 s₂.heap → (∀ b ∈ fp, b < s₂.heap.objs.size) →
      (∀ (h' : Heap) (tk : Nat), (∀ b o, b ∉ wr → s₂.heap.get? b = some o → h'.get? b = some o) → Inv X pins σ H { s₂ with heap := h', toks := tk }) → Q (.ref it) s₂) :
    wpAny (model X.prog X.w) A (pyIter (.ref a)) Q E s := by
  have back : ∀ {o : Obj} {s₂ : Shared}, s₂ = { s with heap := s.heap.push o } → ∀ (h' : Heap) (tk : Nat), (∀ b u, b ∉ [s.heap.objs.size] → s₂.heap.get? b = some u → h'.get? b = some u) → Inv X pins σ H { s₂ with heap := h', toks := tk } := fun {o s₂} e h' tk kk => by
    subst e
    exact I.kept (t' := tk) fun b u z => kk b u (by simpa using Nat.ne_of_lt (Heap.lt_size z)) (Heap.get?_push_of_some _ z)
  rcases h with h | h
  · obtain ⟨its, rv, p, hz⟩ := I.list h
    have lt : a < s.heap.objs.size := by obtain ⟨o, n, ho, _⟩ := p; exact Heap.lt_size ho
    refine wpAny_pyIter_list p.isList ?_
    have W := Walks.list (prog := X.prog) (w := X.w) (A := A) hh s.heap.objs.size a (Nat.ne_of_lt lt) its.toArray
    refine k s.heap.objs.size its [s.heap.objs.size, a] [s.heap.objs.size] (fun i h => h.IsListIter s.heap.objs.size a i ∧ h.IsList a its.toArray) _ rv (by simpa using W) ⟨⟨_, Heap.get?_push_size _ rfl, rfl, rfl⟩, p.isList.at fun o e => Heap.get?_push_of_some _ e⟩ (fun b hb => ?_) (back rfl)
    show b < (s.heap.push _).objs.size
    rw [Heap.size_push]
    rcases List.mem_cons.mp hb with rfl | hb
    · exact Nat.lt_succ_self _
    · rw [List.mem_singleton.mp hb]; exact Nat.lt_succ_of_lt lt
  · obtain ⟨its, rv, p, hz⟩ := I.tuple h
    have p' : s.heap.IsTuple a its.toArray := p
    have lt : a < s.heap.objs.size := by obtain ⟨o, ho, _⟩ := p; exact Heap.lt_size ho
    refine wpAny_pyIter_tuple p' ?_
    have W := Walks.tuple (prog := X.prog) (w := X.w) (A := A) hh s.heap.objs.size a (Nat.ne_of_lt lt) its.toArray
    refine k s.heap.objs.size its [s.heap.objs.size, a] [s.heap.objs.size] (fun i h => h.IsTupleIter s.heap.objs.size a i ∧ h.IsTuple a its.toArray) _ rv (by simpa using W) ⟨⟨_, Heap.get?_push_size _ rfl, rfl, rfl⟩, p'.at fun o e => Heap.get?_push_of_some _ e⟩ (fun b hb => ?_) (back rfl)
    show b < (s.heap.push _).objs.size
    rw [Heap.size_push]
    rcases List.mem_cons.mp hb with rfl | hb
    · exact Nat.lt_succ_self _
    · rw [List.mem_singleton.mp hb]; exact Nat.lt_succ_of_lt lt
end
end Dl
namespace Dl
open PySem L2
variable [KK]
section
variable {X : Cx}
omit [KK] in
theorem vals_int {ns : List Int} {its : List Value} {i : Nat} {v : Value} (r : yx (ns.map V.int) its) (h : its[i]? = some v) : ∃ t, v = .int (ns.getD i 0) t := by
  have hl := r.length
  have hi : i < its.length := (List.getElem?_eq_some_iff.mp h).1
  rw [List.length_map] at hl
  obtain ⟨u, hu, ru⟩ := r.get (i := i) (x := .int (ns[i]'(by omega))) (by rw [List.getElem?_map]; simp [show i < ns.length by omega])
  rw [h] at hu
  cases hu
  obtain ⟨t, rfl⟩ := ru
  exact ⟨t, by simp [show i < ns.length by omega]⟩
noncomputable def maxL (ns : List Int) : Int := (ns.max?).getD 0
omit [KK] in
theorem best_ge (f : Nat → Int) : ∀ k i, i ≤ k → f i ≤ f (argBest (fun i j => decide (f j < f i)) k) ∧ argBest (fun i j => decide (f j < f i)) k ≤ k := by
  intro k
  induction k with
  | zero => intro i hi; have : i = 0 := by omega
            subst this; exact ⟨Int.le_refl _, Nat.le_refl _⟩
  | succ k ih =>
    intro i hi
    unfold argBest
    obtain ⟨h1, h2⟩ := ih (min i k) (Nat.min_le_right _ _)
    split
    · rename_i hc
      have hc : f (argBest (fun i j => decide (f j < f i)) k) < f (k + 1) := of_decide_eq_true hc
      refine ⟨?_, Nat.le_refl _⟩
      by_cases hik : i ≤ k
      · rw [Nat.min_eq_left hik] at h1; omega
      · have : i = k + 1 := by omega
        subst this; exact Int.le_refl _
    · rename_i hc
      have hc : ¬ f (argBest (fun i j => decide (f j < f i)) k) < f (k + 1) := fun z => hc (decide_eq_true z)
      refine ⟨?_, by omega⟩
      by_cases hik : i ≤ k
      · rw [Nat.min_eq_left hik] at h1; exact h1
      · have : i = k + 1 := by omega
        subst this; omega
omit [KK] in
theorem max_is {ns : List Int} {m : Int} (h1 : m ∈ ns) (h2 : ∀ x ∈ ns, x ≤ m) : maxL ns = m := by
  unfold maxL
  rw [List.max?_eq_some_iff.mpr ⟨h1, h2⟩]
  rfl
omit [KK] in
theorem getD_mem {ns : List Int} {k : Nat} (h : k < ns.length) : ns.getD k 0 ∈ ns := by
  rw [List.getD_eq_getElem?_getD, List.getElem?_eq_getElem h]
  exact List.getElem_mem h
omit [KK] in
theorem getD_at {ns : List Int} {k : Nat} (h : k < ns.length) : ns.getD k 0 = ns[k] := by
  rw [List.getD_eq_getElem?_getD, List.getElem?_eq_getElem h]
  rfl
theorem ZI (hc : X.calm = true) : Yu X (.builtin "max") (fun xs H Q => ∃ (p : Addr) (ns : List Int), xs = [.ref p] ∧ (SqL X.K H p (ns.map V.int) ∨ SqT X.K H p (ns.map V.int)) ∧ ns ≠ [] ∧ Q (.int (maxL ns)) H) := by
  intro pins s σ H xs us Q I r h
  obtain ⟨p, ns, rfl, hq, hne, q⟩ := h
  obtain ⟨u, rfl, ru⟩ := zac r
  cases ru
  refine call_max_walk (seq_walk I (I.ok.hd hc) hq fun it its fp wr St s₂ rv W st fpl back => ?_)
  have hl := rv.length
  rw [List.length_map] at hl
  have hpos : 0 < ns.length := List.length_pos_iff.mpr hne
  refine ⟨it, fp, wr, _, _, St, fun i j => decide (ns.getD j 0 < ns.getD i 0), rfl, W, st, fpl, by omega, fun i j vi vj s Q E hi hj hQ => ?_, fun v h' tk hv kk => ?_⟩
  · obtain ⟨t1, rfl⟩ := vals_int rv hi
    obtain ⟨t2, rfl⟩ := vals_int rv hj
    exact PyProof.Rows.gt_int hQ
  · obtain ⟨t, rfl⟩ := vals_int rv hv
    refine ⟨.int (maxL ns), H, back h' tk kk, ⟨t, ?_⟩, q⟩
    have key := best_ge (fun i => ns.getD i 0) (its.length - 1)
    have hb : argBest (fun i j => decide (ns.getD j 0 < ns.getD i 0)) (its.length - 1) < ns.length := by
      have := (key 0 (Nat.zero_le _)).2
      omega
    rw [max_is (m := ns.getD (argBest (fun i j => decide (ns.getD j 0 < ns.getD i 0)) (its.length - 1)) 0)]
    · exact getD_mem hb
    · intro x hx
      obtain ⟨j, hj, rfl⟩ := List.getElem_of_mem hx
      have := (key j (by omega)).1
      rw [← getD_at hj]
      exact this
noncomputable def zhB : List D → Option (List Int)
  | [] => some []
  | .int b :: ds => (zhB ds).map (b :: ·)
  | _ => none
omit [KK] in
theorem Wa : ∀ {ds : List D} {bs : List Int}, zhB ds = some bs → ds = bs.map .int
  | [], bs, h => by cases h; rfl
  | d :: ds, bs, h => by
    cases d <;> try cases h
    obtain ⟨cs, h1, rfl⟩ := Option.map_eq_some_iff.mp h
    rw [Wa h1]
    rfl
omit [KK] in
theorem zgd (bs : List Int) : zhB (bs.map .int) = some bs := by
  induction bs with
  | nil => rfl
  | cons b r ih => show (zhB (r.map .int)).map (b :: ·) = _; rw [ih]; rfl
noncomputable def zl3 {α : Type} (as : List D → Option α) (g : α → Option D) : List D → Option D
  | [d] => ((xz d).bind as).bind g
  | _ => none
theorem zi6 {K : PySem.W.Frag} {F H : Hp} {vs : List V} {ds : List D} {z : D} {α : Type} {as : List D → Option α} {g : α → Option D} (s : yl F H) (al : AtL F ds vs) (e : zl3 as g ds = some z) :
    ∃ p es xs b, vs = [.ref p] ∧ (SqL K H p xs ∨ SqT K H p xs) ∧ AtL F es xs ∧ as es = some b ∧ g b = some z := by
  unfold zl3 at e
  split at e
  · obtain ⟨b, e1, e2⟩ := Option.bind_eq_some_iff.mp e
    obtain ⟨es, e3, e4⟩ := Option.bind_eq_some_iff.mp e1
    obtain ⟨x, r, rfl, ax, ar⟩ := al.cons_inv
    cases ar.nil_inv
    rename_i d
    cases d <;> cases e3
    · obtain ⟨p, xs, rfl, hx, bl⟩ := ax.tup_inv
      exact ⟨p, _, xs, b, rfl, .inr (SqT.of (s _ _ hx)), bl, e4, e2⟩
    · obtain ⟨p, xs, rfl, hx, bl⟩ := ax.lst_inv
      exact ⟨p, _, xs, b, rfl, .inl (SqL.of (s _ _ hx)), bl, e4, e2⟩
  · cases e
noncomputable def zcZ := zl3 zhB fun ns => if ns = [] then none else some (.int (maxL ns))
theorem XZ {K : PySem.W.Frag} : CaD (fun xs H Q => ∃ (p : Addr) (ns : List Int), xs = [.ref p] ∧ (SqL K H p (ns.map V.int) ∨ SqT K H p (ns.map V.int)) ∧ ns ≠ [] ∧ Q (.int (maxL ns)) H) zcZ := by
  intro F H vs ds z Q s al e q
  obtain ⟨p, es, xs, bs, rfl, hq, bl, e1, e2⟩ := zi6 (K := K) s al e
  split at e2 <;> cases e2
  rename_i hne
  rw [Wa e1] at bl
  rw [bl.of_ints] at hq
  exact ⟨p, bs, rfl, hq, hne, q F H _ (.refl s) .int⟩
end
end Dl
namespace Dl
open PySem L2
variable [KK]
section
variable {X : Cx} {tg a b c e : Expr} {pos : Pos}
noncomputable def zdg : List D → List D → List D
  | x :: xs, y :: ys => .tup [x, y] :: zdg xs ys
  | _, _ => []
omit [KK] in
theorem zdf : ∀ (xs ys : List D) (i : Nat), (zdg xs ys)[i]? = match xs[i]?, ys[i]? with | some x, some y => some (.tup [x, y]) | _, _ => none
  | [], ys, i => by simp [zdg]
  | x :: xs, [], i => by simp [zdg]
  | x :: xs, y :: ys, 0 => by simp [zdg]
  | x :: xs, y :: ys, i + 1 => by simpa [zdg] using zdf xs ys i
omit [KK] in
theorem ZJ : ∀ (xs ys : List D), xs.length ≤ ys.length → (zdg xs ys).length = xs.length
  | [], ys, _ => by simp [zdg]
  | x :: xs, [], h => by simp at h
  | x :: xs, y :: ys, h => by simp [zdg, ZJ xs ys (by simpa using h)]
noncomputable def vd (f : Ev → Option (List D)) : Ev → Option (List D) := fun ρ => (f ρ).bind fun as => match as with
  | [d, e] => (xz d).bind fun xs => (xz e).bind fun ys => if xs.length ≤ ys.length then some (zdg xs ys) else none
  | _ => none
theorem zkK {K : PySem.W.Frag} {F H : Hp} {d : D} {v : V} {ds : List D} (s : yl F H) (h : At F d v) (e : xz d = some ds) : ∃ b p xs, v = .ref p ∧ (∀ {F' H' : Hp}, yl F F' → yl F' H' → Sq b K H' p xs) ∧ AtL F ds xs := by
  cases d <;> cases e
  · obtain ⟨p, xs, rfl, hx, al⟩ := h.tup_inv
    exact ⟨false, p, xs, rfl, fun s1 s2 => SqT.of (s2 _ _ (s1 _ _ hx)), al⟩
  · obtain ⟨p, xs, rfl, hx, al⟩ := h.lst_inv
    exact ⟨true, p, xs, rfl, fun s1 s2 => SqL.of (s2 _ _ (s1 _ _ hx)), al⟩
theorem zjE {es : List Expr} {k : Nat} {tp p : Pos} {f : Ev → Option (List D)} (hg : Gl X "zip") (hm : X.mg "zip" = none) (ha : AD X [a, b] f)
    (hs : starEach [a, b] X.env = [(false, eval a X.env), (false, eval b X.env)] := by rfl) (hs2 : starEach [b] X.env = [(false, eval b X.env)] := by rfl) : ID X (.Tuple es k tp) (.Call (.Name "zip" p) [a, b] [] pos) (vd f) := by
  obtain ⟨t, pa, r⟩ := ha
  refine ⟨_, zjQ hg hm zjY pa hs hs2, fun σ ρ F H ds R s va e q => ?_⟩
  obtain ⟨as, e1, e2⟩ := Option.bind_eq_some_iff.mp e
  refine r σ ρ F H as _ s va e1 fun F1 H1 v g1 a1 => ?_
  split at e2
  · obtain ⟨x, r', rfl, ax, ar⟩ := a1.cons_inv
    obtain ⟨y, r', rfl, ay, ar⟩ := ar.cons_inv
    cases ar.nil_inv
    obtain ⟨xs, e3, e2'⟩ := Option.bind_eq_some_iff.mp e2
    obtain ⟨ys, e4, e2''⟩ := Option.bind_eq_some_iff.mp e2'
    clear e2 e2' e
    split at e2'' <;> cases e2''
    rename_i hle
    obtain ⟨b1, p1, us, rfl, sq1, al⟩ := zkK (K := X.K) g1.fh ax e3
    obtain ⟨b2, p2, ws, rfl, sq2, bl⟩ := zkK (K := X.K) g1.fh ay e4
    refine ⟨b1, b2, p1, p2, us, ws, rfl, sq1 (yl.refl _) g1.fh, sq2 (yl.refl _) g1.fh, q F1 H1 _ g1 fun i F2 H2 s1 s2 => ?_⟩
    have q1 := sq1 s1 s2
    have q2 := sq2 s1 s2
    refine ⟨fun hl => ⟨us, q1, by rw [hl, ZJ _ _ hle, al.length]⟩, fun d hd => ?_⟩
    rw [zdf] at hd
    cases h1 : xs[i]? with
    | none => rw [h1] at hd; cases hd
    | some x =>
      cases h2 : ys[i]? with
      | none => rw [h1, h2] at hd; cases hd
      | some y =>
        rw [h1, h2] at hd
        cases hd
        obtain ⟨u, hu, au⟩ := al.get h1
        obtain ⟨u2, hu2, au2⟩ := bl.get h2
        refine ⟨⟨us, ws, u, u2, q1, q2, hu, hu2⟩, fun z H3 hz => ?_⟩
        obtain ⟨T, x', y', rfl, hT, rfl, hx', hy'⟩ := hz
        have e5 := hx' us q1
        have e6 := hy' ws q2
        rw [hu] at e5
        rw [hu2] at e6
        cases e5
        cases e6
        have g3 := Gr.alloc s2 hT (.tup [u, u2])
        exact ⟨_, g3, .tup zo (.cons (au.mono (s1.trans g3.ff)) (.cons (au2.mono (s1.trans g3.ff)) .nil))⟩
  · cases e2
noncomputable def xA (g : List D → Option (List D)) (f : Ev → Option (List D)) (b : D → SE → Option SE) (h : SE → Ctl) : SE → Ctl := fun ρ => match (f (visG ρ)).bind g with
  | some ds => ze3 b h ds ρ
  | none => .no
theorem Zj {p pos' : Pos} {body : List Stmt} {f : Ev → Option (List D)} {b' : D → SE → Option SE} {g : SE → Ctl} (hp : PassesOwn (model X.prog X.w) X.A X.env X.xe) (hc : X.calm = true) (hgl : Gl X "range") (hm : X.mg "range" = none) (ha : AD X [a] f) (hg : BD X tg b') (hb : SDs X body g)
    (hs0 : starEach [a] X.env = [(false, eval a X.env)] := by rfl) (hs : ∀ x, foldedSetIterable (.Call (.Name "range" p) [a] [] pos) X.env x = pure x := by intro _; rfl) : SD X (.For tg (.Call (.Name "range" p) [a] [] pos) body [] pos') (xA wl f b' g) := by
  obtain ⟨t, pa, r⟩ := ha
  obtain ⟨tg', pg, rg⟩ := hg
  obtain ⟨tb, pb, rb⟩ := hb
  refine ⟨_, zeH hp hc (WH hgl hm pa hs0) pg pb hs, fun Fb Hb F H ρ σ E rl k => ?_⟩
  unfold xA at k
  cases h : (f (visG ρ)).bind wl with
  | none => rw [h] at k; exact k.elim
  | some ds =>
    rw [h] at k
    obtain ⟨as, e1, e2⟩ := Option.bind_eq_some_iff.mp h
    refine r σ _ _ H as _ rl.gh rl.visG e1 fun F1 H1 vs g1 a1 => ?_
    have rl2 := rl.grow (rl.back g1).1
    unfold wl at e2
    split at e2
    · split at e2 <;> cases e2
      rename_i hc
      obtain ⟨x, r', rfl, ax, ar⟩ := a1.cons_inv
      cases ar.nil_inv
      exact ⟨_, by rw [ax.int_inv], (zR.mp hc).1, (zR.mp hc).2, zeC (zdx 0 _) rg rb rl2 k⟩
    · cases e2
theorem zhc {p pos' : Pos} {body : List Stmt} {f : Ev → Option (List D)} {b' : D → SE → Option SE} {g : SE → Ctl} (hp : PassesOwn (model X.prog X.w) X.A X.env X.xe) (hc : X.calm = true) (hgl : Gl X "range") (hm : X.mg "range" = none) (ha : AD X [a, b] f) (hg : BD X tg b') (hb : SDs X body g)
    (hs0 : starEach [a, b] X.env = [(false, eval a X.env), (false, eval b X.env)] := by rfl) (hs2 : starEach [b] X.env = [(false, eval b X.env)] := by rfl) (hs : ∀ x, foldedSetIterable (.Call (.Name "range" p) [a, b] [] pos) X.env x = pure x := by intro _; rfl) : SD X (.For tg (.Call (.Name "range" p) [a, b] [] pos) body [] pos') (xA v4 f b' g) := by
  obtain ⟨t, pa, r⟩ := ha
  obtain ⟨tg', pg, rg⟩ := hg
  obtain ⟨tb, pb, rb⟩ := hb
  refine ⟨_, zeH hp hc (V2 hgl hm pa hs0 hs2) pg pb hs, fun Fb Hb F H ρ σ E rl k => ?_⟩
  unfold xA at k
  cases h : (f (visG ρ)).bind v4 with
  | none => rw [h] at k; exact k.elim
  | some ds =>
    rw [h] at k
    obtain ⟨as, e1, e2⟩ := Option.bind_eq_some_iff.mp h
    refine r σ _ _ H as _ rl.gh rl.visG e1 fun F1 H1 vs g1 a1 => ?_
    have rl2 := rl.grow (rl.back g1).1
    unfold v4 at e2
    split at e2
    · split at e2 <;> cases e2
      rename_i hc
      obtain ⟨x, r', rfl, ax, ar⟩ := a1.cons_inv
      obtain ⟨y, r', rfl, ay, ar⟩ := ar.cons_inv
      cases ar.nil_inv
      exact ⟨_, _, by rw [ax.int_inv, ay.int_inv], ⟨(zR.mp hc.1).1, (zR.mp hc.1).2, (zR.mp hc.2).1, (zR.mp hc.2).2⟩, zeC (zdx _ _) rg rb rl2 k⟩
    · cases e2
end
theorem zim {P : Program} {w : World} {K : PySem.W.Frag} {mg : Str → Option Value} {base : Heap} {f : Addr} {fd : FuncData} {ps : List Str} {k m : Nat} : yU P w K mg base CX0 k f fd ps (spD m fun _ => none) := by
  refine ⟨fun vs H Q E h => ?_, fun A outer s H args us vs Q E _ _ _ _ h => ?_⟩
  · obtain ⟨_, _, _, _, _, _, e, _⟩ := h
    cases e
  · obtain ⟨_, _, _, _, _, _, e, _⟩ := h
    cases e
noncomputable def zkh (n : Nat) (g : (List D → Option D) → SE → Ctl) : Nat → List D → Option D
  | 0 => fun _ => none
  | k + 1 => fnD n (g (zkh n g k))
theorem zjp {P : Program} {w : World} {K : PySem.W.Frag} {mg : Str → Option Value} {base : Heap} {x qual : Str} {st : Stmt} {f : Addr} {fd : FuncData} {N ps : List Str} {k0 : Nat} {g : (List D → Option D) → SE → Ctl} (Fu : Fun K x qual st f fd) (S : zv N ps (ze st))
    (hb : ∀ (k : Nat) (r : List D → Option D), yU P w K mg base CX0 (k0 + k) f fd ps (spD ps.length r) → ∀ (cdv : Value) (A : Around) (outer : List Env) (s : Shared) (H : Hp) (E : XK), vW (k0 + k) (A.deeper (PyProof.Rows.envOfC qual (ze st) s.heap.objs.size f cdv)) → SDs (zg0 CX0 P w K mg base N qual (ze st) f cdv A outer s H E).nox (zu st) (g r)) :
    ∀ n, yU P w K mg base CX0 (k0 + n) f fd ps (spD ps.length (zkh N.length g n)) := by
  intro n
  induction n with
  | zero => exact zim
  | succ n ih => exact yL Fu S fun cdv A outer s H E hr => hb n _ ih cdv A outer s H E hr
noncomputable def zfS (K : PySem.W.Frag) : Sp := fun vs H Q _ => ∃ (a : Addr) (ns : List Int), vs = [.ref a] ∧ SqL K H a (ns.map V.int) ∧ ns.length ≤ 63 ∧ ∀ H', Q (.bl true) H'
end Dl
namespace Dl
open PySem L2
theorem zkl {P : Program} {w : World} {K : PySem.W.Frag} {mg : Str → Option Value} {base : Heap} {f : Addr} {fd : FuncData} {ps : List Str} {k : Nat} {p : List D → Option D} (F : yU P w K mg base CX0 k f fd ps (@spD ⟨K⟩ 1 p)) (h : ∀ ns : List Int, ns.length ≤ 63 → p [.scr ns] = some (.bl true)) :
    yU P w K mg base CX0 k f fd ps (zfS K) := by
  letI : KK := ⟨K⟩
  refine F.imp fun vs H Q E hs => ?_
  obtain ⟨a, ns, rfl, hq, hl, q⟩ := hs
  refine ⟨[.scr ns], .bl true, H, rfl, yl.refl _, .cons ?_ .nil, h ns hl, fun F' H' v _ av => ?_⟩
  · unfold At
    exact ⟨a, rfl, hq⟩
  · rw [av.bl_inv]
    exact q H'
structure Def (K : PySem.W.Frag) (mg : Str → Option Value) (x : Str) (st : Stmt) (ps : List Str) (f : Addr) (fd : FuncData) : Prop where
  fn : Fun K x x st f fd
  bd : WQ K fd ps []
  at_ : mg x = some (.ref f)
theorem Def.kp {K : PySem.W.Frag} {mg : Str → Option Value} {x : Str} {st : Stmt} {ps : List Str} {f : Addr} {fd : FuncData} (d : Def K mg x st ps f fd) : PySem.W.keepIn K (.ref f) = true := d.fn.kp
end Dl
namespace Dl
open PySem L2
inductive Ctl.w : Ctl → (SE → Prop) → (SE → Prop) → (SE → Prop) → (D → Prop) → Prop where
  | nx {ρ : SE} {n b k : SE → Prop} {r : D → Prop} : n ρ → Ctl.w (.nx ρ) n b k r
  | bk {ρ : SE} {n b k : SE → Prop} {r : D → Prop} : b ρ → Ctl.w (.bk ρ) n b k r
  | ct {ρ : SE} {n b k : SE → Prop} {r : D → Prop} : k ρ → Ctl.w (.ct ρ) n b k r
  | rt {d : D} {n b k : SE → Prop} {r : D → Prop} : r d → Ctl.w (.rt d) n b k r
section
variable {ρ : SE} {d : D} {n b k : SE → Prop} {r : D → Prop}
theorem Ctl.w.nxi (h : Ctl.w (.nx ρ) n b k r) : n ρ := by cases h; assumption
theorem Ctl.w.bki (h : Ctl.w (.bk ρ) n b k r) : b ρ := by cases h; assumption
theorem Ctl.w.cti (h : Ctl.w (.ct ρ) n b k r) : k ρ := by cases h; assumption
theorem Ctl.w.rti (h : Ctl.w (.rt d) n b k r) : r d := by cases h; assumption
theorem Ctl.w.noi (h : Ctl.w .no n b k r) : False := by cases h
end
noncomputable abbrev noP : SE → Prop := fun _ => False
section
variable {g h : SE → Ctl} {ρ ρ' : SE} {n b k : SE → Prop} {r : D → Prop}
theorem vU (e : (g ρ).w (fun ρ' => (h ρ').w n b k r) b k r) : (zW g h ρ).w n b k r := by
  unfold zW
  cases hg : g ρ with
  | nx ρ' => rw [hg] at e; exact e.nxi
  | bk ρ' => rw [hg] at e; exact .bk e.bki
  | ct ρ' => rw [hg] at e; exact .ct e.cti
  | rt d => rw [hg] at e; exact .rt e.rti
  | no => rw [hg] at e; exact e.noi.elim
theorem zZ (e : g ρ = .nx ρ') (q : (h ρ').w n b k r) : (zW g h ρ).w n b k r := vU (by rw [e]; exact .nx q)
theorem Va (e : g ρ = .nx ρ') (q : n ρ') : (g ρ).w n b k r := by rw [e]; exact .nx q
theorem Wh {d : D} (e : g ρ = .rt d) (q : r d) : (g ρ).w n b k r := by rw [e]; exact .rt q
theorem zd9 {t : Ev → Option Bool} {c : Bool} (e : t (visG ρ) = some c) (h1 : c = true → (g ρ).w n b k r) (h2 : c = false → (h ρ).w n b k r) : (sIf t g h ρ).w n b k r := by
  unfold sIf
  rw [e]
  cases c with
  | true => exact h1 rfl
  | false => exact h2 rfl
theorem zlL {i : Nat} (e : zli ρ i = ρ') (q : (g ρ').w n b k r) : (sFz i g ρ).w n b k r := by
  unfold sFz
  rw [e]
  exact q
theorem zeF {bd : D → SE → Option SE} (I : Nat → SE → Prop) : ∀ (ds : List D) (j : Nat) (ρ : SE), I j ρ →
    (∀ i d ρ, ds[i]? = some d → I (j + i) ρ → ∃ ρ1, bd d ρ = some ρ1 ∧ (g ρ1).w (I (j + i + 1)) n (I (j + i + 1)) r) → (∀ ρ, I (j + ds.length) ρ → n ρ) → (ze3 bd g ds ρ).w n b k r
  | [], j, ρ, h0, _, fin => .nx (fin ρ h0)
  | d :: ds, j, ρ, h0, step, fin => by
    obtain ⟨ρ1, e1, e2⟩ := step 0 d ρ rfl h0
    unfold ze3
    rw [e1]
    dsimp only
    have next : ∀ ρ', I (j + 1) ρ' → (ze3 bd g ds ρ').w n b k r := fun ρ' h' => zeF I ds (j + 1) ρ' h'
      (fun i d' ρ hd hI => by
        have := step (i + 1) d' ρ (by simpa using hd) (by rw [show j + (i + 1) = j + 1 + i by omega]; exact hI)
        rwa [show j + (i + 1) + 1 = j + 1 + i + 1 by omega] at this)
      (fun ρ hI => fin ρ (by rw [List.length_cons, show j + (ds.length + 1) = j + 1 + ds.length by omega]; exact hI))
    cases hg : g ρ1 with
    | nx ρ' => rw [hg] at e2; exact next ρ' e2.nxi
    | ct ρ' => rw [hg] at e2; exact next ρ' e2.cti
    | bk ρ' => rw [hg] at e2; exact .nx e2.bki
    | rt d' => rw [hg] at e2; exact .rt e2.rti
    | no => rw [hg] at e2; exact e2.noi.elim
theorem zfp {f : Ev → Option (List D)} {bd : D → SE → Option SE} {ds : List D} (I : Nat → SE → Prop) (e : f (visF ρ) = some ds) (h0 : I 0 ρ)
    (step : ∀ i d ρ, ds[i]? = some d → I i ρ → ∃ ρ1, bd d ρ = some ρ1 ∧ (g ρ1).w (I (i + 1)) n (I (i + 1)) r) (fin : ∀ ρ, I ds.length ρ → n ρ) : (YC f bd g ρ).w n b k r := by
  unfold YC
  rw [e]
  exact zeF I ds 0 ρ h0 (fun i d ρ hd hI => by rw [Nat.zero_add] at hI ⊢; exact step i d ρ hd hI) (fun ρ hI => fin ρ (by rw [Nat.zero_add] at hI; exact hI))
theorem zdc {f : Ev → Option (List D)} {bd : D → SE → Option SE} {rg : List D → Option (List D)} {lo : Int} {c : Nat} (I : Nat → SE → Prop) (e : (f (visG ρ)).bind rg = some (YD lo c)) (h0 : I 0 ρ)
    (step : ∀ (i : Nat) ρ, i < c → I i ρ → ∃ ρ1, bd (.int (lo + i)) ρ = some ρ1 ∧ (g ρ1).w (I (i + 1)) n (I (i + 1)) r) (fin : ∀ ρ, I c ρ → n ρ) : (xA rg f bd g ρ).w n b k r := by
  unfold xA
  rw [e]
  refine zeF I (YD lo c) 0 ρ h0 (fun i d ρ hd hI => ?_) (fun ρ hI => fin ρ ?_)
  · rw [Nat.zero_add] at hI ⊢
    unfold YD at hd
    rw [List.getElem?_map] at hd
    by_cases hi : i < c
    · rw [List.getElem?_range hi] at hd
      cases hd
      exact step i ρ hi hI
    · rw [List.getElem?_eq_none (by simpa using hi)] at hd
      cases hd
  · rw [Nat.zero_add] at hI
    rwa [show (YD lo c).length = c by unfold YD; simp] at hI
end
theorem zek {m : Nat} {g : SE → Ctl} {ds : List D} {d : D} {ρ : SE} (e : ds.map .v ++ List.replicate (m - ds.length) .no = ρ) (q : (g ρ).w (fun _ => d = .non) noP noP (fun d' => d' = d)) : fnD m g ds = some d := by
  unfold fnD
  rw [e]
  cases hg : g ρ with
  | nx ρ' => rw [hg] at q; rw [show d = .non from q.nxi]
  | rt d' => rw [hg] at q; rw [show d' = d from q.rti]
  | bk _ => rw [hg] at q; exact q.bki.elim
  | ct _ => rw [hg] at q; exact q.cti.elim
  | no => rw [hg] at q; exact q.noi.elim
theorem zhD {m : Bool} {i : Nat} {f : Ev → Option D} {ρ : SE} {ds : List D} {d : D} (h1 : vEv m f ρ = some d) (h2 : ρ[i]? = some (.o ds)) (h3 : ds.length ≤ 1000) : Zf m i f ρ = .nx (ρ.set i (.o (ds ++ [d]))) := by
  unfold Zf
  rw [h1, h2]
  show (match (if decide (ds.length < sizeLine) = true then some (ρ.set i (.o (ds ++ [d]))) else none) with | some ρ' => Ctl.nx ρ' | none => Ctl.no) = _
  rw [if_pos (decide_eq_true (vk h3))]
theorem XM {b : D → Option (List (Option D))} {t : Ev → Option Bool} {f : Ev → Option D} {ρ : Ev} {α : Type} (c : α → D) (y : α → D) : ∀ (xs : List α), (∀ x ∈ xs, ∃ own, b (c x) = some own ∧ t (own ++ ρ) = some true ∧ f (own ++ ρ) = some (y x)) → lcD b t f ρ (xs.map c) = some (xs.map y)
  | [], _ => rfl
  | x :: xs, h => by
    obtain ⟨own, h1, h2, h3⟩ := h x List.mem_cons_self
    show lcD b t f ρ (c x :: xs.map c) = _
    unfold lcD
    rw [h1]
    simp only [Option.bind_some, h2, if_true, h3, XM c y xs fun z hz => h z (List.mem_cons_of_mem _ hz)]
    rfl
theorem vA {b : D → Option (List (Option D))} {t : Ev → Option Bool} {f : Ev → Option D} {ρ : Ev} {α : Type} (c : α → D) (p : α → Bool) (y : α → D) : ∀ (xs : List α), (∀ x ∈ xs, ∃ own, b (c x) = some own ∧ t (own ++ ρ) = some (p x) ∧ (p x = true → f (own ++ ρ) = some (y x))) → lcD b t f ρ (xs.map c) = some ((xs.filter p).map y)
  | [], _ => rfl
  | x :: xs, h => by
    obtain ⟨own, h1, h2, h3⟩ := h x List.mem_cons_self
    have ih := vA c p y xs fun z hz => h z (List.mem_cons_of_mem _ hz)
    show lcD b t f ρ (c x :: xs.map c) = _
    unfold lcD
    rw [h1]
    simp only [Option.bind_some, h2]
    cases hp : p x with
    | false =>
      rw [if_neg Bool.false_ne_true, ih, List.filter_cons, if_neg (by rw [hp]; exact Bool.false_ne_true)]
    | true =>
      rw [if_pos rfl, h3 hp, ih, List.filter_cons, if_pos hp]
      rfl
mutual
noncomputable def noS : D → Bool
  | .tup ds => zhM ds
  | .lst ds => zhM ds
  | .scr _ => false
  | _ => true
noncomputable def zhM : List D → Bool
  | [] => true
  | d :: ds => noS d && zhM ds
end
theorem vB : ∀ {ds : List D} {i : Nat} {d : D}, zhM ds = true → ds[i]? = some d → noS d = true
  | [], _, _, _, h => by simp at h
  | d :: ds, i, e, h, he => by
    unfold zhM at h
    rw [Bool.and_eq_true] at h
    cases i with
    | zero => simp at he; subst he; exact h.1
    | succ i => exact vB h.2 (by simpa using he)
theorem Ym {n : Nat} (h : n ≤ 1000) : lim n = true := by
  unfold lim
  exact decide_eq_true (Nat.le_of_lt (vk h))
theorem ZQ (lo : Int) (n : Nat) : (YD lo n).length = n := by unfold YD; simp
end Dl
namespace Dl
open PySem L2
noncomputable abbrev Pr := Int × Int
noncomputable def prD (t : Pr) : D := .tup [.int t.1, .int t.2]
noncomputable def zle : D → Option Pr
  | .tup [.int a, .int b] => some (a, b)
  | _ => none
noncomputable def XD : List D → Option (List Pr)
  | [] => some []
  | d :: ds => (zle d).bind fun t => (XD ds).map (t :: ·)
theorem zij {d : D} {t : Pr} (h : zle d = some t) : d = prD t := by
  unfold zle at h
  split at h
  · cases h; rfl
  · cases h
theorem zdC : ∀ {ds : List D} {ts : List Pr}, XD ds = some ts → ds = ts.map prD
  | [], ts, h => by cases h; rfl
  | d :: ds, ts, h => by
    unfold XD at h
    obtain ⟨t, h1, h2⟩ := Option.bind_eq_some_iff.mp h
    obtain ⟨us, h3, rfl⟩ := Option.map_eq_some_iff.mp h2
    rw [zij h1, zdC h3]
    rfl
theorem VV (ts : List Pr) : XD (ts.map prD) = some ts := by
  induction ts with
  | nil => rfl
  | cons t ts ih =>
    show (zle (prD t)).bind (fun u => (XD (ts.map prD)).map (u :: ·)) = _
    rw [ih]
    rfl
noncomputable def zjg (a b : Pr) : Bool := !OwnSort.bltP b a
noncomputable def Z2 (ts : List Pr) : List Pr := ts.mergeSort zjg
noncomputable def leI (a b : Int) : Bool := decide (a ≤ b)
noncomputable def zf0 (ns : List Int) : List Int := ns.mergeSort leI
theorem Xd {a b : Pr} : OwnSort.bltP b a = false ↔ zjg a b = true := by unfold zjg; simp
theorem x5 {a b : Pr} : zjg a b = true ↔ a.1 < b.1 ∨ (a.1 = b.1 ∧ a.2 ≤ b.2) := by
  rw [← Xd]
  unfold OwnSort.bltP
  rw [decide_eq_false_iff_not]
  omega
theorem zed {ts us : List Pr} (p : us.Perm ts) (h : us.Pairwise fun a b => OwnSort.bltP b a = false) : us = Z2 ts := by
  refine List.Perm.eq_of_pairwise (le := fun a b => zjg a b = true) (fun a b _ _ h1 h2 => ?_) (h.imp fun x => Xd.mp x) ?_ (p.trans (List.mergeSort_perm _ _).symm)
  · rw [x5] at h1 h2
    exact Prod.ext (by omega) (by omega)
  · exact List.pairwise_mergeSort (fun a b c h1 h2 => by rw [x5] at *; omega) (fun a b => by rw [Bool.or_eq_true, x5, x5]; omega) _
theorem zdW {ts us : List Int} (p : us.Perm ts) (h : us.Pairwise (· ≤ ·)) : us = zf0 ts := by
  refine List.Perm.eq_of_pairwise (le := fun a b => leI a b = true) (fun a b _ _ h1 h2 => ?_) (h.imp fun x => decide_eq_true x) ?_ (p.trans (List.mergeSort_perm _ _).symm)
  · unfold leI at h1 h2
    rw [decide_eq_true_eq] at h1 h2
    omega
  · exact List.pairwise_mergeSort (fun a b c h1 h2 => by unfold leI at *; rw [decide_eq_true_eq] at *; omega) (fun a b => by unfold leI; rw [Bool.or_eq_true, decide_eq_true_eq, decide_eq_true_eq]; omega) _
noncomputable def zcm : List D → Option (List D)
  | [.lst ds] => if ds.length < 64 then match XD ds with
      | some ts => some ((Z2 ts).map prD)
      | none => match zhB ds with
        | some ns => some ((zf0 ns).map .int)
        | none => none
    else none
  | _ => none
variable [KK]
section
variable {X : Cx} {e : Expr} {pos : Pos}
theorem At.pr_inv {F : Hp} {t : Pr} {v : V} (h : At F (prD t) v) : ∃ a, v = .ref a ∧ F a = some (.tup [.int t.1, .int t.2]) := by
  obtain ⟨a, xs, rfl, hx, al⟩ := h.tup_inv
  obtain ⟨x, r, rfl, a1, al⟩ := al.cons_inv
  obtain ⟨y, r, rfl, a2, al⟩ := al.cons_inv
  cases al.nil_inv
  cases a1.int_inv
  cases a2.int_inv
  exact ⟨a, rfl, hx⟩
theorem Vh (hc : X.calm = true) : Yu X (.builtin "sorted") (fun xs H Q => ∃ F p ys ds out, xs = [.ref p] ∧ yl F H ∧ H p = some (.lst ys) ∧ AtL F ds ys ∧ zcm [.lst ds] = some out ∧ ∀ l zs, H l = none → AtL F out zs → Q (.ref l) (upd H l (.lst zs))) := by
  intro pins s σ H xs us Q I r h
  obtain ⟨F, p, ys, ds, out, rfl, sm, hp, al, hs, q⟩ := h
  obtain ⟨u, rfl, ru⟩ := zac r
  cases ru
  obtain ⟨its, rv, pl, hz⟩ := I.list (SqL.of hp)
  have hlen : its.length = ds.length := by rw [← rv.length, al.length]
  unfold zcm at hs
  dsimp only at hs
  split at hs <;> try cases hs
  rename_i h64
  have fin : ∀ (zs : List V) (ws : List Value), zs.length < 64 → yx zs ws → AtL F out zs → EP X pins σ Q (.ref (s.heap.objs.size + 1)) { s with heap := PyProof.Rows.sortedAll s.heap its ws.toArray } := fun zs ws hl rz az => by
    have hn : H (s.heap.objs.size + 1) = none := I.hok.fresh (Nat.le_succ _)
    obtain ⟨ep, he⟩ := PyProof.Rows.sortedAll_at s.heap its ws.toArray
    refine ⟨.ref (s.heap.objs.size + 1), upd H (s.heap.objs.size + 1) (.lst zs), I.laid (t' := s.toks) (fun b o z => PyProof.Rows.sortedAll_old z) (Nat.le_succ _) ?_, rfl, q _ zs hn az⟩
    exact ⟨Nat.le_of_lt (vk (by omega)), ws, ep, rz, he⟩
  split at hs
  · rename_i ts hts
    cases hs
    have eds := zdC hts
    subst eds
    have look : ∀ {v : Value}, v ∈ its → ∃ a t, v = .ref a ∧ t ∈ ts ∧ F a = some (.tup [.int t.1, .int t.2]) ∧ OwnSort.TP s.heap v t := fun {v} hv => by
      obtain ⟨j, hj, rfl⟩ := List.getElem_of_mem hv
      have hj2 : j < ts.length := by rw [List.length_map] at hlen; omega
      obtain ⟨x, hx, ax⟩ := al.get (i := j) (d := prD ts[j]) (by rw [List.getElem?_map]; simp [hj2])
      obtain ⟨a, rfl, ha⟩ := ax.pr_inv
      obtain ⟨v, hv, rvv⟩ := rv.get hx
      have e1 : its[j]? = some its[j] := by simp [hj]
      rw [hv] at e1
      cases e1
      have e2 : its[j] = .ref a := rvv
      refine ⟨a, ts[j], e2, List.getElem_mem hj2, ha, ?_⟩
      obtain ⟨us, ru, ⟨o, ho, hcl, n, hd⟩, _⟩ := I.tuple (SqT.of (sm _ _ ha))
      obtain ⟨u1, u2, rfl, r1, r2⟩ := zeg ru
      obtain ⟨t1, rfl⟩ := r1
      obtain ⟨t2, rfl⟩ := r2
      exact ⟨a, o, n, t1, t2, e2, ho, hcl, hd⟩
    refine OwnSort.own_sorted pl.isList (fun v hv => let ⟨a, t, _, _, _, ht⟩ := look hv; ⟨t, ht⟩) (by omega) fun o2 pm ri => ?_
    obtain ⟨us, l1, l2, l3⟩ := ri
    have hlo : o2.toList.length = ts.length := by rw [pm.length_eq, hlen, List.length_map]
    -- the values' addresses
    have zsOf : ∀ (ws : List Value) (vs : List Pr), ws.length = vs.length → (∀ w ∈ ws, w ∈ its) → (∀ (i : Nat) v t, ws[i]? = some v → vs[i]? = some t → OwnSort.TP s.heap v t) → ∃ zs : List V, yx zs ws ∧ AtL F (vs.map prD) zs := by
      intro ws
      induction ws with
      | nil =>
        intro vs hl _ _
        cases vs with
        | nil => exact ⟨[], .nil, .nil⟩
        | cons _ _ => simp at hl
      | cons w ws ih =>
        intro vs hl hm ht
        cases vs with
        | nil => simp at hl
        | cons t vs =>
          obtain ⟨zs, z1, z2⟩ := ih vs (by simpa using hl) (fun w' hw' => hm w' (List.mem_cons_of_mem _ hw')) (fun i v t h1 h2 => ht (i + 1) v t (by simpa using h1) (by simpa using h2))
          obtain ⟨a, t', rfl, _, ha, htp⟩ := look (hm w List.mem_cons_self)
          have et : t' = t := htp.uniq (ht 0 _ t rfl rfl)
          subst et
          exact ⟨.ref a :: zs, .cons rfl z1, .cons (.tup ha (.cons .int (.cons .int .nil))) z2⟩
    obtain ⟨zs, z1, z2⟩ := zsOf o2.toList us l1 (fun w hw => pm.mem_iff.mp hw) l2
    have keysPerm : us.Perm ts := by
      -- by the keys of the values
      have kv : ∀ (ws : List Value) (vs : List Pr), ws.length = vs.length → (∀ (i : Nat) v t, ws[i]? = some v → vs[i]? = some t → OwnSort.TP s.heap v t) → vs = ws.map fun v => (OwnSort.keyP s.heap v).getD (0, 0) := by
        intro ws
        induction ws with
        | nil => intro vs hl _; cases vs with
          | nil => rfl
          | cons _ _ => simp at hl
        | cons w ws ih =>
          intro vs hl ht
          cases vs with
          | nil => simp at hl
          | cons t vs =>
            rw [List.map_cons, OwnSort.keyP_of (ht 0 w t rfl rfl), ← ih vs (by simpa using hl) fun i v t h1 h2 => ht (i + 1) v t (by simpa using h1) (by simpa using h2)]
            rfl
      rw [kv _ _ l1 l2, kv its ts (by rw [hlen, List.length_map]) fun i v t h1 h2 => ?_]
      · exact pm.map _
      · obtain ⟨x, hx, ax⟩ := al.get (i := i) (d := prD t) (by rw [List.getElem?_map, h2]; rfl)
        obtain ⟨a, rfl, ha⟩ := ax.pr_inv
        obtain ⟨v', hv', rvv⟩ := rv.get hx
        rw [h1] at hv'
        cases hv'
        obtain ⟨us', ru', ⟨o, ho, hcl, n, hd⟩, _⟩ := I.tuple (SqT.of (sm _ _ ha))
        obtain ⟨u1, u2, rfl, r1, r2⟩ := zeg ru'
        obtain ⟨t1, rfl⟩ := r1
        obtain ⟨t2, rfl⟩ := r2
        exact ⟨a, o, n, t1, t2, rvv, ho, hcl, hd⟩
    have e3 := zed keysPerm l3
    rw [e3] at z2
    have := fin zs o2.toList (by rw [z1.length]; rw [List.length_map] at h64; omega) z1 z2
    simpa using this
  · split at hs <;> try cases hs
    rename_i ns hns
    have eds := Wa hns
    subst eds
    have hI : PyProof.Rows.IntsAre its ns := YV (by rw [← al.of_ints]; exact rv)
    refine PyProof.Rows.sorted_ints pl.isList hI (by omega) fun o2 ns' h1 h2 h3 => ?_
    have e3 := zdW h2 h3
    subst e3
    have z1 : yx ((zf0 ns).map V.int) o2.toList := Vl h1
    have := fin ((zf0 ns).map V.int) o2.toList (by rw [List.length_map, h2.length_eq]; rw [List.length_map] at h64; omega) z1 (.ints _)
    simpa using this
theorem zfP {p : Pos} {f : Ev → Option (List D)} (hc : X.calm = true) (hgl : Gl X "sorted") (hm : X.mg "sorted" = none) (ha : AD X [e] f)
    (he : starEach [e] X.env = (false, eval e X.env) :: starEach [] X.env := by rfl) (hpl : (backTo pos (starEach [] X.env)).any (·.1) = false := by rfl) : FL X (.Call (.Name "sorted" p) [e] [] pos) (fFn zcm f) := by
  obtain ⟨t, pa, ra⟩ := ha
  refine ⟨_, Xv (Vh hc) hgl hm zeM pa (by decide) (by decide) he hpl, fun σ ρ F H z Q s va e q => ?_⟩
  obtain ⟨ds, e1, e2⟩ := Option.bind_eq_some_iff.mp e
  refine ra σ ρ F H ds _ s va e1 fun F1 H1 vs g1 a1 => ?_
  have e2' := e2
  unfold zcm at e2'
  split at e2'
  · obtain ⟨x, r, rfl, ax, ar⟩ := a1.cons_inv
    cases ar.nil_inv
    obtain ⟨p, ys, rfl, hx, bl⟩ := ax.lst_inv
    exact ⟨F1, p, ys, _, z, rfl, g1.fh, g1.fh _ _ hx, bl, e2, fun l zs hl az => q _ _ _ _ (g1.trans (Gr.hide g1.fh hl _)) (zb2 g1 hl) (g1.fh.free hl) zo az⟩
  · cases e2'
end
end Dl
namespace Dl
open PySem L2
variable [KK]
end Dl
namespace L2
open PySem PySem.Spec PyProof.Rows
section
variable {X : Cx}
end
end L2
namespace Dl
open PySem L2
section
variable [KK] {X : Cx} {a e k : Expr} {pos : Pos}
end
end Dl
namespace Dl
open PySem L2
end Dl
namespace L2
open PySem PySem.Spec PyProof.Rows
section
variable {X : Cx} {tg : Expr}
end
end L2
namespace Dl
open PySem L2
section
variable [KK] {X : Cx} {a b c e : Expr} {tg : Expr} {pos : Pos}
end
end Dl
namespace Dl
open PySem L2
variable [KK]
section
variable {X : Cx} {st : Stmt} {sts : List Stmt} {a e : Expr} {pos : Pos}
end
end Dl
namespace Dl
open PySem L2
variable [KK]
section
variable {X : Cx} {a b : Expr} {pos : Pos}
end
end Dl
namespace Dl
open PySem L2
variable [KK]
section
variable {X : Cx} {a e : Expr}
end
end Dl
namespace Dl
open PySem L2
noncomputable def zlI : D → Option Key
  | .int i => some (.inl i)
  | .str x => some (.inr x)
  | _ => none
noncomputable def zgg : List D → Option (List Key)
  | [] => some []
  | d :: ds => (zlI d).bind fun k => (zgg ds).map (k :: ·)
noncomputable def zla : D → Option (List Key)
  | .tup ds => zgg ds
  | _ => none
noncomputable def zi4 (t : Bool) (d : D) : Option (List Key) := if t = true then zla d else (zlI d).map ([·])
noncomputable def intQ : Int → Int → Bool
  | .ofNat a, .ofNat b => Nat.beq a b
  | .negSucc a, .negSucc b => Nat.beq a b
  | _, _ => false
theorem zdi {a b : Int} : intQ a b = true ↔ a = b := by
  cases a with
  | ofNat a => cases b with
    | ofNat b => exact ⟨fun h => (by rw [Nat.eq_of_beq_eq_true h]), fun h => (by cases h; exact Nat.beq_refl a)⟩
    | negSucc b => exact ⟨fun h => (by cases h), fun h => (by cases h)⟩
  | negSucc a => cases b with
    | ofNat b => exact ⟨fun h => (by cases h), fun h => (by cases h)⟩
    | negSucc b => exact ⟨fun h => (by rw [Nat.eq_of_beq_eq_true h]), fun h => (by cases h; exact Nat.beq_refl a)⟩
noncomputable def zhd : Key → Key → Bool
  | .inl i, .inl j => intQ i j
  | .inr a, .inr b => decide (a = b)
  | _, _ => false
noncomputable def zlc : List Key → List Key → Bool
  | [], [] => true
  | a :: r, b :: s => match zhd a b with
    | true => zlc r s
    | false => false
  | _, _ => false
theorem zaB {a b : Key} : zhd a b = true ↔ a = b := by
  cases a with
  | inl i => cases b with
    | inl j => exact ⟨fun h => (by rw [zdi.mp h]), fun h => (by cases h; exact zdi.mpr rfl)⟩
    | inr b => exact ⟨fun h => (by cases h), fun h => (by cases h)⟩
  | inr i => cases b with
    | inl j => exact ⟨fun h => (by cases h), fun h => (by cases h)⟩
    | inr b => exact ⟨fun h => (by rw [of_decide_eq_true h]), fun h => (by cases h; exact decide_eq_true rfl)⟩
theorem zdB {x y : List Key} : zlc x y = true ↔ x = y := by
  induction x generalizing y with
  | nil => cases y with
    | nil => exact ⟨fun _ => rfl, fun _ => rfl⟩
    | cons b s => exact ⟨fun h => (by cases h), fun h => (by cases h)⟩
  | cons a r ih => cases y with
    | nil => exact ⟨fun h => (by cases h), fun h => (by cases h)⟩
    | cons b s =>
      show (match zhd a b with | true => zlc r s | false => false) = true ↔ _
      cases h : zhd a b with
      | true => rw [zaB.mp h]; exact ih.trans ⟨fun h => (by rw [h]), fun h => (by cases h; rfl)⟩
      | false => exact ⟨fun h => (by cases h), fun e => (by cases e; rw [zaB.mpr rfl] at h; cases h)⟩
noncomputable def zfl (x y : List Key) : Decidable (x = y) := match h : zlc x y with
  | true => .isTrue (zdB.mp h)
  | false => .isFalse fun e => by rw [zdB.mpr e] at h; cases h
noncomputable def XN : List (List Key) → List D → List Key → Option D
  | k' :: ks, v :: vs, k => @ite _ (k' = k) (zfl k' k) (some v) (XN ks vs k)
  | _, _, _ => none
noncomputable def zk7 : List (List Key) → List D → List Key → D → List D
  | k' :: ks, v :: vs, k, d => (@ite _ (k' = k) (zfl k' k) d v) :: zk7 ks vs k d
  | _, _, _, _ => []
noncomputable def zgZ (ks : List (List Key)) (vs : List D) (k : List Key) : List (List Key) := if (XN ks vs k).isSome = true then ks else ks ++ [k]
noncomputable def zg8 (ks : List (List Key)) (vs : List D) (k : List Key) (d : D) : List D := if (XN ks vs k).isSome = true then zk7 ks vs k d else vs ++ [d]
theorem W4 {k' k : List Key} {ks : List (List Key)} {v : D} {vs : List D} : XN (k' :: ks) (v :: vs) k = if k' = k then some v else XN ks vs k := by
  show @ite _ (k' = k) (zfl k' k) (some v) (XN ks vs k) = _
  by_cases h : k' = k
  · rw [if_pos h, if_pos h]
  · rw [if_neg h, if_neg h]
section
variable [KK]
theorem zaI {F : Hp} {d : D} {k : Key} {y : V} (h : zlI d = some k) (a : At F d y) : y = kV k := by
  cases d with
  | int i => cases h; exact a.int_inv
  | str x => cases h; exact a.str_inv
  | _ => cases h
theorem zdj {F : Hp} : ∀ {ds : List D} {ks : List Key} {ys : List V}, zgg ds = some ks → AtL F ds ys → ys = ks.map kV
  | [], _, _, h, a => by cases h; exact a.nil_inv
  | d :: ds, _, _, h, a => by
    obtain ⟨k, h1, h2⟩ := Option.bind_eq_some_iff.mp h
    obtain ⟨r, h3, rfl⟩ := Option.map_eq_some_iff.mp h2
    obtain ⟨x, xs, rfl, a1, a2⟩ := a.cons_inv
    rw [zaI h1 a1, zdj h3 a2]
    rfl
theorem za8 {F : Hp} {d : D} {k : List Key} {y : V} (h : zla d = some k) (a : At F d y) : ∃ b, y = .ref b ∧ F b = some (.tup (k.map kV)) := by
  cases d with
  | tup ds =>
    obtain ⟨b, ys, rfl, hb, al⟩ := a.tup_inv
    rw [zdj (show zgg ds = some k from h) al] at hb
    exact ⟨b, rfl, hb⟩
  | _ => cases h
section
variable {κ : Type} [DecidableEq κ] (f : κ → List Key) (hf : ∀ a b, f a = f b → a = b)
include hf
theorem X0 {F : Hp} {k : κ} : ∀ {kvs : List (κ × V)} {vs : List D}, AtL F vs (kvs.map (·.2)) →
    (∀ d, XN (kvs.map fun p => f p.1) vs (f k) = some d → ∃ x, zdv kvs k = some x ∧ At F d x) ∧ (XN (kvs.map fun p => f p.1) vs (f k) = none → zdv kvs k = none)
  | [], _, _ => ⟨fun d h => (by cases h), fun _ => rfl⟩
  | p :: kvs, [], a => by cases a.nil_inv
  | p :: kvs, v :: vs, a => by
    obtain ⟨x, r, e, a1, a2⟩ := a.cons_inv
    cases e
    have ih := X0 (k := k) a2
    by_cases h : p.1 = k
    · rw [Zr h]
      have e : XN ((p :: kvs).map fun p => f p.1) (v :: vs) (f k) = some v := by
        rw [List.map_cons, W4, if_pos (by rw [h])]
      rw [e]
      exact ⟨fun d z => (by cases z; exact ⟨_, rfl, a1⟩), fun z => (by cases z)⟩
    · rw [Zk h]
      have e : XN ((p :: kvs).map fun p => f p.1) (v :: vs) (f k) = XN (kvs.map fun p => f p.1) vs (f k) := by
        rw [List.map_cons, W4, if_neg (fun z => h (hf _ _ z))]
      rw [e]
      exact ih
theorem zgn {F : Hp} {k : κ} {kvs : List (κ × V)} {vs : List D} (a : AtL F vs (kvs.map (·.2))) : (XN (kvs.map fun p => f p.1) vs (f k)).isSome = (zdv kvs k).isSome := by
  obtain ⟨h1, h2⟩ := X0 f hf (k := k) a
  cases h : XN (kvs.map fun p => f p.1) vs (f k) with
  | none => rw [h2 h]; rfl
  | some d => obtain ⟨x, e, _⟩ := h1 d h; rw [e]; rfl
theorem zfs {F : Hp} {k : κ} {d : D} {y : V} (ad : At F d y) : ∀ {kvs : List (κ × V)} {vs : List D}, AtL F vs (kvs.map (·.2)) →
    AtL F (zk7 (kvs.map fun p => f p.1) vs (f k) d) ((kvs.map fun kv => if kv.1 = k then (kv.1, y) else kv).map (·.2))
  | [], _, _ => by unfold zk7; exact .nil
  | p :: kvs, [], a => by cases a.nil_inv
  | p :: kvs, v :: vs, a => by
    obtain ⟨x, r, e, a1, a2⟩ := a.cons_inv
    cases e
    have ih := zfs (k := k) ad a2
    rw [List.map_cons, List.map_cons]
    refine AtL.cons ?_ ih
    by_cases h : p.1 = k
    · rw [if_pos h, if_pos (by rw [h])]; exact ad
    · rw [if_neg h, if_neg (fun z => h (hf _ _ z))]; exact a1
theorem zfC {F : Hp} {k : κ} {d : D} {y : V} (ad : At F d y) {kvs : List (κ × V)} {vs : List D} (a : AtL F vs (kvs.map (·.2))) :
    (zbh kvs k y).map (fun p => f p.1) = zgZ (kvs.map fun p => f p.1) vs (f k) ∧ AtL F (zg8 (kvs.map fun p => f p.1) vs (f k) d) ((zbh kvs k y).map (·.2)) := by
  unfold zbh zgZ zg8
  rw [zgn f hf a, XU]
  cases h : (zdv kvs k).isSome with
  | true =>
    rw [if_pos rfl, if_pos rfl, if_pos rfl]
    refine ⟨?_, zfs f hf ad a⟩
    rw [List.map_map]
    refine List.map_congr_left fun p _ => ?_
    by_cases e : p.1 = k
    · show f (if p.1 = k then (p.1, y) else p).1 = _; rw [if_pos e]
    · show f (if p.1 = k then (p.1, y) else p).1 = _; rw [if_neg e]
  | false =>
    rw [if_neg Bool.false_ne_true, if_neg Bool.false_ne_true, if_neg Bool.false_ne_true, List.map_append, List.map_append]
    exact ⟨rfl, a.append (.cons ad .nil)⟩
end
theorem zeo (a b : Key) (h : [a] = [b]) : a = b := by cases h; rfl
theorem zhI (a b : List Key) (h : a = b) : a = b := h
theorem zih {F H : Hp} {a : Addr} {z t : Bool} {ks : List (List Key)} {xs : List V} {vs : List D} {kd : D} {k : List Key} {y : V} (s : yl F H) (hd : Vz F a z t ks xs) (al : AtL F vs xs) (hk : zi4 t kd = some k) (ak : At F kd y) :
    ∃ o, zlG H a y o ∧ (∀ d, XN ks vs k = some d → ∃ x, o = some x ∧ At F d x) ∧ (XN ks vs k = none → o = none) := by
  obtain ⟨u, hd, rd⟩ := (hd.mono s).rd
  unfold V4 at hd
  unfold zi4 at hk
  cases t with
  | true =>
    rw [if_pos rfl] at hd hk
    obtain ⟨kvs, rfl, rfl, rfl⟩ := hd
    obtain ⟨b, rfl, hb⟩ := za8 hk ak
    exact ⟨_, .inr ⟨kvs, k, b, rd, rfl, s _ _ hb, rfl⟩, X0 (fun k => k) zhI al⟩
  | false =>
    rw [if_neg Bool.false_ne_true] at hd hk
    obtain ⟨kvs, rfl, rfl, rfl⟩ := hd
    obtain ⟨k0, h2, rfl⟩ := Option.map_eq_some_iff.mp hk
    rw [zaI h2 ak]
    exact ⟨_, .inl ⟨kvs, k0, rd, rfl, rfl⟩, X0 (fun k => [k]) zeo al⟩
theorem zif {F H : Hp} {a : Addr} {o : HO} {t : Bool} {ks : List (List Key)} {xs : List V} {vs : List D} {kd d : D} {k : List Key} {y v : V} {G : Hp} (h : H a = some o) (hd : V4 o t ks xs) (al : AtL F vs xs) (hk : zi4 t kd = some k) (ak : At G kd y) (s : yl G H) (ad : At F d v)
    (hl : ks.length < sizeLine) : ∃ o', zgu H a y v (upd H a o') ∧ zdE F o' (.m t (zgZ ks vs k) (zg8 ks vs k d)) := by
  unfold V4 at hd
  unfold zi4 at hk
  cases t with
  | true =>
    rw [if_pos rfl] at hd hk
    obtain ⟨kvs, rfl, rfl, rfl⟩ := hd
    obtain ⟨b, rfl, hb⟩ := za8 hk ak
    obtain ⟨q1, q2⟩ := zfC (fun k => k) zhI (k := k) ad al
    refine ⟨_, zgu.t h (s _ _ hb) (by simpa using hl), _, ?_, q2⟩
    unfold V4
    rw [if_pos rfl]
    exact ⟨_, rfl, q1, rfl⟩
  | false =>
    rw [if_neg Bool.false_ne_true] at hd hk
    obtain ⟨kvs, rfl, rfl, rfl⟩ := hd
    obtain ⟨k0, h2, rfl⟩ := Option.map_eq_some_iff.mp hk
    rw [zaI h2 ak]
    obtain ⟨q1, q2⟩ := zfC (fun k => [k]) zeo (k := k0) ad al
    refine ⟨_, zgu.k h (by simpa using hl), _, ?_, q2⟩
    unfold V4
    rw [if_neg Bool.false_ne_true]
    exact ⟨_, rfl, q1, rfl⟩
noncomputable def dgetD : D → D → Option D
  | .dct _ t ks vs, kd => (zi4 t kd).bind fun k => XN ks vs k
  | _, _ => none
noncomputable def dinD (neg : Bool) : D → D → Option D
  | kd, .dct _ t ks vs => (zi4 t kd).map fun k => .bl (neg != (XN ks vs k).isSome)
  | _, _ => none
section
variable {X : Cx} {a b c : Expr} {pos apos : Pos}
noncomputable def rDIn (neg : Bool) : R2 := fun x y H Q => ∃ a o, y = .ref a ∧ zlG H a x o ∧ Q (.bl (neg != o.isSome)) H
theorem zes {k : Nat} (hr : vW k X.A) : OpR X (compareOp .NotIn) (rDIn true) := by
  intro pins s σ H x y v u Q I rx ry h
  obtain ⟨a, o, rfl, g, q⟩ := h
  obtain rfl : u = Value.ref a := ry
  exact ziS (ziD hr) I g rx fun s3 I3 => ⟨.bl (!o.isSome), H, I3, rfl, by simpa using q⟩
theorem zi7 {neg : Bool} : OpD (rDIn neg) (dinD neg) := by
  intro F H x y d e z Q s a1 a2 h q
  cases e with
  | dct z' t ks vs =>
    obtain ⟨k, h1, rfl⟩ := Option.map_eq_some_iff.mp h
    obtain ⟨p, xs, rfl, hd, al⟩ := a2.dct_inv
    obtain ⟨o, hg, h3, h4⟩ := zih s hd al h1 a1
    refine ⟨p, o, rfl, hg, ?_⟩
    have e : (XN ks vs k).isSome = o.isSome := by
      cases h : XN ks vs k with
      | none => rw [h4 h]; rfl
      | some d => obtain ⟨w, rfl, _⟩ := h3 d h; rfl
    rw [← e]
    exact q F H _ (.refl s) .bl
  | _ => cases h
end
section
variable {X : Cx} {a e ko : Expr} {pos pos' : Pos} {st : Stmt}
noncomputable def zh1 (t : Bool) (i : Nat) : SE → Ctl := fun ρ => .nx (ρ.set i (.m t [] []))
theorem zi8 {t : Bool} {i : Nat} {x : Str} (hN : X.N.Nodup) (hi : X.N[i]? = some x) (hx : Loc X.env.scope x) (hs : swapsWith (.Dict [] [] pos) (some (.Name x pos')) pos.line X.env = pure false := by rfl)
    (hf : X.fn x = true ∨ X.env.scope.names.lookup x = some .local := by first | exact .inl rfl | exact .inr rfl | assumption) {p2 : Pos} (hs : swapsWith (.Dict [] [] p2) (some (.Name x pos')) pos.line X.env = pure false := by rfl) : SD X (.Assign [.Name x pos'] (.Dict [] [] p2) pos) (zh1 t i) := by
  have go : ∀ (o : HO), zdE (fun _ => none) o (.m t [] []) → ∀ (Fb Hb F H : Hp) (ρ : SE) (σ : St) (E : zer), Rl Fb Hb F H ρ σ → SOk Fb Hb E (zh1 t i ρ) → ∀ p, H p = none → E.nx (σ.set i (some (.ref p))) (upd H p o) := fun o ho Fb Hb F H ρ σ E rl k p hp => by
    have g := Gr.hide rl.gr.fh hp o
    refine k F _ _ ((rl.grow g).setW (rl.notbase hp) (rl.gr.fh.free hp) zo (ho.mono fun _ _ z => by cases z) (rl.notown hp))
  cases t with
  | true =>
    refine ⟨_, WW hN hi hx zha hs hf, fun Fb Hb F H ρ σ E rl k => ?_⟩
    refine fun p hp => go (.dT []) ⟨[], ?_, .nil⟩ Fb Hb F H ρ σ E rl k p hp
    unfold V4
    rw [if_pos rfl]
    exact ⟨[], rfl, rfl, rfl⟩
  | false =>
    refine ⟨_, WW hN hi hx zf6 hs hf, fun Fb Hb F H ρ σ E rl k => ?_⟩
    refine fun p hp => go (.dK []) ⟨[], ?_, .nil⟩ Fb Hb F H ρ σ E rl k p hp
    unfold V4
    rw [if_neg Bool.false_ne_true]
    exact ⟨[], rfl, rfl, rfl⟩
noncomputable def zlN (ρ : SE) (i : Nat) (kd d : D) : Option SE := match ρ[i]? with
  | some (.m t ks vs) => (zi4 t kd).bind fun k => if decide (ks.length < sizeLine) = true then some (ρ.set i (.m t (zgZ ks vs k) (zg8 ks vs k d))) else none
  | _ => none
noncomputable def ziH (m : Bool) (i : Nat) (fk fe : Ev → Option D) : SE → Ctl := fun ρ => match (vEv m fe ρ).bind fun d => (fk (visG ρ)).bind fun kd => zlN ρ i kd d with
  | some ρ' => .nx ρ'
  | none => .no
theorem ziO {k : Nat} {m : Bool} {i : Nat} {fk fe : Ev → Option D} (hr : vW k X.A) (he : ED X e fe) (ho : PE X a (zhE i)) (hk : ED X ko fk) (hs : swapsWith e (some (.Subscript a ko pos')) pos.line X.env = pure false := by rfl) : SD X (.Assign [.Subscript a ko pos'] e pos) (ziH m i fk fe) := by
  obtain ⟨t, p, r⟩ := he
  obtain ⟨tk, pk, rk⟩ := hk
  refine ⟨_, ziJ (ziD hr) ho pk p hs, fun Fb Hb F H ρ σ E rl k => ?_⟩
  unfold ziH at k
  cases h : (vEv m fe ρ).bind fun d => (fk (visG ρ)).bind fun kd => zlN ρ i kd d with
  | none => rw [h] at k; exact k.elim
  | some ρ' =>
    rw [h] at k
    obtain ⟨d, e1, e2⟩ := Option.bind_eq_some_iff.mp h
    obtain ⟨kd, e3, e2⟩ := Option.bind_eq_some_iff.mp e2
    unfold zlN at e2
    split at e2
    · rename_i tt ks vs hs
      obtain ⟨kk, e4, e5⟩ := Option.bind_eq_some_iff.mp e2
      have hl : decide (ks.length < sizeLine) = true := by
        cases hh : decide (ks.length < sizeLine) with
        | true => rfl
        | false => rw [hh, if_neg Bool.false_ne_true] at e5; cases e5
      rw [if_pos hl] at e5
      cases e5
      refine r.at rl e1 fun F' H' v g av => ?_
      have rl2 := rl.grow g
      obtain ⟨q, o, f1, _⟩ := rl2.ows i _ hs rfl
      refine ⟨_, f1, ?_⟩
      refine rk σ _ _ H' _ _ rl2.gh rl2.visG e3 fun F3 H3 v3 g3 av3 => ?_
      obtain ⟨gb, _⟩ := rl2.back g3
      have rl3 := rl2.grow gb
      obtain ⟨q3, o3, f1', _, _, f4, xs, f5, f6⟩ := rl3.ows i _ hs rfl
      rw [f1] at f1'
      cases f1'
      obtain ⟨o', hp, hw⟩ := zif f4 f5 f6 e4 av3 g3.fh (av.mono gb.ff) (of_decide_eq_true hl)
      exact ⟨q, _, rfl, hp, k _ _ σ (rl3.mutW hs rfl f1 hw)⟩
    · cases e2
end
end
end Dl
namespace Dl
open PySem L2
variable [KK]
section
variable {X : Cx} {a b e : Expr} {pos pos' : Pos}
end
end Dl
namespace Dl
open PySem L2
variable [KK]
section
variable {X : Cx}
end
end Dl
namespace L2
open PySem PySem.Spec PyProof.Rows
section
variable {prog : Program} {w : World} {A : Around} {E : Value → Shared → Prop} {s : Shared} {d it : Addr} {o : Obj} {es : Array DictEntry} {ep i : Nat}
theorem zgH {Q : Value → Shared → Prop} (hs : (d == sysModules) = false) (ho : s.heap.get? d = some o) (hc : o.ExactDict) (hd : o.data = .dict es ep)
    (hQ : Q (.ref s.heap.objs.size) { s with heap := s.heap.push { cls := .type "dict_keyiterator", data := .fields #[.ref d, .int 0 0, .int es.size 0, .int ep 0] } }) : wpAny (model prog w) A (pyIter (.ref d)) Q E s := by
  have hT : s.TypeIs (.ref d) "dict" := ⟨o, ho, hc.1⟩
  refine wpAny_pyIter_slot hT PySem.F.slot_dict_iter (wpAny_call_entry PySem.F.slot_dict_iter hT PySem.F.entry_dict_iter ?_ (PySem.F.args_dict_iter_1 _))
  unfold Builtin.«dict.__iter__»
  refine wpAny_bind ?_
  unfold Builtin.Dict.dictSlotNone
  refine wpAny_bind (wpAny_notOrdered_dict hT ?_)
  show wpAny _ _ (pure (Value.ref d)) _ _ s
  refine wpAny_pure ?_
  show wpAny _ _ (Builtin.Dict.showsAll d >>= _) _ _ s
  unfold Builtin.Dict.showsAll
  rw [if_neg (by rw [hs]; exact Bool.false_ne_true)]
  refine wpAny_bind (wpAny_pure (wpAny_bind (wpAny_dictEntries ho hd (wpAny_bind (wpAny_dictEpoch ho hd ?_)))))
  refine wpAny_bind (wpAny_newObj_type (wpAny_pure ⟨_, rfl, "dict_keyiterator", _, ⟨_, Heap.get?_push_size _ rfl, rfl⟩, PySem.F.slot_dict_keyiterator_next.lookup, ?_⟩))
  simpa [rawInt] using hQ
theorem zhh {e : DictEntry} {Q : Option Value → Shared → Prop} (hit : s.heap.IsKeyIter it d i es.size ep) (ho : s.heap.get? d = some o) (hd : o.data = .dict es ep) (hx : es[i]? = some e)
    (hQ : ∀ h', h'.IsKeyIter it d (i + 1) es.size ep → Heap.SameBut it s.heap h' → Q (some e.key) { s with heap := h' }) : wpAny (model prog w) A (pyNext (.ref it)) Q E s := by
  obtain ⟨oi, hoi, hci, hdi⟩ := id hit
  unfold pyNext
  refine wpAny_bind (wpAny_attempt (wpAny_callSpecial?_slot (name := Str.ofString "__next__") hit.typeIs PySem.F.slot_dict_keyiterator_next
    (wpAny_call_entry PySem.F.slot_dict_keyiterator_next hit.typeIs PySem.F.entry_dict_keyiterator_next ?_ (PySem.F.args_dict_keyiterator_next_1 _))))
  refine wpAny_bind (wpAny_pure ?_)
  refine wpAny_bind ?_
  refine wpAny_bind ?_
  first | refine wpAny_bind (wpAny_typeNameOfWhole_keyiter hit.typeIs (wpAny_pure ?_)) | refine wpAny_bind (wpAny_typeNameOf_keyiter hit.typeIs (wpAny_pure ?_))
  refine wpAny_bind (wpAny_fieldsOf hoi hdi ?_)
  have hown : Builtin.Dict_items.ownsTuple "dict_keyiterator" = false := by decide
  simp only [hown, Bool.false_eq_true, if_false]
  show wpAny _ _ (if (Value.ref d == Value.none) = true then _ else _) _ _ s
  rw [if_neg (show ¬ ((Value.ref d == Value.none) = true) from Bool.false_ne_true)]
  refine wpAny_bind (wpAny_pure (wpAny_bind (wpAny_dictEntries ho hd ?_)))
  rw [if_neg (by simp)]
  refine wpAny_bind (wpAny_pure (wpAny_bind (wpAny_dictEpoch ho hd ?_)))
  rw [if_neg (by simp)]
  refine wpAny_pure ?_
  simp only [show ¬ ((i : Int) < 0) from by omega, if_false, Int.toNat_natCast, hx]
  refine wpAny_bind ?_
  first | refine wpAny_bind (wpAny_typeNameOfWhole_keyiter hit.typeIs (wpAny_pure ?_)) | refine wpAny_bind (wpAny_typeNameOf_keyiter hit.typeIs (wpAny_pure ?_))
  refine wpAny_bind (wpAny_isOneOf_keyiter hit.typeIs ?_)
  show wpAny _ _ (setField (.ref it) 1 (rawInt ((i : Int) + 1)) >>= _) _ _ s
  refine wpAny_bind (wpAny_setField hoi hdi (by simp) ?_)
  have hit' : (s.heap.update it (Obj.mapFields (·.setIfInBounds 1 (rawInt ((i : Int) + 1))))).IsKeyIter it d (i + 1) es.size ep :=
    ⟨_, Heap.get?_update_self _ hoi (Obj.isFreed_of_fields (Obj.data_mapFields hdi _)), (Obj.cls_mapFields ..).trans hci, by rw [Obj.data_mapFields hdi]; simp [rawInt]⟩
  refine wpAny_bind (wpAny_holding ?_)
  refine wpAny_bind (wpAny_isOneOf_keyiter (s := { s with heap := s.heap.update it (Obj.mapFields (·.setIfInBounds 1 (rawInt ((i : Int) + 1)))) }) hit'.typeIs ?_)
  show wpAny _ _ (pure e.key) _ _ _
  exact wpAny_pure (wpAny_pure ⟨_, rfl, wpAny_pure (hQ _ hit' (Heap.SameBut.update ..))⟩)
theorem zin {Q : Option Value → Shared → Prop} (hh : A.handled = none) (hit : s.heap.IsKeyIter it d i es.size ep) (ho : s.heap.get? d = some o) (hd : o.data = .dict es ep) (hx : es.size ≤ i)
    (hQ : ∀ h', Heap.ExtBut it s.heap h' → Q none { s with heap := h' }) : wpAny (model prog w) A (pyNext (.ref it)) Q E s := by
  obtain ⟨oi, hoi, hci, hdi⟩ := id hit
  unfold pyNext
  refine wpAny_bind (wpAny_attempt (wpAny_callSpecial?_slot (name := Str.ofString "__next__") hit.typeIs PySem.F.slot_dict_keyiterator_next
    (wpAny_call_entry PySem.F.slot_dict_keyiterator_next hit.typeIs PySem.F.entry_dict_keyiterator_next ?_ (PySem.F.args_dict_keyiterator_next_1 _))))
  refine wpAny_bind (wpAny_pure ?_)
  refine wpAny_bind ?_
  refine wpAny_bind ?_
  first | refine wpAny_bind (wpAny_typeNameOfWhole_keyiter hit.typeIs (wpAny_pure ?_)) | refine wpAny_bind (wpAny_typeNameOf_keyiter hit.typeIs (wpAny_pure ?_))
  refine wpAny_bind (wpAny_fieldsOf hoi hdi ?_)
  have hown : Builtin.Dict_items.ownsTuple "dict_keyiterator" = false := by decide
  simp only [hown, Bool.false_eq_true, if_false]
  show wpAny _ _ (if (Value.ref d == Value.none) = true then _ else _) _ _ s
  rw [if_neg (show ¬ ((Value.ref d == Value.none) = true) from Bool.false_ne_true)]
  refine wpAny_bind (wpAny_pure (wpAny_bind (wpAny_dictEntries ho hd ?_)))
  rw [if_neg (by simp)]
  refine wpAny_bind (wpAny_pure (wpAny_bind (wpAny_dictEpoch ho hd ?_)))
  rw [if_neg (by simp)]
  refine wpAny_pure ?_
  simp only [show ¬ ((i : Int) < 0) from by omega, if_false, Int.toNat_natCast, Array.getElem?_eq_none hx]
  refine wpAny_bind ?_
  first | refine wpAny_bind (wpAny_typeNameOfWhole_keyiter hit.typeIs (wpAny_pure ?_)) | refine wpAny_bind (wpAny_typeNameOf_keyiter hit.typeIs (wpAny_pure ?_))
  show wpAny _ _ (setField (.ref it) 0 .none >>= _) _ _ s
  refine wpAny_bind (wpAny_setField hoi hdi (by simp) ?_)
  show wpAny _ _ (newExc (.type "StopIteration") [] >>= _) _ _ _
  refine wpAny_bind ?_
  simp only [newExc, newTuple]
  refine wpAny_bind (wpAny_newObj_type ?_ (by size_fits))
  refine wpAny_bind (m := firstArgMember _ _) (wpAny_of_eq (a := Value.none) (by first | rfl | (simp only [firstArgMember]; rfl)) ?_)
  refine wpAny_newObj_type ?_ (by size_fits)
  simp only [raiseNew]
  refine wpAny_bind (wpAny_handled ?_)
  rw [show A.in1.handled = none from hh]
  refine wpAny_bind (wpAny_pure (wpAny_throw ?_))
  refine wpAny_bind (wpAny_isInstance (T := "StopIteration") (b := true) ⟨_, Heap.get?_push_size _ rfl, rfl⟩ isSubtype_stop ?_)
  exact wpAny_pure (hQ _ (((Heap.SameBut.update ..).extBut.push _).push _))
end
noncomputable def zkU : HO → Nat
  | .dK kvs => kvs.length
  | .dT kvs => kvs.length
  | _ => 0
noncomputable def za6 (u : HO) : Prop := (∃ kvs, u = .dK kvs) ∨ ∃ kvs, u = .dT kvs
noncomputable def zj2 (H : Hp) (u : HO) (i : Nat) (x : V) : Prop := match u with
  | .dK kvs => ∃ p, kvs[i]? = some p ∧ x = kV p.1
  | .dT kvs => ∃ p b, kvs[i]? = some p ∧ x = .ref b ∧ H b = some (.tup (p.1.map kV))
  | _ => False
theorem zjU {P : Program} {w : World} {k : Key} {v : Value} (h : (yC P w).is k v = true) : yO (kV k) v := by
  rcases zY h with ⟨i, t, rfl, rfl⟩ | ⟨x, t, rfl, rfl⟩
  · exact ⟨t, rfl⟩
  · exact ⟨t, rfl⟩
structure DObj (H : Hp) (a : Addr) (ob : Obj) (u : HO) (es : Array DictEntry) (ep : Nat) : Prop where
  sys : (a == sysModules) = false
  exact_ : ob.ExactDict
  data : ob.data = .dict es ep
  size : es.size = zkU u
theorem za1 {P : Program} {w : World} {H : Hp} {h : Heap} {a : Addr} {ob : Obj} {u : HO} (ok : yK P w H h a (.frz ob u)) (hu : za6 u) : h.get? a = some ob ∧ ∃ es ep, DObj H a ob u es ep ∧ ∀ (i : Nat) (e : DictEntry), es[i]? = some e → ∃ x, yO x e.key ∧ zj2 H u i x := by
  obtain ⟨e0, ok⟩ := ok
  rcases hu with ⟨kvs, rfl⟩ | ⟨kvs, rfl⟩
  · obtain ⟨_, sys, vs, kv, o, es, ep, e1, ex, dt, ko, pr, nd⟩ := ok
    rw [e0] at e1
    cases e1
    have hl : es.size = vs.length := by rw [← pr.length]; simp
    refine ⟨e0, es, ep, ⟨sys, ex, dt, by rw [hl, ← kv.length]; rfl⟩, fun i e he => ?_⟩
    have hi : i < kvs.length := by
      have := (Array.getElem?_eq_some_iff.mp he).1
      rw [kv.length]; omega
    have hv : i < vs.length := by rw [← kv.length]; exact hi
    have h1 := pr.get? (i := i) (e := e) (k := vs[i].1) (v := vs[i].2) (by simpa using he) (by simp [hv])
    have hk : kvs[i].1 = vs[i].1 := by
      have := congrArg (fun l => l[i]?) kv.keys
      simp only [List.getElem?_map] at this
      rw [List.getElem?_eq_getElem hi, List.getElem?_eq_getElem hv] at this
      exact Option.some.inj this
    exact ⟨kV kvs[i].1, by rw [hk]; exact zjU h1.1, kvs[i], List.getElem?_eq_getElem hi, rfl⟩
  · obtain ⟨_, sys, xs, pr, o, es, ep, e1, ex, dt, he, nd⟩ := ok
    rw [e0] at e1
    cases e1
    have hl : es.size = xs.length := by rw [← Array.length_toList, he, List.length_map]
    have hp := Paired.length pr
    refine ⟨e0, es, ep, ⟨sys, ex, dt, by rw [hl, ← hp]; rfl⟩, fun i e hei => ?_⟩
    have hx : i < xs.length := by
      have := (Array.getElem?_eq_some_iff.mp hei).1
      omega
    have hi : i < kvs.length := by omega
    have e2 : e = entryOfKey (tupleKind (yC P w)) xs[i] := by
      have : es.toList[i]? = some e := by simpa using hei
      rw [he, List.getElem?_map, List.getElem?_eq_getElem hx] at this
      exact (Option.some.inj this).symm
    have rel : ∀ {l : List (List Key × V)} {m : List (List Key × Addr × Value)}, Paired (fun p q => p.1 = q.1 ∧ H q.2.1 = some (.tup (p.1.map kV)) ∧ yO p.2 q.2.2) l m → ∀ (j : Nat) (h1 : j < l.length) (h2 : j < m.length), l[j].1 = m[j].1 ∧ H m[j].2.1 = some (.tup (l[j].1.map kV)) := fun {l m} r => by
      induction r with
      | nil => intro j h1; simp at h1
      | cons h t ih =>
        intro j h1 h2
        cases j with
        | zero => exact ⟨h.1, h.2.1⟩
        | succ j => exact ih j (by simpa using h1) (by simpa using h2)
    obtain ⟨_, r2⟩ := rel pr i hi hx
    subst e2
    exact ⟨.ref xs[i].2.1, rfl, kvs[i], xs[i].2.1, List.getElem?_eq_getElem hi, rfl, r2⟩
noncomputable def Itf (a : Addr) (ob : Obj) (u : HO) : It :=
  ⟨fun i H => H a = some (.frz ob u) ∧ i < zkU u, fun i H x H' => H' = H ∧ zj2 H u i x, fun i H => H a = some (.frz ob u) ∧ zkU u ≤ i⟩
theorem ze4 {P : Program} {w : World} {K : PySem.W.Frag} {tg : Expr} {a it : Addr} {ob : Obj} {u : HO} {es : Array DictEntry} {ep : Nat} (hu : za6 u) (hn : es.size = zkU u) (hd : ob.data = .dict es ep) : zhm P w K tg (Itf a ob u) [it] it (fun i h => h.IsKeyIter it a i es.size ep) where
  mem := by simp
  obj := fun i h st b hb => by
    have e : b = it := by simpa using hb
    subst e
    obtain ⟨o, e, c, d⟩ := st
    exact ⟨o, e, fun v z => by rw [d] at z; cases z⟩
  keep := fun i h h' st k => by
    obtain ⟨o, e, r⟩ := st
    exact ⟨o, k it (by simp) o e, r⟩
  item := by
    intro X hP hw hK hc i pins s σ H E I hf st hg
    subst hP hw hK
    obtain ⟨e1, hi⟩ := hg
    obtain ⟨e0, es', ep', D, ky⟩ := za1 (I.hok a _ e1) hu
    have e2 := D.data
    rw [hd] at e2
    cases e2
    obtain ⟨f0, f1, f2, f3, f4, f5⟩ := hf it (by simp)
    have hlt : i < es.size := by omega
    obtain ⟨x, rx, kx⟩ := ky i es[i] (Array.getElem?_eq_getElem hlt)
    refine zhh st e0 hd (Array.getElem?_eq_getElem hlt) fun h' st' sb => ?_
    have I1 : Inv X pins σ H { s with heap := h' } := I.turned (t' := s.toks) (fun b o hb e => (sb.2 b hb).trans e) f0 f1 f3 f4 f5
    obtain ⟨o, e, c, d⟩ := id st'
    exact ⟨_, rfl, zhe (s := { s with heap := h' }) e c d (by decide) ⟨x, H, I1, rx, ⟨rfl, kx⟩, st', fun b hb => (hf b hb).1⟩⟩
  done := by
    intro X hP hw hK hc i pins s σ H E I hf st hg
    subst hP hw hK
    obtain ⟨e1, hi⟩ := hg
    obtain ⟨e0, es', ep', D, ky⟩ := za1 (I.hok a _ e1) hu
    obtain ⟨f0, f1, f2, f3, f4, f5⟩ := hf it (by simp)
    exact zin (I.ok.hd hc) st e0 hd (by omega) fun h' eb => ⟨rfl, I.turned (t' := s.toks) (fun b o hb e => eb b o hb e) f0 f1 f3 f4 f5⟩
  self := fun _ _ _ _ _ st h => wpAny_pyIter_keyiter st h
section
variable {X : Cx} {tg : Expr}
noncomputable def zl7 (tl : TE) : TI := fun σ H R => tl σ H fun x H1 => ∃ a ob u, x = .ref a ∧ H1 a = some (.frz ob u) ∧ za6 u ∧ R (Itf a ob u) H1
theorem ziN {l : Expr} {tl : TE} (hl : PE X l tl) : PI X tg l (zl7 tl) := by
  intro pins s σ H R I h
  refine thn (hl pins s σ H _ I h) fun v s1 hh9 => ?_
  obtain ⟨x, H1, I1, r1, q1⟩ := hh9
  obtain ⟨a, ob, u, e, e1, hu, q⟩ := q1
  subst e
  cases r1
  obtain ⟨e0, es, ep, D, _⟩ := za1 (I1.hok a _ e1) hu
  refine zgH D.sys e0 D.exact_ D.data ?_
  refine ⟨s1.heap.objs.size, [s1.heap.objs.size], _, _, H1, rfl, I1.kept (t' := s1.toks) fun b o e => Heap.get?_push_of_some _ e, ze4 hu D.size D.data, ⟨_, Heap.get?_push_size _ rfl, rfl, rfl⟩, fun b hb => ?_, q⟩
  have e : b = s1.heap.objs.size := by simpa using hb
  subst e
  exact I1.fpOk (Nat.le_refl _) (I1.hok.fresh (Nat.le_refl _))
theorem Inv.frz {pins : List (Addr × Obj)} {σ : St} {H : Hp} {s : Shared} {p : Addr} {u : HO} (I : Inv X pins σ H s) (e : H p = some u) (hu : za6 u) : ∃ ob, Inv X pins σ (upd H p (.frz ob u)) s := by
  have ok := I.hok p u e
  have mu : Mut (H p) := by
    rw [e]
    rcases hu with ⟨kvs, rfl⟩ | ⟨kvs, rfl⟩ <;> exact True.intro
  rcases hu with ⟨kvs, rfl⟩ | ⟨kvs, rfl⟩
  · obtain ⟨z, sys, vs, kv, o, es, ep, e1, r⟩ := ok
    refine ⟨o, I.write (h' := s.heap) (t' := s.toks) mu (.inl rfl) (fun b u _ e => e) ⟨o, e1⟩ ⟨e1, z, sys, vs, kv, o, es, ep, e1, r⟩⟩
  · obtain ⟨z, sys, xs, pr, o, es, ep, e1, r⟩ := ok
    refine ⟨o, I.write (h' := s.heap) (t' := s.toks) mu (.inl rfl) (fun b u _ e => e) ⟨o, e1⟩ ⟨e1, z, sys, xs, ?_, o, es, ep, e1, r⟩⟩
    exact KT.keeps pr fun b ys eb => by
      rw [zp (ze8 eb e (fun z => nomatch z))]
      exact eb
noncomputable def tFrz (i : Nat) (t : TS) : TS := fun E σ H => ∃ p u, σ[i]? = some (some (.ref p)) ∧ H p = some u ∧ za6 u ∧ ∀ ob, t E σ (upd H p (.frz ob u))
theorem zh6 {sts : List Stmt} {t : TS} (i : Nat) (h : PSs X sts t) : PSs X sts (tFrz i t) := by
  intro pins s σ H E I q
  obtain ⟨p, u, _, e, hu, q⟩ := q
  obtain ⟨ob, I2⟩ := I.frz e hu
  exact h pins s σ _ E I2 (q ob)
noncomputable def zhu (z : Bool) (tk tv : TE) : TE := fun σ H Q => ∀ p, H p = none → tk σ (upd H p (.dT [])) fun x H1 => tv σ H1 fun y H2 => H2 p = some (.dT []) ∧ ∃ b k, x = .ref b ∧ H2 b = some (.tup (k.map kV)) ∧
  if z = true then ∀ ob, Q (.ref p) (upd H2 p (.frz ob (.dT [(k, y)]))) else Q (.ref p) (upd H2 p (.dT [(k, y)]))
theorem zf2 {z : Bool} {k v : Expr} {pos : Pos} {tk tv : TE} (hu : X.A.units + 1 < cLine) (hk : PE X k tk) (hv : PE X v tv) : PE X (.Dict [some k] [v] pos) (zhu z tk tv) := by
  intro pins s σ H Q I q
  have hn := I.hok.fresh (Nat.le_refl s.heap.objs.size)
  have I1 := I.laid (a := s.heap.objs.size) (o := .dT []) (h' := s.heap.push { cls := .type "dict", data := .dict #[] }) (t' := s.toks) (fun _ _ q => Heap.get?_push_of_some _ q) (Nat.le_refl _) (zdp s.heap I.big)
  refine wpAny_Dict_any (by rfl) rfl (by simp) (by simp) ?_
  refine pairTrees_cons_walk (thn (hk pins _ σ _ _ I1 (q _ hn)) fun u s1 ⟨x, H1, I1, rx, q1⟩ => thn (hv pins s1 σ H1 _ I1 q1) fun w2 s2 hh9 => ?_)
  obtain ⟨y, H2, I2, ry, q2⟩ := hh9
  obtain ⟨e, b, kk, ex, eb, q2⟩ := q2
  subst ex
  obtain rfl : u = Value.ref b := rx
  refine pairTrees_nil_walk ?_
  unfold storeAll
  simp only [List.forIn_cons, List.forIn_nil]
  obtain ⟨zz, hd, xs, rel, dd⟩ := zkX I2.hok e
  cases rel
  refine wpAny_bind (wpAny_bind (wpAny_dictSet_heap (hsz := Nat.zero_le _) (show (tupleKind (yC X.prog X.w)).room X.A from Nat.lt_of_succ_lt hu) (zdF I2.hok eb) dd fun h' dd' hs => wpAny_pure (wpAny_pure ?_)))
  have dd2 := dd'
  obtain ⟨q, es, ep, hq, h2, h3, h4, _, h5⟩ := dd'
  have I3 := zbo (t' := s2.toks + (tupleKind (yC X.prog X.w)).draws kk) (ob := .dT [(kk, y)]) I2 (by rw [e]; exact True.intro) hs ⟨q, hq⟩ ⟨by show 1 ≤ sizeLine; decide, hd, _, ((show KT H2 [] [] from .nil).put kk eb ry).keeps fun c ys ec => by
    rw [zp (ze8 ec e (fun z => nomatch z))]
    exact ec, q, es, ep, hq, h2, h3, h4, h5⟩
  cases z with
  | false => exact ⟨.ref s.heap.objs.size, _, I3, rfl, by rw [if_neg Bool.false_ne_true] at q2; exact q2⟩
  | true =>
    rw [if_pos rfl] at q2
    obtain ⟨ob, I4⟩ := I3.frz (p := s.heap.objs.size) (u := .dT [(kk, y)]) zo (.inr ⟨_, rfl⟩)
    rw [zcb] at I4
    exact ⟨.ref s.heap.objs.size, _, I4, rfl, q2 ob⟩
end
end L2
namespace Dl
open PySem L2
noncomputable def k1D : Key → D
  | .inl i => .int i
  | .inr x => .str x
noncomputable def zhn (t : Bool) (k : List Key) : D := if t = true then .tup (k.map k1D) else match k with
  | [a] => k1D a
  | _ => .non
noncomputable def zhp : D → Option (List D)
  | .dct true t ks _ => some (ks.map (zhn t))
  | _ => none
section
variable [KK]
theorem zhN {F : Hp} (k : Key) : At F (k1D k) (kV k) := by
  cases k with
  | inl i => exact .int
  | inr x => exact .str
theorem zfm {F : Hp} : ∀ ks : List Key, AtL F (ks.map k1D) (ks.map kV)
  | [] => .nil
  | k :: ks => .cons (zhN k) (zfm ks)
theorem zby {u : HO} {t : Bool} {ks : List (List Key)} {xs : List V} (h : V4 u t ks xs) : za6 u ∧ zkU u = ks.length := by
  unfold V4 at h
  cases t with
  | true => rw [if_pos rfl] at h; obtain ⟨kvs, rfl, rfl, _⟩ := h; exact ⟨.inr ⟨_, rfl⟩, by rw [List.length_map]; rfl⟩
  | false => rw [if_neg Bool.false_ne_true] at h; obtain ⟨kvs, rfl, rfl, _⟩ := h; exact ⟨.inl ⟨_, rfl⟩, by rw [List.length_map]; rfl⟩
theorem Gr.see {F H : Hp} {b : Addr} {ys : List V} (s : yl F H) (h : H b = some (.tup ys)) : ∃ F', Gr F H F' H ∧ F' b = some (.tup ys) := by
  cases e : F b with
  | some o =>
    have := s _ _ e
    rw [h] at this
    cases this
    exact ⟨F, .refl s, e⟩
  | none =>
    refine ⟨upd F b (.tup ys), ⟨fun p o z => ?_, fun p o z => ?_, fun p o z1 z2 => ⟨?_, z2⟩⟩, zo⟩
    · rw [zp (zj z e)]; exact z
    · by_cases hp : p = b
      · subst hp; rw [zo] at z; cases z; exact h
      · rw [zp hp] at z; exact s p o z
    · by_cases hp : p = b
      · subst hp
        rw [h] at z2
        cases z2
        exact .inr ⟨⟨_, rfl⟩, zo⟩
      · exact .inl (by rw [zp hp]; exact z1)
theorem zj5 {F : Hp} {a : Addr} {ob : Obj} {u : HO} {t : Bool} {ks : List (List Key)} {xs : List V} (h : F a = some (.frz ob u)) (hd : V4 u t ks xs) : zjd (Itf a ob u) F (ks.map (zhn t)) := by
  intro i F2 H2 s1 s2
  have e2 := s2 _ _ (s1 _ _ h)
  obtain ⟨_, hl⟩ := zby hd
  refine ⟨fun hi => ⟨e2, by rw [hl, hi, List.length_map]; exact Nat.le_refl _⟩, fun d hdi => ?_⟩
  rw [List.getElem?_map] at hdi
  obtain ⟨k, hk, rfl⟩ := Option.map_eq_some_iff.mp hdi
  refine ⟨⟨e2, by rw [hl]; exact (List.getElem?_eq_some_iff.mp hk).1⟩, fun x H3 hy => ?_⟩
  obtain ⟨rfl, hy⟩ := hy
  unfold V4 at hd
  cases t with
  | true =>
    rw [if_pos rfl] at hd
    obtain ⟨kvs, rfl, rfl, _⟩ := hd
    obtain ⟨p, b, hp, rfl, hb⟩ := hy
    rw [List.getElem?_map, hp] at hk
    cases hk
    obtain ⟨F3, g, hF⟩ := Gr.see s2 hb
    exact ⟨F3, g, .tup hF (zfm _)⟩
  | false =>
    rw [if_neg Bool.false_ne_true] at hd
    obtain ⟨kvs, rfl, rfl, _⟩ := hd
    obtain ⟨p, hp, rfl⟩ := hy
    rw [List.getElem?_map, hp] at hk
    cases hk
    exact ⟨F2, .refl s2, zhN _⟩
section
variable {X : Cx} {tg a b e k v : Expr} {pos pos' : Pos} {sts : List Stmt}
noncomputable def iDct (f : Ev → Option D) : Ev → Option (List D) := fun ρ => (f ρ).bind zhp
theorem zhZ {f : Ev → Option D} (ha : ED X a f) : ID X tg a (iDct f) := by
  obtain ⟨t, p, r⟩ := ha
  refine ⟨_, ziN p, fun σ ρ F H ds R s va e q => ?_⟩
  obtain ⟨d, e1, e2⟩ := Option.bind_eq_some_iff.mp e
  refine r σ ρ F H d _ s va e1 fun F1 H1 v g1 a1 => ?_
  unfold zhp at e2
  split at e2
  · cases e2
    obtain ⟨p, xs, rfl, ⟨u, hd, hz⟩, _⟩ := a1.dct_inv
    rw [if_pos rfl] at hz
    obtain ⟨ob, hz⟩ := hz
    exact ⟨p, ob, u, rfl, g1.fh _ _ hz, (zby hd).1, q F1 H1 _ g1 (zj5 hz hd)⟩
  · cases e2
noncomputable def zlR (i : Nat) (g : SE → Ctl) : SE → Ctl := fun ρ => match ρ[i]? with
  | some (.m t ks vs) => g (ρ.set i (.v (.dct true t ks vs)))
  | _ => .no
theorem Rl.fzM {Fb Hb F H : Hp} {ρ : SE} {σ : St} {i : Nat} {t : Bool} {ks : List (List Key)} {vs : List D} (r : Rl Fb Hb F H ρ σ) (h : ρ[i]? = some (.m t ks vs)) :
    ∃ p u, σ[i]? = some (some (.ref p)) ∧ H p = some u ∧ za6 u ∧ ∀ ob, Rl Fb Hb (upd F p (.frz ob u)) (upd H p (.frz ob u)) (ρ.set i (.v (.dct true t ks vs))) σ := by
  obtain ⟨p, u, e1, e2, e3, e4, xs, hd, al⟩ := r.ows i _ h rfl
  refine ⟨p, u, e1, e4, (zby hd).1, fun ob => ?_⟩
  have hi : i < ρ.length := (List.getElem?_eq_some_iff.mp h).1
  have sF : yl F (upd F p (.frz ob u)) := fun b o e => by rw [zp (zj e e3)]; exact e
  have nj : ∀ {j : Nat} {s : Sl}, (ρ.set i (.v (.dct true t ks vs)))[j]? = some s → s.isO = true → i ≠ j := fun {j s} h ht e => by
    subst e
    rw [List.getElem?_set_self hi] at h
    cases h
    cases ht
  refine ⟨⟨r.gr.ff.trans sF, fun b o z => ?_, fun b o z1 z2 => ?_⟩, fun j d z => ?_, fun j s z ht => ?_, fun j k q s s' h1 h2 o1 o2 h3 h4 => ?_, by simp [r.len]⟩
  · by_cases hb : b = p
    · subst hb; rw [zo] at z ⊢; exact z
    · rw [zp hb] at z ⊢; exact r.gr.fh b o z
  · have hb : b ≠ p := zj z2 e2
    obtain ⟨x, y⟩ := r.gr.kp b o z1 z2
    refine ⟨?_, by rw [zp hb]; exact y⟩
    unfold Hid
    rw [zp hb]
    exact x
  · by_cases hj : i = j
    · subst hj
      rw [List.getElem?_set_self hi] at z
      cases z
      refine ⟨_, e1, ?_⟩
      unfold At
      exact ⟨p, xs, rfl, ⟨u, hd, by rw [if_pos rfl]; exact ⟨ob, zo⟩⟩, al.mono sF⟩
    · rw [List.getElem?_set_ne hj] at z
      obtain ⟨v, f1, f2⟩ := r.vals j d z
      exact ⟨v, f1, f2.mono sF⟩
  · have hj := nj z ht
    rw [List.getElem?_set_ne hj] at z
    obtain ⟨q, y, f1, f2, f3, f4, f5⟩ := r.ows j s z ht
    have hq : q ≠ p := fun w => hj (r.dis i j p _ s h z rfl ht e1 (by rw [← w]; exact f1))
    exact ⟨q, y, f1, f2, by rw [zp hq]; exact f3, by rw [zp hq]; exact f4, f5.mono sF⟩
  · have a1 := nj h1 o1
    have a2 := nj h2 o2
    rw [List.getElem?_set_ne a1] at h1
    rw [List.getElem?_set_ne a2] at h2
    exact r.dis j k q s s' h1 h2 o1 o2 h3 h4
theorem zh2 {g : SE → Ctl} (i : Nat) (h : SDs X sts g) : SDs X sts (zlR i g) := by
  obtain ⟨t, p, r⟩ := h
  refine ⟨_, zh6 i p, fun Fb Hb F H ρ σ E rl k => ?_⟩
  unfold zlR at k
  split at k
  · rename_i tt ks vs hs
    obtain ⟨q, u, e1, e2, e3, e4⟩ := rl.fzM hs
    exact ⟨q, u, e1, e2, e3, fun ob => r Fb Hb _ _ _ σ E (e4 ob) k⟩
  · exact k.elim
noncomputable def zhL (fk fv : Ev → Option D) : Ev → Option D := fun ρ => (fk ρ).bind fun kd => (fv ρ).bind fun d => (zla kd).map fun k => .dct true true [k] [d]
theorem zfD {z : Bool} {tk tv : TE} {fk fv : Ev → Option D} {σ : St} {ρ : Ev} {F H : Hp} {kd d : D} {kk : List Key} {Q : VK} (rk : RE tk fk) (rv : RE tv fv) (s : yl F H) (va : VAt F ρ σ) (e1 : fk ρ = some kd) (e2 : fv ρ = some d) (e3 : zla kd = some kk)
    (q : ∀ F2 H2 p y, Gr F H F2 H2 → H p = none → F2 p = none → H2 p = some (.dT []) → At F2 d y → if z = true then ∀ ob, Q (.ref p) (upd H2 p (.frz ob (.dT [(kk, y)]))) else Q (.ref p) (upd H2 p (.dT [(kk, y)]))) : zhu z tk tv σ H Q := by
  intro p hp
  have g0 := Gr.hide s hp (.dT [])
  refine rk σ ρ F _ kd _ g0.fh va e1 fun F1 H1 x g1 a1 => ?_
  refine rv σ ρ F1 H1 d _ g1.fh (va.mono g1.ff) e2 fun F2 H2 y g2 a2 => ?_
  have g12 := g1.trans g2
  obtain ⟨n2, h2⟩ := g12.kl (o := .dT []) (fun _ e => by cases e) (s.free hp) zo
  obtain ⟨b, rfl, hb⟩ := za8 e3 a1
  exact ⟨h2, b, kk, rfl, g2.fh _ _ (g2.ff _ _ hb), q F2 H2 p y (g0.trans g12) hp n2 h2 a2⟩
theorem zgI {n : Nat} {fk fv : Ev → Option D} (hr : vW n X.A) (hk : ED X k fk) (hv : ED X v fv) : ED X (.Dict [some k] [v] pos) (zhL fk fv) := by
  obtain ⟨tk, pk, rk⟩ := hk
  obtain ⟨tv, pv, rv⟩ := hv
  refine ⟨_, zf2 (z := true) (ziD hr) pk pv, fun σ ρ F H z Q s va e q => ?_⟩
  obtain ⟨kd, e1, e⟩ := Option.bind_eq_some_iff.mp e
  obtain ⟨d, e2, e⟩ := Option.bind_eq_some_iff.mp e
  obtain ⟨kk, e3, rfl⟩ := Option.map_eq_some_iff.mp e
  refine zfD rk rv s va e1 e2 e3 fun F2 H2 p y g hp n2 h2 ay => ?_
  rw [if_pos rfl]
  intro ob
  have sF : yl F2 (upd F2 p (.frz ob (.dT [(kk, y)]))) := fun b o e => by rw [zp (zj e n2)]; exact e
  refine q (upd F2 p (.frz ob (.dT [(kk, y)]))) _ _ ⟨g.ff.trans sF, fun b o z => ?_, fun b o z1 z2 => ?_⟩ ?_
  · by_cases hb : b = p
    · subst hb; rw [zo] at z ⊢; exact z
    · rw [zp hb] at z ⊢; exact g.fh b o z
  · have hb : b ≠ p := zj z2 hp
    obtain ⟨x, y⟩ := g.kp b o z1 z2
    refine ⟨?_, by rw [zp hb]; exact y⟩
    unfold Hid
    rw [zp hb]
    exact x
  · unfold At
    refine ⟨p, [y], rfl, ⟨.dT [(kk, y)], ?_, by rw [if_pos rfl]; exact ⟨ob, zo⟩⟩, .cons (ay.mono sF) .nil⟩
    unfold V4
    rw [if_pos rfl]
    exact ⟨_, rfl, rfl, rfl⟩
end
end
end Dl
namespace OwnRep
open PySem Builtin
end OwnRep
namespace L2
open PySem
section
variable {X : Cx}
end
end L2
namespace Dl
open PySem L2
section
variable [KK]
section
variable {X : Cx} {a b : Expr} {pos : Pos}
end
end
end Dl
namespace L2
open PySem PySem.Spec PyProof.Rows
end L2
namespace Dl
open PySem L2
variable [KK]
end Dl
namespace PySem
open Sem (wp)
namespace OwnRev
end OwnRev
section
variable {prog : Program} {w : World} {A : Around} {E : Value → Shared → Prop} {s : Shared}
end
end PySem
namespace L2
open PySem PySem.Spec PyProof.Rows
end L2
namespace Dl
open PySem L2 PySem.Spec PyProof.Rows
variable [KK] {X : Cx} {e : Expr}
end Dl
namespace OwnSet
open PySem
end OwnSet
namespace OwnSet
open PySem
section
variable {prog : Program} {w : World} {A : Around} {E : Value → Shared → Prop} {s : Shared}
end
end OwnSet
namespace OwnSet
open PySem
section
variable {prog : Program} {w : World} {A : Around} {E : Value → Shared → Prop} {s : Shared}
end
section
variable {prog : Program} {w : World} {A : Around} {R : Result → Shared → Prop} {I : Addr} {fp wr : List Addr} {G : Array GenState → Array GenState → Prop} {n : Nat} {P : Nat → Value → Prop} {St : Nat → Shared → Prop}
end
section
variable {prog : Program} {w : World} {A : Around} {E : Value → Shared → Prop} {s : Shared}
end
end OwnSet
namespace OwnSet
open PySem
section
variable {prog : Program} {w : World} {A : Around} {E : Value → Shared → Prop} {s : Shared}
end
end OwnSet
namespace OwnSet
open PySem
section
variable {prog : Program} {w : World} {A : Around} {E : Value → Shared → Prop} {s : Shared}
end
end OwnSet
namespace OwnSet
open PySem
section
variable {prog : Program} {w : World} {A : Around} {E : Value → Shared → Prop} {s : Shared}
end
end OwnSet
namespace OwnSet
open PySem
section
variable {prog : Program} {w : World} {A : Around} {E : Value → Shared → Prop} {s : Shared}
end
end OwnSet
namespace OwnSet
open PySem
section
variable {prog : Program} {w : World} {A : Around} {E : Value → Shared → Prop} {s : Shared}
end
end OwnSet
namespace OwnSet
open PySem PyProof.Rows
section
variable {prog : Program} {w : World} {A : Around} {E : Value → Shared → Prop} {s : Shared}
end
end OwnSet
namespace L2
open PySem PySem.Spec PyProof.Rows
end L2
namespace Dl
open PySem L2 PySem.Spec PyProof.Rows
variable [KK] {X : Cx} {e : Expr}
end Dl
namespace Dl
open PySem L2 PySem.Spec PyProof.Rows
variable [KK] {X : Cx} {a b : Expr} {pos apos : Pos}
end Dl
namespace L2
open PySem PySem.Spec PyProof.Rows
section
variable {X : Cx} {a : Addr} {D : List (Str × KTD.Dat)} {nm : Str} {b : Expr} {p pos : Pos} {tb : TE}
end
end L2
namespace Dl
open PySem L2 PySem.Spec PyProof.Rows
variable [KK] {X : Cx} {a : Addr} {T : List (Str × KTD.Dat)} {nm : Str} {b : Expr} {p p2 p3 pos : Pos} {f : Ev → Option D}
end Dl
namespace L2
open PySem PySem.Spec PyProof.Rows
end L2
namespace Dl
open PySem L2 PySem.Spec PyProof.Rows
variable [KK] {X : Cx} {e : Expr}
end Dl
namespace L2
open PySem PySem.Spec PyProof.Rows
end L2
namespace Dl
open PySem L2 PySem.Spec PyProof.Rows
variable [KK] {X : Cx} {a e ko : Expr} {pos tpos : Pos}
end Dl
namespace PySem
open Sem (wp)
section
variable {prog : Program} {w : World} {A : Around} {E : Value → Shared → Prop} {s : Shared} {z TI TO i1 i2 i3 : Addr} {fp1 fp2 fp3 : List Addr} {n1 n2 n3 k1 k2 k3 : Nat} {P1 P2 P3 : Nat → Value → Prop} {St1 St2 St3 : Nat → Heap → Prop} {a b c : Value}
end
section
variable {prog : Program} {w : World} {A : Around} {E : Value → Shared → Prop} {s : Shared}
variable {z TI TO i1 i2 i3 : Addr} {fp1 fp2 fp3 : List Addr} {n1 n2 n3 k1 k2 k3 : Nat} {P1 P2 P3 : Nat → Value → Prop} {St1 St2 St3 : Nat → Heap → Prop} {a b c : Value}
end
end PySem
namespace L2
open PySem PySem.Spec PyProof.Rows
end L2
namespace Dl
open PySem L2 PySem.Spec PyProof.Rows
variable [KK] {X : Cx} {a b c : Expr} {pos : Pos}
end Dl
namespace Dl
open PySem L2
variable [KK]
section
variable {X : Cx} {st : Stmt} {sts : List Stmt} {a b c e tg : Expr} {pos pos' : Pos}
omit [KK] in
theorem zis {f : Ev → Option D} (ρ : SE) (d : D) : Yv f ρ ≠ .rt d := by
  unfold Yv
  cases f (visG ρ) <;> (intro h; cases h)
omit [KK] in
theorem zeS {m : Bool} {i : Nat} {f : Ev → Option D} (ρ : SE) (d : D) : xY m i f ρ ≠ .rt d := by
  unfold xY
  cases vEv m f ρ <;> (intro h; cases h)
end
end Dl
namespace L2
open PySem PySem.Spec PyProof.Rows
end L2
namespace L2
open PySem PySem.Spec PyProof.Rows
open Sem (wp)
section
variable {prog : Program} {w : World} {A : Around} {E : Value → Shared → Prop} {h : Heap} {g : Array GenState} {d : Drawn} {t : Nat} {os : OsState}
  {nm q : Str} {C N fI : Addr} {bs bm : List Value} {hdct : Bool} {sn : List Str} {sub : List Value} {ab : Bool} {col : Option Bool} {dd : Option Addr} {k0 k1 k2 k3 k5 : Option Value} {mN : Str → Option Value} {us : List Value} {oI : Obj}
end
end L2
namespace L2
open PySem PySem.Spec PyProof.Rows
section
variable {prog : Program} {w : World} {A : Around} {E : Value → Shared → Prop} {s : Shared} {env : Env}
  {nm q : Str} {C N fI : Addr} {bs bm : List Value} {hdct : Bool} {sn : List Str} {sub : List Value} {ab : Bool} {col : Option Bool} {dd : Option Addr} {k0 k1 k2 k3 k5 : Option Value} {mN : Str → Option Value} {oI : Obj}
end
end L2
namespace L2
open PySem PySem.Spec PyProof.Rows PySem.Builtin PySem.Builtin.ObjectAttr
section
variable {prog : Program} {w : World} {A : Around} {E : Value → Shared → Prop} {s : Shared} {K : PySem.W.Frag} {x C : Addr} {ox : Obj} {od : Option Obj} {name : Str} {v : Value}
end
end L2
namespace L2
open PySem PySem.Spec PyProof.Rows
section
variable {P : Program} {w : World} {H H' : Hp} {h h' : Heap} {a : Addr} {o : HO}
end
section
variable {X : Cx} {pins : List (Addr × Obj)} {σ : St} {H H' : Hp} {s s' : Shared} {E : XK} {e : Value} {M : Model} {E2 : Value → Shared → Prop}
end
end L2
namespace L2
open PySem PySem.Spec PyProof.Rows
end L2
namespace Dl
open PySem L2
variable [KK]
section
variable (E : XK) (cl : Nat → Addr)
end
section
variable {E : XK} {cl : Nat → Addr} {X : Cx} {a b c e : Expr} {es : List Expr} {st : Stmt} {sts : List Stmt} {pos pos' : Pos}
end
end Dl
namespace L2
open PySem PySem.Spec PyProof.Rows
section
variable {X : Cx} {pins : List (Addr × Obj)} {σ : St} {H H' : Hp} {s s' : Shared} {E : XK} {e : Value} {E2 : Value → Shared → Prop} {B h3 : Heap}
end
end L2
namespace L2
open PySem PySem.Spec PyProof.Rows
section
variable {X : Cx} {pins : List (Addr × Obj)} {σ : St} {H H' : Hp} {s s' : Shared} {E : Value → Shared → Prop} {e : Value} {M : Model} {A : Around}
end
end L2
namespace L2
open PySem PySem.Spec PyProof.Rows
section
variable {X : Cx} {pins ps : List (Addr × Obj)} {σ : St} {H H' : Hp} {s s' : Shared}
end
end L2
namespace L2
open PySem PySem.Spec PyProof.Rows PySem.W PySem.Calls PySem.Builtin PySem.Builtin.Getset_descriptor
section
variable {prog : Program} {w : World} {A : Around} {E : Value → Shared → Prop} {K : PySem.W.Frag} {h : Heap} {g : Array GenState} {d : Drawn} {t : Nat} {os : OsState} {a C : Addr} {o : Obj}
end
end L2
namespace L2
open PySem PySem.Spec PyProof.Rows
section
variable {P : Program} {w : World} {K : PySem.W.Frag} {mg : Str → Option Value} {base : Heap}
end
end L2
namespace L2
open PySem PySem.Spec PyProof.Rows PySem.SeqAt
end L2
namespace L2
open PySem PySem.Spec PyProof.Rows
end L2
namespace Dl
open PySem L2
variable [KK]
section
variable {E : XK} {cl : Nat → Addr} {X : Cx} {e : Expr} {es : List Expr}
end
end Dl
namespace L2
open PySem PySem.Spec PyProof.Rows
section
variable {K : PySem.W.Frag} {σ : St} {H H0 : Hp} {a C : Addr} {od : Option Addr}
end
end L2
namespace Dl
open PySem L2
variable [KK]
section
variable {cl : Nat → Addr} {i : Nat}
end
end Dl
namespace L2
open PySem PySem.Spec PyProof.Rows
section
variable {X : Cx} {pins : List (Addr × Obj)} {σ : St} {H : Hp} {s : Shared} {h' : Heap} {a C t dx : Addr} {f : Str}
end
section
variable {X : Cx} {o e value : Expr} {f : Str} {pos pos' : Pos} {ta tv : TE}
end
end L2
namespace L2
open PySem PySem.Spec PyProof.Rows
section
variable {X : Cx} {pins : List (Addr × Obj)} {σ : St} {H : Hp} {s : Shared} {ea dx : Addr} {φ : Heap → Prop}
end
end L2
namespace Dl
open PySem L2
variable [KK]
end Dl
namespace L2
open PySem PySem.Spec PyProof.Rows
end L2
namespace Dl
open PySem L2
end Dl
namespace Dl
open PySem L2
end Dl
namespace OwnSort
open PySem PyProof.Rows
section
variable {prog : Program} {w : World} {A : Around} {E : Value → Shared → Prop} {s : Shared}
end
end OwnSort
namespace Dl
open PySem L2
variable [KK]
section
variable {X : Cx} {e : Expr} {pos : Pos}
end
end Dl
namespace Dl
open PySem L2
variable [KK]
section
variable {E : XK} {cl : Nat → Addr} {X : Cx} {a b : Expr} {pos : Pos}
end
end Dl
namespace L2
open PySem PySem.Spec PyProof.Rows
section
variable {prog : Program} {w : World} {A : Around} {E : Value → Shared → Prop} {s : Shared}
end
section
variable {X : Cx} {e st : Expr} {te : TE} {t3 : TO} {pos p2 : Pos}
end
end L2
namespace Dl
open PySem L2
variable [KK]
end Dl
namespace L2
open PySem PySem.Spec PyProof.Rows
end L2
namespace Dl
open PySem L2
end Dl
namespace PySem
section
variable {prog : Program} {w : World} {A : Around} {R : Result → Shared → Prop} {it S : Addr} {fp wr : List Addr} {n : Nat} {P : Nat → Value → Prop} {St : Nat → Heap → Prop} {kw : List (Str × Value)}
theorem wH : (toString "max" ++ toString ".loop" : String) = "max.loop" := by decide
theorem ZR {s : Shared} (k : wpAny (model prog w) A.in1 (Builtin.«max.loop» ⟨[.ref it, .none, .ref S], kw⟩) (fun fin s' => match fin with | .done f => R (.ok f) s' | .again c' => c'.quiet = true ∧ codeAny (model prog w) A c' R s') (fun e s' => R (.error e) s') s) :
    codeAny (model prog w) A (.builtin "max.loop" ⟨[.ref it, .none, .ref S], kw⟩) R s := codeAny_builtin F.entry_max_loop (by rw [Around.under_plainId F.plain_max_loop _]; exact k)
theorem zfy (W : Walks prog w A.in1 it fp wr n P St) (bt : Nat → Nat → Bool) (cm : CmpOf prog w A.in1 .Gt P bt) (nf : S ∉ fp) : ∀ (left j : Nat) (s : Shared) (v0 : Value) (c : Nat), j + 1 + left = n → St (j + 1) s.heap → P (argBest bt j) v0 →
      s.heap.get? S = some { cls := .type "list", dict := none, data := .seq #[v0, v0] c, slots := #[] } →
      (∀ v g tk, P (argBest bt (n - 1)) v → (∀ b o, b ∉ wr → b ≠ S → s.heap.get? b = some o → g.get? b = some o) → R (.ok (.ret v)) { s with heap := g, toks := tk }) →
    codeAny (model prog w) A (.builtin "max.loop" ⟨[.ref it, .none, .ref S], kw⟩) R s := by
  have nw : S ∉ wr := fun z => nf (W.sub _ z)
  intro left
  induction left with
  | zero =>
    intro j s v0 c e st p0 hS k
    have ej : j + 1 = n := e
    refine ZR ?_
    show wpAny _ A.in1 (seqItems? (.ref S) >>= _) _ _ s; refine wpAny_bind (wpAny_seqItems hS rfl ?_)
    show wpAny _ A.in1 (tryCatch (pyNext (.ref it)) _ >>= _) _ _ s; refine wpAny_bind (wpAny_tryCatch (W.done s _ _ (ej ▸ st) fun g tk kk => ?_))
    show wpAny _ A.in1 (updateSeq S (fun _ => #[]) >>= _) _ _ _; refine wpAny_bind (wpAny_updateSeq (kk S _ nw hS) rfl (wpAny_bind (wpAny_letGo (wpAny_pure (k v0 _ tk (ej ▸ p0) fun b o b1 b2 q => ?_)))))
    exact (Heap.get?_update_other _ _ (Ne.symm b2)).trans (kk b o b1 q)
  | succ left ih =>
    intro j s v0 c e st p0 hS k
    refine ZR ?_
    show wpAny _ A.in1 (seqItems? (.ref S) >>= _) _ _ s; refine wpAny_bind (wpAny_seqItems hS rfl ?_)
    show wpAny _ A.in1 (tryCatch (pyNext (.ref it)) _ >>= _) _ _ s; refine wpAny_bind (wpAny_tryCatch (W.item (j + 1) s _ _ (by omega) st fun v g tk pv st' kk => ?_))
    have hS' := kk S _ nw hS
    show wpAny _ A.in1 (tryCatch (holding [v, v] (richCompare .Gt v v0 >>= _)) _ >>= _) _ _ _; refine wpAny_bind (wpAny_tryCatch (wpAny_holding (wpAny_bind (cm (j + 1) (argBest bt j) v v0 _ _ _ pv p0 (wpAny_bind (wpAny_holding (wpAny_truthy_bool (wpAny_bind (wpAny_letGo (wpAny_pure ?_))))))))))
    cases hb : bt (j + 1) (argBest bt j) with
    | true =>
      simp only [if_true]; refine wpAny_bind (wpAny_updateSeq hS' rfl (wpAny_bind (wpAny_letGo ?_)))
      rw [wH]; refine wpAny_pure ⟨plainId_quiet F.plain_max_loop _, ih (j + 1) _ v _ (by omega) (W.frame _ _ _ st' fun b bf o q => ?_) (by rw [argBest, if_pos hb]; exact pv) (Heap.get?_update_self _ hS' rfl) fun v1 g1 tk1 p1 kk1 => ?_⟩
      · exact (Heap.get?_update_other _ _ (fun z : S = b => nf (z ▸ bf))).trans q
      · exact k v1 g1 tk1 p1 fun b o b1 b2 q => kk1 b o b1 b2 ((Heap.get?_update_other _ _ (Ne.symm b2)).trans (kk b o b1 q))
    | false =>
      simp only [Bool.false_eq_true, if_false]; refine wpAny_bind (wpAny_letGo ?_)
      rw [wH]; exact wpAny_pure ⟨plainId_quiet F.plain_max_loop _, ih (j + 1) _ v0 c (by omega) st' (by rw [argBest, if_neg (by rw [hb]; exact Bool.false_ne_true)]; exact p0) hS' fun v1 g1 tk1 p1 kk1 => k v1 g1 tk1 p1 fun b o b1 b2 q => kk1 b o b1 b2 (kk b o b1 q)⟩
theorem zgL {s : Shared} {c : Nat} {d : Value} (W : Walks prog w A.in1 it fp wr n P St) (bt : Nat → Nat → Bool) (cm : CmpOf prog w A.in1 .Gt P bt) (nf : S ∉ fp) (st : St 0 s.heap)
    (hS : s.heap.get? S = some { cls := .type "list", dict := none, data := .seq #[] c, slots := #[] })
    (k : ∀ v g tk, (if n = 0 then v = d else P (argBest bt (n - 1)) v) → (∀ b o, b ∉ wr → b ≠ S → s.heap.get? b = some o → g.get? b = some o) → R (.ok (.ret v)) { s with heap := g, toks := tk }) :
    codeAny (model prog w) A (.builtin "max.loop" ⟨[.ref it, .none, .ref S], [("default", d)]⟩) R s := by
  have nw : S ∉ wr := fun z => nf (W.sub _ z)
  refine ZR ?_
  show wpAny _ A.in1 (seqItems? (.ref S) >>= _) _ _ s; refine wpAny_bind (wpAny_seqItems hS rfl ?_)
  show wpAny _ A.in1 (tryCatch (pyNext (.ref it)) _ >>= _) _ _ s
  by_cases hn : n = 0
  · refine wpAny_bind (wpAny_tryCatch (W.done s _ _ (hn ▸ st) fun g tk kk => ?_))
    show wpAny _ A.in1 (rule _ >>= _) _ _ _; exact wpAny_bind (wpAny_rule (wpAny_pure (k d g tk (by rw [if_pos hn]) fun b o b1 _ q => kk b o b1 q)))
  · refine wpAny_bind (wpAny_tryCatch (W.item 0 s _ _ (Nat.pos_of_ne_zero hn) st fun v g tk pv st' kk => ?_))
    have hS' := kk S _ nw hS
    show wpAny _ A.in1 (updateSeq S (fun _ => #[v, v]) >>= _) _ _ _; refine wpAny_bind (wpAny_updateSeq hS' rfl ?_)
    rw [wH]; refine wpAny_pure ⟨plainId_quiet F.plain_max_loop _, zfy W bt cm nf (n - 1) 0 _ v _ (by omega) (W.frame _ _ _ st' fun b bf o q => ?_) pv (Heap.get?_update_self _ hS' rfl) fun v1 g1 tk1 p1 kk1 => ?_⟩
    · exact (Heap.get?_update_other _ _ (fun z : S = b => nf (z ▸ bf))).trans q
    · exact k v1 g1 tk1 (by rw [if_neg hn]; exact p1) fun b o b1 b2 q => kk1 b o b1 b2 ((Heap.get?_update_other _ _ (Ne.symm b2)).trans (kk b o b1 q))
end
theorem zcP (x d : Value) : argsOk "max" ⟨[x], [(Str.ofString "default", d)]⟩ := by unfold argsOk; kernel_rfl
theorem X6 {prog : Program} {w : World} {A : Around} {E : Value → Shared → Prop} {s : Shared} {x d : Value} {Q : Value → Shared → Prop}
    (h : wpAny (model prog w) A.in1 (pyIter x) (fun i s₂ => ∃ it fp wr n P St bt, i = .ref it ∧ Walks prog w A.in1 it fp wr n P St ∧ St 0 s₂.heap ∧ (∀ b ∈ fp, b < s₂.heap.objs.size) ∧ CmpOf prog w A.in1 .Gt P bt ∧
      ∀ v g tk, (if n = 0 then v = d else P (argBest bt (n - 1)) v) → (∀ b o, b ∉ wr → s₂.heap.get? b = some o → g.get? b = some o) → Q v { s₂ with heap := g, toks := tk }) E s) :
    wpAny (model prog w) A (call (.builtin "max") [x] [(Str.ofString "default", d)]) Q E s := by
  refine PyProof.Rows.kmk_tree F.kind_max F.plain_max F.entry_max (zcP x d) ?_
  show wpAny _ A.in1 (Builtin.Builtins.bindParams "max" ["key", "default"] 0 ⟨[], [(Str.ofString "default", d)]⟩ >>= _) _ _ s
  refine wpAny_bind (wpAny_of_eq (show Builtin.Builtins.bindParams "max" ["key", "default"] 0 ⟨[], [(Str.ofString "default", d)]⟩ = pure [none, some d] from rfl) (wpAny_bind (wpAny_pure ?_)))
  refine wpAny_bind (wpAny_mono h (fun i s₂ h₂ => ?_) fun _ _ e => e)
  obtain ⟨it, fp, wr, n, P, St, bt, rfl, W, st, hfp, cm, k⟩ := h₂
  refine wpAny_bind (wpAny_newObj_type ?_)
  have nf : s₂.heap.objs.size ∉ fp := fun z => Nat.lt_irrefl _ (hfp _ z)
  rw [wH]
  refine wpAny_pure ⟨plainId_quiet F.plain_max_loop _, zgL W bt cm nf (W.frame _ _ _ st fun b _ o e => Heap.get?_push_of_some _ e) (Heap.get?_push_size _ rfl) fun v g tk p kk => ?_⟩
  exact k v g tk p fun b o b1 e => kk b o b1 (Nat.ne_of_lt (Heap.lt_size e)) (Heap.get?_push_of_some _ e)
end PySem
namespace PySem
open Sem (wp)
theorem WY {prog : Program} {w : World} {d : Addr} (hd : (d == sysModules) = false) :
    MeetsIn prog w (Builtin.«dict.__len__» ⟨[.ref d], []⟩) (fun _ R s => ∃ o es ep, s.heap.get? d = some o ∧ o.data = .dict es ep ∧ R (.ok (.ret (.int es.size s.toks))) { s with toks := s.toks + 1 }) :=
  .of_wp fun A R s ⟨o, es, ep, ho, hdat, h⟩ => by
    show wpAny _ _ (dictSize d >>= _) _ _ s; unfold dictSize; refine wpAny_bind (wpAny_bind (wpAny_dictEntries ho hdat (wpAny_pure ?_)))
    show wpAny _ _ (Builtin.Dict.pendingCount d >>= _) _ _ s; refine wpAny_bind (wpAny_pendingCount_other hd (wpAny_ret_mkInt ?_))
    simpa using h
theorem XO {prog : Program} {w : World} {A : Around} {E : Value → Shared → Prop} {s : Shared} {d : Addr} {o : Obj} {es : Array DictEntry} {ep : Nat} {Q : Value → Shared → Prop} (hd : (d == sysModules) = false) (ho : s.heap.get? d = some o) (hc : o.cls = .type "dict") (hdat : o.data = .dict es ep) (hz : (es.size : Int) < 2 ^ 63)
    (h : Q (.int es.size (s.toks + 1)) { s with toks := s.toks + 1 + 1 }) : wpAny (model prog w) A (call (.builtin "len") [.ref d]) Q E s := by
  have ty : s.TypeIs (.ref d) "dict" := ⟨o, ho, hc⟩
  refine Calls.call_function_entry kind_len plain_len entry_len (args_len1 _) ?_
  unfold Builtin.«len»
  refine wpAny_bind (m := oneArg "len" _) (wpAny_pure (wpAny_bind (m := callSpecial? (.ref d) (Str.ofString "__len__")) (wpAny_callSpecial?_slot (name := Str.ofString "__len__") ty F.slot_dict_len (call_meetsIn F.slot_dict_len ty F.entry_dict_len (F.args_dict_len_1 _) (WY hd) ⟨o, es, ep, ho, hdat, ?_⟩))))
  show wpAny _ _ _ _ _ { s with toks := s.toks + 1 }; refine wpAny_bind (wpAny_holding (wpAny_pure (wpAny_bind (wpAny_letGo ?_))))
  show wpAny _ _ (if ((es.size : Nat) : Int) < 0 then _ else _) _ _ _; rw [if_neg (by omega)]
  show wpAny _ _ (if ((es.size : Nat) : Int) ≥ 2 ^ 63 then _ else _) _ _ _; rw [if_neg (by omega)]
  exact wpAny_bind (wpAny_mkInt (wpAny_pure ⟨_, rfl, h⟩))
end PySem
namespace L2
open PySem PySem.Spec PyProof.Rows
section
variable {X : Cx} {e de : Expr} {p pos kp : Pos} {t : TA} {td : TE}
noncomputable def zl4 (K : PySem.W.Frag) (t : TA) (td : TE) : TE := fun σ H Q => t σ H fun vs H1 => td σ H1 fun y H2 => ∃ (a : Addr) (ns : List Int) (k : Int), vs = [.ref a] ∧ y = .int k ∧ SqL K H2 a (ns.map V.int) ∧ Q (.int (if ns = [] then k else Dl.maxL ns)) H2
theorem zil (hc : X.calm = true) (hg : Gl X "max") (hm : X.mg "max" = none) (hv : bootBuiltins "max" = some (.builtin "max")) (ha : PA X [e] t) (hd : PE X de td) (he : backTo pos (starEach [e] X.env) = (false, eval e X.env) :: backTo pos (starEach [] X.env) := by rfl) (hpl : (backTo pos (starEach [e] X.env)).any (·.1) = false := by rfl) :
    PE X (.Call (.Name "max" p) [e] [⟨some "default", de, kp⟩] pos) (zl4 X.K t td) := by
  intro pins s σ H Q I h
  refine wpAny_Call_Name_kw (Y1 I hg hm hv ?_ (by decide) (by decide))
  refine PyProof.Rows.callWith_kw (thn (ha pos pins s σ H _ I h) fun us s1 ⟨vs, H1, I1, r1, q1⟩ => PyProof.Rows.kws_cons (thn (hd pins s1 σ H1 _ I1 q1) fun ud s2 ⟨y, H2, I2, r2, q2⟩ => PyProof.Rows.kws_nil ?_)) he hpl
  obtain ⟨a, ns, k, rfl, rfl, hq, q⟩ := q2
  obtain ⟨u, rfl, ru⟩ := zac r1
  cases ru
  obtain ⟨tk0, rfl⟩ := r2
  letI : Dl.KK := ⟨X.K⟩
  refine X6 (Dl.seq_walk I2 (I2.ok.hd hc) (.inl hq) fun it its fp wr St s₂ rv W st fpl back => ?_)
  have hl := rv.length
  rw [List.length_map] at hl
  refine ⟨it, fp, wr, _, _, St, fun i j => decide (ns.getD j 0 < ns.getD i 0), rfl, W, st, fpl, fun i j vi vj s Q E hi hj hQ => ?_, fun v h' tk hv kk => ?_⟩
  · obtain ⟨t1, rfl⟩ := Dl.vals_int rv hi
    obtain ⟨t2, rfl⟩ := Dl.vals_int rv hj
    exact PyProof.Rows.gt_int hQ
  · by_cases hn : ns = []
    · subst hn
      have h0 : its.length = 0 := hl.symm
      rw [if_pos h0] at hv
      subst hv
      exact ⟨.int k, H2, back h' tk kk, ⟨tk0, rfl⟩, by rw [if_pos rfl] at q; exact q⟩
    · have hpos : 0 < ns.length := List.length_pos_iff.mpr hn
      rw [if_neg (by omega)] at hv
      obtain ⟨t, rfl⟩ := Dl.vals_int rv hv
      rw [if_neg hn] at q
      refine ⟨.int (Dl.maxL ns), H2, back h' tk kk, ⟨t, ?_⟩, q⟩
      have key := Dl.best_ge (fun i => ns.getD i 0) (its.length - 1)
      have hb : argBest (fun i j => decide (ns.getD j 0 < ns.getD i 0)) (its.length - 1) < ns.length := by
        have := (key 0 (Nat.zero_le _)).2
        omega
      rw [Dl.max_is (m := ns.getD (argBest (fun i j => decide (ns.getD j 0 < ns.getD i 0)) (its.length - 1)) 0) (Dl.getD_mem hb)]
      intro x hx
      obtain ⟨j, hj, rfl⟩ := List.getElem_of_mem hx
      have := (key j (by omega)).1
      rw [← Dl.getD_at hj]
      exact this
end
noncomputable def zjn : List V → Hp → VK → Prop := fun vs H Q => ∃ (a : Addr) (kvs : List (List Key × V)), vs = [.ref a] ∧ Rd H a (.dT kvs) ∧ Q (.int kvs.length) H
theorem zfh {X : Cx} : Yu X (.builtin "len") zjn := by
  intro pins s σ H vs us Q I r h
  obtain ⟨a, kvs, rfl, hr, q⟩ := h
  obtain ⟨u, rfl, ru⟩ := zac r
  cases ru
  obtain ⟨hz, hs, xs, kt, o, es, ep, ho, hx, hdat, he, _⟩ := zh0 I.hok hr
  have hl : es.size = kvs.length := (size_of_entries he).trans kt.length.symm
  have h63 := Xg
  refine XO hs ho hx.1 hdat (by omega) ⟨.int kvs.length, H, I.tok _, ⟨_, by rw [hl]⟩, q⟩
end L2
namespace Dl
open PySem L2
variable [KK]
section
variable {X : Cx} {e de : Expr} {p pos kp : Pos}
noncomputable def zhY : D → D → Option D
  | .lst ds, .int k => (zhB ds).map fun ns => .int (if ns = [] then k else maxL ns)
  | _, _ => none
theorem zie {f h : Ev → Option D} (hc : X.calm = true) (hg : Gl X "max") (hm : X.mg "max" = none) (ha : ED X e f) (hd : ED X de h) (hs : starEach [e] X.env = (false, eval e X.env) :: starEach [] X.env := by rfl) (he : backTo pos (starEach [e] X.env) = (false, eval e X.env) :: backTo pos (starEach [] X.env) := by rfl) (hpl : (backTo pos (starEach [e] X.env)).any (·.1) = false := by rfl) :
    ED X (.Call (.Name "max" p) [e] [⟨some "default", de, kp⟩] pos) (zr zhY f h) := by
  obtain ⟨ta, pa, ra⟩ := ha
  obtain ⟨td, pd, rd⟩ := hd
  refine ⟨_, zil hc hg hm zas (wD pa ZA hs) pd he hpl, fun σ ρ F H z Q s va e q => ?_⟩
  obtain ⟨d, e1, e⟩ := Option.bind_eq_some_iff.mp e
  obtain ⟨k, e2, e3⟩ := Option.bind_eq_some_iff.mp e
  refine ra σ ρ F H d _ s va e1 fun F1 H1 v g1 a1 => ?_
  refine rd σ ρ F1 H1 k _ g1.fh (va.mono g1.ff) e2 fun F2 H2 y g2 a2 => ?_
  unfold zhY at e3
  split at e3 <;> try cases e3
  obtain ⟨ns, hn, rfl⟩ := Option.map_eq_some_iff.mp e3
  cases Wa hn
  obtain ⟨a, xs, rfl, hx, al⟩ := (a1.mono g2.ff).lst_inv
  cases al.of_ints
  exact ⟨a, ns, _, rfl, a2.int_inv, SqL.of (g2.fh _ _ hx), q F2 H2 _ (g1.trans g2) .int⟩
noncomputable def zhV : List D → Option D
  | [.dct _ true ks _] => some (.int ks.length)
  | _ => none
theorem zgq : CaD zjn zhV := by
  intro F H vs ds z Q s al e q
  unfold zhV at e
  split at e <;> cases e
  obtain ⟨x, r, rfl, ax, ar⟩ := al.cons_inv
  cases ar.nil_inv
  unfold At at ax
  obtain ⟨a, xs, rfl, ⟨u, hu, hz⟩, _⟩ := ax
  obtain ⟨kvs, rfl, hk, _⟩ := hu
  have hr : Rd H a (.dT kvs) := by
    split at hz
    · obtain ⟨ob, hz⟩ := hz
      exact .inr ⟨ob, s _ _ hz⟩
    · exact .inl (s _ _ hz)
  exact ⟨a, kvs, rfl, hr, by rw [show (kvs.length : Int) = ((kvs.map (·.1)).length : Nat) by rw [List.length_map], hk]; exact q F H _ (.refl s) .int⟩
end
end Dl
namespace Dl
open PySem L2
variable [KK]
section
variable {X : Cx}
end
end Dl
namespace OwnSet
open PySem
section
variable {prog : Program} {w : World} {A : Around} {E : Value → Shared → Prop} {s : Shared}
end
end OwnSet
namespace L2
open PySem PySem.Spec PyProof.Rows
end L2
namespace Dl
open PySem L2 PySem.Spec PyProof.Rows
variable [KK] {X : Cx} {e : Expr}
end Dl
namespace OwnSortT
open PySem PyProof.Rows OwnSort
theorem ziW : ∀ a : List Int, HT.lexLt a a = false := by
  intro a
  induction a with
  | nil => rfl
  | cons x xs ih => rw [HT.lexLt_cons, if_pos rfl, ih]
theorem WC : ∀ a b c : List Int, HT.lexLt a b = true → HT.lexLt b c = true → HT.lexLt a c = true := by
  intro a
  induction a with
  | nil =>
    intro b c h1 h2
    cases c with
    | nil => cases b <;> cases h2
    | cons _ _ => rfl
  | cons x xs ih =>
    intro b c h1 h2
    cases b with
    | nil => cases h1
    | cons y ys => cases c with
      | nil => cases h2
      | cons z zs =>
        rw [HT.lexLt_cons] at h1 h2 ⊢
        by_cases e1 : x = y
        · rw [if_pos e1] at h1
          by_cases e2 : y = z
          · rw [if_pos e2] at h2; rw [if_pos (e1.trans e2)]; exact ih _ _ h1 h2
          · rw [if_neg e2, decide_eq_true_eq] at h2; rw [if_neg (by omega), decide_eq_true_eq]; omega
        · rw [if_neg e1, decide_eq_true_eq] at h1
          by_cases e2 : y = z
          · rw [if_neg (by omega), decide_eq_true_eq]; omega
          · rw [if_neg e2, decide_eq_true_eq] at h2; rw [if_neg (by omega), decide_eq_true_eq]; omega
theorem VG : ∀ a b : List Int, HT.lexLt a b = false → HT.lexLt b a = false → a = b := by
  intro a
  induction a with
  | nil =>
    intro b h1 h2
    cases b with
    | nil => rfl
    | cons _ _ => cases h1
  | cons x xs ih =>
    intro b h1 h2
    cases b with
    | nil => cases h2
    | cons y ys =>
      rw [HT.lexLt_cons] at h1 h2
      by_cases e : x = y
      · rw [if_pos e] at h1; rw [if_pos e.symm] at h2; rw [e, ih _ h1 h2]
      · rw [if_neg e, decide_eq_false_iff_not] at h1; rw [if_neg (Ne.symm e), decide_eq_false_iff_not] at h2; omega
theorem ziG (a b c : List Int) (h : HT.lexLt a c = true) : HT.lexLt a b = true ∨ HT.lexLt b c = true := by
  cases h1 : HT.lexLt a b with
  | true => exact .inl rfl
  | false =>
    refine .inr ?_
    cases h2 : HT.lexLt b a with
    | true => exact WC _ _ _ h2 h
    | false => rw [← VG _ _ h1 h2]; exact h
noncomputable def TT (h : Heap) (v : Value) (t : List Int) : Prop := ∃ a o n its, v = .ref a ∧ h.get? a = some o ∧ o.cls = .type "tuple" ∧ o.data = .seq its.toArray n ∧ IntsAre its t ∧ t ≠ []
theorem zeK : ∀ {vs : List Value} {ns ms : List Int}, IntsAre vs ns → IntsAre vs ms → ns = ms := by
  intro vs ns ms h
  induction h generalizing ms with
  | nil => intro h2; cases h2; rfl
  | cons n t h ih => intro h2; cases h2 with | cons n' t' h' => rw [ih h']
theorem TT.uniq {h : Heap} {v : Value} {s t : List Int} (x : TT h v s) (y : TT h v t) : s = t := by
  obtain ⟨a, o, n, its, rfl, e1, _, d1, i1, _⟩ := x
  obtain ⟨b, p, m, its', e, e2, _, d2, i2, _⟩ := y
  cases e
  rw [e1] at e2
  cases e2
  rw [d1] at d2
  have e3 : its.toArray = its'.toArray := by injection d2
  cases List.toArray_inj e3
  exact zeK i1 i2
open Classical in
noncomputable def zcu (h : Heap) (v : Value) : Option (List Int) := if x : ∃ t, TT h v t then some x.choose else none
theorem zgD {h : Heap} {v : Value} {t : List Int} (x : TT h v t) : zcu h v = some t := by
  unfold zcu
  have y : ∃ t, TT h v t := ⟨t, x⟩
  rw [dif_pos y, y.choose_spec.uniq x]
@[reducible] noncomputable def zjw (h : Heap) : KeyKind where
  α := List Int
  blt := HT.lexLt
  irrefl := ziW
  trans := WC
  negTrans := ziG
  total := VG
  keyOf := zcu h
  dflt := []
section
variable {prog : Program} {w : World} {A : Around} {E : Value → Shared → Prop} {s : Shared}
end
noncomputable def zjA (h : Heap) (out : List Value) : Prop := ∃ ts : List (List Int), out.length = ts.length ∧ (∀ (i : Nat) (v : Value) (t : (List Int)), out[i]? = some v → ts[i]? = some t → TT h v t) ∧ ts.Pairwise fun a b => HT.lexLt b a = false
theorem zbX {h h' : Heap} {vs : List Value} {xs : Array Keyed} (hT : ∀ v ∈ vs, ∃ t, TT h v t) (hk : ∀ v t, TT h v t → TT h' v t) (pm : xs.Perm (pairsOf vs)) (hs : SortedToK (zjw h') xs (pairsOf vs).size) : (xs.map (·.2)).toList.Perm vs ∧ zjA h (xs.map (·.2)).toList := by
  have hl : xs.toList.Perm (vs.zip vs) := by rw [← pairsOf_toList]; exact Array.perm_iff_toList_perm.mp pm
  have hm : ∀ p ∈ xs.toList, p.1 = p.2 ∧ p.1 ∈ vs := fun p hp => mem_zip_self (hl.mem_iff.mp hp)
  have e2 : (xs.map (·.2)).toList = xs.toList.map (·.2) := by simp
  rw [e2]
  refine ⟨?_, xs.toList.map fun p => (zcu h' p.1).getD ([] : List Int), by simp, fun i v t hv ht => ?_, ?_⟩
  · have := hl.map (·.2)
    rwa [show (vs.zip vs).map (·.2) = vs from List.map_snd_zip (Nat.le_refl _)] at this
  · rw [List.getElem?_map] at hv ht
    cases hx : xs.toList[i]? with
    | none => rw [hx] at hv; cases hv
    | some p =>
      rw [hx] at hv ht
      cases hv
      cases ht
      obtain ⟨q1, q2⟩ := hm p (List.mem_of_getElem? hx)
      obtain ⟨t, ht⟩ := hT _ q2
      show TT h p.2 ((zcu h' p.1).getD ([] : List Int))
      rw [zgD (hk _ _ ht), ← q1]
      exact ht
  · rw [List.pairwise_iff_getElem]
    intro i j hi hj hij
    have hi' : i < xs.size := by simpa using hi
    have hj' : j < xs.size := by simpa using hj
    have := hs i j (Nat.le_of_lt hij) (by rw [← pm.size_eq]; exact hj')
    unfold KK at this
    rw [getElem?_pos xs i hi', getElem?_pos xs j hj'] at this
    have this : HT.lexLt ((zcu h' xs[j].1).getD ([] : List Int)) ((zcu h' xs[i].1).getD ([] : List Int)) = false := this
    simpa using this
section
variable {prog : Program} {w : World} {A : Around} {E : Value → Shared → Prop} {s : Shared}
end
end OwnSortT
namespace OwnDk
open PySem
section
variable {prog : Program} {w : World} {A : Around} {E : Value → Shared → Prop} {s : Shared}
end
end OwnDk
namespace Dl
open PySem L2
variable [KK]
section
variable {X : Cx} {e : Expr} {pos : Pos}
end
end Dl
namespace Dl
open PySem L2
variable [KK] {X : Cx} {tg a : Expr} {pos : Pos}
end Dl
namespace Dl
open PySem L2
variable [KK]
noncomputable def shT (k : Bool) : D → Option (List D × D)
  | .tup [x, y] => match k, x, y with
    | false, .lst es, y => some (es, y)
    | true, x, .lst es => some (es, x)
    | _, _, _ => none
  | _ => none
noncomputable def tvT (k : Bool) (p : Addr) (v : V) : List V := if k = true then [v, .ref p] else [.ref p, v]
noncomputable def tupT (k : Bool) (es : List D) (y : D) : D := if k = true then .tup [y, .lst es] else .tup [.lst es, y]
omit [KK] in
theorem zhx {k : Bool} {d : D} {es : List D} {y : D} (h : shT k d = some (es, y)) : d = tupT k es y := by
  unfold shT at h
  split at h
  · rename_i a b
    cases k with
    | false => cases a <;> cases h; rfl
    | true => cases b <;> cases h; rfl
  · cases h
noncomputable def zeA (k : Bool) (F H : Hp) (Q : VK) (d : D) : Prop := match shT k d with
  | some (es, y) => ∀ F' H' a p xs v, Gr F H F' H' → H p = none → H a = none → F' p = none → F' a = none → H' p = some (.lst xs) → H' a = some (.tup (tvT k p v)) → AtL F' es xs → At F' y v → Q (.ref a) H'
  | none => ∀ F' H' v, Gr F H F' H' → At F' d v → Q v H'
theorem zeA.of {k : Bool} {F H : Hp} {Q : VK} {d : D} (h : ∀ F' H' v, Gr F H F' H' → At F' d v → Q v H') : zeA k F H Q d := by
  unfold zeA
  cases e : shT k d with
  | none => exact h
  | some q =>
    obtain ⟨es, y⟩ := q
    rintro F' H' a p xs v g hp ha fp fa kp ka al av
    have ne : a ≠ p := ze8 ka kp (by intro z; cases z)
    have g2 := g.show hp fp kp
    have g3 := g2.show ha (by rw [zp ne]; exact fa) ka
    have s2 : yl F' (upd F' p (.lst xs)) := fun b u e => by rw [zp (zj e fp)]; exact e
    have s3 : yl (upd F' p (.lst xs)) (upd (upd F' p (.lst xs)) a (.tup (tvT k p v))) := fun b u e => by rw [zp (zj e (by rw [zp ne]; exact fa))]; exact e
    have al' : At (upd (upd F' p (.lst xs)) a (.tup (tvT k p v))) (.lst es) (.ref p) := At.lst (s3 _ _ zo) (al.mono (s2.trans s3))
    have av' : At (upd (upd F' p (.lst xs)) a (.tup (tvT k p v))) y v := av.mono (s2.trans s3)
    refine h _ _ _ g3 ?_
    rw [zhx e]
    cases k with
    | false => exact At.tup zo (.cons al' (.cons av' .nil))
    | true => exact At.tup zo (.cons av' (.cons al' .nil))
noncomputable def SOkT (k : Bool) (Fb Hb : Hp) (E : zer) : Ctl → Prop
  | .rt d => zeA k Fb Hb E.rt d
  | c => SOk Fb Hb E c
noncomputable def RST (k : Bool) (t : TS) (g : SE → Ctl) : Prop := ∀ (Fb Hb F H : Hp) (ρ : SE) (σ : St) (E : zer), Rl Fb Hb F H ρ σ → SOkT k Fb Hb E (g ρ) → t E σ H
noncomputable def SDT (k : Bool) (X : Cx) (st : Stmt) (g : SE → Ctl) : Prop := ∃ t, PS X st t ∧ RST k t g
noncomputable def zlh (k : Bool) (X : Cx) (sts : List Stmt) (g : SE → Ctl) : Prop := ∃ t, PSs X sts t ∧ RST k t g
section
variable {k : Bool} {X : Cx} {st : Stmt} {sts : List Stmt} {a b c e tg : Expr} {pos pos' : Pos}
theorem ZK {g h : SE → Ctl} (h1 : SDT k X st g) (h2 : zlh k X sts h) : zlh k X (st :: sts) (zW g h) := by
  obtain ⟨t, p, r⟩ := h1
  obtain ⟨u, p2, r2⟩ := h2
  refine ⟨_, Zl p p2, fun Fb Hb F H ρ σ E rl q => ?_⟩
  refine r Fb Hb F H ρ σ { E with nx := u E } rl ?_
  unfold zW at q
  cases e : g ρ with
  | nx ρ' =>
    rw [e] at q
    exact fun F' H' σ' rl' => r2 Fb Hb F' H' ρ' σ' E rl' q
  | rt d => rw [e] at q; exact q
  | bk d => rw [e] at q; exact q
  | ct d => rw [e] at q; exact q
  | no => rw [e] at q; exact q
theorem zgr {g : SE → Ctl} (h1 : SDT k X st g) : zlh k X [st] g := let ⟨_, p, r⟩ := h1; ⟨_, X2 p, r⟩
theorem zez {g : SE → Ctl} (h : SD X st g) (hn : ∀ ρ d, g ρ ≠ .rt d) : SDT k X st g := by
  obtain ⟨t, p, r⟩ := h
  refine ⟨t, p, fun Fb Hb F H ρ σ E rl q => r Fb Hb F H ρ σ E rl ?_⟩
  cases e : g ρ with
  | rt d => exact absurd e (hn ρ d)
  | nx _ => rw [e] at q; exact q
  | bk _ => rw [e] at q; exact q
  | ct _ => rw [e] at q; exact q
  | no => rw [e] at q; exact q
noncomputable def sRetO (i : Nat) (f : Ev → Option D) : SE → Ctl := fun ρ => match ρ[i]?, f (visF ρ) with
  | some (.o ds), some y => .rt (.tup [.lst ds, y])
  | _, _ => .no
theorem ziw {xs : List V} (h : xs.length ≤ 2) : xs.length ≤ sizeLine := Nat.le_of_lt (vk (Nat.le_trans h (by decide)))
noncomputable def zbF (f : Ev → Option D) (fl : Ev → Option (List D)) : SE → Ctl := fun ρ => match f (visF ρ), fl (visF ρ) with
  | some y, some es => .rt (.tup [y, .lst es])
  | _, _ => .no
theorem zgO {f : Ev → Option D} {fl : Ev → Option (List D)} {x1} (he : ED X a f) (hl : FL X e fl) (hs : starEach [a, e] X.env = (false, eval a X.env) :: starEach [e] X.env := by rfl) (hs2 : starEach [e] X.env = (false, eval e X.env) :: starEach [] X.env := by rfl) : SDT true X (.Return (some (.Tuple [a, e] x1 pos')) pos) (zbF f fl) := by
  obtain ⟨t, p, r⟩ := he
  obtain ⟨u, p2, r2⟩ := hl
  refine ⟨_, zeR (zhP (wD p (wD p2 ZA hs2) hs)), fun Fb Hb F H ρ σ E rl q => ?_⟩
  unfold zbF at q
  cases hf : f (visF ρ) with
  | none => rw [hf] at q; exact q.elim
  | some y =>
    rw [hf] at q
    cases hg : fl (visF ρ) with
    | none => rw [hg] at q; exact q.elim
    | some es =>
      rw [hg] at q
      refine r σ _ _ H y _ rl.gr.fh rl.visF hf fun F' H' v g av => ?_
      refine r2 σ _ F' H' es _ g.fh (rl.visF.mono g.ff) hg fun F2 H2 lp xs g2 h0 hF hH hx => ⟨ziw (Nat.le_refl _), fun ta hta => ?_⟩
      have ne : lp ≠ ta := zj hH hta
      have rl2 := (rl.grow g).grow g2
      exact q F2 _ ta lp xs v (rl2.gr.trans (Gr.hide g2.fh hta _)) ((rl.grow g).notbase h0) (rl2.notbase hta) hF (g2.fh.free hta) (by rw [zp ne]; exact hH) zo hx (av.mono g2.ff)
end
noncomputable def zk5 (k : Bool) (m : Nat) (p : List D → Option D) : Sp := fun vs H Q _ => ∃ ds d F, ds.length = m ∧ yl F H ∧ AtL F ds vs ∧ p ds = some d ∧ zeA k F H Q d
theorem zkc {k : Bool} {P : Program} {w : World} {K : PySem.W.Frag} {mg : Str → Option Value} {base : Heap} {x qual : Str} {st : Stmt} {f : Addr} {fd : FuncData} {N ps : List Str} {n : Nat} {g : SE → Ctl} (Fu : Fun K x qual st f fd) (S : zv N ps (ze st))
    (hb : ∀ (cdv : Value) (A : Around) (outer : List Env) (s : Shared) (H : Hp) (E : XK), vW n (A.deeper (PyProof.Rows.envOfC qual (ze st) s.heap.objs.size f cdv)) → zlh k (zg0 CX0 P w K mg base N qual (ze st) f cdv A outer s H E).nox (zu st) g) (hnx : ∀ ρ ρ', g ρ ≠ .nx ρ') :
    yU P w K mg base CX0 (n + 1) f fd ps (zk5 k ps.length (fnD N.length g)) := by
  refine Fu.ok S (fun vs H Q E h => ?_) fun cdv A outer s H vs Q E hr h => ?_
  · obtain ⟨ds, d, F, hl, _, a, _⟩ := h
    rw [a.length]; exact hl
  · obtain ⟨ds, d, F, hl, sm, a, e, q⟩ := h
    obtain ⟨t, p, r⟩ := hb cdv A outer s H E hr
    refine ⟨t, p, r F H F H _ _ _ (zdh sm a) ?_⟩
    unfold fnD at e
    cases hg : g (ds.map .v ++ List.replicate (N.length - ds.length) .no) with
    | rt d' => rw [hg] at e; cases e; exact q
    | nx ρ => exact absurd hg (hnx _ _)
    | bk ρ => rw [hg] at e; cases e
    | ct ρ => rw [hg] at e; cases e
    | no => rw [hg] at e; cases e
theorem zkI {k : Bool} {P : Program} {w : World} {K : PySem.W.Frag} {mg : Str → Option Value} {base : Heap} {f : Addr} {fd : FuncData} {ps : List Str} {n m : Nat} {p : List D → Option D} (F : yU P w K mg base CX0 n f fd ps (zk5 k m p)) : yU P w K mg base CX0 n f fd ps (spD m p) :=
  F.imp fun vs H Q E ⟨ds, d, F', h1, h2, h3, h4, h5⟩ => ⟨ds, d, F', h1, h2, h3, h4, zeA.of h5⟩
noncomputable def ET (k : Bool) (X : Cx) (e : Expr) (f : Ev → Option D) : Prop := ∃ t, PE X e t ∧ ∀ (σ : St) (ρ : Ev) (F H : Hp) (d : D) (Q : VK), yl F H → VAt F ρ σ → f ρ = some d → zeA k F H Q d → t σ H Q
theorem zii {k : Bool} {X : Cx} {x : Str} {n m : Nat} {f : Addr} {fd : FuncData} {ps : List Str} {p : List D → Option D} {e : Expr} {es : List Expr} {pp pos : Pos} {fa : Ev → Option (List D)} (F : yU X.prog X.w X.K X.mg X.base CX0 n f fd ps (zk5 k m p)) (hr : vW n X.A) (hg : Gl X x) (hm : X.mg x = some (.ref f)) (hk : PySem.W.keepIn X.K (.ref f) = true) (hb : WQ X.K fd ps [])
    (ha : AD X (e :: es) fa) (hdb : (x == ("__debug__" : Str)) = false := by decide) (he : starEach (e :: es) X.env = (false, eval e X.env) :: starEach es X.env := by rfl) (hpl : (backTo pos (starEach es X.env)).any (·.1) = false := by rfl) :
    ET k X (.Call (.Name x pp) (e :: es) [] pos) (zw m p fa) := by
  obtain ⟨t, pa, r⟩ := ha
  refine ⟨_, zfI F hr hg hm hk hb .nil zjL pa hdb he hpl, fun σ ρ F0 H d Q s va e q => ?_⟩
  obtain ⟨ds, e1, e2⟩ := Option.bind_eq_some_iff.mp e
  split at e2 <;> try cases e2
  rename_i hl
  refine r σ ρ F0 H ds _ s va e1 fun F1 H1 vs g1 a1 => ⟨ds, d, F1, hl, g1.fh, by rw [List.append_nil]; exact a1, e2, ?_⟩
  unfold zeA at q ⊢
  cases e : shT k d with
  | some z =>
    obtain ⟨es, y⟩ := z
    rw [e] at q
    exact fun F' H' a p xs v g hp ha => q F' H' a p xs v (g1.trans g) (zb2 g1 hp) (zb2 g1 ha)
  | none =>
    rw [e] at q
    exact fun F' H' v g av => q F' H' v (g1.trans g) av
end Dl
namespace Dl
open PySem L2
variable [KK]
section
variable {X : Cx} {st1 st2 st3 st4 : Stmt} {i j : Nat}
noncomputable def NNx (g : SE → Ctl) : Prop := ∀ ρ ρ', g ρ ≠ .nx ρ'
omit [KK] in
theorem zaK {g h : SE → Ctl} (k : NNx h) : NNx (zW g h) := fun ρ ρ' e => by
  unfold zW at e
  cases hg : g ρ with
  | nx r => rw [hg] at e; exact k _ _ e
  | _ => rw [hg] at e; cases e
omit [KK] in
theorem zg9 {f : Ev → Option D} {fl : Ev → Option (List D)} : NNx (zbF f fl) := fun ρ ρ' e => by
  unfold zbF at e
  split at e <;> cases e
theorem Rl.drop {Fb Hb F H : Hp} {ρ : SE} {σ : St} (r : Rl Fb Hb F H ρ σ) (i : Nat) (v : Option V) : Rl Fb Hb F H (ρ.set i .no) (σ.set i v) := by
  have nj : ∀ {k : Nat} {s : Sl}, (ρ.set i .no)[k]? = some s → s ≠ .no → i ≠ k ∧ ρ[k]? = some s := fun {k s} h hs => by
    by_cases e : i = k
    · subst e
      rw [List.getElem?_set] at h
      rw [if_pos rfl] at h
      split at h <;> cases h
      exact absurd rfl hs
    · rw [List.getElem?_set_ne e] at h
      exact ⟨e, h⟩
  have own : ∀ {s : Sl}, s.isO = true → s ≠ .no := fun {s} h e => by subst e; cases h
  refine ⟨r.gr, fun k d h => ?_, fun k s h ho => ?_, fun a b p s t h1 h2 o1 o2 e1 e2 => ?_, by rw [List.length_set, List.length_set]; exact r.len⟩
  · obtain ⟨ne, h⟩ := nj h (by intro z; cases z)
    rw [List.getElem?_set_ne ne]
    exact r.vals k d h
  · obtain ⟨ne, h⟩ := nj h (own ho)
    rw [List.getElem?_set_ne ne]
    exact r.ows k s h ho
  · obtain ⟨n1, h1⟩ := nj h1 (own o1)
    obtain ⟨n2, h2⟩ := nj h2 (own o2)
    rw [List.getElem?_set_ne n1] at e1
    rw [List.getElem?_set_ne n2] at e2
    exact r.dis a b p s t h1 h2 o1 o2 e1 e2
noncomputable def zdG (i : Nat) (f : Ev → Option D) (t : Ev → Option Bool) : SE → Ctl := fun ρ => match f (visF ρ) with
  | some d => (match shT true d with
    | some (es, y) => if decide (i < ρ.length ∧ es.length < 1000) = true then (match t (visF (ρ.set i (.v d))) with
      | some true => .rt (.bl false)
      | some false => .nx (ρ.set i .no)
      | none => .no) else .no
    | none => .no)
  | none => .no
noncomputable def zd3 (p a : Addr) (F : Hp) : Hp := fun b => if b = p ∨ b = a then none else F b
theorem zfe {f : Ev → Option D} {t : Ev → Option Bool} {sts : List Stmt} {c : Expr} {pos : Pos} (h1 : ∃ t, PS X st1 (zlg t (Yn i)) ∧ ∀ (σ : St) (ρ : Ev) (F H : Hp) (d : D) (Q : VK), yl F H → VAt F ρ σ → f ρ = some d → zeA true F H Q d → t σ H Q)
    (h2 : TD X c t) (hr : PSs X sts (tRet (tC (.bl false)))) (h3 : PS X st3 (fun D σ H => tBM X.K "list" zbS (tOp (zlE X.K) (zhE i) (tC (.int 1))) (zkW (tC (.int 0)) tNil) σ H fun _ H1 => D.nx σ H1)) : SDs X [st1, .If c sts [] pos, st3] (zdG i f t) := by
  obtain ⟨t1, p1, r1⟩ := h1
  obtain ⟨tc, pc, rc⟩ := h2
  refine ⟨_, Zl p1 (Zl (zkS pc hr zfJ) (X2 h3)), fun Fb Hb F H ρ σ E rl q => ?_⟩
  unfold zdG at q
  cases hf : f (visF ρ) with
  | none => rw [hf] at q; exact q.elim
  | some d =>
    rw [hf] at q
    dsimp only at q
    cases hs : shT true d with
    | none => rw [hs] at q; exact q.elim
    | some z =>
      obtain ⟨es, y⟩ := z
      rw [hs] at q
      dsimp only at q
      split at q
      · rename_i hl
        have hl := of_decide_eq_true hl
        have hi : i < σ.length := by rw [← rl.len]; exact hl.1
        refine r1 σ _ F H d _ rl.gr.fh rl.visF hf ?_
        unfold zeA
        rw [hs]
        intro F' H' a p xs v g hp ha fp fa kp ka al av
        have ne : a ≠ p := ze8 ka kp (by intro z; cases z)
        have g2 := (g.show hp fp kp).show ha (by rw [zp ne]; exact fa) ka
        have s2 : yl F' (upd F' p (.lst xs)) := fun b u e => by rw [zp (zj e fp)]; exact e
        have s3 : yl (upd F' p (.lst xs)) (upd (upd F' p (.lst xs)) a (.tup [v, .ref p])) := fun b u e => by rw [zp (zj e (by rw [zp ne]; exact fa))]; exact e
        have atd : At (upd (upd F' p (.lst xs)) a (.tup [v, .ref p])) d (.ref a) := by
          rw [zhx hs]
          exact At.tup zo (.cons (av.mono (s2.trans s3)) (.cons (At.lst (s3 _ _ zo) (al.mono (s2.trans s3))) .nil))
        have rlA := (rl.grow g2).set (i := i) atd
        have ea : (σ.set i (some (.ref a)))[i]? = some (some (.ref a)) := List.getElem?_set_self hi
        cases ht : t (visF (ρ.set i (.v d))) with
        | none => rw [ht] at q; exact q.elim
        | some b =>
          rw [ht] at q
          refine rc _ _ _ H' b _ rlA.gr.fh rlA.visF ht fun F3 H3 g3 => ?_
          have f3a : F3 a = some (.tup [v, .ref p]) := g3.ff _ _ zo
          have f3p : F3 p = some (.lst xs) := g3.ff _ _ (s3 _ _ zo)
          cases b with
          | true =>
            rw [if_pos rfl]
            exact q F3 H3 _ (rlA.gr.trans g3) .bl
          | false =>
            rw [if_neg Bool.false_ne_true]
            have lenx : xs.length < sizeLine := by rw [al.length]; exact vk (Nat.le_of_lt hl.2)
            refine ⟨_, ea, a, _, 1, .ref p, rfl, rfl, SqT.of (g3.fh _ _ f3a), rfl, .inl ⟨rfl, xs, SqL.of (g3.fh _ _ f3p)⟩, p, xs, .int 0, rfl, rfl, g3.fh _ _ f3p, lenx, ?_⟩
            have hbp := rl.notbase hp
            have hba := rl.notbase ha
            have same4 : yl F' (zd3 p a F3) := fun b u e => by
              have n1 : b ≠ p := zj e fp
              have n2 : b ≠ a := zj e fa
              unfold zd3
              rw [if_neg (fun z => z.elim n1 n2)]
              exact g3.ff _ _ (s3 _ _ (s2 _ _ e))
            have rlD := (rl.grow g).drop i (some (.ref a))
            refine q (zd3 p a F3) _ _ ⟨⟨fun b u e => same4 _ _ ((rl.grow g).gr.ff _ _ e), fun b u e => ?_, fun b u e1 e2 => ?_⟩, fun k d' h => ?_, fun k s h ho => ?_, rlD.dis, rlD.len⟩
            · unfold zd3 at e
              split at e
              · cases e
              · rename_i hn
                rw [zp (fun z => hn (.inl z))]
                exact g3.fh _ _ e
            · have n1 : b ≠ p := zj e2 hbp
              have n2 : b ≠ a := zj e2 hba
              obtain ⟨k1, k2⟩ := (rlA.gr.trans g3).kp b u e1 e2
              rw [zp n1]
              refine ⟨?_, k2⟩
              unfold Hid zd3
              rw [if_neg (fun z => z.elim n1 n2)]
              exact k1
            · obtain ⟨v', e1, a1⟩ := rlD.vals k d' h
              exact ⟨v', e1, a1.mono same4⟩
            · obtain ⟨p', o, e1, e2, e3, e4, e5⟩ := rlD.ows k s h ho
              have hk : k ≠ i := fun z => by
                subst z
                rw [List.getElem?_set] at h
                rw [if_pos rfl] at h
                split at h <;> cases h
                cases ho
              have h' : ρ[k]? = some s := by rw [List.getElem?_set_ne (Ne.symm hk)] at h; exact h
              obtain ⟨p2, o2, x1, _, _, x4, _⟩ := rl.ows k s h' ho
              rw [List.getElem?_set_ne (Ne.symm hk), x1] at e1
              cases e1
              have n1 : p' ≠ p := zj x4 hp
              have n2 : p' ≠ a := zj x4 ha
              obtain ⟨y1, y2⟩ := g3.kl e5.ntup (by rw [zp n2, zp n1]; exact e3) e4
              refine ⟨p', o, by rw [List.getElem?_set_ne (Ne.symm hk)]; exact x1, e2, ?_, by rw [zp n1]; exact y2, e5.mono same4⟩
              unfold zd3
              rw [if_neg (fun z => z.elim n1 n2)]
              exact y1
      · exact q.elim
theorem zkG {k : Bool} {x : Str} {e : Expr} {f : Ev → Option D} {pos pos' : Pos} (hN : X.N.Nodup) (hi : X.N[i]? = some x) (hx : Loc X.env.scope x) (he : ET k X e f) (hs : swapsWith e (some (.Name x pos')) pos.line X.env = pure false := by rfl)
    (hf : X.fn x = true ∨ X.env.scope.names.lookup x = some .local := by first | exact .inl rfl | exact .inr rfl | assumption) : ∃ t, PS X (.Assign [.Name x pos'] e pos) (zlg t (Yn i)) ∧ ∀ (σ : St) (ρ : Ev) (F H : Hp) (d : D) (Q : VK), yl F H → VAt F ρ σ → f ρ = some d → zeA k F H Q d → t σ H Q :=
  let ⟨t, p, r⟩ := he
  ⟨t, WW hN hi hx p hs hf, r⟩
end
end Dl
namespace Mz
open PySem Dl
noncomputable abbrev Tie := Int × Int
noncomputable def ltP (s t : Tie) : Prop := s.1 < t.1 ∨ (s.1 = t.1 ∧ s.2 < t.2)
noncomputable instance (s t : Tie) : Decidable (ltP s t) := by unfold ltP; infer_instance
theorem zfU {a b c : Tie} (h : ltP a b) (k : ltP b c) : ltP a c := by
  unfold ltP at *
  omega
noncomputable def zq (t : Tie) : D := .tup [.int t.1, .int t.2]
theorem zeq {s t : Tie} (h : zq s = zq t) : s = t := by
  unfold zq at h
  injection h with h
  injection h with h1 h2
  injection h2 with h2 _
  injection h1 with h1
  injection h2 with h2
  exact Prod.ext h1 h2
noncomputable def zm (many : Int) (ties : List Tie) : D := .tup [.int many, .tup (ties.map zq)]
set_option genInjectivity false in
set_option genSizeOf false in
set_option genCtorIdx false in
structure Xy (many : Int) (ties : List Tie) : Prop where
  lo : 1 ≤ many
  hi : many ≤ 8
  rng : ∀ t ∈ ties, 0 ≤ t.1 ∧ t.1 < t.2 ∧ t.2 < many
  srt : ties.Pairwise ltP
noncomputable def leP (s t : Tie) : Bool := if s.1 = t.1 then (if s.2 = t.2 then true else decide (s.2 ≤ t.2)) else decide (s.1 ≤ t.1)
theorem Zy {s t : Tie} : leP s t = false ↔ ltP t s := by
  unfold leP ltP
  by_cases h : s.1 = t.1
  · rw [if_pos h]
    by_cases k : s.2 = t.2
    · rw [if_pos k]; simp; omega
    · rw [if_neg k, decide_eq_false_iff_not]; omega
  · rw [if_neg h, decide_eq_false_iff_not]; omega
noncomputable def vM : D → Option Tie
  | .tup [.int a, .int b] => some (a, b)
  | _ => none
theorem vo (t : Tie) : vM (zq t) = some t := rfl
theorem ZP {d : D} {t : Tie} (h : vM d = some t) : d = zq t := by
  unfold vM at h
  split at h
  · cases h; rfl
  · cases h
noncomputable def inR (m a : Int) : Bool := decide (0 ≤ a) && decide (a ≤ m - 1)
noncomputable def xF (m : Int) (d : D) : Bool := match vM d with
  | some t => inR m t.1 && inR m t.2 && !decide (t.1 = t.2)
  | none => false
noncomputable def WI (p : Option Tie) (t : Tie) : Bool := match p with
  | some q => !leP t q
  | none => true
noncomputable def yg (m : Int) : Option Tie → List D → Bool
  | _, [] => true
  | p, d :: r => match vM d with
    | some t => xF m d && !decide (t.2 < t.1) && WI p t && yg m (some t) r
    | none => false
noncomputable def vv (m : Int) : D → Bool
  | .tup ts => yg m none ts
  | _ => false
noncomputable def wS : D → Bool
  | .tup [.int m, t] => decide (1 ≤ m) && decide (m ≤ 8) && vv m t
  | _ => false
theorem Y2 (m : Int) : ∀ (ts : List D) (p : Option Tie), yg m p ts = true ↔ ∃ l : List Tie, ts = l.map zq ∧ (∀ t ∈ l, 0 ≤ t.1 ∧ t.1 < t.2 ∧ t.2 < m) ∧ (∀ q, p = some q → ∀ t ∈ l, ltP q t) ∧ l.Pairwise ltP := by
  intro ts
  induction ts with
  | nil =>
    intro p
    refine ⟨fun _ => ⟨[], rfl, by simp, by simp, .nil⟩, fun _ => rfl⟩
  | cons d r ih =>
    intro p
    unfold yg
    cases e : vM d with
    | none =>
      refine Iff.intro (fun h => nomatch h) (fun hh => ?_)
      obtain ⟨l, h, _⟩ := hh
      cases l with
      | nil => cases h
      | cons t l' =>
        rw [List.map_cons] at h
        injection h with h1 _
        rw [h1, vo] at e
        cases e
    | some t =>
      have ed := ZP e
      subst ed
      simp only [xF, vo, Bool.and_eq_true, Bool.not_eq_true', decide_eq_false_iff_not, inR, decide_eq_true_eq]
      rw [ih (some t)]
      constructor
      · rintro ⟨⟨⟨⟨⟨h1, h2⟩, h3⟩, h4⟩, h5⟩, l, rfl, hr, hq, hs⟩
        refine ⟨t :: l, rfl, ?_, ?_, List.pairwise_cons.mpr ⟨hq t rfl, hs⟩⟩
        · intro u hu
          rcases List.mem_cons.mp hu with rfl | hu
          · omega
          · exact hr u hu
        · rintro q rfl u hu
          have hqt : ltP q t := Zy.mp (by simpa [WI] using h5)
          rcases List.mem_cons.mp hu with rfl | hu
          · exact hqt
          · exact zfU hqt (hq t rfl u hu)
      · rintro ⟨l, h, hr, hq, hs⟩
        cases l with
        | nil => cases h
        | cons u l' =>
          rw [List.map_cons] at h
          injection h with h1 h2
          have hu := zeq h1
          subst hu
          have hb := hr t (by simp)
          refine ⟨⟨⟨⟨⟨by omega, by omega⟩, by omega⟩, by omega⟩, ?_⟩, l', h2, fun v hv => hr v (by simp [hv]), fun q hqe v hv => ?_, (List.pairwise_cons.mp hs).2⟩
          · cases p with
            | none => rfl
            | some q =>
              have := Zy.mpr (hq q rfl t (by simp))
              simp [WI, this]
          · cases hqe
            exact (List.pairwise_cons.mp hs).1 v hv
theorem wt (d : D) : wS d = true ↔ ∃ m ties, d = zm m ties ∧ Xy m ties := by
  constructor
  · intro h
    unfold wS at h
    split at h
    · rename_i m t
      simp only [Bool.and_eq_true, decide_eq_true_eq] at h
      obtain ⟨⟨h1, h2⟩, h3⟩ := h
      unfold vv at h3
      split at h3
      · rename_i ts
        obtain ⟨l, rfl, hr, _, hs⟩ := (Y2 m ts none).mp h3
        exact ⟨m, l, rfl, h1, h2, hr, hs⟩
      · cases h3
    · cases h
  · rintro ⟨m, ties, rfl, w⟩
    unfold zm wS vv
    simp only [Bool.and_eq_true, decide_eq_true_eq]
    exact ⟨⟨w.lo, w.hi⟩, (Y2 m _ none).mpr ⟨ties, rfl, w.rng, by simp, w.srt⟩⟩
theorem zja {d : D} (h : ∀ m ties, d = zm m ties → ¬ Xy m ties) : wS d = false := by
  cases e : wS d with
  | false => rfl
  | true =>
    obtain ⟨m, ties, rfl, w⟩ := (wt d).mp e
    exact absurd w (h m ties rfl)
noncomputable def ya (n : Nat) : List Tie := (List.range n).flatMap fun a => (List.range (n - (a + 1))).map fun (j : Nat) => ((a : Int), (a : Int) + 1 + (j : Int))
theorem ZN : ∀ n : Nat, n ≤ 8 → (ya n).Pairwise ltP ∧ (∀ t ∈ ya n, 0 ≤ t.1 ∧ t.1 < t.2 ∧ t.2 < (n : Int)) ∧ (ya n).length ≤ 28 := by
  have h : ∀ n : _root_.Fin 9, (ya n.val).Pairwise ltP ∧ (∀ t ∈ ya n.val, 0 ≤ t.1 ∧ t.1 < t.2 ∧ t.2 < (n.val : Int)) ∧ (ya n.val).length ≤ 28 := by decide +kernel
  exact fun n hn => h ⟨n, by omega⟩
end Mz
namespace Mz
open Dl
noncomputable def zbV (i j : Nat) : List Tie := (List.range j).map fun (k : Nat) => ((i : Int), (i : Int) + 1 + (k : Int))
noncomputable def xq (n i : Nat) : List Tie := (List.range i).flatMap fun a => zbV a (n - (a + 1))
theorem ze2 (n : Nat) : ya n = xq n n := rfl
theorem Y3 (n i : Nat) : xq n (i + 1) = xq n i ++ zbV i (n - (i + 1)) := by
  unfold xq
  rw [List.range_succ, List.flatMap_append]
  simp
theorem YZ (i j : Nat) : (zbV i j).length = j := by unfold zbV; simp
theorem zd1 (n : Nat) (hn : n ≤ 8) : ∀ i : Nat, (xq n i).length ≤ 8 * i := by
  intro i
  induction i with
  | zero => simp [xq]
  | succ i ih =>
    rw [Y3, List.length_append, YZ]
    omega
noncomputable def zhz (c k : Int) : Int :=
  let a := (c % 2147483647 + 977 * k + 1) * 48271 % 2147483647
  let b := a * a % 2147483629
  (b + 40692 * (k + 3)) * 69621 % 2147483647 / 8
end Mz
namespace Mz
open Dl
theorem v7 {P : Nat → Prop} : ∀ k, P k → ∃ j, P j ∧ ∀ i, P i → j ≤ i := by
  intro k
  induction k using Nat.strongRecOn with
  | _ k ih =>
    intro h
    by_cases c : ∃ i, i < k ∧ P i
    · obtain ⟨i, hi, h2⟩ := c
      exact ih i hi h2
    · exact ⟨k, h, fun i hi => Nat.le_of_not_lt fun z => c ⟨i, z, hi⟩⟩
theorem Xk (ts : List Tie) : (Z2 ts).Perm ts := List.mergeSort_perm _ _
theorem VI {ts : List Tie} (h : ts.Nodup) : (Z2 ts).Pairwise ltP := by
  have h1 : (Z2 ts).Pairwise fun a b => zjg a b = true := List.pairwise_mergeSort (fun a b c h1 h2 => by rw [x5] at *; omega) (fun a b => by rw [Bool.or_eq_true, x5, x5]; omega) _
  have h2 : (Z2 ts).Nodup := (Xk ts).nodup_iff.mpr h
  refine (h1.and h2).imp fun {a b} hh => ?_
  obtain ⟨x, y⟩ := hh
  rw [x5] at x
  unfold ltP
  rcases x with x | x
  · exact .inl x
  · refine .inr ⟨x.1, ?_⟩
    have : a.2 ≠ b.2 := fun e => y (Prod.ext x.1 e)
    omega
theorem zhj {α : Type} (xs : List α) (lo hi : Option Int) : (zdL xs lo hi).length ≤ xs.length := by
  unfold zdL
  rw [List.length_take, List.length_drop]
  omega
theorem zdy {a b : List D} (h : a.length + b.length ≤ 1000) : vE (.lst a) (.lst b) = some (.lst (a ++ b)) := by
  show (if lim (a.length + b.length) = true then _ else none) = _
  rw [if_pos (Ym h)]
theorem vZ {m : Bool} {i : Nat} {f : Ev → Option D} {ρ ρ' : SE} {d : D} (h : vEv m f ρ = some d) (h2 : ρ.set i (.v d) = ρ' := by rfl) : xY m i f ρ = .nx ρ' := by
  unfold xY
  rw [h, ← h2]
theorem ziz {f : Ev → Option D} {ρ : SE} {d : D} (h : f (visG ρ) = some d) : Yv f ρ = .nx ρ := by
  unfold Yv
  rw [h]
theorem Zt {f : Ev → Option D} {ρ : SE} {d : D} (h : f (visG ρ) = some d) : xf f ρ = .rt d := by
  unfold xf
  rw [h]
theorem zjc {i : Nat} {f : Ev → Option (List D)} {ρ ρ' : SE} {ds : List D} (h : f (visF ρ) = some ds) (h2 : ρ.set i (.o ds) = ρ' := by rfl) : YI i f ρ = .nx ρ' := by
  unfold YI
  rw [h, ← h2]
theorem yR {a b : Int} : neD (.int a) (.int b) = some (.bl (!decide (a = b))) := rfl
theorem XI {a m x : Int} (h : 0 < m) (hx : a % m = x) : 0 ≤ x ∧ x < m := by
  subst hx
  exact ⟨Int.emod_nonneg _ (by omega), Int.emod_lt_of_pos _ h⟩
theorem zj6 {m : Int} {n : Nat} (h : m = ((n + 1 : Nat) : Int)) (h7 : n ≤ 7) : v4 [.int 1, .int m] = some (YD 1 n) := by
  show (if zfi 1 = true ∧ zfi m = true then some (YD 1 (m - 1).toNat) else none) = _
  rw [if_pos ⟨zR.mpr ⟨by omega, by omega⟩, zR.mpr ⟨by omega, by omega⟩⟩, show (m - 1).toNat = n by omega]
theorem yb {a b : Int} : YB (.int a) (.int b) = some (.bl (decide (a = b))) := rfl
theorem yP {a b : Bool} : YB (.bl a) (.bl b) = some (.bl (decide (a = b))) := rfl
theorem yj {a b : PySem.Str} : YB (.str a) (.str b) = some (.bl (decide (a = b))) := rfl
theorem zT {a b : Int} : vE (.int a) (.int b) = some (.int (a + b)) := rfl
end Mz
namespace Mz
open Dl
section
variable {ρ : Ev} {f g h : Ev → Option D} {a : Ev → Option (List D)} {t u : Ev → Option Bool} {d e x y z : D} {ds es : List D} {b c : Bool}
theorem WS : zy ρ = some [] := rfl
theorem wM (h1 : f ρ = some d) (h2 : a ρ = some ds) : zd f a ρ = some (d :: ds) := by unfold zd; rw [h1, h2]; rfl
theorem XR {n : Nat} {p : List D → Option D} (h1 : a ρ = some ds) (h2 : p ds = some d) (hl : ds.length = n := by rfl) : zw n p a ρ = some d := by
  unfold zw
  rw [h1, Option.bind_some, if_pos hl, h2]
theorem zfM {i n : Nat} {p : List D → Option D} {σ σ' : SE} (h1 : a (visF σ) = some ds) (h2 : p ds = some d) (hl : ds.length = n := by rfl) (h3 : σ.set i (.v d) = σ' := by rfl) : xY false i (zw n p a) σ = .nx σ' := vZ (show zw n p a (visF σ) = some d from XR h1 h2 hl) h3
theorem zdT {i : Nat} {f : Ev → Option D} {σ σ' : SE} (h : f (visF σ) = some d) (h3 : σ.set i (.v d) = σ' := by rfl) : xY false i f σ = .nx σ' := vZ (show f (visF σ) = some d from h) h3
theorem wW {k : D → D → Option D} (h1 : f ρ = some x) (h2 : g ρ = some y) (h3 : k x y = some z) : zr k f g ρ = some z := by unfold zr; rw [h1, h2]; exact h3
theorem zhy (h1 : a ρ = some ds) : wV a ρ = some (.lst ds) := by unfold wV; rw [h1]; rfl
theorem zl2 {k : List D → Option D} (h1 : a ρ = some ds) (h2 : k ds = some d) : eFn k a ρ = some d := by unfold eFn; rw [h1]; exact h2
theorem zks (h1 : a ρ = some ds) (hl : ds.length ≤ 1000) : v5 a ρ = some (.tup ds) := by unfold v5; rw [h1, Option.bind_some, if_pos (Ym hl)]
theorem zjt (h1 : f ρ = some d) (h2 : xz d = some ds) : iOf f ρ = some ds := by unfold iOf; rw [h1]; exact h2
theorem zjR (h1 : f ρ = some (.bl b)) : tOf f ρ = some b := by unfold tOf; rw [h1]; rfl
theorem zjW (h1 : t ρ = some b) : xb t ρ = some (!b) := by unfold xb; rw [h1]; rfl
end
end Mz
namespace Mz
open PySem L2 Dl
noncomputable def top (i : Nat) : Stmt := PySem.Challenge.pw_twoforone_k63_need_of_all_places.main.body.getD i (.Pass ⟨0, 0, 0, 0⟩)
noncomputable abbrev xh : Stmt := top 10
noncomputable abbrev zE : Stmt := top 11
noncomputable abbrev zP : Stmt := top 12
noncomputable abbrev zF : Stmt := top 13
noncomputable abbrev zM : Stmt := top 14
noncomputable abbrev xo : Stmt := top 15
noncomputable abbrev xS : Stmt := top 17
noncomputable abbrev xj : Stmt := top 18
noncomputable abbrev wn : Stmt := top 19
noncomputable abbrev yp : Stmt := top 20
noncomputable abbrev zS : Stmt := top 21
noncomputable abbrev yq : Stmt := top 22
noncomputable abbrev yD : Stmt := top 23
noncomputable abbrev yS : Stmt := top 24
noncomputable abbrev wg : Stmt := top 25
noncomputable abbrev yW : Stmt := top 26
noncomputable abbrev yV : Stmt := top 28
noncomputable abbrev xT : Stmt := top 29
noncomputable abbrev zD : Stmt := top 33
noncomputable abbrev zO : Stmt := top 34
noncomputable abbrev vw : Stmt := top 35
noncomputable abbrev xm : Stmt := top 36
noncomputable abbrev yr : Stmt := top 37
noncomputable abbrev zQ : Stmt := top 38
noncomputable abbrev yt : Stmt := top 39
noncomputable abbrev YY : Stmt := top 40
noncomputable abbrev xl : Stmt := top 41
noncomputable abbrev yE : Stmt := top 43
noncomputable abbrev yT : Stmt := top 44
noncomputable abbrev yo : Stmt := top 45
noncomputable abbrev zN : Stmt := top 46
noncomputable abbrev yX : Stmt := top 47
noncomputable abbrev Xn : Stmt := top 48
theorem zbf : zv ["thing"] ["thing"] (ze xh) := ⟨rfl, rfl, rfl, by decide +kernel, rfl, by decide +kernel, by decide +kernel⟩
theorem Yx : zv ["thing", "least", "most"] ["thing", "least", "most"] (ze zE) := ⟨rfl, rfl, rfl, by decide +kernel, rfl, by decide +kernel, by decide +kernel⟩
theorem YK : zv ["thing", "least", "most"] ["thing", "least", "most"] (ze zP) := ⟨rfl, rfl, rfl, by decide +kernel, rfl, by decide +kernel, by decide +kernel⟩
theorem Yr : zv ["many", "most"] ["many", "most"] (ze zF) := ⟨rfl, rfl, rfl, by decide +kernel, rfl, by decide +kernel, by decide +kernel⟩
theorem YH : zv ["thing"] ["thing"] (ze zM) := ⟨rfl, rfl, rfl, by decide +kernel, rfl, by decide +kernel, by decide +kernel⟩
theorem za4 : zv ["many", "thing"] ["many", "thing"] (ze xo) := ⟨rfl, rfl, rfl, by decide +kernel, rfl, by decide +kernel, by decide +kernel⟩
theorem zeb : zv ["many", "thing"] ["many", "thing"] (ze xS) := ⟨rfl, rfl, rfl, by decide +kernel, rfl, by decide +kernel, by decide +kernel⟩
theorem vX : zv ["many", "thing", "at", "tie"] ["many", "thing"] (ze xj) := ⟨rfl, rfl, rfl, by decide +kernel, rfl, by decide +kernel, by decide +kernel⟩
theorem zfB : zv ["thing"] ["thing"] (ze wn) := ⟨rfl, rfl, rfl, by decide +kernel, rfl, by decide +kernel, by decide +kernel⟩
theorem Z8 : zv ["thing"] ["thing"] (ze yp) := ⟨rfl, rfl, rfl, by decide +kernel, rfl, by decide +kernel, by decide +kernel⟩
theorem Zd : zv ["web", "thing"] ["web", "thing"] (ze zS) := ⟨rfl, rfl, rfl, by decide +kernel, rfl, by decide +kernel, by decide +kernel⟩
theorem Z0 : zv ["one", "other"] ["one", "other"] (ze yq) := ⟨rfl, rfl, rfl, by decide +kernel, rfl, by decide +kernel, by decide +kernel⟩
theorem We : zv ["web", "place"] ["web", "place"] (ze yD) := ⟨rfl, rfl, rfl, by decide +kernel, rfl, by decide +kernel, by decide +kernel⟩
theorem yA : zv ["web", "start", "away", "rim", "further", "place", "other"] ["web", "start"] (ze yS) := ⟨rfl, rfl, rfl, by decide +kernel, rfl, by decide +kernel, by decide +kernel⟩
theorem vq : zv ["web", "found", "start", "away", "piece"] ["web"] (ze wg) := ⟨rfl, rfl, rfl, by decide +kernel, rfl, by decide +kernel, by decide +kernel⟩
theorem VW : zv ["web"] ["web"] (ze yW) := ⟨rfl, rfl, rfl, by decide +kernel, rfl, by decide +kernel, by decide +kernel⟩
theorem vt : zv ["web", "found", "place"] ["web"] (ze yV) := ⟨rfl, rfl, rfl, by decide +kernel, rfl, by decide +kernel, by decide +kernel⟩
theorem Xo : zv ["heap", "step", "stones"] ["heap", "step"] (ze xT) := ⟨rfl, rfl, rfl, by decide +kernel, rfl, by decide +kernel, by decide +kernel⟩
theorem Yl : zv ["web"] ["web"] (ze zD) := ⟨rfl, rfl, rfl, by decide +kernel, rfl, by decide +kernel, by decide +kernel⟩
theorem YR : zv ["web", "place", "m"] ["web", "place", "m"] (ze zO) := ⟨rfl, rfl, rfl, by decide +kernel, rfl, by decide +kernel, by decide +kernel⟩
theorem zdn : zv ["heap", "last"] ["heap"] (ze vw) := ⟨rfl, rfl, rfl, by decide +kernel, rfl, by decide +kernel, by decide +kernel⟩
theorem ZL : zv ["heap", "steps", "level", "step"] ["heap", "steps", "level"] (ze xm) := ⟨rfl, rfl, rfl, by decide +kernel, rfl, by decide +kernel, by decide +kernel⟩
theorem xv : zv ["level", "steps", "place", "m", "above", "heap", "more"] ["level", "steps", "place", "m"] (ze yr) := ⟨rfl, rfl, rfl, by decide +kernel, rfl, by decide +kernel, by decide +kernel⟩
theorem ye : zv ["web", "place", "m", "most", "steps", "levels", "level"] ["web", "place", "m", "most"] (ze zQ) := ⟨rfl, rfl, rfl, by decide +kernel, rfl, by decide +kernel, by decide +kernel⟩
theorem Z1 : zv ["web", "place", "m"] ["web", "place", "m"] (ze yt) := ⟨rfl, rfl, rfl, by decide +kernel, rfl, by decide +kernel, by decide +kernel⟩
theorem ziC : zv ["web", "place", "m"] ["web", "place", "m"] (ze YY) := ⟨rfl, rfl, rfl, by decide +kernel, rfl, by decide +kernel, by decide +kernel⟩
theorem vT : zv ["web", "m", "needs", "greatest"] ["web", "m"] (ze xl) := ⟨rfl, rfl, rfl, by decide +kernel, rfl, by decide +kernel, by decide +kernel⟩
theorem xO : zv ["many", "found", "a"] ["many"] (ze yE) := ⟨rfl, rfl, rfl, by decide +kernel, rfl, by decide +kernel, by decide +kernel⟩
theorem wb : zv ["cell", "k", "number"] ["cell", "k"] (ze yT) := ⟨rfl, rfl, rfl, by decide +kernel, rfl, by decide +kernel, by decide +kernel⟩
theorem xt : zv ["many", "cell", "ties", "k", "tie"] ["many", "cell"] (ze yo) := ⟨rfl, rfl, rfl, by decide +kernel, rfl, by decide +kernel, by decide +kernel⟩
theorem yF : zv ["many", "cell", "ties", "k", "tie"] ["many", "cell"] (ze zN) := ⟨rfl, rfl, rfl, by decide +kernel, rfl, by decide +kernel, by decide +kernel⟩
theorem vb : zv ["found", "due", "one", "other"] ["found", "due"] (ze yX) := ⟨rfl, rfl, rfl, by decide +kernel, rfl, by decide +kernel, by decide +kernel⟩
theorem v9 : zv ["script", "cell", "many", "web", "m", "needs", "due", "turn", "found"] ["script"] (ze Xn) := ⟨rfl, rfl, rfl, by decide +kernel, rfl, by decide +kernel, by decide +kernel⟩
set_option genInjectivity false in
set_option genSizeOf false in
set_option genCtorIdx false in
structure Adr where
  f_is_whole : Addr
  e_is_whole : FuncData
  f_is_whole_within : Addr
  e_is_whole_within : FuncData
  f_must_be_within : Addr
  e_must_be_within : FuncData
  f_must_be_at_most : Addr
  e_must_be_at_most : FuncData
  f_is_place_count : Addr
  e_is_place_count : FuncData
  f_is_place : Addr
  e_is_place : FuncData
  f_is_pair : Addr
  e_is_pair : FuncData
  f_are_ties : Addr
  e_are_ties : FuncData
  f_is_web : Addr
  e_is_web : FuncData
  f_must_be_web : Addr
  e_must_be_web : FuncData
  f_must_be_place : Addr
  e_must_be_place : FuncData
  f_tie_between : Addr
  e_tie_between : FuncData
  f_neighbours : Addr
  e_neighbours : FuncData
  f_ties_away : Addr
  e_ties_away : FuncData
  f_pieces : Addr
  e_pieces : FuncData
  f_is_joined : Addr
  e_is_joined : FuncData
  f_all_steps : Addr
  e_all_steps : FuncData
  f_stepped : Addr
  e_stepped : FuncData
  f_must_be_counted : Addr
  e_must_be_counted : FuncData
  f_must_be_wanted : Addr
  e_must_be_wanted : FuncData
  f_grown : Addr
  e_grown : FuncData
  f_leads_to : Addr
  e_leads_to : FuncData
  f_level_above : Addr
  e_level_above : FuncData
  f_failing_levels : Addr
  e_failing_levels : FuncData
  f_all_failing : Addr
  e_all_failing : FuncData
  f_need : Addr
  e_need : FuncData
  f_need_all : Addr
  e_need_all : FuncData
  f__law_pairs : Addr
  e__law_pairs : FuncData
  f__law_stir : Addr
  e__law_stir : FuncData
  f__law_web_by : Addr
  e__law_web_by : FuncData
  f__law_joined_by : Addr
  e__law_joined_by : FuncData
  f__law_same : Addr
  e__law_same : FuncData
  f_law : Addr
  e_law : FuncData
  t_MOST_PLACES : Tok
  t_MOST_STONES : Tok
  t_MOST_WANTED : Tok
  t_MOST_COUNTED : Tok
set_option genInjectivity false in
set_option genSizeOf false in
set_option genCtorIdx false in
structure Txt (K : PySem.W.Frag) (mg : Str → Option Value) (ad : Adr) : Prop where
  d_is_whole : Def K mg "is_whole" xh ["thing"] ad.f_is_whole ad.e_is_whole
  d_is_whole_within : Def K mg "is_whole_within" zE ["thing", "least", "most"] ad.f_is_whole_within ad.e_is_whole_within
  d_must_be_within : Def K mg "must_be_within" zP ["thing", "least", "most"] ad.f_must_be_within ad.e_must_be_within
  d_must_be_at_most : Def K mg "must_be_at_most" zF ["many", "most"] ad.f_must_be_at_most ad.e_must_be_at_most
  d_is_place_count : Def K mg "is_place_count" zM ["thing"] ad.f_is_place_count ad.e_is_place_count
  d_is_place : Def K mg "is_place" xo ["many", "thing"] ad.f_is_place ad.e_is_place
  d_is_pair : Def K mg "is_pair" xS ["many", "thing"] ad.f_is_pair ad.e_is_pair
  d_are_ties : Def K mg "are_ties" xj ["many", "thing"] ad.f_are_ties ad.e_are_ties
  d_is_web : Def K mg "is_web" wn ["thing"] ad.f_is_web ad.e_is_web
  d_must_be_web : Def K mg "must_be_web" yp ["thing"] ad.f_must_be_web ad.e_must_be_web
  d_must_be_place : Def K mg "must_be_place" zS ["web", "thing"] ad.f_must_be_place ad.e_must_be_place
  d_tie_between : Def K mg "tie_between" yq ["one", "other"] ad.f_tie_between ad.e_tie_between
  d_neighbours : Def K mg "neighbours" yD ["web", "place"] ad.f_neighbours ad.e_neighbours
  d_ties_away : Def K mg "ties_away" yS ["web", "start"] ad.f_ties_away ad.e_ties_away
  d_pieces : Def K mg "pieces" wg ["web"] ad.f_pieces ad.e_pieces
  d_is_joined : Def K mg "is_joined" yW ["web"] ad.f_is_joined ad.e_is_joined
  d_all_steps : Def K mg "all_steps" yV ["web"] ad.f_all_steps ad.e_all_steps
  d_stepped : Def K mg "stepped" xT ["heap", "step"] ad.f_stepped ad.e_stepped
  d_must_be_counted : Def K mg "must_be_counted" zD ["web"] ad.f_must_be_counted ad.e_must_be_counted
  d_must_be_wanted : Def K mg "must_be_wanted" zO ["web", "place", "m"] ad.f_must_be_wanted ad.e_must_be_wanted
  d_grown : Def K mg "grown" vw ["heap"] ad.f_grown ad.e_grown
  d_leads_to : Def K mg "leads_to" xm ["heap", "steps", "level"] ad.f_leads_to ad.e_leads_to
  d_level_above : Def K mg "level_above" yr ["level", "steps", "place", "m"] ad.f_level_above ad.e_level_above
  d_failing_levels : Def K mg "failing_levels" zQ ["web", "place", "m", "most"] ad.f_failing_levels ad.e_failing_levels
  d_all_failing : Def K mg "all_failing" yt ["web", "place", "m"] ad.f_all_failing ad.e_all_failing
  d_need : Def K mg "need" YY ["web", "place", "m"] ad.f_need ad.e_need
  d_need_all : Def K mg "need_all" xl ["web", "m"] ad.f_need_all ad.e_need_all
  d__law_pairs : Def K mg "_law_pairs" yE ["many"] ad.f__law_pairs ad.e__law_pairs
  d__law_stir : Def K mg "_law_stir" yT ["cell", "k"] ad.f__law_stir ad.e__law_stir
  d__law_web_by : Def K mg "_law_web_by" yo ["many", "cell"] ad.f__law_web_by ad.e__law_web_by
  d__law_joined_by : Def K mg "_law_joined_by" zN ["many", "cell"] ad.f__law_joined_by ad.e__law_joined_by
  d__law_same : Def K mg "_law_same" yX ["found", "due"] ad.f__law_same ad.e__law_same
  d_law : Def K mg "law" Xn ["script"] ad.f_law ad.e_law
  g_MOST_PLACES : mg "MOST_PLACES" = some (Value.int 8 ad.t_MOST_PLACES)
  g_MOST_STONES : mg "MOST_STONES" = some (Value.int 300 ad.t_MOST_STONES)
  g_MOST_WANTED : mg "MOST_WANTED" = some (Value.int 3 ad.t_MOST_WANTED)
  g_MOST_COUNTED : mg "MOST_COUNTED" = some (Value.int 6 ad.t_MOST_COUNTED)
  z_bool : mg "bool" = none
  z_enumerate : mg "enumerate" = none
  z_int : mg "int" = none
  z_isinstance : mg "isinstance" = none
  z_len : mg "len" = none
  z_list : mg "list" = none
  z_max : mg "max" = none
  z_min : mg "min" = none
  z_range : mg "range" = none
  z_sorted : mg "sorted" = none
  z_str : mg "str" = none
  z_tuple : mg "tuple" = none
  z_zip : mg "zip" = none
theorem zlV : (["other", "web", "place"] : List Str).Nodup := by decide +kernel
theorem zl0 : (["other", "web", "found", "place"] : List Str).Nodup := by decide +kernel
theorem zlM : (["b", "many", "found", "a"] : List Str).Nodup := by decide +kernel
theorem zlu : (["other", "many", "cell", "ties", "k", "tie"] : List Str).Nodup := by decide +kernel
theorem zlO : (["place", "web", "found", "start", "away", "piece"] : List Str).Nodup := by decide +kernel
theorem zlp : (["place", "heap", "last"] : List Str).Nodup := by decide +kernel
theorem zkQ : (["place", "stones", "heap", "last"] : List Str).Nodup := by decide +kernel
theorem zk2 : (["place", "web", "m", "needs", "greatest"] : List Str).Nodup := by decide +kernel
theorem zjx : (["place", "script", "cell", "many", "web", "m", "needs", "due", "turn", "found"] : List Str).Nodup := by decide +kernel
noncomputable def XY : D → Bool
  | .int _ => true
  | _ => false
noncomputable def yk (d : D) (lo hi : Int) : Bool := match d with
  | .int i => decide (lo ≤ i) && decide (i ≤ hi)
  | _ => false
section
variable {P : Program} {w : World} {K : PySem.W.Frag} {mg : Str → Option Value} {base : Heap} {ad : Adr}
noncomputable def wm : List D → Option D
  | [d] => if noS d = true then some (.bl (XY d)) else none
  | _ => none
noncomputable def YM : SE → Ctl :=
  (xf (Ze (eUn (yJ .int) (zf 0)) (Wf (eUn (yJ .bool) (zf 0)))))
noncomputable def zdS : List D → Option D := fnD 1 YM
theorem zje {α : Type} {ds : List α} (h : ds.length = 1) : ∃ a, ds = [a] := by match ds, h with | [a], _ => exact ⟨a, rfl⟩
theorem zg4 {α : Type} {ds : List α} (h : ds.length = 2) : ∃ a b, ds = [a, b] := by match ds, h with | [a, b], _ => exact ⟨a, b, rfl⟩
theorem len3 {α : Type} {ds : List α} (h : ds.length = 3) : ∃ a b c, ds = [a, b, c] := by match ds, h with | [a, b, c], _ => exact ⟨a, b, c, rfl⟩
theorem ifS {c : Bool} {x y : D} (h : (if c = true then some x else none) = some y) : c = true ∧ x = y := by
  split at h
  · cases h
    exact ⟨by assumption, rfl⟩
  · cases h
theorem zaX : ∀ ds d, ds.length = 1 → wm ds = some d → zdS ds = some d := by
  intro ds d hl h
  obtain ⟨a, rfl⟩ := zje hl
  obtain ⟨hn, rfl⟩ := ifS h
  cases a <;> first | rfl | cases hn
theorem zbK (T : Txt K mg ad) : yU P w K mg base CX0 1 ad.f_is_whole ad.e_is_whole ["thing"] (@spD ⟨K⟩ 1 wm) := by
  letI : KK := ⟨K⟩
  refine wa (yL (N := ["thing"]) (ps := ["thing"]) T.d_is_whole.fn zbf (g := YM) fun cdv A outer s H E hr => ?_) zaX
  unfold YM
  exact (zi (zB (Yc (zH .int rfl T.z_isinstance (za 0 (pv 0)) (yG (v := .ty "int") rfl T.z_int zeY rfl)) (ZB (zhJ (zH .bool rfl T.z_isinstance (za 0 (pv 0)) (yG (v := .ty "bool") rfl T.z_bool XS rfl)))))))
noncomputable def yd : SE → Ctl :=
  (xf (Ze (zw 1 wm (zd (zf 0) zy)) (xg leD leD (zf 1) (zf 0) (zf 2))))
noncomputable def wq : List D → Option D := fnD 3 yd
noncomputable def zA : List D → Option D
  | [d, .int lo, .int hi] => if noS d = true then some (.bl (yk d lo hi)) else none
  | _ => none
theorem XE {a : D} {lo hi : Int} (hn : noS a = true) (hw : XY a = false) : wq [a, .int lo, .int hi] = some (.bl false) := by
  have e : wm [a] = some (.bl false) := by
    show (if noS a = true then some (D.bl (XY a)) else none) = _
    rw [if_pos hn, hw]
  refine zek (ρ := [.v a, .v (.int lo), .v (.int hi)]) rfl ?_
  unfold yd
  refine Wh (Zt ?_) rfl
  show (((wm [a]).bind asB).bind fun c => if c = true then _ else some (D.bl false)) = _
  rw [e]
  rfl
theorem Yp : ∀ ds d, ds.length = 3 → zA ds = some d → wq ds = some d := by
  intro ds d hl h
  obtain ⟨a, b, c, rfl⟩ := len3 hl
  cases b <;> try cases h
  cases c <;> try cases h
  rename_i lo hi
  obtain ⟨hn, rfl⟩ := ifS h
  cases a with
  | scr _ => cases hn
  | int i =>
    refine zek (ρ := [.v (.int i), .v (.int lo), .v (.int hi)]) rfl ?_
    unfold yd
    refine Wh (Zt ?_) rfl
    show (if decide (lo ≤ i) = true then some (D.bl (decide (i ≤ hi))) else some (.bl false)) = some (.bl (decide (lo ≤ i) && decide (i ≤ hi)))
    cases decide (lo ≤ i) <;> rfl
  | tup es => exact XE hn rfl
  | lst es => exact XE hn rfl
  | dct z t ks vs => exact XE hn rfl
  | non => rfl
  | bl _ => rfl
  | str _ => rfl
theorem xa (T : Txt K mg ad) : yU P w K mg base CX0 2 ad.f_is_whole_within ad.e_is_whole_within ["thing", "least", "most"] (@spD ⟨K⟩ 3 zA) := by
  letI : KK := ⟨K⟩
  have G_is_whole := zbK (P := P) (w := w) (base := base) T
  refine wa (yL (N := ["thing", "least", "most"]) (ps := ["thing", "least", "most"]) T.d_is_whole_within.fn Yx (g := yd) fun cdv A outer s H E hr => ?_) Yp
  unfold yd
  exact (zi (zB (Yc (zt (G_is_whole.mono (by decide)) hr rfl T.d_is_whole.at_ T.d_is_whole.kp T.d_is_whole.bd (zc (za 0 (pv 0)) zg)) (ZB (zg5 zfO zfO yM yM (za 1 (pv 1)) (za 0 (pv 0)) (za 2 (pv 2)) (fun a b c => zf4 zfO zfO a b c))))))
noncomputable def yN : SE → Ctl :=
  (xf (zw 3 zA (zd (zf 0) (zd (eC (.int 1)) (zd (eC (.int 8)) zy)))))
noncomputable def xI : List D → Option D := fnD 1 yN
noncomputable def yn : List D → Option D
  | [d] => if noS d = true then some (.bl (yk d 1 8)) else none
  | _ => none
theorem YW : ∀ ds d, ds.length = 1 → yn ds = some d → xI ds = some d := by
  intro ds d hl h
  obtain ⟨a, rfl⟩ := zje hl
  have e : xI [a] = zA [a, .int 1, .int 8] := by
    cases h2 : zA [a, .int 1, .int 8] <;> simp [xI, yN, fnD, zW, xf, vP, sIf, xY, Yv, sNo, yf, zcq, YI, Zf, Wg, Z6, vEv, visF, visG, Sl.f, Sl.g, zf, eC, zr, Ze, eOr, Wf, eIf, eUn, zcv, v5, wV, xi, zd, zy, zw, eFn, fFn, tOf, xy, Xu, xb, asB, asI, zT, XL, vO, yQ, xL, ZV, wo, ltD, leD, gtD, geD, Xr, yb, yP, yj, yR, Xa, yw, ixD, YE, yJ, isT, eSl, wG, wL, xg, xz, iOf, YC, xA, vN, wl, v4, yZ, vd, fLC, xn, yB, wy, yH, Xt, xZ, X9, b1, b2, h2]
  rw [e]
  exact h
theorem YF (T : Txt K mg ad) : yU P w K mg base CX0 3 ad.f_is_place_count ad.e_is_place_count ["thing"] (@spD ⟨K⟩ 1 yn) := by
  letI : KK := ⟨K⟩
  have G_is_whole_within := xa (P := P) (w := w) (base := base) T
  refine wa (yL (N := ["thing"]) (ps := ["thing"]) T.d_is_place_count.fn YH (g := yN) fun cdv A outer s H E hr => ?_) YW
  unfold yN
  exact (zi (zB (zt (G_is_whole_within.mono (by decide)) hr rfl T.d_is_whole_within.at_ T.d_is_whole_within.kp T.d_is_whole_within.bd (zc (za 0 (pv 0)) (zc (zk zn) (zc (zk (Xz (v := .int 8) rfl T.g_MOST_PLACES ⟨_, rfl⟩)) zg))))))
noncomputable def vy : SE → Ctl :=
  (xf (zw 3 zA (zd (zf 1) (zd (eC (.int 0)) (zd (zr XL (zf 0) (eC (.int 1))) zy)))))
noncomputable def YL : List D → Option D := fnD 2 vy
noncomputable def yu : List D → Option D
  | [.int m, d] => if noS d = true then some (.bl (yk d 0 (m - 1))) else none
  | _ => none
theorem zbE : ∀ ds d, ds.length = 2 → yu ds = some d → YL ds = some d := by
  intro ds d hl h
  obtain ⟨a, b, rfl⟩ := zg4 hl
  cases a <;> try cases h
  rename_i m
  have e : YL [.int m, b] = zA [b, .int 0, .int (m - 1)] := by
    cases h2 : zA [b, .int 0, .int (m - 1)] <;> simp [YL, vy, fnD, zW, xf, vP, sIf, xY, Yv, sNo, yf, zcq, YI, Zf, Wg, Z6, vEv, visF, visG, Sl.f, Sl.g, zf, eC, zr, Ze, eOr, Wf, eIf, eUn, zcv, v5, wV, xi, zd, zy, zw, eFn, fFn, tOf, xy, Xu, xb, asB, asI, zT, XL, vO, yQ, xL, ZV, wo, ltD, leD, gtD, geD, Xr, yb, yP, yj, yR, Xa, yw, ixD, YE, yJ, isT, eSl, wG, wL, xg, xz, iOf, YC, xA, vN, wl, v4, yZ, vd, fLC, xn, yB, wy, yH, Xt, xZ, X9, b1, b2, h2]
  rw [e]
  exact h
theorem Zx (T : Txt K mg ad) : yU P w K mg base CX0 3 ad.f_is_place ad.e_is_place ["many", "thing"] (@spD ⟨K⟩ 2 yu) := by
  letI : KK := ⟨K⟩
  have G_is_whole_within := xa (P := P) (w := w) (base := base) T
  refine wa (yL (N := ["many", "thing"]) (ps := ["many", "thing"]) T.d_is_place.fn za4 (g := vy) fun cdv A outer s H E hr => ?_) zbE
  unfold vy
  exact (zi (zB (zt (G_is_whole_within.mono (by decide)) hr rfl T.d_is_whole_within.at_ T.d_is_whole_within.kp T.d_is_whole_within.bd (zc (za 1 (pv 1)) (zc (zk zn) (zc (zeZ (za 0 (pv 0)) (zk zn)) zg))))))
theorem zcs {m i : Int} : yk (.int i) 0 (m - 1) = inR m i := rfl
theorem ziZ {d : D} {lo hi : Int} (h : ∀ i, d ≠ .int i) : yk d lo hi = false := by
  cases d <;> first | rfl | exact absurd rfl (h _)
theorem VO {d : D} {lo hi : Int} (h : yk d lo hi = true) : ∃ i, d = .int i := by
  cases d with
  | int i => exact ⟨i, rfl⟩
  | _ => cases h
noncomputable def Yh : SE → Ctl :=
  (zW (sIf (Xu (xb (tOf (eUn (yJ .tuple) (zf 1)))) (tOf (zr neD (eFn YE (zd (zf 1) zy)) (eC (.int 2))))) (xf (eC (.bl false))) yf)
    (xf (Ze (zw 2 yu (zd (zf 0) (zd (zr ixD (zf 1) (eC (.int 0))) zy))) (Ze (zw 2 yu (zd (zf 0) (zd (zr ixD (zf 1) (eC (.int 1))) zy))) (zr neD (zr ixD (zf 1) (eC (.int 0))) (zr ixD (zf 1) (eC (.int 1))))))))
noncomputable def zeT : List D → Option D := fnD 2 Yh
noncomputable def xU : List D → Option D
  | [.int m, d] => if noS d = true then some (.bl (xF m d)) else none
  | _ => none
theorem zhg {m : Int} {x y : D} (h : yk x 0 (m - 1) = false) : xF m (.tup [x, y]) = false := by
  cases x with
  | int i =>
    cases y with
    | int j =>
      show (inR m i && inR m j && !decide (i = j)) = false
      rw [show inR m i = false from h]
      rfl
    | _ => rfl
  | _ => rfl
theorem zgQ {m : Int} {x y : D} (h : yk y 0 (m - 1) = false) : xF m (.tup [x, y]) = false := by
  cases x with
  | int i =>
    cases y with
    | int j =>
      show (inR m i && inR m j && !decide (i = j)) = false
      rw [show inR m j = false from h, Bool.and_false]
      rfl
    | _ => rfl
  | _ => rfl
theorem zd7 : ∀ ds d, ds.length = 2 → xU ds = some d → zeT ds = some d := by
  intro ds d hl h
  obtain ⟨a, b, rfl⟩ := zg4 hl
  cases a <;> try cases h
  rename_i m
  obtain ⟨hn, rfl⟩ := ifS h
  clear h
  cases b with
  | tup es =>
    refine zek (ρ := [.v (.int m), .v (.tup es)]) rfl ?_
    unfold Yh
    by_cases hl : es.length = 2
    · obtain ⟨x, y, rfl⟩ := zg4 hl
      have hx : noS x = true := vB (ds := [x, y]) (i := 0) hn rfl
      have hy : noS y = true := vB (ds := [x, y]) (i := 1) hn rfl
      have e0 : yu [.int m, x] = some (.bl (yk x 0 (m - 1))) := by
        show (if noS x = true then some (D.bl (yk x 0 (m - 1))) else none) = _
        rw [if_pos hx]
      have e1 : yu [.int m, y] = some (.bl (yk y 0 (m - 1))) := by
        show (if noS y = true then some (D.bl (yk y 0 (m - 1))) else none) = _
        rw [if_pos hy]
      refine zZ (ρ' := [.v (.int m), .v (.tup [x, y])]) rfl (Wh (Zt ?_) rfl)
      show (((yu [.int m, x]).bind asB).bind fun c => if c = true then (((yu [.int m, y]).bind asB).bind fun c => if c = true then neD x y else some (D.bl false)) else some (D.bl false)) = _
      rw [e0, e1]
      cases h1 : yk x 0 (m - 1) with
      | false => rw [zhg h1]; rfl
      | true =>
        cases h2 : yk y 0 (m - 1) with
        | false => rw [zgQ h2]; rfl
        | true =>
          obtain ⟨i, rfl⟩ := VO h1
          obtain ⟨j, rfl⟩ := VO h2
          show some (D.bl (!decide (i = j))) = some (.bl (inR m i && inR m j && !decide (i = j)))
          rw [show inR m i = true from h1, show inR m j = true from h2]
          rfl
    · have e : xF m (.tup es) = false := by
        unfold xF vM
        split
        · rename_i t ht
          split at ht
          · rename_i e'
            injection e' with e'
            rw [e'] at hl
            exact absurd rfl hl
          · cases ht
        · rfl
      rw [e]
      refine vU (zd9 (c := true) ?_ (fun _ => Wh rfl rfl) fun z => by cases z)
      show some (!decide ((es.length : Int) = 2)) = _
      rw [decide_eq_false (show ¬ (es.length : Int) = 2 from fun h => hl (Int.ofNat.inj h))]
      rfl
  | scr _ => cases hn
  | _ => rfl
theorem zec (T : Txt K mg ad) : yU P w K mg base CX0 4 ad.f_is_pair ad.e_is_pair ["many", "thing"] (@spD ⟨K⟩ 2 xU) := by
  letI : KK := ⟨K⟩
  have G_is_place := Zx (P := P) (w := w) (base := base) T
  refine wa (yL (N := ["many", "thing"]) (ps := ["many", "thing"]) T.d_is_pair.fn zeb (g := Yh) fun cdv A outer s H E hr => ?_) zd7
  unfold Yh
  exact (zh (xQ (zfW (zgo (vK (x8 (zH .tuple rfl T.z_isinstance (za 1 (pv 1)) (yG (v := .ty "tuple") rfl T.z_tuple xu rfl)))) (zdw (zV zeh Xl (zG _) (yc zK we rfl T.z_len wX (zc (za 1 (pv 1)) zg)) (zk zn))))) (zi (zB (vY vD))) zJ)
      (zi (zB (Yc (zt (G_is_place.mono (by decide)) hr rfl T.d_is_place.at_ T.d_is_place.kp T.d_is_place.bd (zc (za 0 (pv 0)) (zc (yi (za 1 (pv 1)) (zk zn) (fun _ _ => rfl)) zg))) (Yc (zt (G_is_place.mono (by decide)) hr rfl T.d_is_place.at_ T.d_is_place.kp T.d_is_place.bd (zc (za 0 (pv 0)) (zc (yi (za 1 (pv 1)) (zk zn) (fun _ _ => rfl)) zg))) (ZB (Xb zeh Xl (zG _) (yi (za 1 (pv 1)) (zk zn) (fun _ _ => rfl)) (yi (za 1 (pv 1)) (zk zn) (fun _ _ => rfl)))))))))
end
section
variable {P : Program} {w : World} {K : PySem.W.Frag} {mg : Str → Option Value} {base : Heap} {ad : Adr}
noncomputable def W9 (ds : List D) : Nat → Option Tie
  | 0 => none
  | k + 1 => (ds[k]?).bind vM
noncomputable def vc : SE → Ctl :=
  (zW (sIf (Xu (xb (tOf (zw 2 xU (zd (zf 0) (zd (zf 3) zy))))) (tOf (zr gtD (zr ixD (zf 3) (eC (.int 0))) (zr ixD (zf 3) (eC (.int 1)))))) (xf (eC (.bl false))) yf)
    (sIf (xy (tOf (zr gtD (zf 2) (eC (.int 0)))) (tOf (zr leT (zf 3) (zr ixD (zf 1) (zr XL (zf 2) (eC (.int 1))))))) (xf (eC (.bl false))) yf))
noncomputable def wA : SE → Ctl :=
  (zW (sIf (xb (tOf (eUn (yJ .tuple) (zf 1)))) (xf (eC (.bl false))) yf)
    (zW (YC (yZ (zd (zf 1) zy)) (Xt 2 (xZ (yH 2) (xZ (yH 3) X9))) vc)
    (xf (eC (.bl true)))))
noncomputable def zdV : List D → Option D := fnD 4 wA
noncomputable def ww : List D → Option D
  | [.int m, d] => if noS d = true then some (.bl (vv m d)) else none
  | _ => none
theorem Z9 {m : Int} {d : D} (h : xF m d = true) : ∃ t, d = zq t := by
  unfold xF at h
  split at h
  · rename_i t ht
    exact ⟨t, ZP ht⟩
  · cases h
theorem zcy : ∀ ds d, ds.length = 2 → ww ds = some d → zdV ds = some d := by
  intro ds d hl h
  obtain ⟨a, b, rfl⟩ := zg4 hl
  cases a <;> try cases h
  rename_i m
  obtain ⟨hn, rfl⟩ := ifS h
  clear h hl
  cases b with
  | scr _ => cases hn
  | tup es =>
    refine zek (g := wA) rfl ?_
    unfold wA
    refine zZ rfl ?_
    refine vU (zfp (ds := ZY 0 es) (fun i ρ => ∃ o1 o2, ρ = [.v (.int m), .v (.tup es), o1, o2] ∧ yg m none es = yg m (W9 es i) (es.drop i) ∧ ∀ k, i = k + 1 → ∃ p, es[k]? = some (zq p)) rfl
      ⟨.no, .no, rfl, rfl, fun k e => by cases e⟩ ?_ ?_)
    · rintro i d ρ hd ⟨o1, o2, rfl, hp, hk⟩
      rw [v8] at hd
      obtain ⟨dx, hdx, rfl⟩ := Option.map_eq_some_iff.mp hd
      rw [Nat.zero_add]
      refine ⟨_, rfl, ?_⟩
      have hdrop : es.drop i = dx :: es.drop (i + 1) := by
        obtain ⟨h1, h2⟩ := List.getElem?_eq_some_iff.mp hdx
        rw [List.drop_eq_getElem_cons h1, h2]
      have hnx : noS dx = true := vB hn hdx
      unfold vc
      cases hpr : xF m dx with
      | false =>
        have e1 : xU [.int m, dx] = some (.bl false) := by
          show (if noS dx = true then some (D.bl (xF m dx)) else none) = _
          rw [if_pos hnx, hpr]
        refine vU (zd9 (c := true) (show (((xU [.int m, dx]).bind asB).map (!·)).bind (fun c => if c = true then some true else _) = _ by rw [e1]; rfl) (fun _ => Wh rfl ?_) (fun z => by cases z))
        have e : yg m none es = false := by
          rw [hp, hdrop]
          unfold yg
          split
          · rw [hpr]; rfl
          · rfl
        show D.bl false = .bl (yg m none es)
        rw [e]
      | true =>
        obtain ⟨t, rfl⟩ := Z9 hpr
        have e1 : xU [.int m, zq t] = some (.bl true) := by
          show (if noS (zq t) = true then some (D.bl (xF m (zq t))) else none) = _
          rw [if_pos hnx, hpr]
        have step : yg m none es = (!decide (t.2 < t.1) && WI (W9 es i) t && yg m (some t) (es.drop (i + 1))) := by
          rw [hp, hdrop]
          conv => lhs; unfold yg
          rw [vo, hpr]
          rfl
        have prevS : W9 es (i + 1) = some t := by
          show (es[i]?).bind vM = some t
          rw [hdx]
          rfl
        refine vU (zd9 (c := decide (t.2 < t.1)) (show (((xU [.int m, zq t]).bind asB).map (!·)).bind (fun c => if c = true then some true else some (decide (t.2 < t.1))) = _ by rw [e1]; rfl) (fun c => Wh rfl ?_) (fun c => Va rfl ?_))
        · show D.bl false = .bl (yg m none es)
          rw [step, c]
          rfl
        · cases i with
          | zero =>
            refine zd9 (c := false) rfl (fun z => by cases z) (fun _ => Va rfl ?_)
            refine ⟨_, _, rfl, ?_, fun k e => ?_⟩
            · rw [prevS, step, c]
              rfl
            · cases e
              exact ⟨t, hdx⟩
          | succ j =>
            obtain ⟨p, hpk⟩ := hk j rfl
            have prevK : W9 es (j + 1) = some p := by
              show (es[j]?).bind vM = some p
              rw [hpk]
              rfl
            rw [prevK] at step
            have ea : atI es ((((j + 1 : Nat) : Int)) - 1) = some (zq p) := by
              rw [show (((j + 1 : Nat) : Int)) - 1 = (j : Nat) from Int.add_sub_cancel (j : Int) 1]
              exact zfg hpk
            have okP : WI (some p) t = !leP t p := rfl
            refine zd9 (c := leP t p) ?_ (fun c2 => Wh rfl ?_) (fun c2 => Va rfl ?_)
            · have z : decide ((0 : Int) < ((j + 1 : Nat) : Int)) = true := decide_eq_true (Int.natCast_pos.mpr (Nat.succ_pos j))
              show ((some (decide ((0 : Int) < ((j + 1 : Nat) : Int)))).bind fun c => if c = true then (((atI es (((j + 1 : Nat) : Int) - 1)).bind fun y => leT (zq t) y).bind asB) else some false) = _
              rw [z, ea]
              rfl
            · show D.bl false = .bl (yg m none es)
              rw [step, okP, c2, c]
              rfl
            · refine ⟨_, _, rfl, ?_, fun k' e => ?_⟩
              · rw [prevS, step, okP, c2, c]
                rfl
              · cases e
                exact ⟨t, hdx⟩
    · rintro ρ ⟨o1, o2, rfl, hp, hk⟩
      refine Wh rfl ?_
      show D.bl true = .bl (yg m none es)
      rw [hp, vp, List.drop_length]
      cases W9 es es.length <;> rfl
  | _ => rfl
theorem zbQ (T : Txt K mg ad) : yU P w K mg base CX0 5 ad.f_are_ties ad.e_are_ties ["many", "thing"] (@spD ⟨K⟩ 2 ww) := by
  letI : KK := ⟨K⟩
  have G_is_pair := zec (P := P) (w := w) (base := base) T
  refine wa (yL (N := ["many", "thing", "at", "tie"]) (ps := ["many", "thing"]) T.d_are_ties.fn vX (g := wA) fun cdv A outer s H E hr => ?_) zcy
  unfold wA vc
  exact (zh (xQ (vK (x8 (zH .tuple rfl T.z_isinstance (za 1 (pv 1)) (yG (v := .ty "tuple") rfl T.z_tuple xu rfl)))) (zi (zB (vY vD))) zJ)
      (zh (Yi PassesOwn.never rfl (zc4 rfl T.z_enumerate ve (zc (za 1 (pv 1)) zg)) (zfq rfl (vC (yy (zC (i := 2) vX.nd rfl (Or.inl rfl))) (vC (yy (zC (i := 3) vX.nd rfl (Or.inl rfl))) zbT))) (zh (xQ (zfW (zgo (vK (x8 (zt (G_is_pair.mono (by decide)) hr rfl T.d_is_pair.at_ T.d_is_pair.kp T.d_is_pair.bd (zc (za 0 (pv 0)) (zc (za 3 (pv 3)) zg))))) (zdw (zV zdU yM (zG _) (yi (za 3 (pv 3)) (zk zn) (fun _ _ => rfl)) (yi (za 3 (pv 3)) (zk zn) (fun _ _ => rfl)))))) (zi (zB (vY vD))) zJ)
      (zi (xQ (zfW (Xj (zV zdU yM (zG _) (za 2 (pv 2)) (zk zn)) (YU (zV (zju hr.units0) zib (zG _) (za 3 (pv 3)) (yi (za 1 (pv 1)) (zeZ (za 2 (pv 2)) (zk zn)) (fun _ _ => rfl)))))) (zi (zB (vY vD))) zJ))))
      (zi (zB (vY vD)))))
noncomputable def vx : SE → Ctl :=
  (zW (sIf (Xu (xb (tOf (eUn (yJ .tuple) (zf 0)))) (tOf (zr neD (eFn YE (zd (zf 0) zy)) (eC (.int 2))))) (xf (eC (.bl false))) yf)
    (xf (Ze (zw 1 yn (zd (zr ixD (zf 0) (eC (.int 0))) zy)) (zw 2 ww (zd (zr ixD (zf 0) (eC (.int 0))) (zd (zr ixD (zf 0) (eC (.int 1))) zy))))))
noncomputable def Zo : List D → Option D := fnD 1 vx
noncomputable def Ye : List D → Option D
  | [d] => if noS d = true then some (.bl (wS d)) else none
  | _ => none
theorem zfK {x y : D} : wS (.tup [x, y]) = (yk x 1 8 && match x with | .int m => vv m y | _ => false) := by
  cases x <;> rfl
theorem zfo : ∀ ds d, ds.length = 1 → Ye ds = some d → Zo ds = some d := by
  intro ds d hl h
  obtain ⟨a, rfl⟩ := zje hl
  obtain ⟨hn, rfl⟩ := ifS h
  clear h hl
  cases a with
  | scr _ => cases hn
  | tup es =>
    by_cases hl : es.length = 2
    · obtain ⟨x, y, rfl⟩ := zg4 hl
      have hx : noS x = true := vB (ds := [x, y]) (i := 0) hn rfl
      have hy : noS y = true := vB (ds := [x, y]) (i := 1) hn rfl
      have ec : yn [x] = some (.bl (yk x 1 8)) := by simp [yn, hx]
      rw [zfK]
      by_cases ix : ∃ i, x = .int i
      · obtain ⟨i, rfl⟩ := ix
        have et : ww [.int i, y] = some (.bl (vv i y)) := by simp [ww, hy]
        cases hc : yk (.int i) 1 8 <;> rw [hc] at ec <;> simp [Zo, vx, fnD, zW, xf, vP, sIf, xY, Yv, sNo, yf, zcq, YI, Zf, Wg, Z6, vEv, visF, visG, Sl.f, Sl.g, zf, eC, zr, Ze, eOr, Wf, eIf, eUn, zcv, v5, wV, xi, zd, zy, zw, eFn, fFn, tOf, xy, Xu, xb, asB, asI, zT, XL, vO, yQ, xL, ZV, wo, ltD, leD, gtD, geD, Xr, yb, yP, yj, yR, Xa, yw, ixD, YE, yJ, isT, eSl, wG, wL, xg, xz, iOf, YC, xA, vN, wl, v4, yZ, vd, fLC, xn, yB, wy, yH, Xt, xZ, X9, b1, b2, ec, et, atI, ixN]
      · have n2 : yk x 1 8 = false := ziZ fun j hj => ix ⟨j, hj⟩
        rw [n2] at ec ⊢
        simp [Zo, vx, fnD, zW, xf, vP, sIf, xY, Yv, sNo, yf, zcq, YI, Zf, Wg, Z6, vEv, visF, visG, Sl.f, Sl.g, zf, eC, zr, Ze, eOr, Wf, eIf, eUn, zcv, v5, wV, xi, zd, zy, zw, eFn, fFn, tOf, xy, Xu, xb, asB, asI, zT, XL, vO, yQ, xL, ZV, wo, ltD, leD, gtD, geD, Xr, yb, yP, yj, yR, Xa, yw, ixD, YE, yJ, isT, eSl, wG, wL, xg, xz, iOf, YC, xA, vN, wl, v4, yZ, vd, fLC, xn, yB, wy, yH, Xt, xZ, X9, b1, b2, ec, atI, ixN]
    · have e : wS (.tup es) = false := zja fun m ties h _ => by
        unfold zm at h
        injection h with h
        rw [h] at hl
        exact hl rfl
      rw [e]
      have : ¬ (es.length : Int) = 2 := by omega
      simp [Zo, vx, fnD, zW, xf, vP, sIf, xY, Yv, sNo, yf, zcq, YI, Zf, Wg, Z6, vEv, visF, visG, Sl.f, Sl.g, zf, eC, zr, Ze, eOr, Wf, eIf, eUn, zcv, v5, wV, xi, zd, zy, zw, eFn, fFn, tOf, xy, Xu, xb, asB, asI, zT, XL, vO, yQ, xL, ZV, wo, ltD, leD, gtD, geD, Xr, yb, yP, yj, yR, Xa, yw, ixD, YE, yJ, isT, eSl, wG, wL, xg, xz, iOf, YC, xA, vN, wl, v4, yZ, vd, fLC, xn, yB, wy, yH, Xt, xZ, X9, b1, b2, this]
  | _ => rfl
theorem zfN (T : Txt K mg ad) : yU P w K mg base CX0 6 ad.f_is_web ad.e_is_web ["thing"] (@spD ⟨K⟩ 1 Ye) := by
  letI : KK := ⟨K⟩
  have G_is_place_count := YF (P := P) (w := w) (base := base) T
  have G_are_ties := zbQ (P := P) (w := w) (base := base) T
  refine wa (yL (N := ["thing"]) (ps := ["thing"]) T.d_is_web.fn zfB (g := vx) fun cdv A outer s H E hr => ?_) zfo
  unfold vx
  exact (zh (xQ (zfW (zgo (vK (x8 (zH .tuple rfl T.z_isinstance (za 0 (pv 0)) (yG (v := .ty "tuple") rfl T.z_tuple xu rfl)))) (zdw (zV zeh Xl (zG _) (yc zK we rfl T.z_len wX (zc (za 0 (pv 0)) zg)) (zk zn))))) (zi (zB (vY vD))) zJ)
      (zi (zB (Yc (zt (G_is_place_count.mono (by decide)) hr rfl T.d_is_place_count.at_ T.d_is_place_count.kp T.d_is_place_count.bd (zc (yi (za 0 (pv 0)) (zk zn) (fun _ _ => rfl)) zg)) (ZB (zt (G_are_ties.mono (by decide)) hr rfl T.d_are_ties.at_ T.d_are_ties.kp T.d_are_ties.bd (zc (yi (za 0 (pv 0)) (zk zn) (fun _ _ => rfl)) (zc (yi (za 0 (pv 0)) (zk zn) (fun _ _ => rfl)) zg))))))))
theorem zhX (m : Int) (ts : List Tie) : noS (zm m ts) = true := by
  have : ∀ ts : List Tie, zhM (ts.map zq) = true := by
    intro ts
    induction ts with
    | nil => rfl
    | cons t ts ih => show (noS (zq t) && zhM (ts.map zq)) = true; rw [ih]; rfl
  show (noS (.int m) && (noS (.tup (ts.map zq)) && true)) = true
  rw [show noS (.tup (ts.map zq)) = zhM (ts.map zq) from rfl, this ts]
  rfl
noncomputable def xN : SE → Ctl :=
  (sIf (xb (tOf (zw 1 Ye (zd (zf 0) zy)))) sNo yf)
noncomputable def Yj : List D → Option D := fnD 1 xN
noncomputable def yh : List D → Option D
  | [d] => if wS d = true then some .non else none
  | _ => none
theorem Z3 : ∀ ds d, ds.length = 1 → yh ds = some d → Yj ds = some d := by
  intro ds d hl h
  obtain ⟨a, rfl⟩ := zje hl
  obtain ⟨hw, rfl⟩ := ifS h
  obtain ⟨m, ts, rfl, _⟩ := (wt a).mp hw
  have e : Ye [zm m ts] = some (.bl true) := by simp [Ye, zhX m ts, hw]
  simp [Yj, xN, fnD, zW, xf, vP, sIf, xY, Yv, sNo, yf, zcq, YI, Zf, Wg, Z6, vEv, visF, visG, Sl.f, Sl.g, zf, eC, zr, Ze, eOr, Wf, eIf, eUn, zcv, v5, wV, xi, zd, zy, zw, eFn, fFn, tOf, xy, Xu, xb, asB, asI, zT, XL, vO, yQ, xL, ZV, wo, ltD, leD, gtD, geD, Xr, yb, yP, yj, yR, Xa, yw, ixD, YE, yJ, isT, eSl, wG, wL, xg, xz, iOf, YC, xA, vN, wl, v4, yZ, vd, fLC, xn, yB, wy, yH, Xt, xZ, X9, b1, b2, e]
theorem wf (T : Txt K mg ad) : yU P w K mg base CX0 7 ad.f_must_be_web ad.e_must_be_web ["thing"] (@spD ⟨K⟩ 1 yh) := by
  letI : KK := ⟨K⟩
  have G_is_web := zfN (P := P) (w := w) (base := base) T
  refine wa (yL (N := ["thing"]) (ps := ["thing"]) T.d_must_be_web.fn Z8 (g := xN) fun cdv A outer s H E hr => ?_) Z3
  unfold xN
  exact (zi (xQ (vK (x8 (zt (G_is_web.mono (by decide)) hr rfl T.d_is_web.at_ T.d_is_web.kp T.d_is_web.bd (zc (za 0 (pv 0)) zg)))) (zi Ys) zJ))
end
section
variable {P : Program} {w : World} {K : PySem.W.Frag} {mg : Str → Option Value} {base : Heap} {ad : Adr}
noncomputable def ziF : D → Bool
  | .int i => decide (0 ≤ i)
  | _ => false
noncomputable def zkn (m : Int) : D → Bool
  | .tup ds => decide ((ds.length : Int) = m) && ds.all ziF
  | _ => false
end
section
variable {P : Program} {w : World} {K : PySem.W.Frag} {mg : Str → Option Value} {base : Heap} {ad : Adr}
theorem zdt {m : Int} {ts : List Tie} (h : Xy m ts) : wl [.int m] = some (YD 0 m.toNat) := by
  have := h.lo
  have := h.hi
  show (if zfi m = true then some (YD 0 m.toNat) else none) = _
  rw [if_pos (zR.mpr ⟨by omega, by omega⟩)]
noncomputable def zhU : D → Int
  | .tup [.int m, _] => m
  | _ => 0
noncomputable def ziI : D → List Tie
  | .tup [_, .tup l] => (XD l).getD []
  | _ => []
theorem ZS (m : Int) (ts : List Tie) : zhU (zm m ts) = m := rfl
theorem zeX (ts : List Tie) : ts.map zq = ts.map prD := rfl
theorem ZD (m : Int) (ts : List Tie) : ziI (zm m ts) = ts := by
  show (XD (ts.map zq)).getD [] = ts
  rw [zeX, VV]
  rfl
noncomputable def zk8 (a b : Int) : Tie := (if b < a then b else a, if b > a then b else a)
noncomputable def y9 : SE → Ctl :=
  (sIf (xb (tOf (zw 2 yu (zd (zr ixD (zf 0) (eC (.int 0))) (zd (zf 1) zy))))) sNo yf)
noncomputable def vn : List D → Option D := fnD 2 y9
noncomputable def y4 : List D → Option D
  | [.tup [.int m, _], .int p] => if (decide (0 ≤ p) && decide (p ≤ m - 1)) = true then some .non else none
  | _ => none
theorem Zc : ∀ ds d, ds.length = 2 → y4 ds = some d → vn ds = some d := by
  intro ds d hl h
  obtain ⟨a, b, rfl⟩ := zg4 hl
  unfold y4 at h
  split at h
  · rename_i m t p' e
    injection e with e1 e2
    injection e2 with e2 _
    subst e1 e2
    obtain ⟨hn, rfl⟩ := ifS h
    have ec : yu [.int m, .int p'] = some (.bl true) := by
      show (if noS (.int p') = true then some (D.bl (yk (.int p') 0 (m - 1))) else none) = _
      rw [if_pos (show noS (.int p') = true from rfl), zcs]
      unfold inR
      rw [hn]
    simp [vn, y9, fnD, zW, xf, vP, sIf, xY, Yv, sNo, yf, zcq, YI, Zf, Wg, Z6, vEv, visF, visG, Sl.f, Sl.g, zf, eC, zr, Ze, eOr, Wf, eIf, eUn, zcv, v5, wV, xi, zd, zy, zw, eFn, fFn, tOf, xy, Xu, xb, asB, asI, zT, XL, vO, yQ, xL, ZV, wo, ltD, leD, gtD, geD, Xr, yb, yP, yj, yR, Xa, yw, ixD, YE, yJ, isT, eSl, wG, wL, xg, xz, iOf, YC, xA, vN, wl, v4, yZ, vd, fLC, xn, yB, wy, yH, Xt, xZ, X9, b1, b2, ec, atI, ixN]
  · cases h
theorem Zi (T : Txt K mg ad) : yU P w K mg base CX0 4 ad.f_must_be_place ad.e_must_be_place ["web", "thing"] (@spD ⟨K⟩ 2 y4) := by
  letI : KK := ⟨K⟩
  have G_is_place := Zx (P := P) (w := w) (base := base) T
  refine wa (yL (N := ["web", "thing"]) (ps := ["web", "thing"]) T.d_must_be_place.fn Zd (g := y9) fun cdv A outer s H E hr => ?_) Zc
  unfold y9
  exact (zi (xQ (vK (x8 (zt (G_is_place.mono (by decide)) hr rfl T.d_is_place.at_ T.d_is_place.kp T.d_is_place.bd (zc (yi (za 0 (pv 0)) (zk zn) (fun _ _ => rfl)) (zc (za 1 (pv 1)) zg))))) (zi Ys) zJ))
noncomputable def wN : SE → Ctl :=
  (xf (v5 (zd (eFn zkv (zd (zf 0) (zd (zf 1) zy))) (zd (eFn zkJ (zd (zf 0) (zd (zf 1) zy))) zy))))
noncomputable def XV : List D → Option D := fnD 2 wN
noncomputable def y3 : List D → Option D
  | [.int a, .int b] => some (zq (zk8 a b))
  | _ => none
theorem Z7 : ∀ ds d, ds.length = 2 → y3 ds = some d → XV ds = some d := by
  intro ds d hl h
  obtain ⟨a, b, rfl⟩ := zg4 hl
  cases a <;> try cases h
  cases b <;> try cases h
  rfl
theorem ZZ (T : Txt K mg ad) : yU P w K mg base CX0 1 ad.f_tie_between ad.e_tie_between ["one", "other"] (@spD ⟨K⟩ 2 y3) := by
  letI : KK := ⟨K⟩
  refine wa (yL (N := ["one", "other"]) (ps := ["one", "other"]) T.d_tie_between.fn Z0 (g := wN) fun cdv A outer s H E hr => ?_) Z7
  unfold wN
  exact (zi (zB (Y6 (zc (yc (zfA rfl) zg3 rfl T.z_min zko (zc (za 0 (pv 0)) (zc (za 1 (pv 1)) zg))) (zc (yc (zeD rfl) zhi rfl T.z_max zas (zc (za 0 (pv 0)) (zc (za 1 (pv 1)) zg))) zg)))))
theorem zfE (ts : List Tie) : (ts.map zq).all (okE 20) = true := by
  rw [List.all_map, List.all_eq_true]
  exact fun t _ => rfl
theorem zdb (s t : Tie) : eqN 20 (zq s) (zq t) = decide (s = t) := by
  have : eqN 20 (zq s) (zq t) = ((s.1 == t.1) && ((s.2 == t.2) && true) && true) := rfl
  rw [this, Bool.and_true, Bool.and_true]
  by_cases h : s = t
  · subst h
    simp
  · rw [decide_eq_false h, Bool.and_eq_false_iff]
    by_cases h1 : s.1 = t.1
    · exact .inr (beq_eq_false_iff_ne.mpr fun h2 => h (Prod.ext h1 h2))
    · exact .inl (beq_eq_false_iff_ne.mpr h1)
theorem zf7 (t : Tie) (ts : List Tie) : inD (zq t) (.tup (ts.map zq)) = some (.bl (decide (t ∈ ts))) := by
  show (zkE (zq t) (ts.map zq)).map D.bl = _
  unfold zkE
  rw [if_pos ⟨rfl, zfE ts⟩]
  show some (D.bl ((ts.map zq).any fun e => eqN 20 e (zq t))) = _
  rw [List.any_map]
  congr 2
  rw [Bool.eq_iff_iff, List.any_eq_true, decide_eq_true_eq]
  constructor
  · rintro ⟨s, hs, h⟩
    have h : eqN 20 (zq s) (zq t) = true := h
    rw [zdb, decide_eq_true_eq] at h
    subst h
    exact hs
  · exact fun h => ⟨t, h, by show eqN 20 (zq t) (zq t) = true; rw [zdb]; exact decide_eq_true rfl⟩
end
section
variable {P : Program} {w : World} {K : PySem.W.Frag} {mg : Str → Option Value} {base : Heap} {ad : Adr}
noncomputable def nbN (m : Int) (ts : List Tie) (p : Int) : List Nat := (List.range m.toNat).filter fun k : Nat => decide (zk8 p k ∈ ts)
noncomputable def zfV (k : Nat) : D := .int ((0 : Int) + (k : Int))
noncomputable def x9 : SE → Ctl :=
  (xf (wV (fLC (vN wl (zd (zr ixD (zf 0) (eC (.int 0))) zy)) b1 (tOf (zr inD (zw 2 y3 (zd (zf 2) (zd (zf 0) zy))) (zr ixD (zf 1) (eC (.int 1))))) (zf 0))))
noncomputable def Vk : List D → Option D := fnD 2 x9
noncomputable def zU : List D → Option D
  | [w, .int p] => if wS w = true then some (.lst ((nbN (zhU w) (ziI w) p).map zfV)) else none
  | _ => none
theorem X1 : ∀ ds d, ds.length = 2 → zU ds = some d → Vk ds = some d := by
  intro ds d hl h
  obtain ⟨a, b, rfl⟩ := zg4 hl
  cases b <;> try cases h
  rename_i p
  obtain ⟨hw, rfl⟩ := ifS h
  obtain ⟨m, ts, rfl, ok⟩ := (wt a).mp hw
  rw [ZS, ZD]
  refine zek rfl ?_
  unfold x9
  refine Wh (d := .lst ((nbN m ts p).map zfV)) ?_ rfl
  have e : fLC (vN wl (zd (zr ixD (zf 0) (eC (.int 0))) zy)) b1 (tOf (zr inD (zw 2 y3 (zd (zf 2) (zd (zf 0) zy))) (zr ixD (zf 1) (eC (.int 1))))) (zf 0) [some (zm m ts), some (.int p)] = some ((nbN m ts p).map zfV) := by
    unfold fLC
    show ((wl [.int m]).bind fun ds => if lim ds.length = true then _ else none) = _
    rw [zdt ok]
    show (if lim (YD 0 m.toNat).length = true then _ else none) = _
    rw [if_pos (Ym (by rw [ZQ]; have := ok.hi; omega))]
    refine vA (c := zfV) (p := fun k => decide (zk8 p k ∈ ts)) (y := zfV) (List.range m.toNat) fun k hk => ⟨[some (zfV k)], rfl, ?_, fun _ => rfl⟩
    show ((inD (zq (zk8 p (0 + (k : Int)))) (.tup (ts.map zq))).bind asB) = _
    rw [Int.zero_add, zf7]
    rfl
  show (match ((fLC (vN wl (zd (zr ixD (zf 0) (eC (.int 0))) zy)) b1 (tOf (zr inD (zw 2 y3 (zd (zf 2) (zd (zf 0) zy))) (zr ixD (zf 1) (eC (.int 1))))) (zf 0) [some (zm m ts), some (.int p)]).map D.lst) with | some d => Ctl.rt d | none => Ctl.no) = _
  rw [e]
  rfl
theorem Yy (T : Txt K mg ad) : yU P w K mg base CX0 2 ad.f_neighbours ad.e_neighbours ["web", "place"] (@spD ⟨K⟩ 2 zU) := by
  letI : KK := ⟨K⟩
  have G_tie_between := ZZ (P := P) (w := w) (base := base) T
  refine wa (yL (N := ["web", "place"]) (ps := ["web", "place"]) T.d_neighbours.fn We (g := x9) fun cdv A outer s H E hr => ?_) X1
  unfold x9
  exact (zi (zB (vI (Xq (L := ["other"]) (M := ["web", "place"]) rfl (w8 (by rfl) (by rfl) (by rfl) (by with_unfolding_all rfl) (by rfl) (by rfl) (by kernel_rfl) (all_cons rfl (all_cons rfl xW))) (wz rfl T.z_range (zc (yi (za 0 (pv 0)) (zk zn) (fun _ _ => rfl)) zg)) gs1 rb1 (fun _ _ _ _ => (zC (i := 0) zlV rfl (Or.inl rfl) (.inr rfl))) (fun _ _ _ _ => (zV (zj3 hr) zjO (by with_unfolding_all rfl) (zt (G_tie_between.mono (by decide)) hr rfl T.d_tie_between.at_ T.d_tie_between.kp T.d_tie_between.bd (zc (za 2 (pv 2)) (zc (za 0 (pv 0)) zg))) (yi (za 1 (pv 1)) (zk zn) (fun _ _ => rfl)))) (fun _ _ _ _ => (za 0 (pv 0)))))))
noncomputable def xC (m : Int) (ts : List Tie) (i : Nat) : List Tie := (List.range i).flatMap fun k : Nat => (nbN m ts k).map fun o : Nat => ((0 : Int) + (k : Int), (0 : Int) + (o : Int))
noncomputable def zjH (m : Int) (ts : List Tie) : List Tie := xC m ts m.toNat
theorem Y4 (m : Int) (ts : List Tie) (i : Nat) : xC m ts (i + 1) = xC m ts i ++ (nbN m ts i).map fun o : Nat => ((0 : Int) + (i : Int), (0 : Int) + (o : Int)) := by
  unfold xC
  rw [List.range_succ, List.flatMap_append]
  simp
theorem YT {m : Int} {ts : List Tie} {p : Int} (h : Xy m ts) : (nbN m ts p).length ≤ 8 := by
  refine Nat.le_trans (List.length_filter_le _ _) ?_
  rw [List.length_range]
  have := h.hi
  omega
theorem Z4 {m : Int} {ts : List Tie} (h : Xy m ts) (i : Nat) : (xC m ts i).length ≤ 8 * i := by
  induction i with
  | zero => simp [xC]
  | succ i ih =>
    rw [Y4, List.length_append, List.length_map]
    have := YT (p := (i : Int)) h
    omega
noncomputable def wE : SE → Ctl :=
  (Wg 1 (wV (fLC (iOf (zw 2 zU (zd (zf 0) (zd (zf 2) zy)))) b1 xn (v5 (zd (zf 3) (zd (zf 0) zy))))))
noncomputable def wI : SE → Ctl :=
  (zW (YI 1 (xi zy))
    (zW (xA wl (zd (zr ixD (zf 0) (eC (.int 0))) zy) (yH 2) wE)
    (sFz 1 (xf (zf 1)))))
noncomputable def zcY : List D → Option D := fnD 3 wI
noncomputable def vR : List D → Option D
  | [w] => if wS w = true then some (.lst ((zjH (zhU w) (ziI w)).map zq)) else none
  | _ => none
theorem zae : ∀ ds d, ds.length = 1 → vR ds = some d → zcY ds = some d := by
  intro ds d hl h
  obtain ⟨a, rfl⟩ := zje hl
  obtain ⟨hw, rfl⟩ := ifS h
  obtain ⟨m, ts, rfl, ok⟩ := (wt a).mp hw
  rw [ZS, ZD]
  refine zek rfl ?_
  unfold wI
  refine zZ rfl ?_
  refine vU (zdc (lo := 0) (c := m.toNat) (fun i ρ => ∃ o2, ρ = [.v (zm m ts), .o ((xC m ts i).map zq), o2]) (zdt ok) ⟨.no, rfl⟩ ?_ ?_)
  · rintro i ρ hi ⟨o2, rfl⟩
    refine ⟨_, rfl, ?_⟩
    unfold wE
    refine Va (ρ' := [.v (zm m ts), .o ((xC m ts (i + 1)).map zq), .v (.int (0 + (i : Int)))]) ?_ ⟨_, rfl⟩
    have e : fLC (iOf (zw 2 zU (zd (zf 0) (zd (zf 2) zy)))) b1 xn (v5 (zd (zf 3) (zd (zf 0) zy))) [some (zm m ts), none, some (.int (0 + (i : Int)))] = some (((nbN m ts i).map fun o : Nat => ((0 : Int) + (i : Int), (0 : Int) + (o : Int))).map zq) := by
      unfold fLC
      have e1 : zU [zm m ts, .int (0 + (i : Int))] = some (.lst ((nbN m ts i).map zfV)) := by
        simp only [zU]
        rw [if_pos hw, ZS, ZD, Int.zero_add]
      show ((zU [zm m ts, .int (0 + (i : Int))]).bind xz).bind _ = _
      rw [e1]
      show (if lim ((nbN m ts i).map zfV).length = true then _ else none) = _
      rw [if_pos (Ym (by rw [List.length_map]; have := YT (p := (i : Int)) ok; omega)), List.map_map]
      refine XM zfV _ (nbN m ts i) fun o _ => ⟨[some (zfV o)], rfl, rfl, ?_⟩
      rfl
    have hl : lim (((xC m ts i).map zq).length + (((nbN m ts i).map fun o : Nat => ((0 : Int) + (i : Int), (0 : Int) + (o : Int))).map zq).length) = true := by
      refine Ym ?_
      simp only [List.length_map]
      have := Z4 ok i
      have := YT (p := (i : Int)) ok
      have := ok.hi
      omega
    show (match (((fLC (iOf (zw 2 zU (zd (zf 0) (zd (zf 2) zy)))) b1 xn (v5 (zd (zf 3) (zd (zf 0) zy))) [some (zm m ts), none, some (.int (0 + (i : Int)))]).map D.lst).bind fun d => match (some (Sl.o ((xC m ts i).map zq))), d with
      | some (.o ds), .lst es => if lim (ds.length + es.length) = true then some ([.v (zm m ts), .o (ds ++ es), .v (.int (0 + (i : Int)))] : SE) else none
      | _, _ => none) with | some ρ' => Ctl.nx ρ' | none => Ctl.no) = _
    rw [e]
    show (match (if lim (((xC m ts i).map zq).length + (((nbN m ts i).map fun o : Nat => ((0 : Int) + (i : Int), (0 : Int) + (o : Int))).map zq).length) = true then some ([.v (zm m ts), .o ((xC m ts i).map zq ++ ((nbN m ts i).map fun o : Nat => ((0 : Int) + (i : Int), (0 : Int) + (o : Int))).map zq), .v (.int (0 + (i : Int)))] : SE) else none) with | some ρ' => Ctl.nx ρ' | none => Ctl.no) = _
    rw [if_pos hl, Y4, List.map_append]
  · rintro ρ ⟨o2, rfl⟩
    exact zlL rfl (Wh rfl rfl)
theorem V7 (T : Txt K mg ad) : yU P w K mg base CX0 3 ad.f_all_steps ad.e_all_steps ["web"] (@spD ⟨K⟩ 1 vR) := by
  letI : KK := ⟨K⟩
  have G_neighbours := Yy (P := P) (w := w) (base := base) T
  refine wa (yL (N := ["web", "found", "place"]) (ps := ["web"]) T.d_all_steps.fn vt (g := wI) fun cdv A outer s H E hr => ?_) zae
  unfold wI wE
  exact (zh (Y0 (i := 1) vt.nd rfl (Or.inl rfl) (vL zg))
      (zh (Zj PassesOwn.never rfl rfl T.z_range (zc (yi (za 0 (pv 0)) (zk zn) (fun _ _ => rfl)) zg) (yy (zC (i := 2) vt.nd rfl (Or.inr rfl))) (zi (zjX (pv 1) (vI (WF (L := ["other"]) (M := ["web", "found", "place"]) rfl (w8 (by rfl) (by rfl) (by rfl) (by with_unfolding_all rfl) (by rfl) (by rfl) (by kernel_rfl) (all_cons rfl xW)) (Zu (zt (G_neighbours.mono (by decide)) hr rfl T.d_neighbours.at_ T.d_neighbours.kp T.d_neighbours.bd (zc (za 0 (pv 0)) (zc (za 2 (pv 2)) zg)))) gs1 rb1 (fun _ _ _ _ => (zC (i := 0) zl0 rfl (Or.inl rfl) (.inr rfl))) (fun _ _ _ _ => (Y6 (zc (za 3 (pv 3)) (zc (za 0 (pv 0)) zg)))))) (fun a b => zan PySem.F.plainAttrs_list PySem.F.slot_list_extend PySem.F.type_list_extend zeI a b))))
      (Y7 1 (zi (zB (za 1 (pv 1)))))))
end
theorem zkO {m : Nat} {g : SE → Ctl} {ds : List D} {R : D → Prop} {ρ : SE} (e : ds.map .v ++ List.replicate (m - ds.length) .no = ρ) (q : (g ρ).w (fun _ => R .non) noP noP R) : ∃ d, fnD m g ds = some d ∧ R d := by
  unfold fnD
  rw [e]
  cases hg : g ρ with
  | nx ρ' => rw [hg] at q; exact ⟨_, rfl, q.nxi⟩
  | rt d' => rw [hg] at q; exact ⟨_, rfl, q.rti⟩
  | bk _ => rw [hg] at q; exact q.bki.elim
  | ct _ => rw [hg] at q; exact q.cti.elim
  | no => rw [hg] at q; exact q.noi.elim
section
variable {P : Program} {w : World} {K : PySem.W.Frag} {mg : Str → Option Value} {base : Heap} {ad : Adr}
noncomputable def wC : SE → Ctl :=
  (zW (xY false 2 (zr xL (zr vO (zr vE (zr vE (zr xL (zf 0) (eC (.int 2147483647))) (zr vO (eC (.int 977)) (zf 1))) (eC (.int 1))) (eC (.int 48271))) (eC (.int 2147483647))))
    (zW (xY false 2 (zr xL (zr vO (zf 2) (zf 2)) (eC (.int 2147483629))))
    (zW (xY false 2 (zr xL (zr vO (zr vE (zf 2) (zr vO (eC (.int 40692)) (zr vE (zf 1) (eC (.int 3))))) (eC (.int 69621))) (eC (.int 2147483647))))
    (xf (zr yQ (zf 2) (eC (.int 8)))))))
noncomputable def zbz : List D → Option D := fnD 3 wC
noncomputable def yz : List D → Option D
  | [.int c, .int k] => some (.int (zhz c k))
  | _ => none
theorem zb3 {i j : Int} (h1 : -(2 ^ 64) < i) (h2 : i < 2 ^ 64) : ZH i j = true := decide_eq_true (.inl ⟨h1, h2⟩)
theorem zfQ {i j : Int} (h1 : -(2 ^ 64) < j) (h2 : j < 2 ^ 64) : ZH i j = true := decide_eq_true (.inr ⟨h1, h2⟩)
theorem ZM {i j : Int} (h : ZH i j = true) : vO (.int i) (.int j) = some (.int (i * j)) := by
  show (if ZH i j = true then _ else none) = _
  rw [if_pos h]
theorem xV {i j : Int} (h : 0 < j) : xL (.int i) (.int j) = some (.int (i % j)) := by
  show (if decide (0 < j) = true then _ else none) = _
  rw [if_pos (decide_eq_true h)]
theorem Yb {i j : Int} (h : 0 < j) (h2 : j < 1606938044258990275541962092341162602522202993782792835301376) : yQ (.int i) (.int j) = some (.int (i / j)) := by
  show (if decide (0 < j ∧ j < 1606938044258990275541962092341162602522202993782792835301376) = true then _ else none) = _
  rw [if_pos (decide_eq_true ⟨h, h2⟩)]
theorem WR : ∀ ds d, ds.length = 2 → yz ds = some d → zbz ds = some d := by
  intro ds d hl h
  obtain ⟨a, b, rfl⟩ := zg4 hl
  cases a <;> try cases h
  cases b <;> try cases h
  rename_i c k
  have h1 := Int.emod_nonneg ((c % 2147483647 + 977 * k + 1) * 48271) (show (2147483647 : Int) ≠ 0 by decide)
  have h2 := Int.emod_lt_of_pos ((c % 2147483647 + 977 * k + 1) * 48271) (show (0 : Int) < 2147483647 by decide)
  have m1 : ZH 977 k = true := zb3 (by decide) (by decide)
  have m2 : ZH (c % 2147483647 + 977 * k + 1) 48271 = true := zfQ (by decide) (by decide)
  obtain ⟨x, hx⟩ : ∃ x, (c % 2147483647 + 977 * k + 1) * 48271 % 2147483647 = x := ⟨_, rfl⟩
  rw [hx] at h1 h2
  have m3 : ZH x x = true := zb3 (Int.lt_of_lt_of_le (by decide) h1) (Int.lt_trans h2 (by decide))
  have m4 : ZH 40692 (k + 3) = true := zb3 (by decide) (by decide)
  have m5 : ∀ x, ZH x 69621 = true := fun x => zfQ (by decide) (by decide)
  obtain ⟨y, hy⟩ : ∃ y, x * x % 2147483629 = y := ⟨_, rfl⟩
  obtain ⟨z, hz⟩ : ∃ z, (y + 40692 * (k + 3)) * 69621 % 2147483647 = z := ⟨_, rfl⟩
  have hst : zhz c k = z / 8 := by
    show ((((c % 2147483647 + 977 * k + 1) * 48271 % 2147483647) * ((c % 2147483647 + 977 * k + 1) * 48271 % 2147483647) % 2147483629 + 40692 * (k + 3)) * 69621 % 2147483647 / 8) = _
    rw [hx, hy, hz]
  rw [hst]
  refine zek (ρ := [.v (.int c), .v (.int k), .no]) rfl ?_
  unfold wC
  refine zZ (ρ' := [.v (.int c), .v (.int k), .v (.int x)]) (vZ ?_) ?_
  · show (((((xL (.int c) (.int 2147483647)).bind fun a => (vO (.int 977) (.int k)).bind fun b => vE a b).bind fun a => vE a (.int 1)).bind fun a => vO a (.int 48271)).bind fun a => xL a (.int 2147483647)) = _
    rw [xV (by decide), ZM m1]
    show ((vO (.int (c % 2147483647 + 977 * k + 1)) (.int 48271)).bind fun a => xL a (.int 2147483647)) = _
    rw [ZM m2, ← hx]
    exact xV (by decide)
  refine zZ (ρ' := [.v (.int c), .v (.int k), .v (.int y)]) (vZ ?_) ?_
  · show ((vO (.int x) (.int x)).bind fun a => xL a (.int 2147483629)) = _
    rw [ZM m3, ← hy]
    exact xV (by decide)
  refine zZ (ρ' := [.v (.int c), .v (.int k), .v (.int z)]) (vZ ?_) ?_
  · show ((((vO (.int 40692) (.int (k + 3))).bind fun b => vE (.int y) b).bind fun a => vO a (.int 69621)).bind fun a => xL a (.int 2147483647)) = _
    rw [ZM m4]
    show ((vO (.int (y + 40692 * (k + 3))) (.int 69621)).bind fun a => xL a (.int 2147483647)) = _
    rw [ZM (m5 _), ← hz]
    exact xV (by decide)
  exact Wh (Zt (show yQ (.int z) (.int 8) = _ from Yb (by decide) (by decide))) rfl
theorem Zb (T : Txt K mg ad) : yU P w K mg base CX0 1 ad.f__law_stir ad.e__law_stir ["cell", "k"] (@spD ⟨K⟩ 2 yz) := by
  letI : KK := ⟨K⟩
  refine wa (yL (N := ["cell", "k", "number"]) (ps := ["cell", "k"]) T.d__law_stir.fn wb (g := wC) fun cdv A outer s H E hr => ?_) WR
  unfold wC
  exact (zh (yI (m := false) (i := 2) wb.nd rfl (Or.inl rfl) (wU (Xs (xw (xw (wU (za 0 (pv 0)) (zk zn)) (Xs (zk zn) (za 1 (pv 1)))) (zk zn)) (zk zn)) (zk zn)))
      (zh (yI (m := false) (i := 2) wb.nd rfl (Or.inl rfl) (wU (Xs (za 2 (pv 2)) (za 2 (pv 2))) (zk zn)))
      (zh (yI (m := false) (i := 2) wb.nd rfl (Or.inl rfl) (wU (Xs (xw (za 2 (pv 2)) (Xs (zk zn) (xw (za 1 (pv 1)) (zk zn)))) (zk zn)) (zk zn)))
      (zi (zB (YG (za 2 (pv 2)) (zk zn)))))))
theorem zdR {i j : Int} (h1 : 0 ≤ i) (h2 : i ≤ 1000) (h3 : 0 ≤ j) (h4 : j ≤ 1000) : v4 [.int i, .int j] = some (YD i (j - i).toNat) := by
  show (if zfi i = true ∧ zfi j = true then some (YD i (j - i).toNat) else none) = _
  rw [if_pos ⟨zR.mpr ⟨by (clear h4 h3 h2; omega), by (clear h4 h3; omega)⟩, zR.mpr ⟨by omega, by omega⟩⟩]
theorem YJ {j : Int} (h3 : 0 ≤ j) (h4 : j ≤ 1000000) : wl [.int j] = some (YD 0 j.toNat) := by
  show (if zfi j = true then some (YD 0 j.toNat) else none) = _
  rw [if_pos (zR.mpr ⟨by omega, by omega⟩)]
end
section
variable {P : Program} {w : World} {K : PySem.W.Frag} {mg : Str → Option Value} {base : Heap} {ad : Adr}
noncomputable def vAt (ns : List Int) (i : Int) : Int := ns.getD i.toNat 0
theorem zg7 {ns : List Int} {i : Int} (h0 : 0 ≤ i) (h1 : i < ns.length) : atI (ns.map D.int) i = some (.int (vAt ns i)) := by
  unfold vAt
  obtain ⟨k, hk⟩ : ∃ k : Nat, i = k := ⟨i.toNat, by omega⟩
  subst hk
  refine zfg ?_
  rw [Int.toNat_natCast, List.getElem?_map, List.getElem?_eq_getElem (by omega), List.getD_eq_getElem?_getD, List.getElem?_eq_getElem (by omega)]
  rfl
end
section
variable {P : Program} {w : World} {K : PySem.W.Frag} {mg : Str → Option Value} {base : Heap} {ad : Adr}
noncomputable def wd : SE → Ctl :=
  (xY false 1 (zr vE (zf 1) (wV (fLC (vN v4 (zd (zr vE (zf 2) (eC (.int 1))) (zd (zf 0) zy))) b1 xn (v5 (zd (zf 3) (zd (zf 0) zy)))))))
noncomputable def x6 : SE → Ctl :=
  (zW (xY false 1 (wV (xi zy)))
    (zW (xA wl (zd (zf 0) zy) (yH 2) wd)
    (xf (zf 1))))
noncomputable def VQ : List D → Option D := fnD 3 x6
noncomputable def xx : List D → Option D
  | [.int n] => if decide (0 ≤ n ∧ n ≤ 8) = true then some (.lst ((ya n.toNat).map zq)) else none
  | _ => none
theorem XG : ∀ ds d, ds.length = 1 → xx ds = some d → VQ ds = some d := by
  intro ds d hl h
  obtain ⟨a, rfl⟩ := zje hl
  cases a <;> try cases h
  rename_i n
  obtain ⟨hn, rfl⟩ := ifS h
  have hn : 0 ≤ n ∧ n ≤ 8 := of_decide_eq_true hn
  clear h hl
  obtain ⟨k, hk⟩ : ∃ k : Nat, n.toNat = k := ⟨_, rfl⟩
  have hk8 : k ≤ 8 := by omega
  have hkn : n = (k : Int) := by omega
  rw [hk]
  have hr : wl [.int n] = some (YD 0 k) := by rw [YJ hn.1 (by omega), hk]
  clear hk
  refine zek (ρ := [.v (.int n), .no, .no]) rfl ?_
  unfold x6
  have e0 : xY false 1 (wV (xi zy)) [.v (.int n), .no, .no] = .nx [.v (.int n), .v (.lst []), .no] := rfl
  refine zZ e0 (vU (zdc (lo := 0) (c := k) (fun i ρ => ∃ o2, ρ = [.v (.int n), .v (.lst ((xq k i).map zq)), o2]) hr ⟨.no, rfl⟩ ?_ ?_))
  · rintro i ρ hi ⟨o2, rfl⟩
    refine ⟨_, rfl, ?_⟩
    obtain ⟨x, hx⟩ : ∃ x : Int, (0 : Int) + (i : Int) = x := ⟨_, rfl⟩
    rw [hx]
    unfold wd
    refine Va (ρ' := [.v (.int n), .v (.lst ((xq k (i + 1)).map zq)), .v (.int x)]) (vZ (d := .lst ((xq k (i + 1)).map zq)) ?_) ⟨_, rfl⟩
    have e : fLC (vN v4 (zd (zr vE (zf 2) (eC (.int 1))) (zd (zf 0) zy))) b1 xn (v5 (zd (zf 3) (zd (zf 0) zy))) [some (.int n), some (.lst ((xq k i).map zq)), some (.int x)] = some ((zbV i (k - (i + 1))).map zq) := by
      have e1 : v4 [.int (x + 1), .int n] = some (YD (x + 1) (k - (i + 1))) := by
        rw [zdR (by omega) (by omega) (by omega) (by omega)]
        have et : (n - (x + 1)).toNat = k - (i + 1) := by omega
        rw [et]
      unfold fLC
      show (v4 [.int (x + 1), .int n]).bind _ = _
      rw [e1]
      show (if lim (YD (x + 1) (k - (i + 1))).length = true then _ else none) = _
      rw [if_pos (Ym (by rw [ZQ]; omega))]
      unfold zbV
      rw [List.map_map]
      refine XM (fun j : Nat => D.int (x + 1 + (j : Int))) _ (List.range (k - (i + 1))) fun j _ => ⟨[some (.int (x + 1 + (j : Int)))], rfl, rfl, ?_⟩
      show some (D.tup [.int x, .int (x + 1 + (j : Int))]) = some (D.tup [.int (i : Int), .int ((i : Int) + 1 + (j : Int))])
      rw [← hx, Int.zero_add]
    show (((fLC (vN v4 (zd (zr vE (zf 2) (eC (.int 1))) (zd (zf 0) zy))) b1 xn (v5 (zd (zf 3) (zd (zf 0) zy))) [some (.int n), some (.lst ((xq k i).map zq)), some (.int x)]).map D.lst).bind fun y => vE (.lst ((xq k i).map zq)) y) = _
    rw [e]
    show vE (.lst ((xq k i).map zq)) (.lst ((zbV i (k - (i + 1))).map zq)) = _
    rw [zdy (by rw [List.length_map, List.length_map, YZ]; have := zd1 k hk8 i; omega), Y3, List.map_append]
  · rintro ρ ⟨o2, rfl⟩
    refine Wh rfl ?_
    rw [ze2]
theorem XT (T : Txt K mg ad) : yU P w K mg base CX0 1 ad.f__law_pairs ad.e__law_pairs ["many"] (@spD ⟨K⟩ 1 xx) := by
  letI : KK := ⟨K⟩
  refine wa (yL (N := ["many", "found", "a"]) (ps := ["many"]) T.d__law_pairs.fn xO (g := x6) fun cdv A outer s H E hr => ?_) XG
  unfold x6 wd
  exact (zh (yI (m := false) (i := 1) xO.nd rfl (Or.inl rfl) (vI (vL zg)))
      (zh (Zj PassesOwn.never rfl rfl T.z_range (zc (za 0 (pv 0)) zg) (yy (zC (i := 2) xO.nd rfl (Or.inr rfl))) (zi (yI (m := false) (i := 1) xO.nd rfl (Or.inl rfl) (xw (za 1 (pv 1)) (vI (WF (L := ["b"]) (M := ["many", "found", "a"]) rfl (w8 (by rfl) (by rfl) (by rfl) (by with_unfolding_all rfl) (by rfl) (by rfl) (by kernel_rfl) (all_cons rfl xW)) (Wv rfl T.z_range (zc (xw (za 2 (pv 2)) (zk zn)) (zc (za 0 (pv 0)) zg))) gs1 rb1 (fun _ _ _ _ => (zC (i := 0) zlM rfl (Or.inl rfl) (.inr rfl))) (fun _ _ _ _ => (Y6 (zc (za 3 (pv 3)) (zc (za 0 (pv 0)) zg))))))))))
      (zi (zB (za 1 (pv 1))))))
noncomputable def y8 : SE → Ctl :=
  (zW (sIf (xy (tOf (zr YB (zr xL (zf 1) (eC (.int 2))) (eC (.int 0)))) (tOf (zr YB (zr xL (zr zjf (zr yQ (zf 1) (eC (.int 2))) (zf 3)) (eC (.int 2))) (eC (.int 1))))) (Zf false 2 (zf 4)) yf)
    (sIf (xy (tOf (zr YB (zr xL (zf 1) (eC (.int 2))) (eC (.int 1)))) (tOf (zr ltD (zr xL (zw 2 yz (zd (zf 1) (zd (zf 3) zy))) (eC (.int 5))) (zr vE (eC (.int 2)) (zr xL (zr yQ (zf 1) (eC (.int 2))) (eC (.int 2))))))) (Zf false 2 (zf 4)) yf))
noncomputable def y6 : SE → Ctl :=
  (zW (YI 2 (xi zy))
    (zW (YC (yZ (zd (zw 1 xx (zd (zf 0) zy)) zy)) (Xt 2 (xZ (yH 3) (xZ (yH 4) X9))) y8)
    (sFz 2 (xf (v5 (zd (zf 0) (zd (eFn yB (zd (zf 2) zy)) zy)))))))
noncomputable def xR : List D → Option D := fnD 5 y6
theorem ziE {a k : Int} (h : 0 ≤ k) : zjf (.int a) (.int k) = some (.int (a / 2 ^ k.toNat)) := by
  show (if decide (0 ≤ k) = true then some (D.int (a / 2 ^ k.toNat)) else none) = _
  rw [if_pos (decide_eq_true h)]
theorem zjT {ρ : Ev} {c x : Int} (h1 : ρ[1]? = some (some (.int c))) (h3 : ρ[3]? = some (some (.int x))) (hx : 0 ≤ x) :
    (∃ b, xy (tOf (zr YB (zr xL (zf 1) (eC (.int 2))) (eC (.int 0)))) (tOf (zr YB (zr xL (zr zjf (zr yQ (zf 1) (eC (.int 2))) (zf 3)) (eC (.int 2))) (eC (.int 1)))) ρ = some (decide (c % 2 = 0) && b)) ∧
    ∃ b, xy (tOf (zr YB (zr xL (zf 1) (eC (.int 2))) (eC (.int 1)))) (tOf (zr ltD (zr xL (zw 2 yz (zd (zf 1) (zd (zf 3) zy))) (eC (.int 5))) (zr vE (eC (.int 2)) (zr xL (zr yQ (zf 1) (eC (.int 2))) (eC (.int 2)))))) ρ = some (decide (c % 2 = 1) && b) := by
  have v1 : zf 1 ρ = some (.int c) := by unfold zf; rw [h1]; rfl
  have v3 : zf 3 ρ = some (.int x) := by unfold zf; rw [h3]; rfl
  have f2 : yQ (.int c) (.int 2) = some (.int (c / 2)) := Yb (by decide) (by decide)
  have m0 : ∀ k : Int, tOf (zr YB (zr xL (zf 1) (eC (.int 2))) (eC (.int k))) ρ = some (decide (c % 2 = k)) := fun k => by
    show (((zf 1 ρ).bind fun a => xL a (.int 2)).bind fun y => YB y (.int k)).bind asB = _
    rw [v1, Option.bind_some, xV (by decide)]
    rfl
  constructor
  · refine ⟨decide (c / 2 / 2 ^ x.toNat % 2 = 1), ?_⟩
    have m2 : tOf (zr YB (zr xL (zr zjf (zr yQ (zf 1) (eC (.int 2))) (zf 3)) (eC (.int 2))) (eC (.int 1))) ρ = some (decide (c / 2 / 2 ^ x.toNat % 2 = 1)) := by
      show (((((zf 1 ρ).bind fun a => yQ a (.int 2)).bind fun a => (zf 3 ρ).bind fun b => zjf a b).bind fun a => xL a (.int 2)).bind fun y => YB y (.int 1)).bind asB = _
      rw [v1, v3, Option.bind_some, f2, Option.bind_some, Option.bind_some, ziE hx, Option.bind_some, xV (by decide)]
      rfl
    unfold xy
    rw [m0, Option.bind_some, m2]
    cases decide (c % 2 = 0) <;> rfl
  · refine ⟨decide (zhz c x % 5 < 2 + c / 2 % 2), ?_⟩
    have es : zw 2 yz (zd (zf 1) (zd (zf 3) zy)) ρ = some (.int (zhz c x)) := by
      unfold zw zd
      rw [v1, v3]
      rfl
    have m2 : tOf (zr ltD (zr xL (zw 2 yz (zd (zf 1) (zd (zf 3) zy))) (eC (.int 5))) (zr vE (eC (.int 2)) (zr xL (zr yQ (zf 1) (eC (.int 2))) (eC (.int 2))))) ρ = some (decide (zhz c x % 5 < 2 + c / 2 % 2)) := by
      show ((((zw 2 yz (zd (zf 1) (zd (zf 3) zy)) ρ).bind fun a => xL a (.int 5)).bind fun a => ((((zf 1 ρ).bind fun a => yQ a (.int 2)).bind fun a => xL a (.int 2)).bind fun y => vE (.int 2) y).bind fun b => ltD a b)).bind asB = _
      rw [es, v1, Option.bind_some, Option.bind_some, xV (by decide), f2, Option.bind_some, Option.bind_some, xV (by decide)]
      rfl
    unfold xy
    rw [m0, Option.bind_some, m2]
    cases decide (c % 2 = 1) <;> rfl
theorem zlB {n c x : Int} {ts : List Tie} {t : Tie} {N B C : SE → Prop} {R : D → Prop} (hx : 0 ≤ x) (hl : (ts.map zq).length ≤ 1000)
    (q1 : N [.v (.int n), .v (.int c), .o (ts.map zq), .v (.int x), .v (zq t)]) (q2 : N [.v (.int n), .v (.int c), .o ((ts ++ [t]).map zq), .v (.int x), .v (zq t)]) :
    (y8 [.v (.int n), .v (.int c), .o (ts.map zq), .v (.int x), .v (zq t)]).w N B C R := by
  rw [List.map_append] at q2
  unfold y8
  obtain ⟨⟨b1, e1⟩, b2, e2⟩ := zjT (ρ := visG [.v (.int n), .v (.int c), .o (ts.map zq), .v (.int x), .v (zq t)]) (c := c) (x := x) rfl rfl hx
  obtain ⟨_, b3, e3⟩ := zjT (ρ := visG [.v (.int n), .v (.int c), .o (ts.map zq ++ [zq t]), .v (.int x), .v (zq t)]) (c := c) (x := x) rfl rfl hx
  have ap := zhD (m := false) (i := 2) (f := zf 4) (ρ := [.v (.int n), .v (.int c), .o (ts.map zq), .v (.int x), .v (zq t)]) (ds := ts.map zq) (d := zq t) rfl rfl hl
  refine vU (zd9 e1 (fun k => Va ap ?_) (fun _ => Va rfl (zd9 e2 (fun _ => Va ap q2) (fun _ => Va rfl q1))))
  refine zd9 e3 (fun k3 => ?_) (fun _ => Va rfl q2)
  have h0 : c % 2 = 0 := of_decide_eq_true (Bool.and_eq_true_iff.mp k).1
  have h1 : c % 2 = 1 := of_decide_eq_true (Bool.and_eq_true_iff.mp k3).1
  exact absurd (h0.symm.trans h1) (by decide)
theorem zey {n c : Int} (h1 : 1 ≤ n) (h8 : n ≤ 8) : ∃ ts, xR [.int n, .int c] = some (zm n ts) ∧ ts.Sublist (ya n.toNat) := by
  have key := zkO (m := 5) (g := y6) (ds := [.int n, .int c]) (R := fun d => ∃ ts : List Tie, d = zm n ts ∧ ts.Sublist (ya n.toNat)) rfl ?_
  · obtain ⟨d, e, ts, rfl, hs⟩ := key
    exact ⟨ts, e, hs⟩
  unfold y6
  refine zZ rfl ?_
  have ep : xx [.int n] = some (.lst ((ya n.toNat).map zq)) := by
    show (if decide (0 ≤ n ∧ n ≤ 8) = true then some (D.lst ((ya n.toNat).map zq)) else none) = _
    rw [if_pos (decide_eq_true ⟨by omega, by omega⟩)]
  have h28 := (ZN n.toNat (by omega)).2.2
  refine vU (zfp (ds := ZY 0 ((ya n.toNat).map zq)) (fun i ρ => ∃ ts o3 o4, ρ = [.v (.int n), .v (.int c), .o (ts.map zq), o3, o4] ∧ ts.Sublist ((ya n.toNat).take i)) ?_ ⟨[], .no, .no, rfl, List.nil_sublist _⟩ ?_ ?_)
  · show ((xx [.int n]).bind fun d => (some [] : Option (List D)).map (d :: ·)).bind _ = _
    rw [ep]
    rfl
  · rintro i d ρ hd ⟨ts, o3, o4, rfl, hs⟩
    rw [v8] at hd
    obtain ⟨dx, hdx, rfl⟩ := Option.map_eq_some_iff.mp hd
    rw [List.getElem?_map] at hdx
    obtain ⟨t, ht, rfl⟩ := Option.map_eq_some_iff.mp hdx
    rw [Nat.zero_add]
    have htake : (ya n.toNat).take (i + 1) = (ya n.toNat).take i ++ [t] := by rw [List.take_succ, ht]; rfl
    have hlen : ts.length ≤ 28 := Nat.le_trans hs.length_le (Nat.le_trans (List.length_take_le _ _) (by have := (List.getElem?_eq_some_iff.mp ht).1; omega))
    refine ⟨_, rfl, zlB (Int.natCast_nonneg i) (by rw [List.length_map]; omega) ⟨ts, _, _, rfl, ?_⟩ ⟨ts ++ [t], _, _, rfl, ?_⟩⟩
    · rw [htake]; exact hs.trans (List.sublist_append_left _ _)
    · rw [htake]; exact hs.append (List.Sublist.refl _)
  · rintro ρ ⟨ts, o3, o4, rfl, hs⟩
    exact zlL rfl (Wh rfl ⟨ts, rfl, hs.trans (List.take_sublist _ _)⟩)
theorem ZW (T : Txt K mg ad) : yU P w K mg base CX0 2 ad.f__law_web_by ad.e__law_web_by ["many", "cell"] (@spD ⟨K⟩ 2 xR) := by
  letI : KK := ⟨K⟩
  have G__law_pairs := XT (P := P) (w := w) (base := base) T
  have G__law_stir := Zb (P := P) (w := w) (base := base) T
  refine yL (N := ["many", "cell", "ties", "k", "tie"]) (ps := ["many", "cell"]) T.d__law_web_by.fn xt (g := y6) fun cdv A outer s H E hr => ?_
  unfold y6 y8
  exact (zh (Y0 (i := 2) xt.nd rfl (Or.inl rfl) (vL zg))
      (zh (Yi PassesOwn.never rfl (zc4 rfl T.z_enumerate ve (zc (zt (G__law_pairs.mono (by decide)) hr rfl T.d__law_pairs.at_ T.d__law_pairs.kp T.d__law_pairs.bd (zc (za 0 (pv 0)) zg)) zg)) (zfq rfl (vC (yy (zC (i := 3) xt.nd rfl (Or.inl rfl))) (vC (yy (zC (i := 4) xt.nd rfl (Or.inl rfl))) zbT))) (zh (xQ (zfW (Xj (zV (wP hr) xK (zG _) (wU (za 1 (pv 1)) (zk zn)) (zk zn)) (YU (zV (wP hr) xK (zG _) (wU (zkB (YG (za 1 (pv 1)) (zk zn)) (za 3 (pv 3))) (zk zn)) (zk zn))))) (zi (Xp (m := false) (pv 2) (za 4 (pv 4)) (fun a b => zan PySem.F.plainAttrs_list PySem.F.slot_list_append PySem.F.type_list_append xX a b))) zJ)
      (zi (xQ (zfW (Xj (zV (wP hr) xK (zG _) (wU (za 1 (pv 1)) (zk zn)) (zk zn)) (YU (zV zkA yM (zG _) (wU (zt (G__law_stir.mono (by decide)) hr rfl T.d__law_stir.at_ T.d__law_stir.kp T.d__law_stir.bd (zc (za 1 (pv 1)) (zc (za 3 (pv 3)) zg))) (zk zn)) (xw (zk zn) (wU (YG (za 1 (pv 1)) (zk zn)) (zk zn))))))) (zi (Xp (m := false) (pv 2) (za 4 (pv 4)) (fun a b => zan PySem.F.plainAttrs_list PySem.F.slot_list_append PySem.F.type_list_append xX a b))) zJ))))
      (Y7 2 (zi (zB (Y6 (zc (za 0 (pv 0)) (zc (w6 yY vh rfl T.z_tuple xu (zc (za 2 (pv 2)) zg)) zg))))))))
end
section
variable {P : Program} {w : World} {K : PySem.W.Frag} {mg : Str → Option Value} {base : Heap} {ad : Adr}
noncomputable def xP (r : List D → Option D) : SE → Ctl :=
  (sIf (xb (tOf (zw 2 r (zd (zf 2) (zd (zf 3) zy))))) (xf (eC (.bl false))) yf)
noncomputable def zX (r : List D → Option D) : SE → Ctl :=
  (zW (sIf (tOf (zr Xa (zf 1) (eC .non))) (xf (zr Xa (zf 0) (eC .non))) yf)
    (zW (sIf (tOf (eUn (yJ .bool) (zf 1))) (xf (Ze (eUn (yJ .bool) (zf 0)) (zr YB (zf 0) (zf 1)))) yf)
    (zW (sIf (tOf (eUn (yJ .int) (zf 1))) (xf (Ze (eUn (yJ .int) (zf 0)) (Ze (Wf (eUn (yJ .bool) (zf 0))) (zr YB (zf 0) (zf 1))))) yf)
    (zW (sIf (tOf (eUn (yJ .str) (zf 1))) (xf (Ze (eUn (yJ .str) (zf 0)) (zr YB (zf 0) (zf 1)))) yf)
    (zW (sIf (Xu (tOf (zr neD (eUn (yJ .list) (zf 1)) (eUn (yJ .list) (zf 0)))) (tOf (zr neD (eUn (yJ .tuple) (zf 1)) (eUn (yJ .tuple) (zf 0))))) (xf (eC (.bl false))) yf)
    (zW (sIf (tOf (zr neD (eFn YE (zd (zf 0) zy)) (eFn YE (zd (zf 1) zy)))) (xf (eC (.bl false))) yf)
    (zW (YC (vd (zd (zf 0) (zd (zf 1) zy))) (Xt 2 (xZ (yH 2) (xZ (yH 3) X9))) (xP r))
    (xf (eC (.bl true))))))))))
noncomputable def wF : List D → Option D := zkh 4 zX 6
theorem W8 (ds : List D) : zdg ds ds = ds.map fun d => .tup [d, d] := by
  induction ds with
  | nil => rfl
  | cons d ds ih => show D.tup [d, d] :: zdg ds ds = _; rw [ih]; rfl
theorem Vp {r : List D → Option D} {d : D} (hr : ∀ es, (d = .tup es ∨ d = .lst es) → ∀ e ∈ es, r [e, e] = some (.bl true)) (hn : ∀ ns, d ≠ .scr ns) (hd : ∀ z t ks vs, d ≠ .dct z t ks vs) : fnD 4 (zX r) [d, d] = some (.bl true) := by
  cases d with
  | scr ns => exact absurd rfl (hn ns)
  | dct z t ks vs => exact absurd rfl (hd z t ks vs)
  | non => rfl
  | bl b => cases b <;> rfl
  | int i => simp [zX, fnD, zW, xf, vP, sIf, xY, Yv, sNo, yf, zcq, YI, Zf, Wg, Z6, vEv, visF, visG, Sl.f, Sl.g, zf, eC, zr, Ze, eOr, Wf, eIf, eUn, zcv, v5, wV, xi, zd, zy, zw, eFn, fFn, tOf, xy, Xu, xb, asB, asI, zT, XL, vO, yQ, xL, ZV, wo, ltD, leD, gtD, geD, Xr, yb, yP, yj, yR, Xa, yw, ixD, YE, yJ, isT, eSl, wG, wL, xg, xz, iOf, YC, xA, vN, wl, v4, yZ, vd, fLC, xn, yB, wy, yH, Xt, xZ, X9, b1, b2]
  | str x => simp [zX, fnD, zW, xf, vP, sIf, xY, Yv, sNo, yf, zcq, YI, Zf, Wg, Z6, vEv, visF, visG, Sl.f, Sl.g, zf, eC, zr, Ze, eOr, Wf, eIf, eUn, zcv, v5, wV, xi, zd, zy, zw, eFn, fFn, tOf, xy, Xu, xb, asB, asI, zT, XL, vO, yQ, xL, ZV, wo, ltD, leD, gtD, geD, Xr, yb, yP, yj, yR, Xa, yw, ixD, YE, yJ, isT, eSl, wG, wL, xg, xz, iOf, YC, xA, vN, wl, v4, yZ, vd, fLC, xn, yB, wy, yH, Xt, xZ, X9, b1, b2]
  | tup es =>
    refine zek (ρ := [.v (.tup es), .v (.tup es), .no, .no]) rfl ?_
    unfold zX
    refine zZ rfl (zZ rfl (zZ rfl (zZ rfl (zZ rfl (vU (zd9 (c := false) (by simp [fnD, zW, xf, vP, sIf, xY, Yv, sNo, yf, zcq, YI, Zf, Wg, Z6, vEv, visF, visG, Sl.f, Sl.g, zf, eC, zr, Ze, eOr, Wf, eIf, eUn, zcv, v5, wV, xi, zd, zy, zw, eFn, fFn, tOf, xy, Xu, xb, asB, asI, zT, XL, vO, yQ, xL, ZV, wo, ltD, leD, gtD, geD, Xr, yb, yP, yj, yR, Xa, yw, ixD, YE, yJ, isT, eSl, wG, wL, xg, xz, iOf, YC, xA, vN, wl, v4, yZ, vd, fLC, xn, yB, wy, yH, Xt, xZ, X9, b1, b2]) (fun z => by cases z) fun _ => Va rfl ?_))))))
    refine vU (zfp (ds := zdg es es) (fun i ρ => ∃ o1 o2, ρ = [.v (.tup es), .v (.tup es), o1, o2]) (by simp [fnD, zW, xf, vP, sIf, xY, Yv, sNo, yf, zcq, YI, Zf, Wg, Z6, vEv, visF, visG, Sl.f, Sl.g, zf, eC, zr, Ze, eOr, Wf, eIf, eUn, zcv, v5, wV, xi, zd, zy, zw, eFn, fFn, tOf, xy, Xu, xb, asB, asI, zT, XL, vO, yQ, xL, ZV, wo, ltD, leD, gtD, geD, Xr, yb, yP, yj, yR, Xa, yw, ixD, YE, yJ, isT, eSl, wG, wL, xg, xz, iOf, YC, xA, vN, wl, v4, yZ, vd, fLC, xn, yB, wy, yH, Xt, xZ, X9, b1, b2]) ⟨_, _, rfl⟩ ?_ ?_)
    · rintro i d ρ hd ⟨o1, o2, rfl⟩
      rw [W8, List.getElem?_map] at hd
      obtain ⟨e, he, rfl⟩ := Option.map_eq_some_iff.mp hd
      have hre := hr es (.inl rfl) e (List.mem_of_getElem? he)
      refine ⟨_, rfl, ?_⟩
      unfold xP
      refine zd9 (c := false) (by simp [fnD, zW, xf, vP, sIf, xY, Yv, sNo, yf, zcq, YI, Zf, Wg, Z6, vEv, visF, visG, Sl.f, Sl.g, zf, eC, zr, Ze, eOr, Wf, eIf, eUn, zcv, v5, wV, xi, zd, zy, zw, eFn, fFn, tOf, xy, Xu, xb, asB, asI, zT, XL, vO, yQ, xL, ZV, wo, ltD, leD, gtD, geD, Xr, yb, yP, yj, yR, Xa, yw, ixD, YE, yJ, isT, eSl, wG, wL, xg, xz, iOf, YC, xA, vN, wl, v4, yZ, vd, fLC, xn, yB, wy, yH, Xt, xZ, X9, b1, b2, hre]) (fun z => by cases z) fun _ => Va rfl ⟨_, _, rfl⟩
    · rintro ρ ⟨o1, o2, rfl⟩
      exact Wh rfl rfl
  | lst es =>
    refine zek (ρ := [.v (.lst es), .v (.lst es), .no, .no]) rfl ?_
    unfold zX
    refine zZ rfl (zZ rfl (zZ rfl (zZ rfl (zZ rfl (vU (zd9 (c := false) (by simp [fnD, zW, xf, vP, sIf, xY, Yv, sNo, yf, zcq, YI, Zf, Wg, Z6, vEv, visF, visG, Sl.f, Sl.g, zf, eC, zr, Ze, eOr, Wf, eIf, eUn, zcv, v5, wV, xi, zd, zy, zw, eFn, fFn, tOf, xy, Xu, xb, asB, asI, zT, XL, vO, yQ, xL, ZV, wo, ltD, leD, gtD, geD, Xr, yb, yP, yj, yR, Xa, yw, ixD, YE, yJ, isT, eSl, wG, wL, xg, xz, iOf, YC, xA, vN, wl, v4, yZ, vd, fLC, xn, yB, wy, yH, Xt, xZ, X9, b1, b2]) (fun z => by cases z) fun _ => Va rfl ?_))))))
    refine vU (zfp (ds := zdg es es) (fun i ρ => ∃ o1 o2, ρ = [.v (.lst es), .v (.lst es), o1, o2]) (by simp [fnD, zW, xf, vP, sIf, xY, Yv, sNo, yf, zcq, YI, Zf, Wg, Z6, vEv, visF, visG, Sl.f, Sl.g, zf, eC, zr, Ze, eOr, Wf, eIf, eUn, zcv, v5, wV, xi, zd, zy, zw, eFn, fFn, tOf, xy, Xu, xb, asB, asI, zT, XL, vO, yQ, xL, ZV, wo, ltD, leD, gtD, geD, Xr, yb, yP, yj, yR, Xa, yw, ixD, YE, yJ, isT, eSl, wG, wL, xg, xz, iOf, YC, xA, vN, wl, v4, yZ, vd, fLC, xn, yB, wy, yH, Xt, xZ, X9, b1, b2]) ⟨_, _, rfl⟩ ?_ ?_)
    · rintro i d ρ hd ⟨o1, o2, rfl⟩
      rw [W8, List.getElem?_map] at hd
      obtain ⟨e, he, rfl⟩ := Option.map_eq_some_iff.mp hd
      have hre := hr es (.inr rfl) e (List.mem_of_getElem? he)
      refine ⟨_, rfl, ?_⟩
      unfold xP
      refine zd9 (c := false) (by simp [fnD, zW, xf, vP, sIf, xY, Yv, sNo, yf, zcq, YI, Zf, Wg, Z6, vEv, visF, visG, Sl.f, Sl.g, zf, eC, zr, Ze, eOr, Wf, eIf, eUn, zcv, v5, wV, xi, zd, zy, zw, eFn, fFn, tOf, xy, Xu, xb, asB, asI, zT, XL, vO, yQ, xL, ZV, wo, ltD, leD, gtD, geD, Xr, yb, yP, yj, yR, Xa, yw, ixD, YE, yJ, isT, eSl, wG, wL, xg, xz, iOf, YC, xA, vN, wl, v4, yZ, vd, fLC, xn, yB, wy, yH, Xt, xZ, X9, b1, b2, hre]) (fun z => by cases z) fun _ => Va rfl ⟨_, _, rfl⟩
    · rintro ρ ⟨o1, o2, rfl⟩
      exact Wh rfl rfl
theorem zeU : ∀ (n : Nat) {d : D}, okE n d = true → zkh 4 zX (n + 1) [d, d] = some (.bl true) := by
  intro n
  induction n with
  | zero =>
    intro d h
    refine Vp (fun es he => ?_) (fun ns e => by subst e; cases h) (fun _ _ _ _ e => by subst e; cases h)
    rcases he with rfl | rfl <;> cases h
  | succ n ih =>
    intro d h
    refine Vp (fun es he e hm => ?_) (fun ns e => by subst e; cases h) (fun _ _ _ _ e => by subst e; cases h)
    rcases he with rfl | rfl
    · exact ih (List.all_eq_true.mp h e hm)
    · exact ih (List.all_eq_true.mp h e hm)
theorem zki {d : D} (h : okE 5 d = true) : wF [d, d] = some (.bl true) := zeU 5 h
theorem Vd (T : Txt K mg ad) : yU P w K mg base CX0 7 ad.f__law_same ad.e__law_same ["found", "due"] (@spD ⟨K⟩ 2 wF) := by
  letI : KK := ⟨K⟩
  have R : ∀ n, yU P w K mg base CX0 (1 + n) ad.f__law_same ad.e__law_same ["found", "due"] (spD 2 (zkh 4 zX n)) := by
    refine zjp (P := P) (w := w) (mg := mg) (base := base) (k0 := 1) (g := zX) T.d__law_same.fn vb fun k r hrec cdv A outer s H E hr => ?_
    unfold zX xP
    exact (zh (xQ (zV zex zaZ (zG _) (za 1 (pv 1)) (zaC V0)) (zi (zB (Xb zex zaZ (zG _) (za 0 (pv 0)) (zaC V0)))) zJ)
      (zh (xQ (x8 (zH .bool rfl T.z_isinstance (za 1 (pv 1)) (yG (v := .ty "bool") rfl T.z_bool XS rfl))) (zi (zB (Yc (zH .bool rfl T.z_isinstance (za 0 (pv 0)) (yG (v := .ty "bool") rfl T.z_bool XS rfl)) (ZB (Xb (wP hr) xK (zG _) (za 0 (pv 0)) (za 1 (pv 1))))))) zJ)
      (zh (xQ (x8 (zH .int rfl T.z_isinstance (za 1 (pv 1)) (yG (v := .ty "int") rfl T.z_int zeY rfl))) (zi (zB (Yc (zH .int rfl T.z_isinstance (za 0 (pv 0)) (yG (v := .ty "int") rfl T.z_int zeY rfl)) (Yc (zhJ (zH .bool rfl T.z_isinstance (za 0 (pv 0)) (yG (v := .ty "bool") rfl T.z_bool XS rfl))) (ZB (Xb (wP hr) xK (zG _) (za 0 (pv 0)) (za 1 (pv 1)))))))) zJ)
      (zh (xQ (x8 (zH .str rfl T.z_isinstance (za 1 (pv 1)) (yG (v := .ty "str") rfl T.z_str zht rfl))) (zi (zB (Yc (zH .str rfl T.z_isinstance (za 0 (pv 0)) (yG (v := .ty "str") rfl T.z_str zht rfl)) (ZB (Xb (wP hr) xK (zG _) (za 0 (pv 0)) (za 1 (pv 1))))))) zJ)
      (zh (xQ (zfW (zgo (zV zeh Xl (zG _) (zH .list rfl T.z_isinstance (za 1 (pv 1)) (yG (v := .ty "list") rfl T.z_list zc5 rfl)) (zH .list rfl T.z_isinstance (za 0 (pv 0)) (yG (v := .ty "list") rfl T.z_list zc5 rfl))) (zdw (zV zeh Xl (zG _) (zH .tuple rfl T.z_isinstance (za 1 (pv 1)) (yG (v := .ty "tuple") rfl T.z_tuple xu rfl)) (zH .tuple rfl T.z_isinstance (za 0 (pv 0)) (yG (v := .ty "tuple") rfl T.z_tuple xu rfl)))))) (zi (zB (vY vD))) zJ)
      (zh (xQ (zV zeh Xl (zG _) (yc zK we rfl T.z_len wX (zc (za 0 (pv 0)) zg)) (yc zK we rfl T.z_len wX (zc (za 1 (pv 1)) zg))) (zi (zB (vY vD))) zJ)
      (zh (Yi PassesOwn.never rfl (zjE rfl T.z_zip (zc (za 0 (pv 0)) (zc (za 1 (pv 1)) zg))) (zfq rfl (vC (yy (zC (i := 2) vb.nd rfl (Or.inl rfl))) (vC (yy (zC (i := 3) vb.nd rfl (Or.inl rfl))) zbT))) (zi (xQ (vK (x8 (zt hrec hr rfl T.d__law_same.at_ T.d__law_same.kp T.d__law_same.bd (zc (za 2 (pv 2)) (zc (za 3 (pv 3)) zg))))) (zi (zB (vY vD))) zJ)))
      (zi (zB (vY vD))))))))))
  exact R 6
end
section
variable {P : Program} {w : World} {K : PySem.W.Frag} {mg : Str → Option Value} {base : Heap} {ad : Adr}
theorem zei {ts : List Tie} (h : ts.length < 64) : zcm [.lst (ts.map zq)] = some ((Z2 ts).map zq) := by
  show (if (ts.map zq).length < 64 then _ else none) = _
  rw [if_pos (by rw [List.length_map]; exact h), show XD (ts.map zq) = some ts from VV ts]
  rfl
set_option genInjectivity false in
set_option genSizeOf false in
set_option genCtorIdx false in
structure zhr (n : Int) (i : Nat) (ts : List Tie) : Prop where
  rng : ∀ t ∈ ts, 0 ≤ t.1 ∧ t.1 < t.2 ∧ t.2 < n
  nd : ts.Nodup
  has : ∀ k : Int, 1 ≤ k → k ≤ (i : Int) → ∃ t ∈ ts, t.2 = k
  len : ts.length ≤ 28 + i
theorem zhr.yes {n x : Int} {i : Nat} {ts : List Tie} (h : zhr n i ts) (hx : x = 1 + (i : Int)) {t : Tie} (ht : t ∈ ts) (e : t.2 = x) : zhr n (i + 1) ts :=
  ⟨h.rng, h.nd, fun k k1 k2 => by
    by_cases c : k = x
    · exact ⟨t, ht, by rw [e, c]⟩
    · exact h.has k k1 (by omega), Nat.le_succ_of_le h.len⟩
theorem zhr.add {n x j : Int} {i : Nat} {ts : List Tie} (h : zhr n i ts) (hx : x = 1 + (i : Int)) (hn : x < n) (j0 : 0 ≤ j) (j1 : j < x) (hno : ∀ t ∈ ts, t.2 ≠ x) : zhr n (i + 1) (ts ++ [(j, x)]) := by
  refine ⟨fun t ht => ?_, ?_, fun k k1 k2 => ?_, ?_⟩
  · rcases List.mem_append.mp ht with ht | ht
    · exact h.rng t ht
    · cases List.mem_singleton.mp ht; exact ⟨j0, j1, hn⟩
  · refine List.nodup_append.mpr ⟨h.nd, List.nodup_cons.mpr ⟨List.not_mem_nil, List.nodup_nil⟩, fun a ha b hb e => ?_⟩
    cases List.mem_singleton.mp hb
    exact hno a ha (by rw [e])
  · by_cases c : k = x
    · exact ⟨(j, x), List.mem_append.mpr (.inr (List.mem_singleton.mpr rfl)), c.symm⟩
    · obtain ⟨t, ht, e⟩ := h.has k k1 (by omega)
      exact ⟨t, List.mem_append.mpr (.inl ht), e⟩
  · rw [List.length_append]
    exact Nat.succ_le_succ h.len
theorem zj1 {ρ : Ev} {ts : List Tie} {x : Int} (h2 : ρ[2]? = some (some (.lst (ts.map zq)))) (h3 : ρ[3]? = some (some (.int x))) (hl : ts.length ≤ 1000) : fLC (iOf (zf 2)) b1 (tOf (zr YB (zr ixD (zf 0) (eC (.int 1))) (zf 4))) (zf 0) ρ = some ((ts.filter fun t => decide (t.2 = x)).map zq) := by
  have e2 : zf 2 ρ = some (.lst (ts.map zq)) := by unfold zf; rw [h2]; rfl
  unfold fLC
  show (((zf 2 ρ).bind xz).bind fun ds => if lim ds.length = true then _ else none) = _
  rw [e2]
  show (if lim (ts.map zq).length = true then _ else none) = _
  rw [if_pos (Ym (by rw [List.length_map]; exact hl))]
  refine vA zq (fun t => decide (t.2 = x)) zq ts fun t _ => ⟨[some (zq t)], rfl, ?_, fun _ => rfl⟩
  have e3 : zf 4 ([some (zq t)] ++ ρ) = some (.int x) := by
    unfold zf
    rw [show ([some (zq t)] ++ ρ)[4]? = ρ[3]? from rfl, h3]
    rfl
  show ((some (D.int t.2)).bind fun a => (zf 4 ([some (zq t)] ++ ρ)).bind fun b => YB a b).bind asB = _
  rw [e3]
  rfl
noncomputable def y0 : SE → Ctl :=
  (zW (xY false 4 (v5 (zd (zr xL (zw 2 yz (zd (zf 1) (zd (zr vE (eC (.int 50)) (zf 3)) zy))) (zf 3)) (zd (zf 3) zy))))
    (sIf (tOf (zr YB (eFn YE (zd (wV (fLC (iOf (zf 2)) b1 (tOf (zr YB (zr ixD (zf 0) (eC (.int 1))) (zf 4))) (zf 0))) zy)) (eC (.int 0)))) (Zf false 2 (zf 4)) yf))
noncomputable def ym : SE → Ctl :=
  (zW (YI 2 (fFn wy (zd (zr ixD (zw 2 xR (zd (zf 0) (zd (zf 1) zy))) (eC (.int 1))) zy)))
    (zW (xA v4 (zd (eC (.int 1)) (zd (zf 0) zy)) (yH 3) y0)
    (sFz 2 (xf (v5 (zd (zf 0) (zd (eFn yB (zd (wV (fFn zcm (zd (zf 2) zy))) zy)) zy)))))))
noncomputable def xJ : List D → Option D := fnD 5 ym
theorem zad {n c : Int} (h1 : 1 ≤ n) (h8 : n ≤ 8) : ∃ ts, xJ [.int n, .int c] = some (zm n ts) ∧ Xy n ts ∧ (∀ x : Int, 1 ≤ x → x < n → ∃ t ∈ ts, t.2 = x) := by
  obtain ⟨ts0, ew, hsub⟩ := zey (n := n) (c := c) h1 h8
  obtain ⟨k, hk⟩ : ∃ k : Nat, n = ((k + 1 : Nat) : Int) := ⟨(n - 1).toNat, by omega⟩
  have hk7 : k ≤ 7 := by omega
  obtain ⟨q1, q2, q3⟩ := ZN n.toNat (by omega)
  have key := zkO (m := 5) (g := ym) (ds := [.int n, .int c]) (R := fun d => ∃ ts : List Tie, d = zm n (Z2 ts) ∧ zhr n k ts) (ρ := [.v (.int n), .v (.int c), .no, .no, .no]) rfl ?_
  · obtain ⟨d, e, ts, rfl, hj⟩ := key
    have hp := Xk ts
    have hr : ∀ t ∈ Z2 ts, 0 ≤ t.1 ∧ t.1 < t.2 ∧ t.2 < n := fun t ht => hj.rng t (hp.mem_iff.mp ht)
    refine ⟨_, e, ⟨h1, h8, hr, VI hj.nd⟩, fun x x1 x2 => ?_⟩
    obtain ⟨t, ht, e2⟩ := hj.has x x1 (by omega)
    exact ⟨t, hp.mem_iff.mpr ht, e2⟩
  unfold ym
  refine zZ (ρ' := [.v (.int n), .v (.int c), .o (ts0.map zq), .no, .no]) (zjc (ds := ts0.map zq) ?_) ?_
  · show (((xR [.int n, .int c]).bind fun x => ixD x (.int 1)).bind fun d => (some []).map (d :: ·)).bind wy = _
    rw [ew]
    rfl
  have hrng : v4 [.int 1, .int n] = some (YD 1 k) := zj6 hk hk7
  refine vU (zdc (lo := 1) (c := k) (fun i ρ => ∃ (ts : List Tie) (o3 o4 : Sl), ρ = [.v (.int n), .v (.int c), .o (ts.map zq), o3, o4] ∧ zhr n i ts) hrng ⟨ts0, _, _, rfl, ⟨fun t ht => ?_, (q1.sublist hsub).imp fun {a b} h e => by subst e; exact absurd (Zy.mpr h) (by unfold leP; simp), fun k k1 k2 => absurd (Int.le_trans k1 k2) (by decide), Nat.le_trans hsub.length_le q3⟩⟩ ?_ ?_)
  · have := q2 t (hsub.subset ht)
    omega
  · rintro i ρ hi ⟨ts, o3, o4, rfl, hj⟩
    obtain ⟨x, hx⟩ : ∃ x : Int, x = (1 : Int) + (i : Int) := ⟨_, rfl⟩
    rw [← hx]
    refine ⟨[.v (.int n), .v (.int c), .o (ts.map zq), .v (.int x), o4], rfl, ?_⟩
    unfold y0
    obtain ⟨j, hjj⟩ : ∃ j : Int, zhz c (50 + x) % x = j := ⟨_, rfl⟩
    have xp : 0 < x := by omega
    obtain ⟨j0, j1⟩ := XI xp hjj
    have hl := hj.len
    refine zZ (ρ' := [.v (.int n), .v (.int c), .o (ts.map zq), .v (.int x), .v (zq (j, x))]) (vZ (d := zq (j, x)) ?_) ?_
    · have m1 : xL (.int (zhz c (50 + x))) (.int x) = some (.int j) := by rw [xV xp, hjj]
      show ((xL (.int (zhz c (50 + x))) (.int x)).bind fun d => (some [D.int x]).map (d :: ·)).bind _ = _
      rw [m1]
      rfl
    refine zd9 (c := decide ((((ts.filter fun t => decide (t.2 = x)).map zq).length : Int) = 0)) ?_ (fun c0 => ?_) (fun c0 => ?_)
    · have el' := zj1 (ρ := visG [.v (.int n), .v (.int c), .o (ts.map zq), .v (.int x), .v (zq (j, x))]) (ts := ts) (x := x) rfl rfl (by omega)
      show (((((fLC (iOf (zf 2)) b1 (tOf (zr YB (zr ixD (zf 0) (eC (.int 1))) (zf 4))) (zf 0) _).map D.lst).bind fun d => (some []).map (d :: ·)).bind YE).bind fun a => YB a (.int 0)).bind asB = _
      rw [el']
      rfl
    · refine Va (zhD (ds := ts.map zq) (d := zq (j, x)) rfl rfl (by rw [List.length_map]; omega)) ⟨ts ++ [(j, x)], .v (.int x), .v (zq (j, x)), ?_, hj.add hx (by omega) j0 j1 fun t ht e => ?_⟩
      · rw [List.map_append]; rfl
      · have h0 := of_decide_eq_true c0
        have : t ∈ ts.filter fun t => decide (t.2 = x) := List.mem_filter.mpr ⟨ht, decide_eq_true e⟩
        rw [List.length_map] at h0
        rw [List.length_eq_zero_iff.mp (Int.ofNat.inj h0)] at this
        cases this
    · obtain ⟨t, ht⟩ : ∃ t, t ∈ ts.filter fun t => decide (t.2 = x) := by
        rcases hf : ts.filter fun t => decide (t.2 = x) with _ | ⟨t, r⟩
        · rw [hf] at c0; cases c0
        · exact ⟨t, by rw [hf]; exact List.mem_cons_self⟩
      obtain ⟨t1, t2⟩ := List.mem_filter.mp ht
      exact Va rfl ⟨ts, _, _, rfl, hj.yes hx t1 (of_decide_eq_true t2)⟩
  · rintro ρ ⟨ts, o3, o4, rfl, hj⟩
    have hl := hj.len
    have e5 := zei (ts := ts) (by omega)
    refine zlL (ρ' := [.v (.int n), .v (.int c), .v (.lst (ts.map zq)), o3, o4]) rfl ?_
    refine Wh (Zt (d := zm n (Z2 ts)) ?_) ⟨ts, rfl, hj⟩
    show ((((((zcm [.lst (ts.map zq)]).map D.lst).bind fun d => (some []).map (d :: ·)).bind yB).bind fun d => (some []).map (d :: ·)).map (D.int n :: ·)).bind _ = _
    rw [e5]
    rfl
theorem YX (T : Txt K mg ad) : yU P w K mg base CX0 3 ad.f__law_joined_by ad.e__law_joined_by ["many", "cell"] (@spD ⟨K⟩ 2 xJ) := by
  letI : KK := ⟨K⟩
  have G__law_stir := Zb (P := P) (w := w) (base := base) T
  have G__law_web_by := ZW (P := P) (w := w) (base := base) T
  refine yL (N := ["many", "cell", "ties", "k", "tie"]) (ps := ["many", "cell"]) T.d__law_joined_by.fn yF (g := ym) fun cdv A outer s H E hr => ?_
  unfold ym y0
  exact (zh (Y0 (i := 2) yF.nd rfl (Or.inl rfl) (ze1 rfl T.z_list (zc (yi (zt (G__law_web_by.mono (by decide)) hr rfl T.d__law_web_by.at_ T.d__law_web_by.kp T.d__law_web_by.bd (zc (za 0 (pv 0)) (zc (za 1 (pv 1)) zg))) (zk zn) (fun _ _ => rfl)) zg)))
      (zh (zhc PassesOwn.never rfl rfl T.z_range (zc (zk zn) (zc (za 0 (pv 0)) zg)) (yy (zC (i := 3) yF.nd rfl (Or.inr rfl))) (zh (yI (m := false) (i := 4) yF.nd rfl (Or.inl rfl) (Y6 (zc (wU (zt (G__law_stir.mono (by decide)) hr rfl T.d__law_stir.at_ T.d__law_stir.kp T.d__law_stir.bd (zc (za 1 (pv 1)) (zc (xw (zk zn) (za 3 (pv 3))) zg))) (za 3 (pv 3))) (zc (za 3 (pv 3)) zg))))
      (zi (xQ (zV (wP hr) xK (zG _) (yc zK we rfl T.z_len wX (zc (vI (Xq (L := ["other"]) (M := ["many", "cell", "ties", "k", "tie"]) rfl (w8 (by rfl) (by rfl) (by rfl) (by with_unfolding_all rfl) (by rfl) (by rfl) (by kernel_rfl) (all_cons rfl xW)) (Zu (za 2 (pv 2))) gs1 rb1 (fun _ _ _ _ => (zC (i := 0) zlu rfl (Or.inl rfl) (.inr rfl))) (fun _ _ _ _ => (zV (wP hr) xK (zG _) (yi (za 0 (pv 0)) (zk zn) (fun _ _ => rfl)) (za 4 (pv 4)))) (fun _ _ _ _ => (za 0 (pv 0))))) zg)) (zk zn)) (zi (Xp (m := false) (pv 2) (za 4 (pv 4)) (fun a b => zan PySem.F.plainAttrs_list PySem.F.slot_list_append PySem.F.type_list_append xX a b))) zJ))))
      (Y7 2 (zi (zB (Y6 (zc (za 0 (pv 0)) (zc (w6 yY vh rfl T.z_tuple xu (zc (vI (zfP rfl rfl T.z_sorted (zc (za 2 (pv 2)) zg))) zg)) zg))))))))
noncomputable def xG : SE → Ctl :=
  (sIf (xb (tOf (zw 3 zA (zd (zf 0) (zd (zf 1) (zd (zf 2) zy)))))) sNo yf)
noncomputable def wT : List D → Option D := fnD 3 xG
theorem YN (T : Txt K mg ad) : yU P w K mg base CX0 3 ad.f_must_be_within ad.e_must_be_within ["thing", "least", "most"] (@spD ⟨K⟩ 3 wT) := by
  letI : KK := ⟨K⟩
  have G_is_whole_within := xa (P := P) (w := w) (base := base) T
  refine yL (N := ["thing", "least", "most"]) (ps := ["thing", "least", "most"]) T.d_must_be_within.fn YK (g := xG) fun cdv A outer s H E hr => ?_
  unfold xG
  exact (zi (xQ (vK (x8 (zt (G_is_whole_within.mono (by decide)) hr rfl T.d_is_whole_within.at_ T.d_is_whole_within.kp T.d_is_whole_within.bd (zc (za 0 (pv 0)) (zc (za 1 (pv 1)) (zc (za 2 (pv 2)) zg)))))) (zi Ys) zJ))
noncomputable def xr : SE → Ctl :=
  (sIf (tOf (zr gtD (zf 0) (zf 1))) sNo yf)
noncomputable def wv : List D → Option D := fnD 2 xr
theorem Yg (T : Txt K mg ad) : yU P w K mg base CX0 1 ad.f_must_be_at_most ad.e_must_be_at_most ["many", "most"] (@spD ⟨K⟩ 2 wv) := by
  letI : KK := ⟨K⟩
  refine yL (N := ["many", "most"]) (ps := ["many", "most"]) T.d_must_be_at_most.fn Yr (g := xr) fun cdv A outer s H E hr => ?_
  unfold xr
  exact (zi (xQ (zV zdU yM (zG _) (za 0 (pv 0)) (za 1 (pv 1))) (zi Ys) zJ))
noncomputable def Yz : SE → Ctl :=
  (sIf (tOf (zr Xa (zr ixD (zf 2) (zf 6)) (eC .non))) (zW (Z6 true 2 (zf 6) (zr vE (zr ixD (zf 2) (zf 5)) (eC (.int 1))))
    (Zf false 4 (zf 6))) yf)
noncomputable def Yd : SE → Ctl :=
  (YC (iOf (zw 2 zU (zd (zf 0) (zd (zf 5) zy)))) (yH 6) Yz)
noncomputable def Yt : SE → Ctl :=
  (zW (YI 4 (xi zy))
    (zW (YC (iOf (zf 3)) (yH 5) Yd)
    (sFz 4 (xY false 3 (zf 4)))))
noncomputable def vV : SE → Ctl :=
  (zW (YI 2 (fBin zjh (wV (xi (zd (eC .non) zy))) (zr ixD (zf 0) (eC (.int 0)))))
    (zW (Z6 false 2 (zf 1) (eC (.int 0)))
    (zW (xY false 3 (wV (xi (zd (zf 1) zy))))
    (zW (Y8 (tOf (zr gtD (eFn YE (zd (zf 3) zy)) (eC (.int 0)))) Yt 10)
    (sFz 2 (xf (zf 2)))))))
noncomputable def ZU : List D → Option D := fnD 7 vV
theorem WK (T : Txt K mg ad) : yU P w K mg base CX0 3 ad.f_ties_away ad.e_ties_away ["web", "start"] (@spD ⟨K⟩ 2 ZU) := by
  letI : KK := ⟨K⟩
  have G_neighbours := Yy (P := P) (w := w) (base := base) T
  refine yL (N := ["web", "start", "away", "rim", "further", "place", "other"]) (ps := ["web", "start"]) T.d_ties_away.fn yA (g := vV) fun cdv A outer s H E hr => ?_
  unfold vV Yt Yd Yz
  exact (zh (Y0 (i := 2) yA.nd rfl (Or.inl rfl) (zkt (vI (vL (zc (zaC V0) zg))) (yi (za 0 (pv 0)) (zk zn) (fun _ _ => rfl))))
      (zh (zdI (m := false) (zk zn) (pv 2) (za 1 (pv 1)))
      (zh (yI (m := false) (i := 3) yA.nd rfl (Or.inl rfl) (vI (vL (zc (za 1 (pv 1)) zg))))
      (zh (zdo 10 PassesOwn.never (zV zdU yM (zG _) (yc zK we rfl T.z_len wX (zc (za 3 (pv 3)) zg)) (zk zn)) (zh (Y0 (i := 4) yA.nd rfl (Or.inl rfl) (vL zg))
      (zh (Yi PassesOwn.never rfl (Zu (za 3 (pv 3))) (yy (zC (i := 5) yA.nd rfl (Or.inl rfl))) (zi (Yi PassesOwn.never rfl (Zu (zt (G_neighbours.mono (by decide)) hr rfl T.d_neighbours.at_ T.d_neighbours.kp T.d_neighbours.bd (zc (za 0 (pv 0)) (zc (za 5 (pv 5)) zg)))) (yy (zC (i := 6) yA.nd rfl (Or.inl rfl))) (zi (xQ (zV zex zaZ (zG _) (yi (za 2 (pv 2)) (za 6 (pv 6)) (fun _ _ => rfl)) (zaC V0)) (zh (zdI (m := true) (xw (yi (za 2 (pv 2)) (za 5 (pv 5)) (fun _ _ => rfl)) (zk zn)) (pv 2) (za 6 (pv 6)))
      (zi (Xp (m := false) (pv 4) (za 6 (pv 6)) (fun a b => zan PySem.F.plainAttrs_list PySem.F.slot_list_append PySem.F.type_list_append xX a b)))) zJ)))))
      (Y7 4 (zi (yI (m := false) (i := 3) yA.nd rfl (Or.inl rfl) (za 4 (pv 4))))))))
      (Y7 2 (zi (zB (za 2 (pv 2)))))))))
noncomputable def Xh : SE → Ctl :=
  (zW (xY false 3 (zw 2 ZU (zd (zf 0) (zd (zf 2) zy))))
    (zW (xY false 4 (eFn yB (zd (wV (fLC (vN wl (zd (zr ixD (zf 0) (eC (.int 0))) zy)) b1 (tOf (zr yw (zr ixD (zf 4) (zf 0)) (eC .non))) (zf 0))) zy)))
    (sIf (tOf (zr YB (zr ixD (zf 4) (eC (.int 0))) (zf 2))) (Zf false 1 (zf 4)) yf)))
noncomputable def XA : SE → Ctl :=
  (zW (Yv (zw 1 yh (zd (zf 0) zy)))
    (zW (YI 1 (xi zy))
    (zW (xA wl (zd (zr ixD (zf 0) (eC (.int 0))) zy) (yH 2) Xh)
    (sFz 1 (xf (zf 1))))))
noncomputable def zdu : List D → Option D := fnD 5 XA
theorem zep (T : Txt K mg ad) : yU P w K mg base CX0 8 ad.f_pieces ad.e_pieces ["web"] (@spD ⟨K⟩ 1 zdu) := by
  letI : KK := ⟨K⟩
  have G_must_be_web := wf (P := P) (w := w) (base := base) T
  have G_ties_away := WK (P := P) (w := w) (base := base) T
  refine yL (N := ["web", "found", "start", "away", "piece"]) (ps := ["web"]) T.d_pieces.fn vq (g := XA) fun cdv A outer s H E hr => ?_
  unfold XA Xh
  exact (zh (wY (zt (G_must_be_web.mono (by decide)) hr rfl T.d_must_be_web.at_ T.d_must_be_web.kp T.d_must_be_web.bd (zc (za 0 (pv 0)) zg)))
      (zh (Y0 (i := 1) vq.nd rfl (Or.inl rfl) (vL zg))
      (zh (Zj PassesOwn.never rfl rfl T.z_range (zc (yi (za 0 (pv 0)) (zk zn) (fun _ _ => rfl)) zg) (yy (zC (i := 2) vq.nd rfl (Or.inl rfl))) (zh (yI (m := false) (i := 3) vq.nd rfl (Or.inr rfl) (zt (G_ties_away.mono (by decide)) hr rfl T.d_ties_away.at_ T.d_ties_away.kp T.d_ties_away.bd (zc (za 0 (pv 0)) (zc (za 2 (pv 2)) zg))))
      (zh (yI (m := false) (i := 4) vq.nd rfl (Or.inl rfl) (w6 yY vh rfl T.z_tuple xu (zc (vI (Xq (L := ["place"]) (M := ["web", "found", "start", "away", "piece"]) rfl (w8 (by rfl) (by rfl) (by rfl) (by with_unfolding_all rfl) (by rfl) (by rfl) (by kernel_rfl) (all_cons rfl xW)) (wz rfl T.z_range (zc (yi (za 0 (pv 0)) (zk zn) (fun _ _ => rfl)) zg)) gs1 rb1 (fun _ _ _ _ => (zC (i := 0) zlO rfl (Or.inl rfl) (.inr rfl))) (fun _ _ _ _ => (zV zfz zd0 (zG _) (yi (za 4 (pv 4)) (za 0 (pv 0)) (fun _ _ => rfl)) (zaC V0))) (fun _ _ _ _ => (za 0 (pv 0))))) zg)))
      (zi (xQ (zV (wP hr) xK (zG _) (yi (za 4 (pv 4)) (zk zn) (fun _ _ => rfl)) (za 2 (pv 2))) (zi (Xp (m := false) (pv 1) (za 4 (pv 4)) (fun a b => zan PySem.F.plainAttrs_list PySem.F.slot_list_append PySem.F.type_list_append xX a b))) zJ)))))
      (Y7 1 (zi (zB (za 1 (pv 1))))))))
noncomputable def vQ : SE → Ctl :=
  (xf (zr YB (eFn YE (zd (zw 1 zdu (zd (zf 0) zy)) zy)) (eC (.int 1))))
noncomputable def Zv : List D → Option D := fnD 1 vQ
theorem zap (T : Txt K mg ad) : yU P w K mg base CX0 9 ad.f_is_joined ad.e_is_joined ["web"] (@spD ⟨K⟩ 1 Zv) := by
  letI : KK := ⟨K⟩
  have G_pieces := zep (P := P) (w := w) (base := base) T
  refine yL (N := ["web"]) (ps := ["web"]) T.d_is_joined.fn VW (g := vQ) fun cdv A outer s H E hr => ?_
  unfold vQ
  exact (zi (zB (Xb (wP hr) xK (zG _) (yc zK we rfl T.z_len wX (zc (zt (G_pieces.mono (by decide)) hr rfl T.d_pieces.at_ T.d_pieces.kp T.d_pieces.bd (zc (za 0 (pv 0)) zg)) zg)) (zk zn))))
noncomputable def ZT : SE → Ctl :=
  (zW (YI 2 (fFn wy (zd (zf 0) zy)))
    (zW (Z6 true 2 (zr ixD (zf 1) (eC (.int 0))) (zr XL (zr ixD (zf 2) (zr ixD (zf 1) (eC (.int 0)))) (eC (.int 2))))
    (zW (Z6 true 2 (zr ixD (zf 1) (eC (.int 1))) (zr vE (zr ixD (zf 2) (zr ixD (zf 1) (eC (.int 1)))) (eC (.int 1))))
    (sFz 2 (xf (eFn yB (zd (zf 2) zy)))))))
noncomputable def zab : List D → Option D := fnD 3 ZT
theorem zdZ (T : Txt K mg ad) : yU P w K mg base CX0 1 ad.f_stepped ad.e_stepped ["heap", "step"] (@spD ⟨K⟩ 2 zab) := by
  letI : KK := ⟨K⟩
  refine yL (N := ["heap", "step", "stones"]) (ps := ["heap", "step"]) T.d_stepped.fn Xo (g := ZT) fun cdv A outer s H E hr => ?_
  unfold ZT
  exact (zh (Y0 (i := 2) Xo.nd rfl (Or.inl rfl) (ze1 rfl T.z_list (zc (za 0 (pv 0)) zg)))
      (zh (zdI (m := true) (zeZ (yi (za 2 (pv 2)) (yi (za 1 (pv 1)) (zk zn) (fun _ _ => rfl)) (fun _ _ => rfl)) (zk zn)) (pv 2) (yi (za 1 (pv 1)) (zk zn) (fun _ _ => rfl)))
      (zh (zdI (m := true) (xw (yi (za 2 (pv 2)) (yi (za 1 (pv 1)) (zk zn) (fun _ _ => rfl)) (fun _ _ => rfl)) (zk zn)) (pv 2) (yi (za 1 (pv 1)) (zk zn) (fun _ _ => rfl)))
      (Y7 2 (zi (zB (w6 yY vh rfl T.z_tuple xu (zc (za 2 (pv 2)) zg))))))))
noncomputable def xk : SE → Ctl :=
  (zW (sIf (xb (tOf (zw 1 Zv (zd (zf 0) zy)))) sNo yf)
    (Yv (zw 2 wv (zd (zr ixD (zf 0) (eC (.int 0))) (zd (eC (.int 6)) zy)))))
noncomputable def wx : List D → Option D := fnD 1 xk
theorem Yf (T : Txt K mg ad) : yU P w K mg base CX0 10 ad.f_must_be_counted ad.e_must_be_counted ["web"] (@spD ⟨K⟩ 1 wx) := by
  letI : KK := ⟨K⟩
  have G_must_be_at_most := Yg (P := P) (w := w) (base := base) T
  have G_is_joined := zap (P := P) (w := w) (base := base) T
  refine yL (N := ["web"]) (ps := ["web"]) T.d_must_be_counted.fn Yl (g := xk) fun cdv A outer s H E hr => ?_
  unfold xk
  exact (zh (xQ (vK (x8 (zt (G_is_joined.mono (by decide)) hr rfl T.d_is_joined.at_ T.d_is_joined.kp T.d_is_joined.bd (zc (za 0 (pv 0)) zg)))) (zi Ys) zJ)
      (zi (wY (zt (G_must_be_at_most.mono (by decide)) hr rfl T.d_must_be_at_most.at_ T.d_must_be_at_most.kp T.d_must_be_at_most.bd (zc (yi (za 0 (pv 0)) (zk zn) (fun _ _ => rfl)) (zc (zk (Xz (v := .int 6) rfl T.g_MOST_COUNTED ⟨_, rfl⟩)) zg))))))
noncomputable def xH : SE → Ctl :=
  (zW (Yv (zw 1 yh (zd (zf 0) zy)))
    (zW (Yv (zw 2 y4 (zd (zf 0) (zd (zf 1) zy))))
    (Yv (zw 3 wT (zd (zf 2) (zd (eC (.int 1)) (zd (eC (.int 3)) zy)))))))
noncomputable def wR : List D → Option D := fnD 3 xH
theorem YO (T : Txt K mg ad) : yU P w K mg base CX0 8 ad.f_must_be_wanted ad.e_must_be_wanted ["web", "place", "m"] (@spD ⟨K⟩ 3 wR) := by
  letI : KK := ⟨K⟩
  have G_must_be_within := YN (P := P) (w := w) (base := base) T
  have G_must_be_web := wf (P := P) (w := w) (base := base) T
  have G_must_be_place := Zi (P := P) (w := w) (base := base) T
  refine yL (N := ["web", "place", "m"]) (ps := ["web", "place", "m"]) T.d_must_be_wanted.fn YR (g := xH) fun cdv A outer s H E hr => ?_
  unfold xH
  exact (zh (wY (zt (G_must_be_web.mono (by decide)) hr rfl T.d_must_be_web.at_ T.d_must_be_web.kp T.d_must_be_web.bd (zc (za 0 (pv 0)) zg)))
      (zh (wY (zt (G_must_be_place.mono (by decide)) hr rfl T.d_must_be_place.at_ T.d_must_be_place.kp T.d_must_be_place.bd (zc (za 0 (pv 0)) (zc (za 1 (pv 1)) zg))))
      (zi (wY (zt (G_must_be_within.mono (by decide)) hr rfl T.d_must_be_within.at_ T.d_must_be_within.kp T.d_must_be_within.bd (zc (za 2 (pv 2)) (zc (zk zn) (zc (zk (Xz (v := .int 3) rfl T.g_MOST_WANTED ⟨_, rfl⟩)) zg))))))))
noncomputable def zbi : SE → Ctl :=
  (zW (xY false 1 (zr zhY (wV (fLC (yZ (zd (zf 0) zy)) b2 (tOf (zr gtD (zf 1) (eC (.int 0)))) (zf 0))) (eC (.int 0))))
    (xf (wV (fLC (vN v4 (zd (zf 1) (zd (eFn YE (zd (zf 0) zy)) zy))) b1 xn (zr vE (zr vE (eSl slD (zf 1) wG (wL (zf 0))) (v5 (zd (zr vE (zr ixD (zf 1) (zf 0)) (eC (.int 1))) zy))) (eSl slD (zf 1) (wL (zr vE (zf 0) (eC (.int 1)))) wG))))))
noncomputable def zfb : List D → Option D := fnD 2 zbi
theorem zgY (T : Txt K mg ad) : yU P w K mg base CX0 1 ad.f_grown ad.e_grown ["heap"] (@spD ⟨K⟩ 1 zfb) := by
  letI : KK := ⟨K⟩
  refine yL (N := ["heap", "last"]) (ps := ["heap"]) T.d_grown.fn zdn (g := zbi) fun cdv A outer s H E hr => ?_
  unfold zbi
  exact (zh (yI (m := false) (i := 1) zdn.nd rfl (Or.inl rfl) (zie rfl rfl T.z_max (vI (Xq (L := ["place", "stones"]) (M := ["heap", "last"]) rfl (w8 (by rfl) (by rfl) (by rfl) (by with_unfolding_all rfl) (by rfl) (by rfl) (by kernel_rfl) xW) (zc4 rfl T.z_enumerate ve (zc (za 0 (pv 0)) zg)) gs2 rb2 (fun _ _ _ _ => (zho rfl (Wc (zC (i := 0) zkQ rfl (Or.inl rfl) (.inr rfl)) (Wc (zC (i := 1) zkQ rfl (Or.inl rfl) (.inr rfl)) zev)))) (fun _ _ _ _ => (zV zdU yM (zG _) (za 1 (pv 1)) (zk zn))) (fun _ _ _ _ => (za 0 (pv 0))))) (zk zn)))
      (zi (zB (vI (WF (L := ["place"]) (M := ["heap", "last"]) rfl (w8 (by rfl) (by rfl) (by rfl) (by with_unfolding_all rfl) (by rfl) (by rfl) (by kernel_rfl) (all_cons rfl xW)) (Wv rfl T.z_range (zc (za 1 (pv 1)) (zc (yc zK we rfl T.z_len wX (zc (za 0 (pv 0)) zg)) zg))) gs1 rb1 (fun _ _ _ _ => (zC (i := 0) zlp rfl (Or.inl rfl) (.inr rfl))) (fun _ _ _ _ => (xw (xw (Wd (za 1 (pv 1)) zcp (zcx (za 0 (pv 0)))) (Y6 (zc (xw (yi (za 1 (pv 1)) (za 0 (pv 0)) (fun _ _ => rfl)) (zk zn)) zg))) (Wd (za 1 (pv 1)) (zcx (xw (za 0 (pv 0)) (zk zn))) zcp))))))))
noncomputable def Y9 : SE → Ctl :=
  (sIf (xy (tOf (zr geD (zr ixD (zf 0) (zr ixD (zf 3) (eC (.int 0)))) (eC (.int 2)))) (tOf (zr (dinD true) (zw 2 zab (zd (zf 0) (zd (zf 3) zy))) (zf 2)))) (xf (eC (.bl false))) yf)
noncomputable def YS : SE → Ctl :=
  (zW (YC (iOf (zf 1)) (yH 3) Y9)
    (xf (eC (.bl true))))
noncomputable def Xc : List D → Option D := fnD 4 YS
theorem zbN (T : Txt K mg ad) : yU P w K mg base CX0 2 ad.f_leads_to ad.e_leads_to ["heap", "steps", "level"] (@spD ⟨K⟩ 3 Xc) := by
  letI : KK := ⟨K⟩
  have G_stepped := zdZ (P := P) (w := w) (base := base) T
  refine yL (N := ["heap", "steps", "level", "step"]) (ps := ["heap", "steps", "level"]) T.d_leads_to.fn ZL (g := YS) fun cdv A outer s H E hr => ?_
  unfold YS Y9
  exact (zh (Yi PassesOwn.never rfl (Zu (za 1 (pv 1))) (yy (zC (i := 3) ZL.nd rfl (Or.inl rfl))) (zi (xQ (zfW (Xj (zV zlw yM (zG _) (yi (za 0 (pv 0)) (yi (za 3 (pv 3)) (zk zn) (fun _ _ => rfl)) (fun _ _ => rfl)) (zk zn)) (YU (zV (zes hr) zi7 (by with_unfolding_all rfl) (zt (G_stepped.mono (by decide)) hr rfl T.d_stepped.at_ T.d_stepped.kp T.d_stepped.bd (zc (za 0 (pv 0)) (zc (za 3 (pv 3)) zg))) (za 2 (pv 2)))))) (zi (zB (vY vD))) zJ)))
      (zi (zB (vY vD))))
noncomputable def vf : SE → Ctl :=
  (sIf (xy (tOf (zr ltD (zr ixD (zf 6) (zf 2)) (zf 3))) (tOf (zw 3 Xc (zd (zf 6) (zd (zf 1) (zd (zf 0) zy)))))) (ziH false 4 (zf 6) (eC (.bl true))) yf)
noncomputable def wZ : SE → Ctl :=
  (YC (iOf (zw 1 zfb (zd (zf 5) zy))) (yH 6) vf)
noncomputable def wK : SE → Ctl :=
  (zW (zh1 true 4)
    (zW (YC (iDct (zf 0)) (yH 5) wZ)
    (zlR 4 (xf (zf 4)))))
noncomputable def Ya : List D → Option D := fnD 7 wK
theorem ZX (T : Txt K mg ad) : yU P w K mg base CX0 3 ad.f_level_above ad.e_level_above ["level", "steps", "place", "m"] (@spD ⟨K⟩ 4 Ya) := by
  letI : KK := ⟨K⟩
  have G_grown := zgY (P := P) (w := w) (base := base) T
  have G_leads_to := zbN (P := P) (w := w) (base := base) T
  refine yL (N := ["level", "steps", "place", "m", "above", "heap", "more"]) (ps := ["level", "steps", "place", "m"]) T.d_level_above.fn xv (g := wK) fun cdv A outer s H E hr => ?_
  unfold wK wZ vf
  exact (zh (zi8 (t := true) (i := 4) xv.nd rfl (Or.inl rfl))
      (zh (Yi PassesOwn.never rfl (zhZ (za 0 (pv 0))) (yy (zC (i := 5) xv.nd rfl (Or.inl rfl))) (zi (Yi PassesOwn.never rfl (Zu (zt (G_grown.mono (by decide)) hr rfl T.d_grown.at_ T.d_grown.kp T.d_grown.bd (zc (za 5 (pv 5)) zg))) (yy (zC (i := 6) xv.nd rfl (Or.inl rfl))) (zi (xQ (zfW (Xj (zV zkA yM (zG _) (yi (za 6 (pv 6)) (za 2 (pv 2)) (fun _ _ => rfl)) (za 3 (pv 3))) (YU (x8 (zt (G_leads_to.mono (by decide)) hr rfl T.d_leads_to.at_ T.d_leads_to.kp T.d_leads_to.bd (zc (za 6 (pv 6)) (zc (za 1 (pv 1)) (zc (za 0 (pv 0)) zg)))))))) (zi (ziO (m := false) hr (vY vD) (pv 4) (za 6 (pv 6)))) zJ)))))
      (zh2 4 (zi (zB (za 4 (pv 4)))))))
noncomputable def wc : SE → Ctl :=
  (zW (Zf false 5 (zf 6))
    (xY false 6 (zw 4 Ya (zd (zf 6) (zd (zf 4) (zd (zf 1) (zd (zf 2) zy)))))))
noncomputable def xE : SE → Ctl :=
  (zW (xY false 4 (zw 1 vR (zd (zf 0) zy)))
    (zW (YI 5 (xi zy))
    (zW (xY false 6 (zhL (eFn yB (zd (zr vO (wV (xi (zd (eC (.int 0)) zy))) (zr ixD (zf 0) (eC (.int 0)))) zy)) (eC (.bl true))))
    (zW (Y8 (xy (tOf (zr gtD (eFn zhV (zd (zf 6) zy)) (eC (.int 0)))) (tOf (zr leD (eFn YE (zd (zf 5) zy)) (zf 3)))) wc 40)
    (sFz 5 (xf (zf 5)))))))
noncomputable def wQ : List D → Option D := fnD 7 xE
theorem YQ (T : Txt K mg ad) : yU P w K mg base CX0 4 ad.f_failing_levels ad.e_failing_levels ["web", "place", "m", "most"] (@spD ⟨K⟩ 4 wQ) := by
  letI : KK := ⟨K⟩
  have G_all_steps := V7 (P := P) (w := w) (base := base) T
  have G_level_above := ZX (P := P) (w := w) (base := base) T
  refine yL (N := ["web", "place", "m", "most", "steps", "levels", "level"]) (ps := ["web", "place", "m", "most"]) T.d_failing_levels.fn ye (g := xE) fun cdv A outer s H E hr => ?_
  unfold xE wc
  exact (zh (yI (m := false) (i := 4) ye.nd rfl (Or.inl rfl) (zt (G_all_steps.mono (by decide)) hr rfl T.d_all_steps.at_ T.d_all_steps.kp T.d_all_steps.bd (zc (za 0 (pv 0)) zg)))
      (zh (Y0 (i := 5) ye.nd rfl (Or.inl rfl) (vL zg))
      (zh (yI (m := false) (i := 6) ye.nd rfl (Or.inl rfl) (zgI hr (w6 yY vh rfl T.z_tuple xu (zc (Xs (vI (vL (zc (zk zn) zg))) (yi (za 0 (pv 0)) (zk zn) (fun _ _ => rfl))) zg)) (vY vD)))
      (zh (zdo 40 PassesOwn.never (zfW (Xj (zV zdU yM (zG _) (yc zfh zgq rfl T.z_len wX (zc (za 6 (pv 6)) zg)) (zk zn)) (YU (zV zfO yM (zG _) (yc zK we rfl T.z_len wX (zc (za 5 (pv 5)) zg)) (za 3 (pv 3)))))) (zh (Xp (m := false) (pv 5) (za 6 (pv 6)) (fun a b => zan PySem.F.plainAttrs_list PySem.F.slot_list_append PySem.F.type_list_append xX a b))
      (zi (yI (m := false) (i := 6) ye.nd rfl (Or.inl rfl) (zt (G_level_above.mono (by decide)) hr rfl T.d_level_above.at_ T.d_level_above.kp T.d_level_above.bd (zc (za 6 (pv 6)) (zc (za 4 (pv 4)) (zc (za 1 (pv 1)) (zc (za 2 (pv 2)) zg)))))))))
      (Y7 5 (zi (zB (za 5 (pv 5)))))))))
noncomputable def wB : SE → Ctl :=
  (zW (Yv (zw 3 wR (zd (zf 0) (zd (zf 1) (zd (zf 2) zy)))))
    (zW (Yv (zw 1 wx (zd (zf 0) zy)))
    (xf (zw 4 wQ (zd (zf 0) (zd (zf 1) (zd (zf 2) (zd (eC (.int 300)) zy))))))))
noncomputable def Yo : List D → Option D := fnD 3 wB
theorem Z5 (T : Txt K mg ad) : yU P w K mg base CX0 11 ad.f_all_failing ad.e_all_failing ["web", "place", "m"] (@spD ⟨K⟩ 3 Yo) := by
  letI : KK := ⟨K⟩
  have G_must_be_counted := Yf (P := P) (w := w) (base := base) T
  have G_must_be_wanted := YO (P := P) (w := w) (base := base) T
  have G_failing_levels := YQ (P := P) (w := w) (base := base) T
  refine yL (N := ["web", "place", "m"]) (ps := ["web", "place", "m"]) T.d_all_failing.fn Z1 (g := wB) fun cdv A outer s H E hr => ?_
  unfold wB
  exact (zh (wY (zt (G_must_be_wanted.mono (by decide)) hr rfl T.d_must_be_wanted.at_ T.d_must_be_wanted.kp T.d_must_be_wanted.bd (zc (za 0 (pv 0)) (zc (za 1 (pv 1)) (zc (za 2 (pv 2)) zg)))))
      (zh (wY (zt (G_must_be_counted.mono (by decide)) hr rfl T.d_must_be_counted.at_ T.d_must_be_counted.kp T.d_must_be_counted.bd (zc (za 0 (pv 0)) zg)))
      (zi (zB (zt (G_failing_levels.mono (by decide)) hr rfl T.d_failing_levels.at_ T.d_failing_levels.kp T.d_failing_levels.bd (zc (za 0 (pv 0)) (zc (za 1 (pv 1)) (zc (za 2 (pv 2)) (zc (zk (Xz (v := .int 300) rfl T.g_MOST_STONES ⟨_, rfl⟩)) zg)))))))))
noncomputable def zeB : SE → Ctl :=
  (xf (eFn YE (zd (zw 3 Yo (zd (zf 0) (zd (zf 1) (zd (zf 2) zy)))) zy)))
noncomputable def zb : List D → Option D := fnD 3 zeB
theorem zfF (T : Txt K mg ad) : yU P w K mg base CX0 12 ad.f_need ad.e_need ["web", "place", "m"] (@spD ⟨K⟩ 3 zb) := by
  letI : KK := ⟨K⟩
  have G_all_failing := Z5 (P := P) (w := w) (base := base) T
  refine yL (N := ["web", "place", "m"]) (ps := ["web", "place", "m"]) T.d_need.fn ziC (g := zeB) fun cdv A outer s H E hr => ?_
  unfold zeB
  exact (zi (zB (yc zK we rfl T.z_len wX (zc (zt (G_all_failing.mono (by decide)) hr rfl T.d_all_failing.at_ T.d_all_failing.kp T.d_all_failing.bd (zc (za 0 (pv 0)) (zc (za 1 (pv 1)) (zc (za 2 (pv 2)) zg)))) zg))))
noncomputable def wu : SE → Ctl :=
  (zW (Yv (zw 1 yh (zd (zf 0) zy)))
    (zW (xY false 2 (wV (fLC (vN wl (zd (zr ixD (zf 0) (eC (.int 0))) zy)) b1 xn (zw 3 zb (zd (zf 1) (zd (zf 0) (zd (zf 2) zy)))))))
    (zW (xY false 3 (eFn zcZ (zd (zf 2) zy)))
    (zbF (zf 3) (fLC (vN wl (zd (zr ixD (zf 0) (eC (.int 0))) zy)) b1 (tOf (zr YB (zr ixD (zf 3) (zf 0)) (zf 4))) (zf 0))))))
noncomputable def wk : List D → Option D := fnD 4 wu
theorem Za (T : Txt K mg ad) : yU P w K mg base CX0 13 ad.f_need_all ad.e_need_all ["web", "m"] (@zk5 ⟨K⟩ true 2 wk) := by
  letI : KK := ⟨K⟩
  have G_must_be_web := wf (P := P) (w := w) (base := base) T
  have G_need := zfF (P := P) (w := w) (base := base) T
  refine zkc (k := true) (N := ["web", "m", "needs", "greatest"]) (ps := ["web", "m"]) T.d_need_all.fn vT (g := wu) (fun cdv A outer s H E hr => ?_) (by unfold wu; exact (zaK (zaK (zaK zg9))))
  unfold wu
  exact (ZK (zez (wY (zt (G_must_be_web.mono (by decide)) hr rfl T.d_must_be_web.at_ T.d_must_be_web.kp T.d_must_be_web.bd (zc (za 0 (pv 0)) zg))) zis)
      (ZK (zez (yI (m := false) (i := 2) vT.nd rfl (Or.inr rfl) (vI (WF (L := ["place"]) (M := ["web", "m", "needs", "greatest"]) rfl (w8 (by rfl) (by rfl) (by rfl) (by with_unfolding_all rfl) (by rfl) (by rfl) (by kernel_rfl) (all_cons rfl (all_cons rfl xW))) (wz rfl T.z_range (zc (yi (za 0 (pv 0)) (zk zn) (fun _ _ => rfl)) zg)) gs1 rb1 (fun _ _ _ _ => (zC (i := 0) zk2 rfl (Or.inl rfl) (.inr rfl))) (fun _ _ _ _ => (zt (G_need.mono (by decide)) hr rfl T.d_need.at_ T.d_need.kp T.d_need.bd (zc (za 1 (pv 1)) (zc (za 0 (pv 0)) (zc (za 2 (pv 2)) zg)))))))) zeS)
      (ZK (zez (yI (m := false) (i := 3) vT.nd rfl (Or.inr rfl) (yc (ZI rfl) XZ rfl T.z_max zas (zc (za 2 (pv 2)) zg))) zeS)
      (zgr (zgO (za 3 (pv 3)) (Xq (L := ["place"]) (M := ["web", "m", "needs", "greatest"]) rfl (w8 (by rfl) (by rfl) (by rfl) (by with_unfolding_all rfl) (by rfl) (by rfl) (by kernel_rfl) (all_cons rfl (all_cons rfl xW))) (wz rfl T.z_range (zc (yi (za 0 (pv 0)) (zk zn) (fun _ _ => rfl)) zg)) gs1 rb1 (fun _ _ _ _ => (zC (i := 0) zk2 rfl (Or.inl rfl) (.inr rfl))) (fun _ _ _ _ => (zV (wP hr) xK (zG _) (yi (za 3 (pv 3)) (za 0 (pv 0)) (fun _ _ => rfl)) (za 4 (pv 4)))) (fun _ _ _ _ => (za 0 (pv 0)))))))))
theorem zbJ (T : Txt K mg ad) : yU P w K mg base CX0 13 ad.f_need_all ad.e_need_all ["web", "m"] (@spD ⟨K⟩ 2 wk) := by
  letI : KK := ⟨K⟩
  exact zkI (Za (P := P) (w := w) (base := base) T)
noncomputable def zb6 : SE → Ctl :=
  (zdG 8 (zw 2 wk (zd (zf 3) (zd (zf 4) zy))) (xb (tOf (zw 2 wF (zd (zf 8) (zd (zf 6) zy))))))
noncomputable def X8 : SE → Ctl :=
  (zW (xY false 2 (zr vE (eC (.int 1)) (zr xL (zr yQ (zf 1) (eC (.int 64))) (eC (.int 4)))))
    (zW (xY false 3 (zw 2 xJ (zd (zf 2) (zd (zr yQ (zf 1) (eC (.int 256))) zy))))
    (zW (xY false 4 (zr vE (eC (.int 1)) (zr xL (zr yQ (zf 1) (eC (.int 4))) (eC (.int 2)))))
    (zW (xY false 5 (wV (fLC (vN wl (zd (zf 2) zy)) b1 xn (zw 3 zb (zd (zf 4) (zd (zf 0) (zd (zf 5) zy)))))))
    (zW (xY false 6 (v5 (zd (eFn zcZ (zd (zf 5) zy)) (zd (wV (fLC (vN wl (zd (zf 2) zy)) b1 (tOf (zr YB (zr ixD (zf 6) (zf 0)) (eFn zcZ (zd (zf 6) zy)))) (zf 0))) zy))))
    (xA wl (zd (eC (.int 2)) zy) (yH 7) zb6))))))
noncomputable def zgy : SE → Ctl :=
  (zW (YC (iOf (zr vE (eSl slD (zf 0) wG (wL (eC (.int 3)))) (wV (xi (zd (eC (.int 0)) (zd (eC (.int 7)) zy)))))) (yH 1) X8)
    (xf (eC (.bl true))))
noncomputable def zjK : List D → Option D := fnD 9 zgy
noncomputable def zem : List Tie → List (List Tie)
  | [] => [[]]
  | t :: ts => zem ts ++ (zem ts).map (t :: ·)
noncomputable def zga (n : Nat) (ts : List Tie) : Bool := (List.range n).all fun x => x == 0 || ts.any fun t => t.2 == (x : Int)
theorem zcF : zb [zm 1 [], .int 0, .int 1] = some (.int 1) := by kernel_rfl
theorem zcM : zb [zm 1 [], .int 0, .int 2] = some (.int 2) := by kernel_rfl
theorem zcO : zb [zm 2 [(0, 1)], .int 0, .int 1] = some (.int 2) := by kernel_rfl
theorem zbB : zb [zm 2 [(0, 1)], .int 0, .int 2] = some (.int 4) := by kernel_rfl
theorem zcI : zb [zm 2 [(0, 1)], .int 1, .int 1] = some (.int 2) := by kernel_rfl
theorem zbc : zb [zm 2 [(0, 1)], .int 1, .int 2] = some (.int 4) := by kernel_rfl
theorem zb4 : zb [zm 3 [(0, 1), (1, 2)], .int 0, .int 1] = some (.int 4) := by kernel_rfl
theorem zaD : zb [zm 3 [(0, 1), (1, 2)], .int 0, .int 2] = some (.int 8) := by kernel_rfl
theorem zcc : zb [zm 3 [(0, 1), (1, 2)], .int 1, .int 1] = some (.int 3) := by kernel_rfl
theorem zcB : zb [zm 3 [(0, 1), (1, 2)], .int 1, .int 2] = some (.int 5) := by kernel_rfl
theorem zbY : zb [zm 3 [(0, 1), (1, 2)], .int 2, .int 1] = some (.int 4) := by kernel_rfl
theorem zb5 : zb [zm 3 [(0, 1), (1, 2)], .int 2, .int 2] = some (.int 8) := by kernel_rfl
theorem zb7 : zb [zm 3 [(0, 1), (0, 2)], .int 0, .int 1] = some (.int 3) := by kernel_rfl
theorem zct : zb [zm 3 [(0, 1), (0, 2)], .int 0, .int 2] = some (.int 5) := by kernel_rfl
theorem zcC : zb [zm 3 [(0, 1), (0, 2)], .int 1, .int 1] = some (.int 4) := by kernel_rfl
theorem zcA : zb [zm 3 [(0, 1), (0, 2)], .int 1, .int 2] = some (.int 8) := by kernel_rfl
theorem zcr : zb [zm 3 [(0, 1), (0, 2)], .int 2, .int 1] = some (.int 4) := by kernel_rfl
theorem zb9 : zb [zm 3 [(0, 1), (0, 2)], .int 2, .int 2] = some (.int 8) := by kernel_rfl
theorem zbM : zb [zm 3 [(0, 1), (0, 2), (1, 2)], .int 0, .int 1] = some (.int 3) := by kernel_rfl
theorem zch : zb [zm 3 [(0, 1), (0, 2), (1, 2)], .int 0, .int 2] = some (.int 5) := by kernel_rfl
theorem za9 : zb [zm 3 [(0, 1), (0, 2), (1, 2)], .int 1, .int 1] = some (.int 3) := by kernel_rfl
theorem zbH : zb [zm 3 [(0, 1), (0, 2), (1, 2)], .int 1, .int 2] = some (.int 5) := by kernel_rfl
theorem za3 : zb [zm 3 [(0, 1), (0, 2), (1, 2)], .int 2, .int 1] = some (.int 3) := by kernel_rfl
theorem zaR : zb [zm 3 [(0, 1), (0, 2), (1, 2)], .int 2, .int 2] = some (.int 5) := by kernel_rfl
theorem zbI : zb [zm 4 [(0, 1), (1, 2), (2, 3)], .int 0, .int 1] = some (.int 8) := by kernel_rfl
theorem zbL : zb [zm 4 [(0, 1), (1, 2), (2, 3)], .int 0, .int 2] = some (.int 16) := by kernel_rfl
theorem zbA : zb [zm 4 [(0, 1), (1, 2), (2, 3)], .int 1, .int 1] = some (.int 5) := by kernel_rfl
theorem zc3 : zb [zm 4 [(0, 1), (1, 2), (2, 3)], .int 1, .int 2] = some (.int 9) := by kernel_rfl
theorem zbZ : zb [zm 4 [(0, 1), (1, 2), (2, 3)], .int 2, .int 1] = some (.int 5) := by kernel_rfl
theorem zba : zb [zm 4 [(0, 1), (1, 2), (2, 3)], .int 2, .int 2] = some (.int 9) := by kernel_rfl
theorem zbw : zb [zm 4 [(0, 1), (1, 2), (2, 3)], .int 3, .int 1] = some (.int 8) := by kernel_rfl
theorem zbq : zb [zm 4 [(0, 1), (1, 2), (2, 3)], .int 3, .int 2] = some (.int 16) := by kernel_rfl
theorem zci : zb [zm 4 [(0, 1), (1, 2), (1, 3)], .int 0, .int 1] = some (.int 5) := by kernel_rfl
theorem zaG : zb [zm 4 [(0, 1), (1, 2), (1, 3)], .int 0, .int 2] = some (.int 9) := by kernel_rfl
theorem zcT : zb [zm 4 [(0, 1), (1, 2), (1, 3)], .int 1, .int 1] = some (.int 4) := by kernel_rfl
theorem zbr : zb [zm 4 [(0, 1), (1, 2), (1, 3)], .int 1, .int 2] = some (.int 6) := by kernel_rfl
theorem zaT : zb [zm 4 [(0, 1), (1, 2), (1, 3)], .int 2, .int 1] = some (.int 5) := by kernel_rfl
theorem zbg : zb [zm 4 [(0, 1), (1, 2), (1, 3)], .int 2, .int 2] = some (.int 9) := by kernel_rfl
theorem za7 : zb [zm 4 [(0, 1), (1, 2), (1, 3)], .int 3, .int 1] = some (.int 5) := by kernel_rfl
theorem zaY : zb [zm 4 [(0, 1), (1, 2), (1, 3)], .int 3, .int 2] = some (.int 9) := by kernel_rfl
theorem zcl : zb [zm 4 [(0, 1), (1, 2), (1, 3), (2, 3)], .int 0, .int 1] = some (.int 5) := by kernel_rfl
theorem zaP : zb [zm 4 [(0, 1), (1, 2), (1, 3), (2, 3)], .int 0, .int 2] = some (.int 9) := by kernel_rfl
theorem zaU : zb [zm 4 [(0, 1), (1, 2), (1, 3), (2, 3)], .int 1, .int 1] = some (.int 4) := by kernel_rfl
theorem zbG : zb [zm 4 [(0, 1), (1, 2), (1, 3), (2, 3)], .int 1, .int 2] = some (.int 6) := by kernel_rfl
theorem zbd : zb [zm 4 [(0, 1), (1, 2), (1, 3), (2, 3)], .int 2, .int 1] = some (.int 5) := by kernel_rfl
theorem zco : zb [zm 4 [(0, 1), (1, 2), (1, 3), (2, 3)], .int 2, .int 2] = some (.int 9) := by kernel_rfl
theorem zbW : zb [zm 4 [(0, 1), (1, 2), (1, 3), (2, 3)], .int 3, .int 1] = some (.int 5) := by kernel_rfl
theorem zcf : zb [zm 4 [(0, 1), (1, 2), (1, 3), (2, 3)], .int 3, .int 2] = some (.int 9) := by kernel_rfl
theorem zb8 : zb [zm 4 [(0, 1), (0, 3), (1, 2)], .int 0, .int 1] = some (.int 5) := by kernel_rfl
theorem zcU : zb [zm 4 [(0, 1), (0, 3), (1, 2)], .int 0, .int 2] = some (.int 9) := by kernel_rfl
theorem zaM : zb [zm 4 [(0, 1), (0, 3), (1, 2)], .int 1, .int 1] = some (.int 5) := by kernel_rfl
theorem zc9 : zb [zm 4 [(0, 1), (0, 3), (1, 2)], .int 1, .int 2] = some (.int 9) := by kernel_rfl
theorem zcG : zb [zm 4 [(0, 1), (0, 3), (1, 2)], .int 2, .int 1] = some (.int 8) := by kernel_rfl
theorem zc2 : zb [zm 4 [(0, 1), (0, 3), (1, 2)], .int 2, .int 2] = some (.int 16) := by kernel_rfl
theorem zbm : zb [zm 4 [(0, 1), (0, 3), (1, 2)], .int 3, .int 1] = some (.int 8) := by kernel_rfl
theorem zaE : zb [zm 4 [(0, 1), (0, 3), (1, 2)], .int 3, .int 2] = some (.int 16) := by kernel_rfl
theorem zbU : zb [zm 4 [(0, 1), (0, 3), (1, 2), (2, 3)], .int 0, .int 1] = some (.int 4) := by kernel_rfl
theorem zcR : zb [zm 4 [(0, 1), (0, 3), (1, 2), (2, 3)], .int 0, .int 2] = some (.int 8) := by kernel_rfl
theorem zcg : zb [zm 4 [(0, 1), (0, 3), (1, 2), (2, 3)], .int 1, .int 1] = some (.int 4) := by kernel_rfl
theorem zbl : zb [zm 4 [(0, 1), (0, 3), (1, 2), (2, 3)], .int 1, .int 2] = some (.int 8) := by kernel_rfl
theorem zc0 : zb [zm 4 [(0, 1), (0, 3), (1, 2), (2, 3)], .int 2, .int 1] = some (.int 4) := by kernel_rfl
theorem zcz : zb [zm 4 [(0, 1), (0, 3), (1, 2), (2, 3)], .int 2, .int 2] = some (.int 8) := by kernel_rfl
theorem zcK : zb [zm 4 [(0, 1), (0, 3), (1, 2), (2, 3)], .int 3, .int 1] = some (.int 4) := by kernel_rfl
theorem zca : zb [zm 4 [(0, 1), (0, 3), (1, 2), (2, 3)], .int 3, .int 2] = some (.int 8) := by kernel_rfl
theorem zbC : zb [zm 4 [(0, 1), (0, 3), (1, 2), (1, 3)], .int 0, .int 1] = some (.int 5) := by kernel_rfl
theorem zcS : zb [zm 4 [(0, 1), (0, 3), (1, 2), (1, 3)], .int 0, .int 2] = some (.int 9) := by kernel_rfl
theorem zc6 : zb [zm 4 [(0, 1), (0, 3), (1, 2), (1, 3)], .int 1, .int 1] = some (.int 4) := by kernel_rfl
theorem za0 : zb [zm 4 [(0, 1), (0, 3), (1, 2), (1, 3)], .int 1, .int 2] = some (.int 6) := by kernel_rfl
theorem zbe : zb [zm 4 [(0, 1), (0, 3), (1, 2), (1, 3)], .int 2, .int 1] = some (.int 5) := by kernel_rfl
theorem zcQ : zb [zm 4 [(0, 1), (0, 3), (1, 2), (1, 3)], .int 2, .int 2] = some (.int 9) := by kernel_rfl
theorem zc7 : zb [zm 4 [(0, 1), (0, 3), (1, 2), (1, 3)], .int 3, .int 1] = some (.int 5) := by kernel_rfl
theorem zce : zb [zm 4 [(0, 1), (0, 3), (1, 2), (1, 3)], .int 3, .int 2] = some (.int 9) := by kernel_rfl
theorem zaO : zb [zm 4 [(0, 1), (0, 3), (1, 2), (1, 3), (2, 3)], .int 0, .int 1] = some (.int 4) := by kernel_rfl
theorem zbP : zb [zm 4 [(0, 1), (0, 3), (1, 2), (1, 3), (2, 3)], .int 0, .int 2] = some (.int 8) := by kernel_rfl
theorem zcw : zb [zm 4 [(0, 1), (0, 3), (1, 2), (1, 3), (2, 3)], .int 1, .int 1] = some (.int 4) := by kernel_rfl
theorem zcn : zb [zm 4 [(0, 1), (0, 3), (1, 2), (1, 3), (2, 3)], .int 1, .int 2] = some (.int 6) := by kernel_rfl
theorem zaW : zb [zm 4 [(0, 1), (0, 3), (1, 2), (1, 3), (2, 3)], .int 2, .int 1] = some (.int 4) := by kernel_rfl
theorem zaF : zb [zm 4 [(0, 1), (0, 3), (1, 2), (1, 3), (2, 3)], .int 2, .int 2] = some (.int 8) := by kernel_rfl
theorem zbn : zb [zm 4 [(0, 1), (0, 3), (1, 2), (1, 3), (2, 3)], .int 3, .int 1] = some (.int 4) := by kernel_rfl
theorem zbD : zb [zm 4 [(0, 1), (0, 3), (1, 2), (1, 3), (2, 3)], .int 3, .int 2] = some (.int 6) := by kernel_rfl
theorem zbs : zb [zm 4 [(0, 1), (0, 2), (2, 3)], .int 0, .int 1] = some (.int 5) := by kernel_rfl
theorem zcN : zb [zm 4 [(0, 1), (0, 2), (2, 3)], .int 0, .int 2] = some (.int 9) := by kernel_rfl
theorem zbu : zb [zm 4 [(0, 1), (0, 2), (2, 3)], .int 1, .int 1] = some (.int 8) := by kernel_rfl
theorem za5 : zb [zm 4 [(0, 1), (0, 2), (2, 3)], .int 1, .int 2] = some (.int 16) := by kernel_rfl
theorem zcX : zb [zm 4 [(0, 1), (0, 2), (2, 3)], .int 2, .int 1] = some (.int 5) := by kernel_rfl
theorem zbt : zb [zm 4 [(0, 1), (0, 2), (2, 3)], .int 2, .int 2] = some (.int 9) := by kernel_rfl
theorem zaV : zb [zm 4 [(0, 1), (0, 2), (2, 3)], .int 3, .int 1] = some (.int 8) := by kernel_rfl
theorem zcV : zb [zm 4 [(0, 1), (0, 2), (2, 3)], .int 3, .int 2] = some (.int 16) := by kernel_rfl
theorem za2 : zb [zm 4 [(0, 1), (0, 2), (1, 3)], .int 0, .int 1] = some (.int 5) := by kernel_rfl
theorem zbO : zb [zm 4 [(0, 1), (0, 2), (1, 3)], .int 0, .int 2] = some (.int 9) := by kernel_rfl
theorem zb1 : zb [zm 4 [(0, 1), (0, 2), (1, 3)], .int 1, .int 1] = some (.int 5) := by kernel_rfl
theorem zb0 : zb [zm 4 [(0, 1), (0, 2), (1, 3)], .int 1, .int 2] = some (.int 9) := by kernel_rfl
theorem zcW : zb [zm 4 [(0, 1), (0, 2), (1, 3)], .int 2, .int 1] = some (.int 8) := by kernel_rfl
theorem zaJ : zb [zm 4 [(0, 1), (0, 2), (1, 3)], .int 2, .int 2] = some (.int 16) := by kernel_rfl
theorem zaS : zb [zm 4 [(0, 1), (0, 2), (1, 3)], .int 3, .int 1] = some (.int 8) := by kernel_rfl
theorem zaQ : zb [zm 4 [(0, 1), (0, 2), (1, 3)], .int 3, .int 2] = some (.int 16) := by kernel_rfl
theorem zaL : zb [zm 4 [(0, 1), (0, 2), (1, 3), (2, 3)], .int 0, .int 1] = some (.int 4) := by kernel_rfl
theorem zcL : zb [zm 4 [(0, 1), (0, 2), (1, 3), (2, 3)], .int 0, .int 2] = some (.int 8) := by kernel_rfl
theorem zc8 : zb [zm 4 [(0, 1), (0, 2), (1, 3), (2, 3)], .int 1, .int 1] = some (.int 4) := by kernel_rfl
theorem zcH : zb [zm 4 [(0, 1), (0, 2), (1, 3), (2, 3)], .int 1, .int 2] = some (.int 8) := by kernel_rfl
theorem zaH : zb [zm 4 [(0, 1), (0, 2), (1, 3), (2, 3)], .int 2, .int 1] = some (.int 4) := by kernel_rfl
theorem zbx : zb [zm 4 [(0, 1), (0, 2), (1, 3), (2, 3)], .int 2, .int 2] = some (.int 8) := by kernel_rfl
theorem zck : zb [zm 4 [(0, 1), (0, 2), (1, 3), (2, 3)], .int 3, .int 1] = some (.int 4) := by kernel_rfl
theorem zbv : zb [zm 4 [(0, 1), (0, 2), (1, 3), (2, 3)], .int 3, .int 2] = some (.int 8) := by kernel_rfl
theorem zav : zb [zm 4 [(0, 1), (0, 2), (1, 2), (2, 3)], .int 0, .int 1] = some (.int 5) := by kernel_rfl
theorem Wk : zb [zm 4 [(0, 1), (0, 2), (1, 2), (2, 3)], .int 0, .int 2] = some (.int 9) := by kernel_rfl
theorem VJ : zb [zm 4 [(0, 1), (0, 2), (1, 2), (2, 3)], .int 1, .int 1] = some (.int 5) := by kernel_rfl
theorem W5 : zb [zm 4 [(0, 1), (0, 2), (1, 2), (2, 3)], .int 1, .int 2] = some (.int 9) := by kernel_rfl
theorem zaa : zb [zm 4 [(0, 1), (0, 2), (1, 2), (2, 3)], .int 2, .int 1] = some (.int 4) := by kernel_rfl
theorem zaq : zb [zm 4 [(0, 1), (0, 2), (1, 2), (2, 3)], .int 2, .int 2] = some (.int 6) := by kernel_rfl
theorem WZ : zb [zm 4 [(0, 1), (0, 2), (1, 2), (2, 3)], .int 3, .int 1] = some (.int 5) := by kernel_rfl
theorem W3 : zb [zm 4 [(0, 1), (0, 2), (1, 2), (2, 3)], .int 3, .int 2] = some (.int 9) := by kernel_rfl
theorem V9 : zb [zm 4 [(0, 1), (0, 2), (1, 2), (1, 3)], .int 0, .int 1] = some (.int 5) := by kernel_rfl
theorem WT : zb [zm 4 [(0, 1), (0, 2), (1, 2), (1, 3)], .int 0, .int 2] = some (.int 9) := by kernel_rfl
theorem V8 : zb [zm 4 [(0, 1), (0, 2), (1, 2), (1, 3)], .int 1, .int 1] = some (.int 4) := by kernel_rfl
theorem WB : zb [zm 4 [(0, 1), (0, 2), (1, 2), (1, 3)], .int 1, .int 2] = some (.int 6) := by kernel_rfl
theorem zao : zb [zm 4 [(0, 1), (0, 2), (1, 2), (1, 3)], .int 2, .int 1] = some (.int 5) := by kernel_rfl
theorem Vw : zb [zm 4 [(0, 1), (0, 2), (1, 2), (1, 3)], .int 2, .int 2] = some (.int 9) := by kernel_rfl
theorem W2 : zb [zm 4 [(0, 1), (0, 2), (1, 2), (1, 3)], .int 3, .int 1] = some (.int 5) := by kernel_rfl
theorem WV : zb [zm 4 [(0, 1), (0, 2), (1, 2), (1, 3)], .int 3, .int 2] = some (.int 9) := by kernel_rfl
theorem zay : zb [zm 4 [(0, 1), (0, 2), (1, 2), (1, 3), (2, 3)], .int 0, .int 1] = some (.int 4) := by kernel_rfl
theorem zaf : zb [zm 4 [(0, 1), (0, 2), (1, 2), (1, 3), (2, 3)], .int 0, .int 2] = some (.int 8) := by kernel_rfl
theorem zat : zb [zm 4 [(0, 1), (0, 2), (1, 2), (1, 3), (2, 3)], .int 1, .int 1] = some (.int 4) := by kernel_rfl
theorem Wj : zb [zm 4 [(0, 1), (0, 2), (1, 2), (1, 3), (2, 3)], .int 1, .int 2] = some (.int 6) := by kernel_rfl
theorem Ws : zb [zm 4 [(0, 1), (0, 2), (1, 2), (1, 3), (2, 3)], .int 2, .int 1] = some (.int 4) := by kernel_rfl
theorem Vn : zb [zm 4 [(0, 1), (0, 2), (1, 2), (1, 3), (2, 3)], .int 2, .int 2] = some (.int 6) := by kernel_rfl
theorem Vo : zb [zm 4 [(0, 1), (0, 2), (1, 2), (1, 3), (2, 3)], .int 3, .int 1] = some (.int 4) := by kernel_rfl
theorem Wq : zb [zm 4 [(0, 1), (0, 2), (1, 2), (1, 3), (2, 3)], .int 3, .int 2] = some (.int 8) := by kernel_rfl
theorem Vu : zb [zm 4 [(0, 1), (0, 2), (0, 3)], .int 0, .int 1] = some (.int 4) := by kernel_rfl
theorem Vx : zb [zm 4 [(0, 1), (0, 2), (0, 3)], .int 0, .int 2] = some (.int 6) := by kernel_rfl
theorem VB : zb [zm 4 [(0, 1), (0, 2), (0, 3)], .int 1, .int 1] = some (.int 5) := by kernel_rfl
theorem VH : zb [zm 4 [(0, 1), (0, 2), (0, 3)], .int 1, .int 2] = some (.int 9) := by kernel_rfl
theorem Wt : zb [zm 4 [(0, 1), (0, 2), (0, 3)], .int 2, .int 1] = some (.int 5) := by kernel_rfl
theorem WO : zb [zm 4 [(0, 1), (0, 2), (0, 3)], .int 2, .int 2] = some (.int 9) := by kernel_rfl
theorem WE : zb [zm 4 [(0, 1), (0, 2), (0, 3)], .int 3, .int 1] = some (.int 5) := by kernel_rfl
theorem Vv : zb [zm 4 [(0, 1), (0, 2), (0, 3)], .int 3, .int 2] = some (.int 9) := by kernel_rfl
theorem W1 : zb [zm 4 [(0, 1), (0, 2), (0, 3), (2, 3)], .int 0, .int 1] = some (.int 4) := by kernel_rfl
theorem WN : zb [zm 4 [(0, 1), (0, 2), (0, 3), (2, 3)], .int 0, .int 2] = some (.int 6) := by kernel_rfl
theorem V5 : zb [zm 4 [(0, 1), (0, 2), (0, 3), (2, 3)], .int 1, .int 1] = some (.int 5) := by kernel_rfl
theorem Vg : zb [zm 4 [(0, 1), (0, 2), (0, 3), (2, 3)], .int 1, .int 2] = some (.int 9) := by kernel_rfl
theorem zau : zb [zm 4 [(0, 1), (0, 2), (0, 3), (2, 3)], .int 2, .int 1] = some (.int 5) := by kernel_rfl
theorem W6 : zb [zm 4 [(0, 1), (0, 2), (0, 3), (2, 3)], .int 2, .int 2] = some (.int 9) := by kernel_rfl
theorem Wp : zb [zm 4 [(0, 1), (0, 2), (0, 3), (2, 3)], .int 3, .int 1] = some (.int 5) := by kernel_rfl
theorem zah : zb [zm 4 [(0, 1), (0, 2), (0, 3), (2, 3)], .int 3, .int 2] = some (.int 9) := by kernel_rfl
theorem VL : zb [zm 4 [(0, 1), (0, 2), (0, 3), (1, 3)], .int 0, .int 1] = some (.int 4) := by kernel_rfl
theorem VN : zb [zm 4 [(0, 1), (0, 2), (0, 3), (1, 3)], .int 0, .int 2] = some (.int 6) := by kernel_rfl
theorem zak : zb [zm 4 [(0, 1), (0, 2), (0, 3), (1, 3)], .int 1, .int 1] = some (.int 5) := by kernel_rfl
theorem VZ : zb [zm 4 [(0, 1), (0, 2), (0, 3), (1, 3)], .int 1, .int 2] = some (.int 9) := by kernel_rfl
theorem Ve : zb [zm 4 [(0, 1), (0, 2), (0, 3), (1, 3)], .int 2, .int 1] = some (.int 5) := by kernel_rfl
theorem Vs : zb [zm 4 [(0, 1), (0, 2), (0, 3), (1, 3)], .int 2, .int 2] = some (.int 9) := by kernel_rfl
theorem zax : zb [zm 4 [(0, 1), (0, 2), (0, 3), (1, 3)], .int 3, .int 1] = some (.int 5) := by kernel_rfl
theorem WL : zb [zm 4 [(0, 1), (0, 2), (0, 3), (1, 3)], .int 3, .int 2] = some (.int 9) := by kernel_rfl
theorem VP : zb [zm 4 [(0, 1), (0, 2), (0, 3), (1, 3), (2, 3)], .int 0, .int 1] = some (.int 4) := by kernel_rfl
theorem VD : zb [zm 4 [(0, 1), (0, 2), (0, 3), (1, 3), (2, 3)], .int 0, .int 2] = some (.int 6) := by kernel_rfl
theorem zai : zb [zm 4 [(0, 1), (0, 2), (0, 3), (1, 3), (2, 3)], .int 1, .int 1] = some (.int 4) := by kernel_rfl
theorem Vy : zb [zm 4 [(0, 1), (0, 2), (0, 3), (1, 3), (2, 3)], .int 1, .int 2] = some (.int 8) := by kernel_rfl
theorem Vc : zb [zm 4 [(0, 1), (0, 2), (0, 3), (1, 3), (2, 3)], .int 2, .int 1] = some (.int 4) := by kernel_rfl
theorem VC : zb [zm 4 [(0, 1), (0, 2), (0, 3), (1, 3), (2, 3)], .int 2, .int 2] = some (.int 8) := by kernel_rfl
theorem VE : zb [zm 4 [(0, 1), (0, 2), (0, 3), (1, 3), (2, 3)], .int 3, .int 1] = some (.int 4) := by kernel_rfl
theorem WJ : zb [zm 4 [(0, 1), (0, 2), (0, 3), (1, 3), (2, 3)], .int 3, .int 2] = some (.int 6) := by kernel_rfl
theorem VX : zb [zm 4 [(0, 1), (0, 2), (0, 3), (1, 2)], .int 0, .int 1] = some (.int 4) := by kernel_rfl
theorem VY : zb [zm 4 [(0, 1), (0, 2), (0, 3), (1, 2)], .int 0, .int 2] = some (.int 6) := by kernel_rfl
theorem zar : zb [zm 4 [(0, 1), (0, 2), (0, 3), (1, 2)], .int 1, .int 1] = some (.int 5) := by kernel_rfl
theorem Wi : zb [zm 4 [(0, 1), (0, 2), (0, 3), (1, 2)], .int 1, .int 2] = some (.int 9) := by kernel_rfl
theorem VM : zb [zm 4 [(0, 1), (0, 2), (0, 3), (1, 2)], .int 2, .int 1] = some (.int 5) := by kernel_rfl
theorem zal : zb [zm 4 [(0, 1), (0, 2), (0, 3), (1, 2)], .int 2, .int 2] = some (.int 9) := by kernel_rfl
theorem V3 : zb [zm 4 [(0, 1), (0, 2), (0, 3), (1, 2)], .int 3, .int 1] = some (.int 5) := by kernel_rfl
theorem V1 : zb [zm 4 [(0, 1), (0, 2), (0, 3), (1, 2)], .int 3, .int 2] = some (.int 9) := by kernel_rfl
theorem Ww : zb [zm 4 [(0, 1), (0, 2), (0, 3), (1, 2), (2, 3)], .int 0, .int 1] = some (.int 4) := by kernel_rfl
theorem Wy : zb [zm 4 [(0, 1), (0, 2), (0, 3), (1, 2), (2, 3)], .int 0, .int 2] = some (.int 6) := by kernel_rfl
theorem Wx : zb [zm 4 [(0, 1), (0, 2), (0, 3), (1, 2), (2, 3)], .int 1, .int 1] = some (.int 4) := by kernel_rfl
theorem VR : zb [zm 4 [(0, 1), (0, 2), (0, 3), (1, 2), (2, 3)], .int 1, .int 2] = some (.int 8) := by kernel_rfl
theorem WU : zb [zm 4 [(0, 1), (0, 2), (0, 3), (1, 2), (2, 3)], .int 2, .int 1] = some (.int 4) := by kernel_rfl
theorem W0 : zb [zm 4 [(0, 1), (0, 2), (0, 3), (1, 2), (2, 3)], .int 2, .int 2] = some (.int 6) := by kernel_rfl
theorem VF : zb [zm 4 [(0, 1), (0, 2), (0, 3), (1, 2), (2, 3)], .int 3, .int 1] = some (.int 4) := by kernel_rfl
theorem Vq : zb [zm 4 [(0, 1), (0, 2), (0, 3), (1, 2), (2, 3)], .int 3, .int 2] = some (.int 8) := by kernel_rfl
theorem Vm : zb [zm 4 [(0, 1), (0, 2), (0, 3), (1, 2), (1, 3)], .int 0, .int 1] = some (.int 4) := by kernel_rfl
theorem Vi : zb [zm 4 [(0, 1), (0, 2), (0, 3), (1, 2), (1, 3)], .int 0, .int 2] = some (.int 6) := by kernel_rfl
theorem WP : zb [zm 4 [(0, 1), (0, 2), (0, 3), (1, 2), (1, 3)], .int 1, .int 1] = some (.int 4) := by kernel_rfl
theorem zam : zb [zm 4 [(0, 1), (0, 2), (0, 3), (1, 2), (1, 3)], .int 1, .int 2] = some (.int 6) := by kernel_rfl
theorem Wm : zb [zm 4 [(0, 1), (0, 2), (0, 3), (1, 2), (1, 3)], .int 2, .int 1] = some (.int 4) := by kernel_rfl
theorem WG : zb [zm 4 [(0, 1), (0, 2), (0, 3), (1, 2), (1, 3)], .int 2, .int 2] = some (.int 8) := by kernel_rfl
theorem V6 : zb [zm 4 [(0, 1), (0, 2), (0, 3), (1, 2), (1, 3)], .int 3, .int 1] = some (.int 4) := by kernel_rfl
theorem VS : zb [zm 4 [(0, 1), (0, 2), (0, 3), (1, 2), (1, 3)], .int 3, .int 2] = some (.int 8) := by kernel_rfl
theorem VT : zb [zm 4 [(0, 1), (0, 2), (0, 3), (1, 2), (1, 3), (2, 3)], .int 0, .int 1] = some (.int 4) := by kernel_rfl
theorem Vt : zb [zm 4 [(0, 1), (0, 2), (0, 3), (1, 2), (1, 3), (2, 3)], .int 0, .int 2] = some (.int 6) := by kernel_rfl
theorem WM : zb [zm 4 [(0, 1), (0, 2), (0, 3), (1, 2), (1, 3), (2, 3)], .int 1, .int 1] = some (.int 4) := by kernel_rfl
theorem Vf : zb [zm 4 [(0, 1), (0, 2), (0, 3), (1, 2), (1, 3), (2, 3)], .int 1, .int 2] = some (.int 6) := by kernel_rfl
theorem zaj : zb [zm 4 [(0, 1), (0, 2), (0, 3), (1, 2), (1, 3), (2, 3)], .int 2, .int 1] = some (.int 4) := by kernel_rfl
theorem zaw : zb [zm 4 [(0, 1), (0, 2), (0, 3), (1, 2), (1, 3), (2, 3)], .int 2, .int 2] = some (.int 6) := by kernel_rfl
theorem zag : zb [zm 4 [(0, 1), (0, 2), (0, 3), (1, 2), (1, 3), (2, 3)], .int 3, .int 1] = some (.int 4) := by kernel_rfl
theorem VA : zb [zm 4 [(0, 1), (0, 2), (0, 3), (1, 2), (1, 3), (2, 3)], .int 3, .int 2] = some (.int 6) := by kernel_rfl
theorem zgB {l ts : List Tie} (h : ts.Sublist l) : ts ∈ zem l := by
  induction h with
  | slnil => exact List.mem_singleton.mpr rfl
  | cons a _ ih => exact List.mem_append_left _ ih
  | cons_cons a _ ih => exact List.mem_append_right _ (List.mem_map.mpr ⟨_, ih, rfl⟩)
theorem zd2 {n : Nat} {t : Tie} (h : 0 ≤ t.1 ∧ t.1 < t.2 ∧ t.2 < (n : Int)) : t ∈ ya n := by
  unfold ya
  rw [List.mem_flatMap]
  refine ⟨t.1.toNat, List.mem_range.mpr (by omega), List.mem_map.mpr ⟨(t.2 - t.1 - 1).toNat, List.mem_range.mpr (by omega), Prod.ext ?_ ?_⟩⟩
  · show ((t.1.toNat : Nat) : Int) = t.1
    omega
  · show ((t.1.toNat : Nat) : Int) + 1 + (((t.2 - t.1 - 1).toNat : Nat) : Int) = t.2
    omega
theorem zfd {a b : Tie} (h : ltP a b) : a ≠ b := fun e => by
  subst e
  unfold ltP at h
  omega
theorem ziR {n : Nat} {ts : List Tie} (h8 : n ≤ 8) (ok : Xy (n : Int) ts) : ts ∈ zem (ya n) := by
  have hp := (ZN n h8).1
  have e : ts = (ya n).filter fun t => decide (t ∈ ts) := by
    refine List.Perm.eq_of_pairwise (le := ltP) (fun a b _ _ h1 h2 => absurd h2 (by unfold ltP at *; omega)) ok.srt (hp.filter _) ?_
    refine (List.perm_ext_iff_of_nodup (ok.srt.imp zfd) ((hp.filter _).imp zfd)).mpr fun t => ?_
    rw [List.mem_filter, decide_eq_true_eq]
    exact ⟨fun h => ⟨zd2 (by have := ok.rng t h; omega), h⟩, fun h => h.2⟩
  rw [e]
  exact zgB List.filter_sublist
theorem zky {n : Nat} {ts : List Tie} (h : ∀ x : Int, 1 ≤ x → x < n → ∃ t ∈ ts, t.2 = x) : zga n ts = true := by
  refine List.all_eq_true.mpr fun x hx => ?_
  have hx := List.mem_range.mp hx
  cases x with
  | zero => rfl
  | succ x =>
    obtain ⟨t, ht, e⟩ := h ((x + 1 : Nat) : Int) (by omega) (by omega)
    rw [Bool.or_eq_true]
    exact .inr (List.any_eq_true.mpr ⟨t, ht, beq_iff_eq.mpr e⟩)
noncomputable def XX : List (List Tie) := [[]]
theorem zly : (zem (ya 1)).filter (zga 1) = XX := by decide +kernel
theorem zi0 {j k : Nat} (hj : j < 1) (hk : k = 1 ∨ k = 2) : ∃ v : Int, zb [zm 1 [], .int (j : Int), .int (k : Int)] = some (.int v) := by
  have hj' : j = 0 := by omega
  subst hj'
  rcases hk with rfl | rfl
  · exact ⟨_, zcF⟩
  · exact ⟨_, zcM⟩
theorem zlU {j k : Nat} {ts : List Tie} (hs : ts ∈ zem (ya 1)) (hh : zga 1 ts = true) (hj : j < 1) (hk : k = 1 ∨ k = 2) : ∃ v : Int, zb [zm 1 ts, .int (j : Int), .int (k : Int)] = some (.int v) := by
  have hl : ts ∈ XX := by rw [← zly]; exact List.mem_filter.mpr ⟨hs, hh⟩
  simp only [XX, List.mem_cons, List.not_mem_nil, or_false] at hl
  subst hl
  · exact zi0 hj hk
noncomputable def XW : List (List Tie) := [[(0, 1)]]
theorem zll : (zem (ya 2)).filter (zga 2) = XW := by decide +kernel
theorem zi2 {j k : Nat} (hj : j < 2) (hk : k = 1 ∨ k = 2) : ∃ v : Int, zb [zm 2 [(0, 1)], .int (j : Int), .int (k : Int)] = some (.int v) := by
  have hj' : j = 0 ∨ j = 1 := by omega
  rcases hj' with rfl | rfl <;> rcases hk with rfl | rfl
  · exact ⟨_, zcO⟩
  · exact ⟨_, zbB⟩
  · exact ⟨_, zcI⟩
  · exact ⟨_, zbc⟩
theorem zlX {j k : Nat} {ts : List Tie} (hs : ts ∈ zem (ya 2)) (hh : zga 2 ts = true) (hj : j < 2) (hk : k = 1 ∨ k = 2) : ∃ v : Int, zb [zm 2 ts, .int (j : Int), .int (k : Int)] = some (.int v) := by
  have hl : ts ∈ XW := by rw [← zll]; exact List.mem_filter.mpr ⟨hs, hh⟩
  simp only [XW, List.mem_cons, List.not_mem_nil, or_false] at hl
  subst hl
  · exact zi2 hj hk
noncomputable def XB : List (List Tie) := [[(0, 1), (1, 2)], [(0, 1), (0, 2)], [(0, 1), (0, 2), (1, 2)]]
theorem zlq : (zem (ya 3)).filter (zga 3) = XB := by decide +kernel
theorem zjb {j k : Nat} (hj : j < 3) (hk : k = 1 ∨ k = 2) : ∃ v : Int, zb [zm 3 [(0, 1), (1, 2)], .int (j : Int), .int (k : Int)] = some (.int v) := by
  have hj' : j = 0 ∨ j = 1 ∨ j = 2 := by omega
  rcases hj' with rfl | rfl | rfl <;> rcases hk with rfl | rfl
  · exact ⟨_, zb4⟩
  · exact ⟨_, zaD⟩
  · exact ⟨_, zcc⟩
  · exact ⟨_, zcB⟩
  · exact ⟨_, zbY⟩
  · exact ⟨_, zb5⟩
theorem zi1 {j k : Nat} (hj : j < 3) (hk : k = 1 ∨ k = 2) : ∃ v : Int, zb [zm 3 [(0, 1), (0, 2)], .int (j : Int), .int (k : Int)] = some (.int v) := by
  have hj' : j = 0 ∨ j = 1 ∨ j = 2 := by omega
  rcases hj' with rfl | rfl | rfl <;> rcases hk with rfl | rfl
  · exact ⟨_, zb7⟩
  · exact ⟨_, zct⟩
  · exact ⟨_, zcC⟩
  · exact ⟨_, zcA⟩
  · exact ⟨_, zcr⟩
  · exact ⟨_, zb9⟩
theorem ziT {j k : Nat} (hj : j < 3) (hk : k = 1 ∨ k = 2) : ∃ v : Int, zb [zm 3 [(0, 1), (0, 2), (1, 2)], .int (j : Int), .int (k : Int)] = some (.int v) := by
  have hj' : j = 0 ∨ j = 1 ∨ j = 2 := by omega
  rcases hj' with rfl | rfl | rfl <;> rcases hk with rfl | rfl
  · exact ⟨_, zbM⟩
  · exact ⟨_, zch⟩
  · exact ⟨_, za9⟩
  · exact ⟨_, zbH⟩
  · exact ⟨_, za3⟩
  · exact ⟨_, zaR⟩
theorem zln {j k : Nat} {ts : List Tie} (hs : ts ∈ zem (ya 3)) (hh : zga 3 ts = true) (hj : j < 3) (hk : k = 1 ∨ k = 2) : ∃ v : Int, zb [zm 3 ts, .int (j : Int), .int (k : Int)] = some (.int v) := by
  have hl : ts ∈ XB := by rw [← zlq]; exact List.mem_filter.mpr ⟨hs, hh⟩
  simp only [XB, List.mem_cons, List.not_mem_nil, or_false] at hl
  rcases hl with rfl | rfl | rfl
  · exact zjb hj hk
  · exact zi1 hj hk
  · exact ziT hj hk
noncomputable def X4 : List (List Tie) := [[(0, 1), (1, 2), (2, 3)], [(0, 1), (1, 2), (1, 3)], [(0, 1), (1, 2), (1, 3), (2, 3)], [(0, 1), (0, 3), (1, 2)], [(0, 1), (0, 3), (1, 2), (2, 3)], [(0, 1), (0, 3), (1, 2), (1, 3)], [(0, 1), (0, 3), (1, 2), (1, 3), (2, 3)], [(0, 1), (0, 2), (2, 3)], [(0, 1), (0, 2), (1, 3)], [(0, 1), (0, 2), (1, 3), (2, 3)], [(0, 1), (0, 2), (1, 2), (2, 3)], [(0, 1), (0, 2), (1, 2), (1, 3)], [(0, 1), (0, 2), (1, 2), (1, 3), (2, 3)], [(0, 1), (0, 2), (0, 3)], [(0, 1), (0, 2), (0, 3), (2, 3)], [(0, 1), (0, 2), (0, 3), (1, 3)], [(0, 1), (0, 2), (0, 3), (1, 3), (2, 3)], [(0, 1), (0, 2), (0, 3), (1, 2)], [(0, 1), (0, 2), (0, 3), (1, 2), (2, 3)], [(0, 1), (0, 2), (0, 3), (1, 2), (1, 3)], [(0, 1), (0, 2), (0, 3), (1, 2), (1, 3), (2, 3)]]
theorem zlZ : (zem (ya 4)).filter (zga 4) = X4 := by decide +kernel
theorem zh8 {j k : Nat} (hj : j < 4) (hk : k = 1 ∨ k = 2) : ∃ v : Int, zb [zm 4 [(0, 1), (1, 2), (2, 3)], .int (j : Int), .int (k : Int)] = some (.int v) := by
  have hj' : j = 0 ∨ j = 1 ∨ j = 2 ∨ j = 3 := by omega
  rcases hj' with rfl | rfl | rfl | rfl <;> rcases hk with rfl | rfl
  · exact ⟨_, zbI⟩
  · exact ⟨_, zbL⟩
  · exact ⟨_, zbA⟩
  · exact ⟨_, zc3⟩
  · exact ⟨_, zbZ⟩
  · exact ⟨_, zba⟩
  · exact ⟨_, zbw⟩
  · exact ⟨_, zbq⟩
theorem ziL {j k : Nat} (hj : j < 4) (hk : k = 1 ∨ k = 2) : ∃ v : Int, zb [zm 4 [(0, 1), (1, 2), (1, 3)], .int (j : Int), .int (k : Int)] = some (.int v) := by
  have hj' : j = 0 ∨ j = 1 ∨ j = 2 ∨ j = 3 := by omega
  rcases hj' with rfl | rfl | rfl | rfl <;> rcases hk with rfl | rfl
  · exact ⟨_, zci⟩
  · exact ⟨_, zaG⟩
  · exact ⟨_, zcT⟩
  · exact ⟨_, zbr⟩
  · exact ⟨_, zaT⟩
  · exact ⟨_, zbg⟩
  · exact ⟨_, za7⟩
  · exact ⟨_, zaY⟩
theorem zh3 {j k : Nat} (hj : j < 4) (hk : k = 1 ∨ k = 2) : ∃ v : Int, zb [zm 4 [(0, 1), (1, 2), (1, 3), (2, 3)], .int (j : Int), .int (k : Int)] = some (.int v) := by
  have hj' : j = 0 ∨ j = 1 ∨ j = 2 ∨ j = 3 := by omega
  rcases hj' with rfl | rfl | rfl | rfl <;> rcases hk with rfl | rfl
  · exact ⟨_, zcl⟩
  · exact ⟨_, zaP⟩
  · exact ⟨_, zaU⟩
  · exact ⟨_, zbG⟩
  · exact ⟨_, zbd⟩
  · exact ⟨_, zco⟩
  · exact ⟨_, zbW⟩
  · exact ⟨_, zcf⟩
theorem zi3 {j k : Nat} (hj : j < 4) (hk : k = 1 ∨ k = 2) : ∃ v : Int, zb [zm 4 [(0, 1), (0, 3), (1, 2)], .int (j : Int), .int (k : Int)] = some (.int v) := by
  have hj' : j = 0 ∨ j = 1 ∨ j = 2 ∨ j = 3 := by omega
  rcases hj' with rfl | rfl | rfl | rfl <;> rcases hk with rfl | rfl
  · exact ⟨_, zb8⟩
  · exact ⟨_, zcU⟩
  · exact ⟨_, zaM⟩
  · exact ⟨_, zc9⟩
  · exact ⟨_, zcG⟩
  · exact ⟨_, zc2⟩
  · exact ⟨_, zbm⟩
  · exact ⟨_, zaE⟩
theorem zh9 {j k : Nat} (hj : j < 4) (hk : k = 1 ∨ k = 2) : ∃ v : Int, zb [zm 4 [(0, 1), (0, 3), (1, 2), (2, 3)], .int (j : Int), .int (k : Int)] = some (.int v) := by
  have hj' : j = 0 ∨ j = 1 ∨ j = 2 ∨ j = 3 := by omega
  rcases hj' with rfl | rfl | rfl | rfl <;> rcases hk with rfl | rfl
  · exact ⟨_, zbU⟩
  · exact ⟨_, zcR⟩
  · exact ⟨_, zcg⟩
  · exact ⟨_, zbl⟩
  · exact ⟨_, zc0⟩
  · exact ⟨_, zcz⟩
  · exact ⟨_, zcK⟩
  · exact ⟨_, zca⟩
theorem zi5 {j k : Nat} (hj : j < 4) (hk : k = 1 ∨ k = 2) : ∃ v : Int, zb [zm 4 [(0, 1), (0, 3), (1, 2), (1, 3)], .int (j : Int), .int (k : Int)] = some (.int v) := by
  have hj' : j = 0 ∨ j = 1 ∨ j = 2 ∨ j = 3 := by omega
  rcases hj' with rfl | rfl | rfl | rfl <;> rcases hk with rfl | rfl
  · exact ⟨_, zbC⟩
  · exact ⟨_, zcS⟩
  · exact ⟨_, zc6⟩
  · exact ⟨_, za0⟩
  · exact ⟨_, zbe⟩
  · exact ⟨_, zcQ⟩
  · exact ⟨_, zc7⟩
  · exact ⟨_, zce⟩
theorem zix {j k : Nat} (hj : j < 4) (hk : k = 1 ∨ k = 2) : ∃ v : Int, zb [zm 4 [(0, 1), (0, 3), (1, 2), (1, 3), (2, 3)], .int (j : Int), .int (k : Int)] = some (.int v) := by
  have hj' : j = 0 ∨ j = 1 ∨ j = 2 ∨ j = 3 := by omega
  rcases hj' with rfl | rfl | rfl | rfl <;> rcases hk with rfl | rfl
  · exact ⟨_, zaO⟩
  · exact ⟨_, zbP⟩
  · exact ⟨_, zcw⟩
  · exact ⟨_, zcn⟩
  · exact ⟨_, zaW⟩
  · exact ⟨_, zaF⟩
  · exact ⟨_, zbn⟩
  · exact ⟨_, zbD⟩
theorem zid {j k : Nat} (hj : j < 4) (hk : k = 1 ∨ k = 2) : ∃ v : Int, zb [zm 4 [(0, 1), (0, 2), (2, 3)], .int (j : Int), .int (k : Int)] = some (.int v) := by
  have hj' : j = 0 ∨ j = 1 ∨ j = 2 ∨ j = 3 := by omega
  rcases hj' with rfl | rfl | rfl | rfl <;> rcases hk with rfl | rfl
  · exact ⟨_, zbs⟩
  · exact ⟨_, zcN⟩
  · exact ⟨_, zbu⟩
  · exact ⟨_, za5⟩
  · exact ⟨_, zcX⟩
  · exact ⟨_, zbt⟩
  · exact ⟨_, zaV⟩
  · exact ⟨_, zcV⟩
theorem zik {j k : Nat} (hj : j < 4) (hk : k = 1 ∨ k = 2) : ∃ v : Int, zb [zm 4 [(0, 1), (0, 2), (1, 3)], .int (j : Int), .int (k : Int)] = some (.int v) := by
  have hj' : j = 0 ∨ j = 1 ∨ j = 2 ∨ j = 3 := by omega
  rcases hj' with rfl | rfl | rfl | rfl <;> rcases hk with rfl | rfl
  · exact ⟨_, za2⟩
  · exact ⟨_, zbO⟩
  · exact ⟨_, zb1⟩
  · exact ⟨_, zb0⟩
  · exact ⟨_, zcW⟩
  · exact ⟨_, zaJ⟩
  · exact ⟨_, zaS⟩
  · exact ⟨_, zaQ⟩
theorem ziY {j k : Nat} (hj : j < 4) (hk : k = 1 ∨ k = 2) : ∃ v : Int, zb [zm 4 [(0, 1), (0, 2), (1, 3), (2, 3)], .int (j : Int), .int (k : Int)] = some (.int v) := by
  have hj' : j = 0 ∨ j = 1 ∨ j = 2 ∨ j = 3 := by omega
  rcases hj' with rfl | rfl | rfl | rfl <;> rcases hk with rfl | rfl
  · exact ⟨_, zaL⟩
  · exact ⟨_, zcL⟩
  · exact ⟨_, zc8⟩
  · exact ⟨_, zcH⟩
  · exact ⟨_, zaH⟩
  · exact ⟨_, zbx⟩
  · exact ⟨_, zck⟩
  · exact ⟨_, zbv⟩
theorem zgJ {j k : Nat} (hj : j < 4) (hk : k = 1 ∨ k = 2) : ∃ v : Int, zb [zm 4 [(0, 1), (0, 2), (1, 2), (2, 3)], .int (j : Int), .int (k : Int)] = some (.int v) := by
  have hj' : j = 0 ∨ j = 1 ∨ j = 2 ∨ j = 3 := by omega
  rcases hj' with rfl | rfl | rfl | rfl <;> rcases hk with rfl | rfl
  · exact ⟨_, zav⟩
  · exact ⟨_, Wk⟩
  · exact ⟨_, VJ⟩
  · exact ⟨_, W5⟩
  · exact ⟨_, zaa⟩
  · exact ⟨_, zaq⟩
  · exact ⟨_, WZ⟩
  · exact ⟨_, W3⟩
theorem zgm {j k : Nat} (hj : j < 4) (hk : k = 1 ∨ k = 2) : ∃ v : Int, zb [zm 4 [(0, 1), (0, 2), (1, 2), (1, 3)], .int (j : Int), .int (k : Int)] = some (.int v) := by
  have hj' : j = 0 ∨ j = 1 ∨ j = 2 ∨ j = 3 := by omega
  rcases hj' with rfl | rfl | rfl | rfl <;> rcases hk with rfl | rfl
  · exact ⟨_, V9⟩
  · exact ⟨_, WT⟩
  · exact ⟨_, V8⟩
  · exact ⟨_, WB⟩
  · exact ⟨_, zao⟩
  · exact ⟨_, Vw⟩
  · exact ⟨_, W2⟩
  · exact ⟨_, WV⟩
theorem zgx {j k : Nat} (hj : j < 4) (hk : k = 1 ∨ k = 2) : ∃ v : Int, zb [zm 4 [(0, 1), (0, 2), (1, 2), (1, 3), (2, 3)], .int (j : Int), .int (k : Int)] = some (.int v) := by
  have hj' : j = 0 ∨ j = 1 ∨ j = 2 ∨ j = 3 := by omega
  rcases hj' with rfl | rfl | rfl | rfl <;> rcases hk with rfl | rfl
  · exact ⟨_, zay⟩
  · exact ⟨_, zaf⟩
  · exact ⟨_, zat⟩
  · exact ⟨_, Wj⟩
  · exact ⟨_, Ws⟩
  · exact ⟨_, Vn⟩
  · exact ⟨_, Vo⟩
  · exact ⟨_, Wq⟩
theorem zfY {j k : Nat} (hj : j < 4) (hk : k = 1 ∨ k = 2) : ∃ v : Int, zb [zm 4 [(0, 1), (0, 2), (0, 3)], .int (j : Int), .int (k : Int)] = some (.int v) := by
  have hj' : j = 0 ∨ j = 1 ∨ j = 2 ∨ j = 3 := by omega
  rcases hj' with rfl | rfl | rfl | rfl <;> rcases hk with rfl | rfl
  · exact ⟨_, Vu⟩
  · exact ⟨_, Vx⟩
  · exact ⟨_, VB⟩
  · exact ⟨_, VH⟩
  · exact ⟨_, Wt⟩
  · exact ⟨_, WO⟩
  · exact ⟨_, WE⟩
  · exact ⟨_, Vv⟩
theorem zgF {j k : Nat} (hj : j < 4) (hk : k = 1 ∨ k = 2) : ∃ v : Int, zb [zm 4 [(0, 1), (0, 2), (0, 3), (2, 3)], .int (j : Int), .int (k : Int)] = some (.int v) := by
  have hj' : j = 0 ∨ j = 1 ∨ j = 2 ∨ j = 3 := by omega
  rcases hj' with rfl | rfl | rfl | rfl <;> rcases hk with rfl | rfl
  · exact ⟨_, W1⟩
  · exact ⟨_, WN⟩
  · exact ⟨_, V5⟩
  · exact ⟨_, Vg⟩
  · exact ⟨_, zau⟩
  · exact ⟨_, W6⟩
  · exact ⟨_, Wp⟩
  · exact ⟨_, zah⟩
theorem zgP {j k : Nat} (hj : j < 4) (hk : k = 1 ∨ k = 2) : ∃ v : Int, zb [zm 4 [(0, 1), (0, 2), (0, 3), (1, 3)], .int (j : Int), .int (k : Int)] = some (.int v) := by
  have hj' : j = 0 ∨ j = 1 ∨ j = 2 ∨ j = 3 := by omega
  rcases hj' with rfl | rfl | rfl | rfl <;> rcases hk with rfl | rfl
  · exact ⟨_, VL⟩
  · exact ⟨_, VN⟩
  · exact ⟨_, zak⟩
  · exact ⟨_, VZ⟩
  · exact ⟨_, Ve⟩
  · exact ⟨_, Vs⟩
  · exact ⟨_, zax⟩
  · exact ⟨_, WL⟩
theorem zgp {j k : Nat} (hj : j < 4) (hk : k = 1 ∨ k = 2) : ∃ v : Int, zb [zm 4 [(0, 1), (0, 2), (0, 3), (1, 3), (2, 3)], .int (j : Int), .int (k : Int)] = some (.int v) := by
  have hj' : j = 0 ∨ j = 1 ∨ j = 2 ∨ j = 3 := by omega
  rcases hj' with rfl | rfl | rfl | rfl <;> rcases hk with rfl | rfl
  · exact ⟨_, VP⟩
  · exact ⟨_, VD⟩
  · exact ⟨_, zai⟩
  · exact ⟨_, Vy⟩
  · exact ⟨_, Vc⟩
  · exact ⟨_, VC⟩
  · exact ⟨_, VE⟩
  · exact ⟨_, WJ⟩
theorem zgc {j k : Nat} (hj : j < 4) (hk : k = 1 ∨ k = 2) : ∃ v : Int, zb [zm 4 [(0, 1), (0, 2), (0, 3), (1, 2)], .int (j : Int), .int (k : Int)] = some (.int v) := by
  have hj' : j = 0 ∨ j = 1 ∨ j = 2 ∨ j = 3 := by omega
  rcases hj' with rfl | rfl | rfl | rfl <;> rcases hk with rfl | rfl
  · exact ⟨_, VX⟩
  · exact ⟨_, VY⟩
  · exact ⟨_, zar⟩
  · exact ⟨_, Wi⟩
  · exact ⟨_, VM⟩
  · exact ⟨_, zal⟩
  · exact ⟨_, V3⟩
  · exact ⟨_, V1⟩
theorem zgw {j k : Nat} (hj : j < 4) (hk : k = 1 ∨ k = 2) : ∃ v : Int, zb [zm 4 [(0, 1), (0, 2), (0, 3), (1, 2), (2, 3)], .int (j : Int), .int (k : Int)] = some (.int v) := by
  have hj' : j = 0 ∨ j = 1 ∨ j = 2 ∨ j = 3 := by omega
  rcases hj' with rfl | rfl | rfl | rfl <;> rcases hk with rfl | rfl
  · exact ⟨_, Ww⟩
  · exact ⟨_, Wy⟩
  · exact ⟨_, Wx⟩
  · exact ⟨_, VR⟩
  · exact ⟨_, WU⟩
  · exact ⟨_, W0⟩
  · exact ⟨_, VF⟩
  · exact ⟨_, Vq⟩
theorem zgN {j k : Nat} (hj : j < 4) (hk : k = 1 ∨ k = 2) : ∃ v : Int, zb [zm 4 [(0, 1), (0, 2), (0, 3), (1, 2), (1, 3)], .int (j : Int), .int (k : Int)] = some (.int v) := by
  have hj' : j = 0 ∨ j = 1 ∨ j = 2 ∨ j = 3 := by omega
  rcases hj' with rfl | rfl | rfl | rfl <;> rcases hk with rfl | rfl
  · exact ⟨_, Vm⟩
  · exact ⟨_, Vi⟩
  · exact ⟨_, WP⟩
  · exact ⟨_, zam⟩
  · exact ⟨_, Wm⟩
  · exact ⟨_, WG⟩
  · exact ⟨_, V6⟩
  · exact ⟨_, VS⟩
theorem zg2 {j k : Nat} (hj : j < 4) (hk : k = 1 ∨ k = 2) : ∃ v : Int, zb [zm 4 [(0, 1), (0, 2), (0, 3), (1, 2), (1, 3), (2, 3)], .int (j : Int), .int (k : Int)] = some (.int v) := by
  have hj' : j = 0 ∨ j = 1 ∨ j = 2 ∨ j = 3 := by omega
  rcases hj' with rfl | rfl | rfl | rfl <;> rcases hk with rfl | rfl
  · exact ⟨_, VT⟩
  · exact ⟨_, Vt⟩
  · exact ⟨_, WM⟩
  · exact ⟨_, Vf⟩
  · exact ⟨_, zaj⟩
  · exact ⟨_, zaw⟩
  · exact ⟨_, zag⟩
  · exact ⟨_, VA⟩
theorem zlk {j k : Nat} {ts : List Tie} (hs : ts ∈ zem (ya 4)) (hh : zga 4 ts = true) (hj : j < 4) (hk : k = 1 ∨ k = 2) : ∃ v : Int, zb [zm 4 ts, .int (j : Int), .int (k : Int)] = some (.int v) := by
  have hl : ts ∈ X4 := by rw [← zlZ]; exact List.mem_filter.mpr ⟨hs, hh⟩
  simp only [X4, List.mem_cons, List.not_mem_nil, or_false] at hl
  rcases hl with rfl | rfl | rfl | rfl | rfl | rfl | rfl | rfl | rfl | rfl | rfl | rfl | rfl | rfl | rfl | rfl | rfl | rfl | rfl | rfl | rfl
  · exact zh8 hj hk
  · exact ziL hj hk
  · exact zh3 hj hk
  · exact zi3 hj hk
  · exact zh9 hj hk
  · exact zi5 hj hk
  · exact zix hj hk
  · exact zid hj hk
  · exact zik hj hk
  · exact ziY hj hk
  · exact zgJ hj hk
  · exact zgm hj hk
  · exact zgx hj hk
  · exact zfY hj hk
  · exact zgF hj hk
  · exact zgP hj hk
  · exact zgp hj hk
  · exact zgc hj hk
  · exact zgw hj hk
  · exact zgN hj hk
  · exact zg2 hj hk
theorem zgj {ns : List Int} (h : ns ≠ []) : zcZ [.lst (ns.map .int)] = some (.int (maxL ns)) := by
  show ((zhB (ns.map .int)).bind _) = _
  rw [zgd, Option.bind_some, if_neg h]
theorem zjP {it : Ev → Option (List D)} {b : D → Option (List (Option D))} {t : Ev → Option Bool} {f : Ev → Option D} {ρ : Ev} {α : Type} {c : α → D} {p : α → Bool} {y : α → D} {xs : List α} (h1 : it ρ = some (xs.map c)) (hl : xs.length ≤ 1000) (h : ∀ x ∈ xs, ∃ own, b (c x) = some own ∧ t (own ++ ρ) = some (p x) ∧ (p x = true → f (own ++ ρ) = some (y x))) : fLC it b t f ρ = some ((xs.filter p).map y) := by
  unfold fLC
  rw [h1, Option.bind_some, if_pos (Ym (by rw [List.length_map]; exact hl))]
  exact vA c p y xs h
theorem zjm {it : Ev → Option (List D)} {b : D → Option (List (Option D))} {t : Ev → Option Bool} {f : Ev → Option D} {ρ : Ev} {α : Type} {c y : α → D} {xs : List α} (h1 : it ρ = some (xs.map c)) (hl : xs.length ≤ 1000) (h : ∀ x ∈ xs, ∃ own, b (c x) = some own ∧ t (own ++ ρ) = some true ∧ f (own ++ ρ) = some (y x)) : fLC it b t f ρ = some (xs.map y) := by
  unfold fLC
  rw [h1, Option.bind_some, if_pos (Ym (by rw [List.length_map]; exact hl))]
  exact XM c y xs h
section
variable {k u : Nat} {ts : List Tie} {V : Nat → Int} {ρ : Ev}
noncomputable def iD (i : Nat) : D := .int (i : Int)
theorem zhH {f : Ev → Option D} (hk : k ≤ 8) (h : f ρ = some (.int (k : Int))) : vN wl (zd f zy) ρ = some ((List.range k).map iD) := by
  have e : zd f zy ρ = some [.int (k : Int)] := wM h WS
  refine (congrArg (·.bind wl) e).trans ?_
  rw [Option.bind_some, YJ (by omega) (by omega), Int.toNat_natCast]
  unfold YD
  refine congrArg some (List.map_congr_left fun i _ => ?_)
  rw [Int.zero_add]
  rfl
noncomputable def v6 (k : Nat) (V : Nat → Int) : List Int := (List.range k).map V
theorem zkz {j : Nat} (h : j < k) : vAt (v6 k V) (j : Int) = V j := by
  show ((v6 k V)[(j : Int).toNat]?).getD 0 = _
  rw [Int.toNat_natCast]
  unfold v6
  rw [List.getElem?_map, List.getElem?_range h]
  rfl
theorem zhG : (v6 k V).length = k := by unfold v6; rw [List.length_map, List.length_range]
noncomputable def bestOf (k : Nat) (V : Nat → Int) : List D := ((List.range k).filter fun j => decide (V j = maxL (v6 k V))).map iD
theorem zdr {f : Ev → Option D} {i1 i2 : Nat} (hk : k ≤ 8) (hV : ∀ j, j < k → zb [zm (k : Int) ts, .int (j : Int), .int (u : Int)] = some (.int (V j))) (h : f ρ = some (.int (k : Int))) (h1 : zf i1 ρ = some (zm (k : Int) ts)) (h2 : zf i2 ρ = some (.int (u : Int))) : wV (fLC (vN wl (zd f zy)) b1 xn (zw 3 zb (zd (zf (i1 + 1)) (zd (zf 0) (zd (zf (i2 + 1)) zy))))) ρ = some (.lst ((v6 k V).map .int)) := by
  refine zhy ?_
  unfold v6
  rw [List.map_map]
  exact zjm (c := iD) (y := D.int ∘ V) (zhH hk h) (by rw [List.length_range]; omega) fun j hj => ⟨[some (iD j)], rfl, rfl, XR (ds := [zm (k : Int) ts, .int (j : Int), .int (u : Int)]) (wM h1 (wM rfl (wM h2 WS))) (hV j (List.mem_range.mp hj))⟩
theorem zfw {f g : Ev → Option D} {i : Nat} (hk : k ≤ 8) (h : f ρ = some (.int (k : Int))) (h1 : zf i ρ = some (.lst ((v6 k V).map .int))) (h2 : ∀ d, g (some d :: ρ) = some (.int (maxL (v6 k V)))) : fLC (vN wl (zd f zy)) b1 (tOf (zr YB (zr ixD (zf (i + 1)) (zf 0)) g)) (zf 0) ρ = some (bestOf k V) := by
  unfold bestOf
  refine zjP (c := iD) (y := iD) (zhH hk h) (by rw [List.length_range]; omega) fun j hj => ⟨[some (iD j)], rfl, ?_, fun _ => rfl⟩
  have hj := List.mem_range.mp hj
  refine zjR (wW (x := .int (V j)) (y := .int (maxL (v6 k V))) (wW (x := .lst ((v6 k V).map .int)) (y := .int (j : Int)) h1 rfl ?_) (h2 _) yb)
  show L2.atI ((v6 k V).map D.int) (j : Int) = _
  rw [zg7 (by omega) (by rw [zhG]; omega), zkz hj]
theorem zeW {i : Nat} (hk : 1 ≤ k) (h1 : zf i ρ = some (.lst ((v6 k V).map .int))) : eFn zcZ (zd (zf i) zy) ρ = some (.int (maxL (v6 k V))) :=
  zl2 (ds := [.lst ((v6 k V).map .int)]) (wM h1 WS) (zgj fun e => by have := zhG (k := k) (V := V); rw [e] at this; have h0 : 0 = k := this; omega)
noncomputable def Zg (k : Nat) (V : Nat → Int) : D := .tup [.int (maxL (v6 k V)), .lst (bestOf k V)]
theorem zhS : okE 5 (Zg k V) = true := by
  have : okE 4 (.lst (bestOf k V)) = true := by
    show (bestOf k V).all (okE 3) = true
    unfold bestOf
    rw [List.all_map, List.all_eq_true]
    exact fun t _ => rfl
  show (okE 4 (.int (maxL (v6 k V))) && (okE 4 (.lst (bestOf k V)) && true)) = true
  rw [this]
  rfl
theorem zgT (hk : k ≤ 8) : (bestOf k V).length < 1000 := by
  unfold bestOf
  rw [List.length_map]
  have := List.length_filter_le (fun j => decide (V j = maxL (v6 k V))) (List.range k)
  rw [List.length_range] at this
  omega
theorem zhT {f : Ev → Option D} {fl : Ev → Option (List D)} {ρ : SE} {y : D} {es : List D} (h1 : f (visF ρ) = some y) (h2 : fl (visF ρ) = some es) : zbF f fl ρ = .rt (.tup [y, .lst es]) := by
  unfold zbF
  rw [h1, h2]
theorem zkT {m : Int} {ts : List Tie} (ok : Xy m ts) : yh [zm m ts] = some .non := by
  have hw : wS (zm m ts) = true := (wt _).mpr ⟨_, _, rfl, ok⟩
  simp only [yh]
  rw [if_pos hw]
theorem zcJ (ok : Xy (k : Int) ts) (hk1 : 1 ≤ k) (hk : k ≤ 8) (hV : ∀ j, j < k → zb [zm (k : Int) ts, .int (j : Int), .int (u : Int)] = some (.int (V j))) : wk [zm (k : Int) ts, .int (u : Int)] = some (Zg k V) := by
  refine zek (ρ := [.v (zm (k : Int) ts), .v (.int (u : Int)), .no, .no]) rfl ?_
  unfold wu
  have e0 : ∀ a b : Sl, zr ixD (zf 0) (eC (.int 0)) (visF [.v (zm (k : Int) ts), .v (.int (u : Int)), a, b]) = some (.int (k : Int)) := fun a b => wW (x := zm (k : Int) ts) (y := .int 0) rfl rfl rfl
  refine zZ (ziz (d := .non) (zkT ok)) ?_
  refine zZ (ρ' := [.v (zm (k : Int) ts), .v (.int (u : Int)), .v (.lst ((v6 k V).map .int)), .no]) (zdT (zdr (i1 := 0) (i2 := 1) hk hV (e0 _ _) rfl rfl)) ?_
  refine zZ (ρ' := [.v (zm (k : Int) ts), .v (.int (u : Int)), .v (.lst ((v6 k V).map .int)), .v (.int (maxL (v6 k V)))]) (zdT (zeW hk1 rfl)) ?_
  exact Wh (zhT (y := .int (maxL (v6 k V))) (es := bestOf k V) rfl (zfw (V := V) (i := 2) (g := zf 4) hk (e0 _ _) rfl fun _ => rfl)) rfl
end
theorem ziq (s : D) (z : Int) (o2 o3 o4 o5 o6 o7 o8 : Sl) (n b : SE → Prop) (r : D → Prop) (I : SE → Prop) (hI : ∀ o2 o3 o4 o5 o6 o7 o8, I [.v s, .v (.int z), o2, o3, o4, o5, o6, o7, o8]) : (X8 [.v s, .v (.int z), o2, o3, o4, o5, o6, o7, o8]).w I b n r := by
  obtain ⟨q, hq⟩ : ∃ q : Int, z / 64 % 4 = q := ⟨_, rfl⟩
  obtain ⟨q0, q1⟩ := XI (by decide) hq
  obtain ⟨m, hm⟩ : ∃ m : Int, 1 + q = m := ⟨_, rfl⟩
  obtain ⟨ts, ew, ok, has⟩ := zad (n := m) (c := z / 256) (by omega) (by omega)
  obtain ⟨e, he⟩ : ∃ e : Int, z / 4 % 2 = e := ⟨_, rfl⟩
  obtain ⟨e0, e1⟩ := XI (by decide) he
  unfold X8
  refine zZ (ρ' := [.v s, .v (.int z), .v (.int m), o3, o4, o5, o6, o7, o8]) (zdT (wW (x := .int 1) (y := .int q) rfl (wW (x := .int (z / 64)) (y := .int 4) (wW (x := .int z) (y := .int 64) rfl rfl (Yb (by decide) (by decide))) rfl (by rw [xV (by decide), hq])) (by rw [zT, hm]))) ?_
  refine zZ (ρ' := [.v s, .v (.int z), .v (.int m), .v (zm m ts), o4, o5, o6, o7, o8]) (zfM (ds := [.int m, .int (z / 256)]) (wM rfl (wM (wW (x := .int z) (y := .int 256) rfl rfl (Yb (by decide) (by decide))) WS)) ew) ?_
  refine zZ (ρ' := [.v s, .v (.int z), .v (.int m), .v (zm m ts), .v (.int (1 + e)), o5, o6, o7, o8]) (zdT (wW (x := .int 1) (y := .int e) rfl (wW (x := .int (z / 4)) (y := .int 2) (wW (x := .int z) (y := .int 4) rfl rfl (Yb (by decide) (by decide))) rfl (by rw [xV (by decide), he])) zT)) ?_
  obtain ⟨k, rfl⟩ : ∃ k : Nat, m = (k : Int) := ⟨m.toNat, by omega⟩
  obtain ⟨u, hu⟩ : ∃ u : Nat, 1 + e = (u : Int) := ⟨(1 + e).toNat, by omega⟩
  rw [hu]
  have hs := ziR (by omega) ok
  have hh := zky has
  have hex : ∀ j, j < k → ∃ v : Int, zb [zm (k : Int) ts, .int (j : Int), .int (u : Int)] = some (.int v) := fun j hj => by
    have hk : k = 1 ∨ k = 2 ∨ k = 3 ∨ k = 4 := by omega
    rcases hk with rfl | rfl | rfl | rfl
    · exact zlU hs hh hj (by omega)
    · exact zlX hs hh hj (by omega)
    · exact zln hs hh hj (by omega)
    · exact zlk hs hh hj (by omega)
  obtain ⟨V, hV⟩ : ∃ V : Nat → Int, ∀ j, j < k → zb [zm (k : Int) ts, .int (j : Int), .int (u : Int)] = some (.int (V j)) := ⟨fun j => if h : j < k then Classical.choose (hex j h) else 0, fun j hj => by dsimp only; rw [dif_pos hj]; exact Classical.choose_spec (hex j hj)⟩
  have hna := zcJ ok (by omega) (by omega) hV
  refine zZ (ρ' := [.v s, .v (.int z), .v (.int (k : Int)), .v (zm (k : Int) ts), .v (.int (u : Int)), .v (.lst ((v6 k V).map .int)), o6, o7, o8]) (zdT (zdr (i1 := 3) (i2 := 4) (by omega) hV rfl rfl rfl)) ?_
  refine zZ (ρ' := [.v s, .v (.int z), .v (.int (k : Int)), .v (zm (k : Int) ts), .v (.int (u : Int)), .v (.lst ((v6 k V).map .int)), .v (Zg k V), o7, o8]) (zdT (zks (wM (zeW (by omega) rfl) (wM (zhy (zfw (V := V) (i := 5) (g := eFn zcZ (zd (zf 6) zy)) (by omega) rfl rfl fun _ => zeW (by omega) rfl)) WS)) (by show 2 ≤ 1000; decide))) ?_
  refine zdc (lo := 0) (c := 2) (fun _ ρ => ∃ o7 o8 : Sl, ρ = [.v s, .v (.int z), .v (.int (k : Int)), .v (zm (k : Int) ts), .v (.int (u : Int)), .v (.lst ((v6 k V).map .int)), .v (Zg k V), o7, o8]) (show wl [.int 2] = some (YD 0 2) from YJ (by decide) (by decide)) ⟨_, _, rfl⟩ ?_ ?_
  · rintro i ρ hi ⟨o7, o8, rfl⟩
    refine ⟨_, rfl, ?_⟩
    refine Va (ρ' := [.v s, .v (.int z), .v (.int (k : Int)), .v (zm (k : Int) ts), .v (.int (u : Int)), .v (.lst ((v6 k V).map .int)), .v (Zg k V), .v (.int (0 + (i : Int))), .no]) ?_ ⟨_, _, rfl⟩
    unfold zb6 zdG
    rw [show zw 2 wk (zd (zf 3) (zd (zf 4) zy)) (visF (List.set [.v s, .v (.int z), .v (.int (k : Int)), .v (zm (k : Int) ts), .v (.int (u : Int)), .v (.lst ((v6 k V).map .int)), .v (Zg k V), o7, o8] 7 (.v (.int (0 + (i : Int)))))) = some (Zg k V) from XR (ds := [_, _]) rfl hna]
    dsimp only
    rw [show shT true (Zg k V) = some (bestOf k V, .int (maxL (v6 k V))) from rfl]
    dsimp only
    rw [if_pos (decide_eq_true ⟨by show 8 < 9; decide, zgT (by omega)⟩), show xb (tOf (zw 2 wF (zd (zf 8) (zd (zf 6) zy)))) (visF (List.set (List.set [.v s, .v (.int z), .v (.int (k : Int)), .v (zm (k : Int) ts), .v (.int (u : Int)), .v (.lst ((v6 k V).map .int)), .v (Zg k V), o7, o8] 7 (.v (.int (0 + (i : Int))))) 8 (.v (Zg k V)))) = some false from zjW (b := true) (zjR (XR (ds := [Zg k V, Zg k V]) rfl (zki zhS)))]
    rfl
  · rintro ρ ⟨o7, o8, rfl⟩
    exact hI _ _ _ _ _ _ _
theorem zfZ (ns : List Int) (h : ns.length ≤ 63) : zjK [.scr ns] = some (.bl true) := by
  refine zek (ρ := [.v (.scr ns), .no, .no, .no, .no, .no, .no, .no, .no]) rfl ?_
  unfold zgy
  obtain ⟨xs, hxs⟩ : ∃ xs : List Int, (zdL ns none (some 3)) ++ [0, 7] = xs := ⟨_, rfl⟩
  have hl : ((zdL ns none (some 3)).map D.int).length + [D.int 0, .int 7].length ≤ 1000 := by rw [List.length_map]; have := zhj ns none (some 3); show _ + 2 ≤ 1000; omega
  refine vU (zfp (ds := xs.map .int) (fun i ρ => ∃ o1 o2 o3 o4 o5 o6 o7 o8, ρ = [.v (.scr ns), o1, o2, o3, o4, o5, o6, o7, o8]) ?_ ⟨_, _, _, _, _, _, _, _, rfl⟩ ?_ ?_)
  · refine zjt (d := .lst (xs.map .int)) (wW (x := .lst ((zdL ns none (some 3)).map D.int)) (y := .lst [.int 0, .int 7]) rfl rfl ?_) rfl
    rw [zdy hl, ← hxs, List.map_append]
    rfl
  · rintro i d ρ hd ⟨o1, o2, o3, o4, o5, o6, o7, o8, rfl⟩
    rw [List.getElem?_map] at hd
    obtain ⟨z, hz, rfl⟩ := Option.map_eq_some_iff.mp hd
    exact ⟨_, rfl, ziq _ _ _ _ _ _ _ _ _ _ _ _ _ fun _ _ _ _ _ _ _ => ⟨_, _, _, _, _, _, _, _, rfl⟩⟩
  · rintro ρ ⟨o1, o2, o3, o4, o5, o6, o7, o8, rfl⟩
    exact Wh rfl rfl
theorem zjV (T : Txt K mg ad) : yU P w K mg base CX0 30 ad.f_law ad.e_law ["script"] (zfS K) := by
  letI : KK := ⟨K⟩
  have G_need := zfF (P := P) (w := w) (base := base) T
  have G_need_all := zbJ (P := P) (w := w) (base := base) T
  have T_need_all := Za (P := P) (w := w) (base := base) T
  have G__law_joined_by := YX (P := P) (w := w) (base := base) T
  have G__law_same := Vd (P := P) (w := w) (base := base) T
  refine (zkl (p := zjK) (yL (N := ["script", "cell", "many", "web", "m", "needs", "due", "turn", "found"]) (ps := ["script"]) T.d_law.fn v9 (g := zgy) fun cdv A outer s H E hr => ?_) zfZ).mono (j := 14) (by decide)
  unfold zgy X8 zb6
  exact (zh (Yi PassesOwn.never rfl (Zu (xw (Wd (za 0 (pv 0)) zcp (zcx (zk zn))) (vI (vL (zc (zk zn) (zc (zk zn) zg)))))) (yy (zC (i := 1) v9.nd rfl (Or.inl rfl))) (zh (yI (m := false) (i := 2) v9.nd rfl (Or.inl rfl) (xw (zk zn) (wU (YG (za 1 (pv 1)) (zk zn)) (zk zn))))
      (zh (yI (m := false) (i := 3) v9.nd rfl (Or.inr rfl) (zt (G__law_joined_by.mono (by decide)) hr rfl T.d__law_joined_by.at_ T.d__law_joined_by.kp T.d__law_joined_by.bd (zc (za 2 (pv 2)) (zc (YG (za 1 (pv 1)) (zk zn)) zg))))
      (zh (yI (m := false) (i := 4) v9.nd rfl (Or.inr rfl) (xw (zk zn) (wU (YG (za 1 (pv 1)) (zk zn)) (zk zn))))
      (zh (yI (m := false) (i := 5) v9.nd rfl (Or.inr rfl) (vI (WF (L := ["place"]) (M := ["script", "cell", "many", "web", "m", "needs", "due", "turn", "found"]) rfl (w8 (by rfl) (by rfl) (by rfl) (by with_unfolding_all rfl) (by rfl) (by rfl) (by kernel_rfl) (all_cons rfl (all_cons rfl xW))) (wz rfl T.z_range (zc (za 2 (pv 2)) zg)) gs1 rb1 (fun _ _ _ _ => (zC (i := 0) zjx rfl (Or.inl rfl) (.inr rfl))) (fun _ _ _ _ => (zt (G_need.mono (by decide)) hr rfl T.d_need.at_ T.d_need.kp T.d_need.bd (zc (za 4 (pv 4)) (zc (za 0 (pv 0)) (zc (za 5 (pv 5)) zg))))))))
      (zh (yI (m := false) (i := 6) v9.nd rfl (Or.inl rfl) (Y6 (zc (yc (ZI rfl) XZ rfl T.z_max zas (zc (za 5 (pv 5)) zg)) (zc (vI (Xq (L := ["place"]) (M := ["script", "cell", "many", "web", "m", "needs", "due", "turn", "found"]) rfl (w8 (by rfl) (by rfl) (by rfl) (by with_unfolding_all rfl) (by rfl) (by rfl) (by kernel_rfl) (all_cons rfl xW)) (wz rfl T.z_range (zc (za 2 (pv 2)) zg)) gs1 rb1 (fun _ _ _ _ => (zC (i := 0) zjx rfl (Or.inl rfl) (.inr rfl))) (fun _ _ _ _ => (zV (wP hr) xK (zG _) (yi (za 6 (pv 6)) (za 0 (pv 0)) (fun _ _ => rfl)) (yc (ZI rfl) XZ rfl T.z_max zas (zc (za 6 (pv 6)) zg)))) (fun _ _ _ _ => (za 0 (pv 0))))) zg))))
      (zi (Zj PassesOwn.never rfl rfl T.z_range (zc (zk zn) zg) (yy (zC (i := 7) v9.nd rfl (Or.inl rfl))) (zfe (zkG (i := 8) v9.nd rfl (Or.inl rfl) (zii (T_need_all.mono (by decide)) hr rfl T.d_need_all.at_ T.d_need_all.kp T.d_need_all.bd (zc (za 3 (pv 3)) (zc (za 4 (pv 4)) zg)))) (vK (x8 (zt (G__law_same.mono (by decide)) hr rfl T.d__law_same.at_ T.d__law_same.kp T.d__law_same.bd (zc (za 8 (pv 8)) (zc (za 6 (pv 6)) zg))))) (X2 (zeR vD)) (XH (zan PySem.F.plainAttrs_list PySem.F.slot_list_append PySem.F.type_list_append xX (zjS zhO (pv 8) zn (fun _ _ => rfl)) (wD zn ZA))))))))))))
      (zi (zB (vY vD))))
end
theorem ZC {us : List Value} (h : us.length = 1) : ∃ x0, us = [x0] := by
  cases us with
  | nil => cases h
  | cons x0 us =>
    cases us with
    | nil => exact ⟨x0, rfl⟩
    | cons _ _ => cases h
theorem YA {us : List Value} (h : us.length = 2) : ∃ x0 x1, us = [x0, x1] := by
  cases us with
  | nil => cases h
  | cons x0 us =>
    cases us with
    | nil => cases h
    | cons x1 us =>
      cases us with
      | nil => exact ⟨x0, x1, rfl⟩
      | cons _ _ => cases h
theorem zdQ {us : List Value} (h : us.length = 3) : ∃ x0 x1 x2, us = [x0, x1, x2] := by
  cases us with
  | nil => cases h
  | cons x0 us =>
    cases us with
    | nil => cases h
    | cons x1 us =>
      cases us with
      | nil => cases h
      | cons x2 us =>
        cases us with
        | nil => exact ⟨x0, x1, x2, rfl⟩
        | cons _ _ => cases h
theorem zjF {us : List Value} (h : us.length = 4) : ∃ x0 x1 x2 x3, us = [x0, x1, x2, x3] := by
  cases us with
  | nil => cases h
  | cons x0 us =>
    cases us with
    | nil => cases h
    | cons x1 us =>
      cases us with
      | nil => cases h
      | cons x2 us =>
        cases us with
        | nil => cases h
        | cons x3 us =>
          cases us with
          | nil => exact ⟨x0, x1, x2, x3, rfl⟩
          | cons _ _ => cases h
theorem all_mk {l : PySem.W.OpenLaw} {w : World} {K : PySem.W.Frag} {h : Heap} {mg : Str → Option Value} {fa f0 f1 f2 f3 f4 f5 f6 f7 f8 f9 f10 f11 f12 f13 f14 f15 f16 f17 f18 f19 f20 f21 f22 f23 f24 f25 f26 f27 f28 f29 f30 f31 f32 : Addr} (X : K.In h) (G : h.Ns mainGlobals mg) (hfa : mg "law" = some (.ref fa))
    {od0 an0 od1 an1 od2 an2 od3 an3 od4 an4 od5 an5 od6 an6 od7 an7 od8 an8 od9 an9 od10 an10 od11 an11 od12 an12 od13 an13 od14 an14 od15 an15 od16 an16 od17 an17 od18 an18 od19 an19 od20 an20 od21 an21 od22 an22 od23 an23 od24 an24 od25 an25 od26 an26 od27 an27 od28 an28 od29 an29 od30 an30 od31 an31 od32 an32 : Option Addr} {sl0 sl1 sl2 sl3 sl4 sl5 sl6 sl7 sl8 sl9 sl10 sl11 sl12 sl13 sl14 sl15 sl16 sl17 sl18 sl19 sl20 sl21 sl22 sl23 sl24 sl25 sl26 sl27 sl28 sl29 sl30 sl31 sl32 : Array (Option Value)} {oc0 kV0 dc0 pm0 cd0 ct0 oc1 kV1 dc1 pm1 cd1 ct1 oc2 kV2 dc2 pm2 cd2 ct2 oc3 kV3 dc3 pm3 cd3 ct3 oc4 kV4 dc4 pm4 cd4 ct4 oc5 kV5 dc5 pm5 cd5 ct5 oc6 kV6 dc6 pm6 cd6 ct6 oc7 kV7 dc7 pm7 cd7 ct7 oc8 kV8 dc8 pm8 cd8 ct8 oc9 kV9 dc9 pm9 cd9 ct9 oc10 kV10 dc10 pm10 cd10 ct10 oc11 kV11 dc11 pm11 cd11 ct11 oc12 kV12 dc12 pm12 cd12 ct12 oc13 kV13 dc13 pm13 cd13 ct13 oc14 kV14 dc14 pm14 cd14 ct14 oc15 kV15 dc15 pm15 cd15 ct15 oc16 kV16 dc16 pm16 cd16 ct16 oc17 kV17 dc17 pm17 cd17 ct17 oc18 kV18 dc18 pm18 cd18 ct18 oc19 kV19 dc19 pm19 cd19 ct19 oc20 kV20 dc20 pm20 cd20 ct20 oc21 kV21 dc21 pm21 cd21 ct21 oc22 kV22 dc22 pm22 cd22 ct22 oc23 kV23 dc23 pm23 cd23 ct23 oc24 kV24 dc24 pm24 cd24 ct24 oc25 kV25 dc25 pm25 cd25 ct25 oc26 kV26 dc26 pm26 cd26 ct26 oc27 kV27 dc27 pm27 cd27 ct27 oc28 kV28 dc28 pm28 cd28 ct28 oc29 kV29 dc29 pm29 cd29 ct29 oc30 kV30 dc30 pm30 cd30 ct30 oc31 kV31 dc31 pm31 cd31 ct31 oc32 kV32 dc32 pm32 cd32 ct32 : Value} {tk0 : Tok} {tk1 : Tok} {tk2 : Tok} {tk3 : Tok}
    (a0 : PySem.W.nsIn K mainGlobals "is_whole" = some (some (.ref f0))) (l0 : K.lookup f0 = some ⟨oc0, od0, .func (PySem.W.fnOf "is_whole" "is_whole" (zx xh) (zu xh) (ze xh) .none kV0 dc0 pm0 an0 cd0 ct0), sl0⟩) (c0 : PySem.W.codeIn K cd0 "is_whole" = true) (k0 : PySem.W.keepIn K (.ref f0) = true)
    (a1 : PySem.W.nsIn K mainGlobals "is_whole_within" = some (some (.ref f1))) (l1 : K.lookup f1 = some ⟨oc1, od1, .func (PySem.W.fnOf "is_whole_within" "is_whole_within" (zx zE) (zu zE) (ze zE) .none kV1 dc1 pm1 an1 cd1 ct1), sl1⟩) (c1 : PySem.W.codeIn K cd1 "is_whole_within" = true) (k1 : PySem.W.keepIn K (.ref f1) = true)
    (a2 : PySem.W.nsIn K mainGlobals "must_be_within" = some (some (.ref f2))) (l2 : K.lookup f2 = some ⟨oc2, od2, .func (PySem.W.fnOf "must_be_within" "must_be_within" (zx zP) (zu zP) (ze zP) .none kV2 dc2 pm2 an2 cd2 ct2), sl2⟩) (c2 : PySem.W.codeIn K cd2 "must_be_within" = true) (k2 : PySem.W.keepIn K (.ref f2) = true)
    (a3 : PySem.W.nsIn K mainGlobals "must_be_at_most" = some (some (.ref f3))) (l3 : K.lookup f3 = some ⟨oc3, od3, .func (PySem.W.fnOf "must_be_at_most" "must_be_at_most" (zx zF) (zu zF) (ze zF) .none kV3 dc3 pm3 an3 cd3 ct3), sl3⟩) (c3 : PySem.W.codeIn K cd3 "must_be_at_most" = true) (k3 : PySem.W.keepIn K (.ref f3) = true)
    (a4 : PySem.W.nsIn K mainGlobals "is_place_count" = some (some (.ref f4))) (l4 : K.lookup f4 = some ⟨oc4, od4, .func (PySem.W.fnOf "is_place_count" "is_place_count" (zx zM) (zu zM) (ze zM) .none kV4 dc4 pm4 an4 cd4 ct4), sl4⟩) (c4 : PySem.W.codeIn K cd4 "is_place_count" = true) (k4 : PySem.W.keepIn K (.ref f4) = true)
    (a5 : PySem.W.nsIn K mainGlobals "is_place" = some (some (.ref f5))) (l5 : K.lookup f5 = some ⟨oc5, od5, .func (PySem.W.fnOf "is_place" "is_place" (zx xo) (zu xo) (ze xo) .none kV5 dc5 pm5 an5 cd5 ct5), sl5⟩) (c5 : PySem.W.codeIn K cd5 "is_place" = true) (k5 : PySem.W.keepIn K (.ref f5) = true)
    (a6 : PySem.W.nsIn K mainGlobals "is_pair" = some (some (.ref f6))) (l6 : K.lookup f6 = some ⟨oc6, od6, .func (PySem.W.fnOf "is_pair" "is_pair" (zx xS) (zu xS) (ze xS) .none kV6 dc6 pm6 an6 cd6 ct6), sl6⟩) (c6 : PySem.W.codeIn K cd6 "is_pair" = true) (k6 : PySem.W.keepIn K (.ref f6) = true)
    (a7 : PySem.W.nsIn K mainGlobals "are_ties" = some (some (.ref f7))) (l7 : K.lookup f7 = some ⟨oc7, od7, .func (PySem.W.fnOf "are_ties" "are_ties" (zx xj) (zu xj) (ze xj) .none kV7 dc7 pm7 an7 cd7 ct7), sl7⟩) (c7 : PySem.W.codeIn K cd7 "are_ties" = true) (k7 : PySem.W.keepIn K (.ref f7) = true)
    (a8 : PySem.W.nsIn K mainGlobals "is_web" = some (some (.ref f8))) (l8 : K.lookup f8 = some ⟨oc8, od8, .func (PySem.W.fnOf "is_web" "is_web" (zx wn) (zu wn) (ze wn) .none kV8 dc8 pm8 an8 cd8 ct8), sl8⟩) (c8 : PySem.W.codeIn K cd8 "is_web" = true) (k8 : PySem.W.keepIn K (.ref f8) = true)
    (a9 : PySem.W.nsIn K mainGlobals "must_be_web" = some (some (.ref f9))) (l9 : K.lookup f9 = some ⟨oc9, od9, .func (PySem.W.fnOf "must_be_web" "must_be_web" (zx yp) (zu yp) (ze yp) .none kV9 dc9 pm9 an9 cd9 ct9), sl9⟩) (c9 : PySem.W.codeIn K cd9 "must_be_web" = true) (k9 : PySem.W.keepIn K (.ref f9) = true)
    (a10 : PySem.W.nsIn K mainGlobals "must_be_place" = some (some (.ref f10))) (l10 : K.lookup f10 = some ⟨oc10, od10, .func (PySem.W.fnOf "must_be_place" "must_be_place" (zx zS) (zu zS) (ze zS) .none kV10 dc10 pm10 an10 cd10 ct10), sl10⟩) (c10 : PySem.W.codeIn K cd10 "must_be_place" = true) (k10 : PySem.W.keepIn K (.ref f10) = true)
    (a11 : PySem.W.nsIn K mainGlobals "tie_between" = some (some (.ref f11))) (l11 : K.lookup f11 = some ⟨oc11, od11, .func (PySem.W.fnOf "tie_between" "tie_between" (zx yq) (zu yq) (ze yq) .none kV11 dc11 pm11 an11 cd11 ct11), sl11⟩) (c11 : PySem.W.codeIn K cd11 "tie_between" = true) (k11 : PySem.W.keepIn K (.ref f11) = true)
    (a12 : PySem.W.nsIn K mainGlobals "neighbours" = some (some (.ref f12))) (l12 : K.lookup f12 = some ⟨oc12, od12, .func (PySem.W.fnOf "neighbours" "neighbours" (zx yD) (zu yD) (ze yD) .none kV12 dc12 pm12 an12 cd12 ct12), sl12⟩) (c12 : PySem.W.codeIn K cd12 "neighbours" = true) (k12 : PySem.W.keepIn K (.ref f12) = true)
    (a13 : PySem.W.nsIn K mainGlobals "ties_away" = some (some (.ref f13))) (l13 : K.lookup f13 = some ⟨oc13, od13, .func (PySem.W.fnOf "ties_away" "ties_away" (zx yS) (zu yS) (ze yS) .none kV13 dc13 pm13 an13 cd13 ct13), sl13⟩) (c13 : PySem.W.codeIn K cd13 "ties_away" = true) (k13 : PySem.W.keepIn K (.ref f13) = true)
    (a14 : PySem.W.nsIn K mainGlobals "pieces" = some (some (.ref f14))) (l14 : K.lookup f14 = some ⟨oc14, od14, .func (PySem.W.fnOf "pieces" "pieces" (zx wg) (zu wg) (ze wg) .none kV14 dc14 pm14 an14 cd14 ct14), sl14⟩) (c14 : PySem.W.codeIn K cd14 "pieces" = true) (k14 : PySem.W.keepIn K (.ref f14) = true)
    (a15 : PySem.W.nsIn K mainGlobals "is_joined" = some (some (.ref f15))) (l15 : K.lookup f15 = some ⟨oc15, od15, .func (PySem.W.fnOf "is_joined" "is_joined" (zx yW) (zu yW) (ze yW) .none kV15 dc15 pm15 an15 cd15 ct15), sl15⟩) (c15 : PySem.W.codeIn K cd15 "is_joined" = true) (k15 : PySem.W.keepIn K (.ref f15) = true)
    (a16 : PySem.W.nsIn K mainGlobals "all_steps" = some (some (.ref f16))) (l16 : K.lookup f16 = some ⟨oc16, od16, .func (PySem.W.fnOf "all_steps" "all_steps" (zx yV) (zu yV) (ze yV) .none kV16 dc16 pm16 an16 cd16 ct16), sl16⟩) (c16 : PySem.W.codeIn K cd16 "all_steps" = true) (k16 : PySem.W.keepIn K (.ref f16) = true)
    (a17 : PySem.W.nsIn K mainGlobals "stepped" = some (some (.ref f17))) (l17 : K.lookup f17 = some ⟨oc17, od17, .func (PySem.W.fnOf "stepped" "stepped" (zx xT) (zu xT) (ze xT) .none kV17 dc17 pm17 an17 cd17 ct17), sl17⟩) (c17 : PySem.W.codeIn K cd17 "stepped" = true) (k17 : PySem.W.keepIn K (.ref f17) = true)
    (a18 : PySem.W.nsIn K mainGlobals "must_be_counted" = some (some (.ref f18))) (l18 : K.lookup f18 = some ⟨oc18, od18, .func (PySem.W.fnOf "must_be_counted" "must_be_counted" (zx zD) (zu zD) (ze zD) .none kV18 dc18 pm18 an18 cd18 ct18), sl18⟩) (c18 : PySem.W.codeIn K cd18 "must_be_counted" = true) (k18 : PySem.W.keepIn K (.ref f18) = true)
    (a19 : PySem.W.nsIn K mainGlobals "must_be_wanted" = some (some (.ref f19))) (l19 : K.lookup f19 = some ⟨oc19, od19, .func (PySem.W.fnOf "must_be_wanted" "must_be_wanted" (zx zO) (zu zO) (ze zO) .none kV19 dc19 pm19 an19 cd19 ct19), sl19⟩) (c19 : PySem.W.codeIn K cd19 "must_be_wanted" = true) (k19 : PySem.W.keepIn K (.ref f19) = true)
    (a20 : PySem.W.nsIn K mainGlobals "grown" = some (some (.ref f20))) (l20 : K.lookup f20 = some ⟨oc20, od20, .func (PySem.W.fnOf "grown" "grown" (zx vw) (zu vw) (ze vw) .none kV20 dc20 pm20 an20 cd20 ct20), sl20⟩) (c20 : PySem.W.codeIn K cd20 "grown" = true) (k20 : PySem.W.keepIn K (.ref f20) = true)
    (a21 : PySem.W.nsIn K mainGlobals "leads_to" = some (some (.ref f21))) (l21 : K.lookup f21 = some ⟨oc21, od21, .func (PySem.W.fnOf "leads_to" "leads_to" (zx xm) (zu xm) (ze xm) .none kV21 dc21 pm21 an21 cd21 ct21), sl21⟩) (c21 : PySem.W.codeIn K cd21 "leads_to" = true) (k21 : PySem.W.keepIn K (.ref f21) = true)
    (a22 : PySem.W.nsIn K mainGlobals "level_above" = some (some (.ref f22))) (l22 : K.lookup f22 = some ⟨oc22, od22, .func (PySem.W.fnOf "level_above" "level_above" (zx yr) (zu yr) (ze yr) .none kV22 dc22 pm22 an22 cd22 ct22), sl22⟩) (c22 : PySem.W.codeIn K cd22 "level_above" = true) (k22 : PySem.W.keepIn K (.ref f22) = true)
    (a23 : PySem.W.nsIn K mainGlobals "failing_levels" = some (some (.ref f23))) (l23 : K.lookup f23 = some ⟨oc23, od23, .func (PySem.W.fnOf "failing_levels" "failing_levels" (zx zQ) (zu zQ) (ze zQ) .none kV23 dc23 pm23 an23 cd23 ct23), sl23⟩) (c23 : PySem.W.codeIn K cd23 "failing_levels" = true) (k23 : PySem.W.keepIn K (.ref f23) = true)
    (a24 : PySem.W.nsIn K mainGlobals "all_failing" = some (some (.ref f24))) (l24 : K.lookup f24 = some ⟨oc24, od24, .func (PySem.W.fnOf "all_failing" "all_failing" (zx yt) (zu yt) (ze yt) .none kV24 dc24 pm24 an24 cd24 ct24), sl24⟩) (c24 : PySem.W.codeIn K cd24 "all_failing" = true) (k24 : PySem.W.keepIn K (.ref f24) = true)
    (a25 : PySem.W.nsIn K mainGlobals "need" = some (some (.ref f25))) (l25 : K.lookup f25 = some ⟨oc25, od25, .func (PySem.W.fnOf "need" "need" (zx YY) (zu YY) (ze YY) .none kV25 dc25 pm25 an25 cd25 ct25), sl25⟩) (c25 : PySem.W.codeIn K cd25 "need" = true) (k25 : PySem.W.keepIn K (.ref f25) = true)
    (a26 : PySem.W.nsIn K mainGlobals "need_all" = some (some (.ref f26))) (l26 : K.lookup f26 = some ⟨oc26, od26, .func (PySem.W.fnOf "need_all" "need_all" (zx xl) (zu xl) (ze xl) .none kV26 dc26 pm26 an26 cd26 ct26), sl26⟩) (c26 : PySem.W.codeIn K cd26 "need_all" = true) (k26 : PySem.W.keepIn K (.ref f26) = true)
    (a27 : PySem.W.nsIn K mainGlobals "_law_pairs" = some (some (.ref f27))) (l27 : K.lookup f27 = some ⟨oc27, od27, .func (PySem.W.fnOf "_law_pairs" "_law_pairs" (zx yE) (zu yE) (ze yE) .none kV27 dc27 pm27 an27 cd27 ct27), sl27⟩) (c27 : PySem.W.codeIn K cd27 "_law_pairs" = true) (k27 : PySem.W.keepIn K (.ref f27) = true)
    (a28 : PySem.W.nsIn K mainGlobals "_law_stir" = some (some (.ref f28))) (l28 : K.lookup f28 = some ⟨oc28, od28, .func (PySem.W.fnOf "_law_stir" "_law_stir" (zx yT) (zu yT) (ze yT) .none kV28 dc28 pm28 an28 cd28 ct28), sl28⟩) (c28 : PySem.W.codeIn K cd28 "_law_stir" = true) (k28 : PySem.W.keepIn K (.ref f28) = true)
    (a29 : PySem.W.nsIn K mainGlobals "_law_web_by" = some (some (.ref f29))) (l29 : K.lookup f29 = some ⟨oc29, od29, .func (PySem.W.fnOf "_law_web_by" "_law_web_by" (zx yo) (zu yo) (ze yo) .none kV29 dc29 pm29 an29 cd29 ct29), sl29⟩) (c29 : PySem.W.codeIn K cd29 "_law_web_by" = true) (k29 : PySem.W.keepIn K (.ref f29) = true)
    (a30 : PySem.W.nsIn K mainGlobals "_law_joined_by" = some (some (.ref f30))) (l30 : K.lookup f30 = some ⟨oc30, od30, .func (PySem.W.fnOf "_law_joined_by" "_law_joined_by" (zx zN) (zu zN) (ze zN) .none kV30 dc30 pm30 an30 cd30 ct30), sl30⟩) (c30 : PySem.W.codeIn K cd30 "_law_joined_by" = true) (k30 : PySem.W.keepIn K (.ref f30) = true)
    (a31 : PySem.W.nsIn K mainGlobals "_law_same" = some (some (.ref f31))) (l31 : K.lookup f31 = some ⟨oc31, od31, .func (PySem.W.fnOf "_law_same" "_law_same" (zx yX) (zu yX) (ze yX) .none kV31 dc31 pm31 an31 cd31 ct31), sl31⟩) (c31 : PySem.W.codeIn K cd31 "_law_same" = true) (k31 : PySem.W.keepIn K (.ref f31) = true)
    (a32 : PySem.W.nsIn K mainGlobals "law" = some (some (.ref f32))) (l32 : K.lookup f32 = some ⟨oc32, od32, .func (PySem.W.fnOf "law" "law" (zx Xn) (zu Xn) (ze Xn) .none kV32 dc32 pm32 an32 cd32 ct32), sl32⟩) (c32 : PySem.W.codeIn K cd32 "law" = true) (k32 : PySem.W.keepIn K (.ref f32) = true)
    (gg0 : PySem.W.nsIn K mainGlobals "MOST_PLACES" = some (some (.int 8 tk0)))
    (gg1 : PySem.W.nsIn K mainGlobals "MOST_STONES" = some (some (.int 300 tk1)))
    (gg2 : PySem.W.nsIn K mainGlobals "MOST_WANTED" = some (some (.int 3 tk2)))
    (gg3 : PySem.W.nsIn K mainGlobals "MOST_COUNTED" = some (some (.int 6 tk3)))
    (z0 : PySem.W.nsIn K mainGlobals "bool" = some none)
    (z1 : PySem.W.nsIn K mainGlobals "enumerate" = some none)
    (z2 : PySem.W.nsIn K mainGlobals "int" = some none)
    (z3 : PySem.W.nsIn K mainGlobals "isinstance" = some none)
    (z4 : PySem.W.nsIn K mainGlobals "len" = some none)
    (z5 : PySem.W.nsIn K mainGlobals "list" = some none)
    (z6 : PySem.W.nsIn K mainGlobals "max" = some none)
    (z7 : PySem.W.nsIn K mainGlobals "min" = some none)
    (z8 : PySem.W.nsIn K mainGlobals "range" = some none)
    (z9 : PySem.W.nsIn K mainGlobals "sorted" = some none)
    (z10 : PySem.W.nsIn K mainGlobals "str" = some none)
    (z11 : PySem.W.nsIn K mainGlobals "tuple" = some none)
    (z12 : PySem.W.nsIn K mainGlobals "zip" = some none)
    : ∃ fd : FuncData, (∀ (s : Shared) (v : Value), BindsTo s fd ⟨[v], []⟩ [("script", v)]) ∧ ∀ base : Heap, K.In base → base.Ns mainGlobals mg → yU l.prog w K mg base CX0 30 fa fd ["script"] (zfS K) := by
  have e := hfa.symm.trans (PySem.W.mg_of X G a32)
  cases e
  have F0 := zI (st := xh) l0 c0 k0
  have F1 := zI (st := zE) l1 c1 k1
  have F2 := zI (st := zP) l2 c2 k2
  have F3 := zI (st := zF) l3 c3 k3
  have F4 := zI (st := zM) l4 c4 k4
  have F5 := zI (st := xo) l5 c5 k5
  have F6 := zI (st := xS) l6 c6 k6
  have F7 := zI (st := xj) l7 c7 k7
  have F8 := zI (st := wn) l8 c8 k8
  have F9 := zI (st := yp) l9 c9 k9
  have F10 := zI (st := zS) l10 c10 k10
  have F11 := zI (st := yq) l11 c11 k11
  have F12 := zI (st := yD) l12 c12 k12
  have F13 := zI (st := yS) l13 c13 k13
  have F14 := zI (st := wg) l14 c14 k14
  have F15 := zI (st := yW) l15 c15 k15
  have F16 := zI (st := yV) l16 c16 k16
  have F17 := zI (st := xT) l17 c17 k17
  have F18 := zI (st := zD) l18 c18 k18
  have F19 := zI (st := zO) l19 c19 k19
  have F20 := zI (st := vw) l20 c20 k20
  have F21 := zI (st := xm) l21 c21 k21
  have F22 := zI (st := yr) l22 c22 k22
  have F23 := zI (st := zQ) l23 c23 k23
  have F24 := zI (st := yt) l24 c24 k24
  have F25 := zI (st := YY) l25 c25 k25
  have F26 := zI (st := xl) l26 c26 k26
  have F27 := zI (st := yE) l27 c27 k27
  have F28 := zI (st := yT) l28 c28 k28
  have F29 := zI (st := yo) l29 c29 k29
  have F30 := zI (st := zN) l30 c30 k30
  have F31 := zI (st := yX) l31 c31 k31
  have F32 := zI (st := Xn) l32 c32 k32
  have T : Txt K mg ⟨_, _, _, _, _, _, _, _, _, _, _, _, _, _, _, _, _, _, _, _, _, _, _, _, _, _, _, _, _, _, _, _, _, _, _, _, _, _, _, _, _, _, _, _, _, _, _, _, _, _, _, _, _, _, _, _, _, _, _, _, _, _, _, _, _, _, tk0, tk1, tk2, tk3⟩ := ⟨
    ⟨F0, F0.binds (ps := ["thing"]) (fun _ _ _ _ _ _ us hl => by obtain ⟨_, rfl⟩ := ZC hl; rfl), PySem.W.mg_of X G a0⟩,
    ⟨F1, F1.binds (ps := ["thing", "least", "most"]) (fun _ _ _ _ _ _ us hl => by obtain ⟨_, _, _, rfl⟩ := zdQ hl; rfl), PySem.W.mg_of X G a1⟩,
    ⟨F2, F2.binds (ps := ["thing", "least", "most"]) (fun _ _ _ _ _ _ us hl => by obtain ⟨_, _, _, rfl⟩ := zdQ hl; rfl), PySem.W.mg_of X G a2⟩,
    ⟨F3, F3.binds (ps := ["many", "most"]) (fun _ _ _ _ _ _ us hl => by obtain ⟨_, _, rfl⟩ := YA hl; rfl), PySem.W.mg_of X G a3⟩,
    ⟨F4, F4.binds (ps := ["thing"]) (fun _ _ _ _ _ _ us hl => by obtain ⟨_, rfl⟩ := ZC hl; rfl), PySem.W.mg_of X G a4⟩,
    ⟨F5, F5.binds (ps := ["many", "thing"]) (fun _ _ _ _ _ _ us hl => by obtain ⟨_, _, rfl⟩ := YA hl; rfl), PySem.W.mg_of X G a5⟩,
    ⟨F6, F6.binds (ps := ["many", "thing"]) (fun _ _ _ _ _ _ us hl => by obtain ⟨_, _, rfl⟩ := YA hl; rfl), PySem.W.mg_of X G a6⟩,
    ⟨F7, F7.binds (ps := ["many", "thing"]) (fun _ _ _ _ _ _ us hl => by obtain ⟨_, _, rfl⟩ := YA hl; rfl), PySem.W.mg_of X G a7⟩,
    ⟨F8, F8.binds (ps := ["thing"]) (fun _ _ _ _ _ _ us hl => by obtain ⟨_, rfl⟩ := ZC hl; rfl), PySem.W.mg_of X G a8⟩,
    ⟨F9, F9.binds (ps := ["thing"]) (fun _ _ _ _ _ _ us hl => by obtain ⟨_, rfl⟩ := ZC hl; rfl), PySem.W.mg_of X G a9⟩,
    ⟨F10, F10.binds (ps := ["web", "thing"]) (fun _ _ _ _ _ _ us hl => by obtain ⟨_, _, rfl⟩ := YA hl; rfl), PySem.W.mg_of X G a10⟩,
    ⟨F11, F11.binds (ps := ["one", "other"]) (fun _ _ _ _ _ _ us hl => by obtain ⟨_, _, rfl⟩ := YA hl; rfl), PySem.W.mg_of X G a11⟩,
    ⟨F12, F12.binds (ps := ["web", "place"]) (fun _ _ _ _ _ _ us hl => by obtain ⟨_, _, rfl⟩ := YA hl; rfl), PySem.W.mg_of X G a12⟩,
    ⟨F13, F13.binds (ps := ["web", "start"]) (fun _ _ _ _ _ _ us hl => by obtain ⟨_, _, rfl⟩ := YA hl; rfl), PySem.W.mg_of X G a13⟩,
    ⟨F14, F14.binds (ps := ["web"]) (fun _ _ _ _ _ _ us hl => by obtain ⟨_, rfl⟩ := ZC hl; rfl), PySem.W.mg_of X G a14⟩,
    ⟨F15, F15.binds (ps := ["web"]) (fun _ _ _ _ _ _ us hl => by obtain ⟨_, rfl⟩ := ZC hl; rfl), PySem.W.mg_of X G a15⟩,
    ⟨F16, F16.binds (ps := ["web"]) (fun _ _ _ _ _ _ us hl => by obtain ⟨_, rfl⟩ := ZC hl; rfl), PySem.W.mg_of X G a16⟩,
    ⟨F17, F17.binds (ps := ["heap", "step"]) (fun _ _ _ _ _ _ us hl => by obtain ⟨_, _, rfl⟩ := YA hl; rfl), PySem.W.mg_of X G a17⟩,
    ⟨F18, F18.binds (ps := ["web"]) (fun _ _ _ _ _ _ us hl => by obtain ⟨_, rfl⟩ := ZC hl; rfl), PySem.W.mg_of X G a18⟩,
    ⟨F19, F19.binds (ps := ["web", "place", "m"]) (fun _ _ _ _ _ _ us hl => by obtain ⟨_, _, _, rfl⟩ := zdQ hl; rfl), PySem.W.mg_of X G a19⟩,
    ⟨F20, F20.binds (ps := ["heap"]) (fun _ _ _ _ _ _ us hl => by obtain ⟨_, rfl⟩ := ZC hl; rfl), PySem.W.mg_of X G a20⟩,
    ⟨F21, F21.binds (ps := ["heap", "steps", "level"]) (fun _ _ _ _ _ _ us hl => by obtain ⟨_, _, _, rfl⟩ := zdQ hl; rfl), PySem.W.mg_of X G a21⟩,
    ⟨F22, F22.binds (ps := ["level", "steps", "place", "m"]) (fun _ _ _ _ _ _ us hl => by obtain ⟨_, _, _, _, rfl⟩ := zjF hl; rfl), PySem.W.mg_of X G a22⟩,
    ⟨F23, F23.binds (ps := ["web", "place", "m", "most"]) (fun _ _ _ _ _ _ us hl => by obtain ⟨_, _, _, _, rfl⟩ := zjF hl; rfl), PySem.W.mg_of X G a23⟩,
    ⟨F24, F24.binds (ps := ["web", "place", "m"]) (fun _ _ _ _ _ _ us hl => by obtain ⟨_, _, _, rfl⟩ := zdQ hl; rfl), PySem.W.mg_of X G a24⟩,
    ⟨F25, F25.binds (ps := ["web", "place", "m"]) (fun _ _ _ _ _ _ us hl => by obtain ⟨_, _, _, rfl⟩ := zdQ hl; rfl), PySem.W.mg_of X G a25⟩,
    ⟨F26, F26.binds (ps := ["web", "m"]) (fun _ _ _ _ _ _ us hl => by obtain ⟨_, _, rfl⟩ := YA hl; rfl), PySem.W.mg_of X G a26⟩,
    ⟨F27, F27.binds (ps := ["many"]) (fun _ _ _ _ _ _ us hl => by obtain ⟨_, rfl⟩ := ZC hl; rfl), PySem.W.mg_of X G a27⟩,
    ⟨F28, F28.binds (ps := ["cell", "k"]) (fun _ _ _ _ _ _ us hl => by obtain ⟨_, _, rfl⟩ := YA hl; rfl), PySem.W.mg_of X G a28⟩,
    ⟨F29, F29.binds (ps := ["many", "cell"]) (fun _ _ _ _ _ _ us hl => by obtain ⟨_, _, rfl⟩ := YA hl; rfl), PySem.W.mg_of X G a29⟩,
    ⟨F30, F30.binds (ps := ["many", "cell"]) (fun _ _ _ _ _ _ us hl => by obtain ⟨_, _, rfl⟩ := YA hl; rfl), PySem.W.mg_of X G a30⟩,
    ⟨F31, F31.binds (ps := ["found", "due"]) (fun _ _ _ _ _ _ us hl => by obtain ⟨_, _, rfl⟩ := YA hl; rfl), PySem.W.mg_of X G a31⟩,
    ⟨F32, F32.binds (ps := ["script"]) (fun _ _ _ _ _ _ us hl => by obtain ⟨_, rfl⟩ := ZC hl; rfl), PySem.W.mg_of X G a32⟩,
    PySem.W.mg_of X G gg0,
    PySem.W.mg_of X G gg1,
    PySem.W.mg_of X G gg2,
    PySem.W.mg_of X G gg3,
    PySem.W.mg_none_of X G z0,
    PySem.W.mg_none_of X G z1,
    PySem.W.mg_none_of X G z2,
    PySem.W.mg_none_of X G z3,
    PySem.W.mg_none_of X G z4,
    PySem.W.mg_none_of X G z5,
    PySem.W.mg_none_of X G z6,
    PySem.W.mg_none_of X G z7,
    PySem.W.mg_none_of X G z8,
    PySem.W.mg_none_of X G z9,
    PySem.W.mg_none_of X G z10,
    PySem.W.mg_none_of X G z11,
    PySem.W.mg_none_of X G z12⟩
  exact ⟨_, fun s v => .of_eq rfl, fun base _ _ => zjV T⟩
theorem walk {l : PySem.W.OpenLaw} {q : Program} {loose : List Str} {XP : (Str → Option Value) → Heap → Prop} {YP : World → Heap → Prop} {d : DefRec} {K : Params → PySem.W.Frag} (hn : l.most = some 63) (hdf : d.params.defaults = [])
    (hY : ∀ (w : World) (h : Heap), YP w h → (K w.params).In h)
    (F : ∀ (w : World) (mg : Str → Option Value) (fa : Addr) (h : Heap), (K w.params).In h → h.Ns mainGlobals mg → mg d.name = some (.ref fa) →
      ∃ fd : FuncData, (∀ (s : Shared) (u : Value), BindsTo s fd ⟨[u], []⟩ [("script", u)]) ∧ ∀ base : Heap, (K w.params).In base → base.Ns mainGlobals mg → yU l.prog w (K w.params) mg base CX0 30 fa fd ["script"] (zfS (K w.params))) :
    PySem.W.WalkO q loose XP YP l.row.toRowW d [] (fun f vs => PySem.call f vs) :=
  L2.walk_of (n := 63) (k := 30) (x := "script") (CX := fun _ => CX0) (sp := fun w => zfS (K w.params)) hn (by decide) hdf ⟨rfl, by decide, by decide⟩ hY F (fun _ _ a ns hl _ hS => ⟨a, ns, rfl, hS, hl, fun _ => rfl⟩) fun _ _ _ _ _ z => z
end Mz
open PySem PySem.W PyProof.Rows
theorem PySem.W.Fast.tw12194054426123381936 : True := trivial
theorem PySem.W.Fast.tw9789072008473186694 : True := trivial
theorem PySem.W.Fast.tw1071565274241191661 : True := trivial
theorem PySem.W.Fast.tw12093058099787299478 : True := trivial
theorem PySem.W.Fast.tw16496306965898634694 : True := trivial
theorem PySem.W.Fast.tw4269397346622445980 : True := trivial
theorem PySem.W.Fast.tw13517220883800231739 : True := trivial
theorem PySem.W.Fast.tw4054783068687380510 : True := trivial
theorem PySem.W.Fast.tw10668925130261574274 : True := trivial
theorem PySem.W.Fast.tw14702978488915732144 : True := trivial
theorem PySem.W.Fast.tw12787646436257577465 : True := trivial
theorem PySem.W.Fast.tw14974250085232356937 : True := trivial
theorem PySem.W.Fast.tw7560080109476495338 : True := trivial
theorem PySem.W.Fast.tw10254243934037333478 : True := trivial
theorem PySem.W.Fast.tw17636005694236974359 : True := trivial
theorem PySem.W.Fast.tw17247368347516089123 : True := trivial
theorem PySem.W.Fast.tw963624141871646452 : True := trivial
theorem PySem.W.Fast.tw2176186704670910846 : True := trivial
theorem PySem.W.Fast.tw12124790875252164669 : True := trivial
theorem PySem.W.Fast.tw700920091008014845 : True := trivial
set_option maxRecDepth 100000 in
set_option maxHeartbeats 0 in
theorem PySem.Challenge.cw_twoforone_k63_need_of_all_places_holds : PySem.Challenge.rw_twoforone_k63_need_of_all_places.Holds := by
  w_on; o_law; k_head; (case hw => w_witness2)
  k_fill
  refine Mz.walk (l := PySem.Challenge.rw_twoforone_k63_need_of_all_places) rfl rfl (fun w h Y => PySem.W.kIn_of Y) ?F
  case F =>
    intro w mg fa h KX G hmg
    refine' Mz.all_mk KX G hmg ?a0 ?l0 ?c0 ?k0 ?a1 ?l1 ?c1 ?k1 ?a2 ?l2 ?c2 ?k2 ?a3 ?l3 ?c3 ?k3 ?a4 ?l4 ?c4 ?k4 ?a5 ?l5 ?c5 ?k5 ?a6 ?l6 ?c6 ?k6 ?a7 ?l7 ?c7 ?k7 ?a8 ?l8 ?c8 ?k8 ?a9 ?l9 ?c9 ?k9 ?a10 ?l10 ?c10 ?k10 ?a11 ?l11 ?c11 ?k11 ?a12 ?l12 ?c12 ?k12 ?a13 ?l13 ?c13 ?k13 ?a14 ?l14 ?c14 ?k14 ?a15 ?l15 ?c15 ?k15 ?a16 ?l16 ?c16 ?k16 ?a17 ?l17 ?c17 ?k17 ?a18 ?l18 ?c18 ?k18 ?a19 ?l19 ?c19 ?k19 ?a20 ?l20 ?c20 ?k20 ?a21 ?l21 ?c21 ?k21 ?a22 ?l22 ?c22 ?k22 ?a23 ?l23 ?c23 ?k23 ?a24 ?l24 ?c24 ?k24 ?a25 ?l25 ?c25 ?k25 ?a26 ?l26 ?c26 ?k26 ?a27 ?l27 ?c27 ?k27 ?a28 ?l28 ?c28 ?k28 ?a29 ?l29 ?c29 ?k29 ?a30 ?l30 ?c30 ?k30 ?a31 ?l31 ?c31 ?k31 ?a32 ?l32 ?c32 ?k32 ?gg0 ?gg1 ?gg2 ?gg3 ?z0 ?z1 ?z2 ?z3 ?z4 ?z5 ?z6 ?z7 ?z8 ?z9 ?z10 ?z11 ?z12
    (case a0 => k_is)
    (case l0 => k_is)
    (case c0 => k_is)
    (case k0 => k_is)
    (case a1 => k_is)
    (case l1 => k_is)
    (case c1 => k_is)
    (case k1 => k_is)
    (case a2 => k_is)
    (case l2 => k_is)
    (case c2 => k_is)
    (case k2 => k_is)
    (case a3 => k_is)
    (case l3 => k_is)
    (case c3 => k_is)
    (case k3 => k_is)
    (case a4 => k_is)
    (case l4 => k_is)
    (case c4 => k_is)
    (case k4 => k_is)
    (case a5 => k_is)
    (case l5 => k_is)
    (case c5 => k_is)
    (case k5 => k_is)
    (case a6 => k_is)
    (case l6 => k_is)
    (case c6 => k_is)
    (case k6 => k_is)
    (case a7 => k_is)
    (case l7 => k_is)
    (case c7 => k_is)
    (case k7 => k_is)
    (case a8 => k_is)
    (case l8 => k_is)
    (case c8 => k_is)
    (case k8 => k_is)
    (case a9 => k_is)
    (case l9 => k_is)
    (case c9 => k_is)
    (case k9 => k_is)
    (case a10 => k_is)
    (case l10 => k_is)
    (case c10 => k_is)
    (case k10 => k_is)
    (case a11 => k_is)
    (case l11 => k_is)
    (case c11 => k_is)
    (case k11 => k_is)
    (case a12 => k_is)
    (case l12 => k_is)
    (case c12 => k_is)
    (case k12 => k_is)
    (case a13 => k_is)
    (case l13 => k_is)
    (case c13 => k_is)
    (case k13 => k_is)
    (case a14 => k_is)
    (case l14 => k_is)
    (case c14 => k_is)
    (case k14 => k_is)
    (case a15 => k_is)
    (case l15 => k_is)
    (case c15 => k_is)
    (case k15 => k_is)
    (case a16 => k_is)
    (case l16 => k_is)
    (case c16 => k_is)
    (case k16 => k_is)
    (case a17 => k_is)
    (case l17 => k_is)
    (case c17 => k_is)
    (case k17 => k_is)
    (case a18 => k_is)
    (case l18 => k_is)
    (case c18 => k_is)
    (case k18 => k_is)
    (case a19 => k_is)
    (case l19 => k_is)
    (case c19 => k_is)
    (case k19 => k_is)
    (case a20 => k_is)
    (case l20 => k_is)
    (case c20 => k_is)
    (case k20 => k_is)
    (case a21 => k_is)
    (case l21 => k_is)
    (case c21 => k_is)
    (case k21 => k_is)
    (case a22 => k_is)
    (case l22 => k_is)
    (case c22 => k_is)
    (case k22 => k_is)
    (case a23 => k_is)
    (case l23 => k_is)
    (case c23 => k_is)
    (case k23 => k_is)
    (case a24 => k_is)
    (case l24 => k_is)
    (case c24 => k_is)
    (case k24 => k_is)
    (case a25 => k_is)
    (case l25 => k_is)
    (case c25 => k_is)
    (case k25 => k_is)
    (case a26 => k_is)
    (case l26 => k_is)
    (case c26 => k_is)
    (case k26 => k_is)
    (case a27 => k_is)
    (case l27 => k_is)
    (case c27 => k_is)
    (case k27 => k_is)
    (case a28 => k_is)
    (case l28 => k_is)
    (case c28 => k_is)
    (case k28 => k_is)
    (case a29 => k_is)
    (case l29 => k_is)
    (case c29 => k_is)
    (case k29 => k_is)
    (case a30 => k_is)
    (case l30 => k_is)
    (case c30 => k_is)
    (case k30 => k_is)
    (case a31 => k_is)
    (case l31 => k_is)
    (case c31 => k_is)
    (case k31 => k_is)
    (case a32 => k_is)
    (case l32 => k_is)
    (case c32 => k_is)
    (case k32 => k_is)
    (case gg0 => k_is)
    (case gg1 => k_is)
    (case gg2 => k_is)
    (case gg3 => k_is)
    (case z0 => k_is)
    (case z1 => k_is)
    (case z2 => k_is)
    (case z3 => k_is)
    (case z4 => k_is)
    (case z5 => k_is)
    (case z6 => k_is)
    (case z7 => k_is)
    (case z8 => k_is)
    (case z9 => k_is)
    (case z10 => k_is)
    (case z11 => k_is)
    (case z12 => k_is)
