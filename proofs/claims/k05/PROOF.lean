import PyProof.Rows.All
import Wide.All
import OpenK.AllK
import Wide.FinOn
import Lean
import PyProof.EqAt
import PyProof.EqKinds
import PyProof.TupleCall
import PyProof.NeKinds
import PySem.Challenge.RW_twoforone_k05_kinds
set_option Elab.async false
set_option linter.all false
set_option maxRecDepth 100000
set_option maxHeartbeats 4000000
namespace L2
open PySem PySem.Spec PyProof.Rows
noncomputable abbrev Key := Sum Int Str
noncomputable def zcb : Key → Value → Bool
  | .inl k, v => Value.isInt k v
  | .inr x, v => Value.isStrOf x v
noncomputable def keyH (w : World) : Key → Int
  | .inl k => hashInt k
  | .inr x => hashStr w x
theorem zX : ∀ {k : Key} {v : Value}, zcb k v = true → (∃ i t, k = Sum.inl i ∧ v = Value.int i t) ∨ (∃ x t, k = Sum.inr x ∧ v = Value.str x t)
  | .inl i, v, h => by
    obtain ⟨t, e⟩ := Value.isInt_shape (k := i) (v := v) h
    exact .inl ⟨i, t, rfl, e⟩
  | .inr x, v, h => by
    obtain ⟨t, e⟩ := Value.isStrOf_shape (x := x) (v := v) h
    exact .inr ⟨x, t, rfl, e⟩
theorem zcF (a b : Int) : decide ((Sum.inl a : Key) = Sum.inl b) = (a == b) := by
  by_cases e : a = b
  · subst e; simp
  · have h : ¬ (Sum.inl a : Key) = Sum.inl b := fun q => e (Sum.inl.inj q)
    rw [decide_eq_false h]
    exact (beq_eq_false_iff_ne.mpr e).symm
theorem zcy (a b : Str) : decide ((Sum.inr a : Key) = Sum.inr b) = decide (a = b) := by
  by_cases e : a = b
  · subst e; simp
  · have h : ¬ (Sum.inr a : Key) = Sum.inr b := fun q => e (Sum.inr.inj q)
    rw [decide_eq_false h, decide_eq_false e]
theorem zcQ (a : Int) (b : Str) : decide ((Sum.inl a : Key) = Sum.inr b) = false := decide_eq_false (fun q => nomatch q)
theorem zcH (a : Str) (b : Int) : decide ((Sum.inr a : Key) = Sum.inl b) = false := decide_eq_false (fun q => nomatch q)
noncomputable def Wn (prog : Program) (w : World) : PySem.KeyKind prog w Key where
  is := zcb
  hash := keyH w
  inj := fun v a b ha hb => by
    rcases zX ha with ⟨i, t, rfl, rfl⟩ | ⟨x, t, rfl, rfl⟩
    · rcases zX hb with ⟨j, u, rfl, e⟩ | ⟨y, u, rfl, e⟩
      · injection e with e1 _; rw [e1]
      · exact nomatch e
    · rcases zX hb with ⟨j, u, rfl, e⟩ | ⟨y, u, rfl, e⟩
      · exact nomatch e
      · injection e with e1 _; rw [e1]
  byValue := fun k v h => by
    rcases zX h with ⟨i, t, rfl, rfl⟩ | ⟨x, t, rfl, rfl⟩ <;> rfl
  pyHash := fun hv h => by
    rcases zX hv with ⟨i, t, rfl, rfl⟩ | ⟨x, t, rfl, rfl⟩
    · exact wpAny_pyHash_int h
    · exact wpAny_pyHash_str h
  eqBool := fun hu hv h => by
    rcases zX hu with ⟨i, t, rfl, rfl⟩ | ⟨x, t, rfl, rfl⟩
    · rcases zX hv with ⟨j, u, rfl, rfl⟩ | ⟨y, u, rfl, rfl⟩
      · rw [zcF] at h; exact wpAny_eqBool_int h
      · rw [zcQ] at h; exact SeqAt.EqAt.int_str i t y u _ _ _ _ h
    · rcases zX hv with ⟨j, u, rfl, rfl⟩ | ⟨y, u, rfl, rfl⟩
      · rw [zcH] at h; exact SeqAt.EqAt.str_int x t j u _ _ _ _ h
      · rw [zcy] at h; exact wpAny_eqBool_str h
  «strs» := fun k x t v h => by
    rcases zX h with ⟨i, u, rfl, e⟩ | ⟨y, u, rfl, e⟩
    · exact nomatch e
    · injection e with e1 _
      subst e1
      cases v <;> rfl
end L2
namespace L2
open PySem PySem.Spec PyProof.Rows
inductive V where
  | non | bl (b : Bool) | int (i : Int) | str (x : Str) | byt (b : Array UInt8) | flt (b : UInt64) | ref (a : Addr) | ty (n : String)
  deriving DecidableEq
noncomputable def yP : V → Value → Prop
  | .non, u => u = Value.none
  | .bl b, u => u = Value.bool b
  | .int i, u => ∃ t, u = Value.int i t
  | .str x, u => ∃ t, u = Value.str x t
  | .byt b, u => ∃ t, u = Value.bytes b t
  | .flt b, u => ∃ t, u = Value.float b t
  | .ref a, u => u = Value.ref a
  | .ty n, u => u = Value.type n
noncomputable abbrev yd : List V → List Value → Prop := Paired yP
theorem yd.length {xs : List V} {us : List Value} (r : yd xs us) : xs.length = us.length := Paired.length r
theorem yd.get : ∀ {xs : List V} {us : List Value} {i : Nat} {x : V}, yd xs us → xs[i]? = some x → ∃ u, us[i]? = some u ∧ yP x u
  | _, _, _, _, .nil, e => by simp at e
  | _, _, 0, _, .cons r _, e => by simp at e; subst e; exact ⟨_, rfl, r⟩
  | _, _, i + 1, x, .cons _ t, e => by
    obtain ⟨u, h1, h2⟩ := yd.get (i := i) (x := x) t (by simpa using e)
    exact ⟨u, by simpa using h1, h2⟩
theorem yd.set {x : V} {u : Value} (r : yP x u) : ∀ {xs : List V} {us : List Value} (i : Nat), yd xs us → yd (xs.set i x) (us.set i u)
  | _, _, _, .nil => .nil
  | _, _, 0, .cons _ t => .cons r t
  | _, _, i + 1, .cons q t => .cons q (yd.set r i t)
theorem yd.append : ∀ {xs ys : List V} {us ws : List Value}, yd xs us → yd ys ws → yd (xs ++ ys) (us ++ ws) := by
  intro xs ys us ws h s
  induction h with
  | nil => exact s
  | cons r t ih => exact .cons r ih
theorem yd.take : ∀ {xs : List V} {us : List Value} (n : Nat), yd xs us → yd (xs.take n) (us.take n)
  | _, _, 0, _ => .nil
  | _, _, _ + 1, .nil => .nil
  | _, _, n + 1, .cons r t => .cons r (yd.take n t)
theorem yd.drop : ∀ {xs : List V} {us : List Value} (n : Nat), yd xs us → yd (xs.drop n) (us.drop n)
  | _, _, 0, r => r
  | _, _, _ + 1, .nil => .nil
  | _, _, n + 1, .cons _ t => yd.drop n t
noncomputable def zdd : Option V → Option Value → Prop
  | some v, some u => yP v u
  | none, none => True
  | _, _ => False
noncomputable def KV {κ : Type} : List (κ × V) → List (κ × Value) → Prop := Paired fun (p : κ × V) (q : κ × Value) => p.1 = q.1 ∧ yP p.2 q.2
noncomputable def kV : Key → V
  | .inl i => .int i
  | .inr x => .str x
inductive HO where
    | lst (xs : List V)
    | tup (xs : List V)
    | dK (kvs : List (Key × V)) | dT (kvs : List (List Key × V))
    | set (S : Int → Bool) (n : Nat)
    | ins (C dx : Addr) (fs : List (Str × V))
    | own (x : Addr)
    | xd (fs : List (Str × V))
    | met (f x : Addr)
    | rng (lo hi : Int)
    | frz (o : Obj) (u : HO)
    | tbl (ps : Array Value)
    | ext (φ : Heap → Prop)
noncomputable abbrev Hp := Addr → Option HO
noncomputable def upd (H : Hp) (a : Addr) (o : HO) : Hp := fun b => if b = a then some o else H b
theorem zo {H : Hp} {a : Addr} {o : HO} : upd H a o a = some o := by unfold upd; rw [if_pos rfl]
theorem zm {H : Hp} {a b : Addr} {o : HO} (h : b ≠ a) : upd H a o b = H b := by unfold upd; rw [if_neg h]
theorem Vr {H : Hp} {a : Addr} {o u : HO} : upd (upd H a o) a u = upd H a u := by
  funext b; unfold upd; split <;> rfl
theorem zi {H : Hp} {a b : Addr} {o : HO} (h : H a = some o) (h' : H b = none) : a ≠ b := by
  intro e; subst e; rw [h] at h'; cases h'
section
variable (P : Program) (w : World)
noncomputable def yX (H : Hp) (h : Heap) (a : Addr) : HO → Prop
  | .lst xs => xs.length ≤ sizeLine ∧ ∃ (its : List Value) (n : Nat), yd xs its ∧ h.get? a = some { cls := .type "list", data := .seq its.toArray n }
  | .tup xs => xs.length ≤ sizeLine ∧ ∃ its : List Value, yd xs its ∧ IsTup h a its.toArray
  | .dK kvs => kvs.length ≤ sizeLine ∧ (a == sysModules) = false ∧ ∃ vs, KV kvs vs ∧ h.DictOf (Wn P w) a vs
  | .dT kvs => kvs.length ≤ sizeLine ∧ (a == sysModules) = false ∧ ∃ xs : List (List Key × Addr × Value),
      Paired (fun (p : List Key × V) (q : List Key × Addr × Value) => p.1 = q.1 ∧ H q.2.1 = some (.tup (p.1.map kV)) ∧ yP p.2 q.2.2) kvs xs ∧
      ∃ o es ep, h.get? a = some o ∧ o.ExactDict ∧ o.data = .dict es ep ∧ es.toList = xs.map (entryOfKey (tupleKind (Wn P w))) ∧ (xs.map (·.1)).Nodup
  | .set S n => h.SetOf (intKind P w) a S n
  | .ins C dx fs => H dx = some (.own a) ∧ fs.length ≤ 1000 ∧ dx ≠ a ∧ h.get? a = some (PySem.W.instObj C dx) ∧
      ∃ mA, h.Ns1 dx mA ∧ (∀ f, zdd (fs.lookup f) (mA f)) ∧ PySem.Within mA (fs.map (·.1))
  | .own _ => ∃ o, h.get? a = some o
  | .xd fs => ∃ mA, h.Ns1 a mA ∧ ∀ f, zdd (fs.lookup f) (mA f)
  | .rng lo hi => ∃ t u v, h.get? a = some { cls := .type "range", data := .fields #[.int lo t, .int hi u, .int 1 v] }
  | .frz o u => h.get? a = some o ∧ yX H h a u
  | .tbl ps => h.get? a = some { cls := .none, data := .fields ps }
  | .met f x => h.get? a = some (PySem.W.methodObj (.ref f) (.ref x))
  | .ext φ => φ h ∧ (∃ o, h.get? a = some o) ∧ ∀ h1 h2 : Heap, φ h1 → (∀ o, h1.get? a = some o → h2.get? a = some o) → φ h2
noncomputable def HOk (H : Hp) (h : Heap) : Prop := ∀ a o, H a = some o → yX P w H h a o
end
section
variable {P : Program} {w : World} {H H' : Hp} {h h' : Heap} {a : Addr} {o : HO}
theorem yX.lt (x : yX P w H h a o) : a < h.objs.size := by
  cases o with
  | lst xs => obtain ⟨_, _, _, _, e⟩ := x; exact Heap.lt_size e
  | tup xs => obtain ⟨_, _, _, p⟩ := x; exact p.lt
  | dK kvs => obtain ⟨_, _, _, _, o, _, _, e, _⟩ := x; exact Heap.lt_size e
  | dT kvs => obtain ⟨_, _, _, _, o, _, _, e, _⟩ := x; exact Heap.lt_size e
  | set S n => obtain ⟨o, _, _, _, e, _⟩ := x; exact Heap.lt_size e
  | ins C dx fs => obtain ⟨_, _, _, e, _⟩ := x; exact Heap.lt_size e
  | own y => obtain ⟨_, e⟩ := x; exact Heap.lt_size e
  | xd fs => obtain ⟨_, ⟨_, _, _, e, _⟩, _⟩ := x; exact Heap.lt_size e
  | rng lo hi => obtain ⟨_, _, _, e⟩ := x; exact Heap.lt_size e
  | frz ob u => obtain ⟨e, _⟩ := x; exact Heap.lt_size e
  | tbl ps => exact Heap.lt_size (show h.get? a = some _ from x)
  | met f y => exact Heap.lt_size (show h.get? a = some _ from x)
  | ext φ => obtain ⟨_, ⟨_, e⟩, _⟩ := x; exact Heap.lt_size e
theorem Paired.mapP {α β : Type} {F G : α → β → Prop} : ∀ {l₁ : List α} {l₂ : List β}, Paired F l₁ l₂ → (∀ a b, F a b → G a b) → Paired G l₁ l₂ := by
  intro l1 l2 h f
  induction h with
  | nil => exact .nil
  | cons r t ih => exact .cons (f _ _ r) ih
theorem yX.stay (x : yX P w H h a o) (k : ∀ b u, (b = a ∨ H b = some (.own a)) → h.get? b = some u → h'.get? b = some u)
    (ho : ∀ b, H b = some (.own a) → H' b = some (.own a)) (ht : ∀ b xs, H b = some (.tup xs) → H' b = some (.tup xs)) : yX P w H' h' a o := by
  induction o with
  | lst xs => obtain ⟨z, its, n, r, e⟩ := x; exact ⟨z, its, n, r, k _ _ (.inl rfl) e⟩
  | tup xs => obtain ⟨z, its, r, ob, e, c⟩ := x; exact ⟨z, its, r, ob, k _ _ (.inl rfl) e, c⟩
  | dK kvs => obtain ⟨z, y, vs, r, ob, es, ep, e, c⟩ := x; exact ⟨z, y, vs, r, ob, es, ep, k _ _ (.inl rfl) e, c⟩
  | dT kvs =>
    obtain ⟨z, y, xs, r, ob, es, ep, e, c⟩ := x
    exact ⟨z, y, xs, Paired.mapP r fun p q z => ⟨z.1, ht _ _ z.2.1, z.2.2⟩, ob, es, ep, k _ _ (.inl rfl) e, c⟩
  | set S n => obtain ⟨ob, es, ep, t, e, c⟩ := x; exact ⟨ob, es, ep, t, k _ _ (.inl rfl) e, c⟩
  | ins C dx fs =>
    obtain ⟨d, z, ne, e, mA, ⟨od, es, ep, e2, c⟩, r⟩ := x
    exact ⟨ho _ d, z, ne, k _ _ (.inl rfl) e, mA, ⟨od, es, ep, k _ _ (.inr d) e2, c⟩, r⟩
  | own y => obtain ⟨ob, e⟩ := x; exact ⟨ob, k _ _ (.inl rfl) e⟩
  | xd fs => obtain ⟨mA, ⟨od, es, ep, e, c⟩, r⟩ := x; exact ⟨mA, ⟨od, es, ep, k _ _ (.inl rfl) e, c⟩, r⟩
  | rng lo hi => obtain ⟨t, u, v, e⟩ := x; exact ⟨t, u, v, k _ _ (.inl rfl) e⟩
  | frz ob u ih => obtain ⟨e, q⟩ := x; exact ⟨k _ _ (.inl rfl) e, ih q⟩
  | tbl ps =>
    have e : h.get? a = some { cls := .none, data := .fields ps } := x
    show h'.get? a = some { cls := .none, data := .fields ps }
    exact k a _ (.inl rfl) e
  | met f y =>
    have e : h.get? a = some (PySem.W.methodObj (.ref f) (.ref y)) := x
    show h'.get? a = some (PySem.W.methodObj (.ref f) (.ref y))
    exact k a _ (.inl rfl) e
  | ext φ => obtain ⟨p, ⟨o, e⟩, st⟩ := x; exact ⟨st _ _ p fun o q => k _ _ (.inl rfl) q, ⟨o, k _ _ (.inl rfl) e⟩, st⟩
theorem HOk.lt (x : HOk P w H h) (e : H a = some o) : a < h.objs.size := (x a o e).lt
theorem HOk.fresh (x : HOk P w H h) (e : h.objs.size ≤ a) : H a = none := by
  cases q : H a with
  | none => rfl
  | some u => exact absurd (Nat.lt_of_lt_of_le (x.lt q) e) (Nat.lt_irrefl _)
theorem HOk.kept (x : HOk P w H h) (k : ∀ b u, h.get? b = some u → h'.get? b = some u) : HOk P w H h' := fun a o e =>
  (x a o e).stay (fun b u _ q => k b u q) (fun _ q => q) fun _ _ q => q
theorem HOk.laid (x : HOk P w H h) (k : ∀ b u, h.get? b = some u → h'.get? b = some u) (hp : h.objs.size ≤ a) (new : yX P w (upd H a o) h' a o) : HOk P w (upd H a o) h' := fun b u e => by
  have hn := x.fresh hp
  by_cases hb : b = a
  · subst hb; rw [zo] at e; cases e; exact new
  · rw [zm hb] at e
    exact (x b u e).stay (fun c v _ q => k c v q) (fun c q => by rw [zm (zi q hn)]; exact q) fun c xs q => by rw [zm (zi q hn)]; exact q
end
noncomputable def Rd (H : Hp) (a : Addr) (u : HO) : Prop := H a = some u ∨ ∃ o, H a = some (.frz o u)
theorem Rd.ok {P : Program} {w : World} {H : Hp} {h : Heap} {a : Addr} {u : HO} (r : Rd H a u) (x : HOk P w H h) : yX P w H h a u := by
  rcases r with r | ⟨o, r⟩
  · exact x a u r
  · obtain ⟨_, q⟩ := x a _ r
    exact q
noncomputable def Mut : Option HO → Prop
  | some (.lst _) => True
  | some (.dK _) => True
  | some (.dT _) => True
  | some (.set _ _) => True
  | some (.ins _ _ _) => True
  | some (.ext _) => True
  | _ => False
section
variable {P : Program} {w : World} {H : Hp} {h h' : Heap} {x e : Addr} {o' : HO}
theorem HOk.write (ok : HOk P w H h) (mu : Mut (H x)) (he : e = x ∨ H e = some (.own x)) (k : ∀ b u, b ≠ e → h.get? b = some u → h'.get? b = some u) (heo : ∃ u, h'.get? e = some u)
    (new : yX P w (upd H x o') h' x o') : HOk P w (upd H x o') h' := fun b u q => by
  have nown : ∀ c y, H c = some (.own y) → c ≠ x := fun c y r z => by subst z; rw [r] at mu; exact mu
  have ntup : ∀ c xs, H c = some (.tup xs) → c ≠ x := fun c xs r z => by subst z; rw [r] at mu; exact mu
  by_cases hb : b = x
  · subst hb; rw [zo] at q; cases q; exact new
  · rw [zm hb] at q
    by_cases hbe : b = e
    · have q' : H b = some (.own x) := by
        rcases he with z | z
        · exact absurd (hbe.trans z) hb
        · rw [hbe]; exact z
      rw [q] at q'; cases q'
      obtain ⟨v, hv⟩ := heo
      exact ⟨v, by rw [hbe]; exact hv⟩
    · refine (ok b u q).stay (fun c v hc r => k c v ?_ r) (fun c r => by rw [zm (nown c b r)]; exact r) fun c xs r => by rw [zm (ntup c xs r)]; exact r
      rcases hc with rfl | hc
      · exact hbe
      · rintro rfl
        rcases he with z | z
        · exact nown c b hc z
        · rw [hc] at z; cases z; exact hb rfl
end
set_option genInjectivity false in
set_option genSizeOf false in
set_option genCtorIdx false in
structure Un (fs ex : List Addr) (H H' : Hp) (h h' : Heap) : Prop where
  keep : ∀ b o, h.get? b = some o → H b = none → b ∉ fs → b ∉ ex → h'.get? b = some o
  slot : ∀ b o, h.get? b = some o → H b = none → b ∈ fs → b ∉ ex → ∃ sl, h'.get? b = some { o with slots := sl }
  free : ∀ b o, h.get? b = some o → H b = none → b ∉ ex → H' b = none
  there : ∀ b o, h.get? b = some o → b ∉ ex → ∃ o', h'.get? b = some o'
  tups : ∀ b xs, H b = some (.tup xs) → H' b = some (.tup xs)
  frzs : ∀ b o u, H b = some (.frz o u) → H' b = some (.frz o u)
  tbls : ∀ b ps, H b = some (.tbl ps) → ∃ more, H' b = some (.tbl (ps ++ more))
section
variable {fs fs' ex ex' : List Addr} {H H1 H2 : Hp} {h h1 h2 h' : Heap} {a x e : Addr} {o : HO}
theorem Un.any (u : Un fs ex H H1 h h1) {b : Addr} {ob : Obj} (q : h.get? b = some ob) (n : H b = none) (hx : b ∉ ex) : ∃ sl, h1.get? b = some { ob with slots := sl } := by
  by_cases hb : b ∈ fs
  · exact u.slot b ob q n hb hx
  · exact ⟨ob.slots, u.keep b ob q n hb hx⟩
theorem Un.kept (k : ∀ b u, h.get? b = some u → h'.get? b = some u) : Un fs ex H H h h' :=
  ⟨fun b ob q _ _ _ => k b ob q, fun b ob q _ _ _ => ⟨ob.slots, k b ob q⟩, fun _ _ _ n _ => n, fun b ob q _ => ⟨ob, k b ob q⟩, fun _ _ q => q, fun _ _ _ q => q, fun _ ps q => ⟨#[], by rw [q]; simp⟩⟩
theorem Un.refl : Un fs ex H H h h := Un.kept fun _ _ q => q
theorem Un.laid (k : ∀ b u, h.get? b = some u → h'.get? b = some u) (hp : h.objs.size ≤ a) (hn : H a = none) : Un fs ex H (upd H a o) h h' where
  keep := fun b u q _ _ _ => k b u q
  slot := fun b u q _ _ _ => ⟨u.slots, k b u q⟩
  free := fun b u q n _ => by rw [zm (Nat.ne_of_lt (Nat.lt_of_lt_of_le (Heap.lt_size q) hp))]; exact n
  there := fun b u q _ => ⟨u, k b u q⟩
  tups := fun b xs q => by rw [zm (zi q hn)]; exact q
  frzs := fun b u xs q => by rw [zm (zi q hn)]; exact q
  tbls := fun b ps q => ⟨#[], by rw [zm (zi q hn), q]; simp⟩
theorem Un.write (mu : Mut (H x)) (he : e = x ∨ H e = some (.own x)) (k : ∀ b u, b ≠ e → h.get? b = some u → h'.get? b = some u) (heo : ∃ u, h'.get? e = some u) : Un fs ex H (upd H x o) h h' := by
  have hx : ∀ b, H b = none → b ≠ x := fun b n z => by subst z; rw [n] at mu; exact mu
  have hb : ∀ b, H b = none → b ≠ e := fun b n z => by
    subst z
    rcases he with r | r
    · exact hx b n r
    · rw [n] at r; cases r
  have hm : ∀ b u, H b = some u → ¬ Mut (some u) → b ≠ x := fun b u q nm z => by subst z; rw [q] at mu; exact nm mu
  refine ⟨fun b u q n _ _ => k b u (hb b n) q, fun b u q n _ _ => ⟨u.slots, k b u (hb b n) q⟩, fun b u q n _ => by rw [zm (hx b n)]; exact n, fun b u q _ => ?_,
    fun b xs q => by rw [zm (hm b _ q fun z => z)]; exact q, fun b u xs q => by rw [zm (hm b _ q fun z => z)]; exact q, fun b ps q => ⟨#[], by rw [zm (hm b _ q fun z => z), q]; simp⟩⟩
  by_cases hbe : b = e
  · subst hbe; exact heo
  · exact ⟨u, k b u hbe q⟩
end
noncomputable def trk (h : Heap) (H : Hp) : List Addr := (List.range h.objs.size).filter fun a => (H a).isSome
noncomputable def V4 (h : Heap) (H : Hp) : Heap := PySem.W.hideAll h (trk h H)
theorem Vz (h : Heap) (H : Hp) : (V4 h H).objs.size = h.objs.size := PySem.W.hideAll_size _ _
theorem V2 {h : Heap} {H : Hp} {b : Addr} {o : Obj} (e : h.get? b = some o) (n : H b = none) : (V4 h H).get? b = some o :=
  PySem.W.hideAll_get _ e fun hm => by
    have q : (H b).isSome = true := (List.mem_filter.mp hm).2
    rw [n] at q; simp at q
theorem za9 {h : Heap} {H : Hp} {b : Addr} {o : Obj} (e : (V4 h H).get? b = some o) : h.get? b = some o ∧ H b = none := by
  have e' : h.get? b = some o := PySem.W.of_hideAll (trk h H) e
  refine ⟨e', ?_⟩
  cases q : H b with
  | none => rfl
  | some x =>
    have hm : b ∈ trk h H := List.mem_filter.mpr ⟨List.mem_range.mpr (Heap.lt_size e'), by simp [q]⟩
    have z : (V4 h H).get? b = none := PySem.W.hideAll_none (trk h H) hm
    rw [z] at e; cases e
noncomputable def zbC (g h : Heap) (L : Addr) : List (Addr × Obj) := (List.range h.objs.size).filterMap fun a => if a = L ∨ (g.get? a).isSome = true then none else (h.get? a).map fun o => (a, o)
noncomputable def rest (g h : Heap) (L d : Addr) : List (Addr × Obj) := (zbC g h L).filter fun p => decide (p.1 ≠ d)
end L2
namespace L2
open PySem PySem.Spec PyProof.Rows
structure Mod (K : PySem.W.Frag) (mg : Str → Option Value) (base : Heap) : Prop where
  kin : K.In base
  glob : base.Ns mainGlobals mg
  blt : ∃ mb, base.Ns builtinsNs mb ∧ ∀ x : Str, x ≠ "__name__" → mb x = bootBuiltins x
  nolimit : base.NoLimit
structure Cx where
  prog : Program
  w : World
  K : PySem.W.Frag
  mg : Str → Option Value
  base : Heap
  A : Around
  N : List Str
  s₀ : Shared
  H₀ : Hp
  env : Env
  outer : List Env
  stack : List Env
  ex : List Addr
  fn : Str → Bool
  calm : Bool
  pn : List (Addr × Obj)
  xe : Value → Shared → Prop
noncomputable def frs (l : List Env) : List Addr := l.filterMap (·.frame)
noncomputable abbrev Cx.fs (X : Cx) : List Addr := frs X.outer
noncomputable def Vis (sc : Scope) (x : Str) : Prop := sc.names.lookup x = some .local ∨ sc.names.lookup x = some .cell ∨ sc.names.lookup x = some .free
noncomputable def Loc (sc : Scope) (x : Str) : Prop := sc.names.lookup x = some .local ∨ sc.names.lookup x = some .cell
noncomputable def Look (env : Env) (h : Heap) (m : Str → Option Value) (x : Str) (u : Value) : Prop :=
  (env.kindOf x = some .local ∧ m x = some u) ∨ ((env.kindOf x = some .cell ∨ env.kindOf x = some .free) ∧ ∃ c, env.cells.lookup x = some c ∧ h.IsCell c (some u))
set_option genInjectivity false in
set_option genSizeOf false in
set_option genCtorIdx false in
structure Cx.Ok (X : Cx) : Prop where
  mod : Mod X.K X.mg X.base
  kind : X.env.scope.kind = .function
  glob : X.env.globals = mainGlobals
  blt : X.env.builtins = builtinsNs
  above : X.s₀.heap.objs.size ≤ X.env.locals
  inj : ∀ x y c, X.env.cells.lookup x = some c → X.env.cells.lookup y = some c → x = y
  has : ∀ x, (X.env.kindOf x = some .cell ∨ X.env.kindOf x = some .free) → ∃ c, X.env.cells.lookup x = some c
  cab : ∀ x c, X.fn x = true → X.env.cells.lookup x = some c → X.s₀.heap.objs.size ≤ c
  hd : X.calm = true → X.A.handled = none
  frames : X.A.frames = some X.stack
  stk : X.stack = X.outer ∨ (X.stack = X.env :: X.outer ∧ X.env.frame = some X.env.locals)
  exf : ∀ b ∈ X.ex, b ≠ X.env.locals ∧ ∀ x c, X.env.cells.lookup x = some c → c ≠ b
  bs : ∀ b o, X.base.get? b = some o → X.s₀.heap.get? b = some o ∧ X.H₀ b = none
  bsz : X.base.objs.size ≤ X.s₀.heap.objs.size
  noex : ∀ b o, X.base.get? b = some o → b ∉ X.ex
  exfs : ∀ b ∈ X.ex, b ∉ X.fs
  funs : X.s₀.heap.FunFrames X.base X.outer
  frf : ∀ b ∈ X.fs, X.H₀ b = none
set_option genInjectivity false in
set_option genSizeOf false in
set_option genCtorIdx false in
structure Inv (X : Cx) (pins : List (Addr × Obj)) (σ : List (Option V)) (H : Hp) (s : Shared) : Prop where
  ok : X.Ok
  os : s.os = X.s₀.os
  bare : AllBare s.gens
  base : Un X.fs X.ex X.H₀ H X.s₀.heap s.heap
  loc : ∃ m, s.heap.Ns X.env.locals m ∧ ∀ (i : Nat) (x : Str) (v : V), X.N[i]? = some x → σ[i]? = some (some v) → Vis X.env.scope x → ∃ u, yP v u ∧ Look X.env s.heap m x u
  cell : ∀ x c, X.env.cells.lookup x = some c → ∃ v, s.heap.IsCell c v
  free : H X.env.locals = none
  freeC : ∀ x c, X.env.cells.lookup x = some c → H c = none
  pin : ∀ p ∈ X.pn ++ pins, s.heap.get? p.1 = some p.2 ∧ H p.1 = none ∧ p.1 ≠ X.env.locals ∧ p.1 ∉ X.fs ∧ ∀ v, p.2.data ≠ .cell v
  hok : HOk X.prog X.w H s.heap
  len : σ.length = X.N.length
section
variable {X : Cx} {pins : List (Addr × Obj)} {σ : List (Option V)} {H H' : Hp} {s : Shared} {h' : Heap}
theorem Cx.Ok.nofr (ok : X.Ok) {b : Addr} {o : Obj} (e : X.base.get? b = some o) : b ∉ X.fs := fun hb => by
  have := (ok.funs.mem hb).1
  rw [e] at this; cases this
theorem Inv.bs (I : Inv X pins σ H s) : ∀ b o, X.base.get? b = some o → s.heap.get? b = some o ∧ H b = none := fun b o e =>
  ⟨I.base.keep b o (I.ok.bs b o e).1 (I.ok.bs b o e).2 (I.ok.nofr e) (I.ok.noex b o e), I.base.free b o (I.ok.bs b o e).1 (I.ok.bs b o e).2 (I.ok.noex b o e)⟩
theorem Inv.bk (I : Inv X pins σ H s) : ∀ b o, X.base.get? b = some o → s.heap.get? b = some o := fun b o e => (I.bs b o e).1
theorem Inv.mod (I : Inv X pins σ H s) : Mod X.K X.mg X.base := I.ok.mod
theorem Inv.kIn (I : Inv X pins σ H s) : X.K.In s.heap := I.ok.mod.kin.keeps I.bk
theorem Inv.fr (I : Inv X pins σ H s) : ∃ m, Fr X.base X.env.locals s.heap m :=
  let ⟨m, hn, _⟩ := I.loc
  ⟨m, hn, I.bk, Nat.le_trans I.ok.bsz I.ok.above⟩
theorem Inv.lt (I : Inv X pins σ H s) : X.env.locals < s.heap.objs.size := let ⟨_, hn, _⟩ := I.loc; hn.lt
theorem Inv.sz (I : Inv X pins σ H s) : X.s₀.heap.objs.size ≤ s.heap.objs.size := Nat.le_trans I.ok.above (Nat.le_of_lt I.lt)
theorem Inv.nofs (I : Inv X pins σ H s) {a : Addr} (h : s.heap.objs.size ≤ a) : a ∉ X.fs := fun hb => by
  obtain ⟨_, o, ho, _⟩ := I.ok.funs.mem hb
  exact absurd (Nat.lt_of_lt_of_le (Heap.lt_size ho) (Nat.le_trans I.sz h)) (Nat.lt_irrefl _)
theorem Inv.cne (I : Inv X pins σ H s) : ∀ x c, X.env.cells.lookup x = some c → c ≠ X.env.locals := fun x c e z => by
  obtain ⟨v, o, ho, hd⟩ := I.cell x c e
  obtain ⟨m, ⟨o', es, ep, ho', hd', _⟩, _⟩ := I.loc
  rw [z, ho'] at ho; cases ho; rw [hd'] at hd; cases hd
theorem Inv.funs (I : Inv X pins σ H s) : s.heap.FunFrames X.base X.outer := by
  have all : ∀ (l : List Env), (∀ b ∈ frs l, b ∈ X.fs) → X.s₀.heap.FunFrames X.base l → s.heap.FunFrames X.base l := by
    intro l
    induction l with
    | nil => intro _ _; trivial
    | cons env r ih =>
      intro hs hl
      obtain ⟨hk, ⟨L, o, hf, hn, ho, hd⟩, hr⟩ := hl
      have hL : L ∈ X.fs := hs L (by unfold frs; rw [List.filterMap_cons, hf]; exact List.mem_cons_self)
      obtain ⟨sl, e⟩ := I.base.slot L o ho (I.ok.frf L hL) hL fun z => I.ok.exfs L z hL
      exact ⟨hk, ⟨L, _, hf, hn, e, hd⟩, ih (fun b hb => hs b (by unfold frs; rw [List.filterMap_cons, hf]; exact List.mem_cons_of_mem _ hb)) hr⟩
  exact all X.outer (fun _ hb => hb) I.ok.funs
theorem Inv.stack (I : Inv X pins σ H s) : s.heap.FunFrames X.base X.stack := by
  rcases I.ok.stk with e | ⟨e, hf⟩
  · rw [e]; exact I.funs
  · rw [e]
    obtain ⟨m, hn, _⟩ := I.loc
    refine .cons (by rw [I.ok.kind]; decide) hf hn ?_ I.funs
    exact Heap.get?_none_of_le (Nat.le_trans I.ok.bsz I.ok.above)
theorem Inv.stkSub (I : Inv X pins σ H s) : ∀ b ∈ frs X.stack, b ∈ X.env.locals :: X.fs := fun b hb => by
  rcases I.ok.stk with e | ⟨e, hf⟩
  · rw [e] at hb; exact List.mem_cons_of_mem _ hb
  · rw [e] at hb
    unfold frs at hb
    rw [List.filterMap_cons, hf] at hb
    exact hb
theorem Inv.stkFree (I : Inv X pins σ H s) : ∀ b ∈ frs X.stack, H b = none := fun b hb => by
  rcases List.mem_cons.mp (I.stkSub b hb) with e | hb
  · rw [e]; exact I.free
  · obtain ⟨_, o, ho, _⟩ := I.ok.funs.mem hb
    exact I.base.free b o ho (I.ok.frf b hb) fun z => I.ok.exfs b z hb
theorem Inv.step {g' : Array GenState} {t' : Nat} {d' : Drawn} {ch : List Addr} (I : Inv X pins σ H s)
    (hch : ∀ b ∈ ch, (b ∈ X.ex ∨ X.s₀.heap.objs.size ≤ b) ∧ b ≠ X.env.locals ∧ (∀ x c, X.env.cells.lookup x = some c → c ≠ b) ∧ ∀ p ∈ X.pn ++ pins, p.1 ≠ b)
    (keep : ∀ b o, b ≠ X.env.locals → b ∉ X.fs → b ∉ ch → s.heap.get? b = some o → H b = none → h'.get? b = some o)
    (slot : ∀ b o, b ≠ X.env.locals → b ∈ X.fs → b ∉ ch → s.heap.get? b = some o → H b = none → ∃ sl, h'.get? b = some { o with slots := sl }) (free : ∀ b o, b ∉ ch → s.heap.get? b = some o → H b = none → H' b = none)
    (there : ∀ b o, b ∉ ch → s.heap.get? b = some o → ∃ o', h'.get? b = some o')
    (tups : ∀ b xs, H b = some (.tup xs) → H' b = some (.tup xs)) (frzs : ∀ b o u, H b = some (.frz o u) → H' b = some (.frz o u)) (tbls : ∀ b ps, H b = some (.tbl ps) → ∃ more, H' b = some (.tbl (ps ++ more)))
    (ns : ∀ m, s.heap.Ns X.env.locals m → h'.Ns X.env.locals m) (hok : HOk X.prog X.w H' h') (hg : AllBare g') :
    Inv X pins σ H' { s with heap := h', gens := g', drawn := d', toks := t' } := by
  have neL : ∀ b o, X.s₀.heap.get? b = some o → b ≠ X.env.locals := fun b o e => Nat.ne_of_lt (Nat.lt_of_lt_of_le (Heap.lt_size e) I.ok.above)
  have neC : ∀ b o, X.s₀.heap.get? b = some o → b ∉ X.ex → b ∉ ch := fun b o e hx hb => by
    rcases (hch b hb).1 with z | z
    · exact hx z
    · exact absurd (Nat.lt_of_lt_of_le (Heap.lt_size e) z) (Nat.lt_irrefl _)
  have cellK : ∀ x c, X.env.cells.lookup x = some c → ∀ v, s.heap.IsCell c v → h'.IsCell c v := fun x c e v ⟨o, ho, hd⟩ => by
    have nch : c ∉ ch := fun z => (hch c z).2.2.1 x c e rfl
    by_cases hc : c ∈ X.fs
    · obtain ⟨sl, q⟩ := slot c o (I.cne x c e) hc nch ho (I.freeC x c e)
      exact ⟨_, q, hd⟩
    · exact ⟨o, keep c o (I.cne x c e) hc nch ho (I.freeC x c e), hd⟩
  refine ⟨I.ok, I.os, hg, ⟨fun b o e n hb hx => ?_, fun b o e n hb hx => ?_, fun b o e n hx => ?_, fun b o e hx => ?_, fun b xs e => tups b xs (I.base.tups b xs e), fun b o xs e => frzs b o xs (I.base.frzs b o xs e), fun b ps e => ?_⟩, ?_, fun x c e => ?_, ?_, fun x c e => ?_, fun p hp => ?_, hok, I.len⟩
  · exact keep b o (neL b o e) hb (neC b o e hx) (I.base.keep b o e n hb hx) (I.base.free b o e n hx)
  · obtain ⟨sl, e1⟩ := I.base.slot b o e n hb hx
    obtain ⟨sl', e2⟩ := slot b _ (neL b o e) hb (neC b o e hx) e1 (I.base.free b o e n hx)
    exact ⟨sl', e2⟩
  · obtain ⟨o', e1⟩ := I.base.there b o e hx
    exact free b o' (neC b o e hx) e1 (I.base.free b o e n hx)
  · obtain ⟨o', e1⟩ := I.base.there b o e hx
    exact there b o' (neC b o e hx) e1
  · obtain ⟨m1, e1⟩ := I.base.tbls b ps e
    obtain ⟨m2, e2⟩ := tbls b _ e1
    exact ⟨m1 ++ m2, by rw [e2, Array.append_assoc]⟩
  · obtain ⟨m, hn, hl⟩ := I.loc
    refine ⟨m, ns m hn, fun i x v e1 e2 e3 => ?_⟩
    obtain ⟨u, r, l⟩ := hl i x v e1 e2 e3
    refine ⟨u, r, ?_⟩
    rcases l with l | ⟨k, c, e, z⟩
    · exact .inl l
    · exact .inr ⟨k, c, e, cellK x c e _ z⟩
  · obtain ⟨v, z⟩ := I.cell x c e
    exact ⟨v, cellK x c e v z⟩
  · obtain ⟨m, ⟨o, _, _, ho, _⟩, _⟩ := I.loc
    exact free _ o (fun z => (hch _ z).2.1 rfl) ho I.free
  · obtain ⟨v, o, ho, hd⟩ := I.cell x c e
    exact free c o (fun z => (hch c z).2.2.1 x c e rfl) ho (I.freeC x c e)
  · obtain ⟨e, n, ne, nf, d⟩ := I.pin p hp
    have nch : p.1 ∉ ch := fun z => (hch p.1 z).2.2.2 p hp rfl
    exact ⟨keep p.1 p.2 ne nf nch e n, free p.1 p.2 nch e n, ne, nf, d⟩
theorem Inv.un {t' : Nat} (I : Inv X pins σ H s) (u : Un X.fs [] H H' s.heap h') (hok : HOk X.prog X.w H' h') : Inv X pins σ H' { s with heap := h', toks := t' } := by
  obtain ⟨m, ⟨o, es, ep, ho, r⟩, _⟩ := id I.loc
  obtain ⟨sl, hL⟩ := u.any ho I.free (by simp)
  exact I.step (g' := s.gens) (d' := s.drawn) (ch := []) (fun _ z => nomatch z) (fun b o _ hb _ e n => u.keep b o e n hb (by simp)) (fun b o _ hb _ e n => u.slot b o e n hb (by simp)) (fun b o _ e n => u.free b o e n (by simp)) (fun b o _ e => u.there b o e (by simp)) u.tups u.frzs u.tbls (fun m' hm => by
    obtain ⟨o', es', ep', ho', r'⟩ := hm
    rw [ho] at ho'; cases ho'
    exact ⟨_, es', ep', hL, r'⟩) hok I.bare
theorem Inv.call {g' : Array GenState} {t' : Nat} {d' : Drawn} {ch : List Addr} (I : Inv X pins σ H s) (u : Un (frs X.stack) ch H H' s.heap h') (hok : HOk X.prog X.w H' h') (hg : AllBare g')
    (hch : ∀ b ∈ ch, (b ∈ X.ex ∨ X.s₀.heap.objs.size ≤ b) ∧ b ≠ X.env.locals ∧ (∀ x c, X.env.cells.lookup x = some c → c ≠ b) ∧ ∀ p ∈ X.pn ++ pins, p.1 ≠ b) :
    Inv X pins σ H' { s with heap := h', gens := g', drawn := d', toks := t' } := by
  obtain ⟨m, ⟨o, es, ep, ho, r⟩, _⟩ := id I.loc
  obtain ⟨sl, hL⟩ := u.any ho I.free fun z => (hch _ z).2.1 rfl
  exact I.step (ch := ch) hch (fun b o hL hb hc e n => u.keep b o e n (fun z => (List.mem_cons.mp (I.stkSub b z)).elim hL hb) hc) (fun b o _ _ hc e n => u.any e n hc) (fun b o hc e n => u.free b o e n hc) (fun b o hc e => u.there b o e hc) u.tups u.frzs u.tbls (fun m' hm => by
    obtain ⟨o', es', ep', ho', r'⟩ := hm
    rw [ho] at ho'; cases ho'
    exact ⟨_, es', ep', hL, r'⟩) hok hg
theorem Inv.turned {t' : Nat} {it : Addr} (I : Inv X pins σ H s) (k : ∀ b o, b ≠ it → s.heap.get? b = some o → h'.get? b = some o) (hn : H it = none) (hL : it ≠ X.env.locals)
    (h1 : it ∈ X.ex ∨ X.s₀.heap.objs.size ≤ it) (h2 : ∀ x c, X.env.cells.lookup x = some c → c ≠ it) (h3 : ∀ p ∈ X.pn ++ pins, p.1 ≠ it) : Inv X pins σ H { s with heap := h', toks := t' } := by
  have nit : ∀ b u, H b = some u → b ≠ it := fun b u e z => by rw [z, hn] at e; cases e
  refine I.step (g' := s.gens) (d' := s.drawn) (ch := [it]) (fun b hb => ?_) (fun b o _ _ hc e _ => k b o (fun z => hc (by simp [z])) e) (fun b o _ _ hc e _ => ⟨o.slots, k b o (fun z => hc (by simp [z])) e⟩) (fun _ _ _ _ n => n)
    (fun b o hc e => ⟨o, k b o (fun z => hc (by simp [z])) e⟩) (fun _ _ e => e) (fun _ _ _ e => e) (fun b ps e => ⟨#[], by rw [e]; simp⟩) (fun m hm => ?_) (fun b u e => ?_) I.bare
  · have e : b = it := by simpa using hb
    subst e
    exact ⟨h1, hL, h2, h3⟩
  · obtain ⟨o, es, ep, ho, r⟩ := hm
    exact ⟨o, es, ep, k _ o (Ne.symm hL) ho, r⟩
  · refine (I.hok b u e).stay (fun c v hc q => k c v ?_ q) (fun _ q => q) fun _ _ q => q
    rcases hc with z | z
    · rw [z]; exact nit b u e
    · exact nit c _ z
theorem Inv.tok (I : Inv X pins σ H s) (t : Nat) : Inv X pins σ H { s with toks := t } := I.un (h' := s.heap) (t' := t) Un.refl I.hok
theorem Inv.kept {t' : Nat} (I : Inv X pins σ H s) (k : ∀ b u, s.heap.get? b = some u → h'.get? b = some u) : Inv X pins σ H { s with heap := h', toks := t' } := I.un (Un.kept k) (I.hok.kept k)
theorem Inv.laid {a : Addr} {o : HO} {t' : Nat} (I : Inv X pins σ H s) (k : ∀ b u, s.heap.get? b = some u → h'.get? b = some u) (hp : s.heap.objs.size ≤ a) (new : yX X.prog X.w (upd H a o) h' a o) :
    Inv X pins σ (upd H a o) { s with heap := h', toks := t' } := I.un (Un.laid k hp (I.hok.fresh hp)) (I.hok.laid k hp new)
theorem Inv.write {x e : Addr} {o : HO} {t' : Nat} (I : Inv X pins σ H s) (mu : Mut (H x)) (he : e = x ∨ H e = some (.own x)) (k : ∀ b u, b ≠ e → s.heap.get? b = some u → h'.get? b = some u) (heo : ∃ u, h'.get? e = some u)
    (new : yX X.prog X.w (upd H x o) h' x o) : Inv X pins σ (upd H x o) { s with heap := h', toks := t' } := I.un (Un.write mu he k heo) (I.hok.write mu he k heo new)
theorem Inv.weak {σ' : List (Option V)} (I : Inv X pins σ H s) (hl : σ'.length = σ.length) (w : ∀ (i : Nat) v, σ'[i]? = some (some v) → σ[i]? = some (some v)) : Inv X pins σ' H s :=
  ⟨I.ok, I.os, I.bare, I.base, let ⟨m, hn, hl'⟩ := I.loc; ⟨m, hn, fun i x v e1 e2 e3 => hl' i x v e1 (w i v e2) e3⟩, I.cell, I.free, I.freeC, I.pin, I.hok, hl.trans I.len⟩
theorem Inv.pins_of {pins' : List (Addr × Obj)} (I : Inv X pins σ H s) (h : ∀ p ∈ pins', s.heap.get? p.1 = some p.2 ∧ H p.1 = none ∧ p.1 ≠ X.env.locals ∧ p.1 ∉ X.fs ∧ ∀ v, p.2.data ≠ .cell v) : Inv X pins' σ H s :=
  ⟨I.ok, I.os, I.bare, I.base, I.loc, I.cell, I.free, I.freeC, fun p hp => (List.mem_append.mp hp).elim (fun z => I.pin p (List.mem_append_left _ z)) (h p), I.hok, I.len⟩
theorem YL {N : List Str} (hN : N.Nodup) {i j : Nat} {x : Str} (a : N[i]? = some x) (b : N[j]? = some x) : i = j := by
  obtain ⟨h1, e1⟩ := List.getElem?_eq_some_iff.mp a
  obtain ⟨h2, e2⟩ := List.getElem?_eq_some_iff.mp b
  exact (List.getElem_inj hN).mp (e1.trans e2.symm)
theorem W3 {M : Model} {A : Around} {E : Value → Shared → Prop} {i : Nat} {x : Str} {v : V} {u : Value} {Q : Unit → Shared → Prop} (I : Inv X pins σ H s) (hN : X.N.Nodup) (hi : X.N[i]? = some x) (hx : Loc X.env.scope x) (r : yP v u)
    (h : ∀ s', Inv X pins (σ.set i (some v)) H s' → (∃ a, Heap.SameBut a s.heap s'.heap ∧ (a = X.env.locals ∨ X.env.cells.lookup x = some a)) → Q () s') (hf : X.fn x = true ∨ X.env.scope.names.lookup x = some .local := by first | exact .inl rfl | exact .inr rfl | assumption) : wpAny M A (storeName X.env x u) Q E s := by
  obtain ⟨m, hn, hl⟩ := id I.loc
  have hcls : (X.env.scope.kind == .class || (X.env.scope.kind == .module && X.env.locals != X.env.globals)) = false := by rw [I.ok.kind]; rfl
  have hiσ : i < σ.length := by rw [I.len]; exact (List.getElem?_eq_some_iff.mp hi).1
  have cne := I.cne
  have tracked : ∀ {a : Addr} {h' : Heap}, (∃ o, s.heap.get? a = some o ∧ H a = none) → Heap.SameBut a s.heap h' → HOk X.prog X.w H h' := fun {a h'} ha hs b ob e => by
    obtain ⟨_, _, hfree⟩ := ha
    refine (I.hok b ob e).stay (fun c w' hc q => (hs.2 c ?_).trans q) (fun _ q => q) fun _ _ q => q
    rintro rfl
    rcases hc with rfl | hc
    · rw [hfree] at e; cases e
    · rw [hfree] at hc; cases hc
  rcases hx with hk | hk
  · refine wpAny_storeName_local hk hn (fun h' hn' hs => ?_) hcls
    obtain ⟨oL, _, _, hoL, _⟩ := id hn
    refine h _ ⟨I.ok, I.os, I.bare, ⟨fun b o e n hb hx => ?_, fun b o e n hb hx => ?_, I.base.free, fun b o e hx => ?_, I.base.tups, I.base.frzs, I.base.tbls⟩, ⟨_, hn', fun j y v' e1 e2 e3 => ?_⟩, fun y c e => ?_, I.free, I.freeC, fun p hp => ?_, tracked ⟨oL, hoL, I.free⟩ hs, by simpa using I.len⟩ ⟨_, hs, .inl rfl⟩
    · exact (hs.2 b (Nat.ne_of_lt (Nat.lt_of_lt_of_le (Heap.lt_size e) I.ok.above))).trans (I.base.keep b o e n hb hx)
    · obtain ⟨sl, e1⟩ := I.base.slot b o e n hb hx
      exact ⟨sl, (hs.2 b (Nat.ne_of_lt (Nat.lt_of_lt_of_le (Heap.lt_size e) I.ok.above))).trans e1⟩
    · obtain ⟨o', e1⟩ := I.base.there b o e hx
      exact ⟨o', (hs.2 b (Nat.ne_of_lt (Nat.lt_of_lt_of_le (Heap.lt_size e) I.ok.above))).trans e1⟩
    · by_cases hj : j = i
      · subst hj
        rw [hi] at e1; cases e1
        rw [List.getElem?_set_self hiσ] at e2
        cases e2
        exact ⟨u, r, .inl ⟨hk, by simp⟩⟩
      · rw [List.getElem?_set_ne (Ne.symm hj)] at e2
        obtain ⟨u', r', q⟩ := hl j y v' e1 e2 e3
        refine ⟨u', r', ?_⟩
        rcases q with ⟨k, e⟩ | ⟨k, c, e, z⟩
        · refine .inl ⟨k, ?_⟩
          have : y ≠ x := fun e => hj (YL hN e1 (e ▸ hi))
          simp [this, e]
        · exact .inr ⟨k, c, e, z.sameBut hs (cne y c e)⟩
    · obtain ⟨w', z⟩ := I.cell y c e
      exact ⟨w', z.sameBut hs (cne y c e)⟩
    · obtain ⟨e, n, ne, nf, d⟩ := I.pin p hp
      exact ⟨(hs.2 p.1 ne).trans e, n, ne, nf, d⟩
  · have hfn : X.fn x = true := by
      rcases hf with z | z
      · exact z
      · rw [z] at hk; cases hk
    obtain ⟨c, hc⟩ := I.ok.has x (.inl hk)
    obtain ⟨w', z⟩ := I.cell x c hc
    refine wpAny_storeName_cell I.ok.kind hk hc z (fun h' hc' hs => ?_)
    obtain ⟨oc, hoc, hocd⟩ := id z
    refine h { s with heap := h' } ⟨I.ok, I.os, I.bare, ⟨fun b o e n hb hx => ?_, fun b o e n hb hx => ?_, I.base.free, fun b o e hx => ?_, I.base.tups, I.base.frzs, I.base.tbls⟩, ⟨m, hn.sameBut hs (Ne.symm (cne x c hc)), fun j y v' e1 e2 e3 => ?_⟩, fun y c' e => ?_, I.free, I.freeC, fun p hp => ?_, tracked ⟨oc, hoc, I.freeC x c hc⟩ hs, by simpa using I.len⟩ ⟨c, hs, .inr hc⟩
    · exact (hs.2 b (Nat.ne_of_lt (Nat.lt_of_lt_of_le (Heap.lt_size e) (I.ok.cab x c hfn hc)))).trans (I.base.keep b o e n hb hx)
    · obtain ⟨sl, e1⟩ := I.base.slot b o e n hb hx
      exact ⟨sl, (hs.2 b (Nat.ne_of_lt (Nat.lt_of_lt_of_le (Heap.lt_size e) (I.ok.cab x c hfn hc)))).trans e1⟩
    · obtain ⟨o', e1⟩ := I.base.there b o e hx
      exact ⟨o', (hs.2 b (Nat.ne_of_lt (Nat.lt_of_lt_of_le (Heap.lt_size e) (I.ok.cab x c hfn hc)))).trans e1⟩
    · by_cases hj : j = i
      · subst hj
        rw [hi] at e1; cases e1
        rw [List.getElem?_set_self hiσ] at e2
        cases e2
        exact ⟨u, r, .inr ⟨.inl hk, c, hc, hc'⟩⟩
      · rw [List.getElem?_set_ne (Ne.symm hj)] at e2
        obtain ⟨u', r', q⟩ := hl j y v' e1 e2 e3
        refine ⟨u', r', ?_⟩
        rcases q with q | ⟨k, c', e, z'⟩
        · exact .inl q
        · refine .inr ⟨k, c', e, z'.sameBut hs ?_⟩
          rintro rfl
          exact hj (YL hN e1 (I.ok.inj _ _ _ e hc ▸ hi))
    · by_cases hcc : c' = c
      · subst hcc; exact ⟨_, hc'⟩
      · obtain ⟨w2, z2⟩ := I.cell y c' e
        exact ⟨w2, z2.sameBut hs hcc⟩
    · obtain ⟨e, n, ne, nf, d⟩ := I.pin p hp
      refine ⟨(hs.2 p.1 ?_).trans e, n, ne, nf, d⟩
      intro q
      rw [q, hoc] at e
      have q' : oc = p.2 := Option.some.inj e
      exact d w' (by rw [← q']; exact hocd)
theorem Yy {M : Model} {A : Around} {E : Value → Shared → Prop} {i : Nat} {x : Str} {v : V} {u : Value} {Q : Unit → Shared → Prop} (I : Inv X pins σ H s) (hN : X.N.Nodup) (hi : X.N[i]? = some x) (hx : Loc X.env.scope x) (r : yP v u)
    (h : ∀ s', Inv X pins (σ.set i (some v)) H s' → Q () s') (hf : X.fn x = true ∨ X.env.scope.names.lookup x = some .local := by first | exact .inl rfl | exact .inr rfl | assumption) : wpAny M A (storeName X.env x u) Q E s :=
  W3 I hN hi hx r (fun s' I' _ => h s' I') hf
theorem Inv.call' {s' : Shared} {ch : List Addr} (I : Inv X pins σ H s) (ho : s'.os = s.os) (u : Un (frs X.stack) ch H H' s.heap s'.heap) (hok : HOk X.prog X.w H' s'.heap) (hg : AllBare s'.gens)
    (hch : ∀ b ∈ ch, (b ∈ X.ex ∨ X.s₀.heap.objs.size ≤ b) ∧ b ≠ X.env.locals ∧ (∀ x c, X.env.cells.lookup x = some c → c ≠ b) ∧ ∀ p ∈ X.pn ++ pins, p.1 ≠ b) : Inv X pins σ H' s' := by
  obtain ⟨h', g', d', t', o'⟩ := s'
  have e : o' = s.os := ho
  subst e
  exact I.call (g' := g') (t' := t') (d' := d') u hok hg hch
end
noncomputable abbrev XK := Value → Option Addr → Hp → Prop
noncomputable abbrev St := List (Option V)
noncomputable abbrev VK := V → Hp → Prop
noncomputable abbrev TE := St → Hp → VK → Prop
noncomputable abbrev TT := St → Hp → (Bool → Hp → Prop) → Prop
noncomputable abbrev TA := St → Hp → (List V → Hp → Prop) → Prop
structure ZI where
  nx : St → Hp → Prop
  rt : VK
  bk : St → Hp → Prop := fun _ _ => False
  ct : St → Hp → Prop := fun _ _ => False
noncomputable abbrev TS := ZI → St → Hp → Prop
noncomputable def EP (X : Cx) (pins : List (Addr × Obj)) (σ : St) (Q : VK) (u : Value) (s' : Shared) : Prop := ∃ v H', Inv X pins σ H' s' ∧ yP v u ∧ Q v H'
noncomputable def TP (X : Cx) (pins : List (Addr × Obj)) (σ : St) (Q : Bool → Hp → Prop) (b : Bool) (s' : Shared) : Prop := ∃ H', Inv X pins σ H' s' ∧ Q b H'
noncomputable def AP (X : Cx) (pins : List (Addr × Obj)) (σ : St) (Q : List V → Hp → Prop) (us : List Value) (s' : Shared) : Prop := ∃ vs H', Inv X pins σ H' s' ∧ yd vs us ∧ Q vs H'
noncomputable def SP (X : Cx) (pins : List (Addr × Obj)) (D : ZI) (f : Flow) (s' : Shared) : Prop :=
  match f with
  | .next => ∃ σ' H', Inv X pins σ' H' s' ∧ D.nx σ' H'
  | .brk => ∃ σ' H', Inv X pins σ' H' s' ∧ D.bk σ' H'
  | .cont => ∃ σ' H', Inv X pins σ' H' s' ∧ D.ct σ' H'
  | .ret u => ∃ v σ' H', Inv X pins σ' H' s' ∧ yP v u ∧ D.rt v H'
noncomputable def PE (X : Cx) (e : Expr) (t : TE) : Prop :=
  ∀ (pins : List (Addr × Obj)) (s : Shared) (σ : St) (H : Hp) (Q : VK), Inv X pins σ H s → t σ H Q → wpAny (model X.prog X.w) X.A (eval e X.env) (EP X pins σ Q) X.xe s
noncomputable def PT (X : Cx) (e : Expr) (t : TT) : Prop :=
  ∀ (pins : List (Addr × Obj)) (s : Shared) (σ : St) (H : Hp) (Q : Bool → Hp → Prop), Inv X pins σ H s → t σ H Q → wpAny (model X.prog X.w) X.A (isTrue e X.env (eval e X.env)) (TP X pins σ Q) X.xe s
noncomputable def PW (X : Cx) (e : Expr) (t : TT) : Prop :=
  ∀ (whole : Sem Value) (pins : List (Addr × Obj)) (s : Shared) (σ : St) (H : Hp) (Q : Bool → Hp → Prop), Inv X pins σ H s → t σ H Q → wpAny (model X.prog X.w) X.A (isTrue e X.env whole) (TP X pins σ Q) X.xe s
theorem PW.pt {X : Cx} {e : Expr} {t : TT} (h : PW X e t) : PT X e t := h _
noncomputable def PA (X : Cx) (es : List Expr) (t : TA) : Prop :=
  ∀ (pos : Pos) (pins : List (Addr × Obj)) (s : Shared) (σ : St) (H : Hp) (Q : List V → Hp → Prop), Inv X pins σ H s → t σ H Q → wpAny (model X.prog X.w) X.A (spliced (backTo pos (starEach es X.env))) (AP X pins σ Q) X.xe s
noncomputable def PS (X : Cx) (st : Stmt) (t : TS) : Prop :=
  ∀ (pins : List (Addr × Obj)) (s : Shared) (σ : St) (H : Hp) (D : ZI), Inv X pins σ H s → t D σ H → wpAny (model X.prog X.w) X.A (exec st X.env) (SP X pins D) X.xe s
noncomputable def PSs (X : Cx) (st : List Stmt) (t : TS) : Prop :=
  ∀ (pins : List (Addr × Obj)) (s : Shared) (σ : St) (H : Hp) (D : ZI), Inv X pins σ H s → t D σ H → wpAny (model X.prog X.w) X.A (execs st X.env) (SP X pins D) X.xe s
theorem thn {α : Type} {t : Sem α} {Q Q' : α → Shared → Prop} {M : Model} {A : Around} {E : Value → Shared → Prop} {s : Shared} (h : wpAny M A t Q E s) (hQ : ∀ a s, Q a s → Q' a s) : wpAny M A t Q' E s := wpAny_mono h hQ fun _ _ x => x
end L2
namespace L2
open PySem PySem.Spec PyProof.Rows
section
variable {X : Cx}
theorem bin {a b : Expr} {ta tb : TE} (ha : PE X a ta) (hb : PE X b tb) {pins : List (Addr × Obj)} {s : Shared} {σ : St} {H : Hp} {R : V → V → Hp → Prop} (I : Inv X pins σ H s) (h : ta σ H fun x H1 => tb σ H1 fun y H2 => R x y H2)
    {α : Type} {Q : α → Shared → Prop} {f : Value → Value → Sem α}
    (hf : ∀ v u s2 x y H2, Inv X pins σ H2 s2 → yP x v → yP y u → R x y H2 → wpAny (model X.prog X.w) X.A (f v u) Q X.xe s2) :
    wpAny (model X.prog X.w) X.A (eval a X.env) (fun v s₁ => wpAny (model X.prog X.w) X.A (eval b X.env) (fun u s₂ => wpAny (model X.prog X.w) X.A (f v u) Q X.xe s₂) X.xe s₁) X.xe s := by
  refine thn (ha pins s σ H _ I h) fun v s1 hh9 => ?_
  obtain ⟨x, H1, I1, r1, q1⟩ := hh9
  refine thn (hb pins s1 σ H1 _ I1 q1) fun u s2 hh9 => ?_
  obtain ⟨y, H2, I2, r2, q2⟩ := hh9
  exact hf v u s2 x y H2 I2 r1 r2 q2
noncomputable def XU (i : Nat) : TE := fun σ H Q => ∃ v, σ[i]? = some (some v) ∧ Q v H
noncomputable def tC (v : V) : TE := fun _ H Q => Q v H
theorem zb2 {i : Nat} {x : Str} {pos : Pos} (hN : X.N[i]? = some x) (hv : Vis X.env.scope x) (hd : (x == ("__debug__" : Str)) = false := by decide) (hcd : (x == ("__classdict__" : Str)) = false := by decide) : PE X (.Name x pos) (XU i) := by
  intro pins s σ H Q I h
  obtain ⟨v, e, h⟩ := h
  obtain ⟨m, hn, hl⟩ := I.loc
  obtain ⟨u, r, l⟩ := hl i x v hN e hv
  have fin : EP X pins σ Q u s := ⟨v, H, I, r, h⟩
  rcases l with ⟨hk, hm⟩ | ⟨hk, c, hc, hcell⟩
  · exact wpAny_Name (wpAny_loadName_local I.ok.kind hk hn hm fin) hd
  · rcases hk with hk | hk
    · exact wpAny_Name (wpAny_loadName_cell I.ok.kind hk hc hcell fin) hd
    · exact wpAny_Name (wpAny_loadName_free I.ok.kind hk hc hcell fin hcd) hd
theorem ze {i j pos} : PE X (.Constant (.int i) j pos) (tC (.int i)) := fun _ _ _ H _ I h => wpAny_Constant_int ⟨.int i, H, I.tok _, ⟨_, rfl⟩, h⟩
theorem x5 {b j pos} : PE X (.Constant (.bool b) j pos) (tC (.bl b)) := fun _ _ _ H _ I h => Constant_bool ⟨.bl b, H, I, rfl, h⟩
theorem vp {j pos} : PE X (.Constant .none j pos) (tC .non) := fun _ _ _ H _ I h => Constant_none ⟨.non, H, I, rfl, h⟩
theorem zq {x j pos} : PE X (.Constant (.str x) j pos) (tC (.str x)) := fun _ _ _ H _ I h => Calls.Constant_str ⟨.str x, H, I.tok _, ⟨_, rfl⟩, h⟩
noncomputable def Gl (X : Cx) (x : Str) : Prop := X.env.kindOf x = some .globalImplicit
theorem vj {E : Value → Shared → Prop} {pins : List (Addr × Obj)} {s : Shared} {σ : St} {H : Hp} {x : Str} {u : Value} {pos : Pos} {Q : Value → Shared → Prop} (I : Inv X pins σ H s) (hg : Gl X x) (hm : X.mg x = some u) (h : Q u s)
    (hd : (x == ("__debug__" : Str)) = false := by decide) : wpAny (model X.prog X.w) X.A (eval (.Name x pos) X.env) Q E s :=
  Calls.Name_function_global I.ok.kind hg (Calls.loadGlobal_global (by rw [I.ok.glob]; exact I.mod.glob.keeps I.bk) hm h) hd
theorem Ys {E : Value → Shared → Prop} {pins : List (Addr × Obj)} {s : Shared} {σ : St} {H : Hp} {x : Str} {u : Value} {pos : Pos} {Q : Value → Shared → Prop} (I : Inv X pins σ H s) (hg : Gl X x) (hm : X.mg x = none) (hv : bootBuiltins x = some u) (h : Q u s)
    (hn : x ≠ "__name__" := by decide) (hd : (x == ("__debug__" : Str)) = false := by decide) : wpAny (model X.prog X.w) X.A (eval (.Name x pos) X.env) Q E s := by
  obtain ⟨mb, h1, h2⟩ := I.mod.blt
  exact Calls.Name_function_global I.ok.kind hg (Calls.loadGlobal_builtin (by rw [I.ok.glob]; exact I.mod.glob.keeps I.bk) hm (by rw [I.ok.blt]; exact h1.keeps I.bk) ((h2 x hn).trans hv) h) hd
theorem yq {x : Str} {v : V} {u : Value} {pos : Pos} (hg : Gl X x) (hm : X.mg x = some u) (r : yP v u) (hd : (x == ("__debug__" : Str)) = false := by decide) : PE X (.Name x pos) (tC v) :=
  fun _ _ _ H _ I h => vj I hg hm ⟨v, H, I, r, h⟩ hd
theorem yf {x : Str} {v : V} {u : Value} {pos : Pos} (hg : Gl X x) (hm : X.mg x = none) (hv : bootBuiltins x = some u) (r : yP v u) (hn : x ≠ "__name__" := by decide) (hd : (x == ("__debug__" : Str)) = false := by decide) : PE X (.Name x pos) (tC v) :=
  fun _ _ _ H _ I h => Ys I hg hm hv ⟨v, H, I, r, h⟩ hn hd
variable {a b : Expr} {ta tb : TE} {pos : Pos}
noncomputable def PC (X : Cx) (op : CmpOp) (a b : Expr) (t : TE) : Prop :=
  ∀ (pins : List (Addr × Obj)) (s : Shared) (σ : St) (H : Hp) (Q : VK), Inv X pins σ H s → t σ H Q →
    wpAny (model X.prog X.w) X.A (eval a X.env) (fun v s₁ => wpAny (model X.prog X.w) X.A (eval b X.env) (fun u s₂ => wpAny (model X.prog X.w) X.A (compareOp op v u) (EP X pins σ Q) X.xe s₂) X.xe s₁) X.xe s
theorem VJ (b : Expr) {op : CmpOp} (h : op ≠ .In) (h2 : op ≠ .NotIn) : behindInMarks op b = false := by
  have e1 : (op == CmpOp.In) = false := by cases op <;> first | rfl | exact absurd rfl h
  have e2 : (op == CmpOp.NotIn) = false := by cases op <;> first | rfl | exact absurd rfl h2
  cases b <;> simp [behindInMarks, e1, e2]
noncomputable def tB (t : TE) : TT := fun σ H Q => t σ H fun x H1 => ∃ c, x = .bl c ∧ Q c H1
theorem pt_cmp {op : CmpOp} {t : TE} (h : PC X op a b t) (h1 : behindInMarks op b = false := by first | exact VJ _ (by decide) (by decide) | rfl) : PT X (.Compare a [op] [b] pos) (tB t) := by
  intro pins s σ H Q I hw
  refine wpAny_isTrue_Compare1 (thn (h pins s σ H _ I hw) fun v s1 h1 => thn h1 fun u s2 h2 => thn h2 fun c s3 hh9 => ?_) h1
  obtain ⟨x, H1, I1, r1, q1⟩ := hh9
  obtain ⟨d, rfl, q⟩ := q1
  cases r1
  exact wpAny_truthy_bool ⟨H1, I1, q⟩
theorem zaT {e : Expr} {t : TE} (h : PE X e t) (he : ∀ whole, isTrue e X.env whole = (do let v ← whole; standAt e.pos; holding [v] (truthy v)) := by intro _; rfl) : PT X e (tB t) := by
  intro pins s σ H Q I hw
  refine isTrue_plain (thn (h pins s σ H _ I hw) fun v s1 hh9 => ?_) (he _)
  obtain ⟨x, H1, I1, r1, q1⟩ := hh9
  obtain ⟨d, rfl, q⟩ := q1
  cases r1
  exact wpAny_truthy_bool ⟨H1, I1, q⟩
variable {tA tB' : TT} {rest : List Expr}
noncomputable def tOr (t u : TT) : TT := fun σ H Q => t σ H fun c H1 => if c = true then Q true H1 else u σ H1 Q
noncomputable def tNot (t : TT) : TT := fun σ H Q => t σ H fun c H1 => Q (!c) H1
theorem zbB (ha : PT X a tA) : PW X (.BoolOp .And [a] pos) tA := by
  intro wh pins s σ H Q I h
  refine isTrue_and (thn (ha pins s σ H Q I h) fun c s1 e => ?_)
  cases c with
  | true => exact isTrue_and_nil e
  | false => exact e
theorem zaK (ha : PT X a tA) : PW X (.BoolOp .Or [a] pos) tA := by
  intro wh pins s σ H Q I h
  refine isTrue_or (thn (ha pins s σ H Q I h) fun c s1 e => ?_)
  cases c with
  | false => exact isTrue_or_nil e
  | true => exact e
theorem zb3 (ha : PT X a tA) (hb : PW X (.BoolOp .Or (b :: rest) pos) tB') : PW X (.BoolOp .Or (a :: b :: rest) pos) (tOr tA tB') := by
  intro wh pins s σ H Q I h
  refine isTrue_or (thn (ha pins s σ H _ I h) fun c s1 hh9 => ?_)
  obtain ⟨H1, I1, q1⟩ := hh9
  cases c with
  | true => exact ⟨H1, I1, q1⟩
  | false => exact hb wh pins s1 σ H1 Q I1 q1
theorem zaV (ha : PT X a tA) : PT X (.UnaryOp .Not a pos) (tNot tA) := by
  intro pins s σ H Q I h
  exact isTrue_not (ha pins s σ H (fun c H1 => Q (!c) H1) I h)
noncomputable def zdj (ta tb : TE) : TE := fun σ H Q => ta σ H fun x H1 => ∃ c, x = .bl c ∧ if c = true then tb σ H1 Q else Q (.bl false) H1
noncomputable def tOrV (ta tb : TE) : TE := fun σ H Q => ta σ H fun x H1 => ∃ c, x = .bl c ∧ if c = true then Q (.bl true) H1 else tb σ H1 Q
noncomputable def zdq (ta : TE) : TE := fun σ H Q => ta σ H fun x H1 => ∃ c, x = .bl c ∧ Q (.bl (!c)) H1
theorem zcl {op} {t : TE} (h : PE X a t) : PE X (.BoolOp op [a] pos) t := fun pins s σ H Q I hw => BoolOp_one (h pins s σ H Q I hw)
theorem zcS (ha : PE X a ta) (hb : PE X (.BoolOp .And (b :: rest) pos) tb) : PE X (.BoolOp .And (a :: b :: rest) pos) (zdj ta tb) := by
  intro pins s σ H Q I h
  refine BoolOp_and (thn (ha pins s σ H _ I h) fun v s1 hh9 => ?_)
  obtain ⟨x, H1, I1, r1, q1⟩ := hh9
  obtain ⟨c, rfl, q1⟩ := q1
  cases r1
  refine wpAny_truthy_bool ?_
  cases c with
  | true => exact hb pins s1 σ H1 Q I1 q1
  | false => exact ⟨.bl false, H1, I1, rfl, q1⟩
theorem zdB (ha : PE X a ta) (hb : PE X (.BoolOp .Or (b :: rest) pos) tb) : PE X (.BoolOp .Or (a :: b :: rest) pos) (tOrV ta tb) := by
  intro pins s σ H Q I h
  refine BoolOp_or (thn (ha pins s σ H _ I h) fun v s1 hh9 => ?_)
  obtain ⟨x, H1, I1, r1, q1⟩ := hh9
  obtain ⟨c, rfl, q1⟩ := q1
  cases r1
  refine wpAny_truthy_bool ?_
  cases c with
  | false => exact hb pins s1 σ H1 Q I1 q1
  | true => exact ⟨.bl true, H1, I1, rfl, q1⟩
theorem zbT (ha : PE X a ta) : PE X (.UnaryOp .Not a pos) (zdq ta) := by
  intro pins s σ H Q I h
  refine UnaryOp_ (thn (ha pins s σ H _ I h) fun v s1 hh9 => ?_)
  obtain ⟨x, H1, I1, r1, q1⟩ := hh9
  obtain ⟨c, rfl, q1⟩ := q1
  cases r1
  exact not_of (wpAny_truthy_bool ⟨.bl (!c), H1, I1, rfl, q1⟩)
end
end L2
namespace L2
open PySem PySem.Spec PyProof.Rows
noncomputable def SqL (K : PySem.W.Frag) (H : Hp) (a : Addr) (xs : List V) : Prop :=
  Rd H a (.lst xs) ∨
    ∃ (o : Obj) (its : Array Value) (n : Nat), K.lookup a = some o ∧ o.cls = .type "list" ∧ o.dict = none ∧ o.data = .seq its n ∧ its.size ≤ sizeLine ∧ yd xs its.toList
noncomputable def SqT (K : PySem.W.Frag) (H : Hp) (a : Addr) (xs : List V) : Prop :=
  Rd H a (.tup xs) ∨
    ∃ (o : Obj) (its : Array Value) (n : Nat), K.lookup a = some o ∧ o.cls = .type "tuple" ∧ o.data = .seq its n ∧ its.size ≤ sizeLine ∧ yd xs its.toList
noncomputable def absV : Value → Option V
  | .none => some .non
  | .bool b => some (.bl b)
  | .int i _ => some (.int i)
  | .str x _ => some (.str x)
  | .bytes b _ => some (.byt b)
  | .float b _ => some (.flt b)
  | .ref a => some (.ref a)
  | .type n => some (.ty n)
  | _ => none
theorem yP.abs {x : V} {u : Value} (r : yP x u) : absV u = some x := by
  cases x with
  | non => cases r; rfl
  | bl _ => cases r; rfl
  | int _ => obtain ⟨t, rfl⟩ := r; rfl
  | str _ => obtain ⟨t, rfl⟩ := r; rfl
  | byt _ => obtain ⟨t, rfl⟩ := r; rfl
  | flt _ => obtain ⟨t, rfl⟩ := r; rfl
  | ref _ => cases r; rfl
  | ty _ => cases r; rfl
theorem yP.inj {x y : V} {u : Value} (r : yP x u) (q : yP y u) : x = y := Option.some.inj (r.abs.symm.trans q.abs)
theorem yd.inj : ∀ {xs ys : List V} {us : List Value}, yd xs us → yd ys us → xs = ys := by
  intro xs ys us h
  induction h generalizing ys with
  | nil => intro h2; cases h2; rfl
  | cons r t ih => intro h2; cases h2 with | cons r' t' => rw [r.inj r', ih t']
section
variable {X : Cx} {pins : List (Addr × Obj)} {σ : St} {H : Hp} {s : Shared} {a : Addr} {xs ys : List V}
theorem SqL.of {K : PySem.W.Frag} (h : H a = some (.lst xs)) : SqL K H a xs := .inl (.inl h)
theorem SqT.of {K : PySem.W.Frag} (h : H a = some (.tup xs)) : SqT K H a xs := .inl (.inl h)
theorem Inv.list (I : Inv X pins σ H s) (h : SqL X.K H a xs) : ∃ its : List Value, yd xs its ∧ PlainL s.heap a its.toArray ∧ xs.length ≤ sizeLine := by
  rcases h with h | ⟨o, its, n, hk, hc, hd, hs, hz, r⟩
  · obtain ⟨z, its, n, r, e⟩ := h.ok I.hok
    exact ⟨its, r, ⟨_, n, e, rfl, rfl, rfl⟩, z⟩
  · refine ⟨its.toList, r, ⟨o, n, I.kIn a o hk, hc, hd, by simpa using hs⟩, ?_⟩
    have e := r.length
    simp only [Array.length_toList] at e
    omega
theorem Inv.tuple (I : Inv X pins σ H s) (h : SqT X.K H a xs) : ∃ its : List Value, yd xs its ∧ IsTup s.heap a its.toArray ∧ xs.length ≤ sizeLine := by
  rcases h with h | ⟨o, its, n, hk, hc, hs, hz, r⟩
  · obtain ⟨z, its, r, p⟩ := h.ok I.hok
    exact ⟨its, r, p, z⟩
  · refine ⟨its.toList, r, ⟨o, I.kIn a o hk, hc, n, by simpa using hs⟩, ?_⟩
    have e := r.length
    simp only [Array.length_toList] at e
    omega
theorem Inv.list_inj (I : Inv X pins σ H s) (h : SqL X.K H a xs) (h' : SqL X.K H a ys) : xs = ys := by
  obtain ⟨its, r, ⟨o, n, e, _, _, d⟩, _⟩ := I.list h
  obtain ⟨its', r', ⟨o', n', e', _, _, d'⟩, _⟩ := I.list h'
  rw [e] at e'; cases e'
  rw [d] at d'
  injection d' with d1 _
  have : its = its' := by simpa using congrArg Array.toList d1
  subst this
  exact r.inj r'
theorem Inv.tuple_inj (I : Inv X pins σ H s) (h : SqT X.K H a xs) (h' : SqT X.K H a ys) : xs = ys := by
  obtain ⟨its, r, ⟨o, e, _, n, d⟩, _⟩ := I.tuple h
  obtain ⟨its', r', ⟨o', e', _, n', d'⟩, _⟩ := I.tuple h'
  rw [e] at e'; cases e'
  rw [d] at d'
  injection d' with d1 _
  have : its = its' := by simpa using congrArg Array.toList d1
  subst this
  exact r.inj r'
end
noncomputable abbrev Cx.wish (X : Cx) (E : Value → Shared → Prop) : Cx := { X with xe := E }
noncomputable abbrev Cx.nox (X : Cx) : Cx := X.wish fun _ _ => False
theorem Cx.Ok.wish {X : Cx} (ok : X.Ok) (E : Value → Shared → Prop) : (X.wish E).Ok :=
  ⟨ok.mod, ok.kind, ok.glob, ok.blt, ok.above, ok.inj, ok.has, ok.cab, ok.hd, ok.frames, ok.stk, ok.exf, ok.bs, ok.bsz, ok.noex, ok.exfs, ok.funs, ok.frf⟩
theorem Cx.Ok.unwish {X : Cx} {E : Value → Shared → Prop} (ok : (X.wish E).Ok) : X.Ok :=
  ⟨ok.mod, ok.kind, ok.glob, ok.blt, ok.above, ok.inj, ok.has, ok.cab, ok.hd, ok.frames, ok.stk, ok.exf, ok.bs, ok.bsz, ok.noex, ok.exfs, ok.funs, ok.frf⟩
section
variable {X : Cx} {pins : List (Addr × Obj)} {σ : St} {H : Hp} {s : Shared} {E : Value → Shared → Prop}
theorem Inv.wish (I : Inv X pins σ H s) (E : Value → Shared → Prop) : Inv (X.wish E) pins σ H s := ⟨I.ok.wish E, I.os, I.bare, I.base, I.loc, I.cell, I.free, I.freeC, I.pin, I.hok, I.len⟩
theorem Inv.unwish (I : Inv (X.wish E) pins σ H s) : Inv X pins σ H s := ⟨I.ok.unwish, I.os, I.bare, I.base, I.loc, I.cell, I.free, I.freeC, I.pin, I.hok, I.len⟩
theorem SP.unwish {D : ZI} {f : Flow} {s' : Shared} (h : SP (X.wish E) pins D f s') : SP X pins D f s' := by
  cases f with
  | next => obtain ⟨σ', H', I, q⟩ := h; exact ⟨σ', H', I.unwish, q⟩
  | brk => obtain ⟨σ', H', I, q⟩ := h; exact ⟨σ', H', I.unwish, q⟩
  | cont => obtain ⟨σ', H', I, q⟩ := h; exact ⟨σ', H', I.unwish, q⟩
  | ret u => obtain ⟨v, σ', H', I, r, q⟩ := h; exact ⟨v, σ', H', I.unwish, r, q⟩
theorem PSs.nox {st : List Stmt} {t : TS} (h : PSs X.nox st t) : PSs X st t := fun pins s σ H D I hw =>
  wpAny_mono (h pins s σ H D (I.wish _) hw) (fun _ _ q => q.unwish) fun _ _ z => False.elim z
end
section
variable {X : Cx} {st : Stmt} {rest : List Stmt} {t u : TS} {e : Expr} {te : TE} {pos : Pos}
noncomputable def zcN : TS := fun D σ H => D.nx σ H
noncomputable def tSeq (t u : TS) : TS := fun D σ H => t { D with nx := u D } σ H
theorem WV : PSs X [] zcN := fun _ _ σ H _ I h => wpAny_execs_nil ⟨σ, H, I, h⟩
theorem xL (h1 : PS X st t) (h2 : PSs X rest u) : PSs X (st :: rest) (tSeq t u) := by
  intro pins s σ H D I h
  refine wpAny_execs_cons (thn (h1 pins s σ H { D with nx := u D } I h) fun f s1 q => ?_)
  cases f with
  | next =>
    obtain ⟨σ', H', I', q⟩ := q
    exact h2 pins s1 σ' H' D I' q
  | ret v => exact q
  | brk => exact q
  | cont => exact q
theorem v4 (h1 : PS X st t) : PSs X [st] t := by
  intro pins s σ H D I h
  refine wpAny_execs_cons (thn (h1 pins s σ H D I h) fun f s1 q => ?_)
  cases f with
  | next => exact wpAny_execs_nil q
  | ret v => exact q
  | brk => exact q
  | cont => exact q
theorem Inv.quiet {pins : List (Addr × Obj)} {σ : St} {H : Hp} {s : Shared} (I : Inv X pins σ H s) : interactive X.env = false := by simp [interactive, I.ok.kind]
noncomputable def zda (te : TE) : TS := fun D σ H => te σ H fun _ H1 => D.nx σ H1
theorem YW (he : PE X e te) (hs : swapsWith e none pos.line X.env = pure false := by rfl) : PS X (.Expr e pos) (zda te) := by
  intro pins s σ H D I h
  exact wpAny_Expr_any (thn (he pins s σ H _ I h) fun v s1 ⟨x, H1, I1, r1, q1⟩ => ⟨σ, H1, I1, q1⟩) I.quiet hs
noncomputable def zdD (te : TE) : TS := fun D σ H => te σ H D.rt
theorem Xn (he : PE X e te) : PS X (.Return (some e) pos) (zdD te) := by
  intro pins s σ H D I h
  exact wpAny_Return_some (thn (he pins s σ H _ I h) fun v s1 ⟨x, H1, I1, r1, q1⟩ => ⟨x, σ, H1, I1, r1, q1⟩)
noncomputable def tIfS (c : TT) (t u : TS) : TS := fun D σ H => c σ H fun b H1 => if b = true then t D σ H1 else u D σ H1
theorem zbq {c : Expr} {a b : List Stmt} {tc : TT} (hc : PT X c tc) (ha : PSs X a t) (hb : PSs X b u) : PS X (.If c a b pos) (tIfS tc t u) := by
  intro pins s σ H D I h
  refine wpAny_If (thn (hc pins s σ H _ I h) fun d s1 hh9 => ?_)
  obtain ⟨H1, I1, q1⟩ := hh9
  cases d with
  | true => exact ha pins s1 σ H1 D I1 q1
  | false => exact hb pins s1 σ H1 D I1 q1
noncomputable def zbL : TS := fun _ _ _ => False
theorem zac : PS X st zbL := fun _ _ _ _ _ _ h => h.elim
end
noncomputable abbrev TG := V → St → Hp → (St → Hp → Prop) → Prop
noncomputable abbrev TGs := List V → St → Hp → (St → Hp → Prop) → Prop
noncomputable def PG (X : Cx) (target : Expr) (t : TG) : Prop :=
  ∀ (pins : List (Addr × Obj)) (s : Shared) (σ : St) (H : Hp) (v : V) (u : Value) (Q : St → Hp → Prop), Inv X pins σ H s → yP v u → t v σ H Q →
    wpAny (model X.prog X.w) X.A (assign target X.env u) (fun _ s' => ∃ σ' H', Inv X pins σ' H' s' ∧ Q σ' H') X.xe s
noncomputable def PGs (X : Cx) (ts : List Expr) (t : TGs) : Prop :=
  ∀ (pins : List (Addr × Obj)) (s : Shared) (σ : St) (H : Hp) (vs : List V) (us : List Value) (Q : St → Hp → Prop), Inv X pins σ H s → yd vs us → t vs σ H Q →
    wpAny (model X.prog X.w) X.A (assignInOrder ((assignEach ts X.env).map (·.2)) us) (fun _ s' => ∃ σ' H', Inv X pins σ' H' s' ∧ Q σ' H') X.xe s
noncomputable abbrev zdr := V → V → V → Hp → (Hp → Prop) → Prop
noncomputable def PSet (X : Cx) (t : zdr) : Prop :=
  ∀ (pins : List (Addr × Obj)) (s : Shared) (σ : St) (H : Hp) (o i v : V) (ov iv u : Value) (Q : Hp → Prop), Inv X pins σ H s → yP o ov → yP i iv → yP v u → t o i v H Q →
    wpAny (model X.prog X.w) X.A (setItem ov iv u) (fun _ s' => ∃ H', Inv X pins σ H' s' ∧ Q H') X.xe s
section
variable {X : Cx} {pos : Pos}
noncomputable def Zm (i : Nat) : TG := fun v σ H Q => Q (σ.set i (some v)) H
theorem zS {i : Nat} {x : Str} (hN : X.N.Nodup) (hi : X.N[i]? = some x) (hx : Loc X.env.scope x) (hf : X.fn x = true ∨ X.env.scope.names.lookup x = some .local := by first | exact .inl rfl | exact .inr rfl | assumption) : PG X (.Name x pos) (Zm i) := by
  intro pins s σ H v u Q I r h
  exact wpAny_assign_Name (Yy I hN hi hx r (fun s' I' => ⟨_, H, I', h⟩) hf)
noncomputable def gNil : TGs := fun vs σ H Q => vs = [] ∧ Q σ H
noncomputable def zdf (t : TG) (u : TGs) : TGs := fun vs σ H Q => ∃ v r, vs = v :: r ∧ t v σ H fun σ' H' => u r σ' H' Q
theorem za0 : PGs X [] gNil := by
  intro pins s σ H vs us Q I r h
  obtain ⟨e, h⟩ := h
  subst e
  cases r
  exact assignInOrder_nil ⟨σ, H, I, h⟩
theorem zah {e : Expr} {es : List Expr} {t : TG} {u : TGs} (h1 : PG X e t) (h2 : PGs X es u)
    (hs : (assignEach (e :: es) X.env).map (·.2) = assign e X.env :: (assignEach es X.env).map (·.2) := by rfl) : PGs X (e :: es) (zdf t u) := by
  intro pins s σ H vs us Q I r h
  obtain ⟨v, vr, e1, h⟩ := h
  subst e1
  cases r with
  | cons r rr =>
    rw [hs]
    refine assignInOrder_cons (thn (h1 pins s σ H _ _ _ I r h) fun _ s1 hh9 => ?_)
    obtain ⟨σ1, H1, I1, q1⟩ := hh9
    exact h2 pins s1 σ1 H1 _ _ Q I1 rr q1
noncomputable def gTup (K : PySem.W.Frag) (n : Nat) (t : TGs) : TG := fun v σ H Q => ∃ a xs, v = .ref a ∧ SqT K H a xs ∧ xs.length = n ∧ t xs σ H Q
theorem zcT {es : List Expr} {k : Nat} {t : TGs} {n : Nat} (hc : X.calm = true) (h : PGs X es t)
    (hn : (assignEach es X.env).length = n := by rfl) (hst : (assignEach es X.env).findIdx? (·.1) = none := by rfl) : PG X (.Tuple es k pos) (gTup X.K n t) := by
  intro pins s σ H v u Q I r hw
  obtain ⟨a, xs, e1, hq, hl, hw⟩ := hw
  subst e1
  cases r
  obtain ⟨its, rv, ht, hz⟩ := I.tuple hq
  refine assign_Tuple_tuple (I.ok.hd hc) ht (by simp [hn, ← hl, rv.length]) hst fun h' hx => ?_
  have I1 : Inv X pins σ H { s with heap := h' } := I.kept (t' := s.toks) fun b o e => hx b o (Nat.ne_of_lt (Heap.lt_size e)) e
  exact h pins _ σ H xs _ Q I1 (by simpa using rv) hw
noncomputable def gSub (to ti : TE) (t : zdr) : TG := fun v σ H Q => to σ H fun o H1 => ti σ H1 fun i H2 => t o i v H2 fun H3 => Q σ H3
theorem zcO {o i : Expr} {to ti : TE} {t : zdr} (ho : PE X o to) (hi : PE X i ti) (hs : PSet X t)
    (ha : ∀ v, assign (.Subscript o i pos) X.env v = (do
      let ov ← holding [v] (eval o X.env)
      let iv ← holding [v, ov] (eval i X.env)
      standAt pos
      holding [v, ov, iv] (setItem ov iv v)
      release [v, ov, iv] []) := by intro _; rfl) : PG X (.Subscript o i pos) (gSub to ti t) := by
  intro pins s σ H v u Q I r h
  rw [ha]
  refine wpAny_bind (wpAny_holding (thn (ho pins s σ H _ I h) fun ov s1 hh9 => ?_))
  obtain ⟨x, H1, I1, r1, q1⟩ := hh9
  refine wpAny_bind (wpAny_holding (thn (hi pins s1 σ H1 _ I1 q1) fun iv s2 hh9 => ?_))
  obtain ⟨y, H2, I2, r2, q2⟩ := hh9
  refine wpAny_bind (wpAny_standAt (wpAny_bind (wpAny_holding (thn (hs pins s2 σ H2 x y v ov iv u _ I2 r1 r2 r q2) fun _ s3 hh9 => ?_))))
  obtain ⟨H3, I3, q3⟩ := hh9
  exact wpAny_release ⟨σ, H3, I3, q3⟩
noncomputable def zc9 (te : TE) (g : TG) : TS := fun D σ H => te σ H fun x H1 => g x σ H1 D.nx
theorem zaJ {tg e : Expr} {te : TE} {g : TG} (he : PE X e te) (hg : PG X tg g) (hs : swapsWithSole [tg] e pos.line X.env = pure false := by rfl) (hw : swappedStores [tg] e X.env = pure none := by rfl)
    (h1 : (assignEach [tg] X.env).map (·.2) = [assign tg X.env] := by rfl) : PS X (.Assign [tg] e pos) (zc9 te g) := by
  intro pins s σ H D I h
  refine wpAny_Assign_stores (thn (he pins s σ H _ I h) fun v s1 hh9 => ?_) hs hw
  obtain ⟨x, H1, I1, r1, q1⟩ := hh9
  rw [h1]
  exact thn (hg pins s1 σ H1 x v _ I1 r1 q1) fun _ s2 q => q
theorem Yt {i : Nat} {x : Str} {e : Expr} {te : TE} {pos' : Pos} (hN : X.N.Nodup) (hi : X.N[i]? = some x) (hx : Loc X.env.scope x) (he : PE X e te) (hs : swapsWith e (some (.Name x pos')) pos.line X.env = pure false := by rfl) (hf : X.fn x = true ∨ X.env.scope.names.lookup x = some .local := by first | exact .inl rfl | exact .inr rfl | assumption) :
    PS X (.Assign [.Name x pos'] e pos) (zc9 te (Zm i)) := by
  intro pins s σ H D I h
  refine wpAny_Assign_Name (thn (he pins s σ H _ I h) fun v s1 hh9 => ?_) hs
  obtain ⟨y, H1, I1, r1, q1⟩ := hh9
  exact Yy I1 hN hi hx r1 (fun s2 I2 => ⟨_, H1, I2, q1⟩) hf
end
section
variable {X : Cx} {pos : Pos}
end
structure It where
  go : Nat → Hp → Prop
  yld : Nat → Hp → V → Hp → Prop
  stop : Nat → Hp → Prop
noncomputable def We (X : Cx) (pins : List (Addr × Obj)) (H : Hp) (b : Addr) : Prop :=
  H b = none ∧ b ≠ X.env.locals ∧ b ∉ X.fs ∧ (b ∈ X.ex ∨ X.s₀.heap.objs.size ≤ b) ∧ (∀ x c, X.env.cells.lookup x = some c → c ≠ b) ∧ ∀ p ∈ X.pn ++ pins, p.1 ≠ b
theorem Inv.fpOk {X : Cx} {pins : List (Addr × Obj)} {σ : St} {H H' : Hp} {s : Shared} {b : Addr} (I : Inv X pins σ H s) (hb : s.heap.objs.size ≤ b) (hn : H' b = none) : We X pins H' b := by
  refine ⟨hn, Nat.ne_of_gt (Nat.lt_of_lt_of_le I.lt hb), I.nofs hb, .inr (Nat.le_trans I.sz hb), fun x c e z => ?_, fun p hp z => ?_⟩
  · obtain ⟨v, q⟩ := I.cell x c e
    exact absurd (Nat.lt_of_lt_of_le q.lt (by rw [z]; exact hb)) (Nat.lt_irrefl _)
  · exact absurd (Nat.lt_of_lt_of_le (Heap.lt_size (I.pin p hp).1) (by rw [z]; exact hb)) (Nat.lt_irrefl _)
set_option genInjectivity false in
set_option genSizeOf false in
set_option genCtorIdx false in
structure zbR (P : Program) (w : World) (K : PySem.W.Frag) (tg : Expr) (J : It) (fp : List Addr) (it : Addr) (tn : Nat → Heap → Prop) : Prop where
  mem : it ∈ fp
  obj : ∀ i h, tn i h → ∀ b ∈ fp, ∃ o, h.get? b = some o ∧ ∀ v, o.data ≠ .cell v
  keep : ∀ i h h', tn i h → (∀ b ∈ fp, ∀ o, h.get? b = some o → h'.get? b = some o) → tn i h'
  item : ∀ (X : Cx), X.prog = P → X.w = w → X.K = K → X.calm = true → ∀ (i : Nat) (pins : List (Addr × Obj)) (s : Shared) (σ : St) (H : Hp) (E : Value → Shared → Prop), Inv X pins σ H s → (∀ b ∈ fp, We X pins H b) → tn i s.heap → J.go i H →
    wpAny (model P w) X.A (pyNext (.ref it)) (fun r s1 => ∃ u, r = some u ∧
      wpAny (model P w) X.A (letOwnedTupleGo tg (.ref it) u) (fun _ s2 => ∃ x H', Inv X pins σ H' s2 ∧ yP x u ∧ J.yld i H x H' ∧ tn (i + 1) s2.heap ∧ ∀ b ∈ fp, H' b = none) E s1) E s
  done : ∀ (X : Cx), X.prog = P → X.w = w → X.K = K → X.calm = true → ∀ (i : Nat) (pins : List (Addr × Obj)) (s : Shared) (σ : St) (H : Hp) (E : Value → Shared → Prop), Inv X pins σ H s → (∀ b ∈ fp, We X pins H b) → tn i s.heap → J.stop i H →
    wpAny (model P w) X.A (pyNext (.ref it)) (fun r s1 => r = none ∧ Inv X pins σ H s1) E s
  self : ∀ (A : Around) (i : Nat) (s : Shared) (Q : Value → Shared → Prop) (E : Value → Shared → Prop), tn i s.heap → Q (.ref it) s → wpAny (model P w) A (pyIter (.ref it)) Q E s
noncomputable abbrev TI := St → Hp → (It → Hp → Prop) → Prop
noncomputable def PIE (X : Cx) (pins : List (Addr × Obj)) (σ : St) (tg : Expr) (R : It → Hp → Prop) (itv : Value) (s2 : Shared) : Prop :=
  ∃ (it : Addr) (fp : List Addr) (tn : Nat → Heap → Prop) (J : It) (H' : Hp), itv = .ref it ∧ Inv X pins σ H' s2 ∧ zbR X.prog X.w X.K tg J fp it tn ∧ tn 0 s2.heap ∧ (∀ b ∈ fp, We X pins H' b) ∧ R J H'
noncomputable def PI (X : Cx) (tg iter : Expr) (wi : TI) : Prop :=
  ∀ (pins : List (Addr × Obj)) (s : Shared) (σ : St) (H : Hp) (R : It → Hp → Prop), Inv X pins σ H s → wi σ H R →
    wpAny (model X.prog X.w) X.A (eval iter X.env) (fun v s1 => wpAny (model X.prog X.w) X.A (pyIter v) (PIE X pins σ tg R) X.xe s1) X.xe s
theorem zaZ {M : Model} {A : Around} {E : Value → Shared → Prop} {s : Shared} {tg : Expr} {it : Addr} {u : Value} {o : Obj} {n : String} {vs : Array Value} {Q : Unit → Shared → Prop} (ho : s.heap.get? it = some o) (hc : o.cls = .type n) (hd : o.data = .fields vs)
    (hn : ["enumerate", "zip", "dict_itemiterator", "dict_reverseitemiterator", "odict_iterator", "itertools.zip_longest", "itertools.pairwise"].contains n = false) (hQ : Q () s) : wpAny M A (letOwnedTupleGo tg (.ref it) u) Q E s := by
  unfold letOwnedTupleGo
  cases tg <;> first
    | exact wpAny_pure hQ
    | (cases u <;> first
        | exact wpAny_pure hQ
        | (refine wpAny_bind (wpAny_load ho ?_)
           rw [hc, hd]
           show wpAny M A (if (["enumerate", "zip", "dict_itemiterator", "dict_reverseitemiterator", "odict_iterator", "itertools.zip_longest", "itertools.pairwise"].contains n && vs[0]? == some (rawInt _)) = true then _ else _) Q E s
           rw [if_neg (by intro h; rw [hn, Bool.false_and] at h; cases h)]
           exact wpAny_pure hQ))
noncomputable def Itl (K : PySem.W.Frag) (a : Addr) : It :=
  ⟨fun i H => ∃ xs x, SqL K H a xs ∧ xs[i]? = some x, fun i H x H' => H' = H ∧ ∀ xs, SqL K H a xs → xs[i]? = some x, fun i H => ∃ xs, SqL K H a xs ∧ xs.length ≤ i⟩
noncomputable def Itt (K : PySem.W.Frag) (a : Addr) : It :=
  ⟨fun i H => ∃ xs x, SqT K H a xs ∧ xs[i]? = some x, fun i H x H' => H' = H ∧ ∀ xs, SqT K H a xs → xs[i]? = some x, fun i H => ∃ xs, SqT K H a xs ∧ xs.length ≤ i⟩
noncomputable def Itr (lo : Int) (n : Nat) : It := ⟨fun i _ => i < n, fun i H x H' => H' = H ∧ x = .int (lo + i), fun i _ => n ≤ i⟩
theorem Wo {P : Program} {w : World} {K : PySem.W.Frag} {tg : Expr} (a it : Addr) : zbR P w K tg (Itl K a) [it] it (fun i h => h.IsListIter it a i) where
  mem := by simp
  obj := fun i h st b hb => by
    have e : b = it := by simpa using hb
    subst e
    obtain ⟨o, e, c, d⟩ := st
    exact ⟨o, e, fun v z => by rw [d] at z; cases z⟩
  keep := fun i h h' st k => st.at fun o e => k it (by simp) o e
  item := by
    intro X hP hw hK hc i pins s σ H E I hf st hg
    subst hP hw hK
    obtain ⟨xs, x, hq, hx⟩ := hg
    obtain ⟨its, rv, p, hz⟩ := I.list hq
    obtain ⟨u, hu, ru⟩ := rv.get hx
    obtain ⟨f0, f1, f2, f3, f4, f5⟩ := hf it (by simp)
    refine wpAny_pyNext_list_item st p.isList (x := u) (by simpa using hu) fun h' st' sb => ?_
    have I1 : Inv X pins σ H { s with heap := h' } := I.turned (t' := s.toks) (fun b o hb e => (sb.2 b hb).trans e) f0 f1 f3 f4 f5
    obtain ⟨o, e, c, d⟩ := id st'
    exact ⟨u, rfl, zaZ (s := { s with heap := h' }) e c d (by decide) ⟨x, H, I1, ru, ⟨rfl, fun ys hy => by rw [I.list_inj hy hq]; exact hx⟩, st', fun b hb => (hf b hb).1⟩⟩
  done := by
    intro X hP hw hK hc i pins s σ H E I hf st hg
    subst hP hw hK
    obtain ⟨xs, hq, hx⟩ := hg
    obtain ⟨its, rv, p, hz⟩ := I.list hq
    obtain ⟨f0, f1, f2, f3, f4, f5⟩ := hf it (by simp)
    have hl := rv.length
    exact wpAny_pyNext_list_end (I.ok.hd hc) st p.isList (by simp; omega) fun h' eb => ⟨rfl, I.turned (t' := s.toks) (fun b o hb e => eb b o hb e) f0 f1 f3 f4 f5⟩
  self := fun _ _ _ _ _ st h => wpAny_pyIter_listiter st h
theorem XW {P : Program} {w : World} {K : PySem.W.Frag} {tg : Expr} (a it : Addr) : zbR P w K tg (Itt K a) [it] it (fun i h => h.IsTupleIter it a i) where
  mem := by simp
  obj := fun i h st b hb => by
    have e : b = it := by simpa using hb
    subst e
    obtain ⟨o, e, c, d⟩ := st
    exact ⟨o, e, fun v z => by rw [d] at z; cases z⟩
  keep := fun i h h' st k => st.at fun o e => k it (by simp) o e
  item := by
    intro X hP hw hK hc i pins s σ H E I hf st hg
    subst hP hw hK
    obtain ⟨xs, x, hq, hx⟩ := hg
    obtain ⟨its, rv, p, hz⟩ := I.tuple hq
    obtain ⟨u, hu, ru⟩ := rv.get hx
    obtain ⟨f0, f1, f2, f3, f4, f5⟩ := hf it (by simp)
    refine wpAny_pyNext_tuple_item st (show s.heap.IsTuple a its.toArray from p) (x := u) (by simpa using hu) fun h' st' sb => ?_
    have I1 : Inv X pins σ H { s with heap := h' } := I.turned (t' := s.toks) (fun b o hb e => (sb.2 b hb).trans e) f0 f1 f3 f4 f5
    obtain ⟨o, e, c, d⟩ := id st'
    exact ⟨u, rfl, zaZ (s := { s with heap := h' }) e c d (by decide) ⟨x, H, I1, ru, ⟨rfl, fun ys hy => by rw [I.tuple_inj hy hq]; exact hx⟩, st', fun b hb => (hf b hb).1⟩⟩
  done := by
    intro X hP hw hK hc i pins s σ H E I hf st hg
    subst hP hw hK
    obtain ⟨xs, hq, hx⟩ := hg
    obtain ⟨its, rv, p, hz⟩ := I.tuple hq
    obtain ⟨f0, f1, f2, f3, f4, f5⟩ := hf it (by simp)
    have hl := rv.length
    exact wpAny_pyNext_tuple_end (I.ok.hd hc) st (show s.heap.IsTuple a its.toArray from p) (by simp; omega) fun h' eb => ⟨rfl, I.turned (t' := s.toks) (fun b o hb e => eb b o hb e) f0 f1 f3 f4 f5⟩
  self := fun _ _ _ _ _ st h => wpAny_pyIter_tupleiter st h
theorem XO {P : Program} {w : World} {K : PySem.W.Frag} {tg : Expr} (it : Addr) (lo : Int) (n : Nat) : zbR P w K tg (Itr lo n) [it] it (fun i h => IsRangeIter h it (lo + (i : Nat) * 1) ((n : Int) - (i : Nat)) 1) where
  mem := by simp
  obj := fun i h st b hb => by
    have e : b = it := by simpa using hb
    subst e
    exact ⟨_, st, fun v z => by
      have z' : Data.fields _ = Data.cell v := z
      cases z'⟩
  keep := fun i h h' st k => k it (by simp) _ st
  item := by
    intro X hP hw hK hc i pins s σ H E I hf st hg
    subst hP hw hK
    obtain ⟨f0, f1, f2, f3, f4, f5⟩ := hf it (by simp)
    have W := Walks.range (prog := X.prog) (w := X.w) (I.ok.hd hc) it lo 1 n
    refine W.item i s _ _ hg st fun v h' tk hv st' kk => ?_
    obtain ⟨t, rfl⟩ := hv
    have I1 : Inv X pins σ H { s with heap := h', toks := tk } := I.turned (fun b o hb e => kk b o (by simpa using hb) e) f0 f1 f3 f4 f5
    refine ⟨_, rfl, zaZ (s := { s with heap := h', toks := tk }) (n := "range_iterator") st' rfl rfl (by decide) ⟨.int (lo + i), H, I1, ⟨t, ?_⟩, ⟨rfl, rfl⟩, st', fun b hb => (hf b hb).1⟩⟩
    rw [Int.mul_one]
  done := by
    intro X hP hw hK hc i pins s σ H E I hf st hg
    subst hP hw hK
    obtain ⟨f0, f1, f2, f3, f4, f5⟩ := hf it (by simp)
    exact wpAny_pyNext_range_end (I.ok.hd hc) st (by have : n ≤ i := hg; omega) fun h' eb => ⟨rfl, I.turned (t' := s.toks) (fun b o hb e => eb b o hb e) f0 f1 f3 f4 f5⟩
  self := fun _ _ _ _ _ st h => wpAny_pyIter_rangeiter st h
end L2
namespace L2
open PySem PySem.Spec PyProof.Rows
section
variable {X : Cx} {tg : Expr}
theorem Xi {pins : List (Addr × Obj)} {σ : St} {H : Hp} {s : Shared} {R : It → Hp → Prop} {E : Value → Shared → Prop} {lo hi : Int} {t u v : Tok} {tk : Nat} (I : Inv X pins σ H s) (h1 : -(2 ^ 62) ≤ lo) (h2 : lo < 2 ^ 62) (h3 : -(2 ^ 62) ≤ hi) (h4 : hi < 2 ^ 62)
    (q : R (Itr lo (hi - lo).toNat) H) : wpAny (model X.prog X.w) X.A (pyIter (.ref s.heap.objs.size)) (PIE X pins σ tg R) E { s with heap := s.heap.push { cls := .type "range", data := .fields #[.int lo t, .int hi u, .int 1 v] }, toks := tk } := by
  refine wpAny_pyIter_range (IsRange.new ..) (small_one h1 h2 h3 h4) ?_
  have I1 : Inv X pins σ H { s with heap := s.heap.push { cls := .type "range", data := .fields #[.int lo t, .int hi u, .int 1 v] }, toks := tk } := I.kept fun b o e => Heap.get?_push_of_some _ e
  refine ⟨(s.heap.push { cls := .type "range", data := .fields #[.int lo t, .int hi u, .int 1 v] }).objs.size, [(s.heap.push { cls := .type "range", data := .fields #[.int lo t, .int hi u, .int 1 v] }).objs.size], _, _, H, rfl,
    I1.kept (t' := tk) fun b o e => Heap.get?_push_of_some _ e, XO _ lo (hi - lo).toNat, ?_, fun b hb => ?_, q⟩
  · have e1 : lo + ((0 : Nat) : Int) * 1 = lo := by simp
    have e2 : (((hi - lo).toNat : Nat) : Int) - ((0 : Nat) : Int) = Builtin.Range.rangeSize lo hi 1 := by rw [rangeSize_one]; split <;> omega
    show IsRangeIter _ _ (lo + ((0 : Nat) : Int) * 1) ((((hi - lo).toNat : Nat) : Int) - ((0 : Nat) : Int)) 1
    rw [e1, e2]
    exact Heap.get?_push_size _ rfl
  · have e : b = (s.heap.push { cls := .type "range", data := .fields #[.int lo t, .int hi u, .int 1 v] }).objs.size := by simpa using hb
    subst e
    exact I1.fpOk (Nat.le_refl _) (I1.hok.fresh (Nat.le_refl _))
noncomputable def zdC (ta : TA) : TI := fun σ H R => ta σ H fun vs H1 => ∃ j : Int, vs = [.int j] ∧ -(2 ^ 62) ≤ j ∧ j < 2 ^ 62 ∧ R (Itr 0 j.toNat) H1
noncomputable def zdk (ta : TA) : TI := fun σ H R => ta σ H fun vs H1 => ∃ i j : Int, vs = [.int i, .int j] ∧ (-(2 ^ 62) ≤ i ∧ i < 2 ^ 62 ∧ -(2 ^ 62) ≤ j ∧ j < 2 ^ 62) ∧ R (Itr i (j - i).toNat) H1
theorem Y7 {a : Expr} {ta : TA} {p pos : Pos} (hg : Gl X "range") (hm : X.mg "range" = none) (ha : PA X [a] ta) (hs : starEach [a] X.env = [(false, eval a X.env)] := by rfl) : PI X tg (.Call (.Name "range" p) [a] [] pos) (zdC ta) := by
  intro pins s σ H R I h
  refine Call_ (Ys I hg hm boot_range (PyProof.Rows.callWith_type1 (thn (ha pos pins s σ H _ I h) fun us s1 hh9 => ?_) hs rfl))
  obtain ⟨vs, H1, I1, r1, q1⟩ := hh9
  obtain ⟨j, e, q1, q2, q⟩ := q1
  subst e
  cases r1 with
  | cons r rr =>
    cases rr
    obtain ⟨t, rfl⟩ := r
    exact call_range_1 (Xi I1 (by omega) (by omega) q1 q2 (by simpa using q))
theorem Zi {a b : Expr} {ta : TA} {p pos : Pos} (hg : Gl X "range") (hm : X.mg "range" = none) (ha : PA X [a, b] ta) (hs : starEach [a, b] X.env = [(false, eval a X.env), (false, eval b X.env)] := by rfl) (hs2 : starEach [b] X.env = [(false, eval b X.env)] := by rfl) :
    PI X tg (.Call (.Name "range" p) [a, b] [] pos) (zdk ta) := by
  intro pins s σ H R I h
  refine Call_ (Ys I hg hm boot_range (PyProof.Rows.callWith_type1 (thn (ha pos pins s σ H _ I h) fun us s1 hh9 => ?_) (by rw [hs, hs2]) (by rw [hs2]; rfl)))
  obtain ⟨vs, H1, I1, r1, q1⟩ := hh9
  obtain ⟨i, j, e, ⟨q1, q2, q3, q4⟩, q⟩ := q1
  subst e
  cases r1 with
  | cons r rr =>
    cases rr with
    | cons r' rr =>
      cases rr
      obtain ⟨t, rfl⟩ := r
      obtain ⟨t', rfl⟩ := r'
      exact call_range_2 (Xi I1 q1 q2 q3 q4 q)
noncomputable def tFor (wi : TI) (g : TG) (tb : TS) : TS := fun D σ H => wi σ H fun J H1 => ∃ W : Nat → Nat → St → Hp → Prop, (∃ m, W 0 m σ H1) ∧ ∀ i m σ H, W i m σ H →
  (J.stop i H ∧ D.nx σ H) ∨ (J.go i H ∧ ∃ N : St → Hp → Prop, (∀ σ' H', N σ' H' → ∃ m', m' < m ∧ W (i + 1) m' σ' H') ∧ ∀ x H', J.yld i H x H' → g x σ H' fun σ2 H2 => tb { D with nx := N, ct := N, bk := D.nx } σ2 H2)
noncomputable def Yo (fp : List Addr) (h : Heap) : List (Addr × Obj) := fp.filterMap fun b => (h.get? b).map fun o => (b, o)
theorem wl {fp : List Addr} {h : Heap} {b : Addr} {o : Obj} (hb : b ∈ fp) (e : h.get? b = some o) : (b, o) ∈ Yo fp h := List.mem_filterMap.mpr ⟨b, hb, by rw [e]; rfl⟩
theorem W9 {fp : List Addr} {h : Heap} {p : Addr × Obj} (hp : p ∈ Yo fp h) : p.1 ∈ fp ∧ h.get? p.1 = some p.2 := by
  obtain ⟨b, hb, e⟩ := List.mem_filterMap.mp hp
  cases q : h.get? b with
  | none => rw [q] at e; cases e
  | some o =>
    rw [q] at e
    have e' : (b, o) = p := Option.some.inj e
    subst e'
    exact ⟨hb, q⟩
theorem Inv.pinned {pins : List (Addr × Obj)} {σ : St} {H : Hp} {s : Shared} {fp : List Addr} (I : Inv X pins σ H s) (hf : ∀ b ∈ fp, We X pins H b) (ho : ∀ b ∈ fp, ∃ o, s.heap.get? b = some o ∧ ∀ v, o.data ≠ .cell v) : Inv X (pins ++ Yo fp s.heap) σ H s :=
  I.pins_of fun p hp => (List.mem_append.mp hp).elim (fun z => I.pin p (List.mem_append_right _ z)) fun z => by
    obtain ⟨hb, e⟩ := W9 z
    obtain ⟨f0, f1, f2, _⟩ := hf p.1 hb
    obtain ⟨o, e', d⟩ := ho p.1 hb
    rw [e] at e'; cases e'
    exact ⟨e, f0, f1, f2, d⟩
theorem Inv.unpinned {pins pl : List (Addr × Obj)} {σ : St} {H : Hp} {s : Shared} (I : Inv X (pins ++ pl) σ H s) : Inv X pins σ H s := I.pins_of fun p hp => I.pin p (List.mem_append_right _ (List.mem_append_left _ hp))
theorem Vb {iter : Expr} {body : List Stmt} {wi : TI} {g : TG} {tb : TS} {pos : Pos} (hp : PassesOwn (model X.prog X.w) X.A X.env X.xe) (hc : X.calm = true) (hi : PI X tg iter wi) (hg : PG X tg g) (hb : PSs X body tb)
    (hs : ∀ x, foldedSetIterable iter X.env x = pure x := by intro _; rfl) : PS X (.For tg iter body [] pos) (tFor wi g tb) := by
  intro pins s σ H D I h
  refine wpAny_For (thn (hi pins s σ H _ I h) fun v s1 h1 => thn h1 fun itv s2 h2 => ?_) hs
  obtain ⟨it, fp, tn, J, H2, e, I2, T, st2, f2, W, ⟨m0, w0⟩, turn⟩ := h2
  subst e
  -- what stays true of the iterator's objects through the loop
  have stat : ∀ {H' : Hp}, (∀ b ∈ fp, H' b = none) → ∀ b ∈ fp, We X pins H' b := fun hn b hb => ⟨hn b hb, (f2 b hb).2⟩
  refine codeAny_forLoop_any (fun n s' => ∃ i σ' H', Inv X pins σ' H' s' ∧ tn i s'.heap ∧ (∀ b ∈ fp, H' b = none) ∧ W i n σ' H') ?_ m0 ⟨0, σ, H2, I2, st2, fun b hb => (f2 b hb).1, w0⟩
  rintro n s3 ⟨i, σ3, H3, I3, st3, fr3, w3⟩
  rcases turn i n σ3 H3 w3 with ⟨stop, qn⟩ | ⟨go, N, hN, step⟩
  · refine wpAny_passesOwn hp (thn (T.done X rfl rfl rfl hc i pins s3 σ3 H3 X.xe I3 (stat fr3) st3 stop) fun r s4 hh9 => ?_)
    obtain ⟨hr, I4⟩ := hh9
    subst hr
    exact wpAny_execs_nil ⟨σ3, H3, I4, qn⟩
  · refine wpAny_passesOwn hp (thn (T.item X rfl rfl rfl hc i pins s3 σ3 H3 X.xe I3 (stat fr3) st3 go) fun r s4 hh9 => ?_)
    obtain ⟨u, hr, h4⟩ := hh9
    subst hr
    refine wpAny_passesOwn hp (thn h4 fun _ s5 hh9 => ?_)
    obtain ⟨x, H5, I5, r5, y5, st5, fr5⟩ := hh9
    have I5' := I5.pinned (stat fr5) (T.obj _ _ st5)
    refine wpAny_passesOwn hp (thn (hg _ s5 σ3 H5 x u _ I5' r5 (step x H5 y5)) fun _ s6 hh9 => ?_)
    obtain ⟨σ6, H6, I6, q6⟩ := hh9
    refine wpAny_passesOwn hp (thn (hb _ s6 σ6 H6 _ I6 q6) fun f s7 q7 => ?_)
    have again : ∀ {σ7 : St} {H7 : Hp}, Inv X (pins ++ Yo fp s5.heap) σ7 H7 s7 → N σ7 H7 → ∃ m, m < n ∧ ∃ i σ' H', Inv X pins σ' H' s7 ∧ tn i s7.heap ∧ (∀ b ∈ fp, H' b = none) ∧ W i m σ' H' := fun {σ7 H7} I7 n7 => by
      obtain ⟨m', hm, w7⟩ := hN σ7 H7 n7
      refine ⟨m', hm, i + 1, σ7, H7, I7.unpinned, T.keep _ _ _ st5 fun b hb o e => (I7.pin (b, o) (List.mem_append_right _ (List.mem_append_right _ (wl hb e)))).1, fun b hb => ?_, w7⟩
      obtain ⟨o, e, d⟩ := T.obj _ _ st5 b hb
      exact (I7.pin (b, o) (List.mem_append_right _ (List.mem_append_right _ (wl hb e)))).2.1
    cases f with
    | next => obtain ⟨σ7, H7, I7, n7⟩ := q7; exact again I7 n7
    | cont => obtain ⟨σ7, H7, I7, n7⟩ := q7; exact again I7 n7
    | brk => obtain ⟨σ7, H7, I7, q7⟩ := q7; exact ⟨σ7, H7, I7.unpinned, q7⟩
    | ret v => obtain ⟨x7, σ7, H7, I7, r7, q7⟩ := q7; exact ⟨x7, σ7, H7, I7.unpinned, r7, q7⟩
end
end L2
namespace L2
open PySem PySem.Spec PyProof.Rows
noncomputable abbrev R2 := V → V → Hp → VK → Prop
noncomputable def OpR (X : Cx) (f : Value → Value → Sem Value) (r : R2) : Prop :=
  ∀ (pins : List (Addr × Obj)) (s : Shared) (σ : St) (H : Hp) (x y : V) (v u : Value) (Q : VK), Inv X pins σ H s → yP x v → yP y u → r x y H Q →
    wpAny (model X.prog X.w) X.A (f v u) (EP X pins σ Q) X.xe s
noncomputable def UnR (X : Cx) (f : Value → Sem Value) (r : V → Hp → VK → Prop) : Prop :=
  ∀ (pins : List (Addr × Obj)) (s : Shared) (σ : St) (H : Hp) (x : V) (v : Value) (Q : VK), Inv X pins σ H s → yP x v → r x H Q →
    wpAny (model X.prog X.w) X.A (f v) (EP X pins σ Q) X.xe s
noncomputable def vC (X : Cx) (f : Value) (r : List V → Hp → VK → Prop) : Prop :=
  ∀ (pins : List (Addr × Obj)) (s : Shared) (σ : St) (H : Hp) (xs : List V) (us : List Value) (Q : VK), Inv X pins σ H s → yd xs us → r xs H Q →
    wpAny (model X.prog X.w) X.A (call f us) (EP X pins σ Q) X.xe s
noncomputable def tOp (r : R2) (ta tb : TE) : TE := fun σ H Q => ta σ H fun x H1 => tb σ H1 fun y H2 => r x y H2 Q
noncomputable def tUn (r : V → Hp → VK → Prop) (ta : TE) : TE := fun σ H Q => ta σ H fun x H1 => r x H1 Q
noncomputable def rI (C : Int → Int → Prop) (g : Int → Int → V) : R2 := fun x y H Q => ∃ i j, x = .int i ∧ y = .int j ∧ C i j ∧ Q (g i j) H
noncomputable def rI0 (g : Int → Int → V) : R2 := fun x y H Q => ∃ i j, x = .int i ∧ y = .int j ∧ Q (g i j) H
noncomputable def rU (g : Int → V) : V → Hp → VK → Prop := fun x H Q => ∃ i, x = .int i ∧ Q (g i) H
section
variable {X : Cx} {a b c : Expr} {ta tb tc : TE} {pos : Pos}
theorem zdc (ha : PE X a ta) (hb : PE X b tb) {pins : List (Addr × Obj)} {s : Shared} {σ : St} {H : Hp} {R : V → V → Hp → Prop} (I : Inv X pins σ H s)
    (h : ta σ H fun x H1 => tb σ H1 fun y H2 => R x y H2) {Q : Value → Shared → Prop} {f : Value → Value → Sem Value}
    (hf : ∀ v u s2 x y H2, Inv X pins σ H2 s2 → yP x v → yP y u → R x y H2 → wpAny (model X.prog X.w) X.A (f v u) Q X.xe s2) :
    wpAny (model X.prog X.w) X.A (eval a X.env) (fun v s₁ => wpAny (model X.prog X.w) X.A (eval b X.env) (fun u s₂ => wpAny (model X.prog X.w) X.A (f v u) Q X.xe s₂) X.xe s₁) X.xe s := by
  refine thn (ha pins s σ H _ I h) fun v s1 hh9 => ?_
  obtain ⟨x, H1, I1, r1, q1⟩ := hh9
  refine thn (hb pins s1 σ H1 _ I1 q1) fun u s2 hh9 => ?_
  obtain ⟨y, H2, I2, r2, q2⟩ := hh9
  exact hf v u s2 x y H2 I2 r1 r2 q2
theorem Vv {op : Operator} {r : R2} (ho : OpR X (binaryOp op) r) (ha : PE X a ta) (hb : PE X b tb) : PE X (.BinOp a op b pos) (tOp r ta tb) := by
  intro pins s σ H Q I h
  exact wpAny_BinOp (zdc ha hb I h fun v u s2 x y H2 I2 rx ry q => ho pins s2 σ H2 x y v u Q I2 rx ry q)
theorem zcA {op : UnaryOp} {r : V → Hp → VK → Prop} (ho : UnR X (unaryOp op) r) (ha : PE X a ta) : PE X (.UnaryOp op a pos) (tUn r ta) := by
  intro pins s σ H Q I h
  exact UnaryOp_ (thn (ha pins s σ H _ I h) fun v s1 ⟨x, H1, I1, r1, q1⟩ => ho pins s1 σ H1 x v Q I1 r1 q1)
theorem opI {f : Value → Value → Sem Value} {C : Int → Int → Prop} {g : Int → Int → Int}
    (rule : ∀ (i j : Int) (t u : Tok) (s : Shared) (Q : Value → Shared → Prop) (E : Value → Shared → Prop), C i j → Q (.int (g i j) s.toks) { s with toks := s.toks + 1 } → wpAny (model X.prog X.w) X.A (f (.int i t) (.int j u)) Q E s) :
    OpR X f (rI C fun i j => .int (g i j)) := by
  intro pins s σ H x y v u Q I rx ry h
  obtain ⟨i, j, rfl, rfl, hc, q⟩ := h
  obtain ⟨t, rfl⟩ := rx
  obtain ⟨t', rfl⟩ := ry
  exact rule i j t t' s _ _ hc ⟨.int (g i j), H, I.tok _, ⟨_, rfl⟩, q⟩
theorem zdK {f : Value → Value → Sem Value} {g : Int → Int → Int}
    (rule : ∀ (i j : Int) (t u : Tok) (s : Shared) (Q : Value → Shared → Prop) (E : Value → Shared → Prop), Q (.int (g i j) s.toks) { s with toks := s.toks + 1 } → wpAny (model X.prog X.w) X.A (f (.int i t) (.int j u)) Q E s) :
    OpR X f (rI0 fun i j => .int (g i j)) := by
  intro pins s σ H x y v u Q I rx ry h
  obtain ⟨i, j, rfl, rfl, q⟩ := h
  obtain ⟨t, rfl⟩ := rx
  obtain ⟨t', rfl⟩ := ry
  exact rule i j t t' s _ _ ⟨.int (g i j), H, I.tok _, ⟨_, rfl⟩, q⟩
theorem opB0 {f : Value → Value → Sem Value} {g : Int → Int → Bool}
    (rule : ∀ (i j : Int) (t u : Tok) (s : Shared) (Q : Value → Shared → Prop) (E : Value → Shared → Prop), Q (.bool (g i j)) s → wpAny (model X.prog X.w) X.A (f (.int i t) (.int j u)) Q E s) :
    OpR X f (rI0 fun i j => .bl (g i j)) := by
  intro pins s σ H x y v u Q I rx ry h
  obtain ⟨i, j, rfl, rfl, q⟩ := h
  obtain ⟨t, rfl⟩ := rx
  obtain ⟨t', rfl⟩ := ry
  exact rule i j t t' s _ _ ⟨.bl (g i j), H, I, rfl, q⟩
noncomputable def zdA (i j : Int) : Prop := (-(2 ^ 64) < i ∧ i < 2 ^ 64) ∨ (-(2 ^ 64) < j ∧ j < 2 ^ 64)
theorem zdA.ok {i j : Int} (h : zdA i j) : IntMulOk i j := by
  rcases h with ⟨h1, h2⟩ | ⟨h1, h2⟩
  · exact .of_left (intBits_le_64 h1 h2)
  · exact .of_right (intBits_le_64 h1 h2)
theorem zcm : OpR X (binaryOp .Add) (rI0 fun i j => .int (i + j)) := zdK fun _ _ _ _ _ _ _ q => add_int q
theorem zcK : OpR X (binaryOp .Sub) (rI0 fun i j => .int (i - j)) := zdK fun _ _ _ _ _ _ _ q => sub_int q
theorem zcY : OpR X (binaryOp .Mult) (rI zdA fun i j => .int (i * j)) := opI fun _ _ _ _ _ _ _ hc q => mul_int q hc.ok
theorem zcC : OpR X (binaryOp .Mod) (rI (fun _ j => 0 < j) fun i j => .int (i % j)) := opI fun i j _ _ _ _ _ hc q => by
  have h1 : (0 : Int) < j := hc
  exact mod_int' (by omega) (by rw [Int.fmod_eq_emod_of_nonneg i (by omega)]; exact q)
theorem zcu : OpR X (binaryOp .BitXor) (rI0 fun i j => .int (Builtin.bitXor i j)) := zdK fun _ _ _ _ _ _ _ q => xor_int q
theorem unI {f : Value → Sem Value} {g : Int → Int}
    (rule : ∀ (i : Int) (t : Tok) (s : Shared) (Q : Value → Shared → Prop) (E : Value → Shared → Prop), Q (.int (g i) s.toks) { s with toks := s.toks + 1 } → wpAny (model X.prog X.w) X.A (f (.int i t)) Q E s) :
    UnR X f (rU fun i => .int (g i)) := by
  intro pins s σ H x v Q I rx h
  obtain ⟨i, rfl, q⟩ := h
  obtain ⟨t, rfl⟩ := rx
  exact rule i t s _ _ ⟨.int (g i), H, I.tok _, ⟨_, rfl⟩, q⟩
theorem zaN : UnR X (unaryOp .USub) (rU fun i => .int (-i)) := unI fun _ _ _ _ _ q => neg_int q
end
noncomputable def scal : V → V → Bool
  | .non, .non => true | .non, .int _ => true | .int _, .non => true | .non, .bl _ => true | .bl _, .non => true | .non, .str _ => true | .str _, .non => true
  | .int _, .int _ => true | .bl _, .bl _ => true | .str _, .str _ => true | .byt _, .byt _ => true
  | .int _, .str _ => true | .str _, .int _ => true | .bl _, .str _ => true | .str _, .bl _ => true
  | _, _ => false
noncomputable def rEq : R2 := fun x y H Q => scal x y = true ∧ Q (.bl (decide (x = y))) H
noncomputable def rNe : R2 := fun x y H Q => scal x y = true ∧ Q (.bl (!decide (x = y))) H
theorem ZL {i j : Int} : decide (V.int i = V.int j) = (i == j) := by
  rw [Bool.eq_iff_iff]
  simp
theorem zaF {i j : Bool} : decide (V.bl i = V.bl j) = (i == j) := by
  rw [Bool.eq_iff_iff]
  simp
theorem Wu {i j : Str} : decide (V.str i = V.str j) = (i == j) := by
  rw [Bool.eq_iff_iff]
  simp
theorem Vf {i j : Array UInt8} : decide (V.byt i = V.byt j) = (i.toList == j.toList) := by
  rw [Bool.eq_iff_iff]
  cases i
  cases j
  simp
section
variable {X : Cx} {a b c : Expr} {ta tb tc : TE} {pos : Pos}
theorem zI {pins : List (Addr × Obj)} {σ : St} {H : Hp} {s : Shared} {Q : VK} {k k' : Bool} (I : Inv X pins σ H s) (q : Q (.bl k) H) (e : k = k') : EP X pins σ Q (.bool k') s := by
  subst e
  exact ⟨.bl k, H, I, rfl, q⟩
theorem zdx : OpR X (compareOp .Eq) rEq := by
  intro pins s σ H x y v u Q I rx ry h
  obtain ⟨hs, q⟩ := h
  cases x with
  | non =>
    cases rx
    cases y with
    | non => cases ry; exact PySem.EqNone.eq_none_none (zI I q (by simp))
    | bl j => cases ry; exact PySem.EqNone.eq_none_bool (zI I q (by simp))
    | int j => obtain ⟨t', rfl⟩ := ry; exact PySem.EqNone.eq_none_int (zI I q (by simp))
    | str j => obtain ⟨t', rfl⟩ := ry; exact PySem.EqNone.eq_none_str (zI I q (by simp))
    | _ => exact absurd (show false = true from hs) Bool.false_ne_true
  | bl i =>
    cases rx
    cases y with
    | non => cases ry; exact PySem.EqNone.eq_bool_none (zI I q (by simp))
    | bl j => cases ry; exact eq_bool (zI I q zaF)
    | str j => obtain ⟨t', rfl⟩ := ry; exact PySem.EqMixed.eq_bool_str (zI I q (by simp))
    | _ => exact absurd (show false = true from hs) Bool.false_ne_true
  | int i =>
    obtain ⟨t, rfl⟩ := rx
    cases y with
    | non => cases ry; exact PySem.EqNone.eq_int_none (zI I q (by simp))
    | int j => obtain ⟨t', rfl⟩ := ry; exact eq_int (zI I q ZL)
    | str j => obtain ⟨t', rfl⟩ := ry; exact PySem.EqMixed.eq_int_str (zI I q (by simp))
    | _ => exact absurd (show false = true from hs) Bool.false_ne_true
  | str i =>
    obtain ⟨t, rfl⟩ := rx
    cases y with
    | non => cases ry; exact PySem.EqNone.eq_str_none (zI I q (by simp))
    | bl j => cases ry; exact PySem.EqMixed.eq_str_bool (zI I q (by simp))
    | int j => obtain ⟨t', rfl⟩ := ry; exact PySem.EqMixed.eq_str_int (zI I q (by simp))
    | str j => obtain ⟨t', rfl⟩ := ry; exact eq_str (zI I q Wu)
    | _ => exact absurd (show false = true from hs) Bool.false_ne_true
  | byt i =>
    obtain ⟨t, rfl⟩ := rx
    cases y with
    | byt j => obtain ⟨t', rfl⟩ := ry; exact PySem.W.eq_bytes (zI I q Vf)
    | _ => exact absurd (show false = true from hs) Bool.false_ne_true
  | _ => cases y <;> exact absurd (show false = true from hs) Bool.false_ne_true
theorem Z0 : OpR X (compareOp .NotEq) rNe := by
  intro pins s σ H x y v u Q I rx ry h
  obtain ⟨hs, q⟩ := h
  cases x with
  | non =>
    cases rx
    cases y with
    | non => cases ry; exact PySem.EqNone.ne_none_none (zI I q (by simp))
    | bl j => cases ry; exact PySem.EqNone.ne_none_bool (zI I q (by simp))
    | int j => obtain ⟨t', rfl⟩ := ry; exact PySem.EqNone.ne_none_int (zI I q (by simp))
    | str j => obtain ⟨t', rfl⟩ := ry; exact PySem.EqNone.ne_none_str (zI I q (by simp))
    | _ => exact absurd (show false = true from hs) Bool.false_ne_true
  | bl i =>
    cases rx
    cases y with
    | non => cases ry; exact PySem.EqNone.ne_bool_none (zI I q (by simp))
    | bl j => cases ry; exact ne_bool (zI I q (congrArg not zaF))
    | str j => obtain ⟨t', rfl⟩ := ry; exact PySem.EqMixed.ne_bool_str (zI I q (by simp))
    | _ => exact absurd (show false = true from hs) Bool.false_ne_true
  | int i =>
    obtain ⟨t, rfl⟩ := rx
    cases y with
    | non => cases ry; exact PySem.EqNone.ne_int_none (zI I q (by simp))
    | int j => obtain ⟨t', rfl⟩ := ry; exact ne_int (zI I q (congrArg not ZL))
    | str j => obtain ⟨t', rfl⟩ := ry; exact PySem.EqMixed.ne_int_str (zI I q (by simp))
    | _ => exact absurd (show false = true from hs) Bool.false_ne_true
  | str i =>
    obtain ⟨t, rfl⟩ := rx
    cases y with
    | non => cases ry; exact PySem.EqNone.ne_str_none (zI I q (by simp))
    | bl j => cases ry; exact PySem.EqMixed.ne_str_bool (zI I q (by simp))
    | int j => obtain ⟨t', rfl⟩ := ry; exact PySem.EqMixed.ne_str_int (zI I q (by simp))
    | str j => obtain ⟨t', rfl⟩ := ry; exact ne_str (zI I q (congrArg not Wu))
    | _ => exact absurd (show false = true from hs) Bool.false_ne_true
  | byt i =>
    obtain ⟨t, rfl⟩ := rx
    cases y with
    | byt j => obtain ⟨t', rfl⟩ := ry; exact PySem.W.ne_bytes (zI I q (congrArg not Vf))
    | _ => exact absurd (show false = true from hs) Bool.false_ne_true
  | _ => cases y <;> exact absurd (show false = true from hs) Bool.false_ne_true
theorem V9 : OpR X (compareOp .LtE) (rI0 fun i j => .bl (decide (i ≤ j))) := opB0 fun _ _ _ _ _ _ _ q => le_int q
theorem zbH : OpR X (compareOp .Is) (fun x y H Q => y = .non ∧ Q (.bl (decide (x = .non))) H) := by
  intro pins s σ H x y v u Q I rx ry h
  obtain ⟨rfl, q⟩ := h
  cases ry
  refine is_none_gen (zI I q ?_)
  cases x <;> first
    | (cases rx; rfl)
    | (obtain ⟨t, rfl⟩ := rx; rfl)
theorem za4 : OpR X (compareOp .IsNot) (fun x y H Q => y = .non ∧ Q (.bl (!decide (x = .non))) H) := by
  intro pins s σ H x y v u Q I rx ry h
  obtain ⟨rfl, q⟩ := h
  cases ry
  refine isnot_none_gen (zI I q ?_)
  cases x <;> first
    | (cases rx; rfl)
    | (obtain ⟨t, rfl⟩ := rx; rfl)
theorem OpR.or {f : Value → Value → Sem Value} {r r' : R2} (h : OpR X f r) (h' : OpR X f r') : OpR X f (fun x y H Q => r x y H Q ∨ r' x y H Q) := by
  intro pins s σ H x y v u Q I rx ry q
  rcases q with q | q
  · exact h pins s σ H x y v u Q I rx ry q
  · exact h' pins s σ H x y v u Q I rx ry q
theorem zv (b : Expr) {op : CmpOp} (h : op ≠ .In := by decide) (h2 : op ≠ .NotIn := by decide) : behindInMarks op b = false := by
  have e1 : (op == CmpOp.In) = false := by cases op <;> first | rfl | exact absurd rfl h
  have e2 : (op == CmpOp.NotIn) = false := by cases op <;> first | rfl | exact absurd rfl h2
  cases b <;> simp [behindInMarks, e1, e2]
theorem W6 {op : CmpOp} {r : R2} (ho : OpR X (compareOp op) r) (ha : PE X a ta) (hb : PE X b tb) (hm : behindInMarks op b = false) : PE X (.Compare a [op] [b] pos) (tOp r ta tb) := by
  intro pins s σ H Q I h
  exact wpAny_Compare1 (zdc ha hb I h fun v u s2 x y H2 I2 rx ry q => ho pins s2 σ H2 x y v u Q I2 rx ry q) hm
noncomputable def zbi (t : TE) : TT := fun σ H Q => t σ H fun x H' => ∃ k, x = .bl k ∧ Q k H'
theorem WF {op : CmpOp} {r : R2} (ho : OpR X (compareOp op) r) (ha : PE X a ta) (hb : PE X b tb) (hm : behindInMarks op b = false) : PT X (.Compare a [op] [b] pos) (zbi (tOp r ta tb)) := by
  intro pins s σ H Q I h
  refine wpAny_isTrue_Compare1 (thn (ha pins s σ H _ I h) fun v s1 ⟨x, H1, I1, r1, q1⟩ => thn (hb pins s1 σ H1 _ I1 q1) fun u s2 ⟨y, H2, I2, r2, q2⟩ =>
    thn (ho pins s2 σ H2 x y v u _ I2 r1 r2 q2) fun c s3 ⟨z, H3, I3, r3, k, e, q3⟩ => ?_) hm
  subst e
  cases r3
  exact wpAny_truthy_bool ⟨H3, I3, q3⟩
noncomputable def WM (r r' : R2) (ta tb tc : TE) : TE := fun σ H Q => ta σ H fun x H1 => tb σ H1 fun y H2 => r x y H2 fun z H3 => ∃ k, z = .bl k ∧
  (if k = true then tc σ H3 fun w' H4 => r' y w' H4 Q else Q (.bl false) H3)
theorem VX {op op' : CmpOp} {r r' : R2} (ho : OpR X (compareOp op) r) (ho' : OpR X (compareOp op') r') (ha : PE X a ta) (hb : PE X b tb) (hc : PE X c tc)
    (hm : lastMarks [op, op'] [b, c] = false := by with_unfolding_all rfl) : PE X (.Compare a [op, op'] [b, c] pos) (WM r r' ta tb tc) := by
  intro pins s σ H Q I h
  refine Compare_chain (thn (ha pins s σ H _ I h) fun v s1 ⟨x, H1, I1, r1, q1⟩ => chain_link (thn (hb pins s1 σ H1 _ I1 q1) fun u s2 ⟨y, H2, I2, r2, q2⟩ =>
    thn (ho pins s2 σ H2 x y v u _ I2 r1 r2 q2) fun d s3 ⟨z, H3, I3, r3, k, e, q3⟩ => ?_)) hm
  subst e
  cases r3
  refine wpAny_truthy_bool ?_
  cases k with
  | false => exact ite_ff ⟨.bl false, H3, I3, rfl, q3⟩
  | true => exact ite_tt (chain_last (thn (hc pins s3 σ H3 _ I3 q3) fun w' s4 ⟨z', H4, I4, r4, q4⟩ => ho' pins s4 σ H4 y z' u w' Q I4 r2 r4 q4))
theorem vO : (sizeLine : Nat) < 2 ^ 63 := by rw [sizeLine_eq]; decide
theorem X4 : OpR X (binaryOp .Add) (fun x y H Q => ∃ i j, x = .str i ∧ y = .str j ∧ i.length + j.length ≤ sizeLine ∧ Q (.str (i ++ j)) H) := by
  intro pins s σ H x y v u Q I rx ry h
  obtain ⟨i, j, rfl, rfl, hz, q⟩ := h
  obtain ⟨t, rfl⟩ := rx
  obtain ⟨t', rfl⟩ := ry
  exact add_str (fun t' tk => ⟨.str (i ++ j), H, I.tok _, ⟨_, rfl⟩, q⟩) hz
theorem X6 {x : V} {us : List Value} (r : yd [x] us) : ∃ u, us = [u] ∧ yP x u := by
  cases r with
  | cons r1 r2 => cases r2; exact ⟨_, rfl, r1⟩
theorem zcn {x y : V} {us : List Value} (r : yd [x, y] us) : ∃ u w', us = [u, w'] ∧ yP x u ∧ yP y w' := by
  cases r with
  | cons r1 r2 =>
    cases r2 with
    | cons r3 r4 => cases r4; exact ⟨_, _, rfl, r1, r3⟩
theorem Vc : vC X (.type "int") (fun xs H Q => (∃ i, xs = [.int i] ∧ Q (.int i) H) ∨ ∃ k, xs = [.bl k] ∧ Q (.int (if k then 1 else 0)) H) := by
  intro pins s σ H xs us Q I r h
  rcases h with ⟨i, rfl, q⟩ | ⟨k, rfl, q⟩
  · obtain ⟨u, rfl, t, rfl⟩ := X6 r
    exact call_int_int ⟨.int i, H, I, ⟨_, rfl⟩, q⟩
  · obtain ⟨u, rfl, r1⟩ := X6 r
    cases r1
    exact call_int_bool ⟨.int (if k then 1 else 0), H, I.tok _, ⟨_, rfl⟩, q⟩
end
end L2
namespace L2
open PySem PySem.Spec PyProof.Rows
set_option genInjectivity false in
set_option genSizeOf false in
set_option genCtorIdx false in
structure zdz (h : Heap) (x dx C : Addr) (mA : Str → Option Value) : Prop where
  obj : h.get? x = some (PySem.W.instObj C dx)
  ns : h.Ns1 dx mA
  ne : dx ≠ x
theorem Vj {h : Heap} {dx : Addr} {mA : Str → Option Value} (n : h.Ns1 dx mA) : ∃ od, h.get? dx = some od ∧ ∀ name, PySem.W.lookIn name od = some (mA name) := by
  obtain ⟨o, es, ep, ho, hd, hk, _, hm⟩ := n
  refine ⟨o, ho, fun name => ?_⟩
  have e := hm name
  unfold nsFind findBy at e
  rw [← Array.find?_toList] at e
  unfold PySem.W.lookIn
  rw [hd]
  dsimp only
  split
  · rename_i y q
    rw [q] at e
    exact congrArg some e
  · rename_i q
    rw [q] at e
    have a : es.toList.any (·.refKey) = false := by
      rw [List.any_eq_false]
      intro y hy
      obtain ⟨z, t, hkey⟩ := hk y (Array.mem_toList_iff.mp hy)
      simp [DictEntry.refKey, hkey]
    have a' : ¬ es.toList.any (·.refKey) = true := by rw [a]; exact Bool.false_ne_true
    rw [if_neg a']
    exact congrArg some e
theorem zdz.look {h : Heap} {x dx C : Addr} {mA : Str → Option Value} (I : zdz h x dx C mA) : ∃ od, PySem.W.InstAt h x (PySem.W.instObj C dx) C (some od) ∧ ∀ name, PySem.W.lookIn name od = some (mA name) :=
  let ⟨od, ho, hl⟩ := Vj I.ns
  ⟨od, ⟨I.obj, rfl, rfl, ho⟩, hl⟩
section
variable {prog : Program} {w : World} {A : Around} {E : Value → Shared → Prop} {s : Shared} {K : PySem.W.Frag} {x dx C f : Addr} {mA : Str → Option Value} {name : Str} {v : Value}
end
section
variable {P : Program} {w : World} {H H' : Hp} {h h' : Heap} {a C dx : Addr} {fs fs' : List (Str × V)}
theorem zbv (hok : HOk P w H h) (e : H a = some (.ins C dx fs)) : ∃ mA, zdz h a dx C mA ∧ (∀ f, zdd (fs.lookup f) (mA f)) ∧ PySem.Within mA (fs.map (·.1)) ∧ fs.length ≤ 1000 ∧ H dx = some (.own a) := by
  obtain ⟨d, z, ne, ob, mA, n, r, q⟩ := (show yX P w H h a (.ins C dx fs) from hok a _ e)
  exact ⟨mA, ⟨ob, n, ne⟩, r, q, z, d⟩
end
set_option genInjectivity false in
set_option genSizeOf false in
set_option genCtorIdx false in
structure Cls (K : PySem.W.Frag) (C : Addr) : Prop where
  pg : PySem.W.plainGet K C Str.empty = true
  hd : PySem.W.hasDictIn K C = true
  po : PySem.W.plainOver K C = true
  sa : PySem.W.findIn K (.ref C) "__setattr__" = some (some (.builtin "object.__setattr__"))
theorem Cls.get {K : PySem.W.Frag} {C : Addr} (c : Cls K C) (f : Str) : PySem.W.plainGet K C f = true := c.pg
section
variable {X : Cx} {pins : List (Addr × Obj)} {σ : St} {H : Hp} {s : Shared} {a C dx : Addr} {fs : List (Str × V)} {f : Str} {v : V} {A : Around} {E : Value → Shared → Prop}
end
section
variable {X : Cx} {o e value : Expr} {f : Str} {pos pos' tpos : Pos} {ta tv : TE}
end
section
variable {X : Cx} {pins : List (Addr × Obj)} {σ : St} {H : Hp} {s : Shared} {A : Around} {E : Value → Shared → Prop} {Q : Value → Shared → Prop} {c : Value} {b : Bool}
inductive Xv (K : PySem.W.Frag) (H : Hp) : V → Value → Prop where
  | non : Xv K H .non (.type "NoneType")
  | bl (x : Bool) : Xv K H (.bl x) (.type "bool")
  | int (i : Int) : Xv K H (.int i) (.type "int")
  | str (x : Str) : Xv K H (.str x) (.type "str")
  | flt (x : UInt64) : Xv K H (.flt x) (.type "float")
  | lst {a : Addr} {xs : List V} (e : H a = some (.lst xs)) : Xv K H (.ref a) (.type "list")
  | frz {a : Addr} {o : Obj} {xs : List V} (e : H a = some (.frz o (.lst xs))) : Xv K H (.ref a) (.type "list")
  | tup {a : Addr} {xs : List V} (e : H a = some (.tup xs)) : Xv K H (.ref a) (.type "tuple")
  | dK {a : Addr} {kvs : List (Key × V)} (e : H a = some (.dK kvs)) : Xv K H (.ref a) (.type "dict")
  | dT {a : Addr} {kvs : List (List Key × V)} (e : H a = some (.dT kvs)) : Xv K H (.ref a) (.type "dict")
  | ins {a C dx : Addr} {fs : List (Str × V)} (e : H a = some (.ins C dx fs)) (cl : Cls K C) (ha : PySem.W.findIn K (.ref C) "__class__" = some (some (.builtin "object.__class__")))
      (hn : PySem.W.specialIn K (.builtin "object.__class__") "__get__" = some (some (.builtin "getset_descriptor.__get__"))) (htk : PySem.W.takesIn K (.builtin "object.__class__") = some true)
      (hm : PySem.W.mroIn K C (.type "object") = some true) : Xv K H (.ref a) (.ref C)
theorem VC {x : V} {u t : Value} (I : Inv X pins σ H s) (rx : yP x u) (ty : Xv X.K H x t) (e : PySem.W.kitOne X.K t c = some b) (h : ∀ tk, Q (.bool b) { s with toks := tk }) :
    wpAny (model X.prog X.w) A (call (.builtin "isinstance") [u, c]) Q E s := by
  cases ty with
  | non => cases (show u = Value.none from rx); exact PySem.W.kia_one PySem.W.kitx_none I.kIn True.intro e (fun z => nomatch z) h
  | bl y => cases (show u = Value.bool y from rx); exact PySem.W.kia_one PySem.W.kitx_bool I.kIn True.intro e (fun z => nomatch z) h
  | int i => obtain ⟨t, q⟩ := (show ∃ t, u = Value.int i t from rx); cases q; exact PySem.W.kia_one PySem.W.kitx_int I.kIn True.intro e (fun z => nomatch z) h
  | str y => obtain ⟨t, q⟩ := (show ∃ t, u = Value.str y t from rx); cases q; exact PySem.W.kia_one PySem.W.kitx_str I.kIn True.intro e (fun z => nomatch z) h
  | flt y => obtain ⟨t, q⟩ := (show ∃ t, u = Value.float y t from rx); cases q; exact PySem.W.kia_one PySem.W.kitx_float I.kIn True.intro e (fun z => nomatch z) h
  | @lst a xs ea =>
    cases (show u = Value.ref a from rx)
    obtain ⟨_, _, n, _, h1⟩ := (show yX X.prog X.w H s.heap a (.lst xs) from I.hok a _ ea)
    exact PySem.W.kia_one PySem.W.kitx_list I.kIn ⟨_, h1, rfl⟩ e (fun z => nomatch z) h
  | @frz a ob xs ea =>
    cases (show u = Value.ref a from rx)
    obtain ⟨_, _, _, n, _, h1⟩ := (show yX X.prog X.w H s.heap a (.frz ob (.lst xs)) from I.hok a _ ea)
    exact PySem.W.kia_one PySem.W.kitx_list I.kIn ⟨_, h1, rfl⟩ e (fun z => nomatch z) h
  | @tup a xs ea =>
    cases (show u = Value.ref a from rx)
    obtain ⟨_, _, _, p⟩ := (show yX X.prog X.w H s.heap a (.tup xs) from I.hok a _ ea)
    obtain ⟨o, h1, h2, _⟩ := p
    exact PySem.W.kia_one PySem.W.kitx_tuple I.kIn ⟨o, h1, h2⟩ e (fun z => nomatch z) h
  | @dK a kvs ea =>
    cases (show u = Value.ref a from rx)
    obtain ⟨_, _, vs, _, p⟩ := (show yX X.prog X.w H s.heap a (.dK kvs) from I.hok a _ ea)
    obtain ⟨o, es, ep, h1, h2, _⟩ := p
    exact PySem.W.kia_one PySem.W.kitx_dict I.kIn ⟨o, h1, h2.1⟩ e (fun z => nomatch z) h
  | @dT a kvs ea =>
    cases (show u = Value.ref a from rx)
    obtain ⟨_, _, xs, _, o, es, ep, h1, h2, _⟩ := (show yX X.prog X.w H s.heap a (.dT kvs) from I.hok a _ ea)
    exact PySem.W.kia_one PySem.W.kitx_dict I.kIn ⟨o, h1, h2.1⟩ e (fun z => nomatch z) h
  | @ins a C dx fs ea cl ha hn htk hm =>
    cases (show u = Value.ref a from rx)
    obtain ⟨mA, O, _⟩ := zbv I.hok ea
    obtain ⟨od, J, _⟩ := O.look
    exact PySem.W.kia_one (PySem.W.kitx_own (cl.get _) cl.hd ha hn htk hm) I.kIn J e (fun z => nomatch z) h
end
end L2
namespace L2
open PySem PySem.Spec PyProof.Rows
set_option genInjectivity false in
set_option genSizeOf false in
set_option genCtorIdx false in
structure vy (k : Nat) (A : Around) : Prop where
  hd : A.handled = none
  dp : A.depth + 3 * k + 5 < recursionLimit
  un : A.units + 16 * k + 200 < cLine
theorem vy.mono {j k : Nat} {A : Around} (r : vy k A) (h : j ≤ k) : vy j A := ⟨r.hd, by have := r.dp; omega, by have := r.un; omega⟩
theorem vy.deeper {k : Nat} {A : Around} (r : vy (k + 1) A) (env : Env) : vy k (A.deeper env) :=
  ⟨r.hd, by have := r.dp; show A.depth + 1 + 3 * k + 5 < _; omega, by have := r.un; show A.units + 3 + 16 * k + 200 < _; omega⟩
theorem vy.depth {k : Nat} {A : Around} (r : vy k A) : A.depth < recursionLimit := by have := r.dp; omega
noncomputable def zaz : TA := fun _ H Q => Q [] H
noncomputable def vU (ta : TE) (tr : TA) : TA := fun σ H Q => ta σ H fun x H1 => tr σ H1 fun xs H2 => Q (x :: xs) H2
section
variable {X : Cx} {e : Expr} {es : List Expr} {te : TE} {t : TA} {pos : Pos}
theorem ya : PA X [] zaz := fun _ _ _ _ H Q I h => Calls.spliced_nil ⟨[], H, I, .nil, h⟩
theorem zl (ha : PE X e te) (hr : PA X es t) (hs : starEach (e :: es) X.env = (false, eval e X.env) :: starEach es X.env := by rfl) : PA X (e :: es) (vU te t) := by
  intro pos pins s σ H Q I h
  rw [hs]
  show wpAny _ _ (spliced ((false, eval e X.env) :: backTo pos (starEach es X.env))) _ _ s
  refine Calls.spliced_cons (thn (ha pins s σ H _ I h) fun u s1 hh9 => ?_)
  obtain ⟨x, H1, I1, r1, q1⟩ := hh9
  exact thn (hr pos pins s1 σ H1 _ I1 q1) fun us s2 ⟨xs, H2, I2, r2, q2⟩ => ⟨x :: xs, H2, I2, .cons r1 r2, q2⟩
noncomputable def tTup (t : TA) : TE := fun σ H Q => t σ H fun xs H1 => xs.length ≤ sizeLine ∧ ∀ p, H1 p = none → Q (.ref p) (upd H1 p (.tup xs))
noncomputable def zdn (t : TA) : TE := fun σ H Q => t σ H fun xs H1 => xs.length ≤ sizeLine ∧ ∀ p, H1 p = none → Q (.ref p) (upd H1 p (.lst xs))
theorem zch {x1} (h : PA X es t) : PE X (.Tuple es x1 pos) (tTup t) := by
  intro pins s σ H Q I hq
  refine wpAny_Tuple_spliced (thn (h pos pins s σ H _ I hq) fun us s1 ⟨xs, H1, I1, r, z, q⟩ => ⟨by rw [← r.length]; exact z, ?_⟩)
  have hf : H1 s1.heap.objs.size = none := I1.hok.fresh (Nat.le_refl _)
  refine ⟨.ref s1.heap.objs.size, upd H1 s1.heap.objs.size (.tup xs), I1.laid (t' := s1.toks) (fun b u e => Heap.get?_push_of_some _ e) (Nat.le_refl _) ?_, rfl, q _ hf⟩
  exact ⟨z, us, r, ⟨_, Heap.get?_push_size _ rfl, rfl, _, rfl⟩⟩
theorem ZB (h : PA X es t) : PE X (.List es pos) (zdn t) := by
  intro pins s σ H Q I hq
  refine wpAny_List_spliced (thn (h pos pins s σ H _ I hq) fun us s1 ⟨xs, H1, I1, r, z, q⟩ => ⟨by rw [← r.length]; exact z, ?_⟩)
  have hf : H1 s1.heap.objs.size = none := I1.hok.fresh (Nat.le_refl _)
  refine ⟨.ref s1.heap.objs.size, upd H1 s1.heap.objs.size (.lst xs), I1.laid (t' := s1.toks) (fun b u e => Heap.get?_push_of_some _ e) (Nat.le_refl _) ?_, rfl, q _ hf⟩
  exact ⟨z, us, 0, r, Heap.get?_push_size _ rfl⟩
end
noncomputable abbrev Sp := List V → Hp → VK → XK → Prop
noncomputable abbrev CXT := List Env → Hp → Shared → XK → Value → Shared → Prop
structure zbY (P : Program) (w : World) (K : PySem.W.Frag) (mg : Str → Option Value) (base : Heap) (A : Around) (outer : List Env) (s : Shared) (H : Hp) : Prop where
  frames : A.frames = some outer
  mod : Mod K mg base
  bs : ∀ b o, base.get? b = some o → s.heap.get? b = some o ∧ H b = none
  bsz : base.objs.size ≤ s.heap.objs.size
  funs : s.heap.FunFrames base outer
  frf : ∀ b ∈ frs outer, H b = none
  hok : HOk P w H s.heap
  bare : AllBare s.gens
noncomputable def CE (outer : List Env) (P : Program) (w : World) (H : Hp) (s : Shared) (Q : VK) (u : Value) (s' : Shared) : Prop :=
  ∃ v H', s'.os = s.os ∧ AllBare s'.gens ∧ Un (frs outer) [] H H' s.heap s'.heap ∧ HOk P w H' s'.heap ∧ yP v u ∧ Q v H'
noncomputable def CR (CX : CXT) (outer : List Env) (P : Program) (w : World) (H : Hp) (s : Shared) (Q : VK) (E : XK) (r : Result) (s' : Shared) : Prop :=
  match r with
  | .ok (.ret u) => CE outer P w H s Q u s'
  | .ok _ => False
  | .error e => CX outer H s E e s'
set_option genInjectivity false in
set_option genSizeOf false in
set_option genCtorIdx false in
structure xn (P : Program) (w : World) (K : PySem.W.Frag) (mg : Str → Option Value) (base : Heap) (CX : CXT) (k : Nat) (f : Addr) (fd : FuncData) (ps : List Str) (sp : Sp) : Prop where
  len : ∀ vs H Q E, sp vs H Q E → vs.length = ps.length
  run : ∀ (A : Around) (outer : List Env) (s : Shared) (H : Hp) (args : Args) (us : List Value) (vs : List V) (Q : VK) (E : XK), vy k A → zbY P w K mg base A outer s H → BindsTo s fd args (ps.zip us) → yd vs us → sp vs H Q E →
    codeAny (model P w) A (.call (.ref f) args) (CR CX outer P w H s Q E) s
theorem xn.mono {P : Program} {w : World} {K : PySem.W.Frag} {mg : Str → Option Value} {base : Heap} {CX : CXT} {j k : Nat} {f : Addr} {fd : FuncData} {ps : List Str} {sp : Sp} (F : xn P w K mg base CX j f fd ps sp) (h : j ≤ k) :
    xn P w K mg base CX k f fd ps sp := ⟨F.len, fun A outer s H args us vs Q E hr => F.run A outer s H args us vs Q E (hr.mono h)⟩
theorem xn.imp {P : Program} {w : World} {K : PySem.W.Frag} {mg : Str → Option Value} {base : Heap} {CX : CXT} {k : Nat} {f : Addr} {fd : FuncData} {ps : List Str} {sp sp' : Sp} (F : xn P w K mg base CX k f fd ps sp)
    (h : ∀ vs H Q E, sp' vs H Q E → sp vs H Q E) : xn P w K mg base CX k f fd ps sp' :=
  ⟨fun vs H Q E q => F.len vs H Q E (h _ _ _ _ q), fun A outer s H args us vs Q E hr he hb hv hs => F.run A outer s H args us vs Q E hr he hb hv (h _ _ _ _ hs)⟩
section
variable {X : Cx} {pins : List (Addr × Obj)} {σ : St} {H : Hp} {s s' : Shared}
theorem Inv.env0 (I : Inv X pins σ H s) : zbY X.prog X.w X.K X.mg X.base X.A X.stack s H :=
  ⟨I.ok.frames, I.ok.mod, I.bs, Nat.le_trans I.ok.bsz I.sz, I.stack, I.stkFree, I.hok, I.bare⟩
theorem Inv.after {Q : VK} {u : Value} (I : Inv X pins σ H s) (h : CE X.stack X.prog X.w H s Q u s') : EP X pins σ Q u s' := by
  obtain ⟨v, H', os, bare, un, hok, r, q⟩ := h
  obtain ⟨hh, g, d, t, os'⟩ := s'
  obtain rfl : os' = s.os := os
  exact ⟨v, H', I.call (h' := hh) (g' := g) (d' := d) (t' := t) (ch := []) un hok bare (fun b z => absurd z (by simp)), r, q⟩
end
noncomputable def zbd (sp : Sp) (dvs : List V) (E : XK) (t : TA) : TE := fun σ H Q => t σ H fun vs H1 => sp (vs ++ dvs) H1 Q E
noncomputable def YS (K : PySem.W.Frag) (fd : FuncData) (ps : List Str) (ds : List Value) : Prop :=
  ∀ (s : Shared) (us : List Value), K.In s.heap → (us ++ ds).length = ps.length → BindsTo s fd ⟨us, []⟩ (ps.zip (us ++ ds))
theorem YS.all {K : PySem.W.Frag} {fd : FuncData} {ps : List Str} (h : ∀ us : List Value, us.length = ps.length → bindArgs fd ⟨us, []⟩ = pure (ps.zip us)) : YS K fd ps [] := fun s us _ hl => by
  rw [List.append_nil] at hl ⊢
  exact .of_eq (h us hl)
noncomputable def vX (CX : CXT) (X : Cx) (E : XK) : Prop := ∀ (pins : List (Addr × Obj)) (σ : St) (H : Hp) (s : Shared) (e : Value) (s' : Shared), Inv X pins σ H s → CX X.stack H s E e s' → X.xe e s'
section
variable {X : Cx} {CX : CXT} {k : Nat} {f C : Addr} {fd : FuncData} {ps : List Str} {sp : Sp} {dvs : List V} {ds : List Value} {E : XK} {x m : Str} {p pos apos : Pos} {e o : Expr} {es : List Expr} {ta : TE} {t : TA}
theorem zcj {pins : List (Addr × Obj)} {σ : St} {H : Hp} {s : Shared} {Q : VK} {us : List Value} {vs : List V} (F : xn X.prog X.w X.K X.mg X.base CX k f fd ps sp) (hr : vy k X.A) (hb : YS X.K fd ps ds) (hd : yd dvs ds) (hx : vX CX X E)
    (I : Inv X pins σ H s) (r : yd vs us) (h : sp (vs ++ dvs) H Q E) : wpAny (model X.prog X.w) X.A (call (.ref f) us) (EP X pins σ Q) X.xe s := by
  have r2 : yd (vs ++ dvs) (us ++ ds) := r.append hd
  have hl : (us ++ ds).length = ps.length := by rw [← r2.length]; exact F.len _ _ _ _ h
  refine wpAny_call (codeAny_mono (F.run X.A X.stack s H ⟨us, []⟩ (us ++ ds) (vs ++ dvs) Q E hr I.env0 (hb s us I.kIn hl) r2 h) fun r s' hq => ?_)
  cases r with
  | error e => exact hx pins σ H s e s' I hq
  | ok fl =>
    cases fl with
    | ret u => exact I.after hq
    | next => exact False.elim hq
    | brk => exact False.elim hq
    | cont => exact False.elim hq
theorem Wh (F : xn X.prog X.w X.K X.mg X.base CX k f fd ps sp) (hr : vy k X.A) (hg : Gl X x) (hm : X.mg x = some (.ref f)) (hk : PySem.W.keepIn X.K (.ref f) = true) (hb : YS X.K fd ps ds) (hd : yd dvs ds) (hx : vX CX X E)
    (ha : PA X (e :: es) t) (hdb : (x == ("__debug__" : Str)) = false := by decide) (he : starEach (e :: es) X.env = (false, eval e X.env) :: starEach es X.env := by rfl) (hpl : (backTo pos (starEach es X.env)).any (·.1) = false := by rfl) :
    PE X (.Call (.Name x p) (e :: es) [] pos) (zbd sp dvs E t) := by
  intro pins s σ H Q I h
  refine wpAny_Call_Name_kw (vj I hg hm ?_ hdb)
  refine PySem.W.callWith_K (h₀ := X.base) I.ok.mod.kin hk (thn (ha pos pins s σ H _ I h) fun us s1 ⟨vs, H1, I1, r, q⟩ => ⟨I1.kIn, ?_⟩) he hpl
  exact zcj F hr hb hd hx I1 r q
end
section
variable {X : Cx} {CX : CXT} {k : Nat} {f C : Addr} {fd : FuncData} {ps ks : List Str} {sp : Sp} {E : XK} {x m : Str} {p pos apos kpos : Pos} {e o : Expr} {es : List Expr} {kws : List Keyword} {te ta : TE} {t tk : TA} {nm : Option Str}
variable {g : List Value → List Value → List Value} {gV : List V → List V → List V}
end
structure zE (N P : List Str) (sc : Scope) : Prop where
  kind : sc.kind = .function
  co : sc.isCoroutine = false
  gen : sc.isGenerator = false
  nd : N.Nodup
  pre : N.take P.length = P
  par : ∀ x ∈ P, sc.names.lookup x = some .local ∨ sc.names.lookup x = some .cell
  nofree : ∀ y ∈ sc.names, y.2 ≠ .free
theorem Zf {kindOf : Str → Option NameKind} {x : Str} : ∀ {binds : List (Str × Value)} {m : Str → Option Value}, (∀ v, (x, v) ∉ binds) → bindL kindOf binds m x = m x
  | [], _, _ => rfl
  | (n, v) :: r, m, h => by
    unfold bindL
    rw [Zf fun w hw => h w (List.mem_cons_of_mem _ hw)]
    split
    · have : x ≠ n := by rintro rfl; exact h v List.mem_cons_self
      simp [this]
    · rfl
theorem Zg {kindOf : Str → Option NameKind} {x : Str} : ∀ {binds : List (Str × Value)} {m : Str → Option Value}, (∀ v, (x, v) ∉ binds) → bindC kindOf binds m x = m x
  | [], _, _ => rfl
  | (n, v) :: r, m, h => by
    unfold bindC
    rw [Zg fun w hw => h w (List.mem_cons_of_mem _ hw)]
    split
    · rfl
    · have : x ≠ n := by rintro rfl; exact h v List.mem_cons_self
      simp [this]
theorem Zu {kindOf : Str → Option NameKind} {x : Str} {v : Value} : ∀ {P : List Str} {vs : List Value} {i : Nat} {m : Str → Option Value}, P.Nodup → P[i]? = some x → vs[i]? = some v → kindOf x = some .local →
    bindL kindOf (P.zip vs) m x = some v
  | [], _, _, _, _, h, _, _ => by simp at h
  | _ :: _, [], _, _, _, _, h, _ => by simp at h
  | p :: P, w :: vs, 0, m, nd, h1, h2, hk => by
    simp at h1 h2; subst h1; subst h2
    show bindL kindOf ((p, w) :: P.zip vs) m p = _
    unfold bindL
    rw [Zf fun v hv => (List.nodup_cons.mp nd).1 (List.of_mem_zip hv).1, if_pos hk]
    simp
  | p :: P, w :: vs, i + 1, m, nd, h1, h2, hk => by
    show bindL kindOf ((p, w) :: P.zip vs) m x = _
    unfold bindL
    exact Zu (i := i) (List.nodup_cons.mp nd).2 (by simpa using h1) (by simpa using h2) hk
theorem Ze {kindOf : Str → Option NameKind} {x : Str} {v : Value} : ∀ {P : List Str} {vs : List Value} {i : Nat} {m : Str → Option Value}, P.Nodup → P[i]? = some x → vs[i]? = some v → kindOf x ≠ some .local →
    bindC kindOf (P.zip vs) m x = some v
  | [], _, _, _, _, h, _, _ => by simp at h
  | _ :: _, [], _, _, _, _, h, _ => by simp at h
  | p :: P, w :: vs, 0, m, nd, h1, h2, hk => by
    simp at h1 h2; subst h1; subst h2
    show bindC kindOf ((p, w) :: P.zip vs) m p = _
    unfold bindC
    rw [Zg fun v hv => (List.nodup_cons.mp nd).1 (List.of_mem_zip hv).1, if_neg hk]
    simp
  | p :: P, w :: vs, i + 1, m, nd, h1, h2, hk => by
    show bindC kindOf ((p, w) :: P.zip vs) m x = _
    unfold bindC
    exact Ze (i := i) (List.nodup_cons.mp nd).2 (by simpa using h1) (by simpa using h2) hk
noncomputable def start (N : List Str) (vs : List V) : St := vs.map some ++ List.replicate (N.length - vs.length) none
noncomputable def Y2 (CX : CXT) (P : Program) (w : World) (K : PySem.W.Frag) (mg : Str → Option Value) (base : Heap) (N : List Str) (qual : Str) (scope : Scope) (f : Addr) (cd : Value) (A : Around) (outer : List Env) (s : Shared) (H : Hp) (E : XK) : Cx where
  prog := P
  w := w
  K := K
  mg := mg
  base := base
  A := A.deeper (envOfC qual scope s.heap.objs.size f cd)
  N := N
  s₀ := s
  H₀ := H
  env := envOfC qual scope s.heap.objs.size f cd
  outer := outer
  stack := envOfC qual scope s.heap.objs.size f cd :: outer
  ex := []
  calm := true
  fn := fun _ => true
  pn := []
  xe := fun e s' => wpAny (model P w) (A.deeper (envOfC qual scope s.heap.objs.size f cd)) (leaving (envOfC qual scope s.heap.objs.size f cd) e) (fun _ s'' => CX outer H s E e s'') (fun e' s'' => CX outer H s E e' s'') s'
theorem Xz {sc : Scope} {n : Nat} {x : Str} (h : sc.names.lookup x = some .cell) : ∃ c, (cellsFrom n sc.names []).lookup x = some c := by
  have q := PySem.W.cellsFrom_some sc.names n [] (.inl h)
  exact Option.isSome_iff_exists.mp q
theorem Zc {CX : CXT} {P : Program} {w : World} {K : PySem.W.Frag} {mg : Str → Option Value} {base : Heap} {N ps : List Str} {qual : Str} {scope : Scope} {f : Addr} {cd : Value} {A : Around} {outer : List Env} {s s1 : Shared} {H : Hp} {E : XK} {us : List Value} {vs : List V}
    (S : zE N ps scope) (hd : A.handled = none) (e0 : zbY P w K mg base A outer s H) (hl : vs.length = ps.length) (r : yd vs us)
    (x : InCallC s s.heap.objs.size (bindL (envOfC qual scope s.heap.objs.size f cd).kindOf (ps.zip us) fun _ => none) (cellsFrom (s.heap.objs.size + 1) scope.names []) (bindC (envOfC qual scope s.heap.objs.size f cd).kindOf (ps.zip us) fun _ => none) s1) :
    Inv (Y2 CX P w K mg base N qual scope f cd A outer s H E) [] (start N vs) H s1 := by
  have hpl : ps.length ≤ N.length := by have := congrArg List.length S.pre; rw [List.length_take] at this; omega
  obtain ⟨h1, tk, rfl, hk⟩ := x.done
  have noA : ∀ b : Addr, b ∉ (Y2 CX P w K mg base N qual scope f cd A outer s H E).ex := fun b z => absurd (show b ∈ ([] : List Addr) from z) (by simp)
  refine ⟨⟨e0.mod, S.kind, rfl, rfl, Nat.le_refl _, fun y z c h1 h2 => ?_, fun y hy => ?_, fun y c _ h => ?_, fun _ => hd, Around.frames_deeper e0.frames, .inr ⟨rfl, rfl⟩, fun b z => absurd z (noA b), e0.bs, e0.bsz, fun b _ _ => noA b, fun b z => absurd z (noA b), e0.funs, e0.frf⟩,
    rfl, e0.bare, Un.kept hk, ⟨_, x.toInCall.ns, fun i y v h1 h2 h3 => ?_⟩, fun y c h => ⟨_, x.cell y c h⟩, e0.hok.fresh (Nat.le_refl _), fun y c h => ?_, fun p hp => absurd (show p ∈ ([] : List (Addr × Obj)) from hp) (by simp), e0.hok.kept hk, ?_⟩
  · exact name_of_addr x.apart (PySem.mem_of_lookup h1) (PySem.mem_of_lookup h2)
  · have hy : scope.names.lookup y = some .cell ∨ scope.names.lookup y = some .free := hy
    rcases hy with hy | hy
    · exact Xz hy
    · exact absurd rfl (S.nofree _ (PySem.mem_of_lookup hy))
  · exact Nat.le_of_lt (x.above y c (PySem.mem_of_lookup h))
  · have hi : i < vs.length := by
      unfold start at h2
      by_cases hi : i < vs.length
      · exact hi
      · rw [List.getElem?_append_right (by simpa using hi)] at h2
        rw [List.getElem?_replicate] at h2
        split at h2 <;> cases h2
    have ha : vs[i]? = some v := by
      unfold start at h2
      rw [List.getElem?_append_left (by simpa using hi), List.getElem?_map] at h2
      cases e : vs[i]? with
      | none => rw [e] at h2; cases h2
      | some a => rw [e] at h2; cases h2; rfl
    obtain ⟨u, hu, rv⟩ := r.get ha
    have hp : ps[i]? = some y := by
      rw [← S.pre, List.getElem?_take_of_lt (by omega)]; exact h1
    have ndP : ps.Nodup := by rw [← S.pre]; exact S.nd.sublist (List.take_sublist _ _)
    refine ⟨u, rv, ?_⟩
    rcases S.par y (List.mem_of_getElem? hp) with k | k
    · exact .inl ⟨k, Zu ndP hp hu k⟩
    · obtain ⟨c, e⟩ := Xz (n := s.heap.objs.size + 1) k
      refine .inr ⟨.inl k, c, e, ?_⟩
      have q := x.cell y c e
      rw [Ze ndP hp hu (by show scope.names.lookup y ≠ _; rw [k]; decide)] at q
      exact q
  · exact e0.hok.fresh (Nat.le_of_lt (x.above y c (PySem.mem_of_lookup h)))
  · unfold start
    show _ = N.length
    rw [List.length_append, List.length_map, List.length_replicate]
    omega
theorem zcR {CX : CXT} {P : Program} {w : World} {K : PySem.W.Frag} {mg : Str → Option Value} {base : Heap} {k : Nat} {f : Addr} {name qual : Str} {params : Arguments} {body : List Stmt} {scope : Scope} {dV kV doc pm cdv ct oc : Value} {an od : Option Addr}
    {osl : Array (Option Value)} {N ps : List Str} {sp : Sp} (lk : K.lookup f = some ⟨oc, od, .func (PySem.W.fnOf name qual params body scope dV kV doc pm an cdv ct), osl⟩) (hcd : PySem.W.codeIn K cdv qual = true) (S : zE N ps scope)
    (len : ∀ vs H Q E, sp vs H Q E → vs.length = ps.length)
    (hbody : ∀ (A : Around) (outer : List Env) (s : Shared) (H : Hp) (vs : List V) (Q : VK) (E : XK), vy k (A.deeper (envOfC qual scope s.heap.objs.size f cdv)) → sp vs H Q E →
      ∃ t, PSs (Y2 CX P w K mg base N qual scope f cdv A outer s H E) body t ∧ t { nx := fun _ H' => Q .non H', rt := Q } (start N vs) H) :
    xn P w K mg base CX (k + 1) f (PySem.W.fnOf name qual params body scope dV kV doc pm an cdv ct) ps sp := by
  refine ⟨len, fun A outer s H args us vs Q E hr e0 hb r hsp => ?_⟩
  have hl := len _ _ _ _ hsp
  have KX : K.In s.heap := e0.mod.kin.keeps fun b o e => (e0.bs b o e).1
  have lim : s.heap.NoLimit := e0.mod.nolimit.keeps fun b o e => (e0.bs b o e).1
  have hkind : ∀ y ∈ ps.zip us, scope.names.lookup y.1 = some .local ∨ (scope.names.lookup y.1 = some .cell ∧ ((cellsFrom (s.heap.objs.size + 1) scope.names []).lookup y.1).isSome = true) := fun ⟨n, v⟩ hy => by
    rcases S.par n (List.of_mem_zip hy).1 with q | q
    · exact .inl q
    · exact .inr ⟨q, PySem.W.cellsFrom_some _ _ _ (.inl q)⟩
  refine codeAny_call_function hr.depth (KX _ _ lk) rfl S.co S.gen rfl (PySem.W.codeRec_of KX hcd) (hb _ _ _ _ ?_)
  refine wpAny_newFunctionEnv_cells S.kind hkind fun env he s1 x => ?_
  subst he
  refine ⟨lim.keeps x.toInCall.keep, codeAny_func ?_⟩
  obtain ⟨t, ht, hq⟩ := hbody A outer s H vs Q E (hr.deeper _) hsp
  have I : Inv (Y2 CX P w K mg base N qual scope f cdv A outer s H E) [] (start N vs) H s1 := Zc S hr.hd e0 hl r x
  refine wpAny_mono (ht [] s1 (start N vs) H _ I hq) (fun fl s' hs => ?_) fun e s' hs => hs
  have fin : ∀ {σ' : St} {H' : Hp} {v : V} {u : Value}, Inv (Y2 CX P w K mg base N qual scope f cdv A outer s H E) [] σ' H' s' → yP v u → Q v H' → CE outer P w H s Q u s' :=
    fun {σ' H' v u} J rv q => ⟨v, H', J.os, J.bare, J.base, J.hok, rv, q⟩
  cases fl with
  | ret u =>
    obtain ⟨v, σ', H', J, rv, q⟩ := hs
    exact fin J rv q
  | next =>
    obtain ⟨σ', H', J, q⟩ := hs
    exact fin (v := V.non) (u := Value.none) J rfl q
  | brk =>
    obtain ⟨_, _, _, q⟩ := hs
    exact False.elim q
  | cont =>
    obtain ⟨_, _, _, q⟩ := hs
    exact False.elim q
end L2
namespace L2
open PySem PySem.Spec PyProof.Rows
section
variable {X : Cx} {x : Str} {p pos : Pos} {e : Expr} {es : List Expr} {t : TA} {id T : String} {r : List V → Hp → VK → Prop}
noncomputable def tCB (r : List V → Hp → VK → Prop) (t : TA) : TE := fun σ H Q => t σ H fun vs H1 => r vs H1 Q
theorem zR (hc : vC X (.builtin id) r) (hg : Gl X x) (hm : X.mg x = none) (hv : bootBuiltins x = some (.builtin id)) (ha : PA X (e :: es) t) (hn : x ≠ "__name__" := by decide) (hdb : (x == ("__debug__" : Str)) = false := by decide)
    (he : starEach (e :: es) X.env = (false, eval e X.env) :: starEach es X.env := by rfl) (hpl : (backTo pos (starEach es X.env)).any (·.1) = false := by rfl) : PE X (.Call (.Name x p) (e :: es) [] pos) (tCB r t) := by
  intro pins s σ H Q I h
  refine wpAny_Call_Name_kw (Ys I hg hm hv ?_ hn hdb)
  exact PyProof.Rows.callWith_builtin1 (thn (ha pos pins s σ H _ I h) fun us s1 ⟨vs, H1, I1, r1, q1⟩ => hc pins s1 σ H1 vs us Q I1 r1 q1) he hpl
theorem Zr (hc : vC X (.type T) r) (hg : Gl X x) (hm : X.mg x = none) (hv : bootBuiltins x = some (.type T)) (ha : PA X (e :: es) t) (hn : x ≠ "__name__" := by decide) (hdb : (x == ("__debug__" : Str)) = false := by decide)
    (he : starEach (e :: es) X.env = (false, eval e X.env) :: starEach es X.env := by rfl) (hpl : (backTo pos (starEach es X.env)).any (·.1) = false := by rfl) : PE X (.Call (.Name x p) (e :: es) [] pos) (tCB r t) := by
  intro pins s σ H Q I h
  refine wpAny_Call_Name_kw (Ys I hg hm hv ?_ hn hdb)
  exact PyProof.Rows.callWith_type1 (thn (ha pos pins s σ H _ I h) fun us s1 ⟨vs, H1, I1, r1, q1⟩ => hc pins s1 σ H1 vs us Q I1 r1 q1) he hpl
end
end L2
namespace HT
open PySem PyProof.Rows
section
open PySem.SeqAt
open PySem.AutoSeq1 (wpAny_loadPart')
open PySem.MeetsSeq PySem.MeetsSeq2 PySem.MeetsSeq3
end
section
variable {prog : Program} {w : World} {A : Around} {E : Value → Shared → Prop} {s : Shared}
theorem cat_tup {t b : Addr} {vs ws : List Value} {Q : Value → Shared → Prop} (ht : IsTup s.heap t vs.toArray) (hb : IsTup s.heap b ws.toArray) (hv : vs ≠ [])
    (h1 : ws = [] → Q (.ref t) s) (h2 : ws ≠ [] → Q (.ref s.heap.objs.size) { s with heap := s.heap.push { cls := .type "tuple", data := .seq (vs ++ ws).toArray } })
    (hsz : vs.length + ws.length ≤ sizeLine) : wpAny (model prog w) A (binaryOp .Add (.ref t) (.ref b)) Q E s := by
  obtain ⟨⟨cls, dd, data, sl⟩, ho, hc, n, hd⟩ := id ht
  obtain ⟨⟨cls2, dd2, data2, sl2⟩, ho2, hc2, n2, hd2⟩ := id hb
  simp only at hc hd hc2 hd2
  subst hc hd hc2 hd2
  have e : vs.toArray ++ ws.toArray = (vs ++ ws).toArray := by simp
  by_cases hw : ws = []
  · exact concat_meets ⟨_, ho, rfl⟩ ⟨_, ho2, rfl⟩ noFill_tuple_add seq_tuple_add PySem.F.slot_tuple_add PySem.F.entry_tuple_add (PySem.F.args_tuple_add_2 _ _)
      (tuple_addW1 t b vs.toArray ws.toArray n n2 dd dd2 sl sl2 (by simpa using hv) (by simp [hw])) ⟨ho, ho2, h1 hw⟩
  · refine concat_meets ⟨_, ho, rfl⟩ ⟨_, ho2, rfl⟩ noFill_tuple_add seq_tuple_add PySem.F.slot_tuple_add PySem.F.entry_tuple_add (PySem.F.args_tuple_add_2 _ _)
      (tuple_addW2 t b vs.toArray ws.toArray n n2 dd dd2 sl sl2 (by simpa using hv) (by simpa using hw) (by rw [List.size_toArray, List.size_toArray]; exact hsz)) ⟨ho, ho2, ?_⟩
    rw [e]
    exact h2 hw
noncomputable def sIx (n d : Nat) : Option Int → Nat
  | none => d
  | some v => if v < 0 then (v + (n : Int)).toNat else min v.toNat n
theorem zb7 (n d : Nat) (hd : d ≤ n) (o : Option Int) : sIx n d o ≤ n := by
  cases o with
  | none => exact hd
  | some v =>
    show (if v < 0 then (v + (n : Int)).toNat else min v.toNat n) ≤ n
    by_cases hv : v < 0
    · rw [if_pos hv]; omega
    · rw [if_neg hv]; exact Nat.min_le_right _ _
theorem Wl (v : Int) (n d : Nat) : (if v < 0 then max (v + (n : Int)) 0 else min v (n : Int)) = ((sIx n d (some v) : Nat) : Int) := by
  show (if v < 0 then max (v + (n : Int)) 0 else min v (n : Int)) = (((if v < 0 then (v + (n : Int)).toNat else min v.toNat n) : Nat) : Int)
  by_cases hv : v < 0
  · simp only [if_pos hv]; omega
  · simp only [if_neg hv]; omega
theorem X2 (lo hi : Option Int) (n : Nat) : Builtin.Slice.sliceAdjust lo hi 1 (n : Int) = (((sIx n 0 lo : Nat) : Int), ((sIx n n hi : Nat) : Int)) := by
  have h1 : ¬ ((1 : Int) < 0) := by omega
  unfold Builtin.Slice.sliceAdjust
  simp only [h1, if_false]
  refine Prod.ext ?_ ?_
  · cases lo with
    | none => rfl
    | some v => exact Wl v n 0
  · cases hi with
    | none => rfl
    | some v => exact Wl v n n
theorem XQ (i j : Nat) : Builtin.Slice.slicePlaces (i : Int) (j : Int) 1 = j - i := by
  unfold Builtin.Slice.slicePlaces
  have h1 : (1 : Int) > 0 := by omega
  simp only [h1, if_true, Int.ediv_one]
  split <;> omega
theorem Ym {v : Value} {o : Option Int} {Q : Option Int → Shared → Prop} (p : IsPart v o) (h : Q o s) : wpAny (model prog w) A (Builtin.Slice.slicePartIndex v) Q E s := by
  cases p with
  | none => exact slicePart_none h
  | int i t => exact slicePart_int h
theorem xY {sl : Addr} {vl vu : Value} {lo hi : Option Int} {n : Nat} {Q : Int × Int × Nat → Shared → Prop} (hs : s.heap.IsSliceOf sl vl vu .none) (pl : IsPart vl lo) (pu : IsPart vu hi)
    (h : Q (((sIx n 0 lo : Nat) : Int), 1, sIx n n hi - sIx n 0 lo) s) : wpAny (model prog w) A (Builtin.Slice.sliceApplied (.ref sl) (pure (n : Int))) Q E s := by
  obtain ⟨os, hos, hcs, hds⟩ := id hs
  unfold Builtin.Slice.sliceApplied Builtin.Slice.sliceFields
  refine wpAny_bind (wpAny_bind (wpAny_field hos hds (x := vl) rfl (wpAny_bind (wpAny_field hos hds (x := vu) rfl (wpAny_bind (wpAny_field hos hds (x := .none) rfl (wpAny_pure ?_)))))))
  refine wpAny_bind (slicePart_none ?_)
  show wpAny _ _ (if ((1 : Int) == 0) = true then _ else _) _ _ s
  rw [if_neg (by decide)]
  refine wpAny_bind (Ym pl (wpAny_bind (Ym pu (wpAny_bind (wpAny_pure ?_)))))
  show wpAny _ _ (match Builtin.Slice.sliceAdjust lo hi 1 (n : Int) with | (lo, hi) => pure (lo, (1 : Int), Builtin.Slice.slicePlaces lo hi 1)) _ _ s
  rw [X2 lo hi n]
  show wpAny _ _ (pure (((sIx n 0 lo : Nat) : Int), (1 : Int), Builtin.Slice.slicePlaces ((sIx n 0 lo : Nat) : Int) ((sIx n n hi : Nat) : Int) 1)) _ _ s
  rw [XQ]
  exact wpAny_pure h
theorem zao (xs : Array Value) (i k : Nat) : ((List.range k).filterMap fun (m : Nat) => xs[((i : Int) + (m : Int) * 1).toNat]?).toArray = ((xs.toList.drop i).take k).toArray := by
  have e : (fun (m : Nat) => xs[((i : Int) + (m : Int) * 1).toNat]?) = fun m => xs[i + m]? := by
    funext m
    have : ((i : Int) + (m : Int) * 1).toNat = i + m := by omega
    rw [this]
  rw [e]
  have := pick_run xs i k
  rw [List.filterMap_map] at this
  have e2 : ((fun x => xs[x]?) ∘ fun x => i + x) = fun m => xs[i + m]? := rfl
  rw [e2] at this
  rw [this]
theorem getItem_tuple_cut {t sl : Addr} {items : Array Value} {vl vu : Value} {lo hi : Option Int} {Q : Value → Shared → Prop} (ht : IsTup s.heap t items) (hs : s.heap.IsSliceOf sl vl vu .none) (pl : IsPart vl lo) (pu : IsPart vu hi)
    (hw : ¬ (sIx items.size 0 lo = 0 ∧ sIx items.size items.size hi = items.size))
    (h : Q (.ref s.heap.objs.size) { s with heap := s.heap.push { cls := .type "tuple", data := .seq ((items.toList.drop (sIx items.size 0 lo)).take (sIx items.size items.size hi - sIx items.size 0 lo)).toArray } })
    (hsz : items.size ≤ sizeLine) : wpAny (model prog w) A (getItem (.ref t) (.ref sl)) Q E s := by
  have htake : sizeOk (.seq ((items.toList.drop (sIx items.size 0 lo)).take (sIx items.size items.size hi - sIx items.size 0 lo)).toArray) := by
    show ((items.toList.drop (sIx items.size 0 lo)).take (sIx items.size items.size hi - sIx items.size 0 lo)).toArray.size ≤ sizeLine
    rw [List.size_toArray, List.length_take, List.length_drop, Array.length_toList]
    omega
  have hj : sIx items.size items.size hi ≤ items.size := zb7 _ _ (Nat.le_refl _) hi
  obtain ⟨os, hos, hcs, hds⟩ := id hs
  have hTs : s.TypeIs (.ref sl) "slice" := ⟨os, hos, hcs⟩
  unfold getItem
  try with_reducible refine wpAny_holding ?_
  first | refine wpAny_bind (wpAny_pure ?_) | skip
  refine wpAny_bind (wpAny_sequenceKey ht.typeIs (by decide) ?_)
  refine wpAny_bind (wpAny_callSpecial?_slot (name := Str.ofString "__getitem__") ht.typeIs PyProof.Rows.slot_tuple_getitem
    (wpAny_call_entry PyProof.Rows.slot_tuple_getitem ht.typeIs entry_tuple_getitem ?_ (args_tuple_getitem _ _)))
  show wpAny _ _ (Builtin.Tuple.tupleItemsOf (.ref t) >>= _) _ _ s
  refine wpAny_bind (tupleItemsOf_ ht ?_)
  refine wpAny_bind (wpAny_typeOf hTs ?_)
  rw [if_pos (by decide)]
  refine wpAny_bind (xY hs pl pu ?_)
  have hno : ¬ ((((sIx items.size 0 lo : Nat) : Int) == 0 && (1 : Int) == 1 && (sIx items.size items.size hi - sIx items.size 0 lo) == items.size) = true) := by
    intro q
    rw [Bool.and_eq_true, Bool.and_eq_true] at q
    have q1 : ((sIx items.size 0 lo : Nat) : Int) = 0 := eq_of_beq q.1.1
    have q2 : sIx items.size items.size hi - sIx items.size 0 lo = items.size := eq_of_beq q.2
    exact hw ⟨by omega, by omega⟩
  show wpAny _ _ (if (((sIx items.size 0 lo : Nat) : Int) == 0 && (1 : Int) == 1 && (sIx items.size items.size hi - sIx items.size 0 lo) == items.size) = true then _ else _) _ _ s
  rw [if_neg hno, zao]
  first
    | exact wpAny_bind (m := Builtin.Tuple.tupleExact _) (wpAny_newObj_type (wpAny_pure ⟨_, rfl, wpAny_pure h⟩) htake)
    | exact wpAny_bind (m := Builtin.Tuple.tupleExact _) (wpAny_newObj_type (wpAny_bind (wpAny_pure (wpAny_pure ⟨_, rfl, wpAny_pure h⟩))) htake)
    | exact wpAny_bind (wpAny_bind (m := Builtin.Tuple.tupleExact _) (wpAny_newObj_type (wpAny_pure (wpAny_pure ⟨_, rfl, wpAny_pure h⟩)) htake))
    | exact wpAny_bind (wpAny_bind (m := Builtin.Tuple.tupleExact _) (wpAny_newObj_type (wpAny_pure ⟨_, rfl, wpAny_pure h⟩) htake))
end
end HT
namespace L2
open PySem PySem.Spec PyProof.Rows
noncomputable abbrev TO := St → Hp → (Option Int → Hp → Prop) → Prop
noncomputable def PO (X : Cx) (e : Option Expr) (t : TO) : Prop :=
  ∀ (pins : List (Addr × Obj)) (s : Shared) (σ : St) (H : Hp) (Q : Option Int → Hp → Prop), Inv X pins σ H s → t σ H Q →
    wpAny (model X.prog X.w) X.A (evalPart e X.env) (fun u s' => ∃ o H', Inv X pins σ H' s' ∧ IsPart u o ∧ Q o H') X.xe s
noncomputable def zbs : TO := fun _ H Q => Q none H
noncomputable def zdv (t : TE) : TO := fun σ H Q => t σ H fun x H1 => ∃ i, x = .int i ∧ Q (some i) H1
section
variable {X : Cx} {e : Expr} {te : TE} {lo hi : Option Expr} {tl th : TO} {pos p2 : Pos}
theorem zbh : PO X none zbs := by
  intro pins s σ H Q I h
  rw [evalPart_none]
  exact wpAny_pure ⟨none, H, I, .none, h⟩
theorem zby (h : PE X e te) : PO X (some e) (zdv te) := by
  intro pins s σ H Q I hw
  rw [evalPart_some]
  refine thn (h pins s σ H _ I hw) fun u s1 hh9 => ?_
  obtain ⟨x, H1, I1, r1, q1⟩ := hh9
  obtain ⟨i, rfl, q⟩ := q1
  obtain ⟨t, rfl⟩ := r1
  exact ⟨some i, H1, I1, .int i t, q⟩
noncomputable def SlR (X : Cx) (r : V → Option Int → Option Int → Hp → VK → Prop) : Prop :=
  ∀ (pins : List (Addr × Obj)) (s : Shared) (σ : St) (H : Hp) (x : V) (v vl vu : Value) (lo hi : Option Int) (sl : Addr) (Q : VK), Inv X pins σ H s → yP x v → s.heap.IsSliceOf sl vl vu .none → IsPart vl lo → IsPart vu hi → r x lo hi H Q →
    ∃ T id, typeLookup (.type T) "__getitem__" = pure (some (.builtin id)) ∧ s.TypeIs v T ∧ wpAny (model X.prog X.w) X.A (getItem v (.ref sl)) (EP X pins σ Q) X.xe s
theorem SlR.or {r r' : V → Option Int → Option Int → Hp → VK → Prop} (h : SlR X r) (h' : SlR X r') : SlR X (fun x lo hi H Q => r x lo hi H Q ∨ r' x lo hi H Q) := by
  intro pins s σ H x v vl vu lo hi sl Q I rx hs pl pu q
  rcases q with q | q
  · exact h pins s σ H x v vl vu lo hi sl Q I rx hs pl pu q
  · exact h' pins s σ H x v vl vu lo hi sl Q I rx hs pl pu q
noncomputable def tSl (r : V → Option Int → Option Int → Hp → VK → Prop) (te : TE) (tl th : TO) : TE := fun σ H Q => te σ H fun x H1 => tl σ H1 fun l H2 => th σ H2 fun u H3 => r x l u H3 Q
theorem V7 {r : V → Option Int → Option Int → Hp → VK → Prop} (hr : SlR X r) (he : PE X e te) (hl : PO X lo tl) (hu : PO X hi th) : PE X (.Subscript e (.Slice lo hi none p2) pos) (tSl r te tl th) := by
  intro pins s σ H Q I h
  refine Subscript_ (thn (he pins s σ H _ I h) fun v s1 hh9 => ?_)
  obtain ⟨x, H1, I1, r1, q1⟩ := hh9
  refine wpAny_Slice (thn (hl pins s1 σ H1 _ I1 q1) fun vl s2 ⟨l, H2, I2, pl, q2⟩ => thn (hu pins s2 σ H2 _ I2 q2) fun vu s3 hh9 => ?_)
  obtain ⟨u, H3, I3, pu, q3⟩ := hh9
  rw [evalPart_none]
  refine wpAny_pure ?_
  have I4 : Inv X pins σ H3 { s3 with heap := s3.heap.push { cls := .type "slice", data := .fields #[vl, vu, .none] } } := I3.kept (t' := s3.toks) fun b ob q => Heap.get?_push_of_some _ q
  obtain ⟨T, id, hT, ht, hg⟩ := hr pins { s3 with heap := s3.heap.push { cls := .type "slice", data := .fields #[vl, vu, .none] } } σ H3 x v vl vu l u s3.heap.objs.size Q I4 r1 (Heap.IsSliceOf.new ..) pl pu q3
  show wpAny (model X.prog X.w) X.A (subscriptTail e (.Slice lo hi none p2) v (.ref s3.heap.objs.size)) (EP X pins σ Q) X.xe { s3 with heap := s3.heap.push { cls := .type "slice", data := .fields #[vl, vu, .none] } }
  exact tail_any (ops := [.ref s3.heap.objs.size, v]) ht hT hg (by with_unfolding_all rfl)
noncomputable def Xc (xs : List V) (lo hi : Option Int) : List V := (xs.drop (HT.sIx xs.length 0 lo)).take (HT.sIx xs.length xs.length hi - HT.sIx xs.length 0 lo)
theorem vQ (xs : List V) (lo hi : Option Int) : (Xc xs lo hi).length ≤ xs.length := by
  unfold Xc
  rw [List.length_take, List.length_drop]
  omega
noncomputable def rSlT (K : PySem.W.Frag) : V → Option Int → Option Int → Hp → VK → Prop := fun x lo hi H Q => ∃ a xs, x = .ref a ∧ SqT K H a xs ∧
  ¬ (HT.sIx xs.length 0 lo = 0 ∧ HT.sIx xs.length xs.length hi = xs.length) ∧ ∀ p, H p = none → Q (.ref p) (upd H p (.tup (Xc xs lo hi)))
theorem zbI : SlR X (rSlT X.K) := by
  intro pins s σ H x v vl vu lo hi sl Q I rx hs pl pu h
  obtain ⟨a, xs, rfl, hx, hw, q⟩ := h
  cases rx
  obtain ⟨its, r, ht, hz⟩ := I.tuple hx
  have hlen : its.toArray.size = xs.length := by rw [List.size_toArray]; exact r.length.symm
  refine ⟨"tuple", _, PyProof.Rows.slot_tuple_getitem.lookup, ht.typeIs, ?_⟩
  refine HT.getItem_tuple_cut ht hs pl pu (by rw [hlen]; exact hw) ?_ (by rw [hlen]; exact hz)
  rw [hlen]
  refine ⟨.ref s.heap.objs.size, _, I.laid (t' := s.toks) (o := .tup (Xc xs lo hi)) (fun b ob q => Heap.get?_push_of_some _ q) (Nat.le_refl _) ?_, rfl, q _ (I.hok.fresh (Nat.le_refl _))⟩
  exact ⟨Nat.le_trans (vQ xs lo hi) hz, _, (r.drop (HT.sIx xs.length 0 lo)).take (HT.sIx xs.length xs.length hi - HT.sIx xs.length 0 lo), IsTup.new _ _⟩
noncomputable def zdI (K : PySem.W.Frag) : R2 := fun x y H Q => ∃ a b xs ys, x = .ref a ∧ y = .ref b ∧ SqT K H a xs ∧ SqT K H b ys ∧ xs ≠ [] ∧ xs.length + ys.length ≤ sizeLine ∧
  (ys = [] → Q (.ref a) H) ∧ (ys ≠ [] → ∀ p, H p = none → Q (.ref p) (upd H p (.tup (xs ++ ys))))
theorem yd.nil_iff {xs : List V} {us : List Value} (r : yd xs us) : us = [] ↔ xs = [] := by
  cases r with
  | nil => simp
  | cons _ _ => simp
theorem za2 : OpR X (binaryOp .Add) (zdI X.K) := by
  intro pins s σ H x y v u Q I rx ry h
  obtain ⟨a, b, xs, ys, rfl, rfl, ha, hb, hx, hz, q1, q2⟩ := h
  cases rx
  cases ry
  obtain ⟨its, r1, p1, _⟩ := I.tuple ha
  obtain ⟨its2, r2, p2, _⟩ := I.tuple hb
  refine HT.cat_tup p1 p2 (fun z => hx (r1.nil_iff.mp z)) (fun z => ⟨.ref a, H, I, rfl, q1 (r2.nil_iff.mp z)⟩) (fun z => ?_) (by rw [← r1.length, ← r2.length]; exact hz)
  refine ⟨.ref s.heap.objs.size, _, I.laid (t' := s.toks) (o := .tup (xs ++ ys)) (fun b ob q => Heap.get?_push_of_some _ q) (Nat.le_refl _) ?_, rfl, q2 (fun w => z (r2.nil_iff.mpr w)) _ (I.hok.fresh (Nat.le_refl _))⟩
  exact ⟨by rw [List.length_append]; exact hz, _, r1.append r2, IsTup.new _ _⟩
end
end L2
namespace L2
open PySem PySem.Spec PyProof.Rows
noncomputable def ixN (n : Nat) (i : Int) : Option Nat := if 0 ≤ i then (if i < n then some i.toNat else none) else if -(n : Int) ≤ i then some (i + n).toNat else none
noncomputable def atI {α : Type} (xs : List α) (i : Int) : Option α := (ixN xs.length i).bind fun j => xs[j]?
theorem Wy {n : Nat} {i : Int} {j : Nat} (h : ixN n i = some j) : seqIndex? i n = some j ∧ j < n ∧ -(n : Int) ≤ i ∧ i < n := by
  unfold ixN at h
  by_cases h0 : 0 ≤ i
  · rw [if_pos h0] at h
    by_cases h1 : i < n
    · rw [if_pos h1] at h
      have e : i.toNat = j := Option.some.inj h
      exact ⟨by rw [seqIndex_of h0 h1, e], by omega, by omega, h1⟩
    · rw [if_neg h1] at h; cases h
  · rw [if_neg h0] at h
    by_cases h1 : -(n : Int) ≤ i
    · rw [if_pos h1] at h
      have e : (i + n).toNat = j := Option.some.inj h
      exact ⟨by rw [seqIndex_neg (by omega) h1, e], by omega, h1, by omega⟩
    · rw [if_neg h1] at h; cases h
theorem YF {α : Type} {xs : List α} {i : Int} {v : α} (h : atI xs i = some v) : ∃ j, seqIndex? i xs.length = some j ∧ xs[j]? = some v ∧ j < xs.length ∧ -(xs.length : Int) ≤ i ∧ i < xs.length := by
  unfold atI at h
  cases e : ixN xs.length i with
  | none => rw [e] at h; cases h
  | some j =>
    rw [e] at h
    obtain ⟨h1, h2, h3, h4⟩ := Wy e
    exact ⟨j, h1, h, h2, h3, h4⟩
noncomputable def YQ (b : Expr) : Prop := ∀ o i, subscripted b false o i = operate [o, i] (getItem o i)
noncomputable def IxR (X : Cx) (r : R2) : Prop :=
  ∀ (value slice : Expr) (pins : List (Addr × Obj)) (s : Shared) (σ : St) (H : Hp) (x y : V) (v u : Value) (Q : VK), Inv X pins σ H s → yP x v → yP y u → r x y H Q →
    subscripted slice false v u = operate [v, u] (getItem v u) → wpAny (model X.prog X.w) X.A (subscriptTail value slice v u) (EP X pins σ Q) X.xe s
noncomputable def MtR (X : Cx) (id : String) (r : V → List V → Hp → VK → Prop) : Prop :=
  ∀ (pins : List (Addr × Obj)) (s : Shared) (σ : St) (H : Hp) (x : V) (xs : List V) (v : Value) (us : List Value) (Q : VK), Inv X pins σ H s → yP x v → yd xs us → r x xs H Q →
    wpAny (model X.prog X.w) X.A (call (.builtin id) (v :: us)) (EP X pins σ Q) X.xe s
section
variable {X : Cx} {a b : Expr} {ta tb : TE} {pos : Pos}
theorem IxR.or {r r' : R2} (h : IxR X r) (h' : IxR X r') : IxR X (fun x y H Q => r x y H Q ∨ r' x y H Q) := by
  intro value slice pins s σ H x y v u Q I rx ry q hs
  rcases q with q | q
  · exact h value slice pins s σ H x y v u Q I rx ry q hs
  · exact h' value slice pins s σ H x y v u Q I rx ry q hs
theorem zcd {r : R2} (hr : IxR X r) (ha : PE X a ta) (hb : PE X b tb) (hs : YQ b) : PE X (.Subscript a b pos) (tOp r ta tb) := by
  intro pins s σ H Q I h
  exact Subscript_ (zdc ha hb I h fun v u s2 x y H2 I2 rx ry q => hr a b pins s2 σ H2 x y v u Q I2 rx ry q (hs _ _))
noncomputable def rIxL (K : PySem.W.Frag) : R2 := fun x y H Q => ∃ p xs i v, x = .ref p ∧ y = .int i ∧ SqL K H p xs ∧ atI xs i = some v ∧ Q v H
noncomputable def rIxT (K : PySem.W.Frag) : R2 := fun x y H Q => ∃ p xs i v, x = .ref p ∧ y = .int i ∧ SqT K H p xs ∧ atI xs i = some v ∧ Q v H
noncomputable def rIxS : R2 := fun x y H Q => ∃ z i c, x = .str z ∧ y = .int i ∧ z.length ≤ sizeLine ∧ atI z.cps.toList i = some c ∧ Q (.str ⟨#[c]⟩) H
theorem zbp : IxR X (rIxL X.K) := by
  intro value slice pins s σ H x y v u Q I rx ry h hs
  obtain ⟨p, xs, i, z, rfl, rfl, hq, he, q⟩ := h
  cases rx
  obtain ⟨t, rfl⟩ := ry
  obtain ⟨its, r, pl, hz⟩ := I.list hq
  obtain ⟨j, h1, h2, h3, h4, h5⟩ := YF he
  obtain ⟨w, ew, rw'⟩ := r.get h2
  have hl := r.length
  have hn := vO
  have fin : EP X pins σ Q w s := ⟨z, H, I, rw', q⟩
  by_cases h0 : 0 ≤ i
  · have hj : i.toNat = j := by
      rw [seqIndex_of h0 h5] at h1
      exact Option.some.inj h1
    exact item_listR pl.isList h0 (by omega) (by rw [hj]; simpa using ew) fin hs
  · have hj : (i + (its.toArray.size : Int)).toNat = j := by
      rw [seqIndex_neg (by omega) h4] at h1
      rw [List.size_toArray, ← hl]
      exact Option.some.inj h1
    exact subscriptTail_builtinR (x := w) pl.isList.typeIs slot_list_getitem.lookup
      (wpAny_getItem_list_neg (Q := fun r s' => r = w ∧ EP X pins σ Q r s') pl.isList (by omega) (by rw [List.size_toArray] <;> omega) (by omega) (by rw [hj]; simpa using ew) ⟨rfl, fin⟩) hs
theorem zbZ : IxR X (rIxT X.K) := by
  intro value slice pins s σ H x y v u Q I rx ry h hs
  obtain ⟨p, xs, i, z, rfl, rfl, hq, he, q⟩ := h
  cases rx
  obtain ⟨t, rfl⟩ := ry
  obtain ⟨its, r, pl, hz⟩ := I.tuple hq
  obtain ⟨j, h1, h2, h3, h4, h5⟩ := YF he
  obtain ⟨w, ew, rw'⟩ := r.get h2
  have hl := r.length
  have hn := vO
  have fin : EP X pins σ Q w s := ⟨z, H, I, rw', q⟩
  exact subscriptTail_builtinR (x := w) pl.typeIs slot_tuple_getitem.lookup
    (getItem_tuple (j := j) (Q := fun r s' => r = w ∧ EP X pins σ Q r s') pl (by omega) (by omega) (by rw [List.size_toArray, ← hl]; exact h1) (by simpa using ew) ⟨rfl, fin⟩) hs
theorem zcx : IxR X rIxS := by
  intro value slice pins s σ H x y v u Q I rx ry h hs
  obtain ⟨z, i, c, rfl, rfl, hz, he, q⟩ := h
  obtain ⟨t, rfl⟩ := rx
  obtain ⟨t', rfl⟩ := ry
  obtain ⟨j, h1, h2, h3, h4, h5⟩ := YF he
  have hl : z.cps.toList.length = z.length := by simp [Str.length]
  rw [hl] at h1 h4 h5
  have hn := vO
  exact tail_any (typeIs_str s z t) slot_str_getitem.lookup (getItem_str (c := c) (by
    have e1 : decide (i < -(2 ^ 63 : Int)) = false := decide_eq_false (by omega)
    have e2 : decide (i ≥ 2 ^ 63) = false := decide_eq_false (by omega)
    rw [e1, e2, Bool.or_false]) (by rw [h1]; simpa using h2) ⟨.str ⟨#[c]⟩, H, I.tok _, ⟨_, rfl⟩, q⟩) hs
noncomputable def rIx (K : PySem.W.Frag) : R2 := fun x y H Q => rIxL K x y H Q ∨ rIxT K x y H Q ∨ rIxS x y H Q
theorem zcX : IxR X (rIx X.K) := zbp.or (zbZ.or zcx)
theorem XZ (its : List Value) (n j : Nat) (u : Value) : Obj.mapSeq (·.setIfInBounds j u) { cls := .type "list", data := .seq its.toArray n } = { cls := .type "list", data := .seq (its.set j u).toArray n } := by
  simp [Obj.mapSeq]
theorem Inv.lst {pins : List (Addr × Obj)} {σ : St} {H : Hp} {s : Shared} {p : Addr} {xs : List V} (I : Inv X pins σ H s) (h : H p = some (.lst xs)) :
    ∃ (its : List Value) (n : Nat), yd xs its ∧ s.heap.get? p = some { cls := .type "list", data := .seq its.toArray n } ∧ xs.length ≤ sizeLine := by
  obtain ⟨z, its, n, r, e⟩ := I.hok p _ h
  exact ⟨its, n, r, e, z⟩
theorem Inv.lstUpd {pins : List (Addr × Obj)} {σ : St} {H : Hp} {s : Shared} {p : Addr} {xs ys : List V} {its its' : List Value} {n n' : Nat} {f : Obj → Obj} (I : Inv X pins σ H s) (h : H p = some (.lst xs))
    (ho : s.heap.get? p = some { cls := .type "list", data := .seq its.toArray n }) (hf : f { cls := .type "list", data := .seq its.toArray n } = { cls := .type "list", data := .seq its'.toArray n' }) (r : yd ys its') (hz : ys.length ≤ sizeLine) (t : Nat) :
    Inv X pins σ (upd H p (.lst ys)) { s with heap := s.heap.update p f, toks := t } := by
  have e : (s.heap.update p f).get? p = some { cls := .type "list", data := .seq its'.toArray n' } := by
    rw [Heap.get?_update_self f ho (by rw [hf] <;> rfl), hf]
  refine I.write (x := p) (e := p) (by rw [h]; trivial) (.inl rfl) (fun b u hb q => (Heap.get?_update_other _ _ (Ne.symm hb)).trans q) ⟨_, e⟩ ?_
  exact ⟨hz, its', n', r, e⟩
noncomputable def zdH : V → V → V → Hp → (Hp → Prop) → Prop := fun o i v H Q => ∃ p xs k j, o = .ref p ∧ i = .int k ∧ H p = some (.lst xs) ∧ ixN xs.length k = some j ∧ Q (upd H p (.lst (xs.set j v)))
theorem zaa : PSet X zdH := by
  intro pins s σ H o i v ov iv u Q I ro ri rv h
  obtain ⟨p, xs, k, j, rfl, rfl, hp, hj, q⟩ := h
  cases ro
  obtain ⟨t, rfl⟩ := ri
  obtain ⟨its, n, r, ho, hz⟩ := I.lst hp
  obtain ⟨h1, h2, h3, h4⟩ := Wy hj
  have hl := r.length
  have hn := vO
  have I' : Inv X pins σ (upd H p (.lst (xs.set j v))) { s with heap := s.heap.update p (Obj.mapSeq (·.setIfInBounds j u)) } :=
    I.lstUpd hp ho (XZ its n j u) (r.set rv j) (by rw [List.length_set]; exact hz) s.toks
  by_cases h0 : 0 ≤ k
  · have hk : k.toNat = j := by
      rw [seqIndex_of h0 h4] at h1
      exact Option.some.inj h1
    exact PySem.W.ki_setAt ho h0 (by omega) (by rw [List.size_toArray, ← hl]; exact h4) (by rw [hk]; exact ⟨_, I', q⟩)
  · have hk : (k + (its.toArray.size : Int)).toNat = j := by
      rw [seqIndex_neg (by omega) h3] at h1
      rw [List.size_toArray, ← hl]
      exact Option.some.inj h1
    exact PySem.W.ki_setBack ho (by omega) (by rw [List.size_toArray, ← hl]; exact h3) (by omega) (by rw [hk]; exact ⟨_, I', q⟩)
theorem Zy (lo hi : Option Int) (n : Nat) : (sliceBounds lo hi none n).1 = ((HT.sIx n 0 lo : Nat) : Int) ∧ (sliceBounds lo hi none n).2.1 = ((HT.sIx n n hi : Nat) : Int) ∧ (sliceBounds lo hi none n).2.2 = 1 := by
  refine ⟨?_, ?_, rfl⟩
  · cases lo with
    | none => simp [sliceBounds, HT.sIx]
    | some i =>
      simp only [sliceBounds, HT.sIx, Option.getD_none, show (1 : Int) > 0 by decide, if_true]
      by_cases h : i < 0
      · simp only [h, if_true] <;> omega
      · simp only [h, if_false] <;> omega
  · cases hi with
    | none => simp [sliceBounds, HT.sIx]
    | some i =>
      simp only [sliceBounds, HT.sIx, Option.getD_none, show (1 : Int) > 0 by decide, if_true]
      by_cases h : i < 0
      · simp only [h, if_true] <;> omega
      · simp only [h, if_false] <;> omega
theorem Y0 (its : List Value) (lo hi : Option Int) : slicePick its.toArray lo hi none = ((its.drop (HT.sIx its.length 0 lo)).take (HT.sIx its.length its.length hi - HT.sIx its.length 0 lo)).toArray := by
  obtain ⟨h1, h2, h3⟩ := Zy lo hi its.toArray.size
  unfold slicePick
  rw [h1, h2, h3]
  simp only [sliceRange_one, pick_run, List.size_toArray] <;> rfl
noncomputable def rSlL (K : PySem.W.Frag) : V → Option Int → Option Int → Hp → VK → Prop := fun x lo hi H Q => ∃ a xs, x = .ref a ∧ SqL K H a xs ∧ ∀ p, H p = none → Q (.ref p) (upd H p (.lst (Xc xs lo hi)))
theorem zbc : SlR X (rSlL X.K) := by
  intro pins s σ H x v vl vu lo hi sl Q I rx hs pl pu h
  obtain ⟨a, xs, rfl, hx, q⟩ := h
  cases rx
  obtain ⟨its, r, ht, hz⟩ := I.list hx
  have hlen := r.length
  refine ⟨"list", _, slot_list_getitem.lookup, ht.isList.typeIs, ?_⟩
  refine wpAny_getItem_list_slice ht.isList hs pl pu .none (by simp) ?_ (by rw [List.size_toArray] <;> omega)
  rw [Y0, ← hlen]
  refine ⟨.ref s.heap.objs.size, _, I.laid (t' := s.toks) (o := .lst (Xc xs lo hi)) (fun b ob q => Heap.get?_push_of_some _ q) (Nat.le_refl _) ?_, rfl, q _ (I.hok.fresh (Nat.le_refl _))⟩
  exact ⟨Nat.le_trans (vQ xs lo hi) hz, _, 0, (r.drop (HT.sIx xs.length 0 lo)).take (HT.sIx xs.length xs.length hi - HT.sIx xs.length 0 lo), Heap.get?_push_size _ rfl⟩
noncomputable def zbx : V → Bool
  | .non => true
  | .bl _ => true
  | .int _ => true
  | .str _ => true
  | _ => false
noncomputable def eqV : V → V → Bool
  | .non, .non => true
  | .bl a, .bl b => a == b
  | .bl a, .int b => (if a then 1 else 0) == b
  | .int a, .bl b => a == (if b then 1 else 0)
  | .int a, .int b => a == b
  | .str a, .str b => a == b
  | _, _ => false
theorem zaQ {A : Around} {s : Shared} {y x : V} {u v : Value} (ry : yP y u) (rx : yP x v) (fy : zbx y = true) (fx : zbx x = true) : SeqAt.EqAt A s u v (eqV y x) := by
  cases y with
  | non =>
    cases ry
    cases x with
    | non => cases rx; exact SeqAt.EqAt.same _
    | bl b => cases rx; exact SeqAt.EqAt.none_bool b
    | int b => obtain ⟨t, rfl⟩ := rx; exact SeqAt.EqAt.none_int b t
    | str b => obtain ⟨t, rfl⟩ := rx; exact SeqAt.EqAt.none_str b t
    | _ => exact absurd (show false = true from fx) Bool.false_ne_true
  | bl a =>
    cases ry
    cases x with
    | non => cases rx; exact SeqAt.EqAt.bool_none a
    | bl b => cases rx; exact SeqAt.EqAt.bool_bool a b
    | int b => obtain ⟨t, rfl⟩ := rx; exact SeqAt.EqAt.bool_int a b t
    | str b => obtain ⟨t, rfl⟩ := rx; exact SeqAt.EqAt.bool_str a b t
    | _ => exact absurd (show false = true from fx) Bool.false_ne_true
  | int a =>
    obtain ⟨t', rfl⟩ := ry
    cases x with
    | non => cases rx; exact SeqAt.EqAt.int_none a t'
    | bl b => cases rx; exact SeqAt.EqAt.int_bool a t' b
    | int b => obtain ⟨t, rfl⟩ := rx; exact SeqAt.EqAt.int_int a t' b t
    | str b => obtain ⟨t, rfl⟩ := rx; exact SeqAt.EqAt.int_str a t' b t
    | _ => exact absurd (show false = true from fx) Bool.false_ne_true
  | str a =>
    obtain ⟨t', rfl⟩ := ry
    cases x with
    | non => cases rx; exact SeqAt.EqAt.str_none a t'
    | bl b => cases rx; exact SeqAt.EqAt.str_bool a t' b
    | int b => obtain ⟨t, rfl⟩ := rx; exact SeqAt.EqAt.str_int a t' b t
    | str b => obtain ⟨t, rfl⟩ := rx; exact SeqAt.EqAt.str_str a t' b t
    | _ => exact absurd (show false = true from fx) Bool.false_ne_true
  | _ => exact absurd (show false = true from fy) Bool.false_ne_true
theorem zN : vC X (.builtin "len") (fun xs H Q => ∃ p ys, xs = [.ref p] ∧ (SqL X.K H p ys ∨ SqT X.K H p ys) ∧ Q (.int ys.length) H) := by
  intro pins s σ H xs us Q I r h
  obtain ⟨p, ys, rfl, hq, q⟩ := h
  obtain ⟨u, rfl, rx⟩ := X6 r
  cases rx
  have hn := vO
  rcases hq with hq | hq
  · obtain ⟨its, r', pl, hz⟩ := I.list hq
    have hlen := r'.length
    exact Calls.call_len_list pl.isList (by simp only [List.size_toArray] <;> omega) ⟨.int ys.length, H, I.tok _, ⟨s.toks + 1, by rw [List.size_toArray, hlen]⟩, q⟩
  · obtain ⟨its, r', pl, hz⟩ := I.tuple hq
    have hlen := r'.length
    exact len_tuple pl (by simp only [List.size_toArray] <;> omega) ⟨.int ys.length, H, I.tok _, ⟨s.toks + 1, by rw [List.size_toArray, hlen]⟩, q⟩
theorem Zw : vC X (.type "list") (fun xs H Q => ∃ p ys, xs = [.ref p] ∧ (SqL X.K H p ys ∨ SqT X.K H p ys) ∧ ∀ l, H l = none → Q (.ref l) (upd H l (.lst ys))) := by
  intro pins s σ H xs us Q I r h
  obtain ⟨p, ys, rfl, hq, q⟩ := h
  obtain ⟨u, rfl, rx⟩ := X6 r
  cases rx
  have fin : ∀ (its : List Value), yd ys its → ys.length ≤ sizeLine → ∀ (h' : Heap) (c' : Nat), (∀ b o', s.heap.get? b = some o' → h'.get? b = some o') →
      h'.get? s.heap.objs.size = some { cls := .type "list", dict := none, data := .seq its.toArray c', slots := #[] } → EP X pins σ Q (.ref s.heap.objs.size) { s with heap := h' } := fun its r' hz h' c' kp e =>
    ⟨.ref s.heap.objs.size, _, I.laid (t' := s.toks) kp (Nat.le_refl _) (show yX X.prog X.w _ h' _ (.lst ys) from ⟨hz, its, c', r', e⟩), rfl, q _ (I.hok.fresh (Nat.le_refl _))⟩
  rcases hq with hq | hq
  · obtain ⟨its, r', pl, hz⟩ := I.list hq
    have hlen := r'.length
    obtain ⟨o, ho, hc, n, hd⟩ := pl.isList
    exact call_list_seq p (.inl rfl) ho hc hd (fun h' c' kp e => fin its r' hz h' c' kp e) (by simp only [List.size_toArray] <;> omega)
  · obtain ⟨its, r', pl, hz⟩ := I.tuple hq
    have hlen := r'.length
    obtain ⟨o, ho, hc, n, hd⟩ := pl
    exact call_list_seq p (.inr rfl) ho hc hd (fun h' c' kp e => fin its r' hz h' c' kp e) (by simp only [List.size_toArray] <;> omega)
theorem xR : vC X (.type "tuple") (fun xs H Q => ∃ p ys, xs = [.ref p] ∧ ((SqL X.K H p ys ∧ ∀ l, H l = none → Q (.ref l) (upd H l (.tup ys))) ∨ (SqT X.K H p ys ∧ Q (.ref p) H))) := by
  intro pins s σ H xs us Q I r h
  obtain ⟨p, ys, rfl, h⟩ := h
  obtain ⟨u, rfl, rx⟩ := X6 r
  cases rx
  rcases h with ⟨hq, q⟩ | ⟨hq, q⟩
  · obtain ⟨its, r', pl, hz⟩ := I.list hq
    have hlen := r'.length
    refine call_tuple_list pl.isList (fun h' kp => ?_) (by simp only [List.size_toArray] <;> omega)
    have I1 : Inv X pins σ H { s with heap := h' } := I.kept (t' := s.toks) kp
    have I2 : Inv X pins σ (upd H h'.objs.size (.tup ys)) { s with heap := h'.push { cls := .type "tuple", data := .seq its.toArray } } :=
      I1.laid (t' := s.toks) (fun b o e => Heap.get?_push_of_some _ e) (Nat.le_refl _) (show yX X.prog X.w _ _ _ (.tup ys) from ⟨hz, its, r', IsTup.new _ _⟩)
    exact ⟨.ref h'.objs.size, _, I2, rfl, q _ (I1.hok.fresh (Nat.le_refl _))⟩
  · obtain ⟨its, r', pl, hz⟩ := I.tuple hq
    exact call_tuple_same pl ⟨.ref p, H, I, rfl, q⟩
noncomputable def tyV (K : PySem.W.Frag) (T : String) (x : V) (H : Hp) : Prop := match x with
  | .str _ => T = "str"
  | .int _ => T = "int"
  | .ref p => (T = "list" ∧ ∃ xs, SqL K H p xs) ∨ (T = "tuple" ∧ ∃ o, K.lookup p = some o ∧ o.cls = .type "tuple" ∧ o.dict = none) ∨
      (T = "dict" ∧ ((∃ kvs, H p = some (.dK kvs)) ∨ ∃ kvs, H p = some (.dT kvs))) ∨ (T = "set" ∧ ∃ S n, H p = some (.set S n))
  | _ => False
theorem zcJ {pins : List (Addr × Obj)} {σ : St} {H : Hp} {s : Shared} {T : String} {x : V} {v : Value} (I : Inv X pins σ H s) (r : yP x v) (ty : tyV X.K T x H) :
    s.TypeIs v T ∧ ∀ a, v = .ref a → ∃ ob, s.heap.get? a = some ob ∧ ob.dict = none := by
  cases x with
  | str z =>
    obtain ⟨t, rfl⟩ := r
    cases (show T = "str" from ty)
    exact ⟨typeIs_str s z t, fun _ e => nomatch e⟩
  | int i =>
    obtain ⟨t, rfl⟩ := r
    cases (show T = "int" from ty)
    exact ⟨typeIs_int s i t, fun _ e => nomatch e⟩
  | ref p =>
    cases r
    rcases ty with ⟨rfl, xs, hq⟩ | ⟨rfl, o, hk, hc, hd⟩ | ⟨rfl, hk⟩ | ⟨rfl, S, n, hk⟩
    · obtain ⟨its, _, pl, _⟩ := I.list hq
      refine ⟨pl.isList.typeIs, fun a e => ?_⟩
      cases e
      obtain ⟨o, n, e, c, hd, _⟩ := pl
      exact ⟨o, e, hd⟩
    · refine ⟨⟨o, I.kIn p o hk, hc⟩, fun a e => ?_⟩
      cases e
      exact ⟨o, I.kIn _ o hk, hd⟩
    · have z : ∃ o, s.heap.get? p = some o ∧ o.ExactDict := by
        rcases hk with ⟨kvs, hk⟩ | ⟨kvs, hk⟩
        · obtain ⟨_, _, _, _, o, _, _, e, ex, _⟩ := I.hok p _ hk
          exact ⟨o, e, ex⟩
        · obtain ⟨_, _, _, _, o, _, _, e, ex, _⟩ := I.hok p _ hk
          exact ⟨o, e, ex⟩
      obtain ⟨o, e, ex⟩ := z
      refine ⟨⟨o, e, ex.1⟩, fun a e2 => ?_⟩
      cases e2
      exact ⟨o, e, ex.2.1⟩
    · obtain ⟨o, _, _, _, e, ex, _⟩ := I.hok p _ hk
      refine ⟨⟨o, e, ex.1⟩, fun a e2 => ?_⟩
      cases e2
      exact ⟨o, e, ex.2.1⟩
  | _ => exact False.elim ty
noncomputable def tBM (K : PySem.W.Frag) (T : String) (r : V → List V → Hp → VK → Prop) (to : TE) (t : TA) : TE := fun σ H Q => to σ H fun x H1 => tyV K T x H1 ∧ t σ H1 fun xs H2 => r x xs H2 Q
variable {o e : Expr} {es : List Expr} {to : TE} {t : TA} {name : Str} {apos cpos : Pos} {T id : String} {r : V → List V → Hp → VK → Prop}
theorem X8 (pa : PlainAttrs T) (slot : Slot T name id) (hty : typeOf (.builtin id) = pure (.type "method_descriptor")) (hm : MtR X id r) (ho : PE X o to) (ha : PA X (e :: es) t)
    (hbase : attributeBase o name X.env (eval o X.env) = eval o X.env := by rfl)
    (hfew : ((backTo cpos (starEach (e :: es) X.env)).all (fun x => !x.1) && (backToKw cpos (keywordEach [] X.env)).all (fun x => x.1.isSome)
      && decide ((e :: es).length + ([] : List Keyword).length + (if ([] : List Keyword).isEmpty then 0 else 1) < 30)) = true := by rfl)
    (hline : (apos.endLine == cpos.line) = true := by rfl) (hs : starEach (e :: es) X.env = (false, eval e X.env) :: starEach es X.env := by rfl) (hplain : (backTo cpos (starEach es X.env)).any (·.1) = false := by rfl) :
    PE X (.Call (.Attribute o name apos) (e :: es) [] cpos) (tBM X.K T r to t) := by
  intro pins s σ H Q I h
  refine wpAny_Call_method_late hbase hfew hline rfl (thn (ho pins s σ H _ I h) fun v s1 hh9 => ?_)
  obtain ⟨x, H1, I1, r1, ty, q1⟩ := hh9
  obtain ⟨h1, h2⟩ := zcJ I1 r1 ty
  refine ⟨T, id, pa, slot, hty, h1, h2, ?_⟩
  have hA := ha cpos pins s1 σ H1 _ I1 q1
  rw [hs] at hA ⊢
  refine Calls.callWith_builtin (by show (false || (backTo cpos (starEach es X.env)).any (·.1)) = false; rw [hplain] <;> rfl) (Calls.evalArgs_plain ?_)
  exact thn hA fun us s2 ⟨vs, H2, I2, r2, q2⟩ => hm pins s2 σ H2 x vs v us Q I2 r1 r2 q2
/- xs.append(e), list.index on a module's tuple .. are MtR facts of 06m -/
end
end L2
namespace L2
open PySem PySem.Spec PyProof.Rows
noncomputable def MtM (X : Cx) (id : String) (r : V → List V → Hp → VK → Prop) : Prop :=
  ∀ (pins : List (Addr × Obj)) (s : Shared) (σ : St) (H : Hp) (x : V) (xs : List V) (v : Value) (us : List Value) (Q : VK), Inv X pins σ H s → yP x v → yd xs us → r x xs H Q →
    wpAny (model X.prog X.w) X.A (call (.builtin id) (v :: us)) (EP X pins σ Q) X.xe s
theorem yd.one : ∀ {x : V} {us : List Value}, yd [x] us → ∃ u, us = [u] ∧ yP x u := by
  intro x us h
  cases h with | cons r t => cases t; exact ⟨_, rfl, r⟩
theorem yd.rep {xs : List V} {us : List Value} (h : yd xs us) : ∀ k : Nat, yd (List.replicate k xs).flatten (List.replicate k us).flatten
  | 0 => .nil
  | k + 1 => by
    rw [List.replicate_succ, List.replicate_succ, List.flatten_cons, List.flatten_cons]
    exact yd.append h (yd.rep h k)
theorem vZ (its : List Value) : ∀ (k : Nat) (acc : List Value),
    List.foldl (fun x1 x2 => x1 ++ x2) acc.toArray (List.replicate k its.toArray) = (acc ++ (List.replicate k its).flatten).toArray
  | 0, acc => by simp
  | k + 1, acc => by
    have e : acc.toArray ++ its.toArray = (acc ++ its).toArray := by simp
    have e2 : (acc ++ its) ++ (List.replicate k its).flatten = acc ++ (List.replicate (k + 1) its).flatten := by
      rw [List.replicate_succ, List.flatten_cons, List.append_assoc]
    rw [← e2, ← vZ its k (acc ++ its), ← e, List.replicate_succ, List.foldl_cons]
section
variable {X : Cx} {pins : List (Addr × Obj)} {σ : St} {H : Hp} {s : Shared} {l b : Addr} {xs ys zs : List V}
theorem Inv.lset {its its' : List Value} {n : Nat} {f : Array Value → Array Value} {t' : Nat} (I : Inv X pins σ H s) (hH : H l = some (.lst xs))
    (e : s.heap.get? l = some { cls := .type "list", data := .seq its.toArray n }) (hf : f its.toArray = its'.toArray) (hv : yd ys its') (hz : ys.length ≤ sizeLine) :
    Inv X pins σ (upd H l (.lst ys)) { s with heap := s.heap.update l (Obj.mapSeq f), toks := t' } := by
  have q := PySem.IsL.update e f
  rw [hf] at q
  refine I.write (x := l) (e := l) (by rw [hH]; exact trivial) (.inl rfl) (fun b' u hb hu => (Heap.get?_update_other s.heap (Obj.mapSeq f) (Ne.symm hb)).trans hu) ⟨_, q⟩ ?_
  exact ⟨hz, its', _, hv, q⟩
theorem Inv.lnew {its : List Value} {t' : Nat} (I : Inv X pins σ H s) (hv : yd ys its) (hz : ys.length ≤ sizeLine) :
    Inv X pins σ (upd H s.heap.objs.size (.lst ys)) { s with heap := s.heap.push { cls := .type "list", data := .seq its.toArray }, toks := t' } :=
  I.laid (fun _ _ q => Heap.get?_push_of_some _ q) (Nat.le_refl _) ⟨hz, its, 0, hv, Heap.get?_push_size _ rfl⟩
theorem Inv.fresh (I : Inv X pins σ H s) : H s.heap.objs.size = none := I.hok.fresh (Nat.le_refl _)
theorem Inv.lstM (I : Inv X pins σ H s) (hH : H l = some (.lst xs)) : xs.length ≤ sizeLine ∧ ∃ (its : List Value) (n : Nat), yd xs its ∧ xs.length = its.length ∧ s.heap.get? l = some { cls := .type "list", data := .seq its.toArray n } := by
  obtain ⟨z, its, n, r, e⟩ := I.hok l _ hH
  exact ⟨z, its, n, r, r.length, e⟩
theorem Xm {n : Nat} (h : n ≤ sizeLine) : Builtin.List.listTooLong n = false := by
  unfold Builtin.List.listTooLong
  exact decide_eq_false (by omega)
end
section
variable {X : Cx}
noncomputable def Ww : V → List V → Hp → VK → Prop := fun x vs H Q => ∃ l xs y, x = .ref l ∧ vs = [y] ∧ H l = some (.lst xs) ∧ xs.length < sizeLine ∧ Q .non (upd H l (.lst (xs ++ [y])))
theorem vN : MtM X "list.append" Ww := by
  intro pins s σ H x vs v us Q I rx rv h
  obtain ⟨l, xs, y, rfl, rfl, hH, hz, q⟩ := h
  cases rx
  obtain ⟨u, rfl, ru⟩ := rv.one
  obtain ⟨z, its, n, r, hl, e⟩ := I.lstM hH
  refine call_meets F.slot_list_append ⟨_, e, rfl⟩ F.entry_list_append (F.args_list_append_2 _ _) (PySem.list_append l its.toArray n u (by rw [List.size_toArray]; omega)) ⟨e, ?_⟩
  refine ⟨.non, _, I.lset (its' := its ++ [u]) hH e (by simp) (r.append (.cons ru .nil)) ?_, rfl, q⟩
  rw [List.length_append, List.length_singleton]
  omega
noncomputable def Vl : V → List V → Hp → VK → Prop := fun x vs H Q => ∃ l b xs zs, x = .ref l ∧ vs = [.ref b] ∧ H l = some (.lst xs) ∧ H b = some (.lst zs) ∧ xs.length + zs.length ≤ sizeLine ∧ Q .non (upd H l (.lst (xs ++ zs)))
theorem Wp : MtM X "list.extend" Vl := by
  intro pins s σ H x vs v us Q I rx rv h
  obtain ⟨l, b, xs, zs, rfl, rfl, hH, hB, hz, q⟩ := h
  cases rx
  obtain ⟨u, rfl, ru⟩ := rv.one
  cases ru
  obtain ⟨z, its, n, r, hl, e⟩ := I.lstM hH
  obtain ⟨z2, its2, n2, r2, hl2, e2⟩ := I.lstM hB
  have hsz : its.toArray.size + its2.toArray.size ≤ sizeLine := by rw [List.size_toArray, List.size_toArray]; omega
  have hlong : ¬ (!its.toArray.isEmpty && Builtin.List.listTooLong (its.toArray.size + its2.toArray.size)) = true := by
    rw [Xm hsz, Bool.and_false]
    exact Bool.false_ne_true
  refine call_meets F.slot_list_extend ⟨_, e, rfl⟩ F.entry_list_extend (F.args_list_extend_2 _ _)
    (AutoSeq1.list_extend_list_list_0 l its.toArray n b its2.toArray n2 hlong (by rw [List.size_toArray]; omega) (by omega)) ⟨e, e2, ?_⟩
  refine ⟨.non, _, I.lset (its' := its ++ its2) hH e (by simp) (r.append r2) ?_, rfl, q⟩
  rw [List.length_append]
  omega
noncomputable def zdF : R2 := fun x y H Q => ∃ l b xs zs, x = .ref l ∧ y = .ref b ∧ H l = some (.lst xs) ∧ H b = some (.lst zs) ∧ xs.length + zs.length ≤ sizeLine ∧ ∀ p, H p = none → Q (.ref p) (upd H p (.lst (xs ++ zs)))
theorem Zl : OpR X (binaryOp .Add) zdF := by
  intro pins s σ H x y v u Q I rx ry h
  obtain ⟨l, b, xs, zs, rfl, rfl, hH, hB, hz, q⟩ := h
  cases rx
  cases ry
  obtain ⟨z, its, n, r, hl, e⟩ := I.lstM hH
  obtain ⟨z2, its2, n2, r2, hl2, e2⟩ := I.lstM hB
  refine PySem.P.add_list e e2 ?_ (by rw [List.size_toArray, List.size_toArray]; omega)
  have ea : its.toArray ++ its2.toArray = (its ++ its2).toArray := by simp
  rw [ea]
  exact ⟨.ref _, _, I.lnew (t' := s.toks) (r.append r2) (by rw [List.length_append]; omega), rfl, q _ I.fresh⟩
noncomputable def rRep : R2 := fun x y H Q => ∃ l k xs, x = .ref l ∧ y = .int k ∧ H l = some (.lst xs) ∧ -(2 ^ 63) ≤ k ∧ k < 2 ^ 63 ∧ xs.length * k.toNat ≤ sizeLine ∧
  ∀ p, H p = none → Q (.ref p) (upd H p (.lst (List.replicate k.toNat xs).flatten))
theorem Xb {α : Type} (xs : List α) (k : Nat) : (List.replicate k xs).flatten.length = k * xs.length := by
  induction k with
  | zero => simp
  | succ k ih => rw [List.replicate_succ, List.flatten_cons, List.length_append, ih, Nat.succ_mul, Nat.add_comm]
theorem zcL : OpR X (binaryOp .Mult) rRep := by
  intro pins s σ H x y v u Q I rx ry h
  obtain ⟨l, k, xs, rfl, rfl, hH, h1, h2, hz, q⟩ := h
  cases rx
  obtain ⟨t, rfl⟩ := ry
  obtain ⟨z, its, n, r, hl, e⟩ := I.lstM hH
  have hlen : its.toArray.size * k.toNat ≤ sizeLine := by rw [List.size_toArray, ← hl]; exact hz
  have hcap : ¬ its.toArray.size * k.toNat > (2 ^ 63 - 1) / 8 := by
    have : (sizeLine : Nat) ≤ (2 ^ 63 - 1) / 8 := by decide
    omega
  have hfit : ¬ (!Builtin.List.listFitsIndex k) = true := by
    rw [fitsIndex_both h1 h2]
    exact Bool.false_ne_true
  have hlong : ¬ Builtin.List.listTooLong (its.toArray.size * k.toNat) = true := by
    rw [Xm hlen]
    exact Bool.false_ne_true
  have hnew : List.foldl (fun x1 x2 => x1 ++ x2) #[] (List.replicate (if its.toArray.isEmpty = true then 0 else k.toNat) its.toArray) = (List.replicate k.toNat its).flatten.toArray := by
    have f0 : ∀ m : Nat, List.foldl (fun x1 x2 => x1 ++ x2) #[] (List.replicate m its.toArray) = (List.replicate m its).flatten.toArray := fun m => by
      have := vZ its m []
      rw [List.nil_append] at this
      exact this
    rw [f0]
    cases its with
    | nil => simp
    | cons a r' => rw [if_neg (by simp)]
  refine wpAny_binaryOp_repeat_ref (T := "list") (U := "int") (by decide) ⟨_, e, rfl⟩ (fun s' => typeIs_int s' k t) noFill_list_mul F.fills_int_mul F.slot_int_rmul repeat_list F.slot_int_index.lookup
    (call_meets F.slot_int_rmul (typeIs_int s k t) F.entry_int_rmul (F.args_int_rmul_2 _ _) (int___rmul___int_list k t l its.toArray n)
      ⟨e, rfl, ⟨_, e, rfl⟩, call_meets F.slot_list_mul ⟨_, e, rfl⟩ F.entry_list_mul (F.args_list_mul_2 _ _) (AutoListH.list___mul___list_int_3 l its.toArray n k t hfit hcap hlong) ⟨e, ?_⟩⟩)
  rw [hnew]
  exact ⟨.ref _, _, I.lnew (t' := s.toks) (r.rep k.toNat) (by rw [Xb, Nat.mul_comm]; exact hz), rfl, q _ I.fresh⟩
end
section
variable {prog : Program} {w : World} {A : Around} {E : Value → Shared → Prop} {s : Shared}
end
section
variable {X : Cx}
end
end L2
namespace Att
open PySem PySem.W PySem.Calls PyProof.Rows
theorem v8 {P : Params} {h : Heap} : ∀ (ns : List Int) (vs : List Value), WellAll P h vs (ns.map WData.int) → IntsAre vs ns := by
  intro ns
  induction ns with
  | nil =>
    intro vs w
    rw [List.map_nil] at w
    cases w
    exact .nil
  | cons n ns ih =>
    intro vs w
    rw [List.map_cons] at w
    cases w with
    | cons a b =>
      cases a
      exact .cons _ _ (ih _ b)
theorem Vq {l : OpenLaw} {n : Nat} (hn : l.most = some n) {P : Params} {h : Heap} {args : List WData} {vals : List Value}
    (hpre : l.row.toRowW.claim.pre args = true) (hwl : WellAll P h vals args) :
    ∃ a vs ns, vals = [Value.ref a] ∧ args = [WData.list (ns.map WData.int)] ∧ h.get? a = some { cls := .type "list", data := .seq vs.toArray } ∧ IntsAre vs ns ∧ ns.length ≤ n := by
  have hsh : WShape.hasAll [] args [.list .int] = true := (pre_splitW hpre).1
  have hc : l.pre.holds [] { args := args } = true := (pre_splitW hpre).2
  obtain ⟨d, r, rfl, h1, h2⟩ := hasAllW_cons hsh
  obtain rfl := hasAllW_nil h2
  obtain ⟨xs, rfl, h3⟩ := hasW_list h1
  obtain ⟨ns, rfl⟩ := items_int h3
  have hlen : ns.length ≤ n := by
    unfold OpenLaw.pre at hc
    have h4 : (WTm.not (.lt (.lit (.int (n : Int))) (.len (.arg 0)))).holds [] { args := [.list (ns.map .int)] } = true := by
      have h4 := (holds_andW hc).1
      rw [hn] at h4
      exact h4
    have h5 := condW_of h4 (w_not (w_lt w_lit (w_len_list (w_arg rfl))))
    rw [List.length_map] at h5
    refine Nat.le_of_not_lt fun q => ?_
    have q' : (n : Int) < ((ns.length : Nat) : Int) := by omega
    first
      | (rw [decide_eq_true q'] at h5; exact absurd h5 (by decide))
      | (simp at h5; omega)
  cases hwl with
  | cons w1 w2 =>
    cases w2
    cases w1 with
    | list ho hall => exact ⟨_, _, ns, rfl, rfl, ho, v8 ns _ hall, hlen⟩
theorem Wf (l : OpenLaw) (args : List WData) : l.row.toRowW.claim.post args (.bool true) args = true :=
  postW_of (r := l.row.toRowW) (X := (true == true))
    (show WShape.has [] (.bool true) .bool = true by first | rfl | decide | simp [WShape.has, WShape.arms, WShape.armsAll])
    (show (WTm.eq .res (.lit (.bool true))).value [] { args := args, res := some (.bool true), after := args } = some (.bool (true == true)) from w_eq_bool (w_res rfl) w_lit) rfl
theorem attach_call {l : OpenLaw} {n : Nat} {q : Program} {loose : List Str} {XP : (Str → Option Value) → Heap → Prop} {YP : World → Heap → Prop} {d : DefRec}
    (hn : l.most = some n) (hdf : d.params.defaults = [])
    (call : ∀ (w : World) (s₀ s₁ : Shared) (mg mb : Str → Option Value) (fa : Addr) (o : Obj) (pm cd doc : Value) (a : Addr) (vs : List Value) (ns : List Int),
      Ground q loose [] XP w s₀ mg mb s₁.heap → YP w s₁.heap →
      s₁.heap.get? fa = some o → o.data = .func (docDef d.name d.params d.body d.scope pm cd doc) → s₁.heap.CodeRec cd d.name → mg d.name = some (.ref fa) →
      s₁.heap.get? a = some { cls := .type "list", data := .seq vs.toArray } → IntsAre vs ns → ns.length ≤ n → s₁.gens = #[] →
      codeAny (model l.prog w) callerA (.call (.ref fa) ⟨[.ref a], []⟩) (fun r s' => r = .ok (.ret (.bool true)) ∧ OldK s₁.heap s'.heap ∧ s'.os = s₁.os ∧ AllBare s'.gens) s₁) :
    WalkO q loose XP YP l.row.toRowW d [] (fun f vs => PySem.call f vs) := by
  intro w s₀ s₁ mg mb G Y fa o pm cd doc dV kV ho hd hcd hD hmg hg args vals as hpre hlay hrd hwl hlo
  obtain rfl : dV = .none := Dflts.none hD hdf
  obtain rfl : kV = .none := Dflts.noKw hD
  obtain ⟨a, vs, ns, rfl, rfl, hobj, hints, hlen⟩ := Vq hn hpre hwl
  refine enter_call (codeAny_mono (call w s₀ s₁ mg mb fa o pm cd doc a vs ns G Y ho (fd_plain hd) hcd hmg hobj hints hlen hg) fun r s' hq => ?_)
  obtain ⟨rfl, h2, h3, h4⟩ := hq
  exact ⟨.inl ⟨.bool true, .bool true, [], rfl, fun _ => rfl, .bool true, Wf l _, fun _ => ⟨List.Pairwise.nil, fun _ hm => (nomatch hm)⟩⟩, h2, h3, h4⟩
section
variable {prog : Program} {w : World} {A : Around} {E : Value → Shared → Prop} {s : Shared} {K : Frag}
noncomputable def ledger (h : Heap) (L d : Addr) : List (Addr × Obj) := (List.range h.objs.size).filterMap fun a => if a = L ∨ a = d then none else (h.get? a).map fun o => (a, o)
end
end Att
namespace L2
open PySem PySem.Spec PyProof.Rows
theorem Vm : ∀ {vs : List Value} {ns : List Int}, IntsAre vs ns → yd (ns.map V.int) vs := by
  intro vs ns h
  induction h with
  | nil => exact .nil
  | cons n t h ih => exact .cons ⟨t, rfl⟩ ih
noncomputable def zdt (H : Hp) : Prop := ∀ b, H b = none ∨ ∃ o xs, H b = some (.frz o (.lst xs))
theorem VU {P : Program} {w : World} {K : PySem.W.Frag} {mg mb : Str → Option Value} {CX : CXT} {k : Nat} {fa a : Addr} {fd : FuncData} {x : Str} {sp : Sp} {s₁ : Shared} {vs : List Value} {ns : List Int}
    (KX : K.In s₁.heap) (hns : s₁.heap.Ns mainGlobals mg) (hb : s₁.heap.Ns builtinsNs mb) (hbb : ∀ x : Str, x ≠ "__name__" → mb x = bootBuiltins x) (hlim : s₁.heap.NoLimit) (hg : s₁.gens = #[])
    (ha : s₁.heap.get? a = some { cls := .type "list", data := .seq vs.toArray }) (hi : IntsAre vs ns) (hl : ns.length ≤ sizeLine) (hr : vy k callerA)
    (F : ∀ base : Heap, K.In base → base.Ns mainGlobals mg → xn P w K mg base CX k fa fd [x] sp) (hbind : ∀ (s : Shared) (u : Value), BindsTo s fd ⟨[u], []⟩ [(x, u)])
    (hsp : ∀ H : Hp, zdt H → SqL K H a (ns.map V.int) → sp [.ref a] H (fun v _ => v = .bl true) fun _ _ _ => False)
    (hCX : ∀ H e s', CX [] H s₁ (fun _ _ _ => False) e s' → False) :
    codeAny (model P w) callerA (.call (.ref fa) ⟨[.ref a], []⟩) (fun r s' => r = .ok (.ret (.bool true)) ∧ OldK s₁.heap s'.heap ∧ s'.os = s₁.os ∧ AllBare s'.gens) s₁ := by
  have rv := Vm hi
  have lenV := hi.length
  -- from an abstract heap in which nothing but the script may be tracked
  have core : ∀ H : Hp, zdt H → SqL K H a (ns.map V.int) → HOk P w H s₁.heap → (∀ b, H b ≠ none → b = a) → (H a ≠ none → K.lookup a = none) →
      codeAny (model P w) callerA (.call (.ref fa) ⟨[.ref a], []⟩) (fun r s' => r = .ok (.ret (.bool true)) ∧ OldK s₁.heap s'.heap ∧ s'.os = s₁.os ∧ AllBare s'.gens) s₁ := by
    intro H hO hS hok hA hK
    have base_of : ∀ {b : Addr} {o : Obj}, s₁.heap.get? b = some o → H b = none → (V4 s₁.heap H).get? b = some o := fun e n => V2 e n
    have noA : ∀ {b : Addr} {o : Obj} {es : Array DictEntry} {ep : Nat}, s₁.heap.get? b = some o → o.data = .dict es ep → H b = none := fun {b o es ep} e d => by
      cases q : H b with
      | none => rfl
      | some u =>
        have e' : b = a := hA b (by rw [q]; simp)
        subst e'
        rw [ha] at e; cases e
        have d' : Data.seq vs.toArray _ = Data.dict es ep := d
        cases d'
    have nsK : ∀ {b : Addr} {m : Str → Option Value}, s₁.heap.Ns b m → (V4 s₁.heap H).Ns b m := fun {b m} ⟨o, es, ep, e, d, r⟩ => ⟨o, es, ep, base_of e (noA e d), d, r⟩
    have hKb : K.In (V4 s₁.heap H) := fun b o e => base_of (KX b o e) (by
      cases q : H b with
      | none => rfl
      | some u =>
        have e' : b = a := hA b (by rw [q]; simp)
        subst e'
        rw [hK (by rw [q]; simp)] at e; cases e)
    have hM : Mod K mg (V4 s₁.heap H) := ⟨hKb, nsK hns, ⟨mb, nsK hb, hbb⟩, let ⟨mc, h1, h2⟩ := hlim; ⟨mc, nsK h1, h2⟩⟩
    have e0 : zbY P w K mg (V4 s₁.heap H) callerA [] s₁ H := ⟨rfl, hM, fun b o e => za9 e, Nat.le_of_eq (Vz _ _), trivial, fun b hb => absurd (show b ∈ ([] : List Addr) from hb) (by simp), hok, .of_eq hg⟩
    refine codeAny_mono ((F _ hKb (nsK hns)).run callerA [] s₁ H ⟨[.ref a], []⟩ [.ref a] [.ref a] _ _ hr e0 (hbind s₁ (.ref a)) (.cons rfl .nil) (hsp H hO hS)) fun r s' h => ?_
    cases r with
    | error e => exact (hCX H e s' h).elim
    | ok fl =>
      cases fl with
      | next => exact False.elim h
      | brk => exact False.elim h
      | cont => exact False.elim h
      | ret u =>
        obtain ⟨v, H', os, bare, un, hok', r', q⟩ := h
        have q' : v = .bl true := q
        subst q'
        obtain rfl : u = Value.bool true := r'
        refine ⟨rfl, OldK.of_keep fun b o e => ?_, os, bare⟩
        cases q : H b with
        | none => exact un.keep b o e q (by intro z; exact absurd (show b ∈ ([] : List Addr) from z) (by simp)) (by simp)
        | some u =>
          rcases hO b with z | ⟨ob, xs, z⟩
          · rw [q] at z; cases z
          · have z2 := un.frzs b ob _ z
            obtain ⟨e1, _⟩ := hok b _ z
            obtain ⟨e2, _⟩ := hok' b _ z2
            rw [e] at e1; cases e1
            exact e2
  cases hk : K.lookup a with
  | some o =>
    -- the script is one of the module's own objects
    have e := KX a o hk
    rw [ha] at e
    cases e
    refine core (fun _ => none) (fun _ => .inl rfl) (.inr ⟨_, vs.toArray, _, hk, rfl, rfl, rfl, by rw [List.size_toArray, lenV]; exact hl, by simpa using rv⟩) (fun b u z => by have z' : (none : Option HO) = some u := z; cases z') (fun b z => absurd rfl z) fun z => absurd rfl z
  | none =>
    refine core (fun b => if b = a then some (.frz { cls := .type "list", data := .seq vs.toArray } (.lst (ns.map V.int))) else none) (fun b => ?_) (.inl (.inr ⟨{ cls := .type "list", data := .seq vs.toArray }, if_pos rfl⟩)) (fun b u z => ?_) (fun b z => ?_) fun _ => hk
    · by_cases hb : b = a
      · exact .inr ⟨_, _, if_pos hb⟩
      · exact .inl (if_neg hb)
    · by_cases hb : b = a
      · have z' := (if_pos hb).symm.trans z
        cases z'
        subst hb
        exact ⟨ha, by rw [List.length_map]; exact hl, vs, _, rv, ha⟩
      · have z' := (if_neg hb).symm.trans z
        cases z'
    · by_cases hb : b = a
      · exact hb
      · exact absurd (if_neg hb) z
end L2
namespace L2
open PySem PySem.Spec PyProof.Rows
theorem walk_of {l : PySem.W.OpenLaw} {n k : Nat} {q : Program} {loose : List Str} {XP : (Str → Option Value) → Heap → Prop} {YP : World → Heap → Prop} {d : DefRec} {K : Params → PySem.W.Frag} {CX : World → CXT} {sp : World → Sp} {x : Str}
    (hn : l.most = some n) (hn2 : n ≤ sizeLine) (hdf : d.params.defaults = []) (hr : vy k callerA)
    (hY : ∀ (w : World) (h : Heap), YP w h → (K w.params).In h)
    (F : ∀ (w : World) (mg : Str → Option Value) (fa : Addr) (h : Heap), (K w.params).In h → h.Ns mainGlobals mg → mg d.name = some (.ref fa) →
      ∃ fd : FuncData, (∀ (s : Shared) (u : Value), BindsTo s fd ⟨[u], []⟩ [(x, u)]) ∧
        ∀ base : Heap, (K w.params).In base → base.Ns mainGlobals mg → xn l.prog w (K w.params) mg base (CX w) k fa fd [x] (sp w))
    (hsp : ∀ (w : World) (H : Hp) (a : Addr) (ns : List Int), ns.length ≤ n → zdt H → SqL (K w.params) H a (ns.map V.int) → sp w [.ref a] H (fun v _ => v = .bl true) fun _ _ _ => False)
    (hCX : ∀ (w : World) (H : Hp) (s : Shared) (e : Value) (s' : Shared), CX w [] H s (fun _ _ _ => False) e s' → False) :
    PySem.W.WalkO q loose XP YP l.row.toRowW d [] (fun f vs => PySem.call f vs) := by
  refine Att.attach_call hn hdf fun w s₀ s₁ mg mb fa o pm cd doc a vs ns G Y ho hd hcd hmg hobj hints hlen hg => ?_
  have KX := hY w _ Y
  obtain ⟨fd, hb, hF⟩ := F w mg fa _ KX G.T.g hmg
  exact VU KX G.T.g G.T.b G.T.builtins G.T.nolimit hg hobj hints (Nat.le_trans hlen hn2) hr hF hb (fun H hO hS => hsp w H a ns hlen hO hS) fun H e s' => hCX w H s₁ e s'
end L2
namespace L2
open PySem PySem.Spec PyProof.Rows
noncomputable def zK (s : Stmt) : Arguments := match s with
  | .FunctionDef _ a _ _ _ _ _ _ _ _ => a
  | _ => { posonlyargs := [], args := [], vararg := none, kwonlyargs := [], kw_defaults := [], kwarg := none, defaults := [] }
noncomputable def zC (s : Stmt) : List Stmt := match s with
  | .FunctionDef _ _ b _ _ _ _ _ _ _ => b
  | _ => []
noncomputable def zf (s : Stmt) : Scope := match s with
  | .FunctionDef _ _ _ _ _ _ sc _ _ _ => sc
  | _ => { kind := .function, names := [], isGenerator := false, isCoroutine := false }
noncomputable abbrev CX0 : CXT := fun _ _ _ _ _ _ => False
noncomputable abbrev E0 : XK := fun _ _ _ => False
theorem zdi {X : Cx} : vX CX0 X E0 := fun _ _ _ _ _ _ _ h => h.elim
set_option genInjectivity false in
set_option genSizeOf false in
set_option genCtorIdx false in
structure Fun (K : PySem.W.Frag) (x qual : Str) (st : Stmt) (f : Addr) (fd : FuncData) : Prop where
  ex : ∃ (oc : Value) (od : Option Addr) (kV doc pm : Value) (an : Option Addr) (cdv ct : Value) (osl : Array (Option Value)),
    fd = PySem.W.fnOf x qual (zK st) (zC st) (zf st) .none kV doc pm an cdv ct ∧ K.lookup f = some ⟨oc, od, .func fd, osl⟩ ∧ PySem.W.codeIn K cdv qual = true
  kp : PySem.W.keepIn K (.ref f) = true
section
variable {P : Program} {w : World} {K : PySem.W.Frag} {mg : Str → Option Value} {base : Heap}
theorem Fun.ok {x qual : Str} {st : Stmt} {f : Addr} {fd : FuncData} {N ps : List Str} {k : Nat} {sp : Sp} (F : Fun K x qual st f fd) (S : zE N ps (zf st)) (len : ∀ vs H Q E, sp vs H Q E → vs.length = ps.length)
    (hbody : ∀ (cdv : Value) (A : Around) (outer : List Env) (s : Shared) (H : Hp) (vs : List V) (Q : VK) (E : XK), vy k (A.deeper (envOfC qual (zf st) s.heap.objs.size f cdv)) → sp vs H Q E →
      ∃ t, PSs (Y2 CX0 P w K mg base N qual (zf st) f cdv A outer s H E).nox (zC st) t ∧ t { nx := fun _ H' => Q .non H', rt := Q } (start N vs) H) : xn P w K mg base CX0 (k + 1) f fd ps sp := by
  obtain ⟨oc, od, kV, doc, pm, an, cdv, ct, osl, rfl, lk, hcd⟩ := F.ex
  refine zcR lk hcd S len fun A outer s H vs Q E hr hsp => ?_
  obtain ⟨t, h, q⟩ := hbody cdv A outer s H vs Q E hr hsp
  exact ⟨t, h.nox, q⟩
theorem Fun.binds {x qual : Str} {st : Stmt} {f : Addr} {fd : FuncData} {ps : List Str} (F : Fun K x qual st f fd)
    (h : ∀ (kV doc pm : Value) (an : Option Addr) (cdv ct : Value) (us : List Value), us.length = ps.length → bindArgs (PySem.W.fnOf x qual (zK st) (zC st) (zf st) .none kV doc pm an cdv ct) ⟨us, []⟩ = pure (ps.zip us)) : YS K fd ps [] := by
  obtain ⟨oc, od, kV, doc, pm, an, cdv, ct, osl, rfl, lk, hcd⟩ := F.ex
  exact .all (h kV doc pm an cdv ct)
theorem yG {x qual : Str} {st : Stmt} {f : Addr} {oc : Value} {od an : Option Addr} {osl : Array (Option Value)} {kV doc pm cdv ct : Value} (l : K.lookup f = some ⟨oc, od, .func (PySem.W.fnOf x qual (zK st) (zC st) (zf st) .none kV doc pm an cdv ct), osl⟩)
    (c : PySem.W.codeIn K cdv qual = true) (k : PySem.W.keepIn K (.ref f) = true) : Fun K x qual st f (PySem.W.fnOf x qual (zK st) (zC st) (zf st) .none kV doc pm an cdv ct) := ⟨⟨oc, od, kV, doc, pm, an, cdv, ct, osl, rfl, l, c⟩, k⟩
end
theorem Zp {n : Nat} (h : n ≤ 1000) : n < sizeLine := Nat.lt_of_le_of_lt h (by decide)
section
variable {X : Cx}
theorem pv (i : Nat) {x : Str} {pos : Pos} (hN : X.N[i]? = some x := by rfl) (hv : Vis X.env.scope x := by first | exact Or.inl rfl | exact Or.inr (Or.inl rfl) | exact Or.inr (Or.inr rfl)) (hd : (x == ("__debug__" : Str)) = false := by decide)
    (hcd : (x == ("__classdict__" : Str)) = false := by decide) : PE X (.Name x pos) (XU i) := zb2 hN hv hd hcd
end
noncomputable def yg (H H' : Hp) : Prop := ∀ b o, H b = some o → H' b = some o
theorem yg.refl (H : Hp) : yg H H := fun _ _ h => h
theorem yg.trans {H H1 H2 : Hp} (a : yg H H1) (b : yg H1 H2) : yg H H2 := fun c o h => b c o (a c o h)
theorem yg.free {H H' : Hp} (e : yg H H') {l : Addr} (h : H' l = Option.none) : H l = Option.none := by
  cases q : H l with
  | none => rfl
  | some o =>
    rw [e l o q] at h
    cases h
theorem yg.seq {K : PySem.W.Frag} {H H' : Hp} {a : Addr} {xs : List V} (e : yg H H') (h : SqL K H a xs) : SqL K H' a xs := by
  rcases h with (h | ⟨o, h⟩) | h
  · exact .inl (.inl (e _ _ h))
  · exact .inl (.inr ⟨o, e _ _ h⟩)
  · exact .inr h
end L2
namespace L2
open PySem PySem.Spec PyProof.Rows
end L2
namespace L2
open PySem PySem.Spec PyProof.Rows
section
variable (P : Program) (w : World)
end
section
variable {P : Program} {w : World} {H H' : Hp} {h h' : Heap} {a : Addr} {o : HO}
end
section
variable {P : Program} {w : World} {H : Hp} {h h' : Heap} {x e : Addr} {o' : HO}
end
section
variable {fs fs' ex ex' : List Addr} {H H1 H2 : Hp} {h h1 h2 h' : Heap} {a x e : Addr} {o : HO}
end
end L2
namespace L2
open PySem PySem.Spec PyProof.Rows
section
variable {X : Cx} {pins : List (Addr × Obj)} {σ : List (Option V)} {H H' : Hp} {s : Shared} {h' : Heap}
end
end L2
namespace L2
open PySem PySem.Spec PyProof.Rows
section
variable {X : Cx}
variable {a b : Expr} {ta tb : TE} {pos : Pos}
variable {tA tB' : TT} {rest : List Expr}
end
end L2
namespace L2
open PySem PySem.Spec PyProof.Rows
section
variable {X : Cx} {pins : List (Addr × Obj)} {σ : St} {H : Hp} {s : Shared} {a : Addr} {xs ys : List V}
end
section
variable {X : Cx} {pins : List (Addr × Obj)} {σ : St} {H : Hp} {s : Shared} {E : Value → Shared → Prop}
end
section
variable {X : Cx} {st : Stmt} {rest : List Stmt} {t u : TS} {e : Expr} {te : TE} {pos : Pos}
end
section
variable {X : Cx} {pos : Pos}
end
section
variable {X : Cx} {pos : Pos}
end
end L2
namespace L2
open PySem PySem.Spec PyProof.Rows
section
variable {X : Cx} {tg : Expr}
end
end L2
namespace L2
open PySem PySem.Spec PyProof.Rows
section
variable {X : Cx} {a b c : Expr} {ta tb tc : TE} {pos : Pos}
end
section
variable {X : Cx} {a b c : Expr} {ta tb tc : TE} {pos : Pos}
end
end L2
namespace L2
open PySem PySem.Spec PyProof.Rows
section
variable {prog : Program} {w : World} {A : Around} {E : Value → Shared → Prop} {s : Shared} {K : PySem.W.Frag} {x dx C f : Addr} {mA : Str → Option Value} {name : Str} {v : Value}
end
section
variable {P : Program} {w : World} {H H' : Hp} {h h' : Heap} {a C dx : Addr} {fs fs' : List (Str × V)}
end
section
variable {X : Cx} {pins : List (Addr × Obj)} {σ : St} {H : Hp} {s : Shared} {a C dx : Addr} {fs : List (Str × V)} {f : Str} {v : V} {A : Around} {E : Value → Shared → Prop}
end
section
variable {X : Cx} {o e value : Expr} {f : Str} {pos pos' tpos : Pos} {ta tv : TE}
end
section
variable {X : Cx} {pins : List (Addr × Obj)} {σ : St} {H : Hp} {s : Shared} {A : Around} {E : Value → Shared → Prop} {Q : Value → Shared → Prop} {c : Value} {b : Bool}
end
end L2
namespace L2
open PySem PySem.Spec PyProof.Rows
section
variable {X : Cx} {e : Expr} {es : List Expr} {te : TE} {t : TA} {pos : Pos}
end
section
variable {X : Cx} {pins : List (Addr × Obj)} {σ : St} {H : Hp} {s s' : Shared}
end
section
variable {X : Cx} {CX : CXT} {k : Nat} {f C : Addr} {fd : FuncData} {ps : List Str} {sp : Sp} {dvs : List V} {ds : List Value} {E : XK} {x m : Str} {p pos apos : Pos} {e o : Expr} {es : List Expr} {ta : TE} {t : TA}
end
section
variable {X : Cx} {CX : CXT} {k : Nat} {f C : Addr} {fd : FuncData} {ps ks : List Str} {sp : Sp} {E : XK} {x m : Str} {p pos apos kpos : Pos} {e o : Expr} {es : List Expr} {kws : List Keyword} {te ta : TE} {t tk : TA} {nm : Option Str}
variable {g : List Value → List Value → List Value} {gV : List V → List V → List V}
end
end L2
namespace L2
open PySem PySem.Spec PyProof.Rows
section
variable {X : Cx} {x : Str} {p pos : Pos} {e : Expr} {es : List Expr} {t : TA} {id T : String} {r : List V → Hp → VK → Prop}
end
end L2
namespace L2
open PySem PySem.Spec PyProof.Rows
section
variable {κ : Type} [DecidableEq κ]
end
section
variable {P : Program} {w : World} {H : Hp} {h : Heap} {a : Addr}
end
section
variable {X : Cx} {pins : List (Addr × Obj)} {σ : St} {H : Hp} {s : Shared} {a : Addr} {y v : V} {u r : Value} {o : Option V} {A : Around} {E : Value → Shared → Prop}
end
section
variable {X : Cx} {pins : List (Addr × Obj)} {σ : St} {H : Hp} {s : Shared} {a : Addr} {kvs : List (Key × V)} {k : Key} {u : Value} {A : Around} {E : Value → Shared → Prop}
end
section
variable {X : Cx} {o i e value : Expr} {pos pos' tpos : Pos} {td ty tv : TE}
end
section
variable {X : Cx} {pos : Pos}
end
section
variable {X : Cx} {pins : List (Addr × Obj)} {σ : St} {H : Hp} {s : Shared} {a : Addr} {y d : V} {u r : Value} {o : Option V} {A : Around} {E : Value → Shared → Prop}
end
section
variable {X : Cx} {o e f : Expr} {apos cpos : Pos} {td ty tx : TE}
end
section
variable {X : Cx} {pins : List (Addr × Obj)} {σ : St} {H : Hp} {s : Shared} {a : Addr} {kvs : List (Key × V)} {A : Around} {E : Value → Shared → Prop}
end
section
variable {X : Cx} {pins : List (Addr × Obj)} {σ : St} {H : Hp} {s : Shared} {a : Addr} {y : V} {u : Value} {A : Around} {E : Value → Shared → Prop}
end
end L2
namespace Att
open PySem PySem.W PySem.Calls PyProof.Rows
section
variable {prog : Program} {w : World} {A : Around} {E : Value → Shared → Prop} {s : Shared} {K : Frag}
end
end Att
namespace L2
open PySem PySem.Spec PyProof.Rows
end L2
namespace L2
open PySem PySem.Spec PyProof.Rows
end L2
namespace L2
open PySem PySem.Spec PyProof.Rows
section
variable {P : Program} {w : World} {K : PySem.W.Frag} {mg : Str → Option Value} {base : Heap}
end
section
variable {X : Cx}
end
section
variable {κ : Type} [DecidableEq κ]
end
end L2
namespace L2
open PySem PySem.Spec PyProof.Rows
theorem ZR {X : Cx} : vC X (.builtin "isinstance") (fun xs H Q => ∃ x n t b, xs = [x, .ty n] ∧ Xv X.K H x t ∧ PySem.W.kitOne X.K t (.type n) = some b ∧ Q (.bl b) H) := by
  intro pins s σ H xs us Q I r h
  obtain ⟨x, n, t, b, rfl, ty, e, q⟩ := h
  obtain ⟨u, w', rfl, rx, rt⟩ := zcn r
  cases (show w' = Value.type n from rt)
  exact VC I rx ty e fun tk => ⟨.bl b, H, I.tok _, rfl, q⟩
theorem VH {X : Cx} : OpR X (compareOp .Is) (fun x y H Q => ∃ i j, x = .bl i ∧ y = .bl j ∧ Q (.bl (i == j)) H) := by
  intro pins s σ H x y v u Q I rx ry h
  obtain ⟨i, j, rfl, rfl, q⟩ := h
  cases rx
  cases ry
  refine wpAny_is_plain (by rfl) ⟨.bl (i == j), H, I, ?_, q⟩
  cases i <;> cases j <;> rfl
theorem ZT {X : Cx} : OpR X (compareOp .IsNot) (fun x y H Q => ∃ i j, x = .bl i ∧ y = .bl j ∧ Q (.bl (!(i == j))) H) := by
  intro pins s σ H x y v u Q I rx ry h
  obtain ⟨i, j, rfl, rfl, q⟩ := h
  cases rx
  cases ry
  refine wpAny_isNot_plain (by rfl) ⟨.bl (!(i == j)), H, I, ?_, q⟩
  cases i <;> cases j <;> rfl
noncomputable def zaM (K : PySem.W.Frag) : R2 := fun x y H Q => ∃ a b xs ys, x = .ref a ∧ y = .ref b ∧ SqT K H a xs ∧ SqT K H b ys ∧ xs.length + ys.length ≤ sizeLine ∧
  (xs = [] → Q (.ref b) H) ∧ (xs ≠ [] → ys = [] → Q (.ref a) H) ∧ (xs ≠ [] → ys ≠ [] → ∀ p, H p = none → Q (.ref p) (upd H p (.tup (xs ++ ys))))
theorem zap {X : Cx} : OpR X (binaryOp .Add) (zaM X.K) := by
  intro pins s σ H x y v u Q I rx ry h
  obtain ⟨a, b, xs, ys, rfl, rfl, ha, hb, hz, q0, q1, q2⟩ := h
  by_cases hx : xs = []
  · subst hx
    cases rx
    cases ry
    obtain ⟨its, r, p, _⟩ := I.tuple ha
    obtain ⟨its', r', p', _⟩ := I.tuple hb
    cases r
    obtain ⟨⟨cls, dd, data, sl⟩, ho, hc, n, hd⟩ := id p
    obtain ⟨⟨cls2, dd2, data2, sl2⟩, ho2, hc2, n2, hd2⟩ := id p'
    simp only at hc hd hc2 hd2
    subst hc hd hc2 hd2
    exact concat_meets ⟨_, ho, rfl⟩ ⟨_, ho2, rfl⟩ noFill_tuple_add seq_tuple_add PySem.F.slot_tuple_add PySem.F.entry_tuple_add (PySem.F.args_tuple_add_2 _ _)
      (tuple_addW0 a b #[] its'.toArray n n2 dd dd2 sl sl2 rfl) ⟨ho, ho2, ⟨.ref b, H, I, rfl, q0 rfl⟩⟩
  · refine za2 pins s σ H (.ref a) (.ref b) v u Q I rx ry ⟨a, b, xs, ys, rfl, rfl, ha, hb, hx, hz, ?_⟩
    exact ⟨fun e => q1 hx e, fun e => q2 hx e⟩
end L2
namespace L2
open PySem PySem.Spec PyProof.Rows
inductive vI : St → St → Prop where
  | nil : vI [] []
  | non {a : Option V} {s t : St} : vI s t → vI (none :: s) (a :: t)
  | same {a : Option V} {s t : St} : vI s t → vI (a :: s) (a :: t)
theorem vI.refl : ∀ s : St, vI s s
  | [] => .nil
  | _ :: r => .same (vI.refl r)
theorem vI.length {s t : St} (h : vI s t) : s.length = t.length := by
  induction h with
  | nil => rfl
  | non _ ih => simp [ih]
  | same _ ih => simp [ih]
theorem vI.get {s t : St} (h : vI s t) : ∀ (i : Nat) (v : V), s[i]? = some (some v) → t[i]? = some (some v) := by
  induction h with
  | nil => intro i v e; exact e
  | non _ ih =>
    intro i v e
    cases i with
    | zero => simp at e
    | succ i => simpa using ih i v (by simpa using e)
  | same _ ih =>
    intro i v e
    cases i with
    | zero => simpa using e
    | succ i => simpa using ih i v (by simpa using e)
theorem vI.set {n : Nat} {v : V} : ∀ {s t : St}, vI s t → s[n]? = some none → vI s (t.set n (some v))
  | _, _, .nil, _ => .nil
  | _, _, .non (a := a) h, e => by
    cases n with
    | zero => exact .non h
    | succ n => exact .non (vI.set h (by simpa using e))
  | _, _, .same (a := a) h, e => by
    cases n with
    | zero =>
      have e' : a = none := by simpa using e
      subst e'
      exact .non h
    | succ n => exact .same (vI.set h (by simpa using e))
theorem Inv.sub {X : Cx} {pins : List (Addr × Obj)} {σ σ' : St} {H : Hp} {s : Shared} (I : Inv X pins σ H s) (h : vI σ' σ) : Inv X pins σ' H s := I.weak h.length h.get
noncomputable def PIf (X : Cx) (ifs : List Expr) (t : TT) : Prop :=
  ∀ (pins : List (Addr × Obj)) (s : Shared) (σ : St) (H : Hp) (Q : Bool → Hp → Prop), Inv X pins σ H s → t σ H Q →
    wpAny (model X.prog X.w) X.A (forIn ifs true fun c r => if r = true then do let ok ← isTrue c X.env (eval c X.env); pure (ForInStep.yield ok) else pure (ForInStep.yield r)) (TP X pins σ Q) X.xe s
noncomputable def tYes : TT := fun _ H Q => Q true H
theorem za5 {X : Cx} : PIf X [] tYes := by
  intro pins s σ H Q I h
  rw [List.forIn_nil]
  exact wpAny_pure ⟨H, I, h⟩
theorem zbA {X : Cx} {c : Expr} {t : TT} (hc : PT X c t) : PIf X [c] t := by
  intro pins s σ H Q I h
  rw [List.forIn_cons]
  refine wpAny_bind ?_
  rw [if_pos rfl]
  refine wpAny_bind (thn (hc pins s σ H Q I h) fun b s1 q => wpAny_pure ?_)
  show wpAny _ _ (forIn [] b _) _ _ _
  rw [List.forIn_nil]
  exact wpAny_pure q
section
variable {prog : Program} {w : World} {A : Around} {R : Result → Shared → Prop} {s : Shared}
theorem wv {elt target iter : Expr} {ifs : List Expr} {scope : Scope} {pos : Pos} {it acc : Value} {env : Env} (I : Nat → Shared → Prop)
    (turn : ∀ n s, I n s → wpAny (model prog w) A (pyNext it) (fun r s₁ => match r with
      | none => R (.ok .next) s₁
      | some v => wpAny (model prog w) A (letOwnedTupleGo target it v) (fun _ s₁' => wpAny (model prog w) A (assign target env v) (fun _ s₂ =>
          wpAny (model prog w) A (forIn ifs true fun c r => if r = true then do let ok ← isTrue c env (eval c env); pure (ForInStep.yield ok) else pure (ForInStep.yield r)) (fun ok s₃ =>
            if ok = true then wpAny (model prog w) A (eval elt env) (fun x s₄ =>
              wpAny (model prog w) A (call (.builtin "list.append") [acc, x]) (fun _ s₅ => ∃ m, m < n ∧ I m s₅) (fun _ _ => False) s₄) (fun _ _ => False) s₃
            else ∃ m, m < n ∧ I m s₃) (fun _ _ => False) s₂) (fun _ _ => False) s₁') (fun _ _ => False) s₁) (fun _ _ => False) s)
    (n : Nat) (h : I n s) :
    codeAny (model prog w) A (.compLoop (.ListComp elt [⟨target, iter, ifs, 0⟩] scope pos) 0 it acc env) R s := by
  refine codeAny_loop rfl I (fun n s hI => ?_) n h
  show wpAny _ A ((compTurn (.ListComp elt [⟨target, iter, ifs, 0⟩] scope pos) 0 it acc env).onRaise (fun x => do noteFrame x env; theTreesLotGoes x)) _ _ s
  refine wpAny_noted ?_
  rw [compTurn_list]
  refine wpAny_bind (wpAny_standAt (wpAny_bind (wpAny_mono (turn n s hI) (fun r s₁ h₁ => ?_) fun _ _ h' => h'.elim)))
  cases r with
  | none => exact wpAny_pure h₁
  | some v =>
    refine wpAny_bind (wpAny_mono h₁ (fun _ s₁' h₁' => ?_) fun _ _ h' => h'.elim)
    refine wpAny_bind (wpAny_mono h₁' (fun _ s₂ h₂ => wpAny_bind (wpAny_mono h₂ (fun ok s₃ h₃ => ?_) fun _ _ h' => h'.elim)) fun _ _ h' => h'.elim)
    cases ok with
    | false => exact wpAny_pure ⟨rfl, h₃⟩
    | true =>
      exact wpAny_bind (wpAny_bind (wpAny_mono h₃ (fun x s₄ h₄ => wpAny_bind (wpAny_mono h₄ (fun _ s₅ h₅ => wpAny_pure (wpAny_pure ⟨rfl, h₅⟩)) fun _ _ h' => h'.elim)) fun _ _ h' => h'.elim))
end
noncomputable def tLC (wi : TI) (n : Nat) (g : TG) (tt : TT) (te : TE) : TE := fun σ H Q => wi σ H fun J H1 => ∀ D, H1 D = none → ∃ W : Nat → Nat → List V → Hp → Prop, (∃ m, W 0 m [] (upd H1 D (.lst []))) ∧
  ∀ i m ys H2, W i m ys H2 → (J.stop i H2 ∧ Q (.ref D) H2) ∨ (J.go i H2 ∧ ys.length < sizeLine ∧ ∀ x H3, J.yld i H2 x H3 → g x (List.replicate n none ++ σ) H3 fun σ2 H4 => tt σ2 H4 fun b H5 =>
    if b = true then te σ2 H5 fun y H6 => H6 D = some (.lst ys) ∧ ∃ m', m' < m ∧ W (i + 1) m' (ys ++ [y]) (upd H6 D (.lst (ys ++ [y]))) else ∃ m', m' < m ∧ W (i + 1) m' ys H5)
theorem wB {α : Type} : ∀ {l : List (Str × α)} {y : Str}, y ∈ l.map Prod.fst → ∃ c, l.lookup y = some c
  | [], _, h => by simp at h
  | (k, v) :: r, y, h => by
    by_cases e : y = k
    · exact ⟨v, by simp [List.lookup, e]⟩
    · obtain ⟨c, hc⟩ := wB (l := r) (y := y) (by simpa [e] using h)
      have hb : (y == k) = false := beq_eq_false_iff_ne.mpr e
      exact ⟨c, by simp only [List.lookup, hb]; exact hc⟩
theorem xK {α : Type} {P : α → Prop} : ∀ p ∈ ([] : List α), P p := fun _ h => nomatch h
theorem all_cons {α : Type} {P : α → Prop} {a : α} {l : List α} (h : P a) (t : ∀ p ∈ l, P p) : ∀ p ∈ a :: l, P p := fun p hp => by
  rcases List.mem_cons.mp hp with e | hp
  · rw [e]; exact h
  · exact t p hp
theorem gs1 (σ : St) (v : V) (H : Hp) (Q : St → Hp → Prop) (h : Zm 0 v (List.replicate 1 none ++ σ) H Q) : Zm 0 v (List.replicate 1 none ++ σ) H (fun σ2 H2 => vI (List.replicate 1 none ++ σ) σ2 ∧ Q σ2 H2) := ⟨.set (.refl _) rfl, h⟩
end L2
namespace L2
open PySem PySem.Spec PyProof.Rows
noncomputable def Wd (X : Cx) (L M : List Str) (scope : Scope) (cl : List (Str × Addr)) (s₀ : Shared) (H₀ : Hp) (ex : List Addr) (pn : List (Addr × Obj)) : Cx :=
  { X with N := L ++ M, s₀ := s₀, H₀ := H₀, env := compEnvC scope cl s₀.heap.objs.size X.env, outer := X.stack, stack := X.stack, ex := ex, fn := fun _ => false, pn := pn, xe := fun _ _ => False }
structure xE (X : Cx) (L M : List Str) (scope : Scope) (cl : List (Str × Addr)) : Prop where
  clos : closureFor scope X.env = pure cl
  cell : ∀ y ∈ scope.names, y.2 ≠ .cell
  kind : scope.kind = .function
  names : ∀ y ∈ scope.names, y.2 = .local → scope.names.lookup y.1 = some .local
  sub : ∀ y c, cl.lookup y = some c → X.env.cells.lookup y = some c
  has : ∀ y, ((relabel scope X.env).names.lookup y = some .cell ∨ (relabel scope X.env).names.lookup y = some .free) → ∃ c, cl.lookup y = some c
  mlen : M.length = X.N.length
  msk : ∀ (i : Nat) y, M[i]? = some y → Vis (relabel scope X.env) y → X.N[i]? = some y
  vis : ∀ (i : Nat) y, M[i]? = some y → Vis (relabel scope X.env) y → ((relabel scope X.env).names.lookup y = some .cell ∨ (relabel scope X.env).names.lookup y = some .free)
  out : ∀ (i : Nat) y, M[i]? = some y → Vis (relabel scope X.env) y → Vis X.env.scope y ∧ X.env.kindOf y ≠ some .local
theorem Inv.letGo {X : Cx} {pins : List (Addr × Obj)} {σ : St} {H : Hp} {s : Shared} {C : Addr} {h' : Heap} (I : Inv X pins σ H s) (f : We X pins H C) (sb : Heap.SameBut C s.heap h') : Inv X pins σ H { s with heap := h' } := by
  obtain ⟨f0, f1, f2, f3, f4, f5⟩ := f
  have ne : ∀ b, b ∉ [C] → b ≠ C := fun b hb z => hb (by rw [z]; exact List.mem_singleton.mpr rfl)
  refine I.call' (s' := { s with heap := h' }) (ch := [C]) rfl ⟨fun b o e _ _ hx => (sb.2 b (ne b hx)).trans e, fun b o e _ _ hx => ⟨o.slots, (sb.2 b (ne b hx)).trans e⟩, fun _ _ _ n _ => n, fun b o e hx => ⟨o, (sb.2 b (ne b hx)).trans e⟩, fun _ _ q => q, fun _ _ _ q => q, fun _ ps q => ⟨#[], by rw [q]; simp⟩⟩ ?_ I.bare fun b hb => ?_
  · intro b ob e
    refine (I.hok b ob e).stay (fun c v hc q => (sb.2 c ?_).trans q) (fun _ q => q) fun _ _ q => q
    rintro rfl
    rcases hc with z | z
    · rw [← z, f0] at e; cases e
    · rw [f0] at z; cases z
  · rw [List.mem_singleton.mp hb]
    exact ⟨f3, f1, f4, f5⟩
theorem zbn {use : Option (Value → Sem Unit)} {Qf : Value → Shared → Prop} {X : Cx} {elt tg iter : Expr} {ifs : List Expr} {L M : List Str} {scope : Scope} {cl : List (Str × Addr)} {pos : Pos} {wi : TI} {g : TG} {tt : TT} {te : TE}
    (hc : X.calm = true) (S : xE X L M scope cl) (hi : PI X tg iter wi)
    (hgS : ∀ (σ : St) (v : V) (H : Hp) (Q : St → Hp → Prop), g v (List.replicate L.length none ++ σ) H Q → g v (List.replicate L.length none ++ σ) H (fun σ2 H2 => vI (List.replicate L.length none ++ σ) σ2 ∧ Q σ2 H2))
    (hg : ∀ s₀ H₀ ex pn, PG (Wd X L M scope cl s₀ H₀ ex pn) tg g) (ht : ∀ s₀ H₀ ex pn, PIf (Wd X L M scope cl s₀ H₀ ex pn) ifs tt) (he : ∀ s₀ H₀ ex pn, PE (Wd X L M scope cl s₀ H₀ ex pn) elt te)
    (hs : ∀ x, foldedSetIterable iter X.env x = pure x := by intro _; rfl) :
    ∀ (pos' : Pos) (pins : List (Addr × Obj)) (s : Shared) (σ : St) (H : Hp) (Q : VK), Inv X pins σ H s → tLC wi L.length g tt te σ H Q →
      (∀ (D C : Addr) (H' : Hp) (s' : Shared), Inv X pins σ H' s' → (∃ m, s'.heap.Ns C m) → We X pins H' C → Q (.ref D) H' → compPost (model X.prog X.w) X.A X.xe use Qf (.ref D) C (.ok .next) s') →
      wpAny (model X.prog X.w) X.A (comprehension (.ListComp elt [⟨tg, iter, ifs, 0⟩] scope pos) scope X.env pos' (newList []) false (eval iter X.env) use) Qf X.xe s := by
  intro pos' pins s σ H Q I h fin
  refine wpAny_comprehension_free (use := use) rfl hs S.clos S.kind S.names (thn (hi pins s σ H _ I h) fun v s1 h1 => thn h1 fun itv s2 h2 => ?_)
  obtain ⟨it, fp, tn, J, H2, e, I2, T, st2, f2, q⟩ := h2
  subst e
  have hD : H2 s2.heap.objs.size = none := I2.hok.fresh (Nat.le_refl _)
  obtain ⟨W, ⟨m0, w0⟩, turn⟩ := q _ hD
  refine wpAny_newObj_type (wpAny_newFunctionEnv S.cell (by intro y hy; simp at hy) (fun h₁ hns₁ hsb₁ => ?_) S.kind)
  have I3 : Inv X pins σ (upd H2 s2.heap.objs.size (.lst [])) { s2 with heap := s2.heap.push { cls := .type "list", data := .seq ([] : List Value).toArray } } := by
    refine I2.laid (t' := s2.toks) (fun b u e => Heap.get?_push_of_some _ e) (Nat.le_refl _) ?_
    exact ⟨Nat.zero_le _, [], 0, .nil, Heap.get?_push_size _ rfl⟩
  generalize hs3 : ({ s2 with heap := s2.heap.push { cls := .type "list", data := .seq ([] : List Value).toArray } } : Shared) = s3 at I3 hns₁ hsb₁ ⊢
  have hobj : ∀ b ∈ fp, b < s2.heap.objs.size := fun b hb => by
    obtain ⟨o, ho, _⟩ := T.obj _ _ st2 b hb
    exact Heap.lt_size ho
  have hz3 : s3.heap.objs.size = s2.heap.objs.size + 1 := by rw [← hs3]; exact Heap.size_push ..
  have k23 : ∀ b o, s2.heap.get? b = some o → s3.heap.get? b = some o := fun b o e => by rw [← hs3]; exact Heap.get?_push_of_some _ e
  have k34 : ∀ b o, s3.heap.get? b = some o → h₁.get? b = some o := fun b o e => (hsb₁.2 b (Nat.ne_of_lt (Heap.lt_size e))).trans (Heap.get?_push_of_some _ e)
  generalize hH3 : upd H2 s2.heap.objs.size (.lst []) = H3 at I3 w0
  have hfp3 : ∀ b ∈ fp, H3 b = none := fun b hb => by
    rw [← hH3, zm (Nat.ne_of_lt (hobj b hb))]
    exact (f2 b hb).1
  have nfs : ∀ b ∈ fp, b ∉ frs X.stack := fun b hb z => by
    obtain ⟨_, n1, n2, _⟩ := f2 b hb
    rcases List.mem_cons.mp (I3.stkSub b z) with e | e
    · exact n1 e
    · exact n2 e
  let Y : Cx := Wd X L M scope cl s3 H3 fp (X.pn ++ pins)
  have OkY : Y.Ok := by
    refine ⟨I.ok.mod, S.kind, I.ok.glob, I.ok.blt, Nat.le_refl _, fun x y c h1 h2 => I.ok.inj x y c (S.sub x c h1) (S.sub y c h2), fun x hx => S.has x hx, (fun x c h _ => absurd h Bool.false_ne_true), I.ok.hd, I.ok.frames, .inl rfl, fun b hb => ⟨?_, fun x c e z => ?_⟩,
      fun b o e => I3.bs b o e, Nat.le_trans I.ok.bsz I3.sz, fun b o e hb => ?_, nfs, I3.stack, I3.stkFree⟩
    · show b ≠ s3.heap.objs.size
      exact Nat.ne_of_lt (Nat.lt_of_lt_of_le (hobj b hb) (by rw [hz3]; exact Nat.le_succ _))
    · exact (f2 b hb).2.2.2.2.1 x c (S.sub x c e) z
    · rcases (f2 b hb).2.2.2.1 with z | z
      · exact I.ok.noex b o e z
      · have h1 := Heap.lt_size e
        have h2 := I.ok.bsz
        exact absurd (Nat.lt_of_lt_of_le h1 (Nat.le_trans h2 z)) (Nat.lt_irrefl _)
  have I4 : Inv Y [] (List.replicate L.length none ++ σ) H3 { s3 with heap := h₁, toks := s3.toks + ([] : List (Str × Value)).length } := by
    refine ⟨OkY, rfl, I3.bare, Un.kept k34, ⟨_, hns₁, fun i y v e1 e2 e3 => ?_⟩, fun x c e => ?_, I3.hok.fresh (Nat.le_refl _), fun x c e => I3.freeC x c (S.sub x c e), fun p hp => ?_, I3.hok.kept k34, ?_⟩
    · have hi : ¬ i < L.length := fun hlt => by
        rw [List.getElem?_append_left (by simpa using hlt), List.getElem?_replicate] at e2
        split at e2 <;> cases e2
      have e0' : M[i - L.length]? = some y := by
        have e1 : (L ++ M)[i]? = some y := e1
        rw [List.getElem?_append_right (by omega)] at e1
        exact e1
      have e2' : σ[i - L.length]? = some (some v) := by rw [List.getElem?_append_right (by simpa using Nat.le_of_not_lt hi)] at e2; simpa using e2
      have e1' := S.msk _ y e0' e3
      obtain ⟨ov, ok⟩ := S.out _ y e0' e3
      obtain ⟨m, hn, hl⟩ := I3.loc
      obtain ⟨u, ru, lk⟩ := hl _ y v e1' e2' ov
      refine ⟨u, ru, ?_⟩
      rcases lk with ⟨hk, _⟩ | ⟨_, c, hc', hcell⟩
      · exact absurd hk ok
      · have kn := S.vis _ y e0' e3
        obtain ⟨c', hc2⟩ := S.has y kn
        have := S.sub y c' hc2
        rw [hc'] at this
        cases this
        refine .inr ⟨kn, c, hc2, ?_⟩
        obtain ⟨o, ho, hd⟩ := hcell
        exact ⟨o, k34 _ _ ho, hd⟩
    · obtain ⟨v, o, ho, hd⟩ := I3.cell x c (S.sub x c e)
      exact ⟨v, o, k34 _ _ ho, hd⟩
    · have hp' : p ∈ X.pn ++ pins := List.append_nil (X.pn ++ pins) ▸ hp
      obtain ⟨a1, a2, a3, a4, a5⟩ := I3.pin p hp'
      refine ⟨k34 _ _ a1, a2, Nat.ne_of_lt (Heap.lt_size a1), fun z => ?_, a5⟩
      rcases List.mem_cons.mp (I3.stkSub p.1 z) with e | e
      · exact a3 e
      · exact a4 e
    · show (List.replicate L.length none ++ σ).length = (L ++ M).length
      rw [List.length_append, List.length_append, List.length_replicate, I.len, S.mlen]
  have fpY : ∀ {H' : Hp}, (∀ b ∈ fp, H' b = none) → ∀ b ∈ fp, We Y [] H' b := fun {H'} hn b hb => by
    refine ⟨hn b hb, (OkY.exf b hb).1, nfs b hb, .inl hb, (OkY.exf b hb).2, fun p hp => ?_⟩
    have hp' : p ∈ X.pn ++ pins := List.append_nil (X.pn ++ pins) ▸ hp
    exact (f2 b hb).2.2.2.2.2 p hp'
  have st4 : tn 0 h₁ := T.keep _ _ _ st2 fun b hb o e => k34 b o (k23 b o e)
  -- behind the loop
  have back : ∀ (H' : Hp) (s' : Shared), Inv Y [] (List.replicate L.length none ++ σ) H' s' → Q (.ref s2.heap.objs.size) H' → compPost (model X.prog X.w) X.A X.xe use Qf (.ref s2.heap.objs.size) s3.heap.objs.size (.ok .next) s' := fun H' s' J' q' => by
    obtain ⟨m, hn, _⟩ := J'.loc
    refine fin _ _ H' s' (I3.call' (ch := fp) J'.os J'.base J'.hok J'.bare fun b hb => ?_) ⟨m, hn⟩ (I3.fpOk (Nat.le_refl _) J'.free) q'
    obtain ⟨_, n1, _, n3, n4, n5⟩ := f2 b hb
    exact ⟨n3, n1, n4, n5⟩
  have loop : codeAny (model X.prog X.w) X.A (.compLoop (.ListComp elt [⟨tg, iter, ifs, 0⟩] scope pos) 0 (.ref it) (.ref s2.heap.objs.size) (compEnvC scope cl s3.heap.objs.size X.env))
      (compPost (model X.prog X.w) X.A X.xe use Qf (.ref s2.heap.objs.size) s3.heap.objs.size) { s3 with heap := h₁, toks := s3.toks + ([] : List (Str × Value)).length } := by
    refine wv (fun n s' => ∃ i ys H', Inv Y [] (List.replicate L.length none ++ σ) H' s' ∧ tn i s'.heap ∧ (∀ b ∈ fp, H' b = none) ∧ W i n ys H') ?_ m0 ⟨0, [], H3, I4, st4, hfp3, w0⟩
    rintro n s5 ⟨i, ys, H5, I5, st5, fr5, w5⟩
    rcases turn i n ys H5 w5 with ⟨stop, qn⟩ | ⟨go, hlen, step⟩
    · refine thn (T.done Y rfl rfl rfl hc i [] s5 _ H5 _ I5 (fpY fr5) st5 stop) fun r s6 hh9 => ?_
      obtain ⟨hr, I6⟩ := hh9
      subst hr
      exact back H5 s6 I6 qn
    · refine thn (T.item Y rfl rfl rfl hc i [] s5 _ H5 _ I5 (fpY fr5) st5 go) fun r s6 hh9 => ?_
      obtain ⟨u, hr, h6⟩ := hh9
      subst hr
      refine thn h6 fun _ s7 hh9 => ?_
      obtain ⟨x, H7, I7, r7, y7, st7, fr7⟩ := hh9
      have I7' := I7.pinned (fpY fr7) (T.obj _ _ st7)
      have g7 := hgS σ x H7 _ (step x H7 y7)
      refine thn (hg _ _ _ _ _ s7 _ H7 x u _ I7' r7 g7) fun _ s8 hh9 => ?_
      obtain ⟨σ8, H8, I8, sub8, q8⟩ := hh9
      have again : ∀ {σ9 : St} {H9 : Hp} {s9 : Shared} {zs : List V}, Inv Y ([] ++ Yo fp s7.heap) σ9 H9 s9 → vI (List.replicate L.length none ++ σ) σ9 → (∃ m', m' < n ∧ W (i + 1) m' zs H9) →
          ∃ m, m < n ∧ ∃ i ys H', Inv Y [] (List.replicate L.length none ++ σ) H' s9 ∧ tn i s9.heap ∧ (∀ b ∈ fp, H' b = none) ∧ W i m ys H' := fun {σ9 H9 s9 zs} I9 sub9 w9 => by
        obtain ⟨m', hm, w9⟩ := w9
        refine ⟨m', hm, i + 1, zs, H9, (I9.sub sub9).unpinned, T.keep _ _ _ st7 fun b hb o e => (I9.pin (b, o) (List.mem_append_right _ (List.mem_append_right _ (wl hb e)))).1, fun b hb => ?_, w9⟩
        obtain ⟨o, e, d⟩ := T.obj _ _ st7 b hb
        exact (I9.pin (b, o) (List.mem_append_right _ (List.mem_append_right _ (wl hb e)))).2.1
      refine thn (ht _ _ _ _ _ s8 σ8 H8 _ I8 q8) fun b s9 hh9 => ?_
      obtain ⟨H9, I9, q9⟩ := hh9
      cases b with
      | false =>
        rw [if_neg Bool.false_ne_true] at q9
        rw [if_neg Bool.false_ne_true]
        exact again I9 sub8 q9
      | true =>
        rw [if_pos rfl] at q9
        rw [if_pos rfl]
        refine thn (he _ _ _ _ _ s9 σ8 H9 _ I9 q9) fun y s10 hh9 => ?_
        obtain ⟨yv, H10, I10, r10, hD10, w10⟩ := hh9
        obtain ⟨z10, its, k, rv, e10⟩ : ys.length ≤ sizeLine ∧ ∃ (its : List Value) (n : Nat), yd ys its ∧ s10.heap.get? s2.heap.objs.size = some { cls := .type "list", data := .seq its.toArray n } := I10.hok _ _ hD10
        have hl10 : s10.heap.PlainList s2.heap.objs.size its.toArray := ⟨k, e10⟩
        refine wpAny_list_append_plain (hsz := by rw [List.size_toArray, ← rv.length]; exact z10) hl10 fun h11 hl11 sb11 => ?_
        obtain ⟨k', e11⟩ := hl11
        have I11 : Inv Y ([] ++ Yo fp s7.heap) σ8 (upd H10 s2.heap.objs.size (.lst (ys ++ [yv]))) { s10 with heap := h11 } := by
          refine I10.write (x := s2.heap.objs.size) (e := s2.heap.objs.size) (t' := s10.toks) (by rw [hD10]; exact True.intro) (.inl rfl) (fun b u hb e => (sb11.2 b hb).trans e) ⟨_, e11⟩ ?_
          refine ⟨by rw [List.length_append]; show ys.length + 1 ≤ sizeLine; exact hlen, its ++ [y], k', rv.append (.cons r10 .nil), ?_⟩
          rw [e11]
          simp
        exact again I11 sub8 w10
  exact codeAny_compStart_list loop (T.self _ 0 _ _ _ st4 loop)
theorem zaO {X : Cx} {elt tg iter : Expr} {ifs : List Expr} {L M : List Str} {scope : Scope} {cl : List (Str × Addr)} {pos : Pos} {wi : TI} {g : TG} {tt : TT} {te : TE}
    (hc : X.calm = true) (S : xE X L M scope cl) (hi : PI X tg iter wi)
    (hgS : ∀ (σ : St) (v : V) (H : Hp) (Q : St → Hp → Prop), g v (List.replicate L.length none ++ σ) H Q → g v (List.replicate L.length none ++ σ) H (fun σ2 H2 => vI (List.replicate L.length none ++ σ) σ2 ∧ Q σ2 H2))
    (hg : ∀ s₀ H₀ ex pn, PG (Wd X L M scope cl s₀ H₀ ex pn) tg g) (ht : ∀ s₀ H₀ ex pn, PIf (Wd X L M scope cl s₀ H₀ ex pn) ifs tt) (he : ∀ s₀ H₀ ex pn, PE (Wd X L M scope cl s₀ H₀ ex pn) elt te)
    (hs : ∀ x, foldedSetIterable iter X.env x = pure x := by intro _; rfl) :
    PE X (.ListComp elt [⟨tg, iter, ifs, 0⟩] scope pos) (tLC wi L.length g tt te) := by
  intro pins s σ H Q I h
  rw [eval_ListComp]
  refine zbn hc S hi hgS hg ht he hs _ pins s σ H Q I h fun D C H' s' I' ⟨m, hn⟩ f q => ⟨m, hn, fun h' sb => ⟨.ref D, _, I'.letGo f sb, rfl, q⟩⟩
noncomputable def Yn (names rn dn : List (Str × NameKind)) (N M cn : List Str) : Bool :=
  names.all (fun y => decide (y.2 ≠ .cell)) && names.all (fun y => decide (y.2 = .local → names.lookup y.1 = some .local)) &&
  rn.all (fun y => decide ((y.2 = .cell ∨ y.2 = .free) → y.1 ∈ cn)) &&
  (M.length == N.length) && (M.zip N).all (fun p => decide ((rn.lookup p.1 = some .local ∨ rn.lookup p.1 = some .cell ∨ rn.lookup p.1 = some .free) → p.1 = p.2)) &&
  M.all (fun y => decide ((rn.lookup y = some .local ∨ rn.lookup y = some .cell ∨ rn.lookup y = some .free) →
    (rn.lookup y = some .cell ∨ rn.lookup y = some .free) ∧ (dn.lookup y = some .local ∨ dn.lookup y = some .cell ∨ dn.lookup y = some .free) ∧ dn.lookup y ≠ some .local))
theorem wJ {X : Cx} {L N M cn : List Str} {scope : Scope} {cl : List (Str × Addr)} {rn dn : List (Str × NameKind)} (hr : (relabel scope X.env).names = rn) (hd : X.env.scope.names = dn) (hN : X.N = N)
    (clos : closureFor scope X.env = pure cl) (kind : scope.kind = .function) (hc : cl.map Prod.fst = cn) (good : Yn scope.names rn dn N M cn = true) (sub : ∀ p ∈ cl, X.env.cells.lookup p.1 = some p.2) : xE X L M scope cl := by
  unfold Yn at good
  simp only [Bool.and_eq_true, List.all_eq_true, decide_eq_true_eq] at good
  obtain ⟨⟨⟨⟨⟨g1, g2⟩, g3⟩, g5⟩, g6⟩, g4⟩ := good
  have g5 : M.length = N.length := by simpa using g5
  refine ⟨clos, g1, kind, g2, fun y c h => sub (y, c) (PySem.mem_of_lookup h), fun y h => ?_, by rw [hN]; exact g5, fun i y e v => ?_, fun i y e v => ?_, fun i y e v => ?_⟩
  · rw [hr] at h
    have hy : y ∈ cn := by
      rcases h with h | h
      · exact g3 _ (PySem.mem_of_lookup h) (.inl rfl)
      · exact g3 _ (PySem.mem_of_lookup h) (.inr rfl)
    exact wB (by rw [hc]; exact hy)
  · unfold Vis at v
    rw [hr] at v
    have hi := (List.getElem?_eq_some_iff.mp e).1
    have hj : i < N.length := by rw [← g5]; exact hi
    have hz : (M.zip N)[i]? = some (y, N[i]) := by
      rw [List.getElem?_zip_eq_some]
      exact ⟨e, List.getElem?_eq_getElem hj⟩
    have := g6 _ (List.mem_of_getElem? hz) v
    rw [hN, List.getElem?_eq_getElem hj]
    exact congrArg some this.symm
  · unfold Vis at v
    rw [hr] at v ⊢
    exact (g4 y (List.mem_of_getElem? e) v).1
  · unfold Vis at v
    rw [hr] at v
    obtain ⟨_, k1, k2⟩ := g4 y (List.mem_of_getElem? e) v
    refine ⟨?_, ?_⟩
    · unfold Vis; rw [hd]; exact k1
    · show X.env.scope.names.lookup y ≠ _; rw [hd]; exact k2
end L2
namespace PySem
open Sem (wp)
open AutoSeq1 (wpAny_loadPart')
section
variable {prog : Program} {w : World} {A : Around} {E : Value → Shared → Prop} {s : Shared}
theorem wk {it l : Addr} {i : Nat} {items} {x : Value} {Q : Value → Shared → Prop} (hit : s.heap.IsTupleIter it l i)
    (hl : s.heap.IsTuple l items) (hx : items[i]? = some x)
    (hQ : ∀ h', h'.IsTupleIter it l (i + 1) → Heap.SameBut it s.heap h' → Q x { s with heap := h' }) :
    wpAny (model prog w) A (Builtin.SmallTypes.nextOf (.ref it)) Q E s := by
  obtain ⟨o, ho, hc, hd⟩ := id hit
  obtain ⟨ol, hol, _, nl, hdl⟩ := hl
  unfold Builtin.SmallTypes.nextOf
  refine wpAny_bind (wpAny_callSpecial?_slot (name := Str.ofString "__next__") hit.typeIs F.slot_tuple_iterator_next
    (wpAny_call_entry F.slot_tuple_iterator_next hit.typeIs F.entry_tuple_iterator_next ?_ (F.args_tuple_iterator_next_1 _)))
  show wpAny _ _ (field (.ref it) 0 >>= _) _ _ s
  refine wpAny_bind (wpAny_field ho hd (x := .ref l) rfl ?_)
  show wpAny _ _ (if (Value.ref l == Value.none) = true then _ else _) _ _ s
  rw [if_neg (show ¬ ((Value.ref l == Value.none) = true) from Bool.false_ne_true)]
  show wpAny _ _ (field (.ref it) 1 >>= _) _ _ s
  refine wpAny_bind (wpAny_field ho hd (x := .int i 0) rfl ?_)
  show wpAny _ _ (seqItems? (.ref l) >>= _) _ _ s
  refine wpAny_bind (wpAny_seqItems hol hdl ?_)
  simp only [Int.toNat_natCast, hx]
  refine wpAny_bind (wpAny_setField ho hd (by simp) (wpAny_pure ⟨x, rfl, wpAny_pure (hQ _ ?_ (Heap.SameBut.update ..))⟩))
  exact ⟨_, Heap.get?_update_self _ ho (Obj.isFreed_of_fields (Obj.data_mapFields hd _)), (Obj.cls_mapFields ..).trans hc, by
    rw [Obj.data_mapFields hd]; simp [rawInt]⟩
theorem wu {it l : Addr} {i : Nat} {items} {Q : Value → Shared → Prop} (hh : A.handled = none)
    (hit : s.heap.IsTupleIter it l i) (hl : s.heap.IsTuple l items) (hx : items[i]? = none)
    (hE : ∀ h' e, Heap.ExtBut it s.heap h' → (∃ o, h'.get? e = some o ∧ o.cls = .type "StopIteration") → E (.ref e) { s with heap := h' }) :
    wpAny (model prog w) A (Builtin.SmallTypes.nextOf (.ref it)) Q E s := by
  obtain ⟨o, ho, hc, hd⟩ := id hit
  obtain ⟨ol, hol, _, nl, hdl⟩ := hl
  unfold Builtin.SmallTypes.nextOf
  refine wpAny_bind (wpAny_callSpecial?_slot (name := Str.ofString "__next__") hit.typeIs F.slot_tuple_iterator_next
    (wpAny_call_entry F.slot_tuple_iterator_next hit.typeIs F.entry_tuple_iterator_next ?_ (F.args_tuple_iterator_next_1 _)))
  show wpAny _ _ (field (.ref it) 0 >>= _) _ _ s
  refine wpAny_bind (wpAny_field ho hd (x := .ref l) rfl ?_)
  show wpAny _ _ (if (Value.ref l == Value.none) = true then _ else _) _ _ s
  rw [if_neg (show ¬ ((Value.ref l == Value.none) = true) from Bool.false_ne_true)]
  show wpAny _ _ (field (.ref it) 1 >>= _) _ _ s
  refine wpAny_bind (wpAny_field ho hd (x := .int i 0) rfl ?_)
  show wpAny _ _ (seqItems? (.ref l) >>= _) _ _ s
  refine wpAny_bind (wpAny_seqItems hol hdl ?_)
  simp only [Int.toNat_natCast, hx]
  refine wpAny_bind (wpAny_rule (wpAny_bind (wpAny_setField ho hd (by simp) ?_)))
  show wpAny _ _ (newExc (.type "StopIteration") [] >>= _) _ _ _
  refine wpAny_bind ?_
  simp only [newExc, newTuple]
  refine wpAny_bind (wpAny_newObj_type ?_ (by size_fits))
  refine wpAny_bind (m := firstArgMember _ _) (wpAny_of_eq (a := Value.none) (by first | rfl | (simp only [firstArgMember]; rfl)) ?_)
  refine wpAny_newObj_type ?_ (by size_fits)
  simp only [raiseNew]
  refine wpAny_bind (wpAny_handled ?_)
  first | rw [show A.in1.handled = none from hh] | rw [hh]
  refine wpAny_bind (wpAny_pure (wpAny_throw ?_))
  exact hE _ _ (((Heap.SameBut.update ..).extBut.push _).push _) ⟨_, Heap.get?_push_size _ rfl, rfl⟩
end
theorem vK {prog : Program} {w : World} {A : Around} (hh : A.handled = none) (it l : Addr) (hne : l ≠ it) (items : Array Value) :
    Draws prog w A it [it, l] items.size (fun i v => items[i]? = some v) (fun i h => h.IsTupleIter it l i ∧ h.IsTuple l items) where
  live := fun _ _ st => let ⟨o, ho, _⟩ := st.1; ⟨o, ho⟩
  frame := fun _ _ _ st hk => by
    obtain ⟨⟨o, ho, r⟩, ⟨o2, ho2, r2⟩⟩ := st
    exact ⟨⟨o, hk it (by simp) o ho, r⟩, ⟨o2, hk l (by simp) o2 ho2, r2⟩⟩
  item := fun i s Q E hi st hQ => by
    refine wk st.1 st.2 (x := items[i]) (by simp [hi]) fun h' hit' hs' => ?_
    exact hQ _ h' s.toks (by simp [hi]) ⟨hit', st.2.extBut hs'.extBut hne⟩ hs'
  done := fun s Q E st hE => wu hh st.1 st.2 (by simp) hE
section
variable {prog : Program} {w : World} {A : Around} {E : Value → Shared → Prop} {s : Shared}
end
end PySem
namespace L2
open PySem PySem.Spec PyProof.Rows
section
variable {X : Cx} {pins : List (Addr × Obj)} {σ : St} {H : Hp} {s : Shared} {h' : Heap}
theorem Inv.grown {ch : List Addr} {T : Addr} {o : HO} {t' : Nat} (I : Inv X pins σ H s) (hch : ∀ b ∈ ch, We X pins H b) (hT : s.heap.objs.size ≤ T) (k : ∀ b u, b ∉ ch → s.heap.get? b = some u → h'.get? b = some u)
    (new : yX X.prog X.w (upd H T o) h' T o) : Inv X pins σ (upd H T o) { s with heap := h', toks := t' } := by
  have hn : H T = none := I.hok.fresh hT
  have neT : ∀ b u, s.heap.get? b = some u → b ≠ T := fun b u e => Nat.ne_of_lt (Nat.lt_of_lt_of_le (Heap.lt_size e) hT)
  have nch : ∀ b u, H b = some u → b ∉ ch := fun b u e z => by rw [(hch b z).1] at e; cases e
  refine I.step (g' := s.gens) (d' := s.drawn) (ch := ch) (fun b hb => ?_) (fun b u _ _ hc e _ => k b u hc e) (fun b u _ _ hc e _ => ⟨u.slots, k b u hc e⟩) (fun b u _ e n => by rw [zm (neT b u e)]; exact n)
    (fun b u hc e => ⟨u, k b u hc e⟩) (fun b xs e => by rw [zm (zi e hn)]; exact e) (fun b u xs e => by rw [zm (zi e hn)]; exact e) (fun b ps e => ⟨#[], by rw [zm (zi e hn), e]; simp⟩) (fun m hm => ?_) (fun b u e => ?_) I.bare
  · obtain ⟨_, n1, _, n3, n4, n5⟩ := hch b hb
    exact ⟨n3, n1, n4, n5⟩
  · obtain ⟨ob, es, ep, ho, r⟩ := hm
    exact ⟨ob, es, ep, k _ ob (fun z => (hch _ z).2.1 rfl) ho, r⟩
  · by_cases hb : b = T
    · subst hb; rw [zo] at e; cases e; exact new
    · rw [zm hb] at e
      refine (I.hok b u e).stay (fun c v hc q => k c v ?_ q) (fun c q => by rw [zm (zi q hn)]; exact q) fun c xs q => by rw [zm (zi q hn)]; exact q
      rcases hc with z | z
      · rw [z]; exact nch b u e
      · exact nch c _ z
theorem Inv.turnedN {ch : List Addr} {t' : Nat} (I : Inv X pins σ H s) (hch : ∀ b ∈ ch, We X pins H b) (k : ∀ b u, b ∉ ch → s.heap.get? b = some u → h'.get? b = some u) : Inv X pins σ H { s with heap := h', toks := t' } := by
  have nch : ∀ b u, H b = some u → b ∉ ch := fun b u e z => by rw [(hch b z).1] at e; cases e
  refine I.step (g' := s.gens) (d' := s.drawn) (ch := ch) (fun b hb => ?_) (fun b u _ _ hc e _ => k b u hc e) (fun b u _ _ hc e _ => ⟨u.slots, k b u hc e⟩) (fun b u _ e n => n)
    (fun b u hc e => ⟨u, k b u hc e⟩) (fun b xs e => e) (fun b u xs e => e) (fun b ps e => ⟨#[], by rw [e]; simp⟩) (fun m hm => ?_) (fun b u e => ?_) I.bare
  · obtain ⟨_, n1, _, n3, n4, n5⟩ := hch b hb
    exact ⟨n3, n1, n4, n5⟩
  · obtain ⟨ob, es, ep, ho, r⟩ := hm
    exact ⟨ob, es, ep, k _ ob (fun z => (hch _ z).2.1 rfl) ho, r⟩
  · refine (I.hok b u e).stay (fun c v hc q => k c v ?_ q) (fun c q => q) fun c xs q => q
    rcases hc with z | z
    · rw [z]; exact nch b u e
    · exact nch c _ z
end
end L2
namespace HT
open PySem PyProof.Rows
section
open PySem.SeqAt
open PySem.AutoSeq1 (wpAny_loadPart')
open PySem.MeetsSeq PySem.MeetsSeq2 PySem.MeetsSeq3
end
section
variable {prog : Program} {w : World} {A : Around} {E : Value → Shared → Prop} {s : Shared}
end
end HT
namespace L2
open PySem PySem.Spec PyProof.Rows
end L2
namespace HT
open PySem PyProof.Rows
section
variable {prog : Program} {w : World} {A : Around} {E : Value → Shared → Prop} {s : Shared}
theorem own_getItem_whole {t sl : Addr} {items : Array Value} {vl vu : Value} {lo hi : Option Int} {Q : Value → Shared → Prop} (ht : IsTup s.heap t items) (hs : s.heap.IsSliceOf sl vl vu .none) (pl : IsPart vl lo) (pu : IsPart vu hi)
    (hw : sIx items.size 0 lo = 0 ∧ sIx items.size items.size hi = items.size) (h : Q (.ref t) s) : wpAny (model prog w) A (getItem (.ref t) (.ref sl)) Q E s := by
  obtain ⟨os, hos, hcs, hds⟩ := id hs
  have hTs : s.TypeIs (.ref sl) "slice" := ⟨os, hos, hcs⟩
  unfold getItem
  try with_reducible refine wpAny_holding ?_
  first | refine wpAny_bind (wpAny_pure ?_) | skip
  refine wpAny_bind (wpAny_sequenceKey ht.typeIs (by decide) ?_)
  refine wpAny_bind (wpAny_callSpecial?_slot (name := Str.ofString "__getitem__") ht.typeIs PyProof.Rows.slot_tuple_getitem
    (wpAny_call_entry PyProof.Rows.slot_tuple_getitem ht.typeIs entry_tuple_getitem ?_ (args_tuple_getitem _ _)))
  show wpAny _ _ (Builtin.Tuple.tupleItemsOf (.ref t) >>= _) _ _ s
  refine wpAny_bind (tupleItemsOf_ ht ?_)
  refine wpAny_bind (wpAny_typeOf hTs ?_)
  rw [if_pos (by decide)]
  refine wpAny_bind (xY hs pl pu ?_)
  have hyes : (((sIx items.size 0 lo : Nat) : Int) == 0 && (1 : Int) == 1 && (sIx items.size items.size hi - sIx items.size 0 lo) == items.size) = true := by
    rw [hw.1, hw.2]
    simp
  show wpAny _ _ (if (((sIx items.size 0 lo : Nat) : Int) == 0 && (1 : Int) == 1 && (sIx items.size items.size hi - sIx items.size 0 lo) == items.size) = true then _ else _) _ _ s
  rw [if_pos hyes]
  refine wpAny_bind (m := Builtin.Tuple.tupleIsExact (.ref t)) ?_
  unfold Builtin.Tuple.tupleIsExact
  refine wpAny_bind (wpAny_typeOf ht.typeIs (wpAny_pure ?_))
  rw [if_pos (by decide)]
  refine wpAny_bind (wpAny_rule ?_)
  first
    | exact wpAny_pure ⟨_, rfl, wpAny_pure h⟩
    | exact wpAny_bind (wpAny_pure (wpAny_pure ⟨_, rfl, wpAny_pure h⟩))
end
end HT
namespace L2
open PySem PySem.Spec PyProof.Rows
end L2
namespace PySem
open Sem (wp)
theorem yC {prog : Program} {w : World} {A : Around} {it a : Addr} {fp : List Addr} {n k : Nat} {P : Nat → Value → Prop} {St : Nat → Heap → Prop} (D : Draws prog w A it fp n P St) {h h' : Heap} (st : St k h) (sb : Heap.SameBut a h h') (na : a ∉ fp) : St k h' :=
  D.frame _ _ _ st fun b hb o e => (sb.2 b fun z => na (z ▸ hb)).trans e
set_option genInjectivity false in
set_option genSizeOf false in
set_option genCtorIdx false in
structure VS (z TI TO i1 i2 : Addr) (fp1 fp2 : List Addr) : Prop where
  nd : [z, TI, TO, i1, i2].Nodup
  z1 : z ∉ fp1
  z2 : z ∉ fp2
  o1 : TO ∉ fp1
  o2 : TO ∉ fp2
  i12 : i1 ∉ fp2
  i21 : i2 ∉ fp1
section
variable {prog : Program} {w : World} {A : Around} {E : Value → Shared → Prop} {s : Shared} {z TI TO i1 i2 : Addr} {fp1 fp2 : List Addr} {n1 n2 k1 k2 : Nat} {P1 P2 : Nat → Value → Prop} {St1 St2 : Nat → Heap → Prop} {a b : Value}
theorem Y8 {Q : Value → Shared → Prop} (D1 : Draws prog w A i1 fp1 n1 P1 St1) (D2 : Draws prog w A i2 fp2 n2 P2 St2) (ap : VS z TI TO i1 i2 fp1 fp2)
    (hz : IsZip s.heap z TI TO .none) (hTI : IsPair s.heap TI (.ref i1) (.ref i2)) (hTO : IsPair s.heap TO a b) (h1 : St1 k1 s.heap) (h2 : St2 k2 s.heap) (l1 : k1 < n1) (l2 : k2 < n2)
    (hQ : ∀ x y h' tk, P1 k1 x → P2 k2 y → IsZip h' z TI TO (rawInt s.heap.objs.size) → IsPair h' TO x y → St1 (k1 + 1) h' → St2 (k2 + 1) h' → IsPair h' s.heap.objs.size x y →
      (∀ c o, c ∉ [z, TO, i1, i2] → s.heap.get? c = some o → h'.get? c = some o) → Q (.ref s.heap.objs.size) { s with heap := h', toks := tk }) :
    wpAny (model prog w) A (Builtin.«zip.__next__» ⟨[.ref z], []⟩) (fun fin s' => ∃ v, fin = .done (.ret v) ∧ Q v s') E s := by
  obtain ⟨nd, az1, az2, ao1, ao2, a12, a21⟩ := ap
  simp only [List.nodup_cons, List.mem_cons, List.not_mem_nil, or_false, not_or, not_false_eq_true, List.nodup_nil, and_true] at nd
  obtain ⟨⟨n1', n2', n3', n4'⟩, ⟨n5, n6, n7⟩, ⟨n8, n9⟩, n10⟩ := nd
  show wpAny _ _ (field (.ref z) 2 >>= _) _ _ _
  refine wpAny_bind (wpAny_field hz rfl (x := .bool false) rfl ?_)
  show wpAny _ _ (field (.ref z) 3 >>= _) _ _ _
  refine wpAny_bind (wpAny_field hz rfl (x := .ref TI) rfl (wpAny_bind (wpAny_seqItems hTI rfl ?_)))
  show wpAny _ _ (Builtin.SmallTypes.ownedTupleIsFree (.ref z) >>= _) _ _ _
  refine wpAny_bind ?_
  unfold Builtin.SmallTypes.ownedTupleIsFree
  refine wpAny_bind (wpAny_field hz rfl (x := .none) rfl (wpAny_pure ?_))
  simp only [if_true]
  refine wpAny_bind (wpAny_rule (wpAny_bind (wpAny_field hz rfl (x := .ref TO) rfl (wpAny_bind (wpAny_setField_rec hz (by simp) fun g1 z1 b1 => ?_)))))
  refine wpAny_bind ?_
  simp only [List.zipIdx_cons, List.zipIdx_nil, List.forIn_cons, List.forIn_nil]
  refine wpAny_bind (wpAny_bind (wpAny_onRaise ?_))
  show wpAny _ _ (Builtin.SmallTypes.nextOf (.ref i1) >>= _) _ _ _
  refine wpAny_bind (D1.item k1 _ _ _ l1 (yC D1 h1 b1 az1) fun x g2 tk2 px st2 b2 => wpAny_pure ?_)
  have o2 : IsPair g2 TO a b := (b2.2 TO n8).trans ((b1.2 TO (Ne.symm n2')).trans hTO)
  refine wpAny_bind (wpAny_seqItems o2 rfl (wpAny_bind (wpAny_updateSeq_pair o2 fun g3 o3 b3 => ?_)))
  refine wpAny_bind (wpAny_letGo (wpAny_pure ?_))
  refine wpAny_bind (wpAny_bind (wpAny_onRaise ?_))
  show wpAny _ _ (Builtin.SmallTypes.nextOf (.ref i2) >>= _) _ _ _
  have s23 : St2 k2 g3 := yC D2 (yC D2 (yC D2 h2 b1 az2) b2 a12) b3 ao2
  refine wpAny_bind (D2.item k2 _ _ _ l2 s23 fun y g4 tk4 py st4 b4 => wpAny_pure ?_)
  have o4 : IsPair g4 TO x b := (b4.2 TO n9).trans o3
  refine wpAny_bind (wpAny_seqItems o4 rfl (wpAny_bind (wpAny_updateSeq_pair o4 fun g5 o5 b5 => ?_)))
  replace o5 : IsPair g5 TO x y := o5
  refine wpAny_bind (wpAny_letGo (wpAny_pure (wpAny_pure ?_)))
  refine wpAny_bind (wpAny_seqItems o5 rfl ?_)
  show wpAny _ _ (newTuple [x, y] >>= _) _ _ _
  refine wpAny_bind (wpAny_newTuple ?_)
  have hsz : g5.objs.size = s.heap.objs.size := by rw [b5.1, b4.1, b3.1, b2.1, b1.1]
  have z5 : IsZip g5 z TI TO .ellipsis := (b5.2 z n2').trans ((b4.2 z n4').trans ((b3.2 z n2').trans ((b2.2 z n3').trans z1)))
  have zlt : z < g5.objs.size := Heap.lt_size z5
  show wpAny _ _ (Builtin.SmallTypes.ownedTupleHandOut (.ref z) (.ref g5.objs.size) >>= _) _ _ _
  refine wpAny_bind ?_
  unfold Builtin.SmallTypes.ownedTupleHandOut
  have z6 : IsZip (g5.push { cls := .type "tuple", data := .seq #[x, y] }) z TI TO .ellipsis := Heap.get?_push_of_some _ z5
  refine wpAny_bind (wpAny_setField_rec z6 (by simp) fun g7 z7 b7 => ?_)
  refine wpAny_setField_rec z7 (by simp) fun g8 z8 b8 => ?_
  have up : ∀ c o, c ≠ z → g5.get? c = some o → g8.get? c = some o := fun c o n e => (b8.2 c n).trans ((b7.2 c n).trans (Heap.get?_push_of_some _ e))
  have t8 : IsPair g8 g5.objs.size x y := (b8.2 _ (Nat.ne_of_gt zlt)).trans ((b7.2 _ (Nat.ne_of_gt zlt)).trans (Heap.get?_push_size _ rfl))
  have e8 : IsZip g8 z TI TO (rawInt g5.objs.size) := z8
  rw [hsz] at e8 t8
  refine wpAny_pure ⟨_, rfl, ?_⟩
  show Q (.ref g5.objs.size) _
  rw [hsz]
  have f1 : St1 (k1 + 1) g5 := yC D1 (yC D1 (yC D1 st2 b3 ao1) b4 a21) b5 ao1
  have f2 : St2 (k2 + 1) g5 := yC D2 st4 b5 ao2
  refine hQ x y g8 _ px py e8 (up _ _ (Ne.symm n2') o5) (D1.frame _ _ _ f1 fun c hc o e => up c o (fun q => az1 (q ▸ hc)) e) (D2.frame _ _ _ f2 fun c hc o e => up c o (fun q => az2 (q ▸ hc)) e) t8 fun c o hc e => ?_
  simp only [List.mem_cons, List.not_mem_nil, or_false, not_or] at hc
  obtain ⟨c1, c2, c3, c4⟩ := hc
  exact up c o c1 ((b5.2 c c2).trans ((b4.2 c c4).trans ((b3.2 c c2).trans ((b2.2 c c3).trans ((b1.2 c c1).trans e)))))
theorem Z1 {Q : Fin → Shared → Prop} (D1 : Draws prog w A i1 fp1 n1 P1 St1) (az1 : z ∉ fp1) (nz : i1 ≠ z)
    (hz : IsZip s.heap z TI TO .none) (hTI : IsPair s.heap TI (.ref i1) (.ref i2)) (h1 : St1 n1 s.heap)
    (hE : ∀ h' e, (∀ c o, c ≠ z → c ≠ i1 → s.heap.get? c = some o → h'.get? c = some o) → (∃ o, h'.get? e = some o ∧ o.cls = .type "StopIteration") → E (.ref e) { s with heap := h' }) :
    wpAny (model prog w) A (Builtin.«zip.__next__» ⟨[.ref z], []⟩) Q E s := by
  show wpAny _ _ (field (.ref z) 2 >>= _) _ _ _
  refine wpAny_bind (wpAny_field hz rfl (x := .bool false) rfl ?_)
  show wpAny _ _ (field (.ref z) 3 >>= _) _ _ _
  refine wpAny_bind (wpAny_field hz rfl (x := .ref TI) rfl (wpAny_bind (wpAny_seqItems hTI rfl ?_)))
  show wpAny _ _ (Builtin.SmallTypes.ownedTupleIsFree (.ref z) >>= _) _ _ _
  refine wpAny_bind ?_
  unfold Builtin.SmallTypes.ownedTupleIsFree
  refine wpAny_bind (wpAny_field hz rfl (x := .none) rfl (wpAny_pure ?_))
  simp only [if_true]
  refine wpAny_bind (wpAny_rule (wpAny_bind (wpAny_field hz rfl (x := .ref TO) rfl (wpAny_bind (wpAny_setField_rec hz (by simp) fun g1 z1 b1 => ?_)))))
  refine wpAny_bind ?_
  simp only [List.zipIdx_cons, List.zipIdx_nil, List.forIn_cons, List.forIn_nil]
  refine wpAny_bind (wpAny_bind (wpAny_onRaise ?_))
  show wpAny _ _ (Builtin.SmallTypes.nextOf (.ref i1) >>= _) _ _ _
  refine wpAny_bind (D1.done _ _ _ (yC D1 h1 b1 az1) fun g2 e b2 he => ?_)
  obtain ⟨oe, hoe, hce⟩ := he
  have z2 : IsZip g2 z TI TO .ellipsis := b2 _ _ (Ne.symm nz) z1
  have nez : e ≠ z := fun q => by subst q; rw [z2] at hoe; cases hoe; simp at hce
  exact wpAny_setField_rec z2 (by simp) fun g3 _ b3 => hE g3 e (fun c o c1 c2 q => (b3.2 c c1).trans (b2 c o c2 ((b1.2 c c1).trans q))) ⟨oe, (b3.2 e nez).trans hoe, hce⟩
end
noncomputable def YX (b : Bool) (h : Heap) (it l : Addr) (k : Nat) : Prop := if b = true then h.IsListIter it l k else h.IsTupleIter it l k
noncomputable def X1 (b : Bool) (h : Heap) (l : Addr) (items : Array Value) : Prop := if b = true then h.IsList l items else h.IsTuple l items
theorem Yd {prog : Program} {w : World} {A : Around} (hh : A.handled = none) (b : Bool) (it l : Addr) (hne : l ≠ it) (items : Array Value) :
    Draws prog w A it [it, l] items.size (fun i v => items[i]? = some v) (fun i h => YX b h it l i ∧ X1 b h l items) := by
  cases b with
  | true => exact Draws.list hh it l hne items
  | false => exact vK hh it l hne items
noncomputable def Vt (b : Bool) (l : Addr) : Obj := { cls := .type (if b = true then "list_iterator" else "tuple_iterator"), data := .fields #[.ref l, .int 0 0] }
noncomputable abbrev zpA (h : Heap) (b1 : Bool) (l1 : Addr) : Heap := h.push (Vt b1 l1)
noncomputable abbrev zpB (h : Heap) (b1 b2 : Bool) (l1 l2 : Addr) : Heap := (zpA h b1 l1).push (Vt b2 l2)
noncomputable abbrev zpC (h : Heap) (b1 b2 : Bool) (l1 l2 : Addr) : Heap := (zpB h b1 b2 l1 l2).push (Obj.mk (.type "tuple") none (.seq #[.ref h.objs.size, .ref (zpA h b1 l1).objs.size]) #[])
noncomputable abbrev zpD (h : Heap) (b1 b2 : Bool) (l1 l2 : Addr) : Heap := (zpC h b1 b2 l1 l2).push (Obj.mk (.type "tuple") none (.seq #[.none, .none]) #[])
noncomputable abbrev zpE (h : Heap) (b1 b2 : Bool) (l1 l2 : Addr) : Heap := (zpD h b1 b2 l1 l2).push (Obj.mk (.type "zip") none (.fields #[.none, .bool false, .bool false, .ref (zpB h b1 b2 l1 l2).objs.size, .ref (zpC h b1 b2 l1 l2).objs.size]) #[])
theorem ZN (b1 b2 : Bool) (l1 l2 : Addr) (xs ys : Array Value) :
    Meets (Builtin.«zip.__new__» ⟨[.type "zip", .ref l1, .ref l2], []⟩) (fun _ R s => X1 b1 s.heap l1 xs ∧ X1 b2 s.heap l2 ys ∧
      R (.ok (.ret (.ref (zpD s.heap b1 b2 l1 l2).objs.size))) { s with heap := zpE s.heap b1 b2 l1 l2 }) :=
  .of_wp fun prog w A R s h => by
    obtain ⟨hp, g, d, tk, os⟩ := s; obtain ⟨hl1, hl2, h⟩ := h
    have hsub := sub_zip
    cases b1 with
    | true =>
      have hL1 : Heap.IsList (Shared.heap ⟨hp, g, d, tk, os⟩) l1 xs := hl1
      cases b2 with
      | true =>
        have hL2 : Heap.IsList (Shared.heap ⟨hp.push { cls := .type "list_iterator", data := .fields #[.ref l1, .int 0 0] }, g, d, tk, os⟩) l2 ys := Heap.IsList.push hl2 _
        wp_walk using wpAny_pyIter_list hL1, wpAny_pyIter_list hL2
        exact ⟨_, rfl, h⟩
      | false =>
        have hL2 : Heap.IsTuple (Shared.heap ⟨hp.push { cls := .type "list_iterator", data := .fields #[.ref l1, .int 0 0] }, g, d, tk, os⟩) l2 ys := Heap.IsTuple.push hl2 _
        wp_walk using wpAny_pyIter_list hL1, wpAny_pyIter_tuple hL2
        exact ⟨_, rfl, h⟩
    | false =>
      have hL1 : Heap.IsTuple (Shared.heap ⟨hp, g, d, tk, os⟩) l1 xs := hl1
      cases b2 with
      | true =>
        have hL2 : Heap.IsList (Shared.heap ⟨hp.push { cls := .type "tuple_iterator", data := .fields #[.ref l1, .int 0 0] }, g, d, tk, os⟩) l2 ys := Heap.IsList.push hl2 _
        wp_walk using wpAny_pyIter_tuple hL1, wpAny_pyIter_list hL2
        exact ⟨_, rfl, h⟩
      | false =>
        have hL2 : Heap.IsTuple (Shared.heap ⟨hp.push { cls := .type "tuple_iterator", data := .fields #[.ref l1, .int 0 0] }, g, d, tk, os⟩) l2 ys := Heap.IsTuple.push hl2 _
        wp_walk using wpAny_pyIter_tuple hL1, wpAny_pyIter_tuple hL2
        exact ⟨_, rfl, h⟩
end PySem
namespace PySem
section
variable {prog : Program} {w : World} {A : Around} {E : Value → Shared → Prop} {s : Shared}
theorem Y5 {b1 b2 : Bool} {l1 l2 : Addr} {xs ys : Array Value} {Q : Value → Shared → Prop} (hl1 : X1 b1 s.heap l1 xs) (hl2 : X1 b2 s.heap l2 ys)
    (h : ∀ h', IsZip h' (s.heap.objs.size + 4) (s.heap.objs.size + 2) (s.heap.objs.size + 3) .none → IsPair h' (s.heap.objs.size + 2) (.ref s.heap.objs.size) (.ref (s.heap.objs.size + 1)) →
      IsPair h' (s.heap.objs.size + 3) .none .none → YX b1 h' s.heap.objs.size l1 0 → YX b2 h' (s.heap.objs.size + 1) l2 0 →
      (∀ c o, s.heap.get? c = some o → h'.get? c = some o) → Q (.ref (s.heap.objs.size + 4)) { s with heap := h' }) :
    wpAny (model prog w) A (call (.type "zip") [.ref l1, .ref l2]) Q E s := by
  refine callType_new F.called_zip (by decide) (F.typeCall_zip_2 _ _) (F.newCall_zip_2 _ _) (fun obj => F.args_object_init_3 obj _ _) F.entry_zip_new
    (ZN b1 b2 l1 l2 xs ys) ⟨hl1, hl2, ?_⟩
  have z1 : (zpA s.heap b1 l1).objs.size = s.heap.objs.size + 1 := Heap.size_push ..
  have z2 : (zpB s.heap b1 b2 l1 l2).objs.size = s.heap.objs.size + 2 := by rw [Heap.size_push, z1]
  have z3 : (zpC s.heap b1 b2 l1 l2).objs.size = s.heap.objs.size + 3 := by rw [Heap.size_push, z2]
  have z4 : (zpD s.heap b1 b2 l1 l2).objs.size = s.heap.objs.size + 4 := by rw [Heap.size_push, z3]
  have g5 : (zpE s.heap b1 b2 l1 l2).get? (zpD s.heap b1 b2 l1 l2).objs.size = some _ := Heap.get?_push_size _ rfl
  have g4 : (zpE s.heap b1 b2 l1 l2).get? (zpC s.heap b1 b2 l1 l2).objs.size = some _ := Heap.get?_push_of_some _ (Heap.get?_push_size _ rfl)
  have g3 : (zpE s.heap b1 b2 l1 l2).get? (zpB s.heap b1 b2 l1 l2).objs.size = some _ := Heap.get?_push_of_some _ (Heap.get?_push_of_some _ (Heap.get?_push_size _ rfl))
  have g2 : (zpE s.heap b1 b2 l1 l2).get? (zpA s.heap b1 l1).objs.size = some (Vt b2 l2) := Heap.get?_push_of_some _ (Heap.get?_push_of_some _ (Heap.get?_push_of_some _ (Heap.get?_push_size _ rfl)))
  have g1 : (zpE s.heap b1 b2 l1 l2).get? s.heap.objs.size = some (Vt b1 l1) := Heap.get?_push_of_some _ (Heap.get?_push_of_some _ (Heap.get?_push_of_some _ (Heap.get?_push_of_some _ (Heap.get?_push_size _ rfl))))
  show _ ∧ _
  rw [z2, z3, z4] at g5
  rw [z1, z2] at g3
  rw [z3] at g4
  rw [z1] at g2
  rw [z4]
  have it0 : ∀ {b : Bool} {l c : Addr}, (zpE s.heap b1 b2 l1 l2).get? c = some (Vt b l) → YX b (zpE s.heap b1 b2 l1 l2) c l 0 := fun {b l c} e => by
    cases b
    · exact ⟨_, e, rfl, rfl⟩
    · exact ⟨_, e, rfl, rfl⟩
  exact ⟨⟨_, g5, rfl⟩, h _ g5 g3 g4 (it0 g1) (it0 g2) fun c o x =>
    Heap.get?_push_of_some _ (Heap.get?_push_of_some _ (Heap.get?_push_of_some _ (Heap.get?_push_of_some _ (Heap.get?_push_of_some _ x))))⟩
variable {z TI TO i1 i2 : Addr} {fp1 fp2 : List Addr} {n1 n2 k1 k2 : Nat} {P1 P2 : Nat → Value → Prop} {St1 St2 : Nat → Heap → Prop} {a b : Value}
theorem wH {Q : Option Value → Shared → Prop} (D1 : Draws prog w A.in1 i1 fp1 n1 P1 St1) (D2 : Draws prog w A.in1 i2 fp2 n2 P2 St2) (ap : VS z TI TO i1 i2 fp1 fp2)
    (hz : IsZip s.heap z TI TO .none) (hTI : IsPair s.heap TI (.ref i1) (.ref i2)) (hTO : IsPair s.heap TO a b) (h1 : St1 k1 s.heap) (h2 : St2 k2 s.heap) (l1 : k1 < n1) (l2 : k2 < n2)
    (hQ : ∀ x y h' tk, P1 k1 x → P2 k2 y → IsZip h' z TI TO (rawInt s.heap.objs.size) → IsPair h' TO x y → St1 (k1 + 1) h' → St2 (k2 + 1) h' → IsPair h' s.heap.objs.size x y →
      (∀ c o, c ∉ [z, TO, i1, i2] → s.heap.get? c = some o → h'.get? c = some o) → Q (some (.ref s.heap.objs.size)) { s with heap := h', toks := tk }) :
    wpAny (model prog w) A (pyNext (.ref z)) Q E s := by
  have hT : s.TypeIs (.ref z) "zip" := ⟨_, hz, rfl⟩
  unfold pyNext
  exact wpAny_bind (wpAny_attempt (wpAny_callSpecial?_slot (name := Str.ofString "__next__") hT F.slot_zip_next
    (wpAny_call_entry F.slot_zip_next hT F.entry_zip_next
      (Y8 D1 D2 ap hz hTI hTO h1 h2 l1 l2 fun x y h' tk a1 a2 a3 a4 a5 a6 a7 a8 => wpAny_pure (hQ x y h' tk a1 a2 a3 a4 a5 a6 a7 a8)) (F.args_zip_next_1 _))))
theorem wT {Q : Option Value → Shared → Prop} (D1 : Draws prog w A.in1 i1 fp1 n1 P1 St1) (az1 : z ∉ fp1) (nz : i1 ≠ z)
    (hz : IsZip s.heap z TI TO .none) (hTI : IsPair s.heap TI (.ref i1) (.ref i2)) (h1 : St1 n1 s.heap)
    (hQ : ∀ h', (∀ c o, c ≠ z → c ≠ i1 → s.heap.get? c = some o → h'.get? c = some o) → Q none { s with heap := h' }) : wpAny (model prog w) A (pyNext (.ref z)) Q E s := by
  have hT : s.TypeIs (.ref z) "zip" := ⟨_, hz, rfl⟩
  unfold pyNext
  refine wpAny_bind (wpAny_attempt (wpAny_callSpecial?_slot (name := Str.ofString "__next__") hT F.slot_zip_next
    (wpAny_call_entry F.slot_zip_next hT F.entry_zip_next (Z1 D1 az1 nz hz hTI h1 fun h' e hk he => ?_) (F.args_zip_next_1 _))))
  obtain ⟨o, ho, hc⟩ := he
  refine wpAny_bind (wpAny_isInstance (T := "StopIteration") (b := true) ⟨o, ho, hc⟩ isSubtype_stop ?_)
  exact wpAny_pure (hQ _ hk)
end
end PySem
namespace L2
open PySem PySem.Spec PyProof.Rows
noncomputable def Sq (b : Bool) (K : PySem.W.Frag) (H : Hp) (a : Addr) (xs : List V) : Prop := if b = true then SqL K H a xs else SqT K H a xs
theorem Inv.sq {X : Cx} {pins : List (Addr × Obj)} {σ : St} {H : Hp} {s : Shared} {a : Addr} {xs : List V} {b : Bool} (I : Inv X pins σ H s) (h : Sq b X.K H a xs) : ∃ its : List Value, yd xs its ∧ X1 b s.heap a its.toArray ∧ a < s.heap.objs.size := by
  cases b with
  | true =>
    obtain ⟨its, r, p, _⟩ := I.list (show SqL X.K H a xs from h)
    exact ⟨its, r, p.isList, by obtain ⟨o, n, ho, _⟩ := p; exact Heap.lt_size ho⟩
  | false =>
    obtain ⟨its, r, p, _⟩ := I.tuple (show SqT X.K H a xs from h)
    exact ⟨its, r, p, by obtain ⟨o, ho, _⟩ := p; exact Heap.lt_size ho⟩
theorem Inv.sq_inj {X : Cx} {pins : List (Addr × Obj)} {σ : St} {H : Hp} {s : Shared} {a : Addr} {xs ys : List V} {b : Bool} (I : Inv X pins σ H s) (h : Sq b X.K H a xs) (h' : Sq b X.K H a ys) : xs = ys := by
  cases b with
  | true => exact I.list_inj h h'
  | false => exact I.tuple_inj h h'
noncomputable def Izp (K : PySem.W.Frag) (b1 b2 : Bool) (l1 l2 : Addr) : It :=
  ⟨fun i H => ∃ xs ys x y, Sq b1 K H l1 xs ∧ Sq b2 K H l2 ys ∧ xs[i]? = some x ∧ ys[i]? = some y,
   fun i H v H' => ∃ T x y, v = .ref T ∧ H T = none ∧ H' = upd H T (.tup [x, y]) ∧ (∀ xs, Sq b1 K H l1 xs → xs[i]? = some x) ∧ (∀ ys, Sq b2 K H l2 ys → ys[i]? = some y),
   fun i H => ∃ xs, Sq b1 K H l1 xs ∧ i = xs.length⟩
theorem wM {b : Bool} {h : Heap} {it l : Addr} {k : Nat} (x : YX b h it l k) : ∃ o, h.get? it = some o ∧ ∀ v, o.data ≠ .cell v := by
  cases b
  · obtain ⟨o, ho, _, hd⟩ := x
    exact ⟨o, ho, fun v z => by rw [hd] at z; cases z⟩
  · obtain ⟨o, ho, _, hd⟩ := x
    exact ⟨o, ho, fun v z => by rw [hd] at z; cases z⟩
theorem vH {b : Bool} {h h' : Heap} {it l : Addr} {k : Nat} (x : YX b h it l k) (e : ∀ o, h.get? it = some o → h'.get? it = some o) : YX b h' it l k := by
  cases b
  · obtain ⟨o, ho, r⟩ := x
    exact ⟨o, e o ho, r⟩
  · obtain ⟨o, ho, r⟩ := x
    exact ⟨o, e o ho, r⟩
theorem VN {P : Program} {w : World} {K : PySem.W.Frag} {es : List Expr} {k : Nat} {tp : Pos} (b1 b2 : Bool) (l1 l2 z TI TO i1 i2 : Addr) (ap : VS z TI TO i1 i2 [i1, l1] [i2, l2]) (n1 : l1 ≠ i1) (n2 : l2 ≠ i2) :
    zbR P w K (.Tuple es k tp) (Izp K b1 b2 l1 l2) [z, TI, TO, i1, i2] z (fun i h => IsZip h z TI TO .none ∧ IsPair h TI (.ref i1) (.ref i2) ∧ (∃ a b, IsPair h TO a b) ∧ YX b1 h i1 l1 i ∧ YX b2 h i2 l2 i) where
  mem := by simp
  obj := fun i h st b hb => by
    obtain ⟨hz, hTI, ⟨a, c, hTO⟩, h1, h2⟩ := st
    simp only [List.mem_cons, List.not_mem_nil, or_false] at hb
    rcases hb with rfl | rfl | rfl | rfl | rfl
    · exact ⟨_, hz, fun v z => by cases z⟩
    · exact ⟨_, hTI, fun v z => by cases z⟩
    · exact ⟨_, hTO, fun v z => by cases z⟩
    · exact wM h1
    · exact wM h2
  keep := fun i h h' st kk => by
    obtain ⟨hz, hTI, ⟨a, c, hTO⟩, h1, h2⟩ := st
    exact ⟨kk z (by simp) _ hz, kk TI (by simp) _ hTI, ⟨a, c, kk TO (by simp) _ hTO⟩, vH h1 fun o q => kk i1 (by simp) o q, vH h2 fun o q => kk i2 (by simp) o q⟩
  item := by
    intro X hP hw hK hc i pins s σ H E I hf st hg
    subst hP hw hK
    obtain ⟨hz, hTI, ⟨a, c, hTO⟩, h1, h2⟩ := st
    obtain ⟨xs, ys, x, y, hq1, hq2, hx, hy⟩ := hg
    obtain ⟨its, rv, p, _⟩ := I.sq hq1
    obtain ⟨its2, rv2, p2, _⟩ := I.sq hq2
    obtain ⟨u, hu, ru⟩ := rv.get hx
    obtain ⟨u2, hu2, ru2⟩ := rv2.get hy
    have hl1 : i < its.toArray.size := by simpa using (List.getElem?_eq_some_iff.mp hu).1
    have hl2 : i < its2.toArray.size := by simpa using (List.getElem?_eq_some_iff.mp hu2).1
    have hh : X.A.in1.handled = none := I.ok.hd hc
    refine wH (Yd hh b1 i1 l1 n1 its.toArray) (Yd hh b2 i2 l2 n2 its2.toArray) ap hz hTI hTO ⟨h1, p⟩ ⟨h2, p2⟩ hl1 hl2 fun v1 v2 h' tk e1 e2 hz' hTO' s1 s2 hT' hk => ?_
    have eu : v1 = u := by
      have : its[i]? = some v1 := by simpa using e1
      rw [hu] at this
      exact (Option.some.inj this).symm
    have eu2 : v2 = u2 := by
      have : its2[i]? = some v2 := by simpa using e2
      rw [hu2] at this
      exact (Option.some.inj this).symm
    subst eu eu2
    obtain ⟨nd, az1, az2, ao1, ao2, a12, a21⟩ := ap
    simp only [List.nodup_cons, List.mem_cons, List.not_mem_nil, or_false, not_or, not_false_eq_true, List.nodup_nil, and_true] at nd
    obtain ⟨⟨m1, m2, m3, m4⟩, ⟨m5, m6, m7⟩, ⟨m8, m9⟩, m10⟩ := nd
    refine ⟨_, rfl, wpAny_letOwnedTupleGo_zip hz' fun h2' hz2 hs2 => ?_⟩
    have hfr : H s.heap.objs.size = none := I.hok.fresh (Nat.le_refl _)
    have neZ : s.heap.objs.size ≠ z := Nat.ne_of_gt (Heap.lt_size hz)
    have hT2 : IsPair h2' s.heap.objs.size v1 v2 := (hs2.2 _ neZ).trans hT'
    have hTI' : IsPair h' TI (.ref i1) (.ref i2) := hk TI _ (by simp [Ne.symm m1, m5, m6, m7]) hTI
    have lt : ∀ b ∈ [z, TI, TO, i1, i2], b < s.heap.objs.size := fun b hb => by
      simp only [List.mem_cons, List.not_mem_nil, or_false] at hb
      rcases hb with rfl | rfl | rfl | rfl | rfl
      · exact Heap.lt_size hz
      · exact Heap.lt_size hTI
      · exact Heap.lt_size hTO
      · obtain ⟨o, ho, _⟩ := wM h1; exact Heap.lt_size ho
      · obtain ⟨o, ho, _⟩ := wM h2; exact Heap.lt_size ho
    refine ⟨.ref s.heap.objs.size, upd H s.heap.objs.size (.tup [x, y]), ?_, rfl, ⟨_, x, y, rfl, hfr, rfl, fun zs hz => by rw [I.sq_inj hz hq1]; exact hx, fun zs hz => by rw [I.sq_inj hz hq2]; exact hy⟩,
      ⟨hz2, (hs2.2 TI (Ne.symm m1)).trans hTI', ⟨_, _, (hs2.2 TO (Ne.symm m2)).trans hTO'⟩, vH s1.1 fun o q => (hs2.2 i1 (Ne.symm m3)).trans q, vH s2.1 fun o q => (hs2.2 i2 (Ne.symm m4)).trans q⟩, fun b hb => ?_⟩
    · refine I.grown (ch := [z, TI, TO, i1, i2]) hf (Nat.le_refl _) (fun b v hb q => ?_) ?_
      · have nb : b ≠ z := fun w => hb (by simp [w])
        refine (hs2.2 b nb).trans (hk b v (fun w => hb ?_) q)
        simp only [List.mem_cons, List.not_mem_nil, or_false] at w ⊢
        rcases w with w | w | w | w
        · exact .inl w
        · exact .inr (.inr (.inl w))
        · exact .inr (.inr (.inr (.inl w)))
        · exact .inr (.inr (.inr (.inr w)))
      · exact ⟨by show 2 ≤ sizeLine; decide, [v1, v2], .cons ru (.cons ru2 .nil), ⟨_, hT2, rfl, 0, rfl⟩⟩
    · rw [zm (Nat.ne_of_lt (lt b hb))]
      exact (hf b hb).1
  done := by
    intro X hP hw hK hc i pins s σ H E I hf st hg
    subst hP hw hK
    obtain ⟨hz, hTI, ⟨a, c, hTO⟩, h1, h2⟩ := st
    obtain ⟨xs, hq, rfl⟩ := hg
    obtain ⟨its, rv, p, _⟩ := I.sq hq
    have hl := rv.length
    have hh : X.A.in1.handled = none := I.ok.hd hc
    have D := Yd (prog := X.prog) (w := X.w) hh b1 i1 l1 n1 its.toArray
    refine wT D ap.z1 ?_ hz hTI ⟨by rw [List.size_toArray, ← hl]; exact h1, p⟩ fun h' hk => ⟨rfl, I.turnedN (ch := [z, TI, TO, i1, i2]) (t' := s.toks) hf fun b v hb q => hk b v (fun w => hb (by simp [w])) (fun w => hb (by simp [w])) q⟩
    have nd := ap.nd
    simp only [List.nodup_cons, List.mem_cons, List.not_mem_nil, or_false, not_or, not_false_eq_true, List.nodup_nil, and_true] at nd
    exact Ne.symm nd.1.2.2.1
  self := fun _ _ _ _ _ st h => wpAny_pyIter_zip st.1 h
noncomputable def iZip (K : PySem.W.Frag) (ta : TA) : TI := fun σ H R => ta σ H fun vs H1 => ∃ b1 b2 l1 l2 xs ys, vs = [.ref l1, .ref l2] ∧ Sq b1 K H1 l1 xs ∧ Sq b2 K H1 l2 ys ∧ R (Izp K b1 b2 l1 l2) H1
theorem zb1 {X : Cx} {es : List Expr} {k : Nat} {tp : Pos} {a b : Expr} {ta : TA} {p pos : Pos} (hg : Gl X "zip") (hm : X.mg "zip" = none) (hb : bootBuiltins "zip" = some (.type "zip")) (ha : PA X [a, b] ta)
    (hs : starEach [a, b] X.env = [(false, eval a X.env), (false, eval b X.env)] := by rfl) (hs2 : starEach [b] X.env = [(false, eval b X.env)] := by rfl) : PI X (.Tuple es k tp) (.Call (.Name "zip" p) [a, b] [] pos) (iZip X.K ta) := by
  intro pins s σ H R I h
  refine Call_ (Ys I hg hm hb (PyProof.Rows.callWith_type1 (thn (ha pos pins s σ H _ I h) fun us s1 hh9 => ?_) (by rw [hs, hs2]) (by rw [hs2]; rfl)))
  obtain ⟨vs, H1, I1, r1, q1⟩ := hh9
  obtain ⟨b1, b2, l1, l2, xs, ys, e, hq1, hq2, q⟩ := q1
  subst e
  obtain ⟨u, u2, rfl, ru, ru2⟩ := zcn r1
  cases ru
  cases ru2
  obtain ⟨its, rv, p1, lt1⟩ := I1.sq hq1
  obtain ⟨its2, rv2, p2, lt2⟩ := I1.sq hq2
  refine Y5 p1 p2 fun h2 hz hTI hTO hi1 hi2 hk => wpAny_pyIter_zip hz ?_
  have hn : ∀ b, s1.heap.objs.size ≤ b → We X pins H1 b := fun b hb => I1.fpOk hb (I1.hok.fresh hb)
  have ap : VS (s1.heap.objs.size + 4) (s1.heap.objs.size + 2) (s1.heap.objs.size + 3) s1.heap.objs.size (s1.heap.objs.size + 1) [s1.heap.objs.size, l1] [s1.heap.objs.size + 1, l2] := by
    have q1 : l1 ≠ s1.heap.objs.size := Nat.ne_of_lt lt1
    have q2 : ∀ j : Nat, s1.heap.objs.size + j ≠ l1 := fun j e => Nat.lt_irrefl _ (Nat.lt_of_lt_of_le (by rw [← e] at lt1; exact lt1) (Nat.le_add_right _ _))
    have q3 : ∀ j : Nat, s1.heap.objs.size + j ≠ l2 := fun j e => Nat.lt_irrefl _ (Nat.lt_of_lt_of_le (by rw [← e] at lt2; exact lt2) (Nat.le_add_right _ _))
    have ne : ∀ i j : Nat, i ≠ j → s1.heap.objs.size + i ≠ s1.heap.objs.size + j := fun i j h e => h (Nat.add_left_cancel e)
    have n0 : ∀ i : Nat, i ≠ 0 → s1.heap.objs.size + i ≠ s1.heap.objs.size := fun i h e => h (Nat.add_left_cancel (n := s1.heap.objs.size) (m := i) (k := 0) e)
    refine ⟨?_, ?_, ?_, ?_, ?_, ?_, ?_⟩
    · simp only [List.nodup_cons, List.mem_cons, List.not_mem_nil, or_false, not_or, not_false_eq_true, List.nodup_nil, and_true]
      exact ⟨⟨ne 4 2 (by decide), ne 4 3 (by decide), n0 4 (by decide), ne 4 1 (by decide)⟩, ⟨ne 2 3 (by decide), n0 2 (by decide), ne 2 1 (by decide)⟩, ⟨n0 3 (by decide), ne 3 1 (by decide)⟩, Ne.symm (n0 1 (by decide))⟩
    · simp only [List.mem_cons, List.not_mem_nil, or_false, not_or]; exact ⟨n0 4 (by decide), q2 4⟩
    · simp only [List.mem_cons, List.not_mem_nil, or_false, not_or]; exact ⟨ne 4 1 (by decide), q3 4⟩
    · simp only [List.mem_cons, List.not_mem_nil, or_false, not_or]; exact ⟨n0 3 (by decide), q2 3⟩
    · simp only [List.mem_cons, List.not_mem_nil, or_false, not_or]; exact ⟨ne 3 1 (by decide), q3 3⟩
    · simp only [List.mem_cons, List.not_mem_nil, or_false, not_or]; exact ⟨Ne.symm (n0 1 (by decide)), q3 0⟩
    · simp only [List.mem_cons, List.not_mem_nil, or_false, not_or]; exact ⟨n0 1 (by decide), q2 1⟩
  refine ⟨_, _, _, _, H1, rfl, I1.kept (t' := s1.toks) hk, VN b1 b2 l1 l2 _ _ _ _ _ ap (Nat.ne_of_lt lt1) (Nat.ne_of_lt (Nat.lt_succ_of_lt lt2)), ⟨hz, hTI, ⟨_, _, hTO⟩, hi1, hi2⟩, fun b hb => ?_, q⟩
  simp only [List.mem_cons, List.not_mem_nil, or_false] at hb
  rcases hb with rfl | rfl | rfl | rfl | rfl
  · exact hn _ (Nat.le_add_right _ _)
  · exact hn _ (Nat.le_add_right _ _)
  · exact hn _ (Nat.le_add_right _ _)
  · exact hn _ (Nat.le_refl _)
  · exact hn _ (Nat.le_add_right _ _)
end L2
namespace OwnSort
open PySem PyProof.Rows
section pure
variable {κ : KeyKind} {xs : Array Keyed}
theorem turned {n : Nat} (hn : n ≤ xs.size) (h : NonIncK κ xs n) : SortedToK κ (mirror xs 0 n ((n - 0) / 2)) n := fun i j hij hj => by
  rw [KK_mirror hn, KK_mirror hn, if_pos ⟨by omega, by omega⟩, if_pos ⟨by omega, by omega⟩]
  exact h _ _ (by omega) (by omega)
end pure
section
variable {prog : Program} {w : World} {A : Around} {E : Value → Shared → Prop} {s : Shared} {a₀ : Array Keyed} {κ : KeyKind} {k : SortKind} {st : SortSt}
end
end OwnSort
namespace OwnSort
open PySem PyProof.Rows
noncomputable abbrev Pr := Int × Int
noncomputable def zcU (s t : Pr) : Bool := decide (s.1 < t.1 ∨ (s.1 = t.1 ∧ s.2 < t.2))
noncomputable def TP (h : Heap) (v : Value) (t : Pr) : Prop := ∃ a o n tx ty, v = .ref a ∧ h.get? a = some o ∧ o.cls = .type "tuple" ∧ o.data = .seq #[.int t.1 tx, .int t.2 ty] n
open Classical in
noncomputable def keyP (h : Heap) (v : Value) : Option Pr := if x : ∃ t, TP h v t then some x.choose else none
@[reducible] noncomputable def kindP (h : Heap) : KeyKind where
  α := Pr
  blt := zcU
  irrefl a := by unfold zcU; exact decide_eq_false (by omega)
  trans a b c h1 h2 := by unfold zcU at *; rw [decide_eq_true_eq] at *; omega
  negTrans a b c h := by unfold zcU at *; rw [decide_eq_true_eq] at *; rw [decide_eq_true_eq]; omega
  total a b h1 h2 := by
    unfold zcU at *
    rw [decide_eq_false_iff_not] at *
    exact Prod.ext (by omega) (by omega)
  keyOf := keyP h
  dflt := (0, 0)
section
variable {prog : Program} {w : World} {A : Around} {E : Value → Shared → Prop} {s : Shared}
end
end OwnSort
namespace OwnSort
open PySem PyProof.Rows
section
variable {prog : Program} {w : World} {A : Around} {E : Value → Shared → Prop} {s : Shared}
end
end OwnSort
namespace Dl
open PySem L2
class KK where
  K : PySem.W.Frag
inductive D where
  | non | bl (b : Bool) | int (i : Int) | str (x : Str) | tup (ds : List D) | lst (ds : List D) | scr (ns : List Int)
    | dct (z t : Bool) (ks : List (List Key)) (vs : List D)
  deriving Inhabited
section
variable [KK]
noncomputable def zbQ (o : HO) (t : Bool) (ks : List (List Key)) (xs : List V) : Prop :=
  if t = true then ∃ kvs, o = .dT kvs ∧ kvs.map (·.1) = ks ∧ kvs.map (·.2) = xs else ∃ kvs : List (Key × V), o = .dK kvs ∧ kvs.map (fun p => [p.1]) = ks ∧ kvs.map (·.2) = xs
noncomputable def Z8 (H : Hp) (a : Addr) (z t : Bool) (ks : List (List Key)) (xs : List V) : Prop :=
  ∃ u, zbQ u t ks xs ∧ if z = true then ∃ ob, H a = some (.frz ob u) else H a = some u
theorem Z8.mono {H H' : Hp} {a : Addr} {z t : Bool} {ks : List (List Key)} {xs : List V} (s : yg H H') (h : Z8 H a z t ks xs) : Z8 H' a z t ks xs := by
  obtain ⟨u, h1, h2⟩ := h
  refine ⟨u, h1, ?_⟩
  cases z with
  | true =>
    rw [if_pos rfl] at h2 ⊢
    obtain ⟨ob, h2⟩ := h2
    exact ⟨ob, s _ _ h2⟩
  | false =>
    rw [if_neg Bool.false_ne_true] at h2 ⊢
    exact s _ _ h2
theorem Z8.rd {H : Hp} {a : Addr} {z t : Bool} {ks : List (List Key)} {xs : List V} (h : Z8 H a z t ks xs) : ∃ u, zbQ u t ks xs ∧ Rd H a u := by
  obtain ⟨u, h1, h2⟩ := h
  refine ⟨u, h1, ?_⟩
  cases z with
  | true =>
    rw [if_pos rfl] at h2
    obtain ⟨ob, h2⟩ := h2
    exact .inr ⟨ob, h2⟩
  | false =>
    rw [if_neg Bool.false_ne_true] at h2
    exact .inl h2
mutual
noncomputable def At (H : Hp) : D → V → Prop
  | .non, v => v = .non
  | .bl b, v => v = .bl b
  | .int i, v => v = .int i
  | .str x, v => v = .str x
  | .tup ds, v => ∃ a xs, v = .ref a ∧ H a = some (.tup xs) ∧ AtL H ds xs
  | .lst ds, v => ∃ a xs, v = .ref a ∧ H a = some (.lst xs) ∧ AtL H ds xs
  | .scr ns, v => ∃ a, v = .ref a ∧ SqL KK.K H a (ns.map V.int)
  | .dct z t ks vs, v => ∃ a xs, v = .ref a ∧ Z8 H a z t ks xs ∧ AtL H vs xs
noncomputable def AtL (H : Hp) : List D → List V → Prop
  | [], xs => xs = []
  | d :: ds, xs => ∃ x r, xs = x :: r ∧ At H d x ∧ AtL H ds r
end
mutual
theorem At.mono {H H' : Hp} (s : yg H H') : ∀ {d : D} {v : V}, At H d v → At H' d v
  | .non, _, h => by unfold At at h ⊢; exact h
  | .bl _, _, h => by unfold At at h ⊢; exact h
  | .int _, _, h => by unfold At at h ⊢; exact h
  | .str _, _, h => by unfold At at h ⊢; exact h
  | .tup ds, _, h => by
    unfold At at h ⊢
    obtain ⟨a, xs, e, hx, hl⟩ := h
    exact ⟨a, xs, e, s _ _ hx, AtL.mono s hl⟩
  | .lst ds, _, h => by
    unfold At at h ⊢
    obtain ⟨a, xs, e, hx, hl⟩ := h
    exact ⟨a, xs, e, s _ _ hx, AtL.mono s hl⟩
  | .scr ns, _, h => by
    unfold At at h ⊢
    obtain ⟨a, e, hx⟩ := h
    exact ⟨a, e, s.seq hx⟩
  | .dct z t ks vs, _, h => by
    unfold At at h ⊢
    obtain ⟨a, xs, e, hx, hl⟩ := h
    exact ⟨a, xs, e, hx.mono s, AtL.mono s hl⟩
theorem AtL.mono {H H' : Hp} (s : yg H H') : ∀ {ds : List D} {xs : List V}, AtL H ds xs → AtL H' ds xs
  | [], _, h => by unfold AtL at h ⊢; exact h
  | d :: ds, _, h => by
    unfold AtL at h ⊢
    obtain ⟨x, r, e, h1, h2⟩ := h
    exact ⟨x, r, e, At.mono s h1, AtL.mono s h2⟩
end
mutual
noncomputable def noL : D → Bool
  | .tup ds => zc2 ds
  | .lst _ => false
  | .scr _ => false
  | .dct _ _ _ _ => false
  | _ => true
noncomputable def zc2 : List D → Bool
  | [] => true
  | d :: ds => noL d && zc2 ds
end
mutual
theorem At.flat {G F : Hp} (h : ∀ q xs, G q = some (.tup xs) → F q = some (.tup xs)) : ∀ {d : D} {v : V}, noL d = true → At G d v → At F d v
  | .non, _, _, a => by unfold At at a ⊢; exact a
  | .bl _, _, _, a => by unfold At at a ⊢; exact a
  | .int _, _, _, a => by unfold At at a ⊢; exact a
  | .str _, _, _, a => by unfold At at a ⊢; exact a
  | .tup ds, _, n, a => by
    unfold At at a ⊢
    unfold noL at n
    obtain ⟨p, xs, e, hx, hl⟩ := a
    exact ⟨p, xs, e, h _ _ hx, AtL.flat h n hl⟩
  | .lst ds, _, n, _ => by unfold noL at n; cases n
  | .scr ds, _, n, _ => by unfold noL at n; cases n
  | .dct _ _ _ _, _, n, _ => by unfold noL at n; cases n
theorem AtL.flat {G F : Hp} (h : ∀ q xs, G q = some (.tup xs) → F q = some (.tup xs)) : ∀ {ds : List D} {xs : List V}, zc2 ds = true → AtL G ds xs → AtL F ds xs
  | [], _, _, a => by unfold AtL at a ⊢; exact a
  | d :: ds, _, n, a => by
    unfold AtL at a ⊢
    unfold zc2 at n
    rw [Bool.and_eq_true] at n
    obtain ⟨x, r, e, h1, h2⟩ := a
    exact ⟨x, r, e, At.flat h n.1 h1, AtL.flat h n.2 h2⟩
end
section
variable {H H' : Hp} {d : D} {ds es : List D} {v x : V} {xs ys : List V}
theorem At.int {i : Int} : At H (.int i) (.int i) := by unfold At; rfl
theorem At.bl {b : Bool} : At H (.bl b) (.bl b) := by unfold At; rfl
theorem At.non : At H .non .non := by unfold At; rfl
theorem At.str {y : Str} : At H (.str y) (.str y) := by unfold At; rfl
theorem At.tup {a : Addr} (h : H a = some (.tup xs)) (hl : AtL H ds xs) : At H (.tup ds) (.ref a) := by unfold At; exact ⟨a, xs, rfl, h, hl⟩
theorem At.lst {a : Addr} (h : H a = some (.lst xs)) (hl : AtL H ds xs) : At H (.lst ds) (.ref a) := by unfold At; exact ⟨a, xs, rfl, h, hl⟩
theorem AtL.nil : AtL H [] [] := by unfold AtL; rfl
theorem AtL.cons (h : At H d x) (hl : AtL H ds xs) : AtL H (d :: ds) (x :: xs) := by unfold AtL; exact ⟨x, xs, rfl, h, hl⟩
theorem At.int_inv {i : Int} (h : At H (.int i) v) : v = .int i := by unfold At at h; exact h
theorem At.bl_inv {b : Bool} (h : At H (.bl b) v) : v = .bl b := by unfold At at h; exact h
theorem At.non_inv (h : At H .non v) : v = .non := by unfold At at h; exact h
theorem At.str_inv {y : Str} (h : At H (.str y) v) : v = .str y := by unfold At at h; exact h
theorem At.tup_inv (h : At H (.tup ds) v) : ∃ a xs, v = .ref a ∧ H a = some (.tup xs) ∧ AtL H ds xs := by unfold At at h; exact h
theorem At.lst_inv (h : At H (.lst ds) v) : ∃ a xs, v = .ref a ∧ H a = some (.lst xs) ∧ AtL H ds xs := by unfold At at h; exact h
theorem At.scr_inv {ns : List Int} (h : At H (.scr ns) v) : ∃ a, v = .ref a ∧ SqL KK.K H a (ns.map V.int) := by unfold At at h; exact h
theorem At.dct_inv {z t : Bool} {ks : List (List Key)} {vs : List D} (h : At H (.dct z t ks vs) v) : ∃ a xs, v = .ref a ∧ Z8 H a z t ks xs ∧ AtL H vs xs := by unfold At at h; exact h
theorem AtL.nil_inv (h : AtL H [] xs) : xs = [] := by unfold AtL at h; exact h
theorem AtL.cons_inv (h : AtL H (d :: ds) xs) : ∃ x r, xs = x :: r ∧ At H d x ∧ AtL H ds r := by unfold AtL at h; exact h
theorem AtL.length : ∀ {ds : List D} {xs : List V}, AtL H ds xs → xs.length = ds.length
  | [], _, h => by rw [h.nil_inv]; rfl
  | _ :: _, _, h => by
    obtain ⟨x, r, rfl, _, h2⟩ := h.cons_inv
    rw [List.length_cons, List.length_cons, AtL.length h2]
theorem AtL.get : ∀ {ds : List D} {xs : List V} {i : Nat} {d : D}, AtL H ds xs → ds[i]? = some d → ∃ x, xs[i]? = some x ∧ At H d x
  | [], _, _, _, _, e => by simp at e
  | _ :: _, _, i, _, h, e => by
    obtain ⟨x, r, rfl, h1, h2⟩ := h.cons_inv
    cases i with
    | zero =>
      simp at e
      subst e
      exact ⟨x, rfl, h1⟩
    | succ i =>
      obtain ⟨y, hy, ha⟩ := AtL.get (i := i) h2 (by simpa using e)
      exact ⟨y, by simpa using hy, ha⟩
theorem AtL.append : ∀ {ds es : List D} {xs ys : List V}, AtL H ds xs → AtL H es ys → AtL H (ds ++ es) (xs ++ ys)
  | [], _, _, _, h, k => by rw [h.nil_inv]; exact k
  | _ :: _, _, _, _, h, k => by
    obtain ⟨x, r, rfl, h1, h2⟩ := h.cons_inv
    exact .cons h1 (AtL.append h2 k)
theorem AtL.snoc (h : AtL H ds xs) (k : At H d v) : AtL H (ds ++ [d]) (xs ++ [v]) := h.append (.cons k .nil)
theorem AtL.take : ∀ (n : Nat) {ds : List D} {xs : List V}, AtL H ds xs → AtL H (ds.take n) (xs.take n)
  | 0, _, _, _ => by simpa using AtL.nil
  | n + 1, [], _, h => by rw [h.nil_inv]; simpa using AtL.nil
  | n + 1, _ :: _, _, h => by
    obtain ⟨x, r, rfl, h1, h2⟩ := h.cons_inv
    rw [List.take_succ_cons, List.take_succ_cons]
    exact .cons h1 (AtL.take n h2)
theorem AtL.drop : ∀ (n : Nat) {ds : List D} {xs : List V}, AtL H ds xs → AtL H (ds.drop n) (xs.drop n)
  | 0, _, _, h => h
  | n + 1, [], _, h => by rw [h.nil_inv]; simpa using AtL.nil
  | n + 1, _ :: _, _, h => by
    obtain ⟨x, r, rfl, h1, h2⟩ := h.cons_inv
    rw [List.drop_succ_cons, List.drop_succ_cons]
    exact AtL.drop n h2
theorem AtL.set : ∀ (n : Nat) {ds : List D} {xs : List V}, AtL H ds xs → At H d v → AtL H (ds.set n d) (xs.set n v)
  | _, [], _, h, _ => by rw [h.nil_inv]; simpa using AtL.nil
  | 0, _ :: _, _, h, k => by
    obtain ⟨x, r, rfl, h1, h2⟩ := h.cons_inv
    exact .cons k h2
  | n + 1, _ :: _, _, h, k => by
    obtain ⟨x, r, rfl, h1, h2⟩ := h.cons_inv
    exact .cons h1 (AtL.set n h2 k)
theorem AtL.rep (h : AtL H ds xs) : ∀ k : Nat, AtL H (List.replicate k ds).flatten (List.replicate k xs).flatten
  | 0 => .nil
  | k + 1 => by
    rw [List.replicate_succ, List.replicate_succ, List.flatten_cons, List.flatten_cons]
    exact h.append (AtL.rep h k)
theorem AtL.ints (ns : List Int) : AtL H (ns.map D.int) (ns.map V.int) := by
  induction ns with
  | nil => exact .nil
  | cons n r ih => exact .cons .int ih
end
noncomputable def tyN : D → String
  | .non => "NoneType" | .bl _ => "bool" | .int _ => "int" | .str _ => "str" | .tup _ => "tuple" | .lst _ => "list" | .scr _ => "list" | .dct _ _ _ _ => "dict"
noncomputable def Hid (F' : Hp) (p : Addr) (o : HO) : Prop := F' p = none ∨ ((∃ xs, o = .tup xs) ∧ F' p = some o)
noncomputable def Keep (F H F' H' : Hp) : Prop := ∀ p o, F p = none → H p = some o → Hid F' p o ∧ H' p = some o
set_option genInjectivity false in
set_option genSizeOf false in
set_option genCtorIdx false in
structure Gr (F H F' H' : Hp) : Prop where
  ff : yg F F'
  fh : yg F' H'
  kp : Keep F H F' H'
theorem Gr.refl {F H : Hp} (s : yg F H) : Gr F H F H := ⟨yg.refl _, s, fun _ _ a b => ⟨.inl a, b⟩⟩
theorem Gr.trans {F H F1 H1 F2 H2 : Hp} (a : Gr F H F1 H1) (b : Gr F1 H1 F2 H2) : Gr F H F2 H2 :=
  ⟨a.ff.trans b.ff, b.fh, fun p o e1 e2 => by
    obtain ⟨x, y⟩ := a.kp p o e1 e2
    rcases x with x | ⟨x1, x2⟩
    · exact b.kp p o x y
    · exact ⟨.inr ⟨x1, b.ff _ _ x2⟩, b.fh _ _ (b.ff _ _ x2)⟩⟩
theorem Gr.kl {F H F' H' : Hp} {p : Addr} {o : HO} (g : Gr F H F' H') (n : ∀ xs, o ≠ .tup xs) (e1 : F p = none) (e2 : H p = some o) : F' p = none ∧ H' p = some o := by
  obtain ⟨x, y⟩ := g.kp p o e1 e2
  rcases x with x | ⟨⟨xs, x1⟩, _⟩
  · exact ⟨x, y⟩
  · exact absurd x1 (n xs)
theorem Gr.alloc {F H : Hp} {p : Addr} (s : yg F H) (h : H p = none) (o : HO) : Gr F H (upd F p o) (upd H p o) := by
  have hF : F p = none := s.free h
  refine ⟨fun b u q => ?_, fun b u q => ?_, fun b u q r => ?_⟩
  · rw [zm (zi q hF)]; exact q
  · by_cases e : b = p
    · subst e; rw [zo] at q ⊢; exact q
    · rw [zm e] at q ⊢; exact s b u q
  · have e : b ≠ p := zi r h
    rw [zm e]; exact ⟨.inl (by rw [zm e]; exact q), r⟩
theorem Gr.hide {F H : Hp} {p : Addr} (s : yg F H) (h : H p = none) (o : HO) : Gr F H F (upd H p o) := by
  refine ⟨yg.refl _, fun b u q => ?_, fun b u q r => ?_⟩
  · rw [zm (zi (s b u q) h)]; exact s b u q
  · have e : b ≠ p := zi r h
    rw [zm e]; exact ⟨.inl q, r⟩
theorem Gr.show {F H : Hp} {p : Addr} {o : HO} {F0 H0 : Hp} (g : Gr F0 H0 F H) (h0 : H0 p = none) (hF : F p = none) (h : H p = some o) : Gr F0 H0 (upd F p o) H := by
  refine ⟨fun b u q => ?_, fun b u q => ?_, fun b u q r => ?_⟩
  · have := g.ff b u q
    rw [zm (zi this hF)]; exact this
  · by_cases e : b = p
    · subst e; rw [zo] at q; rw [← q]; exact h
    · rw [zm e] at q; exact g.fh b u q
  · have e : b ≠ p := zi r h0
    obtain ⟨x, y⟩ := g.kp b u q r
    refine ⟨?_, y⟩
    unfold Hid
    rw [zm e]
    exact x
noncomputable abbrev Ev := List (Option D)
noncomputable def VAt (F : Hp) (ρ : Ev) (σ : St) : Prop := ∀ (i : Nat) (d : D), ρ[i]? = some (some d) → ∃ v, σ[i]? = some (some v) ∧ At F d v
theorem VAt.mono {F F' : Hp} {ρ : Ev} {σ : St} (h : VAt F ρ σ) (s : yg F F') : VAt F' ρ σ := fun i d e => let ⟨v, e1, a⟩ := h i d e; ⟨v, e1, a.mono s⟩
noncomputable def RE (t : TE) (f : Ev → Option D) : Prop :=
  ∀ (σ : St) (ρ : Ev) (F H : Hp) (d : D) (Q : VK), yg F H → VAt F ρ σ → f ρ = some d → (∀ F' H' v, Gr F H F' H' → At F' d v → Q v H') → t σ H Q
noncomputable def RT (t : TT) (f : Ev → Option Bool) : Prop :=
  ∀ (σ : St) (ρ : Ev) (F H : Hp) (b : Bool) (Q : Bool → Hp → Prop), yg F H → VAt F ρ σ → f ρ = some b → (∀ F' H', Gr F H F' H' → Q b H') → t σ H Q
noncomputable def RA (t : TA) (f : Ev → Option (List D)) : Prop :=
  ∀ (σ : St) (ρ : Ev) (F H : Hp) (ds : List D) (Q : List V → Hp → Prop), yg F H → VAt F ρ σ → f ρ = some ds → (∀ F' H' vs, Gr F H F' H' → AtL F' ds vs → Q vs H') → t σ H Q
noncomputable def RF (t : TE) (f : Ev → Option (List D)) : Prop :=
  ∀ (σ : St) (ρ : Ev) (F H : Hp) (ds : List D) (Q : VK), yg F H → VAt F ρ σ → f ρ = some ds → (∀ F' H' p xs, Gr F H F' H' → H p = none → F' p = none → H' p = some (.lst xs) → AtL F' ds xs → Q (.ref p) H') → t σ H Q
noncomputable def ED (X : Cx) (e : Expr) (f : Ev → Option D) : Prop := ∃ t, PE X e t ∧ RE t f
noncomputable def TD (X : Cx) (e : Expr) (f : Ev → Option Bool) : Prop := ∃ t, PT X e t ∧ RT t f
noncomputable def WD (X : Cx) (e : Expr) (f : Ev → Option Bool) : Prop := ∃ t, PW X e t ∧ RT t f
noncomputable def AD (X : Cx) (es : List Expr) (f : Ev → Option (List D)) : Prop := ∃ t, PA X es t ∧ RA t f
noncomputable def FL (X : Cx) (e : Expr) (f : Ev → Option (List D)) : Prop := ∃ t, PE X e t ∧ RF t f
section
variable {X : Cx} {a b c : Expr} {pos : Pos}
noncomputable def wc (f : Ev → Option (List D)) : Ev → Option D := fun ρ => (f ρ).map .lst
theorem xt {f : Ev → Option (List D)} (h : FL X a f) : ED X a (wc f) := by
  obtain ⟨t, ht, r⟩ := h
  refine ⟨t, ht, fun σ ρ F H d Q s va e q => ?_⟩
  obtain ⟨ds, e1, rfl⟩ := Option.map_eq_some_iff.mp e
  refine r σ ρ F H ds Q s va e1 fun F' H' p xs g h0 hF hH hx => ?_
  have g2 := g.show h0 hF hH
  exact q _ _ _ g2 (At.lst zo (hx.mono (fun b u e => by rw [zm (zi e hF)]; exact e)))
noncomputable def zk (i : Nat) : Ev → Option D := fun ρ => (ρ[i]?).getD none
theorem zb (i : Nat) (h : PE X a (XU i)) : ED X a (zk i) := by
  refine ⟨_, h, fun σ ρ F H d Q s va e q => ?_⟩
  have e' : ρ[i]? = some (some d) := by
    unfold zk at e
    cases h : ρ[i]? with
    | none => rw [h] at e; cases e
    | some x => rw [h] at e; cases x with
      | none => cases e
      | some y => cases e; rfl
  obtain ⟨v, e1, a1⟩ := va i d e'
  exact ⟨v, e1, q _ _ _ (.refl s) a1⟩
noncomputable def eC (d : D) : Ev → Option D := fun _ => some d
theorem zh {i : Int} (h : PE X a (tC (.int i))) : ED X a (eC (.int i)) := ⟨_, h, fun _ _ _ _ _ _ s _ e q => by cases e; exact q _ _ _ (.refl s) .int⟩
theorem wx {i : Bool} (h : PE X a (tC (.bl i))) : ED X a (eC (.bl i)) := ⟨_, h, fun _ _ _ _ _ _ s _ e q => by cases e; exact q _ _ _ (.refl s) .bl⟩
theorem zt {i : Str} (h : PE X a (tC (.str i))) : ED X a (eC (.str i)) := ⟨_, h, fun _ _ _ _ _ _ s _ e q => by cases e; exact q _ _ _ (.refl s) .str⟩
theorem vn (h : PE X a (tC .non)) : ED X a (eC .non) := ⟨_, h, fun _ _ _ _ _ _ s _ e q => by cases e; exact q _ _ _ (.refl s) .non⟩
noncomputable def OpD (r : R2) (g : D → D → Option D) : Prop :=
  ∀ (F H : Hp) (x y : V) (d e z : D) (Q : VK), yg F H → At F d x → At F e y → g d e = some z → (∀ F' H' v, Gr F H F' H' → At F' z v → Q v H') → r x y H Q
noncomputable def zp (g : D → D → Option D) (f h : Ev → Option D) : Ev → Option D := fun ρ => (f ρ).bind fun x => (h ρ).bind fun y => g x y
theorem zat {r : R2} {g : D → D → Option D} {ta tb : TE} {f h : Ev → Option D} (hg : OpD r g) (ra : RE ta f) (rb : RE tb h) : RE (tOp r ta tb) (zp g f h) := by
  intro σ ρ F H z Q s va e q
  obtain ⟨x, e1, e⟩ := Option.bind_eq_some_iff.mp e
  obtain ⟨y, e2, e⟩ := Option.bind_eq_some_iff.mp e
  refine ra σ ρ F H x _ s va e1 fun F1 H1 v g1 a1 => ?_
  refine rb σ ρ F1 H1 y _ g1.fh (va.mono g1.ff) e2 fun F2 H2 u g2 a2 => ?_
  exact hg F2 H2 v u x y z Q g2.fh (a1.mono g2.ff) a2 e fun F3 H3 w g3 a3 => q F3 H3 w ((g1.trans g2).trans g3) a3
theorem Yb {op : Operator} {r : R2} {g : D → D → Option D} {f h : Ev → Option D} (ho : OpR X (binaryOp op) r) (hg : OpD r g) (ha : ED X a f) (hb : ED X b h) : ED X (.BinOp a op b pos) (zp g f h) :=
  let ⟨_, pa, ra⟩ := ha
  let ⟨_, pb, rb⟩ := hb
  ⟨_, Vv ho pa pb, zat hg ra rb⟩
theorem yJ {op : CmpOp} {r : R2} {g : D → D → Option D} {f h : Ev → Option D} (ho : OpR X (compareOp op) r) (hg : OpD r g) (hm : behindInMarks op b = false) (ha : ED X a f) (hb : ED X b h) : ED X (.Compare a [op] [b] pos) (zp g f h) :=
  let ⟨_, pa, ra⟩ := ha
  let ⟨_, pb, rb⟩ := hb
  ⟨_, W6 ho pa pb hm, zat hg ra rb⟩
noncomputable def asB : D → Option Bool
  | .bl b => some b
  | _ => none
theorem wV {d : D} {b : Bool} (h : asB d = some b) : d = .bl b := by
  cases d <;> first | (cases h; rfl) | cases h
noncomputable def tOf (f : Ev → Option D) : Ev → Option Bool := fun ρ => (f ρ).bind asB
theorem zcI {t : TE} {f : Ev → Option D} (r : RE t f) : RT (zbi t) (tOf f) := by
  intro σ ρ F H b Q s va e q
  obtain ⟨x, e1, e⟩ := Option.bind_eq_some_iff.mp e
  cases wV e
  exact r σ ρ F H _ _ s va e1 fun F1 H1 v g1 a1 => ⟨b, a1.bl_inv, q F1 H1 g1⟩
theorem zT {op : CmpOp} {r : R2} {g : D → D → Option D} {f h : Ev → Option D} (ho : OpR X (compareOp op) r) (hg : OpD r g) (hm : behindInMarks op b = false) (ha : ED X a f) (hb : ED X b h) : TD X (.Compare a [op] [b] pos) (tOf (zp g f h)) :=
  let ⟨_, pa, ra⟩ := ha
  let ⟨_, pb, rb⟩ := hb
  ⟨_, WF ho pa pb hm, zcI (zat hg ra rb)⟩
theorem xu {f : Ev → Option D} (ha : ED X a f) (he : ∀ whole, isTrue a X.env whole = (do let v ← whole; standAt a.pos; holding [v] (truthy v)) := by intro _; rfl) : TD X a (tOf f) :=
  let ⟨_, pa, ra⟩ := ha
  ⟨_, zaT pa he, zcI ra⟩
noncomputable def Yj (f g : Ev → Option Bool) : Ev → Option Bool := fun ρ => (f ρ).bind fun c => if c = true then g ρ else some false
noncomputable def YC (f g : Ev → Option Bool) : Ev → Option Bool := fun ρ => (f ρ).bind fun c => if c = true then some true else g ρ
noncomputable def y4 (f : Ev → Option Bool) : Ev → Option Bool := fun ρ => (f ρ).map (!·)
theorem zdl {f : Ev → Option Bool} (ha : TD X a f) : WD X (.BoolOp .And [a] pos) f := let ⟨_, pa, ra⟩ := ha; ⟨_, zbB pa, ra⟩
theorem Y6 {f : Ev → Option Bool} (ha : TD X a f) : WD X (.BoolOp .Or [a] pos) f := let ⟨_, pa, ra⟩ := ha; ⟨_, zaK pa, ra⟩
theorem Va {rest : List Expr} {f g : Ev → Option Bool} (ha : TD X a f) (hb : WD X (.BoolOp .Or (b :: rest) pos) g) : WD X (.BoolOp .Or (a :: b :: rest) pos) (YC f g) := by
  obtain ⟨ta, pa, ra⟩ := ha
  obtain ⟨tb, pb, rb⟩ := hb
  refine ⟨_, zb3 pa pb, fun σ ρ F H z Q s va e q => ?_⟩
  obtain ⟨x, e1, e⟩ := Option.bind_eq_some_iff.mp e
  refine ra σ ρ F H x _ s va e1 fun F1 H1 g1 => ?_
  cases x with
  | false =>
    rw [if_neg Bool.false_ne_true] at e ⊢
    exact rb σ ρ F1 H1 z Q g1.fh (va.mono g1.ff) e fun F2 H2 g2 => q F2 H2 (g1.trans g2)
  | true =>
    rw [if_pos rfl] at e ⊢
    cases e
    exact q F1 H1 g1
theorem zcB {f : Ev → Option Bool} (h : WD X a f) : TD X a f := let ⟨_, p, r⟩ := h; ⟨_, p.pt, r⟩
theorem vq {f : Ev → Option Bool} (ha : TD X a f) : TD X (.UnaryOp .Not a pos) (y4 f) := by
  obtain ⟨ta, pa, ra⟩ := ha
  refine ⟨_, zaV pa, fun σ ρ F H z Q s va e q => ?_⟩
  obtain ⟨x, e1, rfl⟩ := Option.map_eq_some_iff.mp e
  exact ra σ ρ F H x _ s va e1 fun F1 H1 g1 => q F1 H1 g1
noncomputable def YJ (f g : Ev → Option D) : Ev → Option D := fun ρ => ((f ρ).bind asB).bind fun c => if c = true then g ρ else some (.bl false)
noncomputable def eOr (f g : Ev → Option D) : Ev → Option D := fun ρ => ((f ρ).bind asB).bind fun c => if c = true then some (.bl true) else g ρ
noncomputable def X7 (f : Ev → Option D) : Ev → Option D := fun ρ => ((f ρ).bind asB).map fun c => .bl (!c)
theorem wQ {op} {f : Ev → Option D} (ha : ED X a f) : ED X (.BoolOp op [a] pos) f := let ⟨_, pa, ra⟩ := ha; ⟨_, zcl pa, ra⟩
theorem vk {rest : List Expr} {f g : Ev → Option D} (ha : ED X a f) (hb : ED X (.BoolOp .And (b :: rest) pos) g) : ED X (.BoolOp .And (a :: b :: rest) pos) (YJ f g) := by
  obtain ⟨ta, pa, ra⟩ := ha
  obtain ⟨tb, pb, rb⟩ := hb
  refine ⟨_, zcS pa pb, fun σ ρ F H z Q s va e q => ?_⟩
  obtain ⟨x, e1, e⟩ := Option.bind_eq_some_iff.mp e
  obtain ⟨y, e1, e2⟩ := Option.bind_eq_some_iff.mp e1
  cases wV e2
  refine ra σ ρ F H _ _ s va e1 fun F1 H1 v g1 a1 => ⟨x, a1.bl_inv, ?_⟩
  cases x with
  | true =>
    rw [if_pos rfl] at e ⊢
    exact rb σ ρ F1 H1 z Q g1.fh (va.mono g1.ff) e fun F2 H2 w g2 a2 => q F2 H2 w (g1.trans g2) a2
  | false =>
    rw [if_neg Bool.false_ne_true] at e ⊢
    cases e
    exact q F1 H1 _ g1 .bl
theorem zb5 {rest : List Expr} {f g : Ev → Option D} (ha : ED X a f) (hb : ED X (.BoolOp .Or (b :: rest) pos) g) : ED X (.BoolOp .Or (a :: b :: rest) pos) (eOr f g) := by
  obtain ⟨ta, pa, ra⟩ := ha
  obtain ⟨tb, pb, rb⟩ := hb
  refine ⟨_, zdB pa pb, fun σ ρ F H z Q s va e q => ?_⟩
  obtain ⟨x, e1, e⟩ := Option.bind_eq_some_iff.mp e
  obtain ⟨y, e1, e2⟩ := Option.bind_eq_some_iff.mp e1
  cases wV e2
  refine ra σ ρ F H _ _ s va e1 fun F1 H1 v g1 a1 => ⟨x, a1.bl_inv, ?_⟩
  cases x with
  | false =>
    rw [if_neg Bool.false_ne_true] at e ⊢
    exact rb σ ρ F1 H1 z Q g1.fh (va.mono g1.ff) e fun F2 H2 w g2 a2 => q F2 H2 w (g1.trans g2) a2
  | true =>
    rw [if_pos rfl] at e ⊢
    cases e
    exact q F1 H1 _ g1 .bl
theorem zaC {f : Ev → Option D} (ha : ED X a f) : ED X (.UnaryOp .Not a pos) (X7 f) := by
  obtain ⟨ta, pa, ra⟩ := ha
  refine ⟨_, zbT pa, fun σ ρ F H z Q s va e q => ?_⟩
  obtain ⟨x, e1, rfl⟩ := Option.map_eq_some_iff.mp e
  obtain ⟨y, e1, e2⟩ := Option.bind_eq_some_iff.mp e1
  cases wV e2
  exact ra σ ρ F H _ _ s va e1 fun F1 H1 v g1 a1 => ⟨x, a1.bl_inv, q F1 H1 _ g1 .bl⟩
noncomputable def eIf (t : Ev → Option Bool) (f g : Ev → Option D) : Ev → Option D := fun ρ => (t ρ).bind fun c => if c = true then f ρ else g ρ
noncomputable def eUn (g : D → Option D) (f : Ev → Option D) : Ev → Option D := fun ρ => (f ρ).bind g
noncomputable def XJ : D → Option D
  | .int i => some (.int (-i))
  | _ => none
theorem VD {f : Ev → Option D} (ha : ED X a f) : ED X (.UnaryOp .USub a pos) (eUn XJ f) := by
  obtain ⟨ta, pa, ra⟩ := ha
  refine ⟨_, zcA zaN pa, fun σ ρ F H z Q s va e q => ?_⟩
  obtain ⟨x, e1, e⟩ := Option.bind_eq_some_iff.mp e
  cases x <;> try cases e
  exact ra σ ρ F H _ _ s va e1 fun F1 H1 v g1 a1 => ⟨_, a1.int_inv, q F1 H1 _ g1 .int⟩
noncomputable def zy : Ev → Option (List D) := fun _ => some []
noncomputable def zc (f : Ev → Option D) (g : Ev → Option (List D)) : Ev → Option (List D) := fun ρ => (f ρ).bind fun d => (g ρ).map (d :: ·)
theorem zd : AD X [] zy := ⟨_, ya, fun _ _ _ _ _ _ s _ e q => by cases e; exact q _ _ _ (.refl s) .nil⟩
theorem za {e : Expr} {es : List Expr} {f : Ev → Option D} {g : Ev → Option (List D)} (ha : ED X e f) (hr : AD X es g) (hs : starEach (e :: es) X.env = (false, eval e X.env) :: starEach es X.env := by rfl) : AD X (e :: es) (zc f g) := by
  obtain ⟨ta, pa, ra⟩ := ha
  obtain ⟨tb, pb, rb⟩ := hr
  refine ⟨_, zl pa pb hs, fun σ ρ F H z Q s va e q => ?_⟩
  obtain ⟨x, e1, e⟩ := Option.bind_eq_some_iff.mp e
  obtain ⟨ds, e2, rfl⟩ := Option.map_eq_some_iff.mp e
  refine ra σ ρ F H x _ s va e1 fun F1 H1 v g1 a1 => ?_
  exact rb σ ρ F1 H1 ds _ g1.fh (va.mono g1.ff) e2 fun F2 H2 w g2 a2 => q F2 H2 _ (g1.trans g2) (.cons (a1.mono g2.ff) a2)
noncomputable def lim (n : Nat) : Bool := decide (n ≤ sizeLine)
noncomputable def yZ (g : Ev → Option (List D)) : Ev → Option D := fun ρ => (g ρ).bind fun ds => if lim ds.length = true then some (.tup ds) else none
noncomputable def yY (g : Ev → Option (List D)) : Ev → Option (List D) := fun ρ => (g ρ).bind fun ds => if lim ds.length = true then some ds else none
theorem zA {es : List Expr} {x1} {g : Ev → Option (List D)} (h : AD X es g) : ED X (.Tuple es x1 pos) (yZ g) := by
  obtain ⟨ta, pa, ra⟩ := h
  refine ⟨_, zch pa, fun σ ρ F H z Q s va e q => ?_⟩
  obtain ⟨ds, e1, e⟩ := Option.bind_eq_some_iff.mp e
  split at e <;> cases e
  rename_i hl
  refine ra σ ρ F H ds _ s va e1 fun F1 H1 vs g1 a1 => ⟨by rw [a1.length]; exact of_decide_eq_true hl, fun p hp => ?_⟩
  have g2 := Gr.alloc g1.fh hp (.tup vs)
  exact q _ _ _ (g1.trans g2) (.tup zo (a1.mono g2.ff))
theorem xx {es : List Expr} {g : Ev → Option (List D)} (h : AD X es g) : FL X (.List es pos) (yY g) := by
  obtain ⟨ta, pa, ra⟩ := h
  refine ⟨_, ZB pa, fun σ ρ F H z Q s va e q => ?_⟩
  obtain ⟨ds, e1, e⟩ := Option.bind_eq_some_iff.mp e
  split at e <;> cases e
  rename_i hl
  refine ra σ ρ F H _ _ s va e1 fun F1 H1 vs g1 a1 => ⟨by rw [a1.length]; exact of_decide_eq_true hl, fun p hp => ?_⟩
  have g2 := Gr.hide g1.fh hp (.lst vs)
  have h0 : H p = none := by
    cases e : H p with
    | none => rfl
    | some o =>
      cases e2 : F p with
      | none => rw [(g1.kp p o e2 e).2] at hp; cases hp
      | some u => rw [g1.fh _ _ (g1.ff _ _ e2)] at hp; cases hp
  exact q _ _ _ _ (g1.trans g2) h0 (g1.fh.free hp) zo a1
end
end
end Dl
namespace Dl
open PySem L2
variable [KK]
inductive Sl where
  | no | v (d : D) | o (ds : List D) | m (t : Bool) (ks : List (List Key)) (vs : List D)
  deriving Inhabited
noncomputable abbrev SE := List Sl
noncomputable def Sl.f : Sl → Option D
  | .v d => some d
  | _ => none
noncomputable def Sl.g : Sl → Option D
  | .v d => some d
  | .o ds => some (.lst ds)
  | .m t ks vs => some (.dct false t ks vs)
  | .no => none
noncomputable def Sl.isO : Sl → Bool
  | .o _ => true
  | .m _ _ _ => true
  | _ => false
noncomputable def visF (ρ : SE) : Ev := ρ.map Sl.f
noncomputable def visG (ρ : SE) : Ev := ρ.map Sl.g
noncomputable def Wc (F : Hp) (o : HO) : Sl → Prop
  | .o ds => ∃ xs, o = .lst xs ∧ AtL F ds xs
  | .m t ks ds => ∃ xs, zbQ o t ks xs ∧ AtL F ds xs
  | _ => False
theorem Wc.mono {F F' : Hp} {o : HO} {s : Sl} (h : Wc F o s) (k : yg F F') : Wc F' o s := by
  cases s with
  | no => exact h
  | v d => exact h
  | o ds => obtain ⟨xs, e, a⟩ := h; exact ⟨xs, e, a.mono k⟩
  | m t ks ds => obtain ⟨xs, e, a⟩ := h; exact ⟨xs, e, a.mono k⟩
theorem Wc.isO {F : Hp} {o : HO} {s : Sl} (h : Wc F o s) : s.isO = true := by
  cases s with
  | no => exact h.elim
  | v d => exact h.elim
  | o ds => rfl
  | m t ks ds => rfl
theorem Wc.ntup {F : Hp} {o : HO} {s : Sl} (h : Wc F o s) (xs : List V) : o ≠ .tup xs := by
  cases s with
  | no => exact h.elim
  | v d => exact h.elim
  | o ds => obtain ⟨ys, rfl, _⟩ := h; intro e; cases e
  | m t ks ds =>
    obtain ⟨ys, e, _⟩ := h
    unfold zbQ at e
    split at e
    · obtain ⟨kvs, rfl, _⟩ := e; intro e; cases e
    · obtain ⟨kvs, rfl, _⟩ := e; intro e; cases e
theorem Wc.at {F G : Hp} {o : HO} {s : Sl} {d : D} {p : Addr} (h : Wc F o s) (e : s.g = some d) (hp : G p = some o) (k : yg F G) : At G d (.ref p) := by
  cases s with
  | no => exact h.elim
  | v d => exact h.elim
  | o ds =>
    cases e
    obtain ⟨xs, rfl, a⟩ := h
    exact .lst hp (a.mono k)
  | m t ks ds =>
    cases e
    obtain ⟨xs, e, a⟩ := h
    unfold At
    exact ⟨p, xs, rfl, ⟨o, e, hp⟩, a.mono k⟩
set_option genInjectivity false in
set_option genSizeOf false in
set_option genCtorIdx false in
structure Rl (Fb Hb F H : Hp) (ρ : SE) (σ : St) : Prop where
  gr : Gr Fb Hb F H
  vals : ∀ (i : Nat) (d : D), ρ[i]? = some (.v d) → ∃ v, σ[i]? = some (some v) ∧ At F d v
  ows : ∀ (i : Nat) (s : Sl), ρ[i]? = some s → s.isO = true → ∃ p o, σ[i]? = some (some (.ref p)) ∧ Hb p = none ∧ F p = none ∧ H p = some o ∧ Wc F o s
  dis : ∀ (i j : Nat) (p : Addr) (s t : Sl), ρ[i]? = some s → ρ[j]? = some t → s.isO = true → t.isO = true → σ[i]? = some (some (.ref p)) → σ[j]? = some (some (.ref p)) → i = j
  len : ρ.length = σ.length
section
variable {Fb Hb F H F' H' : Hp} {ρ ρ' : SE} {σ σ' : St}
theorem Rl.owns (r : Rl Fb Hb F H ρ σ) (i : Nat) (ds : List D) (e : ρ[i]? = some (.o ds)) : ∃ p xs, σ[i]? = some (some (.ref p)) ∧ Hb p = none ∧ F p = none ∧ H p = some (.lst xs) ∧ AtL F ds xs := by
  obtain ⟨p, o, e1, e2, e3, e4, xs, rfl, a⟩ := r.ows i _ e rfl
  exact ⟨p, xs, e1, e2, e3, e4, a⟩
theorem Rl.grow (r : Rl Fb Hb F H ρ σ) (g : Gr F H F' H') : Rl Fb Hb F' H' ρ σ := by
  refine ⟨r.gr.trans g, fun i d e => ?_, fun i s e h => ?_, r.dis, r.len⟩
  · obtain ⟨v, e1, a⟩ := r.vals i d e
    exact ⟨v, e1, a.mono g.ff⟩
  · obtain ⟨p, o, e1, e2, e3, e4, a⟩ := r.ows i s e h
    obtain ⟨k1, k2⟩ := g.kl a.ntup e3 e4
    exact ⟨p, o, e1, e2, k1, k2, a.mono g.ff⟩
theorem Rl.visF (r : Rl Fb Hb F H ρ σ) : VAt F (visF ρ) σ := fun i d e => by
  unfold Dl.visF at e
  rw [List.getElem?_map] at e
  cases h : ρ[i]? with
  | none => rw [h] at e; cases e
  | some x =>
    rw [h] at e
    cases x with
    | no => cases e
    | v d' =>
      cases e
      exact r.vals i d h
    | o ds => cases e
    | m t ks ds => cases e
noncomputable def Own (ρ : SE) (σ : St) (p : Addr) : Prop := ∃ (i : Nat) (s : Sl), ρ[i]? = some s ∧ s.isO = true ∧ σ[i]? = some (some (.ref p))
open Classical in
noncomputable def gOf (ρ : SE) (σ : St) (F H : Hp) : Hp := fun p => if Own ρ σ p then H p else F p
open Classical in
noncomputable def fOf (ρ : SE) (σ : St) (G : Hp) : Hp := fun p => if Own ρ σ p then none else G p
theorem Rl.own (r : Rl Fb Hb F H ρ σ) {p : Addr} (h : Own ρ σ p) : Hb p = none ∧ F p = none ∧ ∃ o, H p = some o ∧ ∀ xs, o ≠ .tup xs := by
  obtain ⟨i, s, e1, e2, e3⟩ := h
  obtain ⟨q, o, e4, e5, e6, e7, a⟩ := r.ows i s e1 e2
  rw [e3] at e4
  cases e4
  exact ⟨e5, e6, o, e7, a.ntup⟩
theorem Rl.notown (r : Rl Fb Hb F H ρ σ) {q : Addr} (h : H q = none) (j : Nat) (s : Sl) (e1 : ρ[j]? = some s) (e2 : s.isO = true) : σ[j]? ≠ some (some (.ref q)) := fun e => by
  obtain ⟨p, o, f1, _, _, f4, _⟩ := r.ows j s e1 e2
  rw [e] at f1
  cases f1
  rw [h] at f4
  cases f4
theorem Rl.notbase (r : Rl Fb Hb F H ρ σ) {q : Addr} (h : H q = none) : Hb q = none := by
  cases z : Hb q with
  | none => rfl
  | some o =>
    cases z2 : Fb q with
    | none => rw [(r.gr.kp q o z2 z).2] at h; cases h
    | some u => rw [r.gr.fh _ _ (r.gr.ff _ _ z2)] at h; cases h
theorem Rl.fg (r : Rl Fb Hb F H ρ σ) : yg F (gOf ρ σ F H) := fun p o e => by
  unfold gOf
  split
  · exact r.gr.fh p o e
  · exact e
theorem Rl.gh (r : Rl Fb Hb F H ρ σ) : yg (gOf ρ σ F H) H := fun p o e => by
  unfold gOf at e
  split at e
  · exact e
  · exact r.gr.fh p o e
theorem Rl.visG (r : Rl Fb Hb F H ρ σ) : VAt (gOf ρ σ F H) (visG ρ) σ := fun i d e => by
  unfold Dl.visG at e
  rw [List.getElem?_map] at e
  cases h : ρ[i]? with
  | none => rw [h] at e; cases e
  | some x =>
    rw [h] at e
    have e : x.g = some d := Option.some.inj e
    have own : x.isO = true → ∃ v, σ[i]? = some (some v) ∧ At (gOf ρ σ F H) d v := fun hx => by
      obtain ⟨p, o, e1, e2, e3, e4, a⟩ := r.ows i x h hx
      refine ⟨_, e1, a.at e ?_ r.fg⟩
      unfold gOf
      rw [if_pos ⟨i, x, h, hx, e1⟩]
      exact e4
    cases x with
    | no => cases e
    | v d' =>
      cases e
      obtain ⟨v, e1, a⟩ := r.vals i d h
      exact ⟨v, e1, a.mono r.fg⟩
    | o ds => exact own rfl
    | m t ks ds => exact own rfl
theorem Rl.back {G' : Hp} (r : Rl Fb Hb F H ρ σ) (g : Gr (gOf ρ σ F H) H G' H') : Gr F H (fOf ρ σ G') H' ∧ ∀ q xs, G' q = some (.tup xs) → fOf ρ σ G' q = some (.tup xs) := by
  refine ⟨⟨fun p o e => ?_, fun p o e => ?_, fun p o e1 e2 => ?_⟩, fun q xs e => ?_⟩
  · unfold fOf
    rw [if_neg (fun h => by rw [(r.own h).2.1] at e; cases e)]
    exact g.ff p o (r.fg p o e)
  · unfold fOf at e
    split at e
    · cases e
    · exact g.fh p o e
  · by_cases h : Own ρ σ p
    · refine ⟨.inl (by unfold fOf; rw [if_pos h]), g.fh p o (g.ff p o ?_)⟩
      unfold gOf
      rw [if_pos h]
      exact e2
    · obtain ⟨x, y⟩ := g.kp p o (by unfold gOf; rw [if_neg h]; exact e1) e2
      refine ⟨?_, y⟩
      unfold Hid fOf
      rw [if_neg h]
      exact x
  · unfold fOf
    rw [if_neg (fun h => ?_)]
    · exact e
    · obtain ⟨_, _, o, e2, n⟩ := r.own h
      have : G' q = some o := g.ff q _ (by unfold gOf; rw [if_pos h]; exact e2)
      rw [this] at e
      cases e
      exact n xs rfl
theorem Rl.out {G' : Hp} (r : Rl Fb Hb F H ρ σ) (g : Gr (gOf ρ σ F H) H G' H') : Gr Fb Hb G' H' := by
  refine ⟨fun p o e => g.ff p o (r.fg p o (r.gr.ff p o e)), g.fh, fun p o e1 e2 => ?_⟩
  obtain ⟨k1, k2⟩ := r.gr.kp p o e1 e2
  have e3 : gOf ρ σ F H p = F p := by
    unfold gOf
    rw [if_neg (fun h => by rw [(r.own h).1] at e2; cases e2)]
  rcases k1 with k1 | ⟨k1, k3⟩
  · exact g.kp p o (by rw [e3]; exact k1) k2
  · have := g.ff p o (by rw [e3]; exact k3)
    exact ⟨.inr ⟨k1, this⟩, g.fh _ _ this⟩
theorem Rl.set (r : Rl Fb Hb F H ρ σ) {i : Nat} {d : D} {v : V} (a : At F d v) : Rl Fb Hb F H (ρ.set i (.v d)) (σ.set i (some v)) := by
  have nj : ∀ {j : Nat} {s : Sl}, (ρ.set i (.v d))[j]? = some s → s.isO = true → i ≠ j := fun {j s} h ho e => by
    subst e
    rw [List.getElem?_set] at h
    simp only [if_true] at h
    split at h <;> cases h
    cases ho
  refine ⟨r.gr, fun j e h => ?_, fun j s h ho => ?_, fun j k p s t h1 h2 o1 o2 h3 h4 => ?_, by simp [r.len]⟩
  · by_cases hj : i = j
    · subst hj
      rw [List.getElem?_set] at h
      simp only [if_true] at h
      split at h
      · rename_i hl
        cases h
        refine ⟨v, ?_, a⟩
        rw [List.getElem?_set]
        simp [← r.len, hl]
      · cases h
    · rw [List.getElem?_set_ne hj] at h ⊢
      exact r.vals j e h
  · have hj := nj h ho
    rw [List.getElem?_set_ne hj] at h ⊢
    exact r.ows j s h ho
  · have a1 := nj h1 o1
    have a2 := nj h2 o2
    rw [List.getElem?_set_ne a1] at h1 h3
    rw [List.getElem?_set_ne a2] at h2 h4
    exact r.dis j k p s t h1 h2 o1 o2 h3 h4
theorem Rl.setW (r : Rl Fb Hb F H ρ σ) {i : Nat} {w : Sl} {p : Addr} {o : HO} (h0 : Hb p = none) (hF : F p = none) (hH : H p = some o) (a : Wc F o w)
    (nw : ∀ (j : Nat) (s : Sl), ρ[j]? = some s → s.isO = true → σ[j]? ≠ some (some (.ref p))) : Rl Fb Hb F H (ρ.set i w) (σ.set i (some (.ref p))) := by
  have at_i : ∀ {s : Sl}, (ρ.set i w)[i]? = some s → i < ρ.length ∧ s = w := fun {s} h => by
    rw [List.getElem?_set] at h
    simp only [if_true] at h
    split at h
    · rename_i hl
      cases h
      exact ⟨hl, rfl⟩
    · cases h
  have st_i : i < ρ.length → (σ.set i (some (V.ref p)))[i]? = some (some (.ref p)) := fun hl => by
    rw [List.getElem?_set]
    simp [← r.len, hl]
  refine ⟨r.gr, fun j e h => ?_, fun j s h ho => ?_, fun j k q s t h1 h2 o1 o2 h3 h4 => ?_, by simp [r.len]⟩
  · by_cases hj : i = j
    · subst hj
      have e := (at_i h).2
      have := a.isO
      rw [← e] at this
      cases this
    · rw [List.getElem?_set_ne hj] at h ⊢
      exact r.vals j e h
  · by_cases hj : i = j
    · subst hj
      obtain ⟨hl, e⟩ := at_i h
      subst e
      exact ⟨p, o, st_i hl, h0, hF, hH, a⟩
    · rw [List.getElem?_set_ne hj] at h ⊢
      exact r.ows j s h ho
  · by_cases hj : i = j
    · subst hj
      by_cases hk : i = k
      · exact hk
      · obtain ⟨hl, _⟩ := at_i h1
        rw [st_i hl] at h3
        cases h3
        rw [List.getElem?_set_ne hk] at h2 h4
        exact absurd h4 (nw k t h2 o2)
    · by_cases hk : i = k
      · subst hk
        obtain ⟨hl, _⟩ := at_i h2
        rw [st_i hl] at h4
        cases h4
        rw [List.getElem?_set_ne hj] at h1 h3
        exact absurd h3 (nw j s h1 o1)
      · rw [List.getElem?_set_ne hj] at h1 h3
        rw [List.getElem?_set_ne hk] at h2 h4
        exact r.dis j k q s t h1 h2 o1 o2 h3 h4
theorem Rl.setO (r : Rl Fb Hb F H ρ σ) {i : Nat} {ds : List D} {p : Addr} {xs : List V} (h0 : Hb p = none) (hF : F p = none) (hH : H p = some (.lst xs)) (a : AtL F ds xs)
    (nw : ∀ (j : Nat) (s : Sl), ρ[j]? = some s → s.isO = true → σ[j]? ≠ some (some (.ref p))) : Rl Fb Hb F H (ρ.set i (.o ds)) (σ.set i (some (.ref p))) := r.setW h0 hF hH ⟨xs, rfl, a⟩ nw
theorem Rl.mutW (r : Rl Fb Hb F H ρ σ) {i : Nat} {w w' : Sl} {p : Addr} {o' : HO} (e : ρ[i]? = some w) (hw : w.isO = true) (e1 : σ[i]? = some (some (.ref p))) (a : Wc F o' w') : Rl Fb Hb F (upd H p o') (ρ.set i w') σ := by
  obtain ⟨q, o, e2, h0, hF, hH, _⟩ := r.ows i w e hw
  rw [e1] at e2
  cases e2
  have hi : i < ρ.length := (List.getElem?_eq_some_iff.mp e).1
  have neP : ∀ {j : Nat} {s : Sl} {q : Addr}, i ≠ j → ρ[j]? = some s → s.isO = true → σ[j]? = some (some (.ref q)) → q ≠ p := fun {j s q} hne h1 ho h2 z => by
    subst z
    exact hne (r.dis i j q w s e h1 hw ho e1 h2)
  refine ⟨⟨r.gr.ff, fun b o z => ?_, fun b o z1 z2 => ?_⟩, fun j d h => ?_, fun j s h ho => ?_, fun j k q s t h1 h2 o1 o2 h3 h4 => ?_, by simp [r.len]⟩
  · rw [zm (zi z hF)]
    exact r.gr.fh b o z
  · rw [zm (zi z2 h0)]
    exact r.gr.kp b o z1 z2
  · by_cases hj : i = j
    · subst hj
      rw [List.getElem?_set_self hi] at h
      cases h
      exact (Bool.noConfusion a.isO)
    · rw [List.getElem?_set_ne hj] at h
      exact r.vals j d h
  · by_cases hj : i = j
    · subst hj
      rw [List.getElem?_set_self hi] at h
      cases h
      exact ⟨p, o', e1, h0, hF, zo, a⟩
    · rw [List.getElem?_set_ne hj] at h
      obtain ⟨q, z, f1, f2, f3, f4, f5⟩ := r.ows j s h ho
      refine ⟨q, z, f1, f2, f3, ?_, f5⟩
      rw [zm (neP hj h ho f1)]
      exact f4
  · have back : ∀ {j : Nat} {s : Sl}, (ρ.set i w')[j]? = some s → s.isO = true → ∃ s', ρ[j]? = some s' ∧ s'.isO = true := fun {j s} h ho => by
      by_cases hj : i = j
      · subst hj; exact ⟨w, e, hw⟩
      · rw [List.getElem?_set_ne hj] at h; exact ⟨s, h, ho⟩
    obtain ⟨f1, g1, g1'⟩ := back h1 o1
    obtain ⟨f2, g2, g2'⟩ := back h2 o2
    exact r.dis j k q f1 f2 g1 g2 g1' g2' h3 h4
theorem Rl.mutate (r : Rl Fb Hb F H ρ σ) {i : Nat} {ds es : List D} {p : Addr} {ys : List V} (e : ρ[i]? = some (.o ds)) (e1 : σ[i]? = some (some (.ref p))) (a : AtL F es ys) : Rl Fb Hb F (upd H p (.lst ys)) (ρ.set i (.o es)) σ :=
  r.mutW e rfl e1 ⟨ys, rfl, a⟩
noncomputable def Sl.fz : Sl → Sl
  | .o ds => .v (.lst ds)
  | .m t ks vs => .v (.dct false t ks vs)
  | s => s
noncomputable def zc4 (ρ : SE) (i : Nat) : SE := ρ.set i ((ρ[i]?).getD .no).fz
theorem Rl.freeze (r : Rl Fb Hb F H ρ σ) (i : Nat) : ∃ F', Rl Fb Hb F' H (zc4 ρ i) σ := by
  unfold zc4
  cases h : ρ[i]? with
  | none =>
    refine ⟨F, ?_⟩
    rw [List.set_eq_of_length_le (List.getElem?_eq_none_iff.mp h)]
    exact r
  | some s =>
    have hi : i < ρ.length := (List.getElem?_eq_some_iff.mp h).1
    have same : s.fz = s → ∃ F', Rl Fb Hb F' H (ρ.set i ((some s).getD .no).fz) σ := fun e => by
      refine ⟨F, ?_⟩
      show Rl Fb Hb F H (ρ.set i s.fz) σ
      rw [e]
      have : ρ.set i s = ρ := by
        apply List.ext_getElem?
        intro j
        by_cases hj : i = j
        · subst hj; rw [List.getElem?_set_self hi, h]
        · rw [List.getElem?_set_ne hj]
      rw [this]
      exact r
    have give : ∀ d, s.isO = true → s.g = some d → s.fz = .v d → ∃ F', Rl Fb Hb F' H (ρ.set i ((some s).getD .no).fz) σ := fun d ho hg hz => by
      obtain ⟨p, o, e1, e2, e3, e4, a⟩ := r.ows i s h ho
      have sF : yg F (upd F p o) := fun b u e => by rw [zm (zi e e3)]; exact e
      show ∃ F', Rl Fb Hb F' H (ρ.set i s.fz) σ
      rw [hz]
      have nj : ∀ {j : Nat} {t : Sl}, (ρ.set i (.v d))[j]? = some t → t.isO = true → i ≠ j := fun {j t} h ht e => by
        subst e
        rw [List.getElem?_set_self hi] at h
        cases h
        cases ht
      refine ⟨upd F p o, r.gr.show e2 e3 e4, fun j e z => ?_, fun j t z ht => ?_, fun j k q t u h1 h2 o1 o2 h3 h4 => ?_, by simp [r.len]⟩
      · by_cases hj : i = j
        · subst hj
          rw [List.getElem?_set_self hi] at z
          cases z
          exact ⟨_, e1, a.at hg zo sF⟩
        · rw [List.getElem?_set_ne hj] at z
          obtain ⟨v, f1, f2⟩ := r.vals j e z
          exact ⟨v, f1, f2.mono sF⟩
      · have hj := nj z ht
        rw [List.getElem?_set_ne hj] at z
        obtain ⟨q, y, f1, f2, f3, f4, f5⟩ := r.ows j t z ht
        refine ⟨q, y, f1, f2, ?_, f4, f5.mono sF⟩
        rw [zm (fun w => hj (r.dis i j p s t h z ho ht e1 (by rw [← w]; exact f1)))]
        exact f3
      · have a1 := nj h1 o1
        have a2 := nj h2 o2
        rw [List.getElem?_set_ne a1] at h1
        rw [List.getElem?_set_ne a2] at h2
        exact r.dis j k q t u h1 h2 o1 o2 h3 h4
    cases s with
    | no => exact same rfl
    | v d => exact same rfl
    | o ds => exact give _ rfl rfl rfl
    | m t ks ds => exact give _ rfl rfl rfl
end
inductive Ctl where
  | nx (ρ : SE) | rt (d : D) | bk (ρ : SE) | ct (ρ : SE) | no
  deriving Inhabited
noncomputable def SOk (Fb Hb : Hp) (E : ZI) : Ctl → Prop
  | .nx ρ => ∀ F H σ, Rl Fb Hb F H ρ σ → E.nx σ H
  | .bk ρ => ∀ F H σ, Rl Fb Hb F H ρ σ → E.bk σ H
  | .ct ρ => ∀ F H σ, Rl Fb Hb F H ρ σ → E.ct σ H
  | .rt d => ∀ F H v, Gr Fb Hb F H → At F d v → E.rt v H
  | .no => False
noncomputable def RS (t : TS) (g : SE → Ctl) : Prop := ∀ (Fb Hb F H : Hp) (ρ : SE) (σ : St) (E : ZI), Rl Fb Hb F H ρ σ → SOk Fb Hb E (g ρ) → t E σ H
noncomputable def SD (X : Cx) (st : Stmt) (g : SE → Ctl) : Prop := ∃ t, PS X st t ∧ RS t g
noncomputable def SDs (X : Cx) (sts : List Stmt) (g : SE → Ctl) : Prop := ∃ t, PSs X sts t ∧ RS t g
section
variable {X : Cx} {st : Stmt} {sts : List Stmt} {a b c e : Expr} {pos pos' : Pos}
noncomputable def zU : SE → Ctl := .nx
noncomputable def yb (g h : SE → Ctl) : SE → Ctl := fun ρ => match g ρ with
  | .nx ρ' => h ρ'
  | .rt d => .rt d
  | .bk ρ' => .bk ρ'
  | .ct ρ' => .ct ρ'
  | .no => .no
theorem zB : SDs X [] zU := ⟨_, WV, fun _ _ F H ρ σ E r h => h F H σ r⟩
theorem zg {g h : SE → Ctl} (h1 : SD X st g) (h2 : SDs X sts h) : SDs X (st :: sts) (yb g h) := by
  obtain ⟨t, p, r⟩ := h1
  obtain ⟨u, p2, r2⟩ := h2
  refine ⟨_, xL p p2, fun Fb Hb F H ρ σ E rl k => ?_⟩
  refine r Fb Hb F H ρ σ { E with nx := u E } rl ?_
  unfold yb at k
  cases e : g ρ with
  | nx ρ' =>
    rw [e] at k
    exact fun F' H' σ' rl' => r2 Fb Hb F' H' ρ' σ' E rl' k
  | rt d => rw [e] at k; exact k
  | bk d => rw [e] at k; exact k
  | ct d => rw [e] at k; exact k
  | no => rw [e] at k; exact k
theorem zj {g : SE → Ctl} (h1 : SD X st g) : SDs X [st] g := let ⟨_, p, r⟩ := h1; ⟨_, v4 p, r⟩
noncomputable def sFz (i : Nat) (g : SE → Ctl) : SE → Ctl := fun ρ => g (zc4 ρ i)
theorem Xo {g : SE → Ctl} (i : Nat) (h : SDs X sts g) : SDs X sts (sFz i g) := by
  obtain ⟨t, p, r⟩ := h
  refine ⟨_, p, fun Fb Hb F H ρ σ E rl k => ?_⟩
  obtain ⟨F', rl'⟩ := rl.freeze i
  exact r Fb Hb F' H _ σ E rl' k
noncomputable def sNo : SE → Ctl := fun _ => .no
theorem zae : SD X st sNo := ⟨_, zac, fun _ _ _ _ _ _ _ _ h => h.elim⟩
noncomputable def yD (f : Ev → Option D) : SE → Ctl := fun ρ => match f (visG ρ) with
  | some d => .rt d
  | none => .no
theorem zx {f : Ev → Option D} (h : ED X e f) : SD X (.Return (some e) pos) (yD f) := by
  obtain ⟨t, p, r⟩ := h
  refine ⟨_, Xn p, fun Fb Hb F H ρ σ E rl k => ?_⟩
  unfold yD at k
  cases h : f (visG ρ) with
  | none => rw [h] at k; exact k.elim
  | some d =>
    rw [h] at k
    exact r σ _ _ H d _ rl.gh rl.visG h fun F' H' v g av => k F' H' v (rl.out g) av
noncomputable def Yh : SE → Ctl := fun _ => .rt .non
noncomputable def vEv (m : Bool) (f : Ev → Option D) (ρ : SE) : Option D := if m = true then (f (visG ρ)).bind fun d => if noL d = true then some d else none else f (visF ρ)
theorem RE.at {Fb Hb F H : Hp} {ρ : SE} {σ : St} {m : Bool} {f : Ev → Option D} {t : TE} {d : D} {Q : VK} (r : RE t f) (rl : Rl Fb Hb F H ρ σ) (h : vEv m f ρ = some d) (q : ∀ F' H' v, Gr F H F' H' → At F' d v → Q v H') : t σ H Q := by
  unfold vEv at h
  cases m with
  | false =>
    rw [if_neg Bool.false_ne_true] at h
    exact r σ _ _ H d _ rl.gr.fh rl.visF h q
  | true =>
    rw [if_pos rfl] at h
    obtain ⟨d', h1, h2⟩ := Option.bind_eq_some_iff.mp h
    split at h2 <;> cases h2
    rename_i hn
    refine r σ _ _ H d _ rl.gh rl.visG h1 fun F' H' v g av => ?_
    obtain ⟨g2, fl⟩ := rl.back g
    exact q _ H' v g2 (av.flat fl hn)
noncomputable def x6 (m : Bool) (i : Nat) (f : Ev → Option D) : SE → Ctl := fun ρ => match vEv m f ρ with
  | some d => .nx (ρ.set i (.v d))
  | none => .no
theorem ye {m : Bool} {i : Nat} {x : Str} {f : Ev → Option D} (hN : X.N.Nodup) (hi : X.N[i]? = some x) (hx : Loc X.env.scope x) (he : ED X e f) (hs : swapsWith e (some (.Name x pos')) pos.line X.env = pure false := by rfl)
    (hf : X.fn x = true ∨ X.env.scope.names.lookup x = some .local := by first | exact .inl rfl | exact .inr rfl | assumption) : SD X (.Assign [.Name x pos'] e pos) (x6 m i f) := by
  obtain ⟨t, p, r⟩ := he
  refine ⟨_, Yt hN hi hx p hs hf, fun Fb Hb F H ρ σ E rl k => ?_⟩
  unfold x6 at k
  cases h : vEv m f ρ with
  | none => rw [h] at k; exact k.elim
  | some d =>
    rw [h] at k
    exact r.at rl h fun F' H' v g av => k F' H' _ ((rl.grow g).set av)
noncomputable def Wa (f : Ev → Option D) : SE → Ctl := fun ρ => match f (visG ρ) with
  | some _ => .nx ρ
  | none => .no
theorem za3 {f : Ev → Option D} (he : ED X e f) (hs : swapsWith e none pos.line X.env = pure false := by rfl) : SD X (.Expr e pos) (Wa f) := by
  obtain ⟨t, p, r⟩ := he
  refine ⟨_, YW p hs, fun Fb Hb F H ρ σ E rl k => ?_⟩
  unfold Wa at k
  cases h : f (visG ρ) with
  | none => rw [h] at k; exact k.elim
  | some d =>
    rw [h] at k
    exact r σ _ _ H d _ rl.gh rl.visG h fun F' H' v g av => k _ H' σ (rl.grow (rl.back g).1)
noncomputable def Y1 (i : Nat) (f : Ev → Option (List D)) : SE → Ctl := fun ρ => match f (visF ρ) with
  | some ds => .nx (ρ.set i (.o ds))
  | none => .no
theorem XC {i : Nat} {x : Str} {f : Ev → Option (List D)} (hN : X.N.Nodup) (hi : X.N[i]? = some x) (hx : Loc X.env.scope x) (he : FL X e f) (hs : swapsWith e (some (.Name x pos')) pos.line X.env = pure false := by rfl)
    (hf : X.fn x = true ∨ X.env.scope.names.lookup x = some .local := by first | exact .inl rfl | exact .inr rfl | assumption) : SD X (.Assign [.Name x pos'] e pos) (Y1 i f) := by
  obtain ⟨t, p, r⟩ := he
  refine ⟨_, Yt hN hi hx p hs hf, fun Fb Hb F H ρ σ E rl k => ?_⟩
  unfold Y1 at k
  cases h : f (visF ρ) with
  | none => rw [h] at k; exact k.elim
  | some ds =>
    rw [h] at k
    refine r σ _ _ H ds _ rl.gr.fh rl.visF h fun F' H' q xs g h0 hF hH hx => ?_
    have rl2 := rl.grow g
    exact k F' H' _ (rl2.setO (rl.notbase h0) hF hH hx (rl.notown h0))
noncomputable def sIf (t : Ev → Option Bool) (g h : SE → Ctl) : SE → Ctl := fun ρ => match t (visG ρ) with
  | some true => g ρ
  | some false => h ρ
  | none => .no
theorem ym {as bs : List Stmt} {t : Ev → Option Bool} {g h : SE → Ctl} (hc : TD X c t) (ha : SDs X as g) (hb : SDs X bs h) : SD X (.If c as bs pos) (sIf t g h) := by
  obtain ⟨tc, pc, rc⟩ := hc
  obtain ⟨ta, pa, ra⟩ := ha
  obtain ⟨tb, pb, rb⟩ := hb
  refine ⟨_, zbq pc pa pb, fun Fb Hb F H ρ σ E rl k => ?_⟩
  unfold sIf at k
  cases h : t (visG ρ) with
  | none => rw [h] at k; exact k.elim
  | some d =>
    rw [h] at k
    refine rc σ _ _ H d _ rl.gh rl.visG h fun F' H' g => ?_
    have rl2 := rl.grow (rl.back g).1
    cases d with
    | true => rw [if_pos rfl]; exact ra Fb Hb _ H' ρ σ E rl2 k
    | false => rw [if_neg Bool.false_ne_true]; exact rb Fb Hb _ H' ρ σ E rl2 k
noncomputable def RG (t : TG) (b : D → SE → Option SE) : Prop := ∀ (Fb Hb F H : Hp) (ρ ρ' : SE) (σ : St) (d : D) (v : V) (Q : St → Hp → Prop), Rl Fb Hb F H ρ σ → At F d v → b d ρ = some ρ' → (∀ σ', Rl Fb Hb F H ρ' σ' → Q σ' H) → t v σ H Q
noncomputable def RGs (t : TGs) (b : List D → SE → Option SE) : Prop := ∀ (Fb Hb F H : Hp) (ρ ρ' : SE) (σ : St) (ds : List D) (vs : List V) (Q : St → Hp → Prop), Rl Fb Hb F H ρ σ → AtL F ds vs → b ds ρ = some ρ' → (∀ σ', Rl Fb Hb F H ρ' σ' → Q σ' H) → t vs σ H Q
noncomputable def BD (X : Cx) (tg : Expr) (b : D → SE → Option SE) : Prop := ∃ t, PG X tg t ∧ RG t b
noncomputable def BDs (X : Cx) (tgs : List Expr) (b : List D → SE → Option SE) : Prop := ∃ t, PGs X tgs t ∧ RGs t b
noncomputable def xm (i : Nat) : D → SE → Option SE := fun d ρ => some (ρ.set i (.v d))
theorem xl {i : Nat} (h : PG X a (Zm i)) : BD X a (xm i) := by
  refine ⟨_, h, fun Fb Hb F H ρ ρ' σ d v Q rl av e q => ?_⟩
  cases e
  exact q _ (rl.set av)
noncomputable def Xy : List D → SE → Option SE
  | [], ρ => some ρ
  | _, _ => none
noncomputable def wf (b : D → SE → Option SE) (c : List D → SE → Option SE) : List D → SE → Option SE
  | d :: ds, ρ => (b d ρ).bind (c ds)
  | [], _ => none
theorem ZQ : BDs X [] Xy := by
  refine ⟨_, za0, fun Fb Hb F H ρ ρ' σ ds vs Q rl av e q => ?_⟩
  cases ds with
  | nil => cases e; exact ⟨av.nil_inv, q _ rl⟩
  | cons _ _ => cases e
theorem wn {es : List Expr} {b : D → SE → Option SE} {c : List D → SE → Option SE} (h1 : BD X e b) (h2 : BDs X es c)
    (hs : (assignEach (e :: es) X.env).map (·.2) = assign e X.env :: (assignEach es X.env).map (·.2) := by rfl) : BDs X (e :: es) (wf b c) := by
  obtain ⟨t, p, r⟩ := h1
  obtain ⟨u, p2, r2⟩ := h2
  refine ⟨_, zah p p2 hs, fun Fb Hb F H ρ ρ' σ ds vs Q rl av e q => ?_⟩
  cases ds with
  | nil => cases e
  | cons d ds =>
    obtain ⟨x, xs, rfl, a1, a2⟩ := av.cons_inv
    obtain ⟨ρ1, e1, e2⟩ := Option.bind_eq_some_iff.mp e
    exact ⟨x, xs, rfl, r Fb Hb F H ρ ρ1 σ d x _ rl a1 e1 fun σ1 rl1 => r2 Fb Hb F H ρ1 ρ' σ1 ds xs Q rl1 a2 e2 q⟩
noncomputable def Z3 (n : Nat) (c : List D → SE → Option SE) : D → SE → Option SE
  | .tup ds, ρ => if ds.length = n then c ds ρ else none
  | _, _ => none
theorem W7 {es : List Expr} {k : Nat} {n : Nat} {c : List D → SE → Option SE} (hc : X.calm = true) (h : BDs X es c)
    (hn : (assignEach es X.env).length = n := by rfl) (hst : (assignEach es X.env).findIdx? (·.1) = none := by rfl) : BD X (.Tuple es k pos) (Z3 n c) := by
  obtain ⟨t, p, r⟩ := h
  refine ⟨_, zcT hc p hn hst, fun Fb Hb F H ρ ρ' σ d v Q rl av e q => ?_⟩
  cases d with
  | tup ds =>
    unfold Z3 at e
    dsimp only at e
    split at e
    · rename_i hl
      obtain ⟨a, xs, rfl, hx, al⟩ := av.tup_inv
      exact ⟨a, xs, rfl, SqT.of (rl.gr.fh _ _ hx), by rw [al.length]; exact hl, r Fb Hb F H ρ ρ' σ ds xs Q rl al e q⟩
    · cases e
  | _ => cases e
noncomputable def X3 (m : Bool) (f : Ev → Option D) (b : D → SE → Option SE) : SE → Ctl := fun ρ => match (vEv m f ρ).bind fun d => b d ρ with
  | some ρ' => .nx ρ'
  | none => .no
theorem zcM {m : Bool} {tg : Expr} {f : Ev → Option D} {b : D → SE → Option SE} (he : ED X e f) (hg : BD X tg b) (hs : swapsWithSole [tg] e pos.line X.env = pure false := by rfl) (hw : swappedStores [tg] e X.env = pure none := by rfl)
    (h1 : (assignEach [tg] X.env).map (·.2) = [assign tg X.env] := by rfl) : SD X (.Assign [tg] e pos) (X3 m f b) := by
  obtain ⟨t, p, r⟩ := he
  obtain ⟨u, p2, r2⟩ := hg
  refine ⟨_, zaJ p p2 hs hw h1, fun Fb Hb F H ρ σ E rl k => ?_⟩
  unfold X3 at k
  cases h : (vEv m f ρ).bind fun d => b d ρ with
  | none => rw [h] at k; exact k.elim
  | some ρ' =>
    rw [h] at k
    obtain ⟨d, e1, e2⟩ := Option.bind_eq_some_iff.mp h
    refine r.at rl e1 fun F' H' v g av => ?_
    exact r2 Fb Hb F' H' ρ ρ' σ d v _ (rl.grow g) av e2 fun σ' rl' => k F' H' σ' rl'
noncomputable def Z9 (m : Bool) (i : Nat) (fk fe : Ev → Option D) : SE → Ctl := fun ρ => match (vEv m fe ρ).bind fun d => (fk (visG ρ)).bind fun k => match ρ[i]?, k with
    | some (.o ds), .int k => (ixN ds.length k).map fun j => ρ.set i (.o (ds.set j d))
    | _, _ => none with
  | some ρ' => .nx ρ'
  | none => .no
theorem zc0 {m : Bool} {i : Nat} {ko : Expr} {fk fe : Ev → Option D} (he : ED X e fe) (ho : PE X a (XU i)) (hk : ED X ko fk) (hs : swapsWithSole [.Subscript a ko pos'] e pos.line X.env = pure false := by rfl) (hw : swappedStores [.Subscript a ko pos'] e X.env = pure none := by rfl)
    (h1 : (assignEach [.Subscript a ko pos'] X.env).map (·.2) = [assign (.Subscript a ko pos') X.env] := by rfl)
    (ha : ∀ v, assign (.Subscript a ko pos') X.env v = (do
      let ov ← holding [v] (eval a X.env)
      let iv ← holding [v, ov] (eval ko X.env)
      standAt pos'
      holding [v, ov, iv] (setItem ov iv v)
      release [v, ov, iv] []) := by intro _; rfl) : SD X (.Assign [.Subscript a ko pos'] e pos) (Z9 m i fk fe) := by
  obtain ⟨t, p, r⟩ := he
  obtain ⟨tk, pk, rk⟩ := hk
  refine ⟨_, zaJ p (zcO ho pk zaa ha) hs hw h1, fun Fb Hb F H ρ σ E rl k => ?_⟩
  unfold Z9 at k
  cases h : (vEv m fe ρ).bind fun d => (fk (visG ρ)).bind fun k => match ρ[i]?, k with
    | some (.o ds), .int k => (ixN ds.length k).map fun j => ρ.set i (.o (ds.set j d))
    | _, _ => none with
  | none => rw [h] at k; exact k.elim
  | some ρ' =>
    rw [h] at k
    obtain ⟨d, e1, e2⟩ := Option.bind_eq_some_iff.mp h
    obtain ⟨kd, e3, e2⟩ := Option.bind_eq_some_iff.mp e2
    cases hs : ρ[i]? with
    | none => rw [hs] at e2; cases e2
    | some sl =>
      rw [hs] at e2
      cases sl with
      | no => cases e2
      | v _ => cases e2
      | m _ _ _ => cases e2
      | o ds =>
        cases kd with
        | int kk =>
          obtain ⟨j, e4, rfl⟩ := Option.map_eq_some_iff.mp e2
          refine r.at rl e1 fun F' H' v g av => ?_
          have rl2 := rl.grow g
          obtain ⟨q, xs, f1, _⟩ := rl2.owns i ds hs
          refine ⟨_, f1, ?_⟩
          refine rk σ _ _ H' _ _ rl2.gh rl2.visG e3 fun F3 H3 v3 g3 av3 => ?_
          obtain ⟨gb, _⟩ := rl2.back g3
          have rl3 := rl2.grow gb
          obtain ⟨q3, xs3, f1', _, _, f4, f5⟩ := rl3.owns i ds hs
          rw [f1] at f1'
          cases f1'
          refine ⟨q, xs3, kk, j, rfl, av3.int_inv, f4, by rw [f5.length]; exact e4, ?_⟩
          exact k _ _ σ (rl3.mutate hs f1 (f5.set j (av.mono gb.ff)))
        | _ => cases e2
end
end Dl
namespace L2
open PySem PySem.Spec PyProof.Rows
section
variable {X : Cx} {tg : Expr}
noncomputable def iSeq (K : PySem.W.Frag) (tl : TE) : TI := fun σ H R => tl σ H fun x H1 => (∃ a, x = .ref a ∧ (∃ xs, SqL K H1 a xs) ∧ R (Itl K a) H1) ∨ (∃ a, x = .ref a ∧ (∃ xs, SqT K H1 a xs) ∧ R (Itt K a) H1)
theorem zbP {l : Expr} {tl : TE} (hl : PE X l tl) : PI X tg l (iSeq X.K tl) := by
  intro pins s σ H R I h
  refine thn (hl pins s σ H _ I h) fun v s1 hh9 => ?_
  obtain ⟨x, H1, I1, r1, q1⟩ := hh9
  rcases q1 with ⟨a, e, ⟨xs, hq⟩, q⟩ | ⟨a, e, ⟨xs, hq⟩, q⟩
  · subst e
    cases r1
    obtain ⟨its, rv, p, hz⟩ := I1.list hq
    refine wpAny_pyIter_list p.isList ?_
    refine ⟨s1.heap.objs.size, [s1.heap.objs.size], _, _, H1, rfl, I1.kept (t' := s1.toks) fun b o e => Heap.get?_push_of_some _ e, Wo a _, ⟨_, Heap.get?_push_size _ rfl, rfl, rfl⟩, fun b hb => ?_, q⟩
    have e : b = s1.heap.objs.size := by simpa using hb
    subst e
    exact I1.fpOk (Nat.le_refl _) (I1.hok.fresh (Nat.le_refl _))
  · subst e
    cases r1
    obtain ⟨its, rv, p, hz⟩ := I1.tuple hq
    refine wpAny_pyIter_tuple (show s1.heap.IsTuple a its.toArray from p) ?_
    refine ⟨s1.heap.objs.size, [s1.heap.objs.size], _, _, H1, rfl, I1.kept (t' := s1.toks) fun b o e => Heap.get?_push_of_some _ e, XW a _, ⟨_, Heap.get?_push_size _ rfl, rfl, rfl⟩, fun b hb => ?_, q⟩
    have e : b = s1.heap.objs.size := by simpa using hb
    subst e
    exact I1.fpOk (Nat.le_refl _) (I1.hok.fresh (Nat.le_refl _))
end
end L2
namespace Dl
open PySem L2
variable [KK]
noncomputable def zcV (J : It) (F : Hp) (ds : List D) : Prop := ∀ (i : Nat) (F2 H2 : Hp), yg F F2 → yg F2 H2 → (i = ds.length → J.stop i H2) ∧
  ∀ d, ds[i]? = some d → J.go i H2 ∧ ∀ x H3, J.yld i H2 x H3 → ∃ F3, Gr F2 H2 F3 H3 ∧ At F3 d x
noncomputable def RI (wi : TI) (f : Ev → Option (List D)) : Prop :=
  ∀ (σ : St) (ρ : Ev) (F H : Hp) (ds : List D) (R : It → Hp → Prop), yg F H → VAt F ρ σ → f ρ = some ds → (∀ F' H' J, Gr F H F' H' → zcV J F' ds → R J H') → wi σ H R
noncomputable def ID (X : Cx) (tg iter : Expr) (f : Ev → Option (List D)) : Prop := ∃ wi, PI X tg iter wi ∧ RI wi f
noncomputable def xz : D → Option (List D)
  | .lst ds => some ds
  | .tup ds => some ds
  | _ => none
section
variable {X : Cx} {tg a b c e : Expr} {pos : Pos}
theorem zbW {K : PySem.W.Frag} {F : Hp} {p : Addr} {xs : List V} {ds : List D} (h : F p = some (.lst xs)) (al : AtL F ds xs) : zcV (Itl K p) F ds := by
  intro i F2 H2 s1 s2
  have q : SqL K H2 p xs := SqL.of (s2 _ _ (s1 _ _ h))
  refine ⟨fun hl => ⟨xs, q, by rw [al.length, hl]; exact Nat.le_refl _⟩, fun d hd => ?_⟩
  obtain ⟨x, hx, ax⟩ := al.get hd
  refine ⟨⟨xs, x, q, hx⟩, fun y H3 hy => ?_⟩
  obtain ⟨rfl, hy⟩ := hy
  have := hy xs q
  rw [hx] at this
  cases this
  exact ⟨F2, .refl s2, ax.mono s1⟩
theorem zbE {K : PySem.W.Frag} {F : Hp} {p : Addr} {xs : List V} {ds : List D} (h : F p = some (.tup xs)) (al : AtL F ds xs) : zcV (Itt K p) F ds := by
  intro i F2 H2 s1 s2
  have q : SqT K H2 p xs := SqT.of (s2 _ _ (s1 _ _ h))
  refine ⟨fun hl => ⟨xs, q, by rw [al.length, hl]; exact Nat.le_refl _⟩, fun d hd => ?_⟩
  obtain ⟨x, hx, ax⟩ := al.get hd
  refine ⟨⟨xs, x, q, hx⟩, fun y H3 hy => ?_⟩
  obtain ⟨rfl, hy⟩ := hy
  have := hy xs q
  rw [hx] at this
  cases this
  exact ⟨F2, .refl s2, ax.mono s1⟩
noncomputable def iOf (f : Ev → Option D) : Ev → Option (List D) := fun ρ => (f ρ).bind xz
theorem Wk {f : Ev → Option D} (ha : ED X a f) : ID X tg a (iOf f) := by
  obtain ⟨t, p, r⟩ := ha
  refine ⟨_, zbP p, fun σ ρ F H ds R s va e q => ?_⟩
  obtain ⟨d, e1, e2⟩ := Option.bind_eq_some_iff.mp e
  refine r σ ρ F H d _ s va e1 fun F1 H1 v g1 a1 => ?_
  cases d <;> try cases e2
  · obtain ⟨p, xs, rfl, hx, al⟩ := a1.tup_inv
    exact .inr ⟨p, rfl, ⟨xs, SqT.of (g1.fh _ _ hx)⟩, q F1 H1 _ g1 (zbE hx al)⟩
  · obtain ⟨p, xs, rfl, hx, al⟩ := a1.lst_inv
    exact .inl ⟨p, rfl, ⟨xs, SqL.of (g1.fh _ _ hx)⟩, q F1 H1 _ g1 (zbW hx al)⟩
noncomputable def YN (lo : Int) (n : Nat) : List D := (List.range n).map fun k : Nat => .int (lo + k)
theorem XD {F : Hp} (lo : Int) (n : Nat) : zcV (Itr lo n) F (YN lo n) := by
  intro i F2 H2 s1 s2
  have hlen : (YN lo n).length = n := by unfold YN; simp
  refine ⟨fun hl => by rw [hlen] at hl; rw [hl]; exact Nat.le_refl _, fun d hd => ?_⟩
  have hi : i < n := by
    have := (List.getElem?_eq_some_iff.mp hd).1
    omega
  refine ⟨hi, fun y H3 hy => ?_⟩
  obtain ⟨rfl, rfl⟩ := hy
  refine ⟨F2, .refl s2, ?_⟩
  unfold YN at hd
  rw [List.getElem?_map, List.getElem?_range hi] at hd
  cases hd
  exact .int
@[irreducible] noncomputable def zaG (j : Int) : Bool := decide (-(2 ^ 62) ≤ j ∧ j < 2 ^ 62)
omit [KK] in
theorem zY {j : Int} : zaG j = true ↔ -(2 ^ 62) ≤ j ∧ j < 2 ^ 62 := by unfold zaG; exact decide_eq_true_iff
noncomputable def Yk : List D → Option (List D)
  | [.int j] => if zaG j = true then some (YN 0 j.toNat) else none
  | _ => none
noncomputable def vA : List D → Option (List D)
  | [.int i, .int j] => if zaG i = true ∧ zaG j = true then some (YN i (j - i).toNat) else none
  | _ => none
noncomputable def vP (g : List D → Option (List D)) (f : Ev → Option (List D)) : Ev → Option (List D) := fun ρ => (f ρ).bind g
theorem Zk {p : Pos} {f : Ev → Option (List D)} (hg : Gl X "range") (hm : X.mg "range" = none) (ha : AD X [a] f) (hs : starEach [a] X.env = [(false, eval a X.env)] := by rfl) : ID X tg (.Call (.Name "range" p) [a] [] pos) (vP Yk f) := by
  obtain ⟨t, pa, r⟩ := ha
  refine ⟨_, Y7 hg hm pa hs, fun σ ρ F H ds R s va e q => ?_⟩
  obtain ⟨d, e1, e2⟩ := Option.bind_eq_some_iff.mp e
  refine r σ ρ F H d _ s va e1 fun F1 H1 v g1 a1 => ?_
  unfold Yk at e2
  split at e2
  · split at e2
    · cases e2
      rename_i hc
      obtain ⟨x, r', rfl, ax, ar⟩ := a1.cons_inv
      cases ar.nil_inv
      exact ⟨_, by rw [ax.int_inv], (zY.mp hc).1, (zY.mp hc).2, q F1 H1 _ g1 (XD 0 _)⟩
    · cases e2
  · cases e2
theorem xi {p : Pos} {f : Ev → Option (List D)} (hg : Gl X "range") (hm : X.mg "range" = none) (ha : AD X [a, b] f) (hs : starEach [a, b] X.env = [(false, eval a X.env), (false, eval b X.env)] := by rfl) (hs2 : starEach [b] X.env = [(false, eval b X.env)] := by rfl) :
    ID X tg (.Call (.Name "range" p) [a, b] [] pos) (vP vA f) := by
  obtain ⟨t, pa, r⟩ := ha
  refine ⟨_, Zi hg hm pa hs hs2, fun σ ρ F H ds R s va e q => ?_⟩
  obtain ⟨d, e1, e2⟩ := Option.bind_eq_some_iff.mp e
  refine r σ ρ F H d _ s va e1 fun F1 H1 v g1 a1 => ?_
  unfold vA at e2
  split at e2
  · split at e2
    · cases e2
      rename_i hc
      obtain ⟨x, r', rfl, ax, ar⟩ := a1.cons_inv
      obtain ⟨y, r', rfl, ay, ar⟩ := ar.cons_inv
      cases ar.nil_inv
      exact ⟨_, _, by rw [ax.int_inv, ay.int_inv], ⟨(zY.mp hc.1).1, (zY.mp hc.1).2, (zY.mp hc.2).1, (zY.mp hc.2).2⟩, q F1 H1 _ g1 (XD _ _)⟩
    · cases e2
  · cases e2
noncomputable def zcp (n : Nat) : List D → List D
  | [] => []
  | d :: ds => .tup [.int n, d] :: zcp (n + 1) ds
noncomputable def wy (f : Ev → Option (List D)) : Ev → Option (List D) := fun ρ => (f ρ).bind fun as => match as with
  | [d] => (xz d).map (zcp 0)
  | _ => none
noncomputable def hb2 (F1 Hb : Hp) : Hp := fun p => match F1 p with
  | some o => some o
  | none => Hb p
theorem vG {F1 Hb : Hp} {p : Addr} (h : F1 p = none) : hb2 F1 Hb p = Hb p := by unfold hb2; rw [h]
theorem zaj {F1 Hb : Hp} {p : Addr} {o : HO} (h : F1 p = some o) : hb2 F1 Hb p = some o := by unfold hb2; rw [h]
theorem Gr.up {Fb Hb F1 H1 F H : Hp} (g1 : Gr Fb Hb F1 H1) (g : Gr F1 (hb2 F1 Hb) F H) : Gr Fb Hb F H := by
  refine ⟨g1.ff.trans g.ff, g.fh, fun p o e1 e2 => ?_⟩
  rcases (g1.kp p o e1 e2).1 with n | ⟨n1, n2⟩
  · exact g.kp p o n (by rw [vG n]; exact e2)
  · exact ⟨.inr ⟨n1, g.ff _ _ n2⟩, g.fh _ _ (g.ff _ _ n2)⟩
theorem Gr.dn {Fb Hb F1 F H : Hp} (g : Gr Fb Hb F H) (s1 : yg Fb F1) (s : yg F1 F) : Gr F1 (hb2 F1 Hb) F H := by
  refine ⟨s, g.fh, fun p o e1 e2 => ?_⟩
  rw [vG e1] at e2
  exact g.kp p o (s1.free e1) e2
theorem Rl.up {Fb Hb F1 H1 F H : Hp} {ρ : SE} {σ : St} (g1 : Gr Fb Hb F1 H1) (r : Rl F1 (hb2 F1 Hb) F H ρ σ) : Rl Fb Hb F H ρ σ := by
  refine ⟨g1.up r.gr, r.vals, fun i s e ho => ?_, r.dis, r.len⟩
  obtain ⟨p, o, e1, e2, e3⟩ := r.ows i s e ho
  refine ⟨p, o, e1, ?_, e3⟩
  cases h : F1 p with
  | none => rw [vG h] at e2; exact e2
  | some o => rw [zaj h] at e2; cases e2
theorem Rl.dn {Fb Hb F1 F H : Hp} {ρ : SE} {σ : St} (r : Rl Fb Hb F H ρ σ) (s1 : yg Fb F1) (s : yg F1 F) : Rl F1 (hb2 F1 Hb) F H ρ σ := by
  refine ⟨r.gr.dn s1 s, r.vals, fun i t e ho => ?_, r.dis, r.len⟩
  obtain ⟨p, o, e1, e2, e3, e4⟩ := r.ows i t e ho
  refine ⟨p, o, e1, ?_, e3, e4⟩
  rw [vG (s.free e3)]
  exact e2
noncomputable def WW (b : D → SE → Option SE) (g : SE → Ctl) : List D → SE → Ctl
  | [], ρ => .nx ρ
  | d :: ds, ρ => match b d ρ with
    | none => .no
    | some ρ1 => match g ρ1 with
      | .nx ρ' => WW b g ds ρ'
      | .ct ρ' => WW b g ds ρ'
      | .bk ρ' => .nx ρ'
      | .rt d => .rt d
      | .no => .no
noncomputable def Y3 (f : Ev → Option (List D)) (b : D → SE → Option SE) (g : SE → Ctl) : SE → Ctl := fun ρ => match f (visF ρ) with
  | some ds => WW b g ds ρ
  | none => .no
theorem Vw {Fb Hb F1 H1 : Hp} {ρ : SE} {σ : St} {E : ZI} {J : It} {g : TG} {tb : TS} {ds : List D} {b : D → SE → Option SE} {gb : SE → Ctl} (hit : zcV J F1 ds) (rg : RG g b) (rb : RS tb gb) (rl0 : Rl Fb Hb F1 H1 ρ σ) (k : SOk Fb Hb E (WW b gb ds ρ)) :
    ∃ W : Nat → Nat → St → Hp → Prop, (∃ m, W 0 m σ H1) ∧ ∀ i m σ H, W i m σ H →
      (J.stop i H ∧ E.nx σ H) ∨ (J.go i H ∧ ∃ N : St → Hp → Prop, (∀ σ' H', N σ' H' → ∃ m', m' < m ∧ W (i + 1) m' σ' H') ∧ ∀ x H', J.yld i H x H' → g x σ H' fun σ2 H2 => tb { E with nx := N, ct := N, bk := E.nx } σ2 H2) := by
  refine ⟨fun i m σ H => m = ds.length - i ∧ i ≤ ds.length ∧ ∃ F ρ, yg F1 F ∧ Rl Fb Hb F H ρ σ ∧ SOk Fb Hb E (WW b gb (ds.drop i) ρ), ⟨ds.length, by simp, Nat.zero_le _, F1, ρ, yg.refl _, rl0, k⟩, ?_⟩
  rintro i m σ H ⟨rfl, hi, F, ρ, s1, rl, k⟩
  obtain ⟨stop, go⟩ := hit i F H s1 rl.gr.fh
  by_cases hlt : i < ds.length
  · have hd : ds.drop i = ds[i] :: ds.drop (i + 1) := List.drop_eq_getElem_cons hlt
    rw [hd] at k
    unfold WW at k
    obtain ⟨g1, g2⟩ := go ds[i] (by simp [hlt])
    refine .inr ⟨g1, fun σ H => ∃ F ρ, yg F1 F ∧ Rl Fb Hb F H ρ σ ∧ SOk Fb Hb E (WW b gb (ds.drop (i + 1)) ρ), fun σ' H' w => ⟨ds.length - (i + 1), by omega, rfl, hlt, w⟩, fun x H' hy => ?_⟩
    obtain ⟨F3, g3, a3⟩ := g2 x H' hy
    cases hb : b ds[i] ρ with
    | none => rw [hb] at k; exact k.elim
    | some ρ1 =>
      rw [hb] at k
      dsimp only at k
      refine rg Fb Hb F3 H' ρ ρ1 σ _ x _ (rl.grow g3) a3 hb fun σ2 rl2 => ?_
      have s3 := s1.trans g3.ff
      refine rb F1 (hb2 F1 Hb) F3 H' ρ1 σ2 _ (rl2.dn rl0.gr.ff s3) ?_
      cases hg : gb ρ1 with
      | nx ρ' => rw [hg] at k; exact fun F4 H4 σ4 r4 => ⟨F4, ρ', r4.gr.ff, r4.up rl0.gr, k⟩
      | ct ρ' => rw [hg] at k; exact fun F4 H4 σ4 r4 => ⟨F4, ρ', r4.gr.ff, r4.up rl0.gr, k⟩
      | bk ρ' => rw [hg] at k; exact fun F4 H4 σ4 r4 => k F4 H4 σ4 (r4.up rl0.gr)
      | rt d => rw [hg] at k; exact fun F4 H4 v g4 a4 => k F4 H4 v (rl0.gr.up g4) a4
      | no => rw [hg] at k; exact k.elim
  · have e : i = ds.length := by omega
    subst e
    rw [List.drop_length] at k
    exact .inl ⟨stop rfl, k F H σ rl⟩
theorem Xh {iter : Expr} {body : List Stmt} {f : Ev → Option (List D)} {b : D → SE → Option SE} {g : SE → Ctl} (hp : PassesOwn (model X.prog X.w) X.A X.env X.xe) (hc : X.calm = true) (hi : ID X tg iter f) (hg : BD X tg b) (hb : SDs X body g)
    (hs : ∀ x, foldedSetIterable iter X.env x = pure x := by intro _; rfl) : SD X (.For tg iter body [] pos) (Y3 f b g) := by
  obtain ⟨wi, pi, ri⟩ := hi
  obtain ⟨tg', pg, rg⟩ := hg
  obtain ⟨tb, pb, rb⟩ := hb
  refine ⟨_, Vb hp hc pi pg pb hs, fun Fb Hb F H ρ σ E rl k => ?_⟩
  unfold Y3 at k
  cases h : f (visF ρ) with
  | none => rw [h] at k; exact k.elim
  | some ds =>
    rw [h] at k
    exact ri σ _ _ H ds _ rl.gr.fh rl.visF h fun F1 H1 J g1 ok => Vw ok rg rb (rl.grow g1) k
end
noncomputable def lcD (b : D → Option (List (Option D))) (t : Ev → Option Bool) (f : Ev → Option D) (ρ : Ev) : List D → Option (List D)
  | [] => some []
  | d :: ds => (b d).bind fun own => (t (own ++ ρ)).bind fun c => if c = true then (f (own ++ ρ)).bind fun y => (lcD b t f ρ ds).map (y :: ·) else lcD b t f ρ ds
noncomputable def fLC (i : Ev → Option (List D)) (b : D → Option (List (Option D))) (t : Ev → Option Bool) (f : Ev → Option D) : Ev → Option (List D) := fun ρ => (i ρ).bind fun ds => if lim ds.length = true then lcD b t f ρ ds else none
noncomputable def b1 : D → Option (List (Option D)) := fun d => some [some d]
noncomputable def b2 : D → Option (List (Option D))
  | .tup [x, y] => some [some x, some y]
  | _ => none
noncomputable def RB (n : Nat) (t : TG) (b : D → Option (List (Option D))) : Prop := ∀ (σ : St) (ρ : Ev) (F H : Hp) (d : D) (v : V) (own : List (Option D)) (Q : St → Hp → Prop), yg F H → VAt F ρ σ → At F d v → b d = some own → (∀ σ', VAt F (own ++ ρ) σ' → Q σ' H) → t v (List.replicate n none ++ σ) H Q
noncomputable def xS : Ev → Option Bool := fun _ => some true
theorem zcw : RT tYes xS := fun _ _ _ _ _ _ s _ e q => by cases e; exact q _ _ (.refl s)
theorem zbF {wi : TI} {n : Nat} {g : TG} {tt : TT} {te : TE} {fi : Ev → Option (List D)} {b : D → Option (List (Option D))} {ft : Ev → Option Bool} {fe : Ev → Option D} (ri : RI wi fi) (rg : RB n g b) (rt : RT tt ft) (re : RE te fe) :
    RF (tLC wi n g tt te) (fLC fi b ft fe) := by
  intro σ ρ F H out Q s va e q
  obtain ⟨ds, e1, e2⟩ := Option.bind_eq_some_iff.mp e
  split at e2 <;> try cases e2
  rename_i hlim
  have hlim : ds.length ≤ sizeLine := of_decide_eq_true hlim
  refine ri σ ρ F H ds _ s va e1 fun F1 H1 J g1 ok => ?_
  intro P hP
  have hF1 : F1 P = none := g1.fh.free hP
  have hH0 : H P = none := by
    cases e : H P with
    | none => rfl
    | some o =>
      cases e2 : F P with
      | none => rw [(g1.kp P o e2 e).2] at hP; cases hP
      | some u => rw [g1.fh _ _ (g1.ff _ _ e2)] at hP; cases hP
  refine ⟨fun i m ys H2 => m = ds.length - i ∧ i ≤ ds.length ∧ ∃ F2 done, Gr F1 H1 F2 H2 ∧ Gr F1 (upd H1 P (.lst [])) F2 (upd H2 P (.lst [])) ∧ F2 P = none ∧ H2 P = some (.lst ys) ∧ AtL F2 done ys ∧ done.length ≤ i ∧ ∃ more, lcD b ft fe ρ (ds.drop i) = some more ∧ done ++ more = out, ⟨ds.length, by simp, Nat.zero_le _, F1, [], Gr.hide g1.fh hP _, ?_, hF1, zo, .nil, Nat.zero_le _, out, e2, rfl⟩, ?_⟩
  · rw [Vr]
    exact .refl fun b u z => by rw [zm (zi z hF1)]; exact g1.fh b u z
  rintro i m ys H2 ⟨rfl, hi, F2, done, g2, g2', hF2, hH2, al, hdl, more, hm, hout⟩
  obtain ⟨stop, go⟩ := ok i F2 H2 g2.ff g2.fh
  by_cases hlt : i < ds.length
  · have hd : ds.drop i = ds[i] :: ds.drop (i + 1) := List.drop_eq_getElem_cons hlt
    rw [hd] at hm
    unfold lcD at hm
    obtain ⟨own, hb, hm⟩ := Option.bind_eq_some_iff.mp hm
    obtain ⟨cb, hc, hm⟩ := Option.bind_eq_some_iff.mp hm
    obtain ⟨k1, k2⟩ := go ds[i] (by simp [hlt])
    refine .inr ⟨k1, by rw [al.length]; omega, fun x H3 hy => ?_⟩
    obtain ⟨F3, g3, a3⟩ := k2 x H3 hy
    refine rg σ ρ F3 H3 ds[i] x own _ g3.fh (va.mono (g1.ff.trans (g2.ff.trans g3.ff))) a3 hb fun σ4 va4 => ?_
    refine rt σ4 _ F3 H3 cb _ g3.fh va4 hc fun F5 H5 g5 => ?_
    have g35 := g3.trans g5
    obtain ⟨n5, h5⟩ := g35.kl (fun _ e => by cases e) hF2 hH2
    have keep2 : ∀ {F6 H6 : Hp} {o : HO}, Gr F2 H2 F6 H6 → F6 P = none → Gr F1 (upd H1 P (.lst [])) F6 (upd (upd H6 P o) P (.lst [])) := fun {F6 H6 o} g6 n6 => by
      rw [Vr]
      refine ⟨g2.ff.trans g6.ff, fun b u z => ?_, fun b u z1 z2 => ?_⟩
      · rw [zm (zi z n6)]; exact g6.fh b u z
      · by_cases hbP : b = P
        · subst hbP
          rw [zo] at z2 ⊢
          exact ⟨.inl n6, z2⟩
        · rw [zm hbP] at z2 ⊢
          exact (g2.trans g6).kp b u z1 z2
    have keep1 : ∀ {F6 H6 : Hp} {o : HO}, Gr F2 H2 F6 H6 → F6 P = none → Gr F1 H1 F6 (upd H6 P o) := fun {F6 H6 o} g6 n6 => by
      refine ⟨g2.ff.trans g6.ff, fun b u z => ?_, fun b u z1 z2 => ?_⟩
      · rw [zm (zi z n6)]; exact g6.fh b u z
      · rw [zm (zi z2 hP)]
        exact (g2.trans g6).kp b u z1 z2
    cases cb with
    | false =>
      rw [if_neg Bool.false_ne_true] at hm ⊢
      have ups : H5 = upd H5 P (.lst ys) := by
        funext b
        by_cases hbP : b = P
        · subst hbP; rw [zo]; exact h5
        · rw [zm hbP]
      refine ⟨ds.length - (i + 1), by omega, rfl, hlt, F5, done, ?_, ?_, n5, h5, al.mono g35.ff, by omega, more, hm, hout⟩
      · rw [ups]; exact keep1 g35 n5
      · have := keep2 (o := .lst ys) g35 n5
        rw [← ups] at this
        exact this
    | true =>
      rw [if_pos rfl] at hm ⊢
      obtain ⟨y, hy, hm⟩ := Option.bind_eq_some_iff.mp hm
      obtain ⟨rest, hm', rfl⟩ := Option.map_eq_some_iff.mp hm
      refine re σ4 _ F5 H5 y _ g5.fh (va4.mono g5.ff) hy fun F6 H6 v g6 a6 => ?_
      have g36 := g35.trans g6
      obtain ⟨n6, h6⟩ := g36.kl (fun _ e => by cases e) hF2 hH2
      refine ⟨h6, ds.length - (i + 1), by omega, rfl, hlt, F6, done ++ [y], keep1 g36 n6, keep2 g36 n6, n6, zo, (al.mono g36.ff).snoc a6, by rw [List.length_append]; simp; omega, rest, hm', by rw [← hout, List.append_assoc]; rfl⟩
  · have e : i = ds.length := by omega
    subst e
    rw [List.drop_length] at hm
    cases hm
    rw [List.append_nil] at hout
    subst hout
    exact .inl ⟨stop rfl, q F2 H2 P ys (g1.trans g2) hH0 hF2 hH2 al⟩
theorem rb1 : RB 1 (Zm 0) b1 := by
  intro σ ρ F H d v own Q s va av e q
  cases e
  refine q _ fun i d' h => ?_
  cases i with
  | zero => cases h; exact ⟨v, rfl, av⟩
  | succ i => exact va i d' h
noncomputable def tCan (f : Ev → Option D) : TE := fun σ H Q => ∃ ρ F d, yg F H ∧ VAt F ρ σ ∧ f ρ = some d ∧ ∀ F' H' v, Gr F H F' H' → At F' d v → Q v H'
noncomputable def zcG (f : Ev → Option Bool) : TT := fun σ H Q => ∃ ρ F d, yg F H ∧ VAt F ρ σ ∧ f ρ = some d ∧ ∀ F' H', Gr F H F' H' → Q d H'
theorem ED.can {X : Cx} {e : Expr} {f : Ev → Option D} (h : ED X e f) : PE X e (tCan f) := by
  obtain ⟨t, p, r⟩ := h
  rintro pins s σ H Q I ⟨ρ, F, d, h1, h2, h3, h4⟩
  exact p pins s σ H Q I (r σ ρ F H d Q h1 h2 h3 h4)
theorem TD.can {X : Cx} {e : Expr} {f : Ev → Option Bool} (h : TD X e f) : PT X e (zcG f) := by
  obtain ⟨t, p, r⟩ := h
  rintro pins s σ H Q I ⟨ρ, F, d, h1, h2, h3, h4⟩
  exact p pins s σ H Q I (r σ ρ F H d Q h1 h2 h3 h4)
theorem zaX {f : Ev → Option D} : RE (tCan f) f := fun _ ρ F _ d _ h1 h2 h3 h4 => ⟨ρ, F, d, h1, h2, h3, h4⟩
theorem zbG {f : Ev → Option Bool} : RT (zcG f) f := fun _ ρ F _ d _ h1 h2 h3 h4 => ⟨ρ, F, d, h1, h2, h3, h4⟩
theorem Yc {X : Cx} {elt tg iter : Expr} {L M : List Str} {scope : Scope} {cl : List (Str × Addr)} {pos : Pos} {fi : Ev → Option (List D)} {b : D → Option (List (Option D))} {fe : Ev → Option D} {g : TG}
    (hc : X.calm = true) (S : xE X L M scope cl) (hi : ID X tg iter fi)
    (hgS : ∀ (σ : St) (v : V) (H : Hp) (Q : St → Hp → Prop), g v (List.replicate L.length none ++ σ) H Q → g v (List.replicate L.length none ++ σ) H (fun σ2 H2 => vI (List.replicate L.length none ++ σ) σ2 ∧ Q σ2 H2))
    (hrb : RB L.length g b)
    (hg : ∀ s₀ H₀ ex pn, PG (Wd X L M scope cl s₀ H₀ ex pn) tg g) (he : ∀ s₀ H₀ ex pn, ED (Wd X L M scope cl s₀ H₀ ex pn) elt fe)
    (hs : ∀ x, foldedSetIterable iter X.env x = pure x := by intro _; rfl) : FL X (.ListComp elt [⟨tg, iter, [], 0⟩] scope pos) (fLC fi b xS fe) := by
  obtain ⟨wi, pi, ri⟩ := hi
  exact ⟨_, zaO hc S pi hgS hg (fun _ _ _ _ => za5) (fun _ _ _ _ => (he _ _ _ _).can) hs, zbF ri hrb zcw zaX⟩
theorem zaI {X : Cx} {elt tg iter c : Expr} {L M : List Str} {scope : Scope} {cl : List (Str × Addr)} {pos : Pos} {fi : Ev → Option (List D)} {b : D → Option (List (Option D))} {ft : Ev → Option Bool} {fe : Ev → Option D} {g : TG}
    (hc : X.calm = true) (S : xE X L M scope cl) (hi : ID X tg iter fi)
    (hgS : ∀ (σ : St) (v : V) (H : Hp) (Q : St → Hp → Prop), g v (List.replicate L.length none ++ σ) H Q → g v (List.replicate L.length none ++ σ) H (fun σ2 H2 => vI (List.replicate L.length none ++ σ) σ2 ∧ Q σ2 H2))
    (hrb : RB L.length g b)
    (hg : ∀ s₀ H₀ ex pn, PG (Wd X L M scope cl s₀ H₀ ex pn) tg g) (ht : ∀ s₀ H₀ ex pn, TD (Wd X L M scope cl s₀ H₀ ex pn) c ft) (he : ∀ s₀ H₀ ex pn, ED (Wd X L M scope cl s₀ H₀ ex pn) elt fe)
    (hs : ∀ x, foldedSetIterable iter X.env x = pure x := by intro _; rfl) : FL X (.ListComp elt [⟨tg, iter, [c], 0⟩] scope pos) (fLC fi b ft fe) := by
  obtain ⟨wi, pi, ri⟩ := hi
  exact ⟨_, zaO hc S pi hgS hg (fun _ _ _ _ => zbA (ht _ _ _ _).can) (fun _ _ _ _ => (he _ _ _ _).can) hs, zbF ri hrb zbG zaX⟩
noncomputable def fnD (n : Nat) (g : SE → Ctl) (ds : List D) : Option D := match g (ds.map .v ++ List.replicate (n - ds.length) .no) with
  | .rt d => some d
  | .nx _ => some .non
  | _ => none
noncomputable def spD (m : Nat) (p : List D → Option D) : Sp := fun vs H Q _ => ∃ ds d F, ds.length = m ∧ yg F H ∧ AtL F ds vs ∧ p ds = some d ∧ ∀ F' H' v, Gr F H F' H' → At F' d v → Q v H'
theorem Xx {F H : Hp} {N : List Str} {ds : List D} {vs : List V} (s : yg F H) (a : AtL F ds vs) : Rl F H F H (ds.map .v ++ List.replicate (N.length - ds.length) .no) (L2.start N vs) := by
  have hl := a.length
  have noO : ∀ (i : Nat) (t : Sl), (ds.map Sl.v ++ List.replicate (N.length - ds.length) Sl.no)[i]? = some t → t.isO = true → False := fun i t h ho => by
    by_cases hi : i < ds.length
    · rw [List.getElem?_append_left (by simpa using hi), List.getElem?_map] at h
      cases e : ds[i]? with
      | none => rw [e] at h; cases h
      | some d => rw [e] at h; cases h; cases ho
    · rw [List.getElem?_append_right (by simpa using hi), List.getElem?_replicate] at h
      split at h <;> cases h
      cases ho
  refine ⟨.refl s, fun i d h => ?_, fun i t h ho => (noO i t h ho).elim, fun i j p t u h _ ho => (noO i t h ho).elim, ?_⟩
  · by_cases hi : i < ds.length
    · rw [List.getElem?_append_left (by simpa using hi), List.getElem?_map] at h
      cases e : ds[i]? with
      | none => rw [e] at h; cases h
      | some d' =>
        rw [e] at h
        cases h
        obtain ⟨x, hx, ax⟩ := a.get e
        refine ⟨x, ?_, ax⟩
        unfold L2.start
        rw [List.getElem?_append_left (by simpa [hl] using hi), List.getElem?_map, hx]
        rfl
    · rw [List.getElem?_append_right (by simpa using hi), List.getElem?_replicate] at h
      split at h <;> cases h
  · unfold L2.start
    simp [hl]
theorem xZ {P : Program} {w : World} {K : PySem.W.Frag} {mg : Str → Option Value} {base : Heap} {x qual : Str} {st : Stmt} {f : Addr} {fd : FuncData} {N ps : List Str} {k : Nat} {g : SE → Ctl} (Fu : Fun K x qual st f fd) (S : zE N ps (zf st))
    (hb : ∀ (cdv : Value) (A : Around) (outer : List Env) (s : Shared) (H : Hp) (E : XK), vy k (A.deeper (PyProof.Rows.envOfC qual (zf st) s.heap.objs.size f cdv)) → SDs (Y2 CX0 P w K mg base N qual (zf st) f cdv A outer s H E).nox (zC st) g) :
    xn P w K mg base CX0 (k + 1) f fd ps (spD ps.length (fnD N.length g)) := by
  refine Fu.ok S (fun vs H Q E h => ?_) fun cdv A outer s H vs Q E hr h => ?_
  · obtain ⟨ds, d, F, hl, _, a, _⟩ := h
    rw [a.length]; exact hl
  · obtain ⟨ds, d, F, hl, sm, a, e, q⟩ := h
    obtain ⟨t, p, r⟩ := hb cdv A outer s H E hr
    refine ⟨t, p, r F H F H _ _ _ (Xx sm a) ?_⟩
    unfold fnD at e
    cases hg : g (ds.map .v ++ List.replicate (N.length - ds.length) .no) with
    | rt d' => rw [hg] at e; cases e; exact fun F' H' v g av => q F' H' v g av
    | nx ρ => rw [hg] at e; cases e; exact fun F' H' σ rl => q F' H' _ rl.gr .non
    | bk ρ => rw [hg] at e; cases e
    | ct ρ => rw [hg] at e; cases e
    | no => rw [hg] at e; cases e
theorem Zt {P : Program} {w : World} {K : PySem.W.Frag} {mg : Str → Option Value} {base : Heap} {f : Addr} {fd : FuncData} {ps : List Str} {k m : Nat} {p q : List D → Option D} (F : xn P w K mg base CX0 k f fd ps (spD m p)) (h : ∀ ds d, ds.length = m → q ds = some d → p ds = some d) : xn P w K mg base CX0 k f fd ps (spD m q) :=
  F.imp fun vs H Q E ⟨ds, d, F', h1, h2, h3, h4, h5⟩ => ⟨ds, d, F', h1, h2, h3, h ds d h1 h4, h5⟩
noncomputable def zQ (m : Nat) (p : List D → Option D) (f : Ev → Option (List D)) : Ev → Option D := fun ρ => (f ρ).bind fun ds => if ds.length = m then p ds else none
theorem zD {X : Cx} {x : Str} {k m : Nat} {f : Addr} {fd : FuncData} {ps : List Str} {p : List D → Option D} {e : Expr} {es : List Expr} {pp pos : Pos} {fa : Ev → Option (List D)} (F : xn X.prog X.w X.K X.mg X.base CX0 k f fd ps (spD m p)) (hr : vy k X.A) (hg : Gl X x) (hm : X.mg x = some (.ref f)) (hk : PySem.W.keepIn X.K (.ref f) = true) (hb : YS X.K fd ps [])
    (ha : AD X (e :: es) fa) (hdb : (x == ("__debug__" : Str)) = false := by decide) (he : starEach (e :: es) X.env = (false, eval e X.env) :: starEach es X.env := by rfl) (hpl : (backTo pos (starEach es X.env)).any (·.1) = false := by rfl) :
    ED X (.Call (.Name x pp) (e :: es) [] pos) (zQ m p fa) := by
  obtain ⟨t, pa, r⟩ := ha
  refine ⟨_, Wh F hr hg hm hk hb .nil zdi pa hdb he hpl, fun σ ρ F0 H d Q s va e q => ?_⟩
  obtain ⟨ds, e1, e2⟩ := Option.bind_eq_some_iff.mp e
  split at e2 <;> try cases e2
  rename_i hl
  refine r σ ρ F0 H ds _ s va e1 fun F1 H1 vs g1 a1 => ?_
  refine ⟨ds, d, F1, hl, g1.fh, by rw [List.append_nil]; exact a1, e2, fun F' H' v g av => q F' H' v (g1.trans g) av⟩
end Dl
namespace Dl
open PySem L2
variable [KK]
section
variable {X : Cx} {a b c e : Expr} {pos : Pos}
theorem zn : bootBuiltins "isinstance" = some (.builtin "isinstance") := by decide +kernel
theorem wO : bootBuiltins "len" = some (.builtin "len") := by decide +kernel
theorem zcq : bootBuiltins "all" = some (.builtin "all") := by decide +kernel
theorem XH : bootBuiltins "int" = some (.type "int") := by decide +kernel
theorem YG : bootBuiltins "bool" = some (.type "bool") := by decide +kernel
theorem xQ : bootBuiltins "tuple" = some (.type "tuple") := by decide +kernel
theorem ZU : bootBuiltins "list" = some (.type "list") := by decide +kernel
theorem VA : bootBuiltins "str" = some (.type "str") := by decide +kernel
theorem zcc : bootBuiltins "zip" = some (.type "zip") := by decide +kernel
noncomputable def ZW (C : Int → Int → Bool) (g : Int → Int → Int) : D → D → Option D
  | .int i, .int j => if C i j = true then some (.int (g i j)) else none
  | _, _ => none
noncomputable def ww (g : Int → Int → Int) : D → D → Option D
  | .int i, .int j => some (.int (g i j))
  | _, _ => none
noncomputable def ZP (g : Int → Int → Bool) : D → D → Option D
  | .int i, .int j => some (.bl (g i j))
  | _, _ => none
theorem YU {C : Int → Int → Prop} {Cb : Int → Int → Bool} {g : Int → Int → Int} (h : ∀ i j, Cb i j = true → C i j) : OpD (rI C fun i j => .int (g i j)) (ZW Cb g) := by
  intro F H x y d e z Q s ax ay ez q
  cases d <;> try cases ez
  cases e <;> try cases ez
  unfold ZW at ez
  dsimp only at ez
  split at ez <;> cases ez
  rename_i hc
  exact ⟨_, _, ax.int_inv, ay.int_inv, h _ _ hc, q F H _ (.refl s) .int⟩
theorem vW {g : Int → Int → Int} : OpD (rI0 fun i j => .int (g i j)) (ww g) := by
  intro F H x y d e z Q s ax ay ez q
  cases d <;> try cases ez
  cases e <;> try cases ez
  exact ⟨_, _, ax.int_inv, ay.int_inv, q F H _ (.refl s) .int⟩
theorem Xf {g : Int → Int → Bool} : OpD (rI0 fun i j => .bl (g i j)) (ZP g) := by
  intro F H x y d e z Q s ax ay ez q
  cases d <;> try cases ez
  cases e <;> try cases ez
  exact ⟨_, _, ax.int_inv, ay.int_inv, q F H _ (.refl s) .bl⟩
theorem ZG {r r' : R2} {g g' : D → D → Option D} (h : OpD r g) (h' : OpD r' g') : OpD (fun x y H Q => r x y H Q ∨ r' x y H Q) (fun d e => (g d e).or (g' d e)) := by
  intro F H x y d e z Q s ax ay ez q
  dsimp only at ez
  cases hg : g d e with
  | some z' => rw [hg] at ez; cases ez; exact .inl (h F H x y d e z Q s ax ay hg q)
  | none => rw [hg] at ez; exact .inr (h' F H x y d e z Q s ax ay ez q)
noncomputable def zcf : D → D → Option D
  | .tup a, .tup b => if lim (a.length + b.length) = true then some (.tup (a ++ b)) else none
  | _, _ => none
noncomputable def zaU : D → D → Option (List D)
  | .lst a, .lst b => if lim (a.length + b.length) = true then some (a ++ b) else none
  | _, _ => none
noncomputable def WL (d e : D) : Option D := (zaU d e).map .lst
noncomputable def zbN : D → D → Option D
  | .str a, .str b => if lim (a.length + b.length) = true then some (.str (a ++ b)) else none
  | _, _ => none
theorem V6 {K : PySem.W.Frag} : OpD (zaM K) zcf := by
  intro F H x y d e z Q s ax ay ez q
  cases d <;> try cases ez
  cases e <;> try cases ez
  unfold zcf at ez
  dsimp only at ez
  split at ez <;> cases ez
  rename_i hl
  obtain ⟨p, xs, rfl, hx, al⟩ := ax.tup_inv
  obtain ⟨p2, ys, rfl, hy, bl⟩ := ay.tup_inv
  refine ⟨p, p2, xs, ys, rfl, rfl, SqT.of (s _ _ hx), SqT.of (s _ _ hy), by rw [al.length, bl.length]; exact of_decide_eq_true hl, fun e1 => ?_, fun _ e2 => ?_, fun _ _ r hr => ?_⟩
  · subst e1
    have : (_ : List D) = [] := List.length_eq_zero_iff.mp al.length.symm
    subst this
    exact q F H _ (.refl s) (.tup hy bl)
  · subst e2
    have : (_ : List D) = [] := List.length_eq_zero_iff.mp bl.length.symm
    subst this
    rw [List.append_nil] at q
    exact q F H _ (.refl s) (.tup hx al)
  · have g := Gr.alloc s hr (.tup (xs ++ ys))
    exact q _ _ _ g (.tup zo ((al.append bl).mono g.ff))
theorem zaf : OpD zdF WL := by
  intro F H x y d e z Q s ax ay ez q
  cases d <;> try cases ez
  cases e <;> try cases ez
  unfold WL zaU at ez
  dsimp only at ez
  split at ez <;> cases ez
  rename_i hl
  obtain ⟨p, xs, rfl, hx, al⟩ := ax.lst_inv
  obtain ⟨p2, ys, rfl, hy, bl⟩ := ay.lst_inv
  refine ⟨p, p2, xs, ys, rfl, rfl, s _ _ hx, s _ _ hy, by rw [al.length, bl.length]; exact of_decide_eq_true hl, fun r hr => ?_⟩
  have g := Gr.alloc s hr (.lst (xs ++ ys))
  exact q _ _ _ g (.lst zo ((al.append bl).mono g.ff))
theorem zam : OpD (fun x y H Q => ∃ i j, x = .str i ∧ y = .str j ∧ i.length + j.length ≤ sizeLine ∧ Q (.str (i ++ j)) H) zbN := by
  intro F H x y d e z Q s ax ay ez q
  cases d <;> try cases ez
  cases e <;> try cases ez
  unfold zbN at ez
  dsimp only at ez
  split at ez <;> cases ez
  rename_i hl
  exact ⟨_, _, ax.str_inv, ay.str_inv, of_decide_eq_true hl, q F H _ (.refl s) .str⟩
noncomputable def x8 : D → D → Option D
  | .int i, .int j => some (.int (i + j))
  | .tup a, .tup b => if lim (a.length + b.length) = true then some (.tup (a ++ b)) else none
  | .lst a, .lst b => if lim (a.length + b.length) = true then some (.lst (a ++ b)) else none
  | .str a, .str b => if lim (a.length + b.length) = true then some (.str (a ++ b)) else none
  | _, _ => none
theorem ZK {r : R2} {g g' : D → D → Option D} (h : OpD r g) (k : ∀ d e z, g' d e = some z → g d e = some z) : OpD r g' := fun F H x y d e z Q s ax ay ez q => h F H x y d e z Q s ax ay (k d e z ez) q
theorem zZ {f h : Ev → Option D} (ha : ED X a f) (hb : ED X b h) : ED X (.BinOp a .Add b pos) (zp x8 f h) :=
  Yb (((zcm.or zap).or Zl).or X4) (ZK (ZG (ZG (ZG (vW (g := fun i j => i + j)) V6) zaf) zam) fun d e z h => by
    cases d <;> try cases h
    all_goals cases e <;> try cases h
    · rfl
    · unfold x8 at h; dsimp only at h; split at h <;> cases h; rename_i hl; simp [ww, zcf, hl, WL, zaU, zbN]
    · unfold x8 at h; dsimp only at h; split at h <;> cases h; rename_i hl; simp [ww, zcf, hl, WL, zaU, zbN]
    · unfold x8 at h; dsimp only at h; split at h <;> cases h; rename_i hl; simp [ww, zcf, hl, WL, zaU, zbN]) ha hb
noncomputable def fBin (g : D → D → Option (List D)) (f h : Ev → Option D) : Ev → Option (List D) := fun ρ => (f ρ).bind fun x => (h ρ).bind fun y => g x y
theorem zai {F H F1 H1 : Hp} {p : Addr} (g1 : Gr F H F1 H1) (hp : H1 p = none) : H p = none := by
  cases e : H p with
  | none => rfl
  | some o =>
    cases e2 : F p with
    | none => rw [(g1.kp p o e2 e).2] at hp; cases hp
    | some u => rw [g1.fh _ _ (g1.ff _ _ e2)] at hp; cases hp
theorem zbX {f h : Ev → Option D} (ha : ED X a f) (hb : ED X b h) : FL X (.BinOp a .Add b pos) (fBin zaU f h) := by
  obtain ⟨ta, pa, ra⟩ := ha
  obtain ⟨tb, pb, rb⟩ := hb
  refine ⟨_, Vv Zl pa pb, fun σ ρ F H z Q s va e q => ?_⟩
  obtain ⟨x, e1, e3⟩ := Option.bind_eq_some_iff.mp e
  obtain ⟨y, e2, ez⟩ := Option.bind_eq_some_iff.mp e3
  clear e e3
  refine ra σ ρ F H x _ s va e1 fun F1 H1 v g1 a1 => ?_
  refine rb σ ρ F1 H1 y _ g1.fh (va.mono g1.ff) e2 fun F2 H2 u g2 a2 => ?_
  cases x <;> try cases ez
  cases y <;> try cases ez
  unfold zaU at ez
  dsimp only at ez
  split at ez <;> cases ez
  rename_i hl
  obtain ⟨p, xs, rfl, hx, al⟩ := (a1.mono g2.ff).lst_inv
  obtain ⟨p2, ys, rfl, hy, bl⟩ := a2.lst_inv
  refine ⟨p, p2, xs, ys, rfl, rfl, g2.fh _ _ hx, g2.fh _ _ hy, by rw [al.length, bl.length]; exact of_decide_eq_true hl, fun r hr => ?_⟩
  exact q _ _ _ _ ((g1.trans g2).trans (Gr.hide g2.fh hr _)) (zai (g1.trans g2) hr) (g2.fh.free hr) zo (al.append bl)
noncomputable def vJ (i j : Int) : Bool := decide ((-(2 ^ 64) < i ∧ i < 2 ^ 64) ∨ (-(2 ^ 64) < j ∧ j < 2 ^ 64))
noncomputable def zdm : D → D → Option (List D)
  | .lst a, .int k => if -(2 ^ 63) ≤ k ∧ k < 2 ^ 63 ∧ lim (a.length * k.toNat) = true then some (List.replicate k.toNat a).flatten else none
  | _, _ => none
noncomputable def VR (d e : D) : Option D := (zdm d e).map .lst
noncomputable def vo : D → D → Option D
  | .int i, .int j => if vJ i j = true then some (.int (i * j)) else none
  | .lst a, .int k => if -(2 ^ 63) ≤ k ∧ k < 2 ^ 63 ∧ lim (a.length * k.toNat) = true then some (.lst (List.replicate k.toNat a).flatten) else none
  | _, _ => none
theorem VI : OpD rRep VR := by
  intro F H x y d e z Q s ax ay ez q
  cases d <;> try cases ez
  cases e <;> try cases ez
  unfold VR zdm at ez
  dsimp only at ez
  split at ez <;> cases ez
  rename_i hl
  obtain ⟨p, xs, rfl, hx, al⟩ := ax.lst_inv
  refine ⟨p, _, xs, rfl, ay.int_inv, s _ _ hx, hl.1, hl.2.1, by rw [al.length]; exact of_decide_eq_true hl.2.2, fun r hr => ?_⟩
  rename_i ds k
  have g := Gr.alloc s hr (.lst (List.replicate k.toNat xs).flatten)
  exact q _ _ _ g (.lst zo ((al.rep _).mono g.ff))
theorem Zq {f h : Ev → Option D} (ha : ED X a f) (hb : ED X b h) : ED X (.BinOp a .Mult b pos) (zp vo f h) :=
  Yb (zcY.or zcL) (ZK (ZG (YU (Cb := vJ) (g := fun i j => i * j) fun i j h => by have h' := of_decide_eq_true (show decide ((-(2 ^ 64) < i ∧ i < 2 ^ 64) ∨ (-(2 ^ 64) < j ∧ j < 2 ^ 64)) = true from h); exact h') VI) fun d e z h => by
    cases d <;> try cases h
    all_goals cases e <;> try cases h
    · unfold vo at h; dsimp only at h; split at h <;> cases h; rename_i hl; simp [ZW, hl]
    · unfold vo at h; dsimp only at h; split at h <;> cases h; rename_i hl; show (VR _ _) = _; unfold VR zdm; dsimp only; rw [if_pos hl]; rfl) ha hb
noncomputable def ZJ := ww fun i j => i - j
noncomputable def xH := ZW (fun _ j => decide (0 < j ∧ j < 1606938044258990275541962092341162602522202993782792835301376)) fun i j => i / j
noncomputable def wF := ZW (fun _ j => decide (0 < j)) fun i j => i % j
noncomputable def xorD := ww fun i j => Builtin.bitXor i j
theorem XF {f h : Ev → Option D} (ha : ED X a f) (hb : ED X b h) : ED X (.BinOp a .Sub b pos) (zp ZJ f h) := Yb zcK vW ha hb
theorem zak : OpR X (binaryOp .FloorDiv) (rI (fun _ j => 0 < j ∧ j < 1606938044258990275541962092341162602522202993782792835301376) fun i j => .int (i / j)) := opI fun i j _ _ _ _ _ hc q => by
  have h1 : (0 : Int) < j := hc.1
  have h2 : j < 1606938044258990275541962092341162602522202993782792835301376 := hc.2
  refine PyProof.Rows.floordiv_int (by omega) (by rw [Int.fdiv_eq_ediv_of_nonneg i (by omega)]; exact q) (.inl (PyProof.noPylong_of_log2 ?_))
  have h0 : j.natAbs ≠ 0 := by omega
  have h3 : j.natAbs < 1606938044258990275541962092341162602522202993782792835301376 := by omega
  have h4 : j.natAbs.log2 < 200 := (Nat.log2_lt h0).mpr h3
  omega
theorem vh {f h : Ev → Option D} (ha : ED X a f) (hb : ED X b h) : ED X (.BinOp a .FloorDiv b pos) (zp xH f h) := Yb zak (YU fun _ _ h => by have h' := of_decide_eq_true h; exact h') ha hb
theorem wa {f h : Ev → Option D} (ha : ED X a f) (hb : ED X b h) : ED X (.BinOp a .Mod b pos) (zp wF f h) := Yb zcC (YU fun _ _ h => by have h' := of_decide_eq_true h; exact h') ha hb
theorem zbU {f h : Ev → Option D} (ha : ED X a f) (hb : ED X b h) : ED X (.BinOp a .BitXor b pos) (zp xorD f h) := Yb zcu vW ha hb
noncomputable def ltD := ZP fun i j => decide (i < j)
noncomputable def leD := ZP fun i j => decide (i ≤ j)
noncomputable def gtD := ZP fun i j => decide (j < i)
noncomputable def geD := ZP fun i j => decide (j ≤ i)
noncomputable def eqS : D → D → Option Bool
  | .non, .non => some true
  | .int i, .int j => some (decide (i = j))
  | .bl i, .bl j => some (decide (i = j))
  | .str i, .str j => some (decide (i = j))
  | .non, .int _ => some false | .int _, .non => some false | .non, .bl _ => some false | .bl _, .non => some false | .non, .str _ => some false | .str _, .non => some false
  | .int _, .str _ => some false | .str _, .int _ => some false | .bl _, .str _ => some false | .str _, .bl _ => some false
  | _, _ => none
noncomputable def eqD (d e : D) : Option D := (eqS d e).map .bl
noncomputable def neD (d e : D) : Option D := (eqS d e).map fun c => .bl (!c)
theorem zaS : OpD rEq eqD := by
  intro F H x y d e z Q s ax ay ez q
  obtain ⟨c, e1, rfl⟩ := Option.map_eq_some_iff.mp ez
  cases d <;> cases e <;> try cases e1
  · cases ax.non_inv; cases ay.non_inv; exact ⟨rfl, q F H _ (.refl s) .bl⟩
  · cases ax.non_inv; cases ay.bl_inv; exact ⟨rfl, q F H _ (.refl s) .bl⟩
  · cases ax.non_inv; cases ay.int_inv; exact ⟨rfl, q F H _ (.refl s) .bl⟩
  · cases ax.non_inv; cases ay.str_inv; exact ⟨rfl, q F H _ (.refl s) .bl⟩
  · cases ax.bl_inv; cases ay.non_inv; exact ⟨rfl, q F H _ (.refl s) .bl⟩
  · cases ax.bl_inv; cases ay.bl_inv; refine ⟨rfl, ?_⟩; rw [show ∀ i j : Bool, decide (V.bl i = V.bl j) = decide (i = j) from fun i j => by simp]; exact q F H _ (.refl s) .bl
  · cases ax.bl_inv; cases ay.str_inv; exact ⟨rfl, q F H _ (.refl s) .bl⟩
  · cases ax.int_inv; cases ay.non_inv; exact ⟨rfl, q F H _ (.refl s) .bl⟩
  · cases ax.int_inv; cases ay.int_inv; refine ⟨rfl, ?_⟩; rw [show ∀ i j : Int, decide (V.int i = V.int j) = decide (i = j) from fun i j => by simp]; exact q F H _ (.refl s) .bl
  · cases ax.int_inv; cases ay.str_inv; exact ⟨rfl, q F H _ (.refl s) .bl⟩
  · cases ax.str_inv; cases ay.non_inv; exact ⟨rfl, q F H _ (.refl s) .bl⟩
  · cases ax.str_inv; cases ay.bl_inv; exact ⟨rfl, q F H _ (.refl s) .bl⟩
  · cases ax.str_inv; cases ay.int_inv; exact ⟨rfl, q F H _ (.refl s) .bl⟩
  · cases ax.str_inv; cases ay.str_inv; refine ⟨rfl, ?_⟩; rw [show ∀ i j : Str, decide (V.str i = V.str j) = decide (i = j) from fun i j => by simp]; exact q F H _ (.refl s) .bl
theorem Yv : OpD rNe neD := by
  intro F H x y d e z Q s ax ay ez q
  obtain ⟨c, e1, rfl⟩ := Option.map_eq_some_iff.mp ez
  have := zaS F H x y d e (.bl c) (fun v H' => ∃ b, v = .bl b ∧ Q (.bl (!b)) H') s ax ay (by unfold eqD; rw [e1]; rfl) fun F' H' v g av => ⟨c, av.bl_inv, q F' H' _ g .bl⟩
  obtain ⟨h1, b, h2, h3⟩ := this
  cases h2
  exact ⟨h1, h3⟩
noncomputable def Xq : D → D → Option D
  | d, .non => some (.bl (match d with | .non => true | _ => false))
  | .bl a, .bl b => some (.bl (a == b))
  | _, _ => none
noncomputable def yo : D → D → Option D
  | d, .non => some (.bl (match d with | .non => false | _ => true))
  | .bl a, .bl b => some (.bl (!(a == b)))
  | _, _ => none
theorem WI {F : Hp} {d : D} {x : V} (h : At F d x) : decide (x = V.non) = (match d with | .non => true | _ => false) := by
  cases d with
  | non => cases h.non_inv; rfl
  | bl b => cases h.bl_inv; rfl
  | int b => cases h.int_inv; rfl
  | str b => cases h.str_inv; rfl
  | tup ds => obtain ⟨a, xs, rfl, _⟩ := h.tup_inv; rfl
  | lst ds => obtain ⟨a, xs, rfl, _⟩ := h.lst_inv; rfl
  | scr ds => obtain ⟨a, rfl, _⟩ := h.scr_inv; rfl
  | dct z t ks vs => obtain ⟨a, xs, rfl, _⟩ := h.dct_inv; rfl
theorem Vx : OpD (fun x y H Q => (y = .non ∧ Q (.bl (decide (x = .non))) H) ∨ ∃ i j, x = .bl i ∧ y = .bl j ∧ Q (.bl (i == j)) H) Xq := by
  intro F H x y d e z Q s ax ay ez q
  unfold Xq at ez
  split at ez
  · cases ez
    refine .inl ⟨ay.non_inv, ?_⟩
    rw [WI ax]
    have := q F H _ (.refl s) .bl
    cases d <;> exact this
  · cases ez
    exact .inr ⟨_, _, ax.bl_inv, ay.bl_inv, q F H _ (.refl s) .bl⟩
  · cases ez
theorem wZ : OpD (fun x y H Q => (y = .non ∧ Q (.bl (!decide (x = .non))) H) ∨ ∃ i j, x = .bl i ∧ y = .bl j ∧ Q (.bl (!(i == j))) H) yo := by
  intro F H x y d e z Q s ax ay ez q
  unfold yo at ez
  split at ez
  · cases ez
    refine .inl ⟨ay.non_inv, ?_⟩
    rw [WI ax]
    have := q F H _ (.refl s) .bl
    cases d <;> exact this
  · cases ez
    exact .inr ⟨_, _, ax.bl_inv, ay.bl_inv, q F H _ (.refl s) .bl⟩
  · cases ez
theorem zaE : OpR X (compareOp .Is) (fun x y H Q => (y = .non ∧ Q (.bl (decide (x = .non))) H) ∨ ∃ i j, x = .bl i ∧ y = .bl j ∧ Q (.bl (i == j)) H) := zbH.or VH
theorem vV : OpR X (compareOp .IsNot) (fun x y H Q => (y = .non ∧ Q (.bl (!decide (x = .non))) H) ∨ ∃ i j, x = .bl i ∧ y = .bl j ∧ Q (.bl (!(i == j))) H) := za4.or ZT
noncomputable def xA (g g' : D → D → Option D) (f h k : Ev → Option D) : Ev → Option D := fun ρ => (f ρ).bind fun x => (h ρ).bind fun y => ((g x y).bind asB).bind fun c => if c = true then (k ρ).bind fun z => g' y z else some (.bl false)
theorem zan {r r' : R2} {g g' : D → D → Option D} {ta tb tc : TE} {f h k : Ev → Option D} (hg : OpD r g) (hg' : OpD r' g') (ra : RE ta f) (rb : RE tb h) (rc : RE tc k) : RE (WM r r' ta tb tc) (xA g g' f h k) := by
  intro σ ρ F H z Q s va e q
  obtain ⟨x, e1, e⟩ := Option.bind_eq_some_iff.mp e
  obtain ⟨y, e2, e⟩ := Option.bind_eq_some_iff.mp e
  obtain ⟨c, e3, e⟩ := Option.bind_eq_some_iff.mp e
  obtain ⟨cd, e3, e4⟩ := Option.bind_eq_some_iff.mp e3
  cases wV e4
  refine ra σ ρ F H x _ s va e1 fun F1 H1 v g1 a1 => ?_
  refine rb σ ρ F1 H1 y _ g1.fh (va.mono g1.ff) e2 fun F2 H2 u g2 a2 => ?_
  refine hg F2 H2 v u x y _ _ g2.fh (a1.mono g2.ff) a2 e3 fun F3 H3 w g3 a3 => ⟨c, a3.bl_inv, ?_⟩
  have g123 := (g1.trans g2).trans g3
  cases c with
  | true =>
    rw [if_pos rfl] at e ⊢
    obtain ⟨z', e5, e6⟩ := Option.bind_eq_some_iff.mp e
    refine rc σ ρ F3 H3 z' _ g3.fh (va.mono g123.ff) e5 fun F4 H4 w4 g4 a4 => ?_
    exact hg' F4 H4 u w4 y z' z Q g4.fh (a2.mono (g3.ff.trans g4.ff)) a4 e6 fun F5 H5 w5 g5 a5 => q F5 H5 w5 ((g123.trans g4).trans g5) a5
  | false =>
    rw [if_neg Bool.false_ne_true] at e ⊢
    cases e
    exact q F3 H3 _ g123 .bl
theorem V1 {op op' : CmpOp} {r r' : R2} {g g' : D → D → Option D} {f h k : Ev → Option D} (ho : OpR X (compareOp op) r) (ho' : OpR X (compareOp op') r') (hg : OpD r g) (hg' : OpD r' g') (ha : ED X a f) (hb : ED X b h) (hc : ED X c k)
    (pch : ∀ {ta tb tc : TE}, PE X a ta → PE X b tb → PE X c tc → PE X (.Compare a [op, op'] [b, c] pos) (WM r r' ta tb tc)) : ED X (.Compare a [op, op'] [b, c] pos) (xA g g' f h k) :=
  let ⟨_, pa, ra⟩ := ha
  let ⟨_, pb, rb⟩ := hb
  let ⟨_, pc, rc⟩ := hc
  ⟨_, pch pa pb pc, zan hg hg' ra rb rc⟩
noncomputable def ixD : D → D → Option D
  | .lst ds, .int i => atI ds i
  | .tup ds, .int i => atI ds i
  | .scr ns, .int i => (atI ns i).map .int
  | _, _ => none
theorem AtL.atI {F : Hp} {ds : List D} {xs : List V} {i : Int} {d : D} (al : AtL F ds xs) (h : L2.atI ds i = some d) : ∃ x, L2.atI xs i = some x ∧ At F d x := by
  unfold L2.atI at h ⊢
  obtain ⟨j, e1, e2⟩ := Option.bind_eq_some_iff.mp h
  obtain ⟨x, hx, ax⟩ := al.get e2
  exact ⟨x, by rw [al.length, e1]; exact hx, ax⟩
theorem zbJ : OpD (rIx KK.K) ixD := by
  intro F H x y d e z Q s ax ay ez q
  cases e <;> try (cases d <;> cases ez)
  cases ay.int_inv
  cases d with
  | lst ds =>
    obtain ⟨p, xs, rfl, hx, al⟩ := ax.lst_inv
    obtain ⟨v, e1, av⟩ := al.atI ez
    exact .inl ⟨p, xs, _, v, rfl, rfl, SqL.of (s _ _ hx), e1, q F H _ (.refl s) av⟩
  | tup ds =>
    obtain ⟨p, xs, rfl, hx, al⟩ := ax.tup_inv
    obtain ⟨v, e1, av⟩ := al.atI ez
    exact .inr (.inl ⟨p, xs, _, v, rfl, rfl, SqT.of (s _ _ hx), e1, q F H _ (.refl s) av⟩)
  | scr ns =>
    obtain ⟨p, rfl, hx⟩ := ax.scr_inv
    obtain ⟨n, e1, rfl⟩ := Option.map_eq_some_iff.mp ez
    refine .inl ⟨p, ns.map V.int, _, .int n, rfl, rfl, s.seq hx, ?_, q F H _ (.refl s) .int⟩
    unfold L2.atI at e1 ⊢
    rw [List.length_map]
    obtain ⟨j, e2, e3⟩ := Option.bind_eq_some_iff.mp e1
    rw [e2]
    show (ns.map V.int)[j]? = _
    rw [List.getElem?_map, e3]
    rfl
  | _ => cases ez
theorem wL {f h : Ev → Option D} (ha : ED X a f) (hb : ED X b h) (hs : YQ b) (hK : X.K = KK.K := by rfl) : ED X (.Subscript a b pos) (zp ixD f h) :=
  let ⟨_, pa, ra⟩ := ha
  let ⟨_, pb, rb⟩ := hb
  ⟨_, zcd zcX pa pb hs, zat (by rw [hK]; exact zbJ) ra rb⟩
noncomputable def Wb {α : Type} (xs : List α) (lo hi : Option Int) : List α := (xs.drop (HT.sIx xs.length 0 lo)).take (HT.sIx xs.length xs.length hi - HT.sIx xs.length 0 lo)
theorem AtL.cut {F : Hp} {ds : List D} {xs : List V} {lo hi : Option Int} (al : AtL F ds xs) : AtL F (Wb ds lo hi) (Xc xs lo hi) := by
  unfold Wb Xc
  rw [al.length]
  exact (al.drop _).take _
noncomputable def OD (X : Cx) (e : Option Expr) (f : Ev → Option (Option Int)) : Prop := ∃ t, PO X e t ∧ ∀ (σ : St) (ρ : Ev) (F H : Hp) (i : Option Int) (Q : Option Int → Hp → Prop), yg F H → VAt F ρ σ → f ρ = some i → (∀ F' H', Gr F H F' H' → Q i H') → t σ H Q
noncomputable def wI : Ev → Option (Option Int) := fun _ => some none
noncomputable def asI : D → Option Int
  | .int i => some i
  | _ => none
noncomputable def wE (f : Ev → Option D) : Ev → Option (Option Int) := fun ρ => ((f ρ).bind asI).map some
theorem WG : OD X none wI := ⟨_, zbh, fun _ _ _ _ _ _ s _ e q => by cases e; exact q _ _ (.refl s)⟩
theorem Vn {f : Ev → Option D} (h : ED X e f) : OD X (some e) (wE f) := by
  obtain ⟨t, p, r⟩ := h
  refine ⟨_, zby p, fun σ ρ F H i Q s va e q => ?_⟩
  obtain ⟨j, e1, rfl⟩ := Option.map_eq_some_iff.mp e
  obtain ⟨d, e1, e2⟩ := Option.bind_eq_some_iff.mp e1
  cases d <;> cases e2
  exact r σ ρ F H _ _ s va e1 fun F1 H1 v g1 a1 => ⟨_, a1.int_inv, q F1 H1 g1⟩
noncomputable def slD : D → Option Int → Option Int → Option D
  | .lst ds, lo, hi => some (.lst (Wb ds lo hi))
  | .scr ns, lo, hi => some (.lst ((Wb ns lo hi).map .int))
  | .tup ds, lo, hi => some (.tup (Wb ds lo hi))
  | _, _, _ => none
noncomputable def eSl (g : D → Option Int → Option Int → Option D) (f : Ev → Option D) (l h : Ev → Option (Option Int)) : Ev → Option D := fun ρ => (f ρ).bind fun d => (l ρ).bind fun lo => (h ρ).bind fun hi => g d lo hi
omit [KK] in
theorem zau {ns : List Int} {lo hi : Option Int} : Xc (ns.map V.int) lo hi = (Wb ns lo hi).map V.int := by
  unfold Xc Wb
  rw [List.length_map, List.map_take, List.map_drop]
end
end Dl
namespace L2
open PySem PySem.Spec PyProof.Rows
noncomputable def rSlN : V → Option Int → Option Int → Hp → VK → Prop := fun x lo hi H Q => ∃ a xs, x = .ref a ∧ H a = some (.tup xs) ∧ (Xc xs lo hi = xs → Q (.ref a) H) ∧ ∀ p, H p = none → Q (.ref p) (upd H p (.tup (Xc xs lo hi)))
theorem zbe {X : Cx} : SlR X rSlN := by
  intro pins s σ H x v vl vu lo hi sl Q I rx hs pl pu h
  obtain ⟨a, xs, rfl, hx, q1, q2⟩ := h
  by_cases hw : HT.sIx xs.length 0 lo = 0 ∧ HT.sIx xs.length xs.length hi = xs.length
  · cases rx
    obtain ⟨its, r, ht, hz⟩ := I.tuple (SqT.of hx)
    have hlen : its.toArray.size = xs.length := by rw [List.size_toArray]; exact r.length.symm
    refine ⟨"tuple", _, PyProof.Rows.slot_tuple_getitem.lookup, ht.typeIs, ?_⟩
    refine HT.own_getItem_whole ht hs pl pu (by rw [hlen]; exact hw) ⟨.ref a, H, I, rfl, q1 ?_⟩
    unfold Xc
    rw [hw.1, hw.2, List.drop_zero, Nat.sub_zero, List.take_length]
  · exact zbI pins s σ H (.ref a) v vl vu lo hi sl Q I rx hs pl pu ⟨a, xs, rfl, SqT.of hx, hw, q2⟩
end L2
namespace Dl
open PySem L2
variable [KK]
section
variable {X : Cx} {a b c e : Expr} {pos : Pos}
theorem Xu {lo hi : Option Expr} {p2 : Pos} {f : Ev → Option D} {l h : Ev → Option (Option Int)} (ha : ED X a f) (hl : OD X lo l) (hh : OD X hi h) (hK : X.K = KK.K := by rfl) : ED X (.Subscript a (.Slice lo hi none p2) pos) (eSl slD f l h) := by
  obtain ⟨ta, pa, ra⟩ := ha
  obtain ⟨tl, ppl, rl⟩ := hl
  obtain ⟨th, ph, rh⟩ := hh
  refine ⟨_, V7 (zbc.or zbe) pa ppl ph, fun σ ρ F H z Q s va e q => ?_⟩
  obtain ⟨d, e1, e⟩ := Option.bind_eq_some_iff.mp e
  obtain ⟨i, e2, e⟩ := Option.bind_eq_some_iff.mp e
  obtain ⟨j, e3, e⟩ := Option.bind_eq_some_iff.mp e
  refine ra σ ρ F H d _ s va e1 fun F1 H1 v g1 a1 => ?_
  refine rl σ ρ F1 H1 i _ g1.fh (va.mono g1.ff) e2 fun F2 H2 g2 => ?_
  refine rh σ ρ F2 H2 j _ g2.fh (va.mono (g1.ff.trans g2.ff)) e3 fun F3 H3 g3 => ?_
  have g123 := (g1.trans g2).trans g3
  have a3 := a1.mono (g2.ff.trans g3.ff)
  cases d <;> try cases e
  · obtain ⟨p, xs, rfl, hx, al⟩ := a3.tup_inv
    refine .inr ⟨p, xs, rfl, g3.fh _ _ hx, fun ec => ?_, fun r hr => ?_⟩
    · have := al.cut (lo := i) (hi := j)
      rw [ec] at this
      exact q F3 H3 _ g123 (.tup hx this)
    · have g := Gr.alloc g3.fh hr (.tup (Xc xs i j))
      exact q _ _ _ (g123.trans g) (.tup zo (al.cut.mono g.ff))
  · obtain ⟨p, xs, rfl, hx, al⟩ := a3.lst_inv
    refine .inl ⟨p, xs, rfl, SqL.of (g3.fh _ _ hx), fun r hr => ?_⟩
    have g := Gr.alloc g3.fh hr (.lst (Xc xs i j))
    exact q _ _ _ (g123.trans g) (.lst zo (al.cut.mono g.ff))
  · rename_i ns _ _
    obtain ⟨p, rfl, hx⟩ := a3.scr_inv
    refine .inl ⟨p, _, rfl, (by rw [hK]; exact g3.fh.seq hx), fun r hr => ?_⟩
    rw [zau]
    have g := Gr.alloc g3.fh hr (.lst ((Wb ns i j).map V.int))
    exact q _ _ _ (g123.trans g) (.lst zo (.ints _))
noncomputable def CaD (r : List V → Hp → VK → Prop) (g : List D → Option D) : Prop := ∀ (F H : Hp) (vs : List V) (ds : List D) (z : D) (Q : VK), yg F H → AtL F ds vs → g ds = some z → (∀ F' H' v, Gr F H F' H' → At F' z v → Q v H') → r vs H Q
noncomputable def eFn (g : List D → Option D) (f : Ev → Option (List D)) : Ev → Option D := fun ρ => (f ρ).bind g
noncomputable def fFn (g : List D → Option (List D)) (f : Ev → Option (List D)) : Ev → Option (List D) := fun ρ => (f ρ).bind g
theorem yV {x : Str} {id : String} {p : Pos} {es : List Expr} {r : List V → Hp → VK → Prop} {g : List D → Option D} {f : Ev → Option (List D)} (hc : vC X (.builtin id) r) (hg : CaD r g) (hgl : Gl X x) (hm : X.mg x = none) (hv : bootBuiltins x = some (.builtin id)) (ha : AD X (e :: es) f)
    (hn : x ≠ "__name__" := by decide) (hdb : (x == ("__debug__" : Str)) = false := by decide) (he : starEach (e :: es) X.env = (false, eval e X.env) :: starEach es X.env := by rfl) (hpl : (backTo pos (starEach es X.env)).any (·.1) = false := by rfl) :
    ED X (.Call (.Name x p) (e :: es) [] pos) (eFn g f) := by
  obtain ⟨t, pa, ra⟩ := ha
  refine ⟨_, zR hc hgl hm hv pa hn hdb he hpl, fun σ ρ F H z Q s va e q => ?_⟩
  obtain ⟨ds, e1, e2⟩ := Option.bind_eq_some_iff.mp e
  refine ra σ ρ F H ds _ s va e1 fun F1 H1 vs g1 a1 => ?_
  exact hg F1 H1 vs ds z Q g1.fh a1 e2 fun F' H' v g av => q F' H' v (g1.trans g) av
theorem wS {x : Str} {T : String} {p : Pos} {es : List Expr} {r : List V → Hp → VK → Prop} {g : List D → Option D} {f : Ev → Option (List D)} (hc : vC X (.type T) r) (hg : CaD r g) (hgl : Gl X x) (hm : X.mg x = none) (hv : bootBuiltins x = some (.type T)) (ha : AD X (e :: es) f)
    (hn : x ≠ "__name__" := by decide) (hdb : (x == ("__debug__" : Str)) = false := by decide) (he : starEach (e :: es) X.env = (false, eval e X.env) :: starEach es X.env := by rfl) (hpl : (backTo pos (starEach es X.env)).any (·.1) = false := by rfl) :
    ED X (.Call (.Name x p) (e :: es) [] pos) (eFn g f) := by
  obtain ⟨t, pa, ra⟩ := ha
  refine ⟨_, Zr hc hgl hm hv pa hn hdb he hpl, fun σ ρ F H z Q s va e q => ?_⟩
  obtain ⟨ds, e1, e2⟩ := Option.bind_eq_some_iff.mp e
  refine ra σ ρ F H ds _ s va e1 fun F1 H1 vs g1 a1 => ?_
  exact hg F1 H1 vs ds z Q g1.fh a1 e2 fun F' H' v g av => q F' H' v (g1.trans g) av
noncomputable def vT : List D → Option D
  | [.lst ds] => some (.int ds.length)
  | [.tup ds] => some (.int ds.length)
  | [.scr ds] => some (.int ds.length)
  | _ => none
theorem xG : CaD (fun xs H Q => ∃ p ys, xs = [.ref p] ∧ (SqL KK.K H p ys ∨ SqT KK.K H p ys) ∧ Q (.int ys.length) H) vT := by
  intro F H vs ds z Q s al e q
  unfold vT at e
  split at e <;> cases e
  all_goals
    obtain ⟨x, r, rfl, ax, ar⟩ := al.cons_inv
    cases ar.nil_inv
  · obtain ⟨p, xs, rfl, hx, bl⟩ := ax.lst_inv
    exact ⟨p, xs, rfl, .inl (SqL.of (s _ _ hx)), by rw [bl.length]; exact q F H _ (.refl s) .int⟩
  · obtain ⟨p, xs, rfl, hx, bl⟩ := ax.tup_inv
    exact ⟨p, xs, rfl, .inr (SqT.of (s _ _ hx)), by rw [bl.length]; exact q F H _ (.refl s) .int⟩
  · obtain ⟨p, rfl, hx⟩ := ax.scr_inv
    exact ⟨p, _, rfl, .inl ((s.seq hx)), by rw [List.length_map]; exact q F H _ (.refl s) .int⟩
noncomputable def xc : List D → Option D
  | [.lst ds] => some (.tup ds)
  | [.tup ds] => some (.tup ds)
  | _ => none
theorem v0 {K : PySem.W.Frag} : CaD (fun xs H Q => ∃ p ys, xs = [.ref p] ∧ ((SqL K H p ys ∧ ∀ l, H l = none → Q (.ref l) (upd H l (.tup ys))) ∨ (SqT K H p ys ∧ Q (.ref p) H))) xc := by
  intro F H vs ds z Q s al e q
  unfold xc at e
  split at e <;> cases e
  all_goals
    obtain ⟨x, r, rfl, ax, ar⟩ := al.cons_inv
    cases ar.nil_inv
  · obtain ⟨p, xs, rfl, hx, bl⟩ := ax.lst_inv
    refine ⟨p, xs, rfl, .inl ⟨SqL.of (s _ _ hx), fun l hl => ?_⟩⟩
    have g := Gr.alloc s hl (.tup xs)
    exact q _ _ _ g (.tup zo (bl.mono g.ff))
  · obtain ⟨p, xs, rfl, hx, bl⟩ := ax.tup_inv
    exact ⟨p, xs, rfl, .inr ⟨SqT.of (s _ _ hx), q F H _ (.refl s) (.tup hx bl)⟩⟩
noncomputable def vc : List D → Option (List D)
  | [.lst ds] => some ds
  | [.tup ds] => some ds
  | [.scr ns] => some (ns.map .int)
  | _ => none
theorem zbl {p : Pos} {f : Ev → Option (List D)} (hgl : Gl X "list") (hm : X.mg "list" = none) (ha : AD X [e] f) (hK : X.K = KK.K := by rfl)
    (he : starEach [e] X.env = (false, eval e X.env) :: starEach [] X.env := by rfl) (hpl : (backTo pos (starEach [] X.env)).any (·.1) = false := by rfl) : FL X (.Call (.Name "list" p) [e] [] pos) (fFn vc f) := by
  obtain ⟨t, pa, ra⟩ := ha
  refine ⟨_, Zr Zw hgl hm ZU pa (by decide) (by decide) he hpl, fun σ ρ F H z Q s va e q => ?_⟩
  obtain ⟨ds, e1, e2⟩ := Option.bind_eq_some_iff.mp e
  refine ra σ ρ F H ds _ s va e1 fun F1 H1 vs g1 a1 => ?_
  unfold vc at e2
  split at e2 <;> cases e2
  all_goals
    obtain ⟨x, r, rfl, ax, ar⟩ := a1.cons_inv
    cases ar.nil_inv
  · obtain ⟨p, xs, rfl, hx, bl⟩ := ax.lst_inv
    exact ⟨p, xs, rfl, .inl (SqL.of (g1.fh _ _ hx)), fun l hl => q _ _ _ _ (g1.trans (Gr.hide g1.fh hl _)) (zai g1 hl) (g1.fh.free hl) zo bl⟩
  · obtain ⟨p, xs, rfl, hx, bl⟩ := ax.tup_inv
    exact ⟨p, xs, rfl, .inr (SqT.of (g1.fh _ _ hx)), fun l hl => q _ _ _ _ (g1.trans (Gr.hide g1.fh hl _)) (zai g1 hl) (g1.fh.free hl) zo bl⟩
  · obtain ⟨p, rfl, hx⟩ := ax.scr_inv
    exact ⟨p, _, rfl, .inl (by rw [hK]; exact g1.fh.seq hx), fun l hl => q _ _ _ _ (g1.trans (Gr.hide g1.fh hl _)) (zai g1 hl) (g1.fh.free hl) zo (.ints _)⟩
inductive TyD (K : PySem.W.Frag) (H : Hp) : V → Value → Prop where
  | of {v : V} {t : Value} (h : Xv K H v t) : TyD K H v t
  | dd {a : Addr} {u : HO} (h : Rd H a u) (d : (∃ kvs, u = .dK kvs) ∨ ∃ kvs, u = .dT kvs) : TyD K H (.ref a) (.type "dict")
theorem ZF {X : Cx} : vC X (.builtin "isinstance") (fun xs H Q => ∃ x n t b, xs = [x, .ty n] ∧ TyD X.K H x t ∧ PySem.W.kitOne X.K t (.type n) = some b ∧ Q (.bl b) H) := by
  intro pins s σ H xs us Q I r h
  obtain ⟨x, n, t, b, rfl, ty, e, q⟩ := h
  cases ty with
  | of ty => exact ZR pins s σ H _ us Q I r ⟨x, n, t, b, rfl, ty, e, q⟩
  | @dd a u h d =>
    cases r with
    | cons r1 r2 =>
      cases r2 with
      | cons r3 r4 =>
        cases r4
        cases r1
        cases r3
        have ok := h.ok I.hok
        rcases d with ⟨kvs, rfl⟩ | ⟨kvs, rfl⟩
        · obtain ⟨_, _, vs, _, p⟩ := (show yX X.prog X.w H s.heap a (.dK kvs) from ok)
          obtain ⟨o, es, ep, h1, h2, _⟩ := p
          exact PySem.W.kia_one PySem.W.kitx_dict I.kIn ⟨o, h1, h2.1⟩ e (fun z => nomatch z) fun tk => ⟨.bl b, H, I.tok tk, rfl, q⟩
        · obtain ⟨_, _, xs, _, o, es, ep, h1, h2, _⟩ := (show yX X.prog X.w H s.heap a (.dT kvs) from ok)
          exact PySem.W.kia_one PySem.W.kitx_dict I.kIn ⟨o, h1, h2.1⟩ e (fun z => nomatch z) fun tk => ⟨.bl b, H, I.tok tk, rfl, q⟩
theorem At.ty {K : PySem.W.Frag} {F H : Hp} (s : yg F H) : ∀ {d : D} {v : V}, At F d v → (∀ ns, d ≠ .scr ns) → TyD K H v (.type (tyN d))
  | .non, _, h, _ => by cases h.non_inv; exact .of .non
  | .bl b, _, h, _ => by cases h.bl_inv; exact .of (.bl b)
  | .int i, _, h, _ => by cases h.int_inv; exact .of (.int i)
  | .str x, _, h, _ => by cases h.str_inv; exact .of (.str x)
  | .tup ds, _, h, _ => by obtain ⟨a, xs, rfl, e, _⟩ := h.tup_inv; exact .of (.tup (s _ _ e))
  | .lst ds, _, h, _ => by obtain ⟨a, xs, rfl, e, _⟩ := h.lst_inv; exact .of (.lst (s _ _ e))
  | .scr ns, _, _, n => absurd rfl (n ns)
  | .dct z t ks vs, _, h, _ => by
    obtain ⟨a, xs, rfl, d, _⟩ := h.dct_inv
    obtain ⟨u, e1, e2⟩ := (d.mono s).rd
    exact .dd e2 (by
      unfold zbQ at e1
      split at e1
      · obtain ⟨kvs, rfl, _⟩ := e1; exact .inr ⟨kvs, rfl⟩
      · obtain ⟨kvs, rfl, _⟩ := e1; exact .inl ⟨kvs, rfl⟩)
inductive Ty where
  | int | bool | tuple | list | str
noncomputable def Ty.nm : Ty → String
  | .int => "int" | .bool => "bool" | .tuple => "tuple" | .list => "list" | .str => "str"
noncomputable def isT : Ty → D → Bool
  | .int, .int _ => true | .int, .bl _ => true
  | .bool, .bl _ => true
  | .tuple, .tup _ => true
  | .list, .lst _ => true
  | .str, .str _ => true
  | _, _ => false
noncomputable def yH (n : Ty) : D → Option D
  | .scr _ => none
  | d => some (.bl (isT n d))
theorem zb8 (K : PySem.W.Frag) (n : Ty) (d : D) (h : ∀ ns, d ≠ .scr ns) : PySem.W.kitOne K (.type (tyN d)) (.type n.nm) = some (isT n d) := by
  cases n <;> cases d <;> first | exact absurd rfl (h _) | kernel_rfl
theorem zG {p : Pos} {f : Ev → Option D} (n : Ty) (hgl : Gl X "isinstance") (hm : X.mg "isinstance" = none) (ha : ED X a f) (hb : PE X b (tC (.ty n.nm)))
    (hs : starEach [a, b] X.env = (false, eval a X.env) :: starEach [b] X.env := by rfl) (hs2 : starEach [b] X.env = (false, eval b X.env) :: starEach [] X.env := by rfl) (hpl : (backTo pos (starEach [b] X.env)).any (·.1) = false := by rfl) :
    ED X (.Call (.Name "isinstance" p) [a, b] [] pos) (eUn (yH n) f) := by
  obtain ⟨t, pa, ra⟩ := ha
  refine ⟨_, zR ZF hgl hm zn (zl pa (zl hb ya hs2) hs) (by decide) (by decide) hs hpl, fun σ ρ F H z Q s va e q => ?_⟩
  obtain ⟨d, e1, e2⟩ := Option.bind_eq_some_iff.mp e
  refine ra σ ρ F H d _ s va e1 fun F1 H1 v g1 a1 => ?_
  have ns : ∀ ns, d ≠ .scr ns := fun ns h => by subst h; cases e2
  have e3 : z = .bl (isT n d) := by
    cases d <;> first | exact (Option.some.inj e2).symm | exact absurd rfl (ns _)
  subst e3
  exact ⟨v, n.nm, _, _, rfl, a1.ty g1.fh ns, zb8 _ n d ns, q F1 H1 _ g1 .bl⟩
noncomputable def Zz (m : Bool) (i : Nat) (f : Ev → Option D) : SE → Ctl := fun ρ => match (vEv m f ρ).bind fun d => match ρ[i]? with
    | some (.o ds) => if decide (ds.length < sizeLine) = true then some (ρ.set i (.o (ds ++ [d]))) else none
    | _ => none with
  | some ρ' => .nx ρ'
  | none => .no
theorem W1 {m : Bool} {i : Nat} {p pos' : Pos} {f : Ev → Option D} (ho : PE X a (XU i)) (he : ED X e f)
    (hp : ∀ {ta : TE} {t : TA}, PE X a ta → PA X [e] t → PE X (.Call (.Attribute a "append" p) [e] [] pos') (tBM X.K "list" Ww ta t)) (hsw : swapsWith (.Call (.Attribute a "append" p) [e] [] pos') none pos.line X.env = pure false := by rfl)
    (hs : starEach [e] X.env = (false, eval e X.env) :: starEach [] X.env := by rfl) : SD X (.Expr (.Call (.Attribute a "append" p) [e] [] pos') pos) (Zz m i f) := by
  obtain ⟨t, pe, re⟩ := he
  refine ⟨_, YW (hp ho (zl pe ya hs)) hsw, fun Fb Hb F H ρ σ E rl k => ?_⟩
  unfold Zz at k
  cases h : (vEv m f ρ).bind fun d => match ρ[i]? with
    | some (.o ds) => if decide (ds.length < sizeLine) = true then some (ρ.set i (.o (ds ++ [d]))) else none
    | _ => none with
  | none => rw [h] at k; exact k.elim
  | some ρ' =>
    rw [h] at k
    obtain ⟨d, e1, e2⟩ := Option.bind_eq_some_iff.mp h
    cases hs : ρ[i]? with
    | none => rw [hs] at e2; cases e2
    | some sl =>
      rw [hs] at e2
      cases sl with
      | no => cases e2
      | v _ => cases e2
      | m _ _ _ => cases e2
      | o ds =>
        dsimp only at e2
        split at e2 <;> cases e2
        rename_i hl
        obtain ⟨q, xs, f1, f2, f3, f4, f5⟩ := rl.owns i ds hs
        refine ⟨_, f1, .inl ⟨rfl, xs, SqL.of f4⟩, ?_⟩
        refine re.at rl e1 fun F' H' v g av => ?_
        have rl2 := rl.grow g
        obtain ⟨q2, xs2, f1', _, _, f4', f5'⟩ := rl2.owns i ds hs
        rw [f1] at f1'
        cases f1'
        refine ⟨q, xs2, v, rfl, rfl, f4', by rw [f5'.length]; exact of_decide_eq_true hl, ?_⟩
        exact k _ _ σ (rl2.mutate hs f1 (f5'.snoc av))
noncomputable def ZH (i : Nat) (f : Ev → Option D) : SE → Ctl := fun ρ => match (f (visF ρ)).bind fun d => match ρ[i]?, d with
    | some (.o ds), .lst es => if lim (ds.length + es.length) = true then some (ρ.set i (.o (ds ++ es))) else none
    | _, _ => none with
  | some ρ' => .nx ρ'
  | none => .no
theorem zcW {i : Nat} {p pos' : Pos} {f : Ev → Option D} (ho : PE X a (XU i)) (he : ED X e f)
    (hp : ∀ {ta : TE} {t : TA}, PE X a ta → PA X [e] t → PE X (.Call (.Attribute a "extend" p) [e] [] pos') (tBM X.K "list" Vl ta t)) (hsw : swapsWith (.Call (.Attribute a "extend" p) [e] [] pos') none pos.line X.env = pure false := by rfl)
    (hs : starEach [e] X.env = (false, eval e X.env) :: starEach [] X.env := by rfl) : SD X (.Expr (.Call (.Attribute a "extend" p) [e] [] pos') pos) (ZH i f) := by
  obtain ⟨t, pe, re⟩ := he
  refine ⟨_, YW (hp ho (zl pe ya hs)) hsw, fun Fb Hb F H ρ σ E rl k => ?_⟩
  unfold ZH at k
  cases h : (f (visF ρ)).bind fun d => match ρ[i]?, d with
    | some (.o ds), .lst es => if lim (ds.length + es.length) = true then some (ρ.set i (.o (ds ++ es))) else none
    | _, _ => none with
  | none => rw [h] at k; exact k.elim
  | some ρ' =>
    rw [h] at k
    obtain ⟨d, e1, e2⟩ := Option.bind_eq_some_iff.mp h
    cases hs : ρ[i]? with
    | none => rw [hs] at e2; cases e2
    | some sl =>
      rw [hs] at e2
      cases sl with
      | no => cases e2
      | v _ => cases e2
      | m _ _ _ => cases e2
      | o ds =>
        cases d with
        | lst es =>
          dsimp only at e2
          split at e2 <;> cases e2
          rename_i hl
          obtain ⟨q, xs, f1, f2, f3, f4, f5⟩ := rl.owns i ds hs
          refine ⟨_, f1, .inl ⟨rfl, xs, SqL.of f4⟩, ?_⟩
          refine re σ _ _ H _ _ rl.gr.fh rl.visF e1 fun F' H' v g av => ?_
          have rl2 := rl.grow g
          obtain ⟨q2, xs2, f1', _, _, f4', f5'⟩ := rl2.owns i ds hs
          rw [f1] at f1'
          cases f1'
          obtain ⟨pb, zs, rfl, hz, bl⟩ := av.lst_inv
          refine ⟨q, pb, xs2, zs, rfl, rfl, f4', g.fh _ _ hz, by rw [f5'.length, bl.length]; exact of_decide_eq_true hl, ?_⟩
          exact k _ _ σ (rl2.mutate hs f1 (f5'.append bl))
        | _ => cases e2
end
end Dl
namespace Dl
open PySem L2
variable [KK]
noncomputable def okE : Nat → D → Bool
  | _, .scr _ => false
  | _, .dct _ _ _ _ => false
  | 0, .tup _ => false
  | 0, .lst _ => false
  | n + 1, .tup ds => ds.all (okE n)
  | n + 1, .lst ds => ds.all (okE n)
  | _, _ => true
noncomputable def eqN : Nat → D → D → Bool
  | _, .non, .non => true
  | _, .bl a, .bl b => a == b
  | _, .bl a, .int b => (if a then 1 else 0) == b
  | _, .int a, .bl b => a == (if b then 1 else 0)
  | _, .int a, .int b => a == b
  | _, .str a, .str b => a == b
  | n + 1, .tup a, .tup b => (List.zipWith (eqN n) a b).all id && a.length == b.length
  | n + 1, .lst a, .lst b => (List.zipWith (eqN n) a b).all id && a.length == b.length
  | _, _, _ => false
omit [KK] in
theorem ZZ {n : Nat} : ∀ (a b : List D), (List.zipWith (eqN n) a b).all id = (List.range (min a.length b.length)).all fun j => eqN n (a.getD j .non) (b.getD j .non) := by
  intro a b
  have : List.zipWith (eqN n) a b = (List.range (min a.length b.length)).map fun j => eqN n (a.getD j .non) (b.getD j .non) := by
    apply List.ext_getElem
    · simp
    · intro i h1 h2
      simp at h1 h2
      have g1 : i < a.length := Nat.lt_of_lt_of_le h1 (Nat.min_le_left _ _)
      have g2 : i < b.length := Nat.lt_of_lt_of_le h1 (Nat.min_le_right _ _)
      simp [g1, g2]
  rw [this, List.all_map]
  rfl
omit [KK] in
noncomputable def vOf : D → V
  | .bl b => .bl b
  | .int i => .int i
  | .str t => .str t
  | _ => .non
theorem y1 {F : Hp} {d : D} {x : V} (h : okE 0 d = true) (a : At F d x) : x = vOf d := by
  cases d with
  | non => exact a.non_inv
  | bl b => exact a.bl_inv
  | int b => exact a.int_inv
  | str b => exact a.str_inv
  | _ => cases h
omit [KK] in
theorem vF {d : D} (h : okE 0 d = true) : zbx (vOf d) = true := by
  cases d <;> first | rfl | cases h
omit [KK] in
theorem YM {d : D} {p : Addr} (h : okE 0 d = true) (e : vOf d = .ref p) : False := by
  cases d <;> first | (cases h; done) | (cases e; done)
noncomputable def dOfV : V → D
  | .bl b => .bl b
  | .int i => .int i
  | .str t => .str t
  | _ => .non
omit [KK] in
theorem Vp {d : D} (h : okE 0 d = true) : dOfV (vOf d) = d := by
  cases d <;> first | rfl | (cases h; done)
omit [KK] in
theorem Wg {d e : D} (h1 : okE 0 d = true) (h2 : okE 0 e = true) (h : vOf d = vOf e) : d = e := by
  rw [← Vp h1, h, Vp h2]
omit [KK] in
theorem y0 {n : Nat} {d : D} (h : okE (n + 1) d = true) : okE 0 d = true ∨ (∃ ds, d = .tup ds ∧ ds.all (okE n) = true) ∨ ∃ ds, d = .lst ds ∧ ds.all (okE n) = true := by
  cases d with
  | tup ds => exact .inr (.inl ⟨ds, rfl, h⟩)
  | lst ds => exact .inr (.inr ⟨ds, rfl, h⟩)
  | scr _ => cases h
  | dct _ _ _ _ => cases h
  | _ => exact .inl rfl
theorem WY {F : Hp} {n : Nat} (ih : ∀ {d e : D} {v : V}, okE n d = true → okE n e = true → At F d v → At F e v → d = e) : ∀ {xs : List V} {ds es : List D}, ds.all (okE n) = true → es.all (okE n) = true → AtL F ds xs → AtL F es xs → ds = es := by
  intro xs
  induction xs with
  | nil =>
    intro ds es _ _ a1 a2
    exact (List.length_eq_zero_iff.mp a1.length.symm).trans (List.length_eq_zero_iff.mp a2.length.symm).symm
  | cons x xs ih2 =>
    intro ds es h1 h2 a1 a2
    cases ds with
    | nil => cases a1.nil_inv
    | cons d ds => cases es with
      | nil => cases a2.nil_inv
      | cons e es =>
        obtain ⟨y, r, e1, b1, c1⟩ := a1.cons_inv
        obtain ⟨y2, r2, e2, b2, c2⟩ := a2.cons_inv
        cases e1
        cases e2
        rw [List.all_cons, Bool.and_eq_true] at h1 h2
        rw [ih2 h1.2 h2.2 c1 c2, ih h1.1 h2.1 b1 b2]
theorem zaR {F : Hp} : ∀ (n : Nat) {d e : D} {v : V}, okE n d = true → okE n e = true → At F d v → At F e v → d = e := by
  intro n
  induction n with
  | zero =>
    intro d e v h1 h2 a1 a2
    exact Wg h1 h2 ((y1 h1 a1).symm.trans (y1 h2 a2))
  | succ n ih =>
    intro d e v h1 h2 a1 a2
    rcases y0 h1 with f1 | ⟨ds, rfl, k1⟩ | ⟨ds, rfl, k1⟩
    · have e1 := y1 f1 a1
      rcases y0 h2 with f2 | ⟨es, rfl, _⟩ | ⟨es, rfl, _⟩
      · exact Wg f1 f2 (e1.symm.trans (y1 f2 a2))
      · obtain ⟨p, xs, e2, _⟩ := a2.tup_inv
        exact (YM f1 (e1.symm.trans e2)).elim
      · obtain ⟨p, xs, e2, _⟩ := a2.lst_inv
        exact (YM f1 (e1.symm.trans e2)).elim
    · obtain ⟨p, xs, e0, hx, al⟩ := a1.tup_inv
      rcases y0 h2 with f2 | ⟨es, rfl, k2⟩ | ⟨es, rfl, k2⟩
      · exact (YM f2 ((y1 f2 a2).symm.trans e0)).elim
      · obtain ⟨q, ys, e1, hy, bl⟩ := a2.tup_inv
        cases e0.symm.trans e1
        cases hx.symm.trans hy
        rw [WY ih k1 k2 al bl]
      · obtain ⟨q, ys, e1, hy, bl⟩ := a2.lst_inv
        cases e0.symm.trans e1
        cases hx.symm.trans hy
    · obtain ⟨p, xs, e0, hx, al⟩ := a1.lst_inv
      rcases y0 h2 with f2 | ⟨es, rfl, k2⟩ | ⟨es, rfl, k2⟩
      · exact (YM f2 ((y1 f2 a2).symm.trans e0)).elim
      · obtain ⟨q, ys, e1, hy, bl⟩ := a2.tup_inv
        cases e0.symm.trans e1
        cases hx.symm.trans hy
      · obtain ⟨q, ys, e1, hy, bl⟩ := a2.lst_inv
        cases e0.symm.trans e1
        cases hx.symm.trans hy
        rw [WY ih k1 k2 al bl]
omit [KK] in
theorem zag : ∀ (n : Nat) {d : D}, okE n d = true → eqN n d d = true := by
  intro n
  induction n with
  | zero =>
    intro d h
    cases d with
    | tup _ => cases h
    | lst _ => cases h
    | scr _ => cases h
    | dct _ _ _ _ => cases h
    | _ => first | rfl | exact decide_eq_true rfl | exact beq_self_eq_true _
  | succ n ih =>
    have ihl : ∀ {ds : List D}, ds.all (okE n) = true → (List.zipWith (eqN n) ds ds).all id = true := by
      intro ds
      induction ds with
      | nil => intro _; rfl
      | cons d ds ih2 =>
        intro h
        rw [List.all_cons, Bool.and_eq_true] at h
        rw [List.zipWith_cons_cons, List.all_cons, ih2 h.2, Bool.and_true]
        exact ih h.1
    intro d h
    cases d with
    | tup ds => show ((List.zipWith (eqN n) ds ds).all id && ds.length == ds.length) = true; rw [ihl h]; simp
    | lst ds => show ((List.zipWith (eqN n) ds ds).all id && ds.length == ds.length) = true; rw [ihl h]; simp
    | scr _ => cases h
    | dct _ _ _ _ => cases h
    | _ => first | rfl | exact decide_eq_true rfl | exact beq_self_eq_true _
theorem zaB {F : Hp} (n : Nat) {d e : D} {v : V} (h1 : okE n d = true) (h2 : okE n e = true) (a1 : At F d v) (a2 : At F e v) : eqN n d e = true := by
  rw [zaR n h1 h2 a1 a2]
  exact zag n h2
omit [KK] in
theorem xJ {n : Nat} {ds : List D} {j : Nat} (h : ds.all (okE n) = true) (hj : j < ds.length) : okE n (ds.getD j .non) = true := by
  have : ds.getD j .non = ds[j] := by simp [hj]
  rw [this]
  exact List.all_eq_true.mp h _ (List.getElem_mem hj)
theorem AtL.nth {F : Hp} {ds : List D} {xs : List V} {us : List Value} {j : Nat} (al : AtL F ds xs) (r : yd xs us) (h : j < us.length) : ∃ x, At F (ds.getD j .non) x ∧ yP x us[j] := by
  have hl := al.length
  have hl2 := r.length
  have hj : j < ds.length := by omega
  obtain ⟨x, hx, ax⟩ := al.get (i := j) (d := ds[j]) (by simp [hj])
  obtain ⟨u, hu, ru⟩ := r.get hx
  refine ⟨x, by rw [show ds.getD j .non = ds[j] by simp [hj]]; exact ax, ?_⟩
  have : us[j]? = some us[j] := by simp [h]
  rw [hu] at this
  cases this
  exact ru
omit [KK] in
theorem XB {n : Nat} {d e : D} (h1 : okE 0 d = true) (h2 : okE 0 e = true) : eqN n d e = eqV (vOf d) (vOf e) := by
  cases n <;> cases d <;> first | (cases h1; done) | skip
  all_goals cases e <;> first | (cases h2; done) | rfl
omit [KK] in
theorem Xj {n : Nat} {d : D} (ds : List D) (h : okE 0 d = true) : eqN (n + 1) d (.tup ds) = false ∧ eqN (n + 1) d (.lst ds) = false ∧ eqN (n + 1) (.tup ds) d = false ∧ eqN (n + 1) (.lst ds) d = false := by
  cases d <;> first | exact ⟨rfl, rfl, rfl, rfl⟩ | cases h
omit [KK] in
theorem YY {A : Around} {s : Shared} {d : D} {u : Value} {p : Addr} {its : Array Value} (h : okE 0 d = true) (r : yP (vOf d) u) (hu : A.units < cLine) :
    (s.heap.IsTuple p its → SeqAt.EqAt A s u (.ref p) false ∧ SeqAt.EqAt A s (.ref p) u false) ∧ (s.heap.IsList p its → SeqAt.EqAt A s u (.ref p) false ∧ SeqAt.EqAt A s (.ref p) u false) := by
  cases d with
  | non => cases r; exact ⟨fun ht => ⟨.none_tuple ht hu, .tuple_none ht hu⟩, fun ht => ⟨.none_list ht hu, .list_none ht hu⟩⟩
  | bl b => cases r; exact ⟨fun ht => ⟨.bool_tuple b ht hu, .tuple_bool b ht hu⟩, fun ht => ⟨.bool_list b ht hu, .list_bool b ht hu⟩⟩
  | int b => obtain ⟨t, rfl⟩ := r; exact ⟨fun ht => ⟨.int_tuple b t ht hu, .tuple_int b t ht hu⟩, fun ht => ⟨.int_list b t ht hu, .list_int b t ht hu⟩⟩
  | str b => obtain ⟨t, rfl⟩ := r; exact ⟨fun ht => ⟨.str_tuple b t ht hu, .tuple_str b t ht hu⟩, fun ht => ⟨.str_list b t ht hu, .list_str b t ht hu⟩⟩
  | _ => cases h
theorem YO {X : Cx} {pins : List (Addr × Obj)} {σ : St} {F H : Hp} {s : Shared} (I : Inv X pins σ H s) (sm : yg F H) {ds : List D} {x : V} {u : Value} (a : At F (.tup ds) x) (r : yP x u) : ∃ p its xs, u = .ref p ∧ x = .ref p ∧ yd xs its ∧ AtL F ds xs ∧ s.heap.IsTuple p its.toArray := by
  obtain ⟨p, xs, rfl, hx, al⟩ := a.tup_inv
  cases r
  obtain ⟨its, rv, ht, hz⟩ := I.tuple (SqT.of (sm _ _ hx))
  exact ⟨p, its, xs, rfl, rfl, rv, al, ht⟩
theorem YE {X : Cx} {pins : List (Addr × Obj)} {σ : St} {F H : Hp} {s : Shared} (I : Inv X pins σ H s) (sm : yg F H) {ds : List D} {x : V} {u : Value} (a : At F (.lst ds) x) (r : yP x u) : ∃ p its xs, u = .ref p ∧ x = .ref p ∧ yd xs its ∧ AtL F ds xs ∧ s.heap.IsList p its.toArray := by
  obtain ⟨p, xs, rfl, hx, al⟩ := a.lst_inv
  cases r
  obtain ⟨its, rv, ht, hz⟩ := I.list (SqL.of (sm _ _ hx))
  exact ⟨p, its, xs, rfl, rfl, rv, al, ht.isList⟩
omit [KK] in
theorem W0 {n : Nat} (ds es : List D) : ((List.zipWith (eqN n) ds es).all id && ds.length == es.length) = ((List.range (min ds.length es.length)).all (fun j => eqN n (ds.getD j .non) (es.getD j .non)) && ds.length == es.length) := by rw [ZZ]
theorem Wm {X : Cx} {pins : List (Addr × Obj)} {σ : St} {F H : Hp} {s : Shared} (I : Inv X pins σ H s) (sm : yg F H) : ∀ (n : Nat) {A : Around} {d e : D} {x y : V} {u v : Value}, okE n d = true → okE n e = true → At F d x → At F e y → yP x u → yP y v → A.units + n < cLine → SeqAt.EqAt A s u v (eqN n d e) := by
  intro n
  induction n with
  | zero =>
    intro A d e x y u v h1 h2 a1 a2 r1 r2 hu
    cases y1 h1 a1
    cases y1 h2 a2
    rw [XB h1 h2]
    exact zaQ r1 r2 (vF h1) (vF h2)
  | succ n ih =>
    intro A d e x y u v h1 h2 a1 a2 r1 r2 hu
    have hu0 : A.units < cLine := Nat.lt_of_le_of_lt (Nat.le_add_right _ _) hu
    have hu1 : A.units + 1 + n < cLine := by rw [Nat.add_assoc, Nat.add_comm 1 n]; exact hu
    rcases y0 h1 with f1 | ⟨ds, rfl, k1⟩ | ⟨ds, rfl, k1⟩
    · cases y1 f1 a1
      rcases y0 h2 with f2 | ⟨es, rfl, k2⟩ | ⟨es, rfl, k2⟩
      · cases y1 f2 a2
        rw [XB f1 f2]
        exact zaQ r1 r2 (vF f1) (vF f2)
      · obtain ⟨q, its2, ys, rfl, _, _, _, ht2⟩ := YO I sm a2 r2
        rw [(Xj es f1).1]
        exact ((YY f1 r1 hu0).1 ht2).1
      · obtain ⟨q, its2, ys, rfl, _, _, _, ht2⟩ := YE I sm a2 r2
        rw [(Xj es f1).2.1]
        exact ((YY f1 r1 hu0).2 ht2).1
    · obtain ⟨p, its, xs, rfl, hxp, rv, al, ht⟩ := YO I sm a1 r1
      rcases y0 h2 with f2 | ⟨es, rfl, k2⟩ | ⟨es, rfl, k2⟩
      · cases y1 f2 a2
        rw [(Xj ds f2).2.2.1]
        exact ((YY f2 r2 hu0).1 ht).2
      · obtain ⟨q, its2, ys, rfl, hyq, rv2, bl, ht2⟩ := YO I sm a2 r2
        by_cases hpq : p = q
        · subst hpq
          rw [hxp] at a1
          rw [hyq] at a2
          rw [zaB (n + 1) h1 h2 a1 a2]
          exact .same _
        · have hl1 : its.toArray.size = ds.length := by rw [List.size_toArray, ← rv.length, al.length]
          have hl2 : its2.toArray.size = es.length := by rw [List.size_toArray, ← rv2.length, bl.length]
          have := SeqAt.RcAt.tuples (A := A) (e := fun j => eqN n (ds.getD j .non) (es.getD j .non)) ht ht2 hu0 fun j g1 g2 => by
            obtain ⟨x', ax, rx⟩ := al.nth rv (j := j) g1
            obtain ⟨y', ay, ry⟩ := bl.nth rv2 (j := j) g2
            exact ih (xJ k1 (hl1 ▸ g1)) (xJ k2 (hl2 ▸ g2)) ax ay rx ry hu1
          rw [hl1, hl2] at this
          rw [show eqN (n + 1) (.tup ds) (.tup es) = _ from W0 ds es]
          exact SeqAt.EqAt.of_refs hpq this
      · obtain ⟨q, its2, ys, rfl, _, _, _, ht2⟩ := YE I sm a2 r2
        exact .tuple_list ht ht2 hu0
    · obtain ⟨p, its, xs, rfl, hxp, rv, al, ht⟩ := YE I sm a1 r1
      rcases y0 h2 with f2 | ⟨es, rfl, k2⟩ | ⟨es, rfl, k2⟩
      · cases y1 f2 a2
        rw [(Xj ds f2).2.2.2]
        exact ((YY f2 r2 hu0).2 ht).2
      · obtain ⟨q, its2, ys, rfl, _, _, _, ht2⟩ := YO I sm a2 r2
        exact .list_tuple ht ht2 hu0
      · obtain ⟨q, its2, ys, rfl, hyq, rv2, bl, ht2⟩ := YE I sm a2 r2
        by_cases hpq : p = q
        · subst hpq
          rw [hxp] at a1
          rw [hyq] at a2
          rw [zaB (n + 1) h1 h2 a1 a2]
          exact .same _
        · have hl1 : its.toArray.size = ds.length := by rw [List.size_toArray, ← rv.length, al.length]
          have hl2 : its2.toArray.size = es.length := by rw [List.size_toArray, ← rv2.length, bl.length]
          rw [show eqN (n + 1) (.lst ds) (.lst es) = _ from W0 ds es]
          by_cases hle : ds.length = es.length
          · have := SeqAt.RcAt.lists (A := A) (e := fun j => eqN n (ds.getD j .non) (es.getD j .non)) ht ht2 (by rw [hl1, hl2, hle]) hu0 fun j g1 g2 => by
              obtain ⟨x', ax, rx⟩ := al.nth rv (j := j) g1
              obtain ⟨y', ay, ry⟩ := bl.nth rv2 (j := j) g2
              exact ih (xJ k1 (hl1 ▸ g1)) (xJ k2 (hl2 ▸ g2)) ax ay rx ry hu1
            rw [hl1] at this
            rw [← hle, Nat.min_self, beq_self_eq_true, Bool.and_true]
            exact SeqAt.EqAt.of_refs hpq this
          · have := SeqAt.RcAt.lists_lengths (A := A) ht ht2 (by rw [hl1, hl2]; exact bne_iff_ne.mpr hle) hu0
            rw [beq_eq_false_iff_ne.mpr hle, Bool.and_false]
            exact SeqAt.EqAt.of_refs hpq this
noncomputable def zdJ (d : D) (es : List D) : Option Bool := if okE 20 d = true ∧ es.all (okE 20) = true then some (es.any fun e => eqN 20 e d) else none
noncomputable def inD (d e : D) : Option D := (xz e).bind fun es => (zdJ d es).map .bl
open Classical in
noncomputable def VE (F : Hp) (d : D) (u : Value) : Bool := decide (∃ d0 x, At F d0 x ∧ yP x u ∧ okE 20 d0 = true ∧ eqN 20 d0 d = true)
open Classical in
theorem Wt {F : Hp} {d d0 : D} {x : V} {u : Value} (a : At F d0 x) (r : yP x u) (k : okE 20 d0 = true) : VE F d u = eqN 20 d0 d := by
  unfold VE
  cases h : eqN 20 d0 d with
  | true => exact decide_eq_true ⟨d0, x, a, r, k, h⟩
  | false =>
    refine decide_eq_false ?_
    rintro ⟨d1, y, a1, r1, k1, h1⟩
    have e := r1.inj r
    subst e
    rw [zaR 20 k1 k a1 a] at h1
    rw [h1] at h
    cases h
theorem YA {F : Hp} {d : D} : ∀ {ds : List D} {xs : List V} {us : List Value}, AtL F ds xs → yd xs us → ds.all (okE 20) = true → us.any (VE F d) = ds.any fun e => eqN 20 e d
  | [], _, _, al, r, _ => by cases al.nil_inv; cases r; rfl
  | e :: ds, _, _, al, r, k => by
    obtain ⟨x, xs, rfl, a1, a2⟩ := al.cons_inv
    cases r with
    | cons r1 r2 =>
      rw [List.all_cons, Bool.and_eq_true] at k
      rw [List.any_cons, List.any_cons, Wt a1 r1 k.1, YA a2 r2 k.2]
section
variable {X : Cx}
noncomputable def rInD (neg : Bool) : R2 := fun x y H Q => ∃ F d e es b, yg F H ∧ At F d x ∧ At F e y ∧ xz e = some es ∧ zdJ d es = some b ∧ Q (.bl (if neg then !b else b)) H
theorem zb9 {k : Nat} (hr : vy k X.A) : OpR X (compareOp .In) (rInD false) := by
  intro pins s σ H x y v u Q I rx ry h
  obtain ⟨F, d, e, es, b, sm, a1, a2, hs, hb, q⟩ := h
  unfold zdJ at hb
  split at hb <;> cases hb
  rename_i hk
  have hu : X.A.in1.units + 20 < cLine := by have := hr.un; show X.A.units + 1 + 20 < cLine; omega
  have mem : ∀ {xs : List V} {us : List Value}, AtL F es xs → yd xs us → ∀ z ∈ us, SeqAt.EqAt X.A.in1 s z v (VE F d z) := fun {xs us} al r z hz => by
    obtain ⟨j, hj, rfl⟩ := List.getElem_of_mem hz
    obtain ⟨x', ax, rx'⟩ := al.nth r hj
    have hj' : j < es.length := by have := al.length; have := r.length; omega
    have k2 := xJ hk.2 hj'
    rw [Wt ax rx' k2]
    exact Wm I sm 20 k2 hk.1 ax a1 rx' rx hu
  cases e <;> cases hs
  · obtain ⟨p, xs, rfl, hx, al⟩ := a2.tup_inv
    cases ry
    obtain ⟨its, r, pl, hz⟩ := I.tuple (SqT.of (sm _ _ hx))
    refine SeqAt.in_tupleAt (VE F d) pl (fun z hz => mem al r z (by simpa using hz)) ⟨.bl _, H, I, rfl, ?_⟩
    rw [show its.toArray.any (VE F d) = its.any (VE F d) by simp, YA al r hk.2]
    exact q
  · obtain ⟨p, xs, rfl, hx, al⟩ := a2.lst_inv
    cases ry
    obtain ⟨its, r, pl, hz⟩ := I.list (SqL.of (sm _ _ hx))
    refine SeqAt.in_listAt (VE F d) pl.isList (fun z hz => mem al r z (by simpa using hz)) ⟨.bl _, H, I, rfl, ?_⟩
    rw [show its.toArray.any (VE F d) = its.any (VE F d) by simp, YA al r hk.2]
    exact q
theorem zct : OpD (rInD false) inD := by
  intro F H x y d e z Q s ax ay ez q
  obtain ⟨es, e1, e2⟩ := Option.bind_eq_some_iff.mp ez
  obtain ⟨b, e3, rfl⟩ := Option.map_eq_some_iff.mp e2
  exact ⟨F, d, e, es, b, s, ax, ay, e1, e3, q F H _ (.refl s) .bl⟩
noncomputable def eqG (d e : D) : Option Bool := match d, e with
  | .tup _, .tup _ => if okE 20 d = true ∧ okE 20 e = true then some (eqN 20 d e) else none
  | .lst _, .lst _ => if okE 20 d = true ∧ okE 20 e = true then some (eqN 20 d e) else none
  | _, _ => eqS d e
noncomputable def xF (d e : D) : Option D := (eqG d e).map .bl
noncomputable def zc5 : R2 := fun x y H Q => ∃ F d e, yg F H ∧ At F d x ∧ At F e y ∧ ((∃ ds es, d = .tup ds ∧ e = .tup es) ∨ (∃ ds es, d = .lst ds ∧ e = .lst es)) ∧ okE 20 d = true ∧ okE 20 e = true ∧ Q (.bl (eqN 20 d e)) H
theorem zb0 {k : Nat} (hr : vy k X.A) : OpR X (compareOp .Eq) zc5 := by
  intro pins s σ H x y v u Q I rx ry h
  obtain ⟨F, d, e, sm, a1, a2, hk, k1, k2, q⟩ := h
  have hu : X.A.units + 30 < cLine := by have := hr.un; omega
  rcases hk with ⟨ds, es, rfl, rfl⟩ | ⟨ds, es, rfl, rfl⟩
  · obtain ⟨p, xs, rfl, hx, al⟩ := a1.tup_inv
    obtain ⟨p2, ys, rfl, hy, bl⟩ := a2.tup_inv
    cases rx
    cases ry
    obtain ⟨its, r, ht, hz⟩ := I.tuple (SqT.of (sm _ _ hx))
    obtain ⟨its2, r2, ht2, hz2⟩ := I.tuple (SqT.of (sm _ _ hy))
    have hl1 : its.toArray.size = ds.length := by rw [List.size_toArray, ← r.length, al.length]
    have hl2 : its2.toArray.size = es.length := by rw [List.size_toArray, ← r2.length, bl.length]
    refine SeqAt.eq_tupleAt (e := fun j => eqN 19 (ds.getD j .non) (es.getD j .non)) (show s.heap.IsTuple p its.toArray from ht) (show s.heap.IsTuple p2 its2.toArray from ht2) (by omega) (fun j g1 g2 => ?_) ⟨.bl _, H, I, rfl, ?_⟩
    · obtain ⟨x', ax, rx⟩ := al.nth r (j := j) (by simpa using g1)
      obtain ⟨y', ay, ry⟩ := bl.nth r2 (j := j) (by simpa using g2)
      exact Wm I sm 19 (xJ k1 (by rw [← hl1]; exact g1)) (xJ k2 (by rw [← hl2]; exact g2)) ax ay (by simpa using rx) (by simpa using ry) (Nat.lt_of_le_of_lt (show X.A.units + 20 ≤ X.A.units + 30 from Nat.add_le_add_left (by decide) _) hu)
    · rw [hl1, hl2, ← ZZ]
      exact q
  · obtain ⟨p, xs, rfl, hx, al⟩ := a1.lst_inv
    obtain ⟨p2, ys, rfl, hy, bl⟩ := a2.lst_inv
    cases rx
    cases ry
    obtain ⟨its, r, ht, hz⟩ := I.list (SqL.of (sm _ _ hx))
    obtain ⟨its2, r2, ht2, hz2⟩ := I.list (SqL.of (sm _ _ hy))
    have hl1 : its.toArray.size = ds.length := by rw [List.size_toArray, ← r.length, al.length]
    have hl2 : its2.toArray.size = es.length := by rw [List.size_toArray, ← r2.length, bl.length]
    have e1 : eqN 20 (.lst ds) (.lst es) = ((List.range (min ds.length es.length)).all (fun j => eqN 19 (ds.getD j .non) (es.getD j .non)) && ds.length == es.length) := by
      show ((List.zipWith (eqN 19) ds es).all id && ds.length == es.length) = _
      rw [ZZ]
    by_cases hle : ds.length = es.length
    · refine SeqAt.eq_listAt (e := fun j => eqN 19 (ds.getD j .non) (es.getD j .non)) ht.isList ht2.isList (by rw [hl1, hl2]; exact hle) (Nat.lt_of_le_of_lt (Nat.le_add_right _ 30) hu) (fun j g1 g2 => ?_) ⟨.bl _, H, I, rfl, ?_⟩
      · obtain ⟨x', ax, rx⟩ := al.nth r (j := j) (by simpa using g1)
        obtain ⟨y', ay, ry⟩ := bl.nth r2 (j := j) (by simpa using g2)
        exact Wm I sm 19 (xJ k1 (by rw [← hl1]; exact g1)) (xJ k2 (by rw [← hl2]; exact g2)) ax ay (by simpa using rx) (by simpa using ry) (Nat.lt_of_le_of_lt (show X.A.units + 20 ≤ X.A.units + 30 from Nat.add_le_add_left (by decide) _) hu)
      · rw [hl1]
        rw [e1, ← hle, Nat.min_self] at q
        simpa using q
    · refine SeqAt.eq_list_lengthsAt ht.isList ht2.isList (by rw [hl1, hl2]; simpa using hle) (Nat.lt_of_le_of_lt (Nat.le_add_right _ 30) hu) ⟨.bl _, H, I, rfl, ?_⟩
      have : (ds.length == es.length) = false := by simpa using hle
      rw [e1, this, Bool.and_false] at q
      exact q
theorem zbk : OpD zc5 (fun d e => match d, e with
  | .tup _, .tup _ => if okE 20 d = true ∧ okE 20 e = true then some (.bl (eqN 20 d e)) else none
  | .lst _, .lst _ => if okE 20 d = true ∧ okE 20 e = true then some (.bl (eqN 20 d e)) else none
  | _, _ => none) := by
  intro F H x y d e z Q s ax ay ez q
  dsimp only at ez
  split at ez
  · split at ez <;> cases ez
    rename_i hk
    exact ⟨F, _, _, s, ax, ay, .inl ⟨_, _, rfl, rfl⟩, hk.1, hk.2, q F H _ (.refl s) .bl⟩
  · split at ez <;> cases ez
    rename_i hk
    exact ⟨F, _, _, s, ax, ay, .inr ⟨_, _, rfl, rfl⟩, hk.1, hk.2, q F H _ (.refl s) .bl⟩
  · cases ez
theorem zH {k : Nat} (hr : vy k X.A) : OpR X (compareOp .Eq) (fun x y H Q => rEq x y H Q ∨ zc5 x y H Q) := zdx.or (zb0 hr)
theorem zw : OpD (fun x y H Q => rEq x y H Q ∨ zc5 x y H Q) xF := by
  refine ZK (ZG zaS zbk) fun d e z h => ?_
  obtain ⟨b, hb, rfl⟩ := Option.map_eq_some_iff.mp h
  unfold eqG at hb
  split at hb
  · split at hb <;> cases hb
    rename_i hk
    show (Option.or none (if okE 20 _ = true ∧ okE 20 _ = true then some (D.bl (eqN 20 _ _)) else none)) = _
    rw [if_pos hk]
    rfl
  · split at hb <;> cases hb
    rename_i hk
    show (Option.or none (if okE 20 _ = true ∧ okE 20 _ = true then some (D.bl (eqN 20 _ _)) else none)) = _
    rw [if_pos hk]
    rfl
  · show ((eqD d e).or _) = _
    unfold eqD
    rw [hb]
    rfl
theorem V0 {pins : List (Addr × Obj)} {σ : St} {H : Hp} {s : Shared} {a : Addr} {xs : List V} {A : Around} {Q : Value → Shared → Prop} {E : Value → Shared → Prop} (I : Inv X pins σ H s) (hh : A.handled = none) (h : SqL X.K H a xs ∨ SqT X.K H a xs)
    (k : ∀ (it : Addr) (its : List Value) (fp wr : List Addr) (St : Nat → Heap → Prop) (s₂ : Shared), yd xs its → Walks X.prog X.w A it fp wr its.length (fun i v => its[i]? = some v) St → St 0 s₂.heap → (∀ b ∈ fp, b < s₂.heap.objs.size) →
      (∀ (h' : Heap) (tk : Nat), (∀ b o, b ∉ wr → s₂.heap.get? b = some o → h'.get? b = some o) → Inv X pins σ H { s₂ with heap := h', toks := tk }) → Q (.ref it) s₂) :
    wpAny (model X.prog X.w) A (pyIter (.ref a)) Q E s := by
  have back : ∀ {o : Obj} {s₂ : Shared}, s₂ = { s with heap := s.heap.push o } → ∀ (h' : Heap) (tk : Nat), (∀ b u, b ∉ [s.heap.objs.size] → s₂.heap.get? b = some u → h'.get? b = some u) → Inv X pins σ H { s₂ with heap := h', toks := tk } := fun {o s₂} e h' tk kk => by
    subst e
    exact I.kept (t' := tk) fun b u z => kk b u (by simpa using Nat.ne_of_lt (Heap.lt_size z)) (Heap.get?_push_of_some _ z)
  rcases h with h | h
  · obtain ⟨its, rv, p, hz⟩ := I.list h
    have lt : a < s.heap.objs.size := by obtain ⟨o, n, ho, _⟩ := p; exact Heap.lt_size ho
    refine wpAny_pyIter_list p.isList ?_
    have W := Walks.list (prog := X.prog) (w := X.w) (A := A) hh s.heap.objs.size a (Nat.ne_of_lt lt) its.toArray
    refine k s.heap.objs.size its [s.heap.objs.size, a] [s.heap.objs.size] (fun i h => h.IsListIter s.heap.objs.size a i ∧ h.IsList a its.toArray) _ rv (by simpa using W) ⟨⟨_, Heap.get?_push_size _ rfl, rfl, rfl⟩, p.isList.at fun o e => Heap.get?_push_of_some _ e⟩ (fun b hb => ?_) (back rfl)
    show b < (s.heap.push _).objs.size
    rw [Heap.size_push]
    rcases List.mem_cons.mp hb with rfl | hb
    · exact Nat.lt_succ_self _
    · rw [List.mem_singleton.mp hb]; exact Nat.lt_succ_of_lt lt
  · obtain ⟨its, rv, p, hz⟩ := I.tuple h
    have p' : s.heap.IsTuple a its.toArray := p
    have lt : a < s.heap.objs.size := by obtain ⟨o, ho, _⟩ := p; exact Heap.lt_size ho
    refine wpAny_pyIter_tuple p' ?_
    have W := Walks.tuple (prog := X.prog) (w := X.w) (A := A) hh s.heap.objs.size a (Nat.ne_of_lt lt) its.toArray
    refine k s.heap.objs.size its [s.heap.objs.size, a] [s.heap.objs.size] (fun i h => h.IsTupleIter s.heap.objs.size a i ∧ h.IsTuple a its.toArray) _ rv (by simpa using W) ⟨⟨_, Heap.get?_push_size _ rfl, rfl, rfl⟩, p'.at fun o e => Heap.get?_push_of_some _ e⟩ (fun b hb => ?_) (back rfl)
    show b < (s.heap.push _).objs.size
    rw [Heap.size_push]
    rcases List.mem_cons.mp hb with rfl | hb
    · exact Nat.lt_succ_self _
    · rw [List.mem_singleton.mp hb]; exact Nat.lt_succ_of_lt lt
end
end Dl
namespace Dl
open PySem L2
variable [KK]
omit [KK] in
theorem WN {bs : List Bool} : (List.range bs.length).all (fun i => bs.getD i false) = bs.all id := by
  have : bs = (List.range bs.length).map fun i => bs.getD i false := by
    apply List.ext_getElem
    · simp
    · intro i h1 h2
      simp [h1]
  conv => rhs; rw [this]
  rw [List.all_map]
  rfl
section
variable {X : Cx}
omit [KK] in
theorem zbf {bs : List Bool} {its : List Value} {i : Nat} {v : Value} (r : yd (bs.map V.bl) its) (h : its[i]? = some v) : v = .bool (bs.getD i false) := by
  have hl := r.length
  have hi : i < its.length := (List.getElem?_eq_some_iff.mp h).1
  rw [List.length_map] at hl
  obtain ⟨u, hu, ru⟩ := r.get (i := i) (x := .bl (bs[i]'(by omega))) (by rw [List.getElem?_map]; simp [show i < bs.length by omega])
  rw [h] at hu
  cases hu
  cases ru
  simp [show i < bs.length by omega]
theorem WB (hc : X.calm = true) : vC X (.builtin "all") (fun xs H Q => ∃ (p : Addr) (bs : List Bool), xs = [.ref p] ∧ (SqL X.K H p (bs.map V.bl) ∨ SqT X.K H p (bs.map V.bl)) ∧ Q (.bl (bs.all id)) H) := by
  intro pins s σ H xs us Q I r h
  obtain ⟨p, bs, rfl, hq, q⟩ := h
  obtain ⟨u, rfl, ru⟩ := X6 r
  cases ru
  refine call_all_walk (V0 I (I.ok.hd hc) hq fun it its fp wr St s₂ rv W st fpl back => ?_)
  have hl := rv.length
  rw [List.length_map] at hl
  refine ⟨it, fp, wr, _, _, St, fun i => bs.getD i false, rfl, W, st, fun i v s Q E hv hQ => ?_, fun h' tk kk => ⟨.bl _, H, back h' tk kk, rfl, ?_⟩⟩
  · rw [zbf rv hv]
    exact wpAny_truthy_bool hQ
  · rw [← hl, WN]
    exact q
noncomputable def za1 : List D → Option (List Bool)
  | [] => some []
  | .bl b :: ds => (za1 ds).map (b :: ·)
  | _ => none
omit [KK] in
theorem Wr : ∀ {ds : List D} {bs : List Bool}, za1 ds = some bs → ds = bs.map .bl
  | [], bs, h => by cases h; rfl
  | d :: ds, bs, h => by
    cases d <;> try cases h
    obtain ⟨cs, h1, rfl⟩ := Option.map_eq_some_iff.mp h
    rw [Wr h1]
    rfl
omit [KK] in
theorem zav (bs : List Bool) : za1 (bs.map .bl) = some bs := by
  induction bs with
  | nil => rfl
  | cons b r ih => show (za1 (r.map .bl)).map (b :: ·) = _; rw [ih]; rfl
theorem AtL.of_bls {H : Hp} : ∀ {ns : List Bool} {xs : List V}, AtL H (ns.map D.bl) xs → xs = ns.map V.bl
  | [], _, h => h.nil_inv
  | n :: r, _, h => by
    obtain ⟨x, r', rfl, h1, h2⟩ := AtL.cons_inv (by simpa using h)
    rw [h1.bl_inv, AtL.of_bls h2]
    rfl
noncomputable def zdh {α : Type} (as : List D → Option α) (g : α → Option D) : List D → Option D
  | [d] => ((xz d).bind as).bind g
  | _ => none
theorem zaY {K : PySem.W.Frag} {F H : Hp} {vs : List V} {ds : List D} {z : D} {α : Type} {as : List D → Option α} {g : α → Option D} (s : yg F H) (al : AtL F ds vs) (e : zdh as g ds = some z) :
    ∃ p es xs b, vs = [.ref p] ∧ (SqL K H p xs ∨ SqT K H p xs) ∧ AtL F es xs ∧ as es = some b ∧ g b = some z := by
  unfold zdh at e
  split at e
  · obtain ⟨b, e1, e2⟩ := Option.bind_eq_some_iff.mp e
    obtain ⟨es, e3, e4⟩ := Option.bind_eq_some_iff.mp e1
    obtain ⟨x, r, rfl, ax, ar⟩ := al.cons_inv
    cases ar.nil_inv
    rename_i d
    cases d <;> cases e3
    · obtain ⟨p, xs, rfl, hx, bl⟩ := ax.tup_inv
      exact ⟨p, _, xs, b, rfl, .inr (SqT.of (s _ _ hx)), bl, e4, e2⟩
    · obtain ⟨p, xs, rfl, hx, bl⟩ := ax.lst_inv
      exact ⟨p, _, xs, b, rfl, .inl (SqL.of (s _ _ hx)), bl, e4, e2⟩
  · cases e
noncomputable def zde := zdh za1 fun bs => some (.bl (bs.all id))
theorem zbu {K : PySem.W.Frag} : CaD (fun xs H Q => ∃ (p : Addr) (bs : List Bool), xs = [.ref p] ∧ (SqL K H p (bs.map V.bl) ∨ SqT K H p (bs.map V.bl)) ∧ Q (.bl (bs.all id)) H) zde := by
  intro F H vs ds z Q s al e q
  obtain ⟨p, es, xs, bs, rfl, hq, bl, e1, e2⟩ := zaY (K := K) s al e
  cases e2
  rw [Wr e1] at bl
  rw [bl.of_bls] at hq
  exact ⟨p, bs, rfl, hq, q F H _ (.refl s) .bl⟩
end
end Dl
namespace Dl
open PySem L2
variable [KK]
section
variable {X : Cx} {tg a b c e : Expr} {pos : Pos}
noncomputable def Xg : List D → List D → List D
  | x :: xs, y :: ys => .tup [x, y] :: Xg xs ys
  | _, _ => []
omit [KK] in
theorem XI : ∀ (xs ys : List D) (i : Nat), (Xg xs ys)[i]? = match xs[i]?, ys[i]? with | some x, some y => some (.tup [x, y]) | _, _ => none
  | [], ys, i => by simp [Xg]
  | x :: xs, [], i => by simp [Xg]
  | x :: xs, y :: ys, 0 => by simp [Xg]
  | x :: xs, y :: ys, i + 1 => by simpa [Xg] using XI xs ys i
omit [KK] in
theorem vM : ∀ (xs ys : List D), xs.length ≤ ys.length → (Xg xs ys).length = xs.length
  | [], ys, _ => by simp [Xg]
  | x :: xs, [], h => by simp at h
  | x :: xs, y :: ys, h => by simp [Xg, vM xs ys (by simpa using h)]
noncomputable def vD (f : Ev → Option (List D)) : Ev → Option (List D) := fun ρ => (f ρ).bind fun as => match as with
  | [d, e] => (xz d).bind fun xs => (xz e).bind fun ys => if xs.length ≤ ys.length then some (Xg xs ys) else none
  | _ => none
theorem zcP {K : PySem.W.Frag} {F H : Hp} {d : D} {v : V} {ds : List D} (s : yg F H) (h : At F d v) (e : xz d = some ds) : ∃ b p xs, v = .ref p ∧ (∀ {F' H' : Hp}, yg F F' → yg F' H' → Sq b K H' p xs) ∧ AtL F ds xs := by
  cases d <;> cases e
  · obtain ⟨p, xs, rfl, hx, al⟩ := h.tup_inv
    exact ⟨false, p, xs, rfl, fun s1 s2 => SqT.of (s2 _ _ (s1 _ _ hx)), al⟩
  · obtain ⟨p, xs, rfl, hx, al⟩ := h.lst_inv
    exact ⟨true, p, xs, rfl, fun s1 s2 => SqL.of (s2 _ _ (s1 _ _ hx)), al⟩
theorem zco {es : List Expr} {k : Nat} {tp p : Pos} {f : Ev → Option (List D)} (hg : Gl X "zip") (hm : X.mg "zip" = none) (ha : AD X [a, b] f)
    (hs : starEach [a, b] X.env = [(false, eval a X.env), (false, eval b X.env)] := by rfl) (hs2 : starEach [b] X.env = [(false, eval b X.env)] := by rfl) : ID X (.Tuple es k tp) (.Call (.Name "zip" p) [a, b] [] pos) (vD f) := by
  obtain ⟨t, pa, r⟩ := ha
  refine ⟨_, zb1 hg hm zcc pa hs hs2, fun σ ρ F H ds R s va e q => ?_⟩
  obtain ⟨as, e1, e2⟩ := Option.bind_eq_some_iff.mp e
  refine r σ ρ F H as _ s va e1 fun F1 H1 v g1 a1 => ?_
  split at e2
  · obtain ⟨x, r', rfl, ax, ar⟩ := a1.cons_inv
    obtain ⟨y, r', rfl, ay, ar⟩ := ar.cons_inv
    cases ar.nil_inv
    obtain ⟨xs, e3, e2'⟩ := Option.bind_eq_some_iff.mp e2
    obtain ⟨ys, e4, e2''⟩ := Option.bind_eq_some_iff.mp e2'
    clear e2 e2' e
    split at e2'' <;> cases e2''
    rename_i hle
    obtain ⟨b1, p1, us, rfl, sq1, al⟩ := zcP (K := X.K) g1.fh ax e3
    obtain ⟨b2, p2, ws, rfl, sq2, bl⟩ := zcP (K := X.K) g1.fh ay e4
    refine ⟨b1, b2, p1, p2, us, ws, rfl, sq1 (yg.refl _) g1.fh, sq2 (yg.refl _) g1.fh, q F1 H1 _ g1 fun i F2 H2 s1 s2 => ?_⟩
    have q1 := sq1 s1 s2
    have q2 := sq2 s1 s2
    refine ⟨fun hl => ⟨us, q1, by rw [hl, vM _ _ hle, al.length]⟩, fun d hd => ?_⟩
    rw [XI] at hd
    cases h1 : xs[i]? with
    | none => rw [h1] at hd; cases hd
    | some x =>
      cases h2 : ys[i]? with
      | none => rw [h1, h2] at hd; cases hd
      | some y =>
        rw [h1, h2] at hd
        cases hd
        obtain ⟨u, hu, au⟩ := al.get h1
        obtain ⟨u2, hu2, au2⟩ := bl.get h2
        refine ⟨⟨us, ws, u, u2, q1, q2, hu, hu2⟩, fun z H3 hz => ?_⟩
        obtain ⟨T, x', y', rfl, hT, rfl, hx', hy'⟩ := hz
        have e5 := hx' us q1
        have e6 := hy' ws q2
        rw [hu] at e5
        rw [hu2] at e6
        cases e5
        cases e6
        have g3 := Gr.alloc s2 hT (.tup [u, u2])
        exact ⟨_, g3, .tup zo (.cons (au.mono (s1.trans g3.ff)) (.cons (au2.mono (s1.trans g3.ff)) .nil))⟩
  · cases e2
noncomputable def xT (g : List D → Option (List D)) (f : Ev → Option (List D)) (b : D → SE → Option SE) (h : SE → Ctl) : SE → Ctl := fun ρ => match (f (visG ρ)).bind g with
  | some ds => WW b h ds ρ
  | none => .no
theorem Xw {p pos' : Pos} {body : List Stmt} {f : Ev → Option (List D)} {b' : D → SE → Option SE} {g : SE → Ctl} (hp : PassesOwn (model X.prog X.w) X.A X.env X.xe) (hc : X.calm = true) (hgl : Gl X "range") (hm : X.mg "range" = none) (ha : AD X [a] f) (hg : BD X tg b') (hb : SDs X body g)
    (hs0 : starEach [a] X.env = [(false, eval a X.env)] := by rfl) (hs : ∀ x, foldedSetIterable (.Call (.Name "range" p) [a] [] pos) X.env x = pure x := by intro _; rfl) : SD X (.For tg (.Call (.Name "range" p) [a] [] pos) body [] pos') (xT Yk f b' g) := by
  obtain ⟨t, pa, r⟩ := ha
  obtain ⟨tg', pg, rg⟩ := hg
  obtain ⟨tb, pb, rb⟩ := hb
  refine ⟨_, Vb hp hc (Y7 hgl hm pa hs0) pg pb hs, fun Fb Hb F H ρ σ E rl k => ?_⟩
  unfold xT at k
  cases h : (f (visG ρ)).bind Yk with
  | none => rw [h] at k; exact k.elim
  | some ds =>
    rw [h] at k
    obtain ⟨as, e1, e2⟩ := Option.bind_eq_some_iff.mp h
    refine r σ _ _ H as _ rl.gh rl.visG e1 fun F1 H1 vs g1 a1 => ?_
    have rl2 := rl.grow (rl.back g1).1
    unfold Yk at e2
    split at e2
    · split at e2 <;> cases e2
      rename_i hc
      obtain ⟨x, r', rfl, ax, ar⟩ := a1.cons_inv
      cases ar.nil_inv
      exact ⟨_, by rw [ax.int_inv], (zY.mp hc).1, (zY.mp hc).2, Vw (XD 0 _) rg rb rl2 k⟩
    · cases e2
theorem VO {p pos' : Pos} {body : List Stmt} {f : Ev → Option (List D)} {b' : D → SE → Option SE} {g : SE → Ctl} (hp : PassesOwn (model X.prog X.w) X.A X.env X.xe) (hc : X.calm = true) (hgl : Gl X "range") (hm : X.mg "range" = none) (ha : AD X [a, b] f) (hg : BD X tg b') (hb : SDs X body g)
    (hs0 : starEach [a, b] X.env = [(false, eval a X.env), (false, eval b X.env)] := by rfl) (hs2 : starEach [b] X.env = [(false, eval b X.env)] := by rfl) (hs : ∀ x, foldedSetIterable (.Call (.Name "range" p) [a, b] [] pos) X.env x = pure x := by intro _; rfl) : SD X (.For tg (.Call (.Name "range" p) [a, b] [] pos) body [] pos') (xT vA f b' g) := by
  obtain ⟨t, pa, r⟩ := ha
  obtain ⟨tg', pg, rg⟩ := hg
  obtain ⟨tb, pb, rb⟩ := hb
  refine ⟨_, Vb hp hc (Zi hgl hm pa hs0 hs2) pg pb hs, fun Fb Hb F H ρ σ E rl k => ?_⟩
  unfold xT at k
  cases h : (f (visG ρ)).bind vA with
  | none => rw [h] at k; exact k.elim
  | some ds =>
    rw [h] at k
    obtain ⟨as, e1, e2⟩ := Option.bind_eq_some_iff.mp h
    refine r σ _ _ H as _ rl.gh rl.visG e1 fun F1 H1 vs g1 a1 => ?_
    have rl2 := rl.grow (rl.back g1).1
    unfold vA at e2
    split at e2
    · split at e2 <;> cases e2
      rename_i hc
      obtain ⟨x, r', rfl, ax, ar⟩ := a1.cons_inv
      obtain ⟨y, r', rfl, ay, ar⟩ := ar.cons_inv
      cases ar.nil_inv
      exact ⟨_, _, by rw [ax.int_inv, ay.int_inv], ⟨(zY.mp hc.1).1, (zY.mp hc.1).2, (zY.mp hc.2).1, (zY.mp hc.2).2⟩, Vw (XD _ _) rg rb rl2 k⟩
    · cases e2
end
theorem zbg {P : Program} {w : World} {K : PySem.W.Frag} {mg : Str → Option Value} {base : Heap} {f : Addr} {fd : FuncData} {ps : List Str} {k m : Nat} : xn P w K mg base CX0 k f fd ps (spD m fun _ => none) := by
  refine ⟨fun vs H Q E h => ?_, fun A outer s H args us vs Q E _ _ _ _ h => ?_⟩
  · obtain ⟨_, _, _, _, _, _, e, _⟩ := h
    cases e
  · obtain ⟨_, _, _, _, _, _, e, _⟩ := h
    cases e
noncomputable def zbM (n : Nat) (g : (List D → Option D) → SE → Ctl) : Nat → List D → Option D
  | 0 => fun _ => none
  | k + 1 => fnD n (g (zbM n g k))
theorem zci {P : Program} {w : World} {K : PySem.W.Frag} {mg : Str → Option Value} {base : Heap} {x qual : Str} {st : Stmt} {f : Addr} {fd : FuncData} {N ps : List Str} {k0 : Nat} {g : (List D → Option D) → SE → Ctl} (Fu : Fun K x qual st f fd) (S : zE N ps (zf st))
    (hb : ∀ (k : Nat) (r : List D → Option D), xn P w K mg base CX0 (k0 + k) f fd ps (spD ps.length r) → ∀ (cdv : Value) (A : Around) (outer : List Env) (s : Shared) (H : Hp) (E : XK), vy (k0 + k) (A.deeper (PyProof.Rows.envOfC qual (zf st) s.heap.objs.size f cdv)) → SDs (Y2 CX0 P w K mg base N qual (zf st) f cdv A outer s H E).nox (zC st) (g r)) :
    ∀ n, xn P w K mg base CX0 (k0 + n) f fd ps (spD ps.length (zbM N.length g n)) := by
  intro n
  induction n with
  | zero => exact zbg
  | succ n ih => exact xZ Fu S fun cdv A outer s H E hr => hb n _ ih cdv A outer s H E hr
noncomputable def Vs (K : PySem.W.Frag) : Sp := fun vs H Q _ => ∃ (a : Addr) (ns : List Int), vs = [.ref a] ∧ SqL K H a (ns.map V.int) ∧ ns.length ≤ 63 ∧ ∀ H', Q (.bl true) H'
end Dl
namespace Dl
open PySem L2
theorem zcE {P : Program} {w : World} {K : PySem.W.Frag} {mg : Str → Option Value} {base : Heap} {f : Addr} {fd : FuncData} {ps : List Str} {k : Nat} {p : List D → Option D} (F : xn P w K mg base CX0 k f fd ps (@spD ⟨K⟩ 1 p)) (h : ∀ ns : List Int, ns.length ≤ 63 → p [.scr ns] = some (.bl true)) :
    xn P w K mg base CX0 k f fd ps (Vs K) := by
  letI : KK := ⟨K⟩
  refine F.imp fun vs H Q E hs => ?_
  obtain ⟨a, ns, rfl, hq, hl, q⟩ := hs
  refine ⟨[.scr ns], .bl true, H, rfl, yg.refl _, .cons ?_ .nil, h ns hl, fun F' H' v _ av => ?_⟩
  · unfold At
    exact ⟨a, rfl, hq⟩
  · rw [av.bl_inv]
    exact q H'
structure Def (K : PySem.W.Frag) (mg : Str → Option Value) (x : Str) (st : Stmt) (ps : List Str) (f : Addr) (fd : FuncData) : Prop where
  fn : Fun K x x st f fd
  bd : YS K fd ps []
  at_ : mg x = some (.ref f)
theorem Def.kp {K : PySem.W.Frag} {mg : Str → Option Value} {x : Str} {st : Stmt} {ps : List Str} {f : Addr} {fd : FuncData} (d : Def K mg x st ps f fd) : PySem.W.keepIn K (.ref f) = true := d.fn.kp
end Dl
namespace Dl
open PySem L2
inductive Ctl.w : Ctl → (SE → Prop) → (SE → Prop) → (SE → Prop) → (D → Prop) → Prop where
  | nx {ρ : SE} {n b k : SE → Prop} {r : D → Prop} : n ρ → Ctl.w (.nx ρ) n b k r
  | bk {ρ : SE} {n b k : SE → Prop} {r : D → Prop} : b ρ → Ctl.w (.bk ρ) n b k r
  | ct {ρ : SE} {n b k : SE → Prop} {r : D → Prop} : k ρ → Ctl.w (.ct ρ) n b k r
  | rt {d : D} {n b k : SE → Prop} {r : D → Prop} : r d → Ctl.w (.rt d) n b k r
section
variable {ρ : SE} {d : D} {n b k : SE → Prop} {r : D → Prop}
theorem Ctl.w.nxi (h : Ctl.w (.nx ρ) n b k r) : n ρ := by cases h; assumption
theorem Ctl.w.bki (h : Ctl.w (.bk ρ) n b k r) : b ρ := by cases h; assumption
theorem Ctl.w.cti (h : Ctl.w (.ct ρ) n b k r) : k ρ := by cases h; assumption
theorem Ctl.w.rti (h : Ctl.w (.rt d) n b k r) : r d := by cases h; assumption
theorem Ctl.w.noi (h : Ctl.w .no n b k r) : False := by cases h
end
noncomputable abbrev noP : SE → Prop := fun _ => False
section
variable {g h : SE → Ctl} {ρ ρ' : SE} {n b k : SE → Prop} {r : D → Prop}
theorem wN (e : (g ρ).w (fun ρ' => (h ρ').w n b k r) b k r) : (yb g h ρ).w n b k r := by
  unfold yb
  cases hg : g ρ with
  | nx ρ' => rw [hg] at e; exact e.nxi
  | bk ρ' => rw [hg] at e; exact .bk e.bki
  | ct ρ' => rw [hg] at e; exact .ct e.cti
  | rt d => rw [hg] at e; exact .rt e.rti
  | no => rw [hg] at e; exact e.noi.elim
theorem zz (e : g ρ = .nx ρ') (q : (h ρ').w n b k r) : (yb g h ρ).w n b k r := wN (by rw [e]; exact .nx q)
theorem WJ (e : g ρ = .nx ρ') (q : n ρ') : (g ρ).w n b k r := by rw [e]; exact .nx q
theorem Xp {d : D} (e : g ρ = .rt d) (q : r d) : (g ρ).w n b k r := by rw [e]; exact .rt q
theorem zdp {d : D} (e : g ρ = .rt d) (q : r d) : (yb g h ρ).w n b k r := wN (by rw [e]; exact .rt q)
theorem VG {t : Ev → Option Bool} {c : Bool} (e : t (visG ρ) = some c) (h1 : c = true → (g ρ).w n b k r) (h2 : c = false → (h ρ).w n b k r) : (sIf t g h ρ).w n b k r := by
  unfold sIf
  rw [e]
  cases c with
  | true => exact h1 rfl
  | false => exact h2 rfl
theorem zc6 {i : Nat} (e : zc4 ρ i = ρ') (q : (g ρ').w n b k r) : (sFz i g ρ).w n b k r := by
  unfold sFz
  rw [e]
  exact q
theorem WS {bd : D → SE → Option SE} (I : Nat → SE → Prop) : ∀ (ds : List D) (j : Nat) (ρ : SE), I j ρ →
    (∀ i d ρ, ds[i]? = some d → I (j + i) ρ → ∃ ρ1, bd d ρ = some ρ1 ∧ (g ρ1).w (I (j + i + 1)) n (I (j + i + 1)) r) → (∀ ρ, I (j + ds.length) ρ → n ρ) → (WW bd g ds ρ).w n b k r
  | [], j, ρ, h0, _, fin => .nx (fin ρ h0)
  | d :: ds, j, ρ, h0, step, fin => by
    obtain ⟨ρ1, e1, e2⟩ := step 0 d ρ rfl h0
    unfold WW
    rw [e1]
    dsimp only
    have next : ∀ ρ', I (j + 1) ρ' → (WW bd g ds ρ').w n b k r := fun ρ' h' => WS I ds (j + 1) ρ' h'
      (fun i d' ρ hd hI => by
        have := step (i + 1) d' ρ (by simpa using hd) (by rw [show j + (i + 1) = j + 1 + i by omega]; exact hI)
        rwa [show j + (i + 1) + 1 = j + 1 + i + 1 by omega] at this)
      (fun ρ hI => fin ρ (by rw [List.length_cons, show j + (ds.length + 1) = j + 1 + ds.length by omega]; exact hI))
    cases hg : g ρ1 with
    | nx ρ' => rw [hg] at e2; exact next ρ' e2.nxi
    | ct ρ' => rw [hg] at e2; exact next ρ' e2.cti
    | bk ρ' => rw [hg] at e2; exact .nx e2.bki
    | rt d' => rw [hg] at e2; exact .rt e2.rti
    | no => rw [hg] at e2; exact e2.noi.elim
theorem W5 {f : Ev → Option (List D)} {bd : D → SE → Option SE} {ds : List D} (I : Nat → SE → Prop) (e : f (visF ρ) = some ds) (h0 : I 0 ρ)
    (step : ∀ i d ρ, ds[i]? = some d → I i ρ → ∃ ρ1, bd d ρ = some ρ1 ∧ (g ρ1).w (I (i + 1)) n (I (i + 1)) r) (fin : ∀ ρ, I ds.length ρ → n ρ) : (Y3 f bd g ρ).w n b k r := by
  unfold Y3
  rw [e]
  exact WS I ds 0 ρ h0 (fun i d ρ hd hI => by rw [Nat.zero_add] at hI ⊢; exact step i d ρ hd hI) (fun ρ hI => fin ρ (by rw [Nat.zero_add] at hI; exact hI))
theorem zaH {f : Ev → Option (List D)} {bd : D → SE → Option SE} {rg : List D → Option (List D)} {lo : Int} {c : Nat} (I : Nat → SE → Prop) (e : (f (visG ρ)).bind rg = some (YN lo c)) (h0 : I 0 ρ)
    (step : ∀ (i : Nat) ρ, i < c → I i ρ → ∃ ρ1, bd (.int (lo + i)) ρ = some ρ1 ∧ (g ρ1).w (I (i + 1)) n (I (i + 1)) r) (fin : ∀ ρ, I c ρ → n ρ) : (xT rg f bd g ρ).w n b k r := by
  unfold xT
  rw [e]
  refine WS I (YN lo c) 0 ρ h0 (fun i d ρ hd hI => ?_) (fun ρ hI => fin ρ ?_)
  · rw [Nat.zero_add] at hI ⊢
    unfold YN at hd
    rw [List.getElem?_map] at hd
    by_cases hi : i < c
    · rw [List.getElem?_range hi] at hd
      cases hd
      exact step i ρ hi hI
    · rw [List.getElem?_eq_none (by simpa using hi)] at hd
      cases hd
  · rw [Nat.zero_add] at hI
    rwa [show (YN lo c).length = c by unfold YN; simp] at hI
end
theorem Xs {m : Nat} {g : SE → Ctl} {ds : List D} {d : D} {ρ : SE} (e : ds.map .v ++ List.replicate (m - ds.length) .no = ρ) (q : (g ρ).w (fun _ => d = .non) noP noP (fun d' => d' = d)) : fnD m g ds = some d := by
  unfold fnD
  rw [e]
  cases hg : g ρ with
  | nx ρ' => rw [hg] at q; rw [show d = .non from q.nxi]
  | rt d' => rw [hg] at q; rw [show d' = d from q.rti]
  | bk _ => rw [hg] at q; exact q.bki.elim
  | ct _ => rw [hg] at q; exact q.cti.elim
  | no => rw [hg] at q; exact q.noi.elim
theorem Wx {m : Bool} {i : Nat} {f : Ev → Option D} {ρ : SE} {ds : List D} {d : D} (h1 : vEv m f ρ = some d) (h2 : ρ[i]? = some (.o ds)) (h3 : ds.length ≤ 1000) : Zz m i f ρ = .nx (ρ.set i (.o (ds ++ [d]))) := by
  unfold Zz
  rw [h1, h2]
  show (match (if decide (ds.length < sizeLine) = true then some (ρ.set i (.o (ds ++ [d]))) else none) with | some ρ' => Ctl.nx ρ' | none => Ctl.no) = _
  rw [if_pos (decide_eq_true (Zp h3))]
theorem Vu {b : D → Option (List (Option D))} {t : Ev → Option Bool} {f : Ev → Option D} {ρ : Ev} {α : Type} (c : α → D) (y : α → D) : ∀ (xs : List α), (∀ x ∈ xs, ∃ own, b (c x) = some own ∧ t (own ++ ρ) = some true ∧ f (own ++ ρ) = some (y x)) → lcD b t f ρ (xs.map c) = some (xs.map y)
  | [], _ => rfl
  | x :: xs, h => by
    obtain ⟨own, h1, h2, h3⟩ := h x List.mem_cons_self
    show lcD b t f ρ (c x :: xs.map c) = _
    unfold lcD
    rw [h1]
    simp only [Option.bind_some, h2, if_true, h3, Vu c y xs fun z hz => h z (List.mem_cons_of_mem _ hz)]
    rfl
theorem Yq {b : D → Option (List (Option D))} {t : Ev → Option Bool} {f : Ev → Option D} {ρ : Ev} {α : Type} (c : α → D) (p : α → Bool) (y : α → D) : ∀ (xs : List α), (∀ x ∈ xs, ∃ own, b (c x) = some own ∧ t (own ++ ρ) = some (p x) ∧ (p x = true → f (own ++ ρ) = some (y x))) → lcD b t f ρ (xs.map c) = some ((xs.filter p).map y)
  | [], _ => rfl
  | x :: xs, h => by
    obtain ⟨own, h1, h2, h3⟩ := h x List.mem_cons_self
    have ih := Yq c p y xs fun z hz => h z (List.mem_cons_of_mem _ hz)
    show lcD b t f ρ (c x :: xs.map c) = _
    unfold lcD
    rw [h1]
    simp only [Option.bind_some, h2]
    cases hp : p x with
    | false =>
      rw [if_neg Bool.false_ne_true, ih, List.filter_cons, if_neg (by rw [hp]; exact Bool.false_ne_true)]
    | true =>
      rw [if_pos rfl, h3 hp, ih, List.filter_cons, if_pos hp]
      rfl
mutual
noncomputable def noS : D → Bool
  | .tup ds => zdw ds
  | .lst ds => zdw ds
  | .scr _ => false
  | _ => true
noncomputable def zdw : List D → Bool
  | [] => true
  | d :: ds => noS d && zdw ds
end
theorem Yp {n : Nat} (h : n ≤ 1000) : lim n = true := by
  unfold lim
  exact decide_eq_true (Nat.le_of_lt (Zp h))
theorem vL (lo : Int) (n : Nat) : (YN lo n).length = n := by unfold YN; simp
end Dl
namespace Dl
open PySem L2
noncomputable abbrev Pr := Int × Int
variable [KK]
section
variable {X : Cx} {e : Expr} {pos : Pos}
end
end Dl
namespace Dl
open PySem L2
variable [KK]
noncomputable def zdG : List D → Option D
  | [.int i] => some (.int i)
  | [.bl k] => some (.int (if k then 1 else 0))
  | _ => none
theorem zas : CaD (fun xs H Q => (∃ i, xs = [.int i] ∧ Q (.int i) H) ∨ ∃ k, xs = [.bl k] ∧ Q (.int (if k then 1 else 0)) H) zdG := by
  intro F H vs ds z Q s al e q
  unfold zdG at e
  split at e <;> cases e
  all_goals
    obtain ⟨x, r, rfl, ax, ar⟩ := al.cons_inv
    cases ar.nil_inv
  · exact .inl ⟨_, by rw [ax.int_inv], q F H _ (.refl s) .int⟩
  · exact .inr ⟨_, by rw [ax.bl_inv], q F H _ (.refl s) .int⟩
end Dl
namespace L2
open PySem PySem.Spec PyProof.Rows
section
variable {X : Cx}
end
end L2
namespace Dl
open PySem L2
section
variable [KK] {X : Cx} {a e k : Expr} {pos : Pos}
end
end Dl
namespace Dl
open PySem L2
end Dl
namespace L2
open PySem PySem.Spec PyProof.Rows
section
variable {X : Cx} {tg : Expr}
end
end L2
namespace Dl
open PySem L2
section
variable [KK] {X : Cx} {a b c e : Expr} {tg : Expr} {pos : Pos}
end
end Dl
namespace Dl
open PySem L2
variable [KK]
section
variable {X : Cx} {st : Stmt} {sts : List Stmt} {a e : Expr} {pos : Pos}
end
end Dl
namespace Dl
open PySem L2
variable [KK]
section
variable {X : Cx} {a b : Expr} {pos : Pos}
end
end Dl
namespace Dl
open PySem L2
variable [KK]
section
variable {X : Cx} {a e : Expr}
end
end Dl
namespace Dl
open PySem L2
section
variable [KK]
section
variable {κ : Type} [DecidableEq κ] (f : κ → List Key) (hf : ∀ a b, f a = f b → a = b)
include hf
end
section
variable {X : Cx} {a b c : Expr} {pos apos : Pos}
end
section
variable {X : Cx} {a e ko : Expr} {pos pos' : Pos} {st : Stmt}
end
end
end Dl
namespace Dl
open PySem L2
variable [KK]
section
variable {X : Cx} {a b e : Expr} {pos pos' : Pos}
end
end Dl
namespace Dl
open PySem L2
variable [KK]
section
variable {X : Cx}
end
end Dl
namespace L2
open PySem PySem.Spec PyProof.Rows
section
variable {prog : Program} {w : World} {A : Around} {E : Value → Shared → Prop} {s : Shared} {d it : Addr} {o : Obj} {es : Array DictEntry} {ep i : Nat}
end
section
variable {X : Cx} {tg : Expr}
end
end L2
namespace Dl
open PySem L2
section
variable [KK]
section
variable {X : Cx} {tg a b e k v : Expr} {pos pos' : Pos} {sts : List Stmt}
end
end
end Dl
namespace OwnRep
open PySem Builtin
theorem za6 {α : Type} {M : Model} {A : Around} {E : Value → Shared → Prop} {s : Shared} {c : Bool} {a b : Sem α} {Q : α → Shared → Prop} (hc : c = false) (h : wpAny M A b Q E s) : wpAny M A (if c = true then a else b) Q E s := by rw [hc, if_neg Bool.false_ne_true]; exact h
theorem noFill_tuple_mul : fillsNumberSlot (.type "tuple") "mul" = pure false :=
  fillsNumberSlot_seq (id := "tuple.__mul__") (r := some (.builtin "tuple.__rmul__")) F.slot_tuple_mul.lookup (by decide +kernel) F.slot_tuple_rmul.lookup (by decide +kernel)
theorem repeat_tuple : seqRepeat? (.type "tuple") = pure (some (.builtin "tuple.__mul__")) := by
  unfold seqRepeat?
  rw [seqSlot_of (T := "tuple") (name := "__mul__") (id := "tuple.__mul__") F.slot_tuple_mul.lookup (by decide +kernel), seqSlot_of (T := "tuple") (name := "__rmul__") (id := "tuple.__rmul__") F.slot_tuple_rmul.lookup (by decide +kernel)]
  rfl
theorem int_rmul_tuple (a : Int) (t : Tok) (l : Addr) (items : Array Value) (n : Nat) (dd : Option Addr) (sl : Array (Option Value)) :
    Meets (Builtin.«int.__rmul__» ⟨[.int a t, .ref l], []⟩) (fun _ R s => s.heap.get? l = some { cls := .type "tuple", dict := dd, data := .seq items n, slots := sl } ∧ R (.ok (.ret Value.notImplemented)) s) :=
  .of_wp fun prog w A R s h => by obtain ⟨hp, g, d, tk, os⟩ := s; obtain ⟨hl, h⟩ := h; wp_walk; exact ⟨_, rfl, h⟩
theorem tmul_same (l : Addr) (items : Array Value) (n : Nat) (dd : Option Addr) (sl : Array (Option Value)) (x : Int) (u : Tok) (hc0 : (decide (x < -(2 ^ 63)) || decide (x ≥ 2 ^ 63)) = false) (hc1 : (items.isEmpty || x == 1) = true) :
    Meets (Builtin.«tuple.__mul__» ⟨[.ref l, .int x u], []⟩) (fun _ R s => s.heap.get? l = some { cls := .type "tuple", dict := dd, data := .seq items n, slots := sl } ∧ R (.ok (.ret (Value.ref l))) s) :=
  .of_wp fun prog w A R s h => by obtain ⟨hp, g, d, tk, os⟩ := s; obtain ⟨hl, h⟩ := h; wp_walk; refine za6 hc0 ?_; wp_walk; exact ⟨_, rfl, h⟩
theorem tmul_none (l : Addr) (items : Array Value) (n : Nat) (dd : Option Addr) (sl : Array (Option Value)) (x : Int) (u : Tok) (hc0 : (decide (x < -(2 ^ 63)) || decide (x ≥ 2 ^ 63)) = false) (hc1 : (items.isEmpty || x == 1) = false) (hc2 : (decide (x ≤ 0) || items.isEmpty) = true) :
    Meets (Builtin.«tuple.__mul__» ⟨[.ref l, .int x u], []⟩) (fun _ R s => s.heap.get? l = some { cls := .type "tuple", dict := dd, data := .seq items n, slots := sl } ∧ R (.ok (.ret (Value.ref s.heap.objs.size))) { s with heap := s.heap.push { cls := .type "tuple", data := .seq #[] }, toks := s.toks }) :=
  .of_wp fun prog w A R s h => by obtain ⟨hp, g, d, tk, os⟩ := s; obtain ⟨hl, h⟩ := h; wp_walk; refine za6 hc0 ?_; wp_walk; exact ⟨_, rfl, h⟩
theorem tmul_some (l : Addr) (items : Array Value) (n : Nat) (dd : Option Addr) (sl : Array (Option Value)) (x : Int) (u : Tok) (hc0 : (decide (x < -(2 ^ 63)) || decide (x ≥ 2 ^ 63)) = false) (hc1 : (items.isEmpty || x == 1) = false) (hc2 : (decide (x ≤ 0) || items.isEmpty) = false) (hc3 : ¬ (items.size : Int) * x > (2 ^ 63 - 1) / 8) (hc4 : Builtin.Tuple.tupleTooMany ((items.size : Int) * x) = false) (hc5 : (List.foldl (fun x1 x2 => x1 ++ x2) #[] (List.replicate x.toNat items)).size ≤ sizeLine) :
    Meets (Builtin.«tuple.__mul__» ⟨[.ref l, .int x u], []⟩) (fun _ R s => s.heap.get? l = some { cls := .type "tuple", dict := dd, data := .seq items n, slots := sl } ∧ R (.ok (.ret (Value.ref s.heap.objs.size))) { s with heap := s.heap.push { cls := .type "tuple", data := .seq (List.foldl (fun x1 x2 => x1 ++ x2) #[] (List.replicate x.toNat items)) }, toks := s.toks }) :=
  .of_wp fun prog w A R s h => by obtain ⟨hp, g, d, tk, os⟩ := s; obtain ⟨hl, h⟩ := h; wp_walk; refine za6 hc0 ?_; wp_walk; refine wpAny_ite_false (decide_eq_false hc3) ?_; wp_walk; exact ⟨_, rfl, h⟩
end OwnRep
namespace L2
open PySem
section
variable {X : Cx}
noncomputable def zbV (K : PySem.W.Frag) : R2 := fun x y H Q => ∃ a k xs, x = .ref a ∧ y = .int k ∧ SqT K H a xs ∧ xs ≠ [] ∧ -(2 ^ 63) ≤ k ∧ k < 2 ^ 63 ∧ xs.length * k.toNat ≤ sizeLine ∧
  (k = 1 → Q (.ref a) H) ∧ (k ≠ 1 → ∀ p, H p = none → Q (.ref p) (upd H p (.tup (List.replicate k.toNat xs).flatten)))
theorem zba : OpR X (binaryOp .Mult) (zbV X.K) := by
  intro pins s σ H x y v u Q I rx ry h
  obtain ⟨a, k, xs, rfl, rfl, ha, hx, h1, h2, hz, q1, q2⟩ := h
  cases rx
  obtain ⟨t, rfl⟩ := ry
  obtain ⟨its, r, ⟨⟨cls, dd, dat, sl⟩, e, hc, n, hd⟩, _⟩ := I.tuple ha
  simp only at hc hd
  subst hc hd
  have hne : its.toArray.isEmpty = false := by
    cases its with
    | nil => exact absurd (r.nil_iff.mp rfl) hx
    | cons _ _ => rfl
  have hc0 : (decide (k < -(2 ^ 63)) || decide (k ≥ 2 ^ 63)) = false := by
    rw [decide_eq_false (by omega), decide_eq_false (by omega)]; rfl
  have hnew : ∀ m : Nat, List.foldl (fun x1 x2 => x1 ++ x2) #[] (List.replicate m its.toArray) = (List.replicate m its).flatten.toArray := fun m => by
    have := vZ its m []
    rw [List.nil_append] at this
    exact this
  have hl : ((List.replicate k.toNat its).flatten).length ≤ sizeLine := by rw [Xb, ← r.length, Nat.mul_comm]; exact hz
  have go : ∀ {Q' : Value → Shared → Prop}, wpAny (model X.prog X.w) X.A (call (.builtin "tuple.__mul__") [.ref a, .int k t]) Q' X.xe s → wpAny (model X.prog X.w) X.A (binaryOp .Mult (.ref a) (.int k t)) Q' X.xe s := fun {Q'} w =>
    wpAny_binaryOp_repeat_ref (T := "tuple") (U := "int") (by decide) ⟨_, e, rfl⟩ (fun s' => typeIs_int s' k t) OwnRep.noFill_tuple_mul F.fills_int_mul F.slot_int_rmul OwnRep.repeat_tuple F.slot_int_index.lookup
      (call_meets F.slot_int_rmul (typeIs_int s k t) F.entry_int_rmul (F.args_int_rmul_2 _ _) (OwnRep.int_rmul_tuple k t a its.toArray n dd sl) ⟨e, rfl, ⟨_, e, rfl⟩, w⟩)
  by_cases c1 : k = 1
  · exact go (call_meets F.slot_tuple_mul ⟨_, e, rfl⟩ F.entry_tuple_mul (F.args_tuple_mul_2 _ _) (OwnRep.tmul_same a its.toArray n dd sl k t hc0 (by rw [c1]; simp)) ⟨e, ⟨.ref a, H, I, rfl, q1 c1⟩⟩)
  have hc1 : (its.toArray.isEmpty || k == 1) = false := by rw [hne, Bool.false_or]; exact beq_eq_false_iff_ne.mpr c1
  have fin : ∀ (us : List Value), us = (List.replicate k.toNat its).flatten → EP X pins σ Q (.ref s.heap.objs.size) { s with heap := s.heap.push { cls := .type "tuple", data := .seq us.toArray }, toks := s.toks } := fun us hu => by
    refine ⟨.ref s.heap.objs.size, _, I.laid (t' := s.toks) (o := .tup (List.replicate k.toNat xs).flatten) (fun b ob q => Heap.get?_push_of_some _ q) (Nat.le_refl _) ?_, rfl, q2 c1 _ (I.hok.fresh (Nat.le_refl _))⟩
    refine ⟨by rw [Xb, Nat.mul_comm]; exact hz, us, ?_, PyProof.Rows.IsTup.new _ _⟩
    rw [hu]
    exact r.rep k.toNat
  by_cases c2 : k ≤ 0
  · refine go (call_meets F.slot_tuple_mul ⟨_, e, rfl⟩ F.entry_tuple_mul (F.args_tuple_mul_2 _ _) (OwnRep.tmul_none a its.toArray n dd sl k t hc0 hc1 (by rw [decide_eq_true c2]; rfl)) ⟨e, fin [] ?_⟩)
    rw [show k.toNat = 0 by omega]
    rfl
  · have hsz : (its.toArray.size : Int) * k ≤ (sizeLine : Int) := by
      have : ((its.length * k.toNat : Nat) : Int) ≤ (sizeLine : Int) := by rw [← r.length]; exact Int.ofNat_le.mpr hz
      rw [Int.natCast_mul, Int.toNat_of_nonneg (by omega)] at this
      exact this
    refine go (call_meets F.slot_tuple_mul ⟨_, e, rfl⟩ F.entry_tuple_mul (F.args_tuple_mul_2 _ _) (OwnRep.tmul_some a its.toArray n dd sl k t hc0 hc1 (by rw [hne, Bool.or_false]; exact decide_eq_false c2) ?_ ?_ ?_) ⟨e, ?_⟩)
    · have : (sizeLine : Int) ≤ (2 ^ 63 - 1) / 8 := by decide
      omega
    · unfold Builtin.Tuple.tupleTooMany
      exact decide_eq_false (by omega)
    · rw [hnew, List.size_toArray]
      exact hl
    · rw [hnew]
      exact fin _ rfl
end
end L2
namespace Dl
open PySem L2
section
variable [KK]
noncomputable def zaq : D → D → Option D
  | .tup a, .int k => if a ≠ [] ∧ -(2 ^ 63) ≤ k ∧ k < 2 ^ 63 ∧ lim (a.length * k.toNat) = true then some (.tup (List.replicate k.toNat a).flatten) else none
  | _, _ => none
theorem V8 {K : PySem.W.Frag} : OpD (zbV K) zaq := by
  intro F H x y d e z Q s ax ay ez q
  cases d <;> try cases ez
  cases e <;> try cases ez
  rename_i ds k
  unfold zaq at ez
  dsimp only at ez
  split at ez <;> cases ez
  rename_i hl
  obtain ⟨p, xs, rfl, hx, al⟩ := ax.tup_inv
  refine ⟨p, k, xs, rfl, ay.int_inv, SqT.of (s _ _ hx), fun e => hl.1 ?_, hl.2.1, hl.2.2.1, by rw [al.length]; exact of_decide_eq_true hl.2.2.2, fun e => ?_, fun _ r hr => ?_⟩
  · subst e
    exact List.length_eq_zero_iff.mp al.length.symm
  · subst e
    refine q F H _ (.refl s) ?_
    show At F (.tup (List.replicate 1 ds).flatten) _
    rw [show (List.replicate 1 ds).flatten = ds by simp]
    exact .tup hx al
  · have g := Gr.alloc s hr (.tup (List.replicate k.toNat xs).flatten)
    exact q _ _ _ g (.tup zo ((al.rep _).mono g.ff))
section
variable {X : Cx} {a b : Expr} {pos : Pos}
theorem za8 {f h : Ev → Option D} (ha : ED X a f) (hb : ED X b h) : ED X (.BinOp a .Mult b pos) (zp zaq f h) := Yb zba V8 ha hb
end
end
end Dl
namespace L2
open PySem PySem.Spec PyProof.Rows
end L2
namespace Dl
open PySem L2
variable [KK]
end Dl
namespace PySem
open Sem (wp)
namespace OwnRev
end OwnRev
section
variable {prog : Program} {w : World} {A : Around} {E : Value → Shared → Prop} {s : Shared}
end
end PySem
namespace L2
open PySem PySem.Spec PyProof.Rows
end L2
namespace Dl
open PySem L2 PySem.Spec PyProof.Rows
variable [KK] {X : Cx} {e : Expr}
end Dl
namespace OwnSet
open PySem
end OwnSet
namespace OwnSet
open PySem
section
variable {prog : Program} {w : World} {A : Around} {E : Value → Shared → Prop} {s : Shared}
end
end OwnSet
namespace OwnSet
open PySem
section
variable {prog : Program} {w : World} {A : Around} {E : Value → Shared → Prop} {s : Shared}
end
section
variable {prog : Program} {w : World} {A : Around} {R : Result → Shared → Prop} {I : Addr} {fp wr : List Addr} {G : Array GenState → Array GenState → Prop} {n : Nat} {P : Nat → Value → Prop} {St : Nat → Shared → Prop}
end
section
variable {prog : Program} {w : World} {A : Around} {E : Value → Shared → Prop} {s : Shared}
end
end OwnSet
namespace OwnSet
open PySem
section
variable {prog : Program} {w : World} {A : Around} {E : Value → Shared → Prop} {s : Shared}
end
end OwnSet
namespace OwnSet
open PySem
section
variable {prog : Program} {w : World} {A : Around} {E : Value → Shared → Prop} {s : Shared}
end
end OwnSet
namespace OwnSet
open PySem
section
variable {prog : Program} {w : World} {A : Around} {E : Value → Shared → Prop} {s : Shared}
end
end OwnSet
namespace OwnSet
open PySem
section
variable {prog : Program} {w : World} {A : Around} {E : Value → Shared → Prop} {s : Shared}
end
end OwnSet
namespace OwnSet
open PySem
section
variable {prog : Program} {w : World} {A : Around} {E : Value → Shared → Prop} {s : Shared}
end
end OwnSet
namespace OwnSet
open PySem PyProof.Rows
section
variable {prog : Program} {w : World} {A : Around} {E : Value → Shared → Prop} {s : Shared}
end
end OwnSet
namespace L2
open PySem PySem.Spec PyProof.Rows
end L2
namespace Dl
open PySem L2 PySem.Spec PyProof.Rows
variable [KK] {X : Cx} {e : Expr}
end Dl
namespace Dl
open PySem L2 PySem.Spec PyProof.Rows
variable [KK] {X : Cx} {a b : Expr} {pos apos : Pos}
end Dl
namespace L2
open PySem PySem.Spec PyProof.Rows
theorem XL {h₀ : Heap} {k : Str} {P : Value → Prop} : ∀ {D : List (Str × KTD.Dat)}, (∀ d, KTD.datumAt k D = some d → KTD.Opened h₀ P d) → KTD.EachL h₀ k P D
  | [], _ => trivial
  | [(x, d)], h => fun e => h d (by show (if decide (k = x) = true then some d else none) = _; rw [if_pos (decide_eq_true e)])
  | (x, d) :: q :: D, h => by
    show if decide (k = x) = true then KTD.Opened h₀ P d else KTD.EachL h₀ k P (q :: D)
    by_cases e : k = x
    · rw [if_pos (decide_eq_true e)]
      exact h d (by show (if decide (k = x) = true then some d else _) = _; rw [if_pos (decide_eq_true e)])
    · rw [if_neg (by rw [decide_eq_false e]; exact Bool.false_ne_true)]
      refine XL fun d' h' => h d' ?_
      show (if decide (k = x) = true then some d else KTD.datumAt k (q :: D)) = _
      rw [if_neg (by rw [decide_eq_false e]; exact Bool.false_ne_true), h']
theorem Yl : ∀ {ns : List Int} {vs : List Value}, KTD.Flats vs (ns.map PyData.int) → yd (ns.map V.int) vs
  | [], _, h => by cases h; exact .nil
  | n :: ns, _, h => by
    cases h with
    | cons h1 h2 =>
      obtain ⟨t, rfl⟩ := h1.int_inv
      exact .cons ⟨t, rfl⟩ (Yl h2)
section
variable {X : Cx} {a : Addr} {D : List (Str × KTD.Dat)} {nm : Str} {b : Expr} {p pos : Pos} {tb : TE}
noncomputable def zcr (a : Addr) (D : List (Str × KTD.Dat)) : R2 := fun x y H Q => ∃ s, x = .str s ∧ y = .ref a ∧ Q (.bl (KTD.inKeys s D)) H
theorem VZ (T : ∀ h : Heap, X.K.In h → KTD.TextTab h a D) : OpR X (compareOp .In) (zcr a D) := by
  intro pins s σ H x y v u Q I rx ry h
  obtain ⟨z, rfl, rfl, q⟩ := h
  obtain ⟨t, rfl⟩ := rx
  cases ry
  exact KTD.in_text ⟨T _ I.kIn, fun _ _ e => e⟩ ⟨.bl _, H, I.tok _, rfl, q⟩
noncomputable def tTab (D : List (Str × KTD.Dat)) (base : Heap) (tb : TE) : TE := fun σ H Q => tb σ H fun y H1 => ∃ (z : Str) (ns : List Int), y = .str z ∧ KTD.datumAt z D = some (.tup (ns.map PyData.int)) ∧ ∀ p its, IsTup base p (List.toArray its) → yd (ns.map V.int) its → Q (.ref p) H1
theorem zcZ (T : ∀ h : Heap, X.K.In h → KTD.TextTab h a D) (hg : Gl X nm) (hm : X.mg nm = some (.ref a)) (hb : PE X b tb) (hs : YQ b) (hd : (nm == ("__debug__" : Str)) = false := by decide) : PE X (.Subscript (.Name nm p) b pos) (tTab D X.base tb) := by
  intro pins s σ H Q I h
  refine Subscript_ (vj I hg hm (thn (hb pins s σ H _ I h) fun u s1 hq => ?_) hd)
  obtain ⟨y, H1, I1, ry, z, ns, rfl, hz, q⟩ := hq
  obtain ⟨t, rfl⟩ := ry
  have hin : KTD.inKeys z D = true := by rw [← KTD.isSome_datumAt, hz]; rfl
  refine KTD.item_text (h₀ := X.base) ⟨T _ I.mod.kin, I1.bk⟩ hin (XL fun d hd => ?_) (hs _ _) (by intro _; with_unfolding_all rfl)
  rw [hz] at hd
  cases hd
  exact fun p its h1 h2 => ⟨.ref p, H1, I1.tok _, rfl, q p its h1 (Yl h2)⟩
noncomputable def rIxB (base : Heap) : R2 := fun x y H Q => ∃ p its xs i v, x = .ref p ∧ y = .int i ∧ IsTup base p (List.toArray its) ∧ yd xs its ∧ xs.length ≤ sizeLine ∧ atI xs i = some v ∧ Q v H
theorem zbo : IxR X (rIxB X.base) := by
  intro value slice pins s σ H x y v u Q I rx ry h hs
  obtain ⟨p, its, xs, i, z, rfl, rfl, hq, r, hz, he, q⟩ := h
  cases rx
  obtain ⟨t, rfl⟩ := ry
  have pl : IsTup s.heap p its.toArray := by
    obtain ⟨o, ho, hc, n, hd⟩ := hq
    exact ⟨o, I.bk _ _ ho, hc, n, hd⟩
  obtain ⟨j, h1, h2, h3, h4, h5⟩ := YF he
  obtain ⟨w, ew, rw'⟩ := r.get h2
  have hl := r.length
  have hn := vO
  have fin : EP X pins σ Q w s := ⟨z, H, I, rw', q⟩
  exact subscriptTail_builtinR (x := w) pl.typeIs slot_tuple_getitem.lookup
    (getItem_tuple (j := j) (Q := fun r s' => r = w ∧ EP X pins σ Q r s') pl (by omega) (by omega) (by rw [List.size_toArray, ← hl]; exact h1) (by simpa using ew) ⟨rfl, fin⟩) hs
end
end L2
namespace Dl
open PySem L2 PySem.Spec PyProof.Rows
variable [KK] {X : Cx} {a : Addr} {T : List (Str × KTD.Dat)} {nm : Str} {b : Expr} {p p2 p3 pos : Pos} {f : Ev → Option D}
noncomputable abbrev zal := List (Str × List Int)
noncomputable def Za (t : zal) : List (Str × KTD.Dat) := t.map fun q => (q.1, .tup (q.2.map PyData.int))
noncomputable def vS : zal → Str → Option (List Int)
  | [], _ => none
  | q :: t, x => if x = q.1 then some q.2 else vS t x
omit [KK] in
theorem v5 (x : Str) : ∀ t : zal, KTD.datumAt x (Za t) = (vS t x).map fun ns => KTD.Dat.tup (ns.map PyData.int)
  | [] => rfl
  | q :: t => by
    show (if decide (x = q.1) = true then some (KTD.Dat.tup (q.2.map PyData.int)) else KTD.datumAt x (Za t)) = (if x = q.1 then some q.2 else vS t x).map _
    by_cases h : x = q.1
    · rw [if_pos (decide_eq_true h), if_pos h]; rfl
    · rw [if_neg (by rw [decide_eq_false h]; exact Bool.false_ne_true), if_neg h, v5 x t]
noncomputable def zaD (t : zal) : D → Option D
  | .str x => some (.bl (vS t x).isSome)
  | _ => none
noncomputable def Wq (t : zal) (i : Int) : D → Option D
  | .str x => (vS t x).bind fun ns => (atI ns i).map D.int
  | _ => none
theorem VY {t : zal} (T : ∀ h : Heap, X.K.In h → KTD.TextTab h a (Za t)) (hg : Gl X nm) (hm : X.mg nm = some (.ref a)) (hb : ED X b f) (hk : behindInMarks .In (.Name nm p) = false := by with_unfolding_all rfl) (hd : (nm == ("__debug__" : Str)) = false := by decide) :
    ED X (.Compare b [.In] [.Name nm p] pos) (eUn (zaD t) f) := by
  obtain ⟨tb, pb, rb⟩ := hb
  refine ⟨_, W6 (VZ T) pb (yq (v := .ref a) hg hm rfl hd) hk, fun σ ρ F H z Q s va e q => ?_⟩
  obtain ⟨d, e1, e2⟩ := Option.bind_eq_some_iff.mp e
  refine rb σ ρ F H d _ s va e1 fun F1 H1 v g1 a1 => ?_
  cases d with
  | str x =>
    cases e2
    cases a1.str_inv
    refine ⟨x, rfl, rfl, ?_⟩
    rw [← KTD.isSome_datumAt, v5, Option.isSome_map]
    exact q F1 H1 _ g1 .bl
  | _ => cases e2
theorem XG {t : zal} {i : Int} {j : Nat} (T : ∀ h : Heap, X.K.In h → KTD.TextTab h a (Za t)) (hl : ∀ q ∈ t, q.2.length ≤ sizeLine) (hg : Gl X nm) (hm : X.mg nm = some (.ref a)) (hb : ED X b f) (hs : YQ b) (hd : (nm == ("__debug__" : Str)) = false := by decide) :
    ED X (.Subscript (.Subscript (.Name nm p) b p2) (.Constant (.int i) j p3) pos) (eUn (Wq t i) f) := by
  obtain ⟨tb, pb, rb⟩ := hb
  refine ⟨_, zcd zbo (zcZ T hg hm pb hs hd) ze (fun _ _ => rfl), fun σ ρ F H z Q s va e q => ?_⟩
  obtain ⟨d, e1, e2⟩ := Option.bind_eq_some_iff.mp e
  refine rb σ ρ F H d _ s va e1 fun F1 H1 v g1 a1 => ?_
  cases d with
  | str x =>
    obtain ⟨ns, h1, h2⟩ := Option.bind_eq_some_iff.mp e2
    obtain ⟨n, h3, rfl⟩ := Option.map_eq_some_iff.mp h2
    cases a1.str_inv
    have hmem : ∀ t : zal, (∀ q ∈ t, q.2.length ≤ sizeLine) → vS t x = some ns → ns.length ≤ sizeLine := by
      intro t
      induction t with
      | nil => intro _ h; cases h
      | cons q t ih =>
        intro hl h
        unfold vS at h
        split at h
        · cases h; exact hl q List.mem_cons_self
        · exact ih (fun r hr => hl r (List.mem_cons_of_mem _ hr)) h
    refine ⟨x, ns, rfl, by rw [v5, h1]; rfl, fun p its h4 h5 => ⟨p, its, ns.map V.int, i, .int n, rfl, rfl, h4, h5, by rw [List.length_map]; exact hmem t hl h1, ?_, q F1 H1 _ g1 .int⟩⟩
    have : ∀ (xs : List Int), atI xs i = some n → atI (xs.map V.int) i = some (V.int n) := fun xs h => by
      unfold atI at h ⊢
      rw [List.length_map]
      cases hi : ixN xs.length i with
      | none => rw [hi] at h; cases h
      | some k =>
        rw [hi] at h
        show (xs.map V.int)[k]? = _
        have h : xs[k]? = some n := h
        rw [List.getElem?_map, h]
        rfl
    exact this ns h3
  | _ => cases e2
end Dl
namespace L2
open PySem PySem.Spec PyProof.Rows
end L2
namespace Dl
open PySem L2 PySem.Spec PyProof.Rows
variable [KK] {X : Cx} {e : Expr}
end Dl
namespace L2
open PySem PySem.Spec PyProof.Rows
end L2
namespace Dl
open PySem L2 PySem.Spec PyProof.Rows
variable [KK] {X : Cx} {a e ko : Expr} {pos tpos : Pos}
end Dl
namespace PySem
open Sem (wp)
section
variable {prog : Program} {w : World} {A : Around} {E : Value → Shared → Prop} {s : Shared} {z TI TO i1 i2 i3 : Addr} {fp1 fp2 fp3 : List Addr} {n1 n2 n3 k1 k2 k3 : Nat} {P1 P2 P3 : Nat → Value → Prop} {St1 St2 St3 : Nat → Heap → Prop} {a b c : Value}
end
section
variable {prog : Program} {w : World} {A : Around} {E : Value → Shared → Prop} {s : Shared}
variable {z TI TO i1 i2 i3 : Addr} {fp1 fp2 fp3 : List Addr} {n1 n2 n3 k1 k2 k3 : Nat} {P1 P2 P3 : Nat → Value → Prop} {St1 St2 St3 : Nat → Heap → Prop} {a b c : Value}
end
end PySem
namespace L2
open PySem PySem.Spec PyProof.Rows
end L2
namespace Dl
open PySem L2 PySem.Spec PyProof.Rows
variable [KK] {X : Cx} {a b c : Expr} {pos : Pos}
end Dl
namespace Dl
open PySem L2
variable [KK]
section
variable {X : Cx} {st : Stmt} {sts : List Stmt} {a b c e tg : Expr} {pos pos' : Pos}
end
end Dl
namespace L2
open PySem PySem.Spec PyProof.Rows
section
variable {P : Program} {w : World} {H H' : Hp} {h h' : Heap} {a : Addr} {o : HO}
theorem yX.ex (x : yX P w H h a o) : ∃ u, h.get? a = some u := by
  cases o with
  | lst xs => obtain ⟨_, _, _, _, e⟩ := x; exact ⟨_, e⟩
  | tup xs => obtain ⟨_, _, _, ob, e, _⟩ := x; exact ⟨_, e⟩
  | dK kvs => obtain ⟨_, _, _, _, o, _, _, e, _⟩ := x; exact ⟨_, e⟩
  | dT kvs => obtain ⟨_, _, _, _, o, _, _, e, _⟩ := x; exact ⟨_, e⟩
  | set S n => obtain ⟨o, _, _, _, e, _⟩ := x; exact ⟨_, e⟩
  | ins C dx fs => obtain ⟨_, _, _, e, _⟩ := x; exact ⟨_, e⟩
  | own y => exact x
  | xd fs => obtain ⟨_, ⟨_, _, _, e, _⟩, _⟩ := x; exact ⟨_, e⟩
  | rng lo hi => obtain ⟨_, _, _, e⟩ := x; exact ⟨_, e⟩
  | frz ob u => obtain ⟨e, _⟩ := x; exact ⟨_, e⟩
  | tbl ps => exact ⟨_, (show h.get? a = some _ from x)⟩
  | met f y => exact ⟨_, (show h.get? a = some _ from x)⟩
  | ext φ => obtain ⟨_, ⟨_, e⟩, _⟩ := x; exact ⟨_, e⟩
theorem HOk.stays (x : HOk P w H h) (k : ∀ b u, H b ≠ none → h.get? b = some u → h'.get? b = some u) : HOk P w H h' := fun a o e =>
  (x a o e).stay (fun b u hb q => k b u (by
    rcases hb with rfl | hb
    · rw [e]; intro z; cases z
    · rw [hb]; intro z; cases z) q) (fun _ q => q) fun _ _ q => q
end
structure Cov (outer : List Env) (H : Hp) (h : Heap) (H' : Hp) (h' B : Heap) : Prop where
  old : ∀ b o, h.get? b = some o → H b = none → b ∉ frs outer → B.get? b = some o
  there : ∀ b o, h.get? b = some o → b ∉ frs outer → ∃ o', B.get? b = some o'
  new : ∀ b o, H' b ≠ none → h'.get? b = some o → B.get? b = some o
noncomputable def Air (P : Program) (w : World) : CXT := fun outer H s E e s' =>
  ∃ (ea C t : Addr) (H' : Hp) (B : Heap), e = .ref ea ∧ s'.os = s.os ∧ AllBare s'.gens ∧ Un (frs outer) [] H H' s.heap s'.heap ∧ HOk P w H' s'.heap ∧
    Heap.FlyingW B outer ea (.ref C) (.ref t) s'.heap ∧ Cov outer H s.heap H' s'.heap B ∧ E (.ref C) none H'
section
variable {X : Cx} {pins : List (Addr × Obj)} {σ : St} {H H' : Hp} {s s' : Shared} {E : XK} {e : Value} {M : Model} {E2 : Value → Shared → Prop}
theorem Inv.airUn (hex : X.ex = []) (I : Inv X pins σ H s) {h' B : Heap} (J : Inv X pins σ H' s') (cov : Cov X.stack H s.heap H' s'.heap B) (hB : B.StaysIn h') (hfr : h'.FunFrames B X.outer) (up : s'.heap.UpToSlots h') :
    Un X.fs [] X.H₀ H' X.s₀.heap h' ∧ HOk X.prog X.w H' h' ∧ Cov X.outer X.H₀ X.s₀.heap H' h' B := by
  have neL : ∀ b o, X.s₀.heap.get? b = some o → b ≠ X.env.locals := fun b o e => Nat.ne_of_lt (Nat.lt_of_lt_of_le (Heap.lt_size e) I.ok.above)
  have nst : ∀ b o, X.s₀.heap.get? b = some o → b ∉ X.fs → b ∉ frs X.stack := fun b o e n z => (List.mem_cons.mp (I.stkSub b z)).elim (neL b o e) n
  have nx : ∀ b : Addr, b ∉ X.ex := by rw [hex]; simp
  have cov' : Cov X.outer X.H₀ X.s₀.heap H' h' B := by
    refine ⟨fun b o e n hb => cov.old b o (I.base.keep b o e n hb (nx b)) (I.base.free b o e n (nx b)) (nst b o e hb), fun b o e hb => ?_, fun b o hb e => ?_⟩
    · obtain ⟨o', e'⟩ := I.base.there b o e (nx b)
      exact cov.there b o' e' (nst b o e hb)
    · cases q : H' b with
      | none => exact absurd q hb
      | some u =>
        obtain ⟨ob, ho⟩ := (J.hok b u q).ex
        have z := cov.new b ob hb ho
        have z2 := hB b ob z
        rw [e] at z2
        cases z2
        exact z
  refine ⟨⟨fun b o e n hb _ => hB b o (cov'.old b o e n hb), fun b o e n hb _ => ?_, fun b o e n _ => J.base.free b o e n (nx b), fun b o e _ => ?_, J.base.tups, J.base.frzs, J.base.tbls⟩, J.hok.stays fun b u hb hu => hB b u (cov.new b u hb hu), cov'⟩
  · obtain ⟨sl, e1⟩ := J.base.slot b o e n hb (nx b)
    obtain ⟨_, o2, ho2, hd⟩ := I.ok.funs.mem hb
    rw [e] at ho2
    cases ho2
    obtain ⟨sl2, e2⟩ := up b _ e1 hd
    exact ⟨sl2, e2⟩
  · by_cases hb : b ∈ X.fs
    · obtain ⟨_, o2, ho2, _⟩ := hfr.mem hb
      exact ⟨o2, ho2⟩
    · obtain ⟨o', e'⟩ := cov'.there b o e hb
      exact ⟨o', hB b o' e'⟩
end
theorem W4 {P : Program} {w : World} {K : PySem.W.Frag} {mg : Str → Option Value} {base : Heap} {N : List Str} {qual : Str} {scope : Scope} {f : Addr} {cd : Value} {A : Around} {outer : List Env} {s : Shared} {H : Hp} {E : XK}
    {pins : List (Addr × Obj)} {σ : St} {H1 : Hp} {s1 : Shared} {h' : Heap} {ea C : Addr} {args : List Value}
    (I : Inv (Y2 (Air P w) P w K mg base N qual scope f cd A outer s H E) pins σ H1 s1) (hx : Heap.MadeExcOf s1.heap h' ea (.ref C) args) (hE : E (.ref C) none H1) :
    (Y2 (Air P w) P w K mg base N qual scope f cd A outer s H E).xe (.ref ea) { s1 with heap := h' } := by
  let X := Y2 (Air P w) P w K mg base N qual scope f cd A outer s H E
  have I : Inv X pins σ H1 s1 := I
  have keepX : ∀ b o, s1.heap.get? b = some o → h'.get? b = some o := hx.keeps
  have hin : ∀ env ∈ X.stack, ∀ a, env.frame = some a → a ∈ frs X.stack := fun env he a ha => List.mem_filterMap.mpr ⟨env, he, ha⟩
  have J : Inv X pins σ H1 { s1 with heap := h' } := by
    have := I.un (t' := s1.toks) (H' := H1) (h' := h') (Un.kept keepX) (I.hok.kept keepX)
    exact this
  show wpAny (model P w) X.A (leaving X.env (.ref ea)) (fun _ s'' => Air P w outer H s E (.ref ea) s'') _ { s1 with heap := h' }
  refine wpAny_leaves_madeW (base := PySem.W.hideAll s1.heap (frs X.stack)) (h := s1.heap) (L := X.env.locals) (outer := outer) (I.ok.frames) rfl (fun b o q => PySem.W.of_hideAll _ q) (PySem.W.funFrames_hide I.stack hin) hx fun h2 t x1 x2 x3 x4 => ?_
  have cov : Cov X.stack H1 s1.heap H1 h' (PySem.W.hideAll s1.heap (frs X.stack)) := by
    refine ⟨fun b o e _ hb => PySem.W.hideAll_get _ e hb, fun b o e hb => ⟨o, PySem.W.hideAll_get _ e hb⟩, fun b o hb e => ?_⟩
    cases q : H1 b with
    | none => exact absurd q hb
    | some u =>
      obtain ⟨ob, ho⟩ := (I.hok b u q).ex
      have z := keepX b ob ho
      rw [e] at z
      cases z
      exact PySem.W.hideAll_get _ ho fun z => hb (I.stkFree b z)
  obtain ⟨u1, u2, u3⟩ := I.airUn (X := X) rfl J cov x1.1 x1.2.2.1 x4
  exact ⟨ea, C, t, H1, _, rfl, I.os, I.bare, u1, u2, x1, u3, hE⟩
end L2
namespace L2
open PySem PySem.Spec PyProof.Rows
noncomputable abbrev bmV : List Value := [.type "ValueError", .type "Exception", .type "BaseException", .type "object"]
structure XCls (K : PySem.W.Frag) (mg : Str → Option Value) (C : Addr) (x : Str) : Prop where
  bound : mg x = some (.ref C)
  exc : PySem.W.excIn K C bmV "ValueError.__new__" = true
theorem zbw {K : PySem.W.Frag} {h₀ : Heap} {C : Addr} {bmB : List Value} {newId : String} (X : K.In h₀) (q : PySem.W.excIn K C bmB newId = true) :
    ∃ bm N nm q bs hdct sn sub ab col dd k0 k1 k2 k3 k5 mN, h₀.get? C = some (excClassObj nm q C N bs bm hdct sn sub ab col dd k0 k1 k2 k3 k5 newId) ∧ h₀.Ns N mN ∧ mN "__init__" = none ∧ OwnTail h₀ bmB bm := by
  unfold PySem.W.excIn at q
  split at q
  · rename_i dd cd sl ho
    split at q
    · rename_i C' bm k0 k1 k2 k3 n k5 hm hs
      simp only [Bool.and_eq_true, beq_iff_eq, Bool.not_eq_true'] at q
      obtain ⟨⟨⟨⟨⟨rfl, rfl⟩, hdel⟩, ht⟩, hok⟩, hni⟩ := q
      obtain ⟨nm, bs, mro, ns, qn, hd, sn, sub, ab, col, del⟩ := cd
      dsimp only at hm hdel hok hni
      subst hm hdel
      have hsl : sl = #[k0, k1, k2, k3, some (.builtin n), k5] := by
        obtain ⟨l⟩ := sl
        simp only at hs
        rw [hs]
      subst hsl
      exact ⟨bm, ns, nm, qn, bs, hd, sn, sub, ab, col, dd, k0, k1, k2, k3, k5, _, X _ _ ho, .of_isNs (PySem.W.isNs_of_in X hok), PySem.W.nsMap_none_of_in X hok hni, PySem.W.tail_of_in X ht⟩
    · cases q
  · cases q
theorem VQ {P : Program} {w : World} {K : PySem.W.Frag} {mg : Str → Option Value} {base : Heap} {N : List Str} {qual : Str} {scope : Scope} {f : Addr} {cd : Value} {A : Around} {outer : List Env} {s : Shared} {H : Hp} {E : XK} {C : Addr} {x : Str} {np cpos pos : Pos}
    (hc : XCls K mg C x) (hg : Gl (Y2 (Air P w) P w K mg base N qual scope f cd A outer s H E) x) (hd : (x == ("__debug__" : Str)) = false := by decide) :
    PS (Y2 (Air P w) P w K mg base N qual scope f cd A outer s H E) (.Raise (some (.Call (.Name x np) [] [] cpos)) none pos) (fun _ _ H1 => E (.ref C) none H1) := by
  intro pins s1 σ H1 D I h
  obtain ⟨tl, N', nm, q, bs, hdct, sn, sub, ab, col, dd, k0, k1, k2, k3, k5, mN, hC, hN, hni, T⟩ := zbw I.ok.mod.kin hc.exc
  refine wpAny_Raise_call_subU (C := C) (nm := nm) (q := q) (N := N') (bs := bs) (bm := tl) (hdct := hdct) (sn := sn) (sub := sub) (ab := ab) (col := col) (dd := dd) (k0 := k0) (k1 := k1) (k2 := k2) (k3 := k3) (k5 := k5)
    PySem.F.excBase_ValueError (by decide) PySem.F.excBase_ValueError (mN := mN) (T.hasType PySem.F.excBase_ValueError.hasBase) (I.ok.hd rfl) rfl hni (vj I hg hc.bound ⟨rfl, ?_⟩ hd)
  exact evalArgs_empty ⟨rfl, Nat.zero_le _, I.bk _ _ hC, hN.keeps I.bk, T.keeps I.bk, fun h' e hm => W4 I hm h⟩
end L2
namespace Dl
open PySem L2
variable [KK]
section
variable (E : XK) (cl : Nat → Addr)
noncomputable def Wi (F H : Hp) (j : Nat) : Prop := ∀ F' H', Gr F H F' H' → E (.ref (cl j)) none H'
noncomputable def RXE (t : TE) (fx : Ev → Option Nat) : Prop := ∀ (σ : St) (ρ : Ev) (F H : Hp) (j : Nat) (Q : VK), yg F H → VAt F ρ σ → fx ρ = some j → Wi E cl F H j → t σ H Q
noncomputable def RXS (t : TS) (gx : SE → Option Nat) : Prop := ∀ (Fb Hb F H : Hp) (ρ : SE) (σ : St) (D' : ZI) (j : Nat), Rl Fb Hb F H ρ σ → gx ρ = some j → Wi E cl Fb Hb j → t D' σ H
noncomputable def XE (X : Cx) (e : Expr) (fx : Ev → Option Nat) : Prop := ∃ t, PE X e t ∧ RXE E cl t fx
noncomputable def XS (X : Cx) (st : Stmt) (gx : SE → Option Nat) : Prop := ∃ t, PS X st t ∧ RXS E cl t gx
noncomputable def XSs (X : Cx) (sts : List Stmt) (gx : SE → Option Nat) : Prop := ∃ t, PSs X sts t ∧ RXS E cl t gx
end
section
variable {E : XK} {cl : Nat → Addr} {X : Cx} {a b c e : Expr} {es : List Expr} {st : Stmt} {sts : List Stmt} {pos pos' : Pos}
theorem Wi.grow {F H F1 H1 : Hp} {j : Nat} (w : Wi E cl F H j) (g : Gr F H F1 H1) : Wi E cl F1 H1 j := fun F' H' g' => w F' H' (g.trans g')
theorem Wi.out {Fb Hb F H : Hp} {ρ : SE} {σ : St} {j : Nat} (w : Wi E cl Fb Hb j) (rl : Rl Fb Hb F H ρ σ) : Wi E cl (gOf ρ σ F H) H j := fun F' H' g => w F' H' (rl.out g)
noncomputable def spX (cl : Nat → Addr) (m : Nat) (r : List D → Option Nat) : Sp := fun vs H _ E => ∃ ds j F, ds.length = m ∧ yg F H ∧ AtL F ds vs ∧ r ds = some j ∧ Wi E cl F H j
noncomputable def zbm (m : Nat) (r : List D → Option Nat) (f : Ev → Option (List D)) : Ev → Option Nat := fun ρ => (f ρ).bind fun ds => if ds.length = m then r ds else none
theorem zbt {x : Str} {k m : Nat} {f : Addr} {fd : FuncData} {ps : List Str} {r : List D → Option Nat} {pp : Pos} {fa : Ev → Option (List D)} (F : xn X.prog X.w X.K X.mg X.base (Air X.prog X.w) k f fd ps (spX cl m r)) (hx : vX (Air X.prog X.w) X E) (hr : vy k X.A) (hg : Gl X x) (hm : X.mg x = some (.ref f)) (hk : PySem.W.keepIn X.K (.ref f) = true) (hb : YS X.K fd ps [])
    (ha : AD X (e :: es) fa) (hdb : (x == ("__debug__" : Str)) = false := by decide) (he : starEach (e :: es) X.env = (false, eval e X.env) :: starEach es X.env := by rfl) (hpl : (backTo pos (starEach es X.env)).any (·.1) = false := by rfl) :
    XE E cl X (.Call (.Name x pp) (e :: es) [] pos) (zbm m r fa) := by
  obtain ⟨t, pa, ra⟩ := ha
  refine ⟨_, Wh F hr hg hm hk hb .nil hx pa hdb he hpl, fun σ ρ F0 H j Q s va e w => ?_⟩
  obtain ⟨ds, e1, e2⟩ := Option.bind_eq_some_iff.mp e
  split at e2 <;> try cases e2
  rename_i hl
  refine ra σ ρ F0 H ds _ s va e1 fun F1 H1 vs g1 a1 => ?_
  exact ⟨ds, j, F1, hl, g1.fh, by rw [List.append_nil]; exact a1, e2, w.grow g1⟩
theorem zbr {fx : Ev → Option Nat} (h : XE E cl X e fx) (hs : swapsWith e none pos.line X.env = pure false := by rfl) : XS E cl X (.Expr e pos) (fun ρ => fx (visG ρ)) := by
  obtain ⟨t, p, r⟩ := h
  exact ⟨_, YW p hs, fun Fb Hb F H ρ σ D' j rl e w => r σ _ _ H j _ rl.gh rl.visG e (w.out rl)⟩
noncomputable def xIf (t : Ev → Option Bool) (g h : SE → Option Nat) : SE → Option Nat := fun ρ => match t (visG ρ) with
  | some true => g ρ
  | some false => h ρ
  | none => none
theorem zdb {as bs : List Stmt} {t : Ev → Option Bool} {g h : SE → Option Nat} (hc : TD X c t) (ha : XSs E cl X as g) (hb : XSs E cl X bs h) : XS E cl X (.If c as bs pos) (xIf t g h) := by
  obtain ⟨tc, pc, rc⟩ := hc
  obtain ⟨ta, pa, ra⟩ := ha
  obtain ⟨tb, pb, rb⟩ := hb
  refine ⟨_, zbq pc pa pb, fun Fb Hb F H ρ σ D' j rl k w => ?_⟩
  unfold xIf at k
  cases h : t (visG ρ) with
  | none => rw [h] at k; cases k
  | some d =>
    rw [h] at k
    refine rc σ _ _ H d _ rl.gh rl.visG h fun F' H' g => ?_
    have rl2 := rl.grow (rl.back g).1
    cases d with
    | true => rw [if_pos rfl]; exact ra Fb Hb _ H' ρ σ D' j rl2 k w
    | false => rw [if_neg Bool.false_ne_true]; exact rb Fb Hb _ H' ρ σ D' j rl2 k w
noncomputable def xNo : SE → Option Nat := fun _ => none
theorem Vk {g : SE → Option Nat} (h : XS E cl X st g) : XSs E cl X [st] g := let ⟨_, p, r⟩ := h; ⟨_, v4 p, r⟩
theorem W8 {g : SE → Option Nat} (h : XS E cl X st g) : XSs E cl X (st :: sts) g := by
  obtain ⟨t, p, r⟩ := h
  exact ⟨_, xL p (fun _ _ _ _ _ _ h => (h : False).elim), fun Fb Hb F H ρ σ D' j rl k w => r Fb Hb F H ρ σ _ j rl k w⟩
end
noncomputable def zaA (j : Nat) : SE → Option Nat := fun _ => some j
theorem V5 {P : Program} {w : World} {K : PySem.W.Frag} {mg : Str → Option Value} {base : Heap} {N : List Str} {qual : Str} {scope : Scope} {f : Addr} {cd : Value} {A : Around} {outer : List Env} {s : Shared} {H : Hp} {E : XK} {cl : Nat → Addr} {j : Nat} {x : Str} {np cpos pos : Pos}
    (hc : XCls K mg (cl j) x) (hg : Gl (Y2 (Air P w) P w K mg base N qual scope f cd A outer s H E) x) (hd : (x == ("__debug__" : Str)) = false := by decide) :
    XS E cl (Y2 (Air P w) P w K mg base N qual scope f cd A outer s H E) (.Raise (some (.Call (.Name x np) [] [] cpos)) none pos) (zaA j) :=
  ⟨_, VQ hc hg hd, fun Fb Hb F H ρ σ D' j' rl e w => by cases e; exact w F H rl.gr⟩
noncomputable def fnX (n : Nat) (gx : SE → Option Nat) (ds : List D) : Option Nat := gx (ds.map .v ++ List.replicate (n - ds.length) .no)
theorem zck {P : Program} {w : World} {K : PySem.W.Frag} {mg : Str → Option Value} {base : Heap} {x qual : Str} {st : Stmt} {f : Addr} {fd : FuncData} {N ps : List Str} {k : Nat} {cl : Nat → Addr} {gx : SE → Option Nat} (Fu : Fun K x qual st f fd) (S : zE N ps (zf st))
    (hb : ∀ (cdv : Value) (A : Around) (outer : List Env) (s : Shared) (H : Hp) (E : XK), vy k (A.deeper (PyProof.Rows.envOfC qual (zf st) s.heap.objs.size f cdv)) → XSs E cl (Y2 (Air P w) P w K mg base N qual (zf st) f cdv A outer s H E) (zC st) gx) :
    xn P w K mg base (Air P w) (k + 1) f fd ps (spX cl ps.length (fnX N.length gx)) := by
  obtain ⟨oc, od, kV, doc, pm, an, cdv, ct, osl, rfl, lk, hcd⟩ := Fu.ex
  refine zcR lk hcd S (fun vs H Q E h => ?_) fun A outer s H vs Q E hr hsp => ?_
  · obtain ⟨ds, d, F, hl, _, a, _⟩ := h
    rw [a.length]; exact hl
  · obtain ⟨ds, j, F, hl, sm, a, e, q⟩ := hsp
    obtain ⟨t, p, r⟩ := hb cdv A outer s H E hr
    exact ⟨t, p, r F H F H _ _ _ j (Xx sm a) e q⟩
end Dl
namespace L2
open PySem PySem.Spec PyProof.Rows
section
variable {X : Cx} {pins : List (Addr × Obj)} {σ : St} {H H' : Hp} {s s' : Shared} {E : XK} {e : Value} {E2 : Value → Shared → Prop} {B h3 : Heap}
theorem Inv.caught (I : Inv X pins σ H s) (os : s'.os = s.os) (bare : AllBare s'.gens) (un : Un (frs X.stack) [] H H' s.heap s'.heap) (hok : HOk X.prog X.w H' s'.heap) (cov : Cov X.stack H s.heap H' s'.heap B)
    (hB : B.StaysIn h3) (hfr : h3.FunFrames B X.stack) (up : s'.heap.UpToSlots h3) : Inv X pins σ H' { s' with heap := h3 } := by
  obtain ⟨h', g', d', t', o'⟩ := s'
  have eo : o' = s.os := os
  subst eo
  have nil : ∀ b : Addr, b ∉ ([] : List Addr) := fun b z => nomatch z
  show Inv X pins σ H' { s with heap := h3, gens := g', drawn := d', toks := t' }
  refine I.step (s := s) (g' := g') (d' := d') (t' := t') (ch := []) (fun b z => nomatch z) (fun b o hL hb _ e n => hB b o (cov.old b o e n fun z => (List.mem_cons.mp (I.stkSub b z)).elim hL hb)) (fun b o hL hb _ e n => ?_) (fun b o _ e n => un.free b o e n (nil b)) (fun b o _ e => ?_) un.tups un.frzs un.tbls (fun m hm => ?_) (hok.stays fun b u hb hu => hB b u (cov.new b u hb hu)) bare
  · obtain ⟨sl, e1⟩ := un.any e n (nil b)
    obtain ⟨_, o2, ho2, hd⟩ := I.funs.mem hb
    rw [e] at ho2
    cases ho2
    obtain ⟨sl2, e2⟩ := up b _ e1 hd
    exact ⟨sl2, e2⟩
  · by_cases hb : b ∈ frs X.stack
    · obtain ⟨_, o2, ho2, _⟩ := hfr.mem hb
      exact ⟨o2, ho2⟩
    · obtain ⟨o', e'⟩ := cov.there b o e hb
      exact ⟨o', hB b o' e'⟩
  · obtain ⟨o, es, ep, ho, hd, r⟩ := hm
    obtain ⟨sl, e1⟩ := un.any ho I.free (nil _)
    exact up.ns ⟨_, es, ep, e1, hd, r⟩
theorem XX {M : Model} (hst : X.stack = X.env :: X.outer) (hf : X.env.frame = some X.env.locals) (hex : X.ex = []) (I : Inv X pins σ H s) (a : Air X.prog X.w X.stack H s E e s') {hs : List ExceptHandler} {Q : Flow → Shared → Prop}
    (k : ∀ (ea C t : Addr) (H' : Hp) (B h3 : Heap), E (.ref C) none H' → H' ea = none → (∀ o', X.s₀.heap.get? ea = some o' → False) → (∀ p ∈ X.pn ++ pins, p.1 ≠ ea) → Heap.FlyingW B X.stack ea (.ref C) (.ref t) h3 → (∀ h4 : Heap, B.StaysIn h4 → h4.FunFrames B X.stack → h3.UpToSlots h4 → Inv X pins σ H' { s' with heap := h4 }) →
      e = .ref ea → wpAny M X.A (handleBy (.ref ea) X.env hs) Q E2 { s' with heap := h3 }) :
    wpAny M X.A (noteFrame e X.env) (fun _ s₂ => wpAny M X.A (setFlight e none) (fun _ s₃ => wpAny M X.A (handleBy e X.env hs) Q E2 s₃) E2 s₂) E2 s' := by
  obtain ⟨ea, C, t, H', B, rfl, os, bare, un, hok, fl, cov, hE⟩ := a
  have hfr : X.A.frames = some (X.env :: X.outer) := by rw [I.ok.frames, hst]
  have fl0 := fl
  rw [hst] at fl0
  refine wpAny_looks_onW hfr hf fl0 fun h2 hheld up2 => ?_
  refine wpAny_landsW (s := { s' with heap := h2 }) hheld fun h3 fl3 up3 => ?_
  rw [← hst] at fl3
  have hnB : B.get? ea = none := fl.2.1
  have nfr : ea ∉ frs X.stack := fun z => by
    obtain ⟨_, o2, ho2, hnf⟩ := fl.2.2.1.mem z
    obtain ⟨oe, vs, _, _, _, he, _, hd, _⟩ := fl.2.2.2
    rw [he] at ho2
    cases ho2
    exact hnf vs hd
  have nold : ∀ o', s.heap.get? ea = some o' → False := fun o' z => by
    obtain ⟨o2, e2⟩ := cov.there ea o' z nfr
    rw [hnB] at e2
    cases e2
  refine k ea C t H' B h3 hE ?_ (fun o' z => ?_) (fun p hp z => ?_) fl3 (fun h4 b1 b2 b3 => I.caught os bare un hok cov b1 b2 ((up2.trans up3).trans b3)) rfl
  · cases q : H' ea with
    | none => rfl
    | some u =>
      obtain ⟨ob, ho⟩ := (hok ea u q).ex
      have z := cov.new ea ob (by rw [q]; intro z; cases z) ho
      rw [hnB] at z
      cases z
  · obtain ⟨o2, e2⟩ := I.base.there ea o' z (by rw [hex]; intro z; cases z)
    exact nold o2 e2
  · exact nold p.2 (z ▸ (I.pin p hp).1)
end
end L2
namespace L2
open PySem PySem.Spec PyProof.Rows
noncomputable abbrev Cx.held (X : Cx) (e : Value) : Cx := { X with A := X.A.mark (some e), calm := false }
section
variable {X : Cx} {pins : List (Addr × Obj)} {σ : St} {H H' : Hp} {s s' : Shared} {E : Value → Shared → Prop} {e : Value} {M : Model} {A : Around}
theorem Cx.Ok.held (ok : X.Ok) (e : Value) : (X.held e).Ok :=
  ⟨ok.mod, ok.kind, ok.glob, ok.blt, ok.above, ok.inj, ok.has, ok.cab, (fun z => by cases z), ok.frames, ok.stk, ok.exf, ok.bs, ok.bsz, ok.noex, ok.exfs, ok.funs, ok.frf⟩
theorem Inv.held (I : Inv X pins σ H s) (e : Value) : Inv (X.held e) pins σ H s := ⟨I.ok.held e, I.os, I.bare, I.base, I.loc, I.cell, I.free, I.freeC, I.pin, I.hok, I.len⟩
theorem Inv.unheld (ok : X.Ok) (I : Inv (X.held e) pins σ H s) : Inv X pins σ H s := ⟨ok, I.os, I.bare, I.base, I.loc, I.cell, I.free, I.freeC, I.pin, I.hok, I.len⟩
theorem wK {i : Nat} {x : Str} {pos : Pos} {Q : Unit → Shared → Prop} (I : Inv X pins σ H s) (hN : X.N.Nodup) (hi : X.N[i]? = some x) (hk : X.env.scope.names.lookup x = some .local)
    (h : ∀ s', Inv X pins (σ.set i none) H s' → Q () s') : wpAny M A (do bindName X.env x .none; unbindBehindTheSuite X.env x pos) Q E s := by
  obtain ⟨m, hn, hl⟩ := id I.loc
  have hcls : (X.env.scope.kind == .class || (X.env.scope.kind == .module && X.env.locals != X.env.globals)) = false := by rw [I.ok.kind]; rfl
  have hiσ : i < σ.length := by rw [I.len]; exact (List.getElem?_eq_some_iff.mp hi).1
  have cne := I.cne
  refine wpAny_nameGoes_keeps hk hn hcls fun h' v hn' hs => ?_
  obtain ⟨oL, _, _, hoL, _⟩ := id hn
  have tracked : HOk X.prog X.w H h' := fun b ob e => by
    refine (I.hok b ob e).stay (fun c w' hc q => (hs.2 c ?_).trans q) (fun _ q => q) fun _ _ q => q
    rintro rfl
    rcases hc with rfl | hc
    · rw [I.free] at e; cases e
    · rw [I.free] at hc; cases hc
  have ne0 : ∀ b o, X.s₀.heap.get? b = some o → b ≠ X.env.locals := fun b o e => Nat.ne_of_lt (Nat.lt_of_lt_of_le (Heap.lt_size e) I.ok.above)
  refine h _ ⟨I.ok, I.os, I.bare, ⟨fun b o e n hb hx => ?_, fun b o e n hb hx => ?_, I.base.free, fun b o e hx => ?_, I.base.tups, I.base.frzs, I.base.tbls⟩, ⟨_, hn', fun j y v' e1 e2 e3 => ?_⟩, fun y c e => ?_, I.free, I.freeC, fun p hp => ?_, tracked, by simpa using I.len⟩
  · exact (hs.2 b (ne0 b o e)).trans (I.base.keep b o e n hb hx)
  · obtain ⟨sl, e1⟩ := I.base.slot b o e n hb hx
    exact ⟨sl, (hs.2 b (ne0 b o e)).trans e1⟩
  · obtain ⟨o', e1⟩ := I.base.there b o e hx
    exact ⟨o', (hs.2 b (ne0 b o e)).trans e1⟩
  · by_cases hj : j = i
    · subst hj
      rw [List.getElem?_set_self hiσ] at e2
      cases e2
    · rw [List.getElem?_set_ne (Ne.symm hj)] at e2
      obtain ⟨u', r', q⟩ := hl j y v' e1 e2 e3
      refine ⟨u', r', ?_⟩
      rcases q with ⟨k, e⟩ | ⟨k, c, e, z⟩
      · refine .inl ⟨k, ?_⟩
        have : y ≠ x := fun e => hj (YL hN e1 (e ▸ hi))
        simp [this, e]
      · exact .inr ⟨k, c, e, z.sameBut hs (cne y c e)⟩
  · obtain ⟨w', z⟩ := I.cell y c e
    exact ⟨w', z.sameBut hs (cne y c e)⟩
  · obtain ⟨e, n, ne, nf, d⟩ := I.pin p hp
    exact ⟨(hs.2 p.1 ne).trans e, n, ne, nf, d⟩
noncomputable def WR (a C : Addr) : HO := .ext fun h => ∃ oe, h.get? a = some oe ∧ oe.cls = .ref C
theorem Inv.track {a : Addr} {o : HO} {ob : Obj} {vs : Array Value} (I : Inv X pins σ H s) (ha : H a = none) (he : s.heap.get? a = some ob) (hd : ob.data = .fields vs) (h0 : ∀ o', X.s₀.heap.get? a = some o' → False) (hp : ∀ p ∈ X.pn ++ pins, p.1 ≠ a)
    (new : yX X.prog X.w (upd H a o) s.heap a o) : Inv X pins σ (upd H a o) s := by
  have neL : X.env.locals ≠ a := by
    rintro rfl
    obtain ⟨m, ⟨oL, es, ep, hoL, hdL, _⟩, _⟩ := I.loc
    rw [he] at hoL
    cases hoL
    rw [hd] at hdL
    cases hdL
  have neC : ∀ x c, X.env.cells.lookup x = some c → c ≠ a := fun x c e => by
    rintro rfl
    obtain ⟨v, oc, hoc, hdc⟩ := I.cell x c e
    rw [he] at hoc
    cases hoc
    rw [hd] at hdc
    cases hdc
  refine ⟨I.ok, I.os, I.bare, ⟨I.base.keep, I.base.slot, fun b u e n hx => ?_, I.base.there, fun b xs e => ?_, fun b u v e => ?_, fun b ps e => ?_⟩, I.loc, I.cell, ?_, fun x c e => ?_, fun p hq => ?_, fun b u e => ?_, I.len⟩
  · rw [zm (fun z : b = a => h0 u (z ▸ e))]
    exact I.base.free b u e n hx
  · have e1 := I.base.tups b xs e
    rw [zm (zi e1 ha)]
    exact e1
  · have e1 := I.base.frzs b u v e
    rw [zm (zi e1 ha)]
    exact e1
  · obtain ⟨more, e1⟩ := I.base.tbls b ps e
    exact ⟨more, by rw [zm (zi e1 ha)]; exact e1⟩
  · rw [zm neL]
    exact I.free
  · rw [zm (neC x c e)]
    exact I.freeC x c e
  · obtain ⟨e, n, ne, nf, d⟩ := I.pin p hq
    exact ⟨e, by rw [zm (hp p hq)]; exact n, ne, nf, d⟩
  · by_cases c : b = a
    · subst c
      rw [zo] at e
      cases e
      exact new
    · rw [zm c] at e
      refine (I.hok b u e).stay (fun _ _ _ q => q) (fun c hc => ?_) fun c xs hc => ?_
      · rw [zm (zi hc ha)]; exact hc
      · rw [zm (zi hc ha)]; exact hc
end
end L2
namespace L2
open PySem PySem.Spec PyProof.Rows
noncomputable abbrev Cx.pinned (X : Cx) (ps : List (Addr × Obj)) : Cx := { X with pn := X.pn ++ ps }
section
variable {X : Cx} {pins ps : List (Addr × Obj)} {σ : St} {H H' : Hp} {s s' : Shared}
theorem Cx.Ok.pinned (ok : X.Ok) (ps : List (Addr × Obj)) : (X.pinned ps).Ok :=
  ⟨ok.mod, ok.kind, ok.glob, ok.blt, ok.above, ok.inj, ok.has, ok.cab, ok.hd, ok.frames, ok.stk, ok.exf, ok.bs, ok.bsz, ok.noex, ok.exfs, ok.funs, ok.frf⟩
theorem Inv.pinAll (I : Inv X pins σ H s) : Inv (X.pinned pins) [] σ H s := ⟨I.ok.pinned pins, I.os, I.bare, I.base, I.loc, I.cell, I.free, I.freeC, fun p hp => I.pin p (by rw [List.append_nil] at hp; exact hp), I.hok, I.len⟩
theorem Inv.unpin (ok : X.Ok) (I : Inv (X.pinned pins) ps σ H s) : Inv X pins σ H s := ⟨ok, I.os, I.bare, I.base, I.loc, I.cell, I.free, I.freeC, fun p hp => I.pin p (List.mem_append_left _ hp), I.hok, I.len⟩
end
noncomputable abbrev gone (i : Nat) (D : ZI) : ZI := { nx := fun σ H => D.nx (σ.set i none) H, rt := D.rt, bk := fun σ H => D.bk (σ.set i none) H, ct := fun σ H => D.ct (σ.set i none) H }
noncomputable def exW (K : PySem.W.Frag) (CS : Addr) (i n : Nat) (u : TS) (D : ZI) : XK := fun cls _ H' => ∃ C, cls = .ref C ∧ PySem.W.exmOne K (.ref C) (.ref CS) = some true ∧ ∀ (ea : Addr) (σ : St), σ.length = n → H' ea = none → u (gone i D) (σ.set i (some (.ref ea))) (upd H' ea (WR ea C))
theorem zcz {Y : Cx} {CS : Addr} {x n : Str} {i : Nat} {body suite : List Stmt} {b₀ : Stmt} {pos hpos np : Pos} {tb : XK → TS} {u : TS} (hst : Y.stack = Y.env :: Y.outer) (hf : Y.env.frame = some Y.env.locals) (hex : Y.ex = [])
    (hN : Y.N.Nodup) (hi : Y.N[i]? = some n) (hk : Y.env.scope.names.lookup n = some .local) (hg : Gl Y x) (hm : Y.mg x = some (.ref CS))
    (hbody : ∀ (ps : List (Addr × Obj)) (W : Value → Shared → Prop) (E0 : XK), vX (Air Y.prog Y.w) ((Y.pinned ps).wish W) E0 → PSs ((Y.pinned ps).wish W) body (tb E0))
    (hsuite : ∀ ea, PSs (Y.held (.ref ea)).nox (b₀ :: suite) u) (hd : (x == ("__debug__" : Str)) = false := by decide) :
    PS Y.nox (.Try body [.ExceptHandler (some (.Name x np)) (some n) (b₀ :: suite) hpos] [] [] pos) (fun D σ H => tb (exW Y.K CS i Y.N.length u D) D σ H) := by
  intro pins s σ H D I h
  have ok : Y.Ok := I.ok.unwish
  have IY : Inv Y pins σ H s := I.unwish
  refine wpAny_Try_except ?_
  refine wpAny_mono (hbody pins _ (exW Y.K CS i Y.N.length u D) ?_ [] s σ H D (IY.pinAll.wish _) h) ?_ fun e s₁ h => h
  · intro pins' σ' H1 s1 e s2 I1 a
    have I1' : Inv Y pins σ' H1 s1 := I1.unwish.unpin ok
    refine XX (X := Y) hst hf hex I1' a fun ea C t H' B h3 hE hea h0 hpn fl hinv ee => ?_
    obtain ⟨C', ec, hsub, hu⟩ := hE
    cases ec
    have I3 : Inv Y pins σ' H' { s2 with heap := h3 } := hinv h3 fl.1 fl.2.2.1 (.refl _)
    obtain ⟨ob, hob, hobc⟩ := fl.there
    have ty : PySem.W.Looks (model Y.prog Y.w) h3 (typeOf (.ref ea)) (.ref C) := hobc ▸ (PySem.W.Looks.ld hob).andThen .now
    refine wpAny_handleBy_cons (codeAny_handlers_test (vj (X := Y.held (.ref ea)) (I3.held (.ref ea)) hg hm ?_ hd)) (by intro q; cases q)
    refine (PySem.W.exm_one (M := model Y.prog Y.w) I3.kIn ty hsub).here ?_
    refine codeAny_handlers_suite_as ?_
    refine wpAny_setFlight_noneW (s := { s2 with heap := h3 }) fl.1 fl.2.2.1 fl.2.2.2.at fun h4 k1 k2 k3 k4 => ?_
    have I4 : Inv Y pins σ' H' { s2 with heap := h4 } := hinv h4 k1 k2 fun b o hb hn => ⟨o.slots, k4 b o hb hn⟩
    obtain ⟨oe, vs, _, _, _, he, hcl, hdv, _⟩ := k3
    have I5 : Inv Y pins σ' (upd H' ea (WR ea C)) { s2 with heap := h4 } := I4.track hea he hdv h0 hpn ⟨⟨oe, he, hcl.1⟩, ⟨oe, he⟩, fun h1 h2 ⟨o1, e1, e2⟩ kk => ⟨o1, kk o1 e1, e2⟩⟩
    refine Yy (X := Y.held (.ref ea)) (v := .ref ea) (I5.held (.ref ea)) hN hi (.inl hk) rfl (fun s6 I6 => ?_) (.inr hk)
    refine wpAny_mono (hsuite ea pins s6 _ _ (gone i D) (I6.wish _) (hu ea σ' I4.len hea)) (fun f s7 q => ?_) fun x s7 q => q.elim
    cases f with
    | ret uv =>
      obtain ⟨v, σ7, H7, I7, rv, q⟩ := q
      exact wK ((Inv.unheld (X := Y) ok I7.unwish)) hN hi hk fun s8 I8 => ⟨v, _, H7, I8.wish _, rv, q⟩
    | next =>
      obtain ⟨σ7, H7, I7, q⟩ := q
      exact wK ((Inv.unheld (X := Y) ok I7.unwish)) hN hi hk fun s8 I8 => ⟨_, H7, I8.wish _, q⟩
    | brk =>
      obtain ⟨σ7, H7, I7, q⟩ := q
      exact wK ((Inv.unheld (X := Y) ok I7.unwish)) hN hi hk fun s8 I8 => ⟨_, H7, I8.wish _, q⟩
    | cont =>
      obtain ⟨σ7, H7, I7, q⟩ := q
      exact wK ((Inv.unheld (X := Y) ok I7.unwish)) hN hi hk fun s8 I8 => ⟨_, H7, I8.wish _, q⟩
  · intro f s₁ q
    cases f with
    | ret uv =>
      obtain ⟨v, σ7, H7, I7, rv, q⟩ := q
      exact ⟨v, σ7, H7, (Inv.unpin (X := Y) ok I7.unwish).wish _, rv, q⟩
    | next =>
      obtain ⟨σ7, H7, I7, q⟩ := q
      exact wpAny_execs_nil ⟨σ7, H7, (Inv.unpin (X := Y) ok I7.unwish).wish _, q⟩
    | brk =>
      obtain ⟨σ7, H7, I7, q⟩ := q
      exact ⟨σ7, H7, (Inv.unpin (X := Y) ok I7.unwish).wish _, q⟩
    | cont =>
      obtain ⟨σ7, H7, I7, q⟩ := q
      exact ⟨σ7, H7, (Inv.unpin (X := Y) ok I7.unwish).wish _, q⟩
end L2
namespace L2
open PySem PySem.Spec PyProof.Rows PySem.W PySem.Calls PySem.Builtin PySem.Builtin.Getset_descriptor
section
variable {prog : Program} {w : World} {A : Around} {E : Value → Shared → Prop} {K : PySem.W.Frag} {h : Heap} {g : Array GenState} {d : Drawn} {t : Nat} {os : OsState} {a C : Addr} {o : Obj}
noncomputable def Of (h : Heap) (a : Addr) (o : Obj) (C : Addr) : Prop := h.get? a = some o ∧ o.cls = .ref C
theorem Of.type {M : Model} (I : Of h a o C) : Looks M h (typeOf (.ref a)) (.ref C) := I.2 ▸ (Looks.ld I.1).andThen .now
theorem WP {M : Model} {name : Str} {x gt : Value} (X : K.In h) (ha : findIn K (.ref C) name = some (some x)) (hg : specialIn K x "__get__" = some (some gt)) (ht : takesIn K x = some true) : Looks M h (Builtin.ObjectAttr.find (.ref a) (.ref C) name) (.bind gt x) := by
  have L1 := looks_findIn (M := M) X ha
  have L2 : Looks M h (Builtin.ObjectAttr.getOf (some x)) (some gt) := looks_specialIn X hg
  have L3 := looks_takesIn (M := M) X ht
  exact L1.andThen (L2.andThen ((show Looks M h (Builtin.ObjectAttr.dataDescriptor? (some x) (some gt)) (some (gt, x)) from L3.andThen .now).andThen (Looks.tag .now)))
theorem zbj {R : Result → Shared → Prop} {tp : Value} (X : K.In h) (I : Of h a o C) (hm : mroIn K C (.type "object") = some true) (hq : R (.ok (.ret (.ref C))) ⟨h, g, d, t, os⟩) :
    codeAny (model prog w) A (.call (.builtin "getset_descriptor.__get__") ⟨[.builtin "object.__class__", .ref a, tp], []⟩) R ⟨h, g, d, t, os⟩ := by
  have L0 := I.type (M := model prog w)
  have L1 := looks_mroIn (M := model prog w) X hm
  refine codeAny_call_builtin KF.slot_gs.plain KF.entry_gs (KF.slot_gs.check _ _ _ _ _ _ _ _ KF.type_class (KF.args_gs _ _ _) ?_)
  unfold Builtin.«getset_descriptor.__get__» descrGet
  rw [dga_obj]
  refine wpAny_bind (wpAny_pure ?_)
  unfold descrGetter descrCheckInstance descrNameAndClass isInstance
  simp only [KF.owner_class]
  repeat lk
  refine ⟨Code.quiet_builtin _ (by decide +kernel), codeAny_builtin KF.entry_class ?_⟩
  unfold Builtin.«object.__class__» shownTypeOf
  repeat lk
  exact hq
theorem WH {tk : Tok} {Q : Fin → Shared → Prop} (X : K.In h) (I : Of h a o C) (ha : findIn K (.ref C) "__class__" = some (some (.builtin "object.__class__"))) (hn : specialIn K (.builtin "object.__class__") "__get__" = some (some (.builtin "getset_descriptor.__get__"))) (ht : takesIn K (.builtin "object.__class__") = some true) (hm : mroIn K C (.type "object") = some true)
    (hq : Q (.done (.ret (.ref C))) ⟨h, g, d, t, os⟩) : wpAny (model prog w) A (Builtin.«object.__getattribute__» ⟨[.ref a, .str "__class__" tk], []⟩) Q E ⟨h, g, d, t, os⟩ := by
  have L0 := I.type (M := model prog w)
  have L1 := WP (M := model prog w) (a := a) X ha hn ht
  refine wpAny_bind (wpAny_pure (wpAny_bind ?_))
  refine wpAny_pure (wpAny_bind (L0.at (wpAny_bind (L1.at ?_))))
  show wpAny _ _ (holding [.builtin "object.__class__"] (call (.builtin "getset_descriptor.__get__") [.builtin "object.__class__", .ref a, .ref C]) >>= ret) _ _ _
  exact wpAny_bind (wpAny_holding (wpAny_call (zbj X I hm (wpAny_pure hq))))
theorem WO {M : Model} {nameV : Value} {Q : Unit → Shared → Prop} (X : K.In h) (I : Of h a o C) (hb : subIn K (.ref C) (.type "BaseException") = some true) (hq : Q () ⟨h, g, d, t, os⟩) : wpAny M A (checkBuiltinCall "BaseException.__getattribute__" ⟨[.ref a, nameV], []⟩) Q E ⟨h, g, d, t, os⟩ := by
  have hk : builtinKind "BaseException.__getattribute__" = some .slot := by decide +kernel
  have hsplit : splitId "BaseException.__getattribute__" = some ("BaseException", "__getattribute__") := by decide +kernel
  have ha := F.args_bexc_ga (.ref a) nameV
  have L0 := I.type (M := M)
  have L1 : Looks M h (isSubtype (.ref C) (.type "BaseException")) true := looks_subIn X hb
  simp only [checkBuiltinCall, hk, hsplit]
  refine wpAny_bind ?_
  unfold isInstance
  refine wpAny_bind (L0.at (L1.at ?_))
  repeat (first | assumption | wp_step)
theorem zbS {tk : Tok} {Q : Value → Shared → Prop} (X : K.In h) (I : Of h a o C) (hga : findIn K (.ref C) "__getattribute__" = some (some (.builtin "BaseException.__getattribute__"))) (hgt : findIn K (.ref C) "__getattr__" = some none)
    (ha : findIn K (.ref C) "__class__" = some (some (.builtin "object.__class__"))) (hn : specialIn K (.builtin "object.__class__") "__get__" = some (some (.builtin "getset_descriptor.__get__"))) (ht : takesIn K (.builtin "object.__class__") = some true) (hm : mroIn K C (.type "object") = some true) (hb : subIn K (.ref C) (.type "BaseException") = some true) (hq : Q (.ref C) ⟨h, g, d, t, os⟩) :
    wpAny (model prog w) A (getAttrBy (.ref a) (.str "__class__" tk) false) Q E ⟨h, g, d, t, os⟩ := by
  have L0 := I.type (M := model prog w)
  have L1 := looks_findIn (M := model prog w) X hga
  have L2 := looks_findIn (M := model prog w) X hgt
  have f3 := F.attrBase_ValueError.ga.bind (.ref a)
  have hx2 : (Value.builtin "BaseException.__getattribute__" == Value.builtin "object.__getattribute__") = false := by decide +kernel
  unfold getAttrBy
  refine wpAny_holding (wpAny_bind (L0.at (wpAny_bind (L1.at ?_))))
  dsimp only
  rw [hx2, Bool.and_false, if_neg Bool.false_ne_true]
  unfold getAttrByItsOwn
  refine wpAny_bind ?_
  show wpAny _ _ (typeLookup (.ref C) "__getattr__") _ _ _
  refine L2.at (wpAny_bind (wpAny_attempt (wpAny_holding ?_)))
  show wpAny _ _ (boundAndCalled (.builtin "BaseException.__getattribute__") (.ref a) (.str "__class__" tk)) _ _ _
  unfold boundAndCalled
  rw [f3]
  refine wpAny_bind (wpAny_pure ?_)
  refine wpAny_call (codeAny_call_builtin F.attrBase_ValueError.ga.plain F.entry_bexc_ga (WO X I hb (WH X I ha hn ht hm ?_)))
  exact handed_on rfl hq
theorem VB {Q : Option Value → Shared → Prop} {s : Shared} (X : K.In s.heap) (I : Of s.heap a o C) (hga : findIn K (.ref C) "__getattribute__" = some (some (.builtin "BaseException.__getattribute__"))) (hgt : findIn K (.ref C) "__getattr__" = some none)
    (ha : findIn K (.ref C) "__class__" = some (some (.builtin "object.__class__"))) (hn : specialIn K (.builtin "object.__class__") "__get__" = some (some (.builtin "getset_descriptor.__get__"))) (ht : takesIn K (.builtin "object.__class__") = some true) (hm : mroIn K C (.type "object") = some true) (hb : subIn K (.ref C) (.type "BaseException") = some true)
    (hq : Q (some (.ref C)) { s with toks := s.toks + 1 }) : wpAny (model prog w) A (getAttr? (.ref a) "__class__") Q E s := by
  obtain ⟨hh, g, d, t, os⟩ := s
  unfold getAttr? getAttrBy?
  exact wpAny_bind (wpAny_mkText (wpAny_bind (wpAny_attempt (zbS X I hga hgt ha hn ht hm hb (wpAny_pure hq)))))
noncomputable def xh (K : PySem.W.Frag) (C : Addr) : Bool := (clsIn K C).isSome && findIn K (.ref C) "__getattribute__" == some (some (.builtin "BaseException.__getattribute__")) && findIn K (.ref C) "__getattr__" == some none && findIn K (.ref C) "__class__" == some (some (.builtin "object.__class__"))
  && specialIn K (.builtin "object.__class__") "__get__" == some (some (.builtin "getset_descriptor.__get__")) && takesIn K (.builtin "object.__class__") == some true && mroIn K C (.type "object") == some true && subIn K (.ref C) (.type "BaseException") == some true
theorem V3 (q : xh K C = true) : KitX K (.ref a) (.ref C) (fun h => ∃ o, Of h a o C) := by
  unfold xh at q
  simp only [Bool.and_eq_true, beq_iff_eq] at q
  obtain ⟨⟨⟨⟨⟨⟨⟨hcls, hga⟩, hgt⟩, ha⟩, hn⟩, ht⟩, hm⟩, hb⟩ := q
  obtain ⟨cd, hcd⟩ := Option.isSome_iff_exists.mp hcls
  unfold clsIn at hcd
  refine ⟨fun _ _ _ ⟨_, I⟩ => I.type, fun _ _ X _ => ?_, fun h tp dd its n sl X htp => ?_, fun X ⟨_, I⟩ k => VB X I hga hgt ha hn ht hm hb k⟩
  · split at hcd
    · rename_i c' d' cd' sl' ho
      intro A' Q' E' s' k q
      unfold isType loadHead
      exact wpAny_bind (wpAny_loadPart (k _ _ (X _ _ ho)) (wpAny_pure q))
    · cases hcd
  · refine Bool.eq_false_iff.mpr fun q => ?_
    have e : C = tp := Value.ref.inj (beq_iff_eq.mp q)
    subst e
    split at hcd
    · rename_i c' d' cd' sl' ho
      have z := (X _ _ ho).symm.trans htp
      cases z
    · cases hcd
theorem Yg {c : Value} {b : Bool} {s : Shared} {Q : Value → Shared → Prop} (q : xh K C = true) (X : K.In s.heap) (I : ∃ o, Of s.heap a o C) (e : kitOne K (.ref C) c = some b) (hq : ∀ tk, Q (.bool b) { s with toks := tk }) :
    wpAny (model prog w) A (call (.builtin "isinstance") [.ref a, c]) Q E s := kia_one (V3 q) X I e (by intro z; cases z) hq
end
end L2
namespace L2
open PySem PySem.Spec PyProof.Rows
section
variable {P : Program} {w : World} {K : PySem.W.Frag} {mg : Str → Option Value} {base : Heap}
noncomputable def WK (P : Program) (w : World) (K : PySem.W.Frag) (mg : Str → Option Value) (base : Heap) (k : Nat) (f : Addr) (fd : FuncData) (ps : List Str) (sp : Sp) : Prop :=
  (∀ vs H Q E, sp vs H Q E → vs.length = ps.length) ∧ ∀ (A : Around) (outer : List Env) (s : Shared) (H : Hp) (args : Args) (us : List Value) (vs : List V) (Q : VK) (E : XK) (ev : Value), vy k A → zbY P w K mg base A outer s H → BindsTo s fd args (ps.zip us) → yd vs us → sp vs H Q E →
    codeAny (model P w) (A.mark (some ev)) (.call (.ref f) args) (CR CX0 outer P w H s Q E) s
theorem zbz {x qual : Str} {st : Stmt} {f : Addr} {fd : FuncData} {N ps : List Str} {k : Nat} {sp : Sp} (F : Fun K x qual st f fd) (S : zE N ps (zf st)) (len : ∀ vs H Q E, sp vs H Q E → vs.length = ps.length)
    (hbody : ∀ (cdv : Value) (A : Around) (outer : List Env) (s : Shared) (H : Hp) (vs : List V) (Q : VK) (E : XK) (ev : Value), vy k (A.deeper (envOfC qual (zf st) s.heap.objs.size f cdv)) → sp vs H Q E →
      ∃ t, PSs ((Y2 CX0 P w K mg base N qual (zf st) f cdv A outer s H E).held ev).nox (zC st) t ∧ t { nx := fun _ H' => Q .non H', rt := Q } (start N vs) H) : WK P w K mg base (k + 1) f fd ps sp := by
  obtain ⟨oc, od, kV, doc, pm, an, cdv, ct, osl, rfl, lk, hcd⟩ := F.ex
  refine ⟨len, fun A outer s H args us vs Q E ev hr e0 hb r hsp => ?_⟩
  have KX : K.In s.heap := e0.mod.kin.keeps fun b o e => (e0.bs b o e).1
  have lim : s.heap.NoLimit := e0.mod.nolimit.keeps fun b o e => (e0.bs b o e).1
  refine codeAny_call_function (A := A.mark (some ev)) hr.depth (KX _ _ lk) rfl S.co S.gen rfl (PySem.W.codeRec_of KX hcd) (hb _ _ _ _ ?_)
  refine wpAny_newFunctionEnv_cells S.kind (fun y hy => ?_) fun env he s1 x => ?_
  · rcases S.par y.1 (List.of_mem_zip (a := y.1) (b := y.2) hy).1 with q | q
    · exact .inl q
    · exact .inr ⟨q, PySem.W.cellsFrom_some _ _ _ (.inl q)⟩
  subst he
  refine ⟨lim.keeps x.toInCall.keep, codeAny_func ?_⟩
  obtain ⟨t, ht, hq⟩ := hbody cdv A outer s H vs Q E ev (hr.deeper _) hsp
  have I : Inv (Y2 CX0 P w K mg base N qual (zf st) f cdv A outer s H E) [] (start N vs) H s1 := Zc S hr.hd e0 (len _ _ _ _ hsp) r x
  refine wpAny_mono (ht [] s1 (start N vs) H _ ((I.held ev).wish _) hq) (fun fl s' hs => ?_) fun e s' hs => hs.elim
  cases fl with
  | ret u =>
    obtain ⟨v, σ', H', J, rv, q⟩ := hs
    exact ⟨v, H', J.os, J.bare, J.base, J.hok, rv, q⟩
  | next =>
    obtain ⟨σ', H', J, q⟩ := hs
    exact ⟨V.non, H', J.os, J.bare, J.base, J.hok, rfl, q⟩
  | brk =>
    obtain ⟨_, _, _, q⟩ := hs
    exact False.elim q
  | cont =>
    obtain ⟨_, _, _, q⟩ := hs
    exact False.elim q
end
theorem zaw {Y : Cx} {ev : Value} {k : Nat} {f : Addr} {fd : FuncData} {ps : List Str} {sp : Sp} {x : Str} {p pos : Pos} {e : Expr} {es : List Expr} {t : TA} {E : XK} (F : WK Y.prog Y.w Y.K Y.mg Y.base k f fd ps sp) (hr : vy k Y.A) (hg : Gl Y x) (hm : Y.mg x = some (.ref f)) (hk : PySem.W.keepIn Y.K (.ref f) = true) (hb : YS Y.K fd ps []) (hok : Y.Ok)
    (ha : PA (Y.held ev).nox (e :: es) t) (hdb : (x == ("__debug__" : Str)) = false := by decide) (he : starEach (e :: es) Y.env = (false, eval e Y.env) :: starEach es Y.env := by rfl) (hpl : (backTo pos (starEach es Y.env)).any (·.1) = false := by rfl) :
    PE (Y.held ev).nox (.Call (.Name x p) (e :: es) [] pos) (zbd sp [] E t) := by
  intro pins s σ H Q I h
  refine wpAny_Call_Name_kw (vj I hg hm ?_ hdb)
  refine PySem.W.callWith_K (h₀ := Y.base) I.ok.mod.kin hk (thn (ha pos pins s σ H _ I h) fun us s1 ⟨vs, H1, I1, r, q⟩ => ⟨I1.kIn, ?_⟩) he hpl
  have q : sp (vs ++ []) H1 Q E := q
  rw [List.append_nil] at q
  have I2 : Inv Y pins σ H1 s1 := Inv.unheld (X := Y) hok I1.unwish
  refine wpAny_call (codeAny_mono (F.2 Y.A Y.stack s1 H1 ⟨us, []⟩ us vs Q E ev hr I2.env0 ?_ r q) fun r s' hq => ?_)
  · have := hb s1 us I2.kIn (by rw [List.append_nil, ← r.length]; exact F.1 _ _ _ _ q)
    rwa [List.append_nil] at this
  · cases r with
    | error e => exact False.elim hq
    | ok fl =>
      cases fl with
      | ret u => exact I1.after hq
      | next => exact False.elim hq
      | brk => exact False.elim hq
      | cont => exact False.elim hq
end L2
namespace L2
open PySem PySem.Spec PyProof.Rows PySem.SeqAt
theorem YZ : ∀ {bs : List Bool} {its : List Value}, yd (bs.map V.bl) its → its = bs.map Value.bool
  | [], its, r => by
    have := r.length
    exact List.eq_nil_of_length_eq_zero (by rw [← this]; rfl)
  | b :: bs, its, r => by
    cases r with
    | cons r1 r2 =>
      rw [YZ r2]
      cases r1
      rfl
theorem XA {A : Around} {s : Shared} {bs : List Bool} {y : Value} (h : y ∈ (bs.map Value.bool).toArray) : EqAt A s y (.bool true) (isBoolOf true y) := by
  obtain ⟨b, _, rfl⟩ := List.mem_map.mp (List.mem_toArray.mp h)
  exact EqAt.bool_bool b true
noncomputable def Ve : V → List V → Hp → VK → Prop := fun x vs H Q => ∃ (l : Addr) (bs : List Bool), x = .ref l ∧ vs = [.bl true] ∧ H l = some (.lst (bs.map V.bl)) ∧ Q (.int ((bs.countP (· == true) : Nat) : Int)) H
theorem Vy {X : Cx} : MtR X "list.count" Ve := by
  intro pins s σ H x vs v us Q I rx rv h
  obtain ⟨l, bs, rfl, rfl, hH, q⟩ := h
  cases rx
  obtain ⟨u, rfl, ru⟩ := rv.one
  cases ru
  obtain ⟨its, r, pl, hz⟩ := I.list (SqL.of (K := X.K) hH)
  have e := YZ r
  subst e
  obtain ⟨⟨cls, dd, data, sl⟩, ho, hc, n, hd⟩ := pl.isList
  simp only at hc hd
  subst hc hd
  refine call_meets PySem.F.slot_list_count ⟨_, ho, rfl⟩ PySem.F.entry_list_count (PySem.F.args_list_count_2 _ _) (list_countAt l (bs.map Value.bool).toArray n dd sl (.bool true) (isBoolOf true)) ⟨ho, fun y hy => XA hy, ?_⟩
  refine ⟨.int (((bs.map Value.bool).toArray.toList.countP (isBoolOf true) : Nat) : Int), H, I.tok _, ⟨_, rfl⟩, ?_⟩
  rw [show (bs.map Value.bool).toArray.toList = bs.map Value.bool from rfl, List.countP_map]
  exact q
noncomputable def WQ : V → List V → Hp → VK → Prop := fun x vs H Q => ∃ (l : Addr) (bs : List Bool), x = .ref l ∧ vs = [.bl true] ∧ H l = some (.lst (bs.map V.bl)) ∧ true ∈ bs ∧ Q (.int ((bs.idxOf true : Nat) : Int)) H
theorem Vd {X : Cx} : MtR X "list.index" WQ := by
  intro pins s σ H x vs v us Q I rx rv h
  obtain ⟨l, bs, rfl, rfl, hH, hm, q⟩ := h
  cases rx
  obtain ⟨u, rfl, ru⟩ := rv.one
  cases ru
  obtain ⟨its, r, pl, hz⟩ := I.list (SqL.of (K := X.K) hH)
  have e := YZ r
  subst e
  obtain ⟨⟨cls, dd, data, sl⟩, ho, hc, n, hd⟩ := pl.isList
  simp only at hc hd
  subst hc hd
  have hj : bs.idxOf true < bs.length := List.idxOf_lt_length_iff.mpr hm
  have hl63 := vO
  have hb : bs.length ≤ sizeLine := by simpa using hz
  refine call_meets PySem.F.slot_list_index ⟨_, ho, rfl⟩ PySem.F.entry_list_index (PySem.F.args_list_index_2 _ _) (list_indexAt l (bs.map Value.bool).toArray n dd sl (.bool true) (isBoolOf true) (bs.idxOf true) (by simpa using hj) (by omega) ?_ ?_) ⟨ho, fun y hy => XA hy, ⟨.int ((bs.idxOf true : Nat) : Int), H, I.tok _, ⟨_, rfl⟩, q⟩⟩
  · simp only [List.getElem_toArray, List.getElem_map]
    rw [List.getElem_idxOf hj]
    rfl
  · intro m hm2 hlt
    simp only [List.getElem_toArray, List.getElem_map]
    exact List.not_of_lt_findIdx (p := (· == true)) (xs := bs) hlt
end L2
namespace L2
open PySem PySem.Spec PyProof.Rows
noncomputable def clsV : V → Option Value
  | .ref C => some (.ref C)
  | .ty T => some (.type T)
  | _ => none
noncomputable def zc8 (K : PySem.W.Frag) : List V → Hp → VK → Prop := fun vs H Q => ∃ (a C : Addr) (v : V) (c : Value) (b : Bool), vs = [.ref a, v] ∧ H a = some (WR a C) ∧ xh K C = true ∧ clsV v = some c ∧ PySem.W.kitOne K (.ref C) c = some b ∧ Q (.bl b) H
theorem yc {X : Cx} : vC X (.builtin "isinstance") (zc8 X.K) := by
  intro pins s σ H vs us Q I rv h
  obtain ⟨a, C, v, c, b, rfl, hH, hl, hc, hk, q⟩ := h
  obtain ⟨u1, u2, rfl, r1, r2⟩ : ∃ u1 u2, us = [u1, u2] ∧ yP (.ref a) u1 ∧ yP v u2 := by
    cases rv with
    | cons r1 r => cases r with
      | cons r2 r => cases r; exact ⟨_, _, rfl, r1, r2⟩
  cases r1
  have e2 : u2 = c := by
    cases v <;> try cases hc
    · cases r2; rfl
    · cases r2; rfl
  subst e2
  obtain ⟨⟨oe, h1, h2⟩, _⟩ := I.hok a _ hH
  exact Yg hl I.kIn ⟨oe, h1, h2⟩ hk fun tk => ⟨.bl b, H, I.tok tk, rfl, q⟩
theorem Xk {K : PySem.W.Frag} {σ : St} {H : Hp} {a C : Addr} {v : V} {c : Value} {b : Bool} {Q : VK} (h0 : σ[0]? = some (some (.ref a))) (hH : H a = some (WR a C)) (hl : xh K C = true) (hc : clsV v = some c) (hk : PySem.W.kitOne K (.ref C) c = some b) (q : Q (.bl b) H) :
    tCB (zc8 K) (vU (XU 0) (vU (tC v) zaz)) σ H Q := ⟨.ref a, h0, ⟨a, C, v, c, b, rfl, hH, hl, hc, hk, q⟩⟩
end L2
namespace Dl
open PySem L2
variable [KK]
section
variable {E : XK} {cl : Nat → Addr} {X : Cx} {e : Expr} {es : List Expr}
end
end Dl
namespace L2
open PySem PySem.Spec PyProof.Rows
noncomputable def X0 (n j : Nat) : List Bool := (List.range n).map fun i => i == j
noncomputable def Xt (K : PySem.W.Frag) (cs : List Addr) (CS C : Addr) (j : Nat) : Bool := xh K C && (PySem.W.kitOne K (.ref C) (.type "ValueError") == some true) && (PySem.W.exmOne K (.ref C) (.ref CS) == some true) && (cs.map (fun c => PySem.W.kitOne K (.ref C) (.ref c)) == (X0 cs.length j).map some)
set_option genInjectivity false in
set_option genSizeOf false in
set_option genCtorIdx false in
structure Xl (K : PySem.W.Frag) (cs : List Addr) (CS C : Addr) (j : Nat) : Prop where
  look : xh K C = true
  val : PySem.W.kitOne K (.ref C) (.type "ValueError") = some true
  exm : PySem.W.exmOne K (.ref C) (.ref CS) = some true
  hot : cs.map (fun c => PySem.W.kitOne K (.ref C) (.ref c)) = (X0 cs.length j).map some
theorem Xl.of {K : PySem.W.Frag} {cs : List Addr} {CS C : Addr} {j : Nat} (h : Xt K cs CS C j = true) : Xl K cs CS C j := by
  unfold Xt at h
  simp only [Bool.and_eq_true, beq_iff_eq] at h
  exact ⟨h.1.1.1, h.1.1.2, h.1.2, h.2⟩
section
variable {K : PySem.W.Frag} {σ : St} {H H0 : Hp} {a C : Addr}
noncomputable def tIs (K : PySem.W.Frag) : List Addr → TA
  | [] => zaz
  | c :: r => vU (tCB (zc8 K) (vU (XU 0) (vU (tC (.ref c)) zaz))) (tIs K r)
theorem zaW (h0 : σ[0]? = some (some (.ref a))) (hH : H a = some (WR a C)) (hl : xh K C = true) : ∀ (cs : List Addr) (bs : List Bool) (Q : List V → Hp → Prop), cs.map (fun c => PySem.W.kitOne K (.ref C) (.ref c)) = bs.map some → Q (bs.map V.bl) H → tIs K cs σ H Q := by
  intro cs
  induction cs with
  | nil =>
    intro bs Q e q
    cases bs with
    | nil => exact q
    | cons b r => cases e
  | cons c r ih =>
    intro bs Q e q
    cases bs with
    | nil => cases e
    | cons b bs =>
      obtain ⟨e1, e2⟩ := List.cons.inj e
      exact Xk h0 hH hl rfl e1 (ih bs _ e2 q)
structure KSt (H0 : Hp) (a C : Addr) (bs : List Bool) (σ : St) (H : Hp) : Prop where
  same : yg H0 H
  len : σ.length = 2
  e0 : σ[0]? = some (some (.ref a))
  he : H a = some (WR a C)
  lst : ∃ p, σ[1]? = some (some (.ref p)) ∧ H p = some (.lst (bs.map V.bl))
theorem Vh {bs : List Bool} {p : Addr} (s : yg H0 H) (hl : σ.length = 2) (e0 : σ[0]? = some (some (.ref a))) (he : H a = some (WR a C)) (hp : H p = none) : KSt H0 a C bs (σ.set 1 (some (.ref p))) (upd H p (.lst (bs.map V.bl))) := by
  refine ⟨fun b o e => ?_, by rw [List.length_set]; exact hl, ?_, ?_, p, ?_, zo⟩
  · have := s b o e
    rw [zm (zi this hp)]; exact this
  · rw [List.getElem?_set_ne (by decide)]; exact e0
  · rw [zm (zi he hp)]; exact he
  · rw [List.getElem?_set_self (by omega)]
theorem Vg {cs : List Addr} {bs : List Bool} {D : ZI} (hk : xh K C = true) (e : cs.map (fun c => PySem.W.kitOne K (.ref C) (.ref c)) = bs.map some) (hb : bs.length ≤ sizeLine) (hl : σ.length = 2) (e0 : σ[0]? = some (some (.ref a))) (he : H a = some (WR a C)) (k : ∀ σ' H', KSt H a C bs σ' H' → D.nx σ' H') :
    zc9 (zdn (tIs K cs)) (Zm 1) D σ H :=
  zaW e0 he hk cs bs _ e ⟨by rw [List.length_map]; exact hb, fun p hp => k _ _ (Vh (.refl _) hl e0 he hp)⟩
theorem YT {cs : List Addr} {bs0 bs : List Bool} {D : ZI} (hk : xh K C = true) (e : cs.map (fun c => PySem.W.kitOne K (.ref C) (.ref c)) = bs.map some) (hb : bs0.length + bs.length ≤ sizeLine) (S : KSt H0 a C bs0 σ H) (k : ∀ σ' H', KSt H0 a C (bs0 ++ bs) σ' H' → D.nx σ' H') :
    zc9 (tOp zdF (XU 1) (zdn (tIs K cs))) (Zm 1) D σ H := by
  obtain ⟨p, e1, hp⟩ := S.lst
  refine ⟨.ref p, e1, zaW S.e0 S.he hk cs bs _ e ⟨by rw [List.length_map]; omega, fun q hq => ?_⟩⟩
  refine ⟨p, q, bs0.map V.bl, bs.map V.bl, rfl, rfl, by rw [zm (zi hp hq)]; exact hp, zo, by rw [List.length_map, List.length_map]; exact hb, fun r hr => ?_⟩
  rw [← List.map_append]
  refine k _ _ (Vh (fun b o e => ?_) S.len S.e0 ?_ hr)
  · have := S.same b o e
    rw [zm (zi this hq)]; exact this
  · rw [zm (zi S.he hq)]; exact S.he
theorem WU : ∀ j : Nat, j < 13 → (X0 13 j).countP (· == true) = 1 ∧ (X0 13 j).idxOf true = j ∧ true ∈ X0 13 j := by decide +kernel
theorem zbD {j : Nat} {D : ZI} {tr : TS} (hv : PySem.W.kitOne K (.ref C) (.type "ValueError") = some true) (hk : xh K C = true) (hj : j < 13) (S : KSt H0 a C (X0 13 j) σ H) (k : D.rt (.int j) H) :
    tSeq (tIfS (tOr (tNot (tB (tCB (zc8 K) (vU (XU 0) (vU (tC (.ty "ValueError")) zaz))))) (zbi (tOp rNe (tBM K "list" Ve (XU 1) (vU (tC (.bl true)) zaz)) (tC (.int 1))))) tr zcN) (zdD (tBM K "list" WQ (XU 1) (vU (tC (.bl true)) zaz))) D σ H := by
  obtain ⟨h1, h2, h3⟩ := WU j hj
  obtain ⟨p, e1, hp⟩ := S.lst
  refine Xk S.e0 S.he hk rfl hv ⟨true, rfl, ?_⟩
  show (if (!true) = true then _ else _)
  rw [if_neg (by decide)]
  refine ⟨.ref p, e1, .inl ⟨rfl, _, SqL.of hp⟩, p, _, rfl, rfl, hp, ?_⟩
  rw [h1]
  refine ⟨rfl, false, by rw [ZL]; rfl, ?_⟩
  show (if false = true then _ else _)
  rw [if_neg (by decide)]
  refine ⟨.ref p, e1, .inl ⟨rfl, _, SqL.of hp⟩, p, _, rfl, rfl, hp, h3, ?_⟩
  rw [h2]
  exact k
end
noncomputable def Vo (cl : Nat → Addr) (ok : Nat → Prop) : Sp := fun vs H Q _ => ∃ a j, vs = [.ref a] ∧ H a = some (WR a (cl j)) ∧ ok j ∧ ∀ H', yg H H' → Q (.int (j : Nat)) H'
end L2
namespace Dl
open PySem L2
variable [KK]
noncomputable def xEx (fx : Ev → Option Nat) : SE → Option Nat := fun ρ => fx (visG ρ)
theorem WC {E : XK} {cl : Nat → Addr} {X : Cx} {sts : List Stmt} : XSs E cl X sts xNo := ⟨fun _ _ _ => False, fun _ _ _ _ _ _ h => h.elim, fun _ _ _ _ _ _ _ _ _ h _ => by cases h⟩
theorem Gr.more {F H H' : Hp} (s : yg F H) (k : yg H H') : Gr F H F H' := ⟨yg.refl _, s.trans k, fun p o e1 e2 => ⟨.inl e1, k p o e2⟩⟩
noncomputable def zc7 (gx : SE → Option Nat) (g : SE → Ctl) (h : Nat → Option D) : SE → Ctl := fun ρ => match gx ρ with
  | some j => match h j with
    | some d => .rt d
    | none => .no
  | none => g ρ
noncomputable def RU (cl : Nat → Addr) (i : Nat) (u : TS) (h : Nat → Option D) : Prop := ∀ (j : Nat) (d : D) (σ : St) (H : Hp) (a : Addr) (D' : ZI), h j = some d → σ[i]? = some (some (.ref a)) → H a = some (WR a (cl j)) → (∀ H' v, yg H H' → (∀ F, At F d v) → D'.rt v H') → u D' σ H
theorem zcs {Y : Cx} {CS : Addr} {x n : Str} {i : Nat} {body suite : List Stmt} {b₀ : Stmt} {pos hpos np : Pos} {cl : Nat → Addr} {g : SE → Ctl} {gx : SE → Option Nat} {u : TS} {h : Nat → Option D} (hst : Y.stack = Y.env :: Y.outer) (hf : Y.env.frame = some Y.env.locals) (hex : Y.ex = [])
    (hN : Y.N.Nodup) (hi : Y.N[i]? = some n) (hk : Y.env.scope.names.lookup n = some .local) (hg : Gl Y x) (hm : Y.mg x = some (.ref CS))
    (hbx : ∀ (ps : List (Addr × Obj)) (W : Value → Shared → Prop) (E0 : XK), vX (Air Y.prog Y.w) ((Y.pinned ps).wish W) E0 → XSs E0 cl ((Y.pinned ps).wish W) body gx)
    (hb : ∀ (ps : List (Addr × Obj)) (W : Value → Shared → Prop), SDs ((Y.pinned ps).wish W) body g)
    (hexm : ∀ j d, h j = some d → PySem.W.exmOne Y.K (.ref (cl j)) (.ref CS) = some true)
    (hsuite : Y.Ok → ∀ ea, PSs (Y.held (.ref ea)).nox (b₀ :: suite) u) (hu : RU cl i u h) (hd : (x == ("__debug__" : Str)) = false := by decide) :
    SD Y.nox (.Try body [.ExceptHandler (some (.Name x np)) (some n) (b₀ :: suite) hpos] [] [] pos) (zc7 gx g h) := by
  let tb : XK → TS := fun E0 D σ H => ∀ (ps : List (Addr × Obj)) (W : Value → Shared → Prop), vX (Air Y.prog Y.w) ((Y.pinned ps).wish W) E0 → ∃ t, PSs ((Y.pinned ps).wish W) body t ∧ t D σ H
  refine ⟨fun D σ H => tb (exW Y.K CS i Y.N.length u D) D σ H, fun pins s σ H D I hq => ?_, fun Fb Hb F H ρ σ D rl k => ?_⟩
  · refine zcz (tb := tb) hst hf hex hN hi hk hg hm (fun ps W E0 hP pins s σ H D I hq => ?_) (hsuite I.ok.unwish) hd pins s σ H D I hq
    obtain ⟨t, p, ht⟩ := hq ps W hP
    exact p pins s σ H D I ht
  · intro ps W hP
    unfold zc7 at k
    cases e : gx ρ with
    | none =>
      rw [e] at k
      obtain ⟨t, p, r⟩ := hb ps W
      exact ⟨t, p, r Fb Hb F H ρ σ D rl k⟩
    | some j =>
      rw [e] at k
      dsimp only at k
      cases e2 : h j with
      | none => rw [e2] at k; exact k.elim
      | some d =>
        rw [e2] at k
        obtain ⟨t, p, r⟩ := hbx ps W _ hP
        refine ⟨t, p, r Fb Hb F H ρ σ D j rl e fun F' H' gr => ⟨_, rfl, hexm j d e2, fun ea σ' hl hn => ?_⟩⟩
        have hi' : i < σ'.length := by
          rw [hl]
          exact (List.getElem?_eq_some_iff.mp hi).1
        refine hu j d _ _ ea _ e2 (by rw [List.getElem?_set_self hi']) zo fun H'' v sm av => ?_
        have sm0 : yg H' (upd H' ea (WR ea (cl j))) := fun b o q => by rw [zm (zi q hn)]; exact q
        exact k F' H'' v (gr.trans (Gr.more gr.fh (sm0.trans sm))) (av F')
noncomputable def hIn (js : List Nat) : Nat → Option D := fun j => if j ∈ js then some (.int j) else none
theorem VL {cl : Nat → Addr} {i : Nat} {js : List Nat} {E : XK} {ok : Nat → Prop} (hok : ∀ j, j ∈ js → ok j) : RU cl i (zdD (zbd (Vo cl ok) [] E (vU (XU i) zaz))) (hIn js) := by
  intro j d σ H a D' e h0 hH k
  unfold hIn at e
  split at e <;> try cases e
  rename_i hj
  exact ⟨.ref a, h0, a, j, rfl, hH, hok j hj, fun H' sm => k H' _ sm fun F => .int⟩
end Dl
namespace OwnSort
open PySem PyProof.Rows
section
variable {prog : Program} {w : World} {A : Around} {E : Value → Shared → Prop} {s : Shared}
end
end OwnSort
namespace Dl
open PySem L2
variable [KK]
section
variable {X : Cx} {e : Expr} {pos : Pos}
end
end Dl
namespace Dl
open PySem L2
variable [KK]
section
variable {E : XK} {cl : Nat → Addr} {X : Cx} {a b : Expr} {pos : Pos}
end
end Dl
namespace Mz
open PySem Dl
noncomputable abbrev Tie := Int × Int
noncomputable def ltP (s t : Tie) : Prop := s.1 < t.1 ∨ (s.1 = t.1 ∧ s.2 < t.2)
noncomputable instance (s t : Tie) : Decidable (ltP s t) := by unfold ltP; infer_instance
noncomputable def yI (t : Tie) : D := .tup [.int t.1, .int t.2]
noncomputable def yi (n : Nat) : List Tie := (List.range n).flatMap fun a => (List.range (n - (a + 1))).map fun (j : Nat) => ((a : Int), (a : Int) + 1 + (j : Int))
theorem WT : ∀ n : Nat, n ≤ 8 → (yi n).Pairwise ltP ∧ (∀ t ∈ yi n, 0 ≤ t.1 ∧ t.1 < t.2 ∧ t.2 < (n : Int)) ∧ (yi n).length ≤ 28 := by
  have h : ∀ n : _root_.Fin 9, (yi n.val).Pairwise ltP ∧ (∀ t ∈ yi n.val, 0 ≤ t.1 ∧ t.1 < t.2 ∧ t.2 < (n.val : Int)) ∧ (yi n.val).length ≤ 28 := by decide +kernel
  exact fun n hn => h ⟨n, by omega⟩
end Mz
namespace Mz
open Dl
noncomputable def Zo (i j : Nat) : List Tie := (List.range j).map fun (k : Nat) => ((i : Int), (i : Int) + 1 + (k : Int))
noncomputable def yp (n i : Nat) : List Tie := (List.range i).flatMap fun a => Zo a (n - (a + 1))
theorem Vi (n : Nat) : yi n = yp n n := rfl
theorem vz (n i : Nat) : yp n (i + 1) = yp n i ++ Zo i (n - (i + 1)) := by
  unfold yp
  rw [List.range_succ, List.flatMap_append]
  simp
theorem vx (i j : Nat) : (Zo i j).length = j := by unfold Zo; simp
theorem XT (n : Nat) (hn : n ≤ 8) : ∀ i : Nat, (yp n i).length ≤ 8 * i := by
  intro i
  induction i with
  | zero => simp [yp]
  | succ i ih =>
    rw [vz, List.length_append, vx]
    omega
noncomputable def VF (c k : Int) : Int :=
  let a := (c % 2147483647 + 977 * k + 1) * 48271 % 2147483647
  let b := a * a % 2147483629
  (b + 40692 * (k + 3)) * 69621 % 2147483647 / 8
end Mz
namespace Mz
open Dl
theorem ZX {P : Nat → Prop} : ∀ k, P k → ∃ j, P j ∧ ∀ i, P i → j ≤ i := by
  intro k
  induction k using Nat.strongRecOn with
  | _ k ih =>
    intro h
    by_cases c : ∃ i, i < k ∧ P i
    · obtain ⟨i, hi, h2⟩ := c
      exact ih i hi h2
    · exact ⟨k, h, fun i hi => Nat.le_of_not_lt fun z => c ⟨i, z, hi⟩⟩
theorem zaL {n : Nat} {i : Int} (h0 : 0 ≤ i) (h1 : i < n) : L2.ixN n i = some i.toNat := by
  unfold L2.ixN
  rw [if_pos h0, if_pos h1]
theorem ZD {α : Type} {xs : List α} {i : Int} {x : α} (h0 : 0 ≤ i) (h : xs[i.toNat]? = some x) : L2.atI xs i = some x := by
  have := (List.getElem?_eq_some_iff.mp h).1
  unfold L2.atI
  rw [zaL h0 (by omega)]
  exact h
theorem zcD {m : Bool} {i : Nat} {fk fe : Ev → Option D} {ρ : SE} {ds : List D} {d : D} {k : Int} (h1 : vEv m fe ρ = some d) (h2 : fk (visG ρ) = some (.int k)) (h3 : ρ[i]? = some (.o ds)) (h4 : 0 ≤ k) (h5 : k < ds.length) :
    Z9 m i fk fe ρ = .nx (ρ.set i (.o (ds.set k.toNat d))) := by
  unfold Z9
  rw [h1, h2, h3]
  show (match ((L2.ixN ds.length k).map fun j => ρ.set i (Sl.o (ds.set j d))) with | some ρ' => Ctl.nx ρ' | none => Ctl.no) = _
  rw [zaL h4 h5]
  rfl
theorem zay {α : Type} (xs : List α) (lo hi : Option Int) : (Wb xs lo hi).length ≤ xs.length := by
  unfold Wb
  rw [List.length_take, List.length_drop]
  omega
theorem VT {a b : List D} (h : a.length + b.length ≤ 1000) : x8 (.lst a) (.lst b) = some (.lst (a ++ b)) := by
  show (if lim (a.length + b.length) = true then _ else none) = _
  rw [if_pos (Yp h)]
theorem yK {m : Bool} {i : Nat} {f : Ev → Option D} {ρ ρ' : SE} {d : D} (h : vEv m f ρ = some d) (h2 : ρ.set i (.v d) = ρ' := by rfl) : x6 m i f ρ = .nx ρ' := by
  unfold x6
  rw [h, ← h2]
theorem xq {f : Ev → Option D} {ρ : SE} {d : D} (h : f (visG ρ) = some d) : yD f ρ = .rt d := by
  unfold yD
  rw [h]
theorem Xd {i : Nat} {f : Ev → Option (List D)} {ρ ρ' : SE} {ds : List D} (h : f (visF ρ) = some ds) (h2 : ρ.set i (.o ds) = ρ' := by rfl) : Y1 i f ρ = .nx ρ' := by
  unfold Y1
  rw [h, ← h2]
theorem xp {a b : Int} : neD (.int a) (.int b) = some (.bl (!decide (a = b))) := rfl
theorem yj {a b : Int} : xF (.int a) (.int b) = some (.bl (decide (a = b))) := rfl
theorem xr {a b : Bool} : xF (.bl a) (.bl b) = some (.bl (decide (a = b))) := rfl
theorem yW {a b : PySem.Str} : xF (.str a) (.str b) = some (.bl (decide (a = b))) := rfl
theorem yT {a b : Int} : x8 (.int a) (.int b) = some (.int (a + b)) := rfl
end Mz
namespace Mz
open Dl
section
variable {ρ : Ev} {f g h : Ev → Option D} {a : Ev → Option (List D)} {t u : Ev → Option Bool} {d e x y z : D} {ds es : List D} {b c : Bool}
theorem Yf : zy ρ = some [] := rfl
theorem yN (h1 : f ρ = some d) (h2 : a ρ = some ds) : zc f a ρ = some (d :: ds) := by unfold zc; rw [h1, h2]; rfl
theorem zO {n : Nat} {p : List D → Option D} (h1 : a ρ = some ds) (h2 : p ds = some d) (hl : ds.length = n := by rfl) : zQ n p a ρ = some d := by
  unfold zQ
  rw [h1, Option.bind_some, if_pos hl, h2]
theorem yh {k : D → D → Option D} (h1 : f ρ = some x) (h2 : g ρ = some y) (h3 : k x y = some z) : zp k f g ρ = some z := by unfold zp; rw [h1, h2]; exact h3
theorem zaP (h1 : a ρ = some ds) : wc a ρ = some (.lst ds) := by unfold wc; rw [h1]; rfl
theorem W2 {k : List D → Option D} (h1 : a ρ = some ds) (h2 : k ds = some d) : eFn k a ρ = some d := by unfold eFn; rw [h1]; exact h2
theorem Ws (h1 : a ρ = some ds) (hl : ds.length ≤ 1000) : yZ a ρ = some (.tup ds) := by unfold yZ; rw [h1, Option.bind_some, if_pos (Yp hl)]
theorem zca (h1 : f ρ = some d) (h2 : xz d = some ds) : iOf f ρ = some ds := by unfold iOf; rw [h1]; exact h2
theorem xW (h1 : f ρ = some (.bl b)) : tOf f ρ = some b := by unfold tOf; rw [h1]; rfl
theorem we (h1 : t ρ = some b) : y4 t ρ = some (!b) := by unfold y4; rw [h1]; rfl
theorem Yr (h1 : t ρ = some false) (h2 : u ρ = some c) : YC t u ρ = some c := by unfold YC; rw [h1]; exact h2
end
end Mz
namespace Mz
open PySem L2 Dl
noncomputable def wP : zal := [("row", [1, 8]), ("ring", [3, 8]), ("cube", [0, 3]), ("full", [1, 8]), ("star", [1, 7])]
noncomputable def top (i : Nat) : Stmt := PySem.Challenge.pw_twoforone_k05_kinds.main.body.getD i (.Pass ⟨0, 0, 0, 0⟩)
noncomputable abbrev yM : Stmt := top 17
noncomputable abbrev zF : Stmt := top 18
noncomputable abbrev zJ : Stmt := top 19
noncomputable abbrev yL : Stmt := top 20
noncomputable abbrev xb : Stmt := top 23
noncomputable abbrev yu : Stmt := top 24
noncomputable abbrev yz : Stmt := top 25
noncomputable abbrev yQ : Stmt := top 26
noncomputable abbrev xa : Stmt := top 27
noncomputable abbrev yl : Stmt := top 29
noncomputable abbrev yy : Stmt := top 30
noncomputable abbrev yk : Stmt := top 31
noncomputable abbrev yr : Stmt := top 32
noncomputable abbrev zW : Stmt := top 33
noncomputable abbrev yx : Stmt := top 34
noncomputable abbrev yt : Stmt := top 35
noncomputable abbrev yw : Stmt := top 36
noncomputable abbrev yO : Stmt := top 37
noncomputable abbrev Yx : Stmt := top 38
theorem Xa : zE ["thing"] ["thing"] (zf yM) := ⟨rfl, rfl, rfl, by decide +kernel, rfl, by decide +kernel, by decide +kernel⟩
theorem wX : zE ["thing", "least", "most"] ["thing", "least", "most"] (zf zF) := ⟨rfl, rfl, rfl, by decide +kernel, rfl, by decide +kernel, by decide +kernel⟩
theorem w8 : zE ["thing"] ["thing"] (zf zJ) := ⟨rfl, rfl, rfl, by decide +kernel, rfl, by decide +kernel, by decide +kernel⟩
theorem Z7 : zE ["many", "thing"] ["many", "thing"] (zf yL) := ⟨rfl, rfl, rfl, by decide +kernel, rfl, by decide +kernel, by decide +kernel⟩
theorem XV : zE ["thing"] ["thing"] (zf xb) := ⟨rfl, rfl, rfl, by decide +kernel, rfl, by decide +kernel, by decide +kernel⟩
theorem vm : zE ["thing", "word"] ["thing"] (zf yu) := ⟨rfl, rfl, rfl, by decide +kernel, rfl, by decide +kernel, by decide +kernel⟩
theorem Zd : zE ["word", "size"] ["word", "size"] (zf yz) := ⟨rfl, rfl, rfl, by decide +kernel, rfl, by decide +kernel, by decide +kernel⟩
theorem Xe : zE ["word", "size", "one", "other"] ["word", "size", "one", "other"] (zf yQ) := ⟨rfl, rfl, rfl, by decide +kernel, rfl, by decide +kernel, by decide +kernel⟩
theorem yR : zE ["kind", "word", "size", "many", "ties", "one"] ["kind"] (zf xa) := ⟨rfl, rfl, rfl, by decide +kernel, rfl, by decide +kernel, by decide +kernel⟩
theorem y9 : zE ["many", "found", "a"] ["many"] (zf yl) := ⟨rfl, rfl, rfl, by decide +kernel, rfl, by decide +kernel, by decide +kernel⟩
theorem xo : zE ["cell", "k", "number"] ["cell", "k"] (zf yy) := ⟨rfl, rfl, rfl, by decide +kernel, rfl, by decide +kernel, by decide +kernel⟩
theorem yE : zE ["e", "found"] ["e"] (zf yk) := ⟨rfl, rfl, rfl, by decide +kernel, rfl, by decide +kernel, by decide +kernel⟩
theorem wb : zE ["found", "due", "one", "other"] ["found", "due"] (zf yr) := ⟨rfl, rfl, rfl, by decide +kernel, rfl, by decide +kernel, by decide +kernel⟩
theorem zr : zE ["kind", "word", "n", "many", "ties", "a", "b", "good"] ["kind"] (zf zW) := ⟨rfl, rfl, rfl, by decide +kernel, rfl, by decide +kernel, by decide +kernel⟩
theorem ZE : zE ["word", "n", "a", "b"] ["word", "n", "a", "b"] (zf yx) := ⟨rfl, rfl, rfl, by decide +kernel, rfl, by decide +kernel, by decide +kernel⟩
theorem yA : zE ["cell", "many", "over", "digits", "k"] ["cell"] (zf yt) := ⟨rfl, rfl, rfl, by decide +kernel, rfl, by decide +kernel, by decide +kernel⟩
theorem vt : zE ["thing", "e"] ["thing"] (zf yw) := ⟨rfl, rfl, rfl, by decide +kernel, rfl, by decide +kernel, by decide +kernel⟩
theorem xg : zE ["over", "number", "some"] ["over", "number"] (zf yO) := ⟨rfl, rfl, rfl, by decide +kernel, rfl, by decide +kernel, by decide +kernel⟩
theorem Yw : zE ["script", "kinds", "cell", "bad", "kind"] ["script"] (zf Yx) := ⟨rfl, rfl, rfl, by decide +kernel, rfl, by decide +kernel, by decide +kernel⟩
set_option genInjectivity false in
set_option genSizeOf false in
set_option genCtorIdx false in
structure Adr where
  f_is_whole : Addr
  e_is_whole : FuncData
  f_is_whole_within : Addr
  e_is_whole_within : FuncData
  f_is_place_count : Addr
  e_is_place_count : FuncData
  f_is_place : Addr
  e_is_place : FuncData
  f_is_over : Addr
  e_is_over : FuncData
  f_kind_good : Addr
  e_kind_good : FuncData
  f_places_of : Addr
  e_places_of : FuncData
  f_are_tied : Addr
  e_are_tied : FuncData
  f_web_for : Addr
  e_web_for : FuncData
  f__law_pairs : Addr
  e__law_pairs : FuncData
  f__law_stir : Addr
  e__law_stir : FuncData
  f__law_kinds : Addr
  e__law_kinds : FuncData
  f__law_same : Addr
  e__law_same : FuncData
  f__law_web_for : Addr
  e__law_web_for : FuncData
  f__law_tied : Addr
  e__law_tied : FuncData
  f__law_over : Addr
  e__law_over : FuncData
  f__law_came : Addr
  e__law_came : FuncData
  f__law_bad : Addr
  e__law_bad : FuncData
  f_law : Addr
  e_law : FuncData
  t_MOST_PLACES : Tok
  s_SIZES : Addr
  x_NoWeb : Addr
  x_NoKind : Addr
  x_NoHeap : Addr
  x_NoPlace : Addr
  x_NoNumber : Addr
  x_NoTally : Addr
  x_NotTree : Addr
  x_NotJoined : Addr
  x_NoWeights : Addr
  x_NoRow : Addr
  x_NoSteps : Addr
  x_NoText : Addr
  x_TooGreat : Addr
  x_StoneError : Addr
noncomputable def zc3 (ad : Adr) : List Addr := [ad.x_NoWeb, ad.x_NoKind, ad.x_NoHeap, ad.x_NoPlace, ad.x_NoNumber, ad.x_NoTally, ad.x_NotTree, ad.x_NotJoined, ad.x_NoWeights, ad.x_NoRow, ad.x_NoSteps, ad.x_NoText, ad.x_TooGreat]
noncomputable def clT (ad : Adr) (j : Nat) : Addr := (zc3 ad).getD j 0
set_option genInjectivity false in
set_option genSizeOf false in
set_option genCtorIdx false in
structure Txt (K : PySem.W.Frag) (mg : Str → Option Value) (ad : Adr) : Prop where
  d_is_whole : Def K mg "is_whole" yM ["thing"] ad.f_is_whole ad.e_is_whole
  d_is_whole_within : Def K mg "is_whole_within" zF ["thing", "least", "most"] ad.f_is_whole_within ad.e_is_whole_within
  d_is_place_count : Def K mg "is_place_count" zJ ["thing"] ad.f_is_place_count ad.e_is_place_count
  d_is_place : Def K mg "is_place" yL ["many", "thing"] ad.f_is_place ad.e_is_place
  d_is_over : Def K mg "is_over" xb ["thing"] ad.f_is_over ad.e_is_over
  d_kind_good : Def K mg "kind_good" yu ["thing"] ad.f_kind_good ad.e_kind_good
  d_places_of : Def K mg "places_of" yz ["word", "size"] ad.f_places_of ad.e_places_of
  d_are_tied : Def K mg "are_tied" yQ ["word", "size", "one", "other"] ad.f_are_tied ad.e_are_tied
  d_web_for : Def K mg "web_for" xa ["kind"] ad.f_web_for ad.e_web_for
  d__law_pairs : Def K mg "_law_pairs" yl ["many"] ad.f__law_pairs ad.e__law_pairs
  d__law_stir : Def K mg "_law_stir" yy ["cell", "k"] ad.f__law_stir ad.e__law_stir
  d__law_kinds : Def K mg "_law_kinds" yk ["e"] ad.f__law_kinds ad.e__law_kinds
  d__law_same : Def K mg "_law_same" yr ["found", "due"] ad.f__law_same ad.e__law_same
  d__law_web_for : Def K mg "_law_web_for" zW ["kind"] ad.f__law_web_for ad.e__law_web_for
  d__law_tied : Def K mg "_law_tied" yx ["word", "n", "a", "b"] ad.f__law_tied ad.e__law_tied
  d__law_over : Def K mg "_law_over" yt ["cell"] ad.f__law_over ad.e__law_over
  d__law_came : Def K mg "_law_came" yw ["thing"] ad.f__law_came ad.e__law_came
  d__law_bad : Def K mg "_law_bad" yO ["over", "number"] ad.f__law_bad ad.e__law_bad
  d_law : Def K mg "law" Yx ["script"] ad.f_law ad.e_law
  g_MOST_PLACES : mg "MOST_PLACES" = some (Value.int 8 ad.t_MOST_PLACES)
  z_ValueError : mg "ValueError" = none
  z_all : mg "all" = none
  z_bool : mg "bool" = none
  z_int : mg "int" = none
  z_isinstance : mg "isinstance" = none
  z_len : mg "len" = none
  z_list : mg "list" = none
  z_range : mg "range" = none
  z_str : mg "str" = none
  z_tuple : mg "tuple" = none
  z_zip : mg "zip" = none
  g_SIZES : mg "SIZES" = some (Value.ref ad.s_SIZES)
  b_SIZES : ∀ h : Heap, K.In h → PyProof.Rows.KTD.TextTab h ad.s_SIZES (Za wP)
  g_NoWeb : mg "NoWeb" = some (Value.ref ad.x_NoWeb)
  g_NoKind : mg "NoKind" = some (Value.ref ad.x_NoKind)
  g_NoHeap : mg "NoHeap" = some (Value.ref ad.x_NoHeap)
  g_NoPlace : mg "NoPlace" = some (Value.ref ad.x_NoPlace)
  g_NoNumber : mg "NoNumber" = some (Value.ref ad.x_NoNumber)
  g_NoTally : mg "NoTally" = some (Value.ref ad.x_NoTally)
  g_NotTree : mg "NotTree" = some (Value.ref ad.x_NotTree)
  g_NotJoined : mg "NotJoined" = some (Value.ref ad.x_NotJoined)
  g_NoWeights : mg "NoWeights" = some (Value.ref ad.x_NoWeights)
  g_NoRow : mg "NoRow" = some (Value.ref ad.x_NoRow)
  g_NoSteps : mg "NoSteps" = some (Value.ref ad.x_NoSteps)
  g_NoText : mg "NoText" = some (Value.ref ad.x_NoText)
  g_TooGreat : mg "TooGreat" = some (Value.ref ad.x_TooGreat)
  g_StoneError : mg "StoneError" = some (Value.ref ad.x_StoneError)
  c_NoKind : PySem.W.excIn K ad.x_NoKind bmV "ValueError.__new__" = true
  y_NoKind : Xt K (zc3 ad) ad.x_StoneError ad.x_NoKind 1 = true
theorem zdg : (["place", "thing"] : List Str).Nodup := by decide +kernel
theorem zdE : (["other", "kind", "word", "size", "many", "ties", "one"] : List Str).Nodup := by decide +kernel
theorem zds : (["b", "many", "found", "a"] : List Str).Nodup := by decide +kernel
theorem zdy : (["k", "word", "n", "a", "b"] : List Str).Nodup := by decide +kernel
theorem Wj : (["n", "script", "kinds", "cell", "bad", "kind"] : List Str).Nodup := by decide +kernel
noncomputable def YK : D → Bool
  | .int _ => true
  | _ => false
noncomputable def ZS (d : D) (lo hi : Int) : Bool := match d with
  | .int i => decide (lo ≤ i) && decide (i ≤ hi)
  | _ => false
section
variable {P : Program} {w : World} {K : PySem.W.Frag} {mg : Str → Option Value} {base : Heap} {ad : Adr}
noncomputable def xB : List D → Option D
  | [d] => if noS d = true then some (.bl (YK d)) else none
  | _ => none
noncomputable def vb : SE → Ctl :=
  (yD (YJ (eUn (yH .int) (zk 0)) (X7 (eUn (yH .bool) (zk 0)))))
noncomputable def X9 : List D → Option D := fnD 1 vb
theorem len1 {α : Type} {ds : List α} (h : ds.length = 1) : ∃ a, ds = [a] := by match ds, h with | [a], _ => exact ⟨a, rfl⟩
theorem len2 {α : Type} {ds : List α} (h : ds.length = 2) : ∃ a b, ds = [a, b] := by match ds, h with | [a, b], _ => exact ⟨a, b, rfl⟩
theorem len3 {α : Type} {ds : List α} (h : ds.length = 3) : ∃ a b c, ds = [a, b, c] := by match ds, h with | [a, b, c], _ => exact ⟨a, b, c, rfl⟩
theorem ifS {c : Bool} {x y : D} (h : (if c = true then some x else none) = some y) : c = true ∧ x = y := by
  split at h
  · cases h
    exact ⟨by assumption, rfl⟩
  · cases h
theorem Z6 : ∀ ds d, ds.length = 1 → xB ds = some d → X9 ds = some d := by
  intro ds d hl h
  obtain ⟨a, rfl⟩ := len1 hl
  obtain ⟨hn, rfl⟩ := ifS h
  cases a <;> first | rfl | cases hn
theorem ZO (T : Txt K mg ad) : xn P w K mg base CX0 1 ad.f_is_whole ad.e_is_whole ["thing"] (@spD ⟨K⟩ 1 xB) := by
  letI : KK := ⟨K⟩
  refine Zt (xZ (N := ["thing"]) (ps := ["thing"]) T.d_is_whole.fn Xa (g := vb) fun cdv A outer s H E hr => ?_) Z6
  unfold vb
  exact (zj (zx (vk (zG .int rfl T.z_isinstance (zb 0 (pv 0)) (yf (v := .ty "int") rfl T.z_int XH rfl)) (wQ (zaC (zG .bool rfl T.z_isinstance (zb 0 (pv 0)) (yf (v := .ty "bool") rfl T.z_bool YG rfl)))))))
noncomputable def zV : SE → Ctl :=
  (yD (YJ (zQ 1 xB (zc (zk 0) zy)) (xA leD leD (zk 1) (zk 0) (zk 2))))
noncomputable def xC : List D → Option D := fnD 3 zV
noncomputable def zu : List D → Option D
  | [d, .int lo, .int hi] => if noS d = true then some (.bl (ZS d lo hi)) else none
  | _ => none
theorem YH {a : D} {lo hi : Int} (hn : noS a = true) (hw : YK a = false) : xC [a, .int lo, .int hi] = some (.bl false) := by
  have e : xB [a] = some (.bl false) := by
    show (if noS a = true then some (D.bl (YK a)) else none) = _
    rw [if_pos hn, hw]
  refine Xs (ρ := [.v a, .v (.int lo), .v (.int hi)]) rfl ?_
  unfold zV
  refine Xp (xq ?_) rfl
  show (((xB [a]).bind asB).bind fun c => if c = true then _ else some (D.bl false)) = _
  rw [e]
  rfl
theorem wR : ∀ ds d, ds.length = 3 → zu ds = some d → xC ds = some d := by
  intro ds d hl h
  obtain ⟨a, b, c, rfl⟩ := len3 hl
  cases b <;> try cases h
  cases c <;> try cases h
  rename_i lo hi
  obtain ⟨hn, rfl⟩ := ifS h
  cases a with
  | scr _ => cases hn
  | int i =>
    refine Xs (ρ := [.v (.int i), .v (.int lo), .v (.int hi)]) rfl ?_
    unfold zV
    refine Xp (xq ?_) rfl
    show (if decide (lo ≤ i) = true then some (D.bl (decide (i ≤ hi))) else some (.bl false)) = some (.bl (decide (lo ≤ i) && decide (i ≤ hi)))
    cases decide (lo ≤ i) <;> rfl
  | tup es => exact YH hn rfl
  | lst es => exact YH hn rfl
  | dct z t ks vs => exact YH hn rfl
  | non => rfl
  | bl _ => rfl
  | str _ => rfl
theorem yF (T : Txt K mg ad) : xn P w K mg base CX0 2 ad.f_is_whole_within ad.e_is_whole_within ["thing", "least", "most"] (@spD ⟨K⟩ 3 zu) := by
  letI : KK := ⟨K⟩
  have G_is_whole := ZO (P := P) (w := w) (base := base) T
  refine Zt (xZ (N := ["thing", "least", "most"]) (ps := ["thing", "least", "most"]) T.d_is_whole_within.fn wX (g := zV) fun cdv A outer s H E hr => ?_) wR
  unfold zV
  exact (zj (zx (vk (zD (G_is_whole.mono (by decide)) hr rfl T.d_is_whole.at_ T.d_is_whole.kp T.d_is_whole.bd (za (zb 0 (pv 0)) zd)) (wQ (V1 V9 V9 Xf Xf (zb 1 (pv 1)) (zb 0 (pv 0)) (zb 2 (pv 2)) (fun a b c => VX V9 V9 a b c))))))
noncomputable def yn : SE → Ctl :=
  (yD (zQ 3 zu (zc (zk 0) (zc (eC (.int 1)) (zc (eC (.int 8)) zy)))))
noncomputable def y6 : List D → Option D := fnD 1 yn
noncomputable def zM : List D → Option D
  | [d] => if noS d = true then some (.bl (ZS d 1 8)) else none
  | _ => none
theorem vd : ∀ ds d, ds.length = 1 → zM ds = some d → y6 ds = some d := by
  intro ds d hl h
  obtain ⟨a, rfl⟩ := len1 hl
  have e : y6 [a] = zu [a, .int 1, .int 8] := by
    cases h2 : zu [a, .int 1, .int 8] <;> simp [y6, yn, fnD, yb, yD, Yh, sIf, x6, Wa, sNo, zU, X3, Y1, Zz, ZH, Z9, vEv, visF, visG, Sl.f, Sl.g, zk, eC, zp, YJ, eOr, X7, eIf, eUn, XJ, yZ, wc, yY, zc, zy, zQ, eFn, fFn, tOf, Yj, YC, y4, asB, asI, yT, ZJ, vo, xH, wF, ZW, ww, ltD, leD, gtD, geD, ZP, yj, xr, yW, xp, Xq, yo, ixD, vT, yH, isT, eSl, wI, wE, xA, xz, iOf, Y3, xT, vP, Yk, vA, wy, vD, fLC, xS, xc, vc, xm, Z3, wf, Xy, b1, b2, h2]
  rw [e]
  exact h
theorem wY (T : Txt K mg ad) : xn P w K mg base CX0 3 ad.f_is_place_count ad.e_is_place_count ["thing"] (@spD ⟨K⟩ 1 zM) := by
  letI : KK := ⟨K⟩
  have G_is_whole_within := yF (P := P) (w := w) (base := base) T
  refine Zt (xZ (N := ["thing"]) (ps := ["thing"]) T.d_is_place_count.fn w8 (g := yn) fun cdv A outer s H E hr => ?_) vd
  unfold yn
  exact (zj (zx (zD (G_is_whole_within.mono (by decide)) hr rfl T.d_is_whole_within.at_ T.d_is_whole_within.kp T.d_is_whole_within.bd (za (zb 0 (pv 0)) (za (zh ze) (za (zh (yq (v := .int 8) rfl T.g_MOST_PLACES ⟨_, rfl⟩)) zd))))))
noncomputable def wo : SE → Ctl :=
  (yD (zQ 3 zu (zc (zk 1) (zc (eC (.int 0)) (zc (zp ZJ (zk 0) (eC (.int 1))) zy)))))
noncomputable def vi : List D → Option D := fnD 2 wo
noncomputable def xy : List D → Option D
  | [.int m, d] => if noS d = true then some (.bl (ZS d 0 (m - 1))) else none
  | _ => none
theorem Z5 : ∀ ds d, ds.length = 2 → xy ds = some d → vi ds = some d := by
  intro ds d hl h
  obtain ⟨a, b, rfl⟩ := len2 hl
  cases a <;> try cases h
  rename_i m
  have e : vi [.int m, b] = zu [b, .int 0, .int (m - 1)] := by
    cases h2 : zu [b, .int 0, .int (m - 1)] <;> simp [vi, wo, fnD, yb, yD, Yh, sIf, x6, Wa, sNo, zU, X3, Y1, Zz, ZH, Z9, vEv, visF, visG, Sl.f, Sl.g, zk, eC, zp, YJ, eOr, X7, eIf, eUn, XJ, yZ, wc, yY, zc, zy, zQ, eFn, fFn, tOf, Yj, YC, y4, asB, asI, yT, ZJ, vo, xH, wF, ZW, ww, ltD, leD, gtD, geD, ZP, yj, xr, yW, xp, Xq, yo, ixD, vT, yH, isT, eSl, wI, wE, xA, xz, iOf, Y3, xT, vP, Yk, vA, wy, vD, fLC, xS, xc, vc, xm, Z3, wf, Xy, b1, b2, h2]
  rw [e]
  exact h
theorem ZM (T : Txt K mg ad) : xn P w K mg base CX0 3 ad.f_is_place ad.e_is_place ["many", "thing"] (@spD ⟨K⟩ 2 xy) := by
  letI : KK := ⟨K⟩
  have G_is_whole_within := yF (P := P) (w := w) (base := base) T
  refine Zt (xZ (N := ["many", "thing"]) (ps := ["many", "thing"]) T.d_is_place.fn Z7 (g := wo) fun cdv A outer s H E hr => ?_) Z5
  unfold wo
  exact (zj (zx (zD (G_is_whole_within.mono (by decide)) hr rfl T.d_is_whole_within.at_ T.d_is_whole_within.kp T.d_is_whole_within.bd (za (zb 1 (pv 1)) (za (zh ze) (za (XF (zb 0 (pv 0)) (zh ze)) zd))))))
end
theorem zdo {m : Nat} {g : SE → Ctl} {ds : List D} {R : D → Prop} {ρ : SE} (e : ds.map .v ++ List.replicate (m - ds.length) .no = ρ) (q : (g ρ).w (fun _ => R .non) noP noP R) : ∃ d, fnD m g ds = some d ∧ R d := by
  unfold fnD
  rw [e]
  cases hg : g ρ with
  | nx ρ' => rw [hg] at q; exact ⟨_, rfl, q.nxi⟩
  | rt d' => rw [hg] at q; exact ⟨_, rfl, q.rti⟩
  | bk _ => rw [hg] at q; exact q.bki.elim
  | ct _ => rw [hg] at q; exact q.cti.elim
  | no => rw [hg] at q; exact q.noi.elim
section
variable {P : Program} {w : World} {K : PySem.W.Frag} {mg : Str → Option Value} {base : Heap} {ad : Adr}
noncomputable def xO : SE → Ctl :=
  (yb (x6 false 2 (zp wF (zp vo (zp x8 (zp x8 (zp wF (zk 0) (eC (.int 2147483647))) (zp vo (eC (.int 977)) (zk 1))) (eC (.int 1))) (eC (.int 48271))) (eC (.int 2147483647))))
    (yb (x6 false 2 (zp wF (zp vo (zk 2) (zk 2)) (eC (.int 2147483629))))
    (yb (x6 false 2 (zp wF (zp vo (zp x8 (zk 2) (zp vo (eC (.int 40692)) (zp x8 (zk 1) (eC (.int 3))))) (eC (.int 69621))) (eC (.int 2147483647))))
    (yD (zp xH (zk 2) (eC (.int 8)))))))
noncomputable def Z2 : List D → Option D := fnD 3 xO
noncomputable def xV : List D → Option D
  | [.int c, .int k] => some (.int (VF c k))
  | _ => none
theorem ZV {i j : Int} (h1 : -(2 ^ 64) < i) (h2 : i < 2 ^ 64) : vJ i j = true := decide_eq_true (.inl ⟨h1, h2⟩)
theorem WX {i j : Int} (h1 : -(2 ^ 64) < j) (h2 : j < 2 ^ 64) : vJ i j = true := decide_eq_true (.inr ⟨h1, h2⟩)
theorem v6 {i j : Int} (h : vJ i j = true) : vo (.int i) (.int j) = some (.int (i * j)) := by
  show (if vJ i j = true then _ else none) = _
  rw [if_pos h]
theorem xP {i j : Int} (h : 0 < j) : wF (.int i) (.int j) = some (.int (i % j)) := by
  show (if decide (0 < j) = true then _ else none) = _
  rw [if_pos (decide_eq_true h)]
theorem vE {i j : Int} (h : 0 < j) (h2 : j < 1606938044258990275541962092341162602522202993782792835301376) : xH (.int i) (.int j) = some (.int (i / j)) := by
  show (if decide (0 < j ∧ j < 1606938044258990275541962092341162602522202993782792835301376) = true then _ else none) = _
  rw [if_pos (decide_eq_true ⟨h, h2⟩)]
theorem Zn : ∀ ds d, ds.length = 2 → xV ds = some d → Z2 ds = some d := by
  intro ds d hl h
  obtain ⟨a, b, rfl⟩ := len2 hl
  cases a <;> try cases h
  cases b <;> try cases h
  rename_i c k
  have h1 := Int.emod_nonneg ((c % 2147483647 + 977 * k + 1) * 48271) (show (2147483647 : Int) ≠ 0 by decide)
  have h2 := Int.emod_lt_of_pos ((c % 2147483647 + 977 * k + 1) * 48271) (show (0 : Int) < 2147483647 by decide)
  have m1 : vJ 977 k = true := ZV (by decide) (by decide)
  have m2 : vJ (c % 2147483647 + 977 * k + 1) 48271 = true := WX (by decide) (by decide)
  obtain ⟨x, hx⟩ : ∃ x, (c % 2147483647 + 977 * k + 1) * 48271 % 2147483647 = x := ⟨_, rfl⟩
  rw [hx] at h1 h2
  have m3 : vJ x x = true := ZV (Int.lt_of_lt_of_le (by decide) h1) (Int.lt_trans h2 (by decide))
  have m4 : vJ 40692 (k + 3) = true := ZV (by decide) (by decide)
  have m5 : ∀ x, vJ x 69621 = true := fun x => WX (by decide) (by decide)
  obtain ⟨y, hy⟩ : ∃ y, x * x % 2147483629 = y := ⟨_, rfl⟩
  obtain ⟨z, hz⟩ : ∃ z, (y + 40692 * (k + 3)) * 69621 % 2147483647 = z := ⟨_, rfl⟩
  have hst : VF c k = z / 8 := by
    show ((((c % 2147483647 + 977 * k + 1) * 48271 % 2147483647) * ((c % 2147483647 + 977 * k + 1) * 48271 % 2147483647) % 2147483629 + 40692 * (k + 3)) * 69621 % 2147483647 / 8) = _
    rw [hx, hy, hz]
  rw [hst]
  refine Xs (ρ := [.v (.int c), .v (.int k), .no]) rfl ?_
  unfold xO
  refine zz (ρ' := [.v (.int c), .v (.int k), .v (.int x)]) (yK ?_) ?_
  · show (((((wF (.int c) (.int 2147483647)).bind fun a => (vo (.int 977) (.int k)).bind fun b => x8 a b).bind fun a => x8 a (.int 1)).bind fun a => vo a (.int 48271)).bind fun a => wF a (.int 2147483647)) = _
    rw [xP (by decide), v6 m1]
    show ((vo (.int (c % 2147483647 + 977 * k + 1)) (.int 48271)).bind fun a => wF a (.int 2147483647)) = _
    rw [v6 m2, ← hx]
    exact xP (by decide)
  refine zz (ρ' := [.v (.int c), .v (.int k), .v (.int y)]) (yK ?_) ?_
  · show ((vo (.int x) (.int x)).bind fun a => wF a (.int 2147483629)) = _
    rw [v6 m3, ← hy]
    exact xP (by decide)
  refine zz (ρ' := [.v (.int c), .v (.int k), .v (.int z)]) (yK ?_) ?_
  · show ((((vo (.int 40692) (.int (k + 3))).bind fun b => x8 (.int y) b).bind fun a => vo a (.int 69621)).bind fun a => wF a (.int 2147483647)) = _
    rw [v6 m4]
    show ((vo (.int (y + 40692 * (k + 3))) (.int 69621)).bind fun a => wF a (.int 2147483647)) = _
    rw [v6 (m5 _), ← hz]
    exact xP (by decide)
  exact Xp (xq (show xH (.int z) (.int 8) = _ from vE (by decide) (by decide))) rfl
theorem vw (T : Txt K mg ad) : xn P w K mg base CX0 1 ad.f__law_stir ad.e__law_stir ["cell", "k"] (@spD ⟨K⟩ 2 xV) := by
  letI : KK := ⟨K⟩
  refine Zt (xZ (N := ["cell", "k", "number"]) (ps := ["cell", "k"]) T.d__law_stir.fn xo (g := xO) fun cdv A outer s H E hr => ?_) Zn
  unfold xO
  exact (zg (ye (m := false) (i := 2) xo.nd rfl (Or.inl rfl) (wa (Zq (zZ (zZ (wa (zb 0 (pv 0)) (zh ze)) (Zq (zh ze) (zb 1 (pv 1)))) (zh ze)) (zh ze)) (zh ze)))
      (zg (ye (m := false) (i := 2) xo.nd rfl (Or.inl rfl) (wa (Zq (zb 2 (pv 2)) (zb 2 (pv 2))) (zh ze)))
      (zg (ye (m := false) (i := 2) xo.nd rfl (Or.inl rfl) (wa (Zq (zZ (zb 2 (pv 2)) (Zq (zh ze) (zZ (zb 1 (pv 1)) (zh ze)))) (zh ze)) (zh ze)))
      (zj (zx (vh (zb 2 (pv 2)) (zh ze)))))))
theorem w6 {i j : Int} (h1 : 0 ≤ i) (h2 : i ≤ 1000) (h3 : 0 ≤ j) (h4 : j ≤ 1000) : vA [.int i, .int j] = some (YN i (j - i).toNat) := by
  show (if zaG i = true ∧ zaG j = true then some (YN i (j - i).toNat) else none) = _
  rw [if_pos ⟨zY.mpr ⟨by (clear h4 h3 h2; omega), by (clear h4 h3; omega)⟩, zY.mpr ⟨by omega, by omega⟩⟩]
theorem XM {j : Int} (h3 : 0 ≤ j) (h4 : j ≤ 1000000) : Yk [.int j] = some (YN 0 j.toNat) := by
  show (if zaG j = true then some (YN 0 j.toNat) else none) = _
  rw [if_pos (zY.mpr ⟨by omega, by omega⟩)]
end
section
variable {P : Program} {w : World} {K : PySem.W.Frag} {mg : Str → Option Value} {base : Heap} {ad : Adr}
noncomputable def y8 (r : List D → Option D) : SE → Ctl :=
  (sIf (y4 (tOf (zQ 2 r (zc (zk 2) (zc (zk 3) zy))))) (yD (eC (.bl false))) zU)
noncomputable def zP (r : List D → Option D) : SE → Ctl :=
  (yb (sIf (tOf (zp Xq (zk 1) (eC .non))) (yD (zp Xq (zk 0) (eC .non))) zU)
    (yb (sIf (tOf (eUn (yH .bool) (zk 1))) (yD (YJ (eUn (yH .bool) (zk 0)) (zp xF (zk 0) (zk 1)))) zU)
    (yb (sIf (tOf (eUn (yH .int) (zk 1))) (yD (YJ (eUn (yH .int) (zk 0)) (YJ (X7 (eUn (yH .bool) (zk 0))) (zp xF (zk 0) (zk 1))))) zU)
    (yb (sIf (tOf (eUn (yH .str) (zk 1))) (yD (YJ (eUn (yH .str) (zk 0)) (zp xF (zk 0) (zk 1)))) zU)
    (yb (sIf (YC (tOf (zp neD (eUn (yH .list) (zk 1)) (eUn (yH .list) (zk 0)))) (tOf (zp neD (eUn (yH .tuple) (zk 1)) (eUn (yH .tuple) (zk 0))))) (yD (eC (.bl false))) zU)
    (yb (sIf (tOf (zp neD (eFn vT (zc (zk 0) zy)) (eFn vT (zc (zk 1) zy)))) (yD (eC (.bl false))) zU)
    (yb (Y3 (vD (zc (zk 0) (zc (zk 1) zy))) (Z3 2 (wf (xm 2) (wf (xm 3) Xy))) (y8 r))
    (yD (eC (.bl true))))))))))
noncomputable def xk : List D → Option D := zbM 4 zP 6
theorem Y4 (ds : List D) : Xg ds ds = ds.map fun d => .tup [d, d] := by
  induction ds with
  | nil => rfl
  | cons d ds ih => show D.tup [d, d] :: Xg ds ds = _; rw [ih]; rfl
theorem Zx {r : List D → Option D} {d : D} (hr : ∀ es, (d = .tup es ∨ d = .lst es) → ∀ e ∈ es, r [e, e] = some (.bl true)) (hn : ∀ ns, d ≠ .scr ns) (hd : ∀ z t ks vs, d ≠ .dct z t ks vs) : fnD 4 (zP r) [d, d] = some (.bl true) := by
  cases d with
  | scr ns => exact absurd rfl (hn ns)
  | dct z t ks vs => exact absurd rfl (hd z t ks vs)
  | non => rfl
  | bl b => cases b <;> rfl
  | int i => simp [zP, fnD, yb, yD, Yh, sIf, x6, Wa, sNo, zU, X3, Y1, Zz, ZH, Z9, vEv, visF, visG, Sl.f, Sl.g, zk, eC, zp, YJ, eOr, X7, eIf, eUn, XJ, yZ, wc, yY, zc, zy, zQ, eFn, fFn, tOf, Yj, YC, y4, asB, asI, yT, ZJ, vo, xH, wF, ZW, ww, ltD, leD, gtD, geD, ZP, yj, xr, yW, xp, Xq, yo, ixD, vT, yH, isT, eSl, wI, wE, xA, xz, iOf, Y3, xT, vP, Yk, vA, wy, vD, fLC, xS, xc, vc, xm, Z3, wf, Xy, b1, b2]
  | str x => simp [zP, fnD, yb, yD, Yh, sIf, x6, Wa, sNo, zU, X3, Y1, Zz, ZH, Z9, vEv, visF, visG, Sl.f, Sl.g, zk, eC, zp, YJ, eOr, X7, eIf, eUn, XJ, yZ, wc, yY, zc, zy, zQ, eFn, fFn, tOf, Yj, YC, y4, asB, asI, yT, ZJ, vo, xH, wF, ZW, ww, ltD, leD, gtD, geD, ZP, yj, xr, yW, xp, Xq, yo, ixD, vT, yH, isT, eSl, wI, wE, xA, xz, iOf, Y3, xT, vP, Yk, vA, wy, vD, fLC, xS, xc, vc, xm, Z3, wf, Xy, b1, b2]
  | tup es =>
    refine Xs (ρ := [.v (.tup es), .v (.tup es), .no, .no]) rfl ?_
    unfold zP
    refine zz rfl (zz rfl (zz rfl (zz rfl (zz rfl (wN (VG (c := false) (by simp [fnD, yb, yD, Yh, sIf, x6, Wa, sNo, zU, X3, Y1, Zz, ZH, Z9, vEv, visF, visG, Sl.f, Sl.g, zk, eC, zp, YJ, eOr, X7, eIf, eUn, XJ, yZ, wc, yY, zc, zy, zQ, eFn, fFn, tOf, Yj, YC, y4, asB, asI, yT, ZJ, vo, xH, wF, ZW, ww, ltD, leD, gtD, geD, ZP, yj, xr, yW, xp, Xq, yo, ixD, vT, yH, isT, eSl, wI, wE, xA, xz, iOf, Y3, xT, vP, Yk, vA, wy, vD, fLC, xS, xc, vc, xm, Z3, wf, Xy, b1, b2]) (fun z => by cases z) fun _ => WJ rfl ?_))))))
    refine wN (W5 (ds := Xg es es) (fun i ρ => ∃ o1 o2, ρ = [.v (.tup es), .v (.tup es), o1, o2]) (by simp [fnD, yb, yD, Yh, sIf, x6, Wa, sNo, zU, X3, Y1, Zz, ZH, Z9, vEv, visF, visG, Sl.f, Sl.g, zk, eC, zp, YJ, eOr, X7, eIf, eUn, XJ, yZ, wc, yY, zc, zy, zQ, eFn, fFn, tOf, Yj, YC, y4, asB, asI, yT, ZJ, vo, xH, wF, ZW, ww, ltD, leD, gtD, geD, ZP, yj, xr, yW, xp, Xq, yo, ixD, vT, yH, isT, eSl, wI, wE, xA, xz, iOf, Y3, xT, vP, Yk, vA, wy, vD, fLC, xS, xc, vc, xm, Z3, wf, Xy, b1, b2]) ⟨_, _, rfl⟩ ?_ ?_)
    · rintro i d ρ hd ⟨o1, o2, rfl⟩
      rw [Y4, List.getElem?_map] at hd
      obtain ⟨e, he, rfl⟩ := Option.map_eq_some_iff.mp hd
      have hre := hr es (.inl rfl) e (List.mem_of_getElem? he)
      refine ⟨_, rfl, ?_⟩
      unfold y8
      refine VG (c := false) (by simp [fnD, yb, yD, Yh, sIf, x6, Wa, sNo, zU, X3, Y1, Zz, ZH, Z9, vEv, visF, visG, Sl.f, Sl.g, zk, eC, zp, YJ, eOr, X7, eIf, eUn, XJ, yZ, wc, yY, zc, zy, zQ, eFn, fFn, tOf, Yj, YC, y4, asB, asI, yT, ZJ, vo, xH, wF, ZW, ww, ltD, leD, gtD, geD, ZP, yj, xr, yW, xp, Xq, yo, ixD, vT, yH, isT, eSl, wI, wE, xA, xz, iOf, Y3, xT, vP, Yk, vA, wy, vD, fLC, xS, xc, vc, xm, Z3, wf, Xy, b1, b2, hre]) (fun z => by cases z) fun _ => WJ rfl ⟨_, _, rfl⟩
    · rintro ρ ⟨o1, o2, rfl⟩
      exact Xp rfl rfl
  | lst es =>
    refine Xs (ρ := [.v (.lst es), .v (.lst es), .no, .no]) rfl ?_
    unfold zP
    refine zz rfl (zz rfl (zz rfl (zz rfl (zz rfl (wN (VG (c := false) (by simp [fnD, yb, yD, Yh, sIf, x6, Wa, sNo, zU, X3, Y1, Zz, ZH, Z9, vEv, visF, visG, Sl.f, Sl.g, zk, eC, zp, YJ, eOr, X7, eIf, eUn, XJ, yZ, wc, yY, zc, zy, zQ, eFn, fFn, tOf, Yj, YC, y4, asB, asI, yT, ZJ, vo, xH, wF, ZW, ww, ltD, leD, gtD, geD, ZP, yj, xr, yW, xp, Xq, yo, ixD, vT, yH, isT, eSl, wI, wE, xA, xz, iOf, Y3, xT, vP, Yk, vA, wy, vD, fLC, xS, xc, vc, xm, Z3, wf, Xy, b1, b2]) (fun z => by cases z) fun _ => WJ rfl ?_))))))
    refine wN (W5 (ds := Xg es es) (fun i ρ => ∃ o1 o2, ρ = [.v (.lst es), .v (.lst es), o1, o2]) (by simp [fnD, yb, yD, Yh, sIf, x6, Wa, sNo, zU, X3, Y1, Zz, ZH, Z9, vEv, visF, visG, Sl.f, Sl.g, zk, eC, zp, YJ, eOr, X7, eIf, eUn, XJ, yZ, wc, yY, zc, zy, zQ, eFn, fFn, tOf, Yj, YC, y4, asB, asI, yT, ZJ, vo, xH, wF, ZW, ww, ltD, leD, gtD, geD, ZP, yj, xr, yW, xp, Xq, yo, ixD, vT, yH, isT, eSl, wI, wE, xA, xz, iOf, Y3, xT, vP, Yk, vA, wy, vD, fLC, xS, xc, vc, xm, Z3, wf, Xy, b1, b2]) ⟨_, _, rfl⟩ ?_ ?_)
    · rintro i d ρ hd ⟨o1, o2, rfl⟩
      rw [Y4, List.getElem?_map] at hd
      obtain ⟨e, he, rfl⟩ := Option.map_eq_some_iff.mp hd
      have hre := hr es (.inr rfl) e (List.mem_of_getElem? he)
      refine ⟨_, rfl, ?_⟩
      unfold y8
      refine VG (c := false) (by simp [fnD, yb, yD, Yh, sIf, x6, Wa, sNo, zU, X3, Y1, Zz, ZH, Z9, vEv, visF, visG, Sl.f, Sl.g, zk, eC, zp, YJ, eOr, X7, eIf, eUn, XJ, yZ, wc, yY, zc, zy, zQ, eFn, fFn, tOf, Yj, YC, y4, asB, asI, yT, ZJ, vo, xH, wF, ZW, ww, ltD, leD, gtD, geD, ZP, yj, xr, yW, xp, Xq, yo, ixD, vT, yH, isT, eSl, wI, wE, xA, xz, iOf, Y3, xT, vP, Yk, vA, wy, vD, fLC, xS, xc, vc, xm, Z3, wf, Xy, b1, b2, hre]) (fun z => by cases z) fun _ => WJ rfl ⟨_, _, rfl⟩
    · rintro ρ ⟨o1, o2, rfl⟩
      exact Xp rfl rfl
theorem Wz : ∀ (n : Nat) {d : D}, okE n d = true → zbM 4 zP (n + 1) [d, d] = some (.bl true) := by
  intro n
  induction n with
  | zero =>
    intro d h
    refine Zx (fun es he => ?_) (fun ns e => by subst e; cases h) (fun _ _ _ _ e => by subst e; cases h)
    rcases he with rfl | rfl <;> cases h
  | succ n ih =>
    intro d h
    refine Zx (fun es he e hm => ?_) (fun ns e => by subst e; cases h) (fun _ _ _ _ e => by subst e; cases h)
    rcases he with rfl | rfl
    · exact ih (List.all_eq_true.mp h e hm)
    · exact ih (List.all_eq_true.mp h e hm)
theorem zbO {d : D} (h : okE 5 d = true) : xk [d, d] = some (.bl true) := Wz 5 h
theorem Zh (T : Txt K mg ad) : xn P w K mg base CX0 7 ad.f__law_same ad.e__law_same ["found", "due"] (@spD ⟨K⟩ 2 xk) := by
  letI : KK := ⟨K⟩
  have R : ∀ n, xn P w K mg base CX0 (1 + n) ad.f__law_same ad.e__law_same ["found", "due"] (spD 2 (zbM 4 zP n)) := by
    refine zci (P := P) (w := w) (mg := mg) (base := base) (k0 := 1) (g := zP) T.d__law_same.fn wb fun k r hrec cdv A outer s H E hr => ?_
    unfold zP y8
    exact (zg (ym (zT zaE Vx (zv _) (zb 1 (pv 1)) (vn vp)) (zj (zx (yJ zaE Vx (zv _) (zb 0 (pv 0)) (vn vp)))) zB)
      (zg (ym (xu (zG .bool rfl T.z_isinstance (zb 1 (pv 1)) (yf (v := .ty "bool") rfl T.z_bool YG rfl))) (zj (zx (vk (zG .bool rfl T.z_isinstance (zb 0 (pv 0)) (yf (v := .ty "bool") rfl T.z_bool YG rfl)) (wQ (yJ (zH hr) zw (zv _) (zb 0 (pv 0)) (zb 1 (pv 1))))))) zB)
      (zg (ym (xu (zG .int rfl T.z_isinstance (zb 1 (pv 1)) (yf (v := .ty "int") rfl T.z_int XH rfl))) (zj (zx (vk (zG .int rfl T.z_isinstance (zb 0 (pv 0)) (yf (v := .ty "int") rfl T.z_int XH rfl)) (vk (zaC (zG .bool rfl T.z_isinstance (zb 0 (pv 0)) (yf (v := .ty "bool") rfl T.z_bool YG rfl))) (wQ (yJ (zH hr) zw (zv _) (zb 0 (pv 0)) (zb 1 (pv 1)))))))) zB)
      (zg (ym (xu (zG .str rfl T.z_isinstance (zb 1 (pv 1)) (yf (v := .ty "str") rfl T.z_str VA rfl))) (zj (zx (vk (zG .str rfl T.z_isinstance (zb 0 (pv 0)) (yf (v := .ty "str") rfl T.z_str VA rfl)) (wQ (yJ (zH hr) zw (zv _) (zb 0 (pv 0)) (zb 1 (pv 1))))))) zB)
      (zg (ym (zcB (Va (zT Z0 Yv (zv _) (zG .list rfl T.z_isinstance (zb 1 (pv 1)) (yf (v := .ty "list") rfl T.z_list ZU rfl)) (zG .list rfl T.z_isinstance (zb 0 (pv 0)) (yf (v := .ty "list") rfl T.z_list ZU rfl))) (Y6 (zT Z0 Yv (zv _) (zG .tuple rfl T.z_isinstance (zb 1 (pv 1)) (yf (v := .ty "tuple") rfl T.z_tuple xQ rfl)) (zG .tuple rfl T.z_isinstance (zb 0 (pv 0)) (yf (v := .ty "tuple") rfl T.z_tuple xQ rfl)))))) (zj (zx (wx x5))) zB)
      (zg (ym (zT Z0 Yv (zv _) (yV zN xG rfl T.z_len wO (za (zb 0 (pv 0)) zd)) (yV zN xG rfl T.z_len wO (za (zb 1 (pv 1)) zd))) (zj (zx (wx x5))) zB)
      (zg (Xh PassesOwn.never rfl (zco rfl T.z_zip (za (zb 0 (pv 0)) (za (zb 1 (pv 1)) zd))) (W7 rfl (wn (xl (zS (i := 2) wb.nd rfl (Or.inl rfl))) (wn (xl (zS (i := 3) wb.nd rfl (Or.inl rfl))) ZQ))) (zj (ym (vq (xu (zD hrec hr rfl T.d__law_same.at_ T.d__law_same.kp T.d__law_same.bd (za (zb 2 (pv 2)) (za (zb 3 (pv 3)) zd))))) (zj (zx (wx x5))) zB)))
      (zj (zx (wx x5))))))))))
  exact R 6
end
section
variable {P : Program} {w : World} {K : PySem.W.Frag} {mg : Str → Option Value} {base : Heap} {ad : Adr}
noncomputable def xD : SE → Ctl :=
  (yb (sIf (YC (y4 (tOf (eUn (yH .tuple) (zk 0)))) (y4 (tOf (zQ 1 zM (zc (eFn vT (zc (zk 0) zy)) zy))))) (yD (eC (.bl false))) zU)
    (yb (sIf (tOf (zp yo (zp ixD (zk 0) (eC (.int 0))) (eC .non))) (yD (eC (.bl false))) zU)
    (yD (eFn zde (zc (wc (fLC (vP vA (zc (eC (.int 1)) (zc (eFn vT (zc (zk 0) zy)) zy))) b1 xS (zQ 2 xy (zc (zk 0) (zc (zp ixD (zk 1) (zk 0)) zy))))) zy)))))
noncomputable def xw : List D → Option D := fnD 1 xD
theorem XR (T : Txt K mg ad) : xn P w K mg base CX0 4 ad.f_is_over ad.e_is_over ["thing"] (@spD ⟨K⟩ 1 xw) := by
  letI : KK := ⟨K⟩
  have G_is_place_count := wY (P := P) (w := w) (base := base) T
  have G_is_place := ZM (P := P) (w := w) (base := base) T
  refine xZ (N := ["thing"]) (ps := ["thing"]) T.d_is_over.fn XV (g := xD) fun cdv A outer s H E hr => ?_
  unfold xD
  exact (zg (ym (zcB (Va (vq (xu (zG .tuple rfl T.z_isinstance (zb 0 (pv 0)) (yf (v := .ty "tuple") rfl T.z_tuple xQ rfl)))) (Y6 (vq (xu (zD (G_is_place_count.mono (by decide)) hr rfl T.d_is_place_count.at_ T.d_is_place_count.kp T.d_is_place_count.bd (za (yV zN xG rfl T.z_len wO (za (zb 0 (pv 0)) zd)) zd))))))) (zj (zx (wx x5))) zB)
      (zg (ym (zT vV wZ (zv _) (wL (zb 0 (pv 0)) (zh ze) (fun _ _ => rfl)) (vn vp)) (zj (zx (wx x5))) zB)
      (zj (zx (yV (WB rfl) zbu rfl T.z_all zcq (za (xt (Yc (L := ["place"]) (M := ["thing"]) rfl (wJ (by rfl) (by rfl) (by rfl) (by with_unfolding_all rfl) (by rfl) (by rfl) (by kernel_rfl) (all_cons rfl xK)) (xi rfl T.z_range (za (zh ze) (za (yV zN xG rfl T.z_len wO (za (zb 0 (pv 0)) zd)) zd))) gs1 rb1 (fun _ _ _ _ => (zS (i := 0) zdg rfl (Or.inl rfl) (.inr rfl))) (fun _ _ _ _ => (zD (G_is_place.mono (by decide)) hr rfl T.d_is_place.at_ T.d_is_place.kp T.d_is_place.bd (za (zb 0 (pv 0)) (za (wL (zb 1 (pv 1)) (zb 0 (pv 0)) (fun _ _ => rfl)) zd)))))) zd))))))
noncomputable def xX : SE → Ctl :=
  (yb (sIf (YC (y4 (tOf (eUn (yH .tuple) (zk 0)))) (tOf (zp neD (eFn vT (zc (zk 0) zy)) (eC (.int 2))))) (yD (eC (.bl false))) zU)
    (yb (x6 false 1 (zp ixD (zk 0) (eC (.int 0))))
    (yb (sIf (y4 (tOf (eUn (yH .str) (zk 1)))) (yD (eC (.bl false))) zU)
    (yb (sIf (tOf (zp xF (zk 1) (eC (.str "tree")))) (yD (zQ 1 xw (zc (zp ixD (zk 0) (eC (.int 1))) zy))) zU)
    (yD (YJ (eUn (zaD wP) (zk 1)) (zQ 3 zu (zc (zp ixD (zk 0) (eC (.int 1))) (zc (eUn (Wq wP 0) (zk 1)) (zc (eUn (Wq wP 1) (zk 1)) zy))))))))))
noncomputable def zL : List D → Option D := fnD 2 xX
theorem wg (T : Txt K mg ad) : xn P w K mg base CX0 5 ad.f_kind_good ad.e_kind_good ["thing"] (@spD ⟨K⟩ 1 zL) := by
  letI : KK := ⟨K⟩
  have G_is_whole_within := yF (P := P) (w := w) (base := base) T
  have G_is_over := XR (P := P) (w := w) (base := base) T
  refine xZ (N := ["thing", "word"]) (ps := ["thing"]) T.d_kind_good.fn vm (g := xX) fun cdv A outer s H E hr => ?_
  unfold xX
  exact (zg (ym (zcB (Va (vq (xu (zG .tuple rfl T.z_isinstance (zb 0 (pv 0)) (yf (v := .ty "tuple") rfl T.z_tuple xQ rfl)))) (Y6 (zT Z0 Yv (zv _) (yV zN xG rfl T.z_len wO (za (zb 0 (pv 0)) zd)) (zh ze))))) (zj (zx (wx x5))) zB)
      (zg (ye (m := false) (i := 1) vm.nd rfl (Or.inl rfl) (wL (zb 0 (pv 0)) (zh ze) (fun _ _ => rfl)))
      (zg (ym (vq (xu (zG .str rfl T.z_isinstance (zb 1 (pv 1)) (yf (v := .ty "str") rfl T.z_str VA rfl)))) (zj (zx (wx x5))) zB)
      (zg (ym (zT (zH hr) zw (zv _) (zb 1 (pv 1)) (zt zq)) (zj (zx (zD (G_is_over.mono (by decide)) hr rfl T.d_is_over.at_ T.d_is_over.kp T.d_is_over.bd (za (wL (zb 0 (pv 0)) (zh ze) (fun _ _ => rfl)) zd)))) zB)
      (zj (zx (vk (VY T.b_SIZES rfl T.g_SIZES (zb 1 (pv 1))) (wQ (zD (G_is_whole_within.mono (by decide)) hr rfl T.d_is_whole_within.at_ T.d_is_whole_within.kp T.d_is_whole_within.bd (za (wL (zb 0 (pv 0)) (zh ze) (fun _ _ => rfl)) (za (XG T.b_SIZES (by decide) rfl T.g_SIZES (zb 1 (pv 1)) (fun _ _ => rfl)) (za (XG T.b_SIZES (by decide) rfl T.g_SIZES (zb 1 (pv 1)) (fun _ _ => rfl)) zd))))))))))))
noncomputable def wD : SE → Ctl :=
  (yb (sIf (tOf (zp xF (zk 0) (eC (.str "cube")))) (yD (zp ixD (yZ (zc (eC (.int 1)) (zc (eC (.int 2)) (zc (eC (.int 4)) (zc (eC (.int 8)) zy))))) (zk 1))) zU)
    (yb (sIf (tOf (zp xF (zk 0) (eC (.str "star")))) (yD (zp x8 (zk 1) (eC (.int 1)))) zU)
    (yb (sIf (tOf (zp xF (zk 0) (eC (.str "tree")))) (yD (eFn vT (zc (zk 1) zy))) zU)
    (yD (zk 1)))))
noncomputable def xI : List D → Option D := fnD 2 wD
theorem vv (T : Txt K mg ad) : xn P w K mg base CX0 1 ad.f_places_of ad.e_places_of ["word", "size"] (@spD ⟨K⟩ 2 xI) := by
  letI : KK := ⟨K⟩
  refine xZ (N := ["word", "size"]) (ps := ["word", "size"]) T.d_places_of.fn Zd (g := wD) fun cdv A outer s H E hr => ?_
  unfold wD
  exact (zg (ym (zT (zH hr) zw (zv _) (zb 0 (pv 0)) (zt zq)) (zj (zx (wL (zA (za (zh ze) (za (zh ze) (za (zh ze) (za (zh ze) zd))))) (zb 1 (pv 1)) (fun _ _ => rfl)))) zB)
      (zg (ym (zT (zH hr) zw (zv _) (zb 0 (pv 0)) (zt zq)) (zj (zx (zZ (zb 1 (pv 1)) (zh ze)))) zB)
      (zg (ym (zT (zH hr) zw (zv _) (zb 0 (pv 0)) (zt zq)) (zj (zx (yV zN xG rfl T.z_len wO (za (zb 1 (pv 1)) zd)))) zB)
      (zj (zx (zb 1 (pv 1)))))))
noncomputable def wm : SE → Ctl :=
  (yb (sIf (tOf (zp xF (zk 0) (eC (.str "row")))) (yD (zp xF (zk 3) (zp x8 (zk 2) (eC (.int 1))))) zU)
    (yb (sIf (tOf (zp xF (zk 0) (eC (.str "ring")))) (yD (eOr (zp xF (zk 3) (zp x8 (zk 2) (eC (.int 1)))) (YJ (zp xF (zk 2) (eC (.int 0))) (zp xF (zk 3) (zp ZJ (zk 1) (eC (.int 1))))))) zU)
    (yb (sIf (tOf (zp xF (zk 0) (eC (.str "cube")))) (yD (zp inD (zp xorD (zk 2) (zk 3)) (yZ (zc (eC (.int 1)) (zc (eC (.int 2)) (zc (eC (.int 4)) zy)))))) zU)
    (yb (sIf (tOf (zp xF (zk 0) (eC (.str "star")))) (yD (zp xF (zk 2) (eC (.int 0)))) zU)
    (yb (sIf (tOf (zp xF (zk 0) (eC (.str "tree")))) (yD (zp xF (zp ixD (zk 1) (zk 3)) (zk 2))) zU)
    (yD (eC (.bl true))))))))
noncomputable def vg : List D → Option D := fnD 4 wm
theorem Ya (T : Txt K mg ad) : xn P w K mg base CX0 1 ad.f_are_tied ad.e_are_tied ["word", "size", "one", "other"] (@spD ⟨K⟩ 4 vg) := by
  letI : KK := ⟨K⟩
  refine xZ (N := ["word", "size", "one", "other"]) (ps := ["word", "size", "one", "other"]) T.d_are_tied.fn Xe (g := wm) fun cdv A outer s H E hr => ?_
  unfold wm
  exact (zg (ym (zT (zH hr) zw (zv _) (zb 0 (pv 0)) (zt zq)) (zj (zx (yJ (zH hr) zw (zv _) (zb 3 (pv 3)) (zZ (zb 2 (pv 2)) (zh ze))))) zB)
      (zg (ym (zT (zH hr) zw (zv _) (zb 0 (pv 0)) (zt zq)) (zj (zx (zb5 (yJ (zH hr) zw (zv _) (zb 3 (pv 3)) (zZ (zb 2 (pv 2)) (zh ze))) (wQ (vk (yJ (zH hr) zw (zv _) (zb 2 (pv 2)) (zh ze)) (wQ (yJ (zH hr) zw (zv _) (zb 3 (pv 3)) (XF (zb 1 (pv 1)) (zh ze))))))))) zB)
      (zg (ym (zT (zH hr) zw (zv _) (zb 0 (pv 0)) (zt zq)) (zj (zx (yJ (zb9 hr) zct (by with_unfolding_all rfl) (zbU (zb 2 (pv 2)) (zb 3 (pv 3))) (zA (za (zh ze) (za (zh ze) (za (zh ze) zd))))))) zB)
      (zg (ym (zT (zH hr) zw (zv _) (zb 0 (pv 0)) (zt zq)) (zj (zx (yJ (zH hr) zw (zv _) (zb 2 (pv 2)) (zh ze)))) zB)
      (zg (ym (zT (zH hr) zw (zv _) (zb 0 (pv 0)) (zt zq)) (zj (zx (yJ (zH hr) zw (zv _) (wL (zb 1 (pv 1)) (zb 3 (pv 3)) (fun _ _ => rfl)) (zb 2 (pv 2))))) zB)
      (zj (zx (wx x5))))))))
noncomputable def wC : SE → Ctl :=
  (ZH 4 (wc (fLC (vP vA (zc (zp x8 (zk 5) (eC (.int 1))) (zc (zk 3) zy))) b1 (tOf (zQ 4 vg (zc (zk 2) (zc (zk 3) (zc (zk 6) (zc (zk 0) zy)))))) (yZ (zc (zk 6) (zc (zk 0) zy))))))
noncomputable def wW : SE → Ctl :=
  (yb (sIf (y4 (tOf (zQ 1 zL (zc (zk 0) zy)))) sNo zU)
    (yb (x6 false 1 (zp ixD (zk 0) (eC (.int 0))))
    (yb (x6 false 2 (zp ixD (zk 0) (eC (.int 1))))
    (yb (x6 false 3 (zQ 2 xI (zc (zk 1) (zc (zk 2) zy))))
    (yb (Y1 4 (yY zy))
    (yb (xT Yk (zc (zk 3) zy) (xm 5) wC)
    (sFz 4 (yD (yZ (zc (zk 3) (zc (eFn xc (zc (zk 4) zy)) zy)))))))))))
noncomputable def wd : List D → Option D := fnD 6 wW
theorem Yu (T : Txt K mg ad) : xn P w K mg base CX0 6 ad.f_web_for ad.e_web_for ["kind"] (@spD ⟨K⟩ 1 wd) := by
  letI : KK := ⟨K⟩
  have G_kind_good := wg (P := P) (w := w) (base := base) T
  have G_places_of := vv (P := P) (w := w) (base := base) T
  have G_are_tied := Ya (P := P) (w := w) (base := base) T
  refine xZ (N := ["kind", "word", "size", "many", "ties", "one"]) (ps := ["kind"]) T.d_web_for.fn yR (g := wW) fun cdv A outer s H E hr => ?_
  unfold wW wC
  exact (zg (ym (vq (xu (zD (G_kind_good.mono (by decide)) hr rfl T.d_kind_good.at_ T.d_kind_good.kp T.d_kind_good.bd (za (zb 0 (pv 0)) zd)))) (zj zae) zB)
      (zg (ye (m := false) (i := 1) yR.nd rfl (Or.inr rfl) (wL (zb 0 (pv 0)) (zh ze) (fun _ _ => rfl)))
      (zg (ye (m := false) (i := 2) yR.nd rfl (Or.inr rfl) (wL (zb 0 (pv 0)) (zh ze) (fun _ _ => rfl)))
      (zg (ye (m := false) (i := 3) yR.nd rfl (Or.inl rfl) (zD (G_places_of.mono (by decide)) hr rfl T.d_places_of.at_ T.d_places_of.kp T.d_places_of.bd (za (zb 1 (pv 1)) (za (zb 2 (pv 2)) zd))))
      (zg (XC (i := 4) yR.nd rfl (Or.inl rfl) (xx zd))
      (zg (Xw PassesOwn.never rfl rfl T.z_range (za (zb 3 (pv 3)) zd) (xl (zS (i := 5) yR.nd rfl (Or.inr rfl))) (zj (zcW (pv 4) (xt (zaI (L := ["other"]) (M := ["kind", "word", "size", "many", "ties", "one"]) rfl (wJ (by rfl) (by rfl) (by rfl) (by with_unfolding_all rfl) (by rfl) (by rfl) (by kernel_rfl) (all_cons rfl (all_cons rfl (all_cons rfl xK)))) (xi rfl T.z_range (za (zZ (zb 5 (pv 5)) (zh ze)) (za (zb 3 (pv 3)) zd))) gs1 rb1 (fun _ _ _ _ => (zS (i := 0) zdE rfl (Or.inl rfl) (.inr rfl))) (fun _ _ _ _ => (xu (zD (G_are_tied.mono (by decide)) hr rfl T.d_are_tied.at_ T.d_are_tied.kp T.d_are_tied.bd (za (zb 2 (pv 2)) (za (zb 3 (pv 3)) (za (zb 6 (pv 6)) (za (zb 0 (pv 0)) zd))))))) (fun _ _ _ _ => (zA (za (zb 6 (pv 6)) (za (zb 0 (pv 0)) zd)))))) (fun a b => X8 PySem.F.plainAttrs_list PySem.F.slot_list_extend PySem.F.type_list_extend Wp a b))))
      (Xo 4 (zj (zx (zA (za (zb 3 (pv 3)) (za (wS xR v0 rfl T.z_tuple xQ (za (zb 4 (pv 4)) zd)) zd))))))))))))
noncomputable def ve : SE → Option Nat :=
  (xIf (y4 (tOf (zQ 1 zL (zc (zk 0) zy)))) (zaA 1) xNo)
noncomputable def wq : List D → Option Nat := fnX 6 ve
theorem vY (T : Txt K mg ad) : xn P w K mg base (Air P w) 6 ad.f_web_for ad.e_web_for ["kind"] (@spX ⟨K⟩ (clT ad) 1 wq) := by
  letI : KK := ⟨K⟩
  have G_kind_good := wg (P := P) (w := w) (base := base) T
  have G_places_of := vv (P := P) (w := w) (base := base) T
  have G_are_tied := Ya (P := P) (w := w) (base := base) T
  refine zck (cl := clT ad) (N := ["kind", "word", "size", "many", "ties", "one"]) (ps := ["kind"]) T.d_web_for.fn yR (gx := ve) fun cdv A outer s H E hr => ?_
  unfold ve
  exact (W8 (zdb (vq (xu (zD (G_kind_good.mono (by decide)) hr rfl T.d_kind_good.at_ T.d_kind_good.kp T.d_kind_good.bd (za (zb 0 (pv 0)) zd)))) (Vk (V5 (cl := clT ad) (j := 1) ⟨T.g_NoKind, T.c_NoKind⟩ rfl)) WC))
noncomputable def wz : SE → Ctl :=
  (x6 false 1 (zp x8 (zk 1) (wc (fLC (vP vA (zc (zp x8 (zk 2) (eC (.int 1))) (zc (zk 0) zy))) b1 xS (yZ (zc (zk 3) (zc (zk 0) zy)))))))
noncomputable def x9 : SE → Ctl :=
  (yb (x6 false 1 (wc (yY zy)))
    (yb (xT Yk (zc (zk 0) zy) (xm 2) wz)
    (yD (zk 1))))
noncomputable def wj : List D → Option D := fnD 3 x9
theorem YD (T : Txt K mg ad) : xn P w K mg base CX0 1 ad.f__law_pairs ad.e__law_pairs ["many"] (@spD ⟨K⟩ 1 wj) := by
  letI : KK := ⟨K⟩
  refine xZ (N := ["many", "found", "a"]) (ps := ["many"]) T.d__law_pairs.fn y9 (g := x9) fun cdv A outer s H E hr => ?_
  unfold x9 wz
  exact (zg (ye (m := false) (i := 1) y9.nd rfl (Or.inl rfl) (xt (xx zd)))
      (zg (Xw PassesOwn.never rfl rfl T.z_range (za (zb 0 (pv 0)) zd) (xl (zS (i := 2) y9.nd rfl (Or.inr rfl))) (zj (ye (m := false) (i := 1) y9.nd rfl (Or.inl rfl) (zZ (zb 1 (pv 1)) (xt (Yc (L := ["b"]) (M := ["many", "found", "a"]) rfl (wJ (by rfl) (by rfl) (by rfl) (by with_unfolding_all rfl) (by rfl) (by rfl) (by kernel_rfl) (all_cons rfl xK)) (xi rfl T.z_range (za (zZ (zb 2 (pv 2)) (zh ze)) (za (zb 0 (pv 0)) zd))) gs1 rb1 (fun _ _ _ _ => (zS (i := 0) zds rfl (Or.inl rfl) (.inr rfl))) (fun _ _ _ _ => (zA (za (zb 3 (pv 3)) (za (zb 0 (pv 0)) zd))))))))))
      (zj (zx (zb 1 (pv 1))))))
theorem YB : bootBuiltins "ValueError" = some (.type "ValueError") := by decide +kernel
theorem VV {n : Nat} (h : n ≤ 13) : n ≤ sizeLine := by rw [sizeLine_eq]; omega
theorem Yi (T : Txt K mg ad) : WK P w K mg base 1 ad.f__law_kinds ad.e__law_kinds ["e"] (Vo (clT ad) (fun j => j < 13 ∧ Xl K (zc3 ad) ad.x_StoneError (clT ad j) j)) := by
  letI : KK := ⟨K⟩
  refine zbz (N := ["e", "found"]) (ps := ["e"]) T.d__law_kinds.fn yE (fun vs H Q E h => by obtain ⟨a, j, rfl, _⟩ := h; rfl) fun cdv A outer s H vs Q E ev hr hsp => ?_
  obtain ⟨a, j, rfl, hH, ⟨hj, kj⟩, q⟩ := hsp
  refine ⟨_, (xL (Yt (i := 1) yE.nd rfl (Or.inl rfl) (ZB (zl (zR yc rfl T.z_isinstance zn (zl (pv 0) (zl (yq (v := .ref ad.x_NoWeb) rfl T.g_NoWeb rfl) ya))) (zl (zR yc rfl T.z_isinstance zn (zl (pv 0) (zl (yq (v := .ref ad.x_NoKind) rfl T.g_NoKind rfl) ya))) (zl (zR yc rfl T.z_isinstance zn (zl (pv 0) (zl (yq (v := .ref ad.x_NoHeap) rfl T.g_NoHeap rfl) ya))) (zl (zR yc rfl T.z_isinstance zn (zl (pv 0) (zl (yq (v := .ref ad.x_NoPlace) rfl T.g_NoPlace rfl) ya))) ya))))))
      (xL (Yt (i := 1) yE.nd rfl (Or.inl rfl) (Vv Zl (pv 1) (ZB (zl (zR yc rfl T.z_isinstance zn (zl (pv 0) (zl (yq (v := .ref ad.x_NoNumber) rfl T.g_NoNumber rfl) ya))) (zl (zR yc rfl T.z_isinstance zn (zl (pv 0) (zl (yq (v := .ref ad.x_NoTally) rfl T.g_NoTally rfl) ya))) (zl (zR yc rfl T.z_isinstance zn (zl (pv 0) (zl (yq (v := .ref ad.x_NotTree) rfl T.g_NotTree rfl) ya))) (zl (zR yc rfl T.z_isinstance zn (zl (pv 0) (zl (yq (v := .ref ad.x_NotJoined) rfl T.g_NotJoined rfl) ya))) ya)))))))
      (xL (Yt (i := 1) yE.nd rfl (Or.inl rfl) (Vv Zl (pv 1) (ZB (zl (zR yc rfl T.z_isinstance zn (zl (pv 0) (zl (yq (v := .ref ad.x_NoWeights) rfl T.g_NoWeights rfl) ya))) (zl (zR yc rfl T.z_isinstance zn (zl (pv 0) (zl (yq (v := .ref ad.x_NoRow) rfl T.g_NoRow rfl) ya))) (zl (zR yc rfl T.z_isinstance zn (zl (pv 0) (zl (yq (v := .ref ad.x_NoSteps) rfl T.g_NoSteps rfl) ya))) (zl (zR yc rfl T.z_isinstance zn (zl (pv 0) (zl (yq (v := .ref ad.x_NoText) rfl T.g_NoText rfl) ya))) ya)))))))
      (xL (Yt (i := 1) yE.nd rfl (Or.inl rfl) (Vv Zl (pv 1) (ZB (zl (zR yc rfl T.z_isinstance zn (zl (pv 0) (zl (yq (v := .ref ad.x_TooGreat) rfl T.g_TooGreat rfl) ya))) ya))))
      (xL (zbq (PW.pt (zb3 (zaV (zaT (zR yc rfl T.z_isinstance zn (zl (pv 0) (zl (yf (v := .ty "ValueError") rfl T.z_ValueError YB rfl) ya))))) (zaK (WF Z0 (X8 PySem.F.plainAttrs_list PySem.F.slot_list_count PySem.F.type_list_count Vy (pv 1) (zl x5 ya)) ze (zv _))))) (v4 (Xn (zcA zaN ze))) WV) (v4 (Xn (X8 PySem.F.plainAttrs_list PySem.F.slot_list_index PySem.F.type_list_index Vd (pv 1) (zl x5 ya))))))))), ?_⟩
  refine Vg (cs := [ad.x_NoWeb, ad.x_NoKind, ad.x_NoHeap, ad.x_NoPlace]) (bs := [0 == j, 1 == j, 2 == j, 3 == j]) kj.look (congrArg (fun l => (l.drop 0).take 4) kj.hot) (VV (n := 4) (by decide)) rfl rfl hH fun σ1 H1 S1 => ?_
  refine YT (cs := [ad.x_NoNumber, ad.x_NoTally, ad.x_NotTree, ad.x_NotJoined]) (bs := [4 == j, 5 == j, 6 == j, 7 == j]) kj.look (congrArg (fun l => (l.drop 4).take 4) kj.hot) (by exact VV (n := 8) (by decide)) S1 fun σ2 H2 S2 => ?_
  refine YT (cs := [ad.x_NoWeights, ad.x_NoRow, ad.x_NoSteps, ad.x_NoText]) (bs := [8 == j, 9 == j, 10 == j, 11 == j]) kj.look (congrArg (fun l => (l.drop 8).take 4) kj.hot) (by exact VV (n := 12) (by decide)) S2 fun σ3 H3 S3 => ?_
  refine YT (cs := [ad.x_TooGreat]) (bs := [12 == j]) kj.look (congrArg (fun l => (l.drop 12).take 1) kj.hot) (by exact VV (n := 13) (by decide)) S3 fun σ4 H4 S4 => ?_
  exact zbD kj.val kj.look hj S4 (q _ S4.same)
noncomputable def wG : SE → Ctl :=
  (yb (sIf (tOf (zp xF (zk 0) (eC (.str "row")))) (yD (zp xF (zk 3) (zp x8 (zk 2) (eC (.int 1))))) zU)
    (yb (sIf (tOf (zp xF (zk 0) (eC (.str "ring")))) (yD (eOr (zp xF (zk 3) (zp x8 (zk 2) (eC (.int 1)))) (zp xF (zp ZJ (zk 3) (zk 2)) (zp ZJ (zk 1) (eC (.int 1)))))) zU)
    (yb (sIf (tOf (zp xF (zk 0) (eC (.str "star")))) (yD (zp xF (zk 2) (eC (.int 0)))) zU)
    (yb (sIf (tOf (zp xF (zk 0) (eC (.str "cube")))) (yD (zp xF (eFn vT (zc (wc (fLC (vP Yk (zc (eC (.int 3)) zy)) b1 (tOf (zp neD (zp wF (zp xH (zk 3) (zp ixD (wc (yY (zc (eC (.int 1)) (zc (eC (.int 2)) (zc (eC (.int 4)) zy))))) (zk 0))) (eC (.int 2))) (zp wF (zp xH (zk 4) (zp ixD (wc (yY (zc (eC (.int 1)) (zc (eC (.int 2)) (zc (eC (.int 4)) zy))))) (zk 0))) (eC (.int 2))))) (zk 0))) zy)) (eC (.int 1)))) zU)
    (yD (eC (.bl true)))))))
noncomputable def vR : List D → Option D := fnD 4 wG
theorem Zs (T : Txt K mg ad) : xn P w K mg base CX0 1 ad.f__law_tied ad.e__law_tied ["word", "n", "a", "b"] (@spD ⟨K⟩ 4 vR) := by
  letI : KK := ⟨K⟩
  refine xZ (N := ["word", "n", "a", "b"]) (ps := ["word", "n", "a", "b"]) T.d__law_tied.fn ZE (g := wG) fun cdv A outer s H E hr => ?_
  unfold wG
  exact (zg (ym (zT (zH hr) zw (zv _) (zb 0 (pv 0)) (zt zq)) (zj (zx (yJ (zH hr) zw (zv _) (zb 3 (pv 3)) (zZ (zb 2 (pv 2)) (zh ze))))) zB)
      (zg (ym (zT (zH hr) zw (zv _) (zb 0 (pv 0)) (zt zq)) (zj (zx (zb5 (yJ (zH hr) zw (zv _) (zb 3 (pv 3)) (zZ (zb 2 (pv 2)) (zh ze))) (wQ (yJ (zH hr) zw (zv _) (XF (zb 3 (pv 3)) (zb 2 (pv 2))) (XF (zb 1 (pv 1)) (zh ze))))))) zB)
      (zg (ym (zT (zH hr) zw (zv _) (zb 0 (pv 0)) (zt zq)) (zj (zx (yJ (zH hr) zw (zv _) (zb 2 (pv 2)) (zh ze)))) zB)
      (zg (ym (zT (zH hr) zw (zv _) (zb 0 (pv 0)) (zt zq)) (zj (zx (yJ (zH hr) zw (zv _) (yV zN xG rfl T.z_len wO (za (xt (zaI (L := ["k"]) (M := ["word", "n", "a", "b"]) rfl (wJ (by rfl) (by rfl) (by rfl) (by with_unfolding_all rfl) (by rfl) (by rfl) (by kernel_rfl) (all_cons rfl (all_cons rfl xK))) (Zk rfl T.z_range (za (zh ze) zd)) gs1 rb1 (fun _ _ _ _ => (zS (i := 0) zdy rfl (Or.inl rfl) (.inr rfl))) (fun _ _ _ _ => (zT Z0 Yv (zv _) (wa (vh (zb 3 (pv 3)) (wL (xt (xx (za (zh ze) (za (zh ze) (za (zh ze) zd))))) (zb 0 (pv 0)) (fun _ _ => rfl))) (zh ze)) (wa (vh (zb 4 (pv 4)) (wL (xt (xx (za (zh ze) (za (zh ze) (za (zh ze) zd))))) (zb 0 (pv 0)) (fun _ _ => rfl))) (zh ze)))) (fun _ _ _ _ => (zb 0 (pv 0))))) zd)) (zh ze)))) zB)
      (zj (zx (wx x5)))))))
noncomputable def y3 : SE → Ctl :=
  (yb (sIf (tOf (zp xF (zk 1) (eC (.str "tree")))) (x6 false 7 (zp xF (zp ixD (zk 2) (zk 6)) (zk 5))) (x6 false 7 (zQ 4 vR (zc (zk 1) (zc (zk 2) (zc (zk 5) (zc (zk 6) zy)))))))
    (sIf (tOf (zk 7)) (Zz false 4 (yZ (zc (zk 5) (zc (zk 6) zy)))) zU))
noncomputable def yU : SE → Ctl :=
  (yb (X3 false (zk 0) (Z3 2 (wf (xm 1) (wf (xm 2) Xy))))
    (yb (sIf (tOf (zp xF (zk 1) (eC (.str "tree")))) (x6 false 3 (eFn vT (zc (zk 2) zy))) (sIf (tOf (zp xF (zk 1) (eC (.str "cube")))) (x6 false 3 (zp ixD (wc (yY (zc (eC (.int 1)) (zc (eC (.int 2)) (zc (eC (.int 4)) (zc (eC (.int 8)) zy)))))) (zk 2))) (x6 false 3 (zp x8 (zk 2) (eFn zdG (zc (zp xF (zk 1) (eC (.str "star"))) zy))))))
    (yb (Y1 4 (yY zy))
    (yb (Y3 (iOf (zQ 1 wj (zc (zk 3) zy))) (Z3 2 (wf (xm 5) (wf (xm 6) Xy))) y3)
    (sFz 4 (yD (yZ (zc (zk 3) (zc (eFn xc (zc (zk 4) zy)) zy)))))))))
noncomputable def yS : List D → Option D := fnD 8 yU
theorem v9 (T : Txt K mg ad) : xn P w K mg base CX0 2 ad.f__law_web_for ad.e__law_web_for ["kind"] (@spD ⟨K⟩ 1 yS) := by
  letI : KK := ⟨K⟩
  have G__law_pairs := YD (P := P) (w := w) (base := base) T
  have G__law_tied := Zs (P := P) (w := w) (base := base) T
  refine xZ (N := ["kind", "word", "n", "many", "ties", "a", "b", "good"]) (ps := ["kind"]) T.d__law_web_for.fn zr (g := yU) fun cdv A outer s H E hr => ?_
  unfold yU y3
  exact (zg (zcM (m := false) (zb 0 (pv 0)) (W7 rfl (wn (xl (zS (i := 1) zr.nd rfl (Or.inl rfl))) (wn (xl (zS (i := 2) zr.nd rfl (Or.inl rfl))) ZQ))))
      (zg (ym (zT (zH hr) zw (zv _) (zb 1 (pv 1)) (zt zq)) (zj (ye (m := false) (i := 3) zr.nd rfl (Or.inl rfl) (yV zN xG rfl T.z_len wO (za (zb 2 (pv 2)) zd)))) (zj (ym (zT (zH hr) zw (zv _) (zb 1 (pv 1)) (zt zq)) (zj (ye (m := false) (i := 3) zr.nd rfl (Or.inl rfl) (wL (xt (xx (za (zh ze) (za (zh ze) (za (zh ze) (za (zh ze) zd)))))) (zb 2 (pv 2)) (fun _ _ => rfl)))) (zj (ye (m := false) (i := 3) zr.nd rfl (Or.inl rfl) (zZ (zb 2 (pv 2)) (wS Vc zas rfl T.z_int XH (za (yJ (zH hr) zw (zv _) (zb 1 (pv 1)) (zt zq)) zd))))))))
      (zg (XC (i := 4) zr.nd rfl (Or.inl rfl) (xx zd))
      (zg (Xh PassesOwn.never rfl (Wk (zD (G__law_pairs.mono (by decide)) hr rfl T.d__law_pairs.at_ T.d__law_pairs.kp T.d__law_pairs.bd (za (zb 3 (pv 3)) zd))) (W7 rfl (wn (xl (zS (i := 5) zr.nd rfl (Or.inl rfl))) (wn (xl (zS (i := 6) zr.nd rfl (Or.inl rfl))) ZQ))) (zg (ym (zT (zH hr) zw (zv _) (zb 1 (pv 1)) (zt zq)) (zj (ye (m := false) (i := 7) zr.nd rfl (Or.inl rfl) (yJ (zH hr) zw (zv _) (wL (zb 2 (pv 2)) (zb 6 (pv 6)) (fun _ _ => rfl)) (zb 5 (pv 5))))) (zj (ye (m := false) (i := 7) zr.nd rfl (Or.inl rfl) (zD (G__law_tied.mono (by decide)) hr rfl T.d__law_tied.at_ T.d__law_tied.kp T.d__law_tied.bd (za (zb 1 (pv 1)) (za (zb 2 (pv 2)) (za (zb 5 (pv 5)) (za (zb 6 (pv 6)) zd))))))))
      (zj (ym (xu (zb 7 (pv 7))) (zj (W1 (m := false) (pv 4) (zA (za (zb 5 (pv 5)) (za (zb 6 (pv 6)) zd))) (fun a b => X8 PySem.F.plainAttrs_list PySem.F.slot_list_append PySem.F.type_list_append vN a b))) zB))))
      (Xo 4 (zj (zx (zA (za (zb 3 (pv 3)) (za (wS xR v0 rfl T.z_tuple xQ (za (zb 4 (pv 4)) zd)) zd))))))))))
noncomputable def xU : SE → Ctl :=
  (yb (Zz false 2 (zp wF (zQ 2 xV (zc (zk 0) (zc (zk 4) zy))) (zk 4)))
    (sIf (tOf (zp xF (zp wF (zk 0) (eC (.int 2))) (eC (.int 0)))) (yb (Z9 false 2 (zk 4) (zp wF (zk 3) (zk 4)))
    (x6 false 3 (zp xH (zk 3) (zk 4)))) zU))
noncomputable def xj : SE → Ctl :=
  (yb (x6 false 1 (zp x8 (eC (.int 1)) (zp wF (zp xH (zk 0) (eC (.int 64))) (eC (.int 8)))))
    (yb (Y1 2 (yY (zc (eC .non) zy)))
    (yb (x6 false 3 (zp xH (zk 0) (eC (.int 512))))
    (yb (xT vA (zc (eC (.int 1)) (zc (zk 1) zy)) (xm 4) xU)
    (sFz 2 (yD (eFn xc (zc (zk 2) zy))))))))
noncomputable def xM : List D → Option D := fnD 5 xj
theorem Zb (T : Txt K mg ad) : xn P w K mg base CX0 2 ad.f__law_over ad.e__law_over ["cell"] (@spD ⟨K⟩ 1 xM) := by
  letI : KK := ⟨K⟩
  have G__law_stir := vw (P := P) (w := w) (base := base) T
  refine xZ (N := ["cell", "many", "over", "digits", "k"]) (ps := ["cell"]) T.d__law_over.fn yA (g := xj) fun cdv A outer s H E hr => ?_
  unfold xj xU
  exact (zg (ye (m := false) (i := 1) yA.nd rfl (Or.inl rfl) (zZ (zh ze) (wa (vh (zb 0 (pv 0)) (zh ze)) (zh ze))))
      (zg (XC (i := 2) yA.nd rfl (Or.inl rfl) (xx (za (vn vp) zd)))
      (zg (ye (m := false) (i := 3) yA.nd rfl (Or.inl rfl) (vh (zb 0 (pv 0)) (zh ze)))
      (zg (VO PassesOwn.never rfl rfl T.z_range (za (zh ze) (za (zb 1 (pv 1)) zd)) (xl (zS (i := 4) yA.nd rfl (Or.inl rfl))) (zg (W1 (m := false) (pv 2) (wa (zD (G__law_stir.mono (by decide)) hr rfl T.d__law_stir.at_ T.d__law_stir.kp T.d__law_stir.bd (za (zb 0 (pv 0)) (za (zb 4 (pv 4)) zd))) (zb 4 (pv 4))) (fun a b => X8 PySem.F.plainAttrs_list PySem.F.slot_list_append PySem.F.type_list_append vN a b))
      (zj (ym (zT (zH hr) zw (zv _) (wa (zb 0 (pv 0)) (zh ze)) (zh ze)) (zg (zc0 (m := false) (wa (zb 3 (pv 3)) (zb 4 (pv 4))) (pv 2) (zb 4 (pv 4)))
      (zj (ye (m := false) (i := 3) yA.nd rfl (Or.inl rfl) (vh (zb 3 (pv 3)) (zb 4 (pv 4)))))) zB))))
      (Xo 2 (zj (zx (wS xR v0 rfl T.z_tuple xQ (za (zb 2 (pv 2)) zd)))))))))
noncomputable def xf : SE → Ctl :=
  (yb (zc7 (xEx (zbm 1 wq (zc (zk 0) zy))) (Wa (zQ 1 wd (zc (zk 0) zy))) (hIn [1]))
    (yD (eUn XJ (eC (.int 2)))))
noncomputable def xN : List D → Option D := fnD 2 xf
theorem ZA (T : Txt K mg ad) : xn P w K mg base CX0 7 ad.f__law_came ad.e__law_came ["thing"] (@spD ⟨K⟩ 1 xN) := by
  letI : KK := ⟨K⟩
  have G_web_for := Yu (P := P) (w := w) (base := base) T
  have X_web_for := vY (P := P) (w := w) (base := base) T
  have H_kinds := Yi (P := P) (w := w) (base := base) T
  have okj : ∀ j, j ∈ [1] → j < 13 ∧ Xl K (zc3 ad) ad.x_StoneError (clT ad j) j := by
    intro j hj
    simp only [List.mem_cons, List.not_mem_nil, or_false] at hj
    rcases hj with rfl
    · exact ⟨by decide, .of T.y_NoKind⟩
  have exj : ∀ j d, (hIn [1]) j = some d → PySem.W.exmOne K (.ref (clT ad j)) (.ref ad.x_StoneError) = some true := fun j d e => (okj j (by unfold hIn at e; split at e <;> first | assumption | cases e)).2.exm
  refine xZ (N := ["thing", "e"]) (ps := ["thing"]) T.d__law_came.fn vt (g := xf) fun cdv A outer s H E hr => ?_
  unfold xf
  exact (zg (zcs (i := 1) rfl rfl rfl vt.nd rfl rfl rfl T.g_StoneError (fun ps W E0 hx => (Vk (zbr (zbt (X_web_for.mono (by decide)) hx hr rfl T.d_web_for.at_ T.d_web_for.kp T.d_web_for.bd (za (zb 0 (pv 0)) zd))))) (fun ps W => (zj (za3 (zD (G_web_for.mono (by decide)) hr rfl T.d_web_for.at_ T.d_web_for.kp T.d_web_for.bd (za (zb 0 (pv 0)) zd))))) exj (fun ok ea => v4 (Xn (zaw (E := fun _ _ _ => False) H_kinds (hr.mono (by decide)) rfl T.d__law_kinds.at_ T.d__law_kinds.kp T.d__law_kinds.bd ok (zl (pv 1) ya)))) (VL (ok := _) okj))
      (zj (zx (VD (zh ze)))))
noncomputable def wt : SE → Ctl :=
  (yb (x6 false 2 (wc (yY (zc (yZ (zc (eC (.str "row")) (zc (eC (.int 0)) zy))) (zc (yZ (zc (eC (.str "row")) (zc (eC (.int 9)) zy))) (zc (yZ (zc (eC (.str "ring")) (zc (eC (.int 2)) zy))) (zc (yZ (zc (eC (.str "cube")) (zc (eC (.int 4)) zy))) (zc (yZ (zc (eC (.str "cube")) (zc (eUn XJ (eC (.int 1))) zy))) (zc (yZ (zc (eC (.str "full")) (zc (eC (.int 9)) zy))) (zc (yZ (zc (eC (.str "star")) (zc (eC (.int 8)) zy))) (zc (yZ (zc (eC (.str "star")) (zc (eC (.int 0)) zy))) zy)))))))))))
    (yb (x6 false 2 (zp x8 (zk 2) (wc (yY (zc (yZ (zc (eC (.str "row")) (zc (eC (.bl true)) zy))) (zc (wc (yY (zc (eC (.str "row")) (zc (eC (.int 3)) zy)))) (zc (yZ (zc (eC (.str "row")) zy)) (zc (yZ (zc (eC (.str "row")) (zc (eC (.int 3)) (zc (eC (.int 3)) zy)))) (zc (yZ (zc (eC (.str "rows")) (zc (eC (.int 3)) zy))) (zc (eC .non) (zc (eC (.str "row")) (zc (yZ (zc (eC (.str "tree")) (zc (yZ zy) zy))) zy))))))))))))
    (yb (x6 false 2 (zp x8 (zk 2) (wc (yY (zc (yZ (zc (eC (.str "tree")) (zc (wc (fFn vc (zc (zk 0) zy))) zy))) (zc (yZ (zc (eC (.str "tree")) (zc (zp x8 (yZ (zc (eC (.int 0)) zy)) (eSl slD (zk 0) (wE (eC (.int 1))) wI)) zy))) (zc (yZ (zc (eC (.str "tree")) (zc (zp x8 (zk 0) (yZ (zc (eFn vT (zc (zk 0) zy)) zy))) zy))) (zc (yZ (zc (eC (.str "ring")) (zc (eC (.str "3")) zy))) zy))))))))
    (yb (x6 false 2 (zp x8 (zk 2) (wc (yY (zc (yZ (zc (eC (.str "tree")) (zc (zp x8 (zk 0) (yZ (zc (eUn XJ (eC (.int 1))) zy))) zy))) (zc (yZ (zc (eC (.str "tree")) (zc (zp x8 (zk 0) (yZ (zc (eC .non) zy))) zy))) (zc (yZ (zc (eC (.str "tree")) (zc (zp zaq (yZ (zc (eC .non) zy)) (eC (.int 9))) zy))) (zc (yZ (zc (eC (.str "full")) (zc (eC .non) zy))) zy))))))))
    (yD (zp ixD (zk 2) (zp wF (zk 1) (eC (.int 24)))))))))
noncomputable def vf : List D → Option D := fnD 3 wt
theorem Z4 (T : Txt K mg ad) : xn P w K mg base CX0 1 ad.f__law_bad ad.e__law_bad ["over", "number"] (@spD ⟨K⟩ 2 vf) := by
  letI : KK := ⟨K⟩
  refine xZ (N := ["over", "number", "some"]) (ps := ["over", "number"]) T.d__law_bad.fn xg (g := wt) fun cdv A outer s H E hr => ?_
  unfold wt
  exact (zg (ye (m := false) (i := 2) xg.nd rfl (Or.inl rfl) (xt (xx (za (zA (za (zt zq) (za (zh ze) zd))) (za (zA (za (zt zq) (za (zh ze) zd))) (za (zA (za (zt zq) (za (zh ze) zd))) (za (zA (za (zt zq) (za (zh ze) zd))) (za (zA (za (zt zq) (za (VD (zh ze)) zd))) (za (zA (za (zt zq) (za (zh ze) zd))) (za (zA (za (zt zq) (za (zh ze) zd))) (za (zA (za (zt zq) (za (zh ze) zd))) zd)))))))))))
      (zg (ye (m := false) (i := 2) xg.nd rfl (Or.inl rfl) (zZ (zb 2 (pv 2)) (xt (xx (za (zA (za (zt zq) (za (wx x5) zd))) (za (xt (xx (za (zt zq) (za (zh ze) zd)))) (za (zA (za (zt zq) zd)) (za (zA (za (zt zq) (za (zh ze) (za (zh ze) zd)))) (za (zA (za (zt zq) (za (zh ze) zd))) (za (vn vp) (za (zt zq) (za (zA (za (zt zq) (za (zA zd) zd))) zd))))))))))))
      (zg (ye (m := false) (i := 2) xg.nd rfl (Or.inl rfl) (zZ (zb 2 (pv 2)) (xt (xx (za (zA (za (zt zq) (za (xt (zbl rfl T.z_list (za (zb 0 (pv 0)) zd))) zd))) (za (zA (za (zt zq) (za (zZ (zA (za (zh ze) zd)) (Xu (zb 0 (pv 0)) (Vn (zh ze)) WG)) zd))) (za (zA (za (zt zq) (za (zZ (zb 0 (pv 0)) (zA (za (yV zN xG rfl T.z_len wO (za (zb 0 (pv 0)) zd)) zd))) zd))) (za (zA (za (zt zq) (za (zt zq) zd))) zd))))))))
      (zg (ye (m := false) (i := 2) xg.nd rfl (Or.inl rfl) (zZ (zb 2 (pv 2)) (xt (xx (za (zA (za (zt zq) (za (zZ (zb 0 (pv 0)) (zA (za (VD (zh ze)) zd))) zd))) (za (zA (za (zt zq) (za (zZ (zb 0 (pv 0)) (zA (za (vn vp) zd))) zd))) (za (zA (za (zt zq) (za (za8 (zA (za (vn vp) zd)) (zh ze)) zd))) (za (zA (za (zt zq) (za (vn vp) zd))) zd))))))))
      (zj (zx (wL (zb 2 (pv 2)) (wa (zb 1 (pv 1)) (zh ze)) (fun _ _ => rfl))))))))
noncomputable def YV : SE → Ctl :=
  (sIf (YC (tOf (zp yo (zQ 1 zL (zc (zk 4) zy)) (eC (.bl true)))) (y4 (tOf (zQ 2 xk (zc (zQ 1 wd (zc (zk 4) zy)) (zc (zQ 1 yS (zc (zk 4) zy)) zy)))))) (yD (eC (.bl false))) zU)
noncomputable def YR : SE → Ctl :=
  (yb (Zz false 1 (yZ (zc (eC (.str "tree")) (zc (zQ 1 xM (zc (zk 2) zy)) zy))))
    (yb (x6 false 3 (zQ 2 vf (zc (zQ 1 xM (zc (zk 2) zy)) (zc (zQ 2 xV (zc (zk 2) (zc (eC (.int 40)) zy))) zy))))
    (sIf (YC (tOf (zp yo (zQ 1 zL (zc (zk 3) zy)) (eC (.bl false)))) (tOf (zp neD (zQ 1 xN (zc (zk 3) zy)) (eC (.int 1))))) (yD (eC (.bl false))) zU)))
noncomputable def VM : SE → Ctl :=
  (yb (x6 false 1 (zp x8 (zp x8 (wc (fLC (vP vA (zc (eC (.int 1)) (zc (eC (.int 9)) zy))) b1 xS (yZ (zc (eC (.str "row")) (zc (zk 0) zy))))) (wc (fLC (vP vA (zc (eC (.int 3)) (zc (eC (.int 9)) zy))) b1 xS (yZ (zc (eC (.str "ring")) (zc (zk 0) zy)))))) (wc (fLC (vP Yk (zc (eC (.int 4)) zy)) b1 xS (yZ (zc (eC (.str "cube")) (zc (zk 0) zy)))))))
    (yb (Y1 1 (fBin zaU (zp x8 (zk 1) (wc (fLC (vP vA (zc (eC (.int 1)) (zc (eC (.int 9)) zy))) b1 xS (yZ (zc (eC (.str "full")) (zc (zk 0) zy)))))) (wc (fLC (vP vA (zc (eC (.int 1)) (zc (eC (.int 8)) zy))) b1 xS (yZ (zc (eC (.str "star")) (zc (zk 0) zy)))))))
    (yb (Y3 (iOf (zp x8 (eSl slD (zk 0) wI (wE (eC (.int 12)))) (wc (yY (zc (eC (.int 0)) (zc (eC (.int 7)) (zc (eC (.int 448)) zy))))))) (xm 2) YR)
    (sFz 1 (yb (Y3 (iOf (zk 1)) (xm 4) YV)
    (yD (eC (.bl true))))))))
noncomputable def zcv : List D → Option D := fnD 5 VM
theorem WA {α : Type} (f : α → Bool) (l : List α) : zde [.lst (l.map fun x => .bl (f x))] = some (.bl (l.all f)) := by
  have : za1 (l.map fun x => D.bl (f x)) = some (l.map f) := by
    have := zav (l.map f)
    rwa [List.map_map] at this
  show ((za1 (l.map fun x => D.bl (f x))).bind fun bs => some (D.bl (bs.all id))) = _
  rw [this]
  show some (D.bl ((l.map f).all id)) = _
  rw [List.all_map]
  rfl
theorem vB {t : Ev → Option Bool} {g : SE → Ctl} {ρ : SE} (h : t (visG ρ) = some false) : sIf t g zU ρ = .nx ρ := by unfold sIf; rw [h]; rfl
theorem sv {f : Ev → Option D} {ρ : SE} {d : D} (h : f (visF ρ) = some d) : vEv false f ρ = some d := h
set_option genInjectivity false in
set_option genSizeOf false in
set_option genCtorIdx false in
structure wA (os : List Int) : Prop where
  len : os.length ≤ 7
  low : ∀ (k : Nat) (x : Int), os[k]? = some x → 0 ≤ x ∧ x ≤ k
noncomputable def ovD (os : List Int) : D := .tup (.non :: os.map .int)
noncomputable def yB (x : D) : D := .tup [.str "tree", x]
theorem v7 {es : List D} {f : Nat → Bool} (hl : es.length ≤ 7) (hf : ∀ (j : Nat) (h : j < es.length), xy [.int (1 + (j : Int)), es[j]] = some (.bl (f j))) : xw [.tup (.non :: es)] = some (.bl ((List.range es.length).all f)) := by
  refine Xs (ρ := [.v (.tup (.non :: es))]) rfl ?_
  unfold xD
  have e1 : zM [.int (((.non :: es : List D).length : Nat) : Int)] = some (.bl true) := by
    show some (D.bl (decide ((1 : Int) ≤ (((.non :: es : List D).length : Nat) : Int)) && decide ((((.non :: es : List D).length : Nat) : Int) ≤ 8))) = _
    rw [List.length_cons, decide_eq_true (by omega), decide_eq_true (by omega)]
    rfl
  refine zz (vB (Yr (we (xW (b := true) rfl)) (we (xW (b := true) (zO (ds := [.int (((.non :: es : List D).length : Nat) : Int)]) rfl e1))))) (zz (vB (xW (b := false) (yh (x := .non) (y := .non) (yh (x := .tup (.non :: es)) (y := .int 0) rfl rfl (ZD (by decide) rfl)) rfl rfl))) (Xp (xq ?_) rfl))
  have e2 : vA [.int 1, .int (((.non :: es : List D).length : Nat) : Int)] = some (YN 1 es.length) := by
    rw [w6 (by decide) (by decide) (by omega) (by rw [List.length_cons]; omega), List.length_cons, show (((es.length + 1 : Nat) : Int) - 1).toNat = es.length by omega]
  refine W2 (ds := [.lst ((List.range es.length).map fun j => .bl (f j))]) (yN (zaP ?_) Yf) (WA f (List.range es.length))
  unfold fLC
  unfold vP
  rw [show (zc (eC (.int 1)) (zc (eFn vT (zc (zk 0) zy)) zy)) (visG [.v (.tup (.non :: es))]) = some [.int 1, .int (((.non :: es : List D).length : Nat) : Int)] from rfl, Option.bind_some, e2, Option.bind_some, if_pos (Yp (by rw [vL]; omega))]
  refine Vu (fun j : Nat => D.int (1 + (j : Int))) (fun j => .bl (f j)) (List.range es.length) fun j hj => ⟨[some (.int (1 + (j : Int)))], rfl, rfl, ?_⟩
  have hj := List.mem_range.mp hj
  refine zO (ds := [.int (1 + (j : Int)), es[j]]) (yN rfl (yN (yh (x := .tup (.non :: es)) (y := .int (1 + (j : Int))) rfl rfl (ZD (by omega) ?_)) Yf)) (hf j hj)
  rw [show (1 + (j : Int)).toNat = j + 1 by omega, List.getElem?_cons_succ]
  exact List.getElem?_eq_getElem hj
theorem xv {x : D} {b : Bool} (h : xw [x] = some (.bl b)) : zL [yB x] = some (.bl b) := by
  refine Xs (ρ := [.v (yB x), .no]) rfl ?_
  unfold xX
  refine zz (vB (Yr (we (xW (b := true) rfl)) (xW (b := false) rfl))) (zz (yK (d := .str "tree") rfl) (zz (vB (we (xW (b := true) rfl))) ?_))
  refine wN (VG (c := true) (by kernel_rfl) (fun _ => Xp (xq (zO (ds := [x]) rfl h)) rfl) (fun z => by cases z))
theorem Y9 {os : List Int} (h : wA os) : xw [ovD os] = some (.bl true) := by
  have e := v7 (es := os.map .int) (f := fun _ => true) (by rw [List.length_map]; exact h.len) (fun j hj => by
    rw [List.length_map] at hj
    obtain ⟨h0, h1⟩ := h.low j _ (List.getElem?_eq_getElem hj)
    rw [List.getElem_map]
    show some (D.bl (decide ((0 : Int) ≤ os[j]) && decide (os[j] ≤ 1 + (j : Int) - 1))) = _
    rw [decide_eq_true h0, decide_eq_true (by omega)]
    rfl)
  rw [List.all_eq_true.mpr fun _ _ => rfl] at e
  exact e
theorem Yz {os : List Int} {x : D} (hl : os.length ≤ 7) (hx : xy [.int (1 + (os.length : Int)), x] = some (.bl false)) (ho : ∀ (k : Nat) (y : Int), os[k]? = some y → 0 ≤ y ∧ y ≤ k) : xw [.tup (.non :: (os.map .int ++ [x]))] = some (.bl false) := by
  have hlen : (os.map D.int ++ [x]).length = os.length + 1 := by rw [List.length_append, List.length_map]; rfl
  by_cases h7 : os.length ≤ 6
  · have e := v7 (es := os.map .int ++ [x]) (f := fun j => decide (j < os.length)) (by omega) (fun j hj => by
      rw [hlen] at hj
      by_cases hjl : j < os.length
      · obtain ⟨h0, h1⟩ := ho j _ (List.getElem?_eq_getElem hjl)
        rw [List.getElem_append_left (by rw [List.length_map]; exact hjl), List.getElem_map]
        show some (D.bl (decide ((0 : Int) ≤ os[j]) && decide (os[j] ≤ 1 + (j : Int) - 1))) = _
        rw [decide_eq_true h0, decide_eq_true (by omega), decide_eq_true hjl]
        rfl
      · have ej : j = os.length := by omega
        subst ej
        rw [List.getElem_append_right (by rw [List.length_map]; exact Nat.le_refl _), decide_eq_false hjl]
        simp only [List.length_map, Nat.sub_self, List.getElem_cons_zero]
        exact hx)
    rw [hlen, List.all_eq_false.mpr ⟨os.length, List.mem_range.mpr (Nat.lt_succ_self _), by rw [decide_eq_false (Nat.lt_irrefl _)]; exact Bool.false_ne_true⟩] at e
    exact e
  · have e9 : os.length = 7 := by omega
    refine Xs (ρ := [.v (.tup (.non :: (os.map .int ++ [x])))]) rfl ?_
    unfold xD
    refine zdp (d := .bl false) ?_ rfl
    unfold sIf
    rw [show (YC (y4 (tOf (eUn (yH .tuple) (zk 0)))) (y4 (tOf (zQ 1 zM (zc (eFn vT (zc (zk 0) zy)) zy))))) (visG [.v (.tup (.non :: (os.map .int ++ [x])))]) = some true from Yr (we (xW (b := true) rfl)) (we (xW (b := false) (zO (ds := [.int (((.non :: (os.map .int ++ [x]) : List D).length : Nat) : Int)]) rfl (by rw [List.length_cons, hlen, e9]; rfl))))]
    rfl
noncomputable def Zj (os : List Int) : List D := [.tup [.str "row", .int 0], .tup [.str "row", .int 9], .tup [.str "ring", .int 2], .tup [.str "cube", .int 4], .tup [.str "cube", .int (-1)], .tup [.str "full", .int 9], .tup [.str "star", .int 8], .tup [.str "star", .int 0],
  .tup [.str "row", .bl true], .lst [.str "row", .int 3], .tup [.str "row"], .tup [.str "row", .int 3, .int 3], .tup [.str "rows", .int 3], .non, .str "row", .tup [.str "tree", .tup []],
  yB (.lst (.non :: os.map .int)), yB (.tup (.int 0 :: os.map .int)), yB (.tup (.non :: (os.map .int ++ [.int (1 + (os.length : Int))]))), .tup [.str "ring", .str "3"],
  yB (.tup (.non :: (os.map .int ++ [.int (-1)]))), yB (.tup (.non :: (os.map .int ++ [.non]))), yB (.tup (List.replicate 9 .non)), .tup [.str "full", .non]]
theorem VW {os : List Int} {d : D} (h : wA os) (hd : d ∈ Zj os) : zL [d] = some (.bl false) := by
  simp only [Zj, List.mem_cons, List.not_mem_nil, or_false] at hd
  rcases hd with rfl | rfl | rfl | rfl | rfl | rfl | rfl | rfl | rfl | rfl | rfl | rfl | rfl | rfl | rfl | rfl | rfl | rfl | rfl | rfl | rfl | rfl | rfl | rfl
  case inr.inr.inr.inr.inr.inr.inr.inr.inr.inr.inr.inr.inr.inr.inr.inr.inr.inl =>
    refine xv ?_
    refine Xs (ρ := [.v (.tup (.int 0 :: os.map .int))]) rfl ?_
    unfold xD
    have e1 : zM [.int (((.int 0 :: os.map D.int).length : Nat) : Int)] = some (.bl true) := by
      have := h.len
      show some (D.bl (decide ((1 : Int) ≤ (((.int 0 :: os.map D.int).length : Nat) : Int)) && decide ((((.int 0 :: os.map D.int).length : Nat) : Int) ≤ 8))) = _
      rw [List.length_cons, List.length_map, decide_eq_true (by omega), decide_eq_true (by omega)]
      rfl
    refine zz (vB (Yr (we (xW (b := true) rfl)) (we (xW (b := true) (zO (ds := [.int (((.int 0 :: os.map D.int).length : Nat) : Int)]) rfl e1))))) ?_
    exact wN (VG (c := true) (xW (yh (x := .int 0) (y := .non) (yh (x := .tup (.int 0 :: os.map D.int)) (y := .int 0) rfl rfl (ZD (by decide) rfl)) rfl rfl)) (fun _ => Xp rfl rfl) (fun z => by cases z))
  case inr.inr.inr.inr.inr.inr.inr.inr.inr.inr.inr.inr.inr.inr.inr.inr.inr.inr.inl =>
    refine xv (Yz h.len ?_ h.low)
    show some (D.bl (decide ((0 : Int) ≤ 1 + (os.length : Int)) && decide (1 + (os.length : Int) ≤ 1 + (os.length : Int) - 1))) = _
    rw [decide_eq_false (show ¬ 1 + (os.length : Int) ≤ 1 + (os.length : Int) - 1 by omega), Bool.and_false]
  case inr.inr.inr.inr.inr.inr.inr.inr.inr.inr.inr.inr.inr.inr.inr.inr.inr.inr.inr.inr.inl => exact xv (Yz h.len rfl h.low)
  case inr.inr.inr.inr.inr.inr.inr.inr.inr.inr.inr.inr.inr.inr.inr.inr.inr.inr.inr.inr.inr.inl => exact xv (Yz h.len rfl h.low)
  all_goals kernel_rfl
theorem zad {d : D} (h : zL [d] = some (.bl false)) : xN [d] = some (.int 1) := by
  have e : wq [d] = some 1 := by
    show (match (y4 (tOf (zQ 1 zL (zc (zk 0) zy)))) [some d, none, none, none, none, none] with | some true => some 1 | some false => none | none => none) = _
    rw [show (y4 (tOf (zQ 1 zL (zc (zk 0) zy)))) [some d, none, none, none, none, none] = some true from we (xW (b := false) (zO (ds := [d]) rfl h))]
  unfold xN fnD
  show (match xf [.v d, .no] with | .rt d => some d | .nx _ => some .non | _ => none) = _
  unfold xf yb zc7
  rw [show xEx (zbm 1 wq (zc (zk 0) zy)) [.v d, .no] = some 1 from e]
  rfl
theorem X5 {os : List Int} {k : Int} (h : os.length ≤ 7) : ∃ d, d ∈ Zj os ∧ vf [ovD os, .int k] = some d := by
  have hl : (Zj os).length = 24 := rfl
  have h0 := Int.emod_nonneg k (show (24 : Int) ≠ 0 by decide)
  have h1 := Int.emod_lt_of_pos k (show (0 : Int) < 24 by decide)
  have hk : (k % 24).toNat < (Zj os).length := by rw [hl]; omega
  refine ⟨(Zj os)[(k % 24).toNat], List.getElem_mem hk, ?_⟩
  have e : ∀ (os : List Int), os.length ≤ 7 → ∃ ρ', (wt [.v (ovD os), .v (.int k), .no] = yD (zp ixD (zk 2) (zp wF (zk 1) (eC (.int 24)))) ρ') ∧ ρ' = [.v (ovD os), .v (.int k), .v (.lst (Zj os))] := by
    intro os h
    refine ⟨_, ?_, rfl⟩
    cases os with
    | nil => kernel_rfl
    | cons a os => cases os with
      | nil => kernel_rfl
      | cons b os => cases os with
        | nil => kernel_rfl
        | cons c os => cases os with
          | nil => kernel_rfl
          | cons d os => cases os with
            | nil => kernel_rfl
            | cons e os => cases os with
              | nil => kernel_rfl
              | cons f os => cases os with
                | nil => kernel_rfl
                | cons g os => cases os with
                  | nil => kernel_rfl
                  | cons i os => simp only [List.length_cons] at h; omega
  obtain ⟨_, e, rfl⟩ := e os h
  refine Xs (ρ := [.v (ovD os), .v (.int k), .no]) rfl ?_
  rw [e]
  exact Xp (xq (yh (x := .lst (Zj os)) (y := .int (k % 24)) rfl (yh (x := .int k) (y := .int 24) rfl rfl (xP (by decide))) (ZD h0 (List.getElem?_eq_getElem hk)))) rfl
noncomputable def ovr (os : List Int) (b : Int) : Int := os.getD (b.toNat - 1) 0
noncomputable def wU (os : List Int) (t : Tie) : Bool := decide (ovr os t.2 = t.1)
theorem zbK {os : List Int} {b : Int} (h1 : 1 ≤ b) (h2 : b ≤ os.length) : ixD (ovD os) (.int b) = some (.int (ovr os b)) := by
  refine ZD (by omega) ?_
  obtain ⟨j, hj⟩ : ∃ j : Nat, b.toNat = j + 1 := ⟨b.toNat - 1, by omega⟩
  have hjl : j < os.length := by omega
  rw [hj, List.getElem?_cons_succ, List.getElem?_map, List.getElem?_eq_getElem hjl]
  unfold ovr
  rw [hj, Nat.add_sub_cancel, List.getD_eq_getElem?_getD, List.getElem?_eq_getElem hjl]
  rfl
theorem Wv {os : List Int} {a b : Int} (h1 : 1 ≤ b) (h2 : b ≤ os.length) : vg [.str "tree", ovD os, .int a, .int b] = some (.bl (wU os (a, b))) := by
  refine Xs (ρ := [.v (.str "tree"), .v (ovD os), .v (.int a), .v (.int b)]) rfl ?_
  unfold wm
  refine zz (vB (by kernel_rfl)) (zz (vB (by kernel_rfl)) (zz (vB (by kernel_rfl)) (zz (vB (by kernel_rfl)) (wN (VG (c := true) (by kernel_rfl) (fun _ => Xp (xq (yh (x := .int (ovr os b)) (y := .int a) (yh (x := ovD os) (y := .int b) rfl rfl (zbK h1 h2)) rfl yj)) rfl) (fun z => by cases z))))))
noncomputable def XN (os : List Int) : List Tie := (yi (os.length + 1)).filter (wU os)
noncomputable def zar (os : List Int) : D := .tup [.int ((os.length + 1 : Nat) : Int), .tup ((XN os).map yI)]
theorem XY (os : List Int) (i c : Nat) : ((Zo i c).filter (wU os)).map yI = ((List.range c).filter fun j : Nat => wU os ((i : Int), (i : Int) + 1 + (j : Int))).map fun j : Nat => yI ((i : Int), (i : Int) + 1 + (j : Int)) := by
  unfold Zo
  rw [List.filter_map, List.map_map]
  rfl
theorem zb6 {i : Nat} {f : Ev → Option D} {ρ : SE} {ds es : List D} (h1 : f (visF ρ) = some (.lst es)) (h2 : ρ[i]? = some (.o ds)) (h3 : ds.length + es.length ≤ 1000) : ZH i f ρ = .nx (ρ.set i (.o (ds ++ es))) := by
  unfold ZH
  rw [h1, h2]
  show (match (if lim (ds.length + es.length) = true then some (ρ.set i (Sl.o (ds ++ es))) else none) with | some ρ' => Ctl.nx ρ' | none => Ctl.no) = _
  rw [if_pos (Yp h3)]
theorem VP {os : List Int} (h : wA os) : wd [yB (ovD os)] = some (zar os) := by
  have hl := h.len
  obtain ⟨N, hN⟩ : ∃ N : Nat, N = os.length + 1 := ⟨_, rfl⟩
  refine Xs (ρ := [.v (yB (ovD os)), .no, .no, .no, .no, .no]) rfl ?_
  unfold wW
  refine zz (vB (we (xW (b := true) (zO (ds := [yB (ovD os)]) rfl (xv (Y9 h)))))) (zz (yK (d := .str "tree") rfl) (zz (yK (d := ovD os) rfl) ?_))
  have ep : xI [.str "tree", ovD os] = some (.int (N : Int)) := by
    have e : xI [.str "tree", ovD os] = some (.int (((.non :: os.map D.int).length : Nat) : Int)) := by kernel_rfl
    rw [e, List.length_cons, List.length_map, hN]
  have er : ((zc (zk 3) zy) (visG [.v (yB (ovD os)), .v (.str "tree"), .v (ovD os), .v (.int (N : Int)), .o [], .no])).bind Yk = some (YN 0 N) := by
    rw [show (zc (zk 3) zy) (visG [.v (yB (ovD os)), .v (.str "tree"), .v (ovD os), .v (.int (N : Int)), .o [], .no]) = some [.int (N : Int)] from rfl, Option.bind_some, XM (by omega) (by omega), show ((N : Nat) : Int).toNat = N by omega]
  refine zz (yK (d := .int (N : Int)) (sv (zO (ds := [.str "tree", ovD os]) rfl ep))) (zz (Xd (ds := []) rfl) ?_)
  refine wN (zaH (lo := 0) (c := N) (fun i ρ => ∃ o5, ρ = [.v (yB (ovD os)), .v (.str "tree"), .v (ovD os), .v (.int (N : Int)), .o (((yp N i).filter (wU os)).map yI), o5]) er ⟨_, rfl⟩ ?_ ?_)
  · rintro i ρ hi ⟨o5, rfl⟩
    refine ⟨_, rfl, ?_⟩
    rw [Int.zero_add]
    unfold wC
    show (ZH 4 _ [.v (yB (ovD os)), .v (.str "tree"), .v (ovD os), .v (.int (N : Int)), .o (((yp N i).filter (wU os)).map yI), .v (.int (i : Int))]).w _ _ _ _
    refine WJ (zb6 (ds := ((yp N i).filter (wU os)).map yI) (es := ((Zo i (N - (i + 1))).filter (wU os)).map yI) (zaP ?_) rfl ?_) ⟨_, by rw [vz, List.filter_append, List.map_append]; rfl⟩
    · unfold fLC
      unfold vP
      rw [show (zc (zp x8 (zk 5) (eC (.int 1))) (zc (zk 3) zy)) (visF [.v (yB (ovD os)), .v (.str "tree"), .v (ovD os), .v (.int (N : Int)), .o (((yp N i).filter (wU os)).map yI), .v (.int (i : Int))]) = some [.int ((i : Int) + 1), .int (N : Int)] from rfl, Option.bind_some, w6 (by omega) (by omega) (by omega) (by omega), show ((N : Int) - ((i : Int) + 1)).toNat = N - (i + 1) by omega, Option.bind_some, if_pos (Yp (by rw [vL]; omega)), XY]
      refine Yq (fun j : Nat => D.int ((i : Int) + 1 + (j : Int))) (fun j : Nat => wU os ((i : Int), (i : Int) + 1 + (j : Int))) (fun j : Nat => yI ((i : Int), (i : Int) + 1 + (j : Int))) (List.range (N - (i + 1))) fun j hj => ⟨[some (.int ((i : Int) + 1 + (j : Int)))], rfl, ?_, fun _ => rfl⟩
      have hj := List.mem_range.mp hj
      exact xW (zO (ds := [.str "tree", ovD os, .int (i : Int), .int ((i : Int) + 1 + (j : Int))]) rfl (Wv (by omega) (by omega)))
    · have h1 := List.length_filter_le (wU os) (yp N i)
      have h2 := List.length_filter_le (wU os) (Zo i (N - (i + 1)))
      have h3 := XT N (by omega) i
      rw [vx] at h2
      rw [List.length_map, List.length_map]
      omega
  · rintro ρ ⟨o5, rfl⟩
    refine zc6 (ρ' := [.v (yB (ovD os)), .v (.str "tree"), .v (ovD os), .v (.int (N : Int)), .v (.lst (((yp N N).filter (wU os)).map yI)), o5]) rfl ?_
    have e : zar os = .tup [.int (N : Int), .tup (((yp N N).filter (wU os)).map yI)] := by unfold zar XN; rw [← hN, Vi]
    rw [e]
    exact Xp (xq (Ws (ds := [.int (N : Int), .tup (((yp N N).filter (wU os)).map yI)]) (yN rfl (yN (W2 (ds := [.lst (((yp N N).filter (wU os)).map yI)]) rfl rfl) Yf)) (Nat.le_of_ble_eq_true rfl))) rfl
theorem ZC {N : Nat} (h1 : 1 ≤ N) (h8 : N ≤ 8) : wj [.int (N : Int)] = some (.lst ((yi N).map yI)) := by
  have c : N = 1 ∨ N = 2 ∨ N = 3 ∨ N = 4 ∨ N = 5 ∨ N = 6 ∨ N = 7 ∨ N = 8 := by omega
  rcases c with rfl | rfl | rfl | rfl | rfl | rfl | rfl | rfl <;> kernel_rfl
theorem Zv {os : List Int} (h : wA os) : yS [yB (ovD os)] = some (zar os) := by
  have hl := h.len
  obtain ⟨N, hN⟩ : ∃ N : Nat, N = os.length + 1 := ⟨_, rfl⟩
  obtain ⟨_, hp, h28⟩ := WT N (by omega)
  refine Xs (ρ := [.v (yB (ovD os)), .no, .no, .no, .no, .no, .no, .no]) rfl ?_
  unfold yU
  refine zz (ρ' := [.v (yB (ovD os)), .v (.str "tree"), .v (ovD os), .no, .no, .no, .no, .no]) rfl ?_
  refine zz (ρ' := [.v (yB (ovD os)), .v (.str "tree"), .v (ovD os), .v (.int (N : Int)), .no, .no, .no, .no]) ?_ ?_
  · unfold sIf
    rw [show (tOf (zp xF (zk 1) (eC (.str "tree")))) (visG [.v (yB (ovD os)), .v (.str "tree"), .v (ovD os), .no, .no, .no, .no, .no]) = some true by kernel_rfl]
    refine yK (d := .int (N : Int)) (sv (W2 (ds := [ovD os]) rfl ?_))
    show some (D.int (((.non :: os.map D.int).length : Nat) : Int)) = _
    rw [List.length_cons, List.length_map, hN]
  refine zz (Xd (ds := []) rfl) ?_
  refine wN (W5 (ds := (yi N).map yI) (fun i ρ => ∃ o5 o6 o7, ρ = [.v (yB (ovD os)), .v (.str "tree"), .v (ovD os), .v (.int (N : Int)), .o ((((yi N).take i).filter (wU os)).map yI), o5, o6, o7]) (zca (zO (ds := [.int (N : Int)]) rfl (ZC (by omega) (by omega))) rfl) ⟨_, _, _, rfl⟩ ?_ ?_)
  · rintro i d ρ hd ⟨o5, o6, o7, rfl⟩
    rw [List.getElem?_map] at hd
    obtain ⟨t, ht, rfl⟩ := Option.map_eq_some_iff.mp hd
    obtain ⟨t0, t1, t2⟩ := hp t (List.mem_of_getElem? ht)
    refine ⟨[.v (yB (ovD os)), .v (.str "tree"), .v (ovD os), .v (.int (N : Int)), .o ((((yi N).take i).filter (wU os)).map yI), .v (.int t.1), .v (.int t.2), o7], rfl, ?_⟩
    unfold y3
    refine zz (ρ' := [.v (yB (ovD os)), .v (.str "tree"), .v (ovD os), .v (.int (N : Int)), .o ((((yi N).take i).filter (wU os)).map yI), .v (.int t.1), .v (.int t.2), .v (.bl (wU os t))]) ?_ ?_
    · unfold sIf
      rw [show (tOf (zp xF (zk 1) (eC (.str "tree")))) (visG [.v (yB (ovD os)), .v (.str "tree"), .v (ovD os), .v (.int (N : Int)), .o ((((yi N).take i).filter (wU os)).map yI), .v (.int t.1), .v (.int t.2), o7]) = some true by kernel_rfl]
      exact yK (d := .bl (wU os t)) (sv (yh (x := .int (ovr os t.2)) (y := .int t.1) (yh (x := ovD os) (y := .int t.2) rfl rfl (zbK (by omega) (by omega))) rfl yj))
    have etake : (yi N).take (i + 1) = (yi N).take i ++ [t] := by rw [List.take_add_one, ht]; rfl
    have hle : ((((yi N).take i).filter (wU os)).map yI).length ≤ 1000 := by
      have h1 := List.length_filter_le (wU os) ((yi N).take i)
      have h2 := List.length_take_le' i (yi N)
      rw [List.length_map]
      omega
    cases hu : wU os t with
    | true =>
      refine VG (c := true) rfl (fun _ => WJ (Wx (m := false) (d := yI t) rfl rfl hle) ⟨_, _, _, by rw [etake, List.filter_append, List.map_append, List.filter_cons, if_pos hu]; rfl⟩) (fun z => by cases z)
    | false =>
      refine VG (c := false) rfl (fun z => by cases z) fun _ => WJ rfl ⟨_, _, _, by rw [etake, List.filter_append, List.map_append, List.filter_cons, if_neg (by rw [hu]; exact Bool.false_ne_true), List.filter_nil, List.map_nil, List.append_nil]⟩
  · rintro ρ ⟨o5, o6, o7, rfl⟩
    rw [List.length_map, List.take_length]
    refine zc6 (ρ' := [.v (yB (ovD os)), .v (.str "tree"), .v (ovD os), .v (.int (N : Int)), .v (.lst (((yi N).filter (wU os)).map yI)), o5, o6, o7]) rfl ?_
    have e : zar os = .tup [.int (N : Int), .tup (((yi N).filter (wU os)).map yI)] := by unfold zar XN; rw [← hN]
    rw [e]
    exact Xp (xq (Ws (ds := [.int (N : Int), .tup (((yi N).filter (wU os)).map yI)]) (yN rfl (yN (W2 (ds := [.lst (((yi N).filter (wU os)).map yI)]) rfl rfl) Yf)) (Nat.le_of_ble_eq_true rfl))) rfl
theorem ZY (c : Int) : ∃ os : List Int, wA os ∧ xM [.int c] = some (ovD os) := by
  have m0 := Int.emod_nonneg (c / 64) (show (8 : Int) ≠ 0 by decide)
  have m1 := Int.emod_lt_of_pos (c / 64) (show (0 : Int) < 8 by decide)
  obtain ⟨M, hM⟩ : ∃ M : Nat, c / 64 % 8 = (M : Int) := ⟨(c / 64 % 8).toNat, by omega⟩
  obtain ⟨d, e, os, rfl, ho⟩ := zdo (m := 5) (g := xj) (ds := [.int c]) (R := fun d => ∃ os, d = ovD os ∧ wA os) (ρ := [.v (.int c), .no, .no, .no, .no]) rfl (by
    unfold xj
    refine zz (yK (d := .int (1 + (M : Int))) (sv (yh (x := .int 1) (y := .int (M : Int)) rfl (yh (x := .int (c / 64)) (y := .int 8) (yh (x := .int c) (y := .int 64) rfl rfl (vE (by decide) (by decide))) rfl (by rw [← hM]; exact xP (by decide))) rfl))) ?_
    refine zz (Xd (ds := [.non]) rfl) (zz (yK (d := .int (c / 512)) (sv (yh (x := .int c) (y := .int 512) rfl rfl (vE (by decide) (by decide))))) ?_)
    refine wN (zaH (lo := 1) (c := M) (fun i ρ => ∃ (os : List Int) (dg : Int) (o4 : Sl), os.length = i ∧ wA os ∧ ρ = [.v (.int c), .v (.int (1 + (M : Int))), .o (.non :: os.map .int), .v (.int dg), o4]) ?_ ⟨[], _, _, rfl, ⟨by decide, fun k x e => by cases e⟩, rfl⟩ ?_ ?_)
    · show ((zc (eC (.int 1)) (zc (zk 1) zy)) (visG [.v (.int c), .v (.int (1 + (M : Int))), .o [.non], .v (.int (c / 512)), .no])).bind vA = _
      rw [show (zc (eC (.int 1)) (zc (zk 1) zy)) (visG [.v (.int c), .v (.int (1 + (M : Int))), .o [.non], .v (.int (c / 512)), .no]) = some [.int 1, .int (1 + (M : Int))] from rfl, Option.bind_some]
      rw [w6 (by decide) (by decide) (by omega) (by omega), show (1 + (M : Int) - 1).toNat = M by omega]
    · rintro i ρ hi ⟨os, dg, o4, hl, ho, rfl⟩
      refine ⟨_, rfl, ?_⟩
      unfold xU
      have k0 : (0 : Int) < 1 + (i : Int) := by omega
      have hlen : (D.non :: os.map D.int).length = i + 1 := by rw [List.length_cons, List.length_map, hl]
      have add : ∀ x : Int, 0 ≤ x → x < 1 + (i : Int) → wA (os ++ [x]) := fun x x0 x1 => ⟨by rw [List.length_append]; show os.length + 1 ≤ 7; omega, fun k y e => by
        by_cases hk : k < os.length
        · rw [List.getElem?_append_left hk] at e
          exact ho.low k y e
        · rw [List.getElem?_append_right (by omega)] at e
          have hk0 : k - os.length = 0 := by
            cases hz : k - os.length with
            | zero => rfl
            | succ n => rw [hz] at e; cases e
          rw [hk0] at e
          cases e
          omega⟩
      have ein : ∀ x : Int, D.non :: (os ++ [x]).map D.int = (D.non :: os.map D.int) ++ [.int x] := fun x => by rw [List.map_append]; rfl
      have hs0 := Int.emod_nonneg (VF c (1 + (i : Int))) (show 1 + (i : Int) ≠ 0 by omega)
      have hs1 := Int.emod_lt_of_pos (VF c (1 + (i : Int))) k0
      refine zz (Wx (m := false) (d := .int (VF c (1 + (i : Int)) % (1 + (i : Int)))) (sv (yh (x := .int (VF c (1 + (i : Int)))) (y := .int (1 + (i : Int))) (zO (ds := [.int c, .int (1 + (i : Int))]) rfl rfl) rfl (xP k0))) rfl (by rw [hlen]; omega)) ?_
      have et : (tOf (zp xF (zp wF (zk 0) (eC (.int 2))) (eC (.int 0)))) (visG [.v (.int c), .v (.int (1 + (M : Int))), .o ((.non :: os.map .int) ++ [.int (VF c (1 + (i : Int)) % (1 + (i : Int)))]), .v (.int dg), .v (.int (1 + (i : Int)))]) = some (decide (c % 2 = 0)) := xW (yh (x := .int (c % 2)) (y := .int 0) (yh (x := .int c) (y := .int 2) rfl rfl (xP (by decide))) rfl yj)
      refine VG et (fun _ => ?_) fun _ => WJ rfl ⟨os ++ [_], dg, _, by rw [List.length_append, hl]; rfl, add _ hs0 hs1, by rw [ein]; rfl⟩
      refine zz (zcD (m := false) (d := .int (dg % (1 + (i : Int)))) (k := 1 + (i : Int)) (ds := (.non :: os.map .int) ++ [.int (VF c (1 + (i : Int)) % (1 + (i : Int)))]) (sv (yh (x := .int dg) (y := .int (1 + (i : Int))) rfl rfl (xP k0))) rfl rfl (by omega) (by rw [List.length_append, hlen]; show (1 + (i : Int)) < ((i + 1 + 1 : Nat) : Int); omega)) ?_
      refine WJ (yK (d := .int (dg / (1 + (i : Int)))) (sv (yh (x := .int dg) (y := .int (1 + (i : Int))) rfl rfl (vE k0 (by omega))))) ⟨os ++ [dg % (1 + (i : Int))], dg / (1 + (i : Int)), .v (.int (1 + (i : Int))), by rw [List.length_append, hl]; rfl, add _ (Int.emod_nonneg _ (by omega)) (Int.emod_lt_of_pos _ k0), ?_⟩
      rw [ein, show (1 + (i : Int)).toNat = (D.non :: os.map D.int).length by rw [hlen]; omega, List.set_append_right _ _ (Nat.le_refl _), Nat.sub_self]
      rfl
    · rintro ρ ⟨os, dg, o4, hl, ho, rfl⟩
      refine zc6 (ρ' := [.v (.int c), .v (.int (1 + (M : Int))), .v (.lst (.non :: os.map .int)), .v (.int dg), o4]) rfl ?_
      exact Xp (d := ovD os) (xq (W2 (ds := [.lst (.non :: os.map .int)]) rfl rfl)) ⟨os, rfl, ho⟩)
  exact ⟨os, ho, e⟩
noncomputable def YI : List D := ((List.range 8).map fun n : Nat => .tup [.str "row", .int (1 + (n : Int))]) ++ ((List.range 6).map fun n : Nat => .tup [.str "ring", .int (3 + (n : Int))]) ++ ((List.range 4).map fun n : Nat => .tup [.str "cube", .int (0 + (n : Int))]) ++ ((List.range 8).map fun n : Nat => .tup [.str "full", .int (1 + (n : Int))]) ++ ((List.range 7).map fun n : Nat => .tup [.str "star", .int (1 + (n : Int))])
noncomputable def WE : Option D → Bool
  | some (.bl true) => true
  | _ => false
theorem Xr {o : Option D} (h : WE o = true) : o = some (.bl true) := by
  unfold WE at h
  split at h
  · rfl
  · cases h
noncomputable def okK (k : D) : Bool := WE (zL [k]) && WE ((wd [k]).bind fun x => (yS [k]).bind fun y => xk [x, y])
theorem zab : YI.all okK = true := by kernel_rfl
theorem za7 {os : List Int} (h : wA os) : okK (yB (ovD os)) = true := by
  unfold okK
  rw [xv (Y9 h), VP h, Zv h]
  show WE (xk [zar os, zar os]) = true
  have e : okE 5 (zar os) = true := by
    show ([D.int ((os.length + 1 : Nat) : Int), D.tup ((XN os).map yI)].all (okE 4)) = true
    show (((XN os).map yI).all (okE 3) && true) = true
    rw [List.all_map, show (XN os).all (okE 3 ∘ yI) = true from List.all_eq_true.mpr fun _ _ => rfl]
    rfl
  rw [zbO e]
  rfl
theorem zb4 {k S ks : D} {o2 o3 : Sl} {N B C : SE → Prop} {R : D → Prop} (h : okK k = true) (q : N [.v S, .v ks, o2, o3, .v k]) : (YV [.v S, .v ks, o2, o3, .v k]).w N B C R := by
  unfold okK at h
  rw [Bool.and_eq_true] at h
  have h1 := Xr h.1
  have h2 := Xr h.2
  obtain ⟨x, hx, h2⟩ := Option.bind_eq_some_iff.mp h2
  obtain ⟨y, hy, h2⟩ := Option.bind_eq_some_iff.mp h2
  unfold YV
  exact WJ (vB (Yr (xW (yh (x := .bl true) (y := .bl true) (zO (ds := [k]) rfl h1) rfl rfl)) (we (xW (b := true) (zO (ds := [x, y]) (yN (zO (ds := [k]) rfl hx) (yN (zO (ds := [k]) rfl hy) Yf)) h2))))) q
theorem zbb {ρ : Ev} (ns : List Int) (h : ns.length ≤ 63) : ∃ xs : List Int, xs.length ≤ 100 ∧ (iOf (zp x8 (eSl slD (zk 0) wI (wE (eC (.int 12)))) (wc (yY (zc (eC (.int 0)) (zc (eC (.int 7)) (zc (eC (.int 448)) zy))))))) (some (.scr ns) :: ρ) = some (xs.map .int) := by
  have hl := zay ns none (some 12)
  refine ⟨Wb ns none (some 12) ++ [0, 7, 448], by rw [List.length_append]; show _ + 3 ≤ 100; omega, ?_⟩
  have e := VT (a := (Wb ns none (some 12)).map .int) (b := [.int 0, .int 7, .int 448]) (by simp; omega)
  simp [iOf, zp, wc, yY, zc, zy, zk, eC, Yp, eSl, wI, wE, asI, slD, e, xz]
theorem zcg {ns : List Int} {c : Int} {ks : List D} {o3 o4 : Sl} {N B C : SE → Prop} {R : D → Prop} (hk : ks.length ≤ 1000) (q : ∀ os o3, wA os → N [.v (.scr ns), .o (ks ++ [yB (ovD os)]), .v (.int c), o3, o4]) : (YR [.v (.scr ns), .o ks, .v (.int c), o3, o4]).w N B C R := by
  obtain ⟨os, ho, eo⟩ := ZY c
  unfold YR
  refine zz (Wx (m := false) (d := yB (ovD os)) (sv (Ws (ds := [.str "tree", ovD os]) (yN rfl (yN (zO (ds := [.int c]) rfl eo) Yf)) (Nat.le_of_ble_eq_true rfl))) rfl hk) ?_
  obtain ⟨d, hd, ed⟩ := X5 (os := os) (k := VF c 40) ho.len
  refine zz (yK (d := d) (sv (zO (ds := [ovD os, .int (VF c 40)]) (yN (zO (ds := [.int c]) rfl eo) (yN (zO (ds := [.int c, .int 40]) rfl rfl) Yf)) ed))) ?_
  have e1 := VW ho hd
  exact WJ (vB (Yr (xW (yh (x := .bl false) (y := .bl false) (zO (ds := [d]) rfl e1) rfl rfl)) (xW (yh (x := .int 1) (y := .int 1) (zO (ds := [d]) rfl (zad e1)) rfl rfl)))) (q os _ ho)
theorem zax : ∀ ns : List Int, ns.length ≤ 63 → zcv [.scr ns] = some (.bl true) := by
  intro ns hns
  refine Xs (ρ := [.v (.scr ns), .no, .no, .no, .no]) rfl ?_
  unfold VM
  refine zz (ρ' := [.v (.scr ns), .v (.lst (YI.take 18)), .no, .no, .no]) (by kernel_rfl) (zz (ρ' := [.v (.scr ns), .o YI, .no, .no, .no]) (by kernel_rfl) ?_)
  obtain ⟨xs, hx, hxs⟩ := zbb (ρ := visF [.o YI, .no, .no, .no]) ns hns
  refine wN (W5 (ds := xs.map .int) (fun i ρ => ∃ (ks : List D) (o2 o3 o4 : Sl), ks.length = 33 + i ∧ (∀ k ∈ ks, okK k = true) ∧ ρ = [.v (.scr ns), .o ks, o2, o3, o4]) hxs ⟨_, _, _, _, rfl, fun k hk => List.all_eq_true.mp zab k hk, rfl⟩ ?_ ?_)
  · rintro i d ρ hd ⟨ks, o2, o3, o4, hl, hk, rfl⟩
    have hi : i < xs.length := by
      rw [List.getElem?_map] at hd
      obtain ⟨z, hz, _⟩ := Option.map_eq_some_iff.mp hd
      exact (List.getElem?_eq_some_iff.mp hz).1
    rw [List.getElem?_map] at hd
    obtain ⟨z, hz, rfl⟩ := Option.map_eq_some_iff.mp hd
    refine ⟨_, rfl, zcg (by omega) fun os o3 ho => ⟨_, _, _, _, by rw [List.length_append, hl]; rfl, fun k hk' => ?_, rfl⟩⟩
    rcases List.mem_append.mp hk' with h | h
    · exact hk k h
    · cases List.mem_singleton.mp h
      exact za7 ho
  · rintro ρ ⟨ks, o2, o3, o4, hl, hk, rfl⟩
    refine zc6 (ρ' := [.v (.scr ns), .v (.lst ks), o2, o3, o4]) rfl ?_
    refine wN (W5 (ds := ks) (fun i ρ => ∃ o4, ρ = [.v (.scr ns), .v (.lst ks), o2, o3, o4]) rfl ⟨_, rfl⟩ ?_ ?_)
    · rintro i d ρ hd ⟨o4, rfl⟩
      exact ⟨_, rfl, zb4 (hk d (List.mem_of_getElem? hd)) ⟨_, rfl⟩⟩
    · rintro ρ ⟨o4, rfl⟩
      exact Xp rfl rfl
theorem zce (T : Txt K mg ad) : xn P w K mg base CX0 20 ad.f_law ad.e_law ["script"] (Vs K) := by
  letI : KK := ⟨K⟩
  have G_kind_good := wg (P := P) (w := w) (base := base) T
  have G_web_for := Yu (P := P) (w := w) (base := base) T
  have X_web_for := vY (P := P) (w := w) (base := base) T
  have G__law_stir := vw (P := P) (w := w) (base := base) T
  have G__law_same := Zh (P := P) (w := w) (base := base) T
  have G__law_web_for := v9 (P := P) (w := w) (base := base) T
  have G__law_over := Zb (P := P) (w := w) (base := base) T
  have G__law_came := ZA (P := P) (w := w) (base := base) T
  have G__law_bad := Z4 (P := P) (w := w) (base := base) T
  refine (zcE (p := zcv) (xZ (N := ["script", "kinds", "cell", "bad", "kind"]) (ps := ["script"]) T.d_law.fn Yw (g := VM) fun cdv A outer s H E hr => ?_) zax).mono (j := 8) (by decide)
  unfold VM YR YV
  exact (zg (ye (m := false) (i := 1) Yw.nd rfl (Or.inl rfl) (zZ (zZ (xt (Yc (L := ["n"]) (M := ["script", "kinds", "cell", "bad", "kind"]) rfl (wJ (by rfl) (by rfl) (by rfl) (by with_unfolding_all rfl) (by rfl) (by rfl) (by kernel_rfl) xK) (xi rfl T.z_range (za (zh ze) (za (zh ze) zd))) gs1 rb1 (fun _ _ _ _ => (zS (i := 0) Wj rfl (Or.inl rfl) (.inr rfl))) (fun _ _ _ _ => (zA (za (zt zq) (za (zb 0 (pv 0)) zd)))))) (xt (Yc (L := ["n"]) (M := ["script", "kinds", "cell", "bad", "kind"]) rfl (wJ (by rfl) (by rfl) (by rfl) (by with_unfolding_all rfl) (by rfl) (by rfl) (by kernel_rfl) xK) (xi rfl T.z_range (za (zh ze) (za (zh ze) zd))) gs1 rb1 (fun _ _ _ _ => (zS (i := 0) Wj rfl (Or.inl rfl) (.inr rfl))) (fun _ _ _ _ => (zA (za (zt zq) (za (zb 0 (pv 0)) zd))))))) (xt (Yc (L := ["n"]) (M := ["script", "kinds", "cell", "bad", "kind"]) rfl (wJ (by rfl) (by rfl) (by rfl) (by with_unfolding_all rfl) (by rfl) (by rfl) (by kernel_rfl) xK) (Zk rfl T.z_range (za (zh ze) zd)) gs1 rb1 (fun _ _ _ _ => (zS (i := 0) Wj rfl (Or.inl rfl) (.inr rfl))) (fun _ _ _ _ => (zA (za (zt zq) (za (zb 0 (pv 0)) zd))))))))
      (zg (XC (i := 1) Yw.nd rfl (Or.inl rfl) (zbX (zZ (zb 1 (pv 1)) (xt (Yc (L := ["n"]) (M := ["script", "kinds", "cell", "bad", "kind"]) rfl (wJ (by rfl) (by rfl) (by rfl) (by with_unfolding_all rfl) (by rfl) (by rfl) (by kernel_rfl) xK) (xi rfl T.z_range (za (zh ze) (za (zh ze) zd))) gs1 rb1 (fun _ _ _ _ => (zS (i := 0) Wj rfl (Or.inl rfl) (.inr rfl))) (fun _ _ _ _ => (zA (za (zt zq) (za (zb 0 (pv 0)) zd))))))) (xt (Yc (L := ["n"]) (M := ["script", "kinds", "cell", "bad", "kind"]) rfl (wJ (by rfl) (by rfl) (by rfl) (by with_unfolding_all rfl) (by rfl) (by rfl) (by kernel_rfl) xK) (xi rfl T.z_range (za (zh ze) (za (zh ze) zd))) gs1 rb1 (fun _ _ _ _ => (zS (i := 0) Wj rfl (Or.inl rfl) (.inr rfl))) (fun _ _ _ _ => (zA (za (zt zq) (za (zb 0 (pv 0)) zd))))))))
      (zg (Xh PassesOwn.never rfl (Wk (zZ (Xu (zb 0 (pv 0)) WG (Vn (zh ze))) (xt (xx (za (zh ze) (za (zh ze) (za (zh ze) zd))))))) (xl (zS (i := 2) Yw.nd rfl (Or.inl rfl))) (zg (W1 (m := false) (pv 1) (zA (za (zt zq) (za (zD (G__law_over.mono (by decide)) hr rfl T.d__law_over.at_ T.d__law_over.kp T.d__law_over.bd (za (zb 2 (pv 2)) zd)) zd))) (fun a b => X8 PySem.F.plainAttrs_list PySem.F.slot_list_append PySem.F.type_list_append vN a b))
      (zg (ye (m := false) (i := 3) Yw.nd rfl (Or.inl rfl) (zD (G__law_bad.mono (by decide)) hr rfl T.d__law_bad.at_ T.d__law_bad.kp T.d__law_bad.bd (za (zD (G__law_over.mono (by decide)) hr rfl T.d__law_over.at_ T.d__law_over.kp T.d__law_over.bd (za (zb 2 (pv 2)) zd)) (za (zD (G__law_stir.mono (by decide)) hr rfl T.d__law_stir.at_ T.d__law_stir.kp T.d__law_stir.bd (za (zb 2 (pv 2)) (za (zh ze) zd))) zd))))
      (zj (ym (zcB (Va (zT vV wZ (zv _) (zD (G_kind_good.mono (by decide)) hr rfl T.d_kind_good.at_ T.d_kind_good.kp T.d_kind_good.bd (za (zb 3 (pv 3)) zd)) (wx x5)) (Y6 (zT Z0 Yv (zv _) (zD (G__law_came.mono (by decide)) hr rfl T.d__law_came.at_ T.d__law_came.kp T.d__law_came.bd (za (zb 3 (pv 3)) zd)) (zh ze))))) (zj (zx (wx x5))) zB)))))
      (Xo 1 (zg (Xh PassesOwn.never rfl (Wk (zb 1 (pv 1))) (xl (zS (i := 4) Yw.nd rfl (Or.inl rfl))) (zj (ym (zcB (Va (zT vV wZ (zv _) (zD (G_kind_good.mono (by decide)) hr rfl T.d_kind_good.at_ T.d_kind_good.kp T.d_kind_good.bd (za (zb 4 (pv 4)) zd)) (wx x5)) (Y6 (vq (xu (zD (G__law_same.mono (by decide)) hr rfl T.d__law_same.at_ T.d__law_same.kp T.d__law_same.bd (za (zD (G_web_for.mono (by decide)) hr rfl T.d_web_for.at_ T.d_web_for.kp T.d_web_for.bd (za (zb 4 (pv 4)) zd)) (za (zD (G__law_web_for.mono (by decide)) hr rfl T.d__law_web_for.at_ T.d__law_web_for.kp T.d__law_web_for.bd (za (zb 4 (pv 4)) zd)) zd)))))))) (zj (zx (wx x5))) zB)))
      (zj (zx (wx x5))))))))
end
theorem Ye {us : List Value} (h : us.length = 1) : ∃ x0, us = [x0] := by
  cases us with
  | nil => cases h
  | cons x0 us =>
    cases us with
    | nil => exact ⟨x0, rfl⟩
    | cons _ _ => cases h
theorem WZ {us : List Value} (h : us.length = 2) : ∃ x0 x1, us = [x0, x1] := by
  cases us with
  | nil => cases h
  | cons x0 us =>
    cases us with
    | nil => cases h
    | cons x1 us =>
      cases us with
      | nil => exact ⟨x0, x1, rfl⟩
      | cons _ _ => cases h
theorem zdu {us : List Value} (h : us.length = 3) : ∃ x0 x1 x2, us = [x0, x1, x2] := by
  cases us with
  | nil => cases h
  | cons x0 us =>
    cases us with
    | nil => cases h
    | cons x1 us =>
      cases us with
      | nil => cases h
      | cons x2 us =>
        cases us with
        | nil => exact ⟨x0, x1, x2, rfl⟩
        | cons _ _ => cases h
theorem zc1 {us : List Value} (h : us.length = 4) : ∃ x0 x1 x2 x3, us = [x0, x1, x2, x3] := by
  cases us with
  | nil => cases h
  | cons x0 us =>
    cases us with
    | nil => cases h
    | cons x1 us =>
      cases us with
      | nil => cases h
      | cons x2 us =>
        cases us with
        | nil => cases h
        | cons x3 us =>
          cases us with
          | nil => exact ⟨x0, x1, x2, x3, rfl⟩
          | cons _ _ => cases h
theorem all_mk {l : PySem.W.OpenLaw} {w : World} {K : PySem.W.Frag} {h : Heap} {mg : Str → Option Value} {fa f0 f1 f2 f3 f4 f5 f6 f7 f8 f9 f10 f11 f12 f13 f14 f15 f16 f17 f18 : Addr} (X : K.In h) (G : h.Ns mainGlobals mg) (hfa : mg "law" = some (.ref fa))
    {od0 an0 od1 an1 od2 an2 od3 an3 od4 an4 od5 an5 od6 an6 od7 an7 od8 an8 od9 an9 od10 an10 od11 an11 od12 an12 od13 an13 od14 an14 od15 an15 od16 an16 od17 an17 od18 an18 : Option Addr} {sl0 sl1 sl2 sl3 sl4 sl5 sl6 sl7 sl8 sl9 sl10 sl11 sl12 sl13 sl14 sl15 sl16 sl17 sl18 : Array (Option Value)} {oc0 kV0 dc0 pm0 cd0 ct0 oc1 kV1 dc1 pm1 cd1 ct1 oc2 kV2 dc2 pm2 cd2 ct2 oc3 kV3 dc3 pm3 cd3 ct3 oc4 kV4 dc4 pm4 cd4 ct4 oc5 kV5 dc5 pm5 cd5 ct5 oc6 kV6 dc6 pm6 cd6 ct6 oc7 kV7 dc7 pm7 cd7 ct7 oc8 kV8 dc8 pm8 cd8 ct8 oc9 kV9 dc9 pm9 cd9 ct9 oc10 kV10 dc10 pm10 cd10 ct10 oc11 kV11 dc11 pm11 cd11 ct11 oc12 kV12 dc12 pm12 cd12 ct12 oc13 kV13 dc13 pm13 cd13 ct13 oc14 kV14 dc14 pm14 cd14 ct14 oc15 kV15 dc15 pm15 cd15 ct15 oc16 kV16 dc16 pm16 cd16 ct16 oc17 kV17 dc17 pm17 cd17 ct17 oc18 kV18 dc18 pm18 cd18 ct18 : Value} {tk0 : Tok}
    {sz0 ep0 : Nat} {rr0_0 rr0_1 rr0_2 rr0_3 rr0_4 : Addr} {hh0_0 hh0_1 hh0_2 hh0_3 hh0_4 : Int} {tt0_0 tu0_0_0 tu0_0_1 tt0_1 tu0_1_0 tu0_1_1 tt0_2 tu0_2_0 tu0_2_1 tt0_3 tu0_3_0 tu0_3_1 tt0_4 tu0_4_0 tu0_4_1 : Tok} {nn0_0 nn0_1 nn0_2 nn0_3 nn0_4 : Nat} {oo0_0 oo0_1 oo0_2 oo0_3 oo0_4 : Option Addr} {ss0_0 ss0_1 ss0_2 ss0_3 ss0_4 : Array (Option Value)}
    (a0 : PySem.W.nsIn K mainGlobals "is_whole" = some (some (.ref f0))) (l0 : K.lookup f0 = some ⟨oc0, od0, .func (PySem.W.fnOf "is_whole" "is_whole" (zK yM) (zC yM) (zf yM) .none kV0 dc0 pm0 an0 cd0 ct0), sl0⟩) (c0 : PySem.W.codeIn K cd0 "is_whole" = true) (k0 : PySem.W.keepIn K (.ref f0) = true)
    (a1 : PySem.W.nsIn K mainGlobals "is_whole_within" = some (some (.ref f1))) (l1 : K.lookup f1 = some ⟨oc1, od1, .func (PySem.W.fnOf "is_whole_within" "is_whole_within" (zK zF) (zC zF) (zf zF) .none kV1 dc1 pm1 an1 cd1 ct1), sl1⟩) (c1 : PySem.W.codeIn K cd1 "is_whole_within" = true) (k1 : PySem.W.keepIn K (.ref f1) = true)
    (a2 : PySem.W.nsIn K mainGlobals "is_place_count" = some (some (.ref f2))) (l2 : K.lookup f2 = some ⟨oc2, od2, .func (PySem.W.fnOf "is_place_count" "is_place_count" (zK zJ) (zC zJ) (zf zJ) .none kV2 dc2 pm2 an2 cd2 ct2), sl2⟩) (c2 : PySem.W.codeIn K cd2 "is_place_count" = true) (k2 : PySem.W.keepIn K (.ref f2) = true)
    (a3 : PySem.W.nsIn K mainGlobals "is_place" = some (some (.ref f3))) (l3 : K.lookup f3 = some ⟨oc3, od3, .func (PySem.W.fnOf "is_place" "is_place" (zK yL) (zC yL) (zf yL) .none kV3 dc3 pm3 an3 cd3 ct3), sl3⟩) (c3 : PySem.W.codeIn K cd3 "is_place" = true) (k3 : PySem.W.keepIn K (.ref f3) = true)
    (a4 : PySem.W.nsIn K mainGlobals "is_over" = some (some (.ref f4))) (l4 : K.lookup f4 = some ⟨oc4, od4, .func (PySem.W.fnOf "is_over" "is_over" (zK xb) (zC xb) (zf xb) .none kV4 dc4 pm4 an4 cd4 ct4), sl4⟩) (c4 : PySem.W.codeIn K cd4 "is_over" = true) (k4 : PySem.W.keepIn K (.ref f4) = true)
    (a5 : PySem.W.nsIn K mainGlobals "kind_good" = some (some (.ref f5))) (l5 : K.lookup f5 = some ⟨oc5, od5, .func (PySem.W.fnOf "kind_good" "kind_good" (zK yu) (zC yu) (zf yu) .none kV5 dc5 pm5 an5 cd5 ct5), sl5⟩) (c5 : PySem.W.codeIn K cd5 "kind_good" = true) (k5 : PySem.W.keepIn K (.ref f5) = true)
    (a6 : PySem.W.nsIn K mainGlobals "places_of" = some (some (.ref f6))) (l6 : K.lookup f6 = some ⟨oc6, od6, .func (PySem.W.fnOf "places_of" "places_of" (zK yz) (zC yz) (zf yz) .none kV6 dc6 pm6 an6 cd6 ct6), sl6⟩) (c6 : PySem.W.codeIn K cd6 "places_of" = true) (k6 : PySem.W.keepIn K (.ref f6) = true)
    (a7 : PySem.W.nsIn K mainGlobals "are_tied" = some (some (.ref f7))) (l7 : K.lookup f7 = some ⟨oc7, od7, .func (PySem.W.fnOf "are_tied" "are_tied" (zK yQ) (zC yQ) (zf yQ) .none kV7 dc7 pm7 an7 cd7 ct7), sl7⟩) (c7 : PySem.W.codeIn K cd7 "are_tied" = true) (k7 : PySem.W.keepIn K (.ref f7) = true)
    (a8 : PySem.W.nsIn K mainGlobals "web_for" = some (some (.ref f8))) (l8 : K.lookup f8 = some ⟨oc8, od8, .func (PySem.W.fnOf "web_for" "web_for" (zK xa) (zC xa) (zf xa) .none kV8 dc8 pm8 an8 cd8 ct8), sl8⟩) (c8 : PySem.W.codeIn K cd8 "web_for" = true) (k8 : PySem.W.keepIn K (.ref f8) = true)
    (a9 : PySem.W.nsIn K mainGlobals "_law_pairs" = some (some (.ref f9))) (l9 : K.lookup f9 = some ⟨oc9, od9, .func (PySem.W.fnOf "_law_pairs" "_law_pairs" (zK yl) (zC yl) (zf yl) .none kV9 dc9 pm9 an9 cd9 ct9), sl9⟩) (c9 : PySem.W.codeIn K cd9 "_law_pairs" = true) (k9 : PySem.W.keepIn K (.ref f9) = true)
    (a10 : PySem.W.nsIn K mainGlobals "_law_stir" = some (some (.ref f10))) (l10 : K.lookup f10 = some ⟨oc10, od10, .func (PySem.W.fnOf "_law_stir" "_law_stir" (zK yy) (zC yy) (zf yy) .none kV10 dc10 pm10 an10 cd10 ct10), sl10⟩) (c10 : PySem.W.codeIn K cd10 "_law_stir" = true) (k10 : PySem.W.keepIn K (.ref f10) = true)
    (a11 : PySem.W.nsIn K mainGlobals "_law_kinds" = some (some (.ref f11))) (l11 : K.lookup f11 = some ⟨oc11, od11, .func (PySem.W.fnOf "_law_kinds" "_law_kinds" (zK yk) (zC yk) (zf yk) .none kV11 dc11 pm11 an11 cd11 ct11), sl11⟩) (c11 : PySem.W.codeIn K cd11 "_law_kinds" = true) (k11 : PySem.W.keepIn K (.ref f11) = true)
    (a12 : PySem.W.nsIn K mainGlobals "_law_same" = some (some (.ref f12))) (l12 : K.lookup f12 = some ⟨oc12, od12, .func (PySem.W.fnOf "_law_same" "_law_same" (zK yr) (zC yr) (zf yr) .none kV12 dc12 pm12 an12 cd12 ct12), sl12⟩) (c12 : PySem.W.codeIn K cd12 "_law_same" = true) (k12 : PySem.W.keepIn K (.ref f12) = true)
    (a13 : PySem.W.nsIn K mainGlobals "_law_web_for" = some (some (.ref f13))) (l13 : K.lookup f13 = some ⟨oc13, od13, .func (PySem.W.fnOf "_law_web_for" "_law_web_for" (zK zW) (zC zW) (zf zW) .none kV13 dc13 pm13 an13 cd13 ct13), sl13⟩) (c13 : PySem.W.codeIn K cd13 "_law_web_for" = true) (k13 : PySem.W.keepIn K (.ref f13) = true)
    (a14 : PySem.W.nsIn K mainGlobals "_law_tied" = some (some (.ref f14))) (l14 : K.lookup f14 = some ⟨oc14, od14, .func (PySem.W.fnOf "_law_tied" "_law_tied" (zK yx) (zC yx) (zf yx) .none kV14 dc14 pm14 an14 cd14 ct14), sl14⟩) (c14 : PySem.W.codeIn K cd14 "_law_tied" = true) (k14 : PySem.W.keepIn K (.ref f14) = true)
    (a15 : PySem.W.nsIn K mainGlobals "_law_over" = some (some (.ref f15))) (l15 : K.lookup f15 = some ⟨oc15, od15, .func (PySem.W.fnOf "_law_over" "_law_over" (zK yt) (zC yt) (zf yt) .none kV15 dc15 pm15 an15 cd15 ct15), sl15⟩) (c15 : PySem.W.codeIn K cd15 "_law_over" = true) (k15 : PySem.W.keepIn K (.ref f15) = true)
    (a16 : PySem.W.nsIn K mainGlobals "_law_came" = some (some (.ref f16))) (l16 : K.lookup f16 = some ⟨oc16, od16, .func (PySem.W.fnOf "_law_came" "_law_came" (zK yw) (zC yw) (zf yw) .none kV16 dc16 pm16 an16 cd16 ct16), sl16⟩) (c16 : PySem.W.codeIn K cd16 "_law_came" = true) (k16 : PySem.W.keepIn K (.ref f16) = true)
    (a17 : PySem.W.nsIn K mainGlobals "_law_bad" = some (some (.ref f17))) (l17 : K.lookup f17 = some ⟨oc17, od17, .func (PySem.W.fnOf "_law_bad" "_law_bad" (zK yO) (zC yO) (zf yO) .none kV17 dc17 pm17 an17 cd17 ct17), sl17⟩) (c17 : PySem.W.codeIn K cd17 "_law_bad" = true) (k17 : PySem.W.keepIn K (.ref f17) = true)
    (a18 : PySem.W.nsIn K mainGlobals "law" = some (some (.ref f18))) (l18 : K.lookup f18 = some ⟨oc18, od18, .func (PySem.W.fnOf "law" "law" (zK Yx) (zC Yx) (zf Yx) .none kV18 dc18 pm18 an18 cd18 ct18), sl18⟩) (c18 : PySem.W.codeIn K cd18 "law" = true) (k18 : PySem.W.keepIn K (.ref f18) = true)
    (gg0 : PySem.W.nsIn K mainGlobals "MOST_PLACES" = some (some (.int 8 tk0)))
    (sa0 : PySem.W.nsIn K mainGlobals "SIZES" = some (some (.ref sz0))) (sb0 : K.lookup sz0 = some { cls := .type "dict", data := .dict #[{ hash := hh0_0, key := .str "row" tt0_0, val := .ref rr0_0 }, { hash := hh0_1, key := .str "ring" tt0_1, val := .ref rr0_1 }, { hash := hh0_2, key := .str "cube" tt0_2, val := .ref rr0_2 }, { hash := hh0_3, key := .str "full" tt0_3, val := .ref rr0_3 }, { hash := hh0_4, key := .str "star" tt0_4, val := .ref rr0_4 }] ep0 }) (sd0 : (sz0 == sysModules) = false)
    (sc0_0 : K.lookup rr0_0 = some { cls := .type "tuple", dict := oo0_0, data := .seq #[.int 1 tu0_0_0, .int 8 tu0_0_1] nn0_0, slots := ss0_0 })
    (sc0_1 : K.lookup rr0_1 = some { cls := .type "tuple", dict := oo0_1, data := .seq #[.int 3 tu0_1_0, .int 8 tu0_1_1] nn0_1, slots := ss0_1 })
    (sc0_2 : K.lookup rr0_2 = some { cls := .type "tuple", dict := oo0_2, data := .seq #[.int 0 tu0_2_0, .int 3 tu0_2_1] nn0_2, slots := ss0_2 })
    (sc0_3 : K.lookup rr0_3 = some { cls := .type "tuple", dict := oo0_3, data := .seq #[.int 1 tu0_3_0, .int 8 tu0_3_1] nn0_3, slots := ss0_3 })
    (sc0_4 : K.lookup rr0_4 = some { cls := .type "tuple", dict := oo0_4, data := .seq #[.int 1 tu0_4_0, .int 7 tu0_4_1] nn0_4, slots := ss0_4 })
    {xx0 xx1 xx2 xx3 xx4 xx5 xx6 xx7 xx8 xx9 xx10 xx11 xx12 xx13 : Addr}
    (xa0 : PySem.W.nsIn K mainGlobals "NoWeb" = some (some (.ref xx0)))
    (xa1 : PySem.W.nsIn K mainGlobals "NoKind" = some (some (.ref xx1)))
    (xa2 : PySem.W.nsIn K mainGlobals "NoHeap" = some (some (.ref xx2)))
    (xa3 : PySem.W.nsIn K mainGlobals "NoPlace" = some (some (.ref xx3)))
    (xa4 : PySem.W.nsIn K mainGlobals "NoNumber" = some (some (.ref xx4)))
    (xa5 : PySem.W.nsIn K mainGlobals "NoTally" = some (some (.ref xx5)))
    (xa6 : PySem.W.nsIn K mainGlobals "NotTree" = some (some (.ref xx6)))
    (xa7 : PySem.W.nsIn K mainGlobals "NotJoined" = some (some (.ref xx7)))
    (xa8 : PySem.W.nsIn K mainGlobals "NoWeights" = some (some (.ref xx8)))
    (xa9 : PySem.W.nsIn K mainGlobals "NoRow" = some (some (.ref xx9)))
    (xa10 : PySem.W.nsIn K mainGlobals "NoSteps" = some (some (.ref xx10)))
    (xa11 : PySem.W.nsIn K mainGlobals "NoText" = some (some (.ref xx11)))
    (xa12 : PySem.W.nsIn K mainGlobals "TooGreat" = some (some (.ref xx12)))
    (xa13 : PySem.W.nsIn K mainGlobals "StoneError" = some (some (.ref xx13)))
    (xb1 : PySem.W.excIn K xx1 bmV "ValueError.__new__" = true) (xc1 : Xt K [xx0, xx1, xx2, xx3, xx4, xx5, xx6, xx7, xx8, xx9, xx10, xx11, xx12] xx13 xx1 1 = true)
    (z0 : PySem.W.nsIn K mainGlobals "ValueError" = some none)
    (z1 : PySem.W.nsIn K mainGlobals "all" = some none)
    (z2 : PySem.W.nsIn K mainGlobals "bool" = some none)
    (z3 : PySem.W.nsIn K mainGlobals "int" = some none)
    (z4 : PySem.W.nsIn K mainGlobals "isinstance" = some none)
    (z5 : PySem.W.nsIn K mainGlobals "len" = some none)
    (z6 : PySem.W.nsIn K mainGlobals "list" = some none)
    (z7 : PySem.W.nsIn K mainGlobals "range" = some none)
    (z8 : PySem.W.nsIn K mainGlobals "str" = some none)
    (z9 : PySem.W.nsIn K mainGlobals "tuple" = some none)
    (z10 : PySem.W.nsIn K mainGlobals "zip" = some none)
    : ∃ fd : FuncData, (∀ (s : Shared) (v : Value), BindsTo s fd ⟨[v], []⟩ [("script", v)]) ∧ ∀ base : Heap, K.In base → base.Ns mainGlobals mg → xn l.prog w K mg base CX0 20 fa fd ["script"] (Vs K) := by
  have e := hfa.symm.trans (PySem.W.mg_of X G a18)
  cases e
  have F0 := yG (st := yM) l0 c0 k0
  have F1 := yG (st := zF) l1 c1 k1
  have F2 := yG (st := zJ) l2 c2 k2
  have F3 := yG (st := yL) l3 c3 k3
  have F4 := yG (st := xb) l4 c4 k4
  have F5 := yG (st := yu) l5 c5 k5
  have F6 := yG (st := yz) l6 c6 k6
  have F7 := yG (st := yQ) l7 c7 k7
  have F8 := yG (st := xa) l8 c8 k8
  have F9 := yG (st := yl) l9 c9 k9
  have F10 := yG (st := yy) l10 c10 k10
  have F11 := yG (st := yk) l11 c11 k11
  have F12 := yG (st := yr) l12 c12 k12
  have F13 := yG (st := zW) l13 c13 k13
  have F14 := yG (st := yx) l14 c14 k14
  have F15 := yG (st := yt) l15 c15 k15
  have F16 := yG (st := yw) l16 c16 k16
  have F17 := yG (st := yO) l17 c17 k17
  have F18 := yG (st := Yx) l18 c18 k18
  have T : Txt K mg ⟨_, _, _, _, _, _, _, _, _, _, _, _, _, _, _, _, _, _, _, _, _, _, _, _, _, _, _, _, _, _, _, _, _, _, _, _, _, _, tk0, sz0, xx0, xx1, xx2, xx3, xx4, xx5, xx6, xx7, xx8, xx9, xx10, xx11, xx12, xx13⟩ := ⟨
    ⟨F0, F0.binds (ps := ["thing"]) (fun _ _ _ _ _ _ us hl => by obtain ⟨_, rfl⟩ := Ye hl; rfl), PySem.W.mg_of X G a0⟩,
    ⟨F1, F1.binds (ps := ["thing", "least", "most"]) (fun _ _ _ _ _ _ us hl => by obtain ⟨_, _, _, rfl⟩ := zdu hl; rfl), PySem.W.mg_of X G a1⟩,
    ⟨F2, F2.binds (ps := ["thing"]) (fun _ _ _ _ _ _ us hl => by obtain ⟨_, rfl⟩ := Ye hl; rfl), PySem.W.mg_of X G a2⟩,
    ⟨F3, F3.binds (ps := ["many", "thing"]) (fun _ _ _ _ _ _ us hl => by obtain ⟨_, _, rfl⟩ := WZ hl; rfl), PySem.W.mg_of X G a3⟩,
    ⟨F4, F4.binds (ps := ["thing"]) (fun _ _ _ _ _ _ us hl => by obtain ⟨_, rfl⟩ := Ye hl; rfl), PySem.W.mg_of X G a4⟩,
    ⟨F5, F5.binds (ps := ["thing"]) (fun _ _ _ _ _ _ us hl => by obtain ⟨_, rfl⟩ := Ye hl; rfl), PySem.W.mg_of X G a5⟩,
    ⟨F6, F6.binds (ps := ["word", "size"]) (fun _ _ _ _ _ _ us hl => by obtain ⟨_, _, rfl⟩ := WZ hl; rfl), PySem.W.mg_of X G a6⟩,
    ⟨F7, F7.binds (ps := ["word", "size", "one", "other"]) (fun _ _ _ _ _ _ us hl => by obtain ⟨_, _, _, _, rfl⟩ := zc1 hl; rfl), PySem.W.mg_of X G a7⟩,
    ⟨F8, F8.binds (ps := ["kind"]) (fun _ _ _ _ _ _ us hl => by obtain ⟨_, rfl⟩ := Ye hl; rfl), PySem.W.mg_of X G a8⟩,
    ⟨F9, F9.binds (ps := ["many"]) (fun _ _ _ _ _ _ us hl => by obtain ⟨_, rfl⟩ := Ye hl; rfl), PySem.W.mg_of X G a9⟩,
    ⟨F10, F10.binds (ps := ["cell", "k"]) (fun _ _ _ _ _ _ us hl => by obtain ⟨_, _, rfl⟩ := WZ hl; rfl), PySem.W.mg_of X G a10⟩,
    ⟨F11, F11.binds (ps := ["e"]) (fun _ _ _ _ _ _ us hl => by obtain ⟨_, rfl⟩ := Ye hl; rfl), PySem.W.mg_of X G a11⟩,
    ⟨F12, F12.binds (ps := ["found", "due"]) (fun _ _ _ _ _ _ us hl => by obtain ⟨_, _, rfl⟩ := WZ hl; rfl), PySem.W.mg_of X G a12⟩,
    ⟨F13, F13.binds (ps := ["kind"]) (fun _ _ _ _ _ _ us hl => by obtain ⟨_, rfl⟩ := Ye hl; rfl), PySem.W.mg_of X G a13⟩,
    ⟨F14, F14.binds (ps := ["word", "n", "a", "b"]) (fun _ _ _ _ _ _ us hl => by obtain ⟨_, _, _, _, rfl⟩ := zc1 hl; rfl), PySem.W.mg_of X G a14⟩,
    ⟨F15, F15.binds (ps := ["cell"]) (fun _ _ _ _ _ _ us hl => by obtain ⟨_, rfl⟩ := Ye hl; rfl), PySem.W.mg_of X G a15⟩,
    ⟨F16, F16.binds (ps := ["thing"]) (fun _ _ _ _ _ _ us hl => by obtain ⟨_, rfl⟩ := Ye hl; rfl), PySem.W.mg_of X G a16⟩,
    ⟨F17, F17.binds (ps := ["over", "number"]) (fun _ _ _ _ _ _ us hl => by obtain ⟨_, _, rfl⟩ := WZ hl; rfl), PySem.W.mg_of X G a17⟩,
    ⟨F18, F18.binds (ps := ["script"]) (fun _ _ _ _ _ _ us hl => by obtain ⟨_, rfl⟩ := Ye hl; rfl), PySem.W.mg_of X G a18⟩,
    PySem.W.mg_of X G gg0,
    PySem.W.mg_none_of X G z0,
    PySem.W.mg_none_of X G z1,
    PySem.W.mg_none_of X G z2,
    PySem.W.mg_none_of X G z3,
    PySem.W.mg_none_of X G z4,
    PySem.W.mg_none_of X G z5,
    PySem.W.mg_none_of X G z6,
    PySem.W.mg_none_of X G z7,
    PySem.W.mg_none_of X G z8,
    PySem.W.mg_none_of X G z9,
    PySem.W.mg_none_of X G z10,
    PySem.W.mg_of X G sa0,
    fun h hK => ⟨sd0, _, _, _, hK _ _ sb0, ⟨rfl, rfl, rfl⟩, rfl, (.cons rfl ⟨_, _, rfl, ⟨_, hK _ _ sc0_0, rfl, _, rfl⟩, (.cons (.int _ _) (.cons (.int _ _) .nil))⟩ (.cons rfl ⟨_, _, rfl, ⟨_, hK _ _ sc0_1, rfl, _, rfl⟩, (.cons (.int _ _) (.cons (.int _ _) .nil))⟩ (.cons rfl ⟨_, _, rfl, ⟨_, hK _ _ sc0_2, rfl, _, rfl⟩, (.cons (.int _ _) (.cons (.int _ _) .nil))⟩ (.cons rfl ⟨_, _, rfl, ⟨_, hK _ _ sc0_3, rfl, _, rfl⟩, (.cons (.int _ _) (.cons (.int _ _) .nil))⟩ (.cons rfl ⟨_, _, rfl, ⟨_, hK _ _ sc0_4, rfl, _, rfl⟩, (.cons (.int _ _) (.cons (.int _ _) .nil))⟩ .nil)))))⟩,
    PySem.W.mg_of X G xa0,
    PySem.W.mg_of X G xa1,
    PySem.W.mg_of X G xa2,
    PySem.W.mg_of X G xa3,
    PySem.W.mg_of X G xa4,
    PySem.W.mg_of X G xa5,
    PySem.W.mg_of X G xa6,
    PySem.W.mg_of X G xa7,
    PySem.W.mg_of X G xa8,
    PySem.W.mg_of X G xa9,
    PySem.W.mg_of X G xa10,
    PySem.W.mg_of X G xa11,
    PySem.W.mg_of X G xa12,
    PySem.W.mg_of X G xa13,
    xb1,
    xc1⟩
  exact ⟨_, fun s v => .of_eq rfl, fun base _ _ => zce T⟩
theorem walk {l : PySem.W.OpenLaw} {q : Program} {loose : List Str} {XP : (Str → Option Value) → Heap → Prop} {YP : World → Heap → Prop} {d : DefRec} {K : Params → PySem.W.Frag} (hn : l.most = some 63) (hdf : d.params.defaults = [])
    (hY : ∀ (w : World) (h : Heap), YP w h → (K w.params).In h)
    (F : ∀ (w : World) (mg : Str → Option Value) (fa : Addr) (h : Heap), (K w.params).In h → h.Ns mainGlobals mg → mg d.name = some (.ref fa) →
      ∃ fd : FuncData, (∀ (s : Shared) (u : Value), BindsTo s fd ⟨[u], []⟩ [("script", u)]) ∧ ∀ base : Heap, (K w.params).In base → base.Ns mainGlobals mg → xn l.prog w (K w.params) mg base CX0 20 fa fd ["script"] (Vs (K w.params))) :
    PySem.W.WalkO q loose XP YP l.row.toRowW d [] (fun f vs => PySem.call f vs) :=
  L2.walk_of (n := 63) (k := 20) (x := "script") (CX := fun _ => CX0) (sp := fun w => Vs (K w.params)) hn (by decide) hdf ⟨rfl, by decide, by decide⟩ hY F (fun _ _ a ns hl _ hS => ⟨a, ns, rfl, hS, hl, fun _ => rfl⟩) fun _ _ _ _ _ z => z
end Mz
open PySem PySem.W PyProof.Rows
set_option maxRecDepth 100000 in
set_option maxHeartbeats 0 in
theorem PySem.Challenge.cw_twoforone_k05_kinds_holds : PySem.Challenge.rw_twoforone_k05_kinds.Holds := by
  w_on; o_law; k_head; (case hw => w_witness2)
  k_fill
  refine Mz.walk (l := PySem.Challenge.rw_twoforone_k05_kinds) rfl rfl (fun w h Y => PySem.W.kIn_of Y) ?F
  case F =>
    intro w mg fa h KX G hmg
    refine' Mz.all_mk KX G hmg ?a0 ?l0 ?c0 ?k0 ?a1 ?l1 ?c1 ?k1 ?a2 ?l2 ?c2 ?k2 ?a3 ?l3 ?c3 ?k3 ?a4 ?l4 ?c4 ?k4 ?a5 ?l5 ?c5 ?k5 ?a6 ?l6 ?c6 ?k6 ?a7 ?l7 ?c7 ?k7 ?a8 ?l8 ?c8 ?k8 ?a9 ?l9 ?c9 ?k9 ?a10 ?l10 ?c10 ?k10 ?a11 ?l11 ?c11 ?k11 ?a12 ?l12 ?c12 ?k12 ?a13 ?l13 ?c13 ?k13 ?a14 ?l14 ?c14 ?k14 ?a15 ?l15 ?c15 ?k15 ?a16 ?l16 ?c16 ?k16 ?a17 ?l17 ?c17 ?k17 ?a18 ?l18 ?c18 ?k18 ?gg0 ?sa0 ?sb0 ?sd0 ?sc0_0 ?sc0_1 ?sc0_2 ?sc0_3 ?sc0_4 ?xa0 ?xa1 ?xa2 ?xa3 ?xa4 ?xa5 ?xa6 ?xa7 ?xa8 ?xa9 ?xa10 ?xa11 ?xa12 ?xa13 ?xb1 ?xc1 ?z0 ?z1 ?z2 ?z3 ?z4 ?z5 ?z6 ?z7 ?z8 ?z9 ?z10
    (case a0 => k_is)
    (case l0 => k_is)
    (case c0 => k_is)
    (case k0 => k_is)
    (case a1 => k_is)
    (case l1 => k_is)
    (case c1 => k_is)
    (case k1 => k_is)
    (case a2 => k_is)
    (case l2 => k_is)
    (case c2 => k_is)
    (case k2 => k_is)
    (case a3 => k_is)
    (case l3 => k_is)
    (case c3 => k_is)
    (case k3 => k_is)
    (case a4 => k_is)
    (case l4 => k_is)
    (case c4 => k_is)
    (case k4 => k_is)
    (case a5 => k_is)
    (case l5 => k_is)
    (case c5 => k_is)
    (case k5 => k_is)
    (case a6 => k_is)
    (case l6 => k_is)
    (case c6 => k_is)
    (case k6 => k_is)
    (case a7 => k_is)
    (case l7 => k_is)
    (case c7 => k_is)
    (case k7 => k_is)
    (case a8 => k_is)
    (case l8 => k_is)
    (case c8 => k_is)
    (case k8 => k_is)
    (case a9 => k_is)
    (case l9 => k_is)
    (case c9 => k_is)
    (case k9 => k_is)
    (case a10 => k_is)
    (case l10 => k_is)
    (case c10 => k_is)
    (case k10 => k_is)
    (case a11 => k_is)
    (case l11 => k_is)
    (case c11 => k_is)
    (case k11 => k_is)
    (case a12 => k_is)
    (case l12 => k_is)
    (case c12 => k_is)
    (case k12 => k_is)
    (case a13 => k_is)
    (case l13 => k_is)
    (case c13 => k_is)
    (case k13 => k_is)
    (case a14 => k_is)
    (case l14 => k_is)
    (case c14 => k_is)
    (case k14 => k_is)
    (case a15 => k_is)
    (case l15 => k_is)
    (case c15 => k_is)
    (case k15 => k_is)
    (case a16 => k_is)
    (case l16 => k_is)
    (case c16 => k_is)
    (case k16 => k_is)
    (case a17 => k_is)
    (case l17 => k_is)
    (case c17 => k_is)
    (case k17 => k_is)
    (case a18 => k_is)
    (case l18 => k_is)
    (case c18 => k_is)
    (case k18 => k_is)
    (case gg0 => k_is)
    (case sa0 => k_is)
    (case sb0 => k_is)
    (case sd0 => decide)
    (case sc0_0 => k_is)
    (case sc0_1 => k_is)
    (case sc0_2 => k_is)
    (case sc0_3 => k_is)
    (case sc0_4 => k_is)
    (case xa0 => k_is)
    (case xa1 => k_is)
    (case xa2 => k_is)
    (case xa3 => k_is)
    (case xa4 => k_is)
    (case xa5 => k_is)
    (case xa6 => k_is)
    (case xa7 => k_is)
    (case xa8 => k_is)
    (case xa9 => k_is)
    (case xa10 => k_is)
    (case xa11 => k_is)
    (case xa12 => k_is)
    (case xa13 => k_is)
    (case xb1 => kernel_rfl)
    (case xc1 => kernel_rfl)
    (case z0 => k_is)
    (case z1 => k_is)
    (case z2 => k_is)
    (case z3 => k_is)
    (case z4 => k_is)
    (case z5 => k_is)
    (case z6 => k_is)
    (case z7 => k_is)
    (case z8 => k_is)
    (case z9 => k_is)
    (case z10 => k_is)
