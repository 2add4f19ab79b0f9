import PyProof.Rows.All
import Wide.All
import OpenK.AllK
import Wide.FinOn
import Lean
import PyProof.EqAt
import PyProof.EqKinds
import PyProof.TupleCall
import PyProof.NeKinds
import KE.KIntText
import PySem.Challenge.RW_twoforone_k90_webs_and_heaps_written
set_option Elab.async false
set_option linter.all false
set_option maxRecDepth 100000
set_option maxHeartbeats 4000000
namespace L2
open PySem PySem.Spec PyProof.Rows
noncomputable abbrev Key := Sum Int Str
noncomputable def zev : Key → Value → Bool
  | .inl k, v => Value.isInt k v
  | .inr x, v => Value.isStrOf x v
noncomputable def keyH (w : World) : Key → Int
  | .inl k => hashInt k
  | .inr x => hashStr w x
theorem yc : ∀ {k : Key} {v : Value}, zev k v = true → (∃ i t, k = Sum.inl i ∧ v = Value.int i t) ∨ (∃ x t, k = Sum.inr x ∧ v = Value.str x t)
  | .inl i, v, h => by
    obtain ⟨t, e⟩ := Value.isInt_shape (k := i) (v := v) h
    exact .inl ⟨i, t, rfl, e⟩
  | .inr x, v, h => by
    obtain ⟨t, e⟩ := Value.isStrOf_shape (x := x) (v := v) h
    exact .inr ⟨x, t, rfl, e⟩
theorem zdW (a b : Int) : decide ((Sum.inl a : Key) = Sum.inl b) = (a == b) := by
  by_cases e : a = b
  · subst e; simp
  · have h : ¬ (Sum.inl a : Key) = Sum.inl b := fun q => e (Sum.inl.inj q)
    rw [decide_eq_false h]
    exact (beq_eq_false_iff_ne.mpr e).symm
theorem zdC (a b : Str) : decide ((Sum.inr a : Key) = Sum.inr b) = decide (a = b) := by
  by_cases e : a = b
  · subst e; simp
  · have h : ¬ (Sum.inr a : Key) = Sum.inr b := fun q => e (Sum.inr.inj q)
    rw [decide_eq_false h, decide_eq_false e]
theorem zdw (a : Int) (b : Str) : decide ((Sum.inl a : Key) = Sum.inr b) = false := decide_eq_false (fun q => nomatch q)
theorem zdJ (a : Str) (b : Int) : decide ((Sum.inr a : Key) = Sum.inl b) = false := decide_eq_false (fun q => nomatch q)
noncomputable def VN (prog : Program) (w : World) : PySem.KeyKind prog w Key where
  is := zev
  hash := keyH w
  inj := fun v a b ha hb => by
    rcases yc ha with ⟨i, t, rfl, rfl⟩ | ⟨x, t, rfl, rfl⟩
    · rcases yc hb with ⟨j, u, rfl, e⟩ | ⟨y, u, rfl, e⟩
      · injection e with e1 _; rw [e1]
      · exact nomatch e
    · rcases yc hb with ⟨j, u, rfl, e⟩ | ⟨y, u, rfl, e⟩
      · exact nomatch e
      · injection e with e1 _; rw [e1]
  byValue := fun k v h => by
    rcases yc h with ⟨i, t, rfl, rfl⟩ | ⟨x, t, rfl, rfl⟩ <;> rfl
  pyHash := fun hv h => by
    rcases yc hv with ⟨i, t, rfl, rfl⟩ | ⟨x, t, rfl, rfl⟩
    · exact wpAny_pyHash_int h
    · exact wpAny_pyHash_str h
  eqBool := fun hu hv h => by
    rcases yc hu with ⟨i, t, rfl, rfl⟩ | ⟨x, t, rfl, rfl⟩
    · rcases yc hv with ⟨j, u, rfl, rfl⟩ | ⟨y, u, rfl, rfl⟩
      · rw [zdW] at h; exact wpAny_eqBool_int h
      · rw [zdw] at h; exact SeqAt.EqAt.int_str i t y u _ _ _ _ h
    · rcases yc hv with ⟨j, u, rfl, rfl⟩ | ⟨y, u, rfl, rfl⟩
      · rw [zdJ] at h; exact SeqAt.EqAt.str_int x t j u _ _ _ _ h
      · rw [zdC] at h; exact wpAny_eqBool_str h
  «strs» := fun k x t v h => by
    rcases yc h with ⟨i, u, rfl, e⟩ | ⟨y, u, rfl, e⟩
    · exact nomatch e
    · injection e with e1 _
      subst e1
      cases v <;> rfl
inductive V where
  | non | bl (b : Bool) | int (i : Int) | str (x : Str) | byt (b : Array UInt8) | flt (b : UInt64) | ref (a : Addr) | ty (n : String)
  deriving DecidableEq
noncomputable def xE : V → Value → Prop
  | .non, u => u = Value.none
  | .bl b, u => u = Value.bool b
  | .int i, u => ∃ t, u = Value.int i t
  | .str x, u => ∃ t, u = Value.str x t
  | .byt b, u => ∃ t, u = Value.bytes b t
  | .flt b, u => ∃ t, u = Value.float b t
  | .ref a, u => u = Value.ref a
  | .ty n, u => u = Value.type n
noncomputable abbrev yu : List V → List Value → Prop := Paired xE
theorem yu.length {xs : List V} {us : List Value} (r : yu xs us) : xs.length = us.length := Paired.length r
theorem yu.get : ∀ {xs : List V} {us : List Value} {i : Nat} {x : V}, yu xs us → xs[i]? = some x → ∃ u, us[i]? = some u ∧ xE x u
  | _, _, _, _, .nil, e => by simp at e
  | _, _, 0, _, .cons r _, e => by simp at e; subst e; exact ⟨_, rfl, r⟩
  | _, _, i + 1, x, .cons _ t, e => by
    obtain ⟨u, h1, h2⟩ := yu.get (i := i) (x := x) t (by simpa using e)
    exact ⟨u, by simpa using h1, h2⟩
theorem yu.append : ∀ {xs ys : List V} {us ws : List Value}, yu xs us → yu ys ws → yu (xs ++ ys) (us ++ ws) := by
  intro xs ys us ws h s
  induction h with
  | nil => exact s
  | cons r t ih => exact .cons r ih
theorem yu.take : ∀ {xs : List V} {us : List Value} (n : Nat), yu xs us → yu (xs.take n) (us.take n)
  | _, _, 0, _ => .nil
  | _, _, _ + 1, .nil => .nil
  | _, _, n + 1, .cons r t => .cons r (yu.take n t)
theorem yu.drop : ∀ {xs : List V} {us : List Value} (n : Nat), yu xs us → yu (xs.drop n) (us.drop n)
  | _, _, 0, r => r
  | _, _, _ + 1, .nil => .nil
  | _, _, n + 1, .cons _ t => yu.drop n t
noncomputable def zeK : Option V → Option Value → Prop
  | some v, some u => xE v u
  | none, none => True
  | _, _ => False
noncomputable def KV {κ : Type} : List (κ × V) → List (κ × Value) → Prop := Paired fun (p : κ × V) (q : κ × Value) => p.1 = q.1 ∧ xE p.2 q.2
noncomputable def kV : Key → V
  | .inl i => .int i
  | .inr x => .str x
inductive HO where
    | lst (xs : List V)
    | tup (xs : List V)
    | dK (kvs : List (Key × V)) | dT (kvs : List (List Key × V))
    | set (S : Int → Bool) (n : Nat)
    | ins (C dx : Addr) (fs : List (Str × V))
    | own (x : Addr)
    | xd (fs : List (Str × V))
    | met (f x : Addr)
    | rng (lo hi : Int)
    | frz (o : Obj) (u : HO)
    | tbl (ps : Array Value)
    | ext (φ : Heap → Prop)
noncomputable abbrev Hp := Addr → Option HO
noncomputable def upd (H : Hp) (a : Addr) (o : HO) : Hp := fun b => if b = a then some o else H b
theorem zq {H : Hp} {a : Addr} {o : HO} : upd H a o a = some o := by unfold upd; rw [if_pos rfl]
theorem zo {H : Hp} {a b : Addr} {o : HO} (h : b ≠ a) : upd H a o b = H b := by unfold upd; rw [if_neg h]
theorem V9 {H : Hp} {a : Addr} {o u : HO} : upd (upd H a o) a u = upd H a u := by
  funext b; unfold upd; split <;> rfl
theorem zl {H : Hp} {a b : Addr} {o : HO} (h : H a = some o) (h' : H b = none) : a ≠ b := by
  intro e; subst e; rw [h] at h'; cases h'
section
variable (P : Program) (w : World)
noncomputable def xM (H : Hp) (h : Heap) (a : Addr) : HO → Prop
  | .lst xs => xs.length ≤ sizeLine ∧ ∃ (its : List Value) (n : Nat), yu xs its ∧ h.get? a = some { cls := .type "list", data := .seq its.toArray n }
  | .tup xs => xs.length ≤ sizeLine ∧ ∃ its : List Value, yu xs its ∧ IsTup h a its.toArray
  | .dK kvs => kvs.length ≤ sizeLine ∧ (a == sysModules) = false ∧ ∃ vs, KV kvs vs ∧ h.DictOf (VN P w) a vs
  | .dT kvs => kvs.length ≤ sizeLine ∧ (a == sysModules) = false ∧ ∃ xs : List (List Key × Addr × Value),
      Paired (fun (p : List Key × V) (q : List Key × Addr × Value) => p.1 = q.1 ∧ H q.2.1 = some (.tup (p.1.map kV)) ∧ xE p.2 q.2.2) kvs xs ∧
      ∃ o es ep, h.get? a = some o ∧ o.ExactDict ∧ o.data = .dict es ep ∧ es.toList = xs.map (entryOfKey (tupleKind (VN P w))) ∧ (xs.map (·.1)).Nodup
  | .set S n => h.SetOf (intKind P w) a S n
  | .ins C dx fs => H dx = some (.own a) ∧ fs.length ≤ 1000 ∧ dx ≠ a ∧ h.get? a = some (PySem.W.instObj C dx) ∧
      ∃ mA, h.Ns1 dx mA ∧ (∀ f, zeK (fs.lookup f) (mA f)) ∧ PySem.Within mA (fs.map (·.1))
  | .own _ => ∃ o, h.get? a = some o
  | .xd fs => ∃ mA, h.Ns1 a mA ∧ ∀ f, zeK (fs.lookup f) (mA f)
  | .rng lo hi => ∃ t u v, h.get? a = some { cls := .type "range", data := .fields #[.int lo t, .int hi u, .int 1 v] }
  | .frz o u => h.get? a = some o ∧ xM H h a u
  | .tbl ps => h.get? a = some { cls := .none, data := .fields ps }
  | .met f x => h.get? a = some (PySem.W.methodObj (.ref f) (.ref x))
  | .ext φ => φ h ∧ (∃ o, h.get? a = some o) ∧ ∀ h1 h2 : Heap, φ h1 → (∀ o, h1.get? a = some o → h2.get? a = some o) → φ h2
noncomputable def HOk (H : Hp) (h : Heap) : Prop := ∀ a o, H a = some o → xM P w H h a o
end
section
variable {P : Program} {w : World} {H H' : Hp} {h h' : Heap} {a : Addr} {o : HO}
theorem xM.lt (x : xM P w H h a o) : a < h.objs.size := by
  cases o with
  | lst xs => obtain ⟨_, _, _, _, e⟩ := x; exact Heap.lt_size e
  | tup xs => obtain ⟨_, _, _, p⟩ := x; exact p.lt
  | dK kvs => obtain ⟨_, _, _, _, o, _, _, e, _⟩ := x; exact Heap.lt_size e
  | dT kvs => obtain ⟨_, _, _, _, o, _, _, e, _⟩ := x; exact Heap.lt_size e
  | set S n => obtain ⟨o, _, _, _, e, _⟩ := x; exact Heap.lt_size e
  | ins C dx fs => obtain ⟨_, _, _, e, _⟩ := x; exact Heap.lt_size e
  | own y => obtain ⟨_, e⟩ := x; exact Heap.lt_size e
  | xd fs => obtain ⟨_, ⟨_, _, _, e, _⟩, _⟩ := x; exact Heap.lt_size e
  | rng lo hi => obtain ⟨_, _, _, e⟩ := x; exact Heap.lt_size e
  | frz ob u => obtain ⟨e, _⟩ := x; exact Heap.lt_size e
  | tbl ps => exact Heap.lt_size (show h.get? a = some _ from x)
  | met f y => exact Heap.lt_size (show h.get? a = some _ from x)
  | ext φ => obtain ⟨_, ⟨_, e⟩, _⟩ := x; exact Heap.lt_size e
theorem Paired.mapP {α β : Type} {F G : α → β → Prop} : ∀ {l₁ : List α} {l₂ : List β}, Paired F l₁ l₂ → (∀ a b, F a b → G a b) → Paired G l₁ l₂ := by
  intro l1 l2 h f
  induction h with
  | nil => exact .nil
  | cons r t ih => exact .cons (f _ _ r) ih
theorem xM.stay (x : xM P w H h a o) (k : ∀ b u, (b = a ∨ H b = some (.own a)) → h.get? b = some u → h'.get? b = some u)
    (ho : ∀ b, H b = some (.own a) → H' b = some (.own a)) (ht : ∀ b xs, H b = some (.tup xs) → H' b = some (.tup xs)) : xM P w H' h' a o := by
  induction o with
  | lst xs => obtain ⟨z, its, n, r, e⟩ := x; exact ⟨z, its, n, r, k _ _ (.inl rfl) e⟩
  | tup xs => obtain ⟨z, its, r, ob, e, c⟩ := x; exact ⟨z, its, r, ob, k _ _ (.inl rfl) e, c⟩
  | dK kvs => obtain ⟨z, y, vs, r, ob, es, ep, e, c⟩ := x; exact ⟨z, y, vs, r, ob, es, ep, k _ _ (.inl rfl) e, c⟩
  | dT kvs =>
    obtain ⟨z, y, xs, r, ob, es, ep, e, c⟩ := x
    exact ⟨z, y, xs, Paired.mapP r fun p q z => ⟨z.1, ht _ _ z.2.1, z.2.2⟩, ob, es, ep, k _ _ (.inl rfl) e, c⟩
  | set S n => obtain ⟨ob, es, ep, t, e, c⟩ := x; exact ⟨ob, es, ep, t, k _ _ (.inl rfl) e, c⟩
  | ins C dx fs =>
    obtain ⟨d, z, ne, e, mA, ⟨od, es, ep, e2, c⟩, r⟩ := x
    exact ⟨ho _ d, z, ne, k _ _ (.inl rfl) e, mA, ⟨od, es, ep, k _ _ (.inr d) e2, c⟩, r⟩
  | own y => obtain ⟨ob, e⟩ := x; exact ⟨ob, k _ _ (.inl rfl) e⟩
  | xd fs => obtain ⟨mA, ⟨od, es, ep, e, c⟩, r⟩ := x; exact ⟨mA, ⟨od, es, ep, k _ _ (.inl rfl) e, c⟩, r⟩
  | rng lo hi => obtain ⟨t, u, v, e⟩ := x; exact ⟨t, u, v, k _ _ (.inl rfl) e⟩
  | frz ob u ih => obtain ⟨e, q⟩ := x; exact ⟨k _ _ (.inl rfl) e, ih q⟩
  | tbl ps =>
    have e : h.get? a = some { cls := .none, data := .fields ps } := x
    show h'.get? a = some { cls := .none, data := .fields ps }
    exact k a _ (.inl rfl) e
  | met f y =>
    have e : h.get? a = some (PySem.W.methodObj (.ref f) (.ref y)) := x
    show h'.get? a = some (PySem.W.methodObj (.ref f) (.ref y))
    exact k a _ (.inl rfl) e
  | ext φ => obtain ⟨p, ⟨o, e⟩, st⟩ := x; exact ⟨st _ _ p fun o q => k _ _ (.inl rfl) q, ⟨o, k _ _ (.inl rfl) e⟩, st⟩
theorem HOk.lt (x : HOk P w H h) (e : H a = some o) : a < h.objs.size := (x a o e).lt
theorem HOk.fresh (x : HOk P w H h) (e : h.objs.size ≤ a) : H a = none := by
  cases q : H a with
  | none => rfl
  | some u => exact absurd (Nat.lt_of_lt_of_le (x.lt q) e) (Nat.lt_irrefl _)
theorem HOk.kept (x : HOk P w H h) (k : ∀ b u, h.get? b = some u → h'.get? b = some u) : HOk P w H h' := fun a o e =>
  (x a o e).stay (fun b u _ q => k b u q) (fun _ q => q) fun _ _ q => q
theorem HOk.laid (x : HOk P w H h) (k : ∀ b u, h.get? b = some u → h'.get? b = some u) (hp : h.objs.size ≤ a) (new : xM P w (upd H a o) h' a o) : HOk P w (upd H a o) h' := fun b u e => by
  have hn := x.fresh hp
  by_cases hb : b = a
  · subst hb; rw [zq] at e; cases e; exact new
  · rw [zo hb] at e
    exact (x b u e).stay (fun c v _ q => k c v q) (fun c q => by rw [zo (zl q hn)]; exact q) fun c xs q => by rw [zo (zl q hn)]; exact q
end
noncomputable def Rd (H : Hp) (a : Addr) (u : HO) : Prop := H a = some u ∨ ∃ o, H a = some (.frz o u)
theorem Rd.ok {P : Program} {w : World} {H : Hp} {h : Heap} {a : Addr} {u : HO} (r : Rd H a u) (x : HOk P w H h) : xM P w H h a u := by
  rcases r with r | ⟨o, r⟩
  · exact x a u r
  · obtain ⟨_, q⟩ := x a _ r
    exact q
noncomputable def Mut : Option HO → Prop
  | some (.lst _) => True
  | some (.dK _) => True
  | some (.dT _) => True
  | some (.set _ _) => True
  | some (.ins _ _ _) => True
  | some (.ext _) => True
  | _ => False
section
variable {P : Program} {w : World} {H : Hp} {h h' : Heap} {x e : Addr} {o' : HO}
theorem HOk.write (ok : HOk P w H h) (mu : Mut (H x)) (he : e = x ∨ H e = some (.own x)) (k : ∀ b u, b ≠ e → h.get? b = some u → h'.get? b = some u) (heo : ∃ u, h'.get? e = some u)
    (new : xM P w (upd H x o') h' x o') : HOk P w (upd H x o') h' := fun b u q => by
  have nown : ∀ c y, H c = some (.own y) → c ≠ x := fun c y r z => by subst z; rw [r] at mu; exact mu
  have ntup : ∀ c xs, H c = some (.tup xs) → c ≠ x := fun c xs r z => by subst z; rw [r] at mu; exact mu
  by_cases hb : b = x
  · subst hb; rw [zq] at q; cases q; exact new
  · rw [zo hb] at q
    by_cases hbe : b = e
    · have q' : H b = some (.own x) := by
        rcases he with z | z
        · exact absurd (hbe.trans z) hb
        · rw [hbe]; exact z
      rw [q] at q'; cases q'
      obtain ⟨v, hv⟩ := heo
      exact ⟨v, by rw [hbe]; exact hv⟩
    · refine (ok b u q).stay (fun c v hc r => k c v ?_ r) (fun c r => by rw [zo (nown c b r)]; exact r) fun c xs r => by rw [zo (ntup c xs r)]; exact r
      rcases hc with rfl | hc
      · exact hbe
      · rintro rfl
        rcases he with z | z
        · exact nown c b hc z
        · rw [hc] at z; cases z; exact hb rfl
end
set_option genInjectivity false in
set_option genSizeOf false in
set_option genCtorIdx false in
structure Un (fs ex : List Addr) (H H' : Hp) (h h' : Heap) : Prop where
  keep : ∀ b o, h.get? b = some o → H b = none → b ∉ fs → b ∉ ex → h'.get? b = some o
  slot : ∀ b o, h.get? b = some o → H b = none → b ∈ fs → b ∉ ex → ∃ sl, h'.get? b = some { o with slots := sl }
  free : ∀ b o, h.get? b = some o → H b = none → b ∉ ex → H' b = none
  there : ∀ b o, h.get? b = some o → b ∉ ex → ∃ o', h'.get? b = some o'
  tups : ∀ b xs, H b = some (.tup xs) → H' b = some (.tup xs)
  frzs : ∀ b o u, H b = some (.frz o u) → H' b = some (.frz o u)
  tbls : ∀ b ps, H b = some (.tbl ps) → ∃ more, H' b = some (.tbl (ps ++ more))
section
variable {fs fs' ex ex' : List Addr} {H H1 H2 : Hp} {h h1 h2 h' : Heap} {a x e : Addr} {o : HO}
theorem Un.any (u : Un fs ex H H1 h h1) {b : Addr} {ob : Obj} (q : h.get? b = some ob) (n : H b = none) (hx : b ∉ ex) : ∃ sl, h1.get? b = some { ob with slots := sl } := by
  by_cases hb : b ∈ fs
  · exact u.slot b ob q n hb hx
  · exact ⟨ob.slots, u.keep b ob q n hb hx⟩
theorem Un.kept (k : ∀ b u, h.get? b = some u → h'.get? b = some u) : Un fs ex H H h h' :=
  ⟨fun b ob q _ _ _ => k b ob q, fun b ob q _ _ _ => ⟨ob.slots, k b ob q⟩, fun _ _ _ n _ => n, fun b ob q _ => ⟨ob, k b ob q⟩, fun _ _ q => q, fun _ _ _ q => q, fun _ ps q => ⟨#[], by rw [q]; simp⟩⟩
theorem Un.refl : Un fs ex H H h h := Un.kept fun _ _ q => q
theorem Un.laid (k : ∀ b u, h.get? b = some u → h'.get? b = some u) (hp : h.objs.size ≤ a) (hn : H a = none) : Un fs ex H (upd H a o) h h' where
  keep := fun b u q _ _ _ => k b u q
  slot := fun b u q _ _ _ => ⟨u.slots, k b u q⟩
  free := fun b u q n _ => by rw [zo (Nat.ne_of_lt (Nat.lt_of_lt_of_le (Heap.lt_size q) hp))]; exact n
  there := fun b u q _ => ⟨u, k b u q⟩
  tups := fun b xs q => by rw [zo (zl q hn)]; exact q
  frzs := fun b u xs q => by rw [zo (zl q hn)]; exact q
  tbls := fun b ps q => ⟨#[], by rw [zo (zl q hn), q]; simp⟩
theorem Un.write (mu : Mut (H x)) (he : e = x ∨ H e = some (.own x)) (k : ∀ b u, b ≠ e → h.get? b = some u → h'.get? b = some u) (heo : ∃ u, h'.get? e = some u) : Un fs ex H (upd H x o) h h' := by
  have hx : ∀ b, H b = none → b ≠ x := fun b n z => by subst z; rw [n] at mu; exact mu
  have hb : ∀ b, H b = none → b ≠ e := fun b n z => by
    subst z
    rcases he with r | r
    · exact hx b n r
    · rw [n] at r; cases r
  have hm : ∀ b u, H b = some u → ¬ Mut (some u) → b ≠ x := fun b u q nm z => by subst z; rw [q] at mu; exact nm mu
  refine ⟨fun b u q n _ _ => k b u (hb b n) q, fun b u q n _ _ => ⟨u.slots, k b u (hb b n) q⟩, fun b u q n _ => by rw [zo (hx b n)]; exact n, fun b u q _ => ?_,
    fun b xs q => by rw [zo (hm b _ q fun z => z)]; exact q, fun b u xs q => by rw [zo (hm b _ q fun z => z)]; exact q, fun b ps q => ⟨#[], by rw [zo (hm b _ q fun z => z), q]; simp⟩⟩
  by_cases hbe : b = e
  · subst hbe; exact heo
  · exact ⟨u, k b u hbe q⟩
end
noncomputable def trk (h : Heap) (H : Hp) : List Addr := (List.range h.objs.size).filter fun a => (H a).isSome
noncomputable def zbM (h : Heap) (H : Hp) : Heap := PySem.W.hideAll h (trk h H)
theorem zaO (h : Heap) (H : Hp) : (zbM h H).objs.size = h.objs.size := PySem.W.hideAll_size _ _
theorem zbv {h : Heap} {H : Hp} {b : Addr} {o : Obj} (e : h.get? b = some o) (n : H b = none) : (zbM h H).get? b = some o :=
  PySem.W.hideAll_get _ e fun hm => by
    have q : (H b).isSome = true := (List.mem_filter.mp hm).2
    rw [n] at q; simp at q
theorem zcw {h : Heap} {H : Hp} {b : Addr} {o : Obj} (e : (zbM h H).get? b = some o) : h.get? b = some o ∧ H b = none := by
  have e' : h.get? b = some o := PySem.W.of_hideAll (trk h H) e
  refine ⟨e', ?_⟩
  cases q : H b with
  | none => rfl
  | some x =>
    have hm : b ∈ trk h H := List.mem_filter.mpr ⟨List.mem_range.mpr (Heap.lt_size e'), by simp [q]⟩
    have z : (zbM h H).get? b = none := PySem.W.hideAll_none (trk h H) hm
    rw [z] at e; cases e
noncomputable def zcQ (g h : Heap) (L : Addr) : List (Addr × Obj) := (List.range h.objs.size).filterMap fun a => if a = L ∨ (g.get? a).isSome = true then none else (h.get? a).map fun o => (a, o)
noncomputable def rest (g h : Heap) (L d : Addr) : List (Addr × Obj) := (zcQ g h L).filter fun p => decide (p.1 ≠ d)
structure Mod (K : PySem.W.Frag) (mg : Str → Option Value) (base : Heap) : Prop where
  kin : K.In base
  glob : base.Ns mainGlobals mg
  blt : ∃ mb, base.Ns builtinsNs mb ∧ ∀ x : Str, x ≠ "__name__" → mb x = bootBuiltins x
  nolimit : base.NoLimit
structure Cx where
  prog : Program
  w : World
  K : PySem.W.Frag
  mg : Str → Option Value
  base : Heap
  A : Around
  N : List Str
  s₀ : Shared
  H₀ : Hp
  env : Env
  outer : List Env
  stack : List Env
  ex : List Addr
  fn : Str → Bool
  calm : Bool
  pn : List (Addr × Obj)
  xe : Value → Shared → Prop
noncomputable def frs (l : List Env) : List Addr := l.filterMap (·.frame)
noncomputable abbrev Cx.fs (X : Cx) : List Addr := frs X.outer
noncomputable def Vis (sc : Scope) (x : Str) : Prop := sc.names.lookup x = some .local ∨ sc.names.lookup x = some .cell ∨ sc.names.lookup x = some .free
noncomputable def Loc (sc : Scope) (x : Str) : Prop := sc.names.lookup x = some .local ∨ sc.names.lookup x = some .cell
noncomputable def Look (env : Env) (h : Heap) (m : Str → Option Value) (x : Str) (u : Value) : Prop :=
  (env.kindOf x = some .local ∧ m x = some u) ∨ ((env.kindOf x = some .cell ∨ env.kindOf x = some .free) ∧ ∃ c, env.cells.lookup x = some c ∧ h.IsCell c (some u))
set_option genInjectivity false in
set_option genSizeOf false in
set_option genCtorIdx false in
structure Cx.Ok (X : Cx) : Prop where
  mod : Mod X.K X.mg X.base
  kind : X.env.scope.kind = .function
  glob : X.env.globals = mainGlobals
  blt : X.env.builtins = builtinsNs
  above : X.s₀.heap.objs.size ≤ X.env.locals
  inj : ∀ x y c, X.env.cells.lookup x = some c → X.env.cells.lookup y = some c → x = y
  has : ∀ x, (X.env.kindOf x = some .cell ∨ X.env.kindOf x = some .free) → ∃ c, X.env.cells.lookup x = some c
  cab : ∀ x c, X.fn x = true → X.env.cells.lookup x = some c → X.s₀.heap.objs.size ≤ c
  hd : X.calm = true → X.A.handled = none
  frames : X.A.frames = some X.stack
  stk : X.stack = X.outer ∨ (X.stack = X.env :: X.outer ∧ X.env.frame = some X.env.locals)
  exf : ∀ b ∈ X.ex, b ≠ X.env.locals ∧ ∀ x c, X.env.cells.lookup x = some c → c ≠ b
  bs : ∀ b o, X.base.get? b = some o → X.s₀.heap.get? b = some o ∧ X.H₀ b = none
  bsz : X.base.objs.size ≤ X.s₀.heap.objs.size
  noex : ∀ b o, X.base.get? b = some o → b ∉ X.ex
  exfs : ∀ b ∈ X.ex, b ∉ X.fs
  funs : X.s₀.heap.FunFrames X.base X.outer
  frf : ∀ b ∈ X.fs, X.H₀ b = none
set_option genInjectivity false in
set_option genSizeOf false in
set_option genCtorIdx false in
structure Inv (X : Cx) (pins : List (Addr × Obj)) (σ : List (Option V)) (H : Hp) (s : Shared) : Prop where
  ok : X.Ok
  os : s.os = X.s₀.os
  bare : AllBare s.gens
  base : Un X.fs X.ex X.H₀ H X.s₀.heap s.heap
  loc : ∃ m, s.heap.Ns X.env.locals m ∧ ∀ (i : Nat) (x : Str) (v : V), X.N[i]? = some x → σ[i]? = some (some v) → Vis X.env.scope x → ∃ u, xE v u ∧ Look X.env s.heap m x u
  cell : ∀ x c, X.env.cells.lookup x = some c → ∃ v, s.heap.IsCell c v
  free : H X.env.locals = none
  freeC : ∀ x c, X.env.cells.lookup x = some c → H c = none
  pin : ∀ p ∈ X.pn ++ pins, s.heap.get? p.1 = some p.2 ∧ H p.1 = none ∧ p.1 ≠ X.env.locals ∧ p.1 ∉ X.fs ∧ ∀ v, p.2.data ≠ .cell v
  hok : HOk X.prog X.w H s.heap
  len : σ.length = X.N.length
section
variable {X : Cx} {pins : List (Addr × Obj)} {σ : List (Option V)} {H H' : Hp} {s : Shared} {h' : Heap}
theorem Cx.Ok.nofr (ok : X.Ok) {b : Addr} {o : Obj} (e : X.base.get? b = some o) : b ∉ X.fs := fun hb => by
  have := (ok.funs.mem hb).1
  rw [e] at this; cases this
theorem Inv.bs (I : Inv X pins σ H s) : ∀ b o, X.base.get? b = some o → s.heap.get? b = some o ∧ H b = none := fun b o e =>
  ⟨I.base.keep b o (I.ok.bs b o e).1 (I.ok.bs b o e).2 (I.ok.nofr e) (I.ok.noex b o e), I.base.free b o (I.ok.bs b o e).1 (I.ok.bs b o e).2 (I.ok.noex b o e)⟩
theorem Inv.bk (I : Inv X pins σ H s) : ∀ b o, X.base.get? b = some o → s.heap.get? b = some o := fun b o e => (I.bs b o e).1
theorem Inv.mod (I : Inv X pins σ H s) : Mod X.K X.mg X.base := I.ok.mod
theorem Inv.kIn (I : Inv X pins σ H s) : X.K.In s.heap := I.ok.mod.kin.keeps I.bk
theorem Inv.fr (I : Inv X pins σ H s) : ∃ m, Fr X.base X.env.locals s.heap m :=
  let ⟨m, hn, _⟩ := I.loc
  ⟨m, hn, I.bk, Nat.le_trans I.ok.bsz I.ok.above⟩
theorem Inv.lt (I : Inv X pins σ H s) : X.env.locals < s.heap.objs.size := let ⟨_, hn, _⟩ := I.loc; hn.lt
theorem Inv.sz (I : Inv X pins σ H s) : X.s₀.heap.objs.size ≤ s.heap.objs.size := Nat.le_trans I.ok.above (Nat.le_of_lt I.lt)
theorem Inv.nofs (I : Inv X pins σ H s) {a : Addr} (h : s.heap.objs.size ≤ a) : a ∉ X.fs := fun hb => by
  obtain ⟨_, o, ho, _⟩ := I.ok.funs.mem hb
  exact absurd (Nat.lt_of_lt_of_le (Heap.lt_size ho) (Nat.le_trans I.sz h)) (Nat.lt_irrefl _)
theorem Inv.cne (I : Inv X pins σ H s) : ∀ x c, X.env.cells.lookup x = some c → c ≠ X.env.locals := fun x c e z => by
  obtain ⟨v, o, ho, hd⟩ := I.cell x c e
  obtain ⟨m, ⟨o', es, ep, ho', hd', _⟩, _⟩ := I.loc
  rw [z, ho'] at ho; cases ho; rw [hd'] at hd; cases hd
theorem Inv.funs (I : Inv X pins σ H s) : s.heap.FunFrames X.base X.outer := by
  have all : ∀ (l : List Env), (∀ b ∈ frs l, b ∈ X.fs) → X.s₀.heap.FunFrames X.base l → s.heap.FunFrames X.base l := by
    intro l
    induction l with
    | nil => intro _ _; trivial
    | cons env r ih =>
      intro hs hl
      obtain ⟨hk, ⟨L, o, hf, hn, ho, hd⟩, hr⟩ := hl
      have hL : L ∈ X.fs := hs L (by unfold frs; rw [List.filterMap_cons, hf]; exact List.mem_cons_self)
      obtain ⟨sl, e⟩ := I.base.slot L o ho (I.ok.frf L hL) hL fun z => I.ok.exfs L z hL
      exact ⟨hk, ⟨L, _, hf, hn, e, hd⟩, ih (fun b hb => hs b (by unfold frs; rw [List.filterMap_cons, hf]; exact List.mem_cons_of_mem _ hb)) hr⟩
  exact all X.outer (fun _ hb => hb) I.ok.funs
theorem Inv.stack (I : Inv X pins σ H s) : s.heap.FunFrames X.base X.stack := by
  rcases I.ok.stk with e | ⟨e, hf⟩
  · rw [e]; exact I.funs
  · rw [e]
    obtain ⟨m, hn, _⟩ := I.loc
    refine .cons (by rw [I.ok.kind]; decide) hf hn ?_ I.funs
    exact Heap.get?_none_of_le (Nat.le_trans I.ok.bsz I.ok.above)
theorem Inv.stkSub (I : Inv X pins σ H s) : ∀ b ∈ frs X.stack, b ∈ X.env.locals :: X.fs := fun b hb => by
  rcases I.ok.stk with e | ⟨e, hf⟩
  · rw [e] at hb; exact List.mem_cons_of_mem _ hb
  · rw [e] at hb
    unfold frs at hb
    rw [List.filterMap_cons, hf] at hb
    exact hb
theorem Inv.stkFree (I : Inv X pins σ H s) : ∀ b ∈ frs X.stack, H b = none := fun b hb => by
  rcases List.mem_cons.mp (I.stkSub b hb) with e | hb
  · rw [e]; exact I.free
  · obtain ⟨_, o, ho, _⟩ := I.ok.funs.mem hb
    exact I.base.free b o ho (I.ok.frf b hb) fun z => I.ok.exfs b z hb
theorem Inv.step {g' : Array GenState} {t' : Nat} {d' : Drawn} {ch : List Addr} (I : Inv X pins σ H s)
    (hch : ∀ b ∈ ch, (b ∈ X.ex ∨ X.s₀.heap.objs.size ≤ b) ∧ b ≠ X.env.locals ∧ (∀ x c, X.env.cells.lookup x = some c → c ≠ b) ∧ ∀ p ∈ X.pn ++ pins, p.1 ≠ b)
    (keep : ∀ b o, b ≠ X.env.locals → b ∉ X.fs → b ∉ ch → s.heap.get? b = some o → H b = none → h'.get? b = some o)
    (slot : ∀ b o, b ≠ X.env.locals → b ∈ X.fs → b ∉ ch → s.heap.get? b = some o → H b = none → ∃ sl, h'.get? b = some { o with slots := sl }) (free : ∀ b o, b ∉ ch → s.heap.get? b = some o → H b = none → H' b = none)
    (there : ∀ b o, b ∉ ch → s.heap.get? b = some o → ∃ o', h'.get? b = some o')
    (tups : ∀ b xs, H b = some (.tup xs) → H' b = some (.tup xs)) (frzs : ∀ b o u, H b = some (.frz o u) → H' b = some (.frz o u)) (tbls : ∀ b ps, H b = some (.tbl ps) → ∃ more, H' b = some (.tbl (ps ++ more)))
    (ns : ∀ m, s.heap.Ns X.env.locals m → h'.Ns X.env.locals m) (hok : HOk X.prog X.w H' h') (hg : AllBare g') :
    Inv X pins σ H' { s with heap := h', gens := g', drawn := d', toks := t' } := by
  have neL : ∀ b o, X.s₀.heap.get? b = some o → b ≠ X.env.locals := fun b o e => Nat.ne_of_lt (Nat.lt_of_lt_of_le (Heap.lt_size e) I.ok.above)
  have neC : ∀ b o, X.s₀.heap.get? b = some o → b ∉ X.ex → b ∉ ch := fun b o e hx hb => by
    rcases (hch b hb).1 with z | z
    · exact hx z
    · exact absurd (Nat.lt_of_lt_of_le (Heap.lt_size e) z) (Nat.lt_irrefl _)
  have cellK : ∀ x c, X.env.cells.lookup x = some c → ∀ v, s.heap.IsCell c v → h'.IsCell c v := fun x c e v ⟨o, ho, hd⟩ => by
    have nch : c ∉ ch := fun z => (hch c z).2.2.1 x c e rfl
    by_cases hc : c ∈ X.fs
    · obtain ⟨sl, q⟩ := slot c o (I.cne x c e) hc nch ho (I.freeC x c e)
      exact ⟨_, q, hd⟩
    · exact ⟨o, keep c o (I.cne x c e) hc nch ho (I.freeC x c e), hd⟩
  refine ⟨I.ok, I.os, hg, ⟨fun b o e n hb hx => ?_, fun b o e n hb hx => ?_, fun b o e n hx => ?_, fun b o e hx => ?_, fun b xs e => tups b xs (I.base.tups b xs e), fun b o xs e => frzs b o xs (I.base.frzs b o xs e), fun b ps e => ?_⟩, ?_, fun x c e => ?_, ?_, fun x c e => ?_, fun p hp => ?_, hok, I.len⟩
  · exact keep b o (neL b o e) hb (neC b o e hx) (I.base.keep b o e n hb hx) (I.base.free b o e n hx)
  · obtain ⟨sl, e1⟩ := I.base.slot b o e n hb hx
    obtain ⟨sl', e2⟩ := slot b _ (neL b o e) hb (neC b o e hx) e1 (I.base.free b o e n hx)
    exact ⟨sl', e2⟩
  · obtain ⟨o', e1⟩ := I.base.there b o e hx
    exact free b o' (neC b o e hx) e1 (I.base.free b o e n hx)
  · obtain ⟨o', e1⟩ := I.base.there b o e hx
    exact there b o' (neC b o e hx) e1
  · obtain ⟨m1, e1⟩ := I.base.tbls b ps e
    obtain ⟨m2, e2⟩ := tbls b _ e1
    exact ⟨m1 ++ m2, by rw [e2, Array.append_assoc]⟩
  · obtain ⟨m, hn, hl⟩ := I.loc
    refine ⟨m, ns m hn, fun i x v e1 e2 e3 => ?_⟩
    obtain ⟨u, r, l⟩ := hl i x v e1 e2 e3
    refine ⟨u, r, ?_⟩
    rcases l with l | ⟨k, c, e, z⟩
    · exact .inl l
    · exact .inr ⟨k, c, e, cellK x c e _ z⟩
  · obtain ⟨v, z⟩ := I.cell x c e
    exact ⟨v, cellK x c e v z⟩
  · obtain ⟨m, ⟨o, _, _, ho, _⟩, _⟩ := I.loc
    exact free _ o (fun z => (hch _ z).2.1 rfl) ho I.free
  · obtain ⟨v, o, ho, hd⟩ := I.cell x c e
    exact free c o (fun z => (hch c z).2.2.1 x c e rfl) ho (I.freeC x c e)
  · obtain ⟨e, n, ne, nf, d⟩ := I.pin p hp
    have nch : p.1 ∉ ch := fun z => (hch p.1 z).2.2.2 p hp rfl
    exact ⟨keep p.1 p.2 ne nf nch e n, free p.1 p.2 nch e n, ne, nf, d⟩
theorem Inv.un {t' : Nat} (I : Inv X pins σ H s) (u : Un X.fs [] H H' s.heap h') (hok : HOk X.prog X.w H' h') : Inv X pins σ H' { s with heap := h', toks := t' } := by
  obtain ⟨m, ⟨o, es, ep, ho, r⟩, _⟩ := id I.loc
  obtain ⟨sl, hL⟩ := u.any ho I.free (by simp)
  exact I.step (g' := s.gens) (d' := s.drawn) (ch := []) (fun _ z => nomatch z) (fun b o _ hb _ e n => u.keep b o e n hb (by simp)) (fun b o _ hb _ e n => u.slot b o e n hb (by simp)) (fun b o _ e n => u.free b o e n (by simp)) (fun b o _ e => u.there b o e (by simp)) u.tups u.frzs u.tbls (fun m' hm => by
    obtain ⟨o', es', ep', ho', r'⟩ := hm
    rw [ho] at ho'; cases ho'
    exact ⟨_, es', ep', hL, r'⟩) hok I.bare
theorem Inv.call {g' : Array GenState} {t' : Nat} {d' : Drawn} {ch : List Addr} (I : Inv X pins σ H s) (u : Un (frs X.stack) ch H H' s.heap h') (hok : HOk X.prog X.w H' h') (hg : AllBare g')
    (hch : ∀ b ∈ ch, (b ∈ X.ex ∨ X.s₀.heap.objs.size ≤ b) ∧ b ≠ X.env.locals ∧ (∀ x c, X.env.cells.lookup x = some c → c ≠ b) ∧ ∀ p ∈ X.pn ++ pins, p.1 ≠ b) :
    Inv X pins σ H' { s with heap := h', gens := g', drawn := d', toks := t' } := by
  obtain ⟨m, ⟨o, es, ep, ho, r⟩, _⟩ := id I.loc
  obtain ⟨sl, hL⟩ := u.any ho I.free fun z => (hch _ z).2.1 rfl
  exact I.step (ch := ch) hch (fun b o hL hb hc e n => u.keep b o e n (fun z => (List.mem_cons.mp (I.stkSub b z)).elim hL hb) hc) (fun b o _ _ hc e n => u.any e n hc) (fun b o hc e n => u.free b o e n hc) (fun b o hc e => u.there b o e hc) u.tups u.frzs u.tbls (fun m' hm => by
    obtain ⟨o', es', ep', ho', r'⟩ := hm
    rw [ho] at ho'; cases ho'
    exact ⟨_, es', ep', hL, r'⟩) hok hg
theorem Inv.turned {t' : Nat} {it : Addr} (I : Inv X pins σ H s) (k : ∀ b o, b ≠ it → s.heap.get? b = some o → h'.get? b = some o) (hn : H it = none) (hL : it ≠ X.env.locals)
    (h1 : it ∈ X.ex ∨ X.s₀.heap.objs.size ≤ it) (h2 : ∀ x c, X.env.cells.lookup x = some c → c ≠ it) (h3 : ∀ p ∈ X.pn ++ pins, p.1 ≠ it) : Inv X pins σ H { s with heap := h', toks := t' } := by
  have nit : ∀ b u, H b = some u → b ≠ it := fun b u e z => by rw [z, hn] at e; cases e
  refine I.step (g' := s.gens) (d' := s.drawn) (ch := [it]) (fun b hb => ?_) (fun b o _ _ hc e _ => k b o (fun z => hc (by simp [z])) e) (fun b o _ _ hc e _ => ⟨o.slots, k b o (fun z => hc (by simp [z])) e⟩) (fun _ _ _ _ n => n)
    (fun b o hc e => ⟨o, k b o (fun z => hc (by simp [z])) e⟩) (fun _ _ e => e) (fun _ _ _ e => e) (fun b ps e => ⟨#[], by rw [e]; simp⟩) (fun m hm => ?_) (fun b u e => ?_) I.bare
  · have e : b = it := by simpa using hb
    subst e
    exact ⟨h1, hL, h2, h3⟩
  · obtain ⟨o, es, ep, ho, r⟩ := hm
    exact ⟨o, es, ep, k _ o (Ne.symm hL) ho, r⟩
  · refine (I.hok b u e).stay (fun c v hc q => k c v ?_ q) (fun _ q => q) fun _ _ q => q
    rcases hc with z | z
    · rw [z]; exact nit b u e
    · exact nit c _ z
theorem Inv.tok (I : Inv X pins σ H s) (t : Nat) : Inv X pins σ H { s with toks := t } := I.un (h' := s.heap) (t' := t) Un.refl I.hok
theorem Inv.kept {t' : Nat} (I : Inv X pins σ H s) (k : ∀ b u, s.heap.get? b = some u → h'.get? b = some u) : Inv X pins σ H { s with heap := h', toks := t' } := I.un (Un.kept k) (I.hok.kept k)
theorem Inv.laid {a : Addr} {o : HO} {t' : Nat} (I : Inv X pins σ H s) (k : ∀ b u, s.heap.get? b = some u → h'.get? b = some u) (hp : s.heap.objs.size ≤ a) (new : xM X.prog X.w (upd H a o) h' a o) :
    Inv X pins σ (upd H a o) { s with heap := h', toks := t' } := I.un (Un.laid k hp (I.hok.fresh hp)) (I.hok.laid k hp new)
theorem Inv.write {x e : Addr} {o : HO} {t' : Nat} (I : Inv X pins σ H s) (mu : Mut (H x)) (he : e = x ∨ H e = some (.own x)) (k : ∀ b u, b ≠ e → s.heap.get? b = some u → h'.get? b = some u) (heo : ∃ u, h'.get? e = some u)
    (new : xM X.prog X.w (upd H x o) h' x o) : Inv X pins σ (upd H x o) { s with heap := h', toks := t' } := I.un (Un.write mu he k heo) (I.hok.write mu he k heo new)
theorem Inv.weak {σ' : List (Option V)} (I : Inv X pins σ H s) (hl : σ'.length = σ.length) (w : ∀ (i : Nat) v, σ'[i]? = some (some v) → σ[i]? = some (some v)) : Inv X pins σ' H s :=
  ⟨I.ok, I.os, I.bare, I.base, let ⟨m, hn, hl'⟩ := I.loc; ⟨m, hn, fun i x v e1 e2 e3 => hl' i x v e1 (w i v e2) e3⟩, I.cell, I.free, I.freeC, I.pin, I.hok, hl.trans I.len⟩
theorem Inv.pins_of {pins' : List (Addr × Obj)} (I : Inv X pins σ H s) (h : ∀ p ∈ pins', s.heap.get? p.1 = some p.2 ∧ H p.1 = none ∧ p.1 ≠ X.env.locals ∧ p.1 ∉ X.fs ∧ ∀ v, p.2.data ≠ .cell v) : Inv X pins' σ H s :=
  ⟨I.ok, I.os, I.bare, I.base, I.loc, I.cell, I.free, I.freeC, fun p hp => (List.mem_append.mp hp).elim (fun z => I.pin p (List.mem_append_left _ z)) (h p), I.hok, I.len⟩
theorem WW {N : List Str} (hN : N.Nodup) {i j : Nat} {x : Str} (a : N[i]? = some x) (b : N[j]? = some x) : i = j := by
  obtain ⟨h1, e1⟩ := List.getElem?_eq_some_iff.mp a
  obtain ⟨h2, e2⟩ := List.getElem?_eq_some_iff.mp b
  exact (List.getElem_inj hN).mp (e1.trans e2.symm)
theorem V3 {M : Model} {A : Around} {E : Value → Shared → Prop} {i : Nat} {x : Str} {v : V} {u : Value} {Q : Unit → Shared → Prop} (I : Inv X pins σ H s) (hN : X.N.Nodup) (hi : X.N[i]? = some x) (hx : Loc X.env.scope x) (r : xE v u)
    (h : ∀ s', Inv X pins (σ.set i (some v)) H s' → (∃ a, Heap.SameBut a s.heap s'.heap ∧ (a = X.env.locals ∨ X.env.cells.lookup x = some a)) → Q () s') (hf : X.fn x = true ∨ X.env.scope.names.lookup x = some .local := by first | exact .inl rfl | exact .inr rfl | assumption) : wpAny M A (storeName X.env x u) Q E s := by
  obtain ⟨m, hn, hl⟩ := id I.loc
  have hcls : (X.env.scope.kind == .class || (X.env.scope.kind == .module && X.env.locals != X.env.globals)) = false := by rw [I.ok.kind]; rfl
  have hiσ : i < σ.length := by rw [I.len]; exact (List.getElem?_eq_some_iff.mp hi).1
  have cne := I.cne
  have tracked : ∀ {a : Addr} {h' : Heap}, (∃ o, s.heap.get? a = some o ∧ H a = none) → Heap.SameBut a s.heap h' → HOk X.prog X.w H h' := fun {a h'} ha hs b ob e => by
    obtain ⟨_, _, hfree⟩ := ha
    refine (I.hok b ob e).stay (fun c w' hc q => (hs.2 c ?_).trans q) (fun _ q => q) fun _ _ q => q
    rintro rfl
    rcases hc with rfl | hc
    · rw [hfree] at e; cases e
    · rw [hfree] at hc; cases hc
  rcases hx with hk | hk
  · refine wpAny_storeName_local hk hn (fun h' hn' hs => ?_) hcls
    obtain ⟨oL, _, _, hoL, _⟩ := id hn
    refine h _ ⟨I.ok, I.os, I.bare, ⟨fun b o e n hb hx => ?_, fun b o e n hb hx => ?_, I.base.free, fun b o e hx => ?_, I.base.tups, I.base.frzs, I.base.tbls⟩, ⟨_, hn', fun j y v' e1 e2 e3 => ?_⟩, fun y c e => ?_, I.free, I.freeC, fun p hp => ?_, tracked ⟨oL, hoL, I.free⟩ hs, by simpa using I.len⟩ ⟨_, hs, .inl rfl⟩
    · exact (hs.2 b (Nat.ne_of_lt (Nat.lt_of_lt_of_le (Heap.lt_size e) I.ok.above))).trans (I.base.keep b o e n hb hx)
    · obtain ⟨sl, e1⟩ := I.base.slot b o e n hb hx
      exact ⟨sl, (hs.2 b (Nat.ne_of_lt (Nat.lt_of_lt_of_le (Heap.lt_size e) I.ok.above))).trans e1⟩
    · obtain ⟨o', e1⟩ := I.base.there b o e hx
      exact ⟨o', (hs.2 b (Nat.ne_of_lt (Nat.lt_of_lt_of_le (Heap.lt_size e) I.ok.above))).trans e1⟩
    · by_cases hj : j = i
      · subst hj
        rw [hi] at e1; cases e1
        rw [List.getElem?_set_self hiσ] at e2
        cases e2
        exact ⟨u, r, .inl ⟨hk, by simp⟩⟩
      · rw [List.getElem?_set_ne (Ne.symm hj)] at e2
        obtain ⟨u', r', q⟩ := hl j y v' e1 e2 e3
        refine ⟨u', r', ?_⟩
        rcases q with ⟨k, e⟩ | ⟨k, c, e, z⟩
        · refine .inl ⟨k, ?_⟩
          have : y ≠ x := fun e => hj (WW hN e1 (e ▸ hi))
          simp [this, e]
        · exact .inr ⟨k, c, e, z.sameBut hs (cne y c e)⟩
    · obtain ⟨w', z⟩ := I.cell y c e
      exact ⟨w', z.sameBut hs (cne y c e)⟩
    · obtain ⟨e, n, ne, nf, d⟩ := I.pin p hp
      exact ⟨(hs.2 p.1 ne).trans e, n, ne, nf, d⟩
  · have hfn : X.fn x = true := by
      rcases hf with z | z
      · exact z
      · rw [z] at hk; cases hk
    obtain ⟨c, hc⟩ := I.ok.has x (.inl hk)
    obtain ⟨w', z⟩ := I.cell x c hc
    refine wpAny_storeName_cell I.ok.kind hk hc z (fun h' hc' hs => ?_)
    obtain ⟨oc, hoc, hocd⟩ := id z
    refine h { s with heap := h' } ⟨I.ok, I.os, I.bare, ⟨fun b o e n hb hx => ?_, fun b o e n hb hx => ?_, I.base.free, fun b o e hx => ?_, I.base.tups, I.base.frzs, I.base.tbls⟩, ⟨m, hn.sameBut hs (Ne.symm (cne x c hc)), fun j y v' e1 e2 e3 => ?_⟩, fun y c' e => ?_, I.free, I.freeC, fun p hp => ?_, tracked ⟨oc, hoc, I.freeC x c hc⟩ hs, by simpa using I.len⟩ ⟨c, hs, .inr hc⟩
    · exact (hs.2 b (Nat.ne_of_lt (Nat.lt_of_lt_of_le (Heap.lt_size e) (I.ok.cab x c hfn hc)))).trans (I.base.keep b o e n hb hx)
    · obtain ⟨sl, e1⟩ := I.base.slot b o e n hb hx
      exact ⟨sl, (hs.2 b (Nat.ne_of_lt (Nat.lt_of_lt_of_le (Heap.lt_size e) (I.ok.cab x c hfn hc)))).trans e1⟩
    · obtain ⟨o', e1⟩ := I.base.there b o e hx
      exact ⟨o', (hs.2 b (Nat.ne_of_lt (Nat.lt_of_lt_of_le (Heap.lt_size e) (I.ok.cab x c hfn hc)))).trans e1⟩
    · by_cases hj : j = i
      · subst hj
        rw [hi] at e1; cases e1
        rw [List.getElem?_set_self hiσ] at e2
        cases e2
        exact ⟨u, r, .inr ⟨.inl hk, c, hc, hc'⟩⟩
      · rw [List.getElem?_set_ne (Ne.symm hj)] at e2
        obtain ⟨u', r', q⟩ := hl j y v' e1 e2 e3
        refine ⟨u', r', ?_⟩
        rcases q with q | ⟨k, c', e, z'⟩
        · exact .inl q
        · refine .inr ⟨k, c', e, z'.sameBut hs ?_⟩
          rintro rfl
          exact hj (WW hN e1 (I.ok.inj _ _ _ e hc ▸ hi))
    · by_cases hcc : c' = c
      · subst hcc; exact ⟨_, hc'⟩
      · obtain ⟨w2, z2⟩ := I.cell y c' e
        exact ⟨w2, z2.sameBut hs hcc⟩
    · obtain ⟨e, n, ne, nf, d⟩ := I.pin p hp
      refine ⟨(hs.2 p.1 ?_).trans e, n, ne, nf, d⟩
      intro q
      rw [q, hoc] at e
      have q' : oc = p.2 := Option.some.inj e
      exact d w' (by rw [← q']; exact hocd)
theorem WZ {M : Model} {A : Around} {E : Value → Shared → Prop} {i : Nat} {x : Str} {v : V} {u : Value} {Q : Unit → Shared → Prop} (I : Inv X pins σ H s) (hN : X.N.Nodup) (hi : X.N[i]? = some x) (hx : Loc X.env.scope x) (r : xE v u)
    (h : ∀ s', Inv X pins (σ.set i (some v)) H s' → Q () s') (hf : X.fn x = true ∨ X.env.scope.names.lookup x = some .local := by first | exact .inl rfl | exact .inr rfl | assumption) : wpAny M A (storeName X.env x u) Q E s :=
  V3 I hN hi hx r (fun s' I' _ => h s' I') hf
theorem Inv.call' {s' : Shared} {ch : List Addr} (I : Inv X pins σ H s) (ho : s'.os = s.os) (u : Un (frs X.stack) ch H H' s.heap s'.heap) (hok : HOk X.prog X.w H' s'.heap) (hg : AllBare s'.gens)
    (hch : ∀ b ∈ ch, (b ∈ X.ex ∨ X.s₀.heap.objs.size ≤ b) ∧ b ≠ X.env.locals ∧ (∀ x c, X.env.cells.lookup x = some c → c ≠ b) ∧ ∀ p ∈ X.pn ++ pins, p.1 ≠ b) : Inv X pins σ H' s' := by
  obtain ⟨h', g', d', t', o'⟩ := s'
  have e : o' = s.os := ho
  subst e
  exact I.call (g' := g') (t' := t') (d' := d') u hok hg hch
end
noncomputable abbrev XK := Value → Option Addr → Hp → Prop
noncomputable abbrev St := List (Option V)
noncomputable abbrev VK := V → Hp → Prop
noncomputable abbrev TE := St → Hp → VK → Prop
noncomputable abbrev TT := St → Hp → (Bool → Hp → Prop) → Prop
noncomputable abbrev TA := St → Hp → (List V → Hp → Prop) → Prop
structure zcg where
  nx : St → Hp → Prop
  rt : VK
  bk : St → Hp → Prop := fun _ _ => False
  ct : St → Hp → Prop := fun _ _ => False
noncomputable abbrev TS := zcg → St → Hp → Prop
noncomputable def EP (X : Cx) (pins : List (Addr × Obj)) (σ : St) (Q : VK) (u : Value) (s' : Shared) : Prop := ∃ v H', Inv X pins σ H' s' ∧ xE v u ∧ Q v H'
noncomputable def TP (X : Cx) (pins : List (Addr × Obj)) (σ : St) (Q : Bool → Hp → Prop) (b : Bool) (s' : Shared) : Prop := ∃ H', Inv X pins σ H' s' ∧ Q b H'
noncomputable def AP (X : Cx) (pins : List (Addr × Obj)) (σ : St) (Q : List V → Hp → Prop) (us : List Value) (s' : Shared) : Prop := ∃ vs H', Inv X pins σ H' s' ∧ yu vs us ∧ Q vs H'
noncomputable def SP (X : Cx) (pins : List (Addr × Obj)) (D : zcg) (f : Flow) (s' : Shared) : Prop :=
  match f with
  | .next => ∃ σ' H', Inv X pins σ' H' s' ∧ D.nx σ' H'
  | .brk => ∃ σ' H', Inv X pins σ' H' s' ∧ D.bk σ' H'
  | .cont => ∃ σ' H', Inv X pins σ' H' s' ∧ D.ct σ' H'
  | .ret u => ∃ v σ' H', Inv X pins σ' H' s' ∧ xE v u ∧ D.rt v H'
noncomputable def PE (X : Cx) (e : Expr) (t : TE) : Prop :=
  ∀ (pins : List (Addr × Obj)) (s : Shared) (σ : St) (H : Hp) (Q : VK), Inv X pins σ H s → t σ H Q → wpAny (model X.prog X.w) X.A (eval e X.env) (EP X pins σ Q) X.xe s
noncomputable def PT (X : Cx) (e : Expr) (t : TT) : Prop :=
  ∀ (pins : List (Addr × Obj)) (s : Shared) (σ : St) (H : Hp) (Q : Bool → Hp → Prop), Inv X pins σ H s → t σ H Q → wpAny (model X.prog X.w) X.A (isTrue e X.env (eval e X.env)) (TP X pins σ Q) X.xe s
noncomputable def PW (X : Cx) (e : Expr) (t : TT) : Prop :=
  ∀ (whole : Sem Value) (pins : List (Addr × Obj)) (s : Shared) (σ : St) (H : Hp) (Q : Bool → Hp → Prop), Inv X pins σ H s → t σ H Q → wpAny (model X.prog X.w) X.A (isTrue e X.env whole) (TP X pins σ Q) X.xe s
theorem PW.pt {X : Cx} {e : Expr} {t : TT} (h : PW X e t) : PT X e t := h _
noncomputable def PA (X : Cx) (es : List Expr) (t : TA) : Prop :=
  ∀ (pos : Pos) (pins : List (Addr × Obj)) (s : Shared) (σ : St) (H : Hp) (Q : List V → Hp → Prop), Inv X pins σ H s → t σ H Q → wpAny (model X.prog X.w) X.A (spliced (backTo pos (starEach es X.env))) (AP X pins σ Q) X.xe s
noncomputable def PS (X : Cx) (st : Stmt) (t : TS) : Prop :=
  ∀ (pins : List (Addr × Obj)) (s : Shared) (σ : St) (H : Hp) (D : zcg), Inv X pins σ H s → t D σ H → wpAny (model X.prog X.w) X.A (exec st X.env) (SP X pins D) X.xe s
noncomputable def PSs (X : Cx) (st : List Stmt) (t : TS) : Prop :=
  ∀ (pins : List (Addr × Obj)) (s : Shared) (σ : St) (H : Hp) (D : zcg), Inv X pins σ H s → t D σ H → wpAny (model X.prog X.w) X.A (execs st X.env) (SP X pins D) X.xe s
theorem thn {α : Type} {t : Sem α} {Q Q' : α → Shared → Prop} {M : Model} {A : Around} {E : Value → Shared → Prop} {s : Shared} (h : wpAny M A t Q E s) (hQ : ∀ a s, Q a s → Q' a s) : wpAny M A t Q' E s := wpAny_mono h hQ fun _ _ x => x
section
variable {X : Cx}
theorem bin {a b : Expr} {ta tb : TE} (ha : PE X a ta) (hb : PE X b tb) {pins : List (Addr × Obj)} {s : Shared} {σ : St} {H : Hp} {R : V → V → Hp → Prop} (I : Inv X pins σ H s) (h : ta σ H fun x H1 => tb σ H1 fun y H2 => R x y H2)
    {α : Type} {Q : α → Shared → Prop} {f : Value → Value → Sem α}
    (hf : ∀ v u s2 x y H2, Inv X pins σ H2 s2 → xE x v → xE y u → R x y H2 → wpAny (model X.prog X.w) X.A (f v u) Q X.xe s2) :
    wpAny (model X.prog X.w) X.A (eval a X.env) (fun v s₁ => wpAny (model X.prog X.w) X.A (eval b X.env) (fun u s₂ => wpAny (model X.prog X.w) X.A (f v u) Q X.xe s₂) X.xe s₁) X.xe s := by
  refine thn (ha pins s σ H _ I h) fun v s1 hh9 => ?_
  obtain ⟨x, H1, I1, r1, q1⟩ := hh9
  refine thn (hb pins s1 σ H1 _ I1 q1) fun u s2 hh9 => ?_
  obtain ⟨y, H2, I2, r2, q2⟩ := hh9
  exact hf v u s2 x y H2 I2 r1 r2 q2
noncomputable def zez (i : Nat) : TE := fun σ H Q => ∃ v, σ[i]? = some (some v) ∧ Q v H
noncomputable def tC (v : V) : TE := fun _ H Q => Q v H
theorem zex {i : Nat} {x : Str} {pos : Pos} (hN : X.N[i]? = some x) (hv : Vis X.env.scope x) (hd : (x == ("__debug__" : Str)) = false := by decide) (hcd : (x == ("__classdict__" : Str)) = false := by decide) : PE X (.Name x pos) (zez i) := by
  intro pins s σ H Q I h
  obtain ⟨v, e, h⟩ := h
  obtain ⟨m, hn, hl⟩ := I.loc
  obtain ⟨u, r, l⟩ := hl i x v hN e hv
  have fin : EP X pins σ Q u s := ⟨v, H, I, r, h⟩
  rcases l with ⟨hk, hm⟩ | ⟨hk, c, hc, hcell⟩
  · exact wpAny_Name (wpAny_loadName_local I.ok.kind hk hn hm fin) hd
  · rcases hk with hk | hk
    · exact wpAny_Name (wpAny_loadName_cell I.ok.kind hk hc hcell fin) hd
    · exact wpAny_Name (wpAny_loadName_free I.ok.kind hk hc hcell fin hcd) hd
theorem zh {i j pos} : PE X (.Constant (.int i) j pos) (tC (.int i)) := fun _ _ _ H _ I h => wpAny_Constant_int ⟨.int i, H, I.tok _, ⟨_, rfl⟩, h⟩
theorem Yg {b j pos} : PE X (.Constant (.bool b) j pos) (tC (.bl b)) := fun _ _ _ H _ I h => Constant_bool ⟨.bl b, H, I, rfl, h⟩
theorem Yy {j pos} : PE X (.Constant .none j pos) (tC .non) := fun _ _ _ H _ I h => Constant_none ⟨.non, H, I, rfl, h⟩
theorem yZ {x j pos} : PE X (.Constant (.str x) j pos) (tC (.str x)) := fun _ _ _ H _ I h => Calls.Constant_str ⟨.str x, H, I.tok _, ⟨_, rfl⟩, h⟩
noncomputable def Gl (X : Cx) (x : Str) : Prop := X.env.kindOf x = some .globalImplicit
theorem VQ {E : Value → Shared → Prop} {pins : List (Addr × Obj)} {s : Shared} {σ : St} {H : Hp} {x : Str} {u : Value} {pos : Pos} {Q : Value → Shared → Prop} (I : Inv X pins σ H s) (hg : Gl X x) (hm : X.mg x = some u) (h : Q u s)
    (hd : (x == ("__debug__" : Str)) = false := by decide) : wpAny (model X.prog X.w) X.A (eval (.Name x pos) X.env) Q E s :=
  Calls.Name_function_global I.ok.kind hg (Calls.loadGlobal_global (by rw [I.ok.glob]; exact I.mod.glob.keeps I.bk) hm h) hd
theorem Yw {E : Value → Shared → Prop} {pins : List (Addr × Obj)} {s : Shared} {σ : St} {H : Hp} {x : Str} {u : Value} {pos : Pos} {Q : Value → Shared → Prop} (I : Inv X pins σ H s) (hg : Gl X x) (hm : X.mg x = none) (hv : bootBuiltins x = some u) (h : Q u s)
    (hn : x ≠ "__name__" := by decide) (hd : (x == ("__debug__" : Str)) = false := by decide) : wpAny (model X.prog X.w) X.A (eval (.Name x pos) X.env) Q E s := by
  obtain ⟨mb, h1, h2⟩ := I.mod.blt
  exact Calls.Name_function_global I.ok.kind hg (Calls.loadGlobal_builtin (by rw [I.ok.glob]; exact I.mod.glob.keeps I.bk) hm (by rw [I.ok.blt]; exact h1.keeps I.bk) ((h2 x hn).trans hv) h) hd
theorem Wo {x : Str} {v : V} {u : Value} {pos : Pos} (hg : Gl X x) (hm : X.mg x = some u) (r : xE v u) (hd : (x == ("__debug__" : Str)) = false := by decide) : PE X (.Name x pos) (tC v) :=
  fun _ _ _ H _ I h => VQ I hg hm ⟨v, H, I, r, h⟩ hd
theorem ye {x : Str} {v : V} {u : Value} {pos : Pos} (hg : Gl X x) (hm : X.mg x = none) (hv : bootBuiltins x = some u) (r : xE v u) (hn : x ≠ "__name__" := by decide) (hd : (x == ("__debug__" : Str)) = false := by decide) : PE X (.Name x pos) (tC v) :=
  fun _ _ _ H _ I h => Yw I hg hm hv ⟨v, H, I, r, h⟩ hn hd
variable {a b : Expr} {ta tb : TE} {pos : Pos}
noncomputable def PC (X : Cx) (op : CmpOp) (a b : Expr) (t : TE) : Prop :=
  ∀ (pins : List (Addr × Obj)) (s : Shared) (σ : St) (H : Hp) (Q : VK), Inv X pins σ H s → t σ H Q →
    wpAny (model X.prog X.w) X.A (eval a X.env) (fun v s₁ => wpAny (model X.prog X.w) X.A (eval b X.env) (fun u s₂ => wpAny (model X.prog X.w) X.A (compareOp op v u) (EP X pins σ Q) X.xe s₂) X.xe s₁) X.xe s
theorem zbt (b : Expr) {op : CmpOp} (h : op ≠ .In) (h2 : op ≠ .NotIn) : behindInMarks op b = false := by
  have e1 : (op == CmpOp.In) = false := by cases op <;> first | rfl | exact absurd rfl h
  have e2 : (op == CmpOp.NotIn) = false := by cases op <;> first | rfl | exact absurd rfl h2
  cases b <;> simp [behindInMarks, e1, e2]
noncomputable def tB (t : TE) : TT := fun σ H Q => t σ H fun x H1 => ∃ c, x = .bl c ∧ Q c H1
theorem pt_cmp {op : CmpOp} {t : TE} (h : PC X op a b t) (h1 : behindInMarks op b = false := by first | exact zbt _ (by decide) (by decide) | rfl) : PT X (.Compare a [op] [b] pos) (tB t) := by
  intro pins s σ H Q I hw
  refine wpAny_isTrue_Compare1 (thn (h pins s σ H _ I hw) fun v s1 h1 => thn h1 fun u s2 h2 => thn h2 fun c s3 hh9 => ?_) h1
  obtain ⟨x, H1, I1, r1, q1⟩ := hh9
  obtain ⟨d, rfl, q⟩ := q1
  cases r1
  exact wpAny_truthy_bool ⟨H1, I1, q⟩
theorem zd6 {e : Expr} {t : TE} (h : PE X e t) (he : ∀ whole, isTrue e X.env whole = (do let v ← whole; standAt e.pos; holding [v] (truthy v)) := by intro _; rfl) : PT X e (tB t) := by
  intro pins s σ H Q I hw
  refine isTrue_plain (thn (h pins s σ H _ I hw) fun v s1 hh9 => ?_) (he _)
  obtain ⟨x, H1, I1, r1, q1⟩ := hh9
  obtain ⟨d, rfl, q⟩ := q1
  cases r1
  exact wpAny_truthy_bool ⟨H1, I1, q⟩
variable {tA tB' : TT} {rest : List Expr}
noncomputable def tAnd (t u : TT) : TT := fun σ H Q => t σ H fun c H1 => if c = true then u σ H1 Q else Q false H1
noncomputable def tOr (t u : TT) : TT := fun σ H Q => t σ H fun c H1 => if c = true then Q true H1 else u σ H1 Q
noncomputable def tNot (t : TT) : TT := fun σ H Q => t σ H fun c H1 => Q (!c) H1
theorem zcv (ha : PT X a tA) : PW X (.BoolOp .And [a] pos) tA := by
  intro wh pins s σ H Q I h
  refine isTrue_and (thn (ha pins s σ H Q I h) fun c s1 e => ?_)
  cases c with
  | true => exact isTrue_and_nil e
  | false => exact e
theorem zdR (ha : PT X a tA) : PW X (.BoolOp .Or [a] pos) tA := by
  intro wh pins s σ H Q I h
  refine isTrue_or (thn (ha pins s σ H Q I h) fun c s1 e => ?_)
  cases c with
  | false => exact isTrue_or_nil e
  | true => exact e
theorem zdD (ha : PT X a tA) (hb : PW X (.BoolOp .And (b :: rest) pos) tB') : PW X (.BoolOp .And (a :: b :: rest) pos) (tAnd tA tB') := by
  intro wh pins s σ H Q I h
  refine isTrue_and (thn (ha pins s σ H _ I h) fun c s1 hh9 => ?_)
  obtain ⟨H1, I1, q1⟩ := hh9
  cases c with
  | true => exact hb wh pins s1 σ H1 Q I1 q1
  | false => exact ⟨H1, I1, q1⟩
theorem zfg (ha : PT X a tA) (hb : PW X (.BoolOp .Or (b :: rest) pos) tB') : PW X (.BoolOp .Or (a :: b :: rest) pos) (tOr tA tB') := by
  intro wh pins s σ H Q I h
  refine isTrue_or (thn (ha pins s σ H _ I h) fun c s1 hh9 => ?_)
  obtain ⟨H1, I1, q1⟩ := hh9
  cases c with
  | true => exact ⟨H1, I1, q1⟩
  | false => exact hb wh pins s1 σ H1 Q I1 q1
theorem zdN (ha : PT X a tA) : PT X (.UnaryOp .Not a pos) (tNot tA) := by
  intro pins s σ H Q I h
  exact isTrue_not (ha pins s σ H (fun c H1 => Q (!c) H1) I h)
noncomputable def zfo (ta tb : TE) : TE := fun σ H Q => ta σ H fun x H1 => ∃ c, x = .bl c ∧ if c = true then tb σ H1 Q else Q (.bl false) H1
noncomputable def ze7 (ta : TE) : TE := fun σ H Q => ta σ H fun x H1 => ∃ c, x = .bl c ∧ Q (.bl (!c)) H1
theorem zdI {op} {t : TE} (h : PE X a t) : PE X (.BoolOp op [a] pos) t := fun pins s σ H Q I hw => BoolOp_one (h pins s σ H Q I hw)
theorem zdf (ha : PE X a ta) (hb : PE X (.BoolOp .And (b :: rest) pos) tb) : PE X (.BoolOp .And (a :: b :: rest) pos) (zfo ta tb) := by
  intro pins s σ H Q I h
  refine BoolOp_and (thn (ha pins s σ H _ I h) fun v s1 hh9 => ?_)
  obtain ⟨x, H1, I1, r1, q1⟩ := hh9
  obtain ⟨c, rfl, q1⟩ := q1
  cases r1
  refine wpAny_truthy_bool ?_
  cases c with
  | true => exact hb pins s1 σ H1 Q I1 q1
  | false => exact ⟨.bl false, H1, I1, rfl, q1⟩
theorem zdx (ha : PE X a ta) : PE X (.UnaryOp .Not a pos) (ze7 ta) := by
  intro pins s σ H Q I h
  refine UnaryOp_ (thn (ha pins s σ H _ I h) fun v s1 hh9 => ?_)
  obtain ⟨x, H1, I1, r1, q1⟩ := hh9
  obtain ⟨c, rfl, q1⟩ := q1
  cases r1
  exact not_of (wpAny_truthy_bool ⟨.bl (!c), H1, I1, rfl, q1⟩)
end
noncomputable def SqL (K : PySem.W.Frag) (H : Hp) (a : Addr) (xs : List V) : Prop :=
  Rd H a (.lst xs) ∨
    ∃ (o : Obj) (its : Array Value) (n : Nat), K.lookup a = some o ∧ o.cls = .type "list" ∧ o.dict = none ∧ o.data = .seq its n ∧ its.size ≤ sizeLine ∧ yu xs its.toList
noncomputable def SqT (K : PySem.W.Frag) (H : Hp) (a : Addr) (xs : List V) : Prop :=
  Rd H a (.tup xs) ∨
    ∃ (o : Obj) (its : Array Value) (n : Nat), K.lookup a = some o ∧ o.cls = .type "tuple" ∧ o.data = .seq its n ∧ its.size ≤ sizeLine ∧ yu xs its.toList
noncomputable def absV : Value → Option V
  | .none => some .non
  | .bool b => some (.bl b)
  | .int i _ => some (.int i)
  | .str x _ => some (.str x)
  | .bytes b _ => some (.byt b)
  | .float b _ => some (.flt b)
  | .ref a => some (.ref a)
  | .type n => some (.ty n)
  | _ => none
theorem xE.abs {x : V} {u : Value} (r : xE x u) : absV u = some x := by
  cases x with
  | non => cases r; rfl
  | bl _ => cases r; rfl
  | int _ => obtain ⟨t, rfl⟩ := r; rfl
  | str _ => obtain ⟨t, rfl⟩ := r; rfl
  | byt _ => obtain ⟨t, rfl⟩ := r; rfl
  | flt _ => obtain ⟨t, rfl⟩ := r; rfl
  | ref _ => cases r; rfl
  | ty _ => cases r; rfl
theorem xE.inj {x y : V} {u : Value} (r : xE x u) (q : xE y u) : x = y := Option.some.inj (r.abs.symm.trans q.abs)
theorem yu.inj : ∀ {xs ys : List V} {us : List Value}, yu xs us → yu ys us → xs = ys := by
  intro xs ys us h
  induction h generalizing ys with
  | nil => intro h2; cases h2; rfl
  | cons r t ih => intro h2; cases h2 with | cons r' t' => rw [r.inj r', ih t']
section
variable {X : Cx} {pins : List (Addr × Obj)} {σ : St} {H : Hp} {s : Shared} {a : Addr} {xs ys : List V}
theorem SqL.of {K : PySem.W.Frag} (h : H a = some (.lst xs)) : SqL K H a xs := .inl (.inl h)
theorem SqT.of {K : PySem.W.Frag} (h : H a = some (.tup xs)) : SqT K H a xs := .inl (.inl h)
theorem Inv.list (I : Inv X pins σ H s) (h : SqL X.K H a xs) : ∃ its : List Value, yu xs its ∧ PlainL s.heap a its.toArray ∧ xs.length ≤ sizeLine := by
  rcases h with h | ⟨o, its, n, hk, hc, hd, hs, hz, r⟩
  · obtain ⟨z, its, n, r, e⟩ := h.ok I.hok
    exact ⟨its, r, ⟨_, n, e, rfl, rfl, rfl⟩, z⟩
  · refine ⟨its.toList, r, ⟨o, n, I.kIn a o hk, hc, hd, by simpa using hs⟩, ?_⟩
    have e := r.length
    simp only [Array.length_toList] at e
    omega
theorem Inv.tuple (I : Inv X pins σ H s) (h : SqT X.K H a xs) : ∃ its : List Value, yu xs its ∧ IsTup s.heap a its.toArray ∧ xs.length ≤ sizeLine := by
  rcases h with h | ⟨o, its, n, hk, hc, hs, hz, r⟩
  · obtain ⟨z, its, r, p⟩ := h.ok I.hok
    exact ⟨its, r, p, z⟩
  · refine ⟨its.toList, r, ⟨o, I.kIn a o hk, hc, n, by simpa using hs⟩, ?_⟩
    have e := r.length
    simp only [Array.length_toList] at e
    omega
theorem Inv.list_inj (I : Inv X pins σ H s) (h : SqL X.K H a xs) (h' : SqL X.K H a ys) : xs = ys := by
  obtain ⟨its, r, ⟨o, n, e, _, _, d⟩, _⟩ := I.list h
  obtain ⟨its', r', ⟨o', n', e', _, _, d'⟩, _⟩ := I.list h'
  rw [e] at e'; cases e'
  rw [d] at d'
  injection d' with d1 _
  have : its = its' := by simpa using congrArg Array.toList d1
  subst this
  exact r.inj r'
theorem Inv.tuple_inj (I : Inv X pins σ H s) (h : SqT X.K H a xs) (h' : SqT X.K H a ys) : xs = ys := by
  obtain ⟨its, r, ⟨o, e, _, n, d⟩, _⟩ := I.tuple h
  obtain ⟨its', r', ⟨o', e', _, n', d'⟩, _⟩ := I.tuple h'
  rw [e] at e'; cases e'
  rw [d] at d'
  injection d' with d1 _
  have : its = its' := by simpa using congrArg Array.toList d1
  subst this
  exact r.inj r'
end
noncomputable abbrev Cx.wish (X : Cx) (E : Value → Shared → Prop) : Cx := { X with xe := E }
noncomputable abbrev Cx.nox (X : Cx) : Cx := X.wish fun _ _ => False
theorem Cx.Ok.wish {X : Cx} (ok : X.Ok) (E : Value → Shared → Prop) : (X.wish E).Ok :=
  ⟨ok.mod, ok.kind, ok.glob, ok.blt, ok.above, ok.inj, ok.has, ok.cab, ok.hd, ok.frames, ok.stk, ok.exf, ok.bs, ok.bsz, ok.noex, ok.exfs, ok.funs, ok.frf⟩
theorem Cx.Ok.unwish {X : Cx} {E : Value → Shared → Prop} (ok : (X.wish E).Ok) : X.Ok :=
  ⟨ok.mod, ok.kind, ok.glob, ok.blt, ok.above, ok.inj, ok.has, ok.cab, ok.hd, ok.frames, ok.stk, ok.exf, ok.bs, ok.bsz, ok.noex, ok.exfs, ok.funs, ok.frf⟩
section
variable {X : Cx} {pins : List (Addr × Obj)} {σ : St} {H : Hp} {s : Shared} {E : Value → Shared → Prop}
theorem Inv.wish (I : Inv X pins σ H s) (E : Value → Shared → Prop) : Inv (X.wish E) pins σ H s := ⟨I.ok.wish E, I.os, I.bare, I.base, I.loc, I.cell, I.free, I.freeC, I.pin, I.hok, I.len⟩
theorem Inv.unwish (I : Inv (X.wish E) pins σ H s) : Inv X pins σ H s := ⟨I.ok.unwish, I.os, I.bare, I.base, I.loc, I.cell, I.free, I.freeC, I.pin, I.hok, I.len⟩
theorem SP.unwish {D : zcg} {f : Flow} {s' : Shared} (h : SP (X.wish E) pins D f s') : SP X pins D f s' := by
  cases f with
  | next => obtain ⟨σ', H', I, q⟩ := h; exact ⟨σ', H', I.unwish, q⟩
  | brk => obtain ⟨σ', H', I, q⟩ := h; exact ⟨σ', H', I.unwish, q⟩
  | cont => obtain ⟨σ', H', I, q⟩ := h; exact ⟨σ', H', I.unwish, q⟩
  | ret u => obtain ⟨v, σ', H', I, r, q⟩ := h; exact ⟨v, σ', H', I.unwish, r, q⟩
theorem PSs.nox {st : List Stmt} {t : TS} (h : PSs X.nox st t) : PSs X st t := fun pins s σ H D I hw =>
  wpAny_mono (h pins s σ H D (I.wish _) hw) (fun _ _ q => q.unwish) fun _ _ z => False.elim z
end
section
variable {X : Cx} {st : Stmt} {rest : List Stmt} {t u : TS} {e : Expr} {te : TE} {pos : Pos}
noncomputable def zft : TS := fun D σ H => D.nx σ H
noncomputable def tSeq (t u : TS) : TS := fun D σ H => t { D with nx := u D } σ H
theorem zck : PSs X [] zft := fun _ _ σ H _ I h => wpAny_execs_nil ⟨σ, H, I, h⟩
theorem zaZ (h1 : PS X st t) (h2 : PSs X rest u) : PSs X (st :: rest) (tSeq t u) := by
  intro pins s σ H D I h
  refine wpAny_execs_cons (thn (h1 pins s σ H { D with nx := u D } I h) fun f s1 q => ?_)
  cases f with
  | next =>
    obtain ⟨σ', H', I', q⟩ := q
    exact h2 pins s1 σ' H' D I' q
  | ret v => exact q
  | brk => exact q
  | cont => exact q
theorem zcG (h1 : PS X st t) : PSs X [st] t := by
  intro pins s σ H D I h
  refine wpAny_execs_cons (thn (h1 pins s σ H D I h) fun f s1 q => ?_)
  cases f with
  | next => exact wpAny_execs_nil q
  | ret v => exact q
  | brk => exact q
  | cont => exact q
theorem Inv.quiet {pins : List (Addr × Obj)} {σ : St} {H : Hp} {s : Shared} (I : Inv X pins σ H s) : interactive X.env = false := by simp [interactive, I.ok.kind]
noncomputable def zeX (te : TE) : TS := fun D σ H => te σ H fun _ H1 => D.nx σ H1
theorem VS (he : PE X e te) (hs : swapsWith e none pos.line X.env = pure false := by rfl) : PS X (.Expr e pos) (zeX te) := by
  intro pins s σ H D I h
  exact wpAny_Expr_any (thn (he pins s σ H _ I h) fun v s1 ⟨x, H1, I1, r1, q1⟩ => ⟨σ, H1, I1, q1⟩) I.quiet hs
noncomputable def tRet (te : TE) : TS := fun D σ H => te σ H D.rt
theorem zdi (he : PE X e te) : PS X (.Return (some e) pos) (tRet te) := by
  intro pins s σ H D I h
  exact wpAny_Return_some (thn (he pins s σ H _ I h) fun v s1 ⟨x, H1, I1, r1, q1⟩ => ⟨x, σ, H1, I1, r1, q1⟩)
noncomputable def tIfS (c : TT) (t u : TS) : TS := fun D σ H => c σ H fun b H1 => if b = true then t D σ H1 else u D σ H1
theorem zeI {c : Expr} {a b : List Stmt} {tc : TT} (hc : PT X c tc) (ha : PSs X a t) (hb : PSs X b u) : PS X (.If c a b pos) (tIfS tc t u) := by
  intro pins s σ H D I h
  refine wpAny_If (thn (hc pins s σ H _ I h) fun d s1 hh9 => ?_)
  obtain ⟨H1, I1, q1⟩ := hh9
  cases d with
  | true => exact ha pins s1 σ H1 D I1 q1
  | false => exact hb pins s1 σ H1 D I1 q1
noncomputable def zd4 : TS := fun _ _ _ => False
theorem zaW : PS X st zd4 := fun _ _ _ _ _ _ h => h.elim
end
noncomputable abbrev TG := V → St → Hp → (St → Hp → Prop) → Prop
noncomputable abbrev TGs := List V → St → Hp → (St → Hp → Prop) → Prop
noncomputable def PG (X : Cx) (target : Expr) (t : TG) : Prop :=
  ∀ (pins : List (Addr × Obj)) (s : Shared) (σ : St) (H : Hp) (v : V) (u : Value) (Q : St → Hp → Prop), Inv X pins σ H s → xE v u → t v σ H Q →
    wpAny (model X.prog X.w) X.A (assign target X.env u) (fun _ s' => ∃ σ' H', Inv X pins σ' H' s' ∧ Q σ' H') X.xe s
noncomputable def PGs (X : Cx) (ts : List Expr) (t : TGs) : Prop :=
  ∀ (pins : List (Addr × Obj)) (s : Shared) (σ : St) (H : Hp) (vs : List V) (us : List Value) (Q : St → Hp → Prop), Inv X pins σ H s → yu vs us → t vs σ H Q →
    wpAny (model X.prog X.w) X.A (assignInOrder ((assignEach ts X.env).map (·.2)) us) (fun _ s' => ∃ σ' H', Inv X pins σ' H' s' ∧ Q σ' H') X.xe s
section
variable {X : Cx} {pos : Pos}
noncomputable def XV (i : Nat) : TG := fun v σ H Q => Q (σ.set i (some v)) H
theorem zM {i : Nat} {x : Str} (hN : X.N.Nodup) (hi : X.N[i]? = some x) (hx : Loc X.env.scope x) (hf : X.fn x = true ∨ X.env.scope.names.lookup x = some .local := by first | exact .inl rfl | exact .inr rfl | assumption) : PG X (.Name x pos) (XV i) := by
  intro pins s σ H v u Q I r h
  exact wpAny_assign_Name (WZ I hN hi hx r (fun s' I' => ⟨_, H, I', h⟩) hf)
noncomputable def gNil : TGs := fun vs σ H Q => vs = [] ∧ Q σ H
noncomputable def zfd (t : TG) (u : TGs) : TGs := fun vs σ H Q => ∃ v r, vs = v :: r ∧ t v σ H fun σ' H' => u r σ' H' Q
theorem zcZ : PGs X [] gNil := by
  intro pins s σ H vs us Q I r h
  obtain ⟨e, h⟩ := h
  subst e
  cases r
  exact assignInOrder_nil ⟨σ, H, I, h⟩
theorem zbH {e : Expr} {es : List Expr} {t : TG} {u : TGs} (h1 : PG X e t) (h2 : PGs X es u)
    (hs : (assignEach (e :: es) X.env).map (·.2) = assign e X.env :: (assignEach es X.env).map (·.2) := by rfl) : PGs X (e :: es) (zfd t u) := by
  intro pins s σ H vs us Q I r h
  obtain ⟨v, vr, e1, h⟩ := h
  subst e1
  cases r with
  | cons r rr =>
    rw [hs]
    refine assignInOrder_cons (thn (h1 pins s σ H _ _ _ I r h) fun _ s1 hh9 => ?_)
    obtain ⟨σ1, H1, I1, q1⟩ := hh9
    exact h2 pins s1 σ1 H1 _ _ Q I1 rr q1
noncomputable def gTup (K : PySem.W.Frag) (n : Nat) (t : TGs) : TG := fun v σ H Q => ∃ a xs, v = .ref a ∧ SqT K H a xs ∧ xs.length = n ∧ t xs σ H Q
theorem zds {es : List Expr} {k : Nat} {t : TGs} {n : Nat} (hc : X.calm = true) (h : PGs X es t)
    (hn : (assignEach es X.env).length = n := by rfl) (hst : (assignEach es X.env).findIdx? (·.1) = none := by rfl) : PG X (.Tuple es k pos) (gTup X.K n t) := by
  intro pins s σ H v u Q I r hw
  obtain ⟨a, xs, e1, hq, hl, hw⟩ := hw
  subst e1
  cases r
  obtain ⟨its, rv, ht, hz⟩ := I.tuple hq
  refine assign_Tuple_tuple (I.ok.hd hc) ht (by simp [hn, ← hl, rv.length]) hst fun h' hx => ?_
  have I1 : Inv X pins σ H { s with heap := h' } := I.kept (t' := s.toks) fun b o e => hx b o (Nat.ne_of_lt (Heap.lt_size e)) e
  exact h pins _ σ H xs _ Q I1 (by simpa using rv) hw
noncomputable def ze1 (te : TE) (g : TG) : TS := fun D σ H => te σ H fun x H1 => g x σ H1 D.nx
theorem zbW {i : Nat} {x : Str} {e : Expr} {te : TE} {pos' : Pos} (hN : X.N.Nodup) (hi : X.N[i]? = some x) (hx : Loc X.env.scope x) (he : PE X e te) (hs : swapsWith e (some (.Name x pos')) pos.line X.env = pure false := by rfl) (hf : X.fn x = true ∨ X.env.scope.names.lookup x = some .local := by first | exact .inl rfl | exact .inr rfl | assumption) :
    PS X (.Assign [.Name x pos'] e pos) (ze1 te (XV i)) := by
  intro pins s σ H D I h
  refine wpAny_Assign_Name (thn (he pins s σ H _ I h) fun v s1 hh9 => ?_) hs
  obtain ⟨y, H1, I1, r1, q1⟩ := hh9
  exact WZ I1 hN hi hx r1 (fun s2 I2 => ⟨_, H1, I2, q1⟩) hf
end
structure It where
  go : Nat → Hp → Prop
  yld : Nat → Hp → V → Hp → Prop
  stop : Nat → Hp → Prop
noncomputable def XX (X : Cx) (pins : List (Addr × Obj)) (H : Hp) (b : Addr) : Prop :=
  H b = none ∧ b ≠ X.env.locals ∧ b ∉ X.fs ∧ (b ∈ X.ex ∨ X.s₀.heap.objs.size ≤ b) ∧ (∀ x c, X.env.cells.lookup x = some c → c ≠ b) ∧ ∀ p ∈ X.pn ++ pins, p.1 ≠ b
theorem Inv.fpOk {X : Cx} {pins : List (Addr × Obj)} {σ : St} {H H' : Hp} {s : Shared} {b : Addr} (I : Inv X pins σ H s) (hb : s.heap.objs.size ≤ b) (hn : H' b = none) : XX X pins H' b := by
  refine ⟨hn, Nat.ne_of_gt (Nat.lt_of_lt_of_le I.lt hb), I.nofs hb, .inr (Nat.le_trans I.sz hb), fun x c e z => ?_, fun p hp z => ?_⟩
  · obtain ⟨v, q⟩ := I.cell x c e
    exact absurd (Nat.lt_of_lt_of_le q.lt (by rw [z]; exact hb)) (Nat.lt_irrefl _)
  · exact absurd (Nat.lt_of_lt_of_le (Heap.lt_size (I.pin p hp).1) (by rw [z]; exact hb)) (Nat.lt_irrefl _)
set_option genInjectivity false in
set_option genSizeOf false in
set_option genCtorIdx false in
structure zbp (P : Program) (w : World) (K : PySem.W.Frag) (tg : Expr) (J : It) (fp : List Addr) (it : Addr) (tn : Nat → Heap → Prop) : Prop where
  mem : it ∈ fp
  obj : ∀ i h, tn i h → ∀ b ∈ fp, ∃ o, h.get? b = some o ∧ ∀ v, o.data ≠ .cell v
  keep : ∀ i h h', tn i h → (∀ b ∈ fp, ∀ o, h.get? b = some o → h'.get? b = some o) → tn i h'
  item : ∀ (X : Cx), X.prog = P → X.w = w → X.K = K → X.calm = true → ∀ (i : Nat) (pins : List (Addr × Obj)) (s : Shared) (σ : St) (H : Hp) (E : Value → Shared → Prop), Inv X pins σ H s → (∀ b ∈ fp, XX X pins H b) → tn i s.heap → J.go i H →
    wpAny (model P w) X.A (pyNext (.ref it)) (fun r s1 => ∃ u, r = some u ∧
      wpAny (model P w) X.A (letOwnedTupleGo tg (.ref it) u) (fun _ s2 => ∃ x H', Inv X pins σ H' s2 ∧ xE x u ∧ J.yld i H x H' ∧ tn (i + 1) s2.heap ∧ ∀ b ∈ fp, H' b = none) E s1) E s
  done : ∀ (X : Cx), X.prog = P → X.w = w → X.K = K → X.calm = true → ∀ (i : Nat) (pins : List (Addr × Obj)) (s : Shared) (σ : St) (H : Hp) (E : Value → Shared → Prop), Inv X pins σ H s → (∀ b ∈ fp, XX X pins H b) → tn i s.heap → J.stop i H →
    wpAny (model P w) X.A (pyNext (.ref it)) (fun r s1 => r = none ∧ Inv X pins σ H s1) E s
  self : ∀ (A : Around) (i : Nat) (s : Shared) (Q : Value → Shared → Prop) (E : Value → Shared → Prop), tn i s.heap → Q (.ref it) s → wpAny (model P w) A (pyIter (.ref it)) Q E s
noncomputable abbrev TI := St → Hp → (It → Hp → Prop) → Prop
noncomputable def PIE (X : Cx) (pins : List (Addr × Obj)) (σ : St) (tg : Expr) (R : It → Hp → Prop) (itv : Value) (s2 : Shared) : Prop :=
  ∃ (it : Addr) (fp : List Addr) (tn : Nat → Heap → Prop) (J : It) (H' : Hp), itv = .ref it ∧ Inv X pins σ H' s2 ∧ zbp X.prog X.w X.K tg J fp it tn ∧ tn 0 s2.heap ∧ (∀ b ∈ fp, XX X pins H' b) ∧ R J H'
noncomputable def PI (X : Cx) (tg iter : Expr) (wi : TI) : Prop :=
  ∀ (pins : List (Addr × Obj)) (s : Shared) (σ : St) (H : Hp) (R : It → Hp → Prop), Inv X pins σ H s → wi σ H R →
    wpAny (model X.prog X.w) X.A (eval iter X.env) (fun v s1 => wpAny (model X.prog X.w) X.A (pyIter v) (PIE X pins σ tg R) X.xe s1) X.xe s
theorem zbk {M : Model} {A : Around} {E : Value → Shared → Prop} {s : Shared} {tg : Expr} {it : Addr} {u : Value} {o : Obj} {n : String} {vs : Array Value} {Q : Unit → Shared → Prop} (ho : s.heap.get? it = some o) (hc : o.cls = .type n) (hd : o.data = .fields vs)
    (hn : ["enumerate", "zip", "dict_itemiterator", "dict_reverseitemiterator", "odict_iterator", "itertools.zip_longest", "itertools.pairwise"].contains n = false) (hQ : Q () s) : wpAny M A (letOwnedTupleGo tg (.ref it) u) Q E s := by
  unfold letOwnedTupleGo
  cases tg <;> first
    | exact wpAny_pure hQ
    | (cases u <;> first
        | exact wpAny_pure hQ
        | (refine wpAny_bind (wpAny_load ho ?_)
           rw [hc, hd]
           show wpAny M A (if (["enumerate", "zip", "dict_itemiterator", "dict_reverseitemiterator", "odict_iterator", "itertools.zip_longest", "itertools.pairwise"].contains n && vs[0]? == some (rawInt _)) = true then _ else _) Q E s
           rw [if_neg (by intro h; rw [hn, Bool.false_and] at h; cases h)]
           exact wpAny_pure hQ))
noncomputable def Itl (K : PySem.W.Frag) (a : Addr) : It :=
  ⟨fun i H => ∃ xs x, SqL K H a xs ∧ xs[i]? = some x, fun i H x H' => H' = H ∧ ∀ xs, SqL K H a xs → xs[i]? = some x, fun i H => ∃ xs, SqL K H a xs ∧ xs.length ≤ i⟩
noncomputable def Itt (K : PySem.W.Frag) (a : Addr) : It :=
  ⟨fun i H => ∃ xs x, SqT K H a xs ∧ xs[i]? = some x, fun i H x H' => H' = H ∧ ∀ xs, SqT K H a xs → xs[i]? = some x, fun i H => ∃ xs, SqT K H a xs ∧ xs.length ≤ i⟩
noncomputable def Itr (lo : Int) (n : Nat) : It := ⟨fun i _ => i < n, fun i H x H' => H' = H ∧ x = .int (lo + i), fun i _ => n ≤ i⟩
theorem zax {P : Program} {w : World} {K : PySem.W.Frag} {tg : Expr} (a it : Addr) : zbp P w K tg (Itl K a) [it] it (fun i h => h.IsListIter it a i) where
  mem := by simp
  obj := fun i h st b hb => by
    have e : b = it := by simpa using hb
    subst e
    obtain ⟨o, e, c, d⟩ := st
    exact ⟨o, e, fun v z => by rw [d] at z; cases z⟩
  keep := fun i h h' st k => st.at fun o e => k it (by simp) o e
  item := by
    intro X hP hw hK hc i pins s σ H E I hf st hg
    subst hP hw hK
    obtain ⟨xs, x, hq, hx⟩ := hg
    obtain ⟨its, rv, p, hz⟩ := I.list hq
    obtain ⟨u, hu, ru⟩ := rv.get hx
    obtain ⟨f0, f1, f2, f3, f4, f5⟩ := hf it (by simp)
    refine wpAny_pyNext_list_item st p.isList (x := u) (by simpa using hu) fun h' st' sb => ?_
    have I1 : Inv X pins σ H { s with heap := h' } := I.turned (t' := s.toks) (fun b o hb e => (sb.2 b hb).trans e) f0 f1 f3 f4 f5
    obtain ⟨o, e, c, d⟩ := id st'
    exact ⟨u, rfl, zbk (s := { s with heap := h' }) e c d (by decide) ⟨x, H, I1, ru, ⟨rfl, fun ys hy => by rw [I.list_inj hy hq]; exact hx⟩, st', fun b hb => (hf b hb).1⟩⟩
  done := by
    intro X hP hw hK hc i pins s σ H E I hf st hg
    subst hP hw hK
    obtain ⟨xs, hq, hx⟩ := hg
    obtain ⟨its, rv, p, hz⟩ := I.list hq
    obtain ⟨f0, f1, f2, f3, f4, f5⟩ := hf it (by simp)
    have hl := rv.length
    exact wpAny_pyNext_list_end (I.ok.hd hc) st p.isList (by simp; omega) fun h' eb => ⟨rfl, I.turned (t' := s.toks) (fun b o hb e => eb b o hb e) f0 f1 f3 f4 f5⟩
  self := fun _ _ _ _ _ st h => wpAny_pyIter_listiter st h
theorem W2 {P : Program} {w : World} {K : PySem.W.Frag} {tg : Expr} (a it : Addr) : zbp P w K tg (Itt K a) [it] it (fun i h => h.IsTupleIter it a i) where
  mem := by simp
  obj := fun i h st b hb => by
    have e : b = it := by simpa using hb
    subst e
    obtain ⟨o, e, c, d⟩ := st
    exact ⟨o, e, fun v z => by rw [d] at z; cases z⟩
  keep := fun i h h' st k => st.at fun o e => k it (by simp) o e
  item := by
    intro X hP hw hK hc i pins s σ H E I hf st hg
    subst hP hw hK
    obtain ⟨xs, x, hq, hx⟩ := hg
    obtain ⟨its, rv, p, hz⟩ := I.tuple hq
    obtain ⟨u, hu, ru⟩ := rv.get hx
    obtain ⟨f0, f1, f2, f3, f4, f5⟩ := hf it (by simp)
    refine wpAny_pyNext_tuple_item st (show s.heap.IsTuple a its.toArray from p) (x := u) (by simpa using hu) fun h' st' sb => ?_
    have I1 : Inv X pins σ H { s with heap := h' } := I.turned (t' := s.toks) (fun b o hb e => (sb.2 b hb).trans e) f0 f1 f3 f4 f5
    obtain ⟨o, e, c, d⟩ := id st'
    exact ⟨u, rfl, zbk (s := { s with heap := h' }) e c d (by decide) ⟨x, H, I1, ru, ⟨rfl, fun ys hy => by rw [I.tuple_inj hy hq]; exact hx⟩, st', fun b hb => (hf b hb).1⟩⟩
  done := by
    intro X hP hw hK hc i pins s σ H E I hf st hg
    subst hP hw hK
    obtain ⟨xs, hq, hx⟩ := hg
    obtain ⟨its, rv, p, hz⟩ := I.tuple hq
    obtain ⟨f0, f1, f2, f3, f4, f5⟩ := hf it (by simp)
    have hl := rv.length
    exact wpAny_pyNext_tuple_end (I.ok.hd hc) st (show s.heap.IsTuple a its.toArray from p) (by simp; omega) fun h' eb => ⟨rfl, I.turned (t' := s.toks) (fun b o hb e => eb b o hb e) f0 f1 f3 f4 f5⟩
  self := fun _ _ _ _ _ st h => wpAny_pyIter_tupleiter st h
theorem W9 {P : Program} {w : World} {K : PySem.W.Frag} {tg : Expr} (it : Addr) (lo : Int) (n : Nat) : zbp P w K tg (Itr lo n) [it] it (fun i h => IsRangeIter h it (lo + (i : Nat) * 1) ((n : Int) - (i : Nat)) 1) where
  mem := by simp
  obj := fun i h st b hb => by
    have e : b = it := by simpa using hb
    subst e
    exact ⟨_, st, fun v z => by
      have z' : Data.fields _ = Data.cell v := z
      cases z'⟩
  keep := fun i h h' st k => k it (by simp) _ st
  item := by
    intro X hP hw hK hc i pins s σ H E I hf st hg
    subst hP hw hK
    obtain ⟨f0, f1, f2, f3, f4, f5⟩ := hf it (by simp)
    have W := Walks.range (prog := X.prog) (w := X.w) (I.ok.hd hc) it lo 1 n
    refine W.item i s _ _ hg st fun v h' tk hv st' kk => ?_
    obtain ⟨t, rfl⟩ := hv
    have I1 : Inv X pins σ H { s with heap := h', toks := tk } := I.turned (fun b o hb e => kk b o (by simpa using hb) e) f0 f1 f3 f4 f5
    refine ⟨_, rfl, zbk (s := { s with heap := h', toks := tk }) (n := "range_iterator") st' rfl rfl (by decide) ⟨.int (lo + i), H, I1, ⟨t, ?_⟩, ⟨rfl, rfl⟩, st', fun b hb => (hf b hb).1⟩⟩
    rw [Int.mul_one]
  done := by
    intro X hP hw hK hc i pins s σ H E I hf st hg
    subst hP hw hK
    obtain ⟨f0, f1, f2, f3, f4, f5⟩ := hf it (by simp)
    exact wpAny_pyNext_range_end (I.ok.hd hc) st (by have : n ≤ i := hg; omega) fun h' eb => ⟨rfl, I.turned (t' := s.toks) (fun b o hb e => eb b o hb e) f0 f1 f3 f4 f5⟩
  self := fun _ _ _ _ _ st h => wpAny_pyIter_rangeiter st h
section
variable {X : Cx} {tg : Expr}
theorem Wy {pins : List (Addr × Obj)} {σ : St} {H : Hp} {s : Shared} {R : It → Hp → Prop} {E : Value → Shared → Prop} {lo hi : Int} {t u v : Tok} {tk : Nat} (I : Inv X pins σ H s) (h1 : -(2 ^ 62) ≤ lo) (h2 : lo < 2 ^ 62) (h3 : -(2 ^ 62) ≤ hi) (h4 : hi < 2 ^ 62)
    (q : R (Itr lo (hi - lo).toNat) H) : wpAny (model X.prog X.w) X.A (pyIter (.ref s.heap.objs.size)) (PIE X pins σ tg R) E { s with heap := s.heap.push { cls := .type "range", data := .fields #[.int lo t, .int hi u, .int 1 v] }, toks := tk } := by
  refine wpAny_pyIter_range (IsRange.new ..) (small_one h1 h2 h3 h4) ?_
  have I1 : Inv X pins σ H { s with heap := s.heap.push { cls := .type "range", data := .fields #[.int lo t, .int hi u, .int 1 v] }, toks := tk } := I.kept fun b o e => Heap.get?_push_of_some _ e
  refine ⟨(s.heap.push { cls := .type "range", data := .fields #[.int lo t, .int hi u, .int 1 v] }).objs.size, [(s.heap.push { cls := .type "range", data := .fields #[.int lo t, .int hi u, .int 1 v] }).objs.size], _, _, H, rfl,
    I1.kept (t' := tk) fun b o e => Heap.get?_push_of_some _ e, W9 _ lo (hi - lo).toNat, ?_, fun b hb => ?_, q⟩
  · have e1 : lo + ((0 : Nat) : Int) * 1 = lo := by simp
    have e2 : (((hi - lo).toNat : Nat) : Int) - ((0 : Nat) : Int) = Builtin.Range.rangeSize lo hi 1 := by rw [rangeSize_one]; split <;> omega
    show IsRangeIter _ _ (lo + ((0 : Nat) : Int) * 1) ((((hi - lo).toNat : Nat) : Int) - ((0 : Nat) : Int)) 1
    rw [e1, e2]
    exact Heap.get?_push_size _ rfl
  · have e : b = (s.heap.push { cls := .type "range", data := .fields #[.int lo t, .int hi u, .int 1 v] }).objs.size := by simpa using hb
    subst e
    exact I1.fpOk (Nat.le_refl _) (I1.hok.fresh (Nat.le_refl _))
noncomputable def zeV (ta : TA) : TI := fun σ H R => ta σ H fun vs H1 => ∃ j : Int, vs = [.int j] ∧ -(2 ^ 62) ≤ j ∧ j < 2 ^ 62 ∧ R (Itr 0 j.toNat) H1
noncomputable def zeL (ta : TA) : TI := fun σ H R => ta σ H fun vs H1 => ∃ i j : Int, vs = [.int i, .int j] ∧ (-(2 ^ 62) ≤ i ∧ i < 2 ^ 62 ∧ -(2 ^ 62) ≤ j ∧ j < 2 ^ 62) ∧ R (Itr i (j - i).toNat) H1
theorem zaC {a : Expr} {ta : TA} {p pos : Pos} (hg : Gl X "range") (hm : X.mg "range" = none) (ha : PA X [a] ta) (hs : starEach [a] X.env = [(false, eval a X.env)] := by rfl) : PI X tg (.Call (.Name "range" p) [a] [] pos) (zeV ta) := by
  intro pins s σ H R I h
  refine Call_ (Yw I hg hm boot_range (PyProof.Rows.callWith_type1 (thn (ha pos pins s σ H _ I h) fun us s1 hh9 => ?_) hs rfl))
  obtain ⟨vs, H1, I1, r1, q1⟩ := hh9
  obtain ⟨j, e, q1, q2, q⟩ := q1
  subst e
  cases r1 with
  | cons r rr =>
    cases rr
    obtain ⟨t, rfl⟩ := r
    exact call_range_1 (Wy I1 (by omega) (by omega) q1 q2 (by simpa using q))
theorem zai {a b : Expr} {ta : TA} {p pos : Pos} (hg : Gl X "range") (hm : X.mg "range" = none) (ha : PA X [a, b] ta) (hs : starEach [a, b] X.env = [(false, eval a X.env), (false, eval b X.env)] := by rfl) (hs2 : starEach [b] X.env = [(false, eval b X.env)] := by rfl) :
    PI X tg (.Call (.Name "range" p) [a, b] [] pos) (zeL ta) := by
  intro pins s σ H R I h
  refine Call_ (Yw I hg hm boot_range (PyProof.Rows.callWith_type1 (thn (ha pos pins s σ H _ I h) fun us s1 hh9 => ?_) (by rw [hs, hs2]) (by rw [hs2]; rfl)))
  obtain ⟨vs, H1, I1, r1, q1⟩ := hh9
  obtain ⟨i, j, e, ⟨q1, q2, q3, q4⟩, q⟩ := q1
  subst e
  cases r1 with
  | cons r rr =>
    cases rr with
    | cons r' rr =>
      cases rr
      obtain ⟨t, rfl⟩ := r
      obtain ⟨t', rfl⟩ := r'
      exact call_range_2 (Wy I1 q1 q2 q3 q4 q)
noncomputable def tFor (wi : TI) (g : TG) (tb : TS) : TS := fun D σ H => wi σ H fun J H1 => ∃ W : Nat → Nat → St → Hp → Prop, (∃ m, W 0 m σ H1) ∧ ∀ i m σ H, W i m σ H →
  (J.stop i H ∧ D.nx σ H) ∨ (J.go i H ∧ ∃ N : St → Hp → Prop, (∀ σ' H', N σ' H' → ∃ m', m' < m ∧ W (i + 1) m' σ' H') ∧ ∀ x H', J.yld i H x H' → g x σ H' fun σ2 H2 => tb { D with nx := N, ct := N, bk := D.nx } σ2 H2)
noncomputable def Zx (fp : List Addr) (h : Heap) : List (Addr × Obj) := fp.filterMap fun b => (h.get? b).map fun o => (b, o)
theorem wa {fp : List Addr} {h : Heap} {b : Addr} {o : Obj} (hb : b ∈ fp) (e : h.get? b = some o) : (b, o) ∈ Zx fp h := List.mem_filterMap.mpr ⟨b, hb, by rw [e]; rfl⟩
theorem zaL {fp : List Addr} {h : Heap} {p : Addr × Obj} (hp : p ∈ Zx fp h) : p.1 ∈ fp ∧ h.get? p.1 = some p.2 := by
  obtain ⟨b, hb, e⟩ := List.mem_filterMap.mp hp
  cases q : h.get? b with
  | none => rw [q] at e; cases e
  | some o =>
    rw [q] at e
    have e' : (b, o) = p := Option.some.inj e
    subst e'
    exact ⟨hb, q⟩
theorem Inv.pinned {pins : List (Addr × Obj)} {σ : St} {H : Hp} {s : Shared} {fp : List Addr} (I : Inv X pins σ H s) (hf : ∀ b ∈ fp, XX X pins H b) (ho : ∀ b ∈ fp, ∃ o, s.heap.get? b = some o ∧ ∀ v, o.data ≠ .cell v) : Inv X (pins ++ Zx fp s.heap) σ H s :=
  I.pins_of fun p hp => (List.mem_append.mp hp).elim (fun z => I.pin p (List.mem_append_right _ z)) fun z => by
    obtain ⟨hb, e⟩ := zaL z
    obtain ⟨f0, f1, f2, _⟩ := hf p.1 hb
    obtain ⟨o, e', d⟩ := ho p.1 hb
    rw [e] at e'; cases e'
    exact ⟨e, f0, f1, f2, d⟩
theorem Inv.unpinned {pins pl : List (Addr × Obj)} {σ : St} {H : Hp} {s : Shared} (I : Inv X (pins ++ pl) σ H s) : Inv X pins σ H s := I.pins_of fun p hp => I.pin p (List.mem_append_right _ (List.mem_append_left _ hp))
theorem zb1 {iter : Expr} {body : List Stmt} {wi : TI} {g : TG} {tb : TS} {pos : Pos} (hp : PassesOwn (model X.prog X.w) X.A X.env X.xe) (hc : X.calm = true) (hi : PI X tg iter wi) (hg : PG X tg g) (hb : PSs X body tb)
    (hs : ∀ x, foldedSetIterable iter X.env x = pure x := by intro _; rfl) : PS X (.For tg iter body [] pos) (tFor wi g tb) := by
  intro pins s σ H D I h
  refine wpAny_For (thn (hi pins s σ H _ I h) fun v s1 h1 => thn h1 fun itv s2 h2 => ?_) hs
  obtain ⟨it, fp, tn, J, H2, e, I2, T, st2, f2, W, ⟨m0, w0⟩, turn⟩ := h2
  subst e
  -- what stays true of the iterator's objects through the loop
  have stat : ∀ {H' : Hp}, (∀ b ∈ fp, H' b = none) → ∀ b ∈ fp, XX X pins H' b := fun hn b hb => ⟨hn b hb, (f2 b hb).2⟩
  refine codeAny_forLoop_any (fun n s' => ∃ i σ' H', Inv X pins σ' H' s' ∧ tn i s'.heap ∧ (∀ b ∈ fp, H' b = none) ∧ W i n σ' H') ?_ m0 ⟨0, σ, H2, I2, st2, fun b hb => (f2 b hb).1, w0⟩
  rintro n s3 ⟨i, σ3, H3, I3, st3, fr3, w3⟩
  rcases turn i n σ3 H3 w3 with ⟨stop, qn⟩ | ⟨go, N, hN, step⟩
  · refine wpAny_passesOwn hp (thn (T.done X rfl rfl rfl hc i pins s3 σ3 H3 X.xe I3 (stat fr3) st3 stop) fun r s4 hh9 => ?_)
    obtain ⟨hr, I4⟩ := hh9
    subst hr
    exact wpAny_execs_nil ⟨σ3, H3, I4, qn⟩
  · refine wpAny_passesOwn hp (thn (T.item X rfl rfl rfl hc i pins s3 σ3 H3 X.xe I3 (stat fr3) st3 go) fun r s4 hh9 => ?_)
    obtain ⟨u, hr, h4⟩ := hh9
    subst hr
    refine wpAny_passesOwn hp (thn h4 fun _ s5 hh9 => ?_)
    obtain ⟨x, H5, I5, r5, y5, st5, fr5⟩ := hh9
    have I5' := I5.pinned (stat fr5) (T.obj _ _ st5)
    refine wpAny_passesOwn hp (thn (hg _ s5 σ3 H5 x u _ I5' r5 (step x H5 y5)) fun _ s6 hh9 => ?_)
    obtain ⟨σ6, H6, I6, q6⟩ := hh9
    refine wpAny_passesOwn hp (thn (hb _ s6 σ6 H6 _ I6 q6) fun f s7 q7 => ?_)
    have again : ∀ {σ7 : St} {H7 : Hp}, Inv X (pins ++ Zx fp s5.heap) σ7 H7 s7 → N σ7 H7 → ∃ m, m < n ∧ ∃ i σ' H', Inv X pins σ' H' s7 ∧ tn i s7.heap ∧ (∀ b ∈ fp, H' b = none) ∧ W i m σ' H' := fun {σ7 H7} I7 n7 => by
      obtain ⟨m', hm, w7⟩ := hN σ7 H7 n7
      refine ⟨m', hm, i + 1, σ7, H7, I7.unpinned, T.keep _ _ _ st5 fun b hb o e => (I7.pin (b, o) (List.mem_append_right _ (List.mem_append_right _ (wa hb e)))).1, fun b hb => ?_, w7⟩
      obtain ⟨o, e, d⟩ := T.obj _ _ st5 b hb
      exact (I7.pin (b, o) (List.mem_append_right _ (List.mem_append_right _ (wa hb e)))).2.1
    cases f with
    | next => obtain ⟨σ7, H7, I7, n7⟩ := q7; exact again I7 n7
    | cont => obtain ⟨σ7, H7, I7, n7⟩ := q7; exact again I7 n7
    | brk => obtain ⟨σ7, H7, I7, q7⟩ := q7; exact ⟨σ7, H7, I7.unpinned, q7⟩
    | ret v => obtain ⟨x7, σ7, H7, I7, r7, q7⟩ := q7; exact ⟨x7, σ7, H7, I7.unpinned, r7, q7⟩
end
noncomputable abbrev R2 := V → V → Hp → VK → Prop
noncomputable def OpR (X : Cx) (f : Value → Value → Sem Value) (r : R2) : Prop :=
  ∀ (pins : List (Addr × Obj)) (s : Shared) (σ : St) (H : Hp) (x y : V) (v u : Value) (Q : VK), Inv X pins σ H s → xE x v → xE y u → r x y H Q →
    wpAny (model X.prog X.w) X.A (f v u) (EP X pins σ Q) X.xe s
noncomputable def v7 (X : Cx) (f : Value) (r : List V → Hp → VK → Prop) : Prop :=
  ∀ (pins : List (Addr × Obj)) (s : Shared) (σ : St) (H : Hp) (xs : List V) (us : List Value) (Q : VK), Inv X pins σ H s → yu xs us → r xs H Q →
    wpAny (model X.prog X.w) X.A (call f us) (EP X pins σ Q) X.xe s
noncomputable def tOp (r : R2) (ta tb : TE) : TE := fun σ H Q => ta σ H fun x H1 => tb σ H1 fun y H2 => r x y H2 Q
noncomputable def rI (C : Int → Int → Prop) (g : Int → Int → V) : R2 := fun x y H Q => ∃ i j, x = .int i ∧ y = .int j ∧ C i j ∧ Q (g i j) H
noncomputable def rI0 (g : Int → Int → V) : R2 := fun x y H Q => ∃ i j, x = .int i ∧ y = .int j ∧ Q (g i j) H
section
variable {X : Cx} {a b c : Expr} {ta tb tc : TE} {pos : Pos}
theorem zeM (ha : PE X a ta) (hb : PE X b tb) {pins : List (Addr × Obj)} {s : Shared} {σ : St} {H : Hp} {R : V → V → Hp → Prop} (I : Inv X pins σ H s)
    (h : ta σ H fun x H1 => tb σ H1 fun y H2 => R x y H2) {Q : Value → Shared → Prop} {f : Value → Value → Sem Value}
    (hf : ∀ v u s2 x y H2, Inv X pins σ H2 s2 → xE x v → xE y u → R x y H2 → wpAny (model X.prog X.w) X.A (f v u) Q X.xe s2) :
    wpAny (model X.prog X.w) X.A (eval a X.env) (fun v s₁ => wpAny (model X.prog X.w) X.A (eval b X.env) (fun u s₂ => wpAny (model X.prog X.w) X.A (f v u) Q X.xe s₂) X.xe s₁) X.xe s := by
  refine thn (ha pins s σ H _ I h) fun v s1 hh9 => ?_
  obtain ⟨x, H1, I1, r1, q1⟩ := hh9
  refine thn (hb pins s1 σ H1 _ I1 q1) fun u s2 hh9 => ?_
  obtain ⟨y, H2, I2, r2, q2⟩ := hh9
  exact hf v u s2 x y H2 I2 r1 r2 q2
theorem zfn {op : Operator} {r : R2} (ho : OpR X (binaryOp op) r) (ha : PE X a ta) (hb : PE X b tb) : PE X (.BinOp a op b pos) (tOp r ta tb) := by
  intro pins s σ H Q I h
  exact wpAny_BinOp (zeM ha hb I h fun v u s2 x y H2 I2 rx ry q => ho pins s2 σ H2 x y v u Q I2 rx ry q)
theorem opI {f : Value → Value → Sem Value} {C : Int → Int → Prop} {g : Int → Int → Int}
    (rule : ∀ (i j : Int) (t u : Tok) (s : Shared) (Q : Value → Shared → Prop) (E : Value → Shared → Prop), C i j → Q (.int (g i j) s.toks) { s with toks := s.toks + 1 } → wpAny (model X.prog X.w) X.A (f (.int i t) (.int j u)) Q E s) :
    OpR X f (rI C fun i j => .int (g i j)) := by
  intro pins s σ H x y v u Q I rx ry h
  obtain ⟨i, j, rfl, rfl, hc, q⟩ := h
  obtain ⟨t, rfl⟩ := rx
  obtain ⟨t', rfl⟩ := ry
  exact rule i j t t' s _ _ hc ⟨.int (g i j), H, I.tok _, ⟨_, rfl⟩, q⟩
theorem opI0 {f : Value → Value → Sem Value} {g : Int → Int → Int}
    (rule : ∀ (i j : Int) (t u : Tok) (s : Shared) (Q : Value → Shared → Prop) (E : Value → Shared → Prop), Q (.int (g i j) s.toks) { s with toks := s.toks + 1 } → wpAny (model X.prog X.w) X.A (f (.int i t) (.int j u)) Q E s) :
    OpR X f (rI0 fun i j => .int (g i j)) := by
  intro pins s σ H x y v u Q I rx ry h
  obtain ⟨i, j, rfl, rfl, q⟩ := h
  obtain ⟨t, rfl⟩ := rx
  obtain ⟨t', rfl⟩ := ry
  exact rule i j t t' s _ _ ⟨.int (g i j), H, I.tok _, ⟨_, rfl⟩, q⟩
theorem zeA {f : Value → Value → Sem Value} {g : Int → Int → Bool}
    (rule : ∀ (i j : Int) (t u : Tok) (s : Shared) (Q : Value → Shared → Prop) (E : Value → Shared → Prop), Q (.bool (g i j)) s → wpAny (model X.prog X.w) X.A (f (.int i t) (.int j u)) Q E s) :
    OpR X f (rI0 fun i j => .bl (g i j)) := by
  intro pins s σ H x y v u Q I rx ry h
  obtain ⟨i, j, rfl, rfl, q⟩ := h
  obtain ⟨t, rfl⟩ := rx
  obtain ⟨t', rfl⟩ := ry
  exact rule i j t t' s _ _ ⟨.bl (g i j), H, I, rfl, q⟩
noncomputable def ze9 (i j : Int) : Prop := (-(2 ^ 64) < i ∧ i < 2 ^ 64) ∨ (-(2 ^ 64) < j ∧ j < 2 ^ 64)
theorem ze9.ok {i j : Int} (h : ze9 i j) : IntMulOk i j := by
  rcases h with ⟨h1, h2⟩ | ⟨h1, h2⟩
  · exact .of_left (intBits_le_64 h1 h2)
  · exact .of_right (intBits_le_64 h1 h2)
theorem Vn (k : Nat) : (0 : Int) ≤ 2 ^ k := by
  rw [two_pow_cast]
  exact Int.natCast_nonneg _
theorem zdK : OpR X (binaryOp .Add) (rI0 fun i j => .int (i + j)) := opI0 fun _ _ _ _ _ _ _ q => add_int q
theorem zd1 : OpR X (binaryOp .Sub) (rI0 fun i j => .int (i - j)) := opI0 fun _ _ _ _ _ _ _ q => sub_int q
theorem zep : OpR X (binaryOp .Mult) (rI ze9 fun i j => .int (i * j)) := opI fun _ _ _ _ _ _ _ hc q => mul_int q hc.ok
theorem zd9 : OpR X (binaryOp .Mod) (rI (fun _ j => 0 < j) fun i j => .int (i % j)) := opI fun i j _ _ _ _ _ hc q => by
  have h1 : (0 : Int) < j := hc
  exact mod_int' (by omega) (by rw [Int.fmod_eq_emod_of_nonneg i (by omega)]; exact q)
theorem zek : OpR X (binaryOp .RShift) (rI (fun _ j => 0 ≤ j) fun i j => .int (i / 2 ^ j.toNat)) := opI fun i j _ _ _ _ _ hc q =>
  rshift_int hc (by rw [Int.fdiv_eq_ediv_of_nonneg i (Vn _)]; exact q)
end
noncomputable def scal : V → V → Bool
  | .non, .non => true | .non, .int _ => true | .int _, .non => true | .non, .bl _ => true | .bl _, .non => true | .non, .str _ => true | .str _, .non => true
  | .int _, .int _ => true | .bl _, .bl _ => true | .str _, .str _ => true | .byt _, .byt _ => true
  | .int _, .str _ => true | .str _, .int _ => true | .bl _, .str _ => true | .str _, .bl _ => true
  | _, _ => false
noncomputable def rEq : R2 := fun x y H Q => scal x y = true ∧ Q (.bl (decide (x = y))) H
noncomputable def rNe : R2 := fun x y H Q => scal x y = true ∧ Q (.bl (!decide (x = y))) H
theorem zaM {i j : Int} : decide (V.int i = V.int j) = (i == j) := by
  rw [Bool.eq_iff_iff]
  simp
theorem zcb {i j : Bool} : decide (V.bl i = V.bl j) = (i == j) := by
  rw [Bool.eq_iff_iff]
  simp
theorem zaS {i j : Str} : decide (V.str i = V.str j) = (i == j) := by
  rw [Bool.eq_iff_iff]
  simp
theorem Vt {i j : Array UInt8} : decide (V.byt i = V.byt j) = (i.toList == j.toList) := by
  rw [Bool.eq_iff_iff]
  cases i
  cases j
  simp
section
variable {X : Cx} {a b c : Expr} {ta tb tc : TE} {pos : Pos}
theorem zK {pins : List (Addr × Obj)} {σ : St} {H : Hp} {s : Shared} {Q : VK} {k k' : Bool} (I : Inv X pins σ H s) (q : Q (.bl k) H) (e : k = k') : EP X pins σ Q (.bool k') s := by
  subst e
  exact ⟨.bl k, H, I, rfl, q⟩
theorem zfp : OpR X (compareOp .Eq) rEq := by
  intro pins s σ H x y v u Q I rx ry h
  obtain ⟨hs, q⟩ := h
  cases x with
  | non =>
    cases rx
    cases y with
    | non => cases ry; exact PySem.EqNone.eq_none_none (zK I q (by simp))
    | bl j => cases ry; exact PySem.EqNone.eq_none_bool (zK I q (by simp))
    | int j => obtain ⟨t', rfl⟩ := ry; exact PySem.EqNone.eq_none_int (zK I q (by simp))
    | str j => obtain ⟨t', rfl⟩ := ry; exact PySem.EqNone.eq_none_str (zK I q (by simp))
    | _ => exact absurd (show false = true from hs) Bool.false_ne_true
  | bl i =>
    cases rx
    cases y with
    | non => cases ry; exact PySem.EqNone.eq_bool_none (zK I q (by simp))
    | bl j => cases ry; exact eq_bool (zK I q zcb)
    | str j => obtain ⟨t', rfl⟩ := ry; exact PySem.EqMixed.eq_bool_str (zK I q (by simp))
    | _ => exact absurd (show false = true from hs) Bool.false_ne_true
  | int i =>
    obtain ⟨t, rfl⟩ := rx
    cases y with
    | non => cases ry; exact PySem.EqNone.eq_int_none (zK I q (by simp))
    | int j => obtain ⟨t', rfl⟩ := ry; exact eq_int (zK I q zaM)
    | str j => obtain ⟨t', rfl⟩ := ry; exact PySem.EqMixed.eq_int_str (zK I q (by simp))
    | _ => exact absurd (show false = true from hs) Bool.false_ne_true
  | str i =>
    obtain ⟨t, rfl⟩ := rx
    cases y with
    | non => cases ry; exact PySem.EqNone.eq_str_none (zK I q (by simp))
    | bl j => cases ry; exact PySem.EqMixed.eq_str_bool (zK I q (by simp))
    | int j => obtain ⟨t', rfl⟩ := ry; exact PySem.EqMixed.eq_str_int (zK I q (by simp))
    | str j => obtain ⟨t', rfl⟩ := ry; exact eq_str (zK I q zaS)
    | _ => exact absurd (show false = true from hs) Bool.false_ne_true
  | byt i =>
    obtain ⟨t, rfl⟩ := rx
    cases y with
    | byt j => obtain ⟨t', rfl⟩ := ry; exact PySem.W.eq_bytes (zK I q Vt)
    | _ => exact absurd (show false = true from hs) Bool.false_ne_true
  | _ => cases y <;> exact absurd (show false = true from hs) Bool.false_ne_true
theorem ZL : OpR X (compareOp .NotEq) rNe := by
  intro pins s σ H x y v u Q I rx ry h
  obtain ⟨hs, q⟩ := h
  cases x with
  | non =>
    cases rx
    cases y with
    | non => cases ry; exact PySem.EqNone.ne_none_none (zK I q (by simp))
    | bl j => cases ry; exact PySem.EqNone.ne_none_bool (zK I q (by simp))
    | int j => obtain ⟨t', rfl⟩ := ry; exact PySem.EqNone.ne_none_int (zK I q (by simp))
    | str j => obtain ⟨t', rfl⟩ := ry; exact PySem.EqNone.ne_none_str (zK I q (by simp))
    | _ => exact absurd (show false = true from hs) Bool.false_ne_true
  | bl i =>
    cases rx
    cases y with
    | non => cases ry; exact PySem.EqNone.ne_bool_none (zK I q (by simp))
    | bl j => cases ry; exact ne_bool (zK I q (congrArg not zcb))
    | str j => obtain ⟨t', rfl⟩ := ry; exact PySem.EqMixed.ne_bool_str (zK I q (by simp))
    | _ => exact absurd (show false = true from hs) Bool.false_ne_true
  | int i =>
    obtain ⟨t, rfl⟩ := rx
    cases y with
    | non => cases ry; exact PySem.EqNone.ne_int_none (zK I q (by simp))
    | int j => obtain ⟨t', rfl⟩ := ry; exact ne_int (zK I q (congrArg not zaM))
    | str j => obtain ⟨t', rfl⟩ := ry; exact PySem.EqMixed.ne_int_str (zK I q (by simp))
    | _ => exact absurd (show false = true from hs) Bool.false_ne_true
  | str i =>
    obtain ⟨t, rfl⟩ := rx
    cases y with
    | non => cases ry; exact PySem.EqNone.ne_str_none (zK I q (by simp))
    | bl j => cases ry; exact PySem.EqMixed.ne_str_bool (zK I q (by simp))
    | int j => obtain ⟨t', rfl⟩ := ry; exact PySem.EqMixed.ne_str_int (zK I q (by simp))
    | str j => obtain ⟨t', rfl⟩ := ry; exact ne_str (zK I q (congrArg not zaS))
    | _ => exact absurd (show false = true from hs) Bool.false_ne_true
  | byt i =>
    obtain ⟨t, rfl⟩ := rx
    cases y with
    | byt j => obtain ⟨t', rfl⟩ := ry; exact PySem.W.ne_bytes (zK I q (congrArg not Vt))
    | _ => exact absurd (show false = true from hs) Bool.false_ne_true
  | _ => cases y <;> exact absurd (show false = true from hs) Bool.false_ne_true
theorem zdF : OpR X (compareOp .Lt) (rI0 fun i j => .bl (decide (i < j))) := zeA fun _ _ _ _ _ _ _ q => lt_int q
theorem Z9 : OpR X (compareOp .LtE) (rI0 fun i j => .bl (decide (i ≤ j))) := zeA fun _ _ _ _ _ _ _ q => le_int q
theorem zct : OpR X (compareOp .Gt) (rI0 fun i j => .bl (decide (j < i))) := zeA fun _ _ _ _ _ _ _ q => gt_int q
theorem zeW : OpR X (compareOp .GtE) (rI0 fun i j => .bl (decide (j ≤ i))) := zeA fun _ _ _ _ _ _ _ q => ge_int q
theorem zak : OpR X (compareOp .In) (fun x y H Q => ∃ i j, x = .str i ∧ y = .str j ∧ Q (.bl (!(Builtin.Str.occurrences j i 0 j.length 1).isEmpty)) H) := by
  intro pins s σ H x y v u Q I rx ry h
  obtain ⟨i, j, rfl, rfl, q⟩ := h
  obtain ⟨t, rfl⟩ := rx
  obtain ⟨t', rfl⟩ := ry
  exact in_str (zK I q rfl)
theorem zdh : OpR X (compareOp .Is) (fun x y H Q => y = .non ∧ Q (.bl (decide (x = .non))) H) := by
  intro pins s σ H x y v u Q I rx ry h
  obtain ⟨rfl, q⟩ := h
  cases ry
  refine is_none_gen (zK I q ?_)
  cases x <;> first
    | (cases rx; rfl)
    | (obtain ⟨t, rfl⟩ := rx; rfl)
theorem OpR.or {f : Value → Value → Sem Value} {r r' : R2} (h : OpR X f r) (h' : OpR X f r') : OpR X f (fun x y H Q => r x y H Q ∨ r' x y H Q) := by
  intro pins s σ H x y v u Q I rx ry q
  rcases q with q | q
  · exact h pins s σ H x y v u Q I rx ry q
  · exact h' pins s σ H x y v u Q I rx ry q
theorem zS (b : Expr) {op : CmpOp} (h : op ≠ .In := by decide) (h2 : op ≠ .NotIn := by decide) : behindInMarks op b = false := by
  have e1 : (op == CmpOp.In) = false := by cases op <;> first | rfl | exact absurd rfl h
  have e2 : (op == CmpOp.NotIn) = false := by cases op <;> first | rfl | exact absurd rfl h2
  cases b <;> simp [behindInMarks, e1, e2]
theorem zcP {op : CmpOp} {r : R2} (ho : OpR X (compareOp op) r) (ha : PE X a ta) (hb : PE X b tb) (hm : behindInMarks op b = false) : PE X (.Compare a [op] [b] pos) (tOp r ta tb) := by
  intro pins s σ H Q I h
  exact wpAny_Compare1 (zeM ha hb I h fun v u s2 x y H2 I2 rx ry q => ho pins s2 σ H2 x y v u Q I2 rx ry q) hm
noncomputable def zbd (t : TE) : TT := fun σ H Q => t σ H fun x H' => ∃ k, x = .bl k ∧ Q k H'
theorem zcX {op : CmpOp} {r : R2} (ho : OpR X (compareOp op) r) (ha : PE X a ta) (hb : PE X b tb) (hm : behindInMarks op b = false) : PT X (.Compare a [op] [b] pos) (zbd (tOp r ta tb)) := by
  intro pins s σ H Q I h
  refine wpAny_isTrue_Compare1 (thn (ha pins s σ H _ I h) fun v s1 ⟨x, H1, I1, r1, q1⟩ => thn (hb pins s1 σ H1 _ I1 q1) fun u s2 ⟨y, H2, I2, r2, q2⟩ =>
    thn (ho pins s2 σ H2 x y v u _ I2 r1 r2 q2) fun c s3 ⟨z, H3, I3, r3, k, e, q3⟩ => ?_) hm
  subst e
  cases r3
  exact wpAny_truthy_bool ⟨H3, I3, q3⟩
noncomputable def XR (r r' : R2) (ta tb tc : TE) : TE := fun σ H Q => ta σ H fun x H1 => tb σ H1 fun y H2 => r x y H2 fun z H3 => ∃ k, z = .bl k ∧
  (if k = true then tc σ H3 fun w' H4 => r' y w' H4 Q else Q (.bl false) H3)
theorem zbA {op op' : CmpOp} {r r' : R2} (ho : OpR X (compareOp op) r) (ho' : OpR X (compareOp op') r') (ha : PE X a ta) (hb : PE X b tb) (hc : PE X c tc)
    (hm : lastMarks [op, op'] [b, c] = false := by with_unfolding_all rfl) : PE X (.Compare a [op, op'] [b, c] pos) (XR r r' ta tb tc) := by
  intro pins s σ H Q I h
  refine Compare_chain (thn (ha pins s σ H _ I h) fun v s1 ⟨x, H1, I1, r1, q1⟩ => chain_link (thn (hb pins s1 σ H1 _ I1 q1) fun u s2 ⟨y, H2, I2, r2, q2⟩ =>
    thn (ho pins s2 σ H2 x y v u _ I2 r1 r2 q2) fun d s3 ⟨z, H3, I3, r3, k, e, q3⟩ => ?_)) hm
  subst e
  cases r3
  refine wpAny_truthy_bool ?_
  cases k with
  | false => exact ite_ff ⟨.bl false, H3, I3, rfl, q3⟩
  | true => exact ite_tt (chain_last (thn (hc pins s3 σ H3 _ I3 q3) fun w' s4 ⟨z', H4, I4, r4, q4⟩ => ho' pins s4 σ H4 y z' u w' Q I4 r2 r4 q4))
theorem zbn {op op' : CmpOp} {r r' : R2} (ho : OpR X (compareOp op) r) (ho' : OpR X (compareOp op') r') (ha : PE X a ta) (hb : PE X b tb) (hc : PE X c tc)
    (hm : lastMarks [op, op'] [b, c] = false := by with_unfolding_all rfl) : PT X (.Compare a [op, op'] [b, c] pos) (zbd (XR r r' ta tb tc)) := by
  intro pins s σ H Q I h
  refine isTrue_chain (thn (ha pins s σ H _ I h) fun v s1 ⟨x, H1, I1, r1, q1⟩ => test_link (thn (hb pins s1 σ H1 _ I1 q1) fun u s2 ⟨y, H2, I2, r2, q2⟩ =>
    thn (ho pins s2 σ H2 x y v u _ I2 r1 r2 q2) fun d s3 ⟨z, H3, I3, r3, k, e, q3⟩ => ?_)) hm
  subst e
  cases r3
  refine wpAny_truthy_bool ?_
  cases k with
  | false =>
    obtain ⟨k', e', q'⟩ := q3
    cases e'
    exact ite_ff ⟨H3, I3, q'⟩
  | true =>
    refine ite_tt (test_last (thn (hc pins s3 σ H3 _ I3 q3) fun w' s4 ⟨z', H4, I4, r4, q4⟩ => thn (ho' pins s4 σ H4 y z' u w' _ I4 r2 r4 q4) fun d' s5 hh9 => ?_))
    obtain ⟨z2, H5, I5, r5, k2, e2, q5⟩ := hh9
    subst e2
    cases r5
    exact wpAny_truthy_bool ⟨H5, I5, q5⟩
theorem XG : (sizeLine : Nat) < 2 ^ 63 := by rw [sizeLine_eq]; decide
theorem Vk : OpR X (binaryOp .Add) (fun x y H Q => ∃ i j, x = .str i ∧ y = .str j ∧ i.length + j.length ≤ sizeLine ∧ Q (.str (i ++ j)) H) := by
  intro pins s σ H x y v u Q I rx ry h
  obtain ⟨i, j, rfl, rfl, hz, q⟩ := h
  obtain ⟨t, rfl⟩ := rx
  obtain ⟨t', rfl⟩ := ry
  exact add_str (fun t' tk => ⟨.str (i ++ j), H, I.tok _, ⟨_, rfl⟩, q⟩) hz
theorem ZX {x : V} {us : List Value} (r : yu [x] us) : ∃ u, us = [u] ∧ xE x u := by
  cases r with
  | cons r1 r2 => cases r2; exact ⟨_, rfl, r1⟩
theorem zc6 {x y : V} {us : List Value} (r : yu [x, y] us) : ∃ u w', us = [u, w'] ∧ xE x u ∧ xE y w' := by
  cases r with
  | cons r1 r2 =>
    cases r2 with
    | cons r3 r4 => cases r4; exact ⟨_, _, rfl, r1, r3⟩
theorem VR (hc : X.calm = true) : v7 X (.builtin "min") (fun xs H Q => ∃ i j, xs = [.int i, .int j] ∧ Q (.int (if j < i then j else i)) H) := by
  intro pins s σ H xs us Q I r h
  obtain ⟨i, j, rfl, q⟩ := h
  obtain ⟨u, w', rfl, ⟨t, rfl⟩, ⟨t', rfl⟩⟩ := zc6 r
  refine min_two_ints (I.ok.hd hc) fun h' tk k => ⟨_, H, I.kept k, ?_, q⟩
  by_cases hj : j < i
  · rw [if_pos hj, if_pos hj]; exact ⟨_, rfl⟩
  · rw [if_neg hj, if_neg hj]; exact ⟨_, rfl⟩
theorem xi : v7 X (.type "str") (fun xs H Q => ∃ i, xs = [.int i] ∧ i.natAbs.log2 < 1920 ∧ Q (.str (toString i)) H) := by
  intro pins s σ H xs us Q I r h
  obtain ⟨i, rfl, hz, q⟩ := h
  obtain ⟨u, rfl, t, rfl⟩ := ZX r
  exact PySem.P.str_of_int hz ⟨.str _, H, I.tok _, ⟨_, rfl⟩, q⟩
end
set_option genInjectivity false in
set_option genSizeOf false in
set_option genCtorIdx false in
structure zeS (h : Heap) (x dx C : Addr) (mA : Str → Option Value) : Prop where
  obj : h.get? x = some (PySem.W.instObj C dx)
  ns : h.Ns1 dx mA
  ne : dx ≠ x
theorem Vu {h : Heap} {dx : Addr} {mA : Str → Option Value} (n : h.Ns1 dx mA) : ∃ od, h.get? dx = some od ∧ ∀ name, PySem.W.lookIn name od = some (mA name) := by
  obtain ⟨o, es, ep, ho, hd, hk, _, hm⟩ := n
  refine ⟨o, ho, fun name => ?_⟩
  have e := hm name
  unfold nsFind findBy at e
  rw [← Array.find?_toList] at e
  unfold PySem.W.lookIn
  rw [hd]
  dsimp only
  split
  · rename_i y q
    rw [q] at e
    exact congrArg some e
  · rename_i q
    rw [q] at e
    have a : es.toList.any (·.refKey) = false := by
      rw [List.any_eq_false]
      intro y hy
      obtain ⟨z, t, hkey⟩ := hk y (Array.mem_toList_iff.mp hy)
      simp [DictEntry.refKey, hkey]
    have a' : ¬ es.toList.any (·.refKey) = true := by rw [a]; exact Bool.false_ne_true
    rw [if_neg a']
    exact congrArg some e
theorem zeS.look {h : Heap} {x dx C : Addr} {mA : Str → Option Value} (I : zeS h x dx C mA) : ∃ od, PySem.W.InstAt h x (PySem.W.instObj C dx) C (some od) ∧ ∀ name, PySem.W.lookIn name od = some (mA name) :=
  let ⟨od, ho, hl⟩ := Vu I.ns
  ⟨od, ⟨I.obj, rfl, rfl, ho⟩, hl⟩
section
variable {P : Program} {w : World} {H H' : Hp} {h h' : Heap} {a C dx : Addr} {fs fs' : List (Str × V)}
theorem zdb (hok : HOk P w H h) (e : H a = some (.ins C dx fs)) : ∃ mA, zeS h a dx C mA ∧ (∀ f, zeK (fs.lookup f) (mA f)) ∧ PySem.Within mA (fs.map (·.1)) ∧ fs.length ≤ 1000 ∧ H dx = some (.own a) := by
  obtain ⟨d, z, ne, ob, mA, n, r, q⟩ := (show xM P w H h a (.ins C dx fs) from hok a _ e)
  exact ⟨mA, ⟨ob, n, ne⟩, r, q, z, d⟩
end
set_option genInjectivity false in
set_option genSizeOf false in
set_option genCtorIdx false in
structure Cls (K : PySem.W.Frag) (C : Addr) : Prop where
  pg : PySem.W.plainGet K C Str.empty = true
  hd : PySem.W.hasDictIn K C = true
  po : PySem.W.plainOver K C = true
  sa : PySem.W.findIn K (.ref C) "__setattr__" = some (some (.builtin "object.__setattr__"))
theorem Cls.get {K : PySem.W.Frag} {C : Addr} (c : Cls K C) (f : Str) : PySem.W.plainGet K C f = true := c.pg
section
variable {X : Cx} {pins : List (Addr × Obj)} {σ : St} {H : Hp} {s : Shared} {A : Around} {E : Value → Shared → Prop} {Q : Value → Shared → Prop} {c : Value} {b : Bool}
inductive WA (K : PySem.W.Frag) (H : Hp) : V → Value → Prop where
  | non : WA K H .non (.type "NoneType")
  | bl (x : Bool) : WA K H (.bl x) (.type "bool")
  | int (i : Int) : WA K H (.int i) (.type "int")
  | str (x : Str) : WA K H (.str x) (.type "str")
  | flt (x : UInt64) : WA K H (.flt x) (.type "float")
  | lst {a : Addr} {xs : List V} (e : H a = some (.lst xs)) : WA K H (.ref a) (.type "list")
  | frz {a : Addr} {o : Obj} {xs : List V} (e : H a = some (.frz o (.lst xs))) : WA K H (.ref a) (.type "list")
  | tup {a : Addr} {xs : List V} (e : H a = some (.tup xs)) : WA K H (.ref a) (.type "tuple")
  | dK {a : Addr} {kvs : List (Key × V)} (e : H a = some (.dK kvs)) : WA K H (.ref a) (.type "dict")
  | dT {a : Addr} {kvs : List (List Key × V)} (e : H a = some (.dT kvs)) : WA K H (.ref a) (.type "dict")
  | ins {a C dx : Addr} {fs : List (Str × V)} (e : H a = some (.ins C dx fs)) (cl : Cls K C) (ha : PySem.W.findIn K (.ref C) "__class__" = some (some (.builtin "object.__class__")))
      (hn : PySem.W.specialIn K (.builtin "object.__class__") "__get__" = some (some (.builtin "getset_descriptor.__get__"))) (htk : PySem.W.takesIn K (.builtin "object.__class__") = some true)
      (hm : PySem.W.mroIn K C (.type "object") = some true) : WA K H (.ref a) (.ref C)
theorem VH {x : V} {u t : Value} (I : Inv X pins σ H s) (rx : xE x u) (ty : WA X.K H x t) (e : PySem.W.kitOne X.K t c = some b) (h : ∀ tk, Q (.bool b) { s with toks := tk }) :
    wpAny (model X.prog X.w) A (call (.builtin "isinstance") [u, c]) Q E s := by
  cases ty with
  | non => cases (show u = Value.none from rx); exact PySem.W.kia_one PySem.W.kitx_none I.kIn True.intro e (fun z => nomatch z) h
  | bl y => cases (show u = Value.bool y from rx); exact PySem.W.kia_one PySem.W.kitx_bool I.kIn True.intro e (fun z => nomatch z) h
  | int i => obtain ⟨t, q⟩ := (show ∃ t, u = Value.int i t from rx); cases q; exact PySem.W.kia_one PySem.W.kitx_int I.kIn True.intro e (fun z => nomatch z) h
  | str y => obtain ⟨t, q⟩ := (show ∃ t, u = Value.str y t from rx); cases q; exact PySem.W.kia_one PySem.W.kitx_str I.kIn True.intro e (fun z => nomatch z) h
  | flt y => obtain ⟨t, q⟩ := (show ∃ t, u = Value.float y t from rx); cases q; exact PySem.W.kia_one PySem.W.kitx_float I.kIn True.intro e (fun z => nomatch z) h
  | @lst a xs ea =>
    cases (show u = Value.ref a from rx)
    obtain ⟨_, _, n, _, h1⟩ := (show xM X.prog X.w H s.heap a (.lst xs) from I.hok a _ ea)
    exact PySem.W.kia_one PySem.W.kitx_list I.kIn ⟨_, h1, rfl⟩ e (fun z => nomatch z) h
  | @frz a ob xs ea =>
    cases (show u = Value.ref a from rx)
    obtain ⟨_, _, _, n, _, h1⟩ := (show xM X.prog X.w H s.heap a (.frz ob (.lst xs)) from I.hok a _ ea)
    exact PySem.W.kia_one PySem.W.kitx_list I.kIn ⟨_, h1, rfl⟩ e (fun z => nomatch z) h
  | @tup a xs ea =>
    cases (show u = Value.ref a from rx)
    obtain ⟨_, _, _, p⟩ := (show xM X.prog X.w H s.heap a (.tup xs) from I.hok a _ ea)
    obtain ⟨o, h1, h2, _⟩ := p
    exact PySem.W.kia_one PySem.W.kitx_tuple I.kIn ⟨o, h1, h2⟩ e (fun z => nomatch z) h
  | @dK a kvs ea =>
    cases (show u = Value.ref a from rx)
    obtain ⟨_, _, vs, _, p⟩ := (show xM X.prog X.w H s.heap a (.dK kvs) from I.hok a _ ea)
    obtain ⟨o, es, ep, h1, h2, _⟩ := p
    exact PySem.W.kia_one PySem.W.kitx_dict I.kIn ⟨o, h1, h2.1⟩ e (fun z => nomatch z) h
  | @dT a kvs ea =>
    cases (show u = Value.ref a from rx)
    obtain ⟨_, _, xs, _, o, es, ep, h1, h2, _⟩ := (show xM X.prog X.w H s.heap a (.dT kvs) from I.hok a _ ea)
    exact PySem.W.kia_one PySem.W.kitx_dict I.kIn ⟨o, h1, h2.1⟩ e (fun z => nomatch z) h
  | @ins a C dx fs ea cl ha hn htk hm =>
    cases (show u = Value.ref a from rx)
    obtain ⟨mA, O, _⟩ := zdb I.hok ea
    obtain ⟨od, J, _⟩ := O.look
    exact PySem.W.kia_one (PySem.W.kitx_own (cl.get _) cl.hd ha hn htk hm) I.kIn J e (fun z => nomatch z) h
end
set_option genInjectivity false in
set_option genSizeOf false in
set_option genCtorIdx false in
structure YQ (k : Nat) (A : Around) : Prop where
  hd : A.handled = none
  dp : A.depth + 3 * k + 5 < recursionLimit
  un : A.units + 16 * k + 200 < cLine
theorem YQ.mono {j k : Nat} {A : Around} (r : YQ k A) (h : j ≤ k) : YQ j A := ⟨r.hd, by have := r.dp; omega, by have := r.un; omega⟩
theorem YQ.deeper {k : Nat} {A : Around} (r : YQ (k + 1) A) (env : Env) : YQ k (A.deeper env) :=
  ⟨r.hd, by have := r.dp; show A.depth + 1 + 3 * k + 5 < _; omega, by have := r.un; show A.units + 3 + 16 * k + 200 < _; omega⟩
theorem YQ.depth {k : Nat} {A : Around} (r : YQ k A) : A.depth < recursionLimit := by have := r.dp; omega
theorem YQ.units0 {k : Nat} {A : Around} (r : YQ k A) : A.units < cLine := by have := r.un; omega
noncomputable def tNil : TA := fun _ H Q => Q [] H
noncomputable def ze4 (ta : TE) (tr : TA) : TA := fun σ H Q => ta σ H fun x H1 => tr σ H1 fun xs H2 => Q (x :: xs) H2
section
variable {X : Cx} {e : Expr} {es : List Expr} {te : TE} {t : TA} {pos : Pos}
theorem VG : PA X [] tNil := fun _ _ _ _ H Q I h => Calls.spliced_nil ⟨[], H, I, .nil, h⟩
theorem ZI (ha : PE X e te) (hr : PA X es t) (hs : starEach (e :: es) X.env = (false, eval e X.env) :: starEach es X.env := by rfl) : PA X (e :: es) (ze4 te t) := by
  intro pos pins s σ H Q I h
  rw [hs]
  show wpAny _ _ (spliced ((false, eval e X.env) :: backTo pos (starEach es X.env))) _ _ s
  refine Calls.spliced_cons (thn (ha pins s σ H _ I h) fun u s1 hh9 => ?_)
  obtain ⟨x, H1, I1, r1, q1⟩ := hh9
  exact thn (hr pos pins s1 σ H1 _ I1 q1) fun us s2 ⟨xs, H2, I2, r2, q2⟩ => ⟨x :: xs, H2, I2, .cons r1 r2, q2⟩
noncomputable def tTup (t : TA) : TE := fun σ H Q => t σ H fun xs H1 => xs.length ≤ sizeLine ∧ ∀ p, H1 p = none → Q (.ref p) (upd H1 p (.tup xs))
noncomputable def tLst (t : TA) : TE := fun σ H Q => t σ H fun xs H1 => xs.length ≤ sizeLine ∧ ∀ p, H1 p = none → Q (.ref p) (upd H1 p (.lst xs))
theorem zen {x1} (h : PA X es t) : PE X (.Tuple es x1 pos) (tTup t) := by
  intro pins s σ H Q I hq
  refine wpAny_Tuple_spliced (thn (h pos pins s σ H _ I hq) fun us s1 ⟨xs, H1, I1, r, z, q⟩ => ⟨by rw [← r.length]; exact z, ?_⟩)
  have hf : H1 s1.heap.objs.size = none := I1.hok.fresh (Nat.le_refl _)
  refine ⟨.ref s1.heap.objs.size, upd H1 s1.heap.objs.size (.tup xs), I1.laid (t' := s1.toks) (fun b u e => Heap.get?_push_of_some _ e) (Nat.le_refl _) ?_, rfl, q _ hf⟩
  exact ⟨z, us, r, ⟨_, Heap.get?_push_size _ rfl, rfl, _, rfl⟩⟩
theorem zdS (h : PA X es t) : PE X (.List es pos) (tLst t) := by
  intro pins s σ H Q I hq
  refine wpAny_List_spliced (thn (h pos pins s σ H _ I hq) fun us s1 ⟨xs, H1, I1, r, z, q⟩ => ⟨by rw [← r.length]; exact z, ?_⟩)
  have hf : H1 s1.heap.objs.size = none := I1.hok.fresh (Nat.le_refl _)
  refine ⟨.ref s1.heap.objs.size, upd H1 s1.heap.objs.size (.lst xs), I1.laid (t' := s1.toks) (fun b u e => Heap.get?_push_of_some _ e) (Nat.le_refl _) ?_, rfl, q _ hf⟩
  exact ⟨z, us, 0, r, Heap.get?_push_size _ rfl⟩
end
noncomputable abbrev Sp := List V → Hp → VK → XK → Prop
noncomputable abbrev CXT := List Env → Hp → Shared → XK → Value → Shared → Prop
structure zeE (P : Program) (w : World) (K : PySem.W.Frag) (mg : Str → Option Value) (base : Heap) (A : Around) (outer : List Env) (s : Shared) (H : Hp) : Prop where
  frames : A.frames = some outer
  mod : Mod K mg base
  bs : ∀ b o, base.get? b = some o → s.heap.get? b = some o ∧ H b = none
  bsz : base.objs.size ≤ s.heap.objs.size
  funs : s.heap.FunFrames base outer
  frf : ∀ b ∈ frs outer, H b = none
  hok : HOk P w H s.heap
  bare : AllBare s.gens
noncomputable def CE (outer : List Env) (P : Program) (w : World) (H : Hp) (s : Shared) (Q : VK) (u : Value) (s' : Shared) : Prop :=
  ∃ v H', s'.os = s.os ∧ AllBare s'.gens ∧ Un (frs outer) [] H H' s.heap s'.heap ∧ HOk P w H' s'.heap ∧ xE v u ∧ Q v H'
noncomputable def CR (CX : CXT) (outer : List Env) (P : Program) (w : World) (H : Hp) (s : Shared) (Q : VK) (E : XK) (r : Result) (s' : Shared) : Prop :=
  match r with
  | .ok (.ret u) => CE outer P w H s Q u s'
  | .ok _ => False
  | .error e => CX outer H s E e s'
set_option genInjectivity false in
set_option genSizeOf false in
set_option genCtorIdx false in
structure xx (P : Program) (w : World) (K : PySem.W.Frag) (mg : Str → Option Value) (base : Heap) (CX : CXT) (k : Nat) (f : Addr) (fd : FuncData) (ps : List Str) (sp : Sp) : Prop where
  len : ∀ vs H Q E, sp vs H Q E → vs.length = ps.length
  run : ∀ (A : Around) (outer : List Env) (s : Shared) (H : Hp) (args : Args) (us : List Value) (vs : List V) (Q : VK) (E : XK), YQ k A → zeE P w K mg base A outer s H → BindsTo s fd args (ps.zip us) → yu vs us → sp vs H Q E →
    codeAny (model P w) A (.call (.ref f) args) (CR CX outer P w H s Q E) s
theorem xx.mono {P : Program} {w : World} {K : PySem.W.Frag} {mg : Str → Option Value} {base : Heap} {CX : CXT} {j k : Nat} {f : Addr} {fd : FuncData} {ps : List Str} {sp : Sp} (F : xx P w K mg base CX j f fd ps sp) (h : j ≤ k) :
    xx P w K mg base CX k f fd ps sp := ⟨F.len, fun A outer s H args us vs Q E hr => F.run A outer s H args us vs Q E (hr.mono h)⟩
theorem xx.imp {P : Program} {w : World} {K : PySem.W.Frag} {mg : Str → Option Value} {base : Heap} {CX : CXT} {k : Nat} {f : Addr} {fd : FuncData} {ps : List Str} {sp sp' : Sp} (F : xx P w K mg base CX k f fd ps sp)
    (h : ∀ vs H Q E, sp' vs H Q E → sp vs H Q E) : xx P w K mg base CX k f fd ps sp' :=
  ⟨fun vs H Q E q => F.len vs H Q E (h _ _ _ _ q), fun A outer s H args us vs Q E hr he hb hv hs => F.run A outer s H args us vs Q E hr he hb hv (h _ _ _ _ hs)⟩
section
variable {X : Cx} {pins : List (Addr × Obj)} {σ : St} {H : Hp} {s s' : Shared}
theorem Inv.env0 (I : Inv X pins σ H s) : zeE X.prog X.w X.K X.mg X.base X.A X.stack s H :=
  ⟨I.ok.frames, I.ok.mod, I.bs, Nat.le_trans I.ok.bsz I.sz, I.stack, I.stkFree, I.hok, I.bare⟩
theorem Inv.after {Q : VK} {u : Value} (I : Inv X pins σ H s) (h : CE X.stack X.prog X.w H s Q u s') : EP X pins σ Q u s' := by
  obtain ⟨v, H', os, bare, un, hok, r, q⟩ := h
  obtain ⟨hh, g, d, t, os'⟩ := s'
  obtain rfl : os' = s.os := os
  exact ⟨v, H', I.call (h' := hh) (g' := g) (d' := d) (t' := t) (ch := []) un hok bare (fun b z => absurd z (by simp)), r, q⟩
end
noncomputable def zfc (sp : Sp) (dvs : List V) (E : XK) (t : TA) : TE := fun σ H Q => t σ H fun vs H1 => sp (vs ++ dvs) H1 Q E
noncomputable def Wr (K : PySem.W.Frag) (fd : FuncData) (ps : List Str) (ds : List Value) : Prop :=
  ∀ (s : Shared) (us : List Value), K.In s.heap → (us ++ ds).length = ps.length → BindsTo s fd ⟨us, []⟩ (ps.zip (us ++ ds))
theorem Wr.all {K : PySem.W.Frag} {fd : FuncData} {ps : List Str} (h : ∀ us : List Value, us.length = ps.length → bindArgs fd ⟨us, []⟩ = pure (ps.zip us)) : Wr K fd ps [] := fun s us _ hl => by
  rw [List.append_nil] at hl ⊢
  exact .of_eq (h us hl)
noncomputable def zaj (CX : CXT) (X : Cx) (E : XK) : Prop := ∀ (pins : List (Addr × Obj)) (σ : St) (H : Hp) (s : Shared) (e : Value) (s' : Shared), Inv X pins σ H s → CX X.stack H s E e s' → X.xe e s'
section
variable {X : Cx} {CX : CXT} {k : Nat} {f C : Addr} {fd : FuncData} {ps : List Str} {sp : Sp} {dvs : List V} {ds : List Value} {E : XK} {x m : Str} {p pos apos : Pos} {e o : Expr} {es : List Expr} {ta : TE} {t : TA}
theorem zdZ {pins : List (Addr × Obj)} {σ : St} {H : Hp} {s : Shared} {Q : VK} {us : List Value} {vs : List V} (F : xx X.prog X.w X.K X.mg X.base CX k f fd ps sp) (hr : YQ k X.A) (hb : Wr X.K fd ps ds) (hd : yu dvs ds) (hx : zaj CX X E)
    (I : Inv X pins σ H s) (r : yu vs us) (h : sp (vs ++ dvs) H Q E) : wpAny (model X.prog X.w) X.A (call (.ref f) us) (EP X pins σ Q) X.xe s := by
  have r2 : yu (vs ++ dvs) (us ++ ds) := r.append hd
  have hl : (us ++ ds).length = ps.length := by rw [← r2.length]; exact F.len _ _ _ _ h
  refine wpAny_call (codeAny_mono (F.run X.A X.stack s H ⟨us, []⟩ (us ++ ds) (vs ++ dvs) Q E hr I.env0 (hb s us I.kIn hl) r2 h) fun r s' hq => ?_)
  cases r with
  | error e => exact hx pins σ H s e s' I hq
  | ok fl =>
    cases fl with
    | ret u => exact I.after hq
    | next => exact False.elim hq
    | brk => exact False.elim hq
    | cont => exact False.elim hq
theorem zcj (F : xx X.prog X.w X.K X.mg X.base CX k f fd ps sp) (hr : YQ k X.A) (hg : Gl X x) (hm : X.mg x = some (.ref f)) (hk : PySem.W.keepIn X.K (.ref f) = true) (hb : Wr X.K fd ps ds) (hd : yu dvs ds) (hx : zaj CX X E)
    (ha : PA X (e :: es) t) (hdb : (x == ("__debug__" : Str)) = false := by decide) (he : starEach (e :: es) X.env = (false, eval e X.env) :: starEach es X.env := by rfl) (hpl : (backTo pos (starEach es X.env)).any (·.1) = false := by rfl) :
    PE X (.Call (.Name x p) (e :: es) [] pos) (zfc sp dvs E t) := by
  intro pins s σ H Q I h
  refine wpAny_Call_Name_kw (VQ I hg hm ?_ hdb)
  refine PySem.W.callWith_K (h₀ := X.base) I.ok.mod.kin hk (thn (ha pos pins s σ H _ I h) fun us s1 ⟨vs, H1, I1, r, q⟩ => ⟨I1.kIn, ?_⟩) he hpl
  exact zdZ F hr hb hd hx I1 r q
end
structure zw (N P : List Str) (sc : Scope) : Prop where
  kind : sc.kind = .function
  co : sc.isCoroutine = false
  gen : sc.isGenerator = false
  nd : N.Nodup
  pre : N.take P.length = P
  par : ∀ x ∈ P, sc.names.lookup x = some .local ∨ sc.names.lookup x = some .cell
  nofree : ∀ y ∈ sc.names, y.2 ≠ .free
theorem Xn {kindOf : Str → Option NameKind} {x : Str} : ∀ {binds : List (Str × Value)} {m : Str → Option Value}, (∀ v, (x, v) ∉ binds) → bindL kindOf binds m x = m x
  | [], _, _ => rfl
  | (n, v) :: r, m, h => by
    unfold bindL
    rw [Xn fun w hw => h w (List.mem_cons_of_mem _ hw)]
    split
    · have : x ≠ n := by rintro rfl; exact h v List.mem_cons_self
      simp [this]
    · rfl
theorem Xk {kindOf : Str → Option NameKind} {x : Str} : ∀ {binds : List (Str × Value)} {m : Str → Option Value}, (∀ v, (x, v) ∉ binds) → bindC kindOf binds m x = m x
  | [], _, _ => rfl
  | (n, v) :: r, m, h => by
    unfold bindC
    rw [Xk fun w hw => h w (List.mem_cons_of_mem _ hw)]
    split
    · rfl
    · have : x ≠ n := by rintro rfl; exact h v List.mem_cons_self
      simp [this]
theorem XB {kindOf : Str → Option NameKind} {x : Str} {v : Value} : ∀ {P : List Str} {vs : List Value} {i : Nat} {m : Str → Option Value}, P.Nodup → P[i]? = some x → vs[i]? = some v → kindOf x = some .local →
    bindL kindOf (P.zip vs) m x = some v
  | [], _, _, _, _, h, _, _ => by simp at h
  | _ :: _, [], _, _, _, _, h, _ => by simp at h
  | p :: P, w :: vs, 0, m, nd, h1, h2, hk => by
    simp at h1 h2; subst h1; subst h2
    show bindL kindOf ((p, w) :: P.zip vs) m p = _
    unfold bindL
    rw [Xn fun v hv => (List.nodup_cons.mp nd).1 (List.of_mem_zip hv).1, if_pos hk]
    simp
  | p :: P, w :: vs, i + 1, m, nd, h1, h2, hk => by
    show bindL kindOf ((p, w) :: P.zip vs) m x = _
    unfold bindL
    exact XB (i := i) (List.nodup_cons.mp nd).2 (by simpa using h1) (by simpa using h2) hk
theorem XO {kindOf : Str → Option NameKind} {x : Str} {v : Value} : ∀ {P : List Str} {vs : List Value} {i : Nat} {m : Str → Option Value}, P.Nodup → P[i]? = some x → vs[i]? = some v → kindOf x ≠ some .local →
    bindC kindOf (P.zip vs) m x = some v
  | [], _, _, _, _, h, _, _ => by simp at h
  | _ :: _, [], _, _, _, _, h, _ => by simp at h
  | p :: P, w :: vs, 0, m, nd, h1, h2, hk => by
    simp at h1 h2; subst h1; subst h2
    show bindC kindOf ((p, w) :: P.zip vs) m p = _
    unfold bindC
    rw [Xk fun v hv => (List.nodup_cons.mp nd).1 (List.of_mem_zip hv).1, if_neg hk]
    simp
  | p :: P, w :: vs, i + 1, m, nd, h1, h2, hk => by
    show bindC kindOf ((p, w) :: P.zip vs) m x = _
    unfold bindC
    exact XO (i := i) (List.nodup_cons.mp nd).2 (by simpa using h1) (by simpa using h2) hk
noncomputable def start (N : List Str) (vs : List V) : St := vs.map some ++ List.replicate (N.length - vs.length) none
noncomputable def zb0 (CX : CXT) (P : Program) (w : World) (K : PySem.W.Frag) (mg : Str → Option Value) (base : Heap) (N : List Str) (qual : Str) (scope : Scope) (f : Addr) (cd : Value) (A : Around) (outer : List Env) (s : Shared) (H : Hp) (E : XK) : Cx where
  prog := P
  w := w
  K := K
  mg := mg
  base := base
  A := A.deeper (envOfC qual scope s.heap.objs.size f cd)
  N := N
  s₀ := s
  H₀ := H
  env := envOfC qual scope s.heap.objs.size f cd
  outer := outer
  stack := envOfC qual scope s.heap.objs.size f cd :: outer
  ex := []
  calm := true
  fn := fun _ => true
  pn := []
  xe := fun e s' => wpAny (model P w) (A.deeper (envOfC qual scope s.heap.objs.size f cd)) (leaving (envOfC qual scope s.heap.objs.size f cd) e) (fun _ s'' => CX outer H s E e s'') (fun e' s'' => CX outer H s E e' s'') s'
theorem Ww {sc : Scope} {n : Nat} {x : Str} (h : sc.names.lookup x = some .cell) : ∃ c, (cellsFrom n sc.names []).lookup x = some c := by
  have q := PySem.W.cellsFrom_some sc.names n [] (.inl h)
  exact Option.isSome_iff_exists.mp q
theorem Vz {CX : CXT} {P : Program} {w : World} {K : PySem.W.Frag} {mg : Str → Option Value} {base : Heap} {N ps : List Str} {qual : Str} {scope : Scope} {f : Addr} {cd : Value} {A : Around} {outer : List Env} {s s1 : Shared} {H : Hp} {E : XK} {us : List Value} {vs : List V}
    (S : zw N ps scope) (hd : A.handled = none) (e0 : zeE P w K mg base A outer s H) (hl : vs.length = ps.length) (r : yu vs us)
    (x : InCallC s s.heap.objs.size (bindL (envOfC qual scope s.heap.objs.size f cd).kindOf (ps.zip us) fun _ => none) (cellsFrom (s.heap.objs.size + 1) scope.names []) (bindC (envOfC qual scope s.heap.objs.size f cd).kindOf (ps.zip us) fun _ => none) s1) :
    Inv (zb0 CX P w K mg base N qual scope f cd A outer s H E) [] (start N vs) H s1 := by
  have hpl : ps.length ≤ N.length := by have := congrArg List.length S.pre; rw [List.length_take] at this; omega
  obtain ⟨h1, tk, rfl, hk⟩ := x.done
  have noA : ∀ b : Addr, b ∉ (zb0 CX P w K mg base N qual scope f cd A outer s H E).ex := fun b z => absurd (show b ∈ ([] : List Addr) from z) (by simp)
  refine ⟨⟨e0.mod, S.kind, rfl, rfl, Nat.le_refl _, fun y z c h1 h2 => ?_, fun y hy => ?_, fun y c _ h => ?_, fun _ => hd, Around.frames_deeper e0.frames, .inr ⟨rfl, rfl⟩, fun b z => absurd z (noA b), e0.bs, e0.bsz, fun b _ _ => noA b, fun b z => absurd z (noA b), e0.funs, e0.frf⟩,
    rfl, e0.bare, Un.kept hk, ⟨_, x.toInCall.ns, fun i y v h1 h2 h3 => ?_⟩, fun y c h => ⟨_, x.cell y c h⟩, e0.hok.fresh (Nat.le_refl _), fun y c h => ?_, fun p hp => absurd (show p ∈ ([] : List (Addr × Obj)) from hp) (by simp), e0.hok.kept hk, ?_⟩
  · exact name_of_addr x.apart (PySem.mem_of_lookup h1) (PySem.mem_of_lookup h2)
  · have hy : scope.names.lookup y = some .cell ∨ scope.names.lookup y = some .free := hy
    rcases hy with hy | hy
    · exact Ww hy
    · exact absurd rfl (S.nofree _ (PySem.mem_of_lookup hy))
  · exact Nat.le_of_lt (x.above y c (PySem.mem_of_lookup h))
  · have hi : i < vs.length := by
      unfold start at h2
      by_cases hi : i < vs.length
      · exact hi
      · rw [List.getElem?_append_right (by simpa using hi)] at h2
        rw [List.getElem?_replicate] at h2
        split at h2 <;> cases h2
    have ha : vs[i]? = some v := by
      unfold start at h2
      rw [List.getElem?_append_left (by simpa using hi), List.getElem?_map] at h2
      cases e : vs[i]? with
      | none => rw [e] at h2; cases h2
      | some a => rw [e] at h2; cases h2; rfl
    obtain ⟨u, hu, rv⟩ := r.get ha
    have hp : ps[i]? = some y := by
      rw [← S.pre, List.getElem?_take_of_lt (by omega)]; exact h1
    have ndP : ps.Nodup := by rw [← S.pre]; exact S.nd.sublist (List.take_sublist _ _)
    refine ⟨u, rv, ?_⟩
    rcases S.par y (List.mem_of_getElem? hp) with k | k
    · exact .inl ⟨k, XB ndP hp hu k⟩
    · obtain ⟨c, e⟩ := Ww (n := s.heap.objs.size + 1) k
      refine .inr ⟨.inl k, c, e, ?_⟩
      have q := x.cell y c e
      rw [XO ndP hp hu (by show scope.names.lookup y ≠ _; rw [k]; decide)] at q
      exact q
  · exact e0.hok.fresh (Nat.le_of_lt (x.above y c (PySem.mem_of_lookup h)))
  · unfold start
    show _ = N.length
    rw [List.length_append, List.length_map, List.length_replicate]
    omega
theorem ze5 {CX : CXT} {P : Program} {w : World} {K : PySem.W.Frag} {mg : Str → Option Value} {base : Heap} {k : Nat} {f : Addr} {name qual : Str} {params : Arguments} {body : List Stmt} {scope : Scope} {dV kV doc pm cdv ct oc : Value} {an od : Option Addr}
    {osl : Array (Option Value)} {N ps : List Str} {sp : Sp} (lk : K.lookup f = some ⟨oc, od, .func (PySem.W.fnOf name qual params body scope dV kV doc pm an cdv ct), osl⟩) (hcd : PySem.W.codeIn K cdv qual = true) (S : zw N ps scope)
    (len : ∀ vs H Q E, sp vs H Q E → vs.length = ps.length)
    (hbody : ∀ (A : Around) (outer : List Env) (s : Shared) (H : Hp) (vs : List V) (Q : VK) (E : XK), YQ k (A.deeper (envOfC qual scope s.heap.objs.size f cdv)) → sp vs H Q E →
      ∃ t, PSs (zb0 CX P w K mg base N qual scope f cdv A outer s H E) body t ∧ t { nx := fun _ H' => Q .non H', rt := Q } (start N vs) H) :
    xx P w K mg base CX (k + 1) f (PySem.W.fnOf name qual params body scope dV kV doc pm an cdv ct) ps sp := by
  refine ⟨len, fun A outer s H args us vs Q E hr e0 hb r hsp => ?_⟩
  have hl := len _ _ _ _ hsp
  have KX : K.In s.heap := e0.mod.kin.keeps fun b o e => (e0.bs b o e).1
  have lim : s.heap.NoLimit := e0.mod.nolimit.keeps fun b o e => (e0.bs b o e).1
  have hkind : ∀ y ∈ ps.zip us, scope.names.lookup y.1 = some .local ∨ (scope.names.lookup y.1 = some .cell ∧ ((cellsFrom (s.heap.objs.size + 1) scope.names []).lookup y.1).isSome = true) := fun ⟨n, v⟩ hy => by
    rcases S.par n (List.of_mem_zip hy).1 with q | q
    · exact .inl q
    · exact .inr ⟨q, PySem.W.cellsFrom_some _ _ _ (.inl q)⟩
  refine codeAny_call_function hr.depth (KX _ _ lk) rfl S.co S.gen rfl (PySem.W.codeRec_of KX hcd) (hb _ _ _ _ ?_)
  refine wpAny_newFunctionEnv_cells S.kind hkind fun env he s1 x => ?_
  subst he
  refine ⟨lim.keeps x.toInCall.keep, codeAny_func ?_⟩
  obtain ⟨t, ht, hq⟩ := hbody A outer s H vs Q E (hr.deeper _) hsp
  have I : Inv (zb0 CX P w K mg base N qual scope f cdv A outer s H E) [] (start N vs) H s1 := Vz S hr.hd e0 hl r x
  refine wpAny_mono (ht [] s1 (start N vs) H _ I hq) (fun fl s' hs => ?_) fun e s' hs => hs
  have fin : ∀ {σ' : St} {H' : Hp} {v : V} {u : Value}, Inv (zb0 CX P w K mg base N qual scope f cdv A outer s H E) [] σ' H' s' → xE v u → Q v H' → CE outer P w H s Q u s' :=
    fun {σ' H' v u} J rv q => ⟨v, H', J.os, J.bare, J.base, J.hok, rv, q⟩
  cases fl with
  | ret u =>
    obtain ⟨v, σ', H', J, rv, q⟩ := hs
    exact fin J rv q
  | next =>
    obtain ⟨σ', H', J, q⟩ := hs
    exact fin (v := V.non) (u := Value.none) J rfl q
  | brk =>
    obtain ⟨_, _, _, q⟩ := hs
    exact False.elim q
  | cont =>
    obtain ⟨_, _, _, q⟩ := hs
    exact False.elim q
section
variable {X : Cx} {x : Str} {p pos : Pos} {e : Expr} {es : List Expr} {t : TA} {id T : String} {r : List V → Hp → VK → Prop}
noncomputable def tCB (r : List V → Hp → VK → Prop) (t : TA) : TE := fun σ H Q => t σ H fun vs H1 => r vs H1 Q
theorem WO (hc : v7 X (.builtin id) r) (hg : Gl X x) (hm : X.mg x = none) (hv : bootBuiltins x = some (.builtin id)) (ha : PA X (e :: es) t) (hn : x ≠ "__name__" := by decide) (hdb : (x == ("__debug__" : Str)) = false := by decide)
    (he : starEach (e :: es) X.env = (false, eval e X.env) :: starEach es X.env := by rfl) (hpl : (backTo pos (starEach es X.env)).any (·.1) = false := by rfl) : PE X (.Call (.Name x p) (e :: es) [] pos) (tCB r t) := by
  intro pins s σ H Q I h
  refine wpAny_Call_Name_kw (Yw I hg hm hv ?_ hn hdb)
  exact PyProof.Rows.callWith_builtin1 (thn (ha pos pins s σ H _ I h) fun us s1 ⟨vs, H1, I1, r1, q1⟩ => hc pins s1 σ H1 vs us Q I1 r1 q1) he hpl
theorem zab (hc : v7 X (.type T) r) (hg : Gl X x) (hm : X.mg x = none) (hv : bootBuiltins x = some (.type T)) (ha : PA X (e :: es) t) (hn : x ≠ "__name__" := by decide) (hdb : (x == ("__debug__" : Str)) = false := by decide)
    (he : starEach (e :: es) X.env = (false, eval e X.env) :: starEach es X.env := by rfl) (hpl : (backTo pos (starEach es X.env)).any (·.1) = false := by rfl) : PE X (.Call (.Name x p) (e :: es) [] pos) (tCB r t) := by
  intro pins s σ H Q I h
  refine wpAny_Call_Name_kw (Yw I hg hm hv ?_ hn hdb)
  exact PyProof.Rows.callWith_type1 (thn (ha pos pins s σ H _ I h) fun us s1 ⟨vs, H1, I1, r1, q1⟩ => hc pins s1 σ H1 vs us Q I1 r1 q1) he hpl
end
end L2
namespace HT
open PySem PyProof.Rows
noncomputable def lexLt : List Int → List Int → Bool
  | [], [] => false
  | [], _ :: _ => true
  | _ :: _, [] => false
  | x :: xs, y :: ys => if x = y then lexLt xs ys else decide (x < y)
theorem lexLt_cons (x y : Int) (xs ys : List Int) : lexLt (x :: xs) (y :: ys) = if x = y then lexLt xs ys else decide (x < y) := rfl
theorem za1 (A : Around) (s : Shared) (a : Int) (t : Tok) (c : Int) (u : Tok) : ∃ e, SeqAt.EqAt A s (.int a t) (.int c u) e ∧ (e = true ↔ a = c) :=
  ⟨(a == c), SeqAt.EqAt.int_int a t c u, by simp⟩
section
variable {prog : Program} {w : World} {A : Around} {E : Value → Shared → Prop} {s : Shared}
theorem cat_tup {t b : Addr} {vs ws : List Value} {Q : Value → Shared → Prop} (ht : IsTup s.heap t vs.toArray) (hb : IsTup s.heap b ws.toArray) (hv : vs ≠ [])
    (h1 : ws = [] → Q (.ref t) s) (h2 : ws ≠ [] → Q (.ref s.heap.objs.size) { s with heap := s.heap.push { cls := .type "tuple", data := .seq (vs ++ ws).toArray } })
    (hsz : vs.length + ws.length ≤ sizeLine) : wpAny (model prog w) A (binaryOp .Add (.ref t) (.ref b)) Q E s := by
  obtain ⟨⟨cls, dd, data, sl⟩, ho, hc, n, hd⟩ := id ht
  obtain ⟨⟨cls2, dd2, data2, sl2⟩, ho2, hc2, n2, hd2⟩ := id hb
  simp only at hc hd hc2 hd2
  subst hc hd hc2 hd2
  have e : vs.toArray ++ ws.toArray = (vs ++ ws).toArray := by simp
  by_cases hw : ws = []
  · exact concat_meets ⟨_, ho, rfl⟩ ⟨_, ho2, rfl⟩ noFill_tuple_add seq_tuple_add PySem.F.slot_tuple_add PySem.F.entry_tuple_add (PySem.F.args_tuple_add_2 _ _)
      (tuple_addW1 t b vs.toArray ws.toArray n n2 dd dd2 sl sl2 (by simpa using hv) (by simp [hw])) ⟨ho, ho2, h1 hw⟩
  · refine concat_meets ⟨_, ho, rfl⟩ ⟨_, ho2, rfl⟩ noFill_tuple_add seq_tuple_add PySem.F.slot_tuple_add PySem.F.entry_tuple_add (PySem.F.args_tuple_add_2 _ _)
      (tuple_addW2 t b vs.toArray ws.toArray n n2 dd dd2 sl sl2 (by simpa using hv) (by simpa using hw) (by rw [List.size_toArray, List.size_toArray]; exact hsz)) ⟨ho, ho2, ?_⟩
    rw [e]
    exact h2 hw
noncomputable def sIx (n d : Nat) : Option Int → Nat
  | none => d
  | some v => if v < 0 then (v + (n : Int)).toNat else min v.toNat n
theorem sIx_none (n d : Nat) : sIx n d none = d := rfl
theorem sIx_nat (n d k : Nat) : sIx n d (some (k : Int)) = min k n := by
  show (if (k : Int) < 0 then ((k : Int) + (n : Int)).toNat else min (k : Int).toNat n) = min k n
  rw [if_neg (by omega), Int.toNat_natCast]
theorem zdq (n d : Nat) (hd : d ≤ n) (o : Option Int) : sIx n d o ≤ n := by
  cases o with
  | none => exact hd
  | some v =>
    show (if v < 0 then (v + (n : Int)).toNat else min v.toNat n) ≤ n
    by_cases hv : v < 0
    · rw [if_pos hv]; omega
    · rw [if_neg hv]; exact Nat.min_le_right _ _
theorem zau (v : Int) (n d : Nat) : (if v < 0 then max (v + (n : Int)) 0 else min v (n : Int)) = ((sIx n d (some v) : Nat) : Int) := by
  show (if v < 0 then max (v + (n : Int)) 0 else min v (n : Int)) = (((if v < 0 then (v + (n : Int)).toNat else min v.toNat n) : Nat) : Int)
  by_cases hv : v < 0
  · simp only [if_pos hv]; omega
  · simp only [if_neg hv]; omega
theorem Ve (lo hi : Option Int) (n : Nat) : Builtin.Slice.sliceAdjust lo hi 1 (n : Int) = (((sIx n 0 lo : Nat) : Int), ((sIx n n hi : Nat) : Int)) := by
  have h1 : ¬ ((1 : Int) < 0) := by omega
  unfold Builtin.Slice.sliceAdjust
  simp only [h1, if_false]
  refine Prod.ext ?_ ?_
  · cases lo with
    | none => rfl
    | some v => exact zau v n 0
  · cases hi with
    | none => rfl
    | some v => exact zau v n n
theorem Vh (i j : Nat) : Builtin.Slice.slicePlaces (i : Int) (j : Int) 1 = j - i := by
  unfold Builtin.Slice.slicePlaces
  have h1 : (1 : Int) > 0 := by omega
  simp only [h1, if_true, Int.ediv_one]
  split <;> omega
theorem ZC {v : Value} {o : Option Int} {Q : Option Int → Shared → Prop} (p : IsPart v o) (h : Q o s) : wpAny (model prog w) A (Builtin.Slice.slicePartIndex v) Q E s := by
  cases p with
  | none => exact slicePart_none h
  | int i t => exact slicePart_int h
theorem wD {sl : Addr} {vl vu : Value} {lo hi : Option Int} {n : Nat} {Q : Int × Int × Nat → Shared → Prop} (hs : s.heap.IsSliceOf sl vl vu .none) (pl : IsPart vl lo) (pu : IsPart vu hi)
    (h : Q (((sIx n 0 lo : Nat) : Int), 1, sIx n n hi - sIx n 0 lo) s) : wpAny (model prog w) A (Builtin.Slice.sliceApplied (.ref sl) (pure (n : Int))) Q E s := by
  obtain ⟨os, hos, hcs, hds⟩ := id hs
  unfold Builtin.Slice.sliceApplied Builtin.Slice.sliceFields
  refine wpAny_bind (wpAny_bind (wpAny_field hos hds (x := vl) rfl (wpAny_bind (wpAny_field hos hds (x := vu) rfl (wpAny_bind (wpAny_field hos hds (x := .none) rfl (wpAny_pure ?_)))))))
  refine wpAny_bind (slicePart_none ?_)
  show wpAny _ _ (if ((1 : Int) == 0) = true then _ else _) _ _ s
  rw [if_neg (by decide)]
  refine wpAny_bind (ZC pl (wpAny_bind (ZC pu (wpAny_bind (wpAny_pure ?_)))))
  show wpAny _ _ (match Builtin.Slice.sliceAdjust lo hi 1 (n : Int) with | (lo, hi) => pure (lo, (1 : Int), Builtin.Slice.slicePlaces lo hi 1)) _ _ s
  rw [Ve lo hi n]
  show wpAny _ _ (pure (((sIx n 0 lo : Nat) : Int), (1 : Int), Builtin.Slice.slicePlaces ((sIx n 0 lo : Nat) : Int) ((sIx n n hi : Nat) : Int) 1)) _ _ s
  rw [Vh]
  exact wpAny_pure h
theorem za9 (xs : Array Value) (i k : Nat) : ((List.range k).filterMap fun (m : Nat) => xs[((i : Int) + (m : Int) * 1).toNat]?).toArray = ((xs.toList.drop i).take k).toArray := by
  have e : (fun (m : Nat) => xs[((i : Int) + (m : Int) * 1).toNat]?) = fun m => xs[i + m]? := by
    funext m
    have : ((i : Int) + (m : Int) * 1).toNat = i + m := by omega
    rw [this]
  rw [e]
  have := pick_run xs i k
  rw [List.filterMap_map] at this
  have e2 : ((fun x => xs[x]?) ∘ fun x => i + x) = fun m => xs[i + m]? := rfl
  rw [e2] at this
  rw [this]
theorem getItem_tuple_cut {t sl : Addr} {items : Array Value} {vl vu : Value} {lo hi : Option Int} {Q : Value → Shared → Prop} (ht : IsTup s.heap t items) (hs : s.heap.IsSliceOf sl vl vu .none) (pl : IsPart vl lo) (pu : IsPart vu hi)
    (hw : ¬ (sIx items.size 0 lo = 0 ∧ sIx items.size items.size hi = items.size))
    (h : Q (.ref s.heap.objs.size) { s with heap := s.heap.push { cls := .type "tuple", data := .seq ((items.toList.drop (sIx items.size 0 lo)).take (sIx items.size items.size hi - sIx items.size 0 lo)).toArray } })
    (hsz : items.size ≤ sizeLine) : wpAny (model prog w) A (getItem (.ref t) (.ref sl)) Q E s := by
  have htake : sizeOk (.seq ((items.toList.drop (sIx items.size 0 lo)).take (sIx items.size items.size hi - sIx items.size 0 lo)).toArray) := by
    show ((items.toList.drop (sIx items.size 0 lo)).take (sIx items.size items.size hi - sIx items.size 0 lo)).toArray.size ≤ sizeLine
    rw [List.size_toArray, List.length_take, List.length_drop, Array.length_toList]
    omega
  have hj : sIx items.size items.size hi ≤ items.size := zdq _ _ (Nat.le_refl _) hi
  obtain ⟨os, hos, hcs, hds⟩ := id hs
  have hTs : s.TypeIs (.ref sl) "slice" := ⟨os, hos, hcs⟩
  unfold getItem
  try with_reducible refine wpAny_holding ?_
  first | refine wpAny_bind (wpAny_pure ?_) | skip
  refine wpAny_bind (wpAny_sequenceKey ht.typeIs (by decide) ?_)
  refine wpAny_bind (wpAny_callSpecial?_slot (name := Str.ofString "__getitem__") ht.typeIs PyProof.Rows.slot_tuple_getitem
    (wpAny_call_entry PyProof.Rows.slot_tuple_getitem ht.typeIs entry_tuple_getitem ?_ (args_tuple_getitem _ _)))
  show wpAny _ _ (Builtin.Tuple.tupleItemsOf (.ref t) >>= _) _ _ s
  refine wpAny_bind (tupleItemsOf_ ht ?_)
  refine wpAny_bind (wpAny_typeOf hTs ?_)
  rw [if_pos (by decide)]
  refine wpAny_bind (wD hs pl pu ?_)
  have hno : ¬ ((((sIx items.size 0 lo : Nat) : Int) == 0 && (1 : Int) == 1 && (sIx items.size items.size hi - sIx items.size 0 lo) == items.size) = true) := by
    intro q
    rw [Bool.and_eq_true, Bool.and_eq_true] at q
    have q1 : ((sIx items.size 0 lo : Nat) : Int) = 0 := eq_of_beq q.1.1
    have q2 : sIx items.size items.size hi - sIx items.size 0 lo = items.size := eq_of_beq q.2
    exact hw ⟨by omega, by omega⟩
  show wpAny _ _ (if (((sIx items.size 0 lo : Nat) : Int) == 0 && (1 : Int) == 1 && (sIx items.size items.size hi - sIx items.size 0 lo) == items.size) = true then _ else _) _ _ s
  rw [if_neg hno, za9]
  first
    | exact wpAny_bind (m := Builtin.Tuple.tupleExact _) (wpAny_newObj_type (wpAny_pure ⟨_, rfl, wpAny_pure h⟩) htake)
    | exact wpAny_bind (m := Builtin.Tuple.tupleExact _) (wpAny_newObj_type (wpAny_bind (wpAny_pure (wpAny_pure ⟨_, rfl, wpAny_pure h⟩))) htake)
    | exact wpAny_bind (wpAny_bind (m := Builtin.Tuple.tupleExact _) (wpAny_newObj_type (wpAny_pure (wpAny_pure ⟨_, rfl, wpAny_pure h⟩)) htake))
    | exact wpAny_bind (wpAny_bind (m := Builtin.Tuple.tupleExact _) (wpAny_newObj_type (wpAny_pure ⟨_, rfl, wpAny_pure h⟩) htake))
end
end HT
namespace L2
open PySem PySem.Spec PyProof.Rows
noncomputable abbrev TO := St → Hp → (Option Int → Hp → Prop) → Prop
noncomputable def PO (X : Cx) (e : Option Expr) (t : TO) : Prop :=
  ∀ (pins : List (Addr × Obj)) (s : Shared) (σ : St) (H : Hp) (Q : Option Int → Hp → Prop), Inv X pins σ H s → t σ H Q →
    wpAny (model X.prog X.w) X.A (evalPart e X.env) (fun u s' => ∃ o H', Inv X pins σ H' s' ∧ IsPart u o ∧ Q o H') X.xe s
noncomputable def zcS : TO := fun _ H Q => Q none H
noncomputable def ze6 (t : TE) : TO := fun σ H Q => t σ H fun x H1 => ∃ i, x = .int i ∧ Q (some i) H1
theorem Zz {ns : List Int} : ∀ {us : List Value}, yu (ns.map V.int) us → IntsAre us ns := by
  induction ns with
  | nil => intro us r; rw [List.map_nil] at r; cases r; exact .nil
  | cons n ns ih =>
    intro us r
    rw [List.map_cons] at r
    cases r with
    | cons r1 r2 =>
      obtain ⟨t, e⟩ := r1
      subst e
      exact .cons n t (ih r2)
section
variable {X : Cx} {e : Expr} {te : TE} {lo hi : Option Expr} {tl th : TO} {pos p2 : Pos}
theorem zcM : PO X none zcS := by
  intro pins s σ H Q I h
  rw [evalPart_none]
  exact wpAny_pure ⟨none, H, I, .none, h⟩
theorem zcR (h : PE X e te) : PO X (some e) (ze6 te) := by
  intro pins s σ H Q I hw
  rw [evalPart_some]
  refine thn (h pins s σ H _ I hw) fun u s1 hh9 => ?_
  obtain ⟨x, H1, I1, r1, q1⟩ := hh9
  obtain ⟨i, rfl, q⟩ := q1
  obtain ⟨t, rfl⟩ := r1
  exact ⟨some i, H1, I1, .int i t, q⟩
noncomputable def SlR (X : Cx) (r : V → Option Int → Option Int → Hp → VK → Prop) : Prop :=
  ∀ (pins : List (Addr × Obj)) (s : Shared) (σ : St) (H : Hp) (x : V) (v vl vu : Value) (lo hi : Option Int) (sl : Addr) (Q : VK), Inv X pins σ H s → xE x v → s.heap.IsSliceOf sl vl vu .none → IsPart vl lo → IsPart vu hi → r x lo hi H Q →
    ∃ T id, typeLookup (.type T) "__getitem__" = pure (some (.builtin id)) ∧ s.TypeIs v T ∧ wpAny (model X.prog X.w) X.A (getItem v (.ref sl)) (EP X pins σ Q) X.xe s
theorem SlR.or {r r' : V → Option Int → Option Int → Hp → VK → Prop} (h : SlR X r) (h' : SlR X r') : SlR X (fun x lo hi H Q => r x lo hi H Q ∨ r' x lo hi H Q) := by
  intro pins s σ H x v vl vu lo hi sl Q I rx hs pl pu q
  rcases q with q | q
  · exact h pins s σ H x v vl vu lo hi sl Q I rx hs pl pu q
  · exact h' pins s σ H x v vl vu lo hi sl Q I rx hs pl pu q
noncomputable def tSl (r : V → Option Int → Option Int → Hp → VK → Prop) (te : TE) (tl th : TO) : TE := fun σ H Q => te σ H fun x H1 => tl σ H1 fun l H2 => th σ H2 fun u H3 => r x l u H3 Q
theorem zbr {r : V → Option Int → Option Int → Hp → VK → Prop} (hr : SlR X r) (he : PE X e te) (hl : PO X lo tl) (hu : PO X hi th) : PE X (.Subscript e (.Slice lo hi none p2) pos) (tSl r te tl th) := by
  intro pins s σ H Q I h
  refine Subscript_ (thn (he pins s σ H _ I h) fun v s1 hh9 => ?_)
  obtain ⟨x, H1, I1, r1, q1⟩ := hh9
  refine wpAny_Slice (thn (hl pins s1 σ H1 _ I1 q1) fun vl s2 ⟨l, H2, I2, pl, q2⟩ => thn (hu pins s2 σ H2 _ I2 q2) fun vu s3 hh9 => ?_)
  obtain ⟨u, H3, I3, pu, q3⟩ := hh9
  rw [evalPart_none]
  refine wpAny_pure ?_
  have I4 : Inv X pins σ H3 { s3 with heap := s3.heap.push { cls := .type "slice", data := .fields #[vl, vu, .none] } } := I3.kept (t' := s3.toks) fun b ob q => Heap.get?_push_of_some _ q
  obtain ⟨T, id, hT, ht, hg⟩ := hr pins { s3 with heap := s3.heap.push { cls := .type "slice", data := .fields #[vl, vu, .none] } } σ H3 x v vl vu l u s3.heap.objs.size Q I4 r1 (Heap.IsSliceOf.new ..) pl pu q3
  show wpAny (model X.prog X.w) X.A (subscriptTail e (.Slice lo hi none p2) v (.ref s3.heap.objs.size)) (EP X pins σ Q) X.xe { s3 with heap := s3.heap.push { cls := .type "slice", data := .fields #[vl, vu, .none] } }
  exact tail_any (ops := [.ref s3.heap.objs.size, v]) ht hT hg (by with_unfolding_all rfl)
noncomputable def Wd (xs : List V) (lo hi : Option Int) : List V := (xs.drop (HT.sIx xs.length 0 lo)).take (HT.sIx xs.length xs.length hi - HT.sIx xs.length 0 lo)
theorem Y9 (xs : List V) (lo hi : Option Int) : (Wd xs lo hi).length ≤ xs.length := by
  unfold Wd
  rw [List.length_take, List.length_drop]
  omega
noncomputable def rSlT (K : PySem.W.Frag) : V → Option Int → Option Int → Hp → VK → Prop := fun x lo hi H Q => ∃ a xs, x = .ref a ∧ SqT K H a xs ∧
  ¬ (HT.sIx xs.length 0 lo = 0 ∧ HT.sIx xs.length xs.length hi = xs.length) ∧ ∀ p, H p = none → Q (.ref p) (upd H p (.tup (Wd xs lo hi)))
theorem zdM : SlR X (rSlT X.K) := by
  intro pins s σ H x v vl vu lo hi sl Q I rx hs pl pu h
  obtain ⟨a, xs, rfl, hx, hw, q⟩ := h
  cases rx
  obtain ⟨its, r, ht, hz⟩ := I.tuple hx
  have hlen : its.toArray.size = xs.length := by rw [List.size_toArray]; exact r.length.symm
  refine ⟨"tuple", _, PyProof.Rows.slot_tuple_getitem.lookup, ht.typeIs, ?_⟩
  refine HT.getItem_tuple_cut ht hs pl pu (by rw [hlen]; exact hw) ?_ (by rw [hlen]; exact hz)
  rw [hlen]
  refine ⟨.ref s.heap.objs.size, _, I.laid (t' := s.toks) (o := .tup (Wd xs lo hi)) (fun b ob q => Heap.get?_push_of_some _ q) (Nat.le_refl _) ?_, rfl, q _ (I.hok.fresh (Nat.le_refl _))⟩
  exact ⟨Nat.le_trans (Y9 xs lo hi) hz, _, (r.drop (HT.sIx xs.length 0 lo)).take (HT.sIx xs.length xs.length hi - HT.sIx xs.length 0 lo), IsTup.new _ _⟩
noncomputable def zfe (K : PySem.W.Frag) : R2 := fun x y H Q => ∃ a b xs ys, x = .ref a ∧ y = .ref b ∧ SqT K H a xs ∧ SqT K H b ys ∧ xs ≠ [] ∧ xs.length + ys.length ≤ sizeLine ∧
  (ys = [] → Q (.ref a) H) ∧ (ys ≠ [] → ∀ p, H p = none → Q (.ref p) (upd H p (.tup (xs ++ ys))))
theorem yu.nil_iff {xs : List V} {us : List Value} (r : yu xs us) : us = [] ↔ xs = [] := by
  cases r with
  | nil => simp
  | cons _ _ => simp
theorem zcK : OpR X (binaryOp .Add) (zfe X.K) := by
  intro pins s σ H x y v u Q I rx ry h
  obtain ⟨a, b, xs, ys, rfl, rfl, ha, hb, hx, hz, q1, q2⟩ := h
  cases rx
  cases ry
  obtain ⟨its, r1, p1, _⟩ := I.tuple ha
  obtain ⟨its2, r2, p2, _⟩ := I.tuple hb
  refine HT.cat_tup p1 p2 (fun z => hx (r1.nil_iff.mp z)) (fun z => ⟨.ref a, H, I, rfl, q1 (r2.nil_iff.mp z)⟩) (fun z => ?_) (by rw [← r1.length, ← r2.length]; exact hz)
  refine ⟨.ref s.heap.objs.size, _, I.laid (t' := s.toks) (o := .tup (xs ++ ys)) (fun b ob q => Heap.get?_push_of_some _ q) (Nat.le_refl _) ?_, rfl, q2 (fun w => z (r2.nil_iff.mpr w)) _ (I.hok.fresh (Nat.le_refl _))⟩
  exact ⟨by rw [List.length_append]; exact hz, _, r1.append r2, IsTup.new _ _⟩
end
noncomputable def ixN (n : Nat) (i : Int) : Option Nat := if 0 ≤ i then (if i < n then some i.toNat else none) else if -(n : Int) ≤ i then some (i + n).toNat else none
noncomputable def atI {α : Type} (xs : List α) (i : Int) : Option α := (ixN xs.length i).bind fun j => xs[j]?
theorem zcE {n : Nat} {i : Int} {j : Nat} (h : ixN n i = some j) : seqIndex? i n = some j ∧ j < n ∧ -(n : Int) ≤ i ∧ i < n := by
  unfold ixN at h
  by_cases h0 : 0 ≤ i
  · rw [if_pos h0] at h
    by_cases h1 : i < n
    · rw [if_pos h1] at h
      have e : i.toNat = j := Option.some.inj h
      exact ⟨by rw [seqIndex_of h0 h1, e], by omega, by omega, h1⟩
    · rw [if_neg h1] at h; cases h
  · rw [if_neg h0] at h
    by_cases h1 : -(n : Int) ≤ i
    · rw [if_pos h1] at h
      have e : (i + n).toNat = j := Option.some.inj h
      exact ⟨by rw [seqIndex_neg (by omega) h1, e], by omega, h1, by omega⟩
    · rw [if_neg h1] at h; cases h
theorem Wl {α : Type} {xs : List α} {i : Int} {v : α} (h : atI xs i = some v) : ∃ j, seqIndex? i xs.length = some j ∧ xs[j]? = some v ∧ j < xs.length ∧ -(xs.length : Int) ≤ i ∧ i < xs.length := by
  unfold atI at h
  cases e : ixN xs.length i with
  | none => rw [e] at h; cases h
  | some j =>
    rw [e] at h
    obtain ⟨h1, h2, h3, h4⟩ := zcE e
    exact ⟨j, h1, h, h2, h3, h4⟩
theorem zcO {α : Type} {xs : List α} {j : Nat} {v : α} (h : xs[j]? = some v) : atI xs (j : Int) = some v := by
  have hj : j < xs.length := (List.getElem?_eq_some_iff.mp h).1
  have e : ixN xs.length (j : Int) = some j := by
    unfold ixN
    rw [if_pos (by omega), if_pos (by omega)]; simp
  unfold atI; rw [e]; exact h
noncomputable def Wa (b : Expr) : Prop := ∀ o i, subscripted b false o i = operate [o, i] (getItem o i)
noncomputable def IxR (X : Cx) (r : R2) : Prop :=
  ∀ (value slice : Expr) (pins : List (Addr × Obj)) (s : Shared) (σ : St) (H : Hp) (x y : V) (v u : Value) (Q : VK), Inv X pins σ H s → xE x v → xE y u → r x y H Q →
    subscripted slice false v u = operate [v, u] (getItem v u) → wpAny (model X.prog X.w) X.A (subscriptTail value slice v u) (EP X pins σ Q) X.xe s
noncomputable def MtR (X : Cx) (id : String) (r : V → List V → Hp → VK → Prop) : Prop :=
  ∀ (pins : List (Addr × Obj)) (s : Shared) (σ : St) (H : Hp) (x : V) (xs : List V) (v : Value) (us : List Value) (Q : VK), Inv X pins σ H s → xE x v → yu xs us → r x xs H Q →
    wpAny (model X.prog X.w) X.A (call (.builtin id) (v :: us)) (EP X pins σ Q) X.xe s
section
variable {X : Cx} {a b : Expr} {ta tb : TE} {pos : Pos}
theorem IxR.or {r r' : R2} (h : IxR X r) (h' : IxR X r') : IxR X (fun x y H Q => r x y H Q ∨ r' x y H Q) := by
  intro value slice pins s σ H x y v u Q I rx ry q hs
  rcases q with q | q
  · exact h value slice pins s σ H x y v u Q I rx ry q hs
  · exact h' value slice pins s σ H x y v u Q I rx ry q hs
theorem zdQ {r : R2} (hr : IxR X r) (ha : PE X a ta) (hb : PE X b tb) (hs : Wa b) : PE X (.Subscript a b pos) (tOp r ta tb) := by
  intro pins s σ H Q I h
  exact Subscript_ (zeM ha hb I h fun v u s2 x y H2 I2 rx ry q => hr a b pins s2 σ H2 x y v u Q I2 rx ry q (hs _ _))
noncomputable def rIxL (K : PySem.W.Frag) : R2 := fun x y H Q => ∃ p xs i v, x = .ref p ∧ y = .int i ∧ SqL K H p xs ∧ atI xs i = some v ∧ Q v H
noncomputable def rIxT (K : PySem.W.Frag) : R2 := fun x y H Q => ∃ p xs i v, x = .ref p ∧ y = .int i ∧ SqT K H p xs ∧ atI xs i = some v ∧ Q v H
noncomputable def zeQ : R2 := fun x y H Q => ∃ z i c, x = .str z ∧ y = .int i ∧ z.length ≤ sizeLine ∧ atI z.cps.toList i = some c ∧ Q (.str ⟨#[c]⟩) H
theorem zcl : IxR X (rIxL X.K) := by
  intro value slice pins s σ H x y v u Q I rx ry h hs
  obtain ⟨p, xs, i, z, rfl, rfl, hq, he, q⟩ := h
  cases rx
  obtain ⟨t, rfl⟩ := ry
  obtain ⟨its, r, pl, hz⟩ := I.list hq
  obtain ⟨j, h1, h2, h3, h4, h5⟩ := Wl he
  obtain ⟨w, ew, rw'⟩ := r.get h2
  have hl := r.length
  have hn := XG
  have fin : EP X pins σ Q w s := ⟨z, H, I, rw', q⟩
  by_cases h0 : 0 ≤ i
  · have hj : i.toNat = j := by
      rw [seqIndex_of h0 h5] at h1
      exact Option.some.inj h1
    exact item_listR pl.isList h0 (by omega) (by rw [hj]; simpa using ew) fin hs
  · have hj : (i + (its.toArray.size : Int)).toNat = j := by
      rw [seqIndex_neg (by omega) h4] at h1
      rw [List.size_toArray, ← hl]
      exact Option.some.inj h1
    exact subscriptTail_builtinR (x := w) pl.isList.typeIs slot_list_getitem.lookup
      (wpAny_getItem_list_neg (Q := fun r s' => r = w ∧ EP X pins σ Q r s') pl.isList (by omega) (by rw [List.size_toArray] <;> omega) (by omega) (by rw [hj]; simpa using ew) ⟨rfl, fin⟩) hs
theorem zer : IxR X (rIxT X.K) := by
  intro value slice pins s σ H x y v u Q I rx ry h hs
  obtain ⟨p, xs, i, z, rfl, rfl, hq, he, q⟩ := h
  cases rx
  obtain ⟨t, rfl⟩ := ry
  obtain ⟨its, r, pl, hz⟩ := I.tuple hq
  obtain ⟨j, h1, h2, h3, h4, h5⟩ := Wl he
  obtain ⟨w, ew, rw'⟩ := r.get h2
  have hl := r.length
  have hn := XG
  have fin : EP X pins σ Q w s := ⟨z, H, I, rw', q⟩
  exact subscriptTail_builtinR (x := w) pl.typeIs slot_tuple_getitem.lookup
    (getItem_tuple (j := j) (Q := fun r s' => r = w ∧ EP X pins σ Q r s') pl (by omega) (by omega) (by rw [List.size_toArray, ← hl]; exact h1) (by simpa using ew) ⟨rfl, fin⟩) hs
theorem zb2 : IxR X zeQ := by
  intro value slice pins s σ H x y v u Q I rx ry h hs
  obtain ⟨z, i, c, rfl, rfl, hz, he, q⟩ := h
  obtain ⟨t, rfl⟩ := rx
  obtain ⟨t', rfl⟩ := ry
  obtain ⟨j, h1, h2, h3, h4, h5⟩ := Wl he
  have hl : z.cps.toList.length = z.length := by simp [Str.length]
  rw [hl] at h1 h4 h5
  have hn := XG
  exact tail_any (typeIs_str s z t) slot_str_getitem.lookup (getItem_str (c := c) (by
    have e1 : decide (i < -(2 ^ 63 : Int)) = false := decide_eq_false (by omega)
    have e2 : decide (i ≥ 2 ^ 63) = false := decide_eq_false (by omega)
    rw [e1, e2, Bool.or_false]) (by rw [h1]; simpa using h2) ⟨.str ⟨#[c]⟩, H, I.tok _, ⟨_, rfl⟩, q⟩) hs
noncomputable def rIx (K : PySem.W.Frag) : R2 := fun x y H Q => rIxL K x y H Q ∨ rIxT K x y H Q ∨ zeQ x y H Q
theorem zeo : IxR X (rIx X.K) := zcl.or (zer.or zb2)
theorem XJ (lo hi : Option Int) (n : Nat) : (sliceBounds lo hi none n).1 = ((HT.sIx n 0 lo : Nat) : Int) ∧ (sliceBounds lo hi none n).2.1 = ((HT.sIx n n hi : Nat) : Int) ∧ (sliceBounds lo hi none n).2.2 = 1 := by
  refine ⟨?_, ?_, rfl⟩
  · cases lo with
    | none => simp [sliceBounds, HT.sIx]
    | some i =>
      simp only [sliceBounds, HT.sIx, Option.getD_none, show (1 : Int) > 0 by decide, if_true]
      by_cases h : i < 0
      · simp only [h, if_true] <;> omega
      · simp only [h, if_false] <;> omega
  · cases hi with
    | none => simp [sliceBounds, HT.sIx]
    | some i =>
      simp only [sliceBounds, HT.sIx, Option.getD_none, show (1 : Int) > 0 by decide, if_true]
      by_cases h : i < 0
      · simp only [h, if_true] <;> omega
      · simp only [h, if_false] <;> omega
theorem ZM (its : List Value) (lo hi : Option Int) : slicePick its.toArray lo hi none = ((its.drop (HT.sIx its.length 0 lo)).take (HT.sIx its.length its.length hi - HT.sIx its.length 0 lo)).toArray := by
  obtain ⟨h1, h2, h3⟩ := XJ lo hi its.toArray.size
  unfold slicePick
  rw [h1, h2, h3]
  simp only [sliceRange_one, pick_run, List.size_toArray] <;> rfl
noncomputable def rSlL (K : PySem.W.Frag) : V → Option Int → Option Int → Hp → VK → Prop := fun x lo hi H Q => ∃ a xs, x = .ref a ∧ SqL K H a xs ∧ ∀ p, H p = none → Q (.ref p) (upd H p (.lst (Wd xs lo hi)))
theorem zcU : SlR X (rSlL X.K) := by
  intro pins s σ H x v vl vu lo hi sl Q I rx hs pl pu h
  obtain ⟨a, xs, rfl, hx, q⟩ := h
  cases rx
  obtain ⟨its, r, ht, hz⟩ := I.list hx
  have hlen := r.length
  refine ⟨"list", _, slot_list_getitem.lookup, ht.isList.typeIs, ?_⟩
  refine wpAny_getItem_list_slice ht.isList hs pl pu .none (by simp) ?_ (by rw [List.size_toArray] <;> omega)
  rw [ZM, ← hlen]
  refine ⟨.ref s.heap.objs.size, _, I.laid (t' := s.toks) (o := .lst (Wd xs lo hi)) (fun b ob q => Heap.get?_push_of_some _ q) (Nat.le_refl _) ?_, rfl, q _ (I.hok.fresh (Nat.le_refl _))⟩
  exact ⟨Nat.le_trans (Y9 xs lo hi) hz, _, 0, (r.drop (HT.sIx xs.length 0 lo)).take (HT.sIx xs.length xs.length hi - HT.sIx xs.length 0 lo), Heap.get?_push_size _ rfl⟩
noncomputable def zcN : V → Bool
  | .non => true
  | .bl _ => true
  | .int _ => true
  | .str _ => true
  | _ => false
noncomputable def eqV : V → V → Bool
  | .non, .non => true
  | .bl a, .bl b => a == b
  | .bl a, .int b => (if a then 1 else 0) == b
  | .int a, .bl b => a == (if b then 1 else 0)
  | .int a, .int b => a == b
  | .str a, .str b => a == b
  | _, _ => false
theorem zce {A : Around} {s : Shared} {y x : V} {u v : Value} (ry : xE y u) (rx : xE x v) (fy : zcN y = true) (fx : zcN x = true) : SeqAt.EqAt A s u v (eqV y x) := by
  cases y with
  | non =>
    cases ry
    cases x with
    | non => cases rx; exact SeqAt.EqAt.same _
    | bl b => cases rx; exact SeqAt.EqAt.none_bool b
    | int b => obtain ⟨t, rfl⟩ := rx; exact SeqAt.EqAt.none_int b t
    | str b => obtain ⟨t, rfl⟩ := rx; exact SeqAt.EqAt.none_str b t
    | _ => exact absurd (show false = true from fx) Bool.false_ne_true
  | bl a =>
    cases ry
    cases x with
    | non => cases rx; exact SeqAt.EqAt.bool_none a
    | bl b => cases rx; exact SeqAt.EqAt.bool_bool a b
    | int b => obtain ⟨t, rfl⟩ := rx; exact SeqAt.EqAt.bool_int a b t
    | str b => obtain ⟨t, rfl⟩ := rx; exact SeqAt.EqAt.bool_str a b t
    | _ => exact absurd (show false = true from fx) Bool.false_ne_true
  | int a =>
    obtain ⟨t', rfl⟩ := ry
    cases x with
    | non => cases rx; exact SeqAt.EqAt.int_none a t'
    | bl b => cases rx; exact SeqAt.EqAt.int_bool a t' b
    | int b => obtain ⟨t, rfl⟩ := rx; exact SeqAt.EqAt.int_int a t' b t
    | str b => obtain ⟨t, rfl⟩ := rx; exact SeqAt.EqAt.int_str a t' b t
    | _ => exact absurd (show false = true from fx) Bool.false_ne_true
  | str a =>
    obtain ⟨t', rfl⟩ := ry
    cases x with
    | non => cases rx; exact SeqAt.EqAt.str_none a t'
    | bl b => cases rx; exact SeqAt.EqAt.str_bool a t' b
    | int b => obtain ⟨t, rfl⟩ := rx; exact SeqAt.EqAt.str_int a t' b t
    | str b => obtain ⟨t, rfl⟩ := rx; exact SeqAt.EqAt.str_str a t' b t
    | _ => exact absurd (show false = true from fx) Bool.false_ne_true
  | _ => exact absurd (show false = true from fy) Bool.false_ne_true
theorem yl : v7 X (.builtin "len") (fun xs H Q => ∃ p ys, xs = [.ref p] ∧ (SqL X.K H p ys ∨ SqT X.K H p ys) ∧ Q (.int ys.length) H) := by
  intro pins s σ H xs us Q I r h
  obtain ⟨p, ys, rfl, hq, q⟩ := h
  obtain ⟨u, rfl, rx⟩ := ZX r
  cases rx
  have hn := XG
  rcases hq with hq | hq
  · obtain ⟨its, r', pl, hz⟩ := I.list hq
    have hlen := r'.length
    exact Calls.call_len_list pl.isList (by simp only [List.size_toArray] <;> omega) ⟨.int ys.length, H, I.tok _, ⟨s.toks + 1, by rw [List.size_toArray, hlen]⟩, q⟩
  · obtain ⟨its, r', pl, hz⟩ := I.tuple hq
    have hlen := r'.length
    exact len_tuple pl (by simp only [List.size_toArray] <;> omega) ⟨.int ys.length, H, I.tok _, ⟨s.toks + 1, by rw [List.size_toArray, hlen]⟩, q⟩
theorem YA : v7 X (.builtin "len") (fun xs H Q => ∃ z, xs = [.str z] ∧ z.length ≤ sizeLine ∧ Q (.int z.length) H) := by
  intro pins s σ H xs us Q I r h
  obtain ⟨z, rfl, hz, q⟩ := h
  obtain ⟨u, rfl, t, rfl⟩ := ZX r
  have hn := XG
  exact len_str (by omega) ⟨.int z.length, H, I.tok _, ⟨_, rfl⟩, q⟩
theorem wl : v7 X (.type "tuple") (fun xs H Q => ∃ p ys, xs = [.ref p] ∧ ((SqL X.K H p ys ∧ ∀ l, H l = none → Q (.ref l) (upd H l (.tup ys))) ∨ (SqT X.K H p ys ∧ Q (.ref p) H))) := by
  intro pins s σ H xs us Q I r h
  obtain ⟨p, ys, rfl, h⟩ := h
  obtain ⟨u, rfl, rx⟩ := ZX r
  cases rx
  rcases h with ⟨hq, q⟩ | ⟨hq, q⟩
  · obtain ⟨its, r', pl, hz⟩ := I.list hq
    have hlen := r'.length
    refine call_tuple_list pl.isList (fun h' kp => ?_) (by simp only [List.size_toArray] <;> omega)
    have I1 : Inv X pins σ H { s with heap := h' } := I.kept (t' := s.toks) kp
    have I2 : Inv X pins σ (upd H h'.objs.size (.tup ys)) { s with heap := h'.push { cls := .type "tuple", data := .seq its.toArray } } :=
      I1.laid (t' := s.toks) (fun b o e => Heap.get?_push_of_some _ e) (Nat.le_refl _) (show xM X.prog X.w _ _ _ (.tup ys) from ⟨hz, its, r', IsTup.new _ _⟩)
    exact ⟨.ref h'.objs.size, _, I2, rfl, q _ (I1.hok.fresh (Nat.le_refl _))⟩
  · obtain ⟨its, r', pl, hz⟩ := I.tuple hq
    exact call_tuple_same pl ⟨.ref p, H, I, rfl, q⟩
noncomputable def tyV (K : PySem.W.Frag) (T : String) (x : V) (H : Hp) : Prop := match x with
  | .str _ => T = "str"
  | .int _ => T = "int"
  | .ref p => (T = "list" ∧ ∃ xs, SqL K H p xs) ∨ (T = "tuple" ∧ ∃ o, K.lookup p = some o ∧ o.cls = .type "tuple" ∧ o.dict = none) ∨
      (T = "dict" ∧ ((∃ kvs, H p = some (.dK kvs)) ∨ ∃ kvs, H p = some (.dT kvs))) ∨ (T = "set" ∧ ∃ S n, H p = some (.set S n))
  | _ => False
theorem zdm {pins : List (Addr × Obj)} {σ : St} {H : Hp} {s : Shared} {T : String} {x : V} {v : Value} (I : Inv X pins σ H s) (r : xE x v) (ty : tyV X.K T x H) :
    s.TypeIs v T ∧ ∀ a, v = .ref a → ∃ ob, s.heap.get? a = some ob ∧ ob.dict = none := by
  cases x with
  | str z =>
    obtain ⟨t, rfl⟩ := r
    cases (show T = "str" from ty)
    exact ⟨typeIs_str s z t, fun _ e => nomatch e⟩
  | int i =>
    obtain ⟨t, rfl⟩ := r
    cases (show T = "int" from ty)
    exact ⟨typeIs_int s i t, fun _ e => nomatch e⟩
  | ref p =>
    cases r
    rcases ty with ⟨rfl, xs, hq⟩ | ⟨rfl, o, hk, hc, hd⟩ | ⟨rfl, hk⟩ | ⟨rfl, S, n, hk⟩
    · obtain ⟨its, _, pl, _⟩ := I.list hq
      refine ⟨pl.isList.typeIs, fun a e => ?_⟩
      cases e
      obtain ⟨o, n, e, c, hd, _⟩ := pl
      exact ⟨o, e, hd⟩
    · refine ⟨⟨o, I.kIn p o hk, hc⟩, fun a e => ?_⟩
      cases e
      exact ⟨o, I.kIn _ o hk, hd⟩
    · have z : ∃ o, s.heap.get? p = some o ∧ o.ExactDict := by
        rcases hk with ⟨kvs, hk⟩ | ⟨kvs, hk⟩
        · obtain ⟨_, _, _, _, o, _, _, e, ex, _⟩ := I.hok p _ hk
          exact ⟨o, e, ex⟩
        · obtain ⟨_, _, _, _, o, _, _, e, ex, _⟩ := I.hok p _ hk
          exact ⟨o, e, ex⟩
      obtain ⟨o, e, ex⟩ := z
      refine ⟨⟨o, e, ex.1⟩, fun a e2 => ?_⟩
      cases e2
      exact ⟨o, e, ex.2.1⟩
    · obtain ⟨o, _, _, _, e, ex, _⟩ := I.hok p _ hk
      refine ⟨⟨o, e, ex.1⟩, fun a e2 => ?_⟩
      cases e2
      exact ⟨o, e, ex.2.1⟩
  | _ => exact False.elim ty
noncomputable def tBM (K : PySem.W.Frag) (T : String) (r : V → List V → Hp → VK → Prop) (to : TE) (t : TA) : TE := fun σ H Q => to σ H fun x H1 => tyV K T x H1 ∧ t σ H1 fun xs H2 => r x xs H2 Q
variable {o e : Expr} {es : List Expr} {to : TE} {t : TA} {name : Str} {apos cpos : Pos} {T id : String} {r : V → List V → Hp → VK → Prop}
theorem Zr (pa : PlainAttrs T) (slot : Slot T name id) (hty : typeOf (.builtin id) = pure (.type "method_descriptor")) (hm : MtR X id r) (ho : PE X o to) (ha : PA X (e :: es) t)
    (hbase : attributeBase o name X.env (eval o X.env) = eval o X.env := by rfl)
    (hfew : ((backTo cpos (starEach (e :: es) X.env)).all (fun x => !x.1) && (backToKw cpos (keywordEach [] X.env)).all (fun x => x.1.isSome)
      && decide ((e :: es).length + ([] : List Keyword).length + (if ([] : List Keyword).isEmpty then 0 else 1) < 30)) = true := by rfl)
    (hline : (apos.endLine == cpos.line) = true := by rfl) (hs : starEach (e :: es) X.env = (false, eval e X.env) :: starEach es X.env := by rfl) (hplain : (backTo cpos (starEach es X.env)).any (·.1) = false := by rfl) :
    PE X (.Call (.Attribute o name apos) (e :: es) [] cpos) (tBM X.K T r to t) := by
  intro pins s σ H Q I h
  refine wpAny_Call_method_late hbase hfew hline rfl (thn (ho pins s σ H _ I h) fun v s1 hh9 => ?_)
  obtain ⟨x, H1, I1, r1, ty, q1⟩ := hh9
  obtain ⟨h1, h2⟩ := zdm I1 r1 ty
  refine ⟨T, id, pa, slot, hty, h1, h2, ?_⟩
  have hA := ha cpos pins s1 σ H1 _ I1 q1
  rw [hs] at hA ⊢
  refine Calls.callWith_builtin (by show (false || (backTo cpos (starEach es X.env)).any (·.1)) = false; rw [hplain] <;> rfl) (Calls.evalArgs_plain ?_)
  exact thn hA fun us s2 ⟨vs, H2, I2, r2, q2⟩ => hm pins s2 σ H2 x vs v us Q I2 r1 r2 q2
/- xs.append(e), list.index on a module's tuple .. are MtR facts of 06m -/
end
noncomputable def MtM (X : Cx) (id : String) (r : V → List V → Hp → VK → Prop) : Prop :=
  ∀ (pins : List (Addr × Obj)) (s : Shared) (σ : St) (H : Hp) (x : V) (xs : List V) (v : Value) (us : List Value) (Q : VK), Inv X pins σ H s → xE x v → yu xs us → r x xs H Q →
    wpAny (model X.prog X.w) X.A (call (.builtin id) (v :: us)) (EP X pins σ Q) X.xe s
theorem yu.one : ∀ {x : V} {us : List Value}, yu [x] us → ∃ u, us = [u] ∧ xE x u := by
  intro x us h
  cases h with | cons r t => cases t; exact ⟨_, rfl, r⟩
theorem yu.rep {xs : List V} {us : List Value} (h : yu xs us) : ∀ k : Nat, yu (List.replicate k xs).flatten (List.replicate k us).flatten
  | 0 => .nil
  | k + 1 => by
    rw [List.replicate_succ, List.replicate_succ, List.flatten_cons, List.flatten_cons]
    exact yu.append h (yu.rep h k)
theorem XQ (its : List Value) : ∀ (k : Nat) (acc : List Value),
    List.foldl (fun x1 x2 => x1 ++ x2) acc.toArray (List.replicate k its.toArray) = (acc ++ (List.replicate k its).flatten).toArray
  | 0, acc => by simp
  | k + 1, acc => by
    have e : acc.toArray ++ its.toArray = (acc ++ its).toArray := by simp
    have e2 : (acc ++ its) ++ (List.replicate k its).flatten = acc ++ (List.replicate (k + 1) its).flatten := by
      rw [List.replicate_succ, List.flatten_cons, List.append_assoc]
    rw [← e2, ← XQ its k (acc ++ its), ← e, List.replicate_succ, List.foldl_cons]
section
variable {X : Cx} {pins : List (Addr × Obj)} {σ : St} {H : Hp} {s : Shared} {l b : Addr} {xs ys zs : List V}
theorem Inv.lset {its its' : List Value} {n : Nat} {f : Array Value → Array Value} {t' : Nat} (I : Inv X pins σ H s) (hH : H l = some (.lst xs))
    (e : s.heap.get? l = some { cls := .type "list", data := .seq its.toArray n }) (hf : f its.toArray = its'.toArray) (hv : yu ys its') (hz : ys.length ≤ sizeLine) :
    Inv X pins σ (upd H l (.lst ys)) { s with heap := s.heap.update l (Obj.mapSeq f), toks := t' } := by
  have q := PySem.IsL.update e f
  rw [hf] at q
  refine I.write (x := l) (e := l) (by rw [hH]; exact trivial) (.inl rfl) (fun b' u hb hu => (Heap.get?_update_other s.heap (Obj.mapSeq f) (Ne.symm hb)).trans hu) ⟨_, q⟩ ?_
  exact ⟨hz, its', _, hv, q⟩
theorem Inv.lnew {its : List Value} {t' : Nat} (I : Inv X pins σ H s) (hv : yu ys its) (hz : ys.length ≤ sizeLine) :
    Inv X pins σ (upd H s.heap.objs.size (.lst ys)) { s with heap := s.heap.push { cls := .type "list", data := .seq its.toArray }, toks := t' } :=
  I.laid (fun _ _ q => Heap.get?_push_of_some _ q) (Nat.le_refl _) ⟨hz, its, 0, hv, Heap.get?_push_size _ rfl⟩
theorem Inv.fresh (I : Inv X pins σ H s) : H s.heap.objs.size = none := I.hok.fresh (Nat.le_refl _)
theorem Inv.lstM (I : Inv X pins σ H s) (hH : H l = some (.lst xs)) : xs.length ≤ sizeLine ∧ ∃ (its : List Value) (n : Nat), yu xs its ∧ xs.length = its.length ∧ s.heap.get? l = some { cls := .type "list", data := .seq its.toArray n } := by
  obtain ⟨z, its, n, r, e⟩ := I.hok l _ hH
  exact ⟨z, its, n, r, r.length, e⟩
theorem WX {n : Nat} (h : n ≤ sizeLine) : Builtin.List.listTooLong n = false := by
  unfold Builtin.List.listTooLong
  exact decide_eq_false (by omega)
end
section
variable {X : Cx}
noncomputable def zam : V → List V → Hp → VK → Prop := fun x vs H Q => ∃ l xs y, x = .ref l ∧ vs = [y] ∧ H l = some (.lst xs) ∧ xs.length < sizeLine ∧ Q .non (upd H l (.lst (xs ++ [y])))
theorem vO : MtM X "list.append" zam := by
  intro pins s σ H x vs v us Q I rx rv h
  obtain ⟨l, xs, y, rfl, rfl, hH, hz, q⟩ := h
  cases rx
  obtain ⟨u, rfl, ru⟩ := rv.one
  obtain ⟨z, its, n, r, hl, e⟩ := I.lstM hH
  refine call_meets F.slot_list_append ⟨_, e, rfl⟩ F.entry_list_append (F.args_list_append_2 _ _) (PySem.list_append l its.toArray n u (by rw [List.size_toArray]; omega)) ⟨e, ?_⟩
  refine ⟨.non, _, I.lset (its' := its ++ [u]) hH e (by simp) (r.append (.cons ru .nil)) ?_, rfl, q⟩
  rw [List.length_append, List.length_singleton]
  omega
noncomputable def zcH : V → List V → Hp → VK → Prop := fun x vs H Q => ∃ l b xs zs, x = .ref l ∧ vs = [.ref b] ∧ H l = some (.lst xs) ∧ H b = some (.lst zs) ∧ xs.length + zs.length ≤ sizeLine ∧ Q .non (upd H l (.lst (xs ++ zs)))
theorem zeh : MtM X "list.extend" zcH := by
  intro pins s σ H x vs v us Q I rx rv h
  obtain ⟨l, b, xs, zs, rfl, rfl, hH, hB, hz, q⟩ := h
  cases rx
  obtain ⟨u, rfl, ru⟩ := rv.one
  cases ru
  obtain ⟨z, its, n, r, hl, e⟩ := I.lstM hH
  obtain ⟨z2, its2, n2, r2, hl2, e2⟩ := I.lstM hB
  have hsz : its.toArray.size + its2.toArray.size ≤ sizeLine := by rw [List.size_toArray, List.size_toArray]; omega
  have hlong : ¬ (!its.toArray.isEmpty && Builtin.List.listTooLong (its.toArray.size + its2.toArray.size)) = true := by
    rw [WX hsz, Bool.and_false]
    exact Bool.false_ne_true
  refine call_meets F.slot_list_extend ⟨_, e, rfl⟩ F.entry_list_extend (F.args_list_extend_2 _ _)
    (AutoSeq1.list_extend_list_list_0 l its.toArray n b its2.toArray n2 hlong (by rw [List.size_toArray]; omega) (by omega)) ⟨e, e2, ?_⟩
  refine ⟨.non, _, I.lset (its' := its ++ its2) hH e (by simp) (r.append r2) ?_, rfl, q⟩
  rw [List.length_append]
  omega
noncomputable def rCat : R2 := fun x y H Q => ∃ l b xs zs, x = .ref l ∧ y = .ref b ∧ H l = some (.lst xs) ∧ H b = some (.lst zs) ∧ xs.length + zs.length ≤ sizeLine ∧ ∀ p, H p = none → Q (.ref p) (upd H p (.lst (xs ++ zs)))
theorem zdY : OpR X (binaryOp .Add) rCat := by
  intro pins s σ H x y v u Q I rx ry h
  obtain ⟨l, b, xs, zs, rfl, rfl, hH, hB, hz, q⟩ := h
  cases rx
  cases ry
  obtain ⟨z, its, n, r, hl, e⟩ := I.lstM hH
  obtain ⟨z2, its2, n2, r2, hl2, e2⟩ := I.lstM hB
  refine PySem.P.add_list e e2 ?_ (by rw [List.size_toArray, List.size_toArray]; omega)
  have ea : its.toArray ++ its2.toArray = (its ++ its2).toArray := by simp
  rw [ea]
  exact ⟨.ref _, _, I.lnew (t' := s.toks) (r.append r2) (by rw [List.length_append]; omega), rfl, q _ I.fresh⟩
noncomputable def rRep : R2 := fun x y H Q => ∃ l k xs, x = .ref l ∧ y = .int k ∧ H l = some (.lst xs) ∧ -(2 ^ 63) ≤ k ∧ k < 2 ^ 63 ∧ xs.length * k.toNat ≤ sizeLine ∧
  ∀ p, H p = none → Q (.ref p) (upd H p (.lst (List.replicate k.toNat xs).flatten))
theorem zcz {α : Type} (xs : List α) (k : Nat) : (List.replicate k xs).flatten.length = k * xs.length := by
  induction k with
  | zero => simp
  | succ k ih => rw [List.replicate_succ, List.flatten_cons, List.length_append, ih, Nat.succ_mul, Nat.add_comm]
theorem zd8 : OpR X (binaryOp .Mult) rRep := by
  intro pins s σ H x y v u Q I rx ry h
  obtain ⟨l, k, xs, rfl, rfl, hH, h1, h2, hz, q⟩ := h
  cases rx
  obtain ⟨t, rfl⟩ := ry
  obtain ⟨z, its, n, r, hl, e⟩ := I.lstM hH
  have hlen : its.toArray.size * k.toNat ≤ sizeLine := by rw [List.size_toArray, ← hl]; exact hz
  have hcap : ¬ its.toArray.size * k.toNat > (2 ^ 63 - 1) / 8 := by
    have : (sizeLine : Nat) ≤ (2 ^ 63 - 1) / 8 := by decide
    omega
  have hfit : ¬ (!Builtin.List.listFitsIndex k) = true := by
    rw [fitsIndex_both h1 h2]
    exact Bool.false_ne_true
  have hlong : ¬ Builtin.List.listTooLong (its.toArray.size * k.toNat) = true := by
    rw [WX hlen]
    exact Bool.false_ne_true
  have hnew : List.foldl (fun x1 x2 => x1 ++ x2) #[] (List.replicate (if its.toArray.isEmpty = true then 0 else k.toNat) its.toArray) = (List.replicate k.toNat its).flatten.toArray := by
    have f0 : ∀ m : Nat, List.foldl (fun x1 x2 => x1 ++ x2) #[] (List.replicate m its.toArray) = (List.replicate m its).flatten.toArray := fun m => by
      have := XQ its m []
      rw [List.nil_append] at this
      exact this
    rw [f0]
    cases its with
    | nil => simp
    | cons a r' => rw [if_neg (by simp)]
  refine wpAny_binaryOp_repeat_ref (T := "list") (U := "int") (by decide) ⟨_, e, rfl⟩ (fun s' => typeIs_int s' k t) noFill_list_mul F.fills_int_mul F.slot_int_rmul repeat_list F.slot_int_index.lookup
    (call_meets F.slot_int_rmul (typeIs_int s k t) F.entry_int_rmul (F.args_int_rmul_2 _ _) (int___rmul___int_list k t l its.toArray n)
      ⟨e, rfl, ⟨_, e, rfl⟩, call_meets F.slot_list_mul ⟨_, e, rfl⟩ F.entry_list_mul (F.args_list_mul_2 _ _) (AutoListH.list___mul___list_int_3 l its.toArray n k t hfit hcap hlong) ⟨e, ?_⟩⟩)
  rw [hnew]
  exact ⟨.ref _, _, I.lnew (t' := s.toks) (r.rep k.toNat) (by rw [zcz, Nat.mul_comm]; exact hz), rfl, q _ I.fresh⟩
end
end L2
namespace Att
open PySem PySem.W PySem.Calls PyProof.Rows
theorem YZ {P : Params} {h : Heap} : ∀ (ns : List Int) (vs : List Value), WellAll P h vs (ns.map WData.int) → IntsAre vs ns := by
  intro ns
  induction ns with
  | nil =>
    intro vs w
    rw [List.map_nil] at w
    cases w
    exact .nil
  | cons n ns ih =>
    intro vs w
    rw [List.map_cons] at w
    cases w with
    | cons a b =>
      cases a
      exact .cons _ _ (ih _ b)
theorem VP {l : OpenLaw} {n : Nat} (hn : l.most = some n) {P : Params} {h : Heap} {args : List WData} {vals : List Value}
    (hpre : l.row.toRowW.claim.pre args = true) (hwl : WellAll P h vals args) :
    ∃ a vs ns, vals = [Value.ref a] ∧ args = [WData.list (ns.map WData.int)] ∧ h.get? a = some { cls := .type "list", data := .seq vs.toArray } ∧ IntsAre vs ns ∧ ns.length ≤ n := by
  have hsh : WShape.hasAll [] args [.list .int] = true := (pre_splitW hpre).1
  have hc : l.pre.holds [] { args := args } = true := (pre_splitW hpre).2
  obtain ⟨d, r, rfl, h1, h2⟩ := hasAllW_cons hsh
  obtain rfl := hasAllW_nil h2
  obtain ⟨xs, rfl, h3⟩ := hasW_list h1
  obtain ⟨ns, rfl⟩ := items_int h3
  have hlen : ns.length ≤ n := by
    unfold OpenLaw.pre at hc
    have h4 : (WTm.not (.lt (.lit (.int (n : Int))) (.len (.arg 0)))).holds [] { args := [.list (ns.map .int)] } = true := by
      have h4 := (holds_andW hc).1
      rw [hn] at h4
      exact h4
    have h5 := condW_of h4 (w_not (w_lt w_lit (w_len_list (w_arg rfl))))
    rw [List.length_map] at h5
    refine Nat.le_of_not_lt fun q => ?_
    have q' : (n : Int) < ((ns.length : Nat) : Int) := by omega
    first
      | (rw [decide_eq_true q'] at h5; exact absurd h5 (by decide))
      | (simp at h5; omega)
  cases hwl with
  | cons w1 w2 =>
    cases w2
    cases w1 with
    | list ho hall => exact ⟨_, _, ns, rfl, rfl, ho, YZ ns _ hall, hlen⟩
theorem V4 (l : OpenLaw) (args : List WData) : l.row.toRowW.claim.post args (.bool true) args = true :=
  postW_of (r := l.row.toRowW) (X := (true == true))
    (show WShape.has [] (.bool true) .bool = true by first | rfl | decide | simp [WShape.has, WShape.arms, WShape.armsAll])
    (show (WTm.eq .res (.lit (.bool true))).value [] { args := args, res := some (.bool true), after := args } = some (.bool (true == true)) from w_eq_bool (w_res rfl) w_lit) rfl
theorem attach_call {l : OpenLaw} {n : Nat} {q : Program} {loose : List Str} {XP : (Str → Option Value) → Heap → Prop} {YP : World → Heap → Prop} {d : DefRec}
    (hn : l.most = some n) (hdf : d.params.defaults = [])
    (call : ∀ (w : World) (s₀ s₁ : Shared) (mg mb : Str → Option Value) (fa : Addr) (o : Obj) (pm cd doc : Value) (a : Addr) (vs : List Value) (ns : List Int),
      Ground q loose [] XP w s₀ mg mb s₁.heap → YP w s₁.heap →
      s₁.heap.get? fa = some o → o.data = .func (docDef d.name d.params d.body d.scope pm cd doc) → s₁.heap.CodeRec cd d.name → mg d.name = some (.ref fa) →
      s₁.heap.get? a = some { cls := .type "list", data := .seq vs.toArray } → IntsAre vs ns → ns.length ≤ n → s₁.gens = #[] →
      codeAny (model l.prog w) callerA (.call (.ref fa) ⟨[.ref a], []⟩) (fun r s' => r = .ok (.ret (.bool true)) ∧ OldK s₁.heap s'.heap ∧ s'.os = s₁.os ∧ AllBare s'.gens) s₁) :
    WalkO q loose XP YP l.row.toRowW d [] (fun f vs => PySem.call f vs) := by
  intro w s₀ s₁ mg mb G Y fa o pm cd doc dV kV ho hd hcd hD hmg hg args vals as hpre hlay hrd hwl hlo
  obtain rfl : dV = .none := Dflts.none hD hdf
  obtain rfl : kV = .none := Dflts.noKw hD
  obtain ⟨a, vs, ns, rfl, rfl, hobj, hints, hlen⟩ := VP hn hpre hwl
  refine enter_call (codeAny_mono (call w s₀ s₁ mg mb fa o pm cd doc a vs ns G Y ho (fd_plain hd) hcd hmg hobj hints hlen hg) fun r s' hq => ?_)
  obtain ⟨rfl, h2, h3, h4⟩ := hq
  exact ⟨.inl ⟨.bool true, .bool true, [], rfl, fun _ => rfl, .bool true, V4 l _, fun _ => ⟨List.Pairwise.nil, fun _ hm => (nomatch hm)⟩⟩, h2, h3, h4⟩
section
variable {prog : Program} {w : World} {A : Around} {E : Value → Shared → Prop} {s : Shared} {K : Frag}
noncomputable def ledger (h : Heap) (L d : Addr) : List (Addr × Obj) := (List.range h.objs.size).filterMap fun a => if a = L ∨ a = d then none else (h.get? a).map fun o => (a, o)
end
end Att
namespace L2
open PySem PySem.Spec PyProof.Rows
theorem zap : ∀ {vs : List Value} {ns : List Int}, IntsAre vs ns → yu (ns.map V.int) vs := by
  intro vs ns h
  induction h with
  | nil => exact .nil
  | cons n t h ih => exact .cons ⟨t, rfl⟩ ih
noncomputable def zfk (H : Hp) : Prop := ∀ b, H b = none ∨ ∃ o xs, H b = some (.frz o (.lst xs))
theorem za5 {P : Program} {w : World} {K : PySem.W.Frag} {mg mb : Str → Option Value} {CX : CXT} {k : Nat} {fa a : Addr} {fd : FuncData} {x : Str} {sp : Sp} {s₁ : Shared} {vs : List Value} {ns : List Int}
    (KX : K.In s₁.heap) (hns : s₁.heap.Ns mainGlobals mg) (hb : s₁.heap.Ns builtinsNs mb) (hbb : ∀ x : Str, x ≠ "__name__" → mb x = bootBuiltins x) (hlim : s₁.heap.NoLimit) (hg : s₁.gens = #[])
    (ha : s₁.heap.get? a = some { cls := .type "list", data := .seq vs.toArray }) (hi : IntsAre vs ns) (hl : ns.length ≤ sizeLine) (hr : YQ k callerA)
    (F : ∀ base : Heap, K.In base → base.Ns mainGlobals mg → xx P w K mg base CX k fa fd [x] sp) (hbind : ∀ (s : Shared) (u : Value), BindsTo s fd ⟨[u], []⟩ [(x, u)])
    (hsp : ∀ H : Hp, zfk H → SqL K H a (ns.map V.int) → sp [.ref a] H (fun v _ => v = .bl true) fun _ _ _ => False)
    (hCX : ∀ H e s', CX [] H s₁ (fun _ _ _ => False) e s' → False) :
    codeAny (model P w) callerA (.call (.ref fa) ⟨[.ref a], []⟩) (fun r s' => r = .ok (.ret (.bool true)) ∧ OldK s₁.heap s'.heap ∧ s'.os = s₁.os ∧ AllBare s'.gens) s₁ := by
  have rv := zap hi
  have lenV := hi.length
  -- from an abstract heap in which nothing but the script may be tracked
  have core : ∀ H : Hp, zfk H → SqL K H a (ns.map V.int) → HOk P w H s₁.heap → (∀ b, H b ≠ none → b = a) → (H a ≠ none → K.lookup a = none) →
      codeAny (model P w) callerA (.call (.ref fa) ⟨[.ref a], []⟩) (fun r s' => r = .ok (.ret (.bool true)) ∧ OldK s₁.heap s'.heap ∧ s'.os = s₁.os ∧ AllBare s'.gens) s₁ := by
    intro H hO hS hok hA hK
    have base_of : ∀ {b : Addr} {o : Obj}, s₁.heap.get? b = some o → H b = none → (zbM s₁.heap H).get? b = some o := fun e n => zbv e n
    have noA : ∀ {b : Addr} {o : Obj} {es : Array DictEntry} {ep : Nat}, s₁.heap.get? b = some o → o.data = .dict es ep → H b = none := fun {b o es ep} e d => by
      cases q : H b with
      | none => rfl
      | some u =>
        have e' : b = a := hA b (by rw [q]; simp)
        subst e'
        rw [ha] at e; cases e
        have d' : Data.seq vs.toArray _ = Data.dict es ep := d
        cases d'
    have nsK : ∀ {b : Addr} {m : Str → Option Value}, s₁.heap.Ns b m → (zbM s₁.heap H).Ns b m := fun {b m} ⟨o, es, ep, e, d, r⟩ => ⟨o, es, ep, base_of e (noA e d), d, r⟩
    have hKb : K.In (zbM s₁.heap H) := fun b o e => base_of (KX b o e) (by
      cases q : H b with
      | none => rfl
      | some u =>
        have e' : b = a := hA b (by rw [q]; simp)
        subst e'
        rw [hK (by rw [q]; simp)] at e; cases e)
    have hM : Mod K mg (zbM s₁.heap H) := ⟨hKb, nsK hns, ⟨mb, nsK hb, hbb⟩, let ⟨mc, h1, h2⟩ := hlim; ⟨mc, nsK h1, h2⟩⟩
    have e0 : zeE P w K mg (zbM s₁.heap H) callerA [] s₁ H := ⟨rfl, hM, fun b o e => zcw e, Nat.le_of_eq (zaO _ _), trivial, fun b hb => absurd (show b ∈ ([] : List Addr) from hb) (by simp), hok, .of_eq hg⟩
    refine codeAny_mono ((F _ hKb (nsK hns)).run callerA [] s₁ H ⟨[.ref a], []⟩ [.ref a] [.ref a] _ _ hr e0 (hbind s₁ (.ref a)) (.cons rfl .nil) (hsp H hO hS)) fun r s' h => ?_
    cases r with
    | error e => exact (hCX H e s' h).elim
    | ok fl =>
      cases fl with
      | next => exact False.elim h
      | brk => exact False.elim h
      | cont => exact False.elim h
      | ret u =>
        obtain ⟨v, H', os, bare, un, hok', r', q⟩ := h
        have q' : v = .bl true := q
        subst q'
        obtain rfl : u = Value.bool true := r'
        refine ⟨rfl, OldK.of_keep fun b o e => ?_, os, bare⟩
        cases q : H b with
        | none => exact un.keep b o e q (by intro z; exact absurd (show b ∈ ([] : List Addr) from z) (by simp)) (by simp)
        | some u =>
          rcases hO b with z | ⟨ob, xs, z⟩
          · rw [q] at z; cases z
          · have z2 := un.frzs b ob _ z
            obtain ⟨e1, _⟩ := hok b _ z
            obtain ⟨e2, _⟩ := hok' b _ z2
            rw [e] at e1; cases e1
            exact e2
  cases hk : K.lookup a with
  | some o =>
    -- the script is one of the module's own objects
    have e := KX a o hk
    rw [ha] at e
    cases e
    refine core (fun _ => none) (fun _ => .inl rfl) (.inr ⟨_, vs.toArray, _, hk, rfl, rfl, rfl, by rw [List.size_toArray, lenV]; exact hl, by simpa using rv⟩) (fun b u z => by have z' : (none : Option HO) = some u := z; cases z') (fun b z => absurd rfl z) fun z => absurd rfl z
  | none =>
    refine core (fun b => if b = a then some (.frz { cls := .type "list", data := .seq vs.toArray } (.lst (ns.map V.int))) else none) (fun b => ?_) (.inl (.inr ⟨{ cls := .type "list", data := .seq vs.toArray }, if_pos rfl⟩)) (fun b u z => ?_) (fun b z => ?_) fun _ => hk
    · by_cases hb : b = a
      · exact .inr ⟨_, _, if_pos hb⟩
      · exact .inl (if_neg hb)
    · by_cases hb : b = a
      · have z' := (if_pos hb).symm.trans z
        cases z'
        subst hb
        exact ⟨ha, by rw [List.length_map]; exact hl, vs, _, rv, ha⟩
      · have z' := (if_neg hb).symm.trans z
        cases z'
    · by_cases hb : b = a
      · exact hb
      · exact absurd (if_neg hb) z
theorem walk_of {l : PySem.W.OpenLaw} {n k : Nat} {q : Program} {loose : List Str} {XP : (Str → Option Value) → Heap → Prop} {YP : World → Heap → Prop} {d : DefRec} {K : Params → PySem.W.Frag} {CX : World → CXT} {sp : World → Sp} {x : Str}
    (hn : l.most = some n) (hn2 : n ≤ sizeLine) (hdf : d.params.defaults = []) (hr : YQ k callerA)
    (hY : ∀ (w : World) (h : Heap), YP w h → (K w.params).In h)
    (F : ∀ (w : World) (mg : Str → Option Value) (fa : Addr) (h : Heap), (K w.params).In h → h.Ns mainGlobals mg → mg d.name = some (.ref fa) →
      ∃ fd : FuncData, (∀ (s : Shared) (u : Value), BindsTo s fd ⟨[u], []⟩ [(x, u)]) ∧
        ∀ base : Heap, (K w.params).In base → base.Ns mainGlobals mg → xx l.prog w (K w.params) mg base (CX w) k fa fd [x] (sp w))
    (hsp : ∀ (w : World) (H : Hp) (a : Addr) (ns : List Int), ns.length ≤ n → zfk H → SqL (K w.params) H a (ns.map V.int) → sp w [.ref a] H (fun v _ => v = .bl true) fun _ _ _ => False)
    (hCX : ∀ (w : World) (H : Hp) (s : Shared) (e : Value) (s' : Shared), CX w [] H s (fun _ _ _ => False) e s' → False) :
    PySem.W.WalkO q loose XP YP l.row.toRowW d [] (fun f vs => PySem.call f vs) := by
  refine Att.attach_call hn hdf fun w s₀ s₁ mg mb fa o pm cd doc a vs ns G Y ho hd hcd hmg hobj hints hlen hg => ?_
  have KX := hY w _ Y
  obtain ⟨fd, hb, hF⟩ := F w mg fa _ KX G.T.g hmg
  exact za5 KX G.T.g G.T.b G.T.builtins G.T.nolimit hg hobj hints (Nat.le_trans hlen hn2) hr hF hb (fun H hO hS => hsp w H a ns hlen hO hS) fun H e s' => hCX w H s₁ e s'
noncomputable def vy (s : Stmt) : Arguments := match s with
  | .FunctionDef _ a _ _ _ _ _ _ _ _ => a
  | _ => { posonlyargs := [], args := [], vararg := none, kwonlyargs := [], kw_defaults := [], kwarg := none, defaults := [] }
noncomputable def xT (s : Stmt) : List Stmt := match s with
  | .FunctionDef _ _ b _ _ _ _ _ _ _ => b
  | _ => []
noncomputable def zi (s : Stmt) : Scope := match s with
  | .FunctionDef _ _ _ _ _ _ sc _ _ _ => sc
  | _ => { kind := .function, names := [], isGenerator := false, isCoroutine := false }
noncomputable abbrev CX0 : CXT := fun _ _ _ _ _ _ => False
noncomputable abbrev E0 : XK := fun _ _ _ => False
theorem zeU {X : Cx} : zaj CX0 X E0 := fun _ _ _ _ _ _ _ h => h.elim
set_option genInjectivity false in
set_option genSizeOf false in
set_option genCtorIdx false in
structure Fun (K : PySem.W.Frag) (x qual : Str) (st : Stmt) (f : Addr) (fd : FuncData) : Prop where
  ex : ∃ (oc : Value) (od : Option Addr) (kV doc pm : Value) (an : Option Addr) (cdv ct : Value) (osl : Array (Option Value)),
    fd = PySem.W.fnOf x qual (vy st) (xT st) (zi st) .none kV doc pm an cdv ct ∧ K.lookup f = some ⟨oc, od, .func fd, osl⟩ ∧ PySem.W.codeIn K cdv qual = true
  kp : PySem.W.keepIn K (.ref f) = true
section
variable {P : Program} {w : World} {K : PySem.W.Frag} {mg : Str → Option Value} {base : Heap}
theorem Fun.ok {x qual : Str} {st : Stmt} {f : Addr} {fd : FuncData} {N ps : List Str} {k : Nat} {sp : Sp} (F : Fun K x qual st f fd) (S : zw N ps (zi st)) (len : ∀ vs H Q E, sp vs H Q E → vs.length = ps.length)
    (hbody : ∀ (cdv : Value) (A : Around) (outer : List Env) (s : Shared) (H : Hp) (vs : List V) (Q : VK) (E : XK), YQ k (A.deeper (envOfC qual (zi st) s.heap.objs.size f cdv)) → sp vs H Q E →
      ∃ t, PSs (zb0 CX0 P w K mg base N qual (zi st) f cdv A outer s H E).nox (xT st) t ∧ t { nx := fun _ H' => Q .non H', rt := Q } (start N vs) H) : xx P w K mg base CX0 (k + 1) f fd ps sp := by
  obtain ⟨oc, od, kV, doc, pm, an, cdv, ct, osl, rfl, lk, hcd⟩ := F.ex
  refine ze5 lk hcd S len fun A outer s H vs Q E hr hsp => ?_
  obtain ⟨t, h, q⟩ := hbody cdv A outer s H vs Q E hr hsp
  exact ⟨t, h.nox, q⟩
theorem Fun.binds {x qual : Str} {st : Stmt} {f : Addr} {fd : FuncData} {ps : List Str} (F : Fun K x qual st f fd)
    (h : ∀ (kV doc pm : Value) (an : Option Addr) (cdv ct : Value) (us : List Value), us.length = ps.length → bindArgs (PySem.W.fnOf x qual (vy st) (xT st) (zi st) .none kV doc pm an cdv ct) ⟨us, []⟩ = pure (ps.zip us)) : Wr K fd ps [] := by
  obtain ⟨oc, od, kV, doc, pm, an, cdv, ct, osl, rfl, lk, hcd⟩ := F.ex
  exact .all (h kV doc pm an cdv ct)
theorem zb8 {x qual : Str} {st : Stmt} {f : Addr} {oc : Value} {od an : Option Addr} {osl : Array (Option Value)} {kV doc pm cdv ct : Value} (l : K.lookup f = some ⟨oc, od, .func (PySem.W.fnOf x qual (vy st) (xT st) (zi st) .none kV doc pm an cdv ct), osl⟩)
    (c : PySem.W.codeIn K cdv qual = true) (k : PySem.W.keepIn K (.ref f) = true) : Fun K x qual st f (PySem.W.fnOf x qual (vy st) (xT st) (zi st) .none kV doc pm an cdv ct) := ⟨⟨oc, od, kV, doc, pm, an, cdv, ct, osl, rfl, l, c⟩, k⟩
end
theorem YX {n : Nat} (h : n ≤ 1000) : n < sizeLine := Nat.lt_of_le_of_lt h (by decide)
section
variable {X : Cx}
theorem pv (i : Nat) {x : Str} {pos : Pos} (hN : X.N[i]? = some x := by rfl) (hv : Vis X.env.scope x := by first | exact Or.inl rfl | exact Or.inr (Or.inl rfl) | exact Or.inr (Or.inr rfl)) (hd : (x == ("__debug__" : Str)) = false := by decide)
    (hcd : (x == ("__classdict__" : Str)) = false := by decide) : PE X (.Name x pos) (zez i) := zex hN hv hd hcd
end
noncomputable def yH (H H' : Hp) : Prop := ∀ b o, H b = some o → H' b = some o
theorem yH.refl (H : Hp) : yH H H := fun _ _ h => h
theorem yH.trans {H H1 H2 : Hp} (a : yH H H1) (b : yH H1 H2) : yH H H2 := fun c o h => b c o (a c o h)
theorem yH.free {H H' : Hp} (e : yH H H') {l : Addr} (h : H' l = Option.none) : H l = Option.none := by
  cases q : H l with
  | none => rfl
  | some o =>
    rw [e l o q] at h
    cases h
theorem yH.seq {K : PySem.W.Frag} {H H' : Hp} {a : Addr} {xs : List V} (e : yH H H') (h : SqL K H a xs) : SqL K H' a xs := by
  rcases h with (h | ⟨o, h⟩) | h
  · exact .inl (.inl (e _ _ h))
  · exact .inl (.inr ⟨o, e _ _ h⟩)
  · exact .inr h
theorem Wq {X : Cx} : v7 X (.builtin "isinstance") (fun xs H Q => ∃ x n t b, xs = [x, .ty n] ∧ WA X.K H x t ∧ PySem.W.kitOne X.K t (.type n) = some b ∧ Q (.bl b) H) := by
  intro pins s σ H xs us Q I r h
  obtain ⟨x, n, t, b, rfl, ty, e, q⟩ := h
  obtain ⟨u, w', rfl, rx, rt⟩ := zc6 r
  cases (show w' = Value.type n from rt)
  exact VH I rx ty e fun tk => ⟨.bl b, H, I.tok _, rfl, q⟩
theorem zbq {X : Cx} : OpR X (compareOp .Is) (fun x y H Q => ∃ i j, x = .bl i ∧ y = .bl j ∧ Q (.bl (i == j)) H) := by
  intro pins s σ H x y v u Q I rx ry h
  obtain ⟨i, j, rfl, rfl, q⟩ := h
  cases rx
  cases ry
  refine wpAny_is_plain (by rfl) ⟨.bl (i == j), H, I, ?_, q⟩
  cases i <;> cases j <;> rfl
noncomputable def zb7 (K : PySem.W.Frag) : R2 := fun x y H Q => ∃ a b xs ys, x = .ref a ∧ y = .ref b ∧ SqT K H a xs ∧ SqT K H b ys ∧ xs.length + ys.length ≤ sizeLine ∧
  (xs = [] → Q (.ref b) H) ∧ (xs ≠ [] → ys = [] → Q (.ref a) H) ∧ (xs ≠ [] → ys ≠ [] → ∀ p, H p = none → Q (.ref p) (upd H p (.tup (xs ++ ys))))
theorem zba {X : Cx} : OpR X (binaryOp .Add) (zb7 X.K) := by
  intro pins s σ H x y v u Q I rx ry h
  obtain ⟨a, b, xs, ys, rfl, rfl, ha, hb, hz, q0, q1, q2⟩ := h
  by_cases hx : xs = []
  · subst hx
    cases rx
    cases ry
    obtain ⟨its, r, p, _⟩ := I.tuple ha
    obtain ⟨its', r', p', _⟩ := I.tuple hb
    cases r
    obtain ⟨⟨cls, dd, data, sl⟩, ho, hc, n, hd⟩ := id p
    obtain ⟨⟨cls2, dd2, data2, sl2⟩, ho2, hc2, n2, hd2⟩ := id p'
    simp only at hc hd hc2 hd2
    subst hc hd hc2 hd2
    exact concat_meets ⟨_, ho, rfl⟩ ⟨_, ho2, rfl⟩ noFill_tuple_add seq_tuple_add PySem.F.slot_tuple_add PySem.F.entry_tuple_add (PySem.F.args_tuple_add_2 _ _)
      (tuple_addW0 a b #[] its'.toArray n n2 dd dd2 sl sl2 rfl) ⟨ho, ho2, ⟨.ref b, H, I, rfl, q0 rfl⟩⟩
  · refine zcK pins s σ H (.ref a) (.ref b) v u Q I rx ry ⟨a, b, xs, ys, rfl, rfl, ha, hb, hx, hz, ?_⟩
    exact ⟨fun e => q1 hx e, fun e => q2 hx e⟩
inductive YH : St → St → Prop where
  | nil : YH [] []
  | non {a : Option V} {s t : St} : YH s t → YH (none :: s) (a :: t)
  | same {a : Option V} {s t : St} : YH s t → YH (a :: s) (a :: t)
theorem YH.refl : ∀ s : St, YH s s
  | [] => .nil
  | _ :: r => .same (YH.refl r)
theorem YH.length {s t : St} (h : YH s t) : s.length = t.length := by
  induction h with
  | nil => rfl
  | non _ ih => simp [ih]
  | same _ ih => simp [ih]
theorem YH.get {s t : St} (h : YH s t) : ∀ (i : Nat) (v : V), s[i]? = some (some v) → t[i]? = some (some v) := by
  induction h with
  | nil => intro i v e; exact e
  | non _ ih =>
    intro i v e
    cases i with
    | zero => simp at e
    | succ i => simpa using ih i v (by simpa using e)
  | same _ ih =>
    intro i v e
    cases i with
    | zero => simpa using e
    | succ i => simpa using ih i v (by simpa using e)
theorem YH.set {n : Nat} {v : V} : ∀ {s t : St}, YH s t → s[n]? = some none → YH s (t.set n (some v))
  | _, _, .nil, _ => .nil
  | _, _, .non (a := a) h, e => by
    cases n with
    | zero => exact .non h
    | succ n => exact .non (YH.set h (by simpa using e))
  | _, _, .same (a := a) h, e => by
    cases n with
    | zero =>
      have e' : a = none := by simpa using e
      subst e'
      exact .non h
    | succ n => exact .same (YH.set h (by simpa using e))
theorem Inv.sub {X : Cx} {pins : List (Addr × Obj)} {σ σ' : St} {H : Hp} {s : Shared} (I : Inv X pins σ H s) (h : YH σ' σ) : Inv X pins σ' H s := I.weak h.length h.get
noncomputable def PIf (X : Cx) (ifs : List Expr) (t : TT) : Prop :=
  ∀ (pins : List (Addr × Obj)) (s : Shared) (σ : St) (H : Hp) (Q : Bool → Hp → Prop), Inv X pins σ H s → t σ H Q →
    wpAny (model X.prog X.w) X.A (forIn ifs true fun c r => if r = true then do let ok ← isTrue c X.env (eval c X.env); pure (ForInStep.yield ok) else pure (ForInStep.yield r)) (TP X pins σ Q) X.xe s
noncomputable def tYes : TT := fun _ H Q => Q true H
theorem zan {X : Cx} : PIf X [] tYes := by
  intro pins s σ H Q I h
  rw [List.forIn_nil]
  exact wpAny_pure ⟨H, I, h⟩
section
variable {prog : Program} {w : World} {A : Around} {R : Result → Shared → Prop} {s : Shared}
theorem vg {elt target iter : Expr} {ifs : List Expr} {scope : Scope} {pos : Pos} {it acc : Value} {env : Env} (I : Nat → Shared → Prop)
    (turn : ∀ n s, I n s → wpAny (model prog w) A (pyNext it) (fun r s₁ => match r with
      | none => R (.ok .next) s₁
      | some v => wpAny (model prog w) A (letOwnedTupleGo target it v) (fun _ s₁' => wpAny (model prog w) A (assign target env v) (fun _ s₂ =>
          wpAny (model prog w) A (forIn ifs true fun c r => if r = true then do let ok ← isTrue c env (eval c env); pure (ForInStep.yield ok) else pure (ForInStep.yield r)) (fun ok s₃ =>
            if ok = true then wpAny (model prog w) A (eval elt env) (fun x s₄ =>
              wpAny (model prog w) A (call (.builtin "list.append") [acc, x]) (fun _ s₅ => ∃ m, m < n ∧ I m s₅) (fun _ _ => False) s₄) (fun _ _ => False) s₃
            else ∃ m, m < n ∧ I m s₃) (fun _ _ => False) s₂) (fun _ _ => False) s₁') (fun _ _ => False) s₁) (fun _ _ => False) s)
    (n : Nat) (h : I n s) :
    codeAny (model prog w) A (.compLoop (.ListComp elt [⟨target, iter, ifs, 0⟩] scope pos) 0 it acc env) R s := by
  refine codeAny_loop rfl I (fun n s hI => ?_) n h
  show wpAny _ A ((compTurn (.ListComp elt [⟨target, iter, ifs, 0⟩] scope pos) 0 it acc env).onRaise (fun x => do noteFrame x env; theTreesLotGoes x)) _ _ s
  refine wpAny_noted ?_
  rw [compTurn_list]
  refine wpAny_bind (wpAny_standAt (wpAny_bind (wpAny_mono (turn n s hI) (fun r s₁ h₁ => ?_) fun _ _ h' => h'.elim)))
  cases r with
  | none => exact wpAny_pure h₁
  | some v =>
    refine wpAny_bind (wpAny_mono h₁ (fun _ s₁' h₁' => ?_) fun _ _ h' => h'.elim)
    refine wpAny_bind (wpAny_mono h₁' (fun _ s₂ h₂ => wpAny_bind (wpAny_mono h₂ (fun ok s₃ h₃ => ?_) fun _ _ h' => h'.elim)) fun _ _ h' => h'.elim)
    cases ok with
    | false => exact wpAny_pure ⟨rfl, h₃⟩
    | true =>
      exact wpAny_bind (wpAny_bind (wpAny_mono h₃ (fun x s₄ h₄ => wpAny_bind (wpAny_mono h₄ (fun _ s₅ h₅ => wpAny_pure (wpAny_pure ⟨rfl, h₅⟩)) fun _ _ h' => h'.elim)) fun _ _ h' => h'.elim))
end
noncomputable def tLC (wi : TI) (n : Nat) (g : TG) (tt : TT) (te : TE) : TE := fun σ H Q => wi σ H fun J H1 => ∀ D, H1 D = none → ∃ W : Nat → Nat → List V → Hp → Prop, (∃ m, W 0 m [] (upd H1 D (.lst []))) ∧
  ∀ i m ys H2, W i m ys H2 → (J.stop i H2 ∧ Q (.ref D) H2) ∨ (J.go i H2 ∧ ys.length < sizeLine ∧ ∀ x H3, J.yld i H2 x H3 → g x (List.replicate n none ++ σ) H3 fun σ2 H4 => tt σ2 H4 fun b H5 =>
    if b = true then te σ2 H5 fun y H6 => H6 D = some (.lst ys) ∧ ∃ m', m' < m ∧ W (i + 1) m' (ys ++ [y]) (upd H6 D (.lst (ys ++ [y]))) else ∃ m', m' < m ∧ W (i + 1) m' ys H5)
theorem vw {α : Type} : ∀ {l : List (Str × α)} {y : Str}, y ∈ l.map Prod.fst → ∃ c, l.lookup y = some c
  | [], _, h => by simp at h
  | (k, v) :: r, y, h => by
    by_cases e : y = k
    · exact ⟨v, by simp [List.lookup, e]⟩
    · obtain ⟨c, hc⟩ := vw (l := r) (y := y) (by simpa [e] using h)
      have hb : (y == k) = false := beq_eq_false_iff_ne.mpr e
      exact ⟨c, by simp only [List.lookup, hb]; exact hc⟩
theorem vI {α : Type} {P : α → Prop} : ∀ p ∈ ([] : List α), P p := fun _ h => nomatch h
theorem all_cons {α : Type} {P : α → Prop} {a : α} {l : List α} (h : P a) (t : ∀ p ∈ l, P p) : ∀ p ∈ a :: l, P p := fun p hp => by
  rcases List.mem_cons.mp hp with e | hp
  · rw [e]; exact h
  · exact t p hp
theorem gs1 (σ : St) (v : V) (H : Hp) (Q : St → Hp → Prop) (h : XV 0 v (List.replicate 1 none ++ σ) H Q) : XV 0 v (List.replicate 1 none ++ σ) H (fun σ2 H2 => YH (List.replicate 1 none ++ σ) σ2 ∧ Q σ2 H2) := ⟨.set (.refl _) rfl, h⟩
noncomputable def WB (X : Cx) (L M : List Str) (scope : Scope) (cl : List (Str × Addr)) (s₀ : Shared) (H₀ : Hp) (ex : List Addr) (pn : List (Addr × Obj)) : Cx :=
  { X with N := L ++ M, s₀ := s₀, H₀ := H₀, env := compEnvC scope cl s₀.heap.objs.size X.env, outer := X.stack, stack := X.stack, ex := ex, fn := fun _ => false, pn := pn, xe := fun _ _ => False }
structure xD (X : Cx) (L M : List Str) (scope : Scope) (cl : List (Str × Addr)) : Prop where
  clos : closureFor scope X.env = pure cl
  cell : ∀ y ∈ scope.names, y.2 ≠ .cell
  kind : scope.kind = .function
  names : ∀ y ∈ scope.names, y.2 = .local → scope.names.lookup y.1 = some .local
  sub : ∀ y c, cl.lookup y = some c → X.env.cells.lookup y = some c
  has : ∀ y, ((relabel scope X.env).names.lookup y = some .cell ∨ (relabel scope X.env).names.lookup y = some .free) → ∃ c, cl.lookup y = some c
  mlen : M.length = X.N.length
  msk : ∀ (i : Nat) y, M[i]? = some y → Vis (relabel scope X.env) y → X.N[i]? = some y
  vis : ∀ (i : Nat) y, M[i]? = some y → Vis (relabel scope X.env) y → ((relabel scope X.env).names.lookup y = some .cell ∨ (relabel scope X.env).names.lookup y = some .free)
  out : ∀ (i : Nat) y, M[i]? = some y → Vis (relabel scope X.env) y → Vis X.env.scope y ∧ X.env.kindOf y ≠ some .local
theorem Inv.letGo {X : Cx} {pins : List (Addr × Obj)} {σ : St} {H : Hp} {s : Shared} {C : Addr} {h' : Heap} (I : Inv X pins σ H s) (f : XX X pins H C) (sb : Heap.SameBut C s.heap h') : Inv X pins σ H { s with heap := h' } := by
  obtain ⟨f0, f1, f2, f3, f4, f5⟩ := f
  have ne : ∀ b, b ∉ [C] → b ≠ C := fun b hb z => hb (by rw [z]; exact List.mem_singleton.mpr rfl)
  refine I.call' (s' := { s with heap := h' }) (ch := [C]) rfl ⟨fun b o e _ _ hx => (sb.2 b (ne b hx)).trans e, fun b o e _ _ hx => ⟨o.slots, (sb.2 b (ne b hx)).trans e⟩, fun _ _ _ n _ => n, fun b o e hx => ⟨o, (sb.2 b (ne b hx)).trans e⟩, fun _ _ q => q, fun _ _ _ q => q, fun _ ps q => ⟨#[], by rw [q]; simp⟩⟩ ?_ I.bare fun b hb => ?_
  · intro b ob e
    refine (I.hok b ob e).stay (fun c v hc q => (sb.2 c ?_).trans q) (fun _ q => q) fun _ _ q => q
    rintro rfl
    rcases hc with z | z
    · rw [← z, f0] at e; cases e
    · rw [f0] at z; cases z
  · rw [List.mem_singleton.mp hb]
    exact ⟨f3, f1, f4, f5⟩
theorem zaH {use : Option (Value → Sem Unit)} {Qf : Value → Shared → Prop} {X : Cx} {elt tg iter : Expr} {ifs : List Expr} {L M : List Str} {scope : Scope} {cl : List (Str × Addr)} {pos : Pos} {wi : TI} {g : TG} {tt : TT} {te : TE}
    (hc : X.calm = true) (S : xD X L M scope cl) (hi : PI X tg iter wi)
    (hgS : ∀ (σ : St) (v : V) (H : Hp) (Q : St → Hp → Prop), g v (List.replicate L.length none ++ σ) H Q → g v (List.replicate L.length none ++ σ) H (fun σ2 H2 => YH (List.replicate L.length none ++ σ) σ2 ∧ Q σ2 H2))
    (hg : ∀ s₀ H₀ ex pn, PG (WB X L M scope cl s₀ H₀ ex pn) tg g) (ht : ∀ s₀ H₀ ex pn, PIf (WB X L M scope cl s₀ H₀ ex pn) ifs tt) (he : ∀ s₀ H₀ ex pn, PE (WB X L M scope cl s₀ H₀ ex pn) elt te)
    (hs : ∀ x, foldedSetIterable iter X.env x = pure x := by intro _; rfl) :
    ∀ (pos' : Pos) (pins : List (Addr × Obj)) (s : Shared) (σ : St) (H : Hp) (Q : VK), Inv X pins σ H s → tLC wi L.length g tt te σ H Q →
      (∀ (D C : Addr) (H' : Hp) (s' : Shared), Inv X pins σ H' s' → (∃ m, s'.heap.Ns C m) → XX X pins H' C → Q (.ref D) H' → compPost (model X.prog X.w) X.A X.xe use Qf (.ref D) C (.ok .next) s') →
      wpAny (model X.prog X.w) X.A (comprehension (.ListComp elt [⟨tg, iter, ifs, 0⟩] scope pos) scope X.env pos' (newList []) false (eval iter X.env) use) Qf X.xe s := by
  intro pos' pins s σ H Q I h fin
  refine wpAny_comprehension_free (use := use) rfl hs S.clos S.kind S.names (thn (hi pins s σ H _ I h) fun v s1 h1 => thn h1 fun itv s2 h2 => ?_)
  obtain ⟨it, fp, tn, J, H2, e, I2, T, st2, f2, q⟩ := h2
  subst e
  have hD : H2 s2.heap.objs.size = none := I2.hok.fresh (Nat.le_refl _)
  obtain ⟨W, ⟨m0, w0⟩, turn⟩ := q _ hD
  refine wpAny_newObj_type (wpAny_newFunctionEnv S.cell (by intro y hy; simp at hy) (fun h₁ hns₁ hsb₁ => ?_) S.kind)
  have I3 : Inv X pins σ (upd H2 s2.heap.objs.size (.lst [])) { s2 with heap := s2.heap.push { cls := .type "list", data := .seq ([] : List Value).toArray } } := by
    refine I2.laid (t' := s2.toks) (fun b u e => Heap.get?_push_of_some _ e) (Nat.le_refl _) ?_
    exact ⟨Nat.zero_le _, [], 0, .nil, Heap.get?_push_size _ rfl⟩
  generalize hs3 : ({ s2 with heap := s2.heap.push { cls := .type "list", data := .seq ([] : List Value).toArray } } : Shared) = s3 at I3 hns₁ hsb₁ ⊢
  have hobj : ∀ b ∈ fp, b < s2.heap.objs.size := fun b hb => by
    obtain ⟨o, ho, _⟩ := T.obj _ _ st2 b hb
    exact Heap.lt_size ho
  have hz3 : s3.heap.objs.size = s2.heap.objs.size + 1 := by rw [← hs3]; exact Heap.size_push ..
  have k23 : ∀ b o, s2.heap.get? b = some o → s3.heap.get? b = some o := fun b o e => by rw [← hs3]; exact Heap.get?_push_of_some _ e
  have k34 : ∀ b o, s3.heap.get? b = some o → h₁.get? b = some o := fun b o e => (hsb₁.2 b (Nat.ne_of_lt (Heap.lt_size e))).trans (Heap.get?_push_of_some _ e)
  generalize hH3 : upd H2 s2.heap.objs.size (.lst []) = H3 at I3 w0
  have hfp3 : ∀ b ∈ fp, H3 b = none := fun b hb => by
    rw [← hH3, zo (Nat.ne_of_lt (hobj b hb))]
    exact (f2 b hb).1
  have nfs : ∀ b ∈ fp, b ∉ frs X.stack := fun b hb z => by
    obtain ⟨_, n1, n2, _⟩ := f2 b hb
    rcases List.mem_cons.mp (I3.stkSub b z) with e | e
    · exact n1 e
    · exact n2 e
  let Y : Cx := WB X L M scope cl s3 H3 fp (X.pn ++ pins)
  have OkY : Y.Ok := by
    refine ⟨I.ok.mod, S.kind, I.ok.glob, I.ok.blt, Nat.le_refl _, fun x y c h1 h2 => I.ok.inj x y c (S.sub x c h1) (S.sub y c h2), fun x hx => S.has x hx, (fun x c h _ => absurd h Bool.false_ne_true), I.ok.hd, I.ok.frames, .inl rfl, fun b hb => ⟨?_, fun x c e z => ?_⟩,
      fun b o e => I3.bs b o e, Nat.le_trans I.ok.bsz I3.sz, fun b o e hb => ?_, nfs, I3.stack, I3.stkFree⟩
    · show b ≠ s3.heap.objs.size
      exact Nat.ne_of_lt (Nat.lt_of_lt_of_le (hobj b hb) (by rw [hz3]; exact Nat.le_succ _))
    · exact (f2 b hb).2.2.2.2.1 x c (S.sub x c e) z
    · rcases (f2 b hb).2.2.2.1 with z | z
      · exact I.ok.noex b o e z
      · have h1 := Heap.lt_size e
        have h2 := I.ok.bsz
        exact absurd (Nat.lt_of_lt_of_le h1 (Nat.le_trans h2 z)) (Nat.lt_irrefl _)
  have I4 : Inv Y [] (List.replicate L.length none ++ σ) H3 { s3 with heap := h₁, toks := s3.toks + ([] : List (Str × Value)).length } := by
    refine ⟨OkY, rfl, I3.bare, Un.kept k34, ⟨_, hns₁, fun i y v e1 e2 e3 => ?_⟩, fun x c e => ?_, I3.hok.fresh (Nat.le_refl _), fun x c e => I3.freeC x c (S.sub x c e), fun p hp => ?_, I3.hok.kept k34, ?_⟩
    · have hi : ¬ i < L.length := fun hlt => by
        rw [List.getElem?_append_left (by simpa using hlt), List.getElem?_replicate] at e2
        split at e2 <;> cases e2
      have e0' : M[i - L.length]? = some y := by
        have e1 : (L ++ M)[i]? = some y := e1
        rw [List.getElem?_append_right (by omega)] at e1
        exact e1
      have e2' : σ[i - L.length]? = some (some v) := by rw [List.getElem?_append_right (by simpa using Nat.le_of_not_lt hi)] at e2; simpa using e2
      have e1' := S.msk _ y e0' e3
      obtain ⟨ov, ok⟩ := S.out _ y e0' e3
      obtain ⟨m, hn, hl⟩ := I3.loc
      obtain ⟨u, ru, lk⟩ := hl _ y v e1' e2' ov
      refine ⟨u, ru, ?_⟩
      rcases lk with ⟨hk, _⟩ | ⟨_, c, hc', hcell⟩
      · exact absurd hk ok
      · have kn := S.vis _ y e0' e3
        obtain ⟨c', hc2⟩ := S.has y kn
        have := S.sub y c' hc2
        rw [hc'] at this
        cases this
        refine .inr ⟨kn, c, hc2, ?_⟩
        obtain ⟨o, ho, hd⟩ := hcell
        exact ⟨o, k34 _ _ ho, hd⟩
    · obtain ⟨v, o, ho, hd⟩ := I3.cell x c (S.sub x c e)
      exact ⟨v, o, k34 _ _ ho, hd⟩
    · have hp' : p ∈ X.pn ++ pins := List.append_nil (X.pn ++ pins) ▸ hp
      obtain ⟨a1, a2, a3, a4, a5⟩ := I3.pin p hp'
      refine ⟨k34 _ _ a1, a2, Nat.ne_of_lt (Heap.lt_size a1), fun z => ?_, a5⟩
      rcases List.mem_cons.mp (I3.stkSub p.1 z) with e | e
      · exact a3 e
      · exact a4 e
    · show (List.replicate L.length none ++ σ).length = (L ++ M).length
      rw [List.length_append, List.length_append, List.length_replicate, I.len, S.mlen]
  have fpY : ∀ {H' : Hp}, (∀ b ∈ fp, H' b = none) → ∀ b ∈ fp, XX Y [] H' b := fun {H'} hn b hb => by
    refine ⟨hn b hb, (OkY.exf b hb).1, nfs b hb, .inl hb, (OkY.exf b hb).2, fun p hp => ?_⟩
    have hp' : p ∈ X.pn ++ pins := List.append_nil (X.pn ++ pins) ▸ hp
    exact (f2 b hb).2.2.2.2.2 p hp'
  have st4 : tn 0 h₁ := T.keep _ _ _ st2 fun b hb o e => k34 b o (k23 b o e)
  -- behind the loop
  have back : ∀ (H' : Hp) (s' : Shared), Inv Y [] (List.replicate L.length none ++ σ) H' s' → Q (.ref s2.heap.objs.size) H' → compPost (model X.prog X.w) X.A X.xe use Qf (.ref s2.heap.objs.size) s3.heap.objs.size (.ok .next) s' := fun H' s' J' q' => by
    obtain ⟨m, hn, _⟩ := J'.loc
    refine fin _ _ H' s' (I3.call' (ch := fp) J'.os J'.base J'.hok J'.bare fun b hb => ?_) ⟨m, hn⟩ (I3.fpOk (Nat.le_refl _) J'.free) q'
    obtain ⟨_, n1, _, n3, n4, n5⟩ := f2 b hb
    exact ⟨n3, n1, n4, n5⟩
  have loop : codeAny (model X.prog X.w) X.A (.compLoop (.ListComp elt [⟨tg, iter, ifs, 0⟩] scope pos) 0 (.ref it) (.ref s2.heap.objs.size) (compEnvC scope cl s3.heap.objs.size X.env))
      (compPost (model X.prog X.w) X.A X.xe use Qf (.ref s2.heap.objs.size) s3.heap.objs.size) { s3 with heap := h₁, toks := s3.toks + ([] : List (Str × Value)).length } := by
    refine vg (fun n s' => ∃ i ys H', Inv Y [] (List.replicate L.length none ++ σ) H' s' ∧ tn i s'.heap ∧ (∀ b ∈ fp, H' b = none) ∧ W i n ys H') ?_ m0 ⟨0, [], H3, I4, st4, hfp3, w0⟩
    rintro n s5 ⟨i, ys, H5, I5, st5, fr5, w5⟩
    rcases turn i n ys H5 w5 with ⟨stop, qn⟩ | ⟨go, hlen, step⟩
    · refine thn (T.done Y rfl rfl rfl hc i [] s5 _ H5 _ I5 (fpY fr5) st5 stop) fun r s6 hh9 => ?_
      obtain ⟨hr, I6⟩ := hh9
      subst hr
      exact back H5 s6 I6 qn
    · refine thn (T.item Y rfl rfl rfl hc i [] s5 _ H5 _ I5 (fpY fr5) st5 go) fun r s6 hh9 => ?_
      obtain ⟨u, hr, h6⟩ := hh9
      subst hr
      refine thn h6 fun _ s7 hh9 => ?_
      obtain ⟨x, H7, I7, r7, y7, st7, fr7⟩ := hh9
      have I7' := I7.pinned (fpY fr7) (T.obj _ _ st7)
      have g7 := hgS σ x H7 _ (step x H7 y7)
      refine thn (hg _ _ _ _ _ s7 _ H7 x u _ I7' r7 g7) fun _ s8 hh9 => ?_
      obtain ⟨σ8, H8, I8, sub8, q8⟩ := hh9
      have again : ∀ {σ9 : St} {H9 : Hp} {s9 : Shared} {zs : List V}, Inv Y ([] ++ Zx fp s7.heap) σ9 H9 s9 → YH (List.replicate L.length none ++ σ) σ9 → (∃ m', m' < n ∧ W (i + 1) m' zs H9) →
          ∃ m, m < n ∧ ∃ i ys H', Inv Y [] (List.replicate L.length none ++ σ) H' s9 ∧ tn i s9.heap ∧ (∀ b ∈ fp, H' b = none) ∧ W i m ys H' := fun {σ9 H9 s9 zs} I9 sub9 w9 => by
        obtain ⟨m', hm, w9⟩ := w9
        refine ⟨m', hm, i + 1, zs, H9, (I9.sub sub9).unpinned, T.keep _ _ _ st7 fun b hb o e => (I9.pin (b, o) (List.mem_append_right _ (List.mem_append_right _ (wa hb e)))).1, fun b hb => ?_, w9⟩
        obtain ⟨o, e, d⟩ := T.obj _ _ st7 b hb
        exact (I9.pin (b, o) (List.mem_append_right _ (List.mem_append_right _ (wa hb e)))).2.1
      refine thn (ht _ _ _ _ _ s8 σ8 H8 _ I8 q8) fun b s9 hh9 => ?_
      obtain ⟨H9, I9, q9⟩ := hh9
      cases b with
      | false =>
        rw [if_neg Bool.false_ne_true] at q9
        rw [if_neg Bool.false_ne_true]
        exact again I9 sub8 q9
      | true =>
        rw [if_pos rfl] at q9
        rw [if_pos rfl]
        refine thn (he _ _ _ _ _ s9 σ8 H9 _ I9 q9) fun y s10 hh9 => ?_
        obtain ⟨yv, H10, I10, r10, hD10, w10⟩ := hh9
        obtain ⟨z10, its, k, rv, e10⟩ : ys.length ≤ sizeLine ∧ ∃ (its : List Value) (n : Nat), yu ys its ∧ s10.heap.get? s2.heap.objs.size = some { cls := .type "list", data := .seq its.toArray n } := I10.hok _ _ hD10
        have hl10 : s10.heap.PlainList s2.heap.objs.size its.toArray := ⟨k, e10⟩
        refine wpAny_list_append_plain (hsz := by rw [List.size_toArray, ← rv.length]; exact z10) hl10 fun h11 hl11 sb11 => ?_
        obtain ⟨k', e11⟩ := hl11
        have I11 : Inv Y ([] ++ Zx fp s7.heap) σ8 (upd H10 s2.heap.objs.size (.lst (ys ++ [yv]))) { s10 with heap := h11 } := by
          refine I10.write (x := s2.heap.objs.size) (e := s2.heap.objs.size) (t' := s10.toks) (by rw [hD10]; exact True.intro) (.inl rfl) (fun b u hb e => (sb11.2 b hb).trans e) ⟨_, e11⟩ ?_
          refine ⟨by rw [List.length_append]; show ys.length + 1 ≤ sizeLine; exact hlen, its ++ [y], k', rv.append (.cons r10 .nil), ?_⟩
          rw [e11]
          simp
        exact again I11 sub8 w10
  exact codeAny_compStart_list loop (T.self _ 0 _ _ _ st4 loop)
theorem zdg {X : Cx} {elt tg iter : Expr} {ifs : List Expr} {L M : List Str} {scope : Scope} {cl : List (Str × Addr)} {pos : Pos} {wi : TI} {g : TG} {tt : TT} {te : TE}
    (hc : X.calm = true) (S : xD X L M scope cl) (hi : PI X tg iter wi)
    (hgS : ∀ (σ : St) (v : V) (H : Hp) (Q : St → Hp → Prop), g v (List.replicate L.length none ++ σ) H Q → g v (List.replicate L.length none ++ σ) H (fun σ2 H2 => YH (List.replicate L.length none ++ σ) σ2 ∧ Q σ2 H2))
    (hg : ∀ s₀ H₀ ex pn, PG (WB X L M scope cl s₀ H₀ ex pn) tg g) (ht : ∀ s₀ H₀ ex pn, PIf (WB X L M scope cl s₀ H₀ ex pn) ifs tt) (he : ∀ s₀ H₀ ex pn, PE (WB X L M scope cl s₀ H₀ ex pn) elt te)
    (hs : ∀ x, foldedSetIterable iter X.env x = pure x := by intro _; rfl) :
    PE X (.ListComp elt [⟨tg, iter, ifs, 0⟩] scope pos) (tLC wi L.length g tt te) := by
  intro pins s σ H Q I h
  rw [eval_ListComp]
  refine zaH hc S hi hgS hg ht he hs _ pins s σ H Q I h fun D C H' s' I' ⟨m, hn⟩ f q => ⟨m, hn, fun h' sb => ⟨.ref D, _, I'.letGo f sb, rfl, q⟩⟩
theorem zee {i : Nat} {x : Str} {px spos : Pos} {X : Cx} {elt tg iter : Expr} {ifs : List Expr} {L M : List Str} {scope : Scope} {cl : List (Str × Addr)} {pos : Pos} {wi : TI} {g : TG} {tt : TT} {te : TE}
    (hN : X.N.Nodup) (hi' : X.N[i]? = some x) (hx : Loc X.env.scope x) (hc : X.calm = true) (S : xD X L M scope cl) (hi : PI X tg iter wi)
    (hgS : ∀ (σ : St) (v : V) (H : Hp) (Q : St → Hp → Prop), g v (List.replicate L.length none ++ σ) H Q → g v (List.replicate L.length none ++ σ) H (fun σ2 H2 => YH (List.replicate L.length none ++ σ) σ2 ∧ Q σ2 H2))
    (hg : ∀ s₀ H₀ ex pn, PG (WB X L M scope cl s₀ H₀ ex pn) tg g) (ht : ∀ s₀ H₀ ex pn, PIf (WB X L M scope cl s₀ H₀ ex pn) ifs tt) (he : ∀ s₀ H₀ ex pn, PE (WB X L M scope cl s₀ H₀ ex pn) elt te)
    (hs : ∀ x, foldedSetIterable iter X.env x = pure x := by intro _; rfl)
    (hsw : swapsWith (.ListComp elt [⟨tg, iter, ifs, 0⟩] scope pos) (some (.Name x px)) spos.line X.env = pure true := by rfl)
    (hf : X.fn x = true ∨ X.env.scope.names.lookup x = some .local := by first | exact .inl rfl | exact .inr rfl | assumption) :
    PS X (.Assign [.Name x px] (.ListComp elt [⟨tg, iter, ifs, 0⟩] scope pos) spos) (ze1 (tLC wi L.length g tt te) (XV i)) := by
  intro pins s σ H D I h
  rw [exec_Assign_Name_used _ _ _ _ hsw]
  refine wpAny_bind (wpAny_standAt (wpAny_bind ?_))
  show wpAny _ X.A (do let _ ← comprehension (.ListComp elt [⟨tg, iter, ifs, 0⟩] scope pos) scope X.env _ (newList []) false (eval iter X.env) (some (assign (.Name x px) X.env))) _ _ s
  refine wpAny_bind (thn (zaH (use := some (assign (.Name x px) X.env)) (Qf := fun _ s' => SP X pins D .next s') hc S hi hgS hg ht he hs _ pins s σ H _ I h fun D' C H' s' I' ⟨m, hn⟩ f q => ?_) fun _ s' hq => wpAny_pure (wpAny_pure hq))
  have hob : ∀ b ∈ [C], ∃ o, s'.heap.get? b = some o ∧ ∀ v, o.data ≠ .cell v := fun b hb => by
    rw [List.mem_singleton.mp hb]
    obtain ⟨o, es, ep, e, d, _⟩ := hn
    exact ⟨o, e, fun v z => by rw [z] at d; cases d⟩
  have I2 := I'.pinned (fp := [C]) (fun b hb => by rw [List.mem_singleton.mp hb]; exact f) hob
  refine thn (zM (pos := px) hN hi' hx hf _ s' σ H' (.ref D') (.ref D') _ I2 rfl q) fun _ s2 hh9 => ?_
  obtain ⟨σ2, H2, I3, q3⟩ := hh9
  obtain ⟨o, es, ep, e, d⟩ := hn
  have pn := I3.pin (C, o) (List.mem_append_right _ (List.mem_append_right _ (wa (List.mem_singleton.mpr rfl) e)))
  exact ⟨m, ⟨o, es, ep, pn.1, d⟩, fun h' sb => ⟨σ2, H2, I3.unpinned.letGo ⟨pn.2.1, f.2⟩ sb, q3⟩⟩
noncomputable def Zs (names rn dn : List (Str × NameKind)) (N M cn : List Str) : Bool :=
  names.all (fun y => decide (y.2 ≠ .cell)) && names.all (fun y => decide (y.2 = .local → names.lookup y.1 = some .local)) &&
  rn.all (fun y => decide ((y.2 = .cell ∨ y.2 = .free) → y.1 ∈ cn)) &&
  (M.length == N.length) && (M.zip N).all (fun p => decide ((rn.lookup p.1 = some .local ∨ rn.lookup p.1 = some .cell ∨ rn.lookup p.1 = some .free) → p.1 = p.2)) &&
  M.all (fun y => decide ((rn.lookup y = some .local ∨ rn.lookup y = some .cell ∨ rn.lookup y = some .free) →
    (rn.lookup y = some .cell ∨ rn.lookup y = some .free) ∧ (dn.lookup y = some .local ∨ dn.lookup y = some .cell ∨ dn.lookup y = some .free) ∧ dn.lookup y ≠ some .local))
theorem Y6 {X : Cx} {L N M cn : List Str} {scope : Scope} {cl : List (Str × Addr)} {rn dn : List (Str × NameKind)} (hr : (relabel scope X.env).names = rn) (hd : X.env.scope.names = dn) (hN : X.N = N)
    (clos : closureFor scope X.env = pure cl) (kind : scope.kind = .function) (hc : cl.map Prod.fst = cn) (good : Zs scope.names rn dn N M cn = true) (sub : ∀ p ∈ cl, X.env.cells.lookup p.1 = some p.2) : xD X L M scope cl := by
  unfold Zs at good
  simp only [Bool.and_eq_true, List.all_eq_true, decide_eq_true_eq] at good
  obtain ⟨⟨⟨⟨⟨g1, g2⟩, g3⟩, g5⟩, g6⟩, g4⟩ := good
  have g5 : M.length = N.length := by simpa using g5
  refine ⟨clos, g1, kind, g2, fun y c h => sub (y, c) (PySem.mem_of_lookup h), fun y h => ?_, by rw [hN]; exact g5, fun i y e v => ?_, fun i y e v => ?_, fun i y e v => ?_⟩
  · rw [hr] at h
    have hy : y ∈ cn := by
      rcases h with h | h
      · exact g3 _ (PySem.mem_of_lookup h) (.inl rfl)
      · exact g3 _ (PySem.mem_of_lookup h) (.inr rfl)
    exact vw (by rw [hc]; exact hy)
  · unfold Vis at v
    rw [hr] at v
    have hi := (List.getElem?_eq_some_iff.mp e).1
    have hj : i < N.length := by rw [← g5]; exact hi
    have hz : (M.zip N)[i]? = some (y, N[i]) := by
      rw [List.getElem?_zip_eq_some]
      exact ⟨e, List.getElem?_eq_getElem hj⟩
    have := g6 _ (List.mem_of_getElem? hz) v
    rw [hN, List.getElem?_eq_getElem hj]
    exact congrArg some this.symm
  · unfold Vis at v
    rw [hr] at v ⊢
    exact (g4 y (List.mem_of_getElem? e) v).1
  · unfold Vis at v
    rw [hr] at v
    obtain ⟨_, k1, k2⟩ := g4 y (List.mem_of_getElem? e) v
    refine ⟨?_, ?_⟩
    · unfold Vis; rw [hd]; exact k1
    · show X.env.scope.names.lookup y ≠ _; rw [hd]; exact k2
end L2
namespace PySem
open Sem (wp)
open AutoSeq1 (wpAny_loadPart')
section
variable {prog : Program} {w : World} {A : Around} {E : Value → Shared → Prop} {s : Shared}
theorem wG {it l : Addr} {i : Nat} {items} {x : Value} {Q : Value → Shared → Prop} (hit : s.heap.IsTupleIter it l i)
    (hl : s.heap.IsTuple l items) (hx : items[i]? = some x)
    (hQ : ∀ h', h'.IsTupleIter it l (i + 1) → Heap.SameBut it s.heap h' → Q x { s with heap := h' }) :
    wpAny (model prog w) A (Builtin.SmallTypes.nextOf (.ref it)) Q E s := by
  obtain ⟨o, ho, hc, hd⟩ := id hit
  obtain ⟨ol, hol, _, nl, hdl⟩ := hl
  unfold Builtin.SmallTypes.nextOf
  refine wpAny_bind (wpAny_callSpecial?_slot (name := Str.ofString "__next__") hit.typeIs F.slot_tuple_iterator_next
    (wpAny_call_entry F.slot_tuple_iterator_next hit.typeIs F.entry_tuple_iterator_next ?_ (F.args_tuple_iterator_next_1 _)))
  show wpAny _ _ (field (.ref it) 0 >>= _) _ _ s
  refine wpAny_bind (wpAny_field ho hd (x := .ref l) rfl ?_)
  show wpAny _ _ (if (Value.ref l == Value.none) = true then _ else _) _ _ s
  rw [if_neg (show ¬ ((Value.ref l == Value.none) = true) from Bool.false_ne_true)]
  show wpAny _ _ (field (.ref it) 1 >>= _) _ _ s
  refine wpAny_bind (wpAny_field ho hd (x := .int i 0) rfl ?_)
  show wpAny _ _ (seqItems? (.ref l) >>= _) _ _ s
  refine wpAny_bind (wpAny_seqItems hol hdl ?_)
  simp only [Int.toNat_natCast, hx]
  refine wpAny_bind (wpAny_setField ho hd (by simp) (wpAny_pure ⟨x, rfl, wpAny_pure (hQ _ ?_ (Heap.SameBut.update ..))⟩))
  exact ⟨_, Heap.get?_update_self _ ho (Obj.isFreed_of_fields (Obj.data_mapFields hd _)), (Obj.cls_mapFields ..).trans hc, by
    rw [Obj.data_mapFields hd]; simp [rawInt]⟩
theorem xt {it l : Addr} {i : Nat} {items} {Q : Value → Shared → Prop} (hh : A.handled = none)
    (hit : s.heap.IsTupleIter it l i) (hl : s.heap.IsTuple l items) (hx : items[i]? = none)
    (hE : ∀ h' e, Heap.ExtBut it s.heap h' → (∃ o, h'.get? e = some o ∧ o.cls = .type "StopIteration") → E (.ref e) { s with heap := h' }) :
    wpAny (model prog w) A (Builtin.SmallTypes.nextOf (.ref it)) Q E s := by
  obtain ⟨o, ho, hc, hd⟩ := id hit
  obtain ⟨ol, hol, _, nl, hdl⟩ := hl
  unfold Builtin.SmallTypes.nextOf
  refine wpAny_bind (wpAny_callSpecial?_slot (name := Str.ofString "__next__") hit.typeIs F.slot_tuple_iterator_next
    (wpAny_call_entry F.slot_tuple_iterator_next hit.typeIs F.entry_tuple_iterator_next ?_ (F.args_tuple_iterator_next_1 _)))
  show wpAny _ _ (field (.ref it) 0 >>= _) _ _ s
  refine wpAny_bind (wpAny_field ho hd (x := .ref l) rfl ?_)
  show wpAny _ _ (if (Value.ref l == Value.none) = true then _ else _) _ _ s
  rw [if_neg (show ¬ ((Value.ref l == Value.none) = true) from Bool.false_ne_true)]
  show wpAny _ _ (field (.ref it) 1 >>= _) _ _ s
  refine wpAny_bind (wpAny_field ho hd (x := .int i 0) rfl ?_)
  show wpAny _ _ (seqItems? (.ref l) >>= _) _ _ s
  refine wpAny_bind (wpAny_seqItems hol hdl ?_)
  simp only [Int.toNat_natCast, hx]
  refine wpAny_bind (wpAny_rule (wpAny_bind (wpAny_setField ho hd (by simp) ?_)))
  show wpAny _ _ (newExc (.type "StopIteration") [] >>= _) _ _ _
  refine wpAny_bind ?_
  simp only [newExc, newTuple]
  refine wpAny_bind (wpAny_newObj_type ?_ (by size_fits))
  refine wpAny_bind (m := firstArgMember _ _) (wpAny_of_eq (a := Value.none) (by first | rfl | (simp only [firstArgMember]; rfl)) ?_)
  refine wpAny_newObj_type ?_ (by size_fits)
  simp only [raiseNew]
  refine wpAny_bind (wpAny_handled ?_)
  first | rw [show A.in1.handled = none from hh] | rw [hh]
  refine wpAny_bind (wpAny_pure (wpAny_throw ?_))
  exact hE _ _ (((Heap.SameBut.update ..).extBut.push _).push _) ⟨_, Heap.get?_push_size _ rfl, rfl⟩
end
theorem vf {prog : Program} {w : World} {A : Around} {E : Value → Shared → Prop} {s : Shared} {e it l : Addr} {i : Nat} {items : Array Value} {old : Value} {Q : Option Value → Shared → Prop} (hh : A.handled = none)
    (he : IsEnum s.heap e it i old) (hit : s.heap.IsTupleIter it l i) (hl : s.heap.IsTuple l items) (hx : items[i]? = none)
    (hQ : ∀ h', Heap.ExtBut it s.heap h' → Q none { s with heap := h' }) : wpAny (model prog w) A (pyNext (.ref e)) Q E s := by
  have hT : s.TypeIs (.ref e) "enumerate" := ⟨_, he, rfl⟩
  unfold pyNext
  refine wpAny_bind (wpAny_attempt (wpAny_callSpecial?_slot (name := Str.ofString "__next__") hT F.slot_enumerate_next
    (wpAny_call_entry F.slot_enumerate_next hT F.entry_enumerate_next ?_ (F.args_enumerate_next_1 _))))
  show wpAny _ _ (field (.ref e) 2 >>= _) _ _ _
  refine wpAny_bind (wpAny_field he rfl (x := .ref it) rfl ?_)
  refine wpAny_bind (xt hh hit hl hx fun h' x he' hx' => ?_)
  obtain ⟨o, ho, hc⟩ := hx'
  refine wpAny_bind (wpAny_isInstance (T := "StopIteration") (b := true) ⟨o, ho, hc⟩ isSubtype_stop ?_)
  exact wpAny_pure (hQ _ he')
theorem wU {prog : Program} {w : World} {A : Around} (hh : A.handled = none) (it l : Addr) (hne : l ≠ it) (items : Array Value) :
    Draws prog w A it [it, l] items.size (fun i v => items[i]? = some v) (fun i h => h.IsTupleIter it l i ∧ h.IsTuple l items) where
  live := fun _ _ st => let ⟨o, ho, _⟩ := st.1; ⟨o, ho⟩
  frame := fun _ _ _ st hk => by
    obtain ⟨⟨o, ho, r⟩, ⟨o2, ho2, r2⟩⟩ := st
    exact ⟨⟨o, hk it (by simp) o ho, r⟩, ⟨o2, hk l (by simp) o2 ho2, r2⟩⟩
  item := fun i s Q E hi st hQ => by
    refine wG st.1 st.2 (x := items[i]) (by simp [hi]) fun h' hit' hs' => ?_
    exact hQ _ h' s.toks (by simp [hi]) ⟨hit', st.2.extBut hs'.extBut hne⟩ hs'
  done := fun s Q E st hE => xt hh st.1 st.2 (by simp) hE
theorem vY (l : Addr) (items : Array Value) (n : Nat) (dd : Option Addr) (sl : Array (Option Value)) :
    Meets (Builtin.«enumerate.__new__» ⟨[.type "enumerate", .ref l], []⟩) (fun _ R s => s.heap.get? l = some { cls := .type "tuple", dict := dd, data := .seq items n, slots := sl } ∧
      R (.ok (.ret (.ref (s.heap.push { cls := .type "tuple_iterator", data := .fields #[.ref l, .int 0 0] }).objs.size)))
        { s with heap := (s.heap.push { cls := .type "tuple_iterator", data := .fields #[.ref l, .int 0 0] }).push { cls := .type "enumerate", data := .fields #[.none, .bool false, .ref s.heap.objs.size, rawInt 0, .none, .none] } }) :=
  .of_wp fun prog w A R s h => by
    obtain ⟨hp, g, d, tk, os⟩ := s; obtain ⟨hl, h⟩ := h
    have hsub := sub_enumerate
    have hL : Heap.IsTuple (Shared.heap ⟨hp, g, d, tk, os⟩) l items := ⟨_, hl, rfl, n, rfl⟩
    wp_walk using wpAny_loadPart' hl
    refine wpAny_stack_any fun st => wpAny_pure ?_
    split
    · rename_i c _ _ _ _ _
      cases (c == Value.type "enumerate")
      · wp_walk using wpAny_loadPart' hl, wpAny_pyIter_tuple hL
        exact ⟨_, rfl, h⟩
      · wp_walk using wpAny_loadPart' hl, wpAny_pyIter_tuple hL
        exact ⟨_, rfl, h⟩
    · wp_walk using wpAny_loadPart' hl, wpAny_pyIter_tuple hL
      exact ⟨_, rfl, h⟩
section
variable {prog : Program} {w : World} {A : Around} {E : Value → Shared → Prop} {s : Shared}
theorem vk {l : Addr} {items : Array Value} {Q : Value → Shared → Prop}
    (hl : s.heap.IsTuple l items)
    (h : ∀ h', IsEnum h' (s.heap.objs.size + 1) s.heap.objs.size 0 .none → h'.IsTupleIter s.heap.objs.size l 0 → h'.objs.size = s.heap.objs.size + 2 →
      (∀ b o, s.heap.get? b = some o → h'.get? b = some o) → Q (.ref (s.heap.objs.size + 1)) { s with heap := h' }) :
    wpAny (model prog w) A (call (.type "enumerate") [.ref l]) Q E s := by
  obtain ⟨⟨cls, dd, data, sl⟩, ho, hc, n, hd⟩ := hl
  simp only at hc hd
  subst hc hd
  refine callType_new F.called_enumerate (by decide) (F.typeCall_enumerate_1 _) (F.newCall_enumerate_1 _) (fun obj => F.args_object_init_2 obj _) F.entry_enumerate_new
    (vY l items n dd sl) ⟨ho, ?_⟩
  have hz : (s.heap.push { cls := .type "tuple_iterator", data := .fields #[.ref l, .int 0 0] }).objs.size = s.heap.objs.size + 1 := Heap.size_push ..
  show _ ∧ _
  rw [hz]
  have he : IsEnum ((s.heap.push { cls := .type "tuple_iterator", data := .fields #[.ref l, .int 0 0] }).push
      { cls := .type "enumerate", data := .fields #[.none, .bool false, .ref s.heap.objs.size, rawInt 0, .none, .none] }) (s.heap.objs.size + 1) s.heap.objs.size 0 .none := by
    have := Heap.get?_push_size (s.heap.push { cls := .type "tuple_iterator", data := .fields #[.ref l, .int 0 0] })
      (o := { cls := .type "enumerate", data := .fields #[.none, .bool false, .ref s.heap.objs.size, rawInt 0, .none, .none] }) rfl
    rw [hz] at this; exact this
  refine ⟨⟨_, he, rfl⟩, h _ he ⟨_, Heap.get?_push_of_some _ (Heap.get?_push_size _ rfl), rfl, rfl⟩ (by rw [Heap.size_push, hz]) fun b o x => Heap.get?_push_of_some _ (Heap.get?_push_of_some _ x)⟩
end
end PySem
namespace L2
open PySem PySem.Spec PyProof.Rows
section
variable {X : Cx} {pins : List (Addr × Obj)} {σ : St} {H : Hp} {s : Shared} {h' : Heap}
theorem Inv.grown {ch : List Addr} {T : Addr} {o : HO} {t' : Nat} (I : Inv X pins σ H s) (hch : ∀ b ∈ ch, XX X pins H b) (hT : s.heap.objs.size ≤ T) (k : ∀ b u, b ∉ ch → s.heap.get? b = some u → h'.get? b = some u)
    (new : xM X.prog X.w (upd H T o) h' T o) : Inv X pins σ (upd H T o) { s with heap := h', toks := t' } := by
  have hn : H T = none := I.hok.fresh hT
  have neT : ∀ b u, s.heap.get? b = some u → b ≠ T := fun b u e => Nat.ne_of_lt (Nat.lt_of_lt_of_le (Heap.lt_size e) hT)
  have nch : ∀ b u, H b = some u → b ∉ ch := fun b u e z => by rw [(hch b z).1] at e; cases e
  refine I.step (g' := s.gens) (d' := s.drawn) (ch := ch) (fun b hb => ?_) (fun b u _ _ hc e _ => k b u hc e) (fun b u _ _ hc e _ => ⟨u.slots, k b u hc e⟩) (fun b u _ e n => by rw [zo (neT b u e)]; exact n)
    (fun b u hc e => ⟨u, k b u hc e⟩) (fun b xs e => by rw [zo (zl e hn)]; exact e) (fun b u xs e => by rw [zo (zl e hn)]; exact e) (fun b ps e => ⟨#[], by rw [zo (zl e hn), e]; simp⟩) (fun m hm => ?_) (fun b u e => ?_) I.bare
  · obtain ⟨_, n1, _, n3, n4, n5⟩ := hch b hb
    exact ⟨n3, n1, n4, n5⟩
  · obtain ⟨ob, es, ep, ho, r⟩ := hm
    exact ⟨ob, es, ep, k _ ob (fun z => (hch _ z).2.1 rfl) ho, r⟩
  · by_cases hb : b = T
    · subst hb; rw [zq] at e; cases e; exact new
    · rw [zo hb] at e
      refine (I.hok b u e).stay (fun c v hc q => k c v ?_ q) (fun c q => by rw [zo (zl q hn)]; exact q) fun c xs q => by rw [zo (zl q hn)]; exact q
      rcases hc with z | z
      · rw [z]; exact nch b u e
      · exact nch c _ z
theorem Inv.turnedN {ch : List Addr} {t' : Nat} (I : Inv X pins σ H s) (hch : ∀ b ∈ ch, XX X pins H b) (k : ∀ b u, b ∉ ch → s.heap.get? b = some u → h'.get? b = some u) : Inv X pins σ H { s with heap := h', toks := t' } := by
  have nch : ∀ b u, H b = some u → b ∉ ch := fun b u e z => by rw [(hch b z).1] at e; cases e
  refine I.step (g' := s.gens) (d' := s.drawn) (ch := ch) (fun b hb => ?_) (fun b u _ _ hc e _ => k b u hc e) (fun b u _ _ hc e _ => ⟨u.slots, k b u hc e⟩) (fun b u _ e n => n)
    (fun b u hc e => ⟨u, k b u hc e⟩) (fun b xs e => e) (fun b u xs e => e) (fun b ps e => ⟨#[], by rw [e]; simp⟩) (fun m hm => ?_) (fun b u e => ?_) I.bare
  · obtain ⟨_, n1, _, n3, n4, n5⟩ := hch b hb
    exact ⟨n3, n1, n4, n5⟩
  · obtain ⟨ob, es, ep, ho, r⟩ := hm
    exact ⟨ob, es, ep, k _ ob (fun z => (hch _ z).2.1 rfl) ho, r⟩
  · refine (I.hok b u e).stay (fun c v hc q => k c v ?_ q) (fun c q => q) fun c xs q => q
    rcases hc with z | z
    · rw [z]; exact nch b u e
    · exact nch c _ z
end
noncomputable def Iel (K : PySem.W.Frag) (a : Addr) : It :=
  ⟨fun i H => ∃ xs x, SqL K H a xs ∧ xs[i]? = some x, fun i H v H' => ∃ T x, v = .ref T ∧ H T = none ∧ H' = upd H T (.tup [.int i, x]) ∧ ∀ xs, SqL K H a xs → xs[i]? = some x, fun i H => ∃ xs, SqL K H a xs ∧ xs.length ≤ i⟩
noncomputable def Iet (K : PySem.W.Frag) (a : Addr) : It :=
  ⟨fun i H => ∃ xs x, SqT K H a xs ∧ xs[i]? = some x, fun i H v H' => ∃ T x, v = .ref T ∧ H T = none ∧ H' = upd H T (.tup [.int i, x]) ∧ ∀ xs, SqT K H a xs → xs[i]? = some x, fun i H => ∃ xs, SqT K H a xs ∧ xs.length ≤ i⟩
theorem Vo {P : Program} {w : World} {K : PySem.W.Frag} {es : List Expr} {k : Nat} {tp : Pos} (a e it : Addr) (hne : e ≠ it) :
    zbp P w K (.Tuple es k tp) (Iel K a) [e, it] e (fun i h => (∃ old, IsEnum h e it i old) ∧ h.IsListIter it a i) where
  mem := by simp
  obj := fun i h st b hb => by
    obtain ⟨⟨old, he⟩, o, ho, _, hd⟩ := st
    rcases List.mem_cons.mp hb with rfl | hb
    · exact ⟨_, he, fun v z => by cases z⟩
    · rw [List.mem_singleton.mp hb]
      exact ⟨o, ho, fun v z => by rw [hd] at z; cases z⟩
  keep := fun i h h' st kk => by
    obtain ⟨⟨old, he⟩, hit⟩ := st
    exact ⟨⟨old, kk e (by simp) _ he⟩, hit.at fun o q => kk it (by simp) o q⟩
  item := by
    intro X hP hw hK hc i pins s σ H E I hf st hg
    subst hP hw hK
    obtain ⟨⟨old, he⟩, hit⟩ := st
    obtain ⟨xs, x, hq, hx⟩ := hg
    obtain ⟨its, rv, p, hz⟩ := I.list hq
    obtain ⟨u, hu, ru⟩ := rv.get hx
    refine wpAny_pyNext_enum_item he hit p.isList (x := u) (by simpa using hu) hne fun h1 ho1 hit1 hT1 hz1 hk1 => ?_
    refine ⟨_, rfl, wpAny_letOwnedTupleGo_enum ho1 fun h2 he2 hs2 => ?_⟩
    have hfr : H s.heap.objs.size = none := I.hok.fresh (Nat.le_refl _)
    have neE : s.heap.objs.size ≠ e := Nat.ne_of_gt (Heap.lt_size he)
    have hT2 : h2.get? s.heap.objs.size = some { cls := .type "tuple", data := .seq #[.int i s.toks, u] } := (hs2.2 _ neE).trans hT1
    refine ⟨.ref s.heap.objs.size, upd H s.heap.objs.size (.tup [.int i, x]), ?_, rfl, ⟨_, x, rfl, hfr, rfl, fun ys hy => by rw [I.list_inj hy hq]; exact hx⟩, ⟨⟨_, by simpa using he2⟩, hit1.at fun o q => (hs2.2 it (Ne.symm hne)).trans q⟩, fun b hb => ?_⟩
    · refine I.grown (ch := [e, it]) hf (Nat.le_refl _) (fun b v hb q => ?_) ?_
      · have n1 : b ≠ e := fun z => hb (by simp [z])
        have n2 : b ≠ it := fun z => hb (by simp [z])
        exact (hs2.2 b n1).trans (hk1 b v n1 n2 q)
      · exact ⟨by show 2 ≤ sizeLine; decide, [.int i s.toks, u], .cons ⟨_, rfl⟩ (.cons ru .nil), ⟨_, hT2, rfl, 0, rfl⟩⟩
    · obtain ⟨o, hb2, _⟩ : ∃ o, s.heap.get? b = some o ∧ True := by
        rcases List.mem_cons.mp hb with rfl | hb
        · exact ⟨_, he, trivial⟩
        · rw [List.mem_singleton.mp hb]
          obtain ⟨o, ho, _⟩ := hit
          exact ⟨o, ho, trivial⟩
      rw [zo (Nat.ne_of_lt (Heap.lt_size hb2))]
      exact (hf b hb).1
  done := by
    intro X hP hw hK hc i pins s σ H E I hf st hg
    subst hP hw hK
    obtain ⟨⟨old, he⟩, hit⟩ := st
    obtain ⟨xs, hq, hx⟩ := hg
    obtain ⟨its, rv, p, hz⟩ := I.list hq
    have hl := rv.length
    exact wpAny_pyNext_enum_end (I.ok.hd hc) he hit p.isList (by simp; omega) fun h1 hx1 => ⟨rfl, I.turnedN (ch := [e, it]) (t' := s.toks) hf fun b v hb q => hx1 b v (fun z => hb (by simp [z])) q⟩
  self := fun _ _ _ _ _ st h => wpAny_pyIter_enum st.1.choose_spec h
theorem W5 {P : Program} {w : World} {K : PySem.W.Frag} {es : List Expr} {k : Nat} {tp : Pos} (a e it : Addr) (hne : e ≠ it) (hai : a ≠ it) (hae : a ≠ e) :
    zbp P w K (.Tuple es k tp) (Iet K a) [e, it] e (fun i h => (∃ old, IsEnum h e it i old) ∧ h.IsTupleIter it a i) where
  mem := by simp
  obj := fun i h st b hb => by
    obtain ⟨⟨old, he⟩, o, ho, _, hd⟩ := st
    rcases List.mem_cons.mp hb with rfl | hb
    · exact ⟨_, he, fun v z => by cases z⟩
    · rw [List.mem_singleton.mp hb]
      exact ⟨o, ho, fun v z => by rw [hd] at z; cases z⟩
  keep := fun i h h' st kk => by
    obtain ⟨⟨old, he⟩, o, ho, r⟩ := st
    exact ⟨⟨old, kk e (by simp) _ he⟩, o, kk it (by simp) o ho, r⟩
  item := by
    intro X hP hw hK hc i pins s σ H E I hf st hg
    subst hP hw hK
    obtain ⟨⟨old, he⟩, hit⟩ := st
    obtain ⟨xs, x, hq, hx⟩ := hg
    obtain ⟨its, rv, p, hz⟩ := I.tuple hq
    obtain ⟨u, hu, ru⟩ := rv.get hx
    have p' : s.heap.IsTuple a its.toArray := p
    have D := wU (prog := X.prog) (w := X.w) (A := X.A.in1) (I.ok.hd hc) it a hai its.toArray
    have hlt : i < its.toArray.size := by
      obtain ⟨h1, _⟩ := List.getElem?_eq_some_iff.mp hu
      simpa using h1
    refine wpAny_pyNext_enum_itemD D he ⟨hit, p'⟩ hlt hne (by simp [hne, Ne.symm hae]) fun u' h1 tk hP1 ho1 hit1 hT1 hz1 hk1 => ?_
    have eu : u' = u := by
      have : its[i]? = some u' := by simpa using hP1
      rw [hu] at this
      exact (Option.some.inj this).symm
    subst eu
    refine ⟨_, rfl, wpAny_letOwnedTupleGo_enum ho1 fun h2 he2 hs2 => ?_⟩
    have hfr : H s.heap.objs.size = none := I.hok.fresh (Nat.le_refl _)
    have neE : s.heap.objs.size ≠ e := Nat.ne_of_gt (Heap.lt_size he)
    have hT2 : h2.get? s.heap.objs.size = some { cls := .type "tuple", data := .seq #[.int i tk, u'] } := (hs2.2 _ neE).trans hT1
    refine ⟨.ref s.heap.objs.size, upd H s.heap.objs.size (.tup [.int i, x]), ?_, rfl, ⟨_, x, rfl, hfr, rfl, fun ys hy => by rw [I.tuple_inj hy hq]; exact hx⟩, ⟨⟨_, by simpa using he2⟩, ?_⟩, fun b hb => ?_⟩
    · refine I.grown (ch := [e, it]) hf (Nat.le_refl _) (fun b v hb q => ?_) ?_
      · have n1 : b ≠ e := fun z => hb (by simp [z])
        have n2 : b ≠ it := fun z => hb (by simp [z])
        exact (hs2.2 b n1).trans (hk1 b v n1 n2 q)
      · exact ⟨by show 2 ≤ sizeLine; decide, [.int i tk, u'], .cons ⟨_, rfl⟩ (.cons ru .nil), ⟨_, hT2, rfl, 0, rfl⟩⟩
    · obtain ⟨o, ho, r⟩ := hit1.1
      exact ⟨o, (hs2.2 it (Ne.symm hne)).trans ho, r⟩
    · obtain ⟨o, hb2, _⟩ : ∃ o, s.heap.get? b = some o ∧ True := by
        rcases List.mem_cons.mp hb with rfl | hb
        · exact ⟨_, he, trivial⟩
        · rw [List.mem_singleton.mp hb]
          obtain ⟨o, ho, _⟩ := hit
          exact ⟨o, ho, trivial⟩
      rw [zo (Nat.ne_of_lt (Heap.lt_size hb2))]
      exact (hf b hb).1
  done := by
    intro X hP hw hK hc i pins s σ H E I hf st hg
    subst hP hw hK
    obtain ⟨⟨old, he⟩, hit⟩ := st
    obtain ⟨xs, hq, hx⟩ := hg
    obtain ⟨its, rv, p, hz⟩ := I.tuple hq
    have hl := rv.length
    have p' : s.heap.IsTuple a its.toArray := p
    exact vf (I.ok.hd hc) he hit p' (by simp; omega) fun h1 hx1 => ⟨rfl, I.turnedN (ch := [e, it]) (t' := s.toks) hf fun b v hb q => hx1 b v (fun z => hb (by simp [z])) q⟩
  self := fun _ _ _ _ _ st h => wpAny_pyIter_enum st.1.choose_spec h
noncomputable def zfj (K : PySem.W.Frag) (ta : TA) : TI := fun σ H R => ta σ H fun vs H1 => ∃ a, vs = [.ref a] ∧ ((∃ xs, H1 a = some (.lst xs) ∧ R (Iel K a) H1) ∨ (∃ xs, SqT K H1 a xs ∧ R (Iet K a) H1))
theorem zcJ {X : Cx} {es : List Expr} {k : Nat} {tp : Pos} {a : Expr} {ta : TA} {p pos : Pos} (hg : Gl X "enumerate") (hm : X.mg "enumerate" = none) (hb : bootBuiltins "enumerate" = some (.type "enumerate")) (ha : PA X [a] ta)
    (hs : starEach [a] X.env = [(false, eval a X.env)] := by rfl) : PI X (.Tuple es k tp) (.Call (.Name "enumerate" p) [a] [] pos) (zfj X.K ta) := by
  intro pins s σ H R I h
  refine Call_ (Yw I hg hm hb (PyProof.Rows.callWith_type1 (thn (ha pos pins s σ H _ I h) fun us s1 hh9 => ?_) hs rfl))
  obtain ⟨vs, H1, I1, r1, q1⟩ := hh9
  obtain ⟨l, e, q⟩ := q1
  subst e
  obtain ⟨u, rfl, ru⟩ := ZX r1
  cases ru
  have hn : ∀ b, s1.heap.objs.size ≤ b → XX X pins H1 b := fun b hb => I1.fpOk hb (I1.hok.fresh hb)
  have hne : s1.heap.objs.size + 1 ≠ s1.heap.objs.size := by omega
  have hfp : ∀ b ∈ [s1.heap.objs.size + 1, s1.heap.objs.size], XX X pins H1 b := fun b hb => by
    rcases List.mem_cons.mp hb with rfl | hb
    · exact hn _ (Nat.le_succ _)
    · rw [List.mem_singleton.mp hb]; exact hn _ (Nat.le_refl _)
  rcases q with ⟨xs, hx, q⟩ | ⟨xs, hx, q⟩
  · obtain ⟨_, its, n, _, e⟩ : xs.length ≤ sizeLine ∧ ∃ (its : List Value) (n : Nat), yu xs its ∧ s1.heap.get? l = some { cls := .type "list", data := .seq its.toArray n } := I1.hok _ _ hx
    refine call_enumerate_1 e fun h2 he hit hz hk => wpAny_pyIter_enum he ?_
    exact ⟨_, _, _, _, H1, rfl, I1.kept (t' := s1.toks) hk, Vo l _ _ hne, ⟨⟨_, he⟩, hit⟩, hfp, q⟩
  · obtain ⟨its, _, p1, _⟩ := I1.tuple hx
    have lt : l < s1.heap.objs.size := by
      obtain ⟨o, ho, _⟩ := p1
      exact Heap.lt_size ho
    refine vk (show s1.heap.IsTuple l its.toArray from p1) fun h2 he hit hz hk => wpAny_pyIter_enum he ?_
    exact ⟨_, _, _, _, H1, rfl, I1.kept (t' := s1.toks) hk, W5 l _ _ hne (Nat.ne_of_lt lt) (Nat.ne_of_lt (Nat.lt_succ_of_lt lt)), ⟨⟨_, he⟩, hit⟩, hfp, q⟩
end L2
namespace HT
open PySem PyProof.Rows
noncomputable def lexLe : List Int → List Int → Bool
  | [], _ => true
  | _ :: _, [] => false
  | x :: xs, y :: ys => if x = y then lexLe xs ys else decide (x ≤ y)
theorem Vj (x y : Int) (xs ys : List Int) : lexLe (x :: xs) (y :: ys) = if x = y then lexLe xs ys else decide (x ≤ y) := rfl
theorem za7 (A : Around) (s : Shared) (a : Int) (t : Tok) (c : Int) (u : Tok) (prog : Program) (w : World) (E : Value → Shared → Prop) (Q : Value → Shared → Prop) (h : Q (.bool (decide (a ≤ c))) s) :
    wpAny (model prog w) A (richCompare .LtE (.int a t) (.int c u)) Q E s :=
  (PyProof.Rows.le_int h : wpAny (model prog w) A (compareOp .LtE (.int a t) (.int c u)) Q E s)
section
open PySem.SeqAt
open PySem.AutoSeq1 (wpAny_loadPart')
open PySem.MeetsSeq PySem.MeetsSeq2 PySem.MeetsSeq3
theorem ZZ (l b : Addr) (items items2 : Array Value) (n n2 : Nat) (dd dd2 : Option Addr) (sl sl2 : Array (Option Value)) (ns ms : List Int) (hi : IntsAre items.toList ns) (hj : IntsAre items2.toList ms) :
    Meets (Builtin.«tuple.__le__» ⟨[.ref l, .ref b], []⟩)
      (fun _ R s => s.heap.get? l = some { cls := .type "tuple", dict := dd, data := .seq items n, slots := sl } ∧ s.heap.get? b = some { cls := .type "tuple", dict := dd2, data := .seq items2 n2, slots := sl2 } ∧
        R (.ok (.ret (.bool (lexLe ns ms)))) s) :=
  .of_wp fun prog w A R s h => by
    obtain ⟨hp, g, d, tk, os⟩ := s; obtain ⟨hl, hb, h⟩ := h
    have f2 := AutoSeq1.sub_tuple_tuple
    have z1 : items.size = ns.length := by rw [← hi.length]; simp
    have z2 : items2.size = ms.length := by rw [← hj.length]; simp
    wp_walk using wpAny_loadPart' hl, wpAny_loadPart' hb, wpAny_forIn_list _ (fun rest b s' => b.1 = none ∧ s' = ⟨hp, g, d, tk, os⟩ ∧ ∃ (vs ws : List Value) (ns' ms' : List Int), rest = vs.zip ws ∧
      IntsAre vs ns' ∧ IntsAre ws ms' ∧ ns'.length + items2.size = ms'.length + items.size ∧ R (.ok (.ret (.bool (lexLe ns' ms')))) ⟨hp, g, d, tk, os⟩) _
    case turn =>
      rintro ⟨y, x⟩ rest b s' ⟨hb', rfl, vs, ws, ns', ms', hz, hvi, hwi, hlen, hR⟩
      cases hvi with
      | nil => rw [List.zip_nil_left] at hz; cases hz
      | cons a t hvi' =>
        cases hwi with
        | nil => rw [List.zip_nil_right] at hz; cases hz
        | cons c u hwi' =>
          rw [List.zip_cons_cons] at hz
          injection hz with hyx hrest
          injection hyx with hy hx
          subst hy hx
          rw [Vj] at hR
          simp only [List.length_cons] at hlen
          obtain ⟨e, he, hiff⟩ := za1 A.in1 ⟨hp, g, d, tk, os⟩ a t c u
          refine wpAny_bind (he prog w _ _ ?_)
          cases e with
          | true =>
            rw [if_pos (hiff.mp rfl)] at hR
            wp_walk
            exact ⟨rfl, rfl, _, _, _, _, hrest, hvi', hwi', by omega, hR⟩
          | false =>
            rw [if_neg (fun q => absurd (hiff.mpr q) Bool.false_ne_true)] at hR
            have hri := za7 A.in1 ⟨hp, g, d, tk, os⟩ a t c u prog w
            wp_walk using hri
            exact ⟨_, rfl, by simpa using hR⟩
    case fin =>
      rintro ⟨b1, b2⟩ s' ⟨hb', rfl, vs, ws, ns', ms', hz, hvi, hwi, hlen, hR⟩
      simp only at hb'
      subst hb'
      have hv : lexLe ns' ms' = decide (items.size ≤ items2.size) := by
        cases hvi with
        | nil =>
          simp only [List.length_nil] at hlen
          show true = _
          exact (decide_eq_true (by omega)).symm
        | cons a t hv =>
          cases hwi with
          | nil =>
            simp only [List.length_nil, List.length_cons] at hlen
            show false = _
            exact (decide_eq_false (by omega)).symm
          | cons c u hw =>
            rw [List.zip_cons_cons] at hz
            cases hz
      rw [hv] at hR
      wp_walk
      exact ⟨_, rfl, by simpa [Builtin.Tuple.tupleCompareSizes] using hR⟩
    case h =>
      exact ⟨rfl, rfl, items.toList, items2.toList, ns, ms, rfl, hi, hj, by omega, h⟩
end
section
variable {prog : Program} {w : World} {A : Around} {E : Value → Shared → Prop} {s : Shared}
theorem le_tupInts {l b : Addr} {items items2 : Array Value} {ns ms : List Int} {Q : Value → Shared → Prop} (hl : IsTup s.heap l items) (hb : IsTup s.heap b items2) (hi : IntsAre items.toList ns) (hj : IntsAre items2.toList ms)
    (hu : A.units < cLine) (h : Q (.bool (lexLe ns ms)) s) : wpAny (model prog w) A (compareOp .LtE (.ref l) (.ref b)) Q E s := by
  obtain ⟨⟨cls, dd, data, sl⟩, ho, hc, n, hd⟩ := id hl
  obtain ⟨⟨cls2, dd2, data2, sl2⟩, ho2, hc2, n2, hd2⟩ := id hb
  simp only at hc hd hc2 hd2
  subst hc hd hc2 hd2
  exact richCompare_meets_room (op := .LtE) ⟨_, ho, rfl⟩ ⟨_, ho2, rfl⟩ PySem.F.slot_tuple_le PySem.F.entry_tuple_le (PySem.F.args_tuple_le_2 _ _) (ZZ l b items items2 n n2 dd dd2 sl sl2 ns ms hi hj)
    ⟨ho, ho2, show Value.bool (lexLe ns ms) ≠ Value.notImplemented ∧ Q (.bool (lexLe ns ms)) s from ⟨(fun x => nomatch x), h⟩⟩ hu
end
end HT
namespace L2
open PySem PySem.Spec PyProof.Rows
noncomputable def rLeT (K : PySem.W.Frag) : R2 := fun x y H Q => ∃ a b ns ms, x = .ref a ∧ y = .ref b ∧ SqT K H a (ns.map V.int) ∧ SqT K H b (ms.map V.int) ∧ Q (.bl (HT.lexLe ns ms)) H
theorem zdH {X : Cx} (hu : X.A.units < cLine) : OpR X (compareOp .LtE) (rLeT X.K) := by
  intro pins s σ H x y v u Q I rx ry h
  obtain ⟨a, b, ns, ms, rfl, rfl, ha, hb, q⟩ := h
  cases rx
  cases ry
  obtain ⟨its, r1, p1, _⟩ := I.tuple ha
  obtain ⟨its2, r2, p2, _⟩ := I.tuple hb
  have i1 : IntsAre its.toArray.toList ns := Zz r1
  have i2 : IntsAre its2.toArray.toList ms := Zz r2
  exact HT.le_tupInts p1 p2 i1 i2 hu ⟨.bl (HT.lexLe ns ms), H, I, rfl, q⟩
end L2
namespace HT
open PySem PyProof.Rows
section
variable {prog : Program} {w : World} {A : Around} {E : Value → Shared → Prop} {s : Shared}
theorem own_getItem_whole {t sl : Addr} {items : Array Value} {vl vu : Value} {lo hi : Option Int} {Q : Value → Shared → Prop} (ht : IsTup s.heap t items) (hs : s.heap.IsSliceOf sl vl vu .none) (pl : IsPart vl lo) (pu : IsPart vu hi)
    (hw : sIx items.size 0 lo = 0 ∧ sIx items.size items.size hi = items.size) (h : Q (.ref t) s) : wpAny (model prog w) A (getItem (.ref t) (.ref sl)) Q E s := by
  obtain ⟨os, hos, hcs, hds⟩ := id hs
  have hTs : s.TypeIs (.ref sl) "slice" := ⟨os, hos, hcs⟩
  unfold getItem
  try with_reducible refine wpAny_holding ?_
  first | refine wpAny_bind (wpAny_pure ?_) | skip
  refine wpAny_bind (wpAny_sequenceKey ht.typeIs (by decide) ?_)
  refine wpAny_bind (wpAny_callSpecial?_slot (name := Str.ofString "__getitem__") ht.typeIs PyProof.Rows.slot_tuple_getitem
    (wpAny_call_entry PyProof.Rows.slot_tuple_getitem ht.typeIs entry_tuple_getitem ?_ (args_tuple_getitem _ _)))
  show wpAny _ _ (Builtin.Tuple.tupleItemsOf (.ref t) >>= _) _ _ s
  refine wpAny_bind (tupleItemsOf_ ht ?_)
  refine wpAny_bind (wpAny_typeOf hTs ?_)
  rw [if_pos (by decide)]
  refine wpAny_bind (wD hs pl pu ?_)
  have hyes : (((sIx items.size 0 lo : Nat) : Int) == 0 && (1 : Int) == 1 && (sIx items.size items.size hi - sIx items.size 0 lo) == items.size) = true := by
    rw [hw.1, hw.2]
    simp
  show wpAny _ _ (if (((sIx items.size 0 lo : Nat) : Int) == 0 && (1 : Int) == 1 && (sIx items.size items.size hi - sIx items.size 0 lo) == items.size) = true then _ else _) _ _ s
  rw [if_pos hyes]
  refine wpAny_bind (m := Builtin.Tuple.tupleIsExact (.ref t)) ?_
  unfold Builtin.Tuple.tupleIsExact
  refine wpAny_bind (wpAny_typeOf ht.typeIs (wpAny_pure ?_))
  rw [if_pos (by decide)]
  refine wpAny_bind (wpAny_rule ?_)
  first
    | exact wpAny_pure ⟨_, rfl, wpAny_pure h⟩
    | exact wpAny_bind (wpAny_pure (wpAny_pure ⟨_, rfl, wpAny_pure h⟩))
end
end HT
namespace PySem
open Sem (wp)
theorem yN {prog : Program} {w : World} {A : Around} {it a : Addr} {fp : List Addr} {n k : Nat} {P : Nat → Value → Prop} {St : Nat → Heap → Prop} (D : Draws prog w A it fp n P St) {h h' : Heap} (st : St k h) (sb : Heap.SameBut a h h') (na : a ∉ fp) : St k h' :=
  D.frame _ _ _ st fun b hb o e => (sb.2 b fun z => na (z ▸ hb)).trans e
set_option genInjectivity false in
set_option genSizeOf false in
set_option genCtorIdx false in
structure zbQ (z TI TO i1 i2 : Addr) (fp1 fp2 : List Addr) : Prop where
  nd : [z, TI, TO, i1, i2].Nodup
  z1 : z ∉ fp1
  z2 : z ∉ fp2
  o1 : TO ∉ fp1
  o2 : TO ∉ fp2
  i12 : i1 ∉ fp2
  i21 : i2 ∉ fp1
section
variable {prog : Program} {w : World} {A : Around} {E : Value → Shared → Prop} {s : Shared} {z TI TO i1 i2 : Addr} {fp1 fp2 : List Addr} {n1 n2 k1 k2 : Nat} {P1 P2 : Nat → Value → Prop} {St1 St2 : Nat → Heap → Prop} {a b : Value}
theorem XA {Q : Value → Shared → Prop} (D1 : Draws prog w A i1 fp1 n1 P1 St1) (D2 : Draws prog w A i2 fp2 n2 P2 St2) (ap : zbQ z TI TO i1 i2 fp1 fp2)
    (hz : IsZip s.heap z TI TO .none) (hTI : IsPair s.heap TI (.ref i1) (.ref i2)) (hTO : IsPair s.heap TO a b) (h1 : St1 k1 s.heap) (h2 : St2 k2 s.heap) (l1 : k1 < n1) (l2 : k2 < n2)
    (hQ : ∀ x y h' tk, P1 k1 x → P2 k2 y → IsZip h' z TI TO (rawInt s.heap.objs.size) → IsPair h' TO x y → St1 (k1 + 1) h' → St2 (k2 + 1) h' → IsPair h' s.heap.objs.size x y →
      (∀ c o, c ∉ [z, TO, i1, i2] → s.heap.get? c = some o → h'.get? c = some o) → Q (.ref s.heap.objs.size) { s with heap := h', toks := tk }) :
    wpAny (model prog w) A (Builtin.«zip.__next__» ⟨[.ref z], []⟩) (fun fin s' => ∃ v, fin = .done (.ret v) ∧ Q v s') E s := by
  obtain ⟨nd, az1, az2, ao1, ao2, a12, a21⟩ := ap
  simp only [List.nodup_cons, List.mem_cons, List.not_mem_nil, or_false, not_or, not_false_eq_true, List.nodup_nil, and_true] at nd
  obtain ⟨⟨n1', n2', n3', n4'⟩, ⟨n5, n6, n7⟩, ⟨n8, n9⟩, n10⟩ := nd
  show wpAny _ _ (field (.ref z) 2 >>= _) _ _ _
  refine wpAny_bind (wpAny_field hz rfl (x := .bool false) rfl ?_)
  show wpAny _ _ (field (.ref z) 3 >>= _) _ _ _
  refine wpAny_bind (wpAny_field hz rfl (x := .ref TI) rfl (wpAny_bind (wpAny_seqItems hTI rfl ?_)))
  show wpAny _ _ (Builtin.SmallTypes.ownedTupleIsFree (.ref z) >>= _) _ _ _
  refine wpAny_bind ?_
  unfold Builtin.SmallTypes.ownedTupleIsFree
  refine wpAny_bind (wpAny_field hz rfl (x := .none) rfl (wpAny_pure ?_))
  simp only [if_true]
  refine wpAny_bind (wpAny_rule (wpAny_bind (wpAny_field hz rfl (x := .ref TO) rfl (wpAny_bind (wpAny_setField_rec hz (by simp) fun g1 z1 b1 => ?_)))))
  refine wpAny_bind ?_
  simp only [List.zipIdx_cons, List.zipIdx_nil, List.forIn_cons, List.forIn_nil]
  refine wpAny_bind (wpAny_bind (wpAny_onRaise ?_))
  show wpAny _ _ (Builtin.SmallTypes.nextOf (.ref i1) >>= _) _ _ _
  refine wpAny_bind (D1.item k1 _ _ _ l1 (yN D1 h1 b1 az1) fun x g2 tk2 px st2 b2 => wpAny_pure ?_)
  have o2 : IsPair g2 TO a b := (b2.2 TO n8).trans ((b1.2 TO (Ne.symm n2')).trans hTO)
  refine wpAny_bind (wpAny_seqItems o2 rfl (wpAny_bind (wpAny_updateSeq_pair o2 fun g3 o3 b3 => ?_)))
  refine wpAny_bind (wpAny_letGo (wpAny_pure ?_))
  refine wpAny_bind (wpAny_bind (wpAny_onRaise ?_))
  show wpAny _ _ (Builtin.SmallTypes.nextOf (.ref i2) >>= _) _ _ _
  have s23 : St2 k2 g3 := yN D2 (yN D2 (yN D2 h2 b1 az2) b2 a12) b3 ao2
  refine wpAny_bind (D2.item k2 _ _ _ l2 s23 fun y g4 tk4 py st4 b4 => wpAny_pure ?_)
  have o4 : IsPair g4 TO x b := (b4.2 TO n9).trans o3
  refine wpAny_bind (wpAny_seqItems o4 rfl (wpAny_bind (wpAny_updateSeq_pair o4 fun g5 o5 b5 => ?_)))
  replace o5 : IsPair g5 TO x y := o5
  refine wpAny_bind (wpAny_letGo (wpAny_pure (wpAny_pure ?_)))
  refine wpAny_bind (wpAny_seqItems o5 rfl ?_)
  show wpAny _ _ (newTuple [x, y] >>= _) _ _ _
  refine wpAny_bind (wpAny_newTuple ?_)
  have hsz : g5.objs.size = s.heap.objs.size := by rw [b5.1, b4.1, b3.1, b2.1, b1.1]
  have z5 : IsZip g5 z TI TO .ellipsis := (b5.2 z n2').trans ((b4.2 z n4').trans ((b3.2 z n2').trans ((b2.2 z n3').trans z1)))
  have zlt : z < g5.objs.size := Heap.lt_size z5
  show wpAny _ _ (Builtin.SmallTypes.ownedTupleHandOut (.ref z) (.ref g5.objs.size) >>= _) _ _ _
  refine wpAny_bind ?_
  unfold Builtin.SmallTypes.ownedTupleHandOut
  have z6 : IsZip (g5.push { cls := .type "tuple", data := .seq #[x, y] }) z TI TO .ellipsis := Heap.get?_push_of_some _ z5
  refine wpAny_bind (wpAny_setField_rec z6 (by simp) fun g7 z7 b7 => ?_)
  refine wpAny_setField_rec z7 (by simp) fun g8 z8 b8 => ?_
  have up : ∀ c o, c ≠ z → g5.get? c = some o → g8.get? c = some o := fun c o n e => (b8.2 c n).trans ((b7.2 c n).trans (Heap.get?_push_of_some _ e))
  have t8 : IsPair g8 g5.objs.size x y := (b8.2 _ (Nat.ne_of_gt zlt)).trans ((b7.2 _ (Nat.ne_of_gt zlt)).trans (Heap.get?_push_size _ rfl))
  have e8 : IsZip g8 z TI TO (rawInt g5.objs.size) := z8
  rw [hsz] at e8 t8
  refine wpAny_pure ⟨_, rfl, ?_⟩
  show Q (.ref g5.objs.size) _
  rw [hsz]
  have f1 : St1 (k1 + 1) g5 := yN D1 (yN D1 (yN D1 st2 b3 ao1) b4 a21) b5 ao1
  have f2 : St2 (k2 + 1) g5 := yN D2 st4 b5 ao2
  refine hQ x y g8 _ px py e8 (up _ _ (Ne.symm n2') o5) (D1.frame _ _ _ f1 fun c hc o e => up c o (fun q => az1 (q ▸ hc)) e) (D2.frame _ _ _ f2 fun c hc o e => up c o (fun q => az2 (q ▸ hc)) e) t8 fun c o hc e => ?_
  simp only [List.mem_cons, List.not_mem_nil, or_false, not_or] at hc
  obtain ⟨c1, c2, c3, c4⟩ := hc
  exact up c o c1 ((b5.2 c c2).trans ((b4.2 c c4).trans ((b3.2 c c2).trans ((b2.2 c c3).trans ((b1.2 c c1).trans e)))))
theorem X4 {Q : Fin → Shared → Prop} (D1 : Draws prog w A i1 fp1 n1 P1 St1) (az1 : z ∉ fp1) (nz : i1 ≠ z)
    (hz : IsZip s.heap z TI TO .none) (hTI : IsPair s.heap TI (.ref i1) (.ref i2)) (h1 : St1 n1 s.heap)
    (hE : ∀ h' e, (∀ c o, c ≠ z → c ≠ i1 → s.heap.get? c = some o → h'.get? c = some o) → (∃ o, h'.get? e = some o ∧ o.cls = .type "StopIteration") → E (.ref e) { s with heap := h' }) :
    wpAny (model prog w) A (Builtin.«zip.__next__» ⟨[.ref z], []⟩) Q E s := by
  show wpAny _ _ (field (.ref z) 2 >>= _) _ _ _
  refine wpAny_bind (wpAny_field hz rfl (x := .bool false) rfl ?_)
  show wpAny _ _ (field (.ref z) 3 >>= _) _ _ _
  refine wpAny_bind (wpAny_field hz rfl (x := .ref TI) rfl (wpAny_bind (wpAny_seqItems hTI rfl ?_)))
  show wpAny _ _ (Builtin.SmallTypes.ownedTupleIsFree (.ref z) >>= _) _ _ _
  refine wpAny_bind ?_
  unfold Builtin.SmallTypes.ownedTupleIsFree
  refine wpAny_bind (wpAny_field hz rfl (x := .none) rfl (wpAny_pure ?_))
  simp only [if_true]
  refine wpAny_bind (wpAny_rule (wpAny_bind (wpAny_field hz rfl (x := .ref TO) rfl (wpAny_bind (wpAny_setField_rec hz (by simp) fun g1 z1 b1 => ?_)))))
  refine wpAny_bind ?_
  simp only [List.zipIdx_cons, List.zipIdx_nil, List.forIn_cons, List.forIn_nil]
  refine wpAny_bind (wpAny_bind (wpAny_onRaise ?_))
  show wpAny _ _ (Builtin.SmallTypes.nextOf (.ref i1) >>= _) _ _ _
  refine wpAny_bind (D1.done _ _ _ (yN D1 h1 b1 az1) fun g2 e b2 he => ?_)
  obtain ⟨oe, hoe, hce⟩ := he
  have z2 : IsZip g2 z TI TO .ellipsis := b2 _ _ (Ne.symm nz) z1
  have nez : e ≠ z := fun q => by subst q; rw [z2] at hoe; cases hoe; simp at hce
  exact wpAny_setField_rec z2 (by simp) fun g3 _ b3 => hE g3 e (fun c o c1 c2 q => (b3.2 c c1).trans (b2 c o c2 ((b1.2 c c1).trans q))) ⟨oe, (b3.2 e nez).trans hoe, hce⟩
end
noncomputable def Z1 (b : Bool) (h : Heap) (it l : Addr) (k : Nat) : Prop := if b = true then h.IsListIter it l k else h.IsTupleIter it l k
noncomputable def Vq (b : Bool) (h : Heap) (l : Addr) (items : Array Value) : Prop := if b = true then h.IsList l items else h.IsTuple l items
theorem YY {prog : Program} {w : World} {A : Around} (hh : A.handled = none) (b : Bool) (it l : Addr) (hne : l ≠ it) (items : Array Value) :
    Draws prog w A it [it, l] items.size (fun i v => items[i]? = some v) (fun i h => Z1 b h it l i ∧ Vq b h l items) := by
  cases b with
  | true => exact Draws.list hh it l hne items
  | false => exact wU hh it l hne items
noncomputable def Vy (b : Bool) (l : Addr) : Obj := { cls := .type (if b = true then "list_iterator" else "tuple_iterator"), data := .fields #[.ref l, .int 0 0] }
noncomputable abbrev zpA (h : Heap) (b1 : Bool) (l1 : Addr) : Heap := h.push (Vy b1 l1)
noncomputable abbrev zpB (h : Heap) (b1 b2 : Bool) (l1 l2 : Addr) : Heap := (zpA h b1 l1).push (Vy b2 l2)
noncomputable abbrev zpC (h : Heap) (b1 b2 : Bool) (l1 l2 : Addr) : Heap := (zpB h b1 b2 l1 l2).push (Obj.mk (.type "tuple") none (.seq #[.ref h.objs.size, .ref (zpA h b1 l1).objs.size]) #[])
noncomputable abbrev zpD (h : Heap) (b1 b2 : Bool) (l1 l2 : Addr) : Heap := (zpC h b1 b2 l1 l2).push (Obj.mk (.type "tuple") none (.seq #[.none, .none]) #[])
noncomputable abbrev zpE (h : Heap) (b1 b2 : Bool) (l1 l2 : Addr) : Heap := (zpD h b1 b2 l1 l2).push (Obj.mk (.type "zip") none (.fields #[.none, .bool false, .bool false, .ref (zpB h b1 b2 l1 l2).objs.size, .ref (zpC h b1 b2 l1 l2).objs.size]) #[])
theorem Wn (b1 b2 : Bool) (l1 l2 : Addr) (xs ys : Array Value) :
    Meets (Builtin.«zip.__new__» ⟨[.type "zip", .ref l1, .ref l2], []⟩) (fun _ R s => Vq b1 s.heap l1 xs ∧ Vq b2 s.heap l2 ys ∧
      R (.ok (.ret (.ref (zpD s.heap b1 b2 l1 l2).objs.size))) { s with heap := zpE s.heap b1 b2 l1 l2 }) :=
  .of_wp fun prog w A R s h => by
    obtain ⟨hp, g, d, tk, os⟩ := s; obtain ⟨hl1, hl2, h⟩ := h
    have hsub := sub_zip
    cases b1 with
    | true =>
      have hL1 : Heap.IsList (Shared.heap ⟨hp, g, d, tk, os⟩) l1 xs := hl1
      cases b2 with
      | true =>
        have hL2 : Heap.IsList (Shared.heap ⟨hp.push { cls := .type "list_iterator", data := .fields #[.ref l1, .int 0 0] }, g, d, tk, os⟩) l2 ys := Heap.IsList.push hl2 _
        wp_walk using wpAny_pyIter_list hL1, wpAny_pyIter_list hL2
        exact ⟨_, rfl, h⟩
      | false =>
        have hL2 : Heap.IsTuple (Shared.heap ⟨hp.push { cls := .type "list_iterator", data := .fields #[.ref l1, .int 0 0] }, g, d, tk, os⟩) l2 ys := Heap.IsTuple.push hl2 _
        wp_walk using wpAny_pyIter_list hL1, wpAny_pyIter_tuple hL2
        exact ⟨_, rfl, h⟩
    | false =>
      have hL1 : Heap.IsTuple (Shared.heap ⟨hp, g, d, tk, os⟩) l1 xs := hl1
      cases b2 with
      | true =>
        have hL2 : Heap.IsList (Shared.heap ⟨hp.push { cls := .type "tuple_iterator", data := .fields #[.ref l1, .int 0 0] }, g, d, tk, os⟩) l2 ys := Heap.IsList.push hl2 _
        wp_walk using wpAny_pyIter_tuple hL1, wpAny_pyIter_list hL2
        exact ⟨_, rfl, h⟩
      | false =>
        have hL2 : Heap.IsTuple (Shared.heap ⟨hp.push { cls := .type "tuple_iterator", data := .fields #[.ref l1, .int 0 0] }, g, d, tk, os⟩) l2 ys := Heap.IsTuple.push hl2 _
        wp_walk using wpAny_pyIter_tuple hL1, wpAny_pyIter_tuple hL2
        exact ⟨_, rfl, h⟩
end PySem
namespace PySem
section
variable {prog : Program} {w : World} {A : Around} {E : Value → Shared → Prop} {s : Shared}
theorem Xt {b1 b2 : Bool} {l1 l2 : Addr} {xs ys : Array Value} {Q : Value → Shared → Prop} (hl1 : Vq b1 s.heap l1 xs) (hl2 : Vq b2 s.heap l2 ys)
    (h : ∀ h', IsZip h' (s.heap.objs.size + 4) (s.heap.objs.size + 2) (s.heap.objs.size + 3) .none → IsPair h' (s.heap.objs.size + 2) (.ref s.heap.objs.size) (.ref (s.heap.objs.size + 1)) →
      IsPair h' (s.heap.objs.size + 3) .none .none → Z1 b1 h' s.heap.objs.size l1 0 → Z1 b2 h' (s.heap.objs.size + 1) l2 0 →
      (∀ c o, s.heap.get? c = some o → h'.get? c = some o) → Q (.ref (s.heap.objs.size + 4)) { s with heap := h' }) :
    wpAny (model prog w) A (call (.type "zip") [.ref l1, .ref l2]) Q E s := by
  refine callType_new F.called_zip (by decide) (F.typeCall_zip_2 _ _) (F.newCall_zip_2 _ _) (fun obj => F.args_object_init_3 obj _ _) F.entry_zip_new
    (Wn b1 b2 l1 l2 xs ys) ⟨hl1, hl2, ?_⟩
  have z1 : (zpA s.heap b1 l1).objs.size = s.heap.objs.size + 1 := Heap.size_push ..
  have z2 : (zpB s.heap b1 b2 l1 l2).objs.size = s.heap.objs.size + 2 := by rw [Heap.size_push, z1]
  have z3 : (zpC s.heap b1 b2 l1 l2).objs.size = s.heap.objs.size + 3 := by rw [Heap.size_push, z2]
  have z4 : (zpD s.heap b1 b2 l1 l2).objs.size = s.heap.objs.size + 4 := by rw [Heap.size_push, z3]
  have g5 : (zpE s.heap b1 b2 l1 l2).get? (zpD s.heap b1 b2 l1 l2).objs.size = some _ := Heap.get?_push_size _ rfl
  have g4 : (zpE s.heap b1 b2 l1 l2).get? (zpC s.heap b1 b2 l1 l2).objs.size = some _ := Heap.get?_push_of_some _ (Heap.get?_push_size _ rfl)
  have g3 : (zpE s.heap b1 b2 l1 l2).get? (zpB s.heap b1 b2 l1 l2).objs.size = some _ := Heap.get?_push_of_some _ (Heap.get?_push_of_some _ (Heap.get?_push_size _ rfl))
  have g2 : (zpE s.heap b1 b2 l1 l2).get? (zpA s.heap b1 l1).objs.size = some (Vy b2 l2) := Heap.get?_push_of_some _ (Heap.get?_push_of_some _ (Heap.get?_push_of_some _ (Heap.get?_push_size _ rfl)))
  have g1 : (zpE s.heap b1 b2 l1 l2).get? s.heap.objs.size = some (Vy b1 l1) := Heap.get?_push_of_some _ (Heap.get?_push_of_some _ (Heap.get?_push_of_some _ (Heap.get?_push_of_some _ (Heap.get?_push_size _ rfl))))
  show _ ∧ _
  rw [z2, z3, z4] at g5
  rw [z1, z2] at g3
  rw [z3] at g4
  rw [z1] at g2
  rw [z4]
  have it0 : ∀ {b : Bool} {l c : Addr}, (zpE s.heap b1 b2 l1 l2).get? c = some (Vy b l) → Z1 b (zpE s.heap b1 b2 l1 l2) c l 0 := fun {b l c} e => by
    cases b
    · exact ⟨_, e, rfl, rfl⟩
    · exact ⟨_, e, rfl, rfl⟩
  exact ⟨⟨_, g5, rfl⟩, h _ g5 g3 g4 (it0 g1) (it0 g2) fun c o x =>
    Heap.get?_push_of_some _ (Heap.get?_push_of_some _ (Heap.get?_push_of_some _ (Heap.get?_push_of_some _ (Heap.get?_push_of_some _ x))))⟩
variable {z TI TO i1 i2 : Addr} {fp1 fp2 : List Addr} {n1 n2 k1 k2 : Nat} {P1 P2 : Nat → Value → Prop} {St1 St2 : Nat → Heap → Prop} {a b : Value}
theorem vF {Q : Option Value → Shared → Prop} (D1 : Draws prog w A.in1 i1 fp1 n1 P1 St1) (D2 : Draws prog w A.in1 i2 fp2 n2 P2 St2) (ap : zbQ z TI TO i1 i2 fp1 fp2)
    (hz : IsZip s.heap z TI TO .none) (hTI : IsPair s.heap TI (.ref i1) (.ref i2)) (hTO : IsPair s.heap TO a b) (h1 : St1 k1 s.heap) (h2 : St2 k2 s.heap) (l1 : k1 < n1) (l2 : k2 < n2)
    (hQ : ∀ x y h' tk, P1 k1 x → P2 k2 y → IsZip h' z TI TO (rawInt s.heap.objs.size) → IsPair h' TO x y → St1 (k1 + 1) h' → St2 (k2 + 1) h' → IsPair h' s.heap.objs.size x y →
      (∀ c o, c ∉ [z, TO, i1, i2] → s.heap.get? c = some o → h'.get? c = some o) → Q (some (.ref s.heap.objs.size)) { s with heap := h', toks := tk }) :
    wpAny (model prog w) A (pyNext (.ref z)) Q E s := by
  have hT : s.TypeIs (.ref z) "zip" := ⟨_, hz, rfl⟩
  unfold pyNext
  exact wpAny_bind (wpAny_attempt (wpAny_callSpecial?_slot (name := Str.ofString "__next__") hT F.slot_zip_next
    (wpAny_call_entry F.slot_zip_next hT F.entry_zip_next
      (XA D1 D2 ap hz hTI hTO h1 h2 l1 l2 fun x y h' tk a1 a2 a3 a4 a5 a6 a7 a8 => wpAny_pure (hQ x y h' tk a1 a2 a3 a4 a5 a6 a7 a8)) (F.args_zip_next_1 _))))
theorem v4 {Q : Option Value → Shared → Prop} (D1 : Draws prog w A.in1 i1 fp1 n1 P1 St1) (az1 : z ∉ fp1) (nz : i1 ≠ z)
    (hz : IsZip s.heap z TI TO .none) (hTI : IsPair s.heap TI (.ref i1) (.ref i2)) (h1 : St1 n1 s.heap)
    (hQ : ∀ h', (∀ c o, c ≠ z → c ≠ i1 → s.heap.get? c = some o → h'.get? c = some o) → Q none { s with heap := h' }) : wpAny (model prog w) A (pyNext (.ref z)) Q E s := by
  have hT : s.TypeIs (.ref z) "zip" := ⟨_, hz, rfl⟩
  unfold pyNext
  refine wpAny_bind (wpAny_attempt (wpAny_callSpecial?_slot (name := Str.ofString "__next__") hT F.slot_zip_next
    (wpAny_call_entry F.slot_zip_next hT F.entry_zip_next (X4 D1 az1 nz hz hTI h1 fun h' e hk he => ?_) (F.args_zip_next_1 _))))
  obtain ⟨o, ho, hc⟩ := he
  refine wpAny_bind (wpAny_isInstance (T := "StopIteration") (b := true) ⟨o, ho, hc⟩ isSubtype_stop ?_)
  exact wpAny_pure (hQ _ hk)
end
end PySem
namespace L2
open PySem PySem.Spec PyProof.Rows
noncomputable def Sq (b : Bool) (K : PySem.W.Frag) (H : Hp) (a : Addr) (xs : List V) : Prop := if b = true then SqL K H a xs else SqT K H a xs
theorem Inv.sq {X : Cx} {pins : List (Addr × Obj)} {σ : St} {H : Hp} {s : Shared} {a : Addr} {xs : List V} {b : Bool} (I : Inv X pins σ H s) (h : Sq b X.K H a xs) : ∃ its : List Value, yu xs its ∧ Vq b s.heap a its.toArray ∧ a < s.heap.objs.size := by
  cases b with
  | true =>
    obtain ⟨its, r, p, _⟩ := I.list (show SqL X.K H a xs from h)
    exact ⟨its, r, p.isList, by obtain ⟨o, n, ho, _⟩ := p; exact Heap.lt_size ho⟩
  | false =>
    obtain ⟨its, r, p, _⟩ := I.tuple (show SqT X.K H a xs from h)
    exact ⟨its, r, p, by obtain ⟨o, ho, _⟩ := p; exact Heap.lt_size ho⟩
theorem Inv.sq_inj {X : Cx} {pins : List (Addr × Obj)} {σ : St} {H : Hp} {s : Shared} {a : Addr} {xs ys : List V} {b : Bool} (I : Inv X pins σ H s) (h : Sq b X.K H a xs) (h' : Sq b X.K H a ys) : xs = ys := by
  cases b with
  | true => exact I.list_inj h h'
  | false => exact I.tuple_inj h h'
noncomputable def Izp (K : PySem.W.Frag) (b1 b2 : Bool) (l1 l2 : Addr) : It :=
  ⟨fun i H => ∃ xs ys x y, Sq b1 K H l1 xs ∧ Sq b2 K H l2 ys ∧ xs[i]? = some x ∧ ys[i]? = some y,
   fun i H v H' => ∃ T x y, v = .ref T ∧ H T = none ∧ H' = upd H T (.tup [x, y]) ∧ (∀ xs, Sq b1 K H l1 xs → xs[i]? = some x) ∧ (∀ ys, Sq b2 K H l2 ys → ys[i]? = some y),
   fun i H => ∃ xs, Sq b1 K H l1 xs ∧ i = xs.length⟩
theorem vX {b : Bool} {h : Heap} {it l : Addr} {k : Nat} (x : Z1 b h it l k) : ∃ o, h.get? it = some o ∧ ∀ v, o.data ≠ .cell v := by
  cases b
  · obtain ⟨o, ho, _, hd⟩ := x
    exact ⟨o, ho, fun v z => by rw [hd] at z; cases z⟩
  · obtain ⟨o, ho, _, hd⟩ := x
    exact ⟨o, ho, fun v z => by rw [hd] at z; cases z⟩
theorem YR {b : Bool} {h h' : Heap} {it l : Addr} {k : Nat} (x : Z1 b h it l k) (e : ∀ o, h.get? it = some o → h'.get? it = some o) : Z1 b h' it l k := by
  cases b
  · obtain ⟨o, ho, r⟩ := x
    exact ⟨o, e o ho, r⟩
  · obtain ⟨o, ho, r⟩ := x
    exact ⟨o, e o ho, r⟩
theorem zbL {P : Program} {w : World} {K : PySem.W.Frag} {es : List Expr} {k : Nat} {tp : Pos} (b1 b2 : Bool) (l1 l2 z TI TO i1 i2 : Addr) (ap : zbQ z TI TO i1 i2 [i1, l1] [i2, l2]) (n1 : l1 ≠ i1) (n2 : l2 ≠ i2) :
    zbp P w K (.Tuple es k tp) (Izp K b1 b2 l1 l2) [z, TI, TO, i1, i2] z (fun i h => IsZip h z TI TO .none ∧ IsPair h TI (.ref i1) (.ref i2) ∧ (∃ a b, IsPair h TO a b) ∧ Z1 b1 h i1 l1 i ∧ Z1 b2 h i2 l2 i) where
  mem := by simp
  obj := fun i h st b hb => by
    obtain ⟨hz, hTI, ⟨a, c, hTO⟩, h1, h2⟩ := st
    simp only [List.mem_cons, List.not_mem_nil, or_false] at hb
    rcases hb with rfl | rfl | rfl | rfl | rfl
    · exact ⟨_, hz, fun v z => by cases z⟩
    · exact ⟨_, hTI, fun v z => by cases z⟩
    · exact ⟨_, hTO, fun v z => by cases z⟩
    · exact vX h1
    · exact vX h2
  keep := fun i h h' st kk => by
    obtain ⟨hz, hTI, ⟨a, c, hTO⟩, h1, h2⟩ := st
    exact ⟨kk z (by simp) _ hz, kk TI (by simp) _ hTI, ⟨a, c, kk TO (by simp) _ hTO⟩, YR h1 fun o q => kk i1 (by simp) o q, YR h2 fun o q => kk i2 (by simp) o q⟩
  item := by
    intro X hP hw hK hc i pins s σ H E I hf st hg
    subst hP hw hK
    obtain ⟨hz, hTI, ⟨a, c, hTO⟩, h1, h2⟩ := st
    obtain ⟨xs, ys, x, y, hq1, hq2, hx, hy⟩ := hg
    obtain ⟨its, rv, p, _⟩ := I.sq hq1
    obtain ⟨its2, rv2, p2, _⟩ := I.sq hq2
    obtain ⟨u, hu, ru⟩ := rv.get hx
    obtain ⟨u2, hu2, ru2⟩ := rv2.get hy
    have hl1 : i < its.toArray.size := by simpa using (List.getElem?_eq_some_iff.mp hu).1
    have hl2 : i < its2.toArray.size := by simpa using (List.getElem?_eq_some_iff.mp hu2).1
    have hh : X.A.in1.handled = none := I.ok.hd hc
    refine vF (YY hh b1 i1 l1 n1 its.toArray) (YY hh b2 i2 l2 n2 its2.toArray) ap hz hTI hTO ⟨h1, p⟩ ⟨h2, p2⟩ hl1 hl2 fun v1 v2 h' tk e1 e2 hz' hTO' s1 s2 hT' hk => ?_
    have eu : v1 = u := by
      have : its[i]? = some v1 := by simpa using e1
      rw [hu] at this
      exact (Option.some.inj this).symm
    have eu2 : v2 = u2 := by
      have : its2[i]? = some v2 := by simpa using e2
      rw [hu2] at this
      exact (Option.some.inj this).symm
    subst eu eu2
    obtain ⟨nd, az1, az2, ao1, ao2, a12, a21⟩ := ap
    simp only [List.nodup_cons, List.mem_cons, List.not_mem_nil, or_false, not_or, not_false_eq_true, List.nodup_nil, and_true] at nd
    obtain ⟨⟨m1, m2, m3, m4⟩, ⟨m5, m6, m7⟩, ⟨m8, m9⟩, m10⟩ := nd
    refine ⟨_, rfl, wpAny_letOwnedTupleGo_zip hz' fun h2' hz2 hs2 => ?_⟩
    have hfr : H s.heap.objs.size = none := I.hok.fresh (Nat.le_refl _)
    have neZ : s.heap.objs.size ≠ z := Nat.ne_of_gt (Heap.lt_size hz)
    have hT2 : IsPair h2' s.heap.objs.size v1 v2 := (hs2.2 _ neZ).trans hT'
    have hTI' : IsPair h' TI (.ref i1) (.ref i2) := hk TI _ (by simp [Ne.symm m1, m5, m6, m7]) hTI
    have lt : ∀ b ∈ [z, TI, TO, i1, i2], b < s.heap.objs.size := fun b hb => by
      simp only [List.mem_cons, List.not_mem_nil, or_false] at hb
      rcases hb with rfl | rfl | rfl | rfl | rfl
      · exact Heap.lt_size hz
      · exact Heap.lt_size hTI
      · exact Heap.lt_size hTO
      · obtain ⟨o, ho, _⟩ := vX h1; exact Heap.lt_size ho
      · obtain ⟨o, ho, _⟩ := vX h2; exact Heap.lt_size ho
    refine ⟨.ref s.heap.objs.size, upd H s.heap.objs.size (.tup [x, y]), ?_, rfl, ⟨_, x, y, rfl, hfr, rfl, fun zs hz => by rw [I.sq_inj hz hq1]; exact hx, fun zs hz => by rw [I.sq_inj hz hq2]; exact hy⟩,
      ⟨hz2, (hs2.2 TI (Ne.symm m1)).trans hTI', ⟨_, _, (hs2.2 TO (Ne.symm m2)).trans hTO'⟩, YR s1.1 fun o q => (hs2.2 i1 (Ne.symm m3)).trans q, YR s2.1 fun o q => (hs2.2 i2 (Ne.symm m4)).trans q⟩, fun b hb => ?_⟩
    · refine I.grown (ch := [z, TI, TO, i1, i2]) hf (Nat.le_refl _) (fun b v hb q => ?_) ?_
      · have nb : b ≠ z := fun w => hb (by simp [w])
        refine (hs2.2 b nb).trans (hk b v (fun w => hb ?_) q)
        simp only [List.mem_cons, List.not_mem_nil, or_false] at w ⊢
        rcases w with w | w | w | w
        · exact .inl w
        · exact .inr (.inr (.inl w))
        · exact .inr (.inr (.inr (.inl w)))
        · exact .inr (.inr (.inr (.inr w)))
      · exact ⟨by show 2 ≤ sizeLine; decide, [v1, v2], .cons ru (.cons ru2 .nil), ⟨_, hT2, rfl, 0, rfl⟩⟩
    · rw [zo (Nat.ne_of_lt (lt b hb))]
      exact (hf b hb).1
  done := by
    intro X hP hw hK hc i pins s σ H E I hf st hg
    subst hP hw hK
    obtain ⟨hz, hTI, ⟨a, c, hTO⟩, h1, h2⟩ := st
    obtain ⟨xs, hq, rfl⟩ := hg
    obtain ⟨its, rv, p, _⟩ := I.sq hq
    have hl := rv.length
    have hh : X.A.in1.handled = none := I.ok.hd hc
    have D := YY (prog := X.prog) (w := X.w) hh b1 i1 l1 n1 its.toArray
    refine v4 D ap.z1 ?_ hz hTI ⟨by rw [List.size_toArray, ← hl]; exact h1, p⟩ fun h' hk => ⟨rfl, I.turnedN (ch := [z, TI, TO, i1, i2]) (t' := s.toks) hf fun b v hb q => hk b v (fun w => hb (by simp [w])) (fun w => hb (by simp [w])) q⟩
    have nd := ap.nd
    simp only [List.nodup_cons, List.mem_cons, List.not_mem_nil, or_false, not_or, not_false_eq_true, List.nodup_nil, and_true] at nd
    exact Ne.symm nd.1.2.2.1
  self := fun _ _ _ _ _ st h => wpAny_pyIter_zip st.1 h
noncomputable def iZip (K : PySem.W.Frag) (ta : TA) : TI := fun σ H R => ta σ H fun vs H1 => ∃ b1 b2 l1 l2 xs ys, vs = [.ref l1, .ref l2] ∧ Sq b1 K H1 l1 xs ∧ Sq b2 K H1 l2 ys ∧ R (Izp K b1 b2 l1 l2) H1
theorem zdX {X : Cx} {es : List Expr} {k : Nat} {tp : Pos} {a b : Expr} {ta : TA} {p pos : Pos} (hg : Gl X "zip") (hm : X.mg "zip" = none) (hb : bootBuiltins "zip" = some (.type "zip")) (ha : PA X [a, b] ta)
    (hs : starEach [a, b] X.env = [(false, eval a X.env), (false, eval b X.env)] := by rfl) (hs2 : starEach [b] X.env = [(false, eval b X.env)] := by rfl) : PI X (.Tuple es k tp) (.Call (.Name "zip" p) [a, b] [] pos) (iZip X.K ta) := by
  intro pins s σ H R I h
  refine Call_ (Yw I hg hm hb (PyProof.Rows.callWith_type1 (thn (ha pos pins s σ H _ I h) fun us s1 hh9 => ?_) (by rw [hs, hs2]) (by rw [hs2]; rfl)))
  obtain ⟨vs, H1, I1, r1, q1⟩ := hh9
  obtain ⟨b1, b2, l1, l2, xs, ys, e, hq1, hq2, q⟩ := q1
  subst e
  obtain ⟨u, u2, rfl, ru, ru2⟩ := zc6 r1
  cases ru
  cases ru2
  obtain ⟨its, rv, p1, lt1⟩ := I1.sq hq1
  obtain ⟨its2, rv2, p2, lt2⟩ := I1.sq hq2
  refine Xt p1 p2 fun h2 hz hTI hTO hi1 hi2 hk => wpAny_pyIter_zip hz ?_
  have hn : ∀ b, s1.heap.objs.size ≤ b → XX X pins H1 b := fun b hb => I1.fpOk hb (I1.hok.fresh hb)
  have ap : zbQ (s1.heap.objs.size + 4) (s1.heap.objs.size + 2) (s1.heap.objs.size + 3) s1.heap.objs.size (s1.heap.objs.size + 1) [s1.heap.objs.size, l1] [s1.heap.objs.size + 1, l2] := by
    have q1 : l1 ≠ s1.heap.objs.size := Nat.ne_of_lt lt1
    have q2 : ∀ j : Nat, s1.heap.objs.size + j ≠ l1 := fun j e => Nat.lt_irrefl _ (Nat.lt_of_lt_of_le (by rw [← e] at lt1; exact lt1) (Nat.le_add_right _ _))
    have q3 : ∀ j : Nat, s1.heap.objs.size + j ≠ l2 := fun j e => Nat.lt_irrefl _ (Nat.lt_of_lt_of_le (by rw [← e] at lt2; exact lt2) (Nat.le_add_right _ _))
    have ne : ∀ i j : Nat, i ≠ j → s1.heap.objs.size + i ≠ s1.heap.objs.size + j := fun i j h e => h (Nat.add_left_cancel e)
    have n0 : ∀ i : Nat, i ≠ 0 → s1.heap.objs.size + i ≠ s1.heap.objs.size := fun i h e => h (Nat.add_left_cancel (n := s1.heap.objs.size) (m := i) (k := 0) e)
    refine ⟨?_, ?_, ?_, ?_, ?_, ?_, ?_⟩
    · simp only [List.nodup_cons, List.mem_cons, List.not_mem_nil, or_false, not_or, not_false_eq_true, List.nodup_nil, and_true]
      exact ⟨⟨ne 4 2 (by decide), ne 4 3 (by decide), n0 4 (by decide), ne 4 1 (by decide)⟩, ⟨ne 2 3 (by decide), n0 2 (by decide), ne 2 1 (by decide)⟩, ⟨n0 3 (by decide), ne 3 1 (by decide)⟩, Ne.symm (n0 1 (by decide))⟩
    · simp only [List.mem_cons, List.not_mem_nil, or_false, not_or]; exact ⟨n0 4 (by decide), q2 4⟩
    · simp only [List.mem_cons, List.not_mem_nil, or_false, not_or]; exact ⟨ne 4 1 (by decide), q3 4⟩
    · simp only [List.mem_cons, List.not_mem_nil, or_false, not_or]; exact ⟨n0 3 (by decide), q2 3⟩
    · simp only [List.mem_cons, List.not_mem_nil, or_false, not_or]; exact ⟨ne 3 1 (by decide), q3 3⟩
    · simp only [List.mem_cons, List.not_mem_nil, or_false, not_or]; exact ⟨Ne.symm (n0 1 (by decide)), q3 0⟩
    · simp only [List.mem_cons, List.not_mem_nil, or_false, not_or]; exact ⟨n0 1 (by decide), q2 1⟩
  refine ⟨_, _, _, _, H1, rfl, I1.kept (t' := s1.toks) hk, zbL b1 b2 l1 l2 _ _ _ _ _ ap (Nat.ne_of_lt lt1) (Nat.ne_of_lt (Nat.lt_succ_of_lt lt2)), ⟨hz, hTI, ⟨_, _, hTO⟩, hi1, hi2⟩, fun b hb => ?_, q⟩
  simp only [List.mem_cons, List.not_mem_nil, or_false] at hb
  rcases hb with rfl | rfl | rfl | rfl | rfl
  · exact hn _ (Nat.le_add_right _ _)
  · exact hn _ (Nat.le_add_right _ _)
  · exact hn _ (Nat.le_add_right _ _)
  · exact hn _ (Nat.le_refl _)
  · exact hn _ (Nat.le_add_right _ _)
end L2
namespace OwnSort
open PySem PyProof.Rows
section pure
variable {κ : KeyKind} {xs : Array Keyed}
theorem turned {n : Nat} (hn : n ≤ xs.size) (h : NonIncK κ xs n) : SortedToK κ (mirror xs 0 n ((n - 0) / 2)) n := fun i j hij hj => by
  rw [KK_mirror hn, KK_mirror hn, if_pos ⟨by omega, by omega⟩, if_pos ⟨by omega, by omega⟩]
  exact h _ _ (by omega) (by omega)
end pure
noncomputable abbrev Pr := Int × Int
noncomputable def zew (s t : Pr) : Bool := decide (s.1 < t.1 ∨ (s.1 = t.1 ∧ s.2 < t.2))
noncomputable def TP (h : Heap) (v : Value) (t : Pr) : Prop := ∃ a o n tx ty, v = .ref a ∧ h.get? a = some o ∧ o.cls = .type "tuple" ∧ o.data = .seq #[.int t.1 tx, .int t.2 ty] n
theorem TP.uniq {h : Heap} {v : Value} {s t : Pr} (x : TP h v s) (y : TP h v t) : s = t := by
  obtain ⟨a, o, n, tx, ty, rfl, e1, _, d1⟩ := x
  obtain ⟨b, o2, n2, ux, uy, e, e2, _, d2⟩ := y
  cases e
  rw [e1] at e2
  cases e2
  rw [d1] at d2
  injection d2 with d2 _
  have := congrArg Array.toList d2
  simp at this
  exact Prod.ext this.1.1 this.2.1
open Classical in
noncomputable def keyP (h : Heap) (v : Value) : Option Pr := if x : ∃ t, TP h v t then some x.choose else none
@[reducible] noncomputable def kindP (h : Heap) : KeyKind where
  α := Pr
  blt := zew
  irrefl a := by unfold zew; exact decide_eq_false (by omega)
  trans a b c h1 h2 := by unfold zew at *; rw [decide_eq_true_eq] at *; omega
  negTrans a b c h := by unfold zew at *; rw [decide_eq_true_eq] at *; rw [decide_eq_true_eq]; omega
  total a b h1 h2 := by
    unfold zew at *
    rw [decide_eq_false_iff_not] at *
    exact Prod.ext (by omega) (by omega)
  keyOf := keyP h
  dflt := (0, 0)
end OwnSort
namespace Dl
open PySem L2
class KK where
  K : PySem.W.Frag
inductive D where
  | non | bl (b : Bool) | int (i : Int) | str (x : Str) | tup (ds : List D) | lst (ds : List D) | scr (ns : List Int)
    | dct (z t : Bool) (ks : List (List Key)) (vs : List D)
  deriving Inhabited
section
variable [KK]
noncomputable def zei (o : HO) (t : Bool) (ks : List (List Key)) (xs : List V) : Prop :=
  if t = true then ∃ kvs, o = .dT kvs ∧ kvs.map (·.1) = ks ∧ kvs.map (·.2) = xs else ∃ kvs : List (Key × V), o = .dK kvs ∧ kvs.map (fun p => [p.1]) = ks ∧ kvs.map (·.2) = xs
noncomputable def X7 (H : Hp) (a : Addr) (z t : Bool) (ks : List (List Key)) (xs : List V) : Prop :=
  ∃ u, zei u t ks xs ∧ if z = true then ∃ ob, H a = some (.frz ob u) else H a = some u
theorem X7.mono {H H' : Hp} {a : Addr} {z t : Bool} {ks : List (List Key)} {xs : List V} (s : yH H H') (h : X7 H a z t ks xs) : X7 H' a z t ks xs := by
  obtain ⟨u, h1, h2⟩ := h
  refine ⟨u, h1, ?_⟩
  cases z with
  | true =>
    rw [if_pos rfl] at h2 ⊢
    obtain ⟨ob, h2⟩ := h2
    exact ⟨ob, s _ _ h2⟩
  | false =>
    rw [if_neg Bool.false_ne_true] at h2 ⊢
    exact s _ _ h2
theorem X7.rd {H : Hp} {a : Addr} {z t : Bool} {ks : List (List Key)} {xs : List V} (h : X7 H a z t ks xs) : ∃ u, zei u t ks xs ∧ Rd H a u := by
  obtain ⟨u, h1, h2⟩ := h
  refine ⟨u, h1, ?_⟩
  cases z with
  | true =>
    rw [if_pos rfl] at h2
    obtain ⟨ob, h2⟩ := h2
    exact .inr ⟨ob, h2⟩
  | false =>
    rw [if_neg Bool.false_ne_true] at h2
    exact .inl h2
mutual
noncomputable def At (H : Hp) : D → V → Prop
  | .non, v => v = .non
  | .bl b, v => v = .bl b
  | .int i, v => v = .int i
  | .str x, v => v = .str x
  | .tup ds, v => ∃ a xs, v = .ref a ∧ H a = some (.tup xs) ∧ AtL H ds xs
  | .lst ds, v => ∃ a xs, v = .ref a ∧ H a = some (.lst xs) ∧ AtL H ds xs
  | .scr ns, v => ∃ a, v = .ref a ∧ SqL KK.K H a (ns.map V.int)
  | .dct z t ks vs, v => ∃ a xs, v = .ref a ∧ X7 H a z t ks xs ∧ AtL H vs xs
noncomputable def AtL (H : Hp) : List D → List V → Prop
  | [], xs => xs = []
  | d :: ds, xs => ∃ x r, xs = x :: r ∧ At H d x ∧ AtL H ds r
end
mutual
theorem At.mono {H H' : Hp} (s : yH H H') : ∀ {d : D} {v : V}, At H d v → At H' d v
  | .non, _, h => by unfold At at h ⊢; exact h
  | .bl _, _, h => by unfold At at h ⊢; exact h
  | .int _, _, h => by unfold At at h ⊢; exact h
  | .str _, _, h => by unfold At at h ⊢; exact h
  | .tup ds, _, h => by
    unfold At at h ⊢
    obtain ⟨a, xs, e, hx, hl⟩ := h
    exact ⟨a, xs, e, s _ _ hx, AtL.mono s hl⟩
  | .lst ds, _, h => by
    unfold At at h ⊢
    obtain ⟨a, xs, e, hx, hl⟩ := h
    exact ⟨a, xs, e, s _ _ hx, AtL.mono s hl⟩
  | .scr ns, _, h => by
    unfold At at h ⊢
    obtain ⟨a, e, hx⟩ := h
    exact ⟨a, e, s.seq hx⟩
  | .dct z t ks vs, _, h => by
    unfold At at h ⊢
    obtain ⟨a, xs, e, hx, hl⟩ := h
    exact ⟨a, xs, e, hx.mono s, AtL.mono s hl⟩
theorem AtL.mono {H H' : Hp} (s : yH H H') : ∀ {ds : List D} {xs : List V}, AtL H ds xs → AtL H' ds xs
  | [], _, h => by unfold AtL at h ⊢; exact h
  | d :: ds, _, h => by
    unfold AtL at h ⊢
    obtain ⟨x, r, e, h1, h2⟩ := h
    exact ⟨x, r, e, At.mono s h1, AtL.mono s h2⟩
end
mutual
noncomputable def noL : D → Bool
  | .tup ds => zeB ds
  | .lst _ => false
  | .scr _ => false
  | .dct _ _ _ _ => false
  | _ => true
noncomputable def zeB : List D → Bool
  | [] => true
  | d :: ds => noL d && zeB ds
end
mutual
theorem At.flat {G F : Hp} (h : ∀ q xs, G q = some (.tup xs) → F q = some (.tup xs)) : ∀ {d : D} {v : V}, noL d = true → At G d v → At F d v
  | .non, _, _, a => by unfold At at a ⊢; exact a
  | .bl _, _, _, a => by unfold At at a ⊢; exact a
  | .int _, _, _, a => by unfold At at a ⊢; exact a
  | .str _, _, _, a => by unfold At at a ⊢; exact a
  | .tup ds, _, n, a => by
    unfold At at a ⊢
    unfold noL at n
    obtain ⟨p, xs, e, hx, hl⟩ := a
    exact ⟨p, xs, e, h _ _ hx, AtL.flat h n hl⟩
  | .lst ds, _, n, _ => by unfold noL at n; cases n
  | .scr ds, _, n, _ => by unfold noL at n; cases n
  | .dct _ _ _ _, _, n, _ => by unfold noL at n; cases n
theorem AtL.flat {G F : Hp} (h : ∀ q xs, G q = some (.tup xs) → F q = some (.tup xs)) : ∀ {ds : List D} {xs : List V}, zeB ds = true → AtL G ds xs → AtL F ds xs
  | [], _, _, a => by unfold AtL at a ⊢; exact a
  | d :: ds, _, n, a => by
    unfold AtL at a ⊢
    unfold zeB at n
    rw [Bool.and_eq_true] at n
    obtain ⟨x, r, e, h1, h2⟩ := a
    exact ⟨x, r, e, At.flat h n.1 h1, AtL.flat h n.2 h2⟩
end
section
variable {H H' : Hp} {d : D} {ds es : List D} {v x : V} {xs ys : List V}
theorem At.int {i : Int} : At H (.int i) (.int i) := by unfold At; rfl
theorem At.bl {b : Bool} : At H (.bl b) (.bl b) := by unfold At; rfl
theorem At.non : At H .non .non := by unfold At; rfl
theorem At.str {y : Str} : At H (.str y) (.str y) := by unfold At; rfl
theorem At.tup {a : Addr} (h : H a = some (.tup xs)) (hl : AtL H ds xs) : At H (.tup ds) (.ref a) := by unfold At; exact ⟨a, xs, rfl, h, hl⟩
theorem At.lst {a : Addr} (h : H a = some (.lst xs)) (hl : AtL H ds xs) : At H (.lst ds) (.ref a) := by unfold At; exact ⟨a, xs, rfl, h, hl⟩
theorem AtL.nil : AtL H [] [] := by unfold AtL; rfl
theorem AtL.cons (h : At H d x) (hl : AtL H ds xs) : AtL H (d :: ds) (x :: xs) := by unfold AtL; exact ⟨x, xs, rfl, h, hl⟩
theorem At.int_inv {i : Int} (h : At H (.int i) v) : v = .int i := by unfold At at h; exact h
theorem At.bl_inv {b : Bool} (h : At H (.bl b) v) : v = .bl b := by unfold At at h; exact h
theorem At.non_inv (h : At H .non v) : v = .non := by unfold At at h; exact h
theorem At.str_inv {y : Str} (h : At H (.str y) v) : v = .str y := by unfold At at h; exact h
theorem At.tup_inv (h : At H (.tup ds) v) : ∃ a xs, v = .ref a ∧ H a = some (.tup xs) ∧ AtL H ds xs := by unfold At at h; exact h
theorem At.lst_inv (h : At H (.lst ds) v) : ∃ a xs, v = .ref a ∧ H a = some (.lst xs) ∧ AtL H ds xs := by unfold At at h; exact h
theorem At.scr_inv {ns : List Int} (h : At H (.scr ns) v) : ∃ a, v = .ref a ∧ SqL KK.K H a (ns.map V.int) := by unfold At at h; exact h
theorem At.dct_inv {z t : Bool} {ks : List (List Key)} {vs : List D} (h : At H (.dct z t ks vs) v) : ∃ a xs, v = .ref a ∧ X7 H a z t ks xs ∧ AtL H vs xs := by unfold At at h; exact h
theorem AtL.nil_inv (h : AtL H [] xs) : xs = [] := by unfold AtL at h; exact h
theorem AtL.cons_inv (h : AtL H (d :: ds) xs) : ∃ x r, xs = x :: r ∧ At H d x ∧ AtL H ds r := by unfold AtL at h; exact h
theorem AtL.length : ∀ {ds : List D} {xs : List V}, AtL H ds xs → xs.length = ds.length
  | [], _, h => by rw [h.nil_inv]; rfl
  | _ :: _, _, h => by
    obtain ⟨x, r, rfl, _, h2⟩ := h.cons_inv
    rw [List.length_cons, List.length_cons, AtL.length h2]
theorem AtL.get : ∀ {ds : List D} {xs : List V} {i : Nat} {d : D}, AtL H ds xs → ds[i]? = some d → ∃ x, xs[i]? = some x ∧ At H d x
  | [], _, _, _, _, e => by simp at e
  | _ :: _, _, i, _, h, e => by
    obtain ⟨x, r, rfl, h1, h2⟩ := h.cons_inv
    cases i with
    | zero =>
      simp at e
      subst e
      exact ⟨x, rfl, h1⟩
    | succ i =>
      obtain ⟨y, hy, ha⟩ := AtL.get (i := i) h2 (by simpa using e)
      exact ⟨y, by simpa using hy, ha⟩
theorem AtL.append : ∀ {ds es : List D} {xs ys : List V}, AtL H ds xs → AtL H es ys → AtL H (ds ++ es) (xs ++ ys)
  | [], _, _, _, h, k => by rw [h.nil_inv]; exact k
  | _ :: _, _, _, _, h, k => by
    obtain ⟨x, r, rfl, h1, h2⟩ := h.cons_inv
    exact .cons h1 (AtL.append h2 k)
theorem AtL.snoc (h : AtL H ds xs) (k : At H d v) : AtL H (ds ++ [d]) (xs ++ [v]) := h.append (.cons k .nil)
theorem AtL.take : ∀ (n : Nat) {ds : List D} {xs : List V}, AtL H ds xs → AtL H (ds.take n) (xs.take n)
  | 0, _, _, _ => by simpa using AtL.nil
  | n + 1, [], _, h => by rw [h.nil_inv]; simpa using AtL.nil
  | n + 1, _ :: _, _, h => by
    obtain ⟨x, r, rfl, h1, h2⟩ := h.cons_inv
    rw [List.take_succ_cons, List.take_succ_cons]
    exact .cons h1 (AtL.take n h2)
theorem AtL.drop : ∀ (n : Nat) {ds : List D} {xs : List V}, AtL H ds xs → AtL H (ds.drop n) (xs.drop n)
  | 0, _, _, h => h
  | n + 1, [], _, h => by rw [h.nil_inv]; simpa using AtL.nil
  | n + 1, _ :: _, _, h => by
    obtain ⟨x, r, rfl, h1, h2⟩ := h.cons_inv
    rw [List.drop_succ_cons, List.drop_succ_cons]
    exact AtL.drop n h2
theorem AtL.rep (h : AtL H ds xs) : ∀ k : Nat, AtL H (List.replicate k ds).flatten (List.replicate k xs).flatten
  | 0 => .nil
  | k + 1 => by
    rw [List.replicate_succ, List.replicate_succ, List.flatten_cons, List.flatten_cons]
    exact h.append (AtL.rep h k)
theorem AtL.ints (ns : List Int) : AtL H (ns.map D.int) (ns.map V.int) := by
  induction ns with
  | nil => exact .nil
  | cons n r ih => exact .cons .int ih
theorem AtL.of_ints : ∀ {ns : List Int} {xs : List V}, AtL H (ns.map D.int) xs → xs = ns.map V.int
  | [], _, h => h.nil_inv
  | n :: r, _, h => by
    obtain ⟨x, r', rfl, h1, h2⟩ := AtL.cons_inv (by simpa using h)
    rw [h1.int_inv, AtL.of_ints h2]
    rfl
end
noncomputable def tyN : D → String
  | .non => "NoneType" | .bl _ => "bool" | .int _ => "int" | .str _ => "str" | .tup _ => "tuple" | .lst _ => "list" | .scr _ => "list" | .dct _ _ _ _ => "dict"
noncomputable def Hid (F' : Hp) (p : Addr) (o : HO) : Prop := F' p = none ∨ ((∃ xs, o = .tup xs) ∧ F' p = some o)
noncomputable def Keep (F H F' H' : Hp) : Prop := ∀ p o, F p = none → H p = some o → Hid F' p o ∧ H' p = some o
set_option genInjectivity false in
set_option genSizeOf false in
set_option genCtorIdx false in
structure Gr (F H F' H' : Hp) : Prop where
  ff : yH F F'
  fh : yH F' H'
  kp : Keep F H F' H'
theorem Gr.refl {F H : Hp} (s : yH F H) : Gr F H F H := ⟨yH.refl _, s, fun _ _ a b => ⟨.inl a, b⟩⟩
theorem Gr.trans {F H F1 H1 F2 H2 : Hp} (a : Gr F H F1 H1) (b : Gr F1 H1 F2 H2) : Gr F H F2 H2 :=
  ⟨a.ff.trans b.ff, b.fh, fun p o e1 e2 => by
    obtain ⟨x, y⟩ := a.kp p o e1 e2
    rcases x with x | ⟨x1, x2⟩
    · exact b.kp p o x y
    · exact ⟨.inr ⟨x1, b.ff _ _ x2⟩, b.fh _ _ (b.ff _ _ x2)⟩⟩
theorem Gr.kl {F H F' H' : Hp} {p : Addr} {o : HO} (g : Gr F H F' H') (n : ∀ xs, o ≠ .tup xs) (e1 : F p = none) (e2 : H p = some o) : F' p = none ∧ H' p = some o := by
  obtain ⟨x, y⟩ := g.kp p o e1 e2
  rcases x with x | ⟨⟨xs, x1⟩, _⟩
  · exact ⟨x, y⟩
  · exact absurd x1 (n xs)
theorem Gr.alloc {F H : Hp} {p : Addr} (s : yH F H) (h : H p = none) (o : HO) : Gr F H (upd F p o) (upd H p o) := by
  have hF : F p = none := s.free h
  refine ⟨fun b u q => ?_, fun b u q => ?_, fun b u q r => ?_⟩
  · rw [zo (zl q hF)]; exact q
  · by_cases e : b = p
    · subst e; rw [zq] at q ⊢; exact q
    · rw [zo e] at q ⊢; exact s b u q
  · have e : b ≠ p := zl r h
    rw [zo e]; exact ⟨.inl (by rw [zo e]; exact q), r⟩
theorem Gr.hide {F H : Hp} {p : Addr} (s : yH F H) (h : H p = none) (o : HO) : Gr F H F (upd H p o) := by
  refine ⟨yH.refl _, fun b u q => ?_, fun b u q r => ?_⟩
  · rw [zo (zl (s b u q) h)]; exact s b u q
  · have e : b ≠ p := zl r h
    rw [zo e]; exact ⟨.inl q, r⟩
theorem Gr.show {F H : Hp} {p : Addr} {o : HO} {F0 H0 : Hp} (g : Gr F0 H0 F H) (h0 : H0 p = none) (hF : F p = none) (h : H p = some o) : Gr F0 H0 (upd F p o) H := by
  refine ⟨fun b u q => ?_, fun b u q => ?_, fun b u q r => ?_⟩
  · have := g.ff b u q
    rw [zo (zl this hF)]; exact this
  · by_cases e : b = p
    · subst e; rw [zq] at q; rw [← q]; exact h
    · rw [zo e] at q; exact g.fh b u q
  · have e : b ≠ p := zl r h0
    obtain ⟨x, y⟩ := g.kp b u q r
    refine ⟨?_, y⟩
    unfold Hid
    rw [zo e]
    exact x
noncomputable abbrev Ev := List (Option D)
noncomputable def VAt (F : Hp) (ρ : Ev) (σ : St) : Prop := ∀ (i : Nat) (d : D), ρ[i]? = some (some d) → ∃ v, σ[i]? = some (some v) ∧ At F d v
theorem VAt.mono {F F' : Hp} {ρ : Ev} {σ : St} (h : VAt F ρ σ) (s : yH F F') : VAt F' ρ σ := fun i d e => let ⟨v, e1, a⟩ := h i d e; ⟨v, e1, a.mono s⟩
noncomputable def RE (t : TE) (f : Ev → Option D) : Prop :=
  ∀ (σ : St) (ρ : Ev) (F H : Hp) (d : D) (Q : VK), yH F H → VAt F ρ σ → f ρ = some d → (∀ F' H' v, Gr F H F' H' → At F' d v → Q v H') → t σ H Q
noncomputable def RT (t : TT) (f : Ev → Option Bool) : Prop :=
  ∀ (σ : St) (ρ : Ev) (F H : Hp) (b : Bool) (Q : Bool → Hp → Prop), yH F H → VAt F ρ σ → f ρ = some b → (∀ F' H', Gr F H F' H' → Q b H') → t σ H Q
noncomputable def RA (t : TA) (f : Ev → Option (List D)) : Prop :=
  ∀ (σ : St) (ρ : Ev) (F H : Hp) (ds : List D) (Q : List V → Hp → Prop), yH F H → VAt F ρ σ → f ρ = some ds → (∀ F' H' vs, Gr F H F' H' → AtL F' ds vs → Q vs H') → t σ H Q
noncomputable def RF (t : TE) (f : Ev → Option (List D)) : Prop :=
  ∀ (σ : St) (ρ : Ev) (F H : Hp) (ds : List D) (Q : VK), yH F H → VAt F ρ σ → f ρ = some ds → (∀ F' H' p xs, Gr F H F' H' → H p = none → F' p = none → H' p = some (.lst xs) → AtL F' ds xs → Q (.ref p) H') → t σ H Q
noncomputable def ED (X : Cx) (e : Expr) (f : Ev → Option D) : Prop := ∃ t, PE X e t ∧ RE t f
noncomputable def TD (X : Cx) (e : Expr) (f : Ev → Option Bool) : Prop := ∃ t, PT X e t ∧ RT t f
noncomputable def WD (X : Cx) (e : Expr) (f : Ev → Option Bool) : Prop := ∃ t, PW X e t ∧ RT t f
noncomputable def AD (X : Cx) (es : List Expr) (f : Ev → Option (List D)) : Prop := ∃ t, PA X es t ∧ RA t f
noncomputable def FL (X : Cx) (e : Expr) (f : Ev → Option (List D)) : Prop := ∃ t, PE X e t ∧ RF t f
section
variable {X : Cx} {a b c : Expr} {pos : Pos}
noncomputable def yz (f : Ev → Option (List D)) : Ev → Option D := fun ρ => (f ρ).map .lst
theorem vi {f : Ev → Option (List D)} (h : FL X a f) : ED X a (yz f) := by
  obtain ⟨t, ht, r⟩ := h
  refine ⟨t, ht, fun σ ρ F H d Q s va e q => ?_⟩
  obtain ⟨ds, e1, rfl⟩ := Option.map_eq_some_iff.mp e
  refine r σ ρ F H ds Q s va e1 fun F' H' p xs g h0 hF hH hx => ?_
  have g2 := g.show h0 hF hH
  exact q _ _ _ g2 (At.lst zq (hx.mono (fun b u e => by rw [zo (zl e hF)]; exact e)))
noncomputable def zc (i : Nat) : Ev → Option D := fun ρ => (ρ[i]?).getD none
theorem zd7 (i : Nat) (h : PE X a (zez i)) : ED X a (zc i) := by
  refine ⟨_, h, fun σ ρ F H d Q s va e q => ?_⟩
  have e' : ρ[i]? = some (some d) := by
    unfold zc at e
    cases h : ρ[i]? with
    | none => rw [h] at e; cases e
    | some x => rw [h] at e; cases x with
      | none => cases e
      | some y => cases e; rfl
  obtain ⟨v, e1, a1⟩ := va i d e'
  exact ⟨v, e1, q _ _ _ (.refl s) a1⟩
noncomputable def eC (d : D) : Ev → Option D := fun _ => some d
theorem zg {i : Int} (h : PE X a (tC (.int i))) : ED X a (eC (.int i)) := ⟨_, h, fun _ _ _ _ _ _ s _ e q => by cases e; exact q _ _ _ (.refl s) .int⟩
theorem Yb {i : Bool} (h : PE X a (tC (.bl i))) : ED X a (eC (.bl i)) := ⟨_, h, fun _ _ _ _ _ _ s _ e q => by cases e; exact q _ _ _ (.refl s) .bl⟩
theorem yY {i : Str} (h : PE X a (tC (.str i))) : ED X a (eC (.str i)) := ⟨_, h, fun _ _ _ _ _ _ s _ e q => by cases e; exact q _ _ _ (.refl s) .str⟩
theorem YE (h : PE X a (tC .non)) : ED X a (eC .non) := ⟨_, h, fun _ _ _ _ _ _ s _ e q => by cases e; exact q _ _ _ (.refl s) .non⟩
noncomputable def OpD (r : R2) (g : D → D → Option D) : Prop :=
  ∀ (F H : Hp) (x y : V) (d e z : D) (Q : VK), yH F H → At F d x → At F e y → g d e = some z → (∀ F' H' v, Gr F H F' H' → At F' z v → Q v H') → r x y H Q
noncomputable def zj (g : D → D → Option D) (f h : Ev → Option D) : Ev → Option D := fun ρ => (f ρ).bind fun x => (h ρ).bind fun y => g x y
theorem zay {r : R2} {g : D → D → Option D} {ta tb : TE} {f h : Ev → Option D} (hg : OpD r g) (ra : RE ta f) (rb : RE tb h) : RE (tOp r ta tb) (zj g f h) := by
  intro σ ρ F H z Q s va e q
  obtain ⟨x, e1, e⟩ := Option.bind_eq_some_iff.mp e
  obtain ⟨y, e2, e⟩ := Option.bind_eq_some_iff.mp e
  refine ra σ ρ F H x _ s va e1 fun F1 H1 v g1 a1 => ?_
  refine rb σ ρ F1 H1 y _ g1.fh (va.mono g1.ff) e2 fun F2 H2 u g2 a2 => ?_
  exact hg F2 H2 v u x y z Q g2.fh (a1.mono g2.ff) a2 e fun F3 H3 w g3 a3 => q F3 H3 w ((g1.trans g2).trans g3) a3
theorem Zu {op : Operator} {r : R2} {g : D → D → Option D} {f h : Ev → Option D} (ho : OpR X (binaryOp op) r) (hg : OpD r g) (ha : ED X a f) (hb : ED X b h) : ED X (.BinOp a op b pos) (zj g f h) :=
  let ⟨_, pa, ra⟩ := ha
  let ⟨_, pb, rb⟩ := hb
  ⟨_, zfn ho pa pb, zay hg ra rb⟩
theorem Yz {op : CmpOp} {r : R2} {g : D → D → Option D} {f h : Ev → Option D} (ho : OpR X (compareOp op) r) (hg : OpD r g) (hm : behindInMarks op b = false) (ha : ED X a f) (hb : ED X b h) : ED X (.Compare a [op] [b] pos) (zj g f h) :=
  let ⟨_, pa, ra⟩ := ha
  let ⟨_, pb, rb⟩ := hb
  ⟨_, zcP ho pa pb hm, zay hg ra rb⟩
noncomputable def asB : D → Option Bool
  | .bl b => some b
  | _ => none
theorem YM {d : D} {b : Bool} (h : asB d = some b) : d = .bl b := by
  cases d <;> first | (cases h; rfl) | cases h
noncomputable def tOf (f : Ev → Option D) : Ev → Option Bool := fun ρ => (f ρ).bind asB
theorem zc4 {t : TE} {f : Ev → Option D} (r : RE t f) : RT (zbd t) (tOf f) := by
  intro σ ρ F H b Q s va e q
  obtain ⟨x, e1, e⟩ := Option.bind_eq_some_iff.mp e
  cases YM e
  exact r σ ρ F H _ _ s va e1 fun F1 H1 v g1 a1 => ⟨b, a1.bl_inv, q F1 H1 g1⟩
theorem ym {op : CmpOp} {r : R2} {g : D → D → Option D} {f h : Ev → Option D} (ho : OpR X (compareOp op) r) (hg : OpD r g) (hm : behindInMarks op b = false) (ha : ED X a f) (hb : ED X b h) : TD X (.Compare a [op] [b] pos) (tOf (zj g f h)) :=
  let ⟨_, pa, ra⟩ := ha
  let ⟨_, pb, rb⟩ := hb
  ⟨_, zcX ho pa pb hm, zc4 (zay hg ra rb)⟩
theorem y0 {f : Ev → Option D} (ha : ED X a f) (he : ∀ whole, isTrue a X.env whole = (do let v ← whole; standAt a.pos; holding [v] (truthy v)) := by intro _; rfl) : TD X a (tOf f) :=
  let ⟨_, pa, ra⟩ := ha
  ⟨_, zd6 pa he, zc4 ra⟩
noncomputable def yj (f g : Ev → Option Bool) : Ev → Option Bool := fun ρ => (f ρ).bind fun c => if c = true then g ρ else some false
noncomputable def x6 (f g : Ev → Option Bool) : Ev → Option Bool := fun ρ => (f ρ).bind fun c => if c = true then some true else g ρ
noncomputable def zO (f : Ev → Option Bool) : Ev → Option Bool := fun ρ => (f ρ).map (!·)
theorem ZO {f : Ev → Option Bool} (ha : TD X a f) : WD X (.BoolOp .And [a] pos) f := let ⟨_, pa, ra⟩ := ha; ⟨_, zcv pa, ra⟩
theorem vZ {f : Ev → Option Bool} (ha : TD X a f) : WD X (.BoolOp .Or [a] pos) f := let ⟨_, pa, ra⟩ := ha; ⟨_, zdR pa, ra⟩
theorem WU {rest : List Expr} {f g : Ev → Option Bool} (ha : TD X a f) (hb : WD X (.BoolOp .And (b :: rest) pos) g) : WD X (.BoolOp .And (a :: b :: rest) pos) (yj f g) := by
  obtain ⟨ta, pa, ra⟩ := ha
  obtain ⟨tb, pb, rb⟩ := hb
  refine ⟨_, zdD pa pb, fun σ ρ F H z Q s va e q => ?_⟩
  obtain ⟨x, e1, e⟩ := Option.bind_eq_some_iff.mp e
  refine ra σ ρ F H x _ s va e1 fun F1 H1 g1 => ?_
  cases x with
  | true =>
    rw [if_pos rfl] at e ⊢
    exact rb σ ρ F1 H1 z Q g1.fh (va.mono g1.ff) e fun F2 H2 g2 => q F2 H2 (g1.trans g2)
  | false =>
    rw [if_neg Bool.false_ne_true] at e ⊢
    cases e
    exact q F1 H1 g1
theorem Zp {rest : List Expr} {f g : Ev → Option Bool} (ha : TD X a f) (hb : WD X (.BoolOp .Or (b :: rest) pos) g) : WD X (.BoolOp .Or (a :: b :: rest) pos) (x6 f g) := by
  obtain ⟨ta, pa, ra⟩ := ha
  obtain ⟨tb, pb, rb⟩ := hb
  refine ⟨_, zfg pa pb, fun σ ρ F H z Q s va e q => ?_⟩
  obtain ⟨x, e1, e⟩ := Option.bind_eq_some_iff.mp e
  refine ra σ ρ F H x _ s va e1 fun F1 H1 g1 => ?_
  cases x with
  | false =>
    rw [if_neg Bool.false_ne_true] at e ⊢
    exact rb σ ρ F1 H1 z Q g1.fh (va.mono g1.ff) e fun F2 H2 g2 => q F2 H2 (g1.trans g2)
  | true =>
    rw [if_pos rfl] at e ⊢
    cases e
    exact q F1 H1 g1
theorem Vi {f : Ev → Option Bool} (h : WD X a f) : TD X a f := let ⟨_, p, r⟩ := h; ⟨_, p.pt, r⟩
theorem xu {f : Ev → Option Bool} (ha : TD X a f) : TD X (.UnaryOp .Not a pos) (zO f) := by
  obtain ⟨ta, pa, ra⟩ := ha
  refine ⟨_, zdN pa, fun σ ρ F H z Q s va e q => ?_⟩
  obtain ⟨x, e1, rfl⟩ := Option.map_eq_some_iff.mp e
  exact ra σ ρ F H x _ s va e1 fun F1 H1 g1 => q F1 H1 g1
noncomputable def x9 (f g : Ev → Option D) : Ev → Option D := fun ρ => ((f ρ).bind asB).bind fun c => if c = true then g ρ else some (.bl false)
noncomputable def eOr (f g : Ev → Option D) : Ev → Option D := fun ρ => ((f ρ).bind asB).bind fun c => if c = true then some (.bl true) else g ρ
noncomputable def vP (f : Ev → Option D) : Ev → Option D := fun ρ => ((f ρ).bind asB).map fun c => .bl (!c)
theorem vM {op} {f : Ev → Option D} (ha : ED X a f) : ED X (.BoolOp op [a] pos) f := let ⟨_, pa, ra⟩ := ha; ⟨_, zdI pa, ra⟩
theorem wV {rest : List Expr} {f g : Ev → Option D} (ha : ED X a f) (hb : ED X (.BoolOp .And (b :: rest) pos) g) : ED X (.BoolOp .And (a :: b :: rest) pos) (x9 f g) := by
  obtain ⟨ta, pa, ra⟩ := ha
  obtain ⟨tb, pb, rb⟩ := hb
  refine ⟨_, zdf pa pb, fun σ ρ F H z Q s va e q => ?_⟩
  obtain ⟨x, e1, e⟩ := Option.bind_eq_some_iff.mp e
  obtain ⟨y, e1, e2⟩ := Option.bind_eq_some_iff.mp e1
  cases YM e2
  refine ra σ ρ F H _ _ s va e1 fun F1 H1 v g1 a1 => ⟨x, a1.bl_inv, ?_⟩
  cases x with
  | true =>
    rw [if_pos rfl] at e ⊢
    exact rb σ ρ F1 H1 z Q g1.fh (va.mono g1.ff) e fun F2 H2 w g2 a2 => q F2 H2 w (g1.trans g2) a2
  | false =>
    rw [if_neg Bool.false_ne_true] at e ⊢
    cases e
    exact q F1 H1 _ g1 .bl
theorem zbY {f : Ev → Option D} (ha : ED X a f) : ED X (.UnaryOp .Not a pos) (vP f) := by
  obtain ⟨ta, pa, ra⟩ := ha
  refine ⟨_, zdx pa, fun σ ρ F H z Q s va e q => ?_⟩
  obtain ⟨x, e1, rfl⟩ := Option.map_eq_some_iff.mp e
  obtain ⟨y, e1, e2⟩ := Option.bind_eq_some_iff.mp e1
  cases YM e2
  exact ra σ ρ F H _ _ s va e1 fun F1 H1 v g1 a1 => ⟨x, a1.bl_inv, q F1 H1 _ g1 .bl⟩
noncomputable def eIf (t : Ev → Option Bool) (f g : Ev → Option D) : Ev → Option D := fun ρ => (t ρ).bind fun c => if c = true then f ρ else g ρ
noncomputable def eUn (g : D → Option D) (f : Ev → Option D) : Ev → Option D := fun ρ => (f ρ).bind g
noncomputable def Yt : D → Option D
  | .int i => some (.int (-i))
  | _ => none
noncomputable def zn : Ev → Option (List D) := fun _ => some []
noncomputable def zb (f : Ev → Option D) (g : Ev → Option (List D)) : Ev → Option (List D) := fun ρ => (f ρ).bind fun d => (g ρ).map (d :: ·)
theorem zd : AD X [] zn := ⟨_, VG, fun _ _ _ _ _ _ s _ e q => by cases e; exact q _ _ _ (.refl s) .nil⟩
theorem za {e : Expr} {es : List Expr} {f : Ev → Option D} {g : Ev → Option (List D)} (ha : ED X e f) (hr : AD X es g) (hs : starEach (e :: es) X.env = (false, eval e X.env) :: starEach es X.env := by rfl) : AD X (e :: es) (zb f g) := by
  obtain ⟨ta, pa, ra⟩ := ha
  obtain ⟨tb, pb, rb⟩ := hr
  refine ⟨_, ZI pa pb hs, fun σ ρ F H z Q s va e q => ?_⟩
  obtain ⟨x, e1, e⟩ := Option.bind_eq_some_iff.mp e
  obtain ⟨ds, e2, rfl⟩ := Option.map_eq_some_iff.mp e
  refine ra σ ρ F H x _ s va e1 fun F1 H1 v g1 a1 => ?_
  exact rb σ ρ F1 H1 ds _ g1.fh (va.mono g1.ff) e2 fun F2 H2 w g2 a2 => q F2 H2 _ (g1.trans g2) (.cons (a1.mono g2.ff) a2)
noncomputable def lim (n : Nat) : Bool := decide (n ≤ sizeLine)
noncomputable def wj (g : Ev → Option (List D)) : Ev → Option D := fun ρ => (g ρ).bind fun ds => if lim ds.length = true then some (.tup ds) else none
noncomputable def zF (g : Ev → Option (List D)) : Ev → Option (List D) := fun ρ => (g ρ).bind fun ds => if lim ds.length = true then some ds else none
theorem YF {es : List Expr} {x1} {g : Ev → Option (List D)} (h : AD X es g) : ED X (.Tuple es x1 pos) (wj g) := by
  obtain ⟨ta, pa, ra⟩ := h
  refine ⟨_, zen pa, fun σ ρ F H z Q s va e q => ?_⟩
  obtain ⟨ds, e1, e⟩ := Option.bind_eq_some_iff.mp e
  split at e <;> cases e
  rename_i hl
  refine ra σ ρ F H ds _ s va e1 fun F1 H1 vs g1 a1 => ⟨by rw [a1.length]; exact of_decide_eq_true hl, fun p hp => ?_⟩
  have g2 := Gr.alloc g1.fh hp (.tup vs)
  exact q _ _ _ (g1.trans g2) (.tup zq (a1.mono g2.ff))
theorem wB {es : List Expr} {g : Ev → Option (List D)} (h : AD X es g) : FL X (.List es pos) (zF g) := by
  obtain ⟨ta, pa, ra⟩ := h
  refine ⟨_, zdS pa, fun σ ρ F H z Q s va e q => ?_⟩
  obtain ⟨ds, e1, e⟩ := Option.bind_eq_some_iff.mp e
  split at e <;> cases e
  rename_i hl
  refine ra σ ρ F H _ _ s va e1 fun F1 H1 vs g1 a1 => ⟨by rw [a1.length]; exact of_decide_eq_true hl, fun p hp => ?_⟩
  have g2 := Gr.hide g1.fh hp (.lst vs)
  have h0 : H p = none := by
    cases e : H p with
    | none => rfl
    | some o =>
      cases e2 : F p with
      | none => rw [(g1.kp p o e2 e).2] at hp; cases hp
      | some u => rw [g1.fh _ _ (g1.ff _ _ e2)] at hp; cases hp
  exact q _ _ _ _ (g1.trans g2) h0 (g1.fh.free hp) zq a1
end
end
end Dl
namespace Dl
open PySem L2
variable [KK]
inductive Sl where
  | no | v (d : D) | o (ds : List D) | m (t : Bool) (ks : List (List Key)) (vs : List D)
  deriving Inhabited
noncomputable abbrev SE := List Sl
noncomputable def Sl.f : Sl → Option D
  | .v d => some d
  | _ => none
noncomputable def Sl.g : Sl → Option D
  | .v d => some d
  | .o ds => some (.lst ds)
  | .m t ks vs => some (.dct false t ks vs)
  | .no => none
noncomputable def Sl.isO : Sl → Bool
  | .o _ => true
  | .m _ _ _ => true
  | _ => false
noncomputable def visF (ρ : SE) : Ev := ρ.map Sl.f
noncomputable def visG (ρ : SE) : Ev := ρ.map Sl.g
noncomputable def Vr (F : Hp) (o : HO) : Sl → Prop
  | .o ds => ∃ xs, o = .lst xs ∧ AtL F ds xs
  | .m t ks ds => ∃ xs, zei o t ks xs ∧ AtL F ds xs
  | _ => False
theorem Vr.mono {F F' : Hp} {o : HO} {s : Sl} (h : Vr F o s) (k : yH F F') : Vr F' o s := by
  cases s with
  | no => exact h
  | v d => exact h
  | o ds => obtain ⟨xs, e, a⟩ := h; exact ⟨xs, e, a.mono k⟩
  | m t ks ds => obtain ⟨xs, e, a⟩ := h; exact ⟨xs, e, a.mono k⟩
theorem Vr.isO {F : Hp} {o : HO} {s : Sl} (h : Vr F o s) : s.isO = true := by
  cases s with
  | no => exact h.elim
  | v d => exact h.elim
  | o ds => rfl
  | m t ks ds => rfl
theorem Vr.ntup {F : Hp} {o : HO} {s : Sl} (h : Vr F o s) (xs : List V) : o ≠ .tup xs := by
  cases s with
  | no => exact h.elim
  | v d => exact h.elim
  | o ds => obtain ⟨ys, rfl, _⟩ := h; intro e; cases e
  | m t ks ds =>
    obtain ⟨ys, e, _⟩ := h
    unfold zei at e
    split at e
    · obtain ⟨kvs, rfl, _⟩ := e; intro e; cases e
    · obtain ⟨kvs, rfl, _⟩ := e; intro e; cases e
theorem Vr.at {F G : Hp} {o : HO} {s : Sl} {d : D} {p : Addr} (h : Vr F o s) (e : s.g = some d) (hp : G p = some o) (k : yH F G) : At G d (.ref p) := by
  cases s with
  | no => exact h.elim
  | v d => exact h.elim
  | o ds =>
    cases e
    obtain ⟨xs, rfl, a⟩ := h
    exact .lst hp (a.mono k)
  | m t ks ds =>
    cases e
    obtain ⟨xs, e, a⟩ := h
    unfold At
    exact ⟨p, xs, rfl, ⟨o, e, hp⟩, a.mono k⟩
set_option genInjectivity false in
set_option genSizeOf false in
set_option genCtorIdx false in
structure Rl (Fb Hb F H : Hp) (ρ : SE) (σ : St) : Prop where
  gr : Gr Fb Hb F H
  vals : ∀ (i : Nat) (d : D), ρ[i]? = some (.v d) → ∃ v, σ[i]? = some (some v) ∧ At F d v
  ows : ∀ (i : Nat) (s : Sl), ρ[i]? = some s → s.isO = true → ∃ p o, σ[i]? = some (some (.ref p)) ∧ Hb p = none ∧ F p = none ∧ H p = some o ∧ Vr F o s
  dis : ∀ (i j : Nat) (p : Addr) (s t : Sl), ρ[i]? = some s → ρ[j]? = some t → s.isO = true → t.isO = true → σ[i]? = some (some (.ref p)) → σ[j]? = some (some (.ref p)) → i = j
  len : ρ.length = σ.length
section
variable {Fb Hb F H F' H' : Hp} {ρ ρ' : SE} {σ σ' : St}
theorem Rl.owns (r : Rl Fb Hb F H ρ σ) (i : Nat) (ds : List D) (e : ρ[i]? = some (.o ds)) : ∃ p xs, σ[i]? = some (some (.ref p)) ∧ Hb p = none ∧ F p = none ∧ H p = some (.lst xs) ∧ AtL F ds xs := by
  obtain ⟨p, o, e1, e2, e3, e4, xs, rfl, a⟩ := r.ows i _ e rfl
  exact ⟨p, xs, e1, e2, e3, e4, a⟩
theorem Rl.grow (r : Rl Fb Hb F H ρ σ) (g : Gr F H F' H') : Rl Fb Hb F' H' ρ σ := by
  refine ⟨r.gr.trans g, fun i d e => ?_, fun i s e h => ?_, r.dis, r.len⟩
  · obtain ⟨v, e1, a⟩ := r.vals i d e
    exact ⟨v, e1, a.mono g.ff⟩
  · obtain ⟨p, o, e1, e2, e3, e4, a⟩ := r.ows i s e h
    obtain ⟨k1, k2⟩ := g.kl a.ntup e3 e4
    exact ⟨p, o, e1, e2, k1, k2, a.mono g.ff⟩
theorem Rl.visF (r : Rl Fb Hb F H ρ σ) : VAt F (visF ρ) σ := fun i d e => by
  unfold Dl.visF at e
  rw [List.getElem?_map] at e
  cases h : ρ[i]? with
  | none => rw [h] at e; cases e
  | some x =>
    rw [h] at e
    cases x with
    | no => cases e
    | v d' =>
      cases e
      exact r.vals i d h
    | o ds => cases e
    | m t ks ds => cases e
noncomputable def Own (ρ : SE) (σ : St) (p : Addr) : Prop := ∃ (i : Nat) (s : Sl), ρ[i]? = some s ∧ s.isO = true ∧ σ[i]? = some (some (.ref p))
open Classical in
noncomputable def gOf (ρ : SE) (σ : St) (F H : Hp) : Hp := fun p => if Own ρ σ p then H p else F p
open Classical in
noncomputable def fOf (ρ : SE) (σ : St) (G : Hp) : Hp := fun p => if Own ρ σ p then none else G p
theorem Rl.own (r : Rl Fb Hb F H ρ σ) {p : Addr} (h : Own ρ σ p) : Hb p = none ∧ F p = none ∧ ∃ o, H p = some o ∧ ∀ xs, o ≠ .tup xs := by
  obtain ⟨i, s, e1, e2, e3⟩ := h
  obtain ⟨q, o, e4, e5, e6, e7, a⟩ := r.ows i s e1 e2
  rw [e3] at e4
  cases e4
  exact ⟨e5, e6, o, e7, a.ntup⟩
theorem Rl.notown (r : Rl Fb Hb F H ρ σ) {q : Addr} (h : H q = none) (j : Nat) (s : Sl) (e1 : ρ[j]? = some s) (e2 : s.isO = true) : σ[j]? ≠ some (some (.ref q)) := fun e => by
  obtain ⟨p, o, f1, _, _, f4, _⟩ := r.ows j s e1 e2
  rw [e] at f1
  cases f1
  rw [h] at f4
  cases f4
theorem Rl.notbase (r : Rl Fb Hb F H ρ σ) {q : Addr} (h : H q = none) : Hb q = none := by
  cases z : Hb q with
  | none => rfl
  | some o =>
    cases z2 : Fb q with
    | none => rw [(r.gr.kp q o z2 z).2] at h; cases h
    | some u => rw [r.gr.fh _ _ (r.gr.ff _ _ z2)] at h; cases h
theorem Rl.fg (r : Rl Fb Hb F H ρ σ) : yH F (gOf ρ σ F H) := fun p o e => by
  unfold gOf
  split
  · exact r.gr.fh p o e
  · exact e
theorem Rl.gh (r : Rl Fb Hb F H ρ σ) : yH (gOf ρ σ F H) H := fun p o e => by
  unfold gOf at e
  split at e
  · exact e
  · exact r.gr.fh p o e
theorem Rl.visG (r : Rl Fb Hb F H ρ σ) : VAt (gOf ρ σ F H) (visG ρ) σ := fun i d e => by
  unfold Dl.visG at e
  rw [List.getElem?_map] at e
  cases h : ρ[i]? with
  | none => rw [h] at e; cases e
  | some x =>
    rw [h] at e
    have e : x.g = some d := Option.some.inj e
    have own : x.isO = true → ∃ v, σ[i]? = some (some v) ∧ At (gOf ρ σ F H) d v := fun hx => by
      obtain ⟨p, o, e1, e2, e3, e4, a⟩ := r.ows i x h hx
      refine ⟨_, e1, a.at e ?_ r.fg⟩
      unfold gOf
      rw [if_pos ⟨i, x, h, hx, e1⟩]
      exact e4
    cases x with
    | no => cases e
    | v d' =>
      cases e
      obtain ⟨v, e1, a⟩ := r.vals i d h
      exact ⟨v, e1, a.mono r.fg⟩
    | o ds => exact own rfl
    | m t ks ds => exact own rfl
theorem Rl.back {G' : Hp} (r : Rl Fb Hb F H ρ σ) (g : Gr (gOf ρ σ F H) H G' H') : Gr F H (fOf ρ σ G') H' ∧ ∀ q xs, G' q = some (.tup xs) → fOf ρ σ G' q = some (.tup xs) := by
  refine ⟨⟨fun p o e => ?_, fun p o e => ?_, fun p o e1 e2 => ?_⟩, fun q xs e => ?_⟩
  · unfold fOf
    rw [if_neg (fun h => by rw [(r.own h).2.1] at e; cases e)]
    exact g.ff p o (r.fg p o e)
  · unfold fOf at e
    split at e
    · cases e
    · exact g.fh p o e
  · by_cases h : Own ρ σ p
    · refine ⟨.inl (by unfold fOf; rw [if_pos h]), g.fh p o (g.ff p o ?_)⟩
      unfold gOf
      rw [if_pos h]
      exact e2
    · obtain ⟨x, y⟩ := g.kp p o (by unfold gOf; rw [if_neg h]; exact e1) e2
      refine ⟨?_, y⟩
      unfold Hid fOf
      rw [if_neg h]
      exact x
  · unfold fOf
    rw [if_neg (fun h => ?_)]
    · exact e
    · obtain ⟨_, _, o, e2, n⟩ := r.own h
      have : G' q = some o := g.ff q _ (by unfold gOf; rw [if_pos h]; exact e2)
      rw [this] at e
      cases e
      exact n xs rfl
theorem Rl.out {G' : Hp} (r : Rl Fb Hb F H ρ σ) (g : Gr (gOf ρ σ F H) H G' H') : Gr Fb Hb G' H' := by
  refine ⟨fun p o e => g.ff p o (r.fg p o (r.gr.ff p o e)), g.fh, fun p o e1 e2 => ?_⟩
  obtain ⟨k1, k2⟩ := r.gr.kp p o e1 e2
  have e3 : gOf ρ σ F H p = F p := by
    unfold gOf
    rw [if_neg (fun h => by rw [(r.own h).1] at e2; cases e2)]
  rcases k1 with k1 | ⟨k1, k3⟩
  · exact g.kp p o (by rw [e3]; exact k1) k2
  · have := g.ff p o (by rw [e3]; exact k3)
    exact ⟨.inr ⟨k1, this⟩, g.fh _ _ this⟩
theorem Rl.set (r : Rl Fb Hb F H ρ σ) {i : Nat} {d : D} {v : V} (a : At F d v) : Rl Fb Hb F H (ρ.set i (.v d)) (σ.set i (some v)) := by
  have nj : ∀ {j : Nat} {s : Sl}, (ρ.set i (.v d))[j]? = some s → s.isO = true → i ≠ j := fun {j s} h ho e => by
    subst e
    rw [List.getElem?_set] at h
    simp only [if_true] at h
    split at h <;> cases h
    cases ho
  refine ⟨r.gr, fun j e h => ?_, fun j s h ho => ?_, fun j k p s t h1 h2 o1 o2 h3 h4 => ?_, by simp [r.len]⟩
  · by_cases hj : i = j
    · subst hj
      rw [List.getElem?_set] at h
      simp only [if_true] at h
      split at h
      · rename_i hl
        cases h
        refine ⟨v, ?_, a⟩
        rw [List.getElem?_set]
        simp [← r.len, hl]
      · cases h
    · rw [List.getElem?_set_ne hj] at h ⊢
      exact r.vals j e h
  · have hj := nj h ho
    rw [List.getElem?_set_ne hj] at h ⊢
    exact r.ows j s h ho
  · have a1 := nj h1 o1
    have a2 := nj h2 o2
    rw [List.getElem?_set_ne a1] at h1 h3
    rw [List.getElem?_set_ne a2] at h2 h4
    exact r.dis j k p s t h1 h2 o1 o2 h3 h4
theorem Rl.setW (r : Rl Fb Hb F H ρ σ) {i : Nat} {w : Sl} {p : Addr} {o : HO} (h0 : Hb p = none) (hF : F p = none) (hH : H p = some o) (a : Vr F o w)
    (nw : ∀ (j : Nat) (s : Sl), ρ[j]? = some s → s.isO = true → σ[j]? ≠ some (some (.ref p))) : Rl Fb Hb F H (ρ.set i w) (σ.set i (some (.ref p))) := by
  have at_i : ∀ {s : Sl}, (ρ.set i w)[i]? = some s → i < ρ.length ∧ s = w := fun {s} h => by
    rw [List.getElem?_set] at h
    simp only [if_true] at h
    split at h
    · rename_i hl
      cases h
      exact ⟨hl, rfl⟩
    · cases h
  have st_i : i < ρ.length → (σ.set i (some (V.ref p)))[i]? = some (some (.ref p)) := fun hl => by
    rw [List.getElem?_set]
    simp [← r.len, hl]
  refine ⟨r.gr, fun j e h => ?_, fun j s h ho => ?_, fun j k q s t h1 h2 o1 o2 h3 h4 => ?_, by simp [r.len]⟩
  · by_cases hj : i = j
    · subst hj
      have e := (at_i h).2
      have := a.isO
      rw [← e] at this
      cases this
    · rw [List.getElem?_set_ne hj] at h ⊢
      exact r.vals j e h
  · by_cases hj : i = j
    · subst hj
      obtain ⟨hl, e⟩ := at_i h
      subst e
      exact ⟨p, o, st_i hl, h0, hF, hH, a⟩
    · rw [List.getElem?_set_ne hj] at h ⊢
      exact r.ows j s h ho
  · by_cases hj : i = j
    · subst hj
      by_cases hk : i = k
      · exact hk
      · obtain ⟨hl, _⟩ := at_i h1
        rw [st_i hl] at h3
        cases h3
        rw [List.getElem?_set_ne hk] at h2 h4
        exact absurd h4 (nw k t h2 o2)
    · by_cases hk : i = k
      · subst hk
        obtain ⟨hl, _⟩ := at_i h2
        rw [st_i hl] at h4
        cases h4
        rw [List.getElem?_set_ne hj] at h1 h3
        exact absurd h3 (nw j s h1 o1)
      · rw [List.getElem?_set_ne hj] at h1 h3
        rw [List.getElem?_set_ne hk] at h2 h4
        exact r.dis j k q s t h1 h2 o1 o2 h3 h4
theorem Rl.setO (r : Rl Fb Hb F H ρ σ) {i : Nat} {ds : List D} {p : Addr} {xs : List V} (h0 : Hb p = none) (hF : F p = none) (hH : H p = some (.lst xs)) (a : AtL F ds xs)
    (nw : ∀ (j : Nat) (s : Sl), ρ[j]? = some s → s.isO = true → σ[j]? ≠ some (some (.ref p))) : Rl Fb Hb F H (ρ.set i (.o ds)) (σ.set i (some (.ref p))) := r.setW h0 hF hH ⟨xs, rfl, a⟩ nw
theorem Rl.mutW (r : Rl Fb Hb F H ρ σ) {i : Nat} {w w' : Sl} {p : Addr} {o' : HO} (e : ρ[i]? = some w) (hw : w.isO = true) (e1 : σ[i]? = some (some (.ref p))) (a : Vr F o' w') : Rl Fb Hb F (upd H p o') (ρ.set i w') σ := by
  obtain ⟨q, o, e2, h0, hF, hH, _⟩ := r.ows i w e hw
  rw [e1] at e2
  cases e2
  have hi : i < ρ.length := (List.getElem?_eq_some_iff.mp e).1
  have neP : ∀ {j : Nat} {s : Sl} {q : Addr}, i ≠ j → ρ[j]? = some s → s.isO = true → σ[j]? = some (some (.ref q)) → q ≠ p := fun {j s q} hne h1 ho h2 z => by
    subst z
    exact hne (r.dis i j q w s e h1 hw ho e1 h2)
  refine ⟨⟨r.gr.ff, fun b o z => ?_, fun b o z1 z2 => ?_⟩, fun j d h => ?_, fun j s h ho => ?_, fun j k q s t h1 h2 o1 o2 h3 h4 => ?_, by simp [r.len]⟩
  · rw [zo (zl z hF)]
    exact r.gr.fh b o z
  · rw [zo (zl z2 h0)]
    exact r.gr.kp b o z1 z2
  · by_cases hj : i = j
    · subst hj
      rw [List.getElem?_set_self hi] at h
      cases h
      exact (Bool.noConfusion a.isO)
    · rw [List.getElem?_set_ne hj] at h
      exact r.vals j d h
  · by_cases hj : i = j
    · subst hj
      rw [List.getElem?_set_self hi] at h
      cases h
      exact ⟨p, o', e1, h0, hF, zq, a⟩
    · rw [List.getElem?_set_ne hj] at h
      obtain ⟨q, z, f1, f2, f3, f4, f5⟩ := r.ows j s h ho
      refine ⟨q, z, f1, f2, f3, ?_, f5⟩
      rw [zo (neP hj h ho f1)]
      exact f4
  · have back : ∀ {j : Nat} {s : Sl}, (ρ.set i w')[j]? = some s → s.isO = true → ∃ s', ρ[j]? = some s' ∧ s'.isO = true := fun {j s} h ho => by
      by_cases hj : i = j
      · subst hj; exact ⟨w, e, hw⟩
      · rw [List.getElem?_set_ne hj] at h; exact ⟨s, h, ho⟩
    obtain ⟨f1, g1, g1'⟩ := back h1 o1
    obtain ⟨f2, g2, g2'⟩ := back h2 o2
    exact r.dis j k q f1 f2 g1 g2 g1' g2' h3 h4
theorem Rl.mutate (r : Rl Fb Hb F H ρ σ) {i : Nat} {ds es : List D} {p : Addr} {ys : List V} (e : ρ[i]? = some (.o ds)) (e1 : σ[i]? = some (some (.ref p))) (a : AtL F es ys) : Rl Fb Hb F (upd H p (.lst ys)) (ρ.set i (.o es)) σ :=
  r.mutW e rfl e1 ⟨ys, rfl, a⟩
noncomputable def Sl.fz : Sl → Sl
  | .o ds => .v (.lst ds)
  | .m t ks vs => .v (.dct false t ks vs)
  | s => s
noncomputable def zeF (ρ : SE) (i : Nat) : SE := ρ.set i ((ρ[i]?).getD .no).fz
theorem Rl.freeze (r : Rl Fb Hb F H ρ σ) (i : Nat) : ∃ F', Rl Fb Hb F' H (zeF ρ i) σ := by
  unfold zeF
  cases h : ρ[i]? with
  | none =>
    refine ⟨F, ?_⟩
    rw [List.set_eq_of_length_le (List.getElem?_eq_none_iff.mp h)]
    exact r
  | some s =>
    have hi : i < ρ.length := (List.getElem?_eq_some_iff.mp h).1
    have same : s.fz = s → ∃ F', Rl Fb Hb F' H (ρ.set i ((some s).getD .no).fz) σ := fun e => by
      refine ⟨F, ?_⟩
      show Rl Fb Hb F H (ρ.set i s.fz) σ
      rw [e]
      have : ρ.set i s = ρ := by
        apply List.ext_getElem?
        intro j
        by_cases hj : i = j
        · subst hj; rw [List.getElem?_set_self hi, h]
        · rw [List.getElem?_set_ne hj]
      rw [this]
      exact r
    have give : ∀ d, s.isO = true → s.g = some d → s.fz = .v d → ∃ F', Rl Fb Hb F' H (ρ.set i ((some s).getD .no).fz) σ := fun d ho hg hz => by
      obtain ⟨p, o, e1, e2, e3, e4, a⟩ := r.ows i s h ho
      have sF : yH F (upd F p o) := fun b u e => by rw [zo (zl e e3)]; exact e
      show ∃ F', Rl Fb Hb F' H (ρ.set i s.fz) σ
      rw [hz]
      have nj : ∀ {j : Nat} {t : Sl}, (ρ.set i (.v d))[j]? = some t → t.isO = true → i ≠ j := fun {j t} h ht e => by
        subst e
        rw [List.getElem?_set_self hi] at h
        cases h
        cases ht
      refine ⟨upd F p o, r.gr.show e2 e3 e4, fun j e z => ?_, fun j t z ht => ?_, fun j k q t u h1 h2 o1 o2 h3 h4 => ?_, by simp [r.len]⟩
      · by_cases hj : i = j
        · subst hj
          rw [List.getElem?_set_self hi] at z
          cases z
          exact ⟨_, e1, a.at hg zq sF⟩
        · rw [List.getElem?_set_ne hj] at z
          obtain ⟨v, f1, f2⟩ := r.vals j e z
          exact ⟨v, f1, f2.mono sF⟩
      · have hj := nj z ht
        rw [List.getElem?_set_ne hj] at z
        obtain ⟨q, y, f1, f2, f3, f4, f5⟩ := r.ows j t z ht
        refine ⟨q, y, f1, f2, ?_, f4, f5.mono sF⟩
        rw [zo (fun w => hj (r.dis i j p s t h z ho ht e1 (by rw [← w]; exact f1)))]
        exact f3
      · have a1 := nj h1 o1
        have a2 := nj h2 o2
        rw [List.getElem?_set_ne a1] at h1
        rw [List.getElem?_set_ne a2] at h2
        exact r.dis j k q t u h1 h2 o1 o2 h3 h4
    cases s with
    | no => exact same rfl
    | v d => exact same rfl
    | o ds => exact give _ rfl rfl rfl
    | m t ks ds => exact give _ rfl rfl rfl
end
inductive Ctl where
  | nx (ρ : SE) | rt (d : D) | bk (ρ : SE) | ct (ρ : SE) | no
  deriving Inhabited
noncomputable def SOk (Fb Hb : Hp) (E : zcg) : Ctl → Prop
  | .nx ρ => ∀ F H σ, Rl Fb Hb F H ρ σ → E.nx σ H
  | .bk ρ => ∀ F H σ, Rl Fb Hb F H ρ σ → E.bk σ H
  | .ct ρ => ∀ F H σ, Rl Fb Hb F H ρ σ → E.ct σ H
  | .rt d => ∀ F H v, Gr Fb Hb F H → At F d v → E.rt v H
  | .no => False
noncomputable def RS (t : TS) (g : SE → Ctl) : Prop := ∀ (Fb Hb F H : Hp) (ρ : SE) (σ : St) (E : zcg), Rl Fb Hb F H ρ σ → SOk Fb Hb E (g ρ) → t E σ H
noncomputable def SD (X : Cx) (st : Stmt) (g : SE → Ctl) : Prop := ∃ t, PS X st t ∧ RS t g
noncomputable def SDs (X : Cx) (sts : List Stmt) (g : SE → Ctl) : Prop := ∃ t, PSs X sts t ∧ RS t g
section
variable {X : Cx} {st : Stmt} {sts : List Stmt} {a b c e : Expr} {pos pos' : Pos}
noncomputable def zE : SE → Ctl := .nx
noncomputable def zY (g h : SE → Ctl) : SE → Ctl := fun ρ => match g ρ with
  | .nx ρ' => h ρ'
  | .rt d => .rt d
  | .bk ρ' => .bk ρ'
  | .ct ρ' => .ct ρ'
  | .no => .no
theorem zI : SDs X [] zE := ⟨_, zck, fun _ _ F H ρ σ E r h => h F H σ r⟩
theorem ze {g h : SE → Ctl} (h1 : SD X st g) (h2 : SDs X sts h) : SDs X (st :: sts) (zY g h) := by
  obtain ⟨t, p, r⟩ := h1
  obtain ⟨u, p2, r2⟩ := h2
  refine ⟨_, zaZ p p2, fun Fb Hb F H ρ σ E rl k => ?_⟩
  refine r Fb Hb F H ρ σ { E with nx := u E } rl ?_
  unfold zY at k
  cases e : g ρ with
  | nx ρ' =>
    rw [e] at k
    exact fun F' H' σ' rl' => r2 Fb Hb F' H' ρ' σ' E rl' k
  | rt d => rw [e] at k; exact k
  | bk d => rw [e] at k; exact k
  | ct d => rw [e] at k; exact k
  | no => rw [e] at k; exact k
theorem zf {g : SE → Ctl} (h1 : SD X st g) : SDs X [st] g := let ⟨_, p, r⟩ := h1; ⟨_, zcG p, r⟩
noncomputable def sFz (i : Nat) (g : SE → Ctl) : SE → Ctl := fun ρ => g (zeF ρ i)
theorem Vw {g : SE → Ctl} (i : Nat) (h : SDs X sts g) : SDs X sts (sFz i g) := by
  obtain ⟨t, p, r⟩ := h
  refine ⟨_, p, fun Fb Hb F H ρ σ E rl k => ?_⟩
  obtain ⟨F', rl'⟩ := rl.freeze i
  exact r Fb Hb F' H _ σ E rl' k
noncomputable def sNo : SE → Ctl := fun _ => .no
theorem xP : SD X st sNo := ⟨_, zaW, fun _ _ _ _ _ _ _ _ h => h.elim⟩
noncomputable def yn (f : Ev → Option D) : SE → Ctl := fun ρ => match f (visG ρ) with
  | some d => .rt d
  | none => .no
theorem zz {f : Ev → Option D} (h : ED X e f) : SD X (.Return (some e) pos) (yn f) := by
  obtain ⟨t, p, r⟩ := h
  refine ⟨_, zdi p, fun Fb Hb F H ρ σ E rl k => ?_⟩
  unfold yn at k
  cases h : f (visG ρ) with
  | none => rw [h] at k; exact k.elim
  | some d =>
    rw [h] at k
    exact r σ _ _ H d _ rl.gh rl.visG h fun F' H' v g av => k F' H' v (rl.out g) av
noncomputable def xl : SE → Ctl := fun _ => .rt .non
noncomputable def vEv (m : Bool) (f : Ev → Option D) (ρ : SE) : Option D := if m = true then (f (visG ρ)).bind fun d => if noL d = true then some d else none else f (visF ρ)
theorem RE.at {Fb Hb F H : Hp} {ρ : SE} {σ : St} {m : Bool} {f : Ev → Option D} {t : TE} {d : D} {Q : VK} (r : RE t f) (rl : Rl Fb Hb F H ρ σ) (h : vEv m f ρ = some d) (q : ∀ F' H' v, Gr F H F' H' → At F' d v → Q v H') : t σ H Q := by
  unfold vEv at h
  cases m with
  | false =>
    rw [if_neg Bool.false_ne_true] at h
    exact r σ _ _ H d _ rl.gr.fh rl.visF h q
  | true =>
    rw [if_pos rfl] at h
    obtain ⟨d', h1, h2⟩ := Option.bind_eq_some_iff.mp h
    split at h2 <;> cases h2
    rename_i hn
    refine r σ _ _ H d _ rl.gh rl.visG h1 fun F' H' v g av => ?_
    obtain ⟨g2, fl⟩ := rl.back g
    exact q _ H' v g2 (av.flat fl hn)
noncomputable def yP (m : Bool) (i : Nat) (f : Ev → Option D) : SE → Ctl := fun ρ => match vEv m f ρ with
  | some d => .nx (ρ.set i (.v d))
  | none => .no
theorem yy {m : Bool} {i : Nat} {x : Str} {f : Ev → Option D} (hN : X.N.Nodup) (hi : X.N[i]? = some x) (hx : Loc X.env.scope x) (he : ED X e f) (hs : swapsWith e (some (.Name x pos')) pos.line X.env = pure false := by rfl)
    (hf : X.fn x = true ∨ X.env.scope.names.lookup x = some .local := by first | exact .inl rfl | exact .inr rfl | assumption) : SD X (.Assign [.Name x pos'] e pos) (yP m i f) := by
  obtain ⟨t, p, r⟩ := he
  refine ⟨_, zbW hN hi hx p hs hf, fun Fb Hb F H ρ σ E rl k => ?_⟩
  unfold yP at k
  cases h : vEv m f ρ with
  | none => rw [h] at k; exact k.elim
  | some d =>
    rw [h] at k
    exact r.at rl h fun F' H' v g av => k F' H' _ ((rl.grow g).set av)
noncomputable def vn (f : Ev → Option D) : SE → Ctl := fun ρ => match f (visG ρ) with
  | some _ => .nx ρ
  | none => .no
theorem zao {f : Ev → Option D} (he : ED X e f) (hs : swapsWith e none pos.line X.env = pure false := by rfl) : SD X (.Expr e pos) (vn f) := by
  obtain ⟨t, p, r⟩ := he
  refine ⟨_, VS p hs, fun Fb Hb F H ρ σ E rl k => ?_⟩
  unfold vn at k
  cases h : f (visG ρ) with
  | none => rw [h] at k; exact k.elim
  | some d =>
    rw [h] at k
    exact r σ _ _ H d _ rl.gh rl.visG h fun F' H' v g av => k _ H' σ (rl.grow (rl.back g).1)
noncomputable def vh (i : Nat) (f : Ev → Option (List D)) : SE → Ctl := fun ρ => match f (visF ρ) with
  | some ds => .nx (ρ.set i (.o ds))
  | none => .no
theorem zav {i : Nat} {x : Str} {f : Ev → Option (List D)} (hN : X.N.Nodup) (hi : X.N[i]? = some x) (hx : Loc X.env.scope x) (he : FL X e f) (hs : swapsWith e (some (.Name x pos')) pos.line X.env = pure false := by rfl)
    (hf : X.fn x = true ∨ X.env.scope.names.lookup x = some .local := by first | exact .inl rfl | exact .inr rfl | assumption) : SD X (.Assign [.Name x pos'] e pos) (vh i f) := by
  obtain ⟨t, p, r⟩ := he
  refine ⟨_, zbW hN hi hx p hs hf, fun Fb Hb F H ρ σ E rl k => ?_⟩
  unfold vh at k
  cases h : f (visF ρ) with
  | none => rw [h] at k; exact k.elim
  | some ds =>
    rw [h] at k
    refine r σ _ _ H ds _ rl.gr.fh rl.visF h fun F' H' q xs g h0 hF hH hx => ?_
    have rl2 := rl.grow g
    exact k F' H' _ (rl2.setO (rl.notbase h0) hF hH hx (rl.notown h0))
noncomputable def sIf (t : Ev → Option Bool) (g h : SE → Ctl) : SE → Ctl := fun ρ => match t (visG ρ) with
  | some true => g ρ
  | some false => h ρ
  | none => .no
theorem yV {as bs : List Stmt} {t : Ev → Option Bool} {g h : SE → Ctl} (hc : TD X c t) (ha : SDs X as g) (hb : SDs X bs h) : SD X (.If c as bs pos) (sIf t g h) := by
  obtain ⟨tc, pc, rc⟩ := hc
  obtain ⟨ta, pa, ra⟩ := ha
  obtain ⟨tb, pb, rb⟩ := hb
  refine ⟨_, zeI pc pa pb, fun Fb Hb F H ρ σ E rl k => ?_⟩
  unfold sIf at k
  cases h : t (visG ρ) with
  | none => rw [h] at k; exact k.elim
  | some d =>
    rw [h] at k
    refine rc σ _ _ H d _ rl.gh rl.visG h fun F' H' g => ?_
    have rl2 := rl.grow (rl.back g).1
    cases d with
    | true => rw [if_pos rfl]; exact ra Fb Hb _ H' ρ σ E rl2 k
    | false => rw [if_neg Bool.false_ne_true]; exact rb Fb Hb _ H' ρ σ E rl2 k
noncomputable def RG (t : TG) (b : D → SE → Option SE) : Prop := ∀ (Fb Hb F H : Hp) (ρ ρ' : SE) (σ : St) (d : D) (v : V) (Q : St → Hp → Prop), Rl Fb Hb F H ρ σ → At F d v → b d ρ = some ρ' → (∀ σ', Rl Fb Hb F H ρ' σ' → Q σ' H) → t v σ H Q
noncomputable def RGs (t : TGs) (b : List D → SE → Option SE) : Prop := ∀ (Fb Hb F H : Hp) (ρ ρ' : SE) (σ : St) (ds : List D) (vs : List V) (Q : St → Hp → Prop), Rl Fb Hb F H ρ σ → AtL F ds vs → b ds ρ = some ρ' → (∀ σ', Rl Fb Hb F H ρ' σ' → Q σ' H) → t vs σ H Q
noncomputable def BD (X : Cx) (tg : Expr) (b : D → SE → Option SE) : Prop := ∃ t, PG X tg t ∧ RG t b
noncomputable def BDs (X : Cx) (tgs : List Expr) (b : List D → SE → Option SE) : Prop := ∃ t, PGs X tgs t ∧ RGs t b
noncomputable def zZ (i : Nat) : D → SE → Option SE := fun d ρ => some (ρ.set i (.v d))
theorem yM {i : Nat} (h : PG X a (XV i)) : BD X a (zZ i) := by
  refine ⟨_, h, fun Fb Hb F H ρ ρ' σ d v Q rl av e q => ?_⟩
  cases e
  exact q _ (rl.set av)
noncomputable def vq : List D → SE → Option SE
  | [], ρ => some ρ
  | _, _ => none
noncomputable def yf (b : D → SE → Option SE) (c : List D → SE → Option SE) : List D → SE → Option SE
  | d :: ds, ρ => (b d ρ).bind (c ds)
  | [], _ => none
theorem Zb : BDs X [] vq := by
  refine ⟨_, zcZ, fun Fb Hb F H ρ ρ' σ ds vs Q rl av e q => ?_⟩
  cases ds with
  | nil => cases e; exact ⟨av.nil_inv, q _ rl⟩
  | cons _ _ => cases e
theorem y9 {es : List Expr} {b : D → SE → Option SE} {c : List D → SE → Option SE} (h1 : BD X e b) (h2 : BDs X es c)
    (hs : (assignEach (e :: es) X.env).map (·.2) = assign e X.env :: (assignEach es X.env).map (·.2) := by rfl) : BDs X (e :: es) (yf b c) := by
  obtain ⟨t, p, r⟩ := h1
  obtain ⟨u, p2, r2⟩ := h2
  refine ⟨_, zbH p p2 hs, fun Fb Hb F H ρ ρ' σ ds vs Q rl av e q => ?_⟩
  cases ds with
  | nil => cases e
  | cons d ds =>
    obtain ⟨x, xs, rfl, a1, a2⟩ := av.cons_inv
    obtain ⟨ρ1, e1, e2⟩ := Option.bind_eq_some_iff.mp e
    exact ⟨x, xs, rfl, r Fb Hb F H ρ ρ1 σ d x _ rl a1 e1 fun σ1 rl1 => r2 Fb Hb F H ρ1 ρ' σ1 ds xs Q rl1 a2 e2 q⟩
noncomputable def vj (n : Nat) (c : List D → SE → Option SE) : D → SE → Option SE
  | .tup ds, ρ => if ds.length = n then c ds ρ else none
  | _, _ => none
theorem XS {es : List Expr} {k : Nat} {n : Nat} {c : List D → SE → Option SE} (hc : X.calm = true) (h : BDs X es c)
    (hn : (assignEach es X.env).length = n := by rfl) (hst : (assignEach es X.env).findIdx? (·.1) = none := by rfl) : BD X (.Tuple es k pos) (vj n c) := by
  obtain ⟨t, p, r⟩ := h
  refine ⟨_, zds hc p hn hst, fun Fb Hb F H ρ ρ' σ d v Q rl av e q => ?_⟩
  cases d with
  | tup ds =>
    unfold vj at e
    dsimp only at e
    split at e
    · rename_i hl
      obtain ⟨a, xs, rfl, hx, al⟩ := av.tup_inv
      exact ⟨a, xs, rfl, SqT.of (rl.gr.fh _ _ hx), by rw [al.length]; exact hl, r Fb Hb F H ρ ρ' σ ds xs Q rl al e q⟩
    · cases e
  | _ => cases e
noncomputable def YB (m : Bool) (f : Ev → Option D) (b : D → SE → Option SE) : SE → Ctl := fun ρ => match (vEv m f ρ).bind fun d => b d ρ with
  | some ρ' => .nx ρ'
  | none => .no
noncomputable def Yv (m : Bool) (i : Nat) (fk fe : Ev → Option D) : SE → Ctl := fun ρ => match (vEv m fe ρ).bind fun d => (fk (visG ρ)).bind fun k => match ρ[i]?, k with
    | some (.o ds), .int k => (ixN ds.length k).map fun j => ρ.set i (.o (ds.set j d))
    | _, _ => none with
  | some ρ' => .nx ρ'
  | none => .no
end
end Dl
namespace L2
open PySem PySem.Spec PyProof.Rows
section
variable {X : Cx} {tg : Expr}
noncomputable def iSeq (K : PySem.W.Frag) (tl : TE) : TI := fun σ H R => tl σ H fun x H1 => (∃ a, x = .ref a ∧ (∃ xs, SqL K H1 a xs) ∧ R (Itl K a) H1) ∨ (∃ a, x = .ref a ∧ (∃ xs, SqT K H1 a xs) ∧ R (Itt K a) H1)
theorem zd5 {l : Expr} {tl : TE} (hl : PE X l tl) : PI X tg l (iSeq X.K tl) := by
  intro pins s σ H R I h
  refine thn (hl pins s σ H _ I h) fun v s1 hh9 => ?_
  obtain ⟨x, H1, I1, r1, q1⟩ := hh9
  rcases q1 with ⟨a, e, ⟨xs, hq⟩, q⟩ | ⟨a, e, ⟨xs, hq⟩, q⟩
  · subst e
    cases r1
    obtain ⟨its, rv, p, hz⟩ := I1.list hq
    refine wpAny_pyIter_list p.isList ?_
    refine ⟨s1.heap.objs.size, [s1.heap.objs.size], _, _, H1, rfl, I1.kept (t' := s1.toks) fun b o e => Heap.get?_push_of_some _ e, zax a _, ⟨_, Heap.get?_push_size _ rfl, rfl, rfl⟩, fun b hb => ?_, q⟩
    have e : b = s1.heap.objs.size := by simpa using hb
    subst e
    exact I1.fpOk (Nat.le_refl _) (I1.hok.fresh (Nat.le_refl _))
  · subst e
    cases r1
    obtain ⟨its, rv, p, hz⟩ := I1.tuple hq
    refine wpAny_pyIter_tuple (show s1.heap.IsTuple a its.toArray from p) ?_
    refine ⟨s1.heap.objs.size, [s1.heap.objs.size], _, _, H1, rfl, I1.kept (t' := s1.toks) fun b o e => Heap.get?_push_of_some _ e, W2 a _, ⟨_, Heap.get?_push_size _ rfl, rfl, rfl⟩, fun b hb => ?_, q⟩
    have e : b = s1.heap.objs.size := by simpa using hb
    subst e
    exact I1.fpOk (Nat.le_refl _) (I1.hok.fresh (Nat.le_refl _))
end
end L2
namespace Dl
open PySem L2
variable [KK]
noncomputable def zd3 (J : It) (F : Hp) (ds : List D) : Prop := ∀ (i : Nat) (F2 H2 : Hp), yH F F2 → yH F2 H2 → (i = ds.length → J.stop i H2) ∧
  ∀ d, ds[i]? = some d → J.go i H2 ∧ ∀ x H3, J.yld i H2 x H3 → ∃ F3, Gr F2 H2 F3 H3 ∧ At F3 d x
noncomputable def RI (wi : TI) (f : Ev → Option (List D)) : Prop :=
  ∀ (σ : St) (ρ : Ev) (F H : Hp) (ds : List D) (R : It → Hp → Prop), yH F H → VAt F ρ σ → f ρ = some ds → (∀ F' H' J, Gr F H F' H' → zd3 J F' ds → R J H') → wi σ H R
noncomputable def ID (X : Cx) (tg iter : Expr) (f : Ev → Option (List D)) : Prop := ∃ wi, PI X tg iter wi ∧ RI wi f
noncomputable def yi : D → Option (List D)
  | .lst ds => some ds
  | .tup ds => some ds
  | _ => none
section
variable {X : Cx} {tg a b c e : Expr} {pos : Pos}
theorem zdU {K : PySem.W.Frag} {F : Hp} {p : Addr} {xs : List V} {ds : List D} (h : F p = some (.lst xs)) (al : AtL F ds xs) : zd3 (Itl K p) F ds := by
  intro i F2 H2 s1 s2
  have q : SqL K H2 p xs := SqL.of (s2 _ _ (s1 _ _ h))
  refine ⟨fun hl => ⟨xs, q, by rw [al.length, hl]; exact Nat.le_refl _⟩, fun d hd => ?_⟩
  obtain ⟨x, hx, ax⟩ := al.get hd
  refine ⟨⟨xs, x, q, hx⟩, fun y H3 hy => ?_⟩
  obtain ⟨rfl, hy⟩ := hy
  have := hy xs q
  rw [hx] at this
  cases this
  exact ⟨F2, .refl s2, ax.mono s1⟩
theorem zdV {K : PySem.W.Frag} {F : Hp} {p : Addr} {xs : List V} {ds : List D} (h : F p = some (.tup xs)) (al : AtL F ds xs) : zd3 (Itt K p) F ds := by
  intro i F2 H2 s1 s2
  have q : SqT K H2 p xs := SqT.of (s2 _ _ (s1 _ _ h))
  refine ⟨fun hl => ⟨xs, q, by rw [al.length, hl]; exact Nat.le_refl _⟩, fun d hd => ?_⟩
  obtain ⟨x, hx, ax⟩ := al.get hd
  refine ⟨⟨xs, x, q, hx⟩, fun y H3 hy => ?_⟩
  obtain ⟨rfl, hy⟩ := hy
  have := hy xs q
  rw [hx] at this
  cases this
  exact ⟨F2, .refl s2, ax.mono s1⟩
noncomputable def iOf (f : Ev → Option D) : Ev → Option (List D) := fun ρ => (f ρ).bind yi
theorem YW {f : Ev → Option D} (ha : ED X a f) : ID X tg a (iOf f) := by
  obtain ⟨t, p, r⟩ := ha
  refine ⟨_, zd5 p, fun σ ρ F H ds R s va e q => ?_⟩
  obtain ⟨d, e1, e2⟩ := Option.bind_eq_some_iff.mp e
  refine r σ ρ F H d _ s va e1 fun F1 H1 v g1 a1 => ?_
  cases d <;> try cases e2
  · obtain ⟨p, xs, rfl, hx, al⟩ := a1.tup_inv
    exact .inr ⟨p, rfl, ⟨xs, SqT.of (g1.fh _ _ hx)⟩, q F1 H1 _ g1 (zdV hx al)⟩
  · obtain ⟨p, xs, rfl, hx, al⟩ := a1.lst_inv
    exact .inl ⟨p, rfl, ⟨xs, SqL.of (g1.fh _ _ hx)⟩, q F1 H1 _ g1 (zdU hx al)⟩
noncomputable def Zj (lo : Int) (n : Nat) : List D := (List.range n).map fun k : Nat => .int (lo + k)
theorem zbU {F : Hp} (lo : Int) (n : Nat) : zd3 (Itr lo n) F (Zj lo n) := by
  intro i F2 H2 s1 s2
  have hlen : (Zj lo n).length = n := by unfold Zj; simp
  refine ⟨fun hl => by rw [hlen] at hl; rw [hl]; exact Nat.le_refl _, fun d hd => ?_⟩
  have hi : i < n := by
    have := (List.getElem?_eq_some_iff.mp hd).1
    omega
  refine ⟨hi, fun y H3 hy => ?_⟩
  obtain ⟨rfl, rfl⟩ := hy
  refine ⟨F2, .refl s2, ?_⟩
  unfold Zj at hd
  rw [List.getElem?_map, List.getElem?_range hi] at hd
  cases hd
  exact .int
@[irreducible] noncomputable def zbV (j : Int) : Bool := decide (-(2 ^ 62) ≤ j ∧ j < 2 ^ 62)
omit [KK] in
theorem xC {j : Int} : zbV j = true ↔ -(2 ^ 62) ≤ j ∧ j < 2 ^ 62 := by unfold zbV; exact decide_eq_true_iff
noncomputable def wL : List D → Option (List D)
  | [.int j] => if zbV j = true then some (Zj 0 j.toNat) else none
  | _ => none
noncomputable def wZ : List D → Option (List D)
  | [.int i, .int j] => if zbV i = true ∧ zbV j = true then some (Zj i (j - i).toNat) else none
  | _ => none
noncomputable def vK (g : List D → Option (List D)) (f : Ev → Option (List D)) : Ev → Option (List D) := fun ρ => (f ρ).bind g
theorem zad {p : Pos} {f : Ev → Option (List D)} (hg : Gl X "range") (hm : X.mg "range" = none) (ha : AD X [a, b] f) (hs : starEach [a, b] X.env = [(false, eval a X.env), (false, eval b X.env)] := by rfl) (hs2 : starEach [b] X.env = [(false, eval b X.env)] := by rfl) :
    ID X tg (.Call (.Name "range" p) [a, b] [] pos) (vK wZ f) := by
  obtain ⟨t, pa, r⟩ := ha
  refine ⟨_, zai hg hm pa hs hs2, fun σ ρ F H ds R s va e q => ?_⟩
  obtain ⟨d, e1, e2⟩ := Option.bind_eq_some_iff.mp e
  refine r σ ρ F H d _ s va e1 fun F1 H1 v g1 a1 => ?_
  unfold wZ at e2
  split at e2
  · split at e2
    · cases e2
      rename_i hc
      obtain ⟨x, r', rfl, ax, ar⟩ := a1.cons_inv
      obtain ⟨y, r', rfl, ay, ar⟩ := ar.cons_inv
      cases ar.nil_inv
      exact ⟨_, _, by rw [ax.int_inv, ay.int_inv], ⟨(xC.mp hc.1).1, (xC.mp hc.1).2, (xC.mp hc.2).1, (xC.mp hc.2).2⟩, q F1 H1 _ g1 (zbU _ _)⟩
    · cases e2
  · cases e2
noncomputable def vS (n : Nat) : List D → List D
  | [] => []
  | d :: ds => .tup [.int n, d] :: vS (n + 1) ds
omit [KK] in
theorem x8 (ds : List D) : ∀ (n i : Nat), (vS n ds)[i]? = (ds[i]?).map fun d => .tup [.int ((n + i : Nat) : Int), d] := by
  induction ds with
  | nil => intro n i; simp [vS]
  | cons d ds ih =>
    intro n i
    cases i with
    | zero => simp [vS]
    | succ i =>
      show (vS (n + 1) ds)[i]? = (ds[i]?).map _
      rw [ih]
      have : n + 1 + i = n + (i + 1) := by omega
      rw [this]
omit [KK] in
theorem xj (ds : List D) : ∀ n, (vS n ds).length = ds.length := by
  induction ds with
  | nil => intro n; rfl
  | cons d ds ih => intro n; simp [vS, ih]
noncomputable def zV (f : Ev → Option (List D)) : Ev → Option (List D) := fun ρ => (f ρ).bind fun as => match as with
  | [d] => (yi d).map (vS 0)
  | _ => none
theorem VI {es : List Expr} {k : Nat} {tp p : Pos} {f : Ev → Option (List D)} (hg : Gl X "enumerate") (hm : X.mg "enumerate" = none) (hb : bootBuiltins "enumerate" = some (.type "enumerate")) (ha : AD X [a] f)
    (hs : starEach [a] X.env = [(false, eval a X.env)] := by rfl) : ID X (.Tuple es k tp) (.Call (.Name "enumerate" p) [a] [] pos) (zV f) := by
  obtain ⟨t, pa, r⟩ := ha
  refine ⟨_, zcJ hg hm hb pa hs, fun σ ρ F H ds R s va e q => ?_⟩
  obtain ⟨as, e1, e2⟩ := Option.bind_eq_some_iff.mp e
  refine r σ ρ F H as _ s va e1 fun F1 H1 v g1 a1 => ?_
  split at e2
  · obtain ⟨x, r', rfl, ax, ar⟩ := a1.cons_inv
    cases ar.nil_inv
    obtain ⟨es, e3, rfl⟩ := Option.map_eq_some_iff.mp e2
    rename_i d
    cases d <;> try cases e3
    · obtain ⟨p, xs, rfl, hx, al⟩ := ax.tup_inv
      refine ⟨p, rfl, .inr ⟨xs, SqT.of (g1.fh _ _ hx), q F1 H1 _ g1 fun i F2 H2 s1 s2 => ?_⟩⟩
      have qq : SqT X.K H2 p xs := SqT.of (s2 _ _ (s1 _ _ hx))
      refine ⟨fun hl => ⟨xs, qq, by rw [al.length, hl, xj]; exact Nat.le_refl _⟩, fun d hd => ?_⟩
      rw [x8] at hd
      obtain ⟨d', hd', rfl⟩ := Option.map_eq_some_iff.mp hd
      obtain ⟨x, hxi, ax⟩ := al.get hd'
      refine ⟨⟨xs, x, qq, hxi⟩, fun y H3 hy => ?_⟩
      obtain ⟨T, y, rfl, hT, rfl, hy⟩ := hy
      have := hy xs qq
      rw [hxi] at this
      cases this
      have g3 := Gr.alloc s2 hT (.tup [.int i, x])
      exact ⟨_, g3, .tup zq (.cons (by rw [Nat.zero_add]; exact .int) (.cons (ax.mono (s1.trans g3.ff)) .nil))⟩
    · obtain ⟨p, xs, rfl, hx, al⟩ := ax.lst_inv
      refine ⟨p, rfl, .inl ⟨xs, g1.fh _ _ hx, q F1 H1 _ g1 fun i F2 H2 s1 s2 => ?_⟩⟩
      have qq : SqL X.K H2 p xs := SqL.of (s2 _ _ (s1 _ _ hx))
      refine ⟨fun hl => ⟨xs, qq, by rw [al.length, hl, xj]; exact Nat.le_refl _⟩, fun d hd => ?_⟩
      rw [x8] at hd
      obtain ⟨d', hd', rfl⟩ := Option.map_eq_some_iff.mp hd
      obtain ⟨x, hxi, ax⟩ := al.get hd'
      refine ⟨⟨xs, x, qq, hxi⟩, fun y H3 hy => ?_⟩
      obtain ⟨T, y, rfl, hT, rfl, hy⟩ := hy
      have := hy xs qq
      rw [hxi] at this
      cases this
      have g3 := Gr.alloc s2 hT (.tup [.int i, x])
      exact ⟨_, g3, .tup zq (.cons (by rw [Nat.zero_add]; exact .int) (.cons (ax.mono (s1.trans g3.ff)) .nil))⟩
  · cases e2
noncomputable def hb2 (F1 Hb : Hp) : Hp := fun p => match F1 p with
  | some o => some o
  | none => Hb p
theorem YO {F1 Hb : Hp} {p : Addr} (h : F1 p = none) : hb2 F1 Hb p = Hb p := by unfold hb2; rw [h]
theorem zbw {F1 Hb : Hp} {p : Addr} {o : HO} (h : F1 p = some o) : hb2 F1 Hb p = some o := by unfold hb2; rw [h]
theorem Gr.up {Fb Hb F1 H1 F H : Hp} (g1 : Gr Fb Hb F1 H1) (g : Gr F1 (hb2 F1 Hb) F H) : Gr Fb Hb F H := by
  refine ⟨g1.ff.trans g.ff, g.fh, fun p o e1 e2 => ?_⟩
  rcases (g1.kp p o e1 e2).1 with n | ⟨n1, n2⟩
  · exact g.kp p o n (by rw [YO n]; exact e2)
  · exact ⟨.inr ⟨n1, g.ff _ _ n2⟩, g.fh _ _ (g.ff _ _ n2)⟩
theorem Gr.dn {Fb Hb F1 F H : Hp} (g : Gr Fb Hb F H) (s1 : yH Fb F1) (s : yH F1 F) : Gr F1 (hb2 F1 Hb) F H := by
  refine ⟨s, g.fh, fun p o e1 e2 => ?_⟩
  rw [YO e1] at e2
  exact g.kp p o (s1.free e1) e2
theorem Rl.up {Fb Hb F1 H1 F H : Hp} {ρ : SE} {σ : St} (g1 : Gr Fb Hb F1 H1) (r : Rl F1 (hb2 F1 Hb) F H ρ σ) : Rl Fb Hb F H ρ σ := by
  refine ⟨g1.up r.gr, r.vals, fun i s e ho => ?_, r.dis, r.len⟩
  obtain ⟨p, o, e1, e2, e3⟩ := r.ows i s e ho
  refine ⟨p, o, e1, ?_, e3⟩
  cases h : F1 p with
  | none => rw [YO h] at e2; exact e2
  | some o => rw [zbw h] at e2; cases e2
theorem Rl.dn {Fb Hb F1 F H : Hp} {ρ : SE} {σ : St} (r : Rl Fb Hb F H ρ σ) (s1 : yH Fb F1) (s : yH F1 F) : Rl F1 (hb2 F1 Hb) F H ρ σ := by
  refine ⟨r.gr.dn s1 s, r.vals, fun i t e ho => ?_, r.dis, r.len⟩
  obtain ⟨p, o, e1, e2, e3, e4⟩ := r.ows i t e ho
  refine ⟨p, o, e1, ?_, e3, e4⟩
  rw [YO (s.free e3)]
  exact e2
noncomputable def VM (b : D → SE → Option SE) (g : SE → Ctl) : List D → SE → Ctl
  | [], ρ => .nx ρ
  | d :: ds, ρ => match b d ρ with
    | none => .no
    | some ρ1 => match g ρ1 with
      | .nx ρ' => VM b g ds ρ'
      | .ct ρ' => VM b g ds ρ'
      | .bk ρ' => .nx ρ'
      | .rt d => .rt d
      | .no => .no
noncomputable def wF (f : Ev → Option (List D)) (b : D → SE → Option SE) (g : SE → Ctl) : SE → Ctl := fun ρ => match f (visF ρ) with
  | some ds => VM b g ds ρ
  | none => .no
theorem zb9 {Fb Hb F1 H1 : Hp} {ρ : SE} {σ : St} {E : zcg} {J : It} {g : TG} {tb : TS} {ds : List D} {b : D → SE → Option SE} {gb : SE → Ctl} (hit : zd3 J F1 ds) (rg : RG g b) (rb : RS tb gb) (rl0 : Rl Fb Hb F1 H1 ρ σ) (k : SOk Fb Hb E (VM b gb ds ρ)) :
    ∃ W : Nat → Nat → St → Hp → Prop, (∃ m, W 0 m σ H1) ∧ ∀ i m σ H, W i m σ H →
      (J.stop i H ∧ E.nx σ H) ∨ (J.go i H ∧ ∃ N : St → Hp → Prop, (∀ σ' H', N σ' H' → ∃ m', m' < m ∧ W (i + 1) m' σ' H') ∧ ∀ x H', J.yld i H x H' → g x σ H' fun σ2 H2 => tb { E with nx := N, ct := N, bk := E.nx } σ2 H2) := by
  refine ⟨fun i m σ H => m = ds.length - i ∧ i ≤ ds.length ∧ ∃ F ρ, yH F1 F ∧ Rl Fb Hb F H ρ σ ∧ SOk Fb Hb E (VM b gb (ds.drop i) ρ), ⟨ds.length, by simp, Nat.zero_le _, F1, ρ, yH.refl _, rl0, k⟩, ?_⟩
  rintro i m σ H ⟨rfl, hi, F, ρ, s1, rl, k⟩
  obtain ⟨stop, go⟩ := hit i F H s1 rl.gr.fh
  by_cases hlt : i < ds.length
  · have hd : ds.drop i = ds[i] :: ds.drop (i + 1) := List.drop_eq_getElem_cons hlt
    rw [hd] at k
    unfold VM at k
    obtain ⟨g1, g2⟩ := go ds[i] (by simp [hlt])
    refine .inr ⟨g1, fun σ H => ∃ F ρ, yH F1 F ∧ Rl Fb Hb F H ρ σ ∧ SOk Fb Hb E (VM b gb (ds.drop (i + 1)) ρ), fun σ' H' w => ⟨ds.length - (i + 1), by omega, rfl, hlt, w⟩, fun x H' hy => ?_⟩
    obtain ⟨F3, g3, a3⟩ := g2 x H' hy
    cases hb : b ds[i] ρ with
    | none => rw [hb] at k; exact k.elim
    | some ρ1 =>
      rw [hb] at k
      dsimp only at k
      refine rg Fb Hb F3 H' ρ ρ1 σ _ x _ (rl.grow g3) a3 hb fun σ2 rl2 => ?_
      have s3 := s1.trans g3.ff
      refine rb F1 (hb2 F1 Hb) F3 H' ρ1 σ2 _ (rl2.dn rl0.gr.ff s3) ?_
      cases hg : gb ρ1 with
      | nx ρ' => rw [hg] at k; exact fun F4 H4 σ4 r4 => ⟨F4, ρ', r4.gr.ff, r4.up rl0.gr, k⟩
      | ct ρ' => rw [hg] at k; exact fun F4 H4 σ4 r4 => ⟨F4, ρ', r4.gr.ff, r4.up rl0.gr, k⟩
      | bk ρ' => rw [hg] at k; exact fun F4 H4 σ4 r4 => k F4 H4 σ4 (r4.up rl0.gr)
      | rt d => rw [hg] at k; exact fun F4 H4 v g4 a4 => k F4 H4 v (rl0.gr.up g4) a4
      | no => rw [hg] at k; exact k.elim
  · have e : i = ds.length := by omega
    subst e
    rw [List.drop_length] at k
    exact .inl ⟨stop rfl, k F H σ rl⟩
theorem Zv {iter : Expr} {body : List Stmt} {f : Ev → Option (List D)} {b : D → SE → Option SE} {g : SE → Ctl} (hp : PassesOwn (model X.prog X.w) X.A X.env X.xe) (hc : X.calm = true) (hi : ID X tg iter f) (hg : BD X tg b) (hb : SDs X body g)
    (hs : ∀ x, foldedSetIterable iter X.env x = pure x := by intro _; rfl) : SD X (.For tg iter body [] pos) (wF f b g) := by
  obtain ⟨wi, pi, ri⟩ := hi
  obtain ⟨tg', pg, rg⟩ := hg
  obtain ⟨tb, pb, rb⟩ := hb
  refine ⟨_, zb1 hp hc pi pg pb hs, fun Fb Hb F H ρ σ E rl k => ?_⟩
  unfold wF at k
  cases h : f (visF ρ) with
  | none => rw [h] at k; exact k.elim
  | some ds =>
    rw [h] at k
    exact ri σ _ _ H ds _ rl.gr.fh rl.visF h fun F1 H1 J g1 ok => zb9 ok rg rb (rl.grow g1) k
end
noncomputable def lcD (b : D → Option (List (Option D))) (t : Ev → Option Bool) (f : Ev → Option D) (ρ : Ev) : List D → Option (List D)
  | [] => some []
  | d :: ds => (b d).bind fun own => (t (own ++ ρ)).bind fun c => if c = true then (f (own ++ ρ)).bind fun y => (lcD b t f ρ ds).map (y :: ·) else lcD b t f ρ ds
noncomputable def fLC (i : Ev → Option (List D)) (b : D → Option (List (Option D))) (t : Ev → Option Bool) (f : Ev → Option D) : Ev → Option (List D) := fun ρ => (i ρ).bind fun ds => if lim ds.length = true then lcD b t f ρ ds else none
noncomputable def b1 : D → Option (List (Option D)) := fun d => some [some d]
noncomputable def b2 : D → Option (List (Option D))
  | .tup [x, y] => some [some x, some y]
  | _ => none
noncomputable def RB (n : Nat) (t : TG) (b : D → Option (List (Option D))) : Prop := ∀ (σ : St) (ρ : Ev) (F H : Hp) (d : D) (v : V) (own : List (Option D)) (Q : St → Hp → Prop), yH F H → VAt F ρ σ → At F d v → b d = some own → (∀ σ', VAt F (own ++ ρ) σ' → Q σ' H) → t v (List.replicate n none ++ σ) H Q
noncomputable def zP : Ev → Option Bool := fun _ => some true
theorem zbX : RT tYes zP := fun _ _ _ _ _ _ s _ e q => by cases e; exact q _ _ (.refl s)
theorem zd2 {wi : TI} {n : Nat} {g : TG} {tt : TT} {te : TE} {fi : Ev → Option (List D)} {b : D → Option (List (Option D))} {ft : Ev → Option Bool} {fe : Ev → Option D} (ri : RI wi fi) (rg : RB n g b) (rt : RT tt ft) (re : RE te fe) :
    RF (tLC wi n g tt te) (fLC fi b ft fe) := by
  intro σ ρ F H out Q s va e q
  obtain ⟨ds, e1, e2⟩ := Option.bind_eq_some_iff.mp e
  split at e2 <;> try cases e2
  rename_i hlim
  have hlim : ds.length ≤ sizeLine := of_decide_eq_true hlim
  refine ri σ ρ F H ds _ s va e1 fun F1 H1 J g1 ok => ?_
  intro P hP
  have hF1 : F1 P = none := g1.fh.free hP
  have hH0 : H P = none := by
    cases e : H P with
    | none => rfl
    | some o =>
      cases e2 : F P with
      | none => rw [(g1.kp P o e2 e).2] at hP; cases hP
      | some u => rw [g1.fh _ _ (g1.ff _ _ e2)] at hP; cases hP
  refine ⟨fun i m ys H2 => m = ds.length - i ∧ i ≤ ds.length ∧ ∃ F2 done, Gr F1 H1 F2 H2 ∧ Gr F1 (upd H1 P (.lst [])) F2 (upd H2 P (.lst [])) ∧ F2 P = none ∧ H2 P = some (.lst ys) ∧ AtL F2 done ys ∧ done.length ≤ i ∧ ∃ more, lcD b ft fe ρ (ds.drop i) = some more ∧ done ++ more = out, ⟨ds.length, by simp, Nat.zero_le _, F1, [], Gr.hide g1.fh hP _, ?_, hF1, zq, .nil, Nat.zero_le _, out, e2, rfl⟩, ?_⟩
  · rw [V9]
    exact .refl fun b u z => by rw [zo (zl z hF1)]; exact g1.fh b u z
  rintro i m ys H2 ⟨rfl, hi, F2, done, g2, g2', hF2, hH2, al, hdl, more, hm, hout⟩
  obtain ⟨stop, go⟩ := ok i F2 H2 g2.ff g2.fh
  by_cases hlt : i < ds.length
  · have hd : ds.drop i = ds[i] :: ds.drop (i + 1) := List.drop_eq_getElem_cons hlt
    rw [hd] at hm
    unfold lcD at hm
    obtain ⟨own, hb, hm⟩ := Option.bind_eq_some_iff.mp hm
    obtain ⟨cb, hc, hm⟩ := Option.bind_eq_some_iff.mp hm
    obtain ⟨k1, k2⟩ := go ds[i] (by simp [hlt])
    refine .inr ⟨k1, by rw [al.length]; omega, fun x H3 hy => ?_⟩
    obtain ⟨F3, g3, a3⟩ := k2 x H3 hy
    refine rg σ ρ F3 H3 ds[i] x own _ g3.fh (va.mono (g1.ff.trans (g2.ff.trans g3.ff))) a3 hb fun σ4 va4 => ?_
    refine rt σ4 _ F3 H3 cb _ g3.fh va4 hc fun F5 H5 g5 => ?_
    have g35 := g3.trans g5
    obtain ⟨n5, h5⟩ := g35.kl (fun _ e => by cases e) hF2 hH2
    have keep2 : ∀ {F6 H6 : Hp} {o : HO}, Gr F2 H2 F6 H6 → F6 P = none → Gr F1 (upd H1 P (.lst [])) F6 (upd (upd H6 P o) P (.lst [])) := fun {F6 H6 o} g6 n6 => by
      rw [V9]
      refine ⟨g2.ff.trans g6.ff, fun b u z => ?_, fun b u z1 z2 => ?_⟩
      · rw [zo (zl z n6)]; exact g6.fh b u z
      · by_cases hbP : b = P
        · subst hbP
          rw [zq] at z2 ⊢
          exact ⟨.inl n6, z2⟩
        · rw [zo hbP] at z2 ⊢
          exact (g2.trans g6).kp b u z1 z2
    have keep1 : ∀ {F6 H6 : Hp} {o : HO}, Gr F2 H2 F6 H6 → F6 P = none → Gr F1 H1 F6 (upd H6 P o) := fun {F6 H6 o} g6 n6 => by
      refine ⟨g2.ff.trans g6.ff, fun b u z => ?_, fun b u z1 z2 => ?_⟩
      · rw [zo (zl z n6)]; exact g6.fh b u z
      · rw [zo (zl z2 hP)]
        exact (g2.trans g6).kp b u z1 z2
    cases cb with
    | false =>
      rw [if_neg Bool.false_ne_true] at hm ⊢
      have ups : H5 = upd H5 P (.lst ys) := by
        funext b
        by_cases hbP : b = P
        · subst hbP; rw [zq]; exact h5
        · rw [zo hbP]
      refine ⟨ds.length - (i + 1), by omega, rfl, hlt, F5, done, ?_, ?_, n5, h5, al.mono g35.ff, by omega, more, hm, hout⟩
      · rw [ups]; exact keep1 g35 n5
      · have := keep2 (o := .lst ys) g35 n5
        rw [← ups] at this
        exact this
    | true =>
      rw [if_pos rfl] at hm ⊢
      obtain ⟨y, hy, hm⟩ := Option.bind_eq_some_iff.mp hm
      obtain ⟨rest, hm', rfl⟩ := Option.map_eq_some_iff.mp hm
      refine re σ4 _ F5 H5 y _ g5.fh (va4.mono g5.ff) hy fun F6 H6 v g6 a6 => ?_
      have g36 := g35.trans g6
      obtain ⟨n6, h6⟩ := g36.kl (fun _ e => by cases e) hF2 hH2
      refine ⟨h6, ds.length - (i + 1), by omega, rfl, hlt, F6, done ++ [y], keep1 g36 n6, keep2 g36 n6, n6, zq, (al.mono g36.ff).snoc a6, by rw [List.length_append]; simp; omega, rest, hm', by rw [← hout, List.append_assoc]; rfl⟩
  · have e : i = ds.length := by omega
    subst e
    rw [List.drop_length] at hm
    cases hm
    rw [List.append_nil] at hout
    subst hout
    exact .inl ⟨stop rfl, q F2 H2 P ys (g1.trans g2) hH0 hF2 hH2 al⟩
theorem rb1 : RB 1 (XV 0) b1 := by
  intro σ ρ F H d v own Q s va av e q
  cases e
  refine q _ fun i d' h => ?_
  cases i with
  | zero => cases h; exact ⟨v, rfl, av⟩
  | succ i => exact va i d' h
noncomputable def tCan (f : Ev → Option D) : TE := fun σ H Q => ∃ ρ F d, yH F H ∧ VAt F ρ σ ∧ f ρ = some d ∧ ∀ F' H' v, Gr F H F' H' → At F' d v → Q v H'
theorem ED.can {X : Cx} {e : Expr} {f : Ev → Option D} (h : ED X e f) : PE X e (tCan f) := by
  obtain ⟨t, p, r⟩ := h
  rintro pins s σ H Q I ⟨ρ, F, d, h1, h2, h3, h4⟩
  exact p pins s σ H Q I (r σ ρ F H d Q h1 h2 h3 h4)
theorem zb5 {f : Ev → Option D} : RE (tCan f) f := fun _ ρ F _ d _ h1 h2 h3 h4 => ⟨ρ, F, d, h1, h2, h3, h4⟩
theorem Xi {X : Cx} {elt tg iter : Expr} {L M : List Str} {scope : Scope} {cl : List (Str × Addr)} {pos : Pos} {fi : Ev → Option (List D)} {b : D → Option (List (Option D))} {fe : Ev → Option D} {g : TG}
    (hc : X.calm = true) (S : xD X L M scope cl) (hi : ID X tg iter fi)
    (hgS : ∀ (σ : St) (v : V) (H : Hp) (Q : St → Hp → Prop), g v (List.replicate L.length none ++ σ) H Q → g v (List.replicate L.length none ++ σ) H (fun σ2 H2 => YH (List.replicate L.length none ++ σ) σ2 ∧ Q σ2 H2))
    (hrb : RB L.length g b)
    (hg : ∀ s₀ H₀ ex pn, PG (WB X L M scope cl s₀ H₀ ex pn) tg g) (he : ∀ s₀ H₀ ex pn, ED (WB X L M scope cl s₀ H₀ ex pn) elt fe)
    (hs : ∀ x, foldedSetIterable iter X.env x = pure x := by intro _; rfl) : FL X (.ListComp elt [⟨tg, iter, [], 0⟩] scope pos) (fLC fi b zP fe) := by
  obtain ⟨wi, pi, ri⟩ := hi
  exact ⟨_, zdg hc S pi hgS hg (fun _ _ _ _ => zan) (fun _ _ _ _ => (he _ _ _ _).can) hs, zd2 ri hrb zbX zb5⟩
theorem zdt {t : TE} {f : Ev → Option (List D)} (r : RF t f) : RE t (yz f) := by
  intro σ ρ F H d Q s va e q
  obtain ⟨ds, e1, rfl⟩ := Option.map_eq_some_iff.mp e
  refine r σ ρ F H ds Q s va e1 fun F' H' p xs g h0 hF hH hx => ?_
  have g2 := g.show h0 hF hH
  exact q _ _ _ g2 (At.lst zq (hx.mono (fun b u e => by rw [zo (zl e hF)]; exact e)))
noncomputable def FLS (X : Cx) (i : Nat) (st : Stmt) (f : Ev → Option (List D)) : Prop := ∃ t, PS X st (ze1 t (XV i)) ∧ RF t f
theorem zaf {m : Bool} {i : Nat} {st : Stmt} {f : Ev → Option (List D)} (he : FLS X i st f) : SD X st (yP m i (yz f)) := by
  obtain ⟨t, p, r⟩ := he
  refine ⟨_, p, fun Fb Hb F H ρ σ E rl k => ?_⟩
  unfold yP at k
  cases h : vEv m (yz f) ρ with
  | none => rw [h] at k; exact k.elim
  | some d =>
    rw [h] at k
    exact (zdt r).at rl h fun F' H' v g av => k F' H' _ ((rl.grow g).set av)
theorem zas {i : Nat} {x : Str} {px spos : Pos} {X : Cx} {elt tg iter : Expr} {L M : List Str} {scope : Scope} {cl : List (Str × Addr)} {pos : Pos} {fi : Ev → Option (List D)} {b : D → Option (List (Option D))} {fe : Ev → Option D} {g : TG}
    (hN : X.N.Nodup) (hi' : X.N[i]? = some x) (hx : Loc X.env.scope x) (hc : X.calm = true) (S : xD X L M scope cl) (hi : ID X tg iter fi)
    (hgS : ∀ (σ : St) (v : V) (H : Hp) (Q : St → Hp → Prop), g v (List.replicate L.length none ++ σ) H Q → g v (List.replicate L.length none ++ σ) H (fun σ2 H2 => YH (List.replicate L.length none ++ σ) σ2 ∧ Q σ2 H2))
    (hrb : RB L.length g b)
    (hg : ∀ s₀ H₀ ex pn, PG (WB X L M scope cl s₀ H₀ ex pn) tg g) (he : ∀ s₀ H₀ ex pn, ED (WB X L M scope cl s₀ H₀ ex pn) elt fe)
    (hs : ∀ x, foldedSetIterable iter X.env x = pure x := by intro _; rfl)
    (hsw : swapsWith (.ListComp elt [⟨tg, iter, [], 0⟩] scope pos) (some (.Name x px)) spos.line X.env = pure true := by rfl)
    (hf : X.fn x = true ∨ X.env.scope.names.lookup x = some .local := by first | exact .inl rfl | exact .inr rfl | assumption) : FLS X i (.Assign [.Name x px] (.ListComp elt [⟨tg, iter, [], 0⟩] scope pos) spos) (fLC fi b zP fe) := by
  obtain ⟨wi, pi, ri⟩ := hi
  exact ⟨_, zee hN hi' hx hc S pi hgS hg (fun _ _ _ _ => zan) (fun _ _ _ _ => (he _ _ _ _).can) hs hsw hf, zd2 ri hrb zbX zb5⟩
noncomputable def fnD (n : Nat) (g : SE → Ctl) (ds : List D) : Option D := match g (ds.map .v ++ List.replicate (n - ds.length) .no) with
  | .rt d => some d
  | .nx _ => some .non
  | _ => none
noncomputable def spD (m : Nat) (p : List D → Option D) : Sp := fun vs H Q _ => ∃ ds d F, ds.length = m ∧ yH F H ∧ AtL F ds vs ∧ p ds = some d ∧ ∀ F' H' v, Gr F H F' H' → At F' d v → Q v H'
theorem zbR {F H : Hp} {N : List Str} {ds : List D} {vs : List V} (s : yH F H) (a : AtL F ds vs) : Rl F H F H (ds.map .v ++ List.replicate (N.length - ds.length) .no) (L2.start N vs) := by
  have hl := a.length
  have noO : ∀ (i : Nat) (t : Sl), (ds.map Sl.v ++ List.replicate (N.length - ds.length) Sl.no)[i]? = some t → t.isO = true → False := fun i t h ho => by
    by_cases hi : i < ds.length
    · rw [List.getElem?_append_left (by simpa using hi), List.getElem?_map] at h
      cases e : ds[i]? with
      | none => rw [e] at h; cases h
      | some d => rw [e] at h; cases h; cases ho
    · rw [List.getElem?_append_right (by simpa using hi), List.getElem?_replicate] at h
      split at h <;> cases h
      cases ho
  refine ⟨.refl s, fun i d h => ?_, fun i t h ho => (noO i t h ho).elim, fun i j p t u h _ ho => (noO i t h ho).elim, ?_⟩
  · by_cases hi : i < ds.length
    · rw [List.getElem?_append_left (by simpa using hi), List.getElem?_map] at h
      cases e : ds[i]? with
      | none => rw [e] at h; cases h
      | some d' =>
        rw [e] at h
        cases h
        obtain ⟨x, hx, ax⟩ := a.get e
        refine ⟨x, ?_, ax⟩
        unfold L2.start
        rw [List.getElem?_append_left (by simpa [hl] using hi), List.getElem?_map, hx]
        rfl
    · rw [List.getElem?_append_right (by simpa using hi), List.getElem?_replicate] at h
      split at h <;> cases h
  · unfold L2.start
    simp [hl]
theorem xy {P : Program} {w : World} {K : PySem.W.Frag} {mg : Str → Option Value} {base : Heap} {x qual : Str} {st : Stmt} {f : Addr} {fd : FuncData} {N ps : List Str} {k : Nat} {g : SE → Ctl} (Fu : Fun K x qual st f fd) (S : zw N ps (zi st))
    (hb : ∀ (cdv : Value) (A : Around) (outer : List Env) (s : Shared) (H : Hp) (E : XK), YQ k (A.deeper (PyProof.Rows.envOfC qual (zi st) s.heap.objs.size f cdv)) → SDs (zb0 CX0 P w K mg base N qual (zi st) f cdv A outer s H E).nox (xT st) g) :
    xx P w K mg base CX0 (k + 1) f fd ps (spD ps.length (fnD N.length g)) := by
  refine Fu.ok S (fun vs H Q E h => ?_) fun cdv A outer s H vs Q E hr h => ?_
  · obtain ⟨ds, d, F, hl, _, a, _⟩ := h
    rw [a.length]; exact hl
  · obtain ⟨ds, d, F, hl, sm, a, e, q⟩ := h
    obtain ⟨t, p, r⟩ := hb cdv A outer s H E hr
    refine ⟨t, p, r F H F H _ _ _ (zbR sm a) ?_⟩
    unfold fnD at e
    cases hg : g (ds.map .v ++ List.replicate (N.length - ds.length) .no) with
    | rt d' => rw [hg] at e; cases e; exact fun F' H' v g av => q F' H' v g av
    | nx ρ => rw [hg] at e; cases e; exact fun F' H' σ rl => q F' H' _ rl.gr .non
    | bk ρ => rw [hg] at e; cases e
    | ct ρ => rw [hg] at e; cases e
    | no => rw [hg] at e; cases e
theorem wb {P : Program} {w : World} {K : PySem.W.Frag} {mg : Str → Option Value} {base : Heap} {f : Addr} {fd : FuncData} {ps : List Str} {k m : Nat} {p q : List D → Option D} (F : xx P w K mg base CX0 k f fd ps (spD m p)) (h : ∀ ds d, ds.length = m → q ds = some d → p ds = some d) : xx P w K mg base CX0 k f fd ps (spD m q) :=
  F.imp fun vs H Q E ⟨ds, d, F', h1, h2, h3, h4, h5⟩ => ⟨ds, d, F', h1, h2, h3, h ds d h1 h4, h5⟩
noncomputable def zm (m : Nat) (p : List D → Option D) (f : Ev → Option (List D)) : Ev → Option D := fun ρ => (f ρ).bind fun ds => if ds.length = m then p ds else none
theorem zah {X : Cx} {x : Str} {k m : Nat} {f : Addr} {fd : FuncData} {ps : List Str} {p : List D → Option D} {e : Expr} {es : List Expr} {pp pos : Pos} {fa : Ev → Option (List D)} (F : xx X.prog X.w X.K X.mg X.base CX0 k f fd ps (spD m p)) (hr : YQ k X.A) (hg : Gl X x) (hm : X.mg x = some (.ref f)) (hk : PySem.W.keepIn X.K (.ref f) = true) (hb : Wr X.K fd ps [])
    (ha : AD X (e :: es) fa) (hdb : (x == ("__debug__" : Str)) = false := by decide) (he : starEach (e :: es) X.env = (false, eval e X.env) :: starEach es X.env := by rfl) (hpl : (backTo pos (starEach es X.env)).any (·.1) = false := by rfl) :
    ED X (.Call (.Name x pp) (e :: es) [] pos) (zm m p fa) := by
  obtain ⟨t, pa, r⟩ := ha
  refine ⟨_, zcj F hr hg hm hk hb .nil zeU pa hdb he hpl, fun σ ρ F0 H d Q s va e q => ?_⟩
  obtain ⟨ds, e1, e2⟩ := Option.bind_eq_some_iff.mp e
  split at e2 <;> try cases e2
  rename_i hl
  refine r σ ρ F0 H ds _ s va e1 fun F1 H1 vs g1 a1 => ?_
  refine ⟨ds, d, F1, hl, g1.fh, by rw [List.append_nil]; exact a1, e2, fun F' H' v g av => q F' H' v (g1.trans g) av⟩
end Dl
namespace Dl
open PySem L2
variable [KK]
section
variable {X : Cx} {a b c e : Expr} {pos : Pos}
theorem Z8 : bootBuiltins "isinstance" = some (.builtin "isinstance") := by decide +kernel
theorem v5 : bootBuiltins "len" = some (.builtin "len") := by decide +kernel
theorem zdv : bootBuiltins "min" = some (.builtin "min") := by decide +kernel
theorem zeg : bootBuiltins "sum" = some (.builtin "sum") := by decide +kernel
theorem zb6 : bootBuiltins "all" = some (.builtin "all") := by decide +kernel
theorem WP : bootBuiltins "int" = some (.type "int") := by decide +kernel
theorem Xa : bootBuiltins "bool" = some (.type "bool") := by decide +kernel
theorem xz : bootBuiltins "tuple" = some (.type "tuple") := by decide +kernel
theorem zaQ : bootBuiltins "list" = some (.type "list") := by decide +kernel
theorem Yx : bootBuiltins "str" = some (.type "str") := by decide +kernel
theorem wI : bootBuiltins "enumerate" = some (.type "enumerate") := by decide +kernel
theorem zdT : bootBuiltins "zip" = some (.type "zip") := by decide +kernel
noncomputable def vm (C : Int → Int → Bool) (g : Int → Int → Int) : D → D → Option D
  | .int i, .int j => if C i j = true then some (.int (g i j)) else none
  | _, _ => none
noncomputable def yD (g : Int → Int → Int) : D → D → Option D
  | .int i, .int j => some (.int (g i j))
  | _, _ => none
noncomputable def vA (g : Int → Int → Bool) : D → D → Option D
  | .int i, .int j => some (.bl (g i j))
  | _, _ => none
theorem YN {C : Int → Int → Prop} {Cb : Int → Int → Bool} {g : Int → Int → Int} (h : ∀ i j, Cb i j = true → C i j) : OpD (rI C fun i j => .int (g i j)) (vm Cb g) := by
  intro F H x y d e z Q s ax ay ez q
  cases d <;> try cases ez
  cases e <;> try cases ez
  unfold vm at ez
  dsimp only at ez
  split at ez <;> cases ez
  rename_i hc
  exact ⟨_, _, ax.int_inv, ay.int_inv, h _ _ hc, q F H _ (.refl s) .int⟩
theorem XD {g : Int → Int → Int} : OpD (rI0 fun i j => .int (g i j)) (yD g) := by
  intro F H x y d e z Q s ax ay ez q
  cases d <;> try cases ez
  cases e <;> try cases ez
  exact ⟨_, _, ax.int_inv, ay.int_inv, q F H _ (.refl s) .int⟩
theorem yK {g : Int → Int → Bool} : OpD (rI0 fun i j => .bl (g i j)) (vA g) := by
  intro F H x y d e z Q s ax ay ez q
  cases d <;> try cases ez
  cases e <;> try cases ez
  exact ⟨_, _, ax.int_inv, ay.int_inv, q F H _ (.refl s) .bl⟩
theorem XL {r r' : R2} {g g' : D → D → Option D} (h : OpD r g) (h' : OpD r' g') : OpD (fun x y H Q => r x y H Q ∨ r' x y H Q) (fun d e => (g d e).or (g' d e)) := by
  intro F H x y d e z Q s ax ay ez q
  dsimp only at ez
  cases hg : g d e with
  | some z' => rw [hg] at ez; cases ez; exact .inl (h F H x y d e z Q s ax ay hg q)
  | none => rw [hg] at ez; exact .inr (h' F H x y d e z Q s ax ay ez q)
noncomputable def zed : D → D → Option D
  | .tup a, .tup b => if lim (a.length + b.length) = true then some (.tup (a ++ b)) else none
  | _, _ => none
noncomputable def zco : D → D → Option (List D)
  | .lst a, .lst b => if lim (a.length + b.length) = true then some (a ++ b) else none
  | _, _ => none
noncomputable def zaJ (d e : D) : Option D := (zco d e).map .lst
noncomputable def zes : D → D → Option D
  | .str a, .str b => if lim (a.length + b.length) = true then some (.str (a ++ b)) else none
  | _, _ => none
theorem za3 {K : PySem.W.Frag} : OpD (zb7 K) zed := by
  intro F H x y d e z Q s ax ay ez q
  cases d <;> try cases ez
  cases e <;> try cases ez
  unfold zed at ez
  dsimp only at ez
  split at ez <;> cases ez
  rename_i hl
  obtain ⟨p, xs, rfl, hx, al⟩ := ax.tup_inv
  obtain ⟨p2, ys, rfl, hy, bl⟩ := ay.tup_inv
  refine ⟨p, p2, xs, ys, rfl, rfl, SqT.of (s _ _ hx), SqT.of (s _ _ hy), by rw [al.length, bl.length]; exact of_decide_eq_true hl, fun e1 => ?_, fun _ e2 => ?_, fun _ _ r hr => ?_⟩
  · subst e1
    have : (_ : List D) = [] := List.length_eq_zero_iff.mp al.length.symm
    subst this
    exact q F H _ (.refl s) (.tup hy bl)
  · subst e2
    have : (_ : List D) = [] := List.length_eq_zero_iff.mp bl.length.symm
    subst this
    rw [List.append_nil] at q
    exact q F H _ (.refl s) (.tup hx al)
  · have g := Gr.alloc s hr (.tup (xs ++ ys))
    exact q _ _ _ g (.tup zq ((al.append bl).mono g.ff))
theorem zbF : OpD rCat zaJ := by
  intro F H x y d e z Q s ax ay ez q
  cases d <;> try cases ez
  cases e <;> try cases ez
  unfold zaJ zco at ez
  dsimp only at ez
  split at ez <;> cases ez
  rename_i hl
  obtain ⟨p, xs, rfl, hx, al⟩ := ax.lst_inv
  obtain ⟨p2, ys, rfl, hy, bl⟩ := ay.lst_inv
  refine ⟨p, p2, xs, ys, rfl, rfl, s _ _ hx, s _ _ hy, by rw [al.length, bl.length]; exact of_decide_eq_true hl, fun r hr => ?_⟩
  have g := Gr.alloc s hr (.lst (xs ++ ys))
  exact q _ _ _ g (.lst zq ((al.append bl).mono g.ff))
theorem zbS : OpD (fun x y H Q => ∃ i j, x = .str i ∧ y = .str j ∧ i.length + j.length ≤ sizeLine ∧ Q (.str (i ++ j)) H) zes := by
  intro F H x y d e z Q s ax ay ez q
  cases d <;> try cases ez
  cases e <;> try cases ez
  unfold zes at ez
  dsimp only at ez
  split at ez <;> cases ez
  rename_i hl
  exact ⟨_, _, ax.str_inv, ay.str_inv, of_decide_eq_true hl, q F H _ (.refl s) .str⟩
noncomputable def xa : D → D → Option D
  | .int i, .int j => some (.int (i + j))
  | .tup a, .tup b => if lim (a.length + b.length) = true then some (.tup (a ++ b)) else none
  | .lst a, .lst b => if lim (a.length + b.length) = true then some (.lst (a ++ b)) else none
  | .str a, .str b => if lim (a.length + b.length) = true then some (.str (a ++ b)) else none
  | _, _ => none
theorem Wu {r : R2} {g g' : D → D → Option D} (h : OpD r g) (k : ∀ d e z, g' d e = some z → g d e = some z) : OpD r g' := fun F H x y d e z Q s ax ay ez q => h F H x y d e z Q s ax ay (k d e z ez) q
theorem yh {f h : Ev → Option D} (ha : ED X a f) (hb : ED X b h) : ED X (.BinOp a .Add b pos) (zj xa f h) :=
  Zu (((zdK.or zba).or zdY).or Vk) (Wu (XL (XL (XL (XD (g := fun i j => i + j)) za3) zbF) zbS) fun d e z h => by
    cases d <;> try cases h
    all_goals cases e <;> try cases h
    · rfl
    · unfold xa at h; dsimp only at h; split at h <;> cases h; rename_i hl; simp [yD, zed, hl, zaJ, zco, zes]
    · unfold xa at h; dsimp only at h; split at h <;> cases h; rename_i hl; simp [yD, zed, hl, zaJ, zco, zes]
    · unfold xa at h; dsimp only at h; split at h <;> cases h; rename_i hl; simp [yD, zed, hl, zaJ, zco, zes]) ha hb
theorem zeH {F H F1 H1 : Hp} {p : Addr} (g1 : Gr F H F1 H1) (hp : H1 p = none) : H p = none := by
  cases e : H p with
  | none => rfl
  | some o =>
    cases e2 : F p with
    | none => rw [(g1.kp p o e2 e).2] at hp; cases hp
    | some u => rw [g1.fh _ _ (g1.ff _ _ e2)] at hp; cases hp
noncomputable def v9 (i j : Int) : Bool := decide ((-(2 ^ 64) < i ∧ i < 2 ^ 64) ∨ (-(2 ^ 64) < j ∧ j < 2 ^ 64))
noncomputable def ze2 : D → D → Option (List D)
  | .lst a, .int k => if -(2 ^ 63) ≤ k ∧ k < 2 ^ 63 ∧ lim (a.length * k.toNat) = true then some (List.replicate k.toNat a).flatten else none
  | _, _ => none
noncomputable def zbz (d e : D) : Option D := (ze2 d e).map .lst
noncomputable def xQ : D → D → Option D
  | .int i, .int j => if v9 i j = true then some (.int (i * j)) else none
  | .lst a, .int k => if -(2 ^ 63) ≤ k ∧ k < 2 ^ 63 ∧ lim (a.length * k.toNat) = true then some (.lst (List.replicate k.toNat a).flatten) else none
  | _, _ => none
theorem zbf : OpD rRep zbz := by
  intro F H x y d e z Q s ax ay ez q
  cases d <;> try cases ez
  cases e <;> try cases ez
  unfold zbz ze2 at ez
  dsimp only at ez
  split at ez <;> cases ez
  rename_i hl
  obtain ⟨p, xs, rfl, hx, al⟩ := ax.lst_inv
  refine ⟨p, _, xs, rfl, ay.int_inv, s _ _ hx, hl.1, hl.2.1, by rw [al.length]; exact of_decide_eq_true hl.2.2, fun r hr => ?_⟩
  rename_i ds k
  have g := Gr.alloc s hr (.lst (List.replicate k.toNat xs).flatten)
  exact q _ _ _ g (.lst zq ((al.rep _).mono g.ff))
theorem ZA {f h : Ev → Option D} (ha : ED X a f) (hb : ED X b h) : ED X (.BinOp a .Mult b pos) (zj xQ f h) :=
  Zu (zep.or zd8) (Wu (XL (YN (Cb := v9) (g := fun i j => i * j) fun i j h => by have h' := of_decide_eq_true (show decide ((-(2 ^ 64) < i ∧ i < 2 ^ 64) ∨ (-(2 ^ 64) < j ∧ j < 2 ^ 64)) = true from h); exact h') zbf) fun d e z h => by
    cases d <;> try cases h
    all_goals cases e <;> try cases h
    · unfold xQ at h; dsimp only at h; split at h <;> cases h; rename_i hl; simp [vm, hl]
    · unfold xQ at h; dsimp only at h; split at h <;> cases h; rename_i hl; show (zbz _ _) = _; unfold zbz ze2; dsimp only; rw [if_pos hl]; rfl) ha hb
noncomputable def vH := yD fun i j => i - j
noncomputable def zU := vm (fun _ j => decide (0 < j ∧ j < 1606938044258990275541962092341162602522202993782792835301376)) fun i j => i / j
noncomputable def yF := vm (fun _ j => decide (0 < j)) fun i j => i % j
noncomputable def zde := vm (fun _ j => decide (0 ≤ j)) fun i j => i / 2 ^ j.toNat
theorem V0 {f h : Ev → Option D} (ha : ED X a f) (hb : ED X b h) : ED X (.BinOp a .Sub b pos) (zj vH f h) := Zu zd1 XD ha hb
theorem zby : OpR X (binaryOp .FloorDiv) (rI (fun _ j => 0 < j ∧ j < 1606938044258990275541962092341162602522202993782792835301376) fun i j => .int (i / j)) := opI fun i j _ _ _ _ _ hc q => by
  have h1 : (0 : Int) < j := hc.1
  have h2 : j < 1606938044258990275541962092341162602522202993782792835301376 := hc.2
  refine PyProof.Rows.floordiv_int (by omega) (by rw [Int.fdiv_eq_ediv_of_nonneg i (by omega)]; exact q) (.inl (PyProof.noPylong_of_log2 ?_))
  have h0 : j.natAbs ≠ 0 := by omega
  have h3 : j.natAbs < 1606938044258990275541962092341162602522202993782792835301376 := by omega
  have h4 : j.natAbs.log2 < 200 := (Nat.log2_lt h0).mpr h3
  omega
theorem wW {f h : Ev → Option D} (ha : ED X a f) (hb : ED X b h) : ED X (.BinOp a .FloorDiv b pos) (zj zU f h) := Zu zby (YN fun _ _ h => by have h' := of_decide_eq_true h; exact h') ha hb
theorem xH {f h : Ev → Option D} (ha : ED X a f) (hb : ED X b h) : ED X (.BinOp a .Mod b pos) (zj yF f h) := Zu zd9 (YN fun _ _ h => by have h' := of_decide_eq_true h; exact h') ha hb
theorem zdl {f h : Ev → Option D} (ha : ED X a f) (hb : ED X b h) : ED X (.BinOp a .RShift b pos) (zj zde f h) := Zu zek (YN fun _ _ h => by have h' := of_decide_eq_true h; exact h') ha hb
noncomputable def ltD := vA fun i j => decide (i < j)
noncomputable def leD := vA fun i j => decide (i ≤ j)
noncomputable def gtD := vA fun i j => decide (j < i)
noncomputable def geD := vA fun i j => decide (j ≤ i)
noncomputable def eqS : D → D → Option Bool
  | .non, .non => some true
  | .int i, .int j => some (decide (i = j))
  | .bl i, .bl j => some (decide (i = j))
  | .str i, .str j => some (decide (i = j))
  | .non, .int _ => some false | .int _, .non => some false | .non, .bl _ => some false | .bl _, .non => some false | .non, .str _ => some false | .str _, .non => some false
  | .int _, .str _ => some false | .str _, .int _ => some false | .bl _, .str _ => some false | .str _, .bl _ => some false
  | _, _ => none
noncomputable def eqD (d e : D) : Option D := (eqS d e).map .bl
noncomputable def neD (d e : D) : Option D := (eqS d e).map fun c => .bl (!c)
theorem zca : OpD rEq eqD := by
  intro F H x y d e z Q s ax ay ez q
  obtain ⟨c, e1, rfl⟩ := Option.map_eq_some_iff.mp ez
  cases d <;> cases e <;> try cases e1
  · cases ax.non_inv; cases ay.non_inv; exact ⟨rfl, q F H _ (.refl s) .bl⟩
  · cases ax.non_inv; cases ay.bl_inv; exact ⟨rfl, q F H _ (.refl s) .bl⟩
  · cases ax.non_inv; cases ay.int_inv; exact ⟨rfl, q F H _ (.refl s) .bl⟩
  · cases ax.non_inv; cases ay.str_inv; exact ⟨rfl, q F H _ (.refl s) .bl⟩
  · cases ax.bl_inv; cases ay.non_inv; exact ⟨rfl, q F H _ (.refl s) .bl⟩
  · cases ax.bl_inv; cases ay.bl_inv; refine ⟨rfl, ?_⟩; rw [show ∀ i j : Bool, decide (V.bl i = V.bl j) = decide (i = j) from fun i j => by simp]; exact q F H _ (.refl s) .bl
  · cases ax.bl_inv; cases ay.str_inv; exact ⟨rfl, q F H _ (.refl s) .bl⟩
  · cases ax.int_inv; cases ay.non_inv; exact ⟨rfl, q F H _ (.refl s) .bl⟩
  · cases ax.int_inv; cases ay.int_inv; refine ⟨rfl, ?_⟩; rw [show ∀ i j : Int, decide (V.int i = V.int j) = decide (i = j) from fun i j => by simp]; exact q F H _ (.refl s) .bl
  · cases ax.int_inv; cases ay.str_inv; exact ⟨rfl, q F H _ (.refl s) .bl⟩
  · cases ax.str_inv; cases ay.non_inv; exact ⟨rfl, q F H _ (.refl s) .bl⟩
  · cases ax.str_inv; cases ay.bl_inv; exact ⟨rfl, q F H _ (.refl s) .bl⟩
  · cases ax.str_inv; cases ay.int_inv; exact ⟨rfl, q F H _ (.refl s) .bl⟩
  · cases ax.str_inv; cases ay.str_inv; refine ⟨rfl, ?_⟩; rw [show ∀ i j : Str, decide (V.str i = V.str j) = decide (i = j) from fun i j => by simp]; exact q F H _ (.refl s) .bl
theorem vW : OpD rNe neD := by
  intro F H x y d e z Q s ax ay ez q
  obtain ⟨c, e1, rfl⟩ := Option.map_eq_some_iff.mp ez
  have := zca F H x y d e (.bl c) (fun v H' => ∃ b, v = .bl b ∧ Q (.bl (!b)) H') s ax ay (by unfold eqD; rw [e1]; rfl) fun F' H' v g av => ⟨c, av.bl_inv, q F' H' _ g .bl⟩
  obtain ⟨h1, b, h2, h3⟩ := this
  cases h2
  exact ⟨h1, h3⟩
noncomputable def vv : D → D → Option D
  | d, .non => some (.bl (match d with | .non => true | _ => false))
  | .bl a, .bl b => some (.bl (a == b))
  | _, _ => none
noncomputable def zC : D → D → Option D
  | d, .non => some (.bl (match d with | .non => false | _ => true))
  | .bl a, .bl b => some (.bl (!(a == b)))
  | _, _ => none
theorem zcV {F : Hp} {d : D} {x : V} (h : At F d x) : decide (x = V.non) = (match d with | .non => true | _ => false) := by
  cases d with
  | non => cases h.non_inv; rfl
  | bl b => cases h.bl_inv; rfl
  | int b => cases h.int_inv; rfl
  | str b => cases h.str_inv; rfl
  | tup ds => obtain ⟨a, xs, rfl, _⟩ := h.tup_inv; rfl
  | lst ds => obtain ⟨a, xs, rfl, _⟩ := h.lst_inv; rfl
  | scr ds => obtain ⟨a, rfl, _⟩ := h.scr_inv; rfl
  | dct z t ks vs => obtain ⟨a, xs, rfl, _⟩ := h.dct_inv; rfl
theorem Xd : OpD (fun x y H Q => (y = .non ∧ Q (.bl (decide (x = .non))) H) ∨ ∃ i j, x = .bl i ∧ y = .bl j ∧ Q (.bl (i == j)) H) vv := by
  intro F H x y d e z Q s ax ay ez q
  unfold vv at ez
  split at ez
  · cases ez
    refine .inl ⟨ay.non_inv, ?_⟩
    rw [zcV ax]
    have := q F H _ (.refl s) .bl
    cases d <;> exact this
  · cases ez
    exact .inr ⟨_, _, ax.bl_inv, ay.bl_inv, q F H _ (.refl s) .bl⟩
  · cases ez
theorem WL : OpR X (compareOp .Is) (fun x y H Q => (y = .non ∧ Q (.bl (decide (x = .non))) H) ∨ ∃ i j, x = .bl i ∧ y = .bl j ∧ Q (.bl (i == j)) H) := zdh.or zbq
noncomputable def zL (g g' : D → D → Option D) (f h k : Ev → Option D) : Ev → Option D := fun ρ => (f ρ).bind fun x => (h ρ).bind fun y => ((g x y).bind asB).bind fun c => if c = true then (k ρ).bind fun z => g' y z else some (.bl false)
theorem WE {r r' : R2} {g g' : D → D → Option D} {ta tb tc : TE} {f h k : Ev → Option D} (hg : OpD r g) (hg' : OpD r' g') (ra : RE ta f) (rb : RE tb h) (rc : RE tc k) : RE (XR r r' ta tb tc) (zL g g' f h k) := by
  intro σ ρ F H z Q s va e q
  obtain ⟨x, e1, e⟩ := Option.bind_eq_some_iff.mp e
  obtain ⟨y, e2, e⟩ := Option.bind_eq_some_iff.mp e
  obtain ⟨c, e3, e⟩ := Option.bind_eq_some_iff.mp e
  obtain ⟨cd, e3, e4⟩ := Option.bind_eq_some_iff.mp e3
  cases YM e4
  refine ra σ ρ F H x _ s va e1 fun F1 H1 v g1 a1 => ?_
  refine rb σ ρ F1 H1 y _ g1.fh (va.mono g1.ff) e2 fun F2 H2 u g2 a2 => ?_
  refine hg F2 H2 v u x y _ _ g2.fh (a1.mono g2.ff) a2 e3 fun F3 H3 w g3 a3 => ⟨c, a3.bl_inv, ?_⟩
  have g123 := (g1.trans g2).trans g3
  cases c with
  | true =>
    rw [if_pos rfl] at e ⊢
    obtain ⟨z', e5, e6⟩ := Option.bind_eq_some_iff.mp e
    refine rc σ ρ F3 H3 z' _ g3.fh (va.mono g123.ff) e5 fun F4 H4 w4 g4 a4 => ?_
    exact hg' F4 H4 u w4 y z' z Q g4.fh (a2.mono (g3.ff.trans g4.ff)) a4 e6 fun F5 H5 w5 g5 a5 => q F5 H5 w5 ((g123.trans g4).trans g5) a5
  | false =>
    rw [if_neg Bool.false_ne_true] at e ⊢
    cases e
    exact q F3 H3 _ g123 .bl
theorem zbb {op op' : CmpOp} {r r' : R2} {g g' : D → D → Option D} {f h k : Ev → Option D} (ho : OpR X (compareOp op) r) (ho' : OpR X (compareOp op') r') (hg : OpD r g) (hg' : OpD r' g') (ha : ED X a f) (hb : ED X b h) (hc : ED X c k)
    (pch : ∀ {ta tb tc : TE}, PE X a ta → PE X b tb → PE X c tc → PE X (.Compare a [op, op'] [b, c] pos) (XR r r' ta tb tc)) : ED X (.Compare a [op, op'] [b, c] pos) (zL g g' f h k) :=
  let ⟨_, pa, ra⟩ := ha
  let ⟨_, pb, rb⟩ := hb
  let ⟨_, pc, rc⟩ := hc
  ⟨_, pch pa pb pc, WE hg hg' ra rb rc⟩
theorem zaY {op op' : CmpOp} {r r' : R2} {g g' : D → D → Option D} {f h k : Ev → Option D} (ho : OpR X (compareOp op) r) (ho' : OpR X (compareOp op') r') (hg : OpD r g) (hg' : OpD r' g') (ha : ED X a f) (hb : ED X b h) (hc : ED X c k)
    (pch : ∀ {ta tb tc : TE}, PE X a ta → PE X b tb → PE X c tc → PT X (.Compare a [op, op'] [b, c] pos) (zbd (XR r r' ta tb tc))) : TD X (.Compare a [op, op'] [b, c] pos) (tOf (zL g g' f h k)) :=
  let ⟨_, pa, ra⟩ := ha
  let ⟨_, pb, rb⟩ := hb
  let ⟨_, pc, rc⟩ := hc
  ⟨_, pch pa pb pc, zc4 (WE hg hg' ra rb rc)⟩
noncomputable def WS : List D → Option (List Int)
  | [] => some []
  | .int b :: ds => (WS ds).map (b :: ·)
  | _ => none
omit [KK] in
theorem Zg : ∀ {ds : List D} {bs : List Int}, WS ds = some bs → ds = bs.map .int
  | [], bs, h => by cases h; rfl
  | d :: ds, bs, h => by
    cases d <;> try cases h
    obtain ⟨cs, h1, rfl⟩ := Option.map_eq_some_iff.mp h
    rw [Zg h1]
    rfl
noncomputable def leT : D → D → Option D
  | .tup a, .tup b => (WS a).bind fun ns => (WS b).map fun ms => .bl (HT.lexLe ns ms)
  | _, _ => none
theorem zcC {K : PySem.W.Frag} : OpD (rLeT K) leT := by
  intro F H x y d e z Q s ax ay ez q
  cases d <;> try cases ez
  cases e <;> try cases ez
  obtain ⟨ns, e1, e2⟩ := Option.bind_eq_some_iff.mp ez
  obtain ⟨ms, e3, rfl⟩ := Option.map_eq_some_iff.mp e2
  rw [Zg e1] at ax
  rw [Zg e3] at ay
  obtain ⟨p, xs, rfl, hx, al⟩ := ax.tup_inv
  obtain ⟨p2, ys, rfl, hy, bl⟩ := ay.tup_inv
  cases al.of_ints
  cases bl.of_ints
  exact ⟨p, p2, ns, ms, rfl, rfl, SqT.of (s _ _ hx), SqT.of (s _ _ hy), q F H _ (.refl s) .bl⟩
noncomputable def ixD : D → D → Option D
  | .lst ds, .int i => atI ds i
  | .tup ds, .int i => atI ds i
  | .scr ns, .int i => (atI ns i).map .int
  | _, _ => none
theorem AtL.atI {F : Hp} {ds : List D} {xs : List V} {i : Int} {d : D} (al : AtL F ds xs) (h : L2.atI ds i = some d) : ∃ x, L2.atI xs i = some x ∧ At F d x := by
  unfold L2.atI at h ⊢
  obtain ⟨j, e1, e2⟩ := Option.bind_eq_some_iff.mp h
  obtain ⟨x, hx, ax⟩ := al.get e2
  exact ⟨x, by rw [al.length, e1]; exact hx, ax⟩
theorem zea : OpD (rIx KK.K) ixD := by
  intro F H x y d e z Q s ax ay ez q
  cases e <;> try (cases d <;> cases ez)
  cases ay.int_inv
  cases d with
  | lst ds =>
    obtain ⟨p, xs, rfl, hx, al⟩ := ax.lst_inv
    obtain ⟨v, e1, av⟩ := al.atI ez
    exact .inl ⟨p, xs, _, v, rfl, rfl, SqL.of (s _ _ hx), e1, q F H _ (.refl s) av⟩
  | tup ds =>
    obtain ⟨p, xs, rfl, hx, al⟩ := ax.tup_inv
    obtain ⟨v, e1, av⟩ := al.atI ez
    exact .inr (.inl ⟨p, xs, _, v, rfl, rfl, SqT.of (s _ _ hx), e1, q F H _ (.refl s) av⟩)
  | scr ns =>
    obtain ⟨p, rfl, hx⟩ := ax.scr_inv
    obtain ⟨n, e1, rfl⟩ := Option.map_eq_some_iff.mp ez
    refine .inl ⟨p, ns.map V.int, _, .int n, rfl, rfl, s.seq hx, ?_, q F H _ (.refl s) .int⟩
    unfold L2.atI at e1 ⊢
    rw [List.length_map]
    obtain ⟨j, e2, e3⟩ := Option.bind_eq_some_iff.mp e1
    rw [e2]
    show (ns.map V.int)[j]? = _
    rw [List.getElem?_map, e3]
    rfl
  | _ => cases ez
theorem xL {f h : Ev → Option D} (ha : ED X a f) (hb : ED X b h) (hs : Wa b) (hK : X.K = KK.K := by rfl) : ED X (.Subscript a b pos) (zj ixD f h) :=
  let ⟨_, pa, ra⟩ := ha
  let ⟨_, pb, rb⟩ := hb
  ⟨_, zdQ zeo pa pb hs, zay (by rw [hK]; exact zea) ra rb⟩
noncomputable def ZT {α : Type} (xs : List α) (lo hi : Option Int) : List α := (xs.drop (HT.sIx xs.length 0 lo)).take (HT.sIx xs.length xs.length hi - HT.sIx xs.length 0 lo)
theorem AtL.cut {F : Hp} {ds : List D} {xs : List V} {lo hi : Option Int} (al : AtL F ds xs) : AtL F (ZT ds lo hi) (Wd xs lo hi) := by
  unfold ZT Wd
  rw [al.length]
  exact (al.drop _).take _
noncomputable def OD (X : Cx) (e : Option Expr) (f : Ev → Option (Option Int)) : Prop := ∃ t, PO X e t ∧ ∀ (σ : St) (ρ : Ev) (F H : Hp) (i : Option Int) (Q : Option Int → Hp → Prop), yH F H → VAt F ρ σ → f ρ = some i → (∀ F' H', Gr F H F' H' → Q i H') → t σ H Q
noncomputable def yr : Ev → Option (Option Int) := fun _ => some none
noncomputable def asI : D → Option Int
  | .int i => some i
  | _ => none
noncomputable def yt (f : Ev → Option D) : Ev → Option (Option Int) := fun ρ => ((f ρ).bind asI).map some
theorem X8 : OD X none yr := ⟨_, zcM, fun _ _ _ _ _ _ s _ e q => by cases e; exact q _ _ (.refl s)⟩
theorem Wt {f : Ev → Option D} (h : ED X e f) : OD X (some e) (yt f) := by
  obtain ⟨t, p, r⟩ := h
  refine ⟨_, zcR p, fun σ ρ F H i Q s va e q => ?_⟩
  obtain ⟨j, e1, rfl⟩ := Option.map_eq_some_iff.mp e
  obtain ⟨d, e1, e2⟩ := Option.bind_eq_some_iff.mp e1
  cases d <;> cases e2
  exact r σ ρ F H _ _ s va e1 fun F1 H1 v g1 a1 => ⟨_, a1.int_inv, q F1 H1 g1⟩
noncomputable def slD : D → Option Int → Option Int → Option D
  | .lst ds, lo, hi => some (.lst (ZT ds lo hi))
  | .scr ns, lo, hi => some (.lst ((ZT ns lo hi).map .int))
  | .tup ds, lo, hi => some (.tup (ZT ds lo hi))
  | _, _, _ => none
noncomputable def eSl (g : D → Option Int → Option Int → Option D) (f : Ev → Option D) (l h : Ev → Option (Option Int)) : Ev → Option D := fun ρ => (f ρ).bind fun d => (l ρ).bind fun lo => (h ρ).bind fun hi => g d lo hi
omit [KK] in
theorem zbN {ns : List Int} {lo hi : Option Int} : Wd (ns.map V.int) lo hi = (ZT ns lo hi).map V.int := by
  unfold Wd ZT
  rw [List.length_map, List.map_take, List.map_drop]
end
end Dl
namespace L2
open PySem PySem.Spec PyProof.Rows
noncomputable def rSlN : V → Option Int → Option Int → Hp → VK → Prop := fun x lo hi H Q => ∃ a xs, x = .ref a ∧ H a = some (.tup xs) ∧ (Wd xs lo hi = xs → Q (.ref a) H) ∧ ∀ p, H p = none → Q (.ref p) (upd H p (.tup (Wd xs lo hi)))
theorem zcW {X : Cx} : SlR X rSlN := by
  intro pins s σ H x v vl vu lo hi sl Q I rx hs pl pu h
  obtain ⟨a, xs, rfl, hx, q1, q2⟩ := h
  by_cases hw : HT.sIx xs.length 0 lo = 0 ∧ HT.sIx xs.length xs.length hi = xs.length
  · cases rx
    obtain ⟨its, r, ht, hz⟩ := I.tuple (SqT.of hx)
    have hlen : its.toArray.size = xs.length := by rw [List.size_toArray]; exact r.length.symm
    refine ⟨"tuple", _, PyProof.Rows.slot_tuple_getitem.lookup, ht.typeIs, ?_⟩
    refine HT.own_getItem_whole ht hs pl pu (by rw [hlen]; exact hw) ⟨.ref a, H, I, rfl, q1 ?_⟩
    unfold Wd
    rw [hw.1, hw.2, List.drop_zero, Nat.sub_zero, List.take_length]
  · exact zdM pins s σ H (.ref a) v vl vu lo hi sl Q I rx hs pl pu ⟨a, xs, rfl, SqT.of hx, hw, q2⟩
end L2
namespace Dl
open PySem L2
variable [KK]
section
variable {X : Cx} {a b c e : Expr} {pos : Pos}
theorem Xf {lo hi : Option Expr} {p2 : Pos} {f : Ev → Option D} {l h : Ev → Option (Option Int)} (ha : ED X a f) (hl : OD X lo l) (hh : OD X hi h) (hK : X.K = KK.K := by rfl) : ED X (.Subscript a (.Slice lo hi none p2) pos) (eSl slD f l h) := by
  obtain ⟨ta, pa, ra⟩ := ha
  obtain ⟨tl, ppl, rl⟩ := hl
  obtain ⟨th, ph, rh⟩ := hh
  refine ⟨_, zbr (zcU.or zcW) pa ppl ph, fun σ ρ F H z Q s va e q => ?_⟩
  obtain ⟨d, e1, e⟩ := Option.bind_eq_some_iff.mp e
  obtain ⟨i, e2, e⟩ := Option.bind_eq_some_iff.mp e
  obtain ⟨j, e3, e⟩ := Option.bind_eq_some_iff.mp e
  refine ra σ ρ F H d _ s va e1 fun F1 H1 v g1 a1 => ?_
  refine rl σ ρ F1 H1 i _ g1.fh (va.mono g1.ff) e2 fun F2 H2 g2 => ?_
  refine rh σ ρ F2 H2 j _ g2.fh (va.mono (g1.ff.trans g2.ff)) e3 fun F3 H3 g3 => ?_
  have g123 := (g1.trans g2).trans g3
  have a3 := a1.mono (g2.ff.trans g3.ff)
  cases d <;> try cases e
  · obtain ⟨p, xs, rfl, hx, al⟩ := a3.tup_inv
    refine .inr ⟨p, xs, rfl, g3.fh _ _ hx, fun ec => ?_, fun r hr => ?_⟩
    · have := al.cut (lo := i) (hi := j)
      rw [ec] at this
      exact q F3 H3 _ g123 (.tup hx this)
    · have g := Gr.alloc g3.fh hr (.tup (Wd xs i j))
      exact q _ _ _ (g123.trans g) (.tup zq (al.cut.mono g.ff))
  · obtain ⟨p, xs, rfl, hx, al⟩ := a3.lst_inv
    refine .inl ⟨p, xs, rfl, SqL.of (g3.fh _ _ hx), fun r hr => ?_⟩
    have g := Gr.alloc g3.fh hr (.lst (Wd xs i j))
    exact q _ _ _ (g123.trans g) (.lst zq (al.cut.mono g.ff))
  · rename_i ns _ _
    obtain ⟨p, rfl, hx⟩ := a3.scr_inv
    refine .inl ⟨p, _, rfl, (by rw [hK]; exact g3.fh.seq hx), fun r hr => ?_⟩
    rw [zbN]
    have g := Gr.alloc g3.fh hr (.lst ((ZT ns i j).map V.int))
    exact q _ _ _ (g123.trans g) (.lst zq (.ints _))
noncomputable def CaD (r : List V → Hp → VK → Prop) (g : List D → Option D) : Prop := ∀ (F H : Hp) (vs : List V) (ds : List D) (z : D) (Q : VK), yH F H → AtL F ds vs → g ds = some z → (∀ F' H' v, Gr F H F' H' → At F' z v → Q v H') → r vs H Q
noncomputable def eFn (g : List D → Option D) (f : Ev → Option (List D)) : Ev → Option D := fun ρ => (f ρ).bind g
noncomputable def fFn (g : List D → Option (List D)) (f : Ev → Option (List D)) : Ev → Option (List D) := fun ρ => (f ρ).bind g
theorem yo {x : Str} {id : String} {p : Pos} {es : List Expr} {r : List V → Hp → VK → Prop} {g : List D → Option D} {f : Ev → Option (List D)} (hc : v7 X (.builtin id) r) (hg : CaD r g) (hgl : Gl X x) (hm : X.mg x = none) (hv : bootBuiltins x = some (.builtin id)) (ha : AD X (e :: es) f)
    (hn : x ≠ "__name__" := by decide) (hdb : (x == ("__debug__" : Str)) = false := by decide) (he : starEach (e :: es) X.env = (false, eval e X.env) :: starEach es X.env := by rfl) (hpl : (backTo pos (starEach es X.env)).any (·.1) = false := by rfl) :
    ED X (.Call (.Name x p) (e :: es) [] pos) (eFn g f) := by
  obtain ⟨t, pa, ra⟩ := ha
  refine ⟨_, WO hc hgl hm hv pa hn hdb he hpl, fun σ ρ F H z Q s va e q => ?_⟩
  obtain ⟨ds, e1, e2⟩ := Option.bind_eq_some_iff.mp e
  refine ra σ ρ F H ds _ s va e1 fun F1 H1 vs g1 a1 => ?_
  exact hg F1 H1 vs ds z Q g1.fh a1 e2 fun F' H' v g av => q F' H' v (g1.trans g) av
theorem yJ {x : Str} {T : String} {p : Pos} {es : List Expr} {r : List V → Hp → VK → Prop} {g : List D → Option D} {f : Ev → Option (List D)} (hc : v7 X (.type T) r) (hg : CaD r g) (hgl : Gl X x) (hm : X.mg x = none) (hv : bootBuiltins x = some (.type T)) (ha : AD X (e :: es) f)
    (hn : x ≠ "__name__" := by decide) (hdb : (x == ("__debug__" : Str)) = false := by decide) (he : starEach (e :: es) X.env = (false, eval e X.env) :: starEach es X.env := by rfl) (hpl : (backTo pos (starEach es X.env)).any (·.1) = false := by rfl) :
    ED X (.Call (.Name x p) (e :: es) [] pos) (eFn g f) := by
  obtain ⟨t, pa, ra⟩ := ha
  refine ⟨_, zab hc hgl hm hv pa hn hdb he hpl, fun σ ρ F H z Q s va e q => ?_⟩
  obtain ⟨ds, e1, e2⟩ := Option.bind_eq_some_iff.mp e
  refine ra σ ρ F H ds _ s va e1 fun F1 H1 vs g1 a1 => ?_
  exact hg F1 H1 vs ds z Q g1.fh a1 e2 fun F' H' v g av => q F' H' v (g1.trans g) av
noncomputable def wK : List D → Option D
  | [.lst ds] => some (.int ds.length)
  | [.tup ds] => some (.int ds.length)
  | [.scr ds] => some (.int ds.length)
  | _ => none
theorem vz : CaD (fun xs H Q => ∃ p ys, xs = [.ref p] ∧ (SqL KK.K H p ys ∨ SqT KK.K H p ys) ∧ Q (.int ys.length) H) wK := by
  intro F H vs ds z Q s al e q
  unfold wK at e
  split at e <;> cases e
  all_goals
    obtain ⟨x, r, rfl, ax, ar⟩ := al.cons_inv
    cases ar.nil_inv
  · obtain ⟨p, xs, rfl, hx, bl⟩ := ax.lst_inv
    exact ⟨p, xs, rfl, .inl (SqL.of (s _ _ hx)), by rw [bl.length]; exact q F H _ (.refl s) .int⟩
  · obtain ⟨p, xs, rfl, hx, bl⟩ := ax.tup_inv
    exact ⟨p, xs, rfl, .inr (SqT.of (s _ _ hx)), by rw [bl.length]; exact q F H _ (.refl s) .int⟩
  · obtain ⟨p, rfl, hx⟩ := ax.scr_inv
    exact ⟨p, _, rfl, .inl ((s.seq hx)), by rw [List.length_map]; exact q F H _ (.refl s) .int⟩
noncomputable def max2D : List D → Option D
  | [.int i, .int j] => some (.int (if j > i then j else i))
  | _ => none
noncomputable def zch : List D → Option D
  | [.int i, .int j] => some (.int (if j < i then j else i))
  | _ => none
theorem za2 {g : Int → Int → Int} : CaD (fun xs H Q => ∃ i j, xs = [.int i, .int j] ∧ Q (.int (g i j)) H) (fun ds => match ds with | [.int i, .int j] => some (.int (g i j)) | _ => none) := by
  intro F H vs ds z Q s al e q
  dsimp only at e
  split at e <;> cases e
  obtain ⟨x, r, rfl, ax, ar⟩ := al.cons_inv
  obtain ⟨y, r, rfl, ay, ar⟩ := ar.cons_inv
  cases ar.nil_inv
  exact ⟨_, _, by rw [ax.int_inv, ay.int_inv], q F H _ (.refl s) .int⟩
theorem za8 : CaD (fun xs H Q => ∃ i j, xs = [.int i, .int j] ∧ Q (.int (if j < i then j else i)) H) zch := za2 (g := fun i j => if j < i then j else i)
noncomputable def zJ : List D → Option D
  | [.lst ds] => some (.tup ds)
  | [.tup ds] => some (.tup ds)
  | _ => none
theorem Y4 {K : PySem.W.Frag} : CaD (fun xs H Q => ∃ p ys, xs = [.ref p] ∧ ((SqL K H p ys ∧ ∀ l, H l = none → Q (.ref l) (upd H l (.tup ys))) ∨ (SqT K H p ys ∧ Q (.ref p) H))) zJ := by
  intro F H vs ds z Q s al e q
  unfold zJ at e
  split at e <;> cases e
  all_goals
    obtain ⟨x, r, rfl, ax, ar⟩ := al.cons_inv
    cases ar.nil_inv
  · obtain ⟨p, xs, rfl, hx, bl⟩ := ax.lst_inv
    refine ⟨p, xs, rfl, .inl ⟨SqL.of (s _ _ hx), fun l hl => ?_⟩⟩
    have g := Gr.alloc s hl (.tup xs)
    exact q _ _ _ g (.tup zq (bl.mono g.ff))
  · obtain ⟨p, xs, rfl, hx, bl⟩ := ax.tup_inv
    exact ⟨p, xs, rfl, .inr ⟨SqT.of (s _ _ hx), q F H _ (.refl s) (.tup hx bl)⟩⟩
noncomputable def xf : List D → Option (List D)
  | [.lst ds] => some ds
  | [.tup ds] => some ds
  | [.scr ns] => some (ns.map .int)
  | _ => none
inductive TyD (K : PySem.W.Frag) (H : Hp) : V → Value → Prop where
  | of {v : V} {t : Value} (h : WA K H v t) : TyD K H v t
  | dd {a : Addr} {u : HO} (h : Rd H a u) (d : (∃ kvs, u = .dK kvs) ∨ ∃ kvs, u = .dT kvs) : TyD K H (.ref a) (.type "dict")
theorem XF {X : Cx} : v7 X (.builtin "isinstance") (fun xs H Q => ∃ x n t b, xs = [x, .ty n] ∧ TyD X.K H x t ∧ PySem.W.kitOne X.K t (.type n) = some b ∧ Q (.bl b) H) := by
  intro pins s σ H xs us Q I r h
  obtain ⟨x, n, t, b, rfl, ty, e, q⟩ := h
  cases ty with
  | of ty => exact Wq pins s σ H _ us Q I r ⟨x, n, t, b, rfl, ty, e, q⟩
  | @dd a u h d =>
    cases r with
    | cons r1 r2 =>
      cases r2 with
      | cons r3 r4 =>
        cases r4
        cases r1
        cases r3
        have ok := h.ok I.hok
        rcases d with ⟨kvs, rfl⟩ | ⟨kvs, rfl⟩
        · obtain ⟨_, _, vs, _, p⟩ := (show xM X.prog X.w H s.heap a (.dK kvs) from ok)
          obtain ⟨o, es, ep, h1, h2, _⟩ := p
          exact PySem.W.kia_one PySem.W.kitx_dict I.kIn ⟨o, h1, h2.1⟩ e (fun z => nomatch z) fun tk => ⟨.bl b, H, I.tok tk, rfl, q⟩
        · obtain ⟨_, _, xs, _, o, es, ep, h1, h2, _⟩ := (show xM X.prog X.w H s.heap a (.dT kvs) from ok)
          exact PySem.W.kia_one PySem.W.kitx_dict I.kIn ⟨o, h1, h2.1⟩ e (fun z => nomatch z) fun tk => ⟨.bl b, H, I.tok tk, rfl, q⟩
theorem At.ty {K : PySem.W.Frag} {F H : Hp} (s : yH F H) : ∀ {d : D} {v : V}, At F d v → (∀ ns, d ≠ .scr ns) → TyD K H v (.type (tyN d))
  | .non, _, h, _ => by cases h.non_inv; exact .of .non
  | .bl b, _, h, _ => by cases h.bl_inv; exact .of (.bl b)
  | .int i, _, h, _ => by cases h.int_inv; exact .of (.int i)
  | .str x, _, h, _ => by cases h.str_inv; exact .of (.str x)
  | .tup ds, _, h, _ => by obtain ⟨a, xs, rfl, e, _⟩ := h.tup_inv; exact .of (.tup (s _ _ e))
  | .lst ds, _, h, _ => by obtain ⟨a, xs, rfl, e, _⟩ := h.lst_inv; exact .of (.lst (s _ _ e))
  | .scr ns, _, _, n => absurd rfl (n ns)
  | .dct z t ks vs, _, h, _ => by
    obtain ⟨a, xs, rfl, d, _⟩ := h.dct_inv
    obtain ⟨u, e1, e2⟩ := (d.mono s).rd
    exact .dd e2 (by
      unfold zei at e1
      split at e1
      · obtain ⟨kvs, rfl, _⟩ := e1; exact .inr ⟨kvs, rfl⟩
      · obtain ⟨kvs, rfl, _⟩ := e1; exact .inl ⟨kvs, rfl⟩)
inductive Ty where
  | int | bool | tuple | list | str
noncomputable def Ty.nm : Ty → String
  | .int => "int" | .bool => "bool" | .tuple => "tuple" | .list => "list" | .str => "str"
noncomputable def isT : Ty → D → Bool
  | .int, .int _ => true | .int, .bl _ => true
  | .bool, .bl _ => true
  | .tuple, .tup _ => true
  | .list, .lst _ => true
  | .str, .str _ => true
  | _, _ => false
noncomputable def zN (n : Ty) : D → Option D
  | .scr _ => none
  | d => some (.bl (isT n d))
theorem zd0 (K : PySem.W.Frag) (n : Ty) (d : D) (h : ∀ ns, d ≠ .scr ns) : PySem.W.kitOne K (.type (tyN d)) (.type n.nm) = some (isT n d) := by
  cases n <;> cases d <;> first | exact absurd rfl (h _) | kernel_rfl
theorem zA {p : Pos} {f : Ev → Option D} (n : Ty) (hgl : Gl X "isinstance") (hm : X.mg "isinstance" = none) (ha : ED X a f) (hb : PE X b (tC (.ty n.nm)))
    (hs : starEach [a, b] X.env = (false, eval a X.env) :: starEach [b] X.env := by rfl) (hs2 : starEach [b] X.env = (false, eval b X.env) :: starEach [] X.env := by rfl) (hpl : (backTo pos (starEach [b] X.env)).any (·.1) = false := by rfl) :
    ED X (.Call (.Name "isinstance" p) [a, b] [] pos) (eUn (zN n) f) := by
  obtain ⟨t, pa, ra⟩ := ha
  refine ⟨_, WO XF hgl hm Z8 (ZI pa (ZI hb VG hs2) hs) (by decide) (by decide) hs hpl, fun σ ρ F H z Q s va e q => ?_⟩
  obtain ⟨d, e1, e2⟩ := Option.bind_eq_some_iff.mp e
  refine ra σ ρ F H d _ s va e1 fun F1 H1 v g1 a1 => ?_
  have ns : ∀ ns, d ≠ .scr ns := fun ns h => by subst h; cases e2
  have e3 : z = .bl (isT n d) := by
    cases d <;> first | exact (Option.some.inj e2).symm | exact absurd rfl (ns _)
  subst e3
  exact ⟨v, n.nm, _, _, rfl, a1.ty g1.fh ns, zd0 _ n d ns, q F1 H1 _ g1 .bl⟩
noncomputable def wO (m : Bool) (i : Nat) (f : Ev → Option D) : SE → Ctl := fun ρ => match (vEv m f ρ).bind fun d => match ρ[i]? with
    | some (.o ds) => if decide (ds.length < sizeLine) = true then some (ρ.set i (.o (ds ++ [d]))) else none
    | _ => none with
  | some ρ' => .nx ρ'
  | none => .no
theorem WC {m : Bool} {i : Nat} {p pos' : Pos} {f : Ev → Option D} (ho : PE X a (zez i)) (he : ED X e f)
    (hp : ∀ {ta : TE} {t : TA}, PE X a ta → PA X [e] t → PE X (.Call (.Attribute a "append" p) [e] [] pos') (tBM X.K "list" zam ta t)) (hsw : swapsWith (.Call (.Attribute a "append" p) [e] [] pos') none pos.line X.env = pure false := by rfl)
    (hs : starEach [e] X.env = (false, eval e X.env) :: starEach [] X.env := by rfl) : SD X (.Expr (.Call (.Attribute a "append" p) [e] [] pos') pos) (wO m i f) := by
  obtain ⟨t, pe, re⟩ := he
  refine ⟨_, VS (hp ho (ZI pe VG hs)) hsw, fun Fb Hb F H ρ σ E rl k => ?_⟩
  unfold wO at k
  cases h : (vEv m f ρ).bind fun d => match ρ[i]? with
    | some (.o ds) => if decide (ds.length < sizeLine) = true then some (ρ.set i (.o (ds ++ [d]))) else none
    | _ => none with
  | none => rw [h] at k; exact k.elim
  | some ρ' =>
    rw [h] at k
    obtain ⟨d, e1, e2⟩ := Option.bind_eq_some_iff.mp h
    cases hs : ρ[i]? with
    | none => rw [hs] at e2; cases e2
    | some sl =>
      rw [hs] at e2
      cases sl with
      | no => cases e2
      | v _ => cases e2
      | m _ _ _ => cases e2
      | o ds =>
        dsimp only at e2
        split at e2 <;> cases e2
        rename_i hl
        obtain ⟨q, xs, f1, f2, f3, f4, f5⟩ := rl.owns i ds hs
        refine ⟨_, f1, .inl ⟨rfl, xs, SqL.of f4⟩, ?_⟩
        refine re.at rl e1 fun F' H' v g av => ?_
        have rl2 := rl.grow g
        obtain ⟨q2, xs2, f1', _, _, f4', f5'⟩ := rl2.owns i ds hs
        rw [f1] at f1'
        cases f1'
        refine ⟨q, xs2, v, rfl, rfl, f4', by rw [f5'.length]; exact of_decide_eq_true hl, ?_⟩
        exact k _ _ σ (rl2.mutate hs f1 (f5'.snoc av))
noncomputable def Yq (i : Nat) (f : Ev → Option D) : SE → Ctl := fun ρ => match (f (visF ρ)).bind fun d => match ρ[i]?, d with
    | some (.o ds), .lst es => if lim (ds.length + es.length) = true then some (ρ.set i (.o (ds ++ es))) else none
    | _, _ => none with
  | some ρ' => .nx ρ'
  | none => .no
end
end Dl
namespace Dl
open PySem L2
variable [KK]
noncomputable def okE : Nat → D → Bool
  | _, .scr _ => false
  | _, .dct _ _ _ _ => false
  | 0, .tup _ => false
  | 0, .lst _ => false
  | n + 1, .tup ds => ds.all (okE n)
  | n + 1, .lst ds => ds.all (okE n)
  | _, _ => true
noncomputable def eqN : Nat → D → D → Bool
  | _, .non, .non => true
  | _, .bl a, .bl b => a == b
  | _, .bl a, .int b => (if a then 1 else 0) == b
  | _, .int a, .bl b => a == (if b then 1 else 0)
  | _, .int a, .int b => a == b
  | _, .str a, .str b => a == b
  | n + 1, .tup a, .tup b => (List.zipWith (eqN n) a b).all id && a.length == b.length
  | n + 1, .lst a, .lst b => (List.zipWith (eqN n) a b).all id && a.length == b.length
  | _, _, _ => false
omit [KK] in
theorem X1 {n : Nat} : ∀ (a b : List D), (List.zipWith (eqN n) a b).all id = (List.range (min a.length b.length)).all fun j => eqN n (a.getD j .non) (b.getD j .non) := by
  intro a b
  have : List.zipWith (eqN n) a b = (List.range (min a.length b.length)).map fun j => eqN n (a.getD j .non) (b.getD j .non) := by
    apply List.ext_getElem
    · simp
    · intro i h1 h2
      simp at h1 h2
      have g1 : i < a.length := Nat.lt_of_lt_of_le h1 (Nat.min_le_left _ _)
      have g2 : i < b.length := Nat.lt_of_lt_of_le h1 (Nat.min_le_right _ _)
      simp [g1, g2]
  rw [this, List.all_map]
  rfl
omit [KK] in
noncomputable def vOf : D → V
  | .bl b => .bl b
  | .int i => .int i
  | .str t => .str t
  | _ => .non
theorem xq {F : Hp} {d : D} {x : V} (h : okE 0 d = true) (a : At F d x) : x = vOf d := by
  cases d with
  | non => exact a.non_inv
  | bl b => exact a.bl_inv
  | int b => exact a.int_inv
  | str b => exact a.str_inv
  | _ => cases h
omit [KK] in
theorem YL {d : D} (h : okE 0 d = true) : zcN (vOf d) = true := by
  cases d <;> first | rfl | cases h
omit [KK] in
theorem Z5 {d : D} {p : Addr} (h : okE 0 d = true) (e : vOf d = .ref p) : False := by
  cases d <;> first | (cases h; done) | (cases e; done)
noncomputable def dOfV : V → D
  | .bl b => .bl b
  | .int i => .int i
  | .str t => .str t
  | _ => .non
omit [KK] in
theorem zaa {d : D} (h : okE 0 d = true) : dOfV (vOf d) = d := by
  cases d <;> first | rfl | (cases h; done)
omit [KK] in
theorem zaG {d e : D} (h1 : okE 0 d = true) (h2 : okE 0 e = true) (h : vOf d = vOf e) : d = e := by
  rw [← zaa h1, h, zaa h2]
omit [KK] in
theorem xh {n : Nat} {d : D} (h : okE (n + 1) d = true) : okE 0 d = true ∨ (∃ ds, d = .tup ds ∧ ds.all (okE n) = true) ∨ ∃ ds, d = .lst ds ∧ ds.all (okE n) = true := by
  cases d with
  | tup ds => exact .inr (.inl ⟨ds, rfl, h⟩)
  | lst ds => exact .inr (.inr ⟨ds, rfl, h⟩)
  | scr _ => cases h
  | dct _ _ _ _ => cases h
  | _ => exact .inl rfl
theorem Vx {F : Hp} {n : Nat} (ih : ∀ {d e : D} {v : V}, okE n d = true → okE n e = true → At F d v → At F e v → d = e) : ∀ {xs : List V} {ds es : List D}, ds.all (okE n) = true → es.all (okE n) = true → AtL F ds xs → AtL F es xs → ds = es := by
  intro xs
  induction xs with
  | nil =>
    intro ds es _ _ a1 a2
    exact (List.length_eq_zero_iff.mp a1.length.symm).trans (List.length_eq_zero_iff.mp a2.length.symm).symm
  | cons x xs ih2 =>
    intro ds es h1 h2 a1 a2
    cases ds with
    | nil => cases a1.nil_inv
    | cons d ds => cases es with
      | nil => cases a2.nil_inv
      | cons e es =>
        obtain ⟨y, r, e1, b1, c1⟩ := a1.cons_inv
        obtain ⟨y2, r2, e2, b2, c2⟩ := a2.cons_inv
        cases e1
        cases e2
        rw [List.all_cons, Bool.and_eq_true] at h1 h2
        rw [ih2 h1.2 h2.2 c1 c2, ih h1.1 h2.1 b1 b2]
theorem zb3 {F : Hp} : ∀ (n : Nat) {d e : D} {v : V}, okE n d = true → okE n e = true → At F d v → At F e v → d = e := by
  intro n
  induction n with
  | zero =>
    intro d e v h1 h2 a1 a2
    exact zaG h1 h2 ((xq h1 a1).symm.trans (xq h2 a2))
  | succ n ih =>
    intro d e v h1 h2 a1 a2
    rcases xh h1 with f1 | ⟨ds, rfl, k1⟩ | ⟨ds, rfl, k1⟩
    · have e1 := xq f1 a1
      rcases xh h2 with f2 | ⟨es, rfl, _⟩ | ⟨es, rfl, _⟩
      · exact zaG f1 f2 (e1.symm.trans (xq f2 a2))
      · obtain ⟨p, xs, e2, _⟩ := a2.tup_inv
        exact (Z5 f1 (e1.symm.trans e2)).elim
      · obtain ⟨p, xs, e2, _⟩ := a2.lst_inv
        exact (Z5 f1 (e1.symm.trans e2)).elim
    · obtain ⟨p, xs, e0, hx, al⟩ := a1.tup_inv
      rcases xh h2 with f2 | ⟨es, rfl, k2⟩ | ⟨es, rfl, k2⟩
      · exact (Z5 f2 ((xq f2 a2).symm.trans e0)).elim
      · obtain ⟨q, ys, e1, hy, bl⟩ := a2.tup_inv
        cases e0.symm.trans e1
        cases hx.symm.trans hy
        rw [Vx ih k1 k2 al bl]
      · obtain ⟨q, ys, e1, hy, bl⟩ := a2.lst_inv
        cases e0.symm.trans e1
        cases hx.symm.trans hy
    · obtain ⟨p, xs, e0, hx, al⟩ := a1.lst_inv
      rcases xh h2 with f2 | ⟨es, rfl, k2⟩ | ⟨es, rfl, k2⟩
      · exact (Z5 f2 ((xq f2 a2).symm.trans e0)).elim
      · obtain ⟨q, ys, e1, hy, bl⟩ := a2.tup_inv
        cases e0.symm.trans e1
        cases hx.symm.trans hy
      · obtain ⟨q, ys, e1, hy, bl⟩ := a2.lst_inv
        cases e0.symm.trans e1
        cases hx.symm.trans hy
        rw [Vx ih k1 k2 al bl]
omit [KK] in
theorem zbu : ∀ (n : Nat) {d : D}, okE n d = true → eqN n d d = true := by
  intro n
  induction n with
  | zero =>
    intro d h
    cases d with
    | tup _ => cases h
    | lst _ => cases h
    | scr _ => cases h
    | dct _ _ _ _ => cases h
    | _ => first | rfl | exact decide_eq_true rfl | exact beq_self_eq_true _
  | succ n ih =>
    have ihl : ∀ {ds : List D}, ds.all (okE n) = true → (List.zipWith (eqN n) ds ds).all id = true := by
      intro ds
      induction ds with
      | nil => intro _; rfl
      | cons d ds ih2 =>
        intro h
        rw [List.all_cons, Bool.and_eq_true] at h
        rw [List.zipWith_cons_cons, List.all_cons, ih2 h.2, Bool.and_true]
        exact ih h.1
    intro d h
    cases d with
    | tup ds => show ((List.zipWith (eqN n) ds ds).all id && ds.length == ds.length) = true; rw [ihl h]; simp
    | lst ds => show ((List.zipWith (eqN n) ds ds).all id && ds.length == ds.length) = true; rw [ihl h]; simp
    | scr _ => cases h
    | dct _ _ _ _ => cases h
    | _ => first | rfl | exact decide_eq_true rfl | exact beq_self_eq_true _
theorem zcf {F : Hp} (n : Nat) {d e : D} {v : V} (h1 : okE n d = true) (h2 : okE n e = true) (a1 : At F d v) (a2 : At F e v) : eqN n d e = true := by
  rw [zb3 n h1 h2 a1 a2]
  exact zbu n h2
omit [KK] in
theorem wy {n : Nat} {ds : List D} {j : Nat} (h : ds.all (okE n) = true) (hj : j < ds.length) : okE n (ds.getD j .non) = true := by
  have : ds.getD j .non = ds[j] := by simp [hj]
  rw [this]
  exact List.all_eq_true.mp h _ (List.getElem_mem hj)
theorem AtL.nth {F : Hp} {ds : List D} {xs : List V} {us : List Value} {j : Nat} (al : AtL F ds xs) (r : yu xs us) (h : j < us.length) : ∃ x, At F (ds.getD j .non) x ∧ xE x us[j] := by
  have hl := al.length
  have hl2 := r.length
  have hj : j < ds.length := by omega
  obtain ⟨x, hx, ax⟩ := al.get (i := j) (d := ds[j]) (by simp [hj])
  obtain ⟨u, hu, ru⟩ := r.get hx
  refine ⟨x, by rw [show ds.getD j .non = ds[j] by simp [hj]]; exact ax, ?_⟩
  have : us[j]? = some us[j] := by simp [h]
  rw [hu] at this
  cases this
  exact ru
omit [KK] in
theorem Wx {n : Nat} {d e : D} (h1 : okE 0 d = true) (h2 : okE 0 e = true) : eqN n d e = eqV (vOf d) (vOf e) := by
  cases n <;> cases d <;> first | (cases h1; done) | skip
  all_goals cases e <;> first | (cases h2; done) | rfl
omit [KK] in
theorem Wv {n : Nat} {d : D} (ds : List D) (h : okE 0 d = true) : eqN (n + 1) d (.tup ds) = false ∧ eqN (n + 1) d (.lst ds) = false ∧ eqN (n + 1) (.tup ds) d = false ∧ eqN (n + 1) (.lst ds) d = false := by
  cases d <;> first | exact ⟨rfl, rfl, rfl, rfl⟩ | cases h
omit [KK] in
theorem ZY {A : Around} {s : Shared} {d : D} {u : Value} {p : Addr} {its : Array Value} (h : okE 0 d = true) (r : xE (vOf d) u) (hu : A.units < cLine) :
    (s.heap.IsTuple p its → SeqAt.EqAt A s u (.ref p) false ∧ SeqAt.EqAt A s (.ref p) u false) ∧ (s.heap.IsList p its → SeqAt.EqAt A s u (.ref p) false ∧ SeqAt.EqAt A s (.ref p) u false) := by
  cases d with
  | non => cases r; exact ⟨fun ht => ⟨.none_tuple ht hu, .tuple_none ht hu⟩, fun ht => ⟨.none_list ht hu, .list_none ht hu⟩⟩
  | bl b => cases r; exact ⟨fun ht => ⟨.bool_tuple b ht hu, .tuple_bool b ht hu⟩, fun ht => ⟨.bool_list b ht hu, .list_bool b ht hu⟩⟩
  | int b => obtain ⟨t, rfl⟩ := r; exact ⟨fun ht => ⟨.int_tuple b t ht hu, .tuple_int b t ht hu⟩, fun ht => ⟨.int_list b t ht hu, .list_int b t ht hu⟩⟩
  | str b => obtain ⟨t, rfl⟩ := r; exact ⟨fun ht => ⟨.str_tuple b t ht hu, .tuple_str b t ht hu⟩, fun ht => ⟨.str_list b t ht hu, .list_str b t ht hu⟩⟩
  | _ => cases h
theorem ZF {X : Cx} {pins : List (Addr × Obj)} {σ : St} {F H : Hp} {s : Shared} (I : Inv X pins σ H s) (sm : yH F H) {ds : List D} {x : V} {u : Value} (a : At F (.tup ds) x) (r : xE x u) : ∃ p its xs, u = .ref p ∧ x = .ref p ∧ yu xs its ∧ AtL F ds xs ∧ s.heap.IsTuple p its.toArray := by
  obtain ⟨p, xs, rfl, hx, al⟩ := a.tup_inv
  cases r
  obtain ⟨its, rv, ht, hz⟩ := I.tuple (SqT.of (sm _ _ hx))
  exact ⟨p, its, xs, rfl, rfl, rv, al, ht⟩
theorem Xe {X : Cx} {pins : List (Addr × Obj)} {σ : St} {F H : Hp} {s : Shared} (I : Inv X pins σ H s) (sm : yH F H) {ds : List D} {x : V} {u : Value} (a : At F (.lst ds) x) (r : xE x u) : ∃ p its xs, u = .ref p ∧ x = .ref p ∧ yu xs its ∧ AtL F ds xs ∧ s.heap.IsList p its.toArray := by
  obtain ⟨p, xs, rfl, hx, al⟩ := a.lst_inv
  cases r
  obtain ⟨its, rv, ht, hz⟩ := I.list (SqL.of (sm _ _ hx))
  exact ⟨p, its, xs, rfl, rfl, rv, al, ht.isList⟩
omit [KK] in
theorem zat {n : Nat} (ds es : List D) : ((List.zipWith (eqN n) ds es).all id && ds.length == es.length) = ((List.range (min ds.length es.length)).all (fun j => eqN n (ds.getD j .non) (es.getD j .non)) && ds.length == es.length) := by rw [X1]
theorem zaN {X : Cx} {pins : List (Addr × Obj)} {σ : St} {F H : Hp} {s : Shared} (I : Inv X pins σ H s) (sm : yH F H) : ∀ (n : Nat) {A : Around} {d e : D} {x y : V} {u v : Value}, okE n d = true → okE n e = true → At F d x → At F e y → xE x u → xE y v → A.units + n < cLine → SeqAt.EqAt A s u v (eqN n d e) := by
  intro n
  induction n with
  | zero =>
    intro A d e x y u v h1 h2 a1 a2 r1 r2 hu
    cases xq h1 a1
    cases xq h2 a2
    rw [Wx h1 h2]
    exact zce r1 r2 (YL h1) (YL h2)
  | succ n ih =>
    intro A d e x y u v h1 h2 a1 a2 r1 r2 hu
    have hu0 : A.units < cLine := Nat.lt_of_le_of_lt (Nat.le_add_right _ _) hu
    have hu1 : A.units + 1 + n < cLine := by rw [Nat.add_assoc, Nat.add_comm 1 n]; exact hu
    rcases xh h1 with f1 | ⟨ds, rfl, k1⟩ | ⟨ds, rfl, k1⟩
    · cases xq f1 a1
      rcases xh h2 with f2 | ⟨es, rfl, k2⟩ | ⟨es, rfl, k2⟩
      · cases xq f2 a2
        rw [Wx f1 f2]
        exact zce r1 r2 (YL f1) (YL f2)
      · obtain ⟨q, its2, ys, rfl, _, _, _, ht2⟩ := ZF I sm a2 r2
        rw [(Wv es f1).1]
        exact ((ZY f1 r1 hu0).1 ht2).1
      · obtain ⟨q, its2, ys, rfl, _, _, _, ht2⟩ := Xe I sm a2 r2
        rw [(Wv es f1).2.1]
        exact ((ZY f1 r1 hu0).2 ht2).1
    · obtain ⟨p, its, xs, rfl, hxp, rv, al, ht⟩ := ZF I sm a1 r1
      rcases xh h2 with f2 | ⟨es, rfl, k2⟩ | ⟨es, rfl, k2⟩
      · cases xq f2 a2
        rw [(Wv ds f2).2.2.1]
        exact ((ZY f2 r2 hu0).1 ht).2
      · obtain ⟨q, its2, ys, rfl, hyq, rv2, bl, ht2⟩ := ZF I sm a2 r2
        by_cases hpq : p = q
        · subst hpq
          rw [hxp] at a1
          rw [hyq] at a2
          rw [zcf (n + 1) h1 h2 a1 a2]
          exact .same _
        · have hl1 : its.toArray.size = ds.length := by rw [List.size_toArray, ← rv.length, al.length]
          have hl2 : its2.toArray.size = es.length := by rw [List.size_toArray, ← rv2.length, bl.length]
          have := SeqAt.RcAt.tuples (A := A) (e := fun j => eqN n (ds.getD j .non) (es.getD j .non)) ht ht2 hu0 fun j g1 g2 => by
            obtain ⟨x', ax, rx⟩ := al.nth rv (j := j) g1
            obtain ⟨y', ay, ry⟩ := bl.nth rv2 (j := j) g2
            exact ih (wy k1 (hl1 ▸ g1)) (wy k2 (hl2 ▸ g2)) ax ay rx ry hu1
          rw [hl1, hl2] at this
          rw [show eqN (n + 1) (.tup ds) (.tup es) = _ from zat ds es]
          exact SeqAt.EqAt.of_refs hpq this
      · obtain ⟨q, its2, ys, rfl, _, _, _, ht2⟩ := Xe I sm a2 r2
        exact .tuple_list ht ht2 hu0
    · obtain ⟨p, its, xs, rfl, hxp, rv, al, ht⟩ := Xe I sm a1 r1
      rcases xh h2 with f2 | ⟨es, rfl, k2⟩ | ⟨es, rfl, k2⟩
      · cases xq f2 a2
        rw [(Wv ds f2).2.2.2]
        exact ((ZY f2 r2 hu0).2 ht).2
      · obtain ⟨q, its2, ys, rfl, _, _, _, ht2⟩ := ZF I sm a2 r2
        exact .list_tuple ht ht2 hu0
      · obtain ⟨q, its2, ys, rfl, hyq, rv2, bl, ht2⟩ := Xe I sm a2 r2
        by_cases hpq : p = q
        · subst hpq
          rw [hxp] at a1
          rw [hyq] at a2
          rw [zcf (n + 1) h1 h2 a1 a2]
          exact .same _
        · have hl1 : its.toArray.size = ds.length := by rw [List.size_toArray, ← rv.length, al.length]
          have hl2 : its2.toArray.size = es.length := by rw [List.size_toArray, ← rv2.length, bl.length]
          rw [show eqN (n + 1) (.lst ds) (.lst es) = _ from zat ds es]
          by_cases hle : ds.length = es.length
          · have := SeqAt.RcAt.lists (A := A) (e := fun j => eqN n (ds.getD j .non) (es.getD j .non)) ht ht2 (by rw [hl1, hl2, hle]) hu0 fun j g1 g2 => by
              obtain ⟨x', ax, rx⟩ := al.nth rv (j := j) g1
              obtain ⟨y', ay, ry⟩ := bl.nth rv2 (j := j) g2
              exact ih (wy k1 (hl1 ▸ g1)) (wy k2 (hl2 ▸ g2)) ax ay rx ry hu1
            rw [hl1] at this
            rw [← hle, Nat.min_self, beq_self_eq_true, Bool.and_true]
            exact SeqAt.EqAt.of_refs hpq this
          · have := SeqAt.RcAt.lists_lengths (A := A) ht ht2 (by rw [hl1, hl2]; exact bne_iff_ne.mpr hle) hu0
            rw [beq_eq_false_iff_ne.mpr hle, Bool.and_false]
            exact SeqAt.EqAt.of_refs hpq this
noncomputable def zdL (d : D) (es : List D) : Option Bool := if okE 20 d = true ∧ es.all (okE 20) = true then some (es.any fun e => eqN 20 e d) else none
noncomputable def inD (d e : D) : Option D := (yi e).bind fun es => (zdL d es).map .bl
open Classical in
noncomputable def zaV (F : Hp) (d : D) (u : Value) : Bool := decide (∃ d0 x, At F d0 x ∧ xE x u ∧ okE 20 d0 = true ∧ eqN 20 d0 d = true)
open Classical in
theorem zac {F : Hp} {d d0 : D} {x : V} {u : Value} (a : At F d0 x) (r : xE x u) (k : okE 20 d0 = true) : zaV F d u = eqN 20 d0 d := by
  unfold zaV
  cases h : eqN 20 d0 d with
  | true => exact decide_eq_true ⟨d0, x, a, r, k, h⟩
  | false =>
    refine decide_eq_false ?_
    rintro ⟨d1, y, a1, r1, k1, h1⟩
    have e := r1.inj r
    subst e
    rw [zb3 20 k1 k a1 a] at h1
    rw [h1] at h
    cases h
theorem Z0 {F : Hp} {d : D} : ∀ {ds : List D} {xs : List V} {us : List Value}, AtL F ds xs → yu xs us → ds.all (okE 20) = true → us.any (zaV F d) = ds.any fun e => eqN 20 e d
  | [], _, _, al, r, _ => by cases al.nil_inv; cases r; rfl
  | e :: ds, _, _, al, r, k => by
    obtain ⟨x, xs, rfl, a1, a2⟩ := al.cons_inv
    cases r with
    | cons r1 r2 =>
      rw [List.all_cons, Bool.and_eq_true] at k
      rw [List.any_cons, List.any_cons, zac a1 r1 k.1, Z0 a2 r2 k.2]
section
variable {X : Cx}
noncomputable def rInD (neg : Bool) : R2 := fun x y H Q => ∃ F d e es b, yH F H ∧ At F d x ∧ At F e y ∧ yi e = some es ∧ zdL d es = some b ∧ Q (.bl (if neg then !b else b)) H
theorem zel {k : Nat} (hr : YQ k X.A) : OpR X (compareOp .In) (rInD false) := by
  intro pins s σ H x y v u Q I rx ry h
  obtain ⟨F, d, e, es, b, sm, a1, a2, hs, hb, q⟩ := h
  unfold zdL at hb
  split at hb <;> cases hb
  rename_i hk
  have hu : X.A.in1.units + 20 < cLine := by have := hr.un; show X.A.units + 1 + 20 < cLine; omega
  have mem : ∀ {xs : List V} {us : List Value}, AtL F es xs → yu xs us → ∀ z ∈ us, SeqAt.EqAt X.A.in1 s z v (zaV F d z) := fun {xs us} al r z hz => by
    obtain ⟨j, hj, rfl⟩ := List.getElem_of_mem hz
    obtain ⟨x', ax, rx'⟩ := al.nth r hj
    have hj' : j < es.length := by have := al.length; have := r.length; omega
    have k2 := wy hk.2 hj'
    rw [zac ax rx' k2]
    exact zaN I sm 20 k2 hk.1 ax a1 rx' rx hu
  cases e <;> cases hs
  · obtain ⟨p, xs, rfl, hx, al⟩ := a2.tup_inv
    cases ry
    obtain ⟨its, r, pl, hz⟩ := I.tuple (SqT.of (sm _ _ hx))
    refine SeqAt.in_tupleAt (zaV F d) pl (fun z hz => mem al r z (by simpa using hz)) ⟨.bl _, H, I, rfl, ?_⟩
    rw [show its.toArray.any (zaV F d) = its.any (zaV F d) by simp, Z0 al r hk.2]
    exact q
  · obtain ⟨p, xs, rfl, hx, al⟩ := a2.lst_inv
    cases ry
    obtain ⟨its, r, pl, hz⟩ := I.list (SqL.of (sm _ _ hx))
    refine SeqAt.in_listAt (zaV F d) pl.isList (fun z hz => mem al r z (by simpa using hz)) ⟨.bl _, H, I, rfl, ?_⟩
    rw [show its.toArray.any (zaV F d) = its.any (zaV F d) by simp, Z0 al r hk.2]
    exact q
theorem zdP : OpD (rInD false) inD := by
  intro F H x y d e z Q s ax ay ez q
  obtain ⟨es, e1, e2⟩ := Option.bind_eq_some_iff.mp ez
  obtain ⟨b, e3, rfl⟩ := Option.map_eq_some_iff.mp e2
  exact ⟨F, d, e, es, b, s, ax, ay, e1, e3, q F H _ (.refl s) .bl⟩
noncomputable def eqG (d e : D) : Option Bool := match d, e with
  | .tup _, .tup _ => if okE 20 d = true ∧ okE 20 e = true then some (eqN 20 d e) else none
  | .lst _, .lst _ => if okE 20 d = true ∧ okE 20 e = true then some (eqN 20 d e) else none
  | _, _ => eqS d e
noncomputable def Xc (d e : D) : Option D := (eqG d e).map .bl
noncomputable def zey : R2 := fun x y H Q => ∃ F d e, yH F H ∧ At F d x ∧ At F e y ∧ ((∃ ds es, d = .tup ds ∧ e = .tup es) ∨ (∃ ds es, d = .lst ds ∧ e = .lst es)) ∧ okE 20 d = true ∧ okE 20 e = true ∧ Q (.bl (eqN 20 d e)) H
theorem zdn {k : Nat} (hr : YQ k X.A) : OpR X (compareOp .Eq) zey := by
  intro pins s σ H x y v u Q I rx ry h
  obtain ⟨F, d, e, sm, a1, a2, hk, k1, k2, q⟩ := h
  have hu : X.A.units + 30 < cLine := by have := hr.un; omega
  rcases hk with ⟨ds, es, rfl, rfl⟩ | ⟨ds, es, rfl, rfl⟩
  · obtain ⟨p, xs, rfl, hx, al⟩ := a1.tup_inv
    obtain ⟨p2, ys, rfl, hy, bl⟩ := a2.tup_inv
    cases rx
    cases ry
    obtain ⟨its, r, ht, hz⟩ := I.tuple (SqT.of (sm _ _ hx))
    obtain ⟨its2, r2, ht2, hz2⟩ := I.tuple (SqT.of (sm _ _ hy))
    have hl1 : its.toArray.size = ds.length := by rw [List.size_toArray, ← r.length, al.length]
    have hl2 : its2.toArray.size = es.length := by rw [List.size_toArray, ← r2.length, bl.length]
    refine SeqAt.eq_tupleAt (e := fun j => eqN 19 (ds.getD j .non) (es.getD j .non)) (show s.heap.IsTuple p its.toArray from ht) (show s.heap.IsTuple p2 its2.toArray from ht2) (by omega) (fun j g1 g2 => ?_) ⟨.bl _, H, I, rfl, ?_⟩
    · obtain ⟨x', ax, rx⟩ := al.nth r (j := j) (by simpa using g1)
      obtain ⟨y', ay, ry⟩ := bl.nth r2 (j := j) (by simpa using g2)
      exact zaN I sm 19 (wy k1 (by rw [← hl1]; exact g1)) (wy k2 (by rw [← hl2]; exact g2)) ax ay (by simpa using rx) (by simpa using ry) (Nat.lt_of_le_of_lt (show X.A.units + 20 ≤ X.A.units + 30 from Nat.add_le_add_left (by decide) _) hu)
    · rw [hl1, hl2, ← X1]
      exact q
  · obtain ⟨p, xs, rfl, hx, al⟩ := a1.lst_inv
    obtain ⟨p2, ys, rfl, hy, bl⟩ := a2.lst_inv
    cases rx
    cases ry
    obtain ⟨its, r, ht, hz⟩ := I.list (SqL.of (sm _ _ hx))
    obtain ⟨its2, r2, ht2, hz2⟩ := I.list (SqL.of (sm _ _ hy))
    have hl1 : its.toArray.size = ds.length := by rw [List.size_toArray, ← r.length, al.length]
    have hl2 : its2.toArray.size = es.length := by rw [List.size_toArray, ← r2.length, bl.length]
    have e1 : eqN 20 (.lst ds) (.lst es) = ((List.range (min ds.length es.length)).all (fun j => eqN 19 (ds.getD j .non) (es.getD j .non)) && ds.length == es.length) := by
      show ((List.zipWith (eqN 19) ds es).all id && ds.length == es.length) = _
      rw [X1]
    by_cases hle : ds.length = es.length
    · refine SeqAt.eq_listAt (e := fun j => eqN 19 (ds.getD j .non) (es.getD j .non)) ht.isList ht2.isList (by rw [hl1, hl2]; exact hle) (Nat.lt_of_le_of_lt (Nat.le_add_right _ 30) hu) (fun j g1 g2 => ?_) ⟨.bl _, H, I, rfl, ?_⟩
      · obtain ⟨x', ax, rx⟩ := al.nth r (j := j) (by simpa using g1)
        obtain ⟨y', ay, ry⟩ := bl.nth r2 (j := j) (by simpa using g2)
        exact zaN I sm 19 (wy k1 (by rw [← hl1]; exact g1)) (wy k2 (by rw [← hl2]; exact g2)) ax ay (by simpa using rx) (by simpa using ry) (Nat.lt_of_le_of_lt (show X.A.units + 20 ≤ X.A.units + 30 from Nat.add_le_add_left (by decide) _) hu)
      · rw [hl1]
        rw [e1, ← hle, Nat.min_self] at q
        simpa using q
    · refine SeqAt.eq_list_lengthsAt ht.isList ht2.isList (by rw [hl1, hl2]; simpa using hle) (Nat.lt_of_le_of_lt (Nat.le_add_right _ 30) hu) ⟨.bl _, H, I, rfl, ?_⟩
      have : (ds.length == es.length) = false := by simpa using hle
      rw [e1, this, Bool.and_false] at q
      exact q
theorem zcY : OpD zey (fun d e => match d, e with
  | .tup _, .tup _ => if okE 20 d = true ∧ okE 20 e = true then some (.bl (eqN 20 d e)) else none
  | .lst _, .lst _ => if okE 20 d = true ∧ okE 20 e = true then some (.bl (eqN 20 d e)) else none
  | _, _ => none) := by
  intro F H x y d e z Q s ax ay ez q
  dsimp only at ez
  split at ez
  · split at ez <;> cases ez
    rename_i hk
    exact ⟨F, _, _, s, ax, ay, .inl ⟨_, _, rfl, rfl⟩, hk.1, hk.2, q F H _ (.refl s) .bl⟩
  · split at ez <;> cases ez
    rename_i hk
    exact ⟨F, _, _, s, ax, ay, .inr ⟨_, _, rfl, rfl⟩, hk.1, hk.2, q F H _ (.refl s) .bl⟩
  · cases ez
theorem Yr {k : Nat} (hr : YQ k X.A) : OpR X (compareOp .Eq) (fun x y H Q => rEq x y H Q ∨ zey x y H Q) := zfp.or (zdn hr)
theorem wS : OpD (fun x y H Q => rEq x y H Q ∨ zey x y H Q) Xc := by
  refine Wu (XL zca zcY) fun d e z h => ?_
  obtain ⟨b, hb, rfl⟩ := Option.map_eq_some_iff.mp h
  unfold eqG at hb
  split at hb
  · split at hb <;> cases hb
    rename_i hk
    show (Option.or none (if okE 20 _ = true ∧ okE 20 _ = true then some (D.bl (eqN 20 _ _)) else none)) = _
    rw [if_pos hk]
    rfl
  · split at hb <;> cases hb
    rename_i hk
    show (Option.or none (if okE 20 _ = true ∧ okE 20 _ = true then some (D.bl (eqN 20 _ _)) else none)) = _
    rw [if_pos hk]
    rfl
  · show ((eqD d e).or _) = _
    unfold eqD
    rw [hb]
    rfl
theorem WN {pins : List (Addr × Obj)} {σ : St} {H : Hp} {s : Shared} {a : Addr} {xs : List V} {A : Around} {Q : Value → Shared → Prop} {E : Value → Shared → Prop} (I : Inv X pins σ H s) (hh : A.handled = none) (h : SqL X.K H a xs ∨ SqT X.K H a xs)
    (k : ∀ (it : Addr) (its : List Value) (fp wr : List Addr) (St : Nat → Heap → Prop) (s₂ : Shared), yu xs its → Walks X.prog X.w A it fp wr its.length (fun i v => its[i]? = some v) St → St 0 s₂.heap → (∀ b ∈ fp, b < s₂.heap.objs.size) →
      (∀ (h' : Heap) (tk : Nat), (∀ b o, b ∉ wr → s₂.heap.get? b = some o → h'.get? b = some o) → Inv X pins σ H { s₂ with heap := h', toks := tk }) → Q (.ref it) s₂) :
    wpAny (model X.prog X.w) A (pyIter (.ref a)) Q E s := by
  have back : ∀ {o : Obj} {s₂ : Shared}, s₂ = { s with heap := s.heap.push o } → ∀ (h' : Heap) (tk : Nat), (∀ b u, b ∉ [s.heap.objs.size] → s₂.heap.get? b = some u → h'.get? b = some u) → Inv X pins σ H { s₂ with heap := h', toks := tk } := fun {o s₂} e h' tk kk => by
    subst e
    exact I.kept (t' := tk) fun b u z => kk b u (by simpa using Nat.ne_of_lt (Heap.lt_size z)) (Heap.get?_push_of_some _ z)
  rcases h with h | h
  · obtain ⟨its, rv, p, hz⟩ := I.list h
    have lt : a < s.heap.objs.size := by obtain ⟨o, n, ho, _⟩ := p; exact Heap.lt_size ho
    refine wpAny_pyIter_list p.isList ?_
    have W := Walks.list (prog := X.prog) (w := X.w) (A := A) hh s.heap.objs.size a (Nat.ne_of_lt lt) its.toArray
    refine k s.heap.objs.size its [s.heap.objs.size, a] [s.heap.objs.size] (fun i h => h.IsListIter s.heap.objs.size a i ∧ h.IsList a its.toArray) _ rv (by simpa using W) ⟨⟨_, Heap.get?_push_size _ rfl, rfl, rfl⟩, p.isList.at fun o e => Heap.get?_push_of_some _ e⟩ (fun b hb => ?_) (back rfl)
    show b < (s.heap.push _).objs.size
    rw [Heap.size_push]
    rcases List.mem_cons.mp hb with rfl | hb
    · exact Nat.lt_succ_self _
    · rw [List.mem_singleton.mp hb]; exact Nat.lt_succ_of_lt lt
  · obtain ⟨its, rv, p, hz⟩ := I.tuple h
    have p' : s.heap.IsTuple a its.toArray := p
    have lt : a < s.heap.objs.size := by obtain ⟨o, ho, _⟩ := p; exact Heap.lt_size ho
    refine wpAny_pyIter_tuple p' ?_
    have W := Walks.tuple (prog := X.prog) (w := X.w) (A := A) hh s.heap.objs.size a (Nat.ne_of_lt lt) its.toArray
    refine k s.heap.objs.size its [s.heap.objs.size, a] [s.heap.objs.size] (fun i h => h.IsTupleIter s.heap.objs.size a i ∧ h.IsTuple a its.toArray) _ rv (by simpa using W) ⟨⟨_, Heap.get?_push_size _ rfl, rfl, rfl⟩, p'.at fun o e => Heap.get?_push_of_some _ e⟩ (fun b hb => ?_) (back rfl)
    show b < (s.heap.push _).objs.size
    rw [Heap.size_push]
    rcases List.mem_cons.mp hb with rfl | hb
    · exact Nat.lt_succ_self _
    · rw [List.mem_singleton.mp hb]; exact Nat.lt_succ_of_lt lt
end
end Dl
namespace Dl
open PySem L2
variable [KK]
omit [KK] in
theorem VE {bs : List Bool} : (List.range bs.length).all (fun i => bs.getD i false) = bs.all id := by
  have : bs = (List.range bs.length).map fun i => bs.getD i false := by
    apply List.ext_getElem
    · simp
    · intro i h1 h2
      simp [h1]
  conv => rhs; rw [this]
  rw [List.all_map]
  rfl
omit [KK] in
theorem zaK : ∀ (ns : List Int) (n : Nat), n ≤ ns.length → preSum (fun i => ns.getD i 0) n = (ns.take n).sum := by
  intro ns n
  induction n with
  | zero => intro _; simp [preSum]
  | succ n ih =>
    intro h
    show preSum (fun i => ns.getD i 0) n + ns.getD n 0 = _
    rw [ih (by omega), List.take_succ, List.sum_append]
    have : ns[n]? = some ns[n] := by simp [show n < ns.length by omega]
    simp [this]
section
variable {X : Cx}
omit [KK] in
theorem zcr {bs : List Bool} {its : List Value} {i : Nat} {v : Value} (r : yu (bs.map V.bl) its) (h : its[i]? = some v) : v = .bool (bs.getD i false) := by
  have hl := r.length
  have hi : i < its.length := (List.getElem?_eq_some_iff.mp h).1
  rw [List.length_map] at hl
  obtain ⟨u, hu, ru⟩ := r.get (i := i) (x := .bl (bs[i]'(by omega))) (by rw [List.getElem?_map]; simp [show i < bs.length by omega])
  rw [h] at hu
  cases hu
  cases ru
  simp [show i < bs.length by omega]
omit [KK] in
theorem zbJ {ns : List Int} {its : List Value} {i : Nat} {v : Value} (r : yu (ns.map V.int) its) (h : its[i]? = some v) : ∃ t, v = .int (ns.getD i 0) t := by
  have hl := r.length
  have hi : i < its.length := (List.getElem?_eq_some_iff.mp h).1
  rw [List.length_map] at hl
  obtain ⟨u, hu, ru⟩ := r.get (i := i) (x := .int (ns[i]'(by omega))) (by rw [List.getElem?_map]; simp [show i < ns.length by omega])
  rw [h] at hu
  cases hu
  obtain ⟨t, rfl⟩ := ru
  exact ⟨t, by simp [show i < ns.length by omega]⟩
theorem Xp (hc : X.calm = true) : v7 X (.builtin "all") (fun xs H Q => ∃ (p : Addr) (bs : List Bool), xs = [.ref p] ∧ (SqL X.K H p (bs.map V.bl) ∨ SqT X.K H p (bs.map V.bl)) ∧ Q (.bl (bs.all id)) H) := by
  intro pins s σ H xs us Q I r h
  obtain ⟨p, bs, rfl, hq, q⟩ := h
  obtain ⟨u, rfl, ru⟩ := ZX r
  cases ru
  refine call_all_walk (WN I (I.ok.hd hc) hq fun it its fp wr St s₂ rv W st fpl back => ?_)
  have hl := rv.length
  rw [List.length_map] at hl
  refine ⟨it, fp, wr, _, _, St, fun i => bs.getD i false, rfl, W, st, fun i v s Q E hv hQ => ?_, fun h' tk kk => ⟨.bl _, H, back h' tk kk, rfl, ?_⟩⟩
  · rw [zcr rv hv]
    exact wpAny_truthy_bool hQ
  · rw [← hl, VE]
    exact q
theorem Vs (hc : X.calm = true) : v7 X (.builtin "sum") (fun xs H Q => ∃ (p : Addr) (ns : List Int), xs = [.ref p] ∧ (SqL X.K H p (ns.map V.int) ∨ SqT X.K H p (ns.map V.int)) ∧ Q (.int ns.sum) H) := by
  intro pins s σ H xs us Q I r h
  obtain ⟨p, ns, rfl, hq, q⟩ := h
  obtain ⟨u, rfl, ru⟩ := ZX r
  cases ru
  refine call_sum_walkG (WN I (I.ok.hd hc) hq fun it its fp wr St s₂ rv W st fpl back => ?_)
  have hl := rv.length
  rw [List.length_map] at hl
  refine ⟨it, fp, wr, _, _, St, fun i => ns.getD i 0, rfl, W, st, fpl, fun i v hv => zbJ rv hv, fun h' tk t' kk => ⟨.int ns.sum, H, back h' tk kk, ?_, q⟩⟩
  refine ⟨t', ?_⟩
  rw [← hl, zaK ns _ (Nat.le_refl _), List.take_length]
noncomputable def zc1 : List D → Option (List Bool)
  | [] => some []
  | .bl b :: ds => (zc1 ds).map (b :: ·)
  | _ => none
noncomputable def zdd : List D → Option (List Int)
  | [] => some []
  | .int b :: ds => (zdd ds).map (b :: ·)
  | _ => none
omit [KK] in
theorem VL : ∀ {ds : List D} {bs : List Bool}, zc1 ds = some bs → ds = bs.map .bl
  | [], bs, h => by cases h; rfl
  | d :: ds, bs, h => by
    cases d <;> try cases h
    obtain ⟨cs, h1, rfl⟩ := Option.map_eq_some_iff.mp h
    rw [VL h1]
    rfl
omit [KK] in
theorem VJ : ∀ {ds : List D} {bs : List Int}, zdd ds = some bs → ds = bs.map .int
  | [], bs, h => by cases h; rfl
  | d :: ds, bs, h => by
    cases d <;> try cases h
    obtain ⟨cs, h1, rfl⟩ := Option.map_eq_some_iff.mp h
    rw [VJ h1]
    rfl
omit [KK] in
theorem zbG (bs : List Bool) : zc1 (bs.map .bl) = some bs := by
  induction bs with
  | nil => rfl
  | cons b r ih => show (zc1 (r.map .bl)).map (b :: ·) = _; rw [ih]; rfl
omit [KK] in
theorem zbI (bs : List Int) : zdd (bs.map .int) = some bs := by
  induction bs with
  | nil => rfl
  | cons b r ih => show (zdd (r.map .int)).map (b :: ·) = _; rw [ih]; rfl
theorem AtL.of_bls {H : Hp} : ∀ {ns : List Bool} {xs : List V}, AtL H (ns.map D.bl) xs → xs = ns.map V.bl
  | [], _, h => h.nil_inv
  | n :: r, _, h => by
    obtain ⟨x, r', rfl, h1, h2⟩ := AtL.cons_inv (by simpa using h)
    rw [h1.bl_inv, AtL.of_bls h2]
    rfl
noncomputable def zeC {α : Type} (as : List D → Option α) (g : α → Option D) : List D → Option D
  | [d] => ((yi d).bind as).bind g
  | _ => none
theorem VX {K : PySem.W.Frag} {F H : Hp} {vs : List V} {ds : List D} {z : D} {α : Type} {as : List D → Option α} {g : α → Option D} (s : yH F H) (al : AtL F ds vs) (e : zeC as g ds = some z) :
    ∃ p es xs b, vs = [.ref p] ∧ (SqL K H p xs ∨ SqT K H p xs) ∧ AtL F es xs ∧ as es = some b ∧ g b = some z := by
  unfold zeC at e
  split at e
  · obtain ⟨b, e1, e2⟩ := Option.bind_eq_some_iff.mp e
    obtain ⟨es, e3, e4⟩ := Option.bind_eq_some_iff.mp e1
    obtain ⟨x, r, rfl, ax, ar⟩ := al.cons_inv
    cases ar.nil_inv
    rename_i d
    cases d <;> cases e3
    · obtain ⟨p, xs, rfl, hx, bl⟩ := ax.tup_inv
      exact ⟨p, _, xs, b, rfl, .inr (SqT.of (s _ _ hx)), bl, e4, e2⟩
    · obtain ⟨p, xs, rfl, hx, bl⟩ := ax.lst_inv
      exact ⟨p, _, xs, b, rfl, .inl (SqL.of (s _ _ hx)), bl, e4, e2⟩
  · cases e
noncomputable def zdc := zeC zc1 fun bs => some (.bl (bs.all id))
noncomputable def zeO := zeC zdd fun ns => some (.int ns.sum)
theorem zae {K : PySem.W.Frag} : CaD (fun xs H Q => ∃ (p : Addr) (bs : List Bool), xs = [.ref p] ∧ (SqL K H p (bs.map V.bl) ∨ SqT K H p (bs.map V.bl)) ∧ Q (.bl (bs.all id)) H) zdc := by
  intro F H vs ds z Q s al e q
  obtain ⟨p, es, xs, bs, rfl, hq, bl, e1, e2⟩ := VX (K := K) s al e
  cases e2
  rw [VL e1] at bl
  rw [bl.of_bls] at hq
  exact ⟨p, bs, rfl, hq, q F H _ (.refl s) .bl⟩
theorem zcB {K : PySem.W.Frag} : CaD (fun xs H Q => ∃ (p : Addr) (ns : List Int), xs = [.ref p] ∧ (SqL K H p (ns.map V.int) ∨ SqT K H p (ns.map V.int)) ∧ Q (.int ns.sum) H) zeO := by
  intro F H vs ds z Q s al e q
  obtain ⟨p, es, xs, bs, rfl, hq, bl, e1, e2⟩ := VX (K := K) s al e
  cases e2
  rw [VJ e1] at bl
  rw [bl.of_ints] at hq
  exact ⟨p, bs, rfl, hq, q F H _ (.refl s) .int⟩
end
end Dl
namespace Dl
open PySem L2
variable [KK]
section
variable {X : Cx} {tg a b c e : Expr} {pos : Pos}
noncomputable def WI : List D → List D → List D
  | x :: xs, y :: ys => .tup [x, y] :: WI xs ys
  | _, _ => []
omit [KK] in
theorem WY : ∀ (xs ys : List D) (i : Nat), (WI xs ys)[i]? = match xs[i]?, ys[i]? with | some x, some y => some (.tup [x, y]) | _, _ => none
  | [], ys, i => by simp [WI]
  | x :: xs, [], i => by simp [WI]
  | x :: xs, y :: ys, 0 => by simp [WI]
  | x :: xs, y :: ys, i + 1 => by simpa [WI] using WY xs ys i
omit [KK] in
theorem Zd : ∀ (xs ys : List D), xs.length ≤ ys.length → (WI xs ys).length = xs.length
  | [], ys, _ => by simp [WI]
  | x :: xs, [], h => by simp at h
  | x :: xs, y :: ys, h => by simp [WI, Zd xs ys (by simpa using h)]
noncomputable def yW (f : Ev → Option (List D)) : Ev → Option (List D) := fun ρ => (f ρ).bind fun as => match as with
  | [d, e] => (yi d).bind fun xs => (yi e).bind fun ys => if xs.length ≤ ys.length then some (WI xs ys) else none
  | _ => none
theorem zdk {K : PySem.W.Frag} {F H : Hp} {d : D} {v : V} {ds : List D} (s : yH F H) (h : At F d v) (e : yi d = some ds) : ∃ b p xs, v = .ref p ∧ (∀ {F' H' : Hp}, yH F F' → yH F' H' → Sq b K H' p xs) ∧ AtL F ds xs := by
  cases d <;> cases e
  · obtain ⟨p, xs, rfl, hx, al⟩ := h.tup_inv
    exact ⟨false, p, xs, rfl, fun s1 s2 => SqT.of (s2 _ _ (s1 _ _ hx)), al⟩
  · obtain ⟨p, xs, rfl, hx, al⟩ := h.lst_inv
    exact ⟨true, p, xs, rfl, fun s1 s2 => SqL.of (s2 _ _ (s1 _ _ hx)), al⟩
theorem zdE {es : List Expr} {k : Nat} {tp p : Pos} {f : Ev → Option (List D)} (hg : Gl X "zip") (hm : X.mg "zip" = none) (ha : AD X [a, b] f)
    (hs : starEach [a, b] X.env = [(false, eval a X.env), (false, eval b X.env)] := by rfl) (hs2 : starEach [b] X.env = [(false, eval b X.env)] := by rfl) : ID X (.Tuple es k tp) (.Call (.Name "zip" p) [a, b] [] pos) (yW f) := by
  obtain ⟨t, pa, r⟩ := ha
  refine ⟨_, zdX hg hm zdT pa hs hs2, fun σ ρ F H ds R s va e q => ?_⟩
  obtain ⟨as, e1, e2⟩ := Option.bind_eq_some_iff.mp e
  refine r σ ρ F H as _ s va e1 fun F1 H1 v g1 a1 => ?_
  split at e2
  · obtain ⟨x, r', rfl, ax, ar⟩ := a1.cons_inv
    obtain ⟨y, r', rfl, ay, ar⟩ := ar.cons_inv
    cases ar.nil_inv
    obtain ⟨xs, e3, e2'⟩ := Option.bind_eq_some_iff.mp e2
    obtain ⟨ys, e4, e2''⟩ := Option.bind_eq_some_iff.mp e2'
    clear e2 e2' e
    split at e2'' <;> cases e2''
    rename_i hle
    obtain ⟨b1, p1, us, rfl, sq1, al⟩ := zdk (K := X.K) g1.fh ax e3
    obtain ⟨b2, p2, ws, rfl, sq2, bl⟩ := zdk (K := X.K) g1.fh ay e4
    refine ⟨b1, b2, p1, p2, us, ws, rfl, sq1 (yH.refl _) g1.fh, sq2 (yH.refl _) g1.fh, q F1 H1 _ g1 fun i F2 H2 s1 s2 => ?_⟩
    have q1 := sq1 s1 s2
    have q2 := sq2 s1 s2
    refine ⟨fun hl => ⟨us, q1, by rw [hl, Zd _ _ hle, al.length]⟩, fun d hd => ?_⟩
    rw [WY] at hd
    cases h1 : xs[i]? with
    | none => rw [h1] at hd; cases hd
    | some x =>
      cases h2 : ys[i]? with
      | none => rw [h1, h2] at hd; cases hd
      | some y =>
        rw [h1, h2] at hd
        cases hd
        obtain ⟨u, hu, au⟩ := al.get h1
        obtain ⟨u2, hu2, au2⟩ := bl.get h2
        refine ⟨⟨us, ws, u, u2, q1, q2, hu, hu2⟩, fun z H3 hz => ?_⟩
        obtain ⟨T, x', y', rfl, hT, rfl, hx', hy'⟩ := hz
        have e5 := hx' us q1
        have e6 := hy' ws q2
        rw [hu] at e5
        rw [hu2] at e6
        cases e5
        cases e6
        have g3 := Gr.alloc s2 hT (.tup [u, u2])
        exact ⟨_, g3, .tup zq (.cons (au.mono (s1.trans g3.ff)) (.cons (au2.mono (s1.trans g3.ff)) .nil))⟩
  · cases e2
noncomputable def yq (g : List D → Option (List D)) (f : Ev → Option (List D)) (b : D → SE → Option SE) (h : SE → Ctl) : SE → Ctl := fun ρ => match (f (visG ρ)).bind g with
  | some ds => VM b h ds ρ
  | none => .no
theorem ZU {p pos' : Pos} {body : List Stmt} {f : Ev → Option (List D)} {b' : D → SE → Option SE} {g : SE → Ctl} (hp : PassesOwn (model X.prog X.w) X.A X.env X.xe) (hc : X.calm = true) (hgl : Gl X "range") (hm : X.mg "range" = none) (ha : AD X [a] f) (hg : BD X tg b') (hb : SDs X body g)
    (hs0 : starEach [a] X.env = [(false, eval a X.env)] := by rfl) (hs : ∀ x, foldedSetIterable (.Call (.Name "range" p) [a] [] pos) X.env x = pure x := by intro _; rfl) : SD X (.For tg (.Call (.Name "range" p) [a] [] pos) body [] pos') (yq wL f b' g) := by
  obtain ⟨t, pa, r⟩ := ha
  obtain ⟨tg', pg, rg⟩ := hg
  obtain ⟨tb, pb, rb⟩ := hb
  refine ⟨_, zb1 hp hc (zaC hgl hm pa hs0) pg pb hs, fun Fb Hb F H ρ σ E rl k => ?_⟩
  unfold yq at k
  cases h : (f (visG ρ)).bind wL with
  | none => rw [h] at k; exact k.elim
  | some ds =>
    rw [h] at k
    obtain ⟨as, e1, e2⟩ := Option.bind_eq_some_iff.mp h
    refine r σ _ _ H as _ rl.gh rl.visG e1 fun F1 H1 vs g1 a1 => ?_
    have rl2 := rl.grow (rl.back g1).1
    unfold wL at e2
    split at e2
    · split at e2 <;> cases e2
      rename_i hc
      obtain ⟨x, r', rfl, ax, ar⟩ := a1.cons_inv
      cases ar.nil_inv
      exact ⟨_, by rw [ax.int_inv], (xC.mp hc).1, (xC.mp hc).2, zb9 (zbU 0 _) rg rb rl2 k⟩
    · cases e2
end
theorem zcL {P : Program} {w : World} {K : PySem.W.Frag} {mg : Str → Option Value} {base : Heap} {f : Addr} {fd : FuncData} {ps : List Str} {k m : Nat} : xx P w K mg base CX0 k f fd ps (spD m fun _ => none) := by
  refine ⟨fun vs H Q E h => ?_, fun A outer s H args us vs Q E _ _ _ _ h => ?_⟩
  · obtain ⟨_, _, _, _, _, _, e, _⟩ := h
    cases e
  · obtain ⟨_, _, _, _, _, _, e, _⟩ := h
    cases e
noncomputable def zeu (n : Nat) (g : (List D → Option D) → SE → Ctl) : Nat → List D → Option D
  | 0 => fun _ => none
  | k + 1 => fnD n (g (zeu n g k))
theorem zeb {P : Program} {w : World} {K : PySem.W.Frag} {mg : Str → Option Value} {base : Heap} {x qual : Str} {st : Stmt} {f : Addr} {fd : FuncData} {N ps : List Str} {k0 : Nat} {g : (List D → Option D) → SE → Ctl} (Fu : Fun K x qual st f fd) (S : zw N ps (zi st))
    (hb : ∀ (k : Nat) (r : List D → Option D), xx P w K mg base CX0 (k0 + k) f fd ps (spD ps.length r) → ∀ (cdv : Value) (A : Around) (outer : List Env) (s : Shared) (H : Hp) (E : XK), YQ (k0 + k) (A.deeper (PyProof.Rows.envOfC qual (zi st) s.heap.objs.size f cdv)) → SDs (zb0 CX0 P w K mg base N qual (zi st) f cdv A outer s H E).nox (xT st) (g r)) :
    ∀ n, xx P w K mg base CX0 (k0 + n) f fd ps (spD ps.length (zeu N.length g n)) := by
  intro n
  induction n with
  | zero => exact zcL
  | succ n ih => exact xy Fu S fun cdv A outer s H E hr => hb n _ ih cdv A outer s H E hr
noncomputable def VU (K : PySem.W.Frag) : Sp := fun vs H Q _ => ∃ (a : Addr) (ns : List Int), vs = [.ref a] ∧ SqL K H a (ns.map V.int) ∧ ns.length ≤ 63 ∧ ∀ H', Q (.bl true) H'
end Dl
namespace Dl
open PySem L2
theorem zef {P : Program} {w : World} {K : PySem.W.Frag} {mg : Str → Option Value} {base : Heap} {f : Addr} {fd : FuncData} {ps : List Str} {k : Nat} {p : List D → Option D} (F : xx P w K mg base CX0 k f fd ps (@spD ⟨K⟩ 1 p)) (h : ∀ ns : List Int, ns.length ≤ 63 → p [.scr ns] = some (.bl true)) :
    xx P w K mg base CX0 k f fd ps (VU K) := by
  letI : KK := ⟨K⟩
  refine F.imp fun vs H Q E hs => ?_
  obtain ⟨a, ns, rfl, hq, hl, q⟩ := hs
  refine ⟨[.scr ns], .bl true, H, rfl, yH.refl _, .cons ?_ .nil, h ns hl, fun F' H' v _ av => ?_⟩
  · unfold At
    exact ⟨a, rfl, hq⟩
  · rw [av.bl_inv]
    exact q H'
structure Def (K : PySem.W.Frag) (mg : Str → Option Value) (x : Str) (st : Stmt) (ps : List Str) (f : Addr) (fd : FuncData) : Prop where
  fn : Fun K x x st f fd
  bd : Wr K fd ps []
  at_ : mg x = some (.ref f)
theorem Def.kp {K : PySem.W.Frag} {mg : Str → Option Value} {x : Str} {st : Stmt} {ps : List Str} {f : Addr} {fd : FuncData} (d : Def K mg x st ps f fd) : PySem.W.keepIn K (.ref f) = true := d.fn.kp
inductive Ctl.w : Ctl → (SE → Prop) → (SE → Prop) → (SE → Prop) → (D → Prop) → Prop where
  | nx {ρ : SE} {n b k : SE → Prop} {r : D → Prop} : n ρ → Ctl.w (.nx ρ) n b k r
  | bk {ρ : SE} {n b k : SE → Prop} {r : D → Prop} : b ρ → Ctl.w (.bk ρ) n b k r
  | ct {ρ : SE} {n b k : SE → Prop} {r : D → Prop} : k ρ → Ctl.w (.ct ρ) n b k r
  | rt {d : D} {n b k : SE → Prop} {r : D → Prop} : r d → Ctl.w (.rt d) n b k r
section
variable {ρ : SE} {d : D} {n b k : SE → Prop} {r : D → Prop}
theorem Ctl.w.nxi (h : Ctl.w (.nx ρ) n b k r) : n ρ := by cases h; assumption
theorem Ctl.w.bki (h : Ctl.w (.bk ρ) n b k r) : b ρ := by cases h; assumption
theorem Ctl.w.cti (h : Ctl.w (.ct ρ) n b k r) : k ρ := by cases h; assumption
theorem Ctl.w.rti (h : Ctl.w (.rt d) n b k r) : r d := by cases h; assumption
theorem Ctl.w.noi (h : Ctl.w .no n b k r) : False := by cases h
end
noncomputable abbrev noP : SE → Prop := fun _ => False
section
variable {g h : SE → Ctl} {ρ ρ' : SE} {n b k : SE → Prop} {r : D → Prop}
theorem xJ (e : (g ρ).w (fun ρ' => (h ρ').w n b k r) b k r) : (zY g h ρ).w n b k r := by
  unfold zY
  cases hg : g ρ with
  | nx ρ' => rw [hg] at e; exact e.nxi
  | bk ρ' => rw [hg] at e; exact .bk e.bki
  | ct ρ' => rw [hg] at e; exact .ct e.cti
  | rt d => rw [hg] at e; exact .rt e.rti
  | no => rw [hg] at e; exact e.noi.elim
theorem zy (e : g ρ = .nx ρ') (q : (h ρ').w n b k r) : (zY g h ρ).w n b k r := xJ (by rw [e]; exact .nx q)
theorem Zf (e : g ρ = .nx ρ') (q : n ρ') : (g ρ).w n b k r := by rw [e]; exact .nx q
theorem Zc {d : D} (e : g ρ = .rt d) (q : r d) : (g ρ).w n b k r := by rw [e]; exact .rt q
theorem YJ {t : Ev → Option Bool} {c : Bool} (e : t (visG ρ) = some c) (h1 : c = true → (g ρ).w n b k r) (h2 : c = false → (h ρ).w n b k r) : (sIf t g h ρ).w n b k r := by
  unfold sIf
  rw [e]
  cases c with
  | true => exact h1 rfl
  | false => exact h2 rfl
theorem zeJ {i : Nat} (e : zeF ρ i = ρ') (q : (g ρ').w n b k r) : (sFz i g ρ).w n b k r := by
  unfold sFz
  rw [e]
  exact q
theorem zaI {bd : D → SE → Option SE} (I : Nat → SE → Prop) : ∀ (ds : List D) (j : Nat) (ρ : SE), I j ρ →
    (∀ i d ρ, ds[i]? = some d → I (j + i) ρ → ∃ ρ1, bd d ρ = some ρ1 ∧ (g ρ1).w (I (j + i + 1)) n (I (j + i + 1)) r) → (∀ ρ, I (j + ds.length) ρ → n ρ) → (VM bd g ds ρ).w n b k r
  | [], j, ρ, h0, _, fin => .nx (fin ρ h0)
  | d :: ds, j, ρ, h0, step, fin => by
    obtain ⟨ρ1, e1, e2⟩ := step 0 d ρ rfl h0
    unfold VM
    rw [e1]
    dsimp only
    have next : ∀ ρ', I (j + 1) ρ' → (VM bd g ds ρ').w n b k r := fun ρ' h' => zaI I ds (j + 1) ρ' h'
      (fun i d' ρ hd hI => by
        have := step (i + 1) d' ρ (by simpa using hd) (by rw [show j + (i + 1) = j + 1 + i by omega]; exact hI)
        rwa [show j + (i + 1) + 1 = j + 1 + i + 1 by omega] at this)
      (fun ρ hI => fin ρ (by rw [List.length_cons, show j + (ds.length + 1) = j + 1 + ds.length by omega]; exact hI))
    cases hg : g ρ1 with
    | nx ρ' => rw [hg] at e2; exact next ρ' e2.nxi
    | ct ρ' => rw [hg] at e2; exact next ρ' e2.cti
    | bk ρ' => rw [hg] at e2; exact .nx e2.bki
    | rt d' => rw [hg] at e2; exact .rt e2.rti
    | no => rw [hg] at e2; exact e2.noi.elim
theorem Wb {f : Ev → Option (List D)} {bd : D → SE → Option SE} {ds : List D} (I : Nat → SE → Prop) (e : f (visF ρ) = some ds) (h0 : I 0 ρ)
    (step : ∀ i d ρ, ds[i]? = some d → I i ρ → ∃ ρ1, bd d ρ = some ρ1 ∧ (g ρ1).w (I (i + 1)) n (I (i + 1)) r) (fin : ∀ ρ, I ds.length ρ → n ρ) : (wF f bd g ρ).w n b k r := by
  unfold wF
  rw [e]
  exact zaI I ds 0 ρ h0 (fun i d ρ hd hI => by rw [Nat.zero_add] at hI ⊢; exact step i d ρ hd hI) (fun ρ hI => fin ρ (by rw [Nat.zero_add] at hI; exact hI))
theorem zaF {f : Ev → Option (List D)} {bd : D → SE → Option SE} {rg : List D → Option (List D)} {lo : Int} {c : Nat} (I : Nat → SE → Prop) (e : (f (visG ρ)).bind rg = some (Zj lo c)) (h0 : I 0 ρ)
    (step : ∀ (i : Nat) ρ, i < c → I i ρ → ∃ ρ1, bd (.int (lo + i)) ρ = some ρ1 ∧ (g ρ1).w (I (i + 1)) n (I (i + 1)) r) (fin : ∀ ρ, I c ρ → n ρ) : (yq rg f bd g ρ).w n b k r := by
  unfold yq
  rw [e]
  refine zaI I (Zj lo c) 0 ρ h0 (fun i d ρ hd hI => ?_) (fun ρ hI => fin ρ ?_)
  · rw [Nat.zero_add] at hI ⊢
    unfold Zj at hd
    rw [List.getElem?_map] at hd
    by_cases hi : i < c
    · rw [List.getElem?_range hi] at hd
      cases hd
      exact step i ρ hi hI
    · rw [List.getElem?_eq_none (by simpa using hi)] at hd
      cases hd
  · rw [Nat.zero_add] at hI
    rwa [show (Zj lo c).length = c by unfold Zj; simp] at hI
end
theorem XW {m : Nat} {g : SE → Ctl} {ds : List D} {d : D} {ρ : SE} (e : ds.map .v ++ List.replicate (m - ds.length) .no = ρ) (q : (g ρ).w (fun _ => d = .non) noP noP (fun d' => d' = d)) : fnD m g ds = some d := by
  unfold fnD
  rw [e]
  cases hg : g ρ with
  | nx ρ' => rw [hg] at q; rw [show d = .non from q.nxi]
  | rt d' => rw [hg] at q; rw [show d' = d from q.rti]
  | bk _ => rw [hg] at q; exact q.bki.elim
  | ct _ => rw [hg] at q; exact q.cti.elim
  | no => rw [hg] at q; exact q.noi.elim
theorem zcc {m : Bool} {i : Nat} {f : Ev → Option D} {ρ : SE} {ds : List D} {d : D} (h1 : vEv m f ρ = some d) (h2 : ρ[i]? = some (.o ds)) (h3 : ds.length ≤ 1000) : wO m i f ρ = .nx (ρ.set i (.o (ds ++ [d]))) := by
  unfold wO
  rw [h1, h2]
  show (match (if decide (ds.length < sizeLine) = true then some (ρ.set i (.o (ds ++ [d]))) else none) with | some ρ' => Ctl.nx ρ' | none => Ctl.no) = _
  rw [if_pos (decide_eq_true (YX h3))]
theorem Ye {b : D → Option (List (Option D))} {t : Ev → Option Bool} {f : Ev → Option D} {ρ : Ev} {α : Type} (c : α → D) (y : α → D) : ∀ (xs : List α), (∀ x ∈ xs, ∃ own, b (c x) = some own ∧ t (own ++ ρ) = some true ∧ f (own ++ ρ) = some (y x)) → lcD b t f ρ (xs.map c) = some (xs.map y)
  | [], _ => rfl
  | x :: xs, h => by
    obtain ⟨own, h1, h2, h3⟩ := h x List.mem_cons_self
    show lcD b t f ρ (c x :: xs.map c) = _
    unfold lcD
    rw [h1]
    simp only [Option.bind_some, h2, if_true, h3, Ye c y xs fun z hz => h z (List.mem_cons_of_mem _ hz)]
    rfl
mutual
noncomputable def noS : D → Bool
  | .tup ds => zaU ds
  | .lst ds => zaU ds
  | .scr _ => false
  | _ => true
noncomputable def zaU : List D → Bool
  | [] => true
  | d :: ds => noS d && zaU ds
end
theorem wo : ∀ {ds : List D} {i : Nat} {d : D}, zaU ds = true → ds[i]? = some d → noS d = true
  | [], _, _, _, h => by simp at h
  | d :: ds, i, e, h, he => by
    unfold zaU at h
    rw [Bool.and_eq_true] at h
    cases i with
    | zero => simp at he; subst he; exact h.1
    | succ i => exact wo h.2 (by simpa using he)
theorem wA {n : Nat} (h : n ≤ 1000) : lim n = true := by
  unfold lim
  exact decide_eq_true (Nat.le_of_lt (YX h))
theorem Wj (lo : Int) (n : Nat) : (Zj lo n).length = n := by unfold Zj; simp
end Dl
namespace Dl
open PySem L2
noncomputable abbrev Pr := Int × Int
variable [KK]
end Dl
namespace Dl
open PySem L2
variable [KK]
section
variable {X : Cx} {a e : Expr}
noncomputable def Y1 (m : D → D → Option D) (f : Ev → Option D) (g : Ev → Option (List D)) : Ev → Option D := fun ρ => (f ρ).bind fun c => (g ρ).bind fun ds => match ds with
  | [d] => m c d
  | _ => none
end
end Dl
namespace Dl
open PySem L2
section
variable [KK]
section
variable {κ : Type} [DecidableEq κ] (f : κ → List Key) (hf : ∀ a b, f a = f b → a = b)
include hf
end
end
end Dl
namespace L2
open PySem PySem.Spec PyProof.Rows
open Sem (wp)
section
variable {prog : Program} {w : World} {A : Around} {E : Value → Shared → Prop} {h : Heap} {g : Array GenState} {d : Drawn} {t : Nat} {os : OsState}
  {nm q : Str} {C N fI : Addr} {bs bm : List Value} {hdct : Bool} {sn : List Str} {sub : List Value} {ab : Bool} {col : Option Bool} {dd : Option Addr} {k0 k1 k2 k3 k5 : Option Value} {mN : Str → Option Value} {us : List Value} {oI : Obj}
end
end L2
namespace L2
open PySem PySem.Spec PyProof.Rows
section
variable {prog : Program} {w : World} {A : Around} {E : Value → Shared → Prop} {s : Shared} {env : Env}
  {nm q : Str} {C N fI : Addr} {bs bm : List Value} {hdct : Bool} {sn : List Str} {sub : List Value} {ab : Bool} {col : Option Bool} {dd : Option Addr} {k0 k1 k2 k3 k5 : Option Value} {mN : Str → Option Value} {oI : Obj}
end
end L2
namespace OwnTim
open PySem PyProof.Rows
noncomputable abbrev KA := Array Keyed
noncomputable abbrev dn (v u o : KA) (i j : Nat) : KA := o ++ v.extract i v.size ++ u.extract j u.size
noncomputable abbrev ls (v u o : KA) (i j : Nat) : KA := o ++ u.extract j u.size ++ v.extract i v.size
noncomputable def ky (κ : KeyKind) (x : Keyed) : κ.α := (κ.keyOf x.1).getD κ.dflt
noncomputable def LE (κ : KeyKind) (x y : Keyed) : Prop := κ.kle (ky κ x) (ky κ y)
noncomputable abbrev fh (v u o : KA) (i j : Nat) : KA := u.extract 0 j ++ v.extract 0 i ++ o.reverse
noncomputable abbrev Pd := Array (Nat × Nat × Nat)
noncomputable abbrev g2 (r : Nat × Nat × Nat) : Nat × Nat := (r.1, r.2.1)
end OwnTim
namespace OwnSortT
open PySem PyProof.Rows OwnSort
theorem zc9 : ∀ a : List Int, HT.lexLt a a = false := by
  intro a
  induction a with
  | nil => rfl
  | cons x xs ih => rw [HT.lexLt_cons, if_pos rfl, ih]
theorem Xr : ∀ a b c : List Int, HT.lexLt a b = true → HT.lexLt b c = true → HT.lexLt a c = true := by
  intro a
  induction a with
  | nil =>
    intro b c h1 h2
    cases c with
    | nil => cases b <;> cases h2
    | cons _ _ => rfl
  | cons x xs ih =>
    intro b c h1 h2
    cases b with
    | nil => cases h1
    | cons y ys => cases c with
      | nil => cases h2
      | cons z zs =>
        rw [HT.lexLt_cons] at h1 h2 ⊢
        by_cases e1 : x = y
        · rw [if_pos e1] at h1
          by_cases e2 : y = z
          · rw [if_pos e2] at h2; rw [if_pos (e1.trans e2)]; exact ih _ _ h1 h2
          · rw [if_neg e2, decide_eq_true_eq] at h2; rw [if_neg (by omega), decide_eq_true_eq]; omega
        · rw [if_neg e1, decide_eq_true_eq] at h1
          by_cases e2 : y = z
          · rw [if_neg (by omega), decide_eq_true_eq]; omega
          · rw [if_neg e2, decide_eq_true_eq] at h2; rw [if_neg (by omega), decide_eq_true_eq]; omega
theorem XH : ∀ a b : List Int, HT.lexLt a b = false → HT.lexLt b a = false → a = b := by
  intro a
  induction a with
  | nil =>
    intro b h1 h2
    cases b with
    | nil => rfl
    | cons _ _ => cases h1
  | cons x xs ih =>
    intro b h1 h2
    cases b with
    | nil => cases h2
    | cons y ys =>
      rw [HT.lexLt_cons] at h1 h2
      by_cases e : x = y
      · rw [if_pos e] at h1; rw [if_pos e.symm] at h2; rw [e, ih _ h1 h2]
      · rw [if_neg e, decide_eq_false_iff_not] at h1; rw [if_neg (Ne.symm e), decide_eq_false_iff_not] at h2; omega
theorem zcq (a b c : List Int) (h : HT.lexLt a c = true) : HT.lexLt a b = true ∨ HT.lexLt b c = true := by
  cases h1 : HT.lexLt a b with
  | true => exact .inl rfl
  | false =>
    refine .inr ?_
    cases h2 : HT.lexLt b a with
    | true => exact Xr _ _ _ h2 h
    | false => rw [← XH _ _ h1 h2]; exact h
noncomputable def TT (h : Heap) (v : Value) (t : List Int) : Prop := ∃ a o n its, v = .ref a ∧ h.get? a = some o ∧ o.cls = .type "tuple" ∧ o.data = .seq its.toArray n ∧ IntsAre its t ∧ t ≠ []
theorem zaR : ∀ {vs : List Value} {ns ms : List Int}, IntsAre vs ns → IntsAre vs ms → ns = ms := by
  intro vs ns ms h
  induction h generalizing ms with
  | nil => intro h2; cases h2; rfl
  | cons n t h ih => intro h2; cases h2 with | cons n' t' h' => rw [ih h']
theorem TT.uniq {h : Heap} {v : Value} {s t : List Int} (x : TT h v s) (y : TT h v t) : s = t := by
  obtain ⟨a, o, n, its, rfl, e1, _, d1, i1, _⟩ := x
  obtain ⟨b, p, m, its', e, e2, _, d2, i2, _⟩ := y
  cases e
  rw [e1] at e2
  cases e2
  rw [d1] at d2
  have e3 : its.toArray = its'.toArray := by injection d2
  cases List.toArray_inj e3
  exact zaR i1 i2
open Classical in
noncomputable def zfa (h : Heap) (v : Value) : Option (List Int) := if x : ∃ t, TT h v t then some x.choose else none
@[reducible] noncomputable def kindTT (h : Heap) : KeyKind where
  α := List Int
  blt := HT.lexLt
  irrefl := zc9
  trans := Xr
  negTrans := zcq
  total := XH
  keyOf := zfa h
  dflt := []
end OwnSortT
namespace Dl
open PySem L2
noncomputable def b3 : D → Option (List (Option D))
  | .tup [x, y, z] => some [some x, some y, some z]
  | _ => none
end Dl
namespace Dl
open PySem L2
variable [KK]
theorem edv {X : Cx} (i : Nat) {x : Str} {pos : Pos} (hN : X.N[i]? = some x := by rfl) (hv : Vis X.env.scope x := by first | exact Or.inl rfl | exact Or.inr (Or.inl rfl) | exact Or.inr (Or.inr rfl)) (hd : (x == ("__debug__" : Str)) = false := by decide)
    (hcd : (x == ("__classdict__" : Str)) = false := by decide) : ED X (.Name x pos) (zc i) := zd7 i (pv i hN hv hd hcd)
theorem zk {X : Cx} {x : Str} {j k m : Nat} {f : Addr} {fd : FuncData} {ps : List Str} {st : Stmt} {p : List D → Option D} {e : Expr} {es : List Expr} {pp pos : Pos} {fa : Ev → Option (List D)} (F : xx X.prog X.w X.K X.mg X.base CX0 j f fd ps (spD m p)) (hr : YQ k X.A) (hg : Gl X x) (d : Def X.K X.mg x st ps f fd)
    (ha : AD X (e :: es) fa) (hj : j ≤ k := by decide) (hdb : (x == ("__debug__" : Str)) = false := by decide) (he : starEach (e :: es) X.env = (false, eval e X.env) :: starEach es X.env := by rfl) (hpl : (backTo pos (starEach es X.env)).any (·.1) = false := by rfl) :
    ED X (.Call (.Name x pp) (e :: es) [] pos) (zm m p fa) := zah (F.mono hj) hr hg d.at_ d.kp d.bd ha hdb he hpl
end Dl
namespace L2
open PySem PySem.Spec PyProof.Rows
theorem zar : ∀ {ts : List Str} {its : List Value}, yu (ts.map V.str) its → ∃ l : List (Str × Tok), its = strValues l ∧ l.map (·.1) = ts := by
  intro ts
  induction ts with
  | nil => intro its h; cases h; exact ⟨[], rfl, rfl⟩
  | cons x ts ih =>
    intro its h
    cases h with
    | cons r t =>
      obtain ⟨u, rfl⟩ := r
      obtain ⟨l, rfl, e⟩ := ih t
      exact ⟨(x, u) :: l, rfl, by rw [List.map_cons, e]⟩
theorem VO (l : List (Str × Tok)) : yu ((l.map (·.1)).map V.str) (strValues l) := by
  induction l with
  | nil => exact .nil
  | cons p l ih => exact .cons ⟨p.2, rfl⟩ ih
section
variable {X : Cx}
noncomputable def zdr (K : PySem.W.Frag) : V → List V → Hp → VK → Prop := fun x vs H Q => ∃ sep p ts, x = .str sep ∧ vs = [.ref p] ∧ SqL K H p (ts.map V.str) ∧ JoinOk sep ts = true ∧ Q (.str (Txt.join sep ts)) H
theorem ZG : MtM X "str.join" (zdr X.K) := by
  intro pins s σ H x vs v us Q I rx rv h
  obtain ⟨sep, p, ts, rfl, rfl, hq, hok, q⟩ := h
  obtain ⟨t, rfl⟩ := rx
  obtain ⟨u, rfl, ru⟩ := rv.one
  cases ru
  obtain ⟨its, r, pl, hz⟩ := I.list hq
  obtain ⟨l, rfl, hl⟩ := zar r
  exact SC.join (D := p) pl.isList hl hok fun t' k => ⟨.str _, H, I.tok _, ⟨_, rfl⟩, q⟩
theorem VZ {prog : Program} {w : World} {A : Around} {E : Value → Shared → Prop} {s : Shared} {a b : Str} {ta tb : Tok} {Q : Value → Shared → Prop} (hb : (b.length == 0) = false) (hl : a.length + 2 ≤ sizeLine)
    (q : ∀ (l : List (Str × Tok)) (k : Nat), l.map (·.1) = Txt.split a b → Q (.ref s.heap.objs.size) { s with heap := s.heap.push { cls := .type "list", data := .seq (strValues l).toArray }, toks := k }) :
    wpAny (model prog w) A (call (.builtin "str.split") [.str a ta, .str b tb]) Q E s := by
  have few : (Builtin.Str.partsBetween a (Builtin.Str.occurrences a b 0 a.length (a.length + 1)) b.length).length ≤ sizeLine := by
    have z := StrLaws.occ_length_le a b 0 a.length (a.length + 1)
    rw [length_partsBetween]
    omega
  cases c1 : (decide (a.length < b.length) || decide (Builtin.Str.strKind a < Builtin.Str.strKind b)) with
  | true => exact call_meets F.slot_str_split (typeIs_str s a ta) F.entry_str_split (F.args_str_split_2 _ _) (meets_str_split_cannot_occur a b ta tb c1) (q [(a, ta)] s.toks (by unfold Txt.split; rw [if_pos c1]; rfl))
  | false =>
    cases c2 : (Builtin.Str.occurrences a b 0 a.length (a.length + 1)).isEmpty with
    | true => exact call_meets F.slot_str_split (typeIs_str s a ta) F.entry_str_split (F.args_str_split_2 _ _) (meets_str_split_not_found a b ta tb c1 hb c2) (q [(a, ta)] s.toks (by unfold Txt.split; rw [if_neg (by rw [c1]; decide), if_pos c2]; rfl))
    | false =>
      refine call_meets F.slot_str_split (typeIs_str s a ta) F.entry_str_split (F.args_str_split_2 _ _) (meets_str_split_sep a b ta tb c1 hb c2 (by omega) few) ?_
      have z := q (numbered s.toks (Builtin.Str.partsBetween a (Builtin.Str.occurrences a b 0 a.length (a.length + 1)) b.length))
      rw [← strsFrom_eq] at z
      exact z _ (by rw [numbered_texts]; unfold Txt.split; rw [if_neg (by rw [c1]; decide), if_neg (by rw [c2]; decide)])
noncomputable def zbT : V → List V → Hp → VK → Prop := fun x vs H Q => ∃ a b, x = .str a ∧ vs = [.str b] ∧ (b.length == 0) = false ∧ a.length + 2 ≤ sizeLine ∧ (Txt.split a b).length ≤ sizeLine ∧ ∀ l, H l = none → Q (.ref l) (upd H l (.lst ((Txt.split a b).map V.str)))
theorem WQ : MtM X "str.split" zbT := by
  intro pins s σ H x vs v us Q I rx rv h
  obtain ⟨a, b, rfl, rfl, hb, hl, hn, q⟩ := h
  obtain ⟨t, rfl⟩ := rx
  obtain ⟨u, rfl, t', rfl⟩ := rv.one
  refine VZ hb hl fun l k e => ?_
  refine ⟨.ref _, _, I.lnew (ys := (Txt.split a b).map V.str) (its := strValues l) (by rw [← e]; exact VO l) (by rw [List.length_map]; exact hn), rfl, q _ I.fresh⟩
theorem Xl : v7 X (.type "int") (fun xs H Q => ∃ a n, xs = [.str a] ∧ a.length ≤ 640 ∧ intText? a = some n ∧ Q (.int n) H) := by
  intro pins s σ H xs us Q I r h
  obtain ⟨a, n, rfl, hl, hn, q⟩ := h
  obtain ⟨u, rfl, t, rfl⟩ := ZX r
  exact call_int_1 (PySem.W.KIN.gives_text hl hn).meets (show (Made.int n).post _ s from ⟨rfl, .int n, H, I.tok _, ⟨_, rfl⟩, q⟩)
noncomputable def Its (a : Str) : It := ⟨fun i _ => i < a.cps.size, fun i H x H' => H' = H ∧ ∃ c, a.cps[i]? = some c ∧ x = .str ⟨#[c]⟩, fun i _ => a.cps.size ≤ i⟩
theorem zbm {P : Program} {w : World} {K : PySem.W.Frag} {tg : Expr} (a : Str) (t : Tok) (it : Addr) : zbp P w K tg (Its a) [it] it (fun i h => h.IsStrIter it "str_ascii_iterator" a t i) where
  mem := List.mem_singleton.mpr rfl
  obj := fun i h st b hb => by
    obtain rfl := List.mem_singleton.mp hb
    obtain ⟨o, e, _, d⟩ := st
    exact ⟨o, e, fun v z => by rw [d] at z; cases z⟩
  keep := fun i h h' st k => by
    obtain ⟨o, e, r⟩ := st
    exact ⟨o, k it (List.mem_singleton.mpr rfl) o e, r⟩
  item := by
    intro X hP hw hK hc i pins s σ H E I hf st hg
    subst hP hw hK
    have hg : i < a.cps.size := hg
    obtain ⟨f0, f1, f2, f3, f4, f5⟩ := hf it (List.mem_singleton.mpr rfl)
    refine wpAny_pyNext_ascii_item st (c := a.cps[i]) (Array.getElem?_eq_getElem hg) fun h' st' sb => ?_
    have I1 : Inv X pins σ H { s with heap := h', toks := s.toks + 1 } := I.turned (t' := s.toks + 1) (fun b o hb e => (sb.2 b hb).trans e) f0 f1 f3 f4 f5
    obtain ⟨o, e, c, d⟩ := id st'
    exact ⟨_, rfl, zbk (s := { s with heap := h', toks := s.toks + 1 }) e c d (by decide) ⟨.str ⟨#[a.cps[i]]⟩, H, I1, ⟨_, rfl⟩, ⟨rfl, _, Array.getElem?_eq_getElem hg, rfl⟩, st', fun b hb => (hf b hb).1⟩⟩
  done := by
    intro X hP hw hK hc i pins s σ H E I hf st hg
    subst hP hw hK
    have hg : a.cps.size ≤ i := hg
    obtain ⟨f0, f1, f2, f3, f4, f5⟩ := hf it (List.mem_singleton.mpr rfl)
    exact wpAny_pyNext_ascii_end (I.ok.hd hc) st (Array.getElem?_eq_none hg) fun h' eb => ⟨rfl, I.turned (t' := s.toks) (fun b o hb e => eb b o hb e) f0 f1 f3 f4 f5⟩
  self := fun _ _ _ _ _ st h => wpAny_pyIter_striter_ascii st h
noncomputable def iTxt (t : TE) : TI := fun σ H R => t σ H fun x H1 => ∃ a, x = .str a ∧ a.cps.all (· < 128) = true ∧ R (Its a) H1
theorem zem {tg e : Expr} {t : TE} (h : PE X e t) : PI X tg e (iTxt t) := by
  intro pins s σ H R I q
  refine thn (h pins s σ H _ I q) fun v s1 hh9 => ?_
  obtain ⟨x, H1, I1, r1, q1⟩ := hh9
  obtain ⟨a, rfl, ha, q⟩ := q1
  obtain ⟨u, rfl⟩ := r1
  refine wpAny_pyIter_ascii ha ?_
  refine ⟨_, [s1.heap.objs.size], _, Its a, H1, rfl, I1.kept (t' := s1.toks) (fun b o e => Heap.get?_push_of_some _ e), zbm a u _, ⟨_, Heap.get?_push_size _ rfl, rfl, rfl⟩, fun b hb => ?_, q⟩
  rw [List.mem_singleton.mp hb]
  exact I1.fpOk (Nat.le_refl _) (I1.hok.fresh (Nat.le_refl _))
end
end L2
namespace PySem
open Sem (wp)
open AutoSeq1 (wpAny_loadPart')
theorem ZQ (l : Addr) (items : Array Value) (n : Nat) (tk2 : Tok) :
    Meets (Builtin.«enumerate.__new__» ⟨[.type "enumerate", .ref l], [(Str.ofString "start", .int 2 tk2)]⟩) (fun _ R s => s.heap.get? l = some { cls := .type "list", dict := none, data := .seq items n, slots := #[] } ∧
      R (.ok (.ret (.ref (s.heap.push { cls := .type "list_iterator", data := .fields #[.ref l, .int 0 0] }).objs.size)))
        { s with heap := (s.heap.push { cls := .type "list_iterator", data := .fields #[.ref l, .int 0 0] }).push { cls := .type "enumerate", data := .fields #[.none, .bool false, .ref s.heap.objs.size, rawInt 2, .none, .none] } }) :=
  .of_wp fun prog w A R s h => by
    obtain ⟨hp, g, d, tk, os⟩ := s; obtain ⟨hl, h⟩ := h
    have hsub := sub_enumerate
    have hL : Heap.IsList (Shared.heap ⟨hp, g, d, tk, os⟩) l items := ⟨_, hl, rfl, n, rfl⟩
    wp_walk using wpAny_loadPart' hl
    refine wpAny_stack_any fun st => wpAny_pure ?_
    split
    · rename_i c _ _ _ _ _
      cases (c == Value.type "enumerate")
      · wp_walk using wpAny_loadPart' hl, wpAny_pyIter_list hL
        exact ⟨_, rfl, h⟩
      · wp_walk using wpAny_loadPart' hl, wpAny_pyIter_list hL
        exact ⟨_, rfl, h⟩
    · wp_walk using wpAny_loadPart' hl, wpAny_pyIter_list hL
      exact ⟨_, rfl, h⟩
theorem XE {self a b : Value} (x : Str) :
    Meets (Builtin.«object.__init__» ⟨[self, a], [(x, b)]⟩) (fun _ R s => s.TypeIs self "enumerate" ∧ R (.ok (.ret .none)) s) := by
  refine Meets.of_wp fun prog w A R s hs => ?_
  obtain ⟨hT, hq⟩ := hs
  have hl := F.called_enumerate.init.lookup
  have hm := F.called_enumerate.made
  have hne : (some "enumerate.__new__" != some "object.__new__") = true := by decide
  repeat (any_goals (first | assumption | wp_step))
  exact ⟨_, rfl, hq⟩
set_option maxHeartbeats 4000000 in
theorem Zn {prog : Program} {w : World} {A : Around} {E : Value → Shared → Prop} {s : Shared} {l : Addr} {items : Array Value} {n : Nat} {tk2 : Tok} {Q : Value → Shared → Prop} (hl : s.heap.get? l = some { cls := .type "list", dict := none, data := .seq items n, slots := #[] })
    (q : ∀ h', IsEnum h' (s.heap.objs.size + 1) s.heap.objs.size 2 .none → h'.IsListIter s.heap.objs.size l 0 → (∀ b o, s.heap.get? b = some o → h'.get? b = some o) → Q (.ref (s.heap.objs.size + 1)) { s with heap := h' }) :
    wpAny (model prog w) A (call (.type "enumerate") [.ref l] [(Str.ofString "start", .int 2 tk2)]) Q E s := by
  obtain ⟨c, tl, hmro⟩ := F.called_enumerate.mro
  have hmade := F.called_enumerate.made
  have hsub := F.called_enumerate.sub
  have hct : checkTypeCall "enumerate" ⟨[.ref l], [(Str.ofString "start", .int 2 tk2)]⟩ = pure () := by kernel_rfl
  have hcn : checkBuiltinCall "enumerate.__new__" ⟨[.type "enumerate", .ref l], [(Str.ofString "start", .int 2 tk2)]⟩ = pure () := by kernel_rfl
  refine wpAny_call (codeAny_of_tree ?_)
  show wpAny _ _ (callAny (.type "enumerate") _) _ _ _
  refine wpAny_pure ⟨Code.quiet_builtin _ (by decide +kernel), codeAny_builtin F.entry_type_call ?_⟩
  rw [Around.under_plain (weight_type_call_type "enumerate" [.ref l] [(Str.ofString "start", .int 2 tk2)]) rfl]
  have n1 := F.called_enumerate.notType
  have n2 := F.called_enumerate.canCreate
  repeat (any_goals (first | assumption | wp_step))
  have hz : (s.heap.push { cls := .type "list_iterator", data := .fields #[.ref l, .int 0 0] }).objs.size = s.heap.objs.size + 1 := Heap.size_push ..
  refine codeAny_mono (codeAny_call_builtin F.called_enumerate.plain F.entry_enumerate_new (wpAny_of_eq hcn (ZQ l items n tk2 prog w A.in1 (wants (fun obj s1 => obj = .ref (s.heap.objs.size + 1) ∧ s1 = { s with heap := (s.heap.push { cls := .type "list_iterator", data := .fields #[.ref l, .int 0 0] }).push { cls := .type "enumerate", data := .fields #[.none, .bool false, .ref s.heap.objs.size, rawInt 2, .none, .none] } }) E) s ⟨hl, by rw [hz]; exact ⟨rfl, rfl⟩⟩))) fun r s1 hr => ?_
  cases r with
  | error e => exact hr
  | ok fl =>
    cases fl with
    | ret obj =>
      obtain ⟨rfl, rfl⟩ := hr
      have he : IsEnum ((s.heap.push { cls := .type "list_iterator", data := .fields #[.ref l, .int 0 0] }).push { cls := .type "enumerate", data := .fields #[.none, .bool false, .ref s.heap.objs.size, rawInt 2, .none, .none] }) (s.heap.objs.size + 1) s.heap.objs.size 2 .none := by
        rw [← hz]
        exact Heap.get?_push_size _ rfl
      have hT : Shared.TypeIs { s with heap := (s.heap.push { cls := .type "list_iterator", data := .fields #[.ref l, .int 0 0] }).push { cls := .type "enumerate", data := .fields #[.none, .bool false, .ref s.heap.objs.size, rawInt 2, .none, .none] } } (.ref (s.heap.objs.size + 1)) "enumerate" := ⟨_, he, rfl⟩
      have hli := F.called_enumerate.init.lookup
      have hbi := F.called_enumerate.init.bind (.ref (s.heap.objs.size + 1))
      repeat (any_goals (first | assumption | wp_step))
      have hok : argsOk "object.__init__" ⟨[.ref (s.heap.objs.size + 1), .ref l], [(Str.ofString "start", .int 2 tk2)]⟩ := by unfold argsOk; kernel_rfl
      refine codeAny_mono (codeAny_call_builtin F.called_enumerate.init.plain F.entry_object_init (F.called_enumerate.init.check _ _ _ _ _ _ _ _ hT hok (XE (Str.ofString "start") prog w A.in1 (wants (fun r s2 => r = .none ∧ Q (.ref (s.heap.objs.size + 1)) s2) E) _ ⟨hT, rfl, q _ he ⟨_, Heap.get?_push_of_some _ (Heap.get?_push_size _ rfl), rfl, rfl⟩ fun b o x => Heap.get?_push_of_some _ (Heap.get?_push_of_some _ x)⟩))) fun r2 s2 hr2 => ?_
      cases r2 with
      | error e => exact hr2
      | ok fl2 =>
        cases fl2 with
        | ret r =>
          obtain ⟨rfl, hq⟩ := hr2
          repeat (any_goals (first | assumption | wp_step))
        | _ => exact hr2.elim
    | _ => exact hr.elim
end PySem
namespace PySem
theorem Xu {prog : Program} {w : World} {A : Around} {it : Addr} {fp : List Addr} {n : Nat} {P : Nat → Value → Prop} {St : Nat → Heap → Prop} (D : Draws prog w A it fp n P St) : Draws prog w A it fp (n + 2) (fun i v => P (i - 2) v) (fun i h => 2 ≤ i ∧ St (i - 2) h) where
  live := fun i h st => D.live _ _ st.2
  frame := fun i h h' st k => ⟨st.1, D.frame _ _ _ st.2 k⟩
  item := fun i s Q E hi st k => by
    have h2 := st.1
    refine D.item (i - 2) s Q E (by omega) st.2 fun x h' tk p st' sb => k x h' tk p ⟨by omega, ?_⟩ sb
    rw [show i + 1 - 2 = i - 2 + 1 by omega]
    exact st'
  done := fun s Q E st k => D.done s Q E (by have := st.2; rwa [Nat.add_sub_cancel] at this) k
end PySem
namespace L2
open PySem PySem.Spec PyProof.Rows
noncomputable def Ies (K : PySem.W.Frag) (a : Addr) : It :=
  ⟨fun i H => ∃ xs x, SqL K H a xs ∧ xs[i]? = some x, fun i H v H' => ∃ T x, v = .ref T ∧ H T = none ∧ H' = upd H T (.tup [.int ((i + 2 : Nat) : Int), x]) ∧ ∀ xs, SqL K H a xs → xs[i]? = some x, fun i H => ∃ xs, SqL K H a xs ∧ xs.length = i⟩
theorem Vf {P : Program} {w : World} {K : PySem.W.Frag} {es : List Expr} {k : Nat} {tp : Pos} (a e it : Addr) (hne : e ≠ it) (hai : a ≠ it) (hae : a ≠ e) :
    zbp P w K (.Tuple es k tp) (Ies K a) [e, it] e (fun i h => (∃ old, IsEnum h e it ((i + 2 : Nat) : Int) old) ∧ h.IsListIter it a i) where
  mem := .head _
  obj := fun i h st b hb => by
    obtain ⟨⟨old, he⟩, o, ho, _, hd⟩ := st
    rcases List.mem_cons.mp hb with rfl | hb
    · exact ⟨_, he, fun v z => by cases z⟩
    · obtain rfl := List.mem_singleton.mp hb
      exact ⟨o, ho, fun v z => by rw [hd] at z; cases z⟩
  keep := fun i h h' st kk => by
    obtain ⟨⟨old, he⟩, hit⟩ := st
    exact ⟨⟨old, kk e (.head _) _ he⟩, hit.at fun o q => kk it (.tail _ (.head _)) o q⟩
  item := by
    intro X hP hw hK hc i pins s σ H E I hf st hg
    subst hP hw hK
    obtain ⟨⟨old, he⟩, hit⟩ := st
    obtain ⟨xs, x, hq, hx⟩ := hg
    obtain ⟨its, rv, p, hz⟩ := I.list hq
    obtain ⟨u, hu, ru⟩ := rv.get hx
    have hlt : i < its.toArray.size := by rw [List.size_toArray]; exact (List.getElem?_eq_some_iff.mp hu).1
    have D := Xu (Draws.list (prog := X.prog) (w := X.w) (A := X.A.in1) (I.ok.hd hc) it a hai its.toArray)
    refine wpAny_pyNext_enum_itemD (i := i + 2) D he ⟨by omega, by rw [Nat.add_sub_cancel]; exact ⟨hit, p.isList⟩⟩ (by omega) hne (fun z => ?_) fun v h1 tk pv ho1 st1 hT1 hz1 hk1 => ?_
    · rcases List.mem_cons.mp z with z | z
      · exact hne z
      · exact hae (List.mem_singleton.mp z).symm
    have ev : v = u := by
      rw [Nat.add_sub_cancel] at pv
      have : its[i]? = some v := by simpa using pv
      rw [hu] at this
      exact (Option.some.inj this).symm
    subst ev
    have hit1 : h1.IsListIter it a (i + 1) := by
      have := st1.2.1
      rwa [show i + 2 + 1 - 2 = i + 1 by omega] at this
    refine ⟨_, rfl, wpAny_letOwnedTupleGo_enum ho1 fun h2 he2 hs2 => ?_⟩
    have hfr : H s.heap.objs.size = none := I.hok.fresh (Nat.le_refl _)
    have neE : s.heap.objs.size ≠ e := Nat.ne_of_gt (Heap.lt_size he)
    have hT2 := (hs2.2 _ neE).trans hT1
    refine ⟨.ref s.heap.objs.size, upd H s.heap.objs.size (.tup [.int ((i + 2 : Nat) : Int), x]), ?_, rfl, ⟨_, x, rfl, hfr, rfl, fun ys hy => by rw [I.list_inj hy hq]; exact hx⟩, ⟨⟨_, by rw [show ((i + 1 + 2 : Nat) : Int) = ((i + 2 : Nat) : Int) + 1 by omega]; exact he2⟩, hit1.at fun o q => (hs2.2 it (Ne.symm hne)).trans q⟩, fun b hb => ?_⟩
    · refine I.grown (ch := [e, it]) hf (Nat.le_refl _) (fun b v hb q => ?_) ?_
      · have n1 : b ≠ e := fun z => hb (z ▸ .head _)
        have n2 : b ≠ it := fun z => hb (z ▸ .tail _ (.head _))
        exact (hs2.2 b n1).trans (hk1 b v n1 n2 q)
      · exact ⟨by show 2 ≤ sizeLine; decide, [.int ((i + 2 : Nat) : Int) tk, v], .cons ⟨_, rfl⟩ (.cons ru .nil), ⟨_, hT2, rfl, 0, rfl⟩⟩
    · have hlt2 : b < s.heap.objs.size := by
        rcases List.mem_cons.mp hb with rfl | hb
        · exact Heap.lt_size he
        · obtain rfl := List.mem_singleton.mp hb
          obtain ⟨o, ho, _⟩ := hit
          exact Heap.lt_size ho
      rw [zo (Nat.ne_of_lt hlt2)]
      exact (hf b hb).1
  done := by
    intro X hP hw hK hc i pins s σ H E I hf st hg
    subst hP hw hK
    obtain ⟨⟨old, he⟩, hit⟩ := st
    obtain ⟨xs, hq, hx⟩ := hg
    obtain ⟨its, rv, p, hz⟩ := I.list hq
    have hl : i = its.toArray.size := by rw [List.size_toArray, ← rv.length]; exact hx.symm
    have D := Xu (Draws.list (prog := X.prog) (w := X.w) (A := X.A.in1) (I.ok.hd hc) it a hai its.toArray)
    refine wpAny_pyNext_enum_endD D he ⟨by omega, ?_⟩ fun h1 hx1 => ⟨rfl, I.turnedN (ch := [e, it]) (t' := s.toks) hf fun b v hb q => hx1 b v (fun z => hb (z ▸ .tail _ (.head _))) q⟩
    rw [Nat.add_sub_cancel, ← hl]
    exact ⟨hit, p.isList⟩
  self := fun _ _ _ _ _ st h => wpAny_pyIter_enum st.1.choose_spec h
theorem zcA {M : Model} {A : Around} {E : Value → Shared → Prop} {s : Shared} {env : Env} {pos : Pos} {T : String} {e : Expr} {kws : List Keyword} {Q : Value → Shared → Prop}
    (he : backTo pos (starEach [e] env) = (false, eval e env) :: backTo pos (starEach [] env)) (hpl : (backTo pos (starEach [e] env)).any (·.1) = false) (hall : (backToKw pos (keywordEach kws env)).all (·.1.isSome) = true) (hkw : (backToKw pos (keywordEach kws env)).any (·.1.isNone) = false)
    (h : wpAny M A (spliced (backTo pos (starEach [e] env))) (fun vs s₁ => wpAny M A (evalAll ((backToKw pos (keywordEach kws env)).map (·.2))) (fun kvs s₂ => wpAny M A (call (.type T) vs (((backToKw pos (keywordEach kws env)).filterMap (·.1)).zip kvs)) Q E s₂) E s₁) E s) :
    wpAny M A (callWith pos (.type T) [] (backTo pos (starEach [e] env)) (backToKw pos (keywordEach kws env))) Q E s := by
  have ha : wpAny M A (evalArgs (.type T) true (backTo pos (starEach [e] env)) (backToKw pos (keywordEach kws env))) (fun a s₁ => wpAny M A (call (.type T) a.pos a.kw) Q E s₁) E s := by
    rw [he] at h ⊢
    exact PyProof.Rows.evalArgs_kwB hall h
  unfold callWith
  refine wpAny_bind (wpAny_holding (wpAny_mono ha (fun a s1 z => wpAny_bind (wpAny_standAt ?_)) fun _ _ z => z))
  simp only [hpl, hkw, Bool.or_false]
  exact wpAny_bind (wpAny_pure (wpAny_bind (wpAny_mono z (fun r s2 y => wpAny_bind (wpAny_holding (wpAny_point (wpAny_pure y)))) fun _ _ y => y)))
noncomputable def iEnS (K : PySem.W.Frag) (ta : TA) : TI := fun σ H R => ta σ H fun vs H1 => ∃ a xs, vs = [.ref a] ∧ H1 a = some (.lst xs) ∧ R (Ies K a) H1
theorem zbe {X : Cx} {es : List Expr} {k : Nat} {tp : Pos} {a : Expr} {ta : TA} {p pos kp cp : Pos} {j : Nat} (hg : Gl X "enumerate") (hm : X.mg "enumerate" = none) (hb : bootBuiltins "enumerate" = some (.type "enumerate")) (ha : PA X [a] ta)
    (he : backTo pos (starEach [a] X.env) = (false, eval a X.env) :: backTo pos (starEach [] X.env) := by rfl) (hpl : (backTo pos (starEach [a] X.env)).any (·.1) = false := by rfl) :
    PI X (.Tuple es k tp) (.Call (.Name "enumerate" p) [a] [⟨some "start", .Constant (.int 2) j cp, kp⟩] pos) (iEnS X.K ta) := by
  intro pins s σ H R I h
  refine wpAny_Call_Name_kw (Yw I hg hm hb ?_ (by decide) (by decide))
  refine zcA he hpl rfl rfl (thn (ha pos pins s σ H _ I h) fun us s1 ⟨vs, H1, I1, r1, q1⟩ => PyProof.Rows.kws_cons (thn (zh (i := 2) pins s1 σ H1 (fun v H2 => v = .int 2 ∧ H2 = H1) I1 ⟨rfl, rfl⟩) fun ud s2 ⟨y, H2, I2, r2, q2⟩ => PyProof.Rows.kws_nil ?_))
  obtain ⟨rfl, rfl⟩ := q2
  obtain ⟨l, xs, rfl, hx, q⟩ := q1
  obtain ⟨u, rfl, ru⟩ := ZX r1
  cases ru
  obtain ⟨tk0, rfl⟩ := r2
  obtain ⟨_, its, n, _, _, e⟩ := I2.lstM hx
  have hfp : ∀ b ∈ [s2.heap.objs.size + 1, s2.heap.objs.size], XX X pins H2 b := fun b hb => by
    rcases List.mem_cons.mp hb with rfl | hb
    · exact I2.fpOk (Nat.le_succ _) (I2.hok.fresh (Nat.le_succ _))
    · obtain rfl := List.mem_singleton.mp hb
      exact I2.fpOk (Nat.le_refl _) (I2.hok.fresh (Nat.le_refl _))
  have lt : l < s2.heap.objs.size := Heap.lt_size e
  refine Zn e fun h2 he2 hit hk => wpAny_pyIter_enum he2 ?_
  exact ⟨_, _, _, _, H2, rfl, I2.kept (t' := s2.toks) hk, Vf l _ _ (Nat.succ_ne_self _) (Nat.ne_of_lt lt) (Nat.ne_of_lt (Nat.lt_succ_of_lt lt)), ⟨⟨_, he2⟩, hit⟩, hfp, q⟩
end L2
namespace Dl
open PySem L2 PySem.Spec PyProof.Rows
variable [KK]
section
variable {X : Cx} {tg a b e : Expr} {pos : Pos}
noncomputable def Y5 : List D → Option (List Str)
  | [] => some []
  | .str x :: ds => (Y5 ds).map (x :: ·)
  | _ => none
omit [KK] in
theorem ZD (ts : List Str) : Y5 (ts.map .str) = some ts := by
  induction ts with
  | nil => rfl
  | cons x ts ih => show (Y5 (ts.map .str)).map (x :: ·) = _; rw [ih]; rfl
theorem AtL.strs {F : Hp} : ∀ {ds : List D} {ts : List Str} {xs : List V}, Y5 ds = some ts → AtL F ds xs → xs = ts.map V.str := by
  intro ds
  induction ds with
  | nil => intro ts xs h al; cases h; exact al.nil_inv
  | cons d ds ih =>
    intro ts xs h al
    cases d with
    | str x =>
      obtain ⟨l, e, rfl⟩ := Option.map_eq_some_iff.mp h
      obtain ⟨y, r, rfl, ay, ar⟩ := al.cons_inv
      rw [ih e ar, ay.str_inv]
      rfl
    | _ => cases h
theorem AtL.ofStrs {F : Hp} (ts : List Str) : AtL F (ts.map D.str) (ts.map V.str) := by
  induction ts with
  | nil => exact .nil
  | cons x ts ih => exact .cons .str ih
noncomputable def Z3 (c d : D) : Option D := match c, d with
  | .str s, .lst ds => (Y5 ds).bind fun ts => if JoinOk s ts = true then some (.str (Txt.join s ts)) else none
  | _, _ => none
theorem ZW {p : Pos} {f : Ev → Option D} {g : Ev → Option (List D)} (ha : ED X a f) (he : AD X [e] g)
    (hp : ∀ {ta : TE} {t : TA}, PE X a ta → PA X [e] t → PE X (.Call (.Attribute a "join" p) [e] [] pos) (tBM X.K "str" (zdr X.K) ta t)) : ED X (.Call (.Attribute a "join" p) [e] [] pos) (Y1 Z3 f g) := by
  obtain ⟨ta, pa, ra⟩ := ha
  obtain ⟨t, pe, re⟩ := he
  refine ⟨_, hp pa pe, fun σ ρ F H z Q s va h0 q => ?_⟩
  obtain ⟨c, e1, h1⟩ := Option.bind_eq_some_iff.mp h0
  obtain ⟨as, e2, h⟩ := Option.bind_eq_some_iff.mp h1
  clear h0 h1
  split at h
  · rename_i d
    unfold Z3 at h
    split at h
    · rename_i sep ds
      obtain ⟨ts, e3, h⟩ := Option.bind_eq_some_iff.mp h
      split at h <;> cases h
      rename_i hok
      refine ra σ ρ F H _ _ s va e1 fun F1 H1 v g1 a1 => ?_
      cases a1.str_inv
      refine ⟨rfl, ?_⟩
      refine re σ ρ F1 H1 _ _ g1.fh (va.mono g1.ff) e2 fun F2 H2 vs g2 a2 => ?_
      obtain ⟨y, r', rfl, ay, ar⟩ := a2.cons_inv
      cases ar.nil_inv
      obtain ⟨l, xs, rfl, hx, al⟩ := ay.lst_inv
      have := al.strs e3
      subst this
      exact ⟨sep, l, ts, rfl, rfl, SqL.of (g2.fh _ _ hx), hok, q F2 H2 _ (g1.trans g2) .str⟩
    · cases h
  · cases h
noncomputable def ZB (c d : D) : Option (List D) := match c, d with
  | .str x, .str y => if (y.length == 0) = false ∧ x.length ≤ 100000 ∧ (Txt.split x y).length ≤ 100000 then some ((Txt.split x y).map .str) else none
  | _, _ => none
noncomputable def zc2 (m : D → D → Option (List D)) (f : Ev → Option D) (g : Ev → Option (List D)) : Ev → Option (List D) := fun ρ => (f ρ).bind fun c => (g ρ).bind fun ds => match ds with
  | [d] => m c d
  | _ => none
theorem WM {p : Pos} {f : Ev → Option D} {g : Ev → Option (List D)} (ha : ED X a f) (he : AD X [e] g)
    (hp : ∀ {ta : TE} {t : TA}, PE X a ta → PA X [e] t → PE X (.Call (.Attribute a "split" p) [e] [] pos) (tBM X.K "str" zbT ta t)) : FL X (.Call (.Attribute a "split" p) [e] [] pos) (zc2 ZB f g) := by
  obtain ⟨ta, pa, ra⟩ := ha
  obtain ⟨t, pe, re⟩ := he
  refine ⟨_, hp pa pe, fun σ ρ F H z Q s va h0 q => ?_⟩
  obtain ⟨c, e1, h1⟩ := Option.bind_eq_some_iff.mp h0
  obtain ⟨as, e2, h⟩ := Option.bind_eq_some_iff.mp h1
  clear h0 h1
  split at h
  · rename_i d
    unfold ZB at h
    split at h
    · rename_i x y
      split at h <;> cases h
      rename_i hk
      refine ra σ ρ F H _ _ s va e1 fun F1 H1 v g1 a1 => ?_
      cases a1.str_inv
      refine ⟨rfl, ?_⟩
      refine re σ ρ F1 H1 _ _ g1.fh (va.mono g1.ff) e2 fun F2 H2 vs g2 a2 => ?_
      obtain ⟨u, r', rfl, au, ar⟩ := a2.cons_inv
      cases ar.nil_inv
      cases au.str_inv
      have hs : 100002 ≤ sizeLine := by rw [sizeLine_eq]; decide
      have g12 := g1.trans g2
      exact ⟨x, y, rfl, rfl, hk.1, by omega, by omega, fun l hl => q _ _ _ _ (g12.trans (Gr.hide g2.fh hl _)) (zeH g12 hl) (g2.fh.free hl) zq (AtL.ofStrs _)⟩
    · cases h
  · cases h
noncomputable def Xs : List D → Option D
  | [.int i] => if 0 ≤ i ∧ i < 1000000 then some (.str (Str.ofString (toString i))) else none
  | _ => none
theorem Y3 : CaD (fun xs H Q => ∃ i, xs = [.int i] ∧ i.natAbs.log2 < 1920 ∧ Q (.str (toString i)) H) Xs := by
  intro F H vs ds z Q s al h q
  unfold Xs at h
  split at h
  · rename_i i
    split at h <;> cases h
    rename_i hi
    obtain ⟨x, r, rfl, ax, ar⟩ := al.cons_inv
    cases ar.nil_inv
    refine ⟨i, by rw [ax.int_inv], ?_, q F H _ (.refl s) .str⟩
    by_cases c : i.natAbs = 0
    · rw [c]; decide
    · have e : (2 : Nat) ^ 20 = 1048576 := by decide
      have h1 : i.natAbs < 2 ^ 20 := by rw [e]; omega
      exact (Nat.log2_lt c).mpr (Nat.lt_of_lt_of_le h1 (Nat.pow_le_pow_right (by decide) (by decide)))
  · cases h
noncomputable def zda : List D → Option D
  | [.str x] => if x.length ≤ 640 then (intText? x).map .int else none
  | _ => none
theorem zbc : CaD (fun xs H Q => ∃ a n, xs = [.str a] ∧ a.length ≤ 640 ∧ intText? a = some n ∧ Q (.int n) H) zda := by
  intro F H vs ds z Q s al h q
  unfold zda at h
  split at h
  · rename_i x
    split at h
    · rename_i hl
      obtain ⟨n, hn, rfl⟩ := Option.map_eq_some_iff.mp h
      obtain ⟨y, r, rfl, ax, ar⟩ := al.cons_inv
      cases ar.nil_inv
      exact ⟨x, n, by rw [ax.str_inv], hl, hn, q F H _ (.refl s) .int⟩
    · cases h
  · cases h
noncomputable def zaX : List D → Option D
  | [.str x] => if x.length ≤ 100000 then some (.int (x.length : Int)) else none
  | _ => none
theorem WR : CaD (fun xs H Q => ∃ z, xs = [.str z] ∧ z.length ≤ sizeLine ∧ Q (.int z.length) H) zaX := by
  intro F H vs ds z Q s al h q
  unfold zaX at h
  split at h
  · rename_i x
    split at h <;> cases h
    rename_i hl
    obtain ⟨y, r, rfl, ax, ar⟩ := al.cons_inv
    cases ar.nil_inv
    have hs : 100002 ≤ sizeLine := by rw [sizeLine_eq]; decide
    exact ⟨x, by rw [ax.str_inv], by omega, q F H _ (.refl s) .int⟩
  · cases h
noncomputable def zeD : D → D → Option D
  | .str x, .int i => if x.length ≤ 100000 then (L2.atI x.cps.toList i).map fun c => .str ⟨#[c]⟩ else none
  | _, _ => none
theorem zc3 : OpD zeQ zeD := by
  intro F H x y d e z Q s ax ay ez q
  unfold zeD at ez
  split at ez
  · rename_i w i
    split at ez
    · rename_i hl
      obtain ⟨c, hc, rfl⟩ := Option.map_eq_some_iff.mp ez
      have hs : 100002 ≤ sizeLine := by rw [sizeLine_eq]; decide
      exact ⟨w, i, c, ax.str_inv, ay.int_inv, by omega, hc, q F H _ (.refl s) .str⟩
    · cases ez
  · cases ez
theorem zdA {f h : Ev → Option D} (ha : ED X a f) (hb : ED X b h) (hs : Wa b) : ED X (.Subscript a b pos) (zj zeD f h) :=
  let ⟨_, pa, ra⟩ := ha
  let ⟨_, pb, rb⟩ := hb
  ⟨_, zdQ zb2 pa pb hs, zay zc3 ra rb⟩
noncomputable def zfi : D → D → Option D
  | .str x, .str y => some (.bl (!(Builtin.Str.occurrences y x 0 y.length 1).isEmpty))
  | _, _ => none
theorem zcD : OpD (fun x y H Q => ∃ i j, x = .str i ∧ y = .str j ∧ Q (.bl (!(Builtin.Str.occurrences j i 0 j.length 1).isEmpty)) H) zfi := by
  intro F H x y d e z Q s ax ay ez q
  unfold zfi at ez
  split at ez <;> cases ez
  exact ⟨_, _, ax.str_inv, ay.str_inv, q F H _ (.refl s) .bl⟩
noncomputable def zec : D → Option (List D)
  | .str x => if x.cps.all (· < 128) = true then some (x.cps.toList.map fun c => .str ⟨#[c]⟩) else none
  | _ => none
noncomputable def iTx (f : Ev → Option D) : Ev → Option (List D) := fun ρ => (f ρ).bind zec
theorem zet {f : Ev → Option D} (ha : ED X a f) : ID X tg a (iTx f) := by
  obtain ⟨t, p, r⟩ := ha
  refine ⟨_, zem p, fun σ ρ F H ds R s va e q => ?_⟩
  obtain ⟨d, e1, e2⟩ := Option.bind_eq_some_iff.mp e
  refine r σ ρ F H d _ s va e1 fun F1 H1 v g1 a1 => ?_
  unfold zec at e2
  split at e2
  · rename_i x
    split at e2 <;> cases e2
    rename_i hx
    refine ⟨x, a1.str_inv, hx, q F1 H1 _ g1 fun i F2 H2 s1 s2 => ⟨fun hl => ?_, fun d hd => ?_⟩⟩
    · show x.cps.size ≤ i
      rw [List.length_map, Array.length_toList] at hl
      omega
    · rw [List.getElem?_map] at hd
      obtain ⟨c, hc, rfl⟩ := Option.map_eq_some_iff.mp hd
      have hlt : i < x.cps.size := by have := (List.getElem?_eq_some_iff.mp hc).1; rwa [Array.length_toList] at this
      refine ⟨hlt, fun y H3 hy => ?_⟩
      obtain ⟨rfl, c2, hc2, rfl⟩ := hy
      have : c2 = c := by
        rw [Array.getElem?_toList] at hc
        rw [hc] at hc2
        exact (Option.some.inj hc2).symm
      subst this
      exact ⟨F2, .refl s2, .str⟩
  · cases e2
noncomputable def zff (f : Ev → Option (List D)) : Ev → Option (List D) := fun ρ => (f ρ).bind fun as => match as with
  | [.lst ds] => some (vS 2 ds)
  | _ => none
theorem zdB {es : List Expr} {k j : Nat} {tp p kp cp : Pos} {f : Ev → Option (List D)} (hg : Gl X "enumerate") (hm : X.mg "enumerate" = none) (hb : bootBuiltins "enumerate" = some (.type "enumerate")) (ha : AD X [a] f)
    (he : backTo pos (starEach [a] X.env) = (false, eval a X.env) :: backTo pos (starEach [] X.env) := by rfl) (hpl : (backTo pos (starEach [a] X.env)).any (·.1) = false := by rfl) : ID X (.Tuple es k tp) (.Call (.Name "enumerate" p) [a] [⟨some "start", .Constant (.int 2) j cp, kp⟩] pos) (zff f) := by
  obtain ⟨t, pa, r⟩ := ha
  refine ⟨_, zbe hg hm hb pa he hpl, fun σ ρ F H ds R s va e q => ?_⟩
  obtain ⟨as, e1, e2⟩ := Option.bind_eq_some_iff.mp e
  refine r σ ρ F H as _ s va e1 fun F1 H1 v g1 a1 => ?_
  split at e2
  · rename_i ds'
    cases e2
    obtain ⟨x, r', rfl, ax, ar⟩ := a1.cons_inv
    cases ar.nil_inv
    obtain ⟨p, xs, rfl, hx, al⟩ := ax.lst_inv
    refine ⟨p, xs, rfl, g1.fh _ _ hx, q F1 H1 _ g1 fun i F2 H2 s1 s2 => ?_⟩
    have qq : SqL X.K H2 p xs := SqL.of (s2 _ _ (s1 _ _ hx))
    refine ⟨fun hl => ⟨xs, qq, by rw [al.length, hl, xj]⟩, fun d hd => ?_⟩
    rw [x8] at hd
    obtain ⟨d', hd', rfl⟩ := Option.map_eq_some_iff.mp hd
    obtain ⟨x, hxi, ax⟩ := al.get hd'
    refine ⟨⟨xs, x, qq, hxi⟩, fun y H3 hy => ?_⟩
    obtain ⟨T, y, rfl, hT, rfl, hy⟩ := hy
    have := hy xs qq
    rw [hxi] at this
    cases this
    have g3 := Gr.alloc s2 hT (.tup [.int ((i + 2 : Nat) : Int), x])
    exact ⟨_, g3, .tup zq (.cons (by rw [Nat.add_comm]; exact .int) (.cons (ax.mono (s1.trans g3.ff)) .nil))⟩
  · cases e2
end
end Dl
namespace Mz
open PySem Dl
noncomputable abbrev Tie := Int × Int
noncomputable def ltP (s t : Tie) : Prop := s.1 < t.1 ∨ (s.1 = t.1 ∧ s.2 < t.2)
noncomputable instance (s t : Tie) : Decidable (ltP s t) := by unfold ltP; infer_instance
theorem V6 {a b c : Tie} (h : ltP a b) (k : ltP b c) : ltP a c := by
  unfold ltP at *
  omega
noncomputable def zu (t : Tie) : D := .tup [.int t.1, .int t.2]
theorem zaD {s t : Tie} (h : zu s = zu t) : s = t := by
  unfold zu at h
  injection h with h
  injection h with h1 h2
  injection h2 with h2 _
  injection h1 with h1
  injection h2 with h2
  exact Prod.ext h1 h2
noncomputable def yI (many : Int) (ties : List Tie) : D := .tup [.int many, .tup (ties.map zu)]
set_option genInjectivity false in
set_option genSizeOf false in
set_option genCtorIdx false in
structure Zq (many : Int) (ties : List Tie) : Prop where
  lo : 1 ≤ many
  hi : many ≤ 8
  rng : ∀ t ∈ ties, 0 ≤ t.1 ∧ t.1 < t.2 ∧ t.2 < many
  srt : ties.Pairwise ltP
noncomputable def leP (s t : Tie) : Bool := if s.1 = t.1 then (if s.2 = t.2 then true else decide (s.2 ≤ t.2)) else decide (s.1 ≤ t.1)
theorem Xv {s t : Tie} : leP s t = false ↔ ltP t s := by
  unfold leP ltP
  by_cases h : s.1 = t.1
  · rw [if_pos h]
    by_cases k : s.2 = t.2
    · rw [if_pos k]; simp; omega
    · rw [if_neg k, decide_eq_false_iff_not]; omega
  · rw [if_neg h, decide_eq_false_iff_not]; omega
noncomputable def vp : D → Option Tie
  | .tup [.int a, .int b] => some (a, b)
  | _ => none
theorem wX (t : Tie) : vp (zu t) = some t := rfl
theorem YU {d : D} {t : Tie} (h : vp d = some t) : d = zu t := by
  unfold vp at h
  split at h
  · cases h; rfl
  · cases h
noncomputable def inR (m a : Int) : Bool := decide (0 ≤ a) && decide (a ≤ m - 1)
noncomputable def xr (m : Int) (d : D) : Bool := match vp d with
  | some t => inR m t.1 && inR m t.2 && !decide (t.1 = t.2)
  | none => false
noncomputable def XU (p : Option Tie) (t : Tie) : Bool := match p with
  | some q => !leP t q
  | none => true
noncomputable def yd (m : Int) : Option Tie → List D → Bool
  | _, [] => true
  | p, d :: r => match vp d with
    | some t => xr m d && !decide (t.2 < t.1) && XU p t && yd m (some t) r
    | none => false
noncomputable def vd (m : Int) : D → Bool
  | .tup ts => yd m none ts
  | _ => false
noncomputable def wz : D → Bool
  | .tup [.int m, t] => decide (1 ≤ m) && decide (m ≤ 8) && vd m t
  | _ => false
theorem Yu (m : Int) : ∀ (ts : List D) (p : Option Tie), yd m p ts = true ↔ ∃ l : List Tie, ts = l.map zu ∧ (∀ t ∈ l, 0 ≤ t.1 ∧ t.1 < t.2 ∧ t.2 < m) ∧ (∀ q, p = some q → ∀ t ∈ l, ltP q t) ∧ l.Pairwise ltP := by
  intro ts
  induction ts with
  | nil =>
    intro p
    refine ⟨fun _ => ⟨[], rfl, by simp, by simp, .nil⟩, fun _ => rfl⟩
  | cons d r ih =>
    intro p
    unfold yd
    cases e : vp d with
    | none =>
      refine Iff.intro (fun h => nomatch h) (fun hh => ?_)
      obtain ⟨l, h, _⟩ := hh
      cases l with
      | nil => cases h
      | cons t l' =>
        rw [List.map_cons] at h
        injection h with h1 _
        rw [h1, wX] at e
        cases e
    | some t =>
      have ed := YU e
      subst ed
      simp only [xr, wX, Bool.and_eq_true, Bool.not_eq_true', decide_eq_false_iff_not, inR, decide_eq_true_eq]
      rw [ih (some t)]
      constructor
      · rintro ⟨⟨⟨⟨⟨h1, h2⟩, h3⟩, h4⟩, h5⟩, l, rfl, hr, hq, hs⟩
        refine ⟨t :: l, rfl, ?_, ?_, List.pairwise_cons.mpr ⟨hq t rfl, hs⟩⟩
        · intro u hu
          rcases List.mem_cons.mp hu with rfl | hu
          · omega
          · exact hr u hu
        · rintro q rfl u hu
          have hqt : ltP q t := Xv.mp (by simpa [XU] using h5)
          rcases List.mem_cons.mp hu with rfl | hu
          · exact hqt
          · exact V6 hqt (hq t rfl u hu)
      · rintro ⟨l, h, hr, hq, hs⟩
        cases l with
        | nil => cases h
        | cons u l' =>
          rw [List.map_cons] at h
          injection h with h1 h2
          have hu := zaD h1
          subst hu
          have hb := hr t (by simp)
          refine ⟨⟨⟨⟨⟨by omega, by omega⟩, by omega⟩, by omega⟩, ?_⟩, l', h2, fun v hv => hr v (by simp [hv]), fun q hqe v hv => ?_, (List.pairwise_cons.mp hs).2⟩
          · cases p with
            | none => rfl
            | some q =>
              have := Xv.mpr (hq q rfl t (by simp))
              simp [XU, this]
          · cases hqe
            exact (List.pairwise_cons.mp hs).1 v hv
theorem vb (d : D) : wz d = true ↔ ∃ m ties, d = yI m ties ∧ Zq m ties := by
  constructor
  · intro h
    unfold wz at h
    split at h
    · rename_i m t
      simp only [Bool.and_eq_true, decide_eq_true_eq] at h
      obtain ⟨⟨h1, h2⟩, h3⟩ := h
      unfold vd at h3
      split at h3
      · rename_i ts
        obtain ⟨l, rfl, hr, _, hs⟩ := (Yu m ts none).mp h3
        exact ⟨m, l, rfl, h1, h2, hr, hs⟩
      · cases h3
    · cases h
  · rintro ⟨m, ties, rfl, w⟩
    unfold yI wz vd
    simp only [Bool.and_eq_true, decide_eq_true_eq]
    exact ⟨⟨w.lo, w.hi⟩, (Yu m _ none).mpr ⟨ties, rfl, w.rng, by simp, w.srt⟩⟩
theorem zc5 {d : D} (h : ∀ m ties, d = yI m ties → ¬ Zq m ties) : wz d = false := by
  cases e : wz d with
  | false => rfl
  | true =>
    obtain ⟨m, ties, rfl, w⟩ := (vb d).mp e
    exact absurd w (h m ties rfl)
noncomputable def xv (n : Nat) : List Tie := (List.range n).flatMap fun a => (List.range (n - (a + 1))).map fun (j : Nat) => ((a : Int), (a : Int) + 1 + (j : Int))
theorem Xj : ∀ n : Nat, n ≤ 8 → (xv n).Pairwise ltP ∧ (∀ t ∈ xv n, 0 ≤ t.1 ∧ t.1 < t.2 ∧ t.2 < (n : Int)) ∧ (xv n).length ≤ 28 := by
  have h : ∀ n : _root_.Fin 9, (xv n.val).Pairwise ltP ∧ (∀ t ∈ xv n.val, 0 ≤ t.1 ∧ t.1 < t.2 ∧ t.2 < (n.val : Int)) ∧ (xv n.val).length ≤ 28 := by decide +kernel
  exact fun n hn => h ⟨n, by omega⟩
end Mz
namespace Mz
open Dl
noncomputable def Wk (i j : Nat) : List Tie := (List.range j).map fun (k : Nat) => ((i : Int), (i : Int) + 1 + (k : Int))
noncomputable def y4 (n i : Nat) : List Tie := (List.range i).flatMap fun a => Wk a (n - (a + 1))
theorem zaw (n : Nat) : xv n = y4 n n := rfl
theorem YC (n i : Nat) : y4 n (i + 1) = y4 n i ++ Wk i (n - (i + 1)) := by
  unfold y4
  rw [List.range_succ, List.flatMap_append]
  simp
theorem YG (i j : Nat) : (Wk i j).length = j := by unfold Wk; simp
theorem W3 (n : Nat) (hn : n ≤ 8) : ∀ i : Nat, (y4 n i).length ≤ 8 * i := by
  intro i
  induction i with
  | zero => simp [y4]
  | succ i ih =>
    rw [YC, List.length_append, YG]
    omega
noncomputable def Vg (c k : Int) : Int :=
  let a := (c % 2147483647 + 977 * k + 1) * 48271 % 2147483647
  let b := a * a % 2147483629
  (b + 40692 * (k + 3)) * 69621 % 2147483647 / 8
theorem W8 {P : Nat → Prop} : ∀ k, P k → ∃ j, P j ∧ ∀ i, P i → j ≤ i := by
  intro k
  induction k using Nat.strongRecOn with
  | _ k ih =>
    intro h
    by_cases c : ∃ i, i < k ∧ P i
    · obtain ⟨i, hi, h2⟩ := c
      exact ih i hi h2
    · exact ⟨k, h, fun i hi => Nat.le_of_not_lt fun z => c ⟨i, z, hi⟩⟩
theorem zdo {n : Nat} {i : Int} (h0 : 0 ≤ i) (h1 : i < n) : L2.ixN n i = some i.toNat := by
  unfold L2.ixN
  rw [if_pos h0, if_pos h1]
theorem zbZ {α : Type} {xs : List α} {i : Int} {x : α} (h0 : 0 ≤ i) (h : xs[i.toNat]? = some x) : L2.atI xs i = some x := by
  have := (List.getElem?_eq_some_iff.mp h).1
  unfold L2.atI
  rw [zdo h0 (by omega)]
  exact h
theorem zbi {α : Type} (xs : List α) (lo hi : Option Int) : (ZT xs lo hi).length ≤ xs.length := by
  unfold ZT
  rw [List.length_take, List.length_drop]
  omega
theorem ve {a b : List D} (h : a.length + b.length ≤ 1000) : xa (.lst a) (.lst b) = some (.lst (a ++ b)) := by
  show (if lim (a.length + b.length) = true then _ else none) = _
  rw [if_pos (wA h)]
theorem zcd : ∀ {ns : List Int}, (∀ x ∈ ns, 0 ≤ x) → 0 ≤ ns.sum
  | [], _ => by simp
  | n :: ns, h => by
    have := zcd (ns := ns) fun x hx => h x (List.mem_cons_of_mem _ hx)
    have := h n List.mem_cons_self
    rw [List.sum_cons]
    omega
theorem Yi {m : Bool} {i : Nat} {f : Ev → Option D} {ρ ρ' : SE} {d : D} (h : vEv m f ρ = some d) (h2 : ρ.set i (.v d) = ρ' := by rfl) : yP m i f ρ = .nx ρ' := by
  unfold yP
  rw [h, ← h2]
theorem VB {f : Ev → Option D} {ρ : SE} {d : D} (h : f (visG ρ) = some d) : vn f ρ = .nx ρ := by
  unfold vn
  rw [h]
theorem vD {f : Ev → Option D} {ρ : SE} {d : D} (h : f (visG ρ) = some d) : yn f ρ = .rt d := by
  unfold yn
  rw [h]
theorem zc0 {i : Nat} {f : Ev → Option (List D)} {ρ ρ' : SE} {ds : List D} (h : f (visF ρ) = some ds) (h2 : ρ.set i (.o ds) = ρ' := by rfl) : vh i f ρ = .nx ρ' := by
  unfold vh
  rw [h, ← h2]
theorem zB {a b : Int} : neD (.int a) (.int b) = some (.bl (!decide (a = b))) := rfl
theorem WT {a m x : Int} (h : 0 < m) (hx : a % m = x) : 0 ≤ x ∧ x < m := by
  subst hx
  exact ⟨Int.emod_nonneg _ (by omega), Int.emod_lt_of_pos _ h⟩
theorem zr {a b : Int} : Xc (.int a) (.int b) = some (.bl (decide (a = b))) := rfl
theorem zD {a b : Bool} : Xc (.bl a) (.bl b) = some (.bl (decide (a = b))) := rfl
theorem zt {a b : PySem.Str} : Xc (.str a) (.str b) = some (.bl (decide (a = b))) := rfl
theorem zp {a b : Int} : xa (.int a) (.int b) = some (.int (a + b)) := rfl
theorem zbB {a b : List D} (h : a.length + b.length ≤ 1000) : xa (.tup a) (.tup b) = some (.tup (a ++ b)) := by
  show (if lim (a.length + b.length) = true then some (D.tup (a ++ b)) else none) = _
  rw [if_pos (wA h)]
section
variable {ρ : Ev} {f g h : Ev → Option D} {a : Ev → Option (List D)} {t u : Ev → Option Bool} {d e x y z : D} {ds es : List D} {b c : Bool}
theorem yX : zn ρ = some [] := rfl
theorem zG (h1 : f ρ = some d) (h2 : a ρ = some ds) : zb f a ρ = some (d :: ds) := by unfold zb; rw [h1, h2]; rfl
theorem yU {n : Nat} {p : List D → Option D} (h1 : a ρ = some ds) (h2 : p ds = some d) (hl : ds.length = n := by rfl) : zm n p a ρ = some d := by
  unfold zm
  rw [h1, Option.bind_some, if_pos hl, h2]
theorem xZ {i n : Nat} {p : List D → Option D} {σ σ' : SE} (h1 : a (visF σ) = some ds) (h2 : p ds = some d) (hl : ds.length = n := by rfl) (h3 : σ.set i (.v d) = σ' := by rfl) : yP false i (zm n p a) σ = .nx σ' := Yi (show zm n p a (visF σ) = some d from yU h1 h2 hl) h3
theorem XZ {i : Nat} {f : Ev → Option D} {σ σ' : SE} (h : f (visF σ) = some d) (h3 : σ.set i (.v d) = σ' := by rfl) : yP false i f σ = .nx σ' := Yi (show f (visF σ) = some d from h) h3
theorem zT {k : D → D → Option D} (h1 : f ρ = some x) (h2 : g ρ = some y) (h3 : k x y = some z) : zj k f g ρ = some z := by unfold zj; rw [h1, h2]; exact h3
theorem v0 (h1 : a ρ = some ds) : yz a ρ = some (.lst ds) := by unfold yz; rw [h1]; rfl
theorem VV {k : List D → Option D} (h1 : a ρ = some ds) (h2 : k ds = some d) : eFn k a ρ = some d := by unfold eFn; rw [h1]; exact h2
theorem Xb (h1 : a ρ = some ds) (hl : ds.length ≤ 1000) : zF a ρ = some ds := by unfold zF; rw [h1, Option.bind_some, if_pos (wA hl)]
theorem zaT (h1 : a ρ = some ds) (hl : ds.length ≤ 1000) : wj a ρ = some (.tup ds) := by unfold wj; rw [h1, Option.bind_some, if_pos (wA hl)]
theorem WK (h1 : f ρ = some d) (h2 : yi d = some ds) : iOf f ρ = some ds := by unfold iOf; rw [h1]; exact h2
theorem YI (h1 : f ρ = some (.bl b)) : tOf f ρ = some b := by unfold tOf; rw [h1]; rfl
theorem Xy (h1 : t ρ = some b) : zO t ρ = some (!b) := by unfold zO; rw [h1]; rfl
theorem zfm (h1 : t ρ = some b) (h2 : u ρ = some c) : x6 t u ρ = some (b || c) := by unfold x6; rw [h1, h2]; cases b <;> rfl
theorem WG (h1 : t ρ = some false) (h2 : u ρ = some c) : x6 t u ρ = some c := by unfold x6; rw [h1]; exact h2
end
end Mz
namespace Mz
open PySem L2 Dl
noncomputable def top (i : Nat) : Stmt := PySem.Challenge.pw_twoforone_k90_webs_and_heaps_written.main.body.getD i (.Pass ⟨0, 0, 0, 0⟩)
noncomputable abbrev vG : Stmt := top 8
noncomputable abbrev yR : Stmt := top 9
noncomputable abbrev y1 : Stmt := top 10
noncomputable abbrev vJ : Stmt := top 11
noncomputable abbrev wk : Stmt := top 12
noncomputable abbrev Yj : Stmt := top 14
noncomputable abbrev vE : Stmt := top 15
noncomputable abbrev Y8 : Stmt := top 16
noncomputable abbrev xV : Stmt := top 17
noncomputable abbrev wu : Stmt := top 19
noncomputable abbrev xK : Stmt := top 20
noncomputable abbrev Yf : Stmt := top 23
noncomputable abbrev ZH : Stmt := top 24
noncomputable abbrev y6 : Stmt := top 25
noncomputable abbrev y8 : Stmt := top 26
noncomputable abbrev wR : Stmt := top 27
noncomputable abbrev Wc : Stmt := top 28
noncomputable abbrev wq : Stmt := top 30
noncomputable abbrev wY : Stmt := top 31
noncomputable abbrev xU : Stmt := top 32
noncomputable abbrev xF : Stmt := top 33
noncomputable abbrev wH : Stmt := top 34
noncomputable abbrev wQ : Stmt := top 35
noncomputable abbrev VC : Stmt := top 36
theorem Ws : zw ["thing"] ["thing"] (zi vG) := ⟨rfl, rfl, rfl, by decide +kernel, rfl, by decide +kernel, by decide +kernel⟩
theorem vT : zw ["thing", "least", "most"] ["thing", "least", "most"] (zi yR) := ⟨rfl, rfl, rfl, by decide +kernel, rfl, by decide +kernel, by decide +kernel⟩
theorem Yc : zw ["thing"] ["thing"] (zi y1) := ⟨rfl, rfl, rfl, by decide +kernel, rfl, by decide +kernel, by decide +kernel⟩
theorem Wi : zw ["many", "thing"] ["many", "thing"] (zi vJ) := ⟨rfl, rfl, rfl, by decide +kernel, rfl, by decide +kernel, by decide +kernel⟩
theorem ZE : zw ["many", "thing"] ["many", "thing"] (zi wk) := ⟨rfl, rfl, rfl, by decide +kernel, rfl, by decide +kernel, by decide +kernel⟩
theorem W1 : zw ["many", "thing"] ["many", "thing"] (zi Yj) := ⟨rfl, rfl, rfl, by decide +kernel, rfl, by decide +kernel, by decide +kernel⟩
theorem vC : zw ["many", "thing", "at", "tie"] ["many", "thing"] (zi vE) := ⟨rfl, rfl, rfl, by decide +kernel, rfl, by decide +kernel, by decide +kernel⟩
theorem VF : zw ["thing"] ["thing"] (zi Y8) := ⟨rfl, rfl, rfl, by decide +kernel, rfl, by decide +kernel, by decide +kernel⟩
theorem Zm : zw ["thing"] ["thing"] (zi xV) := ⟨rfl, rfl, rfl, by decide +kernel, rfl, by decide +kernel, by decide +kernel⟩
theorem ZS : zw ["web", "thing"] ["web", "thing"] (zi wu) := ⟨rfl, rfl, rfl, by decide +kernel, rfl, by decide +kernel, by decide +kernel⟩
theorem Ze : zw ["web", "thing"] ["web", "thing"] (zi xK) := ⟨rfl, rfl, rfl, by decide +kernel, rfl, by decide +kernel, by decide +kernel⟩
theorem Vc : zw ["word", "numbers"] ["word", "numbers"] (zi Yf) := ⟨rfl, rfl, rfl, by decide +kernel, rfl, by decide +kernel, by decide +kernel⟩
theorem WJ : zw ["web", "heap", "ties"] ["web", "heap"] (zi ZH) := ⟨rfl, rfl, rfl, by decide +kernel, rfl, by decide +kernel, by decide +kernel⟩
theorem Yh : zw ["word"] ["word"] (zi y6) := ⟨rfl, rfl, rfl, by decide +kernel, rfl, by decide +kernel, by decide +kernel⟩
theorem y3 : zw ["word", "row", "words", "numbers"] ["word", "row"] (zi y8) := ⟨rfl, rfl, rfl, by decide +kernel, rfl, by decide +kernel, by decide +kernel⟩
theorem Ys : zw ["row", "numbers"] ["row"] (zi wR) := ⟨rfl, rfl, rfl, by decide +kernel, rfl, by decide +kernel, by decide +kernel⟩
theorem vx : zw ["text", "rows", "web", "number", "row", "heap"] ["text"] (zi Wc) := ⟨rfl, rfl, rfl, by decide +kernel, rfl, by decide +kernel, by decide +kernel⟩
theorem xA : zw ["many", "found", "a"] ["many"] (zi wq) := ⟨rfl, rfl, rfl, by decide +kernel, rfl, by decide +kernel, by decide +kernel⟩
theorem xO : zw ["cell", "k", "number"] ["cell", "k"] (zi wY) := ⟨rfl, rfl, rfl, by decide +kernel, rfl, by decide +kernel, by decide +kernel⟩
theorem xc : zw ["many", "cell", "ties", "k", "tie"] ["many", "cell"] (zi xU) := ⟨rfl, rfl, rfl, by decide +kernel, rfl, by decide +kernel, by decide +kernel⟩
theorem zx : zw ["many", "cell", "most", "left", "heap", "digits", "k", "stones"] ["many", "cell", "most"] (zi xF) := ⟨rfl, rfl, rfl, by decide +kernel, rfl, by decide +kernel, by decide +kernel⟩
theorem xN : zw ["web", "heap", "between", "rows", "a", "b"] ["web", "heap", "between"] (zi wH) := ⟨rfl, rfl, rfl, by decide +kernel, rfl, by decide +kernel, by decide +kernel⟩
theorem wM : zw ["found", "due", "one", "other"] ["found", "due"] (zi wQ) := ⟨rfl, rfl, rfl, by decide +kernel, rfl, by decide +kernel, by decide +kernel⟩
theorem YV : zw ["script", "cell", "many", "web", "heap", "text", "turn"] ["script"] (zi VC) := ⟨rfl, rfl, rfl, by decide +kernel, rfl, by decide +kernel, by decide +kernel⟩
set_option genInjectivity false in
set_option genSizeOf false in
set_option genCtorIdx false in
structure Adr where
  f_is_whole : Addr
  e_is_whole : FuncData
  f_is_whole_within : Addr
  e_is_whole_within : FuncData
  f_is_place_count : Addr
  e_is_place_count : FuncData
  f_is_place : Addr
  e_is_place : FuncData
  f_are_counts : Addr
  e_are_counts : FuncData
  f_is_pair : Addr
  e_is_pair : FuncData
  f_are_ties : Addr
  e_are_ties : FuncData
  f_is_web : Addr
  e_is_web : FuncData
  f_must_be_web : Addr
  e_must_be_web : FuncData
  f_are_stones : Addr
  e_are_stones : FuncData
  f_must_be_heap : Addr
  e_must_be_heap : FuncData
  f_written : Addr
  e_written : FuncData
  f_shown : Addr
  e_shown : FuncData
  f_number_written : Addr
  e_number_written : FuncData
  f_numbers_behind : Addr
  e_numbers_behind : FuncData
  f_many_read : Addr
  e_many_read : FuncData
  f_read : Addr
  e_read : FuncData
  f__law_pairs : Addr
  e__law_pairs : FuncData
  f__law_stir : Addr
  e__law_stir : FuncData
  f__law_web_by : Addr
  e__law_web_by : FuncData
  f__law_heap_by : Addr
  e__law_heap_by : FuncData
  f__law_text : Addr
  e__law_text : FuncData
  f__law_same : Addr
  e__law_same : FuncData
  f_law : Addr
  e_law : FuncData
  t_MOST_PLACES : Tok
  t_MOST_STONES : Tok
  t_MOST_FIGURES : Tok
set_option genInjectivity false in
set_option genSizeOf false in
set_option genCtorIdx false in
structure Txt (K : PySem.W.Frag) (mg : Str → Option Value) (ad : Adr) : Prop where
  d_is_whole : Def K mg "is_whole" vG ["thing"] ad.f_is_whole ad.e_is_whole
  d_is_whole_within : Def K mg "is_whole_within" yR ["thing", "least", "most"] ad.f_is_whole_within ad.e_is_whole_within
  d_is_place_count : Def K mg "is_place_count" y1 ["thing"] ad.f_is_place_count ad.e_is_place_count
  d_is_place : Def K mg "is_place" vJ ["many", "thing"] ad.f_is_place ad.e_is_place
  d_are_counts : Def K mg "are_counts" wk ["many", "thing"] ad.f_are_counts ad.e_are_counts
  d_is_pair : Def K mg "is_pair" Yj ["many", "thing"] ad.f_is_pair ad.e_is_pair
  d_are_ties : Def K mg "are_ties" vE ["many", "thing"] ad.f_are_ties ad.e_are_ties
  d_is_web : Def K mg "is_web" Y8 ["thing"] ad.f_is_web ad.e_is_web
  d_must_be_web : Def K mg "must_be_web" xV ["thing"] ad.f_must_be_web ad.e_must_be_web
  d_are_stones : Def K mg "are_stones" wu ["web", "thing"] ad.f_are_stones ad.e_are_stones
  d_must_be_heap : Def K mg "must_be_heap" xK ["web", "thing"] ad.f_must_be_heap ad.e_must_be_heap
  d_written : Def K mg "written" Yf ["word", "numbers"] ad.f_written ad.e_written
  d_shown : Def K mg "shown" ZH ["web", "heap"] ad.f_shown ad.e_shown
  d_number_written : Def K mg "number_written" y6 ["word"] ad.f_number_written ad.e_number_written
  d_numbers_behind : Def K mg "numbers_behind" y8 ["word", "row"] ad.f_numbers_behind ad.e_numbers_behind
  d_many_read : Def K mg "many_read" wR ["row"] ad.f_many_read ad.e_many_read
  d_read : Def K mg "read" Wc ["text"] ad.f_read ad.e_read
  d__law_pairs : Def K mg "_law_pairs" wq ["many"] ad.f__law_pairs ad.e__law_pairs
  d__law_stir : Def K mg "_law_stir" wY ["cell", "k"] ad.f__law_stir ad.e__law_stir
  d__law_web_by : Def K mg "_law_web_by" xU ["many", "cell"] ad.f__law_web_by ad.e__law_web_by
  d__law_heap_by : Def K mg "_law_heap_by" xF ["many", "cell", "most"] ad.f__law_heap_by ad.e__law_heap_by
  d__law_text : Def K mg "_law_text" wH ["web", "heap", "between"] ad.f__law_text ad.e__law_text
  d__law_same : Def K mg "_law_same" wQ ["found", "due"] ad.f__law_same ad.e__law_same
  d_law : Def K mg "law" VC ["script"] ad.f_law ad.e_law
  g_MOST_PLACES : mg "MOST_PLACES" = some (Value.int 8 ad.t_MOST_PLACES)
  g_MOST_STONES : mg "MOST_STONES" = some (Value.int 300 ad.t_MOST_STONES)
  g_MOST_FIGURES : mg "MOST_FIGURES" = some (Value.int 3 ad.t_MOST_FIGURES)
  z_all : mg "all" = none
  z_bool : mg "bool" = none
  z_enumerate : mg "enumerate" = none
  z_int : mg "int" = none
  z_isinstance : mg "isinstance" = none
  z_len : mg "len" = none
  z_list : mg "list" = none
  z_min : mg "min" = none
  z_range : mg "range" = none
  z_str : mg "str" = none
  z_sum : mg "sum" = none
  z_tuple : mg "tuple" = none
  z_zip : mg "zip" = none
theorem zfb : (["part", "many", "thing"] : List Str).Nodup := by decide +kernel
theorem zeP : (["b", "many", "found", "a"] : List Str).Nodup := by decide +kernel
theorem zeG : (["number", "word", "numbers"] : List Str).Nodup := by decide +kernel
theorem ze8 : (["tie", "web", "heap", "ties"] : List Str).Nodup := by decide +kernel
theorem zfs : (["sign", "word"] : List Str).Nodup := by decide +kernel
theorem zeZ : (["part", "word", "row", "words", "numbers"] : List Str).Nodup := by decide +kernel
theorem zeN : (["stones", "web", "heap", "between", "rows", "a", "b"] : List Str).Nodup := by decide +kernel
noncomputable def vV : D → Bool
  | .int _ => true
  | _ => false
noncomputable def yg (d : D) (lo hi : Int) : Bool := match d with
  | .int i => decide (lo ≤ i) && decide (i ≤ hi)
  | _ => false
section
variable {P : Program} {w : World} {K : PySem.W.Frag} {mg : Str → Option Value} {base : Heap} {ad : Adr}
noncomputable def zQ : List D → Option D
  | [d] => if noS d = true then some (.bl (vV d)) else none
  | _ => none
noncomputable def Yk : SE → Ctl :=
  (yn (x9 (eUn (zN .int) (zc 0)) (vP (eUn (zN .bool) (zc 0)))))
noncomputable def Va : List D → Option D := fnD 1 Yk
theorem zdu {α : Type} {ds : List α} (h : ds.length = 1) : ∃ a, ds = [a] := by match ds, h with | [a], _ => exact ⟨a, rfl⟩
theorem zbP {α : Type} {ds : List α} (h : ds.length = 2) : ∃ a b, ds = [a, b] := by match ds, h with | [a, b], _ => exact ⟨a, b, rfl⟩
theorem len3 {α : Type} {ds : List α} (h : ds.length = 3) : ∃ a b c, ds = [a, b, c] := by match ds, h with | [a, b, c], _ => exact ⟨a, b, c, rfl⟩
theorem ifS {c : Bool} {x y : D} (h : (if c = true then some x else none) = some y) : c = true ∧ x = y := by
  split at h
  · cases h
    exact ⟨by assumption, rfl⟩
  · cases h
theorem Wm : ∀ ds d, ds.length = 1 → zQ ds = some d → Va ds = some d := by
  intro ds d hl h
  obtain ⟨a, rfl⟩ := zdu hl
  obtain ⟨hn, rfl⟩ := ifS h
  cases a <;> first | rfl | cases hn
theorem Y7 (T : Txt K mg ad) : xx P w K mg base CX0 1 ad.f_is_whole ad.e_is_whole ["thing"] (@spD ⟨K⟩ 1 zQ) := by
  letI : KK := ⟨K⟩
  refine wb (xy (N := ["thing"]) (ps := ["thing"]) T.d_is_whole.fn Ws (g := Yk) fun cdv A outer s H E hr => ?_) Wm
  unfold Yk
  exact (zf (zz (wV (zA .int rfl T.z_isinstance (edv 0) (ye (v := .ty "int") rfl T.z_int WP rfl)) (vM (zbY (zA .bool rfl T.z_isinstance (edv 0) (ye (v := .ty "bool") rfl T.z_bool Xa rfl)))))))
noncomputable def ya : SE → Ctl :=
  (yn (x9 (zm 1 zQ (zb (zc 0) zn)) (zL leD leD (zc 1) (zc 0) (zc 2))))
noncomputable def wd : List D → Option D := fnD 3 ya
noncomputable def zv : List D → Option D
  | [d, .int lo, .int hi] => if noS d = true then some (.bl (yg d lo hi)) else none
  | _ => none
theorem Z7 {a : D} {lo hi : Int} (hn : noS a = true) (hw : vV a = false) : wd [a, .int lo, .int hi] = some (.bl false) := by
  have e : zQ [a] = some (.bl false) := by
    show (if noS a = true then some (D.bl (vV a)) else none) = _
    rw [if_pos hn, hw]
  refine XW (ρ := [.v a, .v (.int lo), .v (.int hi)]) rfl ?_
  unfold ya
  refine Zc (vD ?_) rfl
  show (((zQ [a]).bind asB).bind fun c => if c = true then _ else some (D.bl false)) = _
  rw [e]
  rfl
theorem v6 : ∀ ds d, ds.length = 3 → zv ds = some d → wd ds = some d := by
  intro ds d hl h
  obtain ⟨a, b, c, rfl⟩ := len3 hl
  cases b <;> try cases h
  cases c <;> try cases h
  rename_i lo hi
  obtain ⟨hn, rfl⟩ := ifS h
  cases a with
  | scr _ => cases hn
  | int i =>
    refine XW (ρ := [.v (.int i), .v (.int lo), .v (.int hi)]) rfl ?_
    unfold ya
    refine Zc (vD ?_) rfl
    show (if decide (lo ≤ i) = true then some (D.bl (decide (i ≤ hi))) else some (.bl false)) = some (.bl (decide (lo ≤ i) && decide (i ≤ hi)))
    cases decide (lo ≤ i) <;> rfl
  | tup es => exact Z7 hn rfl
  | lst es => exact Z7 hn rfl
  | dct z t ks vs => exact Z7 hn rfl
  | non => rfl
  | bl _ => rfl
  | str _ => rfl
theorem xR (T : Txt K mg ad) : xx P w K mg base CX0 2 ad.f_is_whole_within ad.e_is_whole_within ["thing", "least", "most"] (@spD ⟨K⟩ 3 zv) := by
  letI : KK := ⟨K⟩
  have G_is_whole := Y7 (P := P) (w := w) (base := base) T
  refine wb (xy (N := ["thing", "least", "most"]) (ps := ["thing", "least", "most"]) T.d_is_whole_within.fn vT (g := ya) fun cdv A outer s H E hr => ?_) v6
  unfold ya
  exact (zf (zz (wV (zk G_is_whole hr rfl T.d_is_whole (za (edv 0) zd)) (vM (zbb Z9 Z9 yK yK (edv 1) (edv 0) (edv 2) (fun a b c => zbA Z9 Z9 a b c))))))
noncomputable def yB : SE → Ctl :=
  (yn (zm 3 zv (zb (zc 0) (zb (eC (.int 1)) (zb (eC (.int 8)) zn)))))
noncomputable def xn : List D → Option D := fnD 1 yB
noncomputable def zH : List D → Option D
  | [d] => if noS d = true then some (.bl (yg d 1 8)) else none
  | _ => none
theorem Yl : ∀ ds d, ds.length = 1 → zH ds = some d → xn ds = some d := by
  intro ds d hl h
  obtain ⟨a, rfl⟩ := zdu hl
  have e : xn [a] = zv [a, .int 1, .int 8] := by
    cases h2 : zv [a, .int 1, .int 8] <;> simp [xn, yB, fnD, zY, yn, xl, sIf, yP, vn, sNo, zE, YB, vh, wO, Yq, Yv, vEv, visF, visG, Sl.f, Sl.g, zc, eC, zj, x9, eOr, vP, eIf, eUn, Yt, wj, yz, zF, zb, zn, zm, eFn, fFn, tOf, yj, x6, zO, asB, asI, zp, vH, xQ, zU, yF, vm, yD, ltD, leD, gtD, geD, vA, zr, zD, zt, zB, vv, zC, ixD, wK, zN, isT, eSl, yr, yt, zL, yi, iOf, wF, yq, vK, wL, wZ, zV, yW, fLC, zP, zJ, xf, zZ, vj, yf, vq, b1, b2, h2]
  rw [e]
  exact h
theorem x4 (T : Txt K mg ad) : xx P w K mg base CX0 3 ad.f_is_place_count ad.e_is_place_count ["thing"] (@spD ⟨K⟩ 1 zH) := by
  letI : KK := ⟨K⟩
  have G_is_whole_within := xR (P := P) (w := w) (base := base) T
  refine wb (xy (N := ["thing"]) (ps := ["thing"]) T.d_is_place_count.fn Yc (g := yB) fun cdv A outer s H E hr => ?_) Yl
  unfold yB
  exact (zf (zz (zk G_is_whole_within hr rfl T.d_is_whole_within (za (edv 0) (za (zg zh) (za (zg (Wo (v := .int 8) rfl T.g_MOST_PLACES ⟨_, rfl⟩)) zd))))))
noncomputable def w8 : SE → Ctl :=
  (yn (zm 3 zv (zb (zc 1) (zb (eC (.int 0)) (zb (zj vH (zc 0) (eC (.int 1))) zn)))))
noncomputable def Yn : List D → Option D := fnD 2 w8
noncomputable def yE : List D → Option D
  | [.int m, d] => if noS d = true then some (.bl (yg d 0 (m - 1))) else none
  | _ => none
theorem X2 : ∀ ds d, ds.length = 2 → yE ds = some d → Yn ds = some d := by
  intro ds d hl h
  obtain ⟨a, b, rfl⟩ := zbP hl
  cases a <;> try cases h
  rename_i m
  have e : Yn [.int m, b] = zv [b, .int 0, .int (m - 1)] := by
    cases h2 : zv [b, .int 0, .int (m - 1)] <;> simp [Yn, w8, fnD, zY, yn, xl, sIf, yP, vn, sNo, zE, YB, vh, wO, Yq, Yv, vEv, visF, visG, Sl.f, Sl.g, zc, eC, zj, x9, eOr, vP, eIf, eUn, Yt, wj, yz, zF, zb, zn, zm, eFn, fFn, tOf, yj, x6, zO, asB, asI, zp, vH, xQ, zU, yF, vm, yD, ltD, leD, gtD, geD, vA, zr, zD, zt, zB, vv, zC, ixD, wK, zN, isT, eSl, yr, yt, zL, yi, iOf, wF, yq, vK, wL, wZ, zV, yW, fLC, zP, zJ, xf, zZ, vj, yf, vq, b1, b2, h2]
  rw [e]
  exact h
theorem X3 (T : Txt K mg ad) : xx P w K mg base CX0 3 ad.f_is_place ad.e_is_place ["many", "thing"] (@spD ⟨K⟩ 2 yE) := by
  letI : KK := ⟨K⟩
  have G_is_whole_within := xR (P := P) (w := w) (base := base) T
  refine wb (xy (N := ["many", "thing"]) (ps := ["many", "thing"]) T.d_is_place.fn Wi (g := w8) fun cdv A outer s H E hr => ?_) X2
  unfold w8
  exact (zf (zz (zk G_is_whole_within hr rfl T.d_is_whole_within (za (edv 1) (za (zg zh) (za (V0 (edv 0) (zg zh)) zd))))))
theorem zcm {d : D} {lo hi : Int} (h : ∀ i, d ≠ .int i) : yg d lo hi = false := by
  cases d <;> first | rfl | exact absurd rfl (h _)
theorem Xz {d : D} {lo hi : Int} (h : yg d lo hi = true) : ∃ i, d = .int i := by
  cases d with
  | int i => exact ⟨i, rfl⟩
  | _ => cases h
noncomputable def vQ : SE → Ctl :=
  (zY (sIf (x6 (zO (tOf (eUn (zN .tuple) (zc 1)))) (tOf (zj neD (eFn wK (zb (zc 1) zn)) (eC (.int 2))))) (yn (eC (.bl false))) zE)
    (yn (x9 (zm 2 yE (zb (zc 0) (zb (zj ixD (zc 1) (eC (.int 0))) zn))) (x9 (zm 2 yE (zb (zc 0) (zb (zj ixD (zc 1) (eC (.int 1))) zn))) (zj neD (zj ixD (zc 1) (eC (.int 0))) (zj ixD (zc 1) (eC (.int 1))))))))
noncomputable def VW : List D → Option D := fnD 2 vQ
noncomputable def xG : List D → Option D
  | [.int m, d] => if noS d = true then some (.bl (xr m d)) else none
  | _ => none
theorem zbj {m : Int} {x y : D} (h : yg x 0 (m - 1) = false) : xr m (.tup [x, y]) = false := by
  cases x with
  | int i =>
    cases y with
    | int j =>
      show (inR m i && inR m j && !decide (i = j)) = false
      rw [show inR m i = false from h]
      rfl
    | _ => rfl
  | _ => rfl
theorem zbK {m : Int} {x y : D} (h : yg y 0 (m - 1) = false) : xr m (.tup [x, y]) = false := by
  cases x with
  | int i =>
    cases y with
    | int j =>
      show (inR m i && inR m j && !decide (i = j)) = false
      rw [show inR m j = false from h, Bool.and_false]
      rfl
    | _ => rfl
  | _ => rfl
theorem W0 : ∀ ds d, ds.length = 2 → xG ds = some d → VW ds = some d := by
  intro ds d hl h
  obtain ⟨a, b, rfl⟩ := zbP hl
  cases a <;> try cases h
  rename_i m
  obtain ⟨hn, rfl⟩ := ifS h
  clear h
  cases b with
  | tup es =>
    refine XW (ρ := [.v (.int m), .v (.tup es)]) rfl ?_
    unfold vQ
    by_cases hl : es.length = 2
    · obtain ⟨x, y, rfl⟩ := zbP hl
      have hx : noS x = true := wo (ds := [x, y]) (i := 0) hn rfl
      have hy : noS y = true := wo (ds := [x, y]) (i := 1) hn rfl
      have e0 : yE [.int m, x] = some (.bl (yg x 0 (m - 1))) := by
        show (if noS x = true then some (D.bl (yg x 0 (m - 1))) else none) = _
        rw [if_pos hx]
      have e1 : yE [.int m, y] = some (.bl (yg y 0 (m - 1))) := by
        show (if noS y = true then some (D.bl (yg y 0 (m - 1))) else none) = _
        rw [if_pos hy]
      refine zy (ρ' := [.v (.int m), .v (.tup [x, y])]) rfl (Zc (vD ?_) rfl)
      show (((yE [.int m, x]).bind asB).bind fun c => if c = true then (((yE [.int m, y]).bind asB).bind fun c => if c = true then neD x y else some (D.bl false)) else some (D.bl false)) = _
      rw [e0, e1]
      cases h1 : yg x 0 (m - 1) with
      | false => rw [zbj h1]; rfl
      | true =>
        cases h2 : yg y 0 (m - 1) with
        | false => rw [zbK h2]; rfl
        | true =>
          obtain ⟨i, rfl⟩ := Xz h1
          obtain ⟨j, rfl⟩ := Xz h2
          show some (D.bl (!decide (i = j))) = some (.bl (inR m i && inR m j && !decide (i = j)))
          rw [show inR m i = true from h1, show inR m j = true from h2]
          rfl
    · have e : xr m (.tup es) = false := by
        unfold xr vp
        split
        · rename_i t ht
          split at ht
          · rename_i e'
            injection e' with e'
            rw [e'] at hl
            exact absurd rfl hl
          · cases ht
        · rfl
      rw [e]
      refine xJ (YJ (c := true) ?_ (fun _ => Zc rfl rfl) fun z => by cases z)
      show some (!decide ((es.length : Int) = 2)) = _
      rw [decide_eq_false (show ¬ (es.length : Int) = 2 from fun h => hl (Int.ofNat.inj h))]
      rfl
  | scr _ => cases hn
  | _ => rfl
theorem Vb (T : Txt K mg ad) : xx P w K mg base CX0 4 ad.f_is_pair ad.e_is_pair ["many", "thing"] (@spD ⟨K⟩ 2 xG) := by
  letI : KK := ⟨K⟩
  have G_is_place := X3 (P := P) (w := w) (base := base) T
  refine wb (xy (N := ["many", "thing"]) (ps := ["many", "thing"]) T.d_is_pair.fn W1 (g := vQ) fun cdv A outer s H E hr => ?_) W0
  unfold vQ
  exact (ze (yV (Vi (Zp (xu (y0 (zA .tuple rfl T.z_isinstance (edv 1) (ye (v := .ty "tuple") rfl T.z_tuple xz rfl)))) (vZ (ym ZL vW (zS _) (yo yl vz rfl T.z_len v5 (za (edv 1) zd)) (zg zh))))) (zf (zz (Yb Yg))) zI)
      (zf (zz (wV (zk G_is_place hr rfl T.d_is_place (za (edv 0) (za (xL (edv 1) (zg zh) (fun _ _ => rfl)) zd))) (wV (zk G_is_place hr rfl T.d_is_place (za (edv 0) (za (xL (edv 1) (zg zh) (fun _ _ => rfl)) zd))) (vM (Yz ZL vW (zS _) (xL (edv 1) (zg zh) (fun _ _ => rfl)) (xL (edv 1) (zg zh) (fun _ _ => rfl)))))))))
noncomputable def XC (ds : List D) : Nat → Option Tie
  | 0 => none
  | k + 1 => (ds[k]?).bind vp
noncomputable def wJ : SE → Ctl :=
  (zY (sIf (x6 (zO (tOf (zm 2 xG (zb (zc 0) (zb (zc 3) zn))))) (tOf (zj gtD (zj ixD (zc 3) (eC (.int 0))) (zj ixD (zc 3) (eC (.int 1)))))) (yn (eC (.bl false))) zE)
    (sIf (yj (tOf (zj gtD (zc 2) (eC (.int 0)))) (tOf (zj leT (zc 3) (zj ixD (zc 1) (zj vH (zc 2) (eC (.int 1))))))) (yn (eC (.bl false))) zE))
noncomputable def wc : SE → Ctl :=
  (zY (sIf (zO (tOf (eUn (zN .tuple) (zc 1)))) (yn (eC (.bl false))) zE)
    (zY (wF (zV (zb (zc 1) zn)) (vj 2 (yf (zZ 2) (yf (zZ 3) vq))) wJ)
    (yn (eC (.bl true)))))
noncomputable def W6 : List D → Option D := fnD 4 wc
noncomputable def x5 : List D → Option D
  | [.int m, d] => if noS d = true then some (.bl (vd m d)) else none
  | _ => none
theorem Zo {m : Int} {d : D} (h : xr m d = true) : ∃ t, d = zu t := by
  unfold xr at h
  split at h
  · rename_i t ht
    exact ⟨t, YU ht⟩
  · cases h
theorem X0 : ∀ ds d, ds.length = 2 → x5 ds = some d → W6 ds = some d := by
  intro ds d hl h
  obtain ⟨a, b, rfl⟩ := zbP hl
  cases a <;> try cases h
  rename_i m
  obtain ⟨hn, rfl⟩ := ifS h
  clear h hl
  cases b with
  | scr _ => cases hn
  | tup es =>
    refine XW (g := wc) rfl ?_
    unfold wc
    refine zy rfl ?_
    refine xJ (Wb (ds := vS 0 es) (fun i ρ => ∃ o1 o2, ρ = [.v (.int m), .v (.tup es), o1, o2] ∧ yd m none es = yd m (XC es i) (es.drop i) ∧ ∀ k, i = k + 1 → ∃ p, es[k]? = some (zu p)) rfl
      ⟨.no, .no, rfl, rfl, fun k e => by cases e⟩ ?_ ?_)
    · rintro i d ρ hd ⟨o1, o2, rfl, hp, hk⟩
      rw [x8] at hd
      obtain ⟨dx, hdx, rfl⟩ := Option.map_eq_some_iff.mp hd
      rw [Nat.zero_add]
      refine ⟨_, rfl, ?_⟩
      have hdrop : es.drop i = dx :: es.drop (i + 1) := by
        obtain ⟨h1, h2⟩ := List.getElem?_eq_some_iff.mp hdx
        rw [List.drop_eq_getElem_cons h1, h2]
      have hnx : noS dx = true := wo hn hdx
      unfold wJ
      cases hpr : xr m dx with
      | false =>
        have e1 : xG [.int m, dx] = some (.bl false) := by
          show (if noS dx = true then some (D.bl (xr m dx)) else none) = _
          rw [if_pos hnx, hpr]
        refine xJ (YJ (c := true) (show (((xG [.int m, dx]).bind asB).map (!·)).bind (fun c => if c = true then some true else _) = _ by rw [e1]; rfl) (fun _ => Zc rfl ?_) (fun z => by cases z))
        have e : yd m none es = false := by
          rw [hp, hdrop]
          unfold yd
          split
          · rw [hpr]; rfl
          · rfl
        show D.bl false = .bl (yd m none es)
        rw [e]
      | true =>
        obtain ⟨t, rfl⟩ := Zo hpr
        have e1 : xG [.int m, zu t] = some (.bl true) := by
          show (if noS (zu t) = true then some (D.bl (xr m (zu t))) else none) = _
          rw [if_pos hnx, hpr]
        have step : yd m none es = (!decide (t.2 < t.1) && XU (XC es i) t && yd m (some t) (es.drop (i + 1))) := by
          rw [hp, hdrop]
          conv => lhs; unfold yd
          rw [wX, hpr]
          rfl
        have prevS : XC es (i + 1) = some t := by
          show (es[i]?).bind vp = some t
          rw [hdx]
          rfl
        refine xJ (YJ (c := decide (t.2 < t.1)) (show (((xG [.int m, zu t]).bind asB).map (!·)).bind (fun c => if c = true then some true else some (decide (t.2 < t.1))) = _ by rw [e1]; rfl) (fun c => Zc rfl ?_) (fun c => Zf rfl ?_))
        · show D.bl false = .bl (yd m none es)
          rw [step, c]
          rfl
        · cases i with
          | zero =>
            refine YJ (c := false) rfl (fun z => by cases z) (fun _ => Zf rfl ?_)
            refine ⟨_, _, rfl, ?_, fun k e => ?_⟩
            · rw [prevS, step, c]
              rfl
            · cases e
              exact ⟨t, hdx⟩
          | succ j =>
            obtain ⟨p, hpk⟩ := hk j rfl
            have prevK : XC es (j + 1) = some p := by
              show (es[j]?).bind vp = some p
              rw [hpk]
              rfl
            rw [prevK] at step
            have ea : atI es ((((j + 1 : Nat) : Int)) - 1) = some (zu p) := by
              rw [show (((j + 1 : Nat) : Int)) - 1 = (j : Nat) from Int.add_sub_cancel (j : Int) 1]
              exact zcO hpk
            have okP : XU (some p) t = !leP t p := rfl
            refine YJ (c := leP t p) ?_ (fun c2 => Zc rfl ?_) (fun c2 => Zf rfl ?_)
            · have z : decide ((0 : Int) < ((j + 1 : Nat) : Int)) = true := decide_eq_true (Int.natCast_pos.mpr (Nat.succ_pos j))
              show ((some (decide ((0 : Int) < ((j + 1 : Nat) : Int)))).bind fun c => if c = true then (((atI es (((j + 1 : Nat) : Int) - 1)).bind fun y => leT (zu t) y).bind asB) else some false) = _
              rw [z, ea]
              rfl
            · show D.bl false = .bl (yd m none es)
              rw [step, okP, c2, c]
              rfl
            · refine ⟨_, _, rfl, ?_, fun k' e => ?_⟩
              · rw [prevS, step, okP, c2, c]
                rfl
              · cases e
                exact ⟨t, hdx⟩
    · rintro ρ ⟨o1, o2, rfl, hp, hk⟩
      refine Zc rfl ?_
      show D.bl true = .bl (yd m none es)
      rw [hp, xj, List.drop_length]
      cases XC es es.length <;> rfl
  | _ => rfl
theorem We (T : Txt K mg ad) : xx P w K mg base CX0 5 ad.f_are_ties ad.e_are_ties ["many", "thing"] (@spD ⟨K⟩ 2 x5) := by
  letI : KK := ⟨K⟩
  have G_is_pair := Vb (P := P) (w := w) (base := base) T
  refine wb (xy (N := ["many", "thing", "at", "tie"]) (ps := ["many", "thing"]) T.d_are_ties.fn vC (g := wc) fun cdv A outer s H E hr => ?_) X0
  unfold wc wJ
  exact (ze (yV (xu (y0 (zA .tuple rfl T.z_isinstance (edv 1) (ye (v := .ty "tuple") rfl T.z_tuple xz rfl)))) (zf (zz (Yb Yg))) zI)
      (ze (Zv PassesOwn.never rfl (VI rfl T.z_enumerate wI (za (edv 1) zd)) (XS rfl (y9 (yM (zM (i := 2) vC.nd rfl (Or.inl rfl))) (y9 (yM (zM (i := 3) vC.nd rfl (Or.inl rfl))) Zb))) (ze (yV (Vi (Zp (xu (y0 (zk G_is_pair hr rfl T.d_is_pair (za (edv 0) (za (edv 3) zd))))) (vZ (ym zct yK (zS _) (xL (edv 3) (zg zh) (fun _ _ => rfl)) (xL (edv 3) (zg zh) (fun _ _ => rfl)))))) (zf (zz (Yb Yg))) zI)
      (zf (yV (Vi (WU (ym zct yK (zS _) (edv 2) (zg zh)) (ZO (ym (zdH hr.units0) zcC (zS _) (edv 3) (xL (edv 1) (V0 (edv 2) (zg zh)) (fun _ _ => rfl)))))) (zf (zz (Yb Yg))) zI))))
      (zf (zz (Yb Yg)))))
noncomputable def vc : SE → Ctl :=
  (zY (sIf (x6 (zO (tOf (eUn (zN .tuple) (zc 0)))) (tOf (zj neD (eFn wK (zb (zc 0) zn)) (eC (.int 2))))) (yn (eC (.bl false))) zE)
    (yn (x9 (zm 1 zH (zb (zj ixD (zc 0) (eC (.int 0))) zn)) (zm 2 x5 (zb (zj ixD (zc 0) (eC (.int 0))) (zb (zj ixD (zc 0) (eC (.int 1))) zn))))))
noncomputable def YS : List D → Option D := fnD 1 vc
noncomputable def wx : List D → Option D
  | [d] => if noS d = true then some (.bl (wz d)) else none
  | _ => none
theorem VT {x y : D} : wz (.tup [x, y]) = (yg x 1 8 && match x with | .int m => vd m y | _ => false) := by
  cases x <;> rfl
theorem zaq : ∀ ds d, ds.length = 1 → wx ds = some d → YS ds = some d := by
  intro ds d hl h
  obtain ⟨a, rfl⟩ := zdu hl
  obtain ⟨hn, rfl⟩ := ifS h
  clear h hl
  cases a with
  | scr _ => cases hn
  | tup es =>
    by_cases hl : es.length = 2
    · obtain ⟨x, y, rfl⟩ := zbP hl
      have hx : noS x = true := wo (ds := [x, y]) (i := 0) hn rfl
      have hy : noS y = true := wo (ds := [x, y]) (i := 1) hn rfl
      have ec : zH [x] = some (.bl (yg x 1 8)) := by simp [zH, hx]
      rw [VT]
      by_cases ix : ∃ i, x = .int i
      · obtain ⟨i, rfl⟩ := ix
        have et : x5 [.int i, y] = some (.bl (vd i y)) := by simp [x5, hy]
        cases hc : yg (.int i) 1 8 <;> rw [hc] at ec <;> simp [YS, vc, fnD, zY, yn, xl, sIf, yP, vn, sNo, zE, YB, vh, wO, Yq, Yv, vEv, visF, visG, Sl.f, Sl.g, zc, eC, zj, x9, eOr, vP, eIf, eUn, Yt, wj, yz, zF, zb, zn, zm, eFn, fFn, tOf, yj, x6, zO, asB, asI, zp, vH, xQ, zU, yF, vm, yD, ltD, leD, gtD, geD, vA, zr, zD, zt, zB, vv, zC, ixD, wK, zN, isT, eSl, yr, yt, zL, yi, iOf, wF, yq, vK, wL, wZ, zV, yW, fLC, zP, zJ, xf, zZ, vj, yf, vq, b1, b2, ec, et, atI, ixN]
      · have n2 : yg x 1 8 = false := zcm fun j hj => ix ⟨j, hj⟩
        rw [n2] at ec ⊢
        simp [YS, vc, fnD, zY, yn, xl, sIf, yP, vn, sNo, zE, YB, vh, wO, Yq, Yv, vEv, visF, visG, Sl.f, Sl.g, zc, eC, zj, x9, eOr, vP, eIf, eUn, Yt, wj, yz, zF, zb, zn, zm, eFn, fFn, tOf, yj, x6, zO, asB, asI, zp, vH, xQ, zU, yF, vm, yD, ltD, leD, gtD, geD, vA, zr, zD, zt, zB, vv, zC, ixD, wK, zN, isT, eSl, yr, yt, zL, yi, iOf, wF, yq, vK, wL, wZ, zV, yW, fLC, zP, zJ, xf, zZ, vj, yf, vq, b1, b2, ec, atI, ixN]
    · have e : wz (.tup es) = false := zc5 fun m ties h _ => by
        unfold yI at h
        injection h with h
        rw [h] at hl
        exact hl rfl
      rw [e]
      have : ¬ (es.length : Int) = 2 := by omega
      simp [YS, vc, fnD, zY, yn, xl, sIf, yP, vn, sNo, zE, YB, vh, wO, Yq, Yv, vEv, visF, visG, Sl.f, Sl.g, zc, eC, zj, x9, eOr, vP, eIf, eUn, Yt, wj, yz, zF, zb, zn, zm, eFn, fFn, tOf, yj, x6, zO, asB, asI, zp, vH, xQ, zU, yF, vm, yD, ltD, leD, gtD, geD, vA, zr, zD, zt, zB, vv, zC, ixD, wK, zN, isT, eSl, yr, yt, zL, yi, iOf, wF, yq, vK, wL, wZ, zV, yW, fLC, zP, zJ, xf, zZ, vj, yf, vq, b1, b2, this]
  | _ => rfl
theorem XT (T : Txt K mg ad) : xx P w K mg base CX0 6 ad.f_is_web ad.e_is_web ["thing"] (@spD ⟨K⟩ 1 wx) := by
  letI : KK := ⟨K⟩
  have G_is_place_count := x4 (P := P) (w := w) (base := base) T
  have G_are_ties := We (P := P) (w := w) (base := base) T
  refine wb (xy (N := ["thing"]) (ps := ["thing"]) T.d_is_web.fn VF (g := vc) fun cdv A outer s H E hr => ?_) zaq
  unfold vc
  exact (ze (yV (Vi (Zp (xu (y0 (zA .tuple rfl T.z_isinstance (edv 0) (ye (v := .ty "tuple") rfl T.z_tuple xz rfl)))) (vZ (ym ZL vW (zS _) (yo yl vz rfl T.z_len v5 (za (edv 0) zd)) (zg zh))))) (zf (zz (Yb Yg))) zI)
      (zf (zz (wV (zk G_is_place_count hr rfl T.d_is_place_count (za (xL (edv 0) (zg zh) (fun _ _ => rfl)) zd)) (vM (zk G_are_ties hr rfl T.d_are_ties (za (xL (edv 0) (zg zh) (fun _ _ => rfl)) (za (xL (edv 0) (zg zh) (fun _ _ => rfl)) zd))))))))
theorem zaE (m : Int) (ts : List Tie) : noS (yI m ts) = true := by
  have : ∀ ts : List Tie, zaU (ts.map zu) = true := by
    intro ts
    induction ts with
    | nil => rfl
    | cons t ts ih => show (noS (zu t) && zaU (ts.map zu)) = true; rw [ih]; rfl
  show (noS (.int m) && (noS (.tup (ts.map zu)) && true)) = true
  rw [show noS (.tup (ts.map zu)) = zaU (ts.map zu) from rfl, this ts]
  rfl
noncomputable def xw : SE → Ctl :=
  (sIf (zO (tOf (zm 1 wx (zb (zc 0) zn)))) sNo zE)
noncomputable def vN : List D → Option D := fnD 1 xw
noncomputable def yQ : List D → Option D
  | [d] => if wz d = true then some .non else none
  | _ => none
theorem Zi : ∀ ds d, ds.length = 1 → yQ ds = some d → vN ds = some d := by
  intro ds d hl h
  obtain ⟨a, rfl⟩ := zdu hl
  obtain ⟨hw, rfl⟩ := ifS h
  obtain ⟨m, ts, rfl, _⟩ := (vb a).mp hw
  have e : wx [yI m ts] = some (.bl true) := by simp [wx, zaE m ts, hw]
  simp [vN, xw, fnD, zY, yn, xl, sIf, yP, vn, sNo, zE, YB, vh, wO, Yq, Yv, vEv, visF, visG, Sl.f, Sl.g, zc, eC, zj, x9, eOr, vP, eIf, eUn, Yt, wj, yz, zF, zb, zn, zm, eFn, fFn, tOf, yj, x6, zO, asB, asI, zp, vH, xQ, zU, yF, vm, yD, ltD, leD, gtD, geD, vA, zr, zD, zt, zB, vv, zC, ixD, wK, zN, isT, eSl, yr, yt, zL, yi, iOf, wF, yq, vK, wL, wZ, zV, yW, fLC, zP, zJ, xf, zZ, vj, yf, vq, b1, b2, e]
theorem Zk (T : Txt K mg ad) : xx P w K mg base CX0 7 ad.f_must_be_web ad.e_must_be_web ["thing"] (@spD ⟨K⟩ 1 yQ) := by
  letI : KK := ⟨K⟩
  have G_is_web := XT (P := P) (w := w) (base := base) T
  refine wb (xy (N := ["thing"]) (ps := ["thing"]) T.d_must_be_web.fn Zm (g := xw) fun cdv A outer s H E hr => ?_) Zi
  unfold xw
  exact (zf (yV (xu (y0 (zk G_is_web hr rfl T.d_is_web (za (edv 0) zd)))) (zf xP) zI))
noncomputable def yO : D → Bool
  | .int i => decide (0 ≤ i)
  | _ => false
noncomputable def zfq : D → Int
  | .int i => i
  | _ => 0
noncomputable def yS (m : Int) : D → Bool
  | .tup ds => decide ((ds.length : Int) = m) && ds.all yO
  | _ => false
theorem zbs {α : Type} (f : α → Bool) (l : List α) : zdc [.lst (l.map fun x => .bl (f x))] = some (.bl (l.all f)) := by
  have : zc1 (l.map fun x => D.bl (f x)) = some (l.map f) := by
    have := zbG (l.map f)
    rwa [List.map_map] at this
  show ((zc1 (l.map fun x => D.bl (f x))).bind fun bs => some (D.bl (bs.all id))) = _
  rw [this]
  show some (D.bl ((l.map f).all id)) = _
  rw [List.all_map]
  rfl
theorem X9 {ds : List D} (h : ds.all yO = true) : ∃ ns : List Int, ds = ns.map .int ∧ ∀ n ∈ ns, 0 ≤ n := by
  induction ds with
  | nil => exact ⟨[], rfl, by simp⟩
  | cons d ds ih =>
    rw [List.all_cons, Bool.and_eq_true] at h
    obtain ⟨ns, rfl, hn⟩ := ih h.2
    cases d with
    | int i => exact ⟨i :: ns, rfl, fun n hm => by
        rcases List.mem_cons.mp hm with rfl | hm
        · exact of_decide_eq_true h.1
        · exact hn n hm⟩
    | _ => exact absurd h.1 Bool.false_ne_true
theorem VY {ns : List Int} (h : ∀ n ∈ ns, 0 ≤ n) : (ns.map D.int).all yO = true := by
  rw [List.all_map, List.all_eq_true]
  exact fun n hn => decide_eq_true (h n hn)
theorem V5 (ns : List Int) : zeO [.tup (ns.map .int)] = some (.int ns.sum) := by
  show ((zdd (ns.map .int)).bind fun ns => some (D.int ns.sum)) = _
  rw [zbI]
  rfl
noncomputable def yG : SE → Ctl :=
  (zY (sIf (x6 (zO (tOf (eUn (zN .tuple) (zc 1)))) (tOf (zj neD (eFn wK (zb (zc 1) zn)) (zc 0)))) (yn (eC (.bl false))) zE)
    (yn (eFn zdc (zb (yz (fLC (iOf (zc 1)) b1 zP (x9 (zm 1 zQ (zb (zc 0) zn)) (zj geD (zc 0) (eC (.int 0)))))) zn))))
noncomputable def YD : List D → Option D := fnD 2 yG
noncomputable def xk : List D → Option D
  | [.int m, d] => if (noS d && decide (m ≤ 1000)) = true then some (.bl (yS m d)) else none
  | _ => none
theorem zdj {d : D} (hn : noS d = true) : ((zQ [d]).bind asB).bind (fun c => if c = true then geD d (.int 0) else some (.bl false)) = some (.bl (yO d)) := by
  cases d with
  | scr _ => cases hn
  | tup _ => simp [zQ, hn, vV, asB, yO]
  | lst _ => simp [zQ, hn, vV, asB, yO]
  | _ => rfl
theorem Z6 : ∀ ds d, ds.length = 2 → xk ds = some d → YD ds = some d := by
  intro ds d hl h
  obtain ⟨a, b, rfl⟩ := zbP hl
  cases a <;> try cases h
  rename_i m
  obtain ⟨hn, rfl⟩ := ifS h
  clear h hl
  rw [Bool.and_eq_true, decide_eq_true_eq] at hn
  obtain ⟨hn, hm⟩ := hn
  cases b with
  | scr _ => cases hn
  | tup es =>
    by_cases hl : (es.length : Int) = m
    · have e : fLC (iOf (zc 1)) b1 zP (x9 (zm 1 zQ (zb (zc 0) zn)) (zj geD (zc 0) (eC (.int 0)))) [some (.int m), some (.tup es)] = some (es.map fun d => .bl (yO d)) := by
        unfold fLC
        show (if lim es.length = true then _ else none) = _
        rw [if_pos (wA (by omega))]
        have := Ye (b := b1) (t := zP) (f := x9 (zm 1 zQ (zb (zc 0) zn)) (zj geD (zc 0) (eC (.int 0)))) (ρ := [some (.int m), some (.tup es)]) id (fun d => .bl (yO d)) es
          (fun d hd => ⟨[some d], rfl, rfl, zdj (by obtain ⟨j, hj, rfl⟩ := List.getElem_of_mem hd; exact wo (i := j) hn (by simp [hj]))⟩)
        rwa [List.map_id] at this
      show fnD 2 yG _ = _
      refine XW rfl ?_
      unfold yG
      refine xJ (YJ (c := false) (by simp [fnD, zY, yn, xl, sIf, yP, vn, sNo, zE, YB, vh, wO, Yq, Yv, vEv, visF, visG, Sl.f, Sl.g, zc, eC, zj, x9, eOr, vP, eIf, eUn, Yt, wj, yz, zF, zb, zn, zm, eFn, fFn, tOf, yj, x6, zO, asB, asI, zp, vH, xQ, zU, yF, vm, yD, ltD, leD, gtD, geD, vA, zr, zD, zt, zB, vv, zC, ixD, wK, zN, isT, eSl, yr, yt, zL, yi, iOf, wF, yq, vK, wL, wZ, zV, yW, fLC, zP, zJ, xf, zZ, vj, yf, vq, b1, b2, hl]) (fun z => by cases z) fun _ => Zf rfl (Zc (d := .bl (es.all yO)) ?_ ?_))
      · show (match (((fLC (iOf (zc 1)) b1 zP (x9 (zm 1 zQ (zb (zc 0) zn)) (zj geD (zc 0) (eC (.int 0)))) [some (.int m), some (.tup es)]).map D.lst).bind fun d => (some [] : Option (List D)).map (d :: ·)).bind zdc with | some d => Ctl.rt d | none => Ctl.no) = _
        rw [e]
        show (match zdc [.lst (es.map fun d => .bl (yO d))] with | some d => Ctl.rt d | none => Ctl.no) = _
        rw [zbs]
      · show D.bl (es.all yO) = .bl (decide ((es.length : Int) = m) && es.all yO)
        rw [decide_eq_true hl, Bool.true_and]
    · have e : yS m (.tup es) = false := by
        show (decide ((es.length : Int) = m) && es.all yO) = false
        rw [decide_eq_false hl, Bool.false_and]
      rw [e]
      simp [YD, yG, fnD, zY, yn, xl, sIf, yP, vn, sNo, zE, YB, vh, wO, Yq, Yv, vEv, visF, visG, Sl.f, Sl.g, zc, eC, zj, x9, eOr, vP, eIf, eUn, Yt, wj, yz, zF, zb, zn, zm, eFn, fFn, tOf, yj, x6, zO, asB, asI, zp, vH, xQ, zU, yF, vm, yD, ltD, leD, gtD, geD, vA, zr, zD, zt, zB, vv, zC, ixD, wK, zN, isT, eSl, yr, yt, zL, yi, iOf, wF, yq, vK, wL, wZ, zV, yW, fLC, zP, zJ, xf, zZ, vj, yf, vq, b1, b2, hl]
  | _ => rfl
theorem ZK (T : Txt K mg ad) : xx P w K mg base CX0 2 ad.f_are_counts ad.e_are_counts ["many", "thing"] (@spD ⟨K⟩ 2 xk) := by
  letI : KK := ⟨K⟩
  have G_is_whole := Y7 (P := P) (w := w) (base := base) T
  refine wb (xy (N := ["many", "thing"]) (ps := ["many", "thing"]) T.d_are_counts.fn ZE (g := yG) fun cdv A outer s H E hr => ?_) Z6
  unfold yG
  exact (ze (yV (Vi (Zp (xu (y0 (zA .tuple rfl T.z_isinstance (edv 1) (ye (v := .ty "tuple") rfl T.z_tuple xz rfl)))) (vZ (ym ZL vW (zS _) (yo yl vz rfl T.z_len v5 (za (edv 1) zd)) (edv 0))))) (zf (zz (Yb Yg))) zI)
      (zf (zz (yo (Xp rfl) zae rfl T.z_all zb6 (za (vi (Xi (L := ["part"]) (M := ["many", "thing"]) rfl (Y6 (by rfl) (by rfl) (by rfl) (by with_unfolding_all rfl) (by rfl) (by rfl) (by kernel_rfl) vI) (YW (edv 1)) gs1 rb1 (fun _ _ _ _ => (zM (i := 0) zfb rfl (Or.inl rfl) (.inr rfl))) (fun _ _ _ _ => (wV (zk G_is_whole hr rfl T.d_is_whole (za (edv 0) zd)) (vM (Yz zeW yK (zS _) (edv 0) (zg zh))))))) zd)))))
noncomputable def wN (m : Int) : D → Bool
  | .tup ds => yS m (.tup ds) && decide ((ds.map zfq).sum ≤ 300)
  | _ => false
theorem Zt (ns : List Int) : (ns.map D.int).map zfq = ns := by rw [List.map_map]; exact (List.map_congr_left fun _ _ => rfl).trans (List.map_id _)
noncomputable def xm : SE → Ctl :=
  (yn (x9 (zm 2 xk (zb (zj ixD (zc 0) (eC (.int 0))) (zb (zc 1) zn))) (zj leD (eFn zeO (zb (zc 1) zn)) (eC (.int 300)))))
noncomputable def wT : List D → Option D := fnD 2 xm
noncomputable def yb : List D → Option D
  | [.tup [.int m, _], d] => if (noS d && decide (m ≤ 1000)) = true then some (.bl (wN m d)) else none
  | _ => none
theorem ZJ : ∀ ds d, ds.length = 2 → yb ds = some d → wT ds = some d := by
  intro ds d hl h
  obtain ⟨a, b, rfl⟩ := zbP hl
  unfold yb at h
  split at h
  · rename_i m t b' e
    injection e with e1 e2
    injection e2 with e2 _
    subst e1 e2
    obtain ⟨hn, rfl⟩ := ifS h
    have ec : xk [.int m, b] = some (.bl (yS m b)) := by simp only [xk]; rw [if_pos hn]
    cases hc : yS m b with
    | false =>
      rw [hc] at ec
      have e3 : wN m b = false := by
        cases b <;> try rfl
        show (yS m _ && _) = false
        rw [hc]
        rfl
      rw [e3]
      simp [wT, xm, fnD, zY, yn, xl, sIf, yP, vn, sNo, zE, YB, vh, wO, Yq, Yv, vEv, visF, visG, Sl.f, Sl.g, zc, eC, zj, x9, eOr, vP, eIf, eUn, Yt, wj, yz, zF, zb, zn, zm, eFn, fFn, tOf, yj, x6, zO, asB, asI, zp, vH, xQ, zU, yF, vm, yD, ltD, leD, gtD, geD, vA, zr, zD, zt, zB, vv, zC, ixD, wK, zN, isT, eSl, yr, yt, zL, yi, iOf, wF, yq, vK, wL, wZ, zV, yW, fLC, zP, zJ, xf, zZ, vj, yf, vq, b1, b2, ec, atI, ixN]
    | true =>
      rw [hc] at ec
      cases b with
      | tup es =>
        have h2 : es.all yO = true := by
          unfold yS at hc
          rw [Bool.and_eq_true] at hc
          exact hc.2
        obtain ⟨ns, rfl, hns⟩ := X9 h2
        have e3 : wN m (.tup (ns.map .int)) = decide (ns.sum ≤ 300) := by
          show (yS m _ && decide (((ns.map D.int).map zfq).sum ≤ 300)) = _
          rw [hc, Zt, Bool.true_and]
        rw [e3]
        simp [wT, xm, fnD, zY, yn, xl, sIf, yP, vn, sNo, zE, YB, vh, wO, Yq, Yv, vEv, visF, visG, Sl.f, Sl.g, zc, eC, zj, x9, eOr, vP, eIf, eUn, Yt, wj, yz, zF, zb, zn, zm, eFn, fFn, tOf, yj, x6, zO, asB, asI, zp, vH, xQ, zU, yF, vm, yD, ltD, leD, gtD, geD, vA, zr, zD, zt, zB, vv, zC, ixD, wK, zN, isT, eSl, yr, yt, zL, yi, iOf, wF, yq, vK, wL, wZ, zV, yW, fLC, zP, zJ, xf, zZ, vj, yf, vq, b1, b2, ec, V5, atI, ixN]
      | _ => cases hc
  · cases h
theorem vL (T : Txt K mg ad) : xx P w K mg base CX0 3 ad.f_are_stones ad.e_are_stones ["web", "thing"] (@spD ⟨K⟩ 2 yb) := by
  letI : KK := ⟨K⟩
  have G_are_counts := ZK (P := P) (w := w) (base := base) T
  refine wb (xy (N := ["web", "thing"]) (ps := ["web", "thing"]) T.d_are_stones.fn ZS (g := xm) fun cdv A outer s H E hr => ?_) ZJ
  unfold xm
  exact (zf (zz (wV (zk G_are_counts hr rfl T.d_are_counts (za (xL (edv 0) (zg zh) (fun _ _ => rfl)) (za (edv 1) zd))) (vM (Yz Z9 yK (zS _) (yo (Vs rfl) zcB rfl T.z_sum zeg (za (edv 1) zd)) (zg (Wo (v := .int 300) rfl T.g_MOST_STONES ⟨_, rfl⟩)))))))
noncomputable def xb : SE → Ctl :=
  (sIf (zO (tOf (zm 2 yb (zb (zc 0) (zb (zc 1) zn))))) sNo zE)
noncomputable def vo : List D → Option D := fnD 2 xb
noncomputable def yw : List D → Option D
  | [.tup [.int m, _], d] => if (noS d && decide (m ≤ 1000) && wN m d) = true then some .non else none
  | _ => none
theorem Y0 : ∀ ds d, ds.length = 2 → yw ds = some d → vo ds = some d := by
  intro ds d hl h
  obtain ⟨a, b, rfl⟩ := zbP hl
  unfold yw at h
  split at h
  · rename_i m t b' e
    injection e with e1 e2
    injection e2 with e2 _
    subst e1 e2
    obtain ⟨hn, rfl⟩ := ifS h
    rw [Bool.and_eq_true] at hn
    have ec : yb [.tup [.int m, t], b] = some (.bl true) := by simp only [yb]; rw [if_pos hn.1, hn.2]
    simp [vo, xb, fnD, zY, yn, xl, sIf, yP, vn, sNo, zE, YB, vh, wO, Yq, Yv, vEv, visF, visG, Sl.f, Sl.g, zc, eC, zj, x9, eOr, vP, eIf, eUn, Yt, wj, yz, zF, zb, zn, zm, eFn, fFn, tOf, yj, x6, zO, asB, asI, zp, vH, xQ, zU, yF, vm, yD, ltD, leD, gtD, geD, vA, zr, zD, zt, zB, vv, zC, ixD, wK, zN, isT, eSl, yr, yt, zL, yi, iOf, wF, yq, vK, wL, wZ, zV, yW, fLC, zP, zJ, xf, zZ, vj, yf, vq, b1, b2, ec]
  · cases h
theorem Y2 (T : Txt K mg ad) : xx P w K mg base CX0 4 ad.f_must_be_heap ad.e_must_be_heap ["web", "thing"] (@spD ⟨K⟩ 2 yw) := by
  letI : KK := ⟨K⟩
  have G_are_stones := vL (P := P) (w := w) (base := base) T
  refine wb (xy (N := ["web", "thing"]) (ps := ["web", "thing"]) T.d_must_be_heap.fn Ze (g := xb) fun cdv A outer s H E hr => ?_) Y0
  unfold xb
  exact (zf (yV (xu (y0 (zk G_are_stones hr rfl T.d_are_stones (za (edv 0) (za (edv 1) zd))))) (zf xP) zI))
theorem Xq {m : Int} {ts : List Tie} (h : Zq m ts) : decide (m ≤ 1000) = true := decide_eq_true (by have := h.hi; omega)
end
theorem zdO {m : Nat} {g : SE → Ctl} {ds : List D} {R : D → Prop} {ρ : SE} (e : ds.map .v ++ List.replicate (m - ds.length) .no = ρ) (q : (g ρ).w (fun _ => R .non) noP noP R) : ∃ d, fnD m g ds = some d ∧ R d := by
  unfold fnD
  rw [e]
  cases hg : g ρ with
  | nx ρ' => rw [hg] at q; exact ⟨_, rfl, q.nxi⟩
  | rt d' => rw [hg] at q; exact ⟨_, rfl, q.rti⟩
  | bk _ => rw [hg] at q; exact q.bki.elim
  | ct _ => rw [hg] at q; exact q.cti.elim
  | no => rw [hg] at q; exact q.noi.elim
section
variable {P : Program} {w : World} {K : PySem.W.Frag} {mg : Str → Option Value} {base : Heap} {ad : Adr}
noncomputable def we : SE → Ctl :=
  (zY (yP false 2 (zj yF (zj xQ (zj xa (zj xa (zj yF (zc 0) (eC (.int 2147483647))) (zj xQ (eC (.int 977)) (zc 1))) (eC (.int 1))) (eC (.int 48271))) (eC (.int 2147483647))))
    (zY (yP false 2 (zj yF (zj xQ (zc 2) (zc 2)) (eC (.int 2147483629))))
    (zY (yP false 2 (zj yF (zj xQ (zj xa (zc 2) (zj xQ (eC (.int 40692)) (zj xa (zc 1) (eC (.int 3))))) (eC (.int 69621))) (eC (.int 2147483647))))
    (yn (zj zU (zc 2) (eC (.int 8)))))))
noncomputable def XY : List D → Option D := fnD 3 we
noncomputable def zW : List D → Option D
  | [.int c, .int k] => some (.int (Vg c k))
  | _ => none
theorem Wf {i j : Int} (h1 : -(2 ^ 64) < i) (h2 : i < 2 ^ 64) : v9 i j = true := decide_eq_true (.inl ⟨h1, h2⟩)
theorem VA {i j : Int} (h1 : -(2 ^ 64) < j) (h2 : j < 2 ^ 64) : v9 i j = true := decide_eq_true (.inr ⟨h1, h2⟩)
theorem Za {i j : Int} (h : v9 i j = true) : xQ (.int i) (.int j) = some (.int (i * j)) := by
  show (if v9 i j = true then _ else none) = _
  rw [if_pos h]
theorem xI {i j : Int} (h : 0 < j) : yF (.int i) (.int j) = some (.int (i % j)) := by
  show (if decide (0 < j) = true then _ else none) = _
  rw [if_pos (decide_eq_true h)]
theorem v8 {i j : Int} (h : 0 < j) (h2 : j < 1606938044258990275541962092341162602522202993782792835301376) : zU (.int i) (.int j) = some (.int (i / j)) := by
  show (if decide (0 < j ∧ j < 1606938044258990275541962092341162602522202993782792835301376) = true then _ else none) = _
  rw [if_pos (decide_eq_true ⟨h, h2⟩)]
theorem Xg : ∀ ds d, ds.length = 2 → zW ds = some d → XY ds = some d := by
  intro ds d hl h
  obtain ⟨a, b, rfl⟩ := zbP hl
  cases a <;> try cases h
  cases b <;> try cases h
  rename_i c k
  have h1 := Int.emod_nonneg ((c % 2147483647 + 977 * k + 1) * 48271) (show (2147483647 : Int) ≠ 0 by decide)
  have h2 := Int.emod_lt_of_pos ((c % 2147483647 + 977 * k + 1) * 48271) (show (0 : Int) < 2147483647 by decide)
  have m1 : v9 977 k = true := Wf (by decide) (by decide)
  have m2 : v9 (c % 2147483647 + 977 * k + 1) 48271 = true := VA (by decide) (by decide)
  obtain ⟨x, hx⟩ : ∃ x, (c % 2147483647 + 977 * k + 1) * 48271 % 2147483647 = x := ⟨_, rfl⟩
  rw [hx] at h1 h2
  have m3 : v9 x x = true := Wf (Int.lt_of_lt_of_le (by decide) h1) (Int.lt_trans h2 (by decide))
  have m4 : v9 40692 (k + 3) = true := Wf (by decide) (by decide)
  have m5 : ∀ x, v9 x 69621 = true := fun x => VA (by decide) (by decide)
  obtain ⟨y, hy⟩ : ∃ y, x * x % 2147483629 = y := ⟨_, rfl⟩
  obtain ⟨z, hz⟩ : ∃ z, (y + 40692 * (k + 3)) * 69621 % 2147483647 = z := ⟨_, rfl⟩
  have hst : Vg c k = z / 8 := by
    show ((((c % 2147483647 + 977 * k + 1) * 48271 % 2147483647) * ((c % 2147483647 + 977 * k + 1) * 48271 % 2147483647) % 2147483629 + 40692 * (k + 3)) * 69621 % 2147483647 / 8) = _
    rw [hx, hy, hz]
  rw [hst]
  refine XW (ρ := [.v (.int c), .v (.int k), .no]) rfl ?_
  unfold we
  refine zy (ρ' := [.v (.int c), .v (.int k), .v (.int x)]) (Yi ?_) ?_
  · show (((((yF (.int c) (.int 2147483647)).bind fun a => (xQ (.int 977) (.int k)).bind fun b => xa a b).bind fun a => xa a (.int 1)).bind fun a => xQ a (.int 48271)).bind fun a => yF a (.int 2147483647)) = _
    rw [xI (by decide), Za m1]
    show ((xQ (.int (c % 2147483647 + 977 * k + 1)) (.int 48271)).bind fun a => yF a (.int 2147483647)) = _
    rw [Za m2, ← hx]
    exact xI (by decide)
  refine zy (ρ' := [.v (.int c), .v (.int k), .v (.int y)]) (Yi ?_) ?_
  · show ((xQ (.int x) (.int x)).bind fun a => yF a (.int 2147483629)) = _
    rw [Za m3, ← hy]
    exact xI (by decide)
  refine zy (ρ' := [.v (.int c), .v (.int k), .v (.int z)]) (Yi ?_) ?_
  · show ((((xQ (.int 40692) (.int (k + 3))).bind fun b => xa (.int y) b).bind fun a => xQ a (.int 69621)).bind fun a => yF a (.int 2147483647)) = _
    rw [Za m4]
    show ((xQ (.int (y + 40692 * (k + 3))) (.int 69621)).bind fun a => yF a (.int 2147483647)) = _
    rw [Za (m5 _), ← hz]
    exact xI (by decide)
  exact Zc (vD (show zU (.int z) (.int 8) = _ from v8 (by decide) (by decide))) rfl
theorem wP (T : Txt K mg ad) : xx P w K mg base CX0 1 ad.f__law_stir ad.e__law_stir ["cell", "k"] (@spD ⟨K⟩ 2 zW) := by
  letI : KK := ⟨K⟩
  refine wb (xy (N := ["cell", "k", "number"]) (ps := ["cell", "k"]) T.d__law_stir.fn xO (g := we) fun cdv A outer s H E hr => ?_) Xg
  unfold we
  exact (ze (yy (m := false) (i := 2) xO.nd rfl (Or.inl rfl) (xH (ZA (yh (yh (xH (edv 0) (zg zh)) (ZA (zg zh) (edv 1))) (zg zh)) (zg zh)) (zg zh)))
      (ze (yy (m := false) (i := 2) xO.nd rfl (Or.inl rfl) (xH (ZA (edv 2) (edv 2)) (zg zh)))
      (ze (yy (m := false) (i := 2) xO.nd rfl (Or.inl rfl) (xH (ZA (yh (edv 2) (ZA (zg zh) (yh (edv 1) (zg zh)))) (zg zh)) (zg zh)))
      (zf (zz (wW (edv 2) (zg zh)))))))
theorem Vl {i j : Int} (h1 : 0 ≤ i) (h2 : i ≤ 1000) (h3 : 0 ≤ j) (h4 : j ≤ 1000) : wZ [.int i, .int j] = some (Zj i (j - i).toNat) := by
  show (if zbV i = true ∧ zbV j = true then some (Zj i (j - i).toNat) else none) = _
  rw [if_pos ⟨xC.mpr ⟨by (clear h4 h3 h2; omega), by (clear h4 h3; omega)⟩, xC.mpr ⟨by omega, by omega⟩⟩]
theorem Ya {j : Int} (h3 : 0 ≤ j) (h4 : j ≤ 1000000) : wL [.int j] = some (Zj 0 j.toNat) := by
  show (if zbV j = true then some (Zj 0 j.toNat) else none) = _
  rw [if_pos (xC.mpr ⟨by omega, by omega⟩)]
theorem Zy {m : Int} {ns : List Int} (h1 : (ns.length : Int) = m) (h2 : ∀ n ∈ ns, 0 ≤ n) (h3 : ns.sum ≤ 300) : wN m (.tup (ns.map .int)) = true := by
  unfold wN yS
  rw [Bool.and_eq_true, Bool.and_eq_true, decide_eq_true_eq, decide_eq_true_eq, Zt, List.length_map]
  exact ⟨⟨h1, VY h2⟩, h3⟩
theorem WV (ns : List Int) : noS (.tup (ns.map .int)) = true := by
  show zaU (ns.map .int) = true
  induction ns with
  | nil => rfl
  | cons n ns ih => show (noS (.int n) && zaU (ns.map .int)) = true; rw [ih]; rfl
noncomputable def xY : SE → Ctl :=
  (yP false 1 (zj xa (zc 1) (yz (fLC (vK wZ (zb (zj xa (zc 2) (eC (.int 1))) (zb (zc 0) zn))) b1 zP (wj (zb (zc 3) (zb (zc 0) zn)))))))
noncomputable def xS : SE → Ctl :=
  (zY (yP false 1 (yz (zF zn)))
    (zY (yq wL (zb (zc 0) zn) (zZ 2) xY)
    (yn (zc 1))))
noncomputable def Xw : List D → Option D := fnD 3 xS
noncomputable def xg : List D → Option D
  | [.int n] => if decide (0 ≤ n ∧ n ≤ 8) = true then some (.lst ((xv n.toNat).map zu)) else none
  | _ => none
theorem ZP : ∀ ds d, ds.length = 1 → xg ds = some d → Xw ds = some d := by
  intro ds d hl h
  obtain ⟨a, rfl⟩ := zdu hl
  cases a <;> try cases h
  rename_i n
  obtain ⟨hn, rfl⟩ := ifS h
  have hn : 0 ≤ n ∧ n ≤ 8 := of_decide_eq_true hn
  clear h hl
  obtain ⟨k, hk⟩ : ∃ k : Nat, n.toNat = k := ⟨_, rfl⟩
  have hk8 : k ≤ 8 := by omega
  have hkn : n = (k : Int) := by omega
  rw [hk]
  have hr : wL [.int n] = some (Zj 0 k) := by rw [Ya hn.1 (by omega), hk]
  clear hk
  refine XW (ρ := [.v (.int n), .no, .no]) rfl ?_
  unfold xS
  have e0 : yP false 1 (yz (zF zn)) [.v (.int n), .no, .no] = .nx [.v (.int n), .v (.lst []), .no] := rfl
  refine zy e0 (xJ (zaF (lo := 0) (c := k) (fun i ρ => ∃ o2, ρ = [.v (.int n), .v (.lst ((y4 k i).map zu)), o2]) hr ⟨.no, rfl⟩ ?_ ?_))
  · rintro i ρ hi ⟨o2, rfl⟩
    refine ⟨_, rfl, ?_⟩
    obtain ⟨x, hx⟩ : ∃ x : Int, (0 : Int) + (i : Int) = x := ⟨_, rfl⟩
    rw [hx]
    unfold xY
    refine Zf (ρ' := [.v (.int n), .v (.lst ((y4 k (i + 1)).map zu)), .v (.int x)]) (Yi (d := .lst ((y4 k (i + 1)).map zu)) ?_) ⟨_, rfl⟩
    have e : fLC (vK wZ (zb (zj xa (zc 2) (eC (.int 1))) (zb (zc 0) zn))) b1 zP (wj (zb (zc 3) (zb (zc 0) zn))) [some (.int n), some (.lst ((y4 k i).map zu)), some (.int x)] = some ((Wk i (k - (i + 1))).map zu) := by
      have e1 : wZ [.int (x + 1), .int n] = some (Zj (x + 1) (k - (i + 1))) := by
        rw [Vl (by omega) (by omega) (by omega) (by omega)]
        have et : (n - (x + 1)).toNat = k - (i + 1) := by omega
        rw [et]
      unfold fLC
      show (wZ [.int (x + 1), .int n]).bind _ = _
      rw [e1]
      show (if lim (Zj (x + 1) (k - (i + 1))).length = true then _ else none) = _
      rw [if_pos (wA (by rw [Wj]; omega))]
      unfold Wk
      rw [List.map_map]
      refine Ye (fun j : Nat => D.int (x + 1 + (j : Int))) _ (List.range (k - (i + 1))) fun j _ => ⟨[some (.int (x + 1 + (j : Int)))], rfl, rfl, ?_⟩
      show some (D.tup [.int x, .int (x + 1 + (j : Int))]) = some (D.tup [.int (i : Int), .int ((i : Int) + 1 + (j : Int))])
      rw [← hx, Int.zero_add]
    show (((fLC (vK wZ (zb (zj xa (zc 2) (eC (.int 1))) (zb (zc 0) zn))) b1 zP (wj (zb (zc 3) (zb (zc 0) zn))) [some (.int n), some (.lst ((y4 k i).map zu)), some (.int x)]).map D.lst).bind fun y => xa (.lst ((y4 k i).map zu)) y) = _
    rw [e]
    show xa (.lst ((y4 k i).map zu)) (.lst ((Wk i (k - (i + 1))).map zu)) = _
    rw [ve (by rw [List.length_map, List.length_map, YG]; have := W3 k hk8 i; omega), YC, List.map_append]
  · rintro ρ ⟨o2, rfl⟩
    refine Zc rfl ?_
    rw [zaw]
theorem Z4 (T : Txt K mg ad) : xx P w K mg base CX0 1 ad.f__law_pairs ad.e__law_pairs ["many"] (@spD ⟨K⟩ 1 xg) := by
  letI : KK := ⟨K⟩
  refine wb (xy (N := ["many", "found", "a"]) (ps := ["many"]) T.d__law_pairs.fn xA (g := xS) fun cdv A outer s H E hr => ?_) ZP
  unfold xS xY
  exact (ze (yy (m := false) (i := 1) xA.nd rfl (Or.inl rfl) (vi (wB zd)))
      (ze (ZU PassesOwn.never rfl rfl T.z_range (za (edv 0) zd) (yM (zM (i := 2) xA.nd rfl (Or.inr rfl))) (zf (yy (m := false) (i := 1) xA.nd rfl (Or.inl rfl) (yh (edv 1) (vi (Xi (L := ["b"]) (M := ["many", "found", "a"]) rfl (Y6 (by rfl) (by rfl) (by rfl) (by with_unfolding_all rfl) (by rfl) (by rfl) (by kernel_rfl) (all_cons rfl vI)) (zad rfl T.z_range (za (yh (edv 2) (zg zh)) (za (edv 0) zd))) gs1 rb1 (fun _ _ _ _ => (zM (i := 0) zeP rfl (Or.inl rfl) (.inr rfl))) (fun _ _ _ _ => (YF (za (edv 3) (za (edv 0) zd))))))))))
      (zf (zz (edv 1)))))
noncomputable def yL : SE → Ctl :=
  (zY (sIf (yj (tOf (zj Xc (zj yF (zc 1) (eC (.int 2))) (eC (.int 0)))) (tOf (zj Xc (zj yF (zj zde (zj zU (zc 1) (eC (.int 2))) (zc 3)) (eC (.int 2))) (eC (.int 1))))) (wO false 2 (zc 4)) zE)
    (sIf (yj (tOf (zj Xc (zj yF (zc 1) (eC (.int 2))) (eC (.int 1)))) (tOf (zj ltD (zj yF (zm 2 zW (zb (zc 1) (zb (zc 3) zn))) (eC (.int 5))) (zj xa (eC (.int 2)) (zj yF (zj zU (zc 1) (eC (.int 2))) (eC (.int 2))))))) (wO false 2 (zc 4)) zE))
noncomputable def yT : SE → Ctl :=
  (zY (vh 2 (zF zn))
    (zY (wF (zV (zb (zm 1 xg (zb (zc 0) zn)) zn)) (vj 2 (yf (zZ 3) (yf (zZ 4) vq))) yL)
    (sFz 2 (yn (wj (zb (zc 0) (zb (eFn zJ (zb (zc 2) zn)) zn)))))))
noncomputable def wv : List D → Option D := fnD 5 yT
theorem zc8 {a k : Int} (h : 0 ≤ k) : zde (.int a) (.int k) = some (.int (a / 2 ^ k.toNat)) := by
  show (if decide (0 ≤ k) = true then some (D.int (a / 2 ^ k.toNat)) else none) = _
  rw [if_pos (decide_eq_true h)]
theorem zej {ρ : Ev} {c x : Int} (h1 : ρ[1]? = some (some (.int c))) (h3 : ρ[3]? = some (some (.int x))) (hx : 0 ≤ x) :
    (∃ b, yj (tOf (zj Xc (zj yF (zc 1) (eC (.int 2))) (eC (.int 0)))) (tOf (zj Xc (zj yF (zj zde (zj zU (zc 1) (eC (.int 2))) (zc 3)) (eC (.int 2))) (eC (.int 1)))) ρ = some (decide (c % 2 = 0) && b)) ∧
    ∃ b, yj (tOf (zj Xc (zj yF (zc 1) (eC (.int 2))) (eC (.int 1)))) (tOf (zj ltD (zj yF (zm 2 zW (zb (zc 1) (zb (zc 3) zn))) (eC (.int 5))) (zj xa (eC (.int 2)) (zj yF (zj zU (zc 1) (eC (.int 2))) (eC (.int 2)))))) ρ = some (decide (c % 2 = 1) && b) := by
  have v1 : zc 1 ρ = some (.int c) := by unfold zc; rw [h1]; rfl
  have v3 : zc 3 ρ = some (.int x) := by unfold zc; rw [h3]; rfl
  have f2 : zU (.int c) (.int 2) = some (.int (c / 2)) := v8 (by decide) (by decide)
  have m0 : ∀ k : Int, tOf (zj Xc (zj yF (zc 1) (eC (.int 2))) (eC (.int k))) ρ = some (decide (c % 2 = k)) := fun k => by
    show (((zc 1 ρ).bind fun a => yF a (.int 2)).bind fun y => Xc y (.int k)).bind asB = _
    rw [v1, Option.bind_some, xI (by decide)]
    rfl
  constructor
  · refine ⟨decide (c / 2 / 2 ^ x.toNat % 2 = 1), ?_⟩
    have m2 : tOf (zj Xc (zj yF (zj zde (zj zU (zc 1) (eC (.int 2))) (zc 3)) (eC (.int 2))) (eC (.int 1))) ρ = some (decide (c / 2 / 2 ^ x.toNat % 2 = 1)) := by
      show (((((zc 1 ρ).bind fun a => zU a (.int 2)).bind fun a => (zc 3 ρ).bind fun b => zde a b).bind fun a => yF a (.int 2)).bind fun y => Xc y (.int 1)).bind asB = _
      rw [v1, v3, Option.bind_some, f2, Option.bind_some, Option.bind_some, zc8 hx, Option.bind_some, xI (by decide)]
      rfl
    unfold yj
    rw [m0, Option.bind_some, m2]
    cases decide (c % 2 = 0) <;> rfl
  · refine ⟨decide (Vg c x % 5 < 2 + c / 2 % 2), ?_⟩
    have es : zm 2 zW (zb (zc 1) (zb (zc 3) zn)) ρ = some (.int (Vg c x)) := by
      unfold zm zb
      rw [v1, v3]
      rfl
    have m2 : tOf (zj ltD (zj yF (zm 2 zW (zb (zc 1) (zb (zc 3) zn))) (eC (.int 5))) (zj xa (eC (.int 2)) (zj yF (zj zU (zc 1) (eC (.int 2))) (eC (.int 2))))) ρ = some (decide (Vg c x % 5 < 2 + c / 2 % 2)) := by
      show ((((zm 2 zW (zb (zc 1) (zb (zc 3) zn)) ρ).bind fun a => yF a (.int 5)).bind fun a => ((((zc 1 ρ).bind fun a => zU a (.int 2)).bind fun a => yF a (.int 2)).bind fun y => xa (.int 2) y).bind fun b => ltD a b)).bind asB = _
      rw [es, v1, Option.bind_some, Option.bind_some, xI (by decide), f2, Option.bind_some, Option.bind_some, xI (by decide)]
      rfl
    unfold yj
    rw [m0, Option.bind_some, m2]
    cases decide (c % 2 = 1) <;> rfl
theorem ze0 {n c x : Int} {ts : List Tie} {t : Tie} {N B C : SE → Prop} {R : D → Prop} (hx : 0 ≤ x) (hl : (ts.map zu).length ≤ 1000)
    (q1 : N [.v (.int n), .v (.int c), .o (ts.map zu), .v (.int x), .v (zu t)]) (q2 : N [.v (.int n), .v (.int c), .o ((ts ++ [t]).map zu), .v (.int x), .v (zu t)]) :
    (yL [.v (.int n), .v (.int c), .o (ts.map zu), .v (.int x), .v (zu t)]).w N B C R := by
  rw [List.map_append] at q2
  unfold yL
  obtain ⟨⟨b1, e1⟩, b2, e2⟩ := zej (ρ := visG [.v (.int n), .v (.int c), .o (ts.map zu), .v (.int x), .v (zu t)]) (c := c) (x := x) rfl rfl hx
  obtain ⟨_, b3, e3⟩ := zej (ρ := visG [.v (.int n), .v (.int c), .o (ts.map zu ++ [zu t]), .v (.int x), .v (zu t)]) (c := c) (x := x) rfl rfl hx
  have ap := zcc (m := false) (i := 2) (f := zc 4) (ρ := [.v (.int n), .v (.int c), .o (ts.map zu), .v (.int x), .v (zu t)]) (ds := ts.map zu) (d := zu t) rfl rfl hl
  refine xJ (YJ e1 (fun k => Zf ap ?_) (fun _ => Zf rfl (YJ e2 (fun _ => Zf ap q2) (fun _ => Zf rfl q1))))
  refine YJ e3 (fun k3 => ?_) (fun _ => Zf rfl q2)
  have h0 : c % 2 = 0 := of_decide_eq_true (Bool.and_eq_true_iff.mp k).1
  have h1 : c % 2 = 1 := of_decide_eq_true (Bool.and_eq_true_iff.mp k3).1
  exact absurd (h0.symm.trans h1) (by decide)
theorem zal {n c : Int} (h1 : 1 ≤ n) (h8 : n ≤ 8) : ∃ ts, wv [.int n, .int c] = some (yI n ts) ∧ ts.Sublist (xv n.toNat) := by
  have key := zdO (m := 5) (g := yT) (ds := [.int n, .int c]) (R := fun d => ∃ ts : List Tie, d = yI n ts ∧ ts.Sublist (xv n.toNat)) rfl ?_
  · obtain ⟨d, e, ts, rfl, hs⟩ := key
    exact ⟨ts, e, hs⟩
  unfold yT
  refine zy rfl ?_
  have ep : xg [.int n] = some (.lst ((xv n.toNat).map zu)) := by
    show (if decide (0 ≤ n ∧ n ≤ 8) = true then some (D.lst ((xv n.toNat).map zu)) else none) = _
    rw [if_pos (decide_eq_true ⟨by omega, by omega⟩)]
  have h28 := (Xj n.toNat (by omega)).2.2
  refine xJ (Wb (ds := vS 0 ((xv n.toNat).map zu)) (fun i ρ => ∃ ts o3 o4, ρ = [.v (.int n), .v (.int c), .o (ts.map zu), o3, o4] ∧ ts.Sublist ((xv n.toNat).take i)) ?_ ⟨[], .no, .no, rfl, List.nil_sublist _⟩ ?_ ?_)
  · show ((xg [.int n]).bind fun d => (some [] : Option (List D)).map (d :: ·)).bind _ = _
    rw [ep]
    rfl
  · rintro i d ρ hd ⟨ts, o3, o4, rfl, hs⟩
    rw [x8] at hd
    obtain ⟨dx, hdx, rfl⟩ := Option.map_eq_some_iff.mp hd
    rw [List.getElem?_map] at hdx
    obtain ⟨t, ht, rfl⟩ := Option.map_eq_some_iff.mp hdx
    rw [Nat.zero_add]
    have htake : (xv n.toNat).take (i + 1) = (xv n.toNat).take i ++ [t] := by rw [List.take_succ, ht]; rfl
    have hlen : ts.length ≤ 28 := Nat.le_trans hs.length_le (Nat.le_trans (List.length_take_le _ _) (by have := (List.getElem?_eq_some_iff.mp ht).1; omega))
    refine ⟨_, rfl, ze0 (Int.natCast_nonneg i) (by rw [List.length_map]; omega) ⟨ts, _, _, rfl, ?_⟩ ⟨ts ++ [t], _, _, rfl, ?_⟩⟩
    · rw [htake]; exact hs.trans (List.sublist_append_left _ _)
    · rw [htake]; exact hs.append (List.Sublist.refl _)
  · rintro ρ ⟨ts, o3, o4, rfl, hs⟩
    exact zeJ rfl (Zc rfl ⟨ts, rfl, hs.trans (List.take_sublist _ _)⟩)
theorem Zl (T : Txt K mg ad) : xx P w K mg base CX0 2 ad.f__law_web_by ad.e__law_web_by ["many", "cell"] (@spD ⟨K⟩ 2 wv) := by
  letI : KK := ⟨K⟩
  have G__law_pairs := Z4 (P := P) (w := w) (base := base) T
  have G__law_stir := wP (P := P) (w := w) (base := base) T
  refine xy (N := ["many", "cell", "ties", "k", "tie"]) (ps := ["many", "cell"]) T.d__law_web_by.fn xc (g := yT) fun cdv A outer s H E hr => ?_
  unfold yT yL
  exact (ze (zav (i := 2) xc.nd rfl (Or.inl rfl) (wB zd))
      (ze (Zv PassesOwn.never rfl (VI rfl T.z_enumerate wI (za (zk G__law_pairs hr rfl T.d__law_pairs (za (edv 0) zd)) zd)) (XS rfl (y9 (yM (zM (i := 3) xc.nd rfl (Or.inl rfl))) (y9 (yM (zM (i := 4) xc.nd rfl (Or.inl rfl))) Zb))) (ze (yV (Vi (WU (ym (Yr hr) wS (zS _) (xH (edv 1) (zg zh)) (zg zh)) (ZO (ym (Yr hr) wS (zS _) (xH (zdl (wW (edv 1) (zg zh)) (edv 3)) (zg zh)) (zg zh))))) (zf (WC (m := false) (pv 2) (edv 4) (fun a b => Zr PySem.F.plainAttrs_list PySem.F.slot_list_append PySem.F.type_list_append vO a b))) zI)
      (zf (yV (Vi (WU (ym (Yr hr) wS (zS _) (xH (edv 1) (zg zh)) (zg zh)) (ZO (ym zdF yK (zS _) (xH (zk G__law_stir hr rfl T.d__law_stir (za (edv 1) (za (edv 3) zd))) (zg zh)) (yh (zg zh) (xH (wW (edv 1) (zg zh)) (zg zh))))))) (zf (WC (m := false) (pv 2) (edv 4) (fun a b => Zr PySem.F.plainAttrs_list PySem.F.slot_list_append PySem.F.type_list_append vO a b))) zI))))
      (Vw 2 (zf (zz (YF (za (edv 0) (za (yJ wl Y4 rfl T.z_tuple xz (za (edv 2) zd)) zd))))))))
noncomputable def xB (r : List D → Option D) : SE → Ctl :=
  (sIf (zO (tOf (zm 2 r (zb (zc 2) (zb (zc 3) zn))))) (yn (eC (.bl false))) zE)
noncomputable def zX (r : List D → Option D) : SE → Ctl :=
  (zY (sIf (tOf (zj vv (zc 1) (eC .non))) (yn (zj vv (zc 0) (eC .non))) zE)
    (zY (sIf (tOf (eUn (zN .bool) (zc 1))) (yn (x9 (eUn (zN .bool) (zc 0)) (zj Xc (zc 0) (zc 1)))) zE)
    (zY (sIf (tOf (eUn (zN .int) (zc 1))) (yn (x9 (eUn (zN .int) (zc 0)) (x9 (vP (eUn (zN .bool) (zc 0))) (zj Xc (zc 0) (zc 1))))) zE)
    (zY (sIf (tOf (eUn (zN .str) (zc 1))) (yn (x9 (eUn (zN .str) (zc 0)) (zj Xc (zc 0) (zc 1)))) zE)
    (zY (sIf (x6 (tOf (zj neD (eUn (zN .list) (zc 1)) (eUn (zN .list) (zc 0)))) (tOf (zj neD (eUn (zN .tuple) (zc 1)) (eUn (zN .tuple) (zc 0))))) (yn (eC (.bl false))) zE)
    (zY (sIf (tOf (zj neD (eFn wK (zb (zc 0) zn)) (eFn wK (zb (zc 1) zn)))) (yn (eC (.bl false))) zE)
    (zY (wF (yW (zb (zc 0) (zb (zc 1) zn))) (vj 2 (yf (zZ 2) (yf (zZ 3) vq))) (xB r))
    (yn (eC (.bl true))))))))))
noncomputable def ww : List D → Option D := zeu 4 zX 6
theorem XM (ds : List D) : WI ds ds = ds.map fun d => .tup [d, d] := by
  induction ds with
  | nil => rfl
  | cons d ds ih => show D.tup [d, d] :: WI ds ds = _; rw [ih]; rfl
theorem Xh {r : List D → Option D} {d : D} (hr : ∀ es, (d = .tup es ∨ d = .lst es) → ∀ e ∈ es, r [e, e] = some (.bl true)) (hn : ∀ ns, d ≠ .scr ns) (hd : ∀ z t ks vs, d ≠ .dct z t ks vs) : fnD 4 (zX r) [d, d] = some (.bl true) := by
  cases d with
  | scr ns => exact absurd rfl (hn ns)
  | dct z t ks vs => exact absurd rfl (hd z t ks vs)
  | non => rfl
  | bl b => cases b <;> rfl
  | int i => simp [zX, fnD, zY, yn, xl, sIf, yP, vn, sNo, zE, YB, vh, wO, Yq, Yv, vEv, visF, visG, Sl.f, Sl.g, zc, eC, zj, x9, eOr, vP, eIf, eUn, Yt, wj, yz, zF, zb, zn, zm, eFn, fFn, tOf, yj, x6, zO, asB, asI, zp, vH, xQ, zU, yF, vm, yD, ltD, leD, gtD, geD, vA, zr, zD, zt, zB, vv, zC, ixD, wK, zN, isT, eSl, yr, yt, zL, yi, iOf, wF, yq, vK, wL, wZ, zV, yW, fLC, zP, zJ, xf, zZ, vj, yf, vq, b1, b2]
  | str x => simp [zX, fnD, zY, yn, xl, sIf, yP, vn, sNo, zE, YB, vh, wO, Yq, Yv, vEv, visF, visG, Sl.f, Sl.g, zc, eC, zj, x9, eOr, vP, eIf, eUn, Yt, wj, yz, zF, zb, zn, zm, eFn, fFn, tOf, yj, x6, zO, asB, asI, zp, vH, xQ, zU, yF, vm, yD, ltD, leD, gtD, geD, vA, zr, zD, zt, zB, vv, zC, ixD, wK, zN, isT, eSl, yr, yt, zL, yi, iOf, wF, yq, vK, wL, wZ, zV, yW, fLC, zP, zJ, xf, zZ, vj, yf, vq, b1, b2]
  | tup es =>
    refine XW (ρ := [.v (.tup es), .v (.tup es), .no, .no]) rfl ?_
    unfold zX
    refine zy rfl (zy rfl (zy rfl (zy rfl (zy rfl (xJ (YJ (c := false) (by simp [fnD, zY, yn, xl, sIf, yP, vn, sNo, zE, YB, vh, wO, Yq, Yv, vEv, visF, visG, Sl.f, Sl.g, zc, eC, zj, x9, eOr, vP, eIf, eUn, Yt, wj, yz, zF, zb, zn, zm, eFn, fFn, tOf, yj, x6, zO, asB, asI, zp, vH, xQ, zU, yF, vm, yD, ltD, leD, gtD, geD, vA, zr, zD, zt, zB, vv, zC, ixD, wK, zN, isT, eSl, yr, yt, zL, yi, iOf, wF, yq, vK, wL, wZ, zV, yW, fLC, zP, zJ, xf, zZ, vj, yf, vq, b1, b2]) (fun z => by cases z) fun _ => Zf rfl ?_))))))
    refine xJ (Wb (ds := WI es es) (fun i ρ => ∃ o1 o2, ρ = [.v (.tup es), .v (.tup es), o1, o2]) (by simp [fnD, zY, yn, xl, sIf, yP, vn, sNo, zE, YB, vh, wO, Yq, Yv, vEv, visF, visG, Sl.f, Sl.g, zc, eC, zj, x9, eOr, vP, eIf, eUn, Yt, wj, yz, zF, zb, zn, zm, eFn, fFn, tOf, yj, x6, zO, asB, asI, zp, vH, xQ, zU, yF, vm, yD, ltD, leD, gtD, geD, vA, zr, zD, zt, zB, vv, zC, ixD, wK, zN, isT, eSl, yr, yt, zL, yi, iOf, wF, yq, vK, wL, wZ, zV, yW, fLC, zP, zJ, xf, zZ, vj, yf, vq, b1, b2]) ⟨_, _, rfl⟩ ?_ ?_)
    · rintro i d ρ hd ⟨o1, o2, rfl⟩
      rw [XM, List.getElem?_map] at hd
      obtain ⟨e, he, rfl⟩ := Option.map_eq_some_iff.mp hd
      have hre := hr es (.inl rfl) e (List.mem_of_getElem? he)
      refine ⟨_, rfl, ?_⟩
      unfold xB
      refine YJ (c := false) (by simp [fnD, zY, yn, xl, sIf, yP, vn, sNo, zE, YB, vh, wO, Yq, Yv, vEv, visF, visG, Sl.f, Sl.g, zc, eC, zj, x9, eOr, vP, eIf, eUn, Yt, wj, yz, zF, zb, zn, zm, eFn, fFn, tOf, yj, x6, zO, asB, asI, zp, vH, xQ, zU, yF, vm, yD, ltD, leD, gtD, geD, vA, zr, zD, zt, zB, vv, zC, ixD, wK, zN, isT, eSl, yr, yt, zL, yi, iOf, wF, yq, vK, wL, wZ, zV, yW, fLC, zP, zJ, xf, zZ, vj, yf, vq, b1, b2, hre]) (fun z => by cases z) fun _ => Zf rfl ⟨_, _, rfl⟩
    · rintro ρ ⟨o1, o2, rfl⟩
      exact Zc rfl rfl
  | lst es =>
    refine XW (ρ := [.v (.lst es), .v (.lst es), .no, .no]) rfl ?_
    unfold zX
    refine zy rfl (zy rfl (zy rfl (zy rfl (zy rfl (xJ (YJ (c := false) (by simp [fnD, zY, yn, xl, sIf, yP, vn, sNo, zE, YB, vh, wO, Yq, Yv, vEv, visF, visG, Sl.f, Sl.g, zc, eC, zj, x9, eOr, vP, eIf, eUn, Yt, wj, yz, zF, zb, zn, zm, eFn, fFn, tOf, yj, x6, zO, asB, asI, zp, vH, xQ, zU, yF, vm, yD, ltD, leD, gtD, geD, vA, zr, zD, zt, zB, vv, zC, ixD, wK, zN, isT, eSl, yr, yt, zL, yi, iOf, wF, yq, vK, wL, wZ, zV, yW, fLC, zP, zJ, xf, zZ, vj, yf, vq, b1, b2]) (fun z => by cases z) fun _ => Zf rfl ?_))))))
    refine xJ (Wb (ds := WI es es) (fun i ρ => ∃ o1 o2, ρ = [.v (.lst es), .v (.lst es), o1, o2]) (by simp [fnD, zY, yn, xl, sIf, yP, vn, sNo, zE, YB, vh, wO, Yq, Yv, vEv, visF, visG, Sl.f, Sl.g, zc, eC, zj, x9, eOr, vP, eIf, eUn, Yt, wj, yz, zF, zb, zn, zm, eFn, fFn, tOf, yj, x6, zO, asB, asI, zp, vH, xQ, zU, yF, vm, yD, ltD, leD, gtD, geD, vA, zr, zD, zt, zB, vv, zC, ixD, wK, zN, isT, eSl, yr, yt, zL, yi, iOf, wF, yq, vK, wL, wZ, zV, yW, fLC, zP, zJ, xf, zZ, vj, yf, vq, b1, b2]) ⟨_, _, rfl⟩ ?_ ?_)
    · rintro i d ρ hd ⟨o1, o2, rfl⟩
      rw [XM, List.getElem?_map] at hd
      obtain ⟨e, he, rfl⟩ := Option.map_eq_some_iff.mp hd
      have hre := hr es (.inr rfl) e (List.mem_of_getElem? he)
      refine ⟨_, rfl, ?_⟩
      unfold xB
      refine YJ (c := false) (by simp [fnD, zY, yn, xl, sIf, yP, vn, sNo, zE, YB, vh, wO, Yq, Yv, vEv, visF, visG, Sl.f, Sl.g, zc, eC, zj, x9, eOr, vP, eIf, eUn, Yt, wj, yz, zF, zb, zn, zm, eFn, fFn, tOf, yj, x6, zO, asB, asI, zp, vH, xQ, zU, yF, vm, yD, ltD, leD, gtD, geD, vA, zr, zD, zt, zB, vv, zC, ixD, wK, zN, isT, eSl, yr, yt, zL, yi, iOf, wF, yq, vK, wL, wZ, zV, yW, fLC, zP, zJ, xf, zZ, vj, yf, vq, b1, b2, hre]) (fun z => by cases z) fun _ => Zf rfl ⟨_, _, rfl⟩
    · rintro ρ ⟨o1, o2, rfl⟩
      exact Zc rfl rfl
theorem zaz : ∀ (n : Nat) {d : D}, okE n d = true → zeu 4 zX (n + 1) [d, d] = some (.bl true) := by
  intro n
  induction n with
  | zero =>
    intro d h
    refine Xh (fun es he => ?_) (fun ns e => by subst e; cases h) (fun _ _ _ _ e => by subst e; cases h)
    rcases he with rfl | rfl <;> cases h
  | succ n ih =>
    intro d h
    refine Xh (fun es he e hm => ?_) (fun ns e => by subst e; cases h) (fun _ _ _ _ e => by subst e; cases h)
    rcases he with rfl | rfl
    · exact ih (List.all_eq_true.mp h e hm)
    · exact ih (List.all_eq_true.mp h e hm)
theorem zb4 {d : D} (h : okE 5 d = true) : ww [d, d] = some (.bl true) := zaz 5 h
theorem Xo (T : Txt K mg ad) : xx P w K mg base CX0 7 ad.f__law_same ad.e__law_same ["found", "due"] (@spD ⟨K⟩ 2 ww) := by
  letI : KK := ⟨K⟩
  have R : ∀ n, xx P w K mg base CX0 (1 + n) ad.f__law_same ad.e__law_same ["found", "due"] (spD 2 (zeu 4 zX n)) := by
    refine zeb (P := P) (w := w) (mg := mg) (base := base) (k0 := 1) (g := zX) T.d__law_same.fn wM fun k r hrec cdv A outer s H E hr => ?_
    unfold zX xB
    exact (ze (yV (ym WL Xd (zS _) (edv 1) (YE Yy)) (zf (zz (Yz WL Xd (zS _) (edv 0) (YE Yy)))) zI)
      (ze (yV (y0 (zA .bool rfl T.z_isinstance (edv 1) (ye (v := .ty "bool") rfl T.z_bool Xa rfl))) (zf (zz (wV (zA .bool rfl T.z_isinstance (edv 0) (ye (v := .ty "bool") rfl T.z_bool Xa rfl)) (vM (Yz (Yr hr) wS (zS _) (edv 0) (edv 1)))))) zI)
      (ze (yV (y0 (zA .int rfl T.z_isinstance (edv 1) (ye (v := .ty "int") rfl T.z_int WP rfl))) (zf (zz (wV (zA .int rfl T.z_isinstance (edv 0) (ye (v := .ty "int") rfl T.z_int WP rfl)) (wV (zbY (zA .bool rfl T.z_isinstance (edv 0) (ye (v := .ty "bool") rfl T.z_bool Xa rfl))) (vM (Yz (Yr hr) wS (zS _) (edv 0) (edv 1))))))) zI)
      (ze (yV (y0 (zA .str rfl T.z_isinstance (edv 1) (ye (v := .ty "str") rfl T.z_str Yx rfl))) (zf (zz (wV (zA .str rfl T.z_isinstance (edv 0) (ye (v := .ty "str") rfl T.z_str Yx rfl)) (vM (Yz (Yr hr) wS (zS _) (edv 0) (edv 1)))))) zI)
      (ze (yV (Vi (Zp (ym ZL vW (zS _) (zA .list rfl T.z_isinstance (edv 1) (ye (v := .ty "list") rfl T.z_list zaQ rfl)) (zA .list rfl T.z_isinstance (edv 0) (ye (v := .ty "list") rfl T.z_list zaQ rfl))) (vZ (ym ZL vW (zS _) (zA .tuple rfl T.z_isinstance (edv 1) (ye (v := .ty "tuple") rfl T.z_tuple xz rfl)) (zA .tuple rfl T.z_isinstance (edv 0) (ye (v := .ty "tuple") rfl T.z_tuple xz rfl)))))) (zf (zz (Yb Yg))) zI)
      (ze (yV (ym ZL vW (zS _) (yo yl vz rfl T.z_len v5 (za (edv 0) zd)) (yo yl vz rfl T.z_len v5 (za (edv 1) zd))) (zf (zz (Yb Yg))) zI)
      (ze (Zv PassesOwn.never rfl (zdE rfl T.z_zip (za (edv 0) (za (edv 1) zd))) (XS rfl (y9 (yM (zM (i := 2) wM.nd rfl (Or.inl rfl))) (y9 (yM (zM (i := 3) wM.nd rfl (Or.inl rfl))) Zb))) (zf (yV (xu (y0 (zah hrec hr rfl T.d__law_same.at_ T.d__law_same.kp T.d__law_same.bd (za (edv 2) (za (edv 3) zd))))) (zf (zz (Yb Yg))) zI)))
      (zf (zz (Yb Yg))))))))))
  exact R 6
noncomputable def xo : SE → Ctl :=
  (zY (yP false 7 (zj yF (zm 2 zW (zb (zc 1) (zb (zj xa (eC (.int 60)) (zc 6)) zn))) (zj xa (zc 3) (eC (.int 1)))))
    (zY (sIf (tOf (zj Xc (zj yF (zc 1) (eC (.int 2))) (eC (.int 0)))) (zY (yP false 7 (eFn zch (zb (zc 3) (zb (zj yF (zc 5) (zj xa (zc 2) (eC (.int 1)))) zn))))
    (yP false 5 (zj zU (zc 5) (zj xa (zc 2) (eC (.int 1)))))) zE)
    (zY (wO false 4 (zc 7))
    (yP false 3 (zj vH (zc 3) (zc 7))))))
noncomputable def yx : SE → Ctl :=
  (zY (yP false 3 (zc 2))
    (zY (vh 4 (zF zn))
    (zY (yP false 5 (zj zU (zc 1) (eC (.int 2))))
    (zY (yq wL (zb (zc 0) zn) (zZ 6) xo)
    (sFz 4 (yn (eFn zJ (zb (zc 4) zn))))))))
noncomputable def xW : List D → Option D := fnD 8 yx
theorem Vd {n c mo : Int} (h0 : 0 ≤ n) (h8 : n ≤ 8) (hm0 : 0 ≤ mo) (hm : mo ≤ 1000) : ∃ ns : List Int, xW [.int n, .int c, .int mo] = some (.tup (ns.map .int)) ∧ (ns.length : Int) = n ∧ (∀ x ∈ ns, 0 ≤ x) ∧ ns.sum ≤ mo := by
  have key := zdO (m := 8) (g := yx) (ds := [.int n, .int c, .int mo]) (R := fun d => ∃ ns : List Int, d = .tup (ns.map .int) ∧ (ns.length : Int) = n ∧ (∀ x ∈ ns, 0 ≤ x) ∧ ns.sum ≤ mo) (ρ := [.v (.int n), .v (.int c), .v (.int mo), .no, .no, .no, .no, .no]) rfl ?_
  · obtain ⟨d, e, ns, rfl, h⟩ := key
    exact ⟨ns, e, h⟩
  unfold yx
  refine zy rfl (zy (ρ' := [.v (.int n), .v (.int c), .v (.int mo), .v (.int mo), .o [], .no, .no, .no]) (by simp [fnD, zY, yn, xl, sIf, yP, vn, sNo, zE, YB, vh, wO, Yq, Yv, vEv, visF, visG, Sl.f, Sl.g, zc, eC, zj, x9, eOr, vP, eIf, eUn, Yt, wj, yz, zF, zb, zn, zm, eFn, fFn, tOf, yj, x6, zO, asB, asI, zp, vH, xQ, zU, yF, vm, yD, ltD, leD, gtD, geD, vA, zr, zD, zt, zB, vv, zC, ixD, wK, zN, isT, eSl, yr, yt, zL, yi, iOf, wF, yq, vK, wL, wZ, zV, yW, fLC, zP, zJ, xf, zZ, vj, yf, vq, b1, b2, wA]) (zy (ρ' := [.v (.int n), .v (.int c), .v (.int mo), .v (.int mo), .o [], .v (.int (c / 2)), .no, .no]) (by simp [fnD, zY, yn, xl, sIf, yP, vn, sNo, zE, YB, vh, wO, Yq, Yv, vEv, visF, visG, Sl.f, Sl.g, zc, eC, zj, x9, eOr, vP, eIf, eUn, Yt, wj, yz, zF, zb, zn, zm, eFn, fFn, tOf, yj, x6, zO, asB, asI, zp, vH, xQ, zU, yF, vm, yD, ltD, leD, gtD, geD, vA, zr, zD, zt, zB, vv, zC, ixD, wK, zN, isT, eSl, yr, yt, zL, yi, iOf, wF, yq, vK, wL, wZ, zV, yW, fLC, zP, zJ, xf, zZ, vj, yf, vq, b1, b2]) ?_))
  refine xJ (zaF (lo := 0) (c := n.toNat) (fun i ρ => ∃ (le dg : Int) (ns : List Int) (o1 o2 : Sl), ρ = [.v (.int n), .v (.int c), .v (.int mo), .v (.int le), .o (ns.map .int), .v (.int dg), o1, o2] ∧ ns.length = i ∧ (∀ x ∈ ns, 0 ≤ x) ∧ 0 ≤ le ∧ ns.sum + le = mo) (Ya h0 (by omega)) ⟨mo, c / 2, [], .no, .no, rfl, rfl, by simp, hm0, by simp⟩ ?_ ?_)
  · rintro i ρ hi ⟨le, dg, ns, o1, o2, rfl, hl, hnn, hle, hs⟩
    obtain ⟨x, hx⟩ : ∃ x : Int, (0 : Int) + (i : Int) = x := ⟨_, rfl⟩
    rw [hx]
    refine ⟨_, rfl, ?_⟩
    unfold xo
    obtain ⟨st, hst⟩ : ∃ st : Int, Vg c (60 + x) = st := ⟨_, rfl⟩
    have hlo : 0 ≤ st % (le + 1) := Int.emod_nonneg _ (by omega)
    have hhi : st % (le + 1) < le + 1 := Int.emod_lt_of_pos _ (by omega)
    have es : zW [.int c, .int (60 + x)] = some (.int st) := by rw [← hst]; rfl
    have hz : decide ((ns.map D.int).length < sizeLine) = true := decide_eq_true (YX (by rw [List.length_map]; omega))
    have fin : ∀ (s2 dg2 : Int), 0 ≤ s2 → s2 ≤ le → (zY (wO false 4 (zc 7)) (yP false 3 (zj vH (zc 3) (zc 7))) [.v (.int n), .v (.int c), .v (.int mo), .v (.int le), .o (ns.map .int), .v (.int dg2), .v (.int x), .v (.int s2)]).w
        (fun ρ => ∃ (le dg : Int) (ns : List Int) (o1 o2 : Sl), ρ = [.v (.int n), .v (.int c), .v (.int mo), .v (.int le), .o (ns.map .int), .v (.int dg), o1, o2] ∧ ns.length = i + 1 ∧ (∀ x ∈ ns, 0 ≤ x) ∧ 0 ≤ le ∧ ns.sum + le = mo)
        (fun ρ' => (sFz 4 (yn (eFn zJ (zb (zc 4) zn))) ρ').w (fun _ => ∃ ns : List Int, D.non = .tup (ns.map .int) ∧ (ns.length : Int) = n ∧ (∀ x ∈ ns, 0 ≤ x) ∧ ns.sum ≤ mo) noP noP fun d => ∃ ns : List Int, d = .tup (ns.map .int) ∧ (ns.length : Int) = n ∧ (∀ x ∈ ns, 0 ≤ x) ∧ ns.sum ≤ mo)
        (fun ρ => ∃ (le dg : Int) (ns : List Int) (o1 o2 : Sl), ρ = [.v (.int n), .v (.int c), .v (.int mo), .v (.int le), .o (ns.map .int), .v (.int dg), o1, o2] ∧ ns.length = i + 1 ∧ (∀ x ∈ ns, 0 ≤ x) ∧ 0 ≤ le ∧ ns.sum + le = mo)
        (fun d => ∃ ns : List Int, d = .tup (ns.map .int) ∧ (ns.length : Int) = n ∧ (∀ x ∈ ns, 0 ≤ x) ∧ ns.sum ≤ mo) := fun s2 dg2 g1 g2 => by
      refine zy (ρ' := [.v (.int n), .v (.int c), .v (.int mo), .v (.int le), .o ((ns ++ [s2]).map .int), .v (.int dg2), .v (.int x), .v (.int s2)]) ?_ (Zf rfl ⟨le - s2, dg2, ns ++ [s2], _, _, rfl, ?_, ?_, by omega, ?_⟩)
      · show (match (if decide ((ns.map D.int).length < sizeLine) = true then some ([.v (.int n), .v (.int c), .v (.int mo), .v (.int le), .o (ns.map .int ++ [.int s2]), .v (.int dg2), .v (.int x), .v (.int s2)] : SE) else none) with | some ρ' => Ctl.nx ρ' | none => Ctl.no) = _
        rw [if_pos hz, List.map_append]
        rfl
      · rw [List.length_append, hl]; rfl
      · intro y hy
        rcases List.mem_append.mp hy with hy | hy
        · exact hnn y hy
        · rw [List.mem_singleton.mp hy]; exact g1
      · rw [List.sum_append]
        simp
        omega
    have hm1 : (0 : Int) < le + 1 := by omega
    refine zy (ρ' := [.v (.int n), .v (.int c), .v (.int mo), .v (.int le), .o (ns.map .int), .v (.int dg), .v (.int x), .v (.int (st % (le + 1)))]) (by simp [fnD, zY, yn, xl, sIf, yP, vn, sNo, zE, YB, vh, wO, Yq, Yv, vEv, visF, visG, Sl.f, Sl.g, zc, eC, zj, x9, eOr, vP, eIf, eUn, Yt, wj, yz, zF, zb, zn, zm, eFn, fFn, tOf, yj, x6, zO, asB, asI, zp, vH, xQ, zU, yF, vm, yD, ltD, leD, gtD, geD, vA, zr, zD, zt, zB, vv, zC, ixD, wK, zN, isT, eSl, yr, yt, zL, yi, iOf, wF, yq, vK, wL, wZ, zV, yW, fLC, zP, zJ, xf, zZ, vj, yf, vq, b1, b2, es, hm1]) ?_
    by_cases hc : c % 2 = 0
    · have hm2 : (0 : Int) < mo + 1 := by omega
      have hm3 : mo + 1 < 1606938044258990275541962092341162602522202993782792835301376 := by omega
      refine xJ (YJ (c := true) (by simp [fnD, zY, yn, xl, sIf, yP, vn, sNo, zE, YB, vh, wO, Yq, Yv, vEv, visF, visG, Sl.f, Sl.g, zc, eC, zj, x9, eOr, vP, eIf, eUn, Yt, wj, yz, zF, zb, zn, zm, eFn, fFn, tOf, yj, x6, zO, asB, asI, zp, vH, xQ, zU, yF, vm, yD, ltD, leD, gtD, geD, vA, zr, zD, zt, zB, vv, zC, ixD, wK, zN, isT, eSl, yr, yt, zL, yi, iOf, wF, yq, vK, wL, wZ, zV, yW, fLC, zP, zJ, xf, zZ, vj, yf, vq, b1, b2, hc]) (fun _ => ?_) (fun z => by cases z))
      refine zy (ρ' := [.v (.int n), .v (.int c), .v (.int mo), .v (.int le), .o (ns.map .int), .v (.int dg), .v (.int x), .v (.int (if dg % (mo + 1) < le then dg % (mo + 1) else le))]) (by simp [fnD, zY, yn, xl, sIf, yP, vn, sNo, zE, YB, vh, wO, Yq, Yv, vEv, visF, visG, Sl.f, Sl.g, zc, eC, zj, x9, eOr, vP, eIf, eUn, Yt, wj, yz, zF, zb, zn, zm, eFn, fFn, tOf, yj, x6, zO, asB, asI, zp, vH, xQ, zU, yF, vm, yD, ltD, leD, gtD, geD, vA, zr, zD, zt, zB, vv, zC, ixD, wK, zN, isT, eSl, yr, yt, zL, yi, iOf, wF, yq, vK, wL, wZ, zV, yW, fLC, zP, zJ, xf, zZ, vj, yf, vq, b1, b2, hm2, zch]) (Zf (ρ' := [.v (.int n), .v (.int c), .v (.int mo), .v (.int le), .o (ns.map .int), .v (.int (dg / (mo + 1))), .v (.int x), .v (.int (if dg % (mo + 1) < le then dg % (mo + 1) else le))]) (by simp [fnD, zY, yn, xl, sIf, yP, vn, sNo, zE, YB, vh, wO, Yq, Yv, vEv, visF, visG, Sl.f, Sl.g, zc, eC, zj, x9, eOr, vP, eIf, eUn, Yt, wj, yz, zF, zb, zn, zm, eFn, fFn, tOf, yj, x6, zO, asB, asI, zp, vH, xQ, zU, yF, vm, yD, ltD, leD, gtD, geD, vA, zr, zD, zt, zB, vv, zC, ixD, wK, zN, isT, eSl, yr, yt, zL, yi, iOf, wF, yq, vK, wL, wZ, zV, yW, fLC, zP, zJ, xf, zZ, vj, yf, vq, b1, b2, hm2, hm3]) ?_)
      have p1 : 0 ≤ dg % (mo + 1) := Int.emod_nonneg _ (by omega)
      exact fin _ _ (by split <;> omega) (by split <;> omega)
    · refine xJ (YJ (c := false) (by simp [fnD, zY, yn, xl, sIf, yP, vn, sNo, zE, YB, vh, wO, Yq, Yv, vEv, visF, visG, Sl.f, Sl.g, zc, eC, zj, x9, eOr, vP, eIf, eUn, Yt, wj, yz, zF, zb, zn, zm, eFn, fFn, tOf, yj, x6, zO, asB, asI, zp, vH, xQ, zU, yF, vm, yD, ltD, leD, gtD, geD, vA, zr, zD, zt, zB, vv, zC, ixD, wK, zN, isT, eSl, yr, yt, zL, yi, iOf, wF, yq, vK, wL, wZ, zV, yW, fLC, zP, zJ, xf, zZ, vj, yf, vq, b1, b2, hc]) (fun z => by cases z) (fun _ => Zf rfl ?_))
      exact fin _ _ hlo (by omega)
  · rintro ρ ⟨le, dg, ns, o1, o2, rfl, hl, hnn, hle, hs⟩
    refine zeJ rfl (Zc rfl ⟨ns, rfl, by omega, hnn, by omega⟩)
theorem Zh (T : Txt K mg ad) : xx P w K mg base CX0 2 ad.f__law_heap_by ad.e__law_heap_by ["many", "cell", "most"] (@spD ⟨K⟩ 3 xW) := by
  letI : KK := ⟨K⟩
  have G__law_stir := wP (P := P) (w := w) (base := base) T
  refine xy (N := ["many", "cell", "most", "left", "heap", "digits", "k", "stones"]) (ps := ["many", "cell", "most"]) T.d__law_heap_by.fn zx (g := yx) fun cdv A outer s H E hr => ?_
  unfold yx xo
  exact (ze (yy (m := false) (i := 3) zx.nd rfl (Or.inl rfl) (edv 2))
      (ze (zav (i := 4) zx.nd rfl (Or.inl rfl) (wB zd))
      (ze (yy (m := false) (i := 5) zx.nd rfl (Or.inl rfl) (wW (edv 1) (zg zh)))
      (ze (ZU PassesOwn.never rfl rfl T.z_range (za (edv 0) zd) (yM (zM (i := 6) zx.nd rfl (Or.inl rfl))) (ze (yy (m := false) (i := 7) zx.nd rfl (Or.inl rfl) (xH (zk G__law_stir hr rfl T.d__law_stir (za (edv 1) (za (yh (zg zh) (edv 6)) zd))) (yh (edv 3) (zg zh))))
      (ze (yV (ym (Yr hr) wS (zS _) (xH (edv 1) (zg zh)) (zg zh)) (ze (yy (m := false) (i := 7) zx.nd rfl (Or.inl rfl) (yo (VR rfl) za8 rfl T.z_min zdv (za (edv 3) (za (xH (edv 5) (yh (edv 2) (zg zh))) zd))))
      (zf (yy (m := false) (i := 5) zx.nd rfl (Or.inl rfl) (wW (edv 5) (yh (edv 2) (zg zh)))))) zI)
      (ze (WC (m := false) (pv 4) (edv 7) (fun a b => Zr PySem.F.plainAttrs_list PySem.F.slot_list_append PySem.F.type_list_append vO a b))
      (zf (yy (m := false) (i := 3) zx.nd rfl (Or.inl rfl) (V0 (edv 3) (edv 7))))))))
      (Vw 4 (zf (zz (yJ wl Y4 rfl T.z_tuple xz (za (edv 4) zd)))))))))
theorem zcn {a b : Str} (h : a.cps.toList = b.cps.toList) : a = b := by
  cases a; cases b
  congr 1
  exact Array.ext' h
noncomputable def gl (c : Nat) : List (List Nat) → List Nat
  | [] => []
  | [x] => x
  | x :: y :: r => x ++ c :: gl c (y :: r)
theorem X5 (c : Nat) : ∀ A : List Str, (Str.join ⟨#[c]⟩ A).cps.toList = gl c (A.map fun a => a.cps.toList) := by
  intro A
  induction A with
  | nil => rfl
  | cons x r ih =>
    cases r with
    | nil => rfl
    | cons y r =>
      show ((x ++ ⟨#[c]⟩ ++ Str.join ⟨#[c]⟩ (y :: r)).cps).toList = x.cps.toList ++ c :: gl c ((y :: r).map fun a => a.cps.toList)
      rw [← ih, Str.cps_append, Str.cps_append, Array.toList_append, Array.toList_append, List.append_assoc]
      rfl
theorem zbC {c : Nat} : ∀ {a b X Y : List Nat}, c ∉ a → c ∉ b → a ++ c :: X = b ++ c :: Y → a = b ∧ X = Y := by
  intro a
  induction a with
  | nil =>
    intro b X Y _ hb e
    cases b with
    | nil => exact ⟨rfl, (List.cons.inj e).2⟩
    | cons y b => exact absurd ((List.cons.inj e).1 ▸ List.mem_cons_self ..) hb
  | cons x a ih =>
    intro b X Y ha hb e
    cases b with
    | nil => exact absurd ((List.cons.inj e).1 ▸ List.mem_cons_self ..) ha
    | cons y b =>
      obtain ⟨e1, e2⟩ := List.cons.inj e
      obtain ⟨h1, h2⟩ := ih (fun h => ha (.tail _ h)) (fun h => hb (.tail _ h)) e2
      exact ⟨by rw [e1, h1], h2⟩
theorem zdG {c : Nat} : ∀ {A B : List (List Nat)}, A ≠ [] → B ≠ [] → (∀ a ∈ A, c ∉ a) → (∀ b ∈ B, c ∉ b) → gl c A = gl c B → A = B := by
  have mid : ∀ {a : List Nat} {y : List Nat} {r : List (List Nat)} {X : List Nat}, c ∉ a → a = y ++ c :: X → False := fun ha e => ha (by rw [e]; exact List.mem_append_right _ (.head _))
  intro A
  induction A with
  | nil => intro B h; exact absurd rfl h
  | cons x r ih =>
    intro B _ hB fa fb e
    cases B with
    | nil => exact absurd rfl hB
    | cons y q =>
      cases r with
      | nil =>
        cases q with
        | nil => exact congrArg (fun z => [z]) e
        | cons y2 q => exact (mid (r := []) (fa x (.head _)) e).elim
      | cons x2 r =>
        cases q with
        | nil => exact (mid (r := []) (fb y (.head _)) e.symm).elim
        | cons y2 q =>
          obtain ⟨h1, h2⟩ := zbC (fa x (.head _)) (fb y (.head _)) e
          rw [h1, ih (List.cons_ne_nil _ _) (List.cons_ne_nil _ _) (fun a ha => fa a (.tail _ ha)) (fun b hb => fb b (.tail _ hb)) h2]
theorem Zw {c : Nat} {A : List Str} (hA : A ≠ []) (hf : ∀ a ∈ A, c ∉ a.cps.toList) : Txt.split (Txt.join ⟨#[c]⟩ A) ⟨#[c]⟩ = A := by
  have e0 : Txt.join ⟨#[c]⟩ A = Str.join ⟨#[c]⟩ A := StrLaws.glued_eq_join _ _
  rw [e0]
  have e1 := StrLaws.join_split (Str.join ⟨#[c]⟩ A) ⟨#[c]⟩
  have e2 := StrLaws.split_free (Str.join ⟨#[c]⟩ A) c
  have e3 := PyProof.Rows.split_pos (Str.join ⟨#[c]⟩ A) ⟨#[c]⟩
  generalize Txt.split (Str.join ⟨#[c]⟩ A) ⟨#[c]⟩ = S at e1 e2 e3
  have e4 := congrArg (fun a : Str => a.cps.toList) e1
  rw [X5, X5] at e4
  have inj : ∀ {A B : List Str}, (A.map fun a => a.cps.toList) = B.map (fun a => a.cps.toList) → A = B := fun {A} => by
    induction A with
    | nil => intro B h; cases B with | nil => rfl | cons b B => cases h
    | cons a A ih =>
      intro B h
      cases B with
      | nil => cases h
      | cons b B =>
        obtain ⟨h1, h2⟩ := List.cons.inj h
        rw [zcn h1, ih h2]
  refine inj (zdG (fun z => ?_) (fun z => hA (List.map_eq_nil_iff.mp z)) (fun a ha => ?_) (fun a ha => ?_) e4)
  · rw [List.map_eq_nil_iff.mp z] at e3
    exact absurd e3 (by decide)
  · obtain ⟨x, hx, rfl⟩ := List.mem_map.mp ha
    exact e2 x hx
  · obtain ⟨x, hx, rfl⟩ := List.mem_map.mp ha
    exact hf x hx
theorem WH : Str.ofString " " = ⟨#[32]⟩ := by decide
theorem zcy : Str.ofString "\n" = ⟨#[10]⟩ := by decide
noncomputable def nS (n : Int) : Str := Str.ofString (toString n)
noncomputable def okS (n : Nat) : Bool := (nS (n : Int)).cps.toList.all (fun c => decide (48 ≤ c) && decide (c ≤ 57)) && decide ((nS (n : Int)).length ≤ 3)
theorem zcu : (List.range 301).all okS = true := by decide +kernel
theorem W4 {n : Int} (h0 : 0 ≤ n) (h1 : n ≤ 300) : (∀ c ∈ (nS n).cps.toList, 48 ≤ c ∧ c ≤ 57) ∧ (nS n).length ≤ 3 := by
  have h := List.all_eq_true.mp zcu n.toNat (List.mem_range.mpr (by omega))
  unfold okS at h
  rw [show ((n.toNat : Nat) : Int) = n by omega, Bool.and_eq_true] at h
  refine ⟨fun c hc => ?_, of_decide_eq_true h.2⟩
  have := List.all_eq_true.mp h.1 c hc
  rw [Bool.and_eq_true] at this
  exact ⟨of_decide_eq_true this.1, of_decide_eq_true this.2⟩
noncomputable def yp (w : Str) (ns : List Int) : Str := Txt.join (Str.ofString " ") (w :: ns.map nS)
set_option genInjectivity false in
set_option genSizeOf false in
set_option genCtorIdx false in
structure vt (w : Str) : Prop where
  len : w.length ≤ 4
  asc : ∀ c ∈ w.cps.toList, 97 ≤ c ∧ c ≤ 122
set_option genInjectivity false in
set_option genSizeOf false in
set_option genCtorIdx false in
structure wC (ns : List Int) : Prop where
  few : ns.length ≤ 8
  rng : ∀ n ∈ ns, 0 ≤ n ∧ n ≤ 300
theorem W7 {w : Str} {ns : List Int} (hw : vt w) (hn : wC ns) : Txt.split (yp w ns) (Str.ofString " ") = w :: ns.map nS := by
  unfold yp
  rw [WH]
  refine Zw (List.cons_ne_nil _ _) fun a ha h => ?_
  rcases List.mem_cons.mp ha with rfl | ha
  · have := hw.asc _ h
    omega
  · obtain ⟨n, hn', rfl⟩ := List.mem_map.mp ha
    have := (W4 (hn.rng n hn').1 (hn.rng n hn').2).1 _ h
    omega
theorem XI {w : Str} {ns : List Int} (hw : vt w) (hn : wC ns) : ∀ y ∈ w :: ns.map nS, y.length ≤ 4 := fun y hy => by
  rcases List.mem_cons.mp hy with rfl | hy
  · exact hw.len
  · obtain ⟨n, hn', rfl⟩ := List.mem_map.mp hy
    have := (W4 (hn.rng n hn').1 (hn.rng n hn').2).2
    omega
theorem YK {w : Str} {ns : List Int} (hw : vt w) (hn : wC ns) : (yp w ns).length ≤ 45 := by
  have h1 : yp w ns = Str.join (Str.ofString " ") (w :: ns.map nS) := StrLaws.glued_eq_join _ _
  have h2 := StrLaws.join_length_le (Str.ofString " ") (w :: ns.map nS)
  have h3 := StrLaws.sumLen_le (w :: ns.map nS) (XI hw hn)
  have h4 : (w :: ns.map nS).length ≤ 9 := by rw [List.length_cons, List.length_map]; have := hn.few; omega
  have h5 : (Str.ofString " ").length = 1 := by decide
  rw [h1]
  rw [h5] at h2
  omega
theorem Yp {w : Str} {ns : List Int} (hw : vt w) (hn : wC ns) : ∀ c ∈ (yp w ns).cps.toList, 32 ≤ c ∧ c ≤ 122 := by
  have h1 : yp w ns = Str.join (Str.ofString " ") (w :: ns.map nS) := StrLaws.glued_eq_join _ _
  rw [h1, WH, X5]
  have key : ∀ A : List (List Nat), (∀ a ∈ A, ∀ c ∈ a, 32 ≤ c ∧ c ≤ 122) → ∀ c ∈ gl 32 A, 32 ≤ c ∧ c ≤ 122 := fun A => by
    induction A with
    | nil => intro _ c hc; cases hc
    | cons x r ih =>
      intro h c hc
      cases r with
      | nil => exact h x (.head _) c hc
      | cons y r =>
        rcases List.mem_append.mp (show c ∈ x ++ 32 :: gl 32 (y :: r) from hc) with hc | hc
        · exact h x (.head _) c hc
        · rcases List.mem_cons.mp hc with rfl | hc
          · decide
          · exact ih (fun a ha => h a (.tail _ ha)) c hc
  refine key _ fun a ha c hc => ?_
  obtain ⟨s, hs, rfl⟩ := List.mem_map.mp ha
  rcases List.mem_cons.mp hs with rfl | hs
  · have := hw.asc c hc
    omega
  · obtain ⟨n, hn', rfl⟩ := List.mem_map.mp hs
    have := (W4 (hn.rng n hn').1 (hn.rng n hn').2).1 c hc
    omega
theorem VD {s : Str} {ts : List Str} {B : Nat} (hB : ∀ y ∈ ts, y.length ≤ B) (h : ts.length * B + ts.length * s.length ≤ 16777216) : JoinOk s ts = true := by
  unfold JoinOk
  rw [StrLaws.joinFits hB h]
  rfl
theorem Wz {w : Str} {ns : List Int} (hw : vt w) (hn : wC ns) : Z3 (.str (Str.ofString " ")) (.lst ((w :: ns.map nS).map .str)) = some (.str (yp w ns)) := by
  show (Y5 ((w :: ns.map nS).map .str)).bind _ = _
  rw [ZD, Option.bind_some, if_pos (VD (XI hw hn) ?_)]
  · rfl
  · have h4 : (w :: ns.map nS).length ≤ 9 := by rw [List.length_cons, List.length_map]; have := hn.few; omega
    have h5 : (Str.ofString " ").length = 1 := by decide
    rw [h5]
    omega
theorem zbh : vt (Str.ofString "web") := ⟨by decide, by decide⟩
theorem V8 : vt (Str.ofString "tie") := ⟨by decide, by decide⟩
theorem Xx : vt (Str.ofString "heap") := ⟨by decide, by decide⟩
theorem ZN {n : Int} (h0 : 0 ≤ n) (h1 : n ≤ 300) : Xs [.int n] = some (.str (nS n)) := by
  show (if 0 ≤ n ∧ n < 1000000 then _ else _) = _
  rw [if_pos ⟨h0, by omega⟩]
  rfl
theorem V7 {ρ : Ev} {ns : List Int} {i : Ev → Option (List D)} (hi : i ρ = some (ns.map .int)) (hn : wC ns) : fLC i b1 zP (eFn Xs (zb (zc 0) zn)) ρ = some ((ns.map nS).map .str) := by
  unfold fLC
  rw [hi, Option.bind_some, if_pos (wA (by rw [List.length_map]; have := hn.few; omega)), List.map_map]
  refine Ye D.int (D.str ∘ nS) ns fun n h => ⟨[some (.int n)], rfl, rfl, ?_⟩
  exact VV (ds := [.int n]) rfl (ZN (hn.rng n h).1 (hn.rng n h).2)
theorem zcx {mt : D → D → Option D} {f : Ev → Option D} {g : Ev → Option (List D)} {ρ : Ev} {c d : D} {z : Option D} (h1 : f ρ = some c) (h2 : g ρ = some [d]) (h3 : mt c d = z) : Y1 mt f g ρ = z := by
  unfold Y1
  rw [h1, Option.bind_some, h2]
  exact h3
noncomputable def vR : SE → Ctl :=
  (yn (Y1 Z3 (eC (.str " ")) (zb (zj xa (yz (zF (zb (zc 0) zn))) (yz (fLC (iOf (zc 1)) b1 zP (eFn Xs (zb (zc 0) zn))))) zn)))
noncomputable def yk : List D → Option D := fnD 2 vR
theorem Yd {w : Str} {ns : List Int} {d : D} (hw : vt w) (hn : wC ns) (hd : yi d = some (ns.map .int)) : yk [.str w, d] = some (.str (yp w ns)) := by
  refine XW (ρ := [.v (.str w), .v d]) rfl ?_
  unfold vR
  refine Zc (d := .str (yp w ns)) (vD ?_) rfl
  have e1 : zj xa (yz (zF (zb (zc 0) zn))) (yz (fLC (iOf (zc 1)) b1 zP (eFn Xs (zb (zc 0) zn)))) (visG [.v (.str w), .v d]) = some (.lst ((w :: ns.map nS).map .str)) := by
    refine zT (x := .lst [.str w]) (y := .lst ((ns.map nS).map .str)) rfl (v0 (V7 (WK (d := d) rfl hd) hn)) ?_
    rw [ve (by rw [List.length_map, List.length_map]; have := hn.few; show 1 + _ ≤ 1000; omega)]
    rfl
  unfold Y1
  rw [zG e1 yX]
  exact Wz hw hn
theorem Vp (T : Txt K mg ad) : xx P w K mg base CX0 1 ad.f_written ad.e_written ["word", "numbers"] (@spD ⟨K⟩ 2 yk) := by
  letI : KK := ⟨K⟩
  refine xy (N := ["word", "numbers"]) (ps := ["word", "numbers"]) T.d_written.fn Vc (g := vR) fun cdv A outer s H E hr => ?_
  unfold vR
  exact (zf (zz (ZW (yY yZ) (za (yh (vi (wB (za (edv 0) zd))) (vi (Xi (L := ["number"]) (M := ["word", "numbers"]) rfl (Y6 (by rfl) (by rfl) (by rfl) (by with_unfolding_all rfl) (by rfl) (by rfl) (by kernel_rfl) vI) (YW (edv 1)) gs1 rb1 (fun _ _ _ _ => (zM (i := 0) zeG rfl (Or.inl rfl) (.inr rfl))) (fun _ _ _ _ => (yJ xi Y3 rfl T.z_str Yx (za (edv 0) zd)))))) zd) (fun a b => Zr PySem.F.plainAttrs_str PySem.F.slot_str_join PySem.F.type_str_join ZG a b))))
noncomputable def wt (m : Int) (ts : List Tie) (h : List Int) : List Str := yp (Str.ofString "web") [m] :: (ts.map fun t => yp (Str.ofString "tie") [t.1, t.2]) ++ [yp (Str.ofString "heap") h]
noncomputable def xX (m : Int) (ts : List Tie) (h : List Int) : Str := Txt.join (Str.ofString "\n") (wt m ts h)
set_option genInjectivity false in
set_option genSizeOf false in
set_option genCtorIdx false in
structure wE (m : Int) (ts : List Tie) (h : List Int) : Prop where
  ok : Zq m ts
  few : ts.length ≤ 28
  len : (h.length : Int) = m
  nn : ∀ x ∈ h, 0 ≤ x
  sum : h.sum ≤ 300
section
variable {m : Int} {ts : List Tie} {h : List Int} (A : wE m ts h)
include A
theorem wE.nW : wC [m] := ⟨by show 1 ≤ 8; decide, fun n hn => by rw [List.mem_singleton.mp hn]; have := A.ok.lo; have := A.ok.hi; omega⟩
theorem wE.nT {t : Tie} (ht : t ∈ ts) : wC [t.1, t.2] := ⟨by show 2 ≤ 8; decide, fun n hn => by
  have r := A.ok.rng t ht
  have := A.ok.hi
  rcases List.mem_cons.mp hn with rfl | hn
  · omega
  · rw [List.mem_singleton.mp hn]; omega⟩
theorem wE.nH : wC h := ⟨by have := A.len; have := A.ok.hi; omega, fun n hn => ⟨A.nn n hn, by
  have h1 := A.sum
  have key : ∀ l : List Int, (∀ x ∈ l, 0 ≤ x) → n ∈ l → n ≤ l.sum := fun l => by
    induction l with
    | nil => intro _ z; cases z
    | cons a l ih =>
      intro hl z
      rw [List.sum_cons]
      have h0 := hl a (.head _)
      have hs : 0 ≤ l.sum := zcd fun x hx => hl x (.tail _ hx)
      rcases List.mem_cons.mp z with rfl | z
      · omega
      · have := ih (fun x hx => hl x (.tail _ hx)) z; omega
  have := key h A.nn hn
  omega⟩⟩
theorem wE.rows : ∀ r ∈ wt m ts h, r.length ≤ 45 ∧ ∀ c ∈ r.cps.toList, 32 ≤ c ∧ c ≤ 122 := fun r hr => by
  unfold wt at hr
  rcases List.mem_append.mp hr with hr | hr
  · rcases List.mem_cons.mp hr with rfl | hr
    · exact ⟨YK zbh A.nW, Yp zbh A.nW⟩
    · obtain ⟨t, ht, rfl⟩ := List.mem_map.mp hr
      exact ⟨YK V8 (A.nT ht), Yp V8 (A.nT ht)⟩
  · rw [List.mem_singleton.mp hr]
    exact ⟨YK Xx A.nH, Yp Xx A.nH⟩
theorem wE.count : (wt m ts h).length = ts.length + 2 ∧ (wt m ts h).length ≤ 30 := by
  have e : (wt m ts h).length = ts.length + 2 := by
    unfold wt
    rw [List.length_append, List.length_cons, List.length_map]
    rfl
  have := A.few
  exact ⟨e, by omega⟩
theorem wE.split : Txt.split (xX m ts h) (Str.ofString "\n") = wt m ts h := by
  unfold xX
  rw [zcy]
  refine Zw (fun z => ?_) fun r hr z => ?_
  · have := A.count.1
    rw [z] at this
    cases this
  · have := (A.rows r hr).2 _ z
    omega
theorem wE.short : (xX m ts h).length ≤ 1500 := by
  have h1 : xX m ts h = Str.join (Str.ofString "\n") (wt m ts h) := StrLaws.glued_eq_join _ _
  have h2 := StrLaws.join_length_le (Str.ofString "\n") (wt m ts h)
  have h3 := StrLaws.sumLen_le (wt m ts h) fun r hr => (A.rows r hr).1
  have h4 := A.count.2
  have h5 : (Str.ofString "\n").length = 1 := by decide
  rw [h1]
  rw [h5] at h2
  omega
theorem wE.join : Z3 (.str (Str.ofString "\n")) (.lst ((wt m ts h).map .str)) = some (.str (xX m ts h)) := by
  show (Y5 ((wt m ts h).map .str)).bind _ = _
  rw [ZD, Option.bind_some, if_pos (VD (fun r hr => (A.rows r hr).1) ?_)]
  · rfl
  · have h4 := A.count.2
    have h5 : (Str.ofString "\n").length = 1 := by decide
    rw [h5]
    omega
end
noncomputable def ZR : SE → Ctl :=
  (zY (vn (zm 1 yQ (zb (zc 0) zn)))
    (zY (vn (zm 2 yw (zb (zc 0) (zb (zc 1) zn))))
    (zY (yP false 2 (yz (fLC (iOf (zj ixD (zc 0) (eC (.int 1)))) b1 zP (zm 2 yk (zb (eC (.str "tie")) (zb (zc 0) zn))))))
    (yn (Y1 Z3 (eC (.str "\n")) (zb (zj xa (zj xa (yz (zF (zb (zm 2 yk (zb (eC (.str "web")) (zb (yz (zF (zb (zj ixD (zc 0) (eC (.int 0))) zn))) zn))) zn))) (zc 2)) (yz (zF (zb (zm 2 yk (zb (eC (.str "heap")) (zb (zc 1) zn))) zn)))) zn))))))
noncomputable def X6 : List D → Option D := fnD 3 ZR
theorem zbx {m : Int} {ts : List Tie} {h : List Int} : [D.str (yp (Str.ofString "web") [m])] ++ (ts.map fun t => D.str (yp (Str.ofString "tie") [t.1, t.2])) ++ [D.str (yp (Str.ofString "heap") h)] = (wt m ts h).map .str := by
  unfold wt
  rw [List.map_append, List.map_cons, List.map_map]
  rfl
theorem zbD {m : Int} {ts : List Tie} (ok : Zq m ts) : yQ [yI m ts] = some .non := by
  have hw : wz (yI m ts) = true := (vb _).mpr ⟨_, _, rfl, ok⟩
  simp [yQ, hw]
theorem zaP {m : Int} {ts : List Tie} {h : List Int} (A : wE m ts h) : yw [yI m ts, .tup (h.map .int)] = some .non := by
  show (if (noS (.tup (h.map .int)) && decide (m ≤ 1000) && wN m (.tup (h.map .int))) = true then some D.non else none) = _
  rw [WV, Xq A.ok, Zy A.len A.nn A.sum]
  rfl
theorem zbg {m : Int} {ts : List Tie} {h : List Int} (A : wE m ts h) : X6 [yI m ts, .tup (h.map .int)] = some (.str (xX m ts h)) := by
  have hf := A.few
  refine XW (ρ := [.v (yI m ts), .v (.tup (h.map .int)), .no]) rfl ?_
  unfold ZR
  refine zy (VB (d := .non) (zbD A.ok)) ?_
  refine zy (VB (d := .non) (zaP A)) ?_
  refine zy (ρ' := [.v (yI m ts), .v (.tup (h.map .int)), .v (.lst (ts.map fun t => .str (yp (Str.ofString "tie") [t.1, t.2])))]) (XZ (v0 ?_)) ?_
  · unfold fLC
    rw [WK (d := .tup (ts.map zu)) rfl rfl, Option.bind_some, if_pos (wA (by rw [List.length_map]; omega))]
    refine Ye zu _ ts fun t ht => ⟨[some (zu t)], rfl, rfl, ?_⟩
    exact yU (ds := [.str (Str.ofString "tie"), zu t]) rfl (Yd V8 (A.nT ht) rfl)
  refine Zc (d := .str (xX m ts h)) (vD ?_) rfl
  have e1 : zj xa (zj xa (yz (zF (zb (zm 2 yk (zb (eC (.str "web")) (zb (yz (zF (zb (zj ixD (zc 0) (eC (.int 0))) zn))) zn))) zn))) (zc 2)) (yz (zF (zb (zm 2 yk (zb (eC (.str "heap")) (zb (zc 1) zn))) zn))) (visG [.v (yI m ts), .v (.tup (h.map .int)), .v (.lst (ts.map fun t => .str (yp (Str.ofString "tie") [t.1, t.2])))]) = some (.lst ((wt m ts h).map .str)) := by
    have eW : zm 2 yk (zb (eC (.str "web")) (zb (yz (zF (zb (zj ixD (zc 0) (eC (.int 0))) zn))) zn)) (visG [.v (yI m ts), .v (.tup (h.map .int)), .v (.lst (ts.map fun t => .str (yp (Str.ofString "tie") [t.1, t.2])))]) = some (.str (yp (Str.ofString "web") [m])) := by
      refine yU (ds := [.str (Str.ofString "web"), .lst [.int m]]) rfl ?_
      exact Yd zbh A.nW rfl
    have eH : zm 2 yk (zb (eC (.str "heap")) (zb (zc 1) zn)) (visG [.v (yI m ts), .v (.tup (h.map .int)), .v (.lst (ts.map fun t => .str (yp (Str.ofString "tie") [t.1, t.2])))]) = some (.str (yp (Str.ofString "heap") h)) := by
      refine yU (ds := [.str (Str.ofString "heap"), .tup (h.map .int)]) rfl ?_
      exact Yd Xx A.nH rfl
    generalize hE : visG [.v (yI m ts), .v (.tup (h.map .int)), .v (.lst (ts.map fun t => .str (yp (Str.ofString "tie") [t.1, t.2])))] = E0 at eW eH
    have e2 : zc 2 E0 = some (.lst (ts.map fun t => .str (yp (Str.ofString "tie") [t.1, t.2]))) := by rw [← hE]; rfl
    have eW2 : yz (zF (zb (zm 2 yk (zb (eC (.str "web")) (zb (yz (zF (zb (zj ixD (zc 0) (eC (.int 0))) zn))) zn))) zn)) E0 = some (.lst [.str (yp (Str.ofString "web") [m])]) := v0 (Xb (zG eW yX) (by show 1 ≤ 1000; decide))
    have eH2 : yz (zF (zb (zm 2 yk (zb (eC (.str "heap")) (zb (zc 1) zn))) zn)) E0 = some (.lst [.str (yp (Str.ofString "heap") h)]) := v0 (Xb (zG eH yX) (by show 1 ≤ 1000; decide))
    refine zT (zT eW2 e2 (ve (by rw [List.length_map]; show 1 + _ ≤ 1000; omega))) eH2 ?_
    rw [ve (by rw [List.length_append, List.length_map]; show 1 + _ + 1 ≤ 1000; omega), zbx]
  unfold Y1
  rw [zG e1 yX]
  exact A.join
theorem zbE (T : Txt K mg ad) : xx P w K mg base CX0 8 ad.f_shown ad.e_shown ["web", "heap"] (@spD ⟨K⟩ 2 X6) := by
  letI : KK := ⟨K⟩
  have G_must_be_web := Zk (P := P) (w := w) (base := base) T
  have G_must_be_heap := Y2 (P := P) (w := w) (base := base) T
  have G_written := Vp (P := P) (w := w) (base := base) T
  refine xy (N := ["web", "heap", "ties"]) (ps := ["web", "heap"]) T.d_shown.fn WJ (g := ZR) fun cdv A outer s H E hr => ?_
  unfold ZR
  exact (ze (zao (zk G_must_be_web hr rfl T.d_must_be_web (za (edv 0) zd)))
      (ze (zao (zk G_must_be_heap hr rfl T.d_must_be_heap (za (edv 0) (za (edv 1) zd))))
      (ze (zaf (m := false) (i := 2) (zas (L := ["tie"]) (M := ["web", "heap", "ties"]) WJ.nd rfl (Or.inl rfl) rfl (Y6 (by rfl) (by rfl) (by rfl) (by with_unfolding_all rfl) (by rfl) (by rfl) (by kernel_rfl) vI) (YW (xL (edv 0) (zg zh) (fun _ _ => rfl))) gs1 rb1 (fun _ _ _ _ => (zM (i := 0) ze8 rfl (Or.inl rfl) (.inr rfl))) (fun _ _ _ _ => (zk G_written hr rfl T.d_written (za (yY yZ) (za (edv 0) zd))))))
      (zf (zz (ZW (yY yZ) (za (yh (yh (vi (wB (za (zk G_written hr rfl T.d_written (za (yY yZ) (za (vi (wB (za (xL (edv 0) (zg zh) (fun _ _ => rfl)) zd))) zd))) zd))) (edv 2)) (vi (wB (za (zk G_written hr rfl T.d_written (za (yY yZ) (za (edv 1) zd))) zd)))) zd) (fun a b => Zr PySem.F.plainAttrs_str PySem.F.slot_str_join PySem.F.type_str_join ZG a b)))))))
noncomputable def xp : SE → Ctl :=
  (zY (sIf (x6 (zO (tOf (zL leD leD (eC (.int 1)) (eFn zaX (zb (zc 0) zn)) (eC (.int 3))))) (zO (tOf (eFn zdc (zb (yz (fLC (iTx (zc 0)) b1 zP (zj zfi (zc 0) (eC (.str "0123456789"))))) zn))))) (yn (eC .non)) zE)
    (zY (sIf (yj (tOf (zj gtD (eFn zaX (zb (zc 0) zn)) (eC (.int 1)))) (tOf (zj Xc (zj zeD (zc 0) (eC (.int 0))) (eC (.str "0"))))) (yn (eC .non)) zE)
    (yn (eFn zda (zb (zc 0) zn)))))
noncomputable def yA : List D → Option D := fnD 1 xp
noncomputable def chkN (n : Nat) : Bool := match yA [.str (nS (n : Int))] with
  | some (.int k) => decide (k = (n : Int))
  | _ => false
theorem zbO : (List.range 301).all chkN = true := by kernel_rfl
theorem zaB {n : Int} (h0 : 0 ≤ n) (h1 : n ≤ 300) : yA [.str (nS n)] = some (.int n) := by
  have h := List.all_eq_true.mp zbO n.toNat (List.mem_range.mpr (by omega))
  unfold chkN at h
  rw [show ((n.toNat : Nat) : Int) = n by omega] at h
  split at h
  · rename_i k e
    rw [e, of_decide_eq_true h]
  · cases h
theorem Ym (T : Txt K mg ad) : xx P w K mg base CX0 1 ad.f_number_written ad.e_number_written ["word"] (@spD ⟨K⟩ 1 yA) := by
  letI : KK := ⟨K⟩
  refine xy (N := ["word"]) (ps := ["word"]) T.d_number_written.fn Yh (g := xp) fun cdv A outer s H E hr => ?_
  unfold xp
  exact (ze (yV (Vi (Zp (xu (zaY Z9 Z9 yK yK (zg zh) (yo YA WR rfl T.z_len v5 (za (edv 0) zd)) (zg (Wo (v := .int 3) rfl T.g_MOST_FIGURES ⟨_, rfl⟩)) (fun a b c => zbn Z9 Z9 a b c))) (vZ (xu (y0 (yo (Xp rfl) zae rfl T.z_all zb6 (za (vi (Xi (L := ["sign"]) (M := ["word"]) rfl (Y6 (by rfl) (by rfl) (by rfl) (by with_unfolding_all rfl) (by rfl) (by rfl) (by kernel_rfl) vI) (zet (edv 0)) gs1 rb1 (fun _ _ _ _ => (zM (i := 0) zfs rfl (Or.inl rfl) (.inr rfl))) (fun _ _ _ _ => (Yz zak zcD (by with_unfolding_all rfl) (edv 0) (yY yZ))))) zd))))))) (zf (zz (YE Yy))) zI)
      (ze (yV (Vi (WU (ym zct yK (zS _) (yo YA WR rfl T.z_len v5 (za (edv 0) zd)) (zg zh)) (ZO (ym (Yr hr) wS (zS _) (zdA (edv 0) (zg zh) (fun _ _ => rfl)) (yY yZ))))) (zf (zz (YE Yy))) zI)
      (zf (zz (yJ Xl zbc rfl T.z_int WP (za (edv 0) zd))))))
noncomputable def yC : SE → Ctl :=
  (zY (yP false 2 (yz (zc2 ZB (zc 1) (zb (eC (.str " ")) zn))))
    (zY (yP false 3 (yz (fLC (iOf (eSl slD (zc 2) (yt (eC (.int 1))) yr)) b1 zP (zm 1 yA (zb (zc 0) zn)))))
    (zY (sIf (x6 (tOf (zj neD (zj ixD (zc 2) (eC (.int 0))) (zc 0))) (tOf (zj inD (eC .non) (zc 3)))) (yn (eC .non)) zE)
    (yn (eFn zJ (zb (zc 3) zn))))))
noncomputable def zR : List D → Option D := fnD 4 yC
theorem zag (ns : List Int) : inD .non (.lst (ns.map .int)) = some (.bl false) := by
  show (zdL .non (ns.map .int)).map D.bl = _
  unfold zdL
  rw [if_pos ⟨rfl, by rw [List.all_map, List.all_eq_true]; exact fun _ _ => rfl⟩]
  show some (D.bl _) = _
  congr 2
  rw [List.any_map, List.any_eq_false]
  intro x _
  exact Bool.false_ne_true
theorem zfr : neD (.str (Str.ofString "web")) (.str (Str.ofString "web")) = some (.bl false) := by kernel_rfl
theorem zfl : neD (.str (Str.ofString "tie")) (.str (Str.ofString "heap")) = some (.bl true) := by kernel_rfl
theorem zeR : neD (.str (Str.ofString "tie")) (.str (Str.ofString "tie")) = some (.bl false) := by kernel_rfl
theorem zeT : neD (.str (Str.ofString "heap")) (.str (Str.ofString "heap")) = some (.bl false) := by kernel_rfl
theorem vU {w v : Str} {ns : List Int} {c : Bool} (hw : vt w) (hn : wC ns) (hc : neD (.str w) (.str v) = some (.bl c)) : zR [.str v, .str (yp w ns)] = some (if c = true then .non else .tup (ns.map .int)) := by
  have hl := YK hw hn
  have hf := hn.few
  refine XW (ρ := [.v (.str v), .v (.str (yp w ns)), .no, .no]) rfl ?_
  unfold yC
  refine zy (ρ' := [.v (.str v), .v (.str (yp w ns)), .v (.lst ((w :: ns.map nS).map .str)), .no]) (XZ (v0 ?_)) ?_
  · show ZB (.str (yp w ns)) (.str (Str.ofString " ")) = _
    show (if ((Str.ofString " ").length == 0) = false ∧ (yp w ns).length ≤ 100000 ∧ (Txt.split (yp w ns) (Str.ofString " ")).length ≤ 100000 then some ((Txt.split (yp w ns) (Str.ofString " ")).map D.str) else none) = _
    rw [W7 hw hn]
    exact if_pos ⟨by decide, by omega, by rw [List.length_cons, List.length_map]; omega⟩
  refine zy (ρ' := [.v (.str v), .v (.str (yp w ns)), .v (.lst ((w :: ns.map nS).map .str)), .v (.lst (ns.map .int))]) (XZ (v0 ?_)) ?_
  · have ecut : ZT ((w :: ns.map nS).map D.str) (some 1) none = (ns.map nS).map D.str := by
      have e1 : HT.sIx ((w :: ns.map nS).map D.str).length 0 (some 1) = 1 := by
        rw [show (1 : Int) = ((1 : Nat) : Int) from rfl, HT.sIx_nat, List.length_map, List.length_cons]
        exact Nat.min_eq_left (by omega)
      unfold ZT
      rw [e1, HT.sIx_none]
      show (((ns.map nS).map D.str).take _) = _
      rw [List.take_of_length_le]
      simp
    have ei : iOf (eSl slD (zc 2) (yt (eC (.int 1))) yr) (visG [.v (.str v), .v (.str (yp w ns)), .v (.lst ((w :: ns.map nS).map .str)), .no]) = some ((ns.map nS).map D.str) := by
      show some (ZT ((w :: ns.map nS).map D.str) (some 1) none) = _
      rw [ecut]
    unfold fLC
    rw [show iOf (eSl slD (zc 2) (yt (eC (.int 1))) yr) (visF [.v (.str v), .v (.str (yp w ns)), .v (.lst ((w :: ns.map nS).map .str)), .no]) = some ((ns.map nS).map D.str) from ei, Option.bind_some, if_pos (wA (by rw [List.length_map, List.length_map]; omega)), List.map_map]
    refine Ye (D.str ∘ nS) D.int ns fun n h => ⟨[some (.str (nS n))], rfl, rfl, ?_⟩
    exact yU (ds := [.str (nS n)]) rfl (zaB (hn.rng n h).1 (hn.rng n h).2)
  have e0 : zj neD (zj ixD (zc 2) (eC (.int 0))) (zc 0) (visG [.v (.str v), .v (.str (yp w ns)), .v (.lst ((w :: ns.map nS).map .str)), .v (.lst (ns.map .int))]) = some (.bl c) := zT (x := .str w) (y := .str v) (zT (x := .lst ((w :: ns.map nS).map .str)) (y := .int 0) rfl rfl (zbZ (by decide) rfl)) rfl hc
  cases c with
  | true =>
    refine xJ (YJ (c := true) (zfm (b := true) (c := false) (YI e0) (YI (zT (x := .non) (y := .lst (ns.map .int)) rfl rfl (zag ns)))) (fun _ => Zc rfl rfl) (fun z => by cases z))
  | false =>
    refine xJ (YJ (c := false) (WG (YI e0) (YI (zT (x := .non) (y := .lst (ns.map .int)) rfl rfl (zag ns)))) (fun z => by cases z) (fun _ => Zf rfl ?_))
    exact Zc rfl rfl
theorem x3 (T : Txt K mg ad) : xx P w K mg base CX0 2 ad.f_numbers_behind ad.e_numbers_behind ["word", "row"] (@spD ⟨K⟩ 2 zR) := by
  letI : KK := ⟨K⟩
  have G_number_written := Ym (P := P) (w := w) (base := base) T
  refine xy (N := ["word", "row", "words", "numbers"]) (ps := ["word", "row"]) T.d_numbers_behind.fn y3 (g := yC) fun cdv A outer s H E hr => ?_
  unfold yC
  exact (ze (yy (m := false) (i := 2) y3.nd rfl (Or.inl rfl) (vi (WM (edv 1) (za (yY yZ) zd) (fun a b => Zr PySem.F.plainAttrs_str PySem.F.slot_str_split PySem.F.type_str_split WQ a b))))
      (ze (zaf (m := false) (i := 3) (zas (L := ["part"]) (M := ["word", "row", "words", "numbers"]) y3.nd rfl (Or.inl rfl) rfl (Y6 (by rfl) (by rfl) (by rfl) (by with_unfolding_all rfl) (by rfl) (by rfl) (by kernel_rfl) vI) (YW (Xf (edv 2) (Wt (zg zh)) X8)) gs1 rb1 (fun _ _ _ _ => (zM (i := 0) zeZ rfl (Or.inl rfl) (.inr rfl))) (fun _ _ _ _ => (zk G_number_written hr rfl T.d_number_written (za (edv 0) zd)))))
      (ze (yV (Vi (Zp (ym ZL vW (zS _) (xL (edv 2) (zg zh) (fun _ _ => rfl)) (edv 0)) (vZ (ym (zel hr) zdP (by with_unfolding_all rfl) (YE Yy) (edv 3))))) (zf (zz (YE Yy))) zI)
      (zf (zz (yJ wl Y4 rfl T.z_tuple xz (za (edv 3) zd)))))))
noncomputable def wf : SE → Ctl :=
  (zY (yP false 1 (zm 2 zR (zb (eC (.str "web")) (zb (zc 0) zn))))
    (zY (sIf (x6 (tOf (zj vv (zc 1) (eC .non))) (x6 (tOf (zj neD (eFn wK (zb (zc 1) zn)) (eC (.int 1)))) (zO (tOf (zm 1 zH (zb (zj ixD (zc 1) (eC (.int 0))) zn)))))) sNo zE)
    (yn (zj ixD (zc 1) (eC (.int 0))))))
noncomputable def wg : List D → Option D := fnD 2 wf
theorem zcs {m : Int} {ts : List Tie} {h : List Int} (A : wE m ts h) : wg [.str (yp (Str.ofString "web") [m])] = some (.int m) := by
  have hm1 := A.ok.lo
  have hm8 := A.ok.hi
  refine XW (ρ := [.v (.str (yp (Str.ofString "web") [m])), .no]) rfl ?_
  unfold wf
  refine zy (ρ' := [.v (.str (yp (Str.ofString "web") [m])), .v (.tup [.int m])]) (xZ (ds := [_, _]) rfl (vU (c := false) zbh A.nW zfr)) ?_
  have ep : zH [.int m] = some (.bl true) := by
    show some (D.bl (yg (.int m) 1 8)) = _
    show some (D.bl (decide (1 ≤ m) && decide (m ≤ 8))) = _
    rw [decide_eq_true hm1, decide_eq_true hm8]
    rfl
  refine xJ (YJ (c := false) (WG rfl (WG rfl (Xy (b := true) (YI (yU (ds := [.int m]) rfl ep))))) (fun z => by cases z) (fun _ => Zf rfl ?_))
  exact Zc rfl rfl
theorem Xm (T : Txt K mg ad) : xx P w K mg base CX0 4 ad.f_many_read ad.e_many_read ["row"] (@spD ⟨K⟩ 1 wg) := by
  letI : KK := ⟨K⟩
  have G_is_place_count := x4 (P := P) (w := w) (base := base) T
  have G_numbers_behind := x3 (P := P) (w := w) (base := base) T
  refine xy (N := ["row", "numbers"]) (ps := ["row"]) T.d_many_read.fn Ys (g := wf) fun cdv A outer s H E hr => ?_
  unfold wf
  exact (ze (yy (m := false) (i := 1) Ys.nd rfl (Or.inl rfl) (zk G_numbers_behind hr rfl T.d_numbers_behind (za (yY yZ) (za (edv 0) zd))))
      (ze (yV (Vi (Zp (ym WL Xd (zS _) (edv 1) (YE Yy)) (Zp (ym ZL vW (zS _) (yo yl vz rfl T.z_len v5 (za (edv 1) zd)) (zg zh)) (vZ (xu (y0 (zk G_is_place_count hr rfl T.d_is_place_count (za (xL (edv 1) (zg zh) (fun _ _ => rfl)) zd)))))))) (zf xP) zI)
      (zf (zz (xL (edv 1) (zg zh) (fun _ _ => rfl))))))
noncomputable def w6 : SE → Ctl :=
  (zY (yP false 5 (zm 2 zR (zb (eC (.str "heap")) (zb (zc 4) zn))))
    (sIf (tOf (zj vv (zc 5) (eC .non))) (zY (yP false 2 (wj (zb (zj ixD (zc 2) (eC (.int 0))) (zb (zj xa (zj ixD (zc 2) (eC (.int 1))) (wj (zb (zm 2 zR (zb (eC (.str "tie")) (zb (zc 4) zn))) zn))) zn))))
    (sIf (zO (tOf (zm 1 wx (zb (zc 2) zn)))) sNo zE)) (sIf (zO (tOf (zm 2 yb (zb (zc 2) (zb (zc 5) zn))))) sNo (sIf (tOf (zj ltD (zc 3) (eFn wK (zb (zc 1) zn)))) sNo (yn (wj (zb (zc 2) (zb (zc 5) zn))))))))
noncomputable def WF : SE → Ctl :=
  (zY (sIf (zO (tOf (eUn (zN .str) (zc 0)))) sNo zE)
    (zY (yP false 1 (yz (zc2 ZB (zc 0) (zb (eC (.str "\n")) zn))))
    (zY (yP false 2 (wj (zb (zm 1 wg (zb (zj ixD (zc 1) (eC (.int 0))) zn)) (zb (wj zn) zn))))
    (zY (wF (zff (zb (eSl slD (zc 1) (yt (eC (.int 1))) yr) zn)) (vj 2 (yf (zZ 3) (yf (zZ 4) vq))) w6)
    sNo))))
noncomputable def Vv : List D → Option D := fnD 6 WF
theorem za4 {m : Int} {ts : List Tie} (ok : Zq m ts) (k : Nat) : Zq m (ts.take k) := ⟨ok.lo, ok.hi, fun t ht => ok.rng t (List.mem_of_mem_take ht), ok.srt.sublist (List.take_sublist k ts)⟩
theorem Vm {m : Int} {ts : List Tie} (ok : Zq m ts) : wx [yI m ts] = some (.bl true) := by
  have hw : wz (yI m ts) = true := (vb _).mpr ⟨_, _, rfl, ok⟩
  show (if noS (yI m ts) = true then some (D.bl (wz (yI m ts))) else none) = _
  rw [if_pos (zaE m ts), hw]
theorem Wg {m : Int} {ts : List Tie} {h : List Int} (A : wE m ts h) : yb [yI m ts, .tup (h.map .int)] = some (.bl true) := by
  show (if (noS (.tup (h.map .int)) && decide (m ≤ 1000)) = true then some (D.bl (wN m (.tup (h.map .int)))) else none) = _
  rw [WV, Xq A.ok, Zy A.len A.nn A.sum]
  rfl
noncomputable def Yo (t : Tie) : Str := yp (Str.ofString "tie") [t.1, t.2]
theorem zbl {m : Int} {ts us : List Tie} {h : List Int} {t : Tie} {T L : D} {k : Int} {o5 : Sl} {N B C : SE → Prop} {R : D → Prop} (A : wE m ts h) (ht : t ∈ ts) (hl : us.length ≤ 28) (ok : Zq m (us ++ [t])) (q : ∀ o5, N [.v T, .v L, .v (yI m (us ++ [t])), .v (.int k), .v (.str (Yo t)), o5]) :
    (w6 [.v T, .v L, .v (yI m us), .v (.int k), .v (.str (Yo t)), o5]).w N B C R := by
  unfold w6
  refine zy (ρ' := [.v T, .v L, .v (yI m us), .v (.int k), .v (.str (Yo t)), .v .non]) (xZ (ds := [_, _]) rfl (vU (c := true) V8 (A.nT ht) zfl)) ?_
  refine YJ (c := true) (YI (zT (x := .non) (y := .non) rfl rfl rfl)) (fun _ => ?_) (fun z => by cases z)
  have e2 : zm 2 zR (zb (eC (.str "tie")) (zb (zc 4) zn)) (visG [.v T, .v L, .v (yI m us), .v (.int k), .v (.str (Yo t)), .v .non]) = some (zu t) := yU (ds := [.str (Str.ofString "tie"), .str (Yo t)]) rfl (vU (c := false) V8 (A.nT ht) zeR)
  have e3 : xa (.tup (us.map zu)) (.tup [zu t]) = some (.tup ((us ++ [t]).map zu)) := by
    rw [zbB (by rw [List.length_map]; show _ + 1 ≤ 1000; omega), List.map_append]
    rfl
  refine zy (ρ' := [.v T, .v L, .v (yI m (us ++ [t])), .v (.int k), .v (.str (Yo t)), .v .non]) (XZ (zaT (ds := [.int m, .tup ((us ++ [t]).map zu)]) (zG rfl (zG (zT (x := .tup (us.map zu)) (y := .tup [zu t]) rfl (zaT (ds := [zu t]) (zG e2 yX) (by show 1 ≤ 1000; decide)) e3) yX)) (by show 2 ≤ 1000; decide))) ?_
  exact YJ (c := false) (Xy (b := true) (YI (yU (ds := [yI m (us ++ [t])]) rfl (Vm ok)))) (fun z => by cases z) (fun _ => Zf rfl (q _))
theorem V2 {m : Int} {ts : List Tie} {h : List Int} {T : D} {ls : List D} {k : Int} {o5 : Sl} {N B C : SE → Prop} (A : wE m ts h) (hk : k = (ls.length : Int)) :
    (w6 [.v T, .v (.lst ls), .v (yI m ts), .v (.int k), .v (.str (yp (Str.ofString "heap") h)), o5]).w N B C (fun d => d = .tup [yI m ts, .tup (h.map .int)]) := by
  unfold w6
  refine zy (ρ' := [.v T, .v (.lst ls), .v (yI m ts), .v (.int k), .v (.str (yp (Str.ofString "heap") h)), .v (.tup (h.map .int))]) (xZ (ds := [_, _]) rfl (vU (c := false) Xx A.nH zeT)) ?_
  refine YJ (c := false) (YI (zT (x := .tup (h.map .int)) (y := .non) rfl rfl rfl)) (fun z => by cases z) (fun _ => ?_)
  refine YJ (c := false) (Xy (b := true) (YI (yU (ds := [yI m ts, .tup (h.map .int)]) rfl (Wg A)))) (fun z => by cases z) (fun _ => ?_)
  refine YJ (c := false) (YI (zT (x := .int k) (y := .int (ls.length : Int)) rfl (VV (ds := [.lst ls]) rfl rfl) ?_)) (fun z => by cases z) (fun _ => Zc rfl rfl)
  show some (D.bl (decide (k < (ls.length : Int)))) = _
  rw [decide_eq_false (by omega)]
theorem zcI {m : Int} {ts : List Tie} {h : List Int} (A : wE m ts h) : Vv [.str (xX m ts h)] = some (.tup [yI m ts, .tup (h.map .int)]) := by
  have hf := A.few
  have hc := A.count
  have hsh := A.short
  have esp : ZB (.str (xX m ts h)) (.str (Str.ofString "\n")) = some ((wt m ts h).map .str) := by
    show (if ((Str.ofString "\n").length == 0) = false ∧ (xX m ts h).length ≤ 100000 ∧ (Txt.split (xX m ts h) (Str.ofString "\n")).length ≤ 100000 then some ((Txt.split (xX m ts h) (Str.ofString "\n")).map D.str) else none) = _
    rw [A.split]
    exact if_pos ⟨by decide, by omega, by omega⟩
  obtain ⟨T, hT⟩ : ∃ T, xX m ts h = T := ⟨_, rfl⟩
  rw [hT] at esp
  rw [hT]
  have erow : wt m ts h = yp (Str.ofString "web") [m] :: (ts.map Yo ++ [yp (Str.ofString "heap") h]) := rfl
  obtain ⟨R, hR⟩ : ∃ R, ts.map Yo ++ [yp (Str.ofString "heap") h] = R := ⟨_, rfl⟩
  rw [hR] at erow
  have hRl : R.length = ts.length + 1 := by rw [← hR, List.length_append, List.length_map]; rfl
  rw [erow] at esp
  refine XW (ρ := [.v (.str T), .no, .no, .no, .no, .no]) rfl ?_
  unfold WF
  refine xJ (YJ (c := false) rfl (fun z => by cases z) (fun _ => Zf rfl ?_))
  obtain ⟨ls, hls⟩ : ∃ ls, (yp (Str.ofString "web") [m] :: R).map D.str = ls := ⟨_, rfl⟩
  have hll : ls.length = ts.length + 2 := by rw [← hls, List.length_map, List.length_cons, hRl]
  rw [hls] at esp
  refine zy (ρ' := [.v (.str T), .v (.lst ls), .no, .no, .no, .no]) (XZ (v0 esp)) ?_
  have e0 : L2.atI ls 0 = some (.str (yp (Str.ofString "web") [m])) := by rw [← hls]; exact zbZ (by decide) rfl
  have e1 : zm 1 wg (zb (zj ixD (zc 1) (eC (.int 0))) zn) (visG [.v (.str T), .v (.lst ls), .no, .no, .no, .no]) = some (.int m) := yU (ds := [.str (yp (Str.ofString "web") [m])]) (zG (zT (x := .lst ls) (y := .int 0) rfl rfl e0) yX) (zcs A)
  refine zy (ρ' := [.v (.str T), .v (.lst ls), .v (yI m []), .no, .no, .no]) (XZ (zaT (ds := [.int m, .tup []]) (zG e1 (zG rfl yX)) (by show 2 ≤ 1000; decide))) ?_
  have ecut : ZT ls (some 1) none = R.map D.str := by
    have i1 : HT.sIx ls.length 0 (some 1) = 1 := by
      rw [show (1 : Int) = ((1 : Nat) : Int) from rfl, HT.sIx_nat, hll]
      exact Nat.min_eq_left (by omega)
    unfold ZT
    rw [i1, HT.sIx_none, ← hls]
    show ((R.map D.str).take _) = _
    rw [List.take_of_length_le]
    simp
  have eit : ∀ o2 o3 o4 o5 : Sl, zff (zb (eSl slD (zc 1) (yt (eC (.int 1))) yr) zn) (visG [.v (.str T), .v (.lst ls), o2, o3, o4, o5]) = some (vS 2 (R.map .str)) := fun o2 o3 o4 o5 => by
    show some (vS 2 (ZT ls (some 1) none)) = _
    rw [ecut]
  refine xJ (Wb (ds := vS 2 (R.map .str)) (fun i ρ => i ≤ ts.length ∧ ∃ o3 o4 o5, ρ = [.v (.str T), .v (.lst ls), .v (yI m (ts.take i)), o3, o4, o5]) (eit (.v (yI m [])) .no .no .no) ⟨Nat.zero_le _, .no, .no, .no, rfl⟩ ?_ ?_)
  · rintro i d ρ hd ⟨hi, o3, o4, o5, rfl⟩
    rw [x8, List.getElem?_map] at hd
    obtain ⟨dd, hdd, rfl⟩ := Option.map_eq_some_iff.mp hd
    obtain ⟨r, hr, rfl⟩ := Option.map_eq_some_iff.mp hdd
    refine ⟨[.v (.str T), .v (.lst ls), .v (yI m (ts.take i)), .v (.int ((2 + i : Nat) : Int)), .v (.str r), o5], rfl, ?_⟩
    by_cases c : i < ts.length
    · have ht : ts[i]? = some ts[i] := List.getElem?_eq_getElem c
      have er : r = Yo ts[i] := by
        rw [← hR, List.getElem?_append_left (by rw [List.length_map]; exact c), List.getElem?_map, ht] at hr
        exact (Option.some.inj hr).symm
      subst er
      have etk : ts.take (i + 1) = ts.take i ++ [ts[i]] := by rw [List.take_add_one, ht]; rfl
      refine zbl A (List.getElem_mem c) (by rw [List.length_take]; omega) (by rw [← etk]; exact za4 A.ok _) fun o5 => ⟨c, _, _, _, by rw [etk]⟩
    · have ei : i = ts.length := by omega
      subst ei
      have er : r = yp (Str.ofString "heap") h := by
        rw [← hR, List.getElem?_append_right (by rw [List.length_map]; exact Nat.le_refl _), List.length_map, Nat.sub_self] at hr
        exact (Option.some.inj hr).symm
      subst er
      rw [List.take_length]
      exact V2 A (by rw [hll]; omega)
  · rintro ρ ⟨hi, _⟩
    rw [xj, List.length_map, hRl] at hi
    omega
theorem zcF (T : Txt K mg ad) : xx P w K mg base CX0 7 ad.f_read ad.e_read ["text"] (@spD ⟨K⟩ 1 Vv) := by
  letI : KK := ⟨K⟩
  have G_is_web := XT (P := P) (w := w) (base := base) T
  have G_are_stones := vL (P := P) (w := w) (base := base) T
  have G_numbers_behind := x3 (P := P) (w := w) (base := base) T
  have G_many_read := Xm (P := P) (w := w) (base := base) T
  refine xy (N := ["text", "rows", "web", "number", "row", "heap"]) (ps := ["text"]) T.d_read.fn vx (g := WF) fun cdv A outer s H E hr => ?_
  unfold WF w6
  exact (ze (yV (xu (y0 (zA .str rfl T.z_isinstance (edv 0) (ye (v := .ty "str") rfl T.z_str Yx rfl)))) (zf xP) zI)
      (ze (yy (m := false) (i := 1) vx.nd rfl (Or.inl rfl) (vi (WM (edv 0) (za (yY yZ) zd) (fun a b => Zr PySem.F.plainAttrs_str PySem.F.slot_str_split PySem.F.type_str_split WQ a b))))
      (ze (yy (m := false) (i := 2) vx.nd rfl (Or.inl rfl) (YF (za (zk G_many_read hr rfl T.d_many_read (za (xL (edv 1) (zg zh) (fun _ _ => rfl)) zd)) (za (YF zd) zd))))
      (ze (Zv PassesOwn.never rfl (zdB rfl T.z_enumerate wI (za (Xf (edv 1) (Wt (zg zh)) X8) zd)) (XS rfl (y9 (yM (zM (i := 3) vx.nd rfl (Or.inl rfl))) (y9 (yM (zM (i := 4) vx.nd rfl (Or.inl rfl))) Zb))) (ze (yy (m := false) (i := 5) vx.nd rfl (Or.inl rfl) (zk G_numbers_behind hr rfl T.d_numbers_behind (za (yY yZ) (za (edv 4) zd))))
      (zf (yV (ym WL Xd (zS _) (edv 5) (YE Yy)) (ze (yy (m := false) (i := 2) vx.nd rfl (Or.inl rfl) (YF (za (xL (edv 2) (zg zh) (fun _ _ => rfl)) (za (yh (xL (edv 2) (zg zh) (fun _ _ => rfl)) (YF (za (zk G_numbers_behind hr rfl T.d_numbers_behind (za (yY yZ) (za (edv 4) zd))) zd))) zd))))
      (zf (yV (xu (y0 (zk G_is_web hr rfl T.d_is_web (za (edv 2) zd)))) (zf xP) zI))) (zf (yV (xu (y0 (zk G_are_stones hr rfl T.d_are_stones (za (edv 2) (za (edv 5) zd))))) (zf xP) (zf (yV (ym zdF yK (zS _) (edv 3) (yo yl vz rfl T.z_len v5 (za (edv 1) zd))) (zf xP) (zf (zz (YF (za (edv 2) (za (edv 5) zd)))))))))))))
      (zf xP)))))
noncomputable def wn : SE → Ctl :=
  (wO false 3 (zj xa (zj xa (zj xa (eC (.str "tie ")) (eFn Xs (zb (zc 4) zn))) (eC (.str " "))) (eFn Xs (zb (zc 5) zn))))
noncomputable def wm : SE → Ctl :=
  (zY (vh 3 (zF (zb (zj xa (eC (.str "web ")) (eFn Xs (zb (zj ixD (zc 0) (eC (.int 0))) zn))) zn)))
    (zY (wF (iOf (zj ixD (zc 0) (eC (.int 1)))) (vj 2 (yf (zZ 4) (yf (zZ 5) vq))) wn)
    (sFz 3 (yn (Y1 Z3 (zc 2) (zb (zj xa (zc 3) (yz (zF (zb (Y1 Z3 (eC (.str " ")) (zb (zj xa (yz (zF (zb (eC (.str "heap")) zn))) (yz (fLC (iOf (zc 1)) b1 zP (eFn Xs (zb (zc 0) zn))))) zn)) zn)))) zn))))))
noncomputable def vB : List D → Option D := fnD 6 wm
theorem zc7 (w : Str) (n : Int) : yp w [n] = w ++ Str.ofString " " ++ nS n := StrLaws.glued_eq_join _ _
theorem zcp (w : Str) (a b : Int) : yp w [a, b] = w ++ Str.ofString " " ++ (nS a ++ Str.ofString " " ++ nS b) := StrLaws.glued_eq_join _ _
theorem zdp : Str.ofString "web " = Str.ofString "web" ++ Str.ofString " " := by decide
theorem zdy : Str.ofString "tie " = Str.ofString "tie" ++ Str.ofString " " := by decide
theorem YT {a b : Str} (h : a.length + b.length ≤ 1000) : xa (.str a) (.str b) = some (.str (a ++ b)) := by
  show (if lim (a.length + b.length) = true then _ else none) = _
  rw [if_pos (wA h)]
theorem Wh (a b : Str) : (a ++ b).length = a.length + b.length := by
  show (a.cps ++ b.cps).size = _
  rw [Array.size_append]
  rfl
theorem zaA : (Str.ofString " ").length = 1 := by decide
theorem ZV : (Str.ofString "tie ").length = 4 := by decide
theorem V1 : (Str.ofString "web ").length = 4 := by decide
theorem za6 {t : Tie} (hn : wC [t.1, t.2]) {ρ : Ev} (h4 : zc 4 ρ = some (.int t.1)) (h5 : zc 5 ρ = some (.int t.2)) : zj xa (zj xa (zj xa (eC (.str "tie ")) (eFn Xs (zb (zc 4) zn))) (eC (.str " "))) (eFn Xs (zb (zc 5) zn)) ρ = some (.str (Yo t)) := by
  have r1 := hn.rng t.1 (.head _)
  have r2 := hn.rng t.2 (.tail _ (.head _))
  have l1 := (W4 r1.1 r1.2).2
  have l2 := (W4 r2.1 r2.2).2
  have s1 : eFn Xs (zb (zc 4) zn) ρ = some (.str (nS t.1)) := VV (ds := [.int t.1]) (zG h4 yX) (ZN r1.1 r1.2)
  have s2 : eFn Xs (zb (zc 5) zn) ρ = some (.str (nS t.2)) := VV (ds := [.int t.2]) (zG h5 yX) (ZN r2.1 r2.2)
  have a1 := YT (a := Str.ofString "tie ") (b := nS t.1) (by rw [ZV]; omega)
  have a2 := YT (a := Str.ofString "tie " ++ nS t.1) (b := Str.ofString " ") (by rw [Wh, ZV, zaA]; omega)
  have a3 := YT (a := Str.ofString "tie " ++ nS t.1 ++ Str.ofString " ") (b := nS t.2) (by rw [Wh, Wh, ZV, zaA]; omega)
  have e : Yo t = Str.ofString "tie " ++ nS t.1 ++ Str.ofString " " ++ nS t.2 := by
    unfold Yo
    rw [zcp, zdy]
    simp only [Str.append_assoc]
  rw [e]
  exact zT (zT (zT (x := .str (Str.ofString "tie ")) rfl s1 a1) (y := .str (Str.ofString " ")) rfl a2) s2 a3
theorem zcT {m : Int} {ts : List Tie} {h : List Int} (A : wE m ts h) : vB [yI m ts, .tup (h.map .int), .str (Str.ofString "\n")] = some (.str (xX m ts h)) := by
  have hf := A.few
  have r1 := A.nW.rng m (.head _)
  have l1 := (W4 r1.1 r1.2).2
  refine XW (ρ := [.v (yI m ts), .v (.tup (h.map .int)), .v (.str (Str.ofString "\n")), .no, .no, .no]) rfl ?_
  unfold wm
  have ew : zj xa (eC (.str "web ")) (eFn Xs (zb (zj ixD (zc 0) (eC (.int 0))) zn)) (visF [.v (yI m ts), .v (.tup (h.map .int)), .v (.str (Str.ofString "\n")), .no, .no, .no]) = some (.str (yp (Str.ofString "web") [m])) := by
    have a1 := YT (a := Str.ofString "web ") (b := nS m) (by rw [V1]; omega)
    rw [zc7, ← zdp]
    exact zT (x := .str (Str.ofString "web ")) rfl (VV (ds := [.int m]) rfl (ZN r1.1 r1.2)) a1
  refine zy (ρ' := [.v (yI m ts), .v (.tup (h.map .int)), .v (.str (Str.ofString "\n")), .o ((yp (Str.ofString "web") [m] :: (ts.take 0).map Yo).map .str), .no, .no]) (zc0 (Xb (zG ew yX) (by show 1 ≤ 1000; decide))) ?_
  refine xJ (Wb (ds := ts.map zu) (fun i ρ => ∃ o4 o5, ρ = [.v (yI m ts), .v (.tup (h.map .int)), .v (.str (Str.ofString "\n")), .o ((yp (Str.ofString "web") [m] :: (ts.take i).map Yo).map .str), o4, o5]) rfl ⟨_, _, rfl⟩ ?_ ?_)
  · rintro i d ρ hd ⟨o4, o5, rfl⟩
    rw [List.getElem?_map] at hd
    obtain ⟨t, ht, rfl⟩ := Option.map_eq_some_iff.mp hd
    have hmem := List.mem_of_getElem? ht
    refine ⟨[.v (yI m ts), .v (.tup (h.map .int)), .v (.str (Str.ofString "\n")), .o ((yp (Str.ofString "web") [m] :: (ts.take i).map Yo).map .str), .v (.int t.1), .v (.int t.2)], rfl, ?_⟩
    unfold wn
    refine Zf (zcc (m := false) (i := 3) (d := .str (Yo t)) (ds := (yp (Str.ofString "web") [m] :: (ts.take i).map Yo).map .str) (by unfold vEv; rw [if_neg Bool.false_ne_true]; exact za6 (A.nT hmem) rfl rfl) rfl (by rw [List.length_map, List.length_cons, List.length_map, List.length_take]; omega)) ⟨.v (.int t.1), .v (.int t.2), ?_⟩
    have etk : ts.take (i + 1) = ts.take i ++ [t] := by rw [List.take_add_one, ht]; rfl
    have e : (yp (Str.ofString "web") [m] :: (ts.take (i + 1)).map Yo).map D.str = (yp (Str.ofString "web") [m] :: (ts.take i).map Yo).map D.str ++ [.str (Yo t)] := by
      rw [etk, List.map_append, ← List.cons_append, List.map_append]
      rfl
    rw [e]
    rfl
  · rintro ρ ⟨o4, o5, rfl⟩
    rw [List.length_map, List.take_length]
    refine zeJ (ρ' := [.v (yI m ts), .v (.tup (h.map .int)), .v (.str (Str.ofString "\n")), .v (.lst ((yp (Str.ofString "web") [m] :: ts.map Yo).map .str)), o4, o5]) rfl (Zc (d := .str (xX m ts h)) (vD ?_) rfl)
    have e1 : zj xa (yz (zF (zb (eC (.str "heap")) zn))) (yz (fLC (iOf (zc 1)) b1 zP (eFn Xs (zb (zc 0) zn)))) (visG [.v (yI m ts), .v (.tup (h.map .int)), .v (.str (Str.ofString "\n")), .v (.lst ((yp (Str.ofString "web") [m] :: ts.map Yo).map .str)), o4, o5]) = some (.lst ((Str.ofString "heap" :: h.map nS).map .str)) := by
      refine zT (x := .lst [.str (Str.ofString "heap")]) (y := .lst ((h.map nS).map .str)) rfl (v0 (V7 (WK (d := .tup (h.map .int)) rfl rfl) A.nH)) ?_
      rw [ve (by rw [List.length_map, List.length_map]; have := A.nH.few; show 1 + _ ≤ 1000; omega)]
      rfl
    have e2 : Y1 Z3 (eC (.str " ")) (zb (zj xa (yz (zF (zb (eC (.str "heap")) zn))) (yz (fLC (iOf (zc 1)) b1 zP (eFn Xs (zb (zc 0) zn))))) zn) (visG [.v (yI m ts), .v (.tup (h.map .int)), .v (.str (Str.ofString "\n")), .v (.lst ((yp (Str.ofString "web") [m] :: ts.map Yo).map .str)), o4, o5]) = some (.str (yp (Str.ofString "heap") h)) := by
      unfold Y1
      rw [zG e1 yX]
      exact Wz Xx A.nH
    generalize hE : visG [.v (yI m ts), .v (.tup (h.map .int)), .v (.str (Str.ofString "\n")), .v (.lst ((yp (Str.ofString "web") [m] :: ts.map Yo).map .str)), o4, o5] = E0 at e2
    have e3 : zc 3 E0 = some (.lst ((yp (Str.ofString "web") [m] :: ts.map Yo).map .str)) := by rw [← hE]; rfl
    have e4 : zc 2 E0 = some (.str (Str.ofString "\n")) := by rw [← hE]; rfl
    have e5 : xa (.lst ((yp (Str.ofString "web") [m] :: ts.map Yo).map .str)) (.lst [.str (yp (Str.ofString "heap") h)]) = some (.lst ((wt m ts h).map .str)) := by
      rw [ve (by rw [List.length_map, List.length_cons, List.length_map]; show _ + 1 ≤ 1000; omega)]
      congr 2
      show (yp (Str.ofString "web") [m] :: ts.map Yo).map D.str ++ [yp (Str.ofString "heap") h].map D.str = _
      rw [← List.map_append]
      rfl
    exact zcx e4 (zG (zT e3 (v0 (Xb (zG e2 yX) (by show 1 ≤ 1000; decide))) e5) yX) A.join
theorem XN (T : Txt K mg ad) : xx P w K mg base CX0 1 ad.f__law_text ad.e__law_text ["web", "heap", "between"] (@spD ⟨K⟩ 3 vB) := by
  letI : KK := ⟨K⟩
  refine xy (N := ["web", "heap", "between", "rows", "a", "b"]) (ps := ["web", "heap", "between"]) T.d__law_text.fn xN (g := wm) fun cdv A outer s H E hr => ?_
  unfold wm wn
  exact (ze (zav (i := 3) xN.nd rfl (Or.inl rfl) (wB (za (yh (yY yZ) (yJ xi Y3 rfl T.z_str Yx (za (xL (edv 0) (zg zh) (fun _ _ => rfl)) zd))) zd)))
      (ze (Zv PassesOwn.never rfl (YW (xL (edv 0) (zg zh) (fun _ _ => rfl))) (XS rfl (y9 (yM (zM (i := 4) xN.nd rfl (Or.inl rfl))) (y9 (yM (zM (i := 5) xN.nd rfl (Or.inl rfl))) Zb))) (zf (WC (m := false) (pv 3) (yh (yh (yh (yY yZ) (yJ xi Y3 rfl T.z_str Yx (za (edv 4) zd))) (yY yZ)) (yJ xi Y3 rfl T.z_str Yx (za (edv 5) zd))) (fun a b => Zr PySem.F.plainAttrs_list PySem.F.slot_list_append PySem.F.type_list_append vO a b))))
      (Vw 3 (zf (zz (ZW (edv 2) (za (yh (edv 3) (vi (wB (za (ZW (yY yZ) (za (yh (vi (wB (za (yY yZ) zd))) (vi (Xi (L := ["stones"]) (M := ["web", "heap", "between", "rows", "a", "b"]) rfl (Y6 (by rfl) (by rfl) (by rfl) (by with_unfolding_all rfl) (by rfl) (by rfl) (by kernel_rfl) vI) (YW (edv 1)) gs1 rb1 (fun _ _ _ _ => (zM (i := 0) zeN rfl (Or.inl rfl) (.inr rfl))) (fun _ _ _ _ => (yJ xi Y3 rfl T.z_str Yx (za (edv 0) zd)))))) zd) (fun a b => Zr PySem.F.plainAttrs_str PySem.F.slot_str_join PySem.F.type_str_join ZG a b)) zd)))) zd) (fun a b => Zr PySem.F.plainAttrs_str PySem.F.slot_str_join PySem.F.type_str_join ZG a b)))))))
noncomputable def Wp : SE → Ctl :=
  (sIf (x6 (zO (tOf (zm 2 ww (zb (zm 2 X6 (zb (zc 3) (zb (zc 4) zn))) (zb (zc 5) zn))))) (zO (tOf (zm 2 ww (zb (zm 1 Vv (zb (zc 5) zn)) (zb (wj (zb (zc 3) (zb (zc 4) zn))) zn)))))) (yn (eC (.bl false))) zE)
noncomputable def Z2 : SE → Ctl :=
  (zY (yP false 2 (zj xa (eC (.int 1)) (zj yF (zj zU (zc 1) (eC (.int 64))) (eC (.int 8)))))
    (zY (yP false 3 (zm 2 wv (zb (zc 2) (zb (zj zU (zc 1) (eC (.int 512))) zn))))
    (zY (yP false 4 (zm 3 xW (zb (zc 2) (zb (zj xa (zj xQ (zm 2 zW (zb (zc 1) (zb (eC (.int 9)) zn))) (eC (.int 2))) (zj yF (zc 1) (eC (.int 2)))) (zb (zj ixD (yz (zF (zb (eC (.int 9)) (zb (eC (.int 40)) (zb (eC (.int 300)) zn))))) (zj yF (zj zU (zc 1) (eC (.int 4))) (eC (.int 3)))) zn)))))
    (zY (yP false 5 (zm 3 vB (zb (zc 3) (zb (zc 4) (zb (eC (.str "\n")) zn)))))
    (yq wL (zb (eC (.int 2)) zn) (zZ 6) Wp)))))
noncomputable def za0 : SE → Ctl :=
  (zY (wF (iOf (zj xa (eSl slD (zc 0) yr (yt (eC (.int 10)))) (yz (zF (zb (eC (.int 0)) (zb (eC (.int 7)) (zb (eC (.int 14)) zn))))))) (zZ 1) Z2)
    (yn (eC (.bl true))))
noncomputable def zeq : List D → Option D := fnD 7 za0
theorem zci (s : D) (z : Int) (o2 o3 o4 o5 o6 : Sl) (n b : SE → Prop) (r : D → Prop) (I : SE → Prop) (hI : ∀ o2 o3 o4 o5 o6, I [.v s, .v (.int z), o2, o3, o4, o5, o6]) : (Z2 [.v s, .v (.int z), o2, o3, o4, o5, o6]).w I b n r := by
  obtain ⟨q, hq⟩ : ∃ q : Int, z / 64 % 8 = q := ⟨_, rfl⟩
  obtain ⟨q0, q1⟩ := WT (by decide) hq
  obtain ⟨m, hm⟩ : ∃ m : Int, 1 + q = m := ⟨_, rfl⟩
  have hm8 : 1 ≤ m ∧ m ≤ 8 := by omega
  obtain ⟨ts, ew, hsub⟩ := zal (n := m) (c := z / 512) hm8.1 hm8.2
  obtain ⟨p1, p2, p3⟩ := Xj m.toNat (by omega)
  have ok : Zq m ts := ⟨hm8.1, hm8.2, fun t ht => by have := p2 t (hsub.subset ht); omega, p1.sublist hsub⟩
  obtain ⟨u, hu⟩ : ∃ u : Int, z / 4 % 3 = u := ⟨_, rfl⟩
  obtain ⟨u0, u1⟩ := WT (by decide) hu
  obtain ⟨mo, emo, hmo⟩ : ∃ mo : Int, L2.atI [D.int 9, .int 40, .int 300] u = some (.int mo) ∧ 0 ≤ mo ∧ mo ≤ 300 := by
    have : u = 0 ∨ u = 1 ∨ u = 2 := by omega
    rcases this with rfl | rfl | rfl
    · exact ⟨9, rfl, by decide, by decide⟩
    · exact ⟨40, rfl, by decide, by decide⟩
    · exact ⟨300, rfl, by decide, by decide⟩
  obtain ⟨c2, hc2⟩ : ∃ c : Int, Vg z 9 * 2 + z % 2 = c := ⟨_, rfl⟩
  obtain ⟨hs, eh, hl, hn, hsum⟩ := Vd (n := m) (c := c2) (mo := mo) (by omega) (by omega) hmo.1 (by omega)
  have A : wE m ts hs := ⟨ok, Nat.le_trans hsub.length_le p3, hl, hn, by omega⟩
  unfold Z2
  refine zy (ρ' := [.v s, .v (.int z), .v (.int m), o3, o4, o5, o6]) (XZ (zT (x := .int 1) (y := .int q) rfl (zT (x := .int (z / 64)) (y := .int 8) (zT (x := .int z) (y := .int 64) rfl rfl (v8 (by decide) (by decide))) rfl (by rw [xI (by decide), hq])) (by rw [zp, hm]))) ?_
  refine zy (ρ' := [.v s, .v (.int z), .v (.int m), .v (yI m ts), o4, o5, o6]) (xZ (ds := [.int m, .int (z / 512)]) (zG rfl (zG (zT (x := .int z) (y := .int 512) rfl rfl (v8 (by decide) (by decide))) yX)) ew) ?_
  have m1 : xQ (.int (Vg z 9)) (.int 2) = some (.int (Vg z 9 * 2)) := by
    show (if v9 (Vg z 9) 2 = true then _ else none) = _
    rw [if_pos (show v9 (Vg z 9) 2 = true from decide_eq_true (.inr ⟨by decide, by decide⟩))]
  refine zy (ρ' := [.v s, .v (.int z), .v (.int m), .v (yI m ts), .v (.tup (hs.map .int)), o5, o6]) (xZ (ds := [.int m, .int c2, .int mo]) (zG rfl (zG (zT (x := .int (Vg z 9 * 2)) (y := .int (z % 2)) (zT (x := .int (Vg z 9)) (y := .int 2) rfl rfl m1) (zT (x := .int z) (y := .int 2) rfl rfl (xI (by decide))) (by rw [zp, hc2])) (zG (zT (x := .lst [.int 9, .int 40, .int 300]) (y := .int u) rfl (zT (x := .int (z / 4)) (y := .int 3) (zT (x := .int z) (y := .int 4) rfl rfl (v8 (by decide) (by decide))) rfl (by rw [xI (by decide), hu])) emo) yX))) eh) ?_
  refine zy (ρ' := [.v s, .v (.int z), .v (.int m), .v (yI m ts), .v (.tup (hs.map .int)), .v (.str (xX m ts hs)), o6]) (xZ (ds := [yI m ts, .tup (hs.map .int), .str (Str.ofString "\n")]) rfl (zcT A)) ?_
  refine zaF (lo := 0) (c := 2) (fun _ ρ => ∃ o6 : Sl, ρ = [.v s, .v (.int z), .v (.int m), .v (yI m ts), .v (.tup (hs.map .int)), .v (.str (xX m ts hs)), o6]) (show wL [.int 2] = some (Zj 0 2) from Ya (by decide) (by decide)) ⟨_, rfl⟩ ?_ ?_
  · rintro i ρ hi ⟨o6, rfl⟩
    refine ⟨[.v s, .v (.int z), .v (.int m), .v (yI m ts), .v (.tup (hs.map .int)), .v (.str (xX m ts hs)), .v (.int ((0 : Int) + (i : Int)))], rfl, ?_⟩
    unfold Wp
    have k2 : okE 5 (.tup [yI m ts, .tup (hs.map .int)]) = true := by
      show (okE 4 (yI m ts) && (okE 4 (.tup (hs.map .int)) && true)) = true
      have k3 : okE 4 (yI m ts) = true := by
        show (true && ((ts.map zu).all (okE 2) && true)) = true
        have : (ts.map zu).all (okE 2) = true := by rw [List.all_map, List.all_eq_true]; exact fun _ _ => rfl
        rw [this]
        rfl
      have k4 : okE 4 (.tup (hs.map .int)) = true := by
        show (hs.map D.int).all (okE 3) = true
        rw [List.all_map, List.all_eq_true]
        exact fun _ _ => rfl
      rw [k3, k4]
      rfl
    refine YJ (c := false) (WG (Xy (b := true) (YI (yU (ds := [.str (xX m ts hs), .str (xX m ts hs)]) (zG (yU (ds := [yI m ts, .tup (hs.map .int)]) rfl (zbg A)) (zG rfl yX)) (zb4 rfl)))) (Xy (b := true) (YI (yU (ds := [.tup [yI m ts, .tup (hs.map .int)], .tup [yI m ts, .tup (hs.map .int)]]) (zG (yU (ds := [.str (xX m ts hs)]) rfl (zcI A)) (zG rfl yX)) (zb4 k2))))) (fun z => by cases z) (fun _ => Zf rfl ⟨_, rfl⟩)
  · rintro ρ ⟨o6, rfl⟩
    exact hI _ _ _ _ _
theorem zco {a b : List D} (h : a.length + b.length ≤ 1000) : xa (.lst a) (.lst b) = some (.lst (a ++ b)) := by
  show (if lim (a.length + b.length) = true then _ else none) = _
  rw [if_pos (wA h)]
theorem zbo (ns : List Int) (h : ns.length ≤ 63) : zeq [.scr ns] = some (.bl true) := by
  refine XW (ρ := [.v (.scr ns), .no, .no, .no, .no, .no, .no]) rfl ?_
  unfold za0
  obtain ⟨xs, hxs⟩ : ∃ xs : List Int, (ZT ns none (some 10)) ++ [0, 7, 14] = xs := ⟨_, rfl⟩
  have hl : ((ZT ns none (some 10)).map D.int).length + 3 ≤ 1000 := by rw [List.length_map]; have := zbi ns none (some 10); omega
  refine xJ (Wb (ds := xs.map .int) (fun i ρ => ∃ o1 o2 o3 o4 o5 o6, ρ = [.v (.scr ns), o1, o2, o3, o4, o5, o6]) ?_ ⟨_, _, _, _, _, _, rfl⟩ ?_ ?_)
  · refine WK (d := .lst (xs.map .int)) (zT (x := .lst ((ZT ns none (some 10)).map D.int)) (y := .lst [.int 0, .int 7, .int 14]) rfl rfl ?_) rfl
    rw [zco hl, ← hxs, List.map_append]
    rfl
  · rintro i d ρ hd ⟨o1, o2, o3, o4, o5, o6, rfl⟩
    rw [List.getElem?_map] at hd
    obtain ⟨z, hz, rfl⟩ := Option.map_eq_some_iff.mp hd
    exact ⟨_, rfl, zci _ _ _ _ _ _ _ _ _ _ _ fun _ _ _ _ _ => ⟨_, _, _, _, _, _, rfl⟩⟩
  · rintro ρ ⟨o1, o2, o3, o4, o5, o6, rfl⟩
    exact Zc rfl rfl
theorem zdz (T : Txt K mg ad) : xx P w K mg base CX0 20 ad.f_law ad.e_law ["script"] (VU K) := by
  letI : KK := ⟨K⟩
  have G_shown := zbE (P := P) (w := w) (base := base) T
  have G_read := zcF (P := P) (w := w) (base := base) T
  have G__law_stir := wP (P := P) (w := w) (base := base) T
  have G__law_web_by := Zl (P := P) (w := w) (base := base) T
  have G__law_heap_by := Zh (P := P) (w := w) (base := base) T
  have G__law_text := XN (P := P) (w := w) (base := base) T
  have G__law_same := Xo (P := P) (w := w) (base := base) T
  refine (zef (p := zeq) (xy (N := ["script", "cell", "many", "web", "heap", "text", "turn"]) (ps := ["script"]) T.d_law.fn YV (g := za0) fun cdv A outer s H E hr => ?_) zbo).mono (j := 9) (by decide)
  unfold za0 Z2 Wp
  exact (ze (Zv PassesOwn.never rfl (YW (yh (Xf (edv 0) X8 (Wt (zg zh))) (vi (wB (za (zg zh) (za (zg zh) (za (zg zh) zd))))))) (yM (zM (i := 1) YV.nd rfl (Or.inl rfl))) (ze (yy (m := false) (i := 2) YV.nd rfl (Or.inl rfl) (yh (zg zh) (xH (wW (edv 1) (zg zh)) (zg zh))))
      (ze (yy (m := false) (i := 3) YV.nd rfl (Or.inl rfl) (zk G__law_web_by hr rfl T.d__law_web_by (za (edv 2) (za (wW (edv 1) (zg zh)) zd))))
      (ze (yy (m := false) (i := 4) YV.nd rfl (Or.inl rfl) (zk G__law_heap_by hr rfl T.d__law_heap_by (za (edv 2) (za (yh (ZA (zk G__law_stir hr rfl T.d__law_stir (za (edv 1) (za (zg zh) zd))) (zg zh)) (xH (edv 1) (zg zh))) (za (xL (vi (wB (za (zg zh) (za (zg zh) (za (zg zh) zd))))) (xH (wW (edv 1) (zg zh)) (zg zh)) (fun _ _ => rfl)) zd)))))
      (ze (yy (m := false) (i := 5) YV.nd rfl (Or.inl rfl) (zk G__law_text hr rfl T.d__law_text (za (edv 3) (za (edv 4) (za (yY yZ) zd)))))
      (zf (ZU PassesOwn.never rfl rfl T.z_range (za (zg zh) zd) (yM (zM (i := 6) YV.nd rfl (Or.inl rfl))) (zf (yV (Vi (Zp (xu (y0 (zk G__law_same hr rfl T.d__law_same (za (zk G_shown hr rfl T.d_shown (za (edv 3) (za (edv 4) zd))) (za (edv 5) zd))))) (vZ (xu (y0 (zk G__law_same hr rfl T.d__law_same (za (zk G_read hr rfl T.d_read (za (edv 5) zd)) (za (YF (za (edv 3) (za (edv 4) zd))) zd)))))))) (zf (zz (Yb Yg))) zI)))))))))
      (zf (zz (Yb Yg))))
end
theorem ze3 {us : List Value} (h : us.length = 1) : ∃ x0, us = [x0] := by
  cases us with
  | nil => cases h
  | cons x0 us =>
    cases us with
    | nil => exact ⟨x0, rfl⟩
    | cons _ _ => cases h
theorem zfh {us : List Value} (h : us.length = 2) : ∃ x0 x1, us = [x0, x1] := by
  cases us with
  | nil => cases h
  | cons x0 us =>
    cases us with
    | nil => cases h
    | cons x1 us =>
      cases us with
      | nil => exact ⟨x0, x1, rfl⟩
      | cons _ _ => cases h
theorem zeY {us : List Value} (h : us.length = 3) : ∃ x0 x1 x2, us = [x0, x1, x2] := by
  cases us with
  | nil => cases h
  | cons x0 us =>
    cases us with
    | nil => cases h
    | cons x1 us =>
      cases us with
      | nil => cases h
      | cons x2 us =>
        cases us with
        | nil => exact ⟨x0, x1, x2, rfl⟩
        | cons _ _ => cases h
noncomputable abbrev Lk (x : Str) (st : Stmt) (oc : Value) (od : Option Addr) (kV dc pm : Value) (an : Option Addr) (cd ct : Value) (sl : Array (Option Value)) : Option Obj := some ⟨oc, od, .func (PySem.W.fnOf x x (vy st) (xT st) (zi st) .none kV dc pm an cd ct), sl⟩
theorem mkD {K : PySem.W.Frag} {h : Heap} {mg : Str → Option Value} {x : Str} {st : Stmt} {ps : List Str} {f : Addr} {oc kV dc pm cd ct : Value} {od an : Option Addr} {sl : Array (Option Value)} (X : K.In h) (G : h.Ns mainGlobals mg) (a : PySem.W.nsIn K mainGlobals x = some (some (.ref f))) (l : K.lookup f = Lk x st oc od kV dc pm an cd ct sl) (c : PySem.W.codeIn K cd x = true) (k : PySem.W.keepIn K (.ref f) = true)
    (b : ∀ (kV doc pm : Value) (an : Option Addr) (cdv ct : Value) (us : List Value), us.length = ps.length → bindArgs (PySem.W.fnOf x x (vy st) (xT st) (zi st) .none kV doc pm an cdv ct) ⟨us, []⟩ = pure (ps.zip us)) : Def K mg x st ps f (PySem.W.fnOf x x (vy st) (xT st) (zi st) .none kV dc pm an cd ct) := ⟨zb8 l c k, (zb8 l c k).binds b, PySem.W.mg_of X G a⟩
theorem bn1 {F : Value → Value → Value → Option Addr → Value → Value → List Value → Prop} (h : ∀ a b c d e f x0, F a b c d e f [x0]) : ∀ a b c d e f us, us.length = 1 → F a b c d e f us := fun a b c d e f us hl => by obtain ⟨x0, rfl⟩ := ze3 hl; exact h a b c d e f x0
theorem bn2 {F : Value → Value → Value → Option Addr → Value → Value → List Value → Prop} (h : ∀ a b c d e f x0 x1, F a b c d e f [x0, x1]) : ∀ a b c d e f us, us.length = 2 → F a b c d e f us := fun a b c d e f us hl => by obtain ⟨x0, x1, rfl⟩ := zfh hl; exact h a b c d e f x0 x1
theorem bn3 {F : Value → Value → Value → Option Addr → Value → Value → List Value → Prop} (h : ∀ a b c d e f x0 x1 x2, F a b c d e f [x0, x1, x2]) : ∀ a b c d e f us, us.length = 3 → F a b c d e f us := fun a b c d e f us hl => by obtain ⟨x0, x1, x2, rfl⟩ := zeY hl; exact h a b c d e f x0 x1 x2
theorem all_mk {l : PySem.W.OpenLaw} {w : World} {K : PySem.W.Frag} {h : Heap} {mg : Str → Option Value} {fa f0 f1 f2 f3 f4 f5 f6 f7 f8 f9 f10 f11 f12 f13 f14 f15 f16 f17 f18 f19 f20 f21 f22 f23 : Addr} (X : K.In h) (G : h.Ns mainGlobals mg) (hfa : mg "law" = some (.ref fa))
    {od0 an0 od1 an1 od2 an2 od3 an3 od4 an4 od5 an5 od6 an6 od7 an7 od8 an8 od9 an9 od10 an10 od11 an11 od12 an12 od13 an13 od14 an14 od15 an15 od16 an16 od17 an17 od18 an18 od19 an19 od20 an20 od21 an21 od22 an22 od23 an23 : Option Addr} {sl0 sl1 sl2 sl3 sl4 sl5 sl6 sl7 sl8 sl9 sl10 sl11 sl12 sl13 sl14 sl15 sl16 sl17 sl18 sl19 sl20 sl21 sl22 sl23 : Array (Option Value)} {oc0 kV0 dc0 pm0 ct0 cd0 oc1 kV1 dc1 pm1 ct1 cd1 oc2 kV2 dc2 pm2 ct2 cd2 oc3 kV3 dc3 pm3 ct3 cd3 oc4 kV4 dc4 pm4 ct4 cd4 oc5 kV5 dc5 pm5 ct5 cd5 oc6 kV6 dc6 pm6 ct6 cd6 oc7 kV7 dc7 pm7 ct7 cd7 oc8 kV8 dc8 pm8 ct8 cd8 oc9 kV9 dc9 pm9 ct9 cd9 oc10 kV10 dc10 pm10 ct10 cd10 oc11 kV11 dc11 pm11 ct11 cd11 oc12 kV12 dc12 pm12 ct12 cd12 oc13 kV13 dc13 pm13 ct13 cd13 oc14 kV14 dc14 pm14 ct14 cd14 oc15 kV15 dc15 pm15 ct15 cd15 oc16 kV16 dc16 pm16 ct16 cd16 oc17 kV17 dc17 pm17 ct17 cd17 oc18 kV18 dc18 pm18 ct18 cd18 oc19 kV19 dc19 pm19 ct19 cd19 oc20 kV20 dc20 pm20 ct20 cd20 oc21 kV21 dc21 pm21 ct21 cd21 oc22 kV22 dc22 pm22 ct22 cd22 oc23 kV23 dc23 pm23 ct23 cd23 : Value} {tk0 : Tok} {tk1 : Tok} {tk2 : Tok}
    (a0 : PySem.W.nsIn K mainGlobals "is_whole" = some (some (.ref f0))) (l0 : K.lookup f0 = Lk "is_whole" vG oc0 od0 kV0 dc0 pm0 an0 cd0 ct0 sl0) (c0 : PySem.W.codeIn K cd0 "is_whole" = true) (k0 : PySem.W.keepIn K (.ref f0) = true)
    (a1 : PySem.W.nsIn K mainGlobals "is_whole_within" = some (some (.ref f1))) (l1 : K.lookup f1 = Lk "is_whole_within" yR oc1 od1 kV1 dc1 pm1 an1 cd1 ct1 sl1) (c1 : PySem.W.codeIn K cd1 "is_whole_within" = true) (k1 : PySem.W.keepIn K (.ref f1) = true)
    (a2 : PySem.W.nsIn K mainGlobals "is_place_count" = some (some (.ref f2))) (l2 : K.lookup f2 = Lk "is_place_count" y1 oc2 od2 kV2 dc2 pm2 an2 cd2 ct2 sl2) (c2 : PySem.W.codeIn K cd2 "is_place_count" = true) (k2 : PySem.W.keepIn K (.ref f2) = true)
    (a3 : PySem.W.nsIn K mainGlobals "is_place" = some (some (.ref f3))) (l3 : K.lookup f3 = Lk "is_place" vJ oc3 od3 kV3 dc3 pm3 an3 cd3 ct3 sl3) (c3 : PySem.W.codeIn K cd3 "is_place" = true) (k3 : PySem.W.keepIn K (.ref f3) = true)
    (a4 : PySem.W.nsIn K mainGlobals "are_counts" = some (some (.ref f4))) (l4 : K.lookup f4 = Lk "are_counts" wk oc4 od4 kV4 dc4 pm4 an4 cd4 ct4 sl4) (c4 : PySem.W.codeIn K cd4 "are_counts" = true) (k4 : PySem.W.keepIn K (.ref f4) = true)
    (a5 : PySem.W.nsIn K mainGlobals "is_pair" = some (some (.ref f5))) (l5 : K.lookup f5 = Lk "is_pair" Yj oc5 od5 kV5 dc5 pm5 an5 cd5 ct5 sl5) (c5 : PySem.W.codeIn K cd5 "is_pair" = true) (k5 : PySem.W.keepIn K (.ref f5) = true)
    (a6 : PySem.W.nsIn K mainGlobals "are_ties" = some (some (.ref f6))) (l6 : K.lookup f6 = Lk "are_ties" vE oc6 od6 kV6 dc6 pm6 an6 cd6 ct6 sl6) (c6 : PySem.W.codeIn K cd6 "are_ties" = true) (k6 : PySem.W.keepIn K (.ref f6) = true)
    (a7 : PySem.W.nsIn K mainGlobals "is_web" = some (some (.ref f7))) (l7 : K.lookup f7 = Lk "is_web" Y8 oc7 od7 kV7 dc7 pm7 an7 cd7 ct7 sl7) (c7 : PySem.W.codeIn K cd7 "is_web" = true) (k7 : PySem.W.keepIn K (.ref f7) = true)
    (a8 : PySem.W.nsIn K mainGlobals "must_be_web" = some (some (.ref f8))) (l8 : K.lookup f8 = Lk "must_be_web" xV oc8 od8 kV8 dc8 pm8 an8 cd8 ct8 sl8) (c8 : PySem.W.codeIn K cd8 "must_be_web" = true) (k8 : PySem.W.keepIn K (.ref f8) = true)
    (a9 : PySem.W.nsIn K mainGlobals "are_stones" = some (some (.ref f9))) (l9 : K.lookup f9 = Lk "are_stones" wu oc9 od9 kV9 dc9 pm9 an9 cd9 ct9 sl9) (c9 : PySem.W.codeIn K cd9 "are_stones" = true) (k9 : PySem.W.keepIn K (.ref f9) = true)
    (a10 : PySem.W.nsIn K mainGlobals "must_be_heap" = some (some (.ref f10))) (l10 : K.lookup f10 = Lk "must_be_heap" xK oc10 od10 kV10 dc10 pm10 an10 cd10 ct10 sl10) (c10 : PySem.W.codeIn K cd10 "must_be_heap" = true) (k10 : PySem.W.keepIn K (.ref f10) = true)
    (a11 : PySem.W.nsIn K mainGlobals "written" = some (some (.ref f11))) (l11 : K.lookup f11 = Lk "written" Yf oc11 od11 kV11 dc11 pm11 an11 cd11 ct11 sl11) (c11 : PySem.W.codeIn K cd11 "written" = true) (k11 : PySem.W.keepIn K (.ref f11) = true)
    (a12 : PySem.W.nsIn K mainGlobals "shown" = some (some (.ref f12))) (l12 : K.lookup f12 = Lk "shown" ZH oc12 od12 kV12 dc12 pm12 an12 cd12 ct12 sl12) (c12 : PySem.W.codeIn K cd12 "shown" = true) (k12 : PySem.W.keepIn K (.ref f12) = true)
    (a13 : PySem.W.nsIn K mainGlobals "number_written" = some (some (.ref f13))) (l13 : K.lookup f13 = Lk "number_written" y6 oc13 od13 kV13 dc13 pm13 an13 cd13 ct13 sl13) (c13 : PySem.W.codeIn K cd13 "number_written" = true) (k13 : PySem.W.keepIn K (.ref f13) = true)
    (a14 : PySem.W.nsIn K mainGlobals "numbers_behind" = some (some (.ref f14))) (l14 : K.lookup f14 = Lk "numbers_behind" y8 oc14 od14 kV14 dc14 pm14 an14 cd14 ct14 sl14) (c14 : PySem.W.codeIn K cd14 "numbers_behind" = true) (k14 : PySem.W.keepIn K (.ref f14) = true)
    (a15 : PySem.W.nsIn K mainGlobals "many_read" = some (some (.ref f15))) (l15 : K.lookup f15 = Lk "many_read" wR oc15 od15 kV15 dc15 pm15 an15 cd15 ct15 sl15) (c15 : PySem.W.codeIn K cd15 "many_read" = true) (k15 : PySem.W.keepIn K (.ref f15) = true)
    (a16 : PySem.W.nsIn K mainGlobals "read" = some (some (.ref f16))) (l16 : K.lookup f16 = Lk "read" Wc oc16 od16 kV16 dc16 pm16 an16 cd16 ct16 sl16) (c16 : PySem.W.codeIn K cd16 "read" = true) (k16 : PySem.W.keepIn K (.ref f16) = true)
    (a17 : PySem.W.nsIn K mainGlobals "_law_pairs" = some (some (.ref f17))) (l17 : K.lookup f17 = Lk "_law_pairs" wq oc17 od17 kV17 dc17 pm17 an17 cd17 ct17 sl17) (c17 : PySem.W.codeIn K cd17 "_law_pairs" = true) (k17 : PySem.W.keepIn K (.ref f17) = true)
    (a18 : PySem.W.nsIn K mainGlobals "_law_stir" = some (some (.ref f18))) (l18 : K.lookup f18 = Lk "_law_stir" wY oc18 od18 kV18 dc18 pm18 an18 cd18 ct18 sl18) (c18 : PySem.W.codeIn K cd18 "_law_stir" = true) (k18 : PySem.W.keepIn K (.ref f18) = true)
    (a19 : PySem.W.nsIn K mainGlobals "_law_web_by" = some (some (.ref f19))) (l19 : K.lookup f19 = Lk "_law_web_by" xU oc19 od19 kV19 dc19 pm19 an19 cd19 ct19 sl19) (c19 : PySem.W.codeIn K cd19 "_law_web_by" = true) (k19 : PySem.W.keepIn K (.ref f19) = true)
    (a20 : PySem.W.nsIn K mainGlobals "_law_heap_by" = some (some (.ref f20))) (l20 : K.lookup f20 = Lk "_law_heap_by" xF oc20 od20 kV20 dc20 pm20 an20 cd20 ct20 sl20) (c20 : PySem.W.codeIn K cd20 "_law_heap_by" = true) (k20 : PySem.W.keepIn K (.ref f20) = true)
    (a21 : PySem.W.nsIn K mainGlobals "_law_text" = some (some (.ref f21))) (l21 : K.lookup f21 = Lk "_law_text" wH oc21 od21 kV21 dc21 pm21 an21 cd21 ct21 sl21) (c21 : PySem.W.codeIn K cd21 "_law_text" = true) (k21 : PySem.W.keepIn K (.ref f21) = true)
    (a22 : PySem.W.nsIn K mainGlobals "_law_same" = some (some (.ref f22))) (l22 : K.lookup f22 = Lk "_law_same" wQ oc22 od22 kV22 dc22 pm22 an22 cd22 ct22 sl22) (c22 : PySem.W.codeIn K cd22 "_law_same" = true) (k22 : PySem.W.keepIn K (.ref f22) = true)
    (a23 : PySem.W.nsIn K mainGlobals "law" = some (some (.ref f23))) (l23 : K.lookup f23 = Lk "law" VC oc23 od23 kV23 dc23 pm23 an23 cd23 ct23 sl23) (c23 : PySem.W.codeIn K cd23 "law" = true) (k23 : PySem.W.keepIn K (.ref f23) = true)
    (gg0 : PySem.W.nsIn K mainGlobals "MOST_PLACES" = some (some (.int 8 tk0)))
    (gg1 : PySem.W.nsIn K mainGlobals "MOST_STONES" = some (some (.int 300 tk1)))
    (gg2 : PySem.W.nsIn K mainGlobals "MOST_FIGURES" = some (some (.int 3 tk2)))
    (z0 : PySem.W.nsIn K mainGlobals "all" = some none)
    (z1 : PySem.W.nsIn K mainGlobals "bool" = some none)
    (z2 : PySem.W.nsIn K mainGlobals "enumerate" = some none)
    (z3 : PySem.W.nsIn K mainGlobals "int" = some none)
    (z4 : PySem.W.nsIn K mainGlobals "isinstance" = some none)
    (z5 : PySem.W.nsIn K mainGlobals "len" = some none)
    (z6 : PySem.W.nsIn K mainGlobals "list" = some none)
    (z7 : PySem.W.nsIn K mainGlobals "min" = some none)
    (z8 : PySem.W.nsIn K mainGlobals "range" = some none)
    (z9 : PySem.W.nsIn K mainGlobals "str" = some none)
    (z10 : PySem.W.nsIn K mainGlobals "sum" = some none)
    (z11 : PySem.W.nsIn K mainGlobals "tuple" = some none)
    (z12 : PySem.W.nsIn K mainGlobals "zip" = some none)
    : ∃ fd : FuncData, (∀ (s : Shared) (v : Value), BindsTo s fd ⟨[v], []⟩ [("script", v)]) ∧ ∀ base : Heap, K.In base → base.Ns mainGlobals mg → xx l.prog w K mg base CX0 20 fa fd ["script"] (VU K) := by
  have e := hfa.symm.trans (PySem.W.mg_of X G a23)
  cases e
  have T : Txt K mg ⟨_, _, _, _, _, _, _, _, _, _, _, _, _, _, _, _, _, _, _, _, _, _, _, _, _, _, _, _, _, _, _, _, _, _, _, _, _, _, _, _, _, _, _, _, _, _, _, _, tk0, tk1, tk2⟩ := ⟨
    mkD X G a0 l0 c0 k0 (bn1 fun _ _ _ _ _ _ _ => rfl),
    mkD X G a1 l1 c1 k1 (bn3 fun _ _ _ _ _ _ _ _ _ => rfl),
    mkD X G a2 l2 c2 k2 (bn1 fun _ _ _ _ _ _ _ => rfl),
    mkD X G a3 l3 c3 k3 (bn2 fun _ _ _ _ _ _ _ _ => rfl),
    mkD X G a4 l4 c4 k4 (bn2 fun _ _ _ _ _ _ _ _ => rfl),
    mkD X G a5 l5 c5 k5 (bn2 fun _ _ _ _ _ _ _ _ => rfl),
    mkD X G a6 l6 c6 k6 (bn2 fun _ _ _ _ _ _ _ _ => rfl),
    mkD X G a7 l7 c7 k7 (bn1 fun _ _ _ _ _ _ _ => rfl),
    mkD X G a8 l8 c8 k8 (bn1 fun _ _ _ _ _ _ _ => rfl),
    mkD X G a9 l9 c9 k9 (bn2 fun _ _ _ _ _ _ _ _ => rfl),
    mkD X G a10 l10 c10 k10 (bn2 fun _ _ _ _ _ _ _ _ => rfl),
    mkD X G a11 l11 c11 k11 (bn2 fun _ _ _ _ _ _ _ _ => rfl),
    mkD X G a12 l12 c12 k12 (bn2 fun _ _ _ _ _ _ _ _ => rfl),
    mkD X G a13 l13 c13 k13 (bn1 fun _ _ _ _ _ _ _ => rfl),
    mkD X G a14 l14 c14 k14 (bn2 fun _ _ _ _ _ _ _ _ => rfl),
    mkD X G a15 l15 c15 k15 (bn1 fun _ _ _ _ _ _ _ => rfl),
    mkD X G a16 l16 c16 k16 (bn1 fun _ _ _ _ _ _ _ => rfl),
    mkD X G a17 l17 c17 k17 (bn1 fun _ _ _ _ _ _ _ => rfl),
    mkD X G a18 l18 c18 k18 (bn2 fun _ _ _ _ _ _ _ _ => rfl),
    mkD X G a19 l19 c19 k19 (bn2 fun _ _ _ _ _ _ _ _ => rfl),
    mkD X G a20 l20 c20 k20 (bn3 fun _ _ _ _ _ _ _ _ _ => rfl),
    mkD X G a21 l21 c21 k21 (bn3 fun _ _ _ _ _ _ _ _ _ => rfl),
    mkD X G a22 l22 c22 k22 (bn2 fun _ _ _ _ _ _ _ _ => rfl),
    mkD X G a23 l23 c23 k23 (bn1 fun _ _ _ _ _ _ _ => rfl),
    PySem.W.mg_of X G gg0,
    PySem.W.mg_of X G gg1,
    PySem.W.mg_of X G gg2,
    PySem.W.mg_none_of X G z0,
    PySem.W.mg_none_of X G z1,
    PySem.W.mg_none_of X G z2,
    PySem.W.mg_none_of X G z3,
    PySem.W.mg_none_of X G z4,
    PySem.W.mg_none_of X G z5,
    PySem.W.mg_none_of X G z6,
    PySem.W.mg_none_of X G z7,
    PySem.W.mg_none_of X G z8,
    PySem.W.mg_none_of X G z9,
    PySem.W.mg_none_of X G z10,
    PySem.W.mg_none_of X G z11,
    PySem.W.mg_none_of X G z12⟩
  exact ⟨_, fun s v => .of_eq rfl, fun base _ _ => zdz T⟩
theorem walk {l : PySem.W.OpenLaw} {q : Program} {loose : List Str} {XP : (Str → Option Value) → Heap → Prop} {YP : World → Heap → Prop} {d : DefRec} {K : Params → PySem.W.Frag} (hn : l.most = some 63) (hdf : d.params.defaults = [])
    (hY : ∀ (w : World) (h : Heap), YP w h → (K w.params).In h)
    (F : ∀ (w : World) (mg : Str → Option Value) (fa : Addr) (h : Heap), (K w.params).In h → h.Ns mainGlobals mg → mg d.name = some (.ref fa) →
      ∃ fd : FuncData, (∀ (s : Shared) (u : Value), BindsTo s fd ⟨[u], []⟩ [("script", u)]) ∧ ∀ base : Heap, (K w.params).In base → base.Ns mainGlobals mg → xx l.prog w (K w.params) mg base CX0 20 fa fd ["script"] (VU (K w.params))) :
    PySem.W.WalkO q loose XP YP l.row.toRowW d [] (fun f vs => PySem.call f vs) :=
  L2.walk_of (n := 63) (k := 20) (x := "script") (CX := fun _ => CX0) (sp := fun w => VU (K w.params)) hn (by decide) hdf ⟨rfl, by decide, by decide⟩ hY F (fun _ _ a ns hl _ hS => ⟨a, ns, rfl, hS, hl, fun _ => rfl⟩) fun _ _ _ _ _ z => z
end Mz
open PySem PySem.W PyProof.Rows
theorem PySem.W.Fast.tw7072097736736877050:True:=⟨⟩
theorem PySem.W.Fast.tw15502286179452351057:True:=⟨⟩
theorem PySem.W.Fast.tw2687388652328257584:True:=⟨⟩
theorem PySem.W.Fast.tw4172375359189788996:True:=⟨⟩
theorem PySem.W.Fast.tw9809155078478849032:True:=⟨⟩
theorem PySem.W.Fast.tw5622818776299813105:True:=⟨⟩
theorem PySem.W.Fast.tw20975433486342228:True:=⟨⟩
theorem PySem.W.Fast.tw9750064081055791947:True:=⟨⟩
theorem PySem.W.Fast.tw4360332409021790687:True:=⟨⟩
theorem PySem.W.Fast.tw12370863194236149753:True:=⟨⟩
theorem PySem.W.Fast.tw16679781753403953630:True:=⟨⟩
theorem PySem.W.Fast.tw17088053264393389535:True:=⟨⟩
theorem PySem.W.Fast.tw8403684067261504912:True:=⟨⟩
theorem PySem.W.Fast.tw5738513975789650757:True:=⟨⟩
theorem PySem.W.Fast.tw15215806552466695674:True:=⟨⟩
set_option maxRecDepth 100000 in
set_option maxHeartbeats 0 in
theorem PySem.Challenge.cw_twoforone_k90_webs_and_heaps_written_holds : PySem.Challenge.rw_twoforone_k90_webs_and_heaps_written.Holds := by
  w_on; o_law; k_head; (case hw => w_witness2)
  k_fill
  refine Mz.walk (l := PySem.Challenge.rw_twoforone_k90_webs_and_heaps_written) rfl rfl (fun w h Y => PySem.W.kIn_of Y) ?F
  case F =>
    intro w mg fa h KX G hmg
    refine' Mz.all_mk KX G hmg ?a0 ?l0 ?c0 ?k0 ?a1 ?l1 ?c1 ?k1 ?a2 ?l2 ?c2 ?k2 ?a3 ?l3 ?c3 ?k3 ?a4 ?l4 ?c4 ?k4 ?a5 ?l5 ?c5 ?k5 ?a6 ?l6 ?c6 ?k6 ?a7 ?l7 ?c7 ?k7 ?a8 ?l8 ?c8 ?k8 ?a9 ?l9 ?c9 ?k9 ?a10 ?l10 ?c10 ?k10 ?a11 ?l11 ?c11 ?k11 ?a12 ?l12 ?c12 ?k12 ?a13 ?l13 ?c13 ?k13 ?a14 ?l14 ?c14 ?k14 ?a15 ?l15 ?c15 ?k15 ?a16 ?l16 ?c16 ?k16 ?a17 ?l17 ?c17 ?k17 ?a18 ?l18 ?c18 ?k18 ?a19 ?l19 ?c19 ?k19 ?a20 ?l20 ?c20 ?k20 ?a21 ?l21 ?c21 ?k21 ?a22 ?l22 ?c22 ?k22 ?a23 ?l23 ?c23 ?k23 ?gg0 ?gg1 ?gg2 ?z0 ?z1 ?z2 ?z3 ?z4 ?z5 ?z6 ?z7 ?z8 ?z9 ?z10 ?z11 ?z12
    case a0 | l0 | c0 | k0 | a1 | l1 | c1 | k1 | a2 | l2 | c2 | k2 | a3 | l3 | c3 | k3 | a4 | l4 | c4 | k4 | a5 | l5 | c5 | k5 | a6 | l6 | c6 | k6 | a7 | l7 | c7 | k7 | a8 | l8 | c8 | k8 | a9 | l9 | c9 | k9 | a10 | l10 | c10 | k10 | a11 | l11 | c11 | k11 | a12 | l12 | c12 | k12 | a13 | l13 | c13 | k13 | a14 | l14 | c14 | k14 | a15 | l15 | c15 | k15 | a16 | l16 | c16 | k16 | a17 | l17 | c17 | k17 | a18 | l18 | c18 | k18 | a19 | l19 | c19 | k19 | a20 | l20 | c20 | k20 | a21 | l21 | c21 | k21 | a22 | l22 | c22 | k22 | a23 | l23 | c23 | k23 | gg0 | gg1 | gg2 | z0 | z1 | z2 | z3 | z4 | z5 | z6 | z7 | z8 | z9 | z10 | z11 | z12 => k_is
