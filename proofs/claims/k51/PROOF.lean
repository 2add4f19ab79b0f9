import PyProof.Rows.All
import Wide.All
import OpenK.AllK
import Wide.FinOn
import Lean
import PyProof.EqAt
import PyProof.EqKinds
import PyProof.TupleCall
import PyProof.NeKinds
import PySem.Challenge.RW_twoforone_k51_sweeps_round_a_ring
set_option Elab.async false
set_option linter.all false
set_option maxRecDepth 100000
set_option maxHeartbeats 4000000
namespace L2
open PySem PySem.Spec PyProof.Rows
noncomputable abbrev Key := Sum Int Str
noncomputable def zfy : Key → Value → Bool
  | .inl k, v => Value.isInt k v
  | .inr x, v => Value.isStrOf x v
noncomputable def keyH (w : World) : Key → Int
  | .inl k => hashInt k
  | .inr x => hashStr w x
theorem yo : ∀ {k : Key} {v : Value}, zfy k v = true → (∃ i t, k = Sum.inl i ∧ v = Value.int i t) ∨ (∃ x t, k = Sum.inr x ∧ v = Value.str x t)
  | .inl i, v, h => by
    obtain ⟨t, e⟩ := Value.isInt_shape (k := i) (v := v) h
    exact .inl ⟨i, t, rfl, e⟩
  | .inr x, v, h => by
    obtain ⟨t, e⟩ := Value.isStrOf_shape (x := x) (v := v) h
    exact .inr ⟨x, t, rfl, e⟩
theorem zgc (a b : Int) : decide ((Sum.inl a : Key) = Sum.inl b) = (a == b) := by
  by_cases e : a = b
  · subst e; simp
  · have h : ¬ (Sum.inl a : Key) = Sum.inl b := fun q => e (Sum.inl.inj q)
    rw [decide_eq_false h]
    exact (beq_eq_false_iff_ne.mpr e).symm
theorem zfm (a b : Str) : decide ((Sum.inr a : Key) = Sum.inr b) = decide (a = b) := by
  by_cases e : a = b
  · subst e; simp
  · have h : ¬ (Sum.inr a : Key) = Sum.inr b := fun q => e (Sum.inr.inj q)
    rw [decide_eq_false h, decide_eq_false e]
theorem ze6 (a : Int) (b : Str) : decide ((Sum.inl a : Key) = Sum.inr b) = false := decide_eq_false (fun q => nomatch q)
theorem zfW (a : Str) (b : Int) : decide ((Sum.inr a : Key) = Sum.inl b) = false := decide_eq_false (fun q => nomatch q)
noncomputable def zcj (prog : Program) (w : World) : PySem.KeyKind prog w Key where
  is := zfy
  hash := keyH w
  inj := fun v a b ha hb => by
    rcases yo ha with ⟨i, t, rfl, rfl⟩ | ⟨x, t, rfl, rfl⟩
    · rcases yo hb with ⟨j, u, rfl, e⟩ | ⟨y, u, rfl, e⟩
      · injection e with e1 _; rw [e1]
      · exact nomatch e
    · rcases yo hb with ⟨j, u, rfl, e⟩ | ⟨y, u, rfl, e⟩
      · exact nomatch e
      · injection e with e1 _; rw [e1]
  byValue := fun k v h => by
    rcases yo h with ⟨i, t, rfl, rfl⟩ | ⟨x, t, rfl, rfl⟩ <;> rfl
  pyHash := fun hv h => by
    rcases yo hv with ⟨i, t, rfl, rfl⟩ | ⟨x, t, rfl, rfl⟩
    · exact wpAny_pyHash_int h
    · exact wpAny_pyHash_str h
  eqBool := fun hu hv h => by
    rcases yo hu with ⟨i, t, rfl, rfl⟩ | ⟨x, t, rfl, rfl⟩
    · rcases yo hv with ⟨j, u, rfl, rfl⟩ | ⟨y, u, rfl, rfl⟩
      · rw [zgc] at h; exact wpAny_eqBool_int h
      · rw [ze6] at h; exact SeqAt.EqAt.int_str i t y u _ _ _ _ h
    · rcases yo hv with ⟨j, u, rfl, rfl⟩ | ⟨y, u, rfl, rfl⟩
      · rw [zfW] at h; exact SeqAt.EqAt.str_int x t j u _ _ _ _ h
      · rw [zfm] at h; exact wpAny_eqBool_str h
  «strs» := fun k x t v h => by
    rcases yo h with ⟨i, u, rfl, e⟩ | ⟨y, u, rfl, e⟩
    · exact nomatch e
    · injection e with e1 _
      subst e1
      cases v <;> rfl
end L2
namespace L2
open PySem PySem.Spec PyProof.Rows
inductive V where
  | non | bl (b : Bool) | int (i : Int) | str (x : Str) | byt (b : Array UInt8) | flt (b : UInt64) | ref (a : Addr) | ty (n : String)
  deriving DecidableEq
noncomputable def xJ : V → Value → Prop
  | .non, u => u = Value.none
  | .bl b, u => u = Value.bool b
  | .int i, u => ∃ t, u = Value.int i t
  | .str x, u => ∃ t, u = Value.str x t
  | .byt b, u => ∃ t, u = Value.bytes b t
  | .flt b, u => ∃ t, u = Value.float b t
  | .ref a, u => u = Value.ref a
  | .ty n, u => u = Value.type n
noncomputable abbrev yg : List V → List Value → Prop := Paired xJ
theorem yg.length {xs : List V} {us : List Value} (r : yg xs us) : xs.length = us.length := Paired.length r
theorem yg.get : ∀ {xs : List V} {us : List Value} {i : Nat} {x : V}, yg xs us → xs[i]? = some x → ∃ u, us[i]? = some u ∧ xJ x u
  | _, _, _, _, .nil, e => by simp at e
  | _, _, 0, _, .cons r _, e => by simp at e; subst e; exact ⟨_, rfl, r⟩
  | _, _, i + 1, x, .cons _ t, e => by
    obtain ⟨u, h1, h2⟩ := yg.get (i := i) (x := x) t (by simpa using e)
    exact ⟨u, by simpa using h1, h2⟩
theorem yg.set {x : V} {u : Value} (r : xJ x u) : ∀ {xs : List V} {us : List Value} (i : Nat), yg xs us → yg (xs.set i x) (us.set i u)
  | _, _, _, .nil => .nil
  | _, _, 0, .cons _ t => .cons r t
  | _, _, i + 1, .cons q t => .cons q (yg.set r i t)
theorem yg.append : ∀ {xs ys : List V} {us ws : List Value}, yg xs us → yg ys ws → yg (xs ++ ys) (us ++ ws) := by
  intro xs ys us ws h s
  induction h with
  | nil => exact s
  | cons r t ih => exact .cons r ih
theorem yg.take : ∀ {xs : List V} {us : List Value} (n : Nat), yg xs us → yg (xs.take n) (us.take n)
  | _, _, 0, _ => .nil
  | _, _, _ + 1, .nil => .nil
  | _, _, n + 1, .cons r t => .cons r (yg.take n t)
theorem yg.drop : ∀ {xs : List V} {us : List Value} (n : Nat), yg xs us → yg (xs.drop n) (us.drop n)
  | _, _, 0, r => r
  | _, _, _ + 1, .nil => .nil
  | _, _, n + 1, .cons _ t => yg.drop n t
noncomputable def zgG : Option V → Option Value → Prop
  | some v, some u => xJ v u
  | none, none => True
  | _, _ => False
noncomputable def KV {κ : Type} : List (κ × V) → List (κ × Value) → Prop := Paired fun (p : κ × V) (q : κ × Value) => p.1 = q.1 ∧ xJ p.2 q.2
noncomputable def kV : Key → V
  | .inl i => .int i
  | .inr x => .str x
inductive HO where
    | lst (xs : List V)
    | tup (xs : List V)
    | dK (kvs : List (Key × V)) | dT (kvs : List (List Key × V))
    | set (S : Int → Bool) (n : Nat)
    | ins (C dx : Addr) (fs : List (Str × V))
    | own (x : Addr)
    | xd (fs : List (Str × V))
    | met (f x : Addr)
    | rng (lo hi : Int)
    | frz (o : Obj) (u : HO)
    | tbl (ps : Array Value)
    | ext (φ : Heap → Prop)
noncomputable abbrev Hp := Addr → Option HO
noncomputable def upd (H : Hp) (a : Addr) (o : HO) : Hp := fun b => if b = a then some o else H b
theorem zo {H : Hp} {a : Addr} {o : HO} : upd H a o a = some o := by unfold upd; rw [if_pos rfl]
theorem zz {H : Hp} {a b : Addr} {o : HO} (h : b ≠ a) : upd H a o b = H b := by unfold upd; rw [if_neg h]
theorem zbm {H : Hp} {a : Addr} {o u : HO} : upd (upd H a o) a u = upd H a u := by
  funext b; unfold upd; split <;> rfl
theorem zm {H : Hp} {a b : Addr} {o : HO} (h : H a = some o) (h' : H b = none) : a ≠ b := by
  intro e; subst e; rw [h] at h'; cases h'
section
variable (P : Program) (w : World)
noncomputable def wf (H : Hp) (h : Heap) (a : Addr) : HO → Prop
  | .lst xs => xs.length ≤ sizeLine ∧ ∃ (its : List Value) (n : Nat), yg xs its ∧ h.get? a = some { cls := .type "list", data := .seq its.toArray n }
  | .tup xs => xs.length ≤ sizeLine ∧ ∃ its : List Value, yg xs its ∧ IsTup h a its.toArray
  | .dK kvs => kvs.length ≤ sizeLine ∧ (a == sysModules) = false ∧ ∃ vs, KV kvs vs ∧ h.DictOf (zcj P w) a vs
  | .dT kvs => kvs.length ≤ sizeLine ∧ (a == sysModules) = false ∧ ∃ xs : List (List Key × Addr × Value),
      Paired (fun (p : List Key × V) (q : List Key × Addr × Value) => p.1 = q.1 ∧ H q.2.1 = some (.tup (p.1.map kV)) ∧ xJ p.2 q.2.2) kvs xs ∧
      ∃ o es ep, h.get? a = some o ∧ o.ExactDict ∧ o.data = .dict es ep ∧ es.toList = xs.map (entryOfKey (tupleKind (zcj P w))) ∧ (xs.map (·.1)).Nodup
  | .set S n => h.SetOf (intKind P w) a S n
  | .ins C dx fs => H dx = some (.own a) ∧ fs.length ≤ 1000 ∧ dx ≠ a ∧ h.get? a = some (PySem.W.instObj C dx) ∧
      ∃ mA, h.Ns1 dx mA ∧ (∀ f, zgG (fs.lookup f) (mA f)) ∧ PySem.Within mA (fs.map (·.1))
  | .own _ => ∃ o, h.get? a = some o
  | .xd fs => ∃ mA, h.Ns1 a mA ∧ ∀ f, zgG (fs.lookup f) (mA f)
  | .rng lo hi => ∃ t u v, h.get? a = some { cls := .type "range", data := .fields #[.int lo t, .int hi u, .int 1 v] }
  | .frz o u => h.get? a = some o ∧ wf H h a u
  | .tbl ps => h.get? a = some { cls := .none, data := .fields ps }
  | .met f x => h.get? a = some (PySem.W.methodObj (.ref f) (.ref x))
  | .ext φ => φ h ∧ (∃ o, h.get? a = some o) ∧ ∀ h1 h2 : Heap, φ h1 → (∀ o, h1.get? a = some o → h2.get? a = some o) → φ h2
noncomputable def HOk (H : Hp) (h : Heap) : Prop := ∀ a o, H a = some o → wf P w H h a o
end
section
variable {P : Program} {w : World} {H H' : Hp} {h h' : Heap} {a : Addr} {o : HO}
theorem wf.lt (x : wf P w H h a o) : a < h.objs.size := by
  cases o with
  | lst xs => obtain ⟨_, _, _, _, e⟩ := x; exact Heap.lt_size e
  | tup xs => obtain ⟨_, _, _, p⟩ := x; exact p.lt
  | dK kvs => obtain ⟨_, _, _, _, o, _, _, e, _⟩ := x; exact Heap.lt_size e
  | dT kvs => obtain ⟨_, _, _, _, o, _, _, e, _⟩ := x; exact Heap.lt_size e
  | set S n => obtain ⟨o, _, _, _, e, _⟩ := x; exact Heap.lt_size e
  | ins C dx fs => obtain ⟨_, _, _, e, _⟩ := x; exact Heap.lt_size e
  | own y => obtain ⟨_, e⟩ := x; exact Heap.lt_size e
  | xd fs => obtain ⟨_, ⟨_, _, _, e, _⟩, _⟩ := x; exact Heap.lt_size e
  | rng lo hi => obtain ⟨_, _, _, e⟩ := x; exact Heap.lt_size e
  | frz ob u => obtain ⟨e, _⟩ := x; exact Heap.lt_size e
  | tbl ps => exact Heap.lt_size (show h.get? a = some _ from x)
  | met f y => exact Heap.lt_size (show h.get? a = some _ from x)
  | ext φ => obtain ⟨_, ⟨_, e⟩, _⟩ := x; exact Heap.lt_size e
theorem Paired.mapP {α β : Type} {F G : α → β → Prop} : ∀ {l₁ : List α} {l₂ : List β}, Paired F l₁ l₂ → (∀ a b, F a b → G a b) → Paired G l₁ l₂ := by
  intro l1 l2 h f
  induction h with
  | nil => exact .nil
  | cons r t ih => exact .cons (f _ _ r) ih
theorem wf.stay (x : wf P w H h a o) (k : ∀ b u, (b = a ∨ H b = some (.own a)) → h.get? b = some u → h'.get? b = some u)
    (ho : ∀ b, H b = some (.own a) → H' b = some (.own a)) (ht : ∀ b xs, H b = some (.tup xs) → H' b = some (.tup xs)) : wf P w H' h' a o := by
  induction o with
  | lst xs => obtain ⟨z, its, n, r, e⟩ := x; exact ⟨z, its, n, r, k _ _ (.inl rfl) e⟩
  | tup xs => obtain ⟨z, its, r, ob, e, c⟩ := x; exact ⟨z, its, r, ob, k _ _ (.inl rfl) e, c⟩
  | dK kvs => obtain ⟨z, y, vs, r, ob, es, ep, e, c⟩ := x; exact ⟨z, y, vs, r, ob, es, ep, k _ _ (.inl rfl) e, c⟩
  | dT kvs =>
    obtain ⟨z, y, xs, r, ob, es, ep, e, c⟩ := x
    exact ⟨z, y, xs, Paired.mapP r fun p q z => ⟨z.1, ht _ _ z.2.1, z.2.2⟩, ob, es, ep, k _ _ (.inl rfl) e, c⟩
  | set S n => obtain ⟨ob, es, ep, t, e, c⟩ := x; exact ⟨ob, es, ep, t, k _ _ (.inl rfl) e, c⟩
  | ins C dx fs =>
    obtain ⟨d, z, ne, e, mA, ⟨od, es, ep, e2, c⟩, r⟩ := x
    exact ⟨ho _ d, z, ne, k _ _ (.inl rfl) e, mA, ⟨od, es, ep, k _ _ (.inr d) e2, c⟩, r⟩
  | own y => obtain ⟨ob, e⟩ := x; exact ⟨ob, k _ _ (.inl rfl) e⟩
  | xd fs => obtain ⟨mA, ⟨od, es, ep, e, c⟩, r⟩ := x; exact ⟨mA, ⟨od, es, ep, k _ _ (.inl rfl) e, c⟩, r⟩
  | rng lo hi => obtain ⟨t, u, v, e⟩ := x; exact ⟨t, u, v, k _ _ (.inl rfl) e⟩
  | frz ob u ih => obtain ⟨e, q⟩ := x; exact ⟨k _ _ (.inl rfl) e, ih q⟩
  | tbl ps =>
    have e : h.get? a = some { cls := .none, data := .fields ps } := x
    show h'.get? a = some { cls := .none, data := .fields ps }
    exact k a _ (.inl rfl) e
  | met f y =>
    have e : h.get? a = some (PySem.W.methodObj (.ref f) (.ref y)) := x
    show h'.get? a = some (PySem.W.methodObj (.ref f) (.ref y))
    exact k a _ (.inl rfl) e
  | ext φ => obtain ⟨p, ⟨o, e⟩, st⟩ := x; exact ⟨st _ _ p fun o q => k _ _ (.inl rfl) q, ⟨o, k _ _ (.inl rfl) e⟩, st⟩
theorem HOk.lt (x : HOk P w H h) (e : H a = some o) : a < h.objs.size := (x a o e).lt
theorem HOk.fresh (x : HOk P w H h) (e : h.objs.size ≤ a) : H a = none := by
  cases q : H a with
  | none => rfl
  | some u => exact absurd (Nat.lt_of_lt_of_le (x.lt q) e) (Nat.lt_irrefl _)
theorem HOk.kept (x : HOk P w H h) (k : ∀ b u, h.get? b = some u → h'.get? b = some u) : HOk P w H h' := fun a o e =>
  (x a o e).stay (fun b u _ q => k b u q) (fun _ q => q) fun _ _ q => q
theorem HOk.laid (x : HOk P w H h) (k : ∀ b u, h.get? b = some u → h'.get? b = some u) (hp : h.objs.size ≤ a) (new : wf P w (upd H a o) h' a o) : HOk P w (upd H a o) h' := fun b u e => by
  have hn := x.fresh hp
  by_cases hb : b = a
  · subst hb; rw [zo] at e; cases e; exact new
  · rw [zz hb] at e
    exact (x b u e).stay (fun c v _ q => k c v q) (fun c q => by rw [zz (zm q hn)]; exact q) fun c xs q => by rw [zz (zm q hn)]; exact q
end
noncomputable def Rd (H : Hp) (a : Addr) (u : HO) : Prop := H a = some u ∨ ∃ o, H a = some (.frz o u)
theorem Rd.ok {P : Program} {w : World} {H : Hp} {h : Heap} {a : Addr} {u : HO} (r : Rd H a u) (x : HOk P w H h) : wf P w H h a u := by
  rcases r with r | ⟨o, r⟩
  · exact x a u r
  · obtain ⟨_, q⟩ := x a _ r
    exact q
noncomputable def Mut : Option HO → Prop
  | some (.lst _) => True
  | some (.dK _) => True
  | some (.dT _) => True
  | some (.set _ _) => True
  | some (.ins _ _ _) => True
  | some (.ext _) => True
  | _ => False
section
variable {P : Program} {w : World} {H : Hp} {h h' : Heap} {x e : Addr} {o' : HO}
theorem HOk.write (ok : HOk P w H h) (mu : Mut (H x)) (he : e = x ∨ H e = some (.own x)) (k : ∀ b u, b ≠ e → h.get? b = some u → h'.get? b = some u) (heo : ∃ u, h'.get? e = some u)
    (new : wf P w (upd H x o') h' x o') : HOk P w (upd H x o') h' := fun b u q => by
  have nown : ∀ c y, H c = some (.own y) → c ≠ x := fun c y r z => by subst z; rw [r] at mu; exact mu
  have ntup : ∀ c xs, H c = some (.tup xs) → c ≠ x := fun c xs r z => by subst z; rw [r] at mu; exact mu
  by_cases hb : b = x
  · subst hb; rw [zo] at q; cases q; exact new
  · rw [zz hb] at q
    by_cases hbe : b = e
    · have q' : H b = some (.own x) := by
        rcases he with z | z
        · exact absurd (hbe.trans z) hb
        · rw [hbe]; exact z
      rw [q] at q'; cases q'
      obtain ⟨v, hv⟩ := heo
      exact ⟨v, by rw [hbe]; exact hv⟩
    · refine (ok b u q).stay (fun c v hc r => k c v ?_ r) (fun c r => by rw [zz (nown c b r)]; exact r) fun c xs r => by rw [zz (ntup c xs r)]; exact r
      rcases hc with rfl | hc
      · exact hbe
      · rintro rfl
        rcases he with z | z
        · exact nown c b hc z
        · rw [hc] at z; cases z; exact hb rfl
end
set_option genInjectivity false in
set_option genSizeOf false in
set_option genCtorIdx false in
structure Un (fs ex : List Addr) (H H' : Hp) (h h' : Heap) : Prop where
  keep : ∀ b o, h.get? b = some o → H b = none → b ∉ fs → b ∉ ex → h'.get? b = some o
  slot : ∀ b o, h.get? b = some o → H b = none → b ∈ fs → b ∉ ex → ∃ sl, h'.get? b = some { o with slots := sl }
  free : ∀ b o, h.get? b = some o → H b = none → b ∉ ex → H' b = none
  there : ∀ b o, h.get? b = some o → b ∉ ex → ∃ o', h'.get? b = some o'
  tups : ∀ b xs, H b = some (.tup xs) → H' b = some (.tup xs)
  frzs : ∀ b o u, H b = some (.frz o u) → H' b = some (.frz o u)
  tbls : ∀ b ps, H b = some (.tbl ps) → ∃ more, H' b = some (.tbl (ps ++ more))
section
variable {fs fs' ex ex' : List Addr} {H H1 H2 : Hp} {h h1 h2 h' : Heap} {a x e : Addr} {o : HO}
theorem Un.any (u : Un fs ex H H1 h h1) {b : Addr} {ob : Obj} (q : h.get? b = some ob) (n : H b = none) (hx : b ∉ ex) : ∃ sl, h1.get? b = some { ob with slots := sl } := by
  by_cases hb : b ∈ fs
  · exact u.slot b ob q n hb hx
  · exact ⟨ob.slots, u.keep b ob q n hb hx⟩
theorem Un.kept (k : ∀ b u, h.get? b = some u → h'.get? b = some u) : Un fs ex H H h h' :=
  ⟨fun b ob q _ _ _ => k b ob q, fun b ob q _ _ _ => ⟨ob.slots, k b ob q⟩, fun _ _ _ n _ => n, fun b ob q _ => ⟨ob, k b ob q⟩, fun _ _ q => q, fun _ _ _ q => q, fun _ ps q => ⟨#[], by rw [q]; simp⟩⟩
theorem Un.refl : Un fs ex H H h h := Un.kept fun _ _ q => q
theorem Un.laid (k : ∀ b u, h.get? b = some u → h'.get? b = some u) (hp : h.objs.size ≤ a) (hn : H a = none) : Un fs ex H (upd H a o) h h' where
  keep := fun b u q _ _ _ => k b u q
  slot := fun b u q _ _ _ => ⟨u.slots, k b u q⟩
  free := fun b u q n _ => by rw [zz (Nat.ne_of_lt (Nat.lt_of_lt_of_le (Heap.lt_size q) hp))]; exact n
  there := fun b u q _ => ⟨u, k b u q⟩
  tups := fun b xs q => by rw [zz (zm q hn)]; exact q
  frzs := fun b u xs q => by rw [zz (zm q hn)]; exact q
  tbls := fun b ps q => ⟨#[], by rw [zz (zm q hn), q]; simp⟩
theorem Un.write (mu : Mut (H x)) (he : e = x ∨ H e = some (.own x)) (k : ∀ b u, b ≠ e → h.get? b = some u → h'.get? b = some u) (heo : ∃ u, h'.get? e = some u) : Un fs ex H (upd H x o) h h' := by
  have hx : ∀ b, H b = none → b ≠ x := fun b n z => by subst z; rw [n] at mu; exact mu
  have hb : ∀ b, H b = none → b ≠ e := fun b n z => by
    subst z
    rcases he with r | r
    · exact hx b n r
    · rw [n] at r; cases r
  have hm : ∀ b u, H b = some u → ¬ Mut (some u) → b ≠ x := fun b u q nm z => by subst z; rw [q] at mu; exact nm mu
  refine ⟨fun b u q n _ _ => k b u (hb b n) q, fun b u q n _ _ => ⟨u.slots, k b u (hb b n) q⟩, fun b u q n _ => by rw [zz (hx b n)]; exact n, fun b u q _ => ?_,
    fun b xs q => by rw [zz (hm b _ q fun z => z)]; exact q, fun b u xs q => by rw [zz (hm b _ q fun z => z)]; exact q, fun b ps q => ⟨#[], by rw [zz (hm b _ q fun z => z), q]; simp⟩⟩
  by_cases hbe : b = e
  · subst hbe; exact heo
  · exact ⟨u, k b u hbe q⟩
end
noncomputable def trk (h : Heap) (H : Hp) : List Addr := (List.range h.objs.size).filter fun a => (H a).isSome
noncomputable def zcB (h : Heap) (H : Hp) : Heap := PySem.W.hideAll h (trk h H)
theorem zbO (h : Heap) (H : Hp) : (zcB h H).objs.size = h.objs.size := PySem.W.hideAll_size _ _
theorem zdh {h : Heap} {H : Hp} {b : Addr} {o : Obj} (e : h.get? b = some o) (n : H b = none) : (zcB h H).get? b = some o :=
  PySem.W.hideAll_get _ e fun hm => by
    have q : (H b).isSome = true := (List.mem_filter.mp hm).2
    rw [n] at q; simp at q
theorem zdW {h : Heap} {H : Hp} {b : Addr} {o : Obj} (e : (zcB h H).get? b = some o) : h.get? b = some o ∧ H b = none := by
  have e' : h.get? b = some o := PySem.W.of_hideAll (trk h H) e
  refine ⟨e', ?_⟩
  cases q : H b with
  | none => rfl
  | some x =>
    have hm : b ∈ trk h H := List.mem_filter.mpr ⟨List.mem_range.mpr (Heap.lt_size e'), by simp [q]⟩
    have z : (zcB h H).get? b = none := PySem.W.hideAll_none (trk h H) hm
    rw [z] at e; cases e
noncomputable def zdZ (g h : Heap) (L : Addr) : List (Addr × Obj) := (List.range h.objs.size).filterMap fun a => if a = L ∨ (g.get? a).isSome = true then none else (h.get? a).map fun o => (a, o)
noncomputable def rest (g h : Heap) (L d : Addr) : List (Addr × Obj) := (zdZ g h L).filter fun p => decide (p.1 ≠ d)
end L2
namespace L2
open PySem PySem.Spec PyProof.Rows
structure Mod (K : PySem.W.Frag) (mg : Str → Option Value) (base : Heap) : Prop where
  kin : K.In base
  glob : base.Ns mainGlobals mg
  blt : ∃ mb, base.Ns builtinsNs mb ∧ ∀ x : Str, x ≠ "__name__" → mb x = bootBuiltins x
  nolimit : base.NoLimit
structure Cx where
  prog : Program
  w : World
  K : PySem.W.Frag
  mg : Str → Option Value
  base : Heap
  A : Around
  N : List Str
  s₀ : Shared
  H₀ : Hp
  env : Env
  outer : List Env
  stack : List Env
  ex : List Addr
  fn : Str → Bool
  calm : Bool
  pn : List (Addr × Obj)
  xe : Value → Shared → Prop
noncomputable def frs (l : List Env) : List Addr := l.filterMap (·.frame)
noncomputable abbrev Cx.fs (X : Cx) : List Addr := frs X.outer
noncomputable def Vis (sc : Scope) (x : Str) : Prop := sc.names.lookup x = some .local ∨ sc.names.lookup x = some .cell ∨ sc.names.lookup x = some .free
noncomputable def Loc (sc : Scope) (x : Str) : Prop := sc.names.lookup x = some .local ∨ sc.names.lookup x = some .cell
noncomputable def Look (env : Env) (h : Heap) (m : Str → Option Value) (x : Str) (u : Value) : Prop :=
  (env.kindOf x = some .local ∧ m x = some u) ∨ ((env.kindOf x = some .cell ∨ env.kindOf x = some .free) ∧ ∃ c, env.cells.lookup x = some c ∧ h.IsCell c (some u))
set_option genInjectivity false in
set_option genSizeOf false in
set_option genCtorIdx false in
structure Cx.Ok (X : Cx) : Prop where
  mod : Mod X.K X.mg X.base
  kind : X.env.scope.kind = .function
  glob : X.env.globals = mainGlobals
  blt : X.env.builtins = builtinsNs
  above : X.s₀.heap.objs.size ≤ X.env.locals
  inj : ∀ x y c, X.env.cells.lookup x = some c → X.env.cells.lookup y = some c → x = y
  has : ∀ x, (X.env.kindOf x = some .cell ∨ X.env.kindOf x = some .free) → ∃ c, X.env.cells.lookup x = some c
  cab : ∀ x c, X.fn x = true → X.env.cells.lookup x = some c → X.s₀.heap.objs.size ≤ c
  hd : X.calm = true → X.A.handled = none
  frames : X.A.frames = some X.stack
  stk : X.stack = X.outer ∨ (X.stack = X.env :: X.outer ∧ X.env.frame = some X.env.locals)
  exf : ∀ b ∈ X.ex, b ≠ X.env.locals ∧ ∀ x c, X.env.cells.lookup x = some c → c ≠ b
  bs : ∀ b o, X.base.get? b = some o → X.s₀.heap.get? b = some o ∧ X.H₀ b = none
  bsz : X.base.objs.size ≤ X.s₀.heap.objs.size
  noex : ∀ b o, X.base.get? b = some o → b ∉ X.ex
  exfs : ∀ b ∈ X.ex, b ∉ X.fs
  funs : X.s₀.heap.FunFrames X.base X.outer
  frf : ∀ b ∈ X.fs, X.H₀ b = none
set_option genInjectivity false in
set_option genSizeOf false in
set_option genCtorIdx false in
structure Inv (X : Cx) (pins : List (Addr × Obj)) (σ : List (Option V)) (H : Hp) (s : Shared) : Prop where
  ok : X.Ok
  os : s.os = X.s₀.os
  bare : AllBare s.gens
  base : Un X.fs X.ex X.H₀ H X.s₀.heap s.heap
  loc : ∃ m, s.heap.Ns X.env.locals m ∧ ∀ (i : Nat) (x : Str) (v : V), X.N[i]? = some x → σ[i]? = some (some v) → Vis X.env.scope x → ∃ u, xJ v u ∧ Look X.env s.heap m x u
  cell : ∀ x c, X.env.cells.lookup x = some c → ∃ v, s.heap.IsCell c v
  free : H X.env.locals = none
  freeC : ∀ x c, X.env.cells.lookup x = some c → H c = none
  pin : ∀ p ∈ X.pn ++ pins, s.heap.get? p.1 = some p.2 ∧ H p.1 = none ∧ p.1 ≠ X.env.locals ∧ p.1 ∉ X.fs ∧ ∀ v, p.2.data ≠ .cell v
  hok : HOk X.prog X.w H s.heap
  len : σ.length = X.N.length
section
variable {X : Cx} {pins : List (Addr × Obj)} {σ : List (Option V)} {H H' : Hp} {s : Shared} {h' : Heap}
theorem Cx.Ok.nofr (ok : X.Ok) {b : Addr} {o : Obj} (e : X.base.get? b = some o) : b ∉ X.fs := fun hb => by
  have := (ok.funs.mem hb).1
  rw [e] at this; cases this
theorem Inv.bs (I : Inv X pins σ H s) : ∀ b o, X.base.get? b = some o → s.heap.get? b = some o ∧ H b = none := fun b o e =>
  ⟨I.base.keep b o (I.ok.bs b o e).1 (I.ok.bs b o e).2 (I.ok.nofr e) (I.ok.noex b o e), I.base.free b o (I.ok.bs b o e).1 (I.ok.bs b o e).2 (I.ok.noex b o e)⟩
theorem Inv.bk (I : Inv X pins σ H s) : ∀ b o, X.base.get? b = some o → s.heap.get? b = some o := fun b o e => (I.bs b o e).1
theorem Inv.mod (I : Inv X pins σ H s) : Mod X.K X.mg X.base := I.ok.mod
theorem Inv.kIn (I : Inv X pins σ H s) : X.K.In s.heap := I.ok.mod.kin.keeps I.bk
theorem Inv.fr (I : Inv X pins σ H s) : ∃ m, Fr X.base X.env.locals s.heap m :=
  let ⟨m, hn, _⟩ := I.loc
  ⟨m, hn, I.bk, Nat.le_trans I.ok.bsz I.ok.above⟩
theorem Inv.lt (I : Inv X pins σ H s) : X.env.locals < s.heap.objs.size := let ⟨_, hn, _⟩ := I.loc; hn.lt
theorem Inv.sz (I : Inv X pins σ H s) : X.s₀.heap.objs.size ≤ s.heap.objs.size := Nat.le_trans I.ok.above (Nat.le_of_lt I.lt)
theorem Inv.nofs (I : Inv X pins σ H s) {a : Addr} (h : s.heap.objs.size ≤ a) : a ∉ X.fs := fun hb => by
  obtain ⟨_, o, ho, _⟩ := I.ok.funs.mem hb
  exact absurd (Nat.lt_of_lt_of_le (Heap.lt_size ho) (Nat.le_trans I.sz h)) (Nat.lt_irrefl _)
theorem Inv.cne (I : Inv X pins σ H s) : ∀ x c, X.env.cells.lookup x = some c → c ≠ X.env.locals := fun x c e z => by
  obtain ⟨v, o, ho, hd⟩ := I.cell x c e
  obtain ⟨m, ⟨o', es, ep, ho', hd', _⟩, _⟩ := I.loc
  rw [z, ho'] at ho; cases ho; rw [hd'] at hd; cases hd
theorem Inv.funs (I : Inv X pins σ H s) : s.heap.FunFrames X.base X.outer := by
  have all : ∀ (l : List Env), (∀ b ∈ frs l, b ∈ X.fs) → X.s₀.heap.FunFrames X.base l → s.heap.FunFrames X.base l := by
    intro l
    induction l with
    | nil => intro _ _; trivial
    | cons env r ih =>
      intro hs hl
      obtain ⟨hk, ⟨L, o, hf, hn, ho, hd⟩, hr⟩ := hl
      have hL : L ∈ X.fs := hs L (by unfold frs; rw [List.filterMap_cons, hf]; exact List.mem_cons_self)
      obtain ⟨sl, e⟩ := I.base.slot L o ho (I.ok.frf L hL) hL fun z => I.ok.exfs L z hL
      exact ⟨hk, ⟨L, _, hf, hn, e, hd⟩, ih (fun b hb => hs b (by unfold frs; rw [List.filterMap_cons, hf]; exact List.mem_cons_of_mem _ hb)) hr⟩
  exact all X.outer (fun _ hb => hb) I.ok.funs
theorem Inv.stack (I : Inv X pins σ H s) : s.heap.FunFrames X.base X.stack := by
  rcases I.ok.stk with e | ⟨e, hf⟩
  · rw [e]; exact I.funs
  · rw [e]
    obtain ⟨m, hn, _⟩ := I.loc
    refine .cons (by rw [I.ok.kind]; decide) hf hn ?_ I.funs
    exact Heap.get?_none_of_le (Nat.le_trans I.ok.bsz I.ok.above)
theorem Inv.stkSub (I : Inv X pins σ H s) : ∀ b ∈ frs X.stack, b ∈ X.env.locals :: X.fs := fun b hb => by
  rcases I.ok.stk with e | ⟨e, hf⟩
  · rw [e] at hb; exact List.mem_cons_of_mem _ hb
  · rw [e] at hb
    unfold frs at hb
    rw [List.filterMap_cons, hf] at hb
    exact hb
theorem Inv.stkFree (I : Inv X pins σ H s) : ∀ b ∈ frs X.stack, H b = none := fun b hb => by
  rcases List.mem_cons.mp (I.stkSub b hb) with e | hb
  · rw [e]; exact I.free
  · obtain ⟨_, o, ho, _⟩ := I.ok.funs.mem hb
    exact I.base.free b o ho (I.ok.frf b hb) fun z => I.ok.exfs b z hb
theorem Inv.step {g' : Array GenState} {t' : Nat} {d' : Drawn} {ch : List Addr} (I : Inv X pins σ H s)
    (hch : ∀ b ∈ ch, (b ∈ X.ex ∨ X.s₀.heap.objs.size ≤ b) ∧ b ≠ X.env.locals ∧ (∀ x c, X.env.cells.lookup x = some c → c ≠ b) ∧ ∀ p ∈ X.pn ++ pins, p.1 ≠ b)
    (keep : ∀ b o, b ≠ X.env.locals → b ∉ X.fs → b ∉ ch → s.heap.get? b = some o → H b = none → h'.get? b = some o)
    (slot : ∀ b o, b ≠ X.env.locals → b ∈ X.fs → b ∉ ch → s.heap.get? b = some o → H b = none → ∃ sl, h'.get? b = some { o with slots := sl }) (free : ∀ b o, b ∉ ch → s.heap.get? b = some o → H b = none → H' b = none)
    (there : ∀ b o, b ∉ ch → s.heap.get? b = some o → ∃ o', h'.get? b = some o')
    (tups : ∀ b xs, H b = some (.tup xs) → H' b = some (.tup xs)) (frzs : ∀ b o u, H b = some (.frz o u) → H' b = some (.frz o u)) (tbls : ∀ b ps, H b = some (.tbl ps) → ∃ more, H' b = some (.tbl (ps ++ more)))
    (ns : ∀ m, s.heap.Ns X.env.locals m → h'.Ns X.env.locals m) (hok : HOk X.prog X.w H' h') (hg : AllBare g') :
    Inv X pins σ H' { s with heap := h', gens := g', drawn := d', toks := t' } := by
  have neL : ∀ b o, X.s₀.heap.get? b = some o → b ≠ X.env.locals := fun b o e => Nat.ne_of_lt (Nat.lt_of_lt_of_le (Heap.lt_size e) I.ok.above)
  have neC : ∀ b o, X.s₀.heap.get? b = some o → b ∉ X.ex → b ∉ ch := fun b o e hx hb => by
    rcases (hch b hb).1 with z | z
    · exact hx z
    · exact absurd (Nat.lt_of_lt_of_le (Heap.lt_size e) z) (Nat.lt_irrefl _)
  have cellK : ∀ x c, X.env.cells.lookup x = some c → ∀ v, s.heap.IsCell c v → h'.IsCell c v := fun x c e v ⟨o, ho, hd⟩ => by
    have nch : c ∉ ch := fun z => (hch c z).2.2.1 x c e rfl
    by_cases hc : c ∈ X.fs
    · obtain ⟨sl, q⟩ := slot c o (I.cne x c e) hc nch ho (I.freeC x c e)
      exact ⟨_, q, hd⟩
    · exact ⟨o, keep c o (I.cne x c e) hc nch ho (I.freeC x c e), hd⟩
  refine ⟨I.ok, I.os, hg, ⟨fun b o e n hb hx => ?_, fun b o e n hb hx => ?_, fun b o e n hx => ?_, fun b o e hx => ?_, fun b xs e => tups b xs (I.base.tups b xs e), fun b o xs e => frzs b o xs (I.base.frzs b o xs e), fun b ps e => ?_⟩, ?_, fun x c e => ?_, ?_, fun x c e => ?_, fun p hp => ?_, hok, I.len⟩
  · exact keep b o (neL b o e) hb (neC b o e hx) (I.base.keep b o e n hb hx) (I.base.free b o e n hx)
  · obtain ⟨sl, e1⟩ := I.base.slot b o e n hb hx
    obtain ⟨sl', e2⟩ := slot b _ (neL b o e) hb (neC b o e hx) e1 (I.base.free b o e n hx)
    exact ⟨sl', e2⟩
  · obtain ⟨o', e1⟩ := I.base.there b o e hx
    exact free b o' (neC b o e hx) e1 (I.base.free b o e n hx)
  · obtain ⟨o', e1⟩ := I.base.there b o e hx
    exact there b o' (neC b o e hx) e1
  · obtain ⟨m1, e1⟩ := I.base.tbls b ps e
    obtain ⟨m2, e2⟩ := tbls b _ e1
    exact ⟨m1 ++ m2, by rw [e2, Array.append_assoc]⟩
  · obtain ⟨m, hn, hl⟩ := I.loc
    refine ⟨m, ns m hn, fun i x v e1 e2 e3 => ?_⟩
    obtain ⟨u, r, l⟩ := hl i x v e1 e2 e3
    refine ⟨u, r, ?_⟩
    rcases l with l | ⟨k, c, e, z⟩
    · exact .inl l
    · exact .inr ⟨k, c, e, cellK x c e _ z⟩
  · obtain ⟨v, z⟩ := I.cell x c e
    exact ⟨v, cellK x c e v z⟩
  · obtain ⟨m, ⟨o, _, _, ho, _⟩, _⟩ := I.loc
    exact free _ o (fun z => (hch _ z).2.1 rfl) ho I.free
  · obtain ⟨v, o, ho, hd⟩ := I.cell x c e
    exact free c o (fun z => (hch c z).2.2.1 x c e rfl) ho (I.freeC x c e)
  · obtain ⟨e, n, ne, nf, d⟩ := I.pin p hp
    have nch : p.1 ∉ ch := fun z => (hch p.1 z).2.2.2 p hp rfl
    exact ⟨keep p.1 p.2 ne nf nch e n, free p.1 p.2 nch e n, ne, nf, d⟩
theorem Inv.un {t' : Nat} (I : Inv X pins σ H s) (u : Un X.fs [] H H' s.heap h') (hok : HOk X.prog X.w H' h') : Inv X pins σ H' { s with heap := h', toks := t' } := by
  obtain ⟨m, ⟨o, es, ep, ho, r⟩, _⟩ := id I.loc
  obtain ⟨sl, hL⟩ := u.any ho I.free (by simp)
  exact I.step (g' := s.gens) (d' := s.drawn) (ch := []) (fun _ z => nomatch z) (fun b o _ hb _ e n => u.keep b o e n hb (by simp)) (fun b o _ hb _ e n => u.slot b o e n hb (by simp)) (fun b o _ e n => u.free b o e n (by simp)) (fun b o _ e => u.there b o e (by simp)) u.tups u.frzs u.tbls (fun m' hm => by
    obtain ⟨o', es', ep', ho', r'⟩ := hm
    rw [ho] at ho'; cases ho'
    exact ⟨_, es', ep', hL, r'⟩) hok I.bare
theorem Inv.call {g' : Array GenState} {t' : Nat} {d' : Drawn} {ch : List Addr} (I : Inv X pins σ H s) (u : Un (frs X.stack) ch H H' s.heap h') (hok : HOk X.prog X.w H' h') (hg : AllBare g')
    (hch : ∀ b ∈ ch, (b ∈ X.ex ∨ X.s₀.heap.objs.size ≤ b) ∧ b ≠ X.env.locals ∧ (∀ x c, X.env.cells.lookup x = some c → c ≠ b) ∧ ∀ p ∈ X.pn ++ pins, p.1 ≠ b) :
    Inv X pins σ H' { s with heap := h', gens := g', drawn := d', toks := t' } := by
  obtain ⟨m, ⟨o, es, ep, ho, r⟩, _⟩ := id I.loc
  obtain ⟨sl, hL⟩ := u.any ho I.free fun z => (hch _ z).2.1 rfl
  exact I.step (ch := ch) hch (fun b o hL hb hc e n => u.keep b o e n (fun z => (List.mem_cons.mp (I.stkSub b z)).elim hL hb) hc) (fun b o _ _ hc e n => u.any e n hc) (fun b o hc e n => u.free b o e n hc) (fun b o hc e => u.there b o e hc) u.tups u.frzs u.tbls (fun m' hm => by
    obtain ⟨o', es', ep', ho', r'⟩ := hm
    rw [ho] at ho'; cases ho'
    exact ⟨_, es', ep', hL, r'⟩) hok hg
theorem Inv.turned {t' : Nat} {it : Addr} (I : Inv X pins σ H s) (k : ∀ b o, b ≠ it → s.heap.get? b = some o → h'.get? b = some o) (hn : H it = none) (hL : it ≠ X.env.locals)
    (h1 : it ∈ X.ex ∨ X.s₀.heap.objs.size ≤ it) (h2 : ∀ x c, X.env.cells.lookup x = some c → c ≠ it) (h3 : ∀ p ∈ X.pn ++ pins, p.1 ≠ it) : Inv X pins σ H { s with heap := h', toks := t' } := by
  have nit : ∀ b u, H b = some u → b ≠ it := fun b u e z => by rw [z, hn] at e; cases e
  refine I.step (g' := s.gens) (d' := s.drawn) (ch := [it]) (fun b hb => ?_) (fun b o _ _ hc e _ => k b o (fun z => hc (by simp [z])) e) (fun b o _ _ hc e _ => ⟨o.slots, k b o (fun z => hc (by simp [z])) e⟩) (fun _ _ _ _ n => n)
    (fun b o hc e => ⟨o, k b o (fun z => hc (by simp [z])) e⟩) (fun _ _ e => e) (fun _ _ _ e => e) (fun b ps e => ⟨#[], by rw [e]; simp⟩) (fun m hm => ?_) (fun b u e => ?_) I.bare
  · have e : b = it := by simpa using hb
    subst e
    exact ⟨h1, hL, h2, h3⟩
  · obtain ⟨o, es, ep, ho, r⟩ := hm
    exact ⟨o, es, ep, k _ o (Ne.symm hL) ho, r⟩
  · refine (I.hok b u e).stay (fun c v hc q => k c v ?_ q) (fun _ q => q) fun _ _ q => q
    rcases hc with z | z
    · rw [z]; exact nit b u e
    · exact nit c _ z
theorem Inv.tok (I : Inv X pins σ H s) (t : Nat) : Inv X pins σ H { s with toks := t } := I.un (h' := s.heap) (t' := t) Un.refl I.hok
theorem Inv.kept {t' : Nat} (I : Inv X pins σ H s) (k : ∀ b u, s.heap.get? b = some u → h'.get? b = some u) : Inv X pins σ H { s with heap := h', toks := t' } := I.un (Un.kept k) (I.hok.kept k)
theorem Inv.laid {a : Addr} {o : HO} {t' : Nat} (I : Inv X pins σ H s) (k : ∀ b u, s.heap.get? b = some u → h'.get? b = some u) (hp : s.heap.objs.size ≤ a) (new : wf X.prog X.w (upd H a o) h' a o) :
    Inv X pins σ (upd H a o) { s with heap := h', toks := t' } := I.un (Un.laid k hp (I.hok.fresh hp)) (I.hok.laid k hp new)
theorem Inv.write {x e : Addr} {o : HO} {t' : Nat} (I : Inv X pins σ H s) (mu : Mut (H x)) (he : e = x ∨ H e = some (.own x)) (k : ∀ b u, b ≠ e → s.heap.get? b = some u → h'.get? b = some u) (heo : ∃ u, h'.get? e = some u)
    (new : wf X.prog X.w (upd H x o) h' x o) : Inv X pins σ (upd H x o) { s with heap := h', toks := t' } := I.un (Un.write mu he k heo) (I.hok.write mu he k heo new)
theorem Inv.weak {σ' : List (Option V)} (I : Inv X pins σ H s) (hl : σ'.length = σ.length) (w : ∀ (i : Nat) v, σ'[i]? = some (some v) → σ[i]? = some (some v)) : Inv X pins σ' H s :=
  ⟨I.ok, I.os, I.bare, I.base, let ⟨m, hn, hl'⟩ := I.loc; ⟨m, hn, fun i x v e1 e2 e3 => hl' i x v e1 (w i v e2) e3⟩, I.cell, I.free, I.freeC, I.pin, I.hok, hl.trans I.len⟩
theorem Inv.pins_of {pins' : List (Addr × Obj)} (I : Inv X pins σ H s) (h : ∀ p ∈ pins', s.heap.get? p.1 = some p.2 ∧ H p.1 = none ∧ p.1 ≠ X.env.locals ∧ p.1 ∉ X.fs ∧ ∀ v, p.2.data ≠ .cell v) : Inv X pins' σ H s :=
  ⟨I.ok, I.os, I.bare, I.base, I.loc, I.cell, I.free, I.freeC, fun p hp => (List.mem_append.mp hp).elim (fun z => I.pin p (List.mem_append_left _ z)) (h p), I.hok, I.len⟩
theorem V8 {N : List Str} (hN : N.Nodup) {i j : Nat} {x : Str} (a : N[i]? = some x) (b : N[j]? = some x) : i = j := by
  obtain ⟨h1, e1⟩ := List.getElem?_eq_some_iff.mp a
  obtain ⟨h2, e2⟩ := List.getElem?_eq_some_iff.mp b
  exact (List.getElem_inj hN).mp (e1.trans e2.symm)
theorem za8 {M : Model} {A : Around} {E : Value → Shared → Prop} {i : Nat} {x : Str} {v : V} {u : Value} {Q : Unit → Shared → Prop} (I : Inv X pins σ H s) (hN : X.N.Nodup) (hi : X.N[i]? = some x) (hx : Loc X.env.scope x) (r : xJ v u)
    (h : ∀ s', Inv X pins (σ.set i (some v)) H s' → (∃ a, Heap.SameBut a s.heap s'.heap ∧ (a = X.env.locals ∨ X.env.cells.lookup x = some a)) → Q () s') (hf : X.fn x = true ∨ X.env.scope.names.lookup x = some .local := by first | exact .inl rfl | exact .inr rfl | assumption) : wpAny M A (storeName X.env x u) Q E s := by
  obtain ⟨m, hn, hl⟩ := id I.loc
  have hcls : (X.env.scope.kind == .class || (X.env.scope.kind == .module && X.env.locals != X.env.globals)) = false := by rw [I.ok.kind]; rfl
  have hiσ : i < σ.length := by rw [I.len]; exact (List.getElem?_eq_some_iff.mp hi).1
  have cne := I.cne
  have tracked : ∀ {a : Addr} {h' : Heap}, (∃ o, s.heap.get? a = some o ∧ H a = none) → Heap.SameBut a s.heap h' → HOk X.prog X.w H h' := fun {a h'} ha hs b ob e => by
    obtain ⟨_, _, hfree⟩ := ha
    refine (I.hok b ob e).stay (fun c w' hc q => (hs.2 c ?_).trans q) (fun _ q => q) fun _ _ q => q
    rintro rfl
    rcases hc with rfl | hc
    · rw [hfree] at e; cases e
    · rw [hfree] at hc; cases hc
  rcases hx with hk | hk
  · refine wpAny_storeName_local hk hn (fun h' hn' hs => ?_) hcls
    obtain ⟨oL, _, _, hoL, _⟩ := id hn
    refine h _ ⟨I.ok, I.os, I.bare, ⟨fun b o e n hb hx => ?_, fun b o e n hb hx => ?_, I.base.free, fun b o e hx => ?_, I.base.tups, I.base.frzs, I.base.tbls⟩, ⟨_, hn', fun j y v' e1 e2 e3 => ?_⟩, fun y c e => ?_, I.free, I.freeC, fun p hp => ?_, tracked ⟨oL, hoL, I.free⟩ hs, by simpa using I.len⟩ ⟨_, hs, .inl rfl⟩
    · exact (hs.2 b (Nat.ne_of_lt (Nat.lt_of_lt_of_le (Heap.lt_size e) I.ok.above))).trans (I.base.keep b o e n hb hx)
    · obtain ⟨sl, e1⟩ := I.base.slot b o e n hb hx
      exact ⟨sl, (hs.2 b (Nat.ne_of_lt (Nat.lt_of_lt_of_le (Heap.lt_size e) I.ok.above))).trans e1⟩
    · obtain ⟨o', e1⟩ := I.base.there b o e hx
      exact ⟨o', (hs.2 b (Nat.ne_of_lt (Nat.lt_of_lt_of_le (Heap.lt_size e) I.ok.above))).trans e1⟩
    · by_cases hj : j = i
      · subst hj
        rw [hi] at e1; cases e1
        rw [List.getElem?_set_self hiσ] at e2
        cases e2
        exact ⟨u, r, .inl ⟨hk, by simp⟩⟩
      · rw [List.getElem?_set_ne (Ne.symm hj)] at e2
        obtain ⟨u', r', q⟩ := hl j y v' e1 e2 e3
        refine ⟨u', r', ?_⟩
        rcases q with ⟨k, e⟩ | ⟨k, c, e, z⟩
        · refine .inl ⟨k, ?_⟩
          have : y ≠ x := fun e => hj (V8 hN e1 (e ▸ hi))
          simp [this, e]
        · exact .inr ⟨k, c, e, z.sameBut hs (cne y c e)⟩
    · obtain ⟨w', z⟩ := I.cell y c e
      exact ⟨w', z.sameBut hs (cne y c e)⟩
    · obtain ⟨e, n, ne, nf, d⟩ := I.pin p hp
      exact ⟨(hs.2 p.1 ne).trans e, n, ne, nf, d⟩
  · have hfn : X.fn x = true := by
      rcases hf with z | z
      · exact z
      · rw [z] at hk; cases hk
    obtain ⟨c, hc⟩ := I.ok.has x (.inl hk)
    obtain ⟨w', z⟩ := I.cell x c hc
    refine wpAny_storeName_cell I.ok.kind hk hc z (fun h' hc' hs => ?_)
    obtain ⟨oc, hoc, hocd⟩ := id z
    refine h { s with heap := h' } ⟨I.ok, I.os, I.bare, ⟨fun b o e n hb hx => ?_, fun b o e n hb hx => ?_, I.base.free, fun b o e hx => ?_, I.base.tups, I.base.frzs, I.base.tbls⟩, ⟨m, hn.sameBut hs (Ne.symm (cne x c hc)), fun j y v' e1 e2 e3 => ?_⟩, fun y c' e => ?_, I.free, I.freeC, fun p hp => ?_, tracked ⟨oc, hoc, I.freeC x c hc⟩ hs, by simpa using I.len⟩ ⟨c, hs, .inr hc⟩
    · exact (hs.2 b (Nat.ne_of_lt (Nat.lt_of_lt_of_le (Heap.lt_size e) (I.ok.cab x c hfn hc)))).trans (I.base.keep b o e n hb hx)
    · obtain ⟨sl, e1⟩ := I.base.slot b o e n hb hx
      exact ⟨sl, (hs.2 b (Nat.ne_of_lt (Nat.lt_of_lt_of_le (Heap.lt_size e) (I.ok.cab x c hfn hc)))).trans e1⟩
    · obtain ⟨o', e1⟩ := I.base.there b o e hx
      exact ⟨o', (hs.2 b (Nat.ne_of_lt (Nat.lt_of_lt_of_le (Heap.lt_size e) (I.ok.cab x c hfn hc)))).trans e1⟩
    · by_cases hj : j = i
      · subst hj
        rw [hi] at e1; cases e1
        rw [List.getElem?_set_self hiσ] at e2
        cases e2
        exact ⟨u, r, .inr ⟨.inl hk, c, hc, hc'⟩⟩
      · rw [List.getElem?_set_ne (Ne.symm hj)] at e2
        obtain ⟨u', r', q⟩ := hl j y v' e1 e2 e3
        refine ⟨u', r', ?_⟩
        rcases q with q | ⟨k, c', e, z'⟩
        · exact .inl q
        · refine .inr ⟨k, c', e, z'.sameBut hs ?_⟩
          rintro rfl
          exact hj (V8 hN e1 (I.ok.inj _ _ _ e hc ▸ hi))
    · by_cases hcc : c' = c
      · subst hcc; exact ⟨_, hc'⟩
      · obtain ⟨w2, z2⟩ := I.cell y c' e
        exact ⟨w2, z2.sameBut hs hcc⟩
    · obtain ⟨e, n, ne, nf, d⟩ := I.pin p hp
      refine ⟨(hs.2 p.1 ?_).trans e, n, ne, nf, d⟩
      intro q
      rw [q, hoc] at e
      have q' : oc = p.2 := Option.some.inj e
      exact d w' (by rw [← q']; exact hocd)
theorem VY {M : Model} {A : Around} {E : Value → Shared → Prop} {i : Nat} {x : Str} {v : V} {u : Value} {Q : Unit → Shared → Prop} (I : Inv X pins σ H s) (hN : X.N.Nodup) (hi : X.N[i]? = some x) (hx : Loc X.env.scope x) (r : xJ v u)
    (h : ∀ s', Inv X pins (σ.set i (some v)) H s' → Q () s') (hf : X.fn x = true ∨ X.env.scope.names.lookup x = some .local := by first | exact .inl rfl | exact .inr rfl | assumption) : wpAny M A (storeName X.env x u) Q E s :=
  za8 I hN hi hx r (fun s' I' _ => h s' I') hf
theorem Inv.call' {s' : Shared} {ch : List Addr} (I : Inv X pins σ H s) (ho : s'.os = s.os) (u : Un (frs X.stack) ch H H' s.heap s'.heap) (hok : HOk X.prog X.w H' s'.heap) (hg : AllBare s'.gens)
    (hch : ∀ b ∈ ch, (b ∈ X.ex ∨ X.s₀.heap.objs.size ≤ b) ∧ b ≠ X.env.locals ∧ (∀ x c, X.env.cells.lookup x = some c → c ≠ b) ∧ ∀ p ∈ X.pn ++ pins, p.1 ≠ b) : Inv X pins σ H' s' := by
  obtain ⟨h', g', d', t', o'⟩ := s'
  have e : o' = s.os := ho
  subst e
  exact I.call (g' := g') (t' := t') (d' := d') u hok hg hch
end
noncomputable abbrev XK := Value → Option Addr → Hp → Prop
noncomputable abbrev St := List (Option V)
noncomputable abbrev VK := V → Hp → Prop
noncomputable abbrev TE := St → Hp → VK → Prop
noncomputable abbrev TT := St → Hp → (Bool → Hp → Prop) → Prop
noncomputable abbrev TA := St → Hp → (List V → Hp → Prop) → Prop
structure zaT where
  nx : St → Hp → Prop
  rt : VK
  bk : St → Hp → Prop := fun _ _ => False
  ct : St → Hp → Prop := fun _ _ => False
noncomputable abbrev TS := zaT → St → Hp → Prop
noncomputable def EP (X : Cx) (pins : List (Addr × Obj)) (σ : St) (Q : VK) (u : Value) (s' : Shared) : Prop := ∃ v H', Inv X pins σ H' s' ∧ xJ v u ∧ Q v H'
noncomputable def TP (X : Cx) (pins : List (Addr × Obj)) (σ : St) (Q : Bool → Hp → Prop) (b : Bool) (s' : Shared) : Prop := ∃ H', Inv X pins σ H' s' ∧ Q b H'
noncomputable def AP (X : Cx) (pins : List (Addr × Obj)) (σ : St) (Q : List V → Hp → Prop) (us : List Value) (s' : Shared) : Prop := ∃ vs H', Inv X pins σ H' s' ∧ yg vs us ∧ Q vs H'
noncomputable def SP (X : Cx) (pins : List (Addr × Obj)) (D : zaT) (f : Flow) (s' : Shared) : Prop :=
  match f with
  | .next => ∃ σ' H', Inv X pins σ' H' s' ∧ D.nx σ' H'
  | .brk => ∃ σ' H', Inv X pins σ' H' s' ∧ D.bk σ' H'
  | .cont => ∃ σ' H', Inv X pins σ' H' s' ∧ D.ct σ' H'
  | .ret u => ∃ v σ' H', Inv X pins σ' H' s' ∧ xJ v u ∧ D.rt v H'
noncomputable def PE (X : Cx) (e : Expr) (t : TE) : Prop :=
  ∀ (pins : List (Addr × Obj)) (s : Shared) (σ : St) (H : Hp) (Q : VK), Inv X pins σ H s → t σ H Q → wpAny (model X.prog X.w) X.A (eval e X.env) (EP X pins σ Q) X.xe s
noncomputable def PT (X : Cx) (e : Expr) (t : TT) : Prop :=
  ∀ (pins : List (Addr × Obj)) (s : Shared) (σ : St) (H : Hp) (Q : Bool → Hp → Prop), Inv X pins σ H s → t σ H Q → wpAny (model X.prog X.w) X.A (isTrue e X.env (eval e X.env)) (TP X pins σ Q) X.xe s
noncomputable def PW (X : Cx) (e : Expr) (t : TT) : Prop :=
  ∀ (whole : Sem Value) (pins : List (Addr × Obj)) (s : Shared) (σ : St) (H : Hp) (Q : Bool → Hp → Prop), Inv X pins σ H s → t σ H Q → wpAny (model X.prog X.w) X.A (isTrue e X.env whole) (TP X pins σ Q) X.xe s
theorem PW.pt {X : Cx} {e : Expr} {t : TT} (h : PW X e t) : PT X e t := h _
noncomputable def PA (X : Cx) (es : List Expr) (t : TA) : Prop :=
  ∀ (pos : Pos) (pins : List (Addr × Obj)) (s : Shared) (σ : St) (H : Hp) (Q : List V → Hp → Prop), Inv X pins σ H s → t σ H Q → wpAny (model X.prog X.w) X.A (spliced (backTo pos (starEach es X.env))) (AP X pins σ Q) X.xe s
noncomputable def PS (X : Cx) (st : Stmt) (t : TS) : Prop :=
  ∀ (pins : List (Addr × Obj)) (s : Shared) (σ : St) (H : Hp) (D : zaT), Inv X pins σ H s → t D σ H → wpAny (model X.prog X.w) X.A (exec st X.env) (SP X pins D) X.xe s
noncomputable def PSs (X : Cx) (st : List Stmt) (t : TS) : Prop :=
  ∀ (pins : List (Addr × Obj)) (s : Shared) (σ : St) (H : Hp) (D : zaT), Inv X pins σ H s → t D σ H → wpAny (model X.prog X.w) X.A (execs st X.env) (SP X pins D) X.xe s
theorem thn {α : Type} {t : Sem α} {Q Q' : α → Shared → Prop} {M : Model} {A : Around} {E : Value → Shared → Prop} {s : Shared} (h : wpAny M A t Q E s) (hQ : ∀ a s, Q a s → Q' a s) : wpAny M A t Q' E s := wpAny_mono h hQ fun _ _ x => x
end L2
namespace L2
open PySem PySem.Spec PyProof.Rows
section
variable {X : Cx}
theorem bin {a b : Expr} {ta tb : TE} (ha : PE X a ta) (hb : PE X b tb) {pins : List (Addr × Obj)} {s : Shared} {σ : St} {H : Hp} {R : V → V → Hp → Prop} (I : Inv X pins σ H s) (h : ta σ H fun x H1 => tb σ H1 fun y H2 => R x y H2)
    {α : Type} {Q : α → Shared → Prop} {f : Value → Value → Sem α}
    (hf : ∀ v u s2 x y H2, Inv X pins σ H2 s2 → xJ x v → xJ y u → R x y H2 → wpAny (model X.prog X.w) X.A (f v u) Q X.xe s2) :
    wpAny (model X.prog X.w) X.A (eval a X.env) (fun v s₁ => wpAny (model X.prog X.w) X.A (eval b X.env) (fun u s₂ => wpAny (model X.prog X.w) X.A (f v u) Q X.xe s₂) X.xe s₁) X.xe s := by
  refine thn (ha pins s σ H _ I h) fun v s1 hh9 => ?_
  obtain ⟨x, H1, I1, r1, q1⟩ := hh9
  refine thn (hb pins s1 σ H1 _ I1 q1) fun u s2 hh9 => ?_
  obtain ⟨y, H2, I2, r2, q2⟩ := hh9
  exact hf v u s2 x y H2 I2 r1 r2 q2
noncomputable def zdQ (i : Nat) : TE := fun σ H Q => ∃ v, σ[i]? = some (some v) ∧ Q v H
noncomputable def tC (v : V) : TE := fun _ H Q => Q v H
theorem zeX {i : Nat} {x : Str} {pos : Pos} (hN : X.N[i]? = some x) (hv : Vis X.env.scope x) (hd : (x == ("__debug__" : Str)) = false := by decide) (hcd : (x == ("__classdict__" : Str)) = false := by decide) : PE X (.Name x pos) (zdQ i) := by
  intro pins s σ H Q I h
  obtain ⟨v, e, h⟩ := h
  obtain ⟨m, hn, hl⟩ := I.loc
  obtain ⟨u, r, l⟩ := hl i x v hN e hv
  have fin : EP X pins σ Q u s := ⟨v, H, I, r, h⟩
  rcases l with ⟨hk, hm⟩ | ⟨hk, c, hc, hcell⟩
  · exact wpAny_Name (wpAny_loadName_local I.ok.kind hk hn hm fin) hd
  · rcases hk with hk | hk
    · exact wpAny_Name (wpAny_loadName_cell I.ok.kind hk hc hcell fin) hd
    · exact wpAny_Name (wpAny_loadName_free I.ok.kind hk hc hcell fin hcd) hd
theorem zi {i j pos} : PE X (.Constant (.int i) j pos) (tC (.int i)) := fun _ _ _ H _ I h => wpAny_Constant_int ⟨.int i, H, I.tok _, ⟨_, rfl⟩, h⟩
theorem vP {b j pos} : PE X (.Constant (.bool b) j pos) (tC (.bl b)) := fun _ _ _ H _ I h => Constant_bool ⟨.bl b, H, I, rfl, h⟩
theorem vJ {j pos} : PE X (.Constant .none j pos) (tC .non) := fun _ _ _ H _ I h => Constant_none ⟨.non, H, I, rfl, h⟩
theorem vK {x j pos} : PE X (.Constant (.str x) j pos) (tC (.str x)) := fun _ _ _ H _ I h => Calls.Constant_str ⟨.str x, H, I.tok _, ⟨_, rfl⟩, h⟩
noncomputable def Gl (X : Cx) (x : Str) : Prop := X.env.kindOf x = some .globalImplicit
theorem W2 {E : Value → Shared → Prop} {pins : List (Addr × Obj)} {s : Shared} {σ : St} {H : Hp} {x : Str} {u : Value} {pos : Pos} {Q : Value → Shared → Prop} (I : Inv X pins σ H s) (hg : Gl X x) (hm : X.mg x = some u) (h : Q u s)
    (hd : (x == ("__debug__" : Str)) = false := by decide) : wpAny (model X.prog X.w) X.A (eval (.Name x pos) X.env) Q E s :=
  Calls.Name_function_global I.ok.kind hg (Calls.loadGlobal_global (by rw [I.ok.glob]; exact I.mod.glob.keeps I.bk) hm h) hd
theorem vA {E : Value → Shared → Prop} {pins : List (Addr × Obj)} {s : Shared} {σ : St} {H : Hp} {x : Str} {u : Value} {pos : Pos} {Q : Value → Shared → Prop} (I : Inv X pins σ H s) (hg : Gl X x) (hm : X.mg x = none) (hv : bootBuiltins x = some u) (h : Q u s)
    (hn : x ≠ "__name__" := by decide) (hd : (x == ("__debug__" : Str)) = false := by decide) : wpAny (model X.prog X.w) X.A (eval (.Name x pos) X.env) Q E s := by
  obtain ⟨mb, h1, h2⟩ := I.mod.blt
  exact Calls.Name_function_global I.ok.kind hg (Calls.loadGlobal_builtin (by rw [I.ok.glob]; exact I.mod.glob.keeps I.bk) hm (by rw [I.ok.blt]; exact h1.keeps I.bk) ((h2 x hn).trans hv) h) hd
theorem VD {x : Str} {v : V} {u : Value} {pos : Pos} (hg : Gl X x) (hm : X.mg x = some u) (r : xJ v u) (hd : (x == ("__debug__" : Str)) = false := by decide) : PE X (.Name x pos) (tC v) :=
  fun _ _ _ H _ I h => W2 I hg hm ⟨v, H, I, r, h⟩ hd
theorem yp {x : Str} {v : V} {u : Value} {pos : Pos} (hg : Gl X x) (hm : X.mg x = none) (hv : bootBuiltins x = some u) (r : xJ v u) (hn : x ≠ "__name__" := by decide) (hd : (x == ("__debug__" : Str)) = false := by decide) : PE X (.Name x pos) (tC v) :=
  fun _ _ _ H _ I h => vA I hg hm hv ⟨v, H, I, r, h⟩ hn hd
variable {a b : Expr} {ta tb : TE} {pos : Pos}
noncomputable def PC (X : Cx) (op : CmpOp) (a b : Expr) (t : TE) : Prop :=
  ∀ (pins : List (Addr × Obj)) (s : Shared) (σ : St) (H : Hp) (Q : VK), Inv X pins σ H s → t σ H Q →
    wpAny (model X.prog X.w) X.A (eval a X.env) (fun v s₁ => wpAny (model X.prog X.w) X.A (eval b X.env) (fun u s₂ => wpAny (model X.prog X.w) X.A (compareOp op v u) (EP X pins σ Q) X.xe s₂) X.xe s₁) X.xe s
theorem zcM (b : Expr) {op : CmpOp} (h : op ≠ .In) (h2 : op ≠ .NotIn) : behindInMarks op b = false := by
  have e1 : (op == CmpOp.In) = false := by cases op <;> first | rfl | exact absurd rfl h
  have e2 : (op == CmpOp.NotIn) = false := by cases op <;> first | rfl | exact absurd rfl h2
  cases b <;> simp [behindInMarks, e1, e2]
noncomputable def tB (t : TE) : TT := fun σ H Q => t σ H fun x H1 => ∃ c, x = .bl c ∧ Q c H1
theorem pt_cmp {op : CmpOp} {t : TE} (h : PC X op a b t) (h1 : behindInMarks op b = false := by first | exact zcM _ (by decide) (by decide) | rfl) : PT X (.Compare a [op] [b] pos) (tB t) := by
  intro pins s σ H Q I hw
  refine wpAny_isTrue_Compare1 (thn (h pins s σ H _ I hw) fun v s1 h1 => thn h1 fun u s2 h2 => thn h2 fun c s3 hh9 => ?_) h1
  obtain ⟨x, H1, I1, r1, q1⟩ := hh9
  obtain ⟨d, rfl, q⟩ := q1
  cases r1
  exact wpAny_truthy_bool ⟨H1, I1, q⟩
theorem zfa {e : Expr} {t : TE} (h : PE X e t) (he : ∀ whole, isTrue e X.env whole = (do let v ← whole; standAt e.pos; holding [v] (truthy v)) := by intro _; rfl) : PT X e (tB t) := by
  intro pins s σ H Q I hw
  refine isTrue_plain (thn (h pins s σ H _ I hw) fun v s1 hh9 => ?_) (he _)
  obtain ⟨x, H1, I1, r1, q1⟩ := hh9
  obtain ⟨d, rfl, q⟩ := q1
  cases r1
  exact wpAny_truthy_bool ⟨H1, I1, q⟩
variable {tA tB' : TT} {rest : List Expr}
noncomputable def tAnd (t u : TT) : TT := fun σ H Q => t σ H fun c H1 => if c = true then u σ H1 Q else Q false H1
noncomputable def tOr (t u : TT) : TT := fun σ H Q => t σ H fun c H1 => if c = true then Q true H1 else u σ H1 Q
noncomputable def tNot (t : TT) : TT := fun σ H Q => t σ H fun c H1 => Q (!c) H1
theorem zdR (ha : PT X a tA) : PW X (.BoolOp .And [a] pos) tA := by
  intro wh pins s σ H Q I h
  refine isTrue_and (thn (ha pins s σ H Q I h) fun c s1 e => ?_)
  cases c with
  | true => exact isTrue_and_nil e
  | false => exact e
theorem zfg (ha : PT X a tA) : PW X (.BoolOp .Or [a] pos) tA := by
  intro wh pins s σ H Q I h
  refine isTrue_or (thn (ha pins s σ H Q I h) fun c s1 e => ?_)
  cases c with
  | false => exact isTrue_or_nil e
  | true => exact e
theorem zfH (ha : PT X a tA) (hb : PW X (.BoolOp .And (b :: rest) pos) tB') : PW X (.BoolOp .And (a :: b :: rest) pos) (tAnd tA tB') := by
  intro wh pins s σ H Q I h
  refine isTrue_and (thn (ha pins s σ H _ I h) fun c s1 hh9 => ?_)
  obtain ⟨H1, I1, q1⟩ := hh9
  cases c with
  | true => exact hb wh pins s1 σ H1 Q I1 q1
  | false => exact ⟨H1, I1, q1⟩
theorem zhk (ha : PT X a tA) (hb : PW X (.BoolOp .Or (b :: rest) pos) tB') : PW X (.BoolOp .Or (a :: b :: rest) pos) (tOr tA tB') := by
  intro wh pins s σ H Q I h
  refine isTrue_or (thn (ha pins s σ H _ I h) fun c s1 hh9 => ?_)
  obtain ⟨H1, I1, q1⟩ := hh9
  cases c with
  | true => exact ⟨H1, I1, q1⟩
  | false => exact hb wh pins s1 σ H1 Q I1 q1
theorem zf5 (ha : PT X a tA) : PT X (.UnaryOp .Not a pos) (tNot tA) := by
  intro pins s σ H Q I h
  exact isTrue_not (ha pins s σ H (fun c H1 => Q (!c) H1) I h)
noncomputable def zgZ (ta tb : TE) : TE := fun σ H Q => ta σ H fun x H1 => ∃ c, x = .bl c ∧ if c = true then tb σ H1 Q else Q (.bl false) H1
noncomputable def tOrV (ta tb : TE) : TE := fun σ H Q => ta σ H fun x H1 => ∃ c, x = .bl c ∧ if c = true then Q (.bl true) H1 else tb σ H1 Q
noncomputable def zg2 (ta : TE) : TE := fun σ H Q => ta σ H fun x H1 => ∃ c, x = .bl c ∧ Q (.bl (!c)) H1
theorem zfL {op} {t : TE} (h : PE X a t) : PE X (.BoolOp op [a] pos) t := fun pins s σ H Q I hw => BoolOp_one (h pins s σ H Q I hw)
theorem zfT (ha : PE X a ta) (hb : PE X (.BoolOp .And (b :: rest) pos) tb) : PE X (.BoolOp .And (a :: b :: rest) pos) (zgZ ta tb) := by
  intro pins s σ H Q I h
  refine BoolOp_and (thn (ha pins s σ H _ I h) fun v s1 hh9 => ?_)
  obtain ⟨x, H1, I1, r1, q1⟩ := hh9
  obtain ⟨c, rfl, q1⟩ := q1
  cases r1
  refine wpAny_truthy_bool ?_
  cases c with
  | true => exact hb pins s1 σ H1 Q I1 q1
  | false => exact ⟨.bl false, H1, I1, rfl, q1⟩
theorem zhm (ha : PE X a ta) (hb : PE X (.BoolOp .Or (b :: rest) pos) tb) : PE X (.BoolOp .Or (a :: b :: rest) pos) (tOrV ta tb) := by
  intro pins s σ H Q I h
  refine BoolOp_or (thn (ha pins s σ H _ I h) fun v s1 hh9 => ?_)
  obtain ⟨x, H1, I1, r1, q1⟩ := hh9
  obtain ⟨c, rfl, q1⟩ := q1
  cases r1
  refine wpAny_truthy_bool ?_
  cases c with
  | false => exact hb pins s1 σ H1 Q I1 q1
  | true => exact ⟨.bl true, H1, I1, rfl, q1⟩
theorem zgp (ha : PE X a ta) : PE X (.UnaryOp .Not a pos) (zg2 ta) := by
  intro pins s σ H Q I h
  refine UnaryOp_ (thn (ha pins s σ H _ I h) fun v s1 hh9 => ?_)
  obtain ⟨x, H1, I1, r1, q1⟩ := hh9
  obtain ⟨c, rfl, q1⟩ := q1
  cases r1
  exact not_of (wpAny_truthy_bool ⟨.bl (!c), H1, I1, rfl, q1⟩)
end
end L2
namespace L2
open PySem PySem.Spec PyProof.Rows
noncomputable def SqL (K : PySem.W.Frag) (H : Hp) (a : Addr) (xs : List V) : Prop :=
  Rd H a (.lst xs) ∨
    ∃ (o : Obj) (its : Array Value) (n : Nat), K.lookup a = some o ∧ o.cls = .type "list" ∧ o.dict = none ∧ o.data = .seq its n ∧ its.size ≤ sizeLine ∧ yg xs its.toList
noncomputable def SqT (K : PySem.W.Frag) (H : Hp) (a : Addr) (xs : List V) : Prop :=
  Rd H a (.tup xs) ∨
    ∃ (o : Obj) (its : Array Value) (n : Nat), K.lookup a = some o ∧ o.cls = .type "tuple" ∧ o.data = .seq its n ∧ its.size ≤ sizeLine ∧ yg xs its.toList
noncomputable def absV : Value → Option V
  | .none => some .non
  | .bool b => some (.bl b)
  | .int i _ => some (.int i)
  | .str x _ => some (.str x)
  | .bytes b _ => some (.byt b)
  | .float b _ => some (.flt b)
  | .ref a => some (.ref a)
  | .type n => some (.ty n)
  | _ => none
theorem xJ.abs {x : V} {u : Value} (r : xJ x u) : absV u = some x := by
  cases x with
  | non => cases r; rfl
  | bl _ => cases r; rfl
  | int _ => obtain ⟨t, rfl⟩ := r; rfl
  | str _ => obtain ⟨t, rfl⟩ := r; rfl
  | byt _ => obtain ⟨t, rfl⟩ := r; rfl
  | flt _ => obtain ⟨t, rfl⟩ := r; rfl
  | ref _ => cases r; rfl
  | ty _ => cases r; rfl
theorem xJ.inj {x y : V} {u : Value} (r : xJ x u) (q : xJ y u) : x = y := Option.some.inj (r.abs.symm.trans q.abs)
theorem yg.inj : ∀ {xs ys : List V} {us : List Value}, yg xs us → yg ys us → xs = ys := by
  intro xs ys us h
  induction h generalizing ys with
  | nil => intro h2; cases h2; rfl
  | cons r t ih => intro h2; cases h2 with | cons r' t' => rw [r.inj r', ih t']
section
variable {X : Cx} {pins : List (Addr × Obj)} {σ : St} {H : Hp} {s : Shared} {a : Addr} {xs ys : List V}
theorem SqL.of {K : PySem.W.Frag} (h : H a = some (.lst xs)) : SqL K H a xs := .inl (.inl h)
theorem SqT.of {K : PySem.W.Frag} (h : H a = some (.tup xs)) : SqT K H a xs := .inl (.inl h)
theorem Inv.list (I : Inv X pins σ H s) (h : SqL X.K H a xs) : ∃ its : List Value, yg xs its ∧ PlainL s.heap a its.toArray ∧ xs.length ≤ sizeLine := by
  rcases h with h | ⟨o, its, n, hk, hc, hd, hs, hz, r⟩
  · obtain ⟨z, its, n, r, e⟩ := h.ok I.hok
    exact ⟨its, r, ⟨_, n, e, rfl, rfl, rfl⟩, z⟩
  · refine ⟨its.toList, r, ⟨o, n, I.kIn a o hk, hc, hd, by simpa using hs⟩, ?_⟩
    have e := r.length
    simp only [Array.length_toList] at e
    omega
theorem Inv.tuple (I : Inv X pins σ H s) (h : SqT X.K H a xs) : ∃ its : List Value, yg xs its ∧ IsTup s.heap a its.toArray ∧ xs.length ≤ sizeLine := by
  rcases h with h | ⟨o, its, n, hk, hc, hs, hz, r⟩
  · obtain ⟨z, its, r, p⟩ := h.ok I.hok
    exact ⟨its, r, p, z⟩
  · refine ⟨its.toList, r, ⟨o, I.kIn a o hk, hc, n, by simpa using hs⟩, ?_⟩
    have e := r.length
    simp only [Array.length_toList] at e
    omega
theorem Inv.list_inj (I : Inv X pins σ H s) (h : SqL X.K H a xs) (h' : SqL X.K H a ys) : xs = ys := by
  obtain ⟨its, r, ⟨o, n, e, _, _, d⟩, _⟩ := I.list h
  obtain ⟨its', r', ⟨o', n', e', _, _, d'⟩, _⟩ := I.list h'
  rw [e] at e'; cases e'
  rw [d] at d'
  injection d' with d1 _
  have : its = its' := by simpa using congrArg Array.toList d1
  subst this
  exact r.inj r'
theorem Inv.tuple_inj (I : Inv X pins σ H s) (h : SqT X.K H a xs) (h' : SqT X.K H a ys) : xs = ys := by
  obtain ⟨its, r, ⟨o, e, _, n, d⟩, _⟩ := I.tuple h
  obtain ⟨its', r', ⟨o', e', _, n', d'⟩, _⟩ := I.tuple h'
  rw [e] at e'; cases e'
  rw [d] at d'
  injection d' with d1 _
  have : its = its' := by simpa using congrArg Array.toList d1
  subst this
  exact r.inj r'
end
noncomputable abbrev Cx.wish (X : Cx) (E : Value → Shared → Prop) : Cx := { X with xe := E }
noncomputable abbrev Cx.nox (X : Cx) : Cx := X.wish fun _ _ => False
theorem Cx.Ok.wish {X : Cx} (ok : X.Ok) (E : Value → Shared → Prop) : (X.wish E).Ok :=
  ⟨ok.mod, ok.kind, ok.glob, ok.blt, ok.above, ok.inj, ok.has, ok.cab, ok.hd, ok.frames, ok.stk, ok.exf, ok.bs, ok.bsz, ok.noex, ok.exfs, ok.funs, ok.frf⟩
theorem Cx.Ok.unwish {X : Cx} {E : Value → Shared → Prop} (ok : (X.wish E).Ok) : X.Ok :=
  ⟨ok.mod, ok.kind, ok.glob, ok.blt, ok.above, ok.inj, ok.has, ok.cab, ok.hd, ok.frames, ok.stk, ok.exf, ok.bs, ok.bsz, ok.noex, ok.exfs, ok.funs, ok.frf⟩
section
variable {X : Cx} {pins : List (Addr × Obj)} {σ : St} {H : Hp} {s : Shared} {E : Value → Shared → Prop}
theorem Inv.wish (I : Inv X pins σ H s) (E : Value → Shared → Prop) : Inv (X.wish E) pins σ H s := ⟨I.ok.wish E, I.os, I.bare, I.base, I.loc, I.cell, I.free, I.freeC, I.pin, I.hok, I.len⟩
theorem Inv.unwish (I : Inv (X.wish E) pins σ H s) : Inv X pins σ H s := ⟨I.ok.unwish, I.os, I.bare, I.base, I.loc, I.cell, I.free, I.freeC, I.pin, I.hok, I.len⟩
theorem SP.unwish {D : zaT} {f : Flow} {s' : Shared} (h : SP (X.wish E) pins D f s') : SP X pins D f s' := by
  cases f with
  | next => obtain ⟨σ', H', I, q⟩ := h; exact ⟨σ', H', I.unwish, q⟩
  | brk => obtain ⟨σ', H', I, q⟩ := h; exact ⟨σ', H', I.unwish, q⟩
  | cont => obtain ⟨σ', H', I, q⟩ := h; exact ⟨σ', H', I.unwish, q⟩
  | ret u => obtain ⟨v, σ', H', I, r, q⟩ := h; exact ⟨v, σ', H', I.unwish, r, q⟩
theorem PSs.nox {st : List Stmt} {t : TS} (h : PSs X.nox st t) : PSs X st t := fun pins s σ H D I hw =>
  wpAny_mono (h pins s σ H D (I.wish _) hw) (fun _ _ q => q.unwish) fun _ _ z => False.elim z
end
section
variable {X : Cx} {st : Stmt} {rest : List Stmt} {t u : TS} {e : Expr} {te : TE} {pos : Pos}
noncomputable def zgJ : TS := fun D σ H => D.nx σ H
noncomputable def tSeq (t u : TS) : TS := fun D σ H => t { D with nx := u D } σ H
theorem za9 : PSs X [] zgJ := fun _ _ σ H _ I h => wpAny_execs_nil ⟨σ, H, I, h⟩
theorem XR (h1 : PS X st t) (h2 : PSs X rest u) : PSs X (st :: rest) (tSeq t u) := by
  intro pins s σ H D I h
  refine wpAny_execs_cons (thn (h1 pins s σ H { D with nx := u D } I h) fun f s1 q => ?_)
  cases f with
  | next =>
    obtain ⟨σ', H', I', q⟩ := q
    exact h2 pins s1 σ' H' D I' q
  | ret v => exact q
  | brk => exact q
  | cont => exact q
theorem Vf (h1 : PS X st t) : PSs X [st] t := by
  intro pins s σ H D I h
  refine wpAny_execs_cons (thn (h1 pins s σ H D I h) fun f s1 q => ?_)
  cases f with
  | next => exact wpAny_execs_nil q
  | ret v => exact q
  | brk => exact q
  | cont => exact q
theorem Inv.quiet {pins : List (Addr × Obj)} {σ : St} {H : Hp} {s : Shared} (I : Inv X pins σ H s) : interactive X.env = false := by simp [interactive, I.ok.kind]
noncomputable def zha (te : TE) : TS := fun D σ H => te σ H fun _ H1 => D.nx σ H1
theorem Vj (he : PE X e te) (hs : swapsWith e none pos.line X.env = pure false := by rfl) : PS X (.Expr e pos) (zha te) := by
  intro pins s σ H D I h
  exact wpAny_Expr_any (thn (he pins s σ H _ I h) fun v s1 ⟨x, H1, I1, r1, q1⟩ => ⟨σ, H1, I1, q1⟩) I.quiet hs
noncomputable def tRet (te : TE) : TS := fun D σ H => te σ H D.rt
theorem zac (he : PE X e te) : PS X (.Return (some e) pos) (tRet te) := by
  intro pins s σ H D I h
  exact wpAny_Return_some (thn (he pins s σ H _ I h) fun v s1 ⟨x, H1, I1, r1, q1⟩ => ⟨x, σ, H1, I1, r1, q1⟩)
noncomputable def tIfS (c : TT) (t u : TS) : TS := fun D σ H => c σ H fun b H1 => if b = true then t D σ H1 else u D σ H1
theorem zf3 {c : Expr} {a b : List Stmt} {tc : TT} (hc : PT X c tc) (ha : PSs X a t) (hb : PSs X b u) : PS X (.If c a b pos) (tIfS tc t u) := by
  intro pins s σ H D I h
  refine wpAny_If (thn (hc pins s σ H _ I h) fun d s1 hh9 => ?_)
  obtain ⟨H1, I1, q1⟩ := hh9
  cases d with
  | true => exact ha pins s1 σ H1 D I1 q1
  | false => exact hb pins s1 σ H1 D I1 q1
noncomputable def zfZ : TS := fun _ _ _ => False
theorem zcO : PS X st zfZ := fun _ _ _ _ _ _ h => h.elim
end
noncomputable abbrev TG := V → St → Hp → (St → Hp → Prop) → Prop
noncomputable abbrev TGs := List V → St → Hp → (St → Hp → Prop) → Prop
noncomputable def PG (X : Cx) (target : Expr) (t : TG) : Prop :=
  ∀ (pins : List (Addr × Obj)) (s : Shared) (σ : St) (H : Hp) (v : V) (u : Value) (Q : St → Hp → Prop), Inv X pins σ H s → xJ v u → t v σ H Q →
    wpAny (model X.prog X.w) X.A (assign target X.env u) (fun _ s' => ∃ σ' H', Inv X pins σ' H' s' ∧ Q σ' H') X.xe s
noncomputable def PGs (X : Cx) (ts : List Expr) (t : TGs) : Prop :=
  ∀ (pins : List (Addr × Obj)) (s : Shared) (σ : St) (H : Hp) (vs : List V) (us : List Value) (Q : St → Hp → Prop), Inv X pins σ H s → yg vs us → t vs σ H Q →
    wpAny (model X.prog X.w) X.A (assignInOrder ((assignEach ts X.env).map (·.2)) us) (fun _ s' => ∃ σ' H', Inv X pins σ' H' s' ∧ Q σ' H') X.xe s
noncomputable abbrev zgO := V → V → V → Hp → (Hp → Prop) → Prop
noncomputable def PSet (X : Cx) (t : zgO) : Prop :=
  ∀ (pins : List (Addr × Obj)) (s : Shared) (σ : St) (H : Hp) (o i v : V) (ov iv u : Value) (Q : Hp → Prop), Inv X pins σ H s → xJ o ov → xJ i iv → xJ v u → t o i v H Q →
    wpAny (model X.prog X.w) X.A (setItem ov iv u) (fun _ s' => ∃ H', Inv X pins σ H' s' ∧ Q H') X.xe s
section
variable {X : Cx} {pos : Pos}
noncomputable def YT (i : Nat) : TG := fun v σ H Q => Q (σ.set i (some v)) H
theorem zT {i : Nat} {x : Str} (hN : X.N.Nodup) (hi : X.N[i]? = some x) (hx : Loc X.env.scope x) (hf : X.fn x = true ∨ X.env.scope.names.lookup x = some .local := by first | exact .inl rfl | exact .inr rfl | assumption) : PG X (.Name x pos) (YT i) := by
  intro pins s σ H v u Q I r h
  exact wpAny_assign_Name (VY I hN hi hx r (fun s' I' => ⟨_, H, I', h⟩) hf)
noncomputable def zhc : TGs := fun vs σ H Q => vs = [] ∧ Q σ H
noncomputable def zbM (t : TG) (u : TGs) : TGs := fun vs σ H Q => ∃ v r, vs = v :: r ∧ t v σ H fun σ' H' => u r σ' H' Q
theorem zdU : PGs X [] zhc := by
  intro pins s σ H vs us Q I r h
  obtain ⟨e, h⟩ := h
  subst e
  cases r
  exact assignInOrder_nil ⟨σ, H, I, h⟩
theorem zc7 {e : Expr} {es : List Expr} {t : TG} {u : TGs} (h1 : PG X e t) (h2 : PGs X es u)
    (hs : (assignEach (e :: es) X.env).map (·.2) = assign e X.env :: (assignEach es X.env).map (·.2) := by rfl) : PGs X (e :: es) (zbM t u) := by
  intro pins s σ H vs us Q I r h
  obtain ⟨v, vr, e1, h⟩ := h
  subst e1
  cases r with
  | cons r rr =>
    rw [hs]
    refine assignInOrder_cons (thn (h1 pins s σ H _ _ _ I r h) fun _ s1 hh9 => ?_)
    obtain ⟨σ1, H1, I1, q1⟩ := hh9
    exact h2 pins s1 σ1 H1 _ _ Q I1 rr q1
noncomputable def zg6 (K : PySem.W.Frag) (n : Nat) (t : TGs) : TG := fun v σ H Q => ∃ a xs, v = .ref a ∧ SqT K H a xs ∧ xs.length = n ∧ t xs σ H Q
theorem zgn {es : List Expr} {k : Nat} {t : TGs} {n : Nat} (hc : X.calm = true) (h : PGs X es t)
    (hn : (assignEach es X.env).length = n := by rfl) (hst : (assignEach es X.env).findIdx? (·.1) = none := by rfl) : PG X (.Tuple es k pos) (zg6 X.K n t) := by
  intro pins s σ H v u Q I r hw
  obtain ⟨a, xs, e1, hq, hl, hw⟩ := hw
  subst e1
  cases r
  obtain ⟨its, rv, ht, hz⟩ := I.tuple hq
  refine assign_Tuple_tuple (I.ok.hd hc) ht (by simp [hn, ← hl, rv.length]) hst fun h' hx => ?_
  have I1 : Inv X pins σ H { s with heap := h' } := I.kept (t' := s.toks) fun b o e => hx b o (Nat.ne_of_lt (Heap.lt_size e)) e
  exact h pins _ σ H xs _ Q I1 (by simpa using rv) hw
noncomputable def gSub (to ti : TE) (t : zgO) : TG := fun v σ H Q => to σ H fun o H1 => ti σ H1 fun i H2 => t o i v H2 fun H3 => Q σ H3
theorem zeS {o i : Expr} {to ti : TE} {t : zgO} (ho : PE X o to) (hi : PE X i ti) (hs : PSet X t)
    (ha : ∀ v, assign (.Subscript o i pos) X.env v = (do
      let ov ← holding [v] (eval o X.env)
      let iv ← holding [v, ov] (eval i X.env)
      standAt pos
      holding [v, ov, iv] (setItem ov iv v)
      release [v, ov, iv] []) := by intro _; rfl) : PG X (.Subscript o i pos) (gSub to ti t) := by
  intro pins s σ H v u Q I r h
  rw [ha]
  refine wpAny_bind (wpAny_holding (thn (ho pins s σ H _ I h) fun ov s1 hh9 => ?_))
  obtain ⟨x, H1, I1, r1, q1⟩ := hh9
  refine wpAny_bind (wpAny_holding (thn (hi pins s1 σ H1 _ I1 q1) fun iv s2 hh9 => ?_))
  obtain ⟨y, H2, I2, r2, q2⟩ := hh9
  refine wpAny_bind (wpAny_standAt (wpAny_bind (wpAny_holding (thn (hs pins s2 σ H2 x y v ov iv u _ I2 r1 r2 r q2) fun _ s3 hh9 => ?_))))
  obtain ⟨H3, I3, q3⟩ := hh9
  exact wpAny_release ⟨σ, H3, I3, q3⟩
noncomputable def zgA (te : TE) (g : TG) : TS := fun D σ H => te σ H fun x H1 => g x σ H1 D.nx
theorem zfX {tg e : Expr} {te : TE} {g : TG} (he : PE X e te) (hg : PG X tg g) (hs : swapsWithSole [tg] e pos.line X.env = pure false := by rfl) (hw : swappedStores [tg] e X.env = pure none := by rfl)
    (h1 : (assignEach [tg] X.env).map (·.2) = [assign tg X.env] := by rfl) : PS X (.Assign [tg] e pos) (zgA te g) := by
  intro pins s σ H D I h
  refine wpAny_Assign_stores (thn (he pins s σ H _ I h) fun v s1 hh9 => ?_) hs hw
  obtain ⟨x, H1, I1, r1, q1⟩ := hh9
  rw [h1]
  exact thn (hg pins s1 σ H1 x v _ I1 r1 q1) fun _ s2 q => q
theorem zbv {i : Nat} {x : Str} {e : Expr} {te : TE} {pos' : Pos} (hN : X.N.Nodup) (hi : X.N[i]? = some x) (hx : Loc X.env.scope x) (he : PE X e te) (hs : swapsWith e (some (.Name x pos')) pos.line X.env = pure false := by rfl) (hf : X.fn x = true ∨ X.env.scope.names.lookup x = some .local := by first | exact .inl rfl | exact .inr rfl | assumption) :
    PS X (.Assign [.Name x pos'] e pos) (zgA te (YT i)) := by
  intro pins s σ H D I h
  refine wpAny_Assign_Name (thn (he pins s σ H _ I h) fun v s1 hh9 => ?_) hs
  obtain ⟨y, H1, I1, r1, q1⟩ := hh9
  exact VY I1 hN hi hx r1 (fun s2 I2 => ⟨_, H1, I2, q1⟩) hf
end
section
variable {X : Cx} {pos : Pos}
end
structure It where
  go : Nat → Hp → Prop
  yld : Nat → Hp → V → Hp → Prop
  stop : Nat → Hp → Prop
noncomputable def VB (X : Cx) (pins : List (Addr × Obj)) (H : Hp) (b : Addr) : Prop :=
  H b = none ∧ b ≠ X.env.locals ∧ b ∉ X.fs ∧ (b ∈ X.ex ∨ X.s₀.heap.objs.size ≤ b) ∧ (∀ x c, X.env.cells.lookup x = some c → c ≠ b) ∧ ∀ p ∈ X.pn ++ pins, p.1 ≠ b
theorem Inv.fpOk {X : Cx} {pins : List (Addr × Obj)} {σ : St} {H H' : Hp} {s : Shared} {b : Addr} (I : Inv X pins σ H s) (hb : s.heap.objs.size ≤ b) (hn : H' b = none) : VB X pins H' b := by
  refine ⟨hn, Nat.ne_of_gt (Nat.lt_of_lt_of_le I.lt hb), I.nofs hb, .inr (Nat.le_trans I.sz hb), fun x c e z => ?_, fun p hp z => ?_⟩
  · obtain ⟨v, q⟩ := I.cell x c e
    exact absurd (Nat.lt_of_lt_of_le q.lt (by rw [z]; exact hb)) (Nat.lt_irrefl _)
  · exact absurd (Nat.lt_of_lt_of_le (Heap.lt_size (I.pin p hp).1) (by rw [z]; exact hb)) (Nat.lt_irrefl _)
set_option genInjectivity false in
set_option genSizeOf false in
set_option genCtorIdx false in
structure zdy (P : Program) (w : World) (K : PySem.W.Frag) (tg : Expr) (J : It) (fp : List Addr) (it : Addr) (tn : Nat → Heap → Prop) : Prop where
  mem : it ∈ fp
  obj : ∀ i h, tn i h → ∀ b ∈ fp, ∃ o, h.get? b = some o ∧ ∀ v, o.data ≠ .cell v
  keep : ∀ i h h', tn i h → (∀ b ∈ fp, ∀ o, h.get? b = some o → h'.get? b = some o) → tn i h'
  item : ∀ (X : Cx), X.prog = P → X.w = w → X.K = K → X.calm = true → ∀ (i : Nat) (pins : List (Addr × Obj)) (s : Shared) (σ : St) (H : Hp) (E : Value → Shared → Prop), Inv X pins σ H s → (∀ b ∈ fp, VB X pins H b) → tn i s.heap → J.go i H →
    wpAny (model P w) X.A (pyNext (.ref it)) (fun r s1 => ∃ u, r = some u ∧
      wpAny (model P w) X.A (letOwnedTupleGo tg (.ref it) u) (fun _ s2 => ∃ x H', Inv X pins σ H' s2 ∧ xJ x u ∧ J.yld i H x H' ∧ tn (i + 1) s2.heap ∧ ∀ b ∈ fp, H' b = none) E s1) E s
  done : ∀ (X : Cx), X.prog = P → X.w = w → X.K = K → X.calm = true → ∀ (i : Nat) (pins : List (Addr × Obj)) (s : Shared) (σ : St) (H : Hp) (E : Value → Shared → Prop), Inv X pins σ H s → (∀ b ∈ fp, VB X pins H b) → tn i s.heap → J.stop i H →
    wpAny (model P w) X.A (pyNext (.ref it)) (fun r s1 => r = none ∧ Inv X pins σ H s1) E s
  self : ∀ (A : Around) (i : Nat) (s : Shared) (Q : Value → Shared → Prop) (E : Value → Shared → Prop), tn i s.heap → Q (.ref it) s → wpAny (model P w) A (pyIter (.ref it)) Q E s
noncomputable abbrev TI := St → Hp → (It → Hp → Prop) → Prop
noncomputable def PIE (X : Cx) (pins : List (Addr × Obj)) (σ : St) (tg : Expr) (R : It → Hp → Prop) (itv : Value) (s2 : Shared) : Prop :=
  ∃ (it : Addr) (fp : List Addr) (tn : Nat → Heap → Prop) (J : It) (H' : Hp), itv = .ref it ∧ Inv X pins σ H' s2 ∧ zdy X.prog X.w X.K tg J fp it tn ∧ tn 0 s2.heap ∧ (∀ b ∈ fp, VB X pins H' b) ∧ R J H'
noncomputable def PI (X : Cx) (tg iter : Expr) (wi : TI) : Prop :=
  ∀ (pins : List (Addr × Obj)) (s : Shared) (σ : St) (H : Hp) (R : It → Hp → Prop), Inv X pins σ H s → wi σ H R →
    wpAny (model X.prog X.w) X.A (eval iter X.env) (fun v s1 => wpAny (model X.prog X.w) X.A (pyIter v) (PIE X pins σ tg R) X.xe s1) X.xe s
theorem zeA {M : Model} {A : Around} {E : Value → Shared → Prop} {s : Shared} {tg : Expr} {it : Addr} {u : Value} {o : Obj} {n : String} {vs : Array Value} {Q : Unit → Shared → Prop} (ho : s.heap.get? it = some o) (hc : o.cls = .type n) (hd : o.data = .fields vs)
    (hn : ["enumerate", "zip", "dict_itemiterator", "dict_reverseitemiterator", "odict_iterator", "itertools.zip_longest", "itertools.pairwise"].contains n = false) (hQ : Q () s) : wpAny M A (letOwnedTupleGo tg (.ref it) u) Q E s := by
  unfold letOwnedTupleGo
  cases tg <;> first
    | exact wpAny_pure hQ
    | (cases u <;> first
        | exact wpAny_pure hQ
        | (refine wpAny_bind (wpAny_load ho ?_)
           rw [hc, hd]
           show wpAny M A (if (["enumerate", "zip", "dict_itemiterator", "dict_reverseitemiterator", "odict_iterator", "itertools.zip_longest", "itertools.pairwise"].contains n && vs[0]? == some (rawInt _)) = true then _ else _) Q E s
           rw [if_neg (by intro h; rw [hn, Bool.false_and] at h; cases h)]
           exact wpAny_pure hQ))
noncomputable def Itl (K : PySem.W.Frag) (a : Addr) : It :=
  ⟨fun i H => ∃ xs x, SqL K H a xs ∧ xs[i]? = some x, fun i H x H' => H' = H ∧ ∀ xs, SqL K H a xs → xs[i]? = some x, fun i H => ∃ xs, SqL K H a xs ∧ xs.length ≤ i⟩
noncomputable def Itt (K : PySem.W.Frag) (a : Addr) : It :=
  ⟨fun i H => ∃ xs x, SqT K H a xs ∧ xs[i]? = some x, fun i H x H' => H' = H ∧ ∀ xs, SqT K H a xs → xs[i]? = some x, fun i H => ∃ xs, SqT K H a xs ∧ xs.length ≤ i⟩
noncomputable def Itr (lo : Int) (n : Nat) : It := ⟨fun i _ => i < n, fun i H x H' => H' = H ∧ x = .int (lo + i), fun i _ => n ≤ i⟩
theorem zbl {P : Program} {w : World} {K : PySem.W.Frag} {tg : Expr} (a it : Addr) : zdy P w K tg (Itl K a) [it] it (fun i h => h.IsListIter it a i) where
  mem := by simp
  obj := fun i h st b hb => by
    have e : b = it := by simpa using hb
    subst e
    obtain ⟨o, e, c, d⟩ := st
    exact ⟨o, e, fun v z => by rw [d] at z; cases z⟩
  keep := fun i h h' st k => st.at fun o e => k it (by simp) o e
  item := by
    intro X hP hw hK hc i pins s σ H E I hf st hg
    subst hP hw hK
    obtain ⟨xs, x, hq, hx⟩ := hg
    obtain ⟨its, rv, p, hz⟩ := I.list hq
    obtain ⟨u, hu, ru⟩ := rv.get hx
    obtain ⟨f0, f1, f2, f3, f4, f5⟩ := hf it (by simp)
    refine wpAny_pyNext_list_item st p.isList (x := u) (by simpa using hu) fun h' st' sb => ?_
    have I1 : Inv X pins σ H { s with heap := h' } := I.turned (t' := s.toks) (fun b o hb e => (sb.2 b hb).trans e) f0 f1 f3 f4 f5
    obtain ⟨o, e, c, d⟩ := id st'
    exact ⟨u, rfl, zeA (s := { s with heap := h' }) e c d (by decide) ⟨x, H, I1, ru, ⟨rfl, fun ys hy => by rw [I.list_inj hy hq]; exact hx⟩, st', fun b hb => (hf b hb).1⟩⟩
  done := by
    intro X hP hw hK hc i pins s σ H E I hf st hg
    subst hP hw hK
    obtain ⟨xs, hq, hx⟩ := hg
    obtain ⟨its, rv, p, hz⟩ := I.list hq
    obtain ⟨f0, f1, f2, f3, f4, f5⟩ := hf it (by simp)
    have hl := rv.length
    exact wpAny_pyNext_list_end (I.ok.hd hc) st p.isList (by simp; omega) fun h' eb => ⟨rfl, I.turned (t' := s.toks) (fun b o hb e => eb b o hb e) f0 f1 f3 f4 f5⟩
  self := fun _ _ _ _ _ st h => wpAny_pyIter_listiter st h
theorem zar {P : Program} {w : World} {K : PySem.W.Frag} {tg : Expr} (a it : Addr) : zdy P w K tg (Itt K a) [it] it (fun i h => h.IsTupleIter it a i) where
  mem := by simp
  obj := fun i h st b hb => by
    have e : b = it := by simpa using hb
    subst e
    obtain ⟨o, e, c, d⟩ := st
    exact ⟨o, e, fun v z => by rw [d] at z; cases z⟩
  keep := fun i h h' st k => st.at fun o e => k it (by simp) o e
  item := by
    intro X hP hw hK hc i pins s σ H E I hf st hg
    subst hP hw hK
    obtain ⟨xs, x, hq, hx⟩ := hg
    obtain ⟨its, rv, p, hz⟩ := I.tuple hq
    obtain ⟨u, hu, ru⟩ := rv.get hx
    obtain ⟨f0, f1, f2, f3, f4, f5⟩ := hf it (by simp)
    refine wpAny_pyNext_tuple_item st (show s.heap.IsTuple a its.toArray from p) (x := u) (by simpa using hu) fun h' st' sb => ?_
    have I1 : Inv X pins σ H { s with heap := h' } := I.turned (t' := s.toks) (fun b o hb e => (sb.2 b hb).trans e) f0 f1 f3 f4 f5
    obtain ⟨o, e, c, d⟩ := id st'
    exact ⟨u, rfl, zeA (s := { s with heap := h' }) e c d (by decide) ⟨x, H, I1, ru, ⟨rfl, fun ys hy => by rw [I.tuple_inj hy hq]; exact hx⟩, st', fun b hb => (hf b hb).1⟩⟩
  done := by
    intro X hP hw hK hc i pins s σ H E I hf st hg
    subst hP hw hK
    obtain ⟨xs, hq, hx⟩ := hg
    obtain ⟨its, rv, p, hz⟩ := I.tuple hq
    obtain ⟨f0, f1, f2, f3, f4, f5⟩ := hf it (by simp)
    have hl := rv.length
    exact wpAny_pyNext_tuple_end (I.ok.hd hc) st (show s.heap.IsTuple a its.toArray from p) (by simp; omega) fun h' eb => ⟨rfl, I.turned (t' := s.toks) (fun b o hb e => eb b o hb e) f0 f1 f3 f4 f5⟩
  self := fun _ _ _ _ _ st h => wpAny_pyIter_tupleiter st h
theorem zaR {P : Program} {w : World} {K : PySem.W.Frag} {tg : Expr} (it : Addr) (lo : Int) (n : Nat) : zdy P w K tg (Itr lo n) [it] it (fun i h => IsRangeIter h it (lo + (i : Nat) * 1) ((n : Int) - (i : Nat)) 1) where
  mem := by simp
  obj := fun i h st b hb => by
    have e : b = it := by simpa using hb
    subst e
    exact ⟨_, st, fun v z => by
      have z' : Data.fields _ = Data.cell v := z
      cases z'⟩
  keep := fun i h h' st k => k it (by simp) _ st
  item := by
    intro X hP hw hK hc i pins s σ H E I hf st hg
    subst hP hw hK
    obtain ⟨f0, f1, f2, f3, f4, f5⟩ := hf it (by simp)
    have W := Walks.range (prog := X.prog) (w := X.w) (I.ok.hd hc) it lo 1 n
    refine W.item i s _ _ hg st fun v h' tk hv st' kk => ?_
    obtain ⟨t, rfl⟩ := hv
    have I1 : Inv X pins σ H { s with heap := h', toks := tk } := I.turned (fun b o hb e => kk b o (by simpa using hb) e) f0 f1 f3 f4 f5
    refine ⟨_, rfl, zeA (s := { s with heap := h', toks := tk }) (n := "range_iterator") st' rfl rfl (by decide) ⟨.int (lo + i), H, I1, ⟨t, ?_⟩, ⟨rfl, rfl⟩, st', fun b hb => (hf b hb).1⟩⟩
    rw [Int.mul_one]
  done := by
    intro X hP hw hK hc i pins s σ H E I hf st hg
    subst hP hw hK
    obtain ⟨f0, f1, f2, f3, f4, f5⟩ := hf it (by simp)
    exact wpAny_pyNext_range_end (I.ok.hd hc) st (by have : n ≤ i := hg; omega) fun h' eb => ⟨rfl, I.turned (t' := s.toks) (fun b o hb e => eb b o hb e) f0 f1 f3 f4 f5⟩
  self := fun _ _ _ _ _ st h => wpAny_pyIter_rangeiter st h
end L2
namespace L2
open PySem PySem.Spec PyProof.Rows
section
variable {X : Cx} {tg : Expr}
theorem VR {pins : List (Addr × Obj)} {σ : St} {H : Hp} {s : Shared} {R : It → Hp → Prop} {E : Value → Shared → Prop} {lo hi : Int} {t u v : Tok} {tk : Nat} (I : Inv X pins σ H s) (h1 : -(2 ^ 62) ≤ lo) (h2 : lo < 2 ^ 62) (h3 : -(2 ^ 62) ≤ hi) (h4 : hi < 2 ^ 62)
    (q : R (Itr lo (hi - lo).toNat) H) : wpAny (model X.prog X.w) X.A (pyIter (.ref s.heap.objs.size)) (PIE X pins σ tg R) E { s with heap := s.heap.push { cls := .type "range", data := .fields #[.int lo t, .int hi u, .int 1 v] }, toks := tk } := by
  refine wpAny_pyIter_range (IsRange.new ..) (small_one h1 h2 h3 h4) ?_
  have I1 : Inv X pins σ H { s with heap := s.heap.push { cls := .type "range", data := .fields #[.int lo t, .int hi u, .int 1 v] }, toks := tk } := I.kept fun b o e => Heap.get?_push_of_some _ e
  refine ⟨(s.heap.push { cls := .type "range", data := .fields #[.int lo t, .int hi u, .int 1 v] }).objs.size, [(s.heap.push { cls := .type "range", data := .fields #[.int lo t, .int hi u, .int 1 v] }).objs.size], _, _, H, rfl,
    I1.kept (t' := tk) fun b o e => Heap.get?_push_of_some _ e, zaR _ lo (hi - lo).toNat, ?_, fun b hb => ?_, q⟩
  · have e1 : lo + ((0 : Nat) : Int) * 1 = lo := by simp
    have e2 : (((hi - lo).toNat : Nat) : Int) - ((0 : Nat) : Int) = Builtin.Range.rangeSize lo hi 1 := by rw [rangeSize_one]; split <;> omega
    show IsRangeIter _ _ (lo + ((0 : Nat) : Int) * 1) ((((hi - lo).toNat : Nat) : Int) - ((0 : Nat) : Int)) 1
    rw [e1, e2]
    exact Heap.get?_push_size _ rfl
  · have e : b = (s.heap.push { cls := .type "range", data := .fields #[.int lo t, .int hi u, .int 1 v] }).objs.size := by simpa using hb
    subst e
    exact I1.fpOk (Nat.le_refl _) (I1.hok.fresh (Nat.le_refl _))
noncomputable def zgK (ta : TA) : TI := fun σ H R => ta σ H fun vs H1 => ∃ j : Int, vs = [.int j] ∧ -(2 ^ 62) ≤ j ∧ j < 2 ^ 62 ∧ R (Itr 0 j.toNat) H1
noncomputable def zgU (ta : TA) : TI := fun σ H R => ta σ H fun vs H1 => ∃ i j : Int, vs = [.int i, .int j] ∧ (-(2 ^ 62) ≤ i ∧ i < 2 ^ 62 ∧ -(2 ^ 62) ≤ j ∧ j < 2 ^ 62) ∧ R (Itr i (j - i).toNat) H1
theorem WE {a : Expr} {ta : TA} {p pos : Pos} (hg : Gl X "range") (hm : X.mg "range" = none) (ha : PA X [a] ta) (hs : starEach [a] X.env = [(false, eval a X.env)] := by rfl) : PI X tg (.Call (.Name "range" p) [a] [] pos) (zgK ta) := by
  intro pins s σ H R I h
  refine Call_ (vA I hg hm boot_range (PyProof.Rows.callWith_type1 (thn (ha pos pins s σ H _ I h) fun us s1 hh9 => ?_) hs rfl))
  obtain ⟨vs, H1, I1, r1, q1⟩ := hh9
  obtain ⟨j, e, q1, q2, q⟩ := q1
  subst e
  cases r1 with
  | cons r rr =>
    cases rr
    obtain ⟨t, rfl⟩ := r
    exact call_range_1 (VR I1 (by omega) (by omega) q1 q2 (by simpa using q))
theorem Wr {a b : Expr} {ta : TA} {p pos : Pos} (hg : Gl X "range") (hm : X.mg "range" = none) (ha : PA X [a, b] ta) (hs : starEach [a, b] X.env = [(false, eval a X.env), (false, eval b X.env)] := by rfl) (hs2 : starEach [b] X.env = [(false, eval b X.env)] := by rfl) :
    PI X tg (.Call (.Name "range" p) [a, b] [] pos) (zgU ta) := by
  intro pins s σ H R I h
  refine Call_ (vA I hg hm boot_range (PyProof.Rows.callWith_type1 (thn (ha pos pins s σ H _ I h) fun us s1 hh9 => ?_) (by rw [hs, hs2]) (by rw [hs2]; rfl)))
  obtain ⟨vs, H1, I1, r1, q1⟩ := hh9
  obtain ⟨i, j, e, ⟨q1, q2, q3, q4⟩, q⟩ := q1
  subst e
  cases r1 with
  | cons r rr =>
    cases rr with
    | cons r' rr =>
      cases rr
      obtain ⟨t, rfl⟩ := r
      obtain ⟨t', rfl⟩ := r'
      exact call_range_2 (VR I1 q1 q2 q3 q4 q)
noncomputable def tFor (wi : TI) (g : TG) (tb : TS) : TS := fun D σ H => wi σ H fun J H1 => ∃ W : Nat → Nat → St → Hp → Prop, (∃ m, W 0 m σ H1) ∧ ∀ i m σ H, W i m σ H →
  (J.stop i H ∧ D.nx σ H) ∨ (J.go i H ∧ ∃ N : St → Hp → Prop, (∀ σ' H', N σ' H' → ∃ m', m' < m ∧ W (i + 1) m' σ' H') ∧ ∀ x H', J.yld i H x H' → g x σ H' fun σ2 H2 => tb { D with nx := N, ct := N, bk := D.nx } σ2 H2)
noncomputable def Xh (fp : List Addr) (h : Heap) : List (Addr × Obj) := fp.filterMap fun b => (h.get? b).map fun o => (b, o)
theorem wM {fp : List Addr} {h : Heap} {b : Addr} {o : Obj} (hb : b ∈ fp) (e : h.get? b = some o) : (b, o) ∈ Xh fp h := List.mem_filterMap.mpr ⟨b, hb, by rw [e]; rfl⟩
theorem zbS {fp : List Addr} {h : Heap} {p : Addr × Obj} (hp : p ∈ Xh fp h) : p.1 ∈ fp ∧ h.get? p.1 = some p.2 := by
  obtain ⟨b, hb, e⟩ := List.mem_filterMap.mp hp
  cases q : h.get? b with
  | none => rw [q] at e; cases e
  | some o =>
    rw [q] at e
    have e' : (b, o) = p := Option.some.inj e
    subst e'
    exact ⟨hb, q⟩
theorem Inv.pinned {pins : List (Addr × Obj)} {σ : St} {H : Hp} {s : Shared} {fp : List Addr} (I : Inv X pins σ H s) (hf : ∀ b ∈ fp, VB X pins H b) (ho : ∀ b ∈ fp, ∃ o, s.heap.get? b = some o ∧ ∀ v, o.data ≠ .cell v) : Inv X (pins ++ Xh fp s.heap) σ H s :=
  I.pins_of fun p hp => (List.mem_append.mp hp).elim (fun z => I.pin p (List.mem_append_right _ z)) fun z => by
    obtain ⟨hb, e⟩ := zbS z
    obtain ⟨f0, f1, f2, _⟩ := hf p.1 hb
    obtain ⟨o, e', d⟩ := ho p.1 hb
    rw [e] at e'; cases e'
    exact ⟨e, f0, f1, f2, d⟩
theorem Inv.unpinned {pins pl : List (Addr × Obj)} {σ : St} {H : Hp} {s : Shared} (I : Inv X (pins ++ pl) σ H s) : Inv X pins σ H s := I.pins_of fun p hp => I.pin p (List.mem_append_right _ (List.mem_append_left _ hp))
theorem VP {iter : Expr} {body : List Stmt} {wi : TI} {g : TG} {tb : TS} {pos : Pos} (hp : PassesOwn (model X.prog X.w) X.A X.env X.xe) (hc : X.calm = true) (hi : PI X tg iter wi) (hg : PG X tg g) (hb : PSs X body tb)
    (hs : ∀ x, foldedSetIterable iter X.env x = pure x := by intro _; rfl) : PS X (.For tg iter body [] pos) (tFor wi g tb) := by
  intro pins s σ H D I h
  refine wpAny_For (thn (hi pins s σ H _ I h) fun v s1 h1 => thn h1 fun itv s2 h2 => ?_) hs
  obtain ⟨it, fp, tn, J, H2, e, I2, T, st2, f2, W, ⟨m0, w0⟩, turn⟩ := h2
  subst e
  -- what stays true of the iterator's objects through the loop
  have stat : ∀ {H' : Hp}, (∀ b ∈ fp, H' b = none) → ∀ b ∈ fp, VB X pins H' b := fun hn b hb => ⟨hn b hb, (f2 b hb).2⟩
  refine codeAny_forLoop_any (fun n s' => ∃ i σ' H', Inv X pins σ' H' s' ∧ tn i s'.heap ∧ (∀ b ∈ fp, H' b = none) ∧ W i n σ' H') ?_ m0 ⟨0, σ, H2, I2, st2, fun b hb => (f2 b hb).1, w0⟩
  rintro n s3 ⟨i, σ3, H3, I3, st3, fr3, w3⟩
  rcases turn i n σ3 H3 w3 with ⟨stop, qn⟩ | ⟨go, N, hN, step⟩
  · refine wpAny_passesOwn hp (thn (T.done X rfl rfl rfl hc i pins s3 σ3 H3 X.xe I3 (stat fr3) st3 stop) fun r s4 hh9 => ?_)
    obtain ⟨hr, I4⟩ := hh9
    subst hr
    exact wpAny_execs_nil ⟨σ3, H3, I4, qn⟩
  · refine wpAny_passesOwn hp (thn (T.item X rfl rfl rfl hc i pins s3 σ3 H3 X.xe I3 (stat fr3) st3 go) fun r s4 hh9 => ?_)
    obtain ⟨u, hr, h4⟩ := hh9
    subst hr
    refine wpAny_passesOwn hp (thn h4 fun _ s5 hh9 => ?_)
    obtain ⟨x, H5, I5, r5, y5, st5, fr5⟩ := hh9
    have I5' := I5.pinned (stat fr5) (T.obj _ _ st5)
    refine wpAny_passesOwn hp (thn (hg _ s5 σ3 H5 x u _ I5' r5 (step x H5 y5)) fun _ s6 hh9 => ?_)
    obtain ⟨σ6, H6, I6, q6⟩ := hh9
    refine wpAny_passesOwn hp (thn (hb _ s6 σ6 H6 _ I6 q6) fun f s7 q7 => ?_)
    have again : ∀ {σ7 : St} {H7 : Hp}, Inv X (pins ++ Xh fp s5.heap) σ7 H7 s7 → N σ7 H7 → ∃ m, m < n ∧ ∃ i σ' H', Inv X pins σ' H' s7 ∧ tn i s7.heap ∧ (∀ b ∈ fp, H' b = none) ∧ W i m σ' H' := fun {σ7 H7} I7 n7 => by
      obtain ⟨m', hm, w7⟩ := hN σ7 H7 n7
      refine ⟨m', hm, i + 1, σ7, H7, I7.unpinned, T.keep _ _ _ st5 fun b hb o e => (I7.pin (b, o) (List.mem_append_right _ (List.mem_append_right _ (wM hb e)))).1, fun b hb => ?_, w7⟩
      obtain ⟨o, e, d⟩ := T.obj _ _ st5 b hb
      exact (I7.pin (b, o) (List.mem_append_right _ (List.mem_append_right _ (wM hb e)))).2.1
    cases f with
    | next => obtain ⟨σ7, H7, I7, n7⟩ := q7; exact again I7 n7
    | cont => obtain ⟨σ7, H7, I7, n7⟩ := q7; exact again I7 n7
    | brk => obtain ⟨σ7, H7, I7, q7⟩ := q7; exact ⟨σ7, H7, I7.unpinned, q7⟩
    | ret v => obtain ⟨x7, σ7, H7, I7, r7, q7⟩ := q7; exact ⟨x7, σ7, H7, I7.unpinned, r7, q7⟩
end
end L2
namespace L2
open PySem PySem.Spec PyProof.Rows
noncomputable abbrev R2 := V → V → Hp → VK → Prop
noncomputable def OpR (X : Cx) (f : Value → Value → Sem Value) (r : R2) : Prop :=
  ∀ (pins : List (Addr × Obj)) (s : Shared) (σ : St) (H : Hp) (x y : V) (v u : Value) (Q : VK), Inv X pins σ H s → xJ x v → xJ y u → r x y H Q →
    wpAny (model X.prog X.w) X.A (f v u) (EP X pins σ Q) X.xe s
noncomputable def UnR (X : Cx) (f : Value → Sem Value) (r : V → Hp → VK → Prop) : Prop :=
  ∀ (pins : List (Addr × Obj)) (s : Shared) (σ : St) (H : Hp) (x : V) (v : Value) (Q : VK), Inv X pins σ H s → xJ x v → r x H Q →
    wpAny (model X.prog X.w) X.A (f v) (EP X pins σ Q) X.xe s
noncomputable def vY (X : Cx) (f : Value) (r : List V → Hp → VK → Prop) : Prop :=
  ∀ (pins : List (Addr × Obj)) (s : Shared) (σ : St) (H : Hp) (xs : List V) (us : List Value) (Q : VK), Inv X pins σ H s → yg xs us → r xs H Q →
    wpAny (model X.prog X.w) X.A (call f us) (EP X pins σ Q) X.xe s
noncomputable def tOp (r : R2) (ta tb : TE) : TE := fun σ H Q => ta σ H fun x H1 => tb σ H1 fun y H2 => r x y H2 Q
noncomputable def tUn (r : V → Hp → VK → Prop) (ta : TE) : TE := fun σ H Q => ta σ H fun x H1 => r x H1 Q
noncomputable def rI (C : Int → Int → Prop) (g : Int → Int → V) : R2 := fun x y H Q => ∃ i j, x = .int i ∧ y = .int j ∧ C i j ∧ Q (g i j) H
noncomputable def rI0 (g : Int → Int → V) : R2 := fun x y H Q => ∃ i j, x = .int i ∧ y = .int j ∧ Q (g i j) H
noncomputable def rU (g : Int → V) : V → Hp → VK → Prop := fun x H Q => ∃ i, x = .int i ∧ Q (g i) H
section
variable {X : Cx} {a b c : Expr} {ta tb tc : TE} {pos : Pos}
theorem zhb (ha : PE X a ta) (hb : PE X b tb) {pins : List (Addr × Obj)} {s : Shared} {σ : St} {H : Hp} {R : V → V → Hp → Prop} (I : Inv X pins σ H s)
    (h : ta σ H fun x H1 => tb σ H1 fun y H2 => R x y H2) {Q : Value → Shared → Prop} {f : Value → Value → Sem Value}
    (hf : ∀ v u s2 x y H2, Inv X pins σ H2 s2 → xJ x v → xJ y u → R x y H2 → wpAny (model X.prog X.w) X.A (f v u) Q X.xe s2) :
    wpAny (model X.prog X.w) X.A (eval a X.env) (fun v s₁ => wpAny (model X.prog X.w) X.A (eval b X.env) (fun u s₂ => wpAny (model X.prog X.w) X.A (f v u) Q X.xe s₂) X.xe s₁) X.xe s := by
  refine thn (ha pins s σ H _ I h) fun v s1 hh9 => ?_
  obtain ⟨x, H1, I1, r1, q1⟩ := hh9
  refine thn (hb pins s1 σ H1 _ I1 q1) fun u s2 hh9 => ?_
  obtain ⟨y, H2, I2, r2, q2⟩ := hh9
  exact hf v u s2 x y H2 I2 r1 r2 q2
theorem zf2 {op : Operator} {r : R2} (ho : OpR X (binaryOp op) r) (ha : PE X a ta) (hb : PE X b tb) : PE X (.BinOp a op b pos) (tOp r ta tb) := by
  intro pins s σ H Q I h
  exact wpAny_BinOp (zhb ha hb I h fun v u s2 x y H2 I2 rx ry q => ho pins s2 σ H2 x y v u Q I2 rx ry q)
theorem zg3 {op : UnaryOp} {r : V → Hp → VK → Prop} (ho : UnR X (unaryOp op) r) (ha : PE X a ta) : PE X (.UnaryOp op a pos) (tUn r ta) := by
  intro pins s σ H Q I h
  exact UnaryOp_ (thn (ha pins s σ H _ I h) fun v s1 ⟨x, H1, I1, r1, q1⟩ => ho pins s1 σ H1 x v Q I1 r1 q1)
theorem opI {f : Value → Value → Sem Value} {C : Int → Int → Prop} {g : Int → Int → Int}
    (rule : ∀ (i j : Int) (t u : Tok) (s : Shared) (Q : Value → Shared → Prop) (E : Value → Shared → Prop), C i j → Q (.int (g i j) s.toks) { s with toks := s.toks + 1 } → wpAny (model X.prog X.w) X.A (f (.int i t) (.int j u)) Q E s) :
    OpR X f (rI C fun i j => .int (g i j)) := by
  intro pins s σ H x y v u Q I rx ry h
  obtain ⟨i, j, rfl, rfl, hc, q⟩ := h
  obtain ⟨t, rfl⟩ := rx
  obtain ⟨t', rfl⟩ := ry
  exact rule i j t t' s _ _ hc ⟨.int (g i j), H, I.tok _, ⟨_, rfl⟩, q⟩
theorem zgS {f : Value → Value → Sem Value} {g : Int → Int → Int}
    (rule : ∀ (i j : Int) (t u : Tok) (s : Shared) (Q : Value → Shared → Prop) (E : Value → Shared → Prop), Q (.int (g i j) s.toks) { s with toks := s.toks + 1 } → wpAny (model X.prog X.w) X.A (f (.int i t) (.int j u)) Q E s) :
    OpR X f (rI0 fun i j => .int (g i j)) := by
  intro pins s σ H x y v u Q I rx ry h
  obtain ⟨i, j, rfl, rfl, q⟩ := h
  obtain ⟨t, rfl⟩ := rx
  obtain ⟨t', rfl⟩ := ry
  exact rule i j t t' s _ _ ⟨.int (g i j), H, I.tok _, ⟨_, rfl⟩, q⟩
theorem zgC {f : Value → Value → Sem Value} {g : Int → Int → Bool}
    (rule : ∀ (i j : Int) (t u : Tok) (s : Shared) (Q : Value → Shared → Prop) (E : Value → Shared → Prop), Q (.bool (g i j)) s → wpAny (model X.prog X.w) X.A (f (.int i t) (.int j u)) Q E s) :
    OpR X f (rI0 fun i j => .bl (g i j)) := by
  intro pins s σ H x y v u Q I rx ry h
  obtain ⟨i, j, rfl, rfl, q⟩ := h
  obtain ⟨t, rfl⟩ := rx
  obtain ⟨t', rfl⟩ := ry
  exact rule i j t t' s _ _ ⟨.bl (g i j), H, I, rfl, q⟩
noncomputable def zgI (i j : Int) : Prop := (-(2 ^ 64) < i ∧ i < 2 ^ 64) ∨ (-(2 ^ 64) < j ∧ j < 2 ^ 64)
theorem zgI.ok {i j : Int} (h : zgI i j) : IntMulOk i j := by
  rcases h with ⟨h1, h2⟩ | ⟨h1, h2⟩
  · exact .of_left (intBits_le_64 h1 h2)
  · exact .of_right (intBits_le_64 h1 h2)
theorem zgb : OpR X (binaryOp .Add) (rI0 fun i j => .int (i + j)) := zgS fun _ _ _ _ _ _ _ q => add_int q
theorem zeZ : OpR X (binaryOp .Sub) (rI0 fun i j => .int (i - j)) := zgS fun _ _ _ _ _ _ _ q => sub_int q
theorem zfr : OpR X (binaryOp .Mult) (rI zgI fun i j => .int (i * j)) := opI fun _ _ _ _ _ _ _ hc q => mul_int q hc.ok
theorem ze0 : OpR X (binaryOp .Mod) (rI (fun _ j => 0 < j) fun i j => .int (i % j)) := opI fun i j _ _ _ _ _ hc q => by
  have h1 : (0 : Int) < j := hc
  exact mod_int' (by omega) (by rw [Int.fmod_eq_emod_of_nonneg i (by omega)]; exact q)
theorem zgt : OpR X (binaryOp .BitXor) (rI0 fun i j => .int (Builtin.bitXor i j)) := zgS fun _ _ _ _ _ _ _ q => xor_int q
theorem unI {f : Value → Sem Value} {g : Int → Int}
    (rule : ∀ (i : Int) (t : Tok) (s : Shared) (Q : Value → Shared → Prop) (E : Value → Shared → Prop), Q (.int (g i) s.toks) { s with toks := s.toks + 1 } → wpAny (model X.prog X.w) X.A (f (.int i t)) Q E s) :
    UnR X f (rU fun i => .int (g i)) := by
  intro pins s σ H x v Q I rx h
  obtain ⟨i, rfl, q⟩ := h
  obtain ⟨t, rfl⟩ := rx
  exact rule i t s _ _ ⟨.int (g i), H, I.tok _, ⟨_, rfl⟩, q⟩
theorem ze7 : UnR X (unaryOp .USub) (rU fun i => .int (-i)) := unI fun _ _ _ _ _ q => neg_int q
end
noncomputable def scal : V → V → Bool
  | .non, .non => true | .non, .int _ => true | .int _, .non => true | .non, .bl _ => true | .bl _, .non => true | .non, .str _ => true | .str _, .non => true
  | .int _, .int _ => true | .bl _, .bl _ => true | .str _, .str _ => true | .byt _, .byt _ => true
  | .int _, .str _ => true | .str _, .int _ => true | .bl _, .str _ => true | .str _, .bl _ => true
  | _, _ => false
noncomputable def rEq : R2 := fun x y H Q => scal x y = true ∧ Q (.bl (decide (x = y))) H
noncomputable def rNe : R2 := fun x y H Q => scal x y = true ∧ Q (.bl (!decide (x = y))) H
theorem zcn {i j : Int} : decide (V.int i = V.int j) = (i == j) := by
  rw [Bool.eq_iff_iff]
  simp
theorem zdr {i j : Bool} : decide (V.bl i = V.bl j) = (i == j) := by
  rw [Bool.eq_iff_iff]
  simp
theorem zbt {i j : Str} : decide (V.str i = V.str j) = (i == j) := by
  rw [Bool.eq_iff_iff]
  simp
theorem zbk {i j : Array UInt8} : decide (V.byt i = V.byt j) = (i.toList == j.toList) := by
  rw [Bool.eq_iff_iff]
  cases i
  cases j
  simp
section
variable {X : Cx} {a b c : Expr} {ta tb tc : TE} {pos : Pos}
theorem zP {pins : List (Addr × Obj)} {σ : St} {H : Hp} {s : Shared} {Q : VK} {k k' : Bool} (I : Inv X pins σ H s) (q : Q (.bl k) H) (e : k = k') : EP X pins σ Q (.bool k') s := by
  subst e
  exact ⟨.bl k, H, I, rfl, q⟩
theorem zg8 : OpR X (compareOp .Eq) rEq := by
  intro pins s σ H x y v u Q I rx ry h
  obtain ⟨hs, q⟩ := h
  cases x with
  | non =>
    cases rx
    cases y with
    | non => cases ry; exact PySem.EqNone.eq_none_none (zP I q (by simp))
    | bl j => cases ry; exact PySem.EqNone.eq_none_bool (zP I q (by simp))
    | int j => obtain ⟨t', rfl⟩ := ry; exact PySem.EqNone.eq_none_int (zP I q (by simp))
    | str j => obtain ⟨t', rfl⟩ := ry; exact PySem.EqNone.eq_none_str (zP I q (by simp))
    | _ => exact absurd (show false = true from hs) Bool.false_ne_true
  | bl i =>
    cases rx
    cases y with
    | non => cases ry; exact PySem.EqNone.eq_bool_none (zP I q (by simp))
    | bl j => cases ry; exact eq_bool (zP I q zdr)
    | str j => obtain ⟨t', rfl⟩ := ry; exact PySem.EqMixed.eq_bool_str (zP I q (by simp))
    | _ => exact absurd (show false = true from hs) Bool.false_ne_true
  | int i =>
    obtain ⟨t, rfl⟩ := rx
    cases y with
    | non => cases ry; exact PySem.EqNone.eq_int_none (zP I q (by simp))
    | int j => obtain ⟨t', rfl⟩ := ry; exact eq_int (zP I q zcn)
    | str j => obtain ⟨t', rfl⟩ := ry; exact PySem.EqMixed.eq_int_str (zP I q (by simp))
    | _ => exact absurd (show false = true from hs) Bool.false_ne_true
  | str i =>
    obtain ⟨t, rfl⟩ := rx
    cases y with
    | non => cases ry; exact PySem.EqNone.eq_str_none (zP I q (by simp))
    | bl j => cases ry; exact PySem.EqMixed.eq_str_bool (zP I q (by simp))
    | int j => obtain ⟨t', rfl⟩ := ry; exact PySem.EqMixed.eq_str_int (zP I q (by simp))
    | str j => obtain ⟨t', rfl⟩ := ry; exact eq_str (zP I q zbt)
    | _ => exact absurd (show false = true from hs) Bool.false_ne_true
  | byt i =>
    obtain ⟨t, rfl⟩ := rx
    cases y with
    | byt j => obtain ⟨t', rfl⟩ := ry; exact PySem.W.eq_bytes (zP I q zbk)
    | _ => exact absurd (show false = true from hs) Bool.false_ne_true
  | _ => cases y <;> exact absurd (show false = true from hs) Bool.false_ne_true
theorem zaP : OpR X (compareOp .NotEq) rNe := by
  intro pins s σ H x y v u Q I rx ry h
  obtain ⟨hs, q⟩ := h
  cases x with
  | non =>
    cases rx
    cases y with
    | non => cases ry; exact PySem.EqNone.ne_none_none (zP I q (by simp))
    | bl j => cases ry; exact PySem.EqNone.ne_none_bool (zP I q (by simp))
    | int j => obtain ⟨t', rfl⟩ := ry; exact PySem.EqNone.ne_none_int (zP I q (by simp))
    | str j => obtain ⟨t', rfl⟩ := ry; exact PySem.EqNone.ne_none_str (zP I q (by simp))
    | _ => exact absurd (show false = true from hs) Bool.false_ne_true
  | bl i =>
    cases rx
    cases y with
    | non => cases ry; exact PySem.EqNone.ne_bool_none (zP I q (by simp))
    | bl j => cases ry; exact ne_bool (zP I q (congrArg not zdr))
    | str j => obtain ⟨t', rfl⟩ := ry; exact PySem.EqMixed.ne_bool_str (zP I q (by simp))
    | _ => exact absurd (show false = true from hs) Bool.false_ne_true
  | int i =>
    obtain ⟨t, rfl⟩ := rx
    cases y with
    | non => cases ry; exact PySem.EqNone.ne_int_none (zP I q (by simp))
    | int j => obtain ⟨t', rfl⟩ := ry; exact ne_int (zP I q (congrArg not zcn))
    | str j => obtain ⟨t', rfl⟩ := ry; exact PySem.EqMixed.ne_int_str (zP I q (by simp))
    | _ => exact absurd (show false = true from hs) Bool.false_ne_true
  | str i =>
    obtain ⟨t, rfl⟩ := rx
    cases y with
    | non => cases ry; exact PySem.EqNone.ne_str_none (zP I q (by simp))
    | bl j => cases ry; exact PySem.EqMixed.ne_str_bool (zP I q (by simp))
    | int j => obtain ⟨t', rfl⟩ := ry; exact PySem.EqMixed.ne_str_int (zP I q (by simp))
    | str j => obtain ⟨t', rfl⟩ := ry; exact ne_str (zP I q (congrArg not zbt))
    | _ => exact absurd (show false = true from hs) Bool.false_ne_true
  | byt i =>
    obtain ⟨t, rfl⟩ := rx
    cases y with
    | byt j => obtain ⟨t', rfl⟩ := ry; exact PySem.W.ne_bytes (zP I q (congrArg not zbk))
    | _ => exact absurd (show false = true from hs) Bool.false_ne_true
  | _ => cases y <;> exact absurd (show false = true from hs) Bool.false_ne_true
theorem zd2 : OpR X (compareOp .Lt) (rI0 fun i j => .bl (decide (i < j))) := zgC fun _ _ _ _ _ _ _ q => lt_int q
theorem zbx : OpR X (compareOp .LtE) (rI0 fun i j => .bl (decide (i ≤ j))) := zgC fun _ _ _ _ _ _ _ q => le_int q
theorem zaL : OpR X (compareOp .Gt) (rI0 fun i j => .bl (decide (j < i))) := zgC fun _ _ _ _ _ _ _ q => gt_int q
theorem zg4 : OpR X (compareOp .GtE) (rI0 fun i j => .bl (decide (j ≤ i))) := zgC fun _ _ _ _ _ _ _ q => ge_int q
theorem zfx : OpR X (compareOp .Is) (fun x y H Q => y = .non ∧ Q (.bl (decide (x = .non))) H) := by
  intro pins s σ H x y v u Q I rx ry h
  obtain ⟨rfl, q⟩ := h
  cases ry
  refine is_none_gen (zP I q ?_)
  cases x <;> first
    | (cases rx; rfl)
    | (obtain ⟨t, rfl⟩ := rx; rfl)
theorem zd9 : OpR X (compareOp .IsNot) (fun x y H Q => y = .non ∧ Q (.bl (!decide (x = .non))) H) := by
  intro pins s σ H x y v u Q I rx ry h
  obtain ⟨rfl, q⟩ := h
  cases ry
  refine isnot_none_gen (zP I q ?_)
  cases x <;> first
    | (cases rx; rfl)
    | (obtain ⟨t, rfl⟩ := rx; rfl)
theorem OpR.or {f : Value → Value → Sem Value} {r r' : R2} (h : OpR X f r) (h' : OpR X f r') : OpR X f (fun x y H Q => r x y H Q ∨ r' x y H Q) := by
  intro pins s σ H x y v u Q I rx ry q
  rcases q with q | q
  · exact h pins s σ H x y v u Q I rx ry q
  · exact h' pins s σ H x y v u Q I rx ry q
theorem zF (b : Expr) {op : CmpOp} (h : op ≠ .In := by decide) (h2 : op ≠ .NotIn := by decide) : behindInMarks op b = false := by
  have e1 : (op == CmpOp.In) = false := by cases op <;> first | rfl | exact absurd rfl h
  have e2 : (op == CmpOp.NotIn) = false := by cases op <;> first | rfl | exact absurd rfl h2
  cases b <;> simp [behindInMarks, e1, e2]
theorem zcb {op : CmpOp} {r : R2} (ho : OpR X (compareOp op) r) (ha : PE X a ta) (hb : PE X b tb) (hm : behindInMarks op b = false) : PE X (.Compare a [op] [b] pos) (tOp r ta tb) := by
  intro pins s σ H Q I h
  exact wpAny_Compare1 (zhb ha hb I h fun v u s2 x y H2 I2 rx ry q => ho pins s2 σ H2 x y v u Q I2 rx ry q) hm
noncomputable def zf6 (t : TE) : TT := fun σ H Q => t σ H fun x H' => ∃ k, x = .bl k ∧ Q k H'
theorem zdJ {op : CmpOp} {r : R2} (ho : OpR X (compareOp op) r) (ha : PE X a ta) (hb : PE X b tb) (hm : behindInMarks op b = false) : PT X (.Compare a [op] [b] pos) (zf6 (tOp r ta tb)) := by
  intro pins s σ H Q I h
  refine wpAny_isTrue_Compare1 (thn (ha pins s σ H _ I h) fun v s1 ⟨x, H1, I1, r1, q1⟩ => thn (hb pins s1 σ H1 _ I1 q1) fun u s2 ⟨y, H2, I2, r2, q2⟩ =>
    thn (ho pins s2 σ H2 x y v u _ I2 r1 r2 q2) fun c s3 ⟨z, H3, I3, r3, k, e, q3⟩ => ?_) hm
  subst e
  cases r3
  exact wpAny_truthy_bool ⟨H3, I3, q3⟩
noncomputable def zbJ (r r' : R2) (ta tb tc : TE) : TE := fun σ H Q => ta σ H fun x H1 => tb σ H1 fun y H2 => r x y H2 fun z H3 => ∃ k, z = .bl k ∧
  (if k = true then tc σ H3 fun w' H4 => r' y w' H4 Q else Q (.bl false) H3)
theorem zdf {op op' : CmpOp} {r r' : R2} (ho : OpR X (compareOp op) r) (ho' : OpR X (compareOp op') r') (ha : PE X a ta) (hb : PE X b tb) (hc : PE X c tc)
    (hm : lastMarks [op, op'] [b, c] = false := by with_unfolding_all rfl) : PE X (.Compare a [op, op'] [b, c] pos) (zbJ r r' ta tb tc) := by
  intro pins s σ H Q I h
  refine Compare_chain (thn (ha pins s σ H _ I h) fun v s1 ⟨x, H1, I1, r1, q1⟩ => chain_link (thn (hb pins s1 σ H1 _ I1 q1) fun u s2 ⟨y, H2, I2, r2, q2⟩ =>
    thn (ho pins s2 σ H2 x y v u _ I2 r1 r2 q2) fun d s3 ⟨z, H3, I3, r3, k, e, q3⟩ => ?_)) hm
  subst e
  cases r3
  refine wpAny_truthy_bool ?_
  cases k with
  | false => exact ite_ff ⟨.bl false, H3, I3, rfl, q3⟩
  | true => exact ite_tt (chain_last (thn (hc pins s3 σ H3 _ I3 q3) fun w' s4 ⟨z', H4, I4, r4, q4⟩ => ho' pins s4 σ H4 y z' u w' Q I4 r2 r4 q4))
theorem Z3 : (sizeLine : Nat) < 2 ^ 63 := by rw [sizeLine_eq]; decide
theorem zau : OpR X (binaryOp .Add) (fun x y H Q => ∃ i j, x = .str i ∧ y = .str j ∧ i.length + j.length ≤ sizeLine ∧ Q (.str (i ++ j)) H) := by
  intro pins s σ H x y v u Q I rx ry h
  obtain ⟨i, j, rfl, rfl, hz, q⟩ := h
  obtain ⟨t, rfl⟩ := rx
  obtain ⟨t', rfl⟩ := ry
  exact add_str (fun t' tk => ⟨.str (i ++ j), H, I.tok _, ⟨_, rfl⟩, q⟩) hz
theorem Xx {x : V} {us : List Value} (r : yg [x] us) : ∃ u, us = [u] ∧ xJ x u := by
  cases r with
  | cons r1 r2 => cases r2; exact ⟨_, rfl, r1⟩
theorem zbn {x y : V} {us : List Value} (r : yg [x, y] us) : ∃ u w', us = [u, w'] ∧ xJ x u ∧ xJ y w' := by
  cases r with
  | cons r1 r2 =>
    cases r2 with
    | cons r3 r4 => cases r4; exact ⟨_, _, rfl, r1, r3⟩
end
end L2
namespace L2
open PySem PySem.Spec PyProof.Rows
set_option genInjectivity false in
set_option genSizeOf false in
set_option genCtorIdx false in
structure zg5 (h : Heap) (x dx C : Addr) (mA : Str → Option Value) : Prop where
  obj : h.get? x = some (PySem.W.instObj C dx)
  ns : h.Ns1 dx mA
  ne : dx ≠ x
theorem zb7 {h : Heap} {dx : Addr} {mA : Str → Option Value} (n : h.Ns1 dx mA) : ∃ od, h.get? dx = some od ∧ ∀ name, PySem.W.lookIn name od = some (mA name) := by
  obtain ⟨o, es, ep, ho, hd, hk, _, hm⟩ := n
  refine ⟨o, ho, fun name => ?_⟩
  have e := hm name
  unfold nsFind findBy at e
  rw [← Array.find?_toList] at e
  unfold PySem.W.lookIn
  rw [hd]
  dsimp only
  split
  · rename_i y q
    rw [q] at e
    exact congrArg some e
  · rename_i q
    rw [q] at e
    have a : es.toList.any (·.refKey) = false := by
      rw [List.any_eq_false]
      intro y hy
      obtain ⟨z, t, hkey⟩ := hk y (Array.mem_toList_iff.mp hy)
      simp [DictEntry.refKey, hkey]
    have a' : ¬ es.toList.any (·.refKey) = true := by rw [a]; exact Bool.false_ne_true
    rw [if_neg a']
    exact congrArg some e
theorem zg5.look {h : Heap} {x dx C : Addr} {mA : Str → Option Value} (I : zg5 h x dx C mA) : ∃ od, PySem.W.InstAt h x (PySem.W.instObj C dx) C (some od) ∧ ∀ name, PySem.W.lookIn name od = some (mA name) :=
  let ⟨od, ho, hl⟩ := zb7 I.ns
  ⟨od, ⟨I.obj, rfl, rfl, ho⟩, hl⟩
section
variable {prog : Program} {w : World} {A : Around} {E : Value → Shared → Prop} {s : Shared} {K : PySem.W.Frag} {x dx C f : Addr} {mA : Str → Option Value} {name : Str} {v : Value}
end
section
variable {P : Program} {w : World} {H H' : Hp} {h h' : Heap} {a C dx : Addr} {fs fs' : List (Str × V)}
theorem zdN (hok : HOk P w H h) (e : H a = some (.ins C dx fs)) : ∃ mA, zg5 h a dx C mA ∧ (∀ f, zgG (fs.lookup f) (mA f)) ∧ PySem.Within mA (fs.map (·.1)) ∧ fs.length ≤ 1000 ∧ H dx = some (.own a) := by
  obtain ⟨d, z, ne, ob, mA, n, r, q⟩ := (show wf P w H h a (.ins C dx fs) from hok a _ e)
  exact ⟨mA, ⟨ob, n, ne⟩, r, q, z, d⟩
end
set_option genInjectivity false in
set_option genSizeOf false in
set_option genCtorIdx false in
structure Cls (K : PySem.W.Frag) (C : Addr) : Prop where
  pg : PySem.W.plainGet K C Str.empty = true
  hd : PySem.W.hasDictIn K C = true
  po : PySem.W.plainOver K C = true
  sa : PySem.W.findIn K (.ref C) "__setattr__" = some (some (.builtin "object.__setattr__"))
theorem Cls.get {K : PySem.W.Frag} {C : Addr} (c : Cls K C) (f : Str) : PySem.W.plainGet K C f = true := c.pg
section
variable {X : Cx} {pins : List (Addr × Obj)} {σ : St} {H : Hp} {s : Shared} {a C dx : Addr} {fs : List (Str × V)} {f : Str} {v : V} {A : Around} {E : Value → Shared → Prop}
end
section
variable {X : Cx} {o e value : Expr} {f : Str} {pos pos' tpos : Pos} {ta tv : TE}
end
section
variable {X : Cx} {pins : List (Addr × Obj)} {σ : St} {H : Hp} {s : Shared} {A : Around} {E : Value → Shared → Prop} {Q : Value → Shared → Prop} {c : Value} {b : Bool}
inductive zaf (K : PySem.W.Frag) (H : Hp) : V → Value → Prop where
  | non : zaf K H .non (.type "NoneType")
  | bl (x : Bool) : zaf K H (.bl x) (.type "bool")
  | int (i : Int) : zaf K H (.int i) (.type "int")
  | str (x : Str) : zaf K H (.str x) (.type "str")
  | flt (x : UInt64) : zaf K H (.flt x) (.type "float")
  | lst {a : Addr} {xs : List V} (e : H a = some (.lst xs)) : zaf K H (.ref a) (.type "list")
  | frz {a : Addr} {o : Obj} {xs : List V} (e : H a = some (.frz o (.lst xs))) : zaf K H (.ref a) (.type "list")
  | tup {a : Addr} {xs : List V} (e : H a = some (.tup xs)) : zaf K H (.ref a) (.type "tuple")
  | dK {a : Addr} {kvs : List (Key × V)} (e : H a = some (.dK kvs)) : zaf K H (.ref a) (.type "dict")
  | dT {a : Addr} {kvs : List (List Key × V)} (e : H a = some (.dT kvs)) : zaf K H (.ref a) (.type "dict")
  | ins {a C dx : Addr} {fs : List (Str × V)} (e : H a = some (.ins C dx fs)) (cl : Cls K C) (ha : PySem.W.findIn K (.ref C) "__class__" = some (some (.builtin "object.__class__")))
      (hn : PySem.W.specialIn K (.builtin "object.__class__") "__get__" = some (some (.builtin "getset_descriptor.__get__"))) (htk : PySem.W.takesIn K (.builtin "object.__class__") = some true)
      (hm : PySem.W.mroIn K C (.type "object") = some true) : zaf K H (.ref a) (.ref C)
theorem zbf {x : V} {u t : Value} (I : Inv X pins σ H s) (rx : xJ x u) (ty : zaf X.K H x t) (e : PySem.W.kitOne X.K t c = some b) (h : ∀ tk, Q (.bool b) { s with toks := tk }) :
    wpAny (model X.prog X.w) A (call (.builtin "isinstance") [u, c]) Q E s := by
  cases ty with
  | non => cases (show u = Value.none from rx); exact PySem.W.kia_one PySem.W.kitx_none I.kIn True.intro e (fun z => nomatch z) h
  | bl y => cases (show u = Value.bool y from rx); exact PySem.W.kia_one PySem.W.kitx_bool I.kIn True.intro e (fun z => nomatch z) h
  | int i => obtain ⟨t, q⟩ := (show ∃ t, u = Value.int i t from rx); cases q; exact PySem.W.kia_one PySem.W.kitx_int I.kIn True.intro e (fun z => nomatch z) h
  | str y => obtain ⟨t, q⟩ := (show ∃ t, u = Value.str y t from rx); cases q; exact PySem.W.kia_one PySem.W.kitx_str I.kIn True.intro e (fun z => nomatch z) h
  | flt y => obtain ⟨t, q⟩ := (show ∃ t, u = Value.float y t from rx); cases q; exact PySem.W.kia_one PySem.W.kitx_float I.kIn True.intro e (fun z => nomatch z) h
  | @lst a xs ea =>
    cases (show u = Value.ref a from rx)
    obtain ⟨_, _, n, _, h1⟩ := (show wf X.prog X.w H s.heap a (.lst xs) from I.hok a _ ea)
    exact PySem.W.kia_one PySem.W.kitx_list I.kIn ⟨_, h1, rfl⟩ e (fun z => nomatch z) h
  | @frz a ob xs ea =>
    cases (show u = Value.ref a from rx)
    obtain ⟨_, _, _, n, _, h1⟩ := (show wf X.prog X.w H s.heap a (.frz ob (.lst xs)) from I.hok a _ ea)
    exact PySem.W.kia_one PySem.W.kitx_list I.kIn ⟨_, h1, rfl⟩ e (fun z => nomatch z) h
  | @tup a xs ea =>
    cases (show u = Value.ref a from rx)
    obtain ⟨_, _, _, p⟩ := (show wf X.prog X.w H s.heap a (.tup xs) from I.hok a _ ea)
    obtain ⟨o, h1, h2, _⟩ := p
    exact PySem.W.kia_one PySem.W.kitx_tuple I.kIn ⟨o, h1, h2⟩ e (fun z => nomatch z) h
  | @dK a kvs ea =>
    cases (show u = Value.ref a from rx)
    obtain ⟨_, _, vs, _, p⟩ := (show wf X.prog X.w H s.heap a (.dK kvs) from I.hok a _ ea)
    obtain ⟨o, es, ep, h1, h2, _⟩ := p
    exact PySem.W.kia_one PySem.W.kitx_dict I.kIn ⟨o, h1, h2.1⟩ e (fun z => nomatch z) h
  | @dT a kvs ea =>
    cases (show u = Value.ref a from rx)
    obtain ⟨_, _, xs, _, o, es, ep, h1, h2, _⟩ := (show wf X.prog X.w H s.heap a (.dT kvs) from I.hok a _ ea)
    exact PySem.W.kia_one PySem.W.kitx_dict I.kIn ⟨o, h1, h2.1⟩ e (fun z => nomatch z) h
  | @ins a C dx fs ea cl ha hn htk hm =>
    cases (show u = Value.ref a from rx)
    obtain ⟨mA, O, _⟩ := zdN I.hok ea
    obtain ⟨od, J, _⟩ := O.look
    exact PySem.W.kia_one (PySem.W.kitx_own (cl.get _) cl.hd ha hn htk hm) I.kIn J e (fun z => nomatch z) h
end
end L2
namespace L2
open PySem PySem.Spec PyProof.Rows
set_option genInjectivity false in
set_option genSizeOf false in
set_option genCtorIdx false in
structure YI (k : Nat) (A : Around) : Prop where
  hd : A.handled = none
  dp : A.depth + 3 * k + 5 < recursionLimit
  un : A.units + 16 * k + 200 < cLine
theorem YI.mono {j k : Nat} {A : Around} (r : YI k A) (h : j ≤ k) : YI j A := ⟨r.hd, by have := r.dp; omega, by have := r.un; omega⟩
theorem YI.deeper {k : Nat} {A : Around} (r : YI (k + 1) A) (env : Env) : YI k (A.deeper env) :=
  ⟨r.hd, by have := r.dp; show A.depth + 1 + 3 * k + 5 < _; omega, by have := r.un; show A.units + 3 + 16 * k + 200 < _; omega⟩
theorem YI.depth {k : Nat} {A : Around} (r : YI k A) : A.depth < recursionLimit := by have := r.dp; omega
noncomputable def tNil : TA := fun _ H Q => Q [] H
noncomputable def zhd (ta : TE) (tr : TA) : TA := fun σ H Q => ta σ H fun x H1 => tr σ H1 fun xs H2 => Q (x :: xs) H2
section
variable {X : Cx} {e : Expr} {es : List Expr} {te : TE} {t : TA} {pos : Pos}
theorem V6 : PA X [] tNil := fun _ _ _ _ H Q I h => Calls.spliced_nil ⟨[], H, I, .nil, h⟩
theorem ZV (ha : PE X e te) (hr : PA X es t) (hs : starEach (e :: es) X.env = (false, eval e X.env) :: starEach es X.env := by rfl) : PA X (e :: es) (zhd te t) := by
  intro pos pins s σ H Q I h
  rw [hs]
  show wpAny _ _ (spliced ((false, eval e X.env) :: backTo pos (starEach es X.env))) _ _ s
  refine Calls.spliced_cons (thn (ha pins s σ H _ I h) fun u s1 hh9 => ?_)
  obtain ⟨x, H1, I1, r1, q1⟩ := hh9
  exact thn (hr pos pins s1 σ H1 _ I1 q1) fun us s2 ⟨xs, H2, I2, r2, q2⟩ => ⟨x :: xs, H2, I2, .cons r1 r2, q2⟩
noncomputable def tTup (t : TA) : TE := fun σ H Q => t σ H fun xs H1 => xs.length ≤ sizeLine ∧ ∀ p, H1 p = none → Q (.ref p) (upd H1 p (.tup xs))
noncomputable def tLst (t : TA) : TE := fun σ H Q => t σ H fun xs H1 => xs.length ≤ sizeLine ∧ ∀ p, H1 p = none → Q (.ref p) (upd H1 p (.lst xs))
theorem zgm {x1} (h : PA X es t) : PE X (.Tuple es x1 pos) (tTup t) := by
  intro pins s σ H Q I hq
  refine wpAny_Tuple_spliced (thn (h pos pins s σ H _ I hq) fun us s1 ⟨xs, H1, I1, r, z, q⟩ => ⟨by rw [← r.length]; exact z, ?_⟩)
  have hf : H1 s1.heap.objs.size = none := I1.hok.fresh (Nat.le_refl _)
  refine ⟨.ref s1.heap.objs.size, upd H1 s1.heap.objs.size (.tup xs), I1.laid (t' := s1.toks) (fun b u e => Heap.get?_push_of_some _ e) (Nat.le_refl _) ?_, rfl, q _ hf⟩
  exact ⟨z, us, r, ⟨_, Heap.get?_push_size _ rfl, rfl, _, rfl⟩⟩
theorem zgf (h : PA X es t) : PE X (.List es pos) (tLst t) := by
  intro pins s σ H Q I hq
  refine wpAny_List_spliced (thn (h pos pins s σ H _ I hq) fun us s1 ⟨xs, H1, I1, r, z, q⟩ => ⟨by rw [← r.length]; exact z, ?_⟩)
  have hf : H1 s1.heap.objs.size = none := I1.hok.fresh (Nat.le_refl _)
  refine ⟨.ref s1.heap.objs.size, upd H1 s1.heap.objs.size (.lst xs), I1.laid (t' := s1.toks) (fun b u e => Heap.get?_push_of_some _ e) (Nat.le_refl _) ?_, rfl, q _ hf⟩
  exact ⟨z, us, 0, r, Heap.get?_push_size _ rfl⟩
end
noncomputable abbrev Sp := List V → Hp → VK → XK → Prop
noncomputable abbrev CXT := List Env → Hp → Shared → XK → Value → Shared → Prop
structure zgx (P : Program) (w : World) (K : PySem.W.Frag) (mg : Str → Option Value) (base : Heap) (A : Around) (outer : List Env) (s : Shared) (H : Hp) : Prop where
  frames : A.frames = some outer
  mod : Mod K mg base
  bs : ∀ b o, base.get? b = some o → s.heap.get? b = some o ∧ H b = none
  bsz : base.objs.size ≤ s.heap.objs.size
  funs : s.heap.FunFrames base outer
  frf : ∀ b ∈ frs outer, H b = none
  hok : HOk P w H s.heap
  bare : AllBare s.gens
noncomputable def CE (outer : List Env) (P : Program) (w : World) (H : Hp) (s : Shared) (Q : VK) (u : Value) (s' : Shared) : Prop :=
  ∃ v H', s'.os = s.os ∧ AllBare s'.gens ∧ Un (frs outer) [] H H' s.heap s'.heap ∧ HOk P w H' s'.heap ∧ xJ v u ∧ Q v H'
noncomputable def CR (CX : CXT) (outer : List Env) (P : Program) (w : World) (H : Hp) (s : Shared) (Q : VK) (E : XK) (r : Result) (s' : Shared) : Prop :=
  match r with
  | .ok (.ret u) => CE outer P w H s Q u s'
  | .ok _ => False
  | .error e => CX outer H s E e s'
set_option genInjectivity false in
set_option genSizeOf false in
set_option genCtorIdx false in
structure y0 (P : Program) (w : World) (K : PySem.W.Frag) (mg : Str → Option Value) (base : Heap) (CX : CXT) (k : Nat) (f : Addr) (fd : FuncData) (ps : List Str) (sp : Sp) : Prop where
  len : ∀ vs H Q E, sp vs H Q E → vs.length = ps.length
  run : ∀ (A : Around) (outer : List Env) (s : Shared) (H : Hp) (args : Args) (us : List Value) (vs : List V) (Q : VK) (E : XK), YI k A → zgx P w K mg base A outer s H → BindsTo s fd args (ps.zip us) → yg vs us → sp vs H Q E →
    codeAny (model P w) A (.call (.ref f) args) (CR CX outer P w H s Q E) s
theorem y0.mono {P : Program} {w : World} {K : PySem.W.Frag} {mg : Str → Option Value} {base : Heap} {CX : CXT} {j k : Nat} {f : Addr} {fd : FuncData} {ps : List Str} {sp : Sp} (F : y0 P w K mg base CX j f fd ps sp) (h : j ≤ k) :
    y0 P w K mg base CX k f fd ps sp := ⟨F.len, fun A outer s H args us vs Q E hr => F.run A outer s H args us vs Q E (hr.mono h)⟩
theorem y0.imp {P : Program} {w : World} {K : PySem.W.Frag} {mg : Str → Option Value} {base : Heap} {CX : CXT} {k : Nat} {f : Addr} {fd : FuncData} {ps : List Str} {sp sp' : Sp} (F : y0 P w K mg base CX k f fd ps sp)
    (h : ∀ vs H Q E, sp' vs H Q E → sp vs H Q E) : y0 P w K mg base CX k f fd ps sp' :=
  ⟨fun vs H Q E q => F.len vs H Q E (h _ _ _ _ q), fun A outer s H args us vs Q E hr he hb hv hs => F.run A outer s H args us vs Q E hr he hb hv (h _ _ _ _ hs)⟩
section
variable {X : Cx} {pins : List (Addr × Obj)} {σ : St} {H : Hp} {s s' : Shared}
theorem Inv.env0 (I : Inv X pins σ H s) : zgx X.prog X.w X.K X.mg X.base X.A X.stack s H :=
  ⟨I.ok.frames, I.ok.mod, I.bs, Nat.le_trans I.ok.bsz I.sz, I.stack, I.stkFree, I.hok, I.bare⟩
theorem Inv.after {Q : VK} {u : Value} (I : Inv X pins σ H s) (h : CE X.stack X.prog X.w H s Q u s') : EP X pins σ Q u s' := by
  obtain ⟨v, H', os, bare, un, hok, r, q⟩ := h
  obtain ⟨hh, g, d, t, os'⟩ := s'
  obtain rfl : os' = s.os := os
  exact ⟨v, H', I.call (h' := hh) (g' := g) (d' := d) (t' := t) (ch := []) un hok bare (fun b z => absurd z (by simp)), r, q⟩
end
noncomputable def zgF (sp : Sp) (dvs : List V) (E : XK) (t : TA) : TE := fun σ H Q => t σ H fun vs H1 => sp (vs ++ dvs) H1 Q E
noncomputable def X5 (K : PySem.W.Frag) (fd : FuncData) (ps : List Str) (ds : List Value) : Prop :=
  ∀ (s : Shared) (us : List Value), K.In s.heap → (us ++ ds).length = ps.length → BindsTo s fd ⟨us, []⟩ (ps.zip (us ++ ds))
theorem X5.all {K : PySem.W.Frag} {fd : FuncData} {ps : List Str} (h : ∀ us : List Value, us.length = ps.length → bindArgs fd ⟨us, []⟩ = pure (ps.zip us)) : X5 K fd ps [] := fun s us _ hl => by
  rw [List.append_nil] at hl ⊢
  exact .of_eq (h us hl)
noncomputable def zbN (CX : CXT) (X : Cx) (E : XK) : Prop := ∀ (pins : List (Addr × Obj)) (σ : St) (H : Hp) (s : Shared) (e : Value) (s' : Shared), Inv X pins σ H s → CX X.stack H s E e s' → X.xe e s'
section
variable {X : Cx} {CX : CXT} {k : Nat} {f C : Addr} {fd : FuncData} {ps : List Str} {sp : Sp} {dvs : List V} {ds : List Value} {E : XK} {x m : Str} {p pos apos : Pos} {e o : Expr} {es : List Expr} {ta : TE} {t : TA}
theorem zf4 {pins : List (Addr × Obj)} {σ : St} {H : Hp} {s : Shared} {Q : VK} {us : List Value} {vs : List V} (F : y0 X.prog X.w X.K X.mg X.base CX k f fd ps sp) (hr : YI k X.A) (hb : X5 X.K fd ps ds) (hd : yg dvs ds) (hx : zbN CX X E)
    (I : Inv X pins σ H s) (r : yg vs us) (h : sp (vs ++ dvs) H Q E) : wpAny (model X.prog X.w) X.A (call (.ref f) us) (EP X pins σ Q) X.xe s := by
  have r2 : yg (vs ++ dvs) (us ++ ds) := r.append hd
  have hl : (us ++ ds).length = ps.length := by rw [← r2.length]; exact F.len _ _ _ _ h
  refine wpAny_call (codeAny_mono (F.run X.A X.stack s H ⟨us, []⟩ (us ++ ds) (vs ++ dvs) Q E hr I.env0 (hb s us I.kIn hl) r2 h) fun r s' hq => ?_)
  cases r with
  | error e => exact hx pins σ H s e s' I hq
  | ok fl =>
    cases fl with
    | ret u => exact I.after hq
    | next => exact False.elim hq
    | brk => exact False.elim hq
    | cont => exact False.elim hq
theorem Vw (F : y0 X.prog X.w X.K X.mg X.base CX k f fd ps sp) (hr : YI k X.A) (hg : Gl X x) (hm : X.mg x = some (.ref f)) (hk : PySem.W.keepIn X.K (.ref f) = true) (hb : X5 X.K fd ps ds) (hd : yg dvs ds) (hx : zbN CX X E)
    (ha : PA X (e :: es) t) (hdb : (x == ("__debug__" : Str)) = false := by decide) (he : starEach (e :: es) X.env = (false, eval e X.env) :: starEach es X.env := by rfl) (hpl : (backTo pos (starEach es X.env)).any (·.1) = false := by rfl) :
    PE X (.Call (.Name x p) (e :: es) [] pos) (zgF sp dvs E t) := by
  intro pins s σ H Q I h
  refine wpAny_Call_Name_kw (W2 I hg hm ?_ hdb)
  refine PySem.W.callWith_K (h₀ := X.base) I.ok.mod.kin hk (thn (ha pos pins s σ H _ I h) fun us s1 ⟨vs, H1, I1, r, q⟩ => ⟨I1.kIn, ?_⟩) he hpl
  exact zf4 F hr hb hd hx I1 r q
end
section
variable {X : Cx} {CX : CXT} {k : Nat} {f C : Addr} {fd : FuncData} {ps ks : List Str} {sp : Sp} {E : XK} {x m : Str} {p pos apos kpos : Pos} {e o : Expr} {es : List Expr} {kws : List Keyword} {te ta : TE} {t tk : TA} {nm : Option Str}
variable {g : List Value → List Value → List Value} {gV : List V → List V → List V}
end
structure zB (N P : List Str) (sc : Scope) : Prop where
  kind : sc.kind = .function
  co : sc.isCoroutine = false
  gen : sc.isGenerator = false
  nd : N.Nodup
  pre : N.take P.length = P
  par : ∀ x ∈ P, sc.names.lookup x = some .local ∨ sc.names.lookup x = some .cell
  nofree : ∀ y ∈ sc.names, y.2 ≠ .free
theorem Wd {kindOf : Str → Option NameKind} {x : Str} : ∀ {binds : List (Str × Value)} {m : Str → Option Value}, (∀ v, (x, v) ∉ binds) → bindL kindOf binds m x = m x
  | [], _, _ => rfl
  | (n, v) :: r, m, h => by
    unfold bindL
    rw [Wd fun w hw => h w (List.mem_cons_of_mem _ hw)]
    split
    · have : x ≠ n := by rintro rfl; exact h v List.mem_cons_self
      simp [this]
    · rfl
theorem Wa {kindOf : Str → Option NameKind} {x : Str} : ∀ {binds : List (Str × Value)} {m : Str → Option Value}, (∀ v, (x, v) ∉ binds) → bindC kindOf binds m x = m x
  | [], _, _ => rfl
  | (n, v) :: r, m, h => by
    unfold bindC
    rw [Wa fun w hw => h w (List.mem_cons_of_mem _ hw)]
    split
    · rfl
    · have : x ≠ n := by rintro rfl; exact h v List.mem_cons_self
      simp [this]
theorem Wh {kindOf : Str → Option NameKind} {x : Str} {v : Value} : ∀ {P : List Str} {vs : List Value} {i : Nat} {m : Str → Option Value}, P.Nodup → P[i]? = some x → vs[i]? = some v → kindOf x = some .local →
    bindL kindOf (P.zip vs) m x = some v
  | [], _, _, _, _, h, _, _ => by simp at h
  | _ :: _, [], _, _, _, _, h, _ => by simp at h
  | p :: P, w :: vs, 0, m, nd, h1, h2, hk => by
    simp at h1 h2; subst h1; subst h2
    show bindL kindOf ((p, w) :: P.zip vs) m p = _
    unfold bindL
    rw [Wd fun v hv => (List.nodup_cons.mp nd).1 (List.of_mem_zip hv).1, if_pos hk]
    simp
  | p :: P, w :: vs, i + 1, m, nd, h1, h2, hk => by
    show bindL kindOf ((p, w) :: P.zip vs) m x = _
    unfold bindL
    exact Wh (i := i) (List.nodup_cons.mp nd).2 (by simpa using h1) (by simpa using h2) hk
theorem Wf {kindOf : Str → Option NameKind} {x : Str} {v : Value} : ∀ {P : List Str} {vs : List Value} {i : Nat} {m : Str → Option Value}, P.Nodup → P[i]? = some x → vs[i]? = some v → kindOf x ≠ some .local →
    bindC kindOf (P.zip vs) m x = some v
  | [], _, _, _, _, h, _, _ => by simp at h
  | _ :: _, [], _, _, _, _, h, _ => by simp at h
  | p :: P, w :: vs, 0, m, nd, h1, h2, hk => by
    simp at h1 h2; subst h1; subst h2
    show bindC kindOf ((p, w) :: P.zip vs) m p = _
    unfold bindC
    rw [Wa fun v hv => (List.nodup_cons.mp nd).1 (List.of_mem_zip hv).1, if_neg hk]
    simp
  | p :: P, w :: vs, i + 1, m, nd, h1, h2, hk => by
    show bindC kindOf ((p, w) :: P.zip vs) m x = _
    unfold bindC
    exact Wf (i := i) (List.nodup_cons.mp nd).2 (by simpa using h1) (by simpa using h2) hk
noncomputable def start (N : List Str) (vs : List V) : St := vs.map some ++ List.replicate (N.length - vs.length) none
noncomputable def zcp (CX : CXT) (P : Program) (w : World) (K : PySem.W.Frag) (mg : Str → Option Value) (base : Heap) (N : List Str) (qual : Str) (scope : Scope) (f : Addr) (cd : Value) (A : Around) (outer : List Env) (s : Shared) (H : Hp) (E : XK) : Cx where
  prog := P
  w := w
  K := K
  mg := mg
  base := base
  A := A.deeper (envOfC qual scope s.heap.objs.size f cd)
  N := N
  s₀ := s
  H₀ := H
  env := envOfC qual scope s.heap.objs.size f cd
  outer := outer
  stack := envOfC qual scope s.heap.objs.size f cd :: outer
  ex := []
  calm := true
  fn := fun _ => true
  pn := []
  xe := fun e s' => wpAny (model P w) (A.deeper (envOfC qual scope s.heap.objs.size f cd)) (leaving (envOfC qual scope s.heap.objs.size f cd) e) (fun _ s'' => CX outer H s E e s'') (fun e' s'' => CX outer H s E e' s'') s'
theorem V7 {sc : Scope} {n : Nat} {x : Str} (h : sc.names.lookup x = some .cell) : ∃ c, (cellsFrom n sc.names []).lookup x = some c := by
  have q := PySem.W.cellsFrom_some sc.names n [] (.inl h)
  exact Option.isSome_iff_exists.mp q
theorem zbe {CX : CXT} {P : Program} {w : World} {K : PySem.W.Frag} {mg : Str → Option Value} {base : Heap} {N ps : List Str} {qual : Str} {scope : Scope} {f : Addr} {cd : Value} {A : Around} {outer : List Env} {s s1 : Shared} {H : Hp} {E : XK} {us : List Value} {vs : List V}
    (S : zB N ps scope) (hd : A.handled = none) (e0 : zgx P w K mg base A outer s H) (hl : vs.length = ps.length) (r : yg vs us)
    (x : InCallC s s.heap.objs.size (bindL (envOfC qual scope s.heap.objs.size f cd).kindOf (ps.zip us) fun _ => none) (cellsFrom (s.heap.objs.size + 1) scope.names []) (bindC (envOfC qual scope s.heap.objs.size f cd).kindOf (ps.zip us) fun _ => none) s1) :
    Inv (zcp CX P w K mg base N qual scope f cd A outer s H E) [] (start N vs) H s1 := by
  have hpl : ps.length ≤ N.length := by have := congrArg List.length S.pre; rw [List.length_take] at this; omega
  obtain ⟨h1, tk, rfl, hk⟩ := x.done
  have noA : ∀ b : Addr, b ∉ (zcp CX P w K mg base N qual scope f cd A outer s H E).ex := fun b z => absurd (show b ∈ ([] : List Addr) from z) (by simp)
  refine ⟨⟨e0.mod, S.kind, rfl, rfl, Nat.le_refl _, fun y z c h1 h2 => ?_, fun y hy => ?_, fun y c _ h => ?_, fun _ => hd, Around.frames_deeper e0.frames, .inr ⟨rfl, rfl⟩, fun b z => absurd z (noA b), e0.bs, e0.bsz, fun b _ _ => noA b, fun b z => absurd z (noA b), e0.funs, e0.frf⟩,
    rfl, e0.bare, Un.kept hk, ⟨_, x.toInCall.ns, fun i y v h1 h2 h3 => ?_⟩, fun y c h => ⟨_, x.cell y c h⟩, e0.hok.fresh (Nat.le_refl _), fun y c h => ?_, fun p hp => absurd (show p ∈ ([] : List (Addr × Obj)) from hp) (by simp), e0.hok.kept hk, ?_⟩
  · exact name_of_addr x.apart (PySem.mem_of_lookup h1) (PySem.mem_of_lookup h2)
  · have hy : scope.names.lookup y = some .cell ∨ scope.names.lookup y = some .free := hy
    rcases hy with hy | hy
    · exact V7 hy
    · exact absurd rfl (S.nofree _ (PySem.mem_of_lookup hy))
  · exact Nat.le_of_lt (x.above y c (PySem.mem_of_lookup h))
  · have hi : i < vs.length := by
      unfold start at h2
      by_cases hi : i < vs.length
      · exact hi
      · rw [List.getElem?_append_right (by simpa using hi)] at h2
        rw [List.getElem?_replicate] at h2
        split at h2 <;> cases h2
    have ha : vs[i]? = some v := by
      unfold start at h2
      rw [List.getElem?_append_left (by simpa using hi), List.getElem?_map] at h2
      cases e : vs[i]? with
      | none => rw [e] at h2; cases h2
      | some a => rw [e] at h2; cases h2; rfl
    obtain ⟨u, hu, rv⟩ := r.get ha
    have hp : ps[i]? = some y := by
      rw [← S.pre, List.getElem?_take_of_lt (by omega)]; exact h1
    have ndP : ps.Nodup := by rw [← S.pre]; exact S.nd.sublist (List.take_sublist _ _)
    refine ⟨u, rv, ?_⟩
    rcases S.par y (List.mem_of_getElem? hp) with k | k
    · exact .inl ⟨k, Wh ndP hp hu k⟩
    · obtain ⟨c, e⟩ := V7 (n := s.heap.objs.size + 1) k
      refine .inr ⟨.inl k, c, e, ?_⟩
      have q := x.cell y c e
      rw [Wf ndP hp hu (by show scope.names.lookup y ≠ _; rw [k]; decide)] at q
      exact q
  · exact e0.hok.fresh (Nat.le_of_lt (x.above y c (PySem.mem_of_lookup h)))
  · unfold start
    show _ = N.length
    rw [List.length_append, List.length_map, List.length_replicate]
    omega
theorem zgR {CX : CXT} {P : Program} {w : World} {K : PySem.W.Frag} {mg : Str → Option Value} {base : Heap} {k : Nat} {f : Addr} {name qual : Str} {params : Arguments} {body : List Stmt} {scope : Scope} {dV kV doc pm cdv ct oc : Value} {an od : Option Addr}
    {osl : Array (Option Value)} {N ps : List Str} {sp : Sp} (lk : K.lookup f = some ⟨oc, od, .func (PySem.W.fnOf name qual params body scope dV kV doc pm an cdv ct), osl⟩) (hcd : PySem.W.codeIn K cdv qual = true) (S : zB N ps scope)
    (len : ∀ vs H Q E, sp vs H Q E → vs.length = ps.length)
    (hbody : ∀ (A : Around) (outer : List Env) (s : Shared) (H : Hp) (vs : List V) (Q : VK) (E : XK), YI k (A.deeper (envOfC qual scope s.heap.objs.size f cdv)) → sp vs H Q E →
      ∃ t, PSs (zcp CX P w K mg base N qual scope f cdv A outer s H E) body t ∧ t { nx := fun _ H' => Q .non H', rt := Q } (start N vs) H) :
    y0 P w K mg base CX (k + 1) f (PySem.W.fnOf name qual params body scope dV kV doc pm an cdv ct) ps sp := by
  refine ⟨len, fun A outer s H args us vs Q E hr e0 hb r hsp => ?_⟩
  have hl := len _ _ _ _ hsp
  have KX : K.In s.heap := e0.mod.kin.keeps fun b o e => (e0.bs b o e).1
  have lim : s.heap.NoLimit := e0.mod.nolimit.keeps fun b o e => (e0.bs b o e).1
  have hkind : ∀ y ∈ ps.zip us, scope.names.lookup y.1 = some .local ∨ (scope.names.lookup y.1 = some .cell ∧ ((cellsFrom (s.heap.objs.size + 1) scope.names []).lookup y.1).isSome = true) := fun ⟨n, v⟩ hy => by
    rcases S.par n (List.of_mem_zip hy).1 with q | q
    · exact .inl q
    · exact .inr ⟨q, PySem.W.cellsFrom_some _ _ _ (.inl q)⟩
  refine codeAny_call_function hr.depth (KX _ _ lk) rfl S.co S.gen rfl (PySem.W.codeRec_of KX hcd) (hb _ _ _ _ ?_)
  refine wpAny_newFunctionEnv_cells S.kind hkind fun env he s1 x => ?_
  subst he
  refine ⟨lim.keeps x.toInCall.keep, codeAny_func ?_⟩
  obtain ⟨t, ht, hq⟩ := hbody A outer s H vs Q E (hr.deeper _) hsp
  have I : Inv (zcp CX P w K mg base N qual scope f cdv A outer s H E) [] (start N vs) H s1 := zbe S hr.hd e0 hl r x
  refine wpAny_mono (ht [] s1 (start N vs) H _ I hq) (fun fl s' hs => ?_) fun e s' hs => hs
  have fin : ∀ {σ' : St} {H' : Hp} {v : V} {u : Value}, Inv (zcp CX P w K mg base N qual scope f cdv A outer s H E) [] σ' H' s' → xJ v u → Q v H' → CE outer P w H s Q u s' :=
    fun {σ' H' v u} J rv q => ⟨v, H', J.os, J.bare, J.base, J.hok, rv, q⟩
  cases fl with
  | ret u =>
    obtain ⟨v, σ', H', J, rv, q⟩ := hs
    exact fin J rv q
  | next =>
    obtain ⟨σ', H', J, q⟩ := hs
    exact fin (v := V.non) (u := Value.none) J rfl q
  | brk =>
    obtain ⟨_, _, _, q⟩ := hs
    exact False.elim q
  | cont =>
    obtain ⟨_, _, _, q⟩ := hs
    exact False.elim q
end L2
namespace L2
open PySem PySem.Spec PyProof.Rows
section
variable {X : Cx} {x : Str} {p pos : Pos} {e : Expr} {es : List Expr} {t : TA} {id T : String} {r : List V → Hp → VK → Prop}
noncomputable def tCB (r : List V → Hp → VK → Prop) (t : TA) : TE := fun σ H Q => t σ H fun vs H1 => r vs H1 Q
theorem Xr (hc : vY X (.builtin id) r) (hg : Gl X x) (hm : X.mg x = none) (hv : bootBuiltins x = some (.builtin id)) (ha : PA X (e :: es) t) (hn : x ≠ "__name__" := by decide) (hdb : (x == ("__debug__" : Str)) = false := by decide)
    (he : starEach (e :: es) X.env = (false, eval e X.env) :: starEach es X.env := by rfl) (hpl : (backTo pos (starEach es X.env)).any (·.1) = false := by rfl) : PE X (.Call (.Name x p) (e :: es) [] pos) (tCB r t) := by
  intro pins s σ H Q I h
  refine wpAny_Call_Name_kw (vA I hg hm hv ?_ hn hdb)
  exact PyProof.Rows.callWith_builtin1 (thn (ha pos pins s σ H _ I h) fun us s1 ⟨vs, H1, I1, r1, q1⟩ => hc pins s1 σ H1 vs us Q I1 r1 q1) he hpl
theorem WX (hc : vY X (.type T) r) (hg : Gl X x) (hm : X.mg x = none) (hv : bootBuiltins x = some (.type T)) (ha : PA X (e :: es) t) (hn : x ≠ "__name__" := by decide) (hdb : (x == ("__debug__" : Str)) = false := by decide)
    (he : starEach (e :: es) X.env = (false, eval e X.env) :: starEach es X.env := by rfl) (hpl : (backTo pos (starEach es X.env)).any (·.1) = false := by rfl) : PE X (.Call (.Name x p) (e :: es) [] pos) (tCB r t) := by
  intro pins s σ H Q I h
  refine wpAny_Call_Name_kw (vA I hg hm hv ?_ hn hdb)
  exact PyProof.Rows.callWith_type1 (thn (ha pos pins s σ H _ I h) fun us s1 ⟨vs, H1, I1, r1, q1⟩ => hc pins s1 σ H1 vs us Q I1 r1 q1) he hpl
end
end L2
namespace HT
open PySem PyProof.Rows
section
open PySem.SeqAt
open PySem.AutoSeq1 (wpAny_loadPart')
open PySem.MeetsSeq PySem.MeetsSeq2 PySem.MeetsSeq3
end
section
variable {prog : Program} {w : World} {A : Around} {E : Value → Shared → Prop} {s : Shared}
theorem cat_tup {t b : Addr} {vs ws : List Value} {Q : Value → Shared → Prop} (ht : IsTup s.heap t vs.toArray) (hb : IsTup s.heap b ws.toArray) (hv : vs ≠ [])
    (h1 : ws = [] → Q (.ref t) s) (h2 : ws ≠ [] → Q (.ref s.heap.objs.size) { s with heap := s.heap.push { cls := .type "tuple", data := .seq (vs ++ ws).toArray } })
    (hsz : vs.length + ws.length ≤ sizeLine) : wpAny (model prog w) A (binaryOp .Add (.ref t) (.ref b)) Q E s := by
  obtain ⟨⟨cls, dd, data, sl⟩, ho, hc, n, hd⟩ := id ht
  obtain ⟨⟨cls2, dd2, data2, sl2⟩, ho2, hc2, n2, hd2⟩ := id hb
  simp only at hc hd hc2 hd2
  subst hc hd hc2 hd2
  have e : vs.toArray ++ ws.toArray = (vs ++ ws).toArray := by simp
  by_cases hw : ws = []
  · exact concat_meets ⟨_, ho, rfl⟩ ⟨_, ho2, rfl⟩ noFill_tuple_add seq_tuple_add PySem.F.slot_tuple_add PySem.F.entry_tuple_add (PySem.F.args_tuple_add_2 _ _)
      (tuple_addW1 t b vs.toArray ws.toArray n n2 dd dd2 sl sl2 (by simpa using hv) (by simp [hw])) ⟨ho, ho2, h1 hw⟩
  · refine concat_meets ⟨_, ho, rfl⟩ ⟨_, ho2, rfl⟩ noFill_tuple_add seq_tuple_add PySem.F.slot_tuple_add PySem.F.entry_tuple_add (PySem.F.args_tuple_add_2 _ _)
      (tuple_addW2 t b vs.toArray ws.toArray n n2 dd dd2 sl sl2 (by simpa using hv) (by simpa using hw) (by rw [List.size_toArray, List.size_toArray]; exact hsz)) ⟨ho, ho2, ?_⟩
    rw [e]
    exact h2 hw
noncomputable def sIx (n d : Nat) : Option Int → Nat
  | none => d
  | some v => if v < 0 then (v + (n : Int)).toNat else min v.toNat n
theorem sIx_none (n d : Nat) : sIx n d none = d := rfl
theorem sIx_nat (n d k : Nat) : sIx n d (some (k : Int)) = min k n := by
  show (if (k : Int) < 0 then ((k : Int) + (n : Int)).toNat else min (k : Int).toNat n) = min k n
  rw [if_neg (by omega), Int.toNat_natCast]
theorem ze4 (n d : Nat) (hd : d ≤ n) (o : Option Int) : sIx n d o ≤ n := by
  cases o with
  | none => exact hd
  | some v =>
    show (if v < 0 then (v + (n : Int)).toNat else min v.toNat n) ≤ n
    by_cases hv : v < 0
    · rw [if_pos hv]; omega
    · rw [if_neg hv]; exact Nat.min_le_right _ _
theorem zbR (v : Int) (n d : Nat) : (if v < 0 then max (v + (n : Int)) 0 else min v (n : Int)) = ((sIx n d (some v) : Nat) : Int) := by
  show (if v < 0 then max (v + (n : Int)) 0 else min v (n : Int)) = (((if v < 0 then (v + (n : Int)).toNat else min v.toNat n) : Nat) : Int)
  by_cases hv : v < 0
  · simp only [if_pos hv]; omega
  · simp only [if_neg hv]; omega
theorem zaq (lo hi : Option Int) (n : Nat) : Builtin.Slice.sliceAdjust lo hi 1 (n : Int) = (((sIx n 0 lo : Nat) : Int), ((sIx n n hi : Nat) : Int)) := by
  have h1 : ¬ ((1 : Int) < 0) := by omega
  unfold Builtin.Slice.sliceAdjust
  simp only [h1, if_false]
  refine Prod.ext ?_ ?_
  · cases lo with
    | none => rfl
    | some v => exact zbR v n 0
  · cases hi with
    | none => rfl
    | some v => exact zbR v n n
theorem zaB (i j : Nat) : Builtin.Slice.slicePlaces (i : Int) (j : Int) 1 = j - i := by
  unfold Builtin.Slice.slicePlaces
  have h1 : (1 : Int) > 0 := by omega
  simp only [h1, if_true, Int.ediv_one]
  split <;> omega
theorem Z8 {v : Value} {o : Option Int} {Q : Option Int → Shared → Prop} (p : IsPart v o) (h : Q o s) : wpAny (model prog w) A (Builtin.Slice.slicePartIndex v) Q E s := by
  cases p with
  | none => exact slicePart_none h
  | int i t => exact slicePart_int h
theorem wT {sl : Addr} {vl vu : Value} {lo hi : Option Int} {n : Nat} {Q : Int × Int × Nat → Shared → Prop} (hs : s.heap.IsSliceOf sl vl vu .none) (pl : IsPart vl lo) (pu : IsPart vu hi)
    (h : Q (((sIx n 0 lo : Nat) : Int), 1, sIx n n hi - sIx n 0 lo) s) : wpAny (model prog w) A (Builtin.Slice.sliceApplied (.ref sl) (pure (n : Int))) Q E s := by
  obtain ⟨os, hos, hcs, hds⟩ := id hs
  unfold Builtin.Slice.sliceApplied Builtin.Slice.sliceFields
  refine wpAny_bind (wpAny_bind (wpAny_field hos hds (x := vl) rfl (wpAny_bind (wpAny_field hos hds (x := vu) rfl (wpAny_bind (wpAny_field hos hds (x := .none) rfl (wpAny_pure ?_)))))))
  refine wpAny_bind (slicePart_none ?_)
  show wpAny _ _ (if ((1 : Int) == 0) = true then _ else _) _ _ s
  rw [if_neg (by decide)]
  refine wpAny_bind (Z8 pl (wpAny_bind (Z8 pu (wpAny_bind (wpAny_pure ?_)))))
  show wpAny _ _ (match Builtin.Slice.sliceAdjust lo hi 1 (n : Int) with | (lo, hi) => pure (lo, (1 : Int), Builtin.Slice.slicePlaces lo hi 1)) _ _ s
  rw [zaq lo hi n]
  show wpAny _ _ (pure (((sIx n 0 lo : Nat) : Int), (1 : Int), Builtin.Slice.slicePlaces ((sIx n 0 lo : Nat) : Int) ((sIx n n hi : Nat) : Int) 1)) _ _ s
  rw [zaB]
  exact wpAny_pure h
theorem zc9 (xs : Array Value) (i k : Nat) : ((List.range k).filterMap fun (m : Nat) => xs[((i : Int) + (m : Int) * 1).toNat]?).toArray = ((xs.toList.drop i).take k).toArray := by
  have e : (fun (m : Nat) => xs[((i : Int) + (m : Int) * 1).toNat]?) = fun m => xs[i + m]? := by
    funext m
    have : ((i : Int) + (m : Int) * 1).toNat = i + m := by omega
    rw [this]
  rw [e]
  have := pick_run xs i k
  rw [List.filterMap_map] at this
  have e2 : ((fun x => xs[x]?) ∘ fun x => i + x) = fun m => xs[i + m]? := rfl
  rw [e2] at this
  rw [this]
theorem getItem_tuple_cut {t sl : Addr} {items : Array Value} {vl vu : Value} {lo hi : Option Int} {Q : Value → Shared → Prop} (ht : IsTup s.heap t items) (hs : s.heap.IsSliceOf sl vl vu .none) (pl : IsPart vl lo) (pu : IsPart vu hi)
    (hw : ¬ (sIx items.size 0 lo = 0 ∧ sIx items.size items.size hi = items.size))
    (h : Q (.ref s.heap.objs.size) { s with heap := s.heap.push { cls := .type "tuple", data := .seq ((items.toList.drop (sIx items.size 0 lo)).take (sIx items.size items.size hi - sIx items.size 0 lo)).toArray } })
    (hsz : items.size ≤ sizeLine) : wpAny (model prog w) A (getItem (.ref t) (.ref sl)) Q E s := by
  have htake : sizeOk (.seq ((items.toList.drop (sIx items.size 0 lo)).take (sIx items.size items.size hi - sIx items.size 0 lo)).toArray) := by
    show ((items.toList.drop (sIx items.size 0 lo)).take (sIx items.size items.size hi - sIx items.size 0 lo)).toArray.size ≤ sizeLine
    rw [List.size_toArray, List.length_take, List.length_drop, Array.length_toList]
    omega
  have hj : sIx items.size items.size hi ≤ items.size := ze4 _ _ (Nat.le_refl _) hi
  obtain ⟨os, hos, hcs, hds⟩ := id hs
  have hTs : s.TypeIs (.ref sl) "slice" := ⟨os, hos, hcs⟩
  unfold getItem
  try with_reducible refine wpAny_holding ?_
  first | refine wpAny_bind (wpAny_pure ?_) | skip
  refine wpAny_bind (wpAny_sequenceKey ht.typeIs (by decide) ?_)
  refine wpAny_bind (wpAny_callSpecial?_slot (name := Str.ofString "__getitem__") ht.typeIs PyProof.Rows.slot_tuple_getitem
    (wpAny_call_entry PyProof.Rows.slot_tuple_getitem ht.typeIs entry_tuple_getitem ?_ (args_tuple_getitem _ _)))
  show wpAny _ _ (Builtin.Tuple.tupleItemsOf (.ref t) >>= _) _ _ s
  refine wpAny_bind (tupleItemsOf_ ht ?_)
  refine wpAny_bind (wpAny_typeOf hTs ?_)
  rw [if_pos (by decide)]
  refine wpAny_bind (wT hs pl pu ?_)
  have hno : ¬ ((((sIx items.size 0 lo : Nat) : Int) == 0 && (1 : Int) == 1 && (sIx items.size items.size hi - sIx items.size 0 lo) == items.size) = true) := by
    intro q
    rw [Bool.and_eq_true, Bool.and_eq_true] at q
    have q1 : ((sIx items.size 0 lo : Nat) : Int) = 0 := eq_of_beq q.1.1
    have q2 : sIx items.size items.size hi - sIx items.size 0 lo = items.size := eq_of_beq q.2
    exact hw ⟨by omega, by omega⟩
  show wpAny _ _ (if (((sIx items.size 0 lo : Nat) : Int) == 0 && (1 : Int) == 1 && (sIx items.size items.size hi - sIx items.size 0 lo) == items.size) = true then _ else _) _ _ s
  rw [if_neg hno, zc9]
  first
    | exact wpAny_bind (m := Builtin.Tuple.tupleExact _) (wpAny_newObj_type (wpAny_pure ⟨_, rfl, wpAny_pure h⟩) htake)
    | exact wpAny_bind (m := Builtin.Tuple.tupleExact _) (wpAny_newObj_type (wpAny_bind (wpAny_pure (wpAny_pure ⟨_, rfl, wpAny_pure h⟩))) htake)
    | exact wpAny_bind (wpAny_bind (m := Builtin.Tuple.tupleExact _) (wpAny_newObj_type (wpAny_pure (wpAny_pure ⟨_, rfl, wpAny_pure h⟩)) htake))
    | exact wpAny_bind (wpAny_bind (m := Builtin.Tuple.tupleExact _) (wpAny_newObj_type (wpAny_pure ⟨_, rfl, wpAny_pure h⟩) htake))
end
end HT
namespace L2
open PySem PySem.Spec PyProof.Rows
noncomputable abbrev TO := St → Hp → (Option Int → Hp → Prop) → Prop
noncomputable def PO (X : Cx) (e : Option Expr) (t : TO) : Prop :=
  ∀ (pins : List (Addr × Obj)) (s : Shared) (σ : St) (H : Hp) (Q : Option Int → Hp → Prop), Inv X pins σ H s → t σ H Q →
    wpAny (model X.prog X.w) X.A (evalPart e X.env) (fun u s' => ∃ o H', Inv X pins σ H' s' ∧ IsPart u o ∧ Q o H') X.xe s
noncomputable def zez : TO := fun _ H Q => Q none H
noncomputable def zhn (t : TE) : TO := fun σ H Q => t σ H fun x H1 => ∃ i, x = .int i ∧ Q (some i) H1
theorem zaM {ns : List Int} : ∀ {us : List Value}, yg (ns.map V.int) us → IntsAre us ns := by
  induction ns with
  | nil => intro us r; rw [List.map_nil] at r; cases r; exact .nil
  | cons n ns ih =>
    intro us r
    rw [List.map_cons] at r
    cases r with
    | cons r1 r2 =>
      obtain ⟨t, e⟩ := r1
      subst e
      exact .cons n t (ih r2)
section
variable {X : Cx} {e : Expr} {te : TE} {lo hi : Option Expr} {tl th : TO} {pos p2 : Pos}
theorem zee : PO X none zez := by
  intro pins s σ H Q I h
  rw [evalPart_none]
  exact wpAny_pure ⟨none, H, I, .none, h⟩
theorem zd4 (h : PE X e te) : PO X (some e) (zhn te) := by
  intro pins s σ H Q I hw
  rw [evalPart_some]
  refine thn (h pins s σ H _ I hw) fun u s1 hh9 => ?_
  obtain ⟨x, H1, I1, r1, q1⟩ := hh9
  obtain ⟨i, rfl, q⟩ := q1
  obtain ⟨t, rfl⟩ := r1
  exact ⟨some i, H1, I1, .int i t, q⟩
noncomputable def SlR (X : Cx) (r : V → Option Int → Option Int → Hp → VK → Prop) : Prop :=
  ∀ (pins : List (Addr × Obj)) (s : Shared) (σ : St) (H : Hp) (x : V) (v vl vu : Value) (lo hi : Option Int) (sl : Addr) (Q : VK), Inv X pins σ H s → xJ x v → s.heap.IsSliceOf sl vl vu .none → IsPart vl lo → IsPart vu hi → r x lo hi H Q →
    ∃ T id, typeLookup (.type T) "__getitem__" = pure (some (.builtin id)) ∧ s.TypeIs v T ∧ wpAny (model X.prog X.w) X.A (getItem v (.ref sl)) (EP X pins σ Q) X.xe s
theorem SlR.or {r r' : V → Option Int → Option Int → Hp → VK → Prop} (h : SlR X r) (h' : SlR X r') : SlR X (fun x lo hi H Q => r x lo hi H Q ∨ r' x lo hi H Q) := by
  intro pins s σ H x v vl vu lo hi sl Q I rx hs pl pu q
  rcases q with q | q
  · exact h pins s σ H x v vl vu lo hi sl Q I rx hs pl pu q
  · exact h' pins s σ H x v vl vu lo hi sl Q I rx hs pl pu q
noncomputable def tSl (r : V → Option Int → Option Int → Hp → VK → Prop) (te : TE) (tl th : TO) : TE := fun σ H Q => te σ H fun x H1 => tl σ H1 fun l H2 => th σ H2 fun u H3 => r x l u H3 Q
theorem zcY {r : V → Option Int → Option Int → Hp → VK → Prop} (hr : SlR X r) (he : PE X e te) (hl : PO X lo tl) (hu : PO X hi th) : PE X (.Subscript e (.Slice lo hi none p2) pos) (tSl r te tl th) := by
  intro pins s σ H Q I h
  refine Subscript_ (thn (he pins s σ H _ I h) fun v s1 hh9 => ?_)
  obtain ⟨x, H1, I1, r1, q1⟩ := hh9
  refine wpAny_Slice (thn (hl pins s1 σ H1 _ I1 q1) fun vl s2 ⟨l, H2, I2, pl, q2⟩ => thn (hu pins s2 σ H2 _ I2 q2) fun vu s3 hh9 => ?_)
  obtain ⟨u, H3, I3, pu, q3⟩ := hh9
  rw [evalPart_none]
  refine wpAny_pure ?_
  have I4 : Inv X pins σ H3 { s3 with heap := s3.heap.push { cls := .type "slice", data := .fields #[vl, vu, .none] } } := I3.kept (t' := s3.toks) fun b ob q => Heap.get?_push_of_some _ q
  obtain ⟨T, id, hT, ht, hg⟩ := hr pins { s3 with heap := s3.heap.push { cls := .type "slice", data := .fields #[vl, vu, .none] } } σ H3 x v vl vu l u s3.heap.objs.size Q I4 r1 (Heap.IsSliceOf.new ..) pl pu q3
  show wpAny (model X.prog X.w) X.A (subscriptTail e (.Slice lo hi none p2) v (.ref s3.heap.objs.size)) (EP X pins σ Q) X.xe { s3 with heap := s3.heap.push { cls := .type "slice", data := .fields #[vl, vu, .none] } }
  exact tail_any (ops := [.ref s3.heap.objs.size, v]) ht hT hg (by with_unfolding_all rfl)
noncomputable def Va (xs : List V) (lo hi : Option Int) : List V := (xs.drop (HT.sIx xs.length 0 lo)).take (HT.sIx xs.length xs.length hi - HT.sIx xs.length 0 lo)
theorem Zc (xs : List V) (lo hi : Option Int) : (Va xs lo hi).length ≤ xs.length := by
  unfold Va
  rw [List.length_take, List.length_drop]
  omega
noncomputable def rSlT (K : PySem.W.Frag) : V → Option Int → Option Int → Hp → VK → Prop := fun x lo hi H Q => ∃ a xs, x = .ref a ∧ SqT K H a xs ∧
  ¬ (HT.sIx xs.length 0 lo = 0 ∧ HT.sIx xs.length xs.length hi = xs.length) ∧ ∀ p, H p = none → Q (.ref p) (upd H p (.tup (Va xs lo hi)))
theorem zfM : SlR X (rSlT X.K) := by
  intro pins s σ H x v vl vu lo hi sl Q I rx hs pl pu h
  obtain ⟨a, xs, rfl, hx, hw, q⟩ := h
  cases rx
  obtain ⟨its, r, ht, hz⟩ := I.tuple hx
  have hlen : its.toArray.size = xs.length := by rw [List.size_toArray]; exact r.length.symm
  refine ⟨"tuple", _, PyProof.Rows.slot_tuple_getitem.lookup, ht.typeIs, ?_⟩
  refine HT.getItem_tuple_cut ht hs pl pu (by rw [hlen]; exact hw) ?_ (by rw [hlen]; exact hz)
  rw [hlen]
  refine ⟨.ref s.heap.objs.size, _, I.laid (t' := s.toks) (o := .tup (Va xs lo hi)) (fun b ob q => Heap.get?_push_of_some _ q) (Nat.le_refl _) ?_, rfl, q _ (I.hok.fresh (Nat.le_refl _))⟩
  exact ⟨Nat.le_trans (Zc xs lo hi) hz, _, (r.drop (HT.sIx xs.length 0 lo)).take (HT.sIx xs.length xs.length hi - HT.sIx xs.length 0 lo), IsTup.new _ _⟩
noncomputable def zgT (K : PySem.W.Frag) : R2 := fun x y H Q => ∃ a b xs ys, x = .ref a ∧ y = .ref b ∧ SqT K H a xs ∧ SqT K H b ys ∧ xs ≠ [] ∧ xs.length + ys.length ≤ sizeLine ∧
  (ys = [] → Q (.ref a) H) ∧ (ys ≠ [] → ∀ p, H p = none → Q (.ref p) (upd H p (.tup (xs ++ ys))))
theorem yg.nil_iff {xs : List V} {us : List Value} (r : yg xs us) : us = [] ↔ xs = [] := by
  cases r with
  | nil => simp
  | cons _ _ => simp
theorem zeB : OpR X (binaryOp .Add) (zgT X.K) := by
  intro pins s σ H x y v u Q I rx ry h
  obtain ⟨a, b, xs, ys, rfl, rfl, ha, hb, hx, hz, q1, q2⟩ := h
  cases rx
  cases ry
  obtain ⟨its, r1, p1, _⟩ := I.tuple ha
  obtain ⟨its2, r2, p2, _⟩ := I.tuple hb
  refine HT.cat_tup p1 p2 (fun z => hx (r1.nil_iff.mp z)) (fun z => ⟨.ref a, H, I, rfl, q1 (r2.nil_iff.mp z)⟩) (fun z => ?_) (by rw [← r1.length, ← r2.length]; exact hz)
  refine ⟨.ref s.heap.objs.size, _, I.laid (t' := s.toks) (o := .tup (xs ++ ys)) (fun b ob q => Heap.get?_push_of_some _ q) (Nat.le_refl _) ?_, rfl, q2 (fun w => z (r2.nil_iff.mpr w)) _ (I.hok.fresh (Nat.le_refl _))⟩
  exact ⟨by rw [List.length_append]; exact hz, _, r1.append r2, IsTup.new _ _⟩
end
end L2
namespace L2
open PySem PySem.Spec PyProof.Rows
noncomputable def ixN (n : Nat) (i : Int) : Option Nat := if 0 ≤ i then (if i < n then some i.toNat else none) else if -(n : Int) ≤ i then some (i + n).toNat else none
noncomputable def atI {α : Type} (xs : List α) (i : Int) : Option α := (ixN xs.length i).bind fun j => xs[j]?
theorem zbK {n : Nat} {i : Int} {j : Nat} (h : ixN n i = some j) : seqIndex? i n = some j ∧ j < n ∧ -(n : Int) ≤ i ∧ i < n := by
  unfold ixN at h
  by_cases h0 : 0 ≤ i
  · rw [if_pos h0] at h
    by_cases h1 : i < n
    · rw [if_pos h1] at h
      have e : i.toNat = j := Option.some.inj h
      exact ⟨by rw [seqIndex_of h0 h1, e], by omega, by omega, h1⟩
    · rw [if_neg h1] at h; cases h
  · rw [if_neg h0] at h
    by_cases h1 : -(n : Int) ≤ i
    · rw [if_pos h1] at h
      have e : (i + n).toNat = j := Option.some.inj h
      exact ⟨by rw [seqIndex_neg (by omega) h1, e], by omega, h1, by omega⟩
    · rw [if_neg h1] at h; cases h
theorem XT {α : Type} {xs : List α} {i : Int} {v : α} (h : atI xs i = some v) : ∃ j, seqIndex? i xs.length = some j ∧ xs[j]? = some v ∧ j < xs.length ∧ -(xs.length : Int) ≤ i ∧ i < xs.length := by
  unfold atI at h
  cases e : ixN xs.length i with
  | none => rw [e] at h; cases h
  | some j =>
    rw [e] at h
    obtain ⟨h1, h2, h3, h4⟩ := zbK e
    exact ⟨j, h1, h, h2, h3, h4⟩
theorem zed {α : Type} {xs : List α} {j : Nat} {v : α} (h : xs[j]? = some v) : atI xs (j : Int) = some v := by
  have hj : j < xs.length := (List.getElem?_eq_some_iff.mp h).1
  have e : ixN xs.length (j : Int) = some j := by
    unfold ixN
    rw [if_pos (by omega), if_pos (by omega)]; simp
  unfold atI; rw [e]; exact h
theorem vq {α : Type} (xs : List α) (v : α) : atI (xs ++ [v]) (-1) = some v := by
  have hl : (xs ++ [v]).length = xs.length + 1 := by simp
  have e : ixN (xs ++ [v]).length (-1) = some xs.length := by
    unfold ixN
    rw [hl, if_neg (by decide), if_pos (by omega)]
    congr 1
    omega
  unfold atI
  rw [e]
  show (xs ++ [v])[xs.length]? = some v
  simp
noncomputable def Xv (b : Expr) : Prop := ∀ o i, subscripted b false o i = operate [o, i] (getItem o i)
noncomputable def IxR (X : Cx) (r : R2) : Prop :=
  ∀ (value slice : Expr) (pins : List (Addr × Obj)) (s : Shared) (σ : St) (H : Hp) (x y : V) (v u : Value) (Q : VK), Inv X pins σ H s → xJ x v → xJ y u → r x y H Q →
    subscripted slice false v u = operate [v, u] (getItem v u) → wpAny (model X.prog X.w) X.A (subscriptTail value slice v u) (EP X pins σ Q) X.xe s
noncomputable def MtR (X : Cx) (id : String) (r : V → List V → Hp → VK → Prop) : Prop :=
  ∀ (pins : List (Addr × Obj)) (s : Shared) (σ : St) (H : Hp) (x : V) (xs : List V) (v : Value) (us : List Value) (Q : VK), Inv X pins σ H s → xJ x v → yg xs us → r x xs H Q →
    wpAny (model X.prog X.w) X.A (call (.builtin id) (v :: us)) (EP X pins σ Q) X.xe s
section
variable {X : Cx} {a b : Expr} {ta tb : TE} {pos : Pos}
theorem IxR.or {r r' : R2} (h : IxR X r) (h' : IxR X r') : IxR X (fun x y H Q => r x y H Q ∨ r' x y H Q) := by
  intro value slice pins s σ H x y v u Q I rx ry q hs
  rcases q with q | q
  · exact h value slice pins s σ H x y v u Q I rx ry q hs
  · exact h' value slice pins s σ H x y v u Q I rx ry q hs
theorem zeR {r : R2} (hr : IxR X r) (ha : PE X a ta) (hb : PE X b tb) (hs : Xv b) : PE X (.Subscript a b pos) (tOp r ta tb) := by
  intro pins s σ H Q I h
  exact Subscript_ (zhb ha hb I h fun v u s2 x y H2 I2 rx ry q => hr a b pins s2 σ H2 x y v u Q I2 rx ry q (hs _ _))
noncomputable def rIxL (K : PySem.W.Frag) : R2 := fun x y H Q => ∃ p xs i v, x = .ref p ∧ y = .int i ∧ SqL K H p xs ∧ atI xs i = some v ∧ Q v H
noncomputable def rIxT (K : PySem.W.Frag) : R2 := fun x y H Q => ∃ p xs i v, x = .ref p ∧ y = .int i ∧ SqT K H p xs ∧ atI xs i = some v ∧ Q v H
noncomputable def rIxS : R2 := fun x y H Q => ∃ z i c, x = .str z ∧ y = .int i ∧ z.length ≤ sizeLine ∧ atI z.cps.toList i = some c ∧ Q (.str ⟨#[c]⟩) H
theorem zeI : IxR X (rIxL X.K) := by
  intro value slice pins s σ H x y v u Q I rx ry h hs
  obtain ⟨p, xs, i, z, rfl, rfl, hq, he, q⟩ := h
  cases rx
  obtain ⟨t, rfl⟩ := ry
  obtain ⟨its, r, pl, hz⟩ := I.list hq
  obtain ⟨j, h1, h2, h3, h4, h5⟩ := XT he
  obtain ⟨w, ew, rw'⟩ := r.get h2
  have hl := r.length
  have hn := Z3
  have fin : EP X pins σ Q w s := ⟨z, H, I, rw', q⟩
  by_cases h0 : 0 ≤ i
  · have hj : i.toNat = j := by
      rw [seqIndex_of h0 h5] at h1
      exact Option.some.inj h1
    exact item_listR pl.isList h0 (by omega) (by rw [hj]; simpa using ew) fin hs
  · have hj : (i + (its.toArray.size : Int)).toNat = j := by
      rw [seqIndex_neg (by omega) h4] at h1
      rw [List.size_toArray, ← hl]
      exact Option.some.inj h1
    exact subscriptTail_builtinR (x := w) pl.isList.typeIs slot_list_getitem.lookup
      (wpAny_getItem_list_neg (Q := fun r s' => r = w ∧ EP X pins σ Q r s') pl.isList (by omega) (by rw [List.size_toArray] <;> omega) (by omega) (by rw [hj]; simpa using ew) ⟨rfl, fin⟩) hs
theorem zge : IxR X (rIxT X.K) := by
  intro value slice pins s σ H x y v u Q I rx ry h hs
  obtain ⟨p, xs, i, z, rfl, rfl, hq, he, q⟩ := h
  cases rx
  obtain ⟨t, rfl⟩ := ry
  obtain ⟨its, r, pl, hz⟩ := I.tuple hq
  obtain ⟨j, h1, h2, h3, h4, h5⟩ := XT he
  obtain ⟨w, ew, rw'⟩ := r.get h2
  have hl := r.length
  have hn := Z3
  have fin : EP X pins σ Q w s := ⟨z, H, I, rw', q⟩
  exact subscriptTail_builtinR (x := w) pl.typeIs slot_tuple_getitem.lookup
    (getItem_tuple (j := j) (Q := fun r s' => r = w ∧ EP X pins σ Q r s') pl (by omega) (by omega) (by rw [List.size_toArray, ← hl]; exact h1) (by simpa using ew) ⟨rfl, fin⟩) hs
theorem zgo : IxR X rIxS := by
  intro value slice pins s σ H x y v u Q I rx ry h hs
  obtain ⟨z, i, c, rfl, rfl, hz, he, q⟩ := h
  obtain ⟨t, rfl⟩ := rx
  obtain ⟨t', rfl⟩ := ry
  obtain ⟨j, h1, h2, h3, h4, h5⟩ := XT he
  have hl : z.cps.toList.length = z.length := by simp [Str.length]
  rw [hl] at h1 h4 h5
  have hn := Z3
  exact tail_any (typeIs_str s z t) slot_str_getitem.lookup (getItem_str (c := c) (by
    have e1 : decide (i < -(2 ^ 63 : Int)) = false := decide_eq_false (by omega)
    have e2 : decide (i ≥ 2 ^ 63) = false := decide_eq_false (by omega)
    rw [e1, e2, Bool.or_false]) (by rw [h1]; simpa using h2) ⟨.str ⟨#[c]⟩, H, I.tok _, ⟨_, rfl⟩, q⟩) hs
noncomputable def rIx (K : PySem.W.Frag) : R2 := fun x y H Q => rIxL K x y H Q ∨ rIxT K x y H Q ∨ rIxS x y H Q
theorem zfB : IxR X (rIx X.K) := zeI.or (zge.or zgo)
theorem zao (its : List Value) (n j : Nat) (u : Value) : Obj.mapSeq (·.setIfInBounds j u) { cls := .type "list", data := .seq its.toArray n } = { cls := .type "list", data := .seq (its.set j u).toArray n } := by
  simp [Obj.mapSeq]
theorem Inv.lst {pins : List (Addr × Obj)} {σ : St} {H : Hp} {s : Shared} {p : Addr} {xs : List V} (I : Inv X pins σ H s) (h : H p = some (.lst xs)) :
    ∃ (its : List Value) (n : Nat), yg xs its ∧ s.heap.get? p = some { cls := .type "list", data := .seq its.toArray n } ∧ xs.length ≤ sizeLine := by
  obtain ⟨z, its, n, r, e⟩ := I.hok p _ h
  exact ⟨its, n, r, e, z⟩
theorem Inv.lstUpd {pins : List (Addr × Obj)} {σ : St} {H : Hp} {s : Shared} {p : Addr} {xs ys : List V} {its its' : List Value} {n n' : Nat} {f : Obj → Obj} (I : Inv X pins σ H s) (h : H p = some (.lst xs))
    (ho : s.heap.get? p = some { cls := .type "list", data := .seq its.toArray n }) (hf : f { cls := .type "list", data := .seq its.toArray n } = { cls := .type "list", data := .seq its'.toArray n' }) (r : yg ys its') (hz : ys.length ≤ sizeLine) (t : Nat) :
    Inv X pins σ (upd H p (.lst ys)) { s with heap := s.heap.update p f, toks := t } := by
  have e : (s.heap.update p f).get? p = some { cls := .type "list", data := .seq its'.toArray n' } := by
    rw [Heap.get?_update_self f ho (by rw [hf] <;> rfl), hf]
  refine I.write (x := p) (e := p) (by rw [h]; trivial) (.inl rfl) (fun b u hb q => (Heap.get?_update_other _ _ (Ne.symm hb)).trans q) ⟨_, e⟩ ?_
  exact ⟨hz, its', n', r, e⟩
noncomputable def zg0 : V → V → V → Hp → (Hp → Prop) → Prop := fun o i v H Q => ∃ p xs k j, o = .ref p ∧ i = .int k ∧ H p = some (.lst xs) ∧ ixN xs.length k = some j ∧ Q (upd H p (.lst (xs.set j v)))
theorem zdd : PSet X zg0 := by
  intro pins s σ H o i v ov iv u Q I ro ri rv h
  obtain ⟨p, xs, k, j, rfl, rfl, hp, hj, q⟩ := h
  cases ro
  obtain ⟨t, rfl⟩ := ri
  obtain ⟨its, n, r, ho, hz⟩ := I.lst hp
  obtain ⟨h1, h2, h3, h4⟩ := zbK hj
  have hl := r.length
  have hn := Z3
  have I' : Inv X pins σ (upd H p (.lst (xs.set j v))) { s with heap := s.heap.update p (Obj.mapSeq (·.setIfInBounds j u)) } :=
    I.lstUpd hp ho (zao its n j u) (r.set rv j) (by rw [List.length_set]; exact hz) s.toks
  by_cases h0 : 0 ≤ k
  · have hk : k.toNat = j := by
      rw [seqIndex_of h0 h4] at h1
      exact Option.some.inj h1
    exact PySem.W.ki_setAt ho h0 (by omega) (by rw [List.size_toArray, ← hl]; exact h4) (by rw [hk]; exact ⟨_, I', q⟩)
  · have hk : (k + (its.toArray.size : Int)).toNat = j := by
      rw [seqIndex_neg (by omega) h3] at h1
      rw [List.size_toArray, ← hl]
      exact Option.some.inj h1
    exact PySem.W.ki_setBack ho (by omega) (by rw [List.size_toArray, ← hl]; exact h3) (by omega) (by rw [hk]; exact ⟨_, I', q⟩)
theorem Wn (lo hi : Option Int) (n : Nat) : (sliceBounds lo hi none n).1 = ((HT.sIx n 0 lo : Nat) : Int) ∧ (sliceBounds lo hi none n).2.1 = ((HT.sIx n n hi : Nat) : Int) ∧ (sliceBounds lo hi none n).2.2 = 1 := by
  refine ⟨?_, ?_, rfl⟩
  · cases lo with
    | none => simp [sliceBounds, HT.sIx]
    | some i =>
      simp only [sliceBounds, HT.sIx, Option.getD_none, show (1 : Int) > 0 by decide, if_true]
      by_cases h : i < 0
      · simp only [h, if_true] <;> omega
      · simp only [h, if_false] <;> omega
  · cases hi with
    | none => simp [sliceBounds, HT.sIx]
    | some i =>
      simp only [sliceBounds, HT.sIx, Option.getD_none, show (1 : Int) > 0 by decide, if_true]
      by_cases h : i < 0
      · simp only [h, if_true] <;> omega
      · simp only [h, if_false] <;> omega
theorem Xl (its : List Value) (lo hi : Option Int) : slicePick its.toArray lo hi none = ((its.drop (HT.sIx its.length 0 lo)).take (HT.sIx its.length its.length hi - HT.sIx its.length 0 lo)).toArray := by
  obtain ⟨h1, h2, h3⟩ := Wn lo hi its.toArray.size
  unfold slicePick
  rw [h1, h2, h3]
  simp only [sliceRange_one, pick_run, List.size_toArray] <;> rfl
noncomputable def rSlL (K : PySem.W.Frag) : V → Option Int → Option Int → Hp → VK → Prop := fun x lo hi H Q => ∃ a xs, x = .ref a ∧ SqL K H a xs ∧ ∀ p, H p = none → Q (.ref p) (upd H p (.lst (Va xs lo hi)))
theorem zey : SlR X (rSlL X.K) := by
  intro pins s σ H x v vl vu lo hi sl Q I rx hs pl pu h
  obtain ⟨a, xs, rfl, hx, q⟩ := h
  cases rx
  obtain ⟨its, r, ht, hz⟩ := I.list hx
  have hlen := r.length
  refine ⟨"list", _, slot_list_getitem.lookup, ht.isList.typeIs, ?_⟩
  refine wpAny_getItem_list_slice ht.isList hs pl pu .none (by simp) ?_ (by rw [List.size_toArray] <;> omega)
  rw [Xl, ← hlen]
  refine ⟨.ref s.heap.objs.size, _, I.laid (t' := s.toks) (o := .lst (Va xs lo hi)) (fun b ob q => Heap.get?_push_of_some _ q) (Nat.le_refl _) ?_, rfl, q _ (I.hok.fresh (Nat.le_refl _))⟩
  exact ⟨Nat.le_trans (Zc xs lo hi) hz, _, 0, (r.drop (HT.sIx xs.length 0 lo)).take (HT.sIx xs.length xs.length hi - HT.sIx xs.length 0 lo), Heap.get?_push_size _ rfl⟩
noncomputable def zet : V → Bool
  | .non => true
  | .bl _ => true
  | .int _ => true
  | .str _ => true
  | _ => false
noncomputable def eqV : V → V → Bool
  | .non, .non => true
  | .bl a, .bl b => a == b
  | .bl a, .int b => (if a then 1 else 0) == b
  | .int a, .bl b => a == (if b then 1 else 0)
  | .int a, .int b => a == b
  | .str a, .str b => a == b
  | _, _ => false
theorem zdG {A : Around} {s : Shared} {y x : V} {u v : Value} (ry : xJ y u) (rx : xJ x v) (fy : zet y = true) (fx : zet x = true) : SeqAt.EqAt A s u v (eqV y x) := by
  cases y with
  | non =>
    cases ry
    cases x with
    | non => cases rx; exact SeqAt.EqAt.same _
    | bl b => cases rx; exact SeqAt.EqAt.none_bool b
    | int b => obtain ⟨t, rfl⟩ := rx; exact SeqAt.EqAt.none_int b t
    | str b => obtain ⟨t, rfl⟩ := rx; exact SeqAt.EqAt.none_str b t
    | _ => exact absurd (show false = true from fx) Bool.false_ne_true
  | bl a =>
    cases ry
    cases x with
    | non => cases rx; exact SeqAt.EqAt.bool_none a
    | bl b => cases rx; exact SeqAt.EqAt.bool_bool a b
    | int b => obtain ⟨t, rfl⟩ := rx; exact SeqAt.EqAt.bool_int a b t
    | str b => obtain ⟨t, rfl⟩ := rx; exact SeqAt.EqAt.bool_str a b t
    | _ => exact absurd (show false = true from fx) Bool.false_ne_true
  | int a =>
    obtain ⟨t', rfl⟩ := ry
    cases x with
    | non => cases rx; exact SeqAt.EqAt.int_none a t'
    | bl b => cases rx; exact SeqAt.EqAt.int_bool a t' b
    | int b => obtain ⟨t, rfl⟩ := rx; exact SeqAt.EqAt.int_int a t' b t
    | str b => obtain ⟨t, rfl⟩ := rx; exact SeqAt.EqAt.int_str a t' b t
    | _ => exact absurd (show false = true from fx) Bool.false_ne_true
  | str a =>
    obtain ⟨t', rfl⟩ := ry
    cases x with
    | non => cases rx; exact SeqAt.EqAt.str_none a t'
    | bl b => cases rx; exact SeqAt.EqAt.str_bool a t' b
    | int b => obtain ⟨t, rfl⟩ := rx; exact SeqAt.EqAt.str_int a t' b t
    | str b => obtain ⟨t, rfl⟩ := rx; exact SeqAt.EqAt.str_str a t' b t
    | _ => exact absurd (show false = true from fx) Bool.false_ne_true
  | _ => exact absurd (show false = true from fy) Bool.false_ne_true
theorem zK : vY X (.builtin "len") (fun xs H Q => ∃ p ys, xs = [.ref p] ∧ (SqL X.K H p ys ∨ SqT X.K H p ys) ∧ Q (.int ys.length) H) := by
  intro pins s σ H xs us Q I r h
  obtain ⟨p, ys, rfl, hq, q⟩ := h
  obtain ⟨u, rfl, rx⟩ := Xx r
  cases rx
  have hn := Z3
  rcases hq with hq | hq
  · obtain ⟨its, r', pl, hz⟩ := I.list hq
    have hlen := r'.length
    exact Calls.call_len_list pl.isList (by simp only [List.size_toArray] <;> omega) ⟨.int ys.length, H, I.tok _, ⟨s.toks + 1, by rw [List.size_toArray, hlen]⟩, q⟩
  · obtain ⟨its, r', pl, hz⟩ := I.tuple hq
    have hlen := r'.length
    exact len_tuple pl (by simp only [List.size_toArray] <;> omega) ⟨.int ys.length, H, I.tok _, ⟨s.toks + 1, by rw [List.size_toArray, hlen]⟩, q⟩
theorem Wg : vY X (.type "list") (fun xs H Q => ∃ p ys, xs = [.ref p] ∧ (SqL X.K H p ys ∨ SqT X.K H p ys) ∧ ∀ l, H l = none → Q (.ref l) (upd H l (.lst ys))) := by
  intro pins s σ H xs us Q I r h
  obtain ⟨p, ys, rfl, hq, q⟩ := h
  obtain ⟨u, rfl, rx⟩ := Xx r
  cases rx
  have fin : ∀ (its : List Value), yg ys its → ys.length ≤ sizeLine → ∀ (h' : Heap) (c' : Nat), (∀ b o', s.heap.get? b = some o' → h'.get? b = some o') →
      h'.get? s.heap.objs.size = some { cls := .type "list", dict := none, data := .seq its.toArray c', slots := #[] } → EP X pins σ Q (.ref s.heap.objs.size) { s with heap := h' } := fun its r' hz h' c' kp e =>
    ⟨.ref s.heap.objs.size, _, I.laid (t' := s.toks) kp (Nat.le_refl _) (show wf X.prog X.w _ h' _ (.lst ys) from ⟨hz, its, c', r', e⟩), rfl, q _ (I.hok.fresh (Nat.le_refl _))⟩
  rcases hq with hq | hq
  · obtain ⟨its, r', pl, hz⟩ := I.list hq
    have hlen := r'.length
    obtain ⟨o, ho, hc, n, hd⟩ := pl.isList
    exact call_list_seq p (.inl rfl) ho hc hd (fun h' c' kp e => fin its r' hz h' c' kp e) (by simp only [List.size_toArray] <;> omega)
  · obtain ⟨its, r', pl, hz⟩ := I.tuple hq
    have hlen := r'.length
    obtain ⟨o, ho, hc, n, hd⟩ := pl
    exact call_list_seq p (.inr rfl) ho hc hd (fun h' c' kp e => fin its r' hz h' c' kp e) (by simp only [List.size_toArray] <;> omega)
theorem xw : vY X (.type "tuple") (fun xs H Q => ∃ p ys, xs = [.ref p] ∧ ((SqL X.K H p ys ∧ ∀ l, H l = none → Q (.ref l) (upd H l (.tup ys))) ∨ (SqT X.K H p ys ∧ Q (.ref p) H))) := by
  intro pins s σ H xs us Q I r h
  obtain ⟨p, ys, rfl, h⟩ := h
  obtain ⟨u, rfl, rx⟩ := Xx r
  cases rx
  rcases h with ⟨hq, q⟩ | ⟨hq, q⟩
  · obtain ⟨its, r', pl, hz⟩ := I.list hq
    have hlen := r'.length
    refine call_tuple_list pl.isList (fun h' kp => ?_) (by simp only [List.size_toArray] <;> omega)
    have I1 : Inv X pins σ H { s with heap := h' } := I.kept (t' := s.toks) kp
    have I2 : Inv X pins σ (upd H h'.objs.size (.tup ys)) { s with heap := h'.push { cls := .type "tuple", data := .seq its.toArray } } :=
      I1.laid (t' := s.toks) (fun b o e => Heap.get?_push_of_some _ e) (Nat.le_refl _) (show wf X.prog X.w _ _ _ (.tup ys) from ⟨hz, its, r', IsTup.new _ _⟩)
    exact ⟨.ref h'.objs.size, _, I2, rfl, q _ (I1.hok.fresh (Nat.le_refl _))⟩
  · obtain ⟨its, r', pl, hz⟩ := I.tuple hq
    exact call_tuple_same pl ⟨.ref p, H, I, rfl, q⟩
noncomputable def tyV (K : PySem.W.Frag) (T : String) (x : V) (H : Hp) : Prop := match x with
  | .str _ => T = "str"
  | .int _ => T = "int"
  | .ref p => (T = "list" ∧ ∃ xs, SqL K H p xs) ∨ (T = "tuple" ∧ ∃ o, K.lookup p = some o ∧ o.cls = .type "tuple" ∧ o.dict = none) ∨
      (T = "dict" ∧ ((∃ kvs, H p = some (.dK kvs)) ∨ ∃ kvs, H p = some (.dT kvs))) ∨ (T = "set" ∧ ∃ S n, H p = some (.set S n))
  | _ => False
theorem zeT {pins : List (Addr × Obj)} {σ : St} {H : Hp} {s : Shared} {T : String} {x : V} {v : Value} (I : Inv X pins σ H s) (r : xJ x v) (ty : tyV X.K T x H) :
    s.TypeIs v T ∧ ∀ a, v = .ref a → ∃ ob, s.heap.get? a = some ob ∧ ob.dict = none := by
  cases x with
  | str z =>
    obtain ⟨t, rfl⟩ := r
    cases (show T = "str" from ty)
    exact ⟨typeIs_str s z t, fun _ e => nomatch e⟩
  | int i =>
    obtain ⟨t, rfl⟩ := r
    cases (show T = "int" from ty)
    exact ⟨typeIs_int s i t, fun _ e => nomatch e⟩
  | ref p =>
    cases r
    rcases ty with ⟨rfl, xs, hq⟩ | ⟨rfl, o, hk, hc, hd⟩ | ⟨rfl, hk⟩ | ⟨rfl, S, n, hk⟩
    · obtain ⟨its, _, pl, _⟩ := I.list hq
      refine ⟨pl.isList.typeIs, fun a e => ?_⟩
      cases e
      obtain ⟨o, n, e, c, hd, _⟩ := pl
      exact ⟨o, e, hd⟩
    · refine ⟨⟨o, I.kIn p o hk, hc⟩, fun a e => ?_⟩
      cases e
      exact ⟨o, I.kIn _ o hk, hd⟩
    · have z : ∃ o, s.heap.get? p = some o ∧ o.ExactDict := by
        rcases hk with ⟨kvs, hk⟩ | ⟨kvs, hk⟩
        · obtain ⟨_, _, _, _, o, _, _, e, ex, _⟩ := I.hok p _ hk
          exact ⟨o, e, ex⟩
        · obtain ⟨_, _, _, _, o, _, _, e, ex, _⟩ := I.hok p _ hk
          exact ⟨o, e, ex⟩
      obtain ⟨o, e, ex⟩ := z
      refine ⟨⟨o, e, ex.1⟩, fun a e2 => ?_⟩
      cases e2
      exact ⟨o, e, ex.2.1⟩
    · obtain ⟨o, _, _, _, e, ex, _⟩ := I.hok p _ hk
      refine ⟨⟨o, e, ex.1⟩, fun a e2 => ?_⟩
      cases e2
      exact ⟨o, e, ex.2.1⟩
  | _ => exact False.elim ty
noncomputable def tBM (K : PySem.W.Frag) (T : String) (r : V → List V → Hp → VK → Prop) (to : TE) (t : TA) : TE := fun σ H Q => to σ H fun x H1 => tyV K T x H1 ∧ t σ H1 fun xs H2 => r x xs H2 Q
variable {o e : Expr} {es : List Expr} {to : TE} {t : TA} {name : Str} {apos cpos : Pos} {T id : String} {r : V → List V → Hp → VK → Prop}
theorem zbd (pa : PlainAttrs T) (slot : Slot T name id) (hty : typeOf (.builtin id) = pure (.type "method_descriptor")) (hm : MtR X id r) (ho : PE X o to) (ha : PA X (e :: es) t)
    (hbase : attributeBase o name X.env (eval o X.env) = eval o X.env := by rfl)
    (hfew : ((backTo cpos (starEach (e :: es) X.env)).all (fun x => !x.1) && (backToKw cpos (keywordEach [] X.env)).all (fun x => x.1.isSome)
      && decide ((e :: es).length + ([] : List Keyword).length + (if ([] : List Keyword).isEmpty then 0 else 1) < 30)) = true := by rfl)
    (hline : (apos.endLine == cpos.line) = true := by rfl) (hs : starEach (e :: es) X.env = (false, eval e X.env) :: starEach es X.env := by rfl) (hplain : (backTo cpos (starEach es X.env)).any (·.1) = false := by rfl) :
    PE X (.Call (.Attribute o name apos) (e :: es) [] cpos) (tBM X.K T r to t) := by
  intro pins s σ H Q I h
  refine wpAny_Call_method_late hbase hfew hline rfl (thn (ho pins s σ H _ I h) fun v s1 hh9 => ?_)
  obtain ⟨x, H1, I1, r1, ty, q1⟩ := hh9
  obtain ⟨h1, h2⟩ := zeT I1 r1 ty
  refine ⟨T, id, pa, slot, hty, h1, h2, ?_⟩
  have hA := ha cpos pins s1 σ H1 _ I1 q1
  rw [hs] at hA ⊢
  refine Calls.callWith_builtin (by show (false || (backTo cpos (starEach es X.env)).any (·.1)) = false; rw [hplain] <;> rfl) (Calls.evalArgs_plain ?_)
  exact thn hA fun us s2 ⟨vs, H2, I2, r2, q2⟩ => hm pins s2 σ H2 x vs v us Q I2 r1 r2 q2
/- xs.append(e), list.index on a module's tuple .. are MtR facts of 06m -/
end
end L2
namespace L2
open PySem PySem.Spec PyProof.Rows
noncomputable def MtM (X : Cx) (id : String) (r : V → List V → Hp → VK → Prop) : Prop :=
  ∀ (pins : List (Addr × Obj)) (s : Shared) (σ : St) (H : Hp) (x : V) (xs : List V) (v : Value) (us : List Value) (Q : VK), Inv X pins σ H s → xJ x v → yg xs us → r x xs H Q →
    wpAny (model X.prog X.w) X.A (call (.builtin id) (v :: us)) (EP X pins σ Q) X.xe s
theorem yg.one : ∀ {x : V} {us : List Value}, yg [x] us → ∃ u, us = [u] ∧ xJ x u := by
  intro x us h
  cases h with | cons r t => cases t; exact ⟨_, rfl, r⟩
theorem yg.reverse {xs : List V} {us : List Value} (h : yg xs us) : yg xs.reverse us.reverse := by
  induction h with
  | nil => exact .nil
  | cons r t ih => rw [List.reverse_cons, List.reverse_cons]; exact yg.append ih (.cons r .nil)
theorem yg.rep {xs : List V} {us : List Value} (h : yg xs us) : ∀ k : Nat, yg (List.replicate k xs).flatten (List.replicate k us).flatten
  | 0 => .nil
  | k + 1 => by
    rw [List.replicate_succ, List.replicate_succ, List.flatten_cons, List.flatten_cons]
    exact yg.append h (yg.rep h k)
theorem WA (its : List Value) : ∀ (k : Nat) (acc : List Value),
    List.foldl (fun x1 x2 => x1 ++ x2) acc.toArray (List.replicate k its.toArray) = (acc ++ (List.replicate k its).flatten).toArray
  | 0, acc => by simp
  | k + 1, acc => by
    have e : acc.toArray ++ its.toArray = (acc ++ its).toArray := by simp
    have e2 : (acc ++ its) ++ (List.replicate k its).flatten = acc ++ (List.replicate (k + 1) its).flatten := by
      rw [List.replicate_succ, List.flatten_cons, List.append_assoc]
    rw [← e2, ← WA its k (acc ++ its), ← e, List.replicate_succ, List.foldl_cons]
section
variable {X : Cx} {pins : List (Addr × Obj)} {σ : St} {H : Hp} {s : Shared} {l b : Addr} {xs ys zs : List V}
theorem Inv.lset {its its' : List Value} {n : Nat} {f : Array Value → Array Value} {t' : Nat} (I : Inv X pins σ H s) (hH : H l = some (.lst xs))
    (e : s.heap.get? l = some { cls := .type "list", data := .seq its.toArray n }) (hf : f its.toArray = its'.toArray) (hv : yg ys its') (hz : ys.length ≤ sizeLine) :
    Inv X pins σ (upd H l (.lst ys)) { s with heap := s.heap.update l (Obj.mapSeq f), toks := t' } := by
  have q := PySem.IsL.update e f
  rw [hf] at q
  refine I.write (x := l) (e := l) (by rw [hH]; exact trivial) (.inl rfl) (fun b' u hb hu => (Heap.get?_update_other s.heap (Obj.mapSeq f) (Ne.symm hb)).trans hu) ⟨_, q⟩ ?_
  exact ⟨hz, its', _, hv, q⟩
theorem Inv.lnew {its : List Value} {t' : Nat} (I : Inv X pins σ H s) (hv : yg ys its) (hz : ys.length ≤ sizeLine) :
    Inv X pins σ (upd H s.heap.objs.size (.lst ys)) { s with heap := s.heap.push { cls := .type "list", data := .seq its.toArray }, toks := t' } :=
  I.laid (fun _ _ q => Heap.get?_push_of_some _ q) (Nat.le_refl _) ⟨hz, its, 0, hv, Heap.get?_push_size _ rfl⟩
theorem Inv.fresh (I : Inv X pins σ H s) : H s.heap.objs.size = none := I.hok.fresh (Nat.le_refl _)
theorem Inv.lstM (I : Inv X pins σ H s) (hH : H l = some (.lst xs)) : xs.length ≤ sizeLine ∧ ∃ (its : List Value) (n : Nat), yg xs its ∧ xs.length = its.length ∧ s.heap.get? l = some { cls := .type "list", data := .seq its.toArray n } := by
  obtain ⟨z, its, n, r, e⟩ := I.hok l _ hH
  exact ⟨z, its, n, r, r.length, e⟩
theorem zak {n : Nat} (h : n ≤ sizeLine) : Builtin.List.listTooLong n = false := by
  unfold Builtin.List.listTooLong
  exact decide_eq_false (by omega)
end
section
variable {X : Cx}
noncomputable def zcl : V → List V → Hp → VK → Prop := fun x vs H Q => ∃ l xs y, x = .ref l ∧ vs = [y] ∧ H l = some (.lst xs) ∧ xs.length < sizeLine ∧ Q .non (upd H l (.lst (xs ++ [y])))
theorem Zv : MtM X "list.append" zcl := by
  intro pins s σ H x vs v us Q I rx rv h
  obtain ⟨l, xs, y, rfl, rfl, hH, hz, q⟩ := h
  cases rx
  obtain ⟨u, rfl, ru⟩ := rv.one
  obtain ⟨z, its, n, r, hl, e⟩ := I.lstM hH
  refine call_meets F.slot_list_append ⟨_, e, rfl⟩ F.entry_list_append (F.args_list_append_2 _ _) (PySem.list_append l its.toArray n u (by rw [List.size_toArray]; omega)) ⟨e, ?_⟩
  refine ⟨.non, _, I.lset (its' := its ++ [u]) hH e (by simp) (r.append (.cons ru .nil)) ?_, rfl, q⟩
  rw [List.length_append, List.length_singleton]
  omega
noncomputable def zbw : V → List V → Hp → VK → Prop := fun x vs H Q => ∃ l b xs zs, x = .ref l ∧ vs = [.ref b] ∧ H l = some (.lst xs) ∧ H b = some (.lst zs) ∧ xs.length + zs.length ≤ sizeLine ∧ Q .non (upd H l (.lst (xs ++ zs)))
theorem WC : MtM X "list.extend" zbw := by
  intro pins s σ H x vs v us Q I rx rv h
  obtain ⟨l, b, xs, zs, rfl, rfl, hH, hB, hz, q⟩ := h
  cases rx
  obtain ⟨u, rfl, ru⟩ := rv.one
  cases ru
  obtain ⟨z, its, n, r, hl, e⟩ := I.lstM hH
  obtain ⟨z2, its2, n2, r2, hl2, e2⟩ := I.lstM hB
  have hsz : its.toArray.size + its2.toArray.size ≤ sizeLine := by rw [List.size_toArray, List.size_toArray]; omega
  have hlong : ¬ (!its.toArray.isEmpty && Builtin.List.listTooLong (its.toArray.size + its2.toArray.size)) = true := by
    rw [zak hsz, Bool.and_false]
    exact Bool.false_ne_true
  refine call_meets F.slot_list_extend ⟨_, e, rfl⟩ F.entry_list_extend (F.args_list_extend_2 _ _)
    (AutoSeq1.list_extend_list_list_0 l its.toArray n b its2.toArray n2 hlong (by rw [List.size_toArray]; omega) (by omega)) ⟨e, e2, ?_⟩
  refine ⟨.non, _, I.lset (its' := its ++ its2) hH e (by simp) (r.append r2) ?_, rfl, q⟩
  rw [List.length_append]
  omega
noncomputable def rCat : R2 := fun x y H Q => ∃ l b xs zs, x = .ref l ∧ y = .ref b ∧ H l = some (.lst xs) ∧ H b = some (.lst zs) ∧ xs.length + zs.length ≤ sizeLine ∧ ∀ p, H p = none → Q (.ref p) (upd H p (.lst (xs ++ zs)))
theorem zfi : OpR X (binaryOp .Add) rCat := by
  intro pins s σ H x y v u Q I rx ry h
  obtain ⟨l, b, xs, zs, rfl, rfl, hH, hB, hz, q⟩ := h
  cases rx
  cases ry
  obtain ⟨z, its, n, r, hl, e⟩ := I.lstM hH
  obtain ⟨z2, its2, n2, r2, hl2, e2⟩ := I.lstM hB
  refine PySem.P.add_list e e2 ?_ (by rw [List.size_toArray, List.size_toArray]; omega)
  have ea : its.toArray ++ its2.toArray = (its ++ its2).toArray := by simp
  rw [ea]
  exact ⟨.ref _, _, I.lnew (t' := s.toks) (r.append r2) (by rw [List.length_append]; omega), rfl, q _ I.fresh⟩
noncomputable def rRep : R2 := fun x y H Q => ∃ l k xs, x = .ref l ∧ y = .int k ∧ H l = some (.lst xs) ∧ -(2 ^ 63) ≤ k ∧ k < 2 ^ 63 ∧ xs.length * k.toNat ≤ sizeLine ∧
  ∀ p, H p = none → Q (.ref p) (upd H p (.lst (List.replicate k.toNat xs).flatten))
theorem zeG {α : Type} (xs : List α) (k : Nat) : (List.replicate k xs).flatten.length = k * xs.length := by
  induction k with
  | zero => simp
  | succ k ih => rw [List.replicate_succ, List.flatten_cons, List.length_append, ih, Nat.succ_mul, Nat.add_comm]
theorem zdt : OpR X (binaryOp .Mult) rRep := by
  intro pins s σ H x y v u Q I rx ry h
  obtain ⟨l, k, xs, rfl, rfl, hH, h1, h2, hz, q⟩ := h
  cases rx
  obtain ⟨t, rfl⟩ := ry
  obtain ⟨z, its, n, r, hl, e⟩ := I.lstM hH
  have hlen : its.toArray.size * k.toNat ≤ sizeLine := by rw [List.size_toArray, ← hl]; exact hz
  have hcap : ¬ its.toArray.size * k.toNat > (2 ^ 63 - 1) / 8 := by
    have : (sizeLine : Nat) ≤ (2 ^ 63 - 1) / 8 := by decide
    omega
  have hfit : ¬ (!Builtin.List.listFitsIndex k) = true := by
    rw [fitsIndex_both h1 h2]
    exact Bool.false_ne_true
  have hlong : ¬ Builtin.List.listTooLong (its.toArray.size * k.toNat) = true := by
    rw [zak hlen]
    exact Bool.false_ne_true
  have hnew : List.foldl (fun x1 x2 => x1 ++ x2) #[] (List.replicate (if its.toArray.isEmpty = true then 0 else k.toNat) its.toArray) = (List.replicate k.toNat its).flatten.toArray := by
    have f0 : ∀ m : Nat, List.foldl (fun x1 x2 => x1 ++ x2) #[] (List.replicate m its.toArray) = (List.replicate m its).flatten.toArray := fun m => by
      have := WA its m []
      rw [List.nil_append] at this
      exact this
    rw [f0]
    cases its with
    | nil => simp
    | cons a r' => rw [if_neg (by simp)]
  refine wpAny_binaryOp_repeat_ref (T := "list") (U := "int") (by decide) ⟨_, e, rfl⟩ (fun s' => typeIs_int s' k t) noFill_list_mul F.fills_int_mul F.slot_int_rmul repeat_list F.slot_int_index.lookup
    (call_meets F.slot_int_rmul (typeIs_int s k t) F.entry_int_rmul (F.args_int_rmul_2 _ _) (int___rmul___int_list k t l its.toArray n)
      ⟨e, rfl, ⟨_, e, rfl⟩, call_meets F.slot_list_mul ⟨_, e, rfl⟩ F.entry_list_mul (F.args_list_mul_2 _ _) (AutoListH.list___mul___list_int_3 l its.toArray n k t hfit hcap hlong) ⟨e, ?_⟩⟩)
  rw [hnew]
  exact ⟨.ref _, _, I.lnew (t' := s.toks) (r.rep k.toNat) (by rw [zeG, Nat.mul_comm]; exact hz), rfl, q _ I.fresh⟩
end
section
variable {prog : Program} {w : World} {A : Around} {E : Value → Shared → Prop} {s : Shared}
end
section
variable {X : Cx}
end
end L2
namespace Att
open PySem PySem.W PySem.Calls PyProof.Rows
theorem ZF {P : Params} {h : Heap} : ∀ (ns : List Int) (vs : List Value), WellAll P h vs (ns.map WData.int) → IntsAre vs ns := by
  intro ns
  induction ns with
  | nil =>
    intro vs w
    rw [List.map_nil] at w
    cases w
    exact .nil
  | cons n ns ih =>
    intro vs w
    rw [List.map_cons] at w
    cases w with
    | cons a b =>
      cases a
      exact .cons _ _ (ih _ b)
theorem zcc {l : OpenLaw} {n : Nat} (hn : l.most = some n) {P : Params} {h : Heap} {args : List WData} {vals : List Value}
    (hpre : l.row.toRowW.claim.pre args = true) (hwl : WellAll P h vals args) :
    ∃ a vs ns, vals = [Value.ref a] ∧ args = [WData.list (ns.map WData.int)] ∧ h.get? a = some { cls := .type "list", data := .seq vs.toArray } ∧ IntsAre vs ns ∧ ns.length ≤ n := by
  have hsh : WShape.hasAll [] args [.list .int] = true := (pre_splitW hpre).1
  have hc : l.pre.holds [] { args := args } = true := (pre_splitW hpre).2
  obtain ⟨d, r, rfl, h1, h2⟩ := hasAllW_cons hsh
  obtain rfl := hasAllW_nil h2
  obtain ⟨xs, rfl, h3⟩ := hasW_list h1
  obtain ⟨ns, rfl⟩ := items_int h3
  have hlen : ns.length ≤ n := by
    unfold OpenLaw.pre at hc
    have h4 : (WTm.not (.lt (.lit (.int (n : Int))) (.len (.arg 0)))).holds [] { args := [.list (ns.map .int)] } = true := by
      have h4 := (holds_andW hc).1
      rw [hn] at h4
      exact h4
    have h5 := condW_of h4 (w_not (w_lt w_lit (w_len_list (w_arg rfl))))
    rw [List.length_map] at h5
    refine Nat.le_of_not_lt fun q => ?_
    have q' : (n : Int) < ((ns.length : Nat) : Int) := by omega
    first
      | (rw [decide_eq_true q'] at h5; exact absurd h5 (by decide))
      | (simp at h5; omega)
  cases hwl with
  | cons w1 w2 =>
    cases w2
    cases w1 with
    | list ho hall => exact ⟨_, _, ns, rfl, rfl, ho, ZF ns _ hall, hlen⟩
theorem zbc (l : OpenLaw) (args : List WData) : l.row.toRowW.claim.post args (.bool true) args = true :=
  postW_of (r := l.row.toRowW) (X := (true == true))
    (show WShape.has [] (.bool true) .bool = true by first | rfl | decide | simp [WShape.has, WShape.arms, WShape.armsAll])
    (show (WTm.eq .res (.lit (.bool true))).value [] { args := args, res := some (.bool true), after := args } = some (.bool (true == true)) from w_eq_bool (w_res rfl) w_lit) rfl
theorem attach_call {l : OpenLaw} {n : Nat} {q : Program} {loose : List Str} {XP : (Str → Option Value) → Heap → Prop} {YP : World → Heap → Prop} {d : DefRec}
    (hn : l.most = some n) (hdf : d.params.defaults = [])
    (call : ∀ (w : World) (s₀ s₁ : Shared) (mg mb : Str → Option Value) (fa : Addr) (o : Obj) (pm cd doc : Value) (a : Addr) (vs : List Value) (ns : List Int),
      Ground q loose [] XP w s₀ mg mb s₁.heap → YP w s₁.heap →
      s₁.heap.get? fa = some o → o.data = .func (docDef d.name d.params d.body d.scope pm cd doc) → s₁.heap.CodeRec cd d.name → mg d.name = some (.ref fa) →
      s₁.heap.get? a = some { cls := .type "list", data := .seq vs.toArray } → IntsAre vs ns → ns.length ≤ n → s₁.gens = #[] →
      codeAny (model l.prog w) callerA (.call (.ref fa) ⟨[.ref a], []⟩) (fun r s' => r = .ok (.ret (.bool true)) ∧ OldK s₁.heap s'.heap ∧ s'.os = s₁.os ∧ AllBare s'.gens) s₁) :
    WalkO q loose XP YP l.row.toRowW d [] (fun f vs => PySem.call f vs) := by
  intro w s₀ s₁ mg mb G Y fa o pm cd doc dV kV ho hd hcd hD hmg hg args vals as hpre hlay hrd hwl hlo
  obtain rfl : dV = .none := Dflts.none hD hdf
  obtain rfl : kV = .none := Dflts.noKw hD
  obtain ⟨a, vs, ns, rfl, rfl, hobj, hints, hlen⟩ := zcc hn hpre hwl
  refine enter_call (codeAny_mono (call w s₀ s₁ mg mb fa o pm cd doc a vs ns G Y ho (fd_plain hd) hcd hmg hobj hints hlen hg) fun r s' hq => ?_)
  obtain ⟨rfl, h2, h3, h4⟩ := hq
  exact ⟨.inl ⟨.bool true, .bool true, [], rfl, fun _ => rfl, .bool true, zbc l _, fun _ => ⟨List.Pairwise.nil, fun _ hm => (nomatch hm)⟩⟩, h2, h3, h4⟩
section
variable {prog : Program} {w : World} {A : Around} {E : Value → Shared → Prop} {s : Shared} {K : Frag}
noncomputable def ledger (h : Heap) (L d : Addr) : List (Addr × Obj) := (List.range h.objs.size).filterMap fun a => if a = L ∨ a = d then none else (h.get? a).map fun o => (a, o)
end
end Att
namespace L2
open PySem PySem.Spec PyProof.Rows
theorem Wj : ∀ {vs : List Value} {ns : List Int}, IntsAre vs ns → yg (ns.map V.int) vs := by
  intro vs ns h
  induction h with
  | nil => exact .nil
  | cons n t h ih => exact .cons ⟨t, rfl⟩ ih
noncomputable def zg7 (H : Hp) : Prop := ∀ b, H b = none ∨ ∃ o xs, H b = some (.frz o (.lst xs))
theorem zcs {P : Program} {w : World} {K : PySem.W.Frag} {mg mb : Str → Option Value} {CX : CXT} {k : Nat} {fa a : Addr} {fd : FuncData} {x : Str} {sp : Sp} {s₁ : Shared} {vs : List Value} {ns : List Int}
    (KX : K.In s₁.heap) (hns : s₁.heap.Ns mainGlobals mg) (hb : s₁.heap.Ns builtinsNs mb) (hbb : ∀ x : Str, x ≠ "__name__" → mb x = bootBuiltins x) (hlim : s₁.heap.NoLimit) (hg : s₁.gens = #[])
    (ha : s₁.heap.get? a = some { cls := .type "list", data := .seq vs.toArray }) (hi : IntsAre vs ns) (hl : ns.length ≤ sizeLine) (hr : YI k callerA)
    (F : ∀ base : Heap, K.In base → base.Ns mainGlobals mg → y0 P w K mg base CX k fa fd [x] sp) (hbind : ∀ (s : Shared) (u : Value), BindsTo s fd ⟨[u], []⟩ [(x, u)])
    (hsp : ∀ H : Hp, zg7 H → SqL K H a (ns.map V.int) → sp [.ref a] H (fun v _ => v = .bl true) fun _ _ _ => False)
    (hCX : ∀ H e s', CX [] H s₁ (fun _ _ _ => False) e s' → False) :
    codeAny (model P w) callerA (.call (.ref fa) ⟨[.ref a], []⟩) (fun r s' => r = .ok (.ret (.bool true)) ∧ OldK s₁.heap s'.heap ∧ s'.os = s₁.os ∧ AllBare s'.gens) s₁ := by
  have rv := Wj hi
  have lenV := hi.length
  -- from an abstract heap in which nothing but the script may be tracked
  have core : ∀ H : Hp, zg7 H → SqL K H a (ns.map V.int) → HOk P w H s₁.heap → (∀ b, H b ≠ none → b = a) → (H a ≠ none → K.lookup a = none) →
      codeAny (model P w) callerA (.call (.ref fa) ⟨[.ref a], []⟩) (fun r s' => r = .ok (.ret (.bool true)) ∧ OldK s₁.heap s'.heap ∧ s'.os = s₁.os ∧ AllBare s'.gens) s₁ := by
    intro H hO hS hok hA hK
    have base_of : ∀ {b : Addr} {o : Obj}, s₁.heap.get? b = some o → H b = none → (zcB s₁.heap H).get? b = some o := fun e n => zdh e n
    have noA : ∀ {b : Addr} {o : Obj} {es : Array DictEntry} {ep : Nat}, s₁.heap.get? b = some o → o.data = .dict es ep → H b = none := fun {b o es ep} e d => by
      cases q : H b with
      | none => rfl
      | some u =>
        have e' : b = a := hA b (by rw [q]; simp)
        subst e'
        rw [ha] at e; cases e
        have d' : Data.seq vs.toArray _ = Data.dict es ep := d
        cases d'
    have nsK : ∀ {b : Addr} {m : Str → Option Value}, s₁.heap.Ns b m → (zcB s₁.heap H).Ns b m := fun {b m} ⟨o, es, ep, e, d, r⟩ => ⟨o, es, ep, base_of e (noA e d), d, r⟩
    have hKb : K.In (zcB s₁.heap H) := fun b o e => base_of (KX b o e) (by
      cases q : H b with
      | none => rfl
      | some u =>
        have e' : b = a := hA b (by rw [q]; simp)
        subst e'
        rw [hK (by rw [q]; simp)] at e; cases e)
    have hM : Mod K mg (zcB s₁.heap H) := ⟨hKb, nsK hns, ⟨mb, nsK hb, hbb⟩, let ⟨mc, h1, h2⟩ := hlim; ⟨mc, nsK h1, h2⟩⟩
    have e0 : zgx P w K mg (zcB s₁.heap H) callerA [] s₁ H := ⟨rfl, hM, fun b o e => zdW e, Nat.le_of_eq (zbO _ _), trivial, fun b hb => absurd (show b ∈ ([] : List Addr) from hb) (by simp), hok, .of_eq hg⟩
    refine codeAny_mono ((F _ hKb (nsK hns)).run callerA [] s₁ H ⟨[.ref a], []⟩ [.ref a] [.ref a] _ _ hr e0 (hbind s₁ (.ref a)) (.cons rfl .nil) (hsp H hO hS)) fun r s' h => ?_
    cases r with
    | error e => exact (hCX H e s' h).elim
    | ok fl =>
      cases fl with
      | next => exact False.elim h
      | brk => exact False.elim h
      | cont => exact False.elim h
      | ret u =>
        obtain ⟨v, H', os, bare, un, hok', r', q⟩ := h
        have q' : v = .bl true := q
        subst q'
        obtain rfl : u = Value.bool true := r'
        refine ⟨rfl, OldK.of_keep fun b o e => ?_, os, bare⟩
        cases q : H b with
        | none => exact un.keep b o e q (by intro z; exact absurd (show b ∈ ([] : List Addr) from z) (by simp)) (by simp)
        | some u =>
          rcases hO b with z | ⟨ob, xs, z⟩
          · rw [q] at z; cases z
          · have z2 := un.frzs b ob _ z
            obtain ⟨e1, _⟩ := hok b _ z
            obtain ⟨e2, _⟩ := hok' b _ z2
            rw [e] at e1; cases e1
            exact e2
  cases hk : K.lookup a with
  | some o =>
    -- the script is one of the module's own objects
    have e := KX a o hk
    rw [ha] at e
    cases e
    refine core (fun _ => none) (fun _ => .inl rfl) (.inr ⟨_, vs.toArray, _, hk, rfl, rfl, rfl, by rw [List.size_toArray, lenV]; exact hl, by simpa using rv⟩) (fun b u z => by have z' : (none : Option HO) = some u := z; cases z') (fun b z => absurd rfl z) fun z => absurd rfl z
  | none =>
    refine core (fun b => if b = a then some (.frz { cls := .type "list", data := .seq vs.toArray } (.lst (ns.map V.int))) else none) (fun b => ?_) (.inl (.inr ⟨{ cls := .type "list", data := .seq vs.toArray }, if_pos rfl⟩)) (fun b u z => ?_) (fun b z => ?_) fun _ => hk
    · by_cases hb : b = a
      · exact .inr ⟨_, _, if_pos hb⟩
      · exact .inl (if_neg hb)
    · by_cases hb : b = a
      · have z' := (if_pos hb).symm.trans z
        cases z'
        subst hb
        exact ⟨ha, by rw [List.length_map]; exact hl, vs, _, rv, ha⟩
      · have z' := (if_neg hb).symm.trans z
        cases z'
    · by_cases hb : b = a
      · exact hb
      · exact absurd (if_neg hb) z
end L2
namespace L2
open PySem PySem.Spec PyProof.Rows
theorem walk_of {l : PySem.W.OpenLaw} {n k : Nat} {q : Program} {loose : List Str} {XP : (Str → Option Value) → Heap → Prop} {YP : World → Heap → Prop} {d : DefRec} {K : Params → PySem.W.Frag} {CX : World → CXT} {sp : World → Sp} {x : Str}
    (hn : l.most = some n) (hn2 : n ≤ sizeLine) (hdf : d.params.defaults = []) (hr : YI k callerA)
    (hY : ∀ (w : World) (h : Heap), YP w h → (K w.params).In h)
    (F : ∀ (w : World) (mg : Str → Option Value) (fa : Addr) (h : Heap), (K w.params).In h → h.Ns mainGlobals mg → mg d.name = some (.ref fa) →
      ∃ fd : FuncData, (∀ (s : Shared) (u : Value), BindsTo s fd ⟨[u], []⟩ [(x, u)]) ∧
        ∀ base : Heap, (K w.params).In base → base.Ns mainGlobals mg → y0 l.prog w (K w.params) mg base (CX w) k fa fd [x] (sp w))
    (hsp : ∀ (w : World) (H : Hp) (a : Addr) (ns : List Int), ns.length ≤ n → zg7 H → SqL (K w.params) H a (ns.map V.int) → sp w [.ref a] H (fun v _ => v = .bl true) fun _ _ _ => False)
    (hCX : ∀ (w : World) (H : Hp) (s : Shared) (e : Value) (s' : Shared), CX w [] H s (fun _ _ _ => False) e s' → False) :
    PySem.W.WalkO q loose XP YP l.row.toRowW d [] (fun f vs => PySem.call f vs) := by
  refine Att.attach_call hn hdf fun w s₀ s₁ mg mb fa o pm cd doc a vs ns G Y ho hd hcd hmg hobj hints hlen hg => ?_
  have KX := hY w _ Y
  obtain ⟨fd, hb, hF⟩ := F w mg fa _ KX G.T.g hmg
  exact zcs KX G.T.g G.T.b G.T.builtins G.T.nolimit hg hobj hints (Nat.le_trans hlen hn2) hr hF hb (fun H hO hS => hsp w H a ns hlen hO hS) fun H e s' => hCX w H s₁ e s'
end L2
namespace L2
open PySem PySem.Spec PyProof.Rows
noncomputable def zC (s : Stmt) : Arguments := match s with
  | .FunctionDef _ a _ _ _ _ _ _ _ _ => a
  | _ => { posonlyargs := [], args := [], vararg := none, kwonlyargs := [], kw_defaults := [], kwarg := none, defaults := [] }
noncomputable def zx (s : Stmt) : List Stmt := match s with
  | .FunctionDef _ _ b _ _ _ _ _ _ _ => b
  | _ => []
noncomputable def zd (s : Stmt) : Scope := match s with
  | .FunctionDef _ _ _ _ _ _ sc _ _ _ => sc
  | _ => { kind := .function, names := [], isGenerator := false, isCoroutine := false }
noncomputable abbrev CX0 : CXT := fun _ _ _ _ _ _ => False
noncomputable abbrev E0 : XK := fun _ _ _ => False
theorem zdP {X : Cx} : zbN CX0 X E0 := fun _ _ _ _ _ _ _ h => h.elim
set_option genInjectivity false in
set_option genSizeOf false in
set_option genCtorIdx false in
structure Fun (K : PySem.W.Frag) (x qual : Str) (st : Stmt) (f : Addr) (fd : FuncData) : Prop where
  ex : ∃ (oc : Value) (od : Option Addr) (kV doc pm : Value) (an : Option Addr) (cdv ct : Value) (osl : Array (Option Value)),
    fd = PySem.W.fnOf x qual (zC st) (zx st) (zd st) .none kV doc pm an cdv ct ∧ K.lookup f = some ⟨oc, od, .func fd, osl⟩ ∧ PySem.W.codeIn K cdv qual = true
  kp : PySem.W.keepIn K (.ref f) = true
section
variable {P : Program} {w : World} {K : PySem.W.Frag} {mg : Str → Option Value} {base : Heap}
theorem Fun.ok {x qual : Str} {st : Stmt} {f : Addr} {fd : FuncData} {N ps : List Str} {k : Nat} {sp : Sp} (F : Fun K x qual st f fd) (S : zB N ps (zd st)) (len : ∀ vs H Q E, sp vs H Q E → vs.length = ps.length)
    (hbody : ∀ (cdv : Value) (A : Around) (outer : List Env) (s : Shared) (H : Hp) (vs : List V) (Q : VK) (E : XK), YI k (A.deeper (envOfC qual (zd st) s.heap.objs.size f cdv)) → sp vs H Q E →
      ∃ t, PSs (zcp CX0 P w K mg base N qual (zd st) f cdv A outer s H E).nox (zx st) t ∧ t { nx := fun _ H' => Q .non H', rt := Q } (start N vs) H) : y0 P w K mg base CX0 (k + 1) f fd ps sp := by
  obtain ⟨oc, od, kV, doc, pm, an, cdv, ct, osl, rfl, lk, hcd⟩ := F.ex
  refine zgR lk hcd S len fun A outer s H vs Q E hr hsp => ?_
  obtain ⟨t, h, q⟩ := hbody cdv A outer s H vs Q E hr hsp
  exact ⟨t, h.nox, q⟩
theorem Fun.binds {x qual : Str} {st : Stmt} {f : Addr} {fd : FuncData} {ps : List Str} (F : Fun K x qual st f fd)
    (h : ∀ (kV doc pm : Value) (an : Option Addr) (cdv ct : Value) (us : List Value), us.length = ps.length → bindArgs (PySem.W.fnOf x qual (zC st) (zx st) (zd st) .none kV doc pm an cdv ct) ⟨us, []⟩ = pure (ps.zip us)) : X5 K fd ps [] := by
  obtain ⟨oc, od, kV, doc, pm, an, cdv, ct, osl, rfl, lk, hcd⟩ := F.ex
  exact .all (h kV doc pm an cdv ct)
theorem ya {x qual : Str} {st : Stmt} {f : Addr} {oc : Value} {od an : Option Addr} {osl : Array (Option Value)} {kV doc pm cdv ct : Value} (l : K.lookup f = some ⟨oc, od, .func (PySem.W.fnOf x qual (zC st) (zx st) (zd st) .none kV doc pm an cdv ct), osl⟩)
    (c : PySem.W.codeIn K cdv qual = true) (k : PySem.W.keepIn K (.ref f) = true) : Fun K x qual st f (PySem.W.fnOf x qual (zC st) (zx st) (zd st) .none kV doc pm an cdv ct) := ⟨⟨oc, od, kV, doc, pm, an, cdv, ct, osl, rfl, l, c⟩, k⟩
end
theorem Ze {n : Nat} (h : n ≤ 1000) : n < sizeLine := Nat.lt_of_le_of_lt h (by decide)
section
variable {X : Cx}
theorem pv (i : Nat) {x : Str} {pos : Pos} (hN : X.N[i]? = some x := by rfl) (hv : Vis X.env.scope x := by first | exact Or.inl rfl | exact Or.inr (Or.inl rfl) | exact Or.inr (Or.inr rfl)) (hd : (x == ("__debug__" : Str)) = false := by decide)
    (hcd : (x == ("__classdict__" : Str)) = false := by decide) : PE X (.Name x pos) (zdQ i) := zeX hN hv hd hcd
end
noncomputable def yP (H H' : Hp) : Prop := ∀ b o, H b = some o → H' b = some o
theorem yP.refl (H : Hp) : yP H H := fun _ _ h => h
theorem yP.trans {H H1 H2 : Hp} (a : yP H H1) (b : yP H1 H2) : yP H H2 := fun c o h => b c o (a c o h)
theorem yP.free {H H' : Hp} (e : yP H H') {l : Addr} (h : H' l = Option.none) : H l = Option.none := by
  cases q : H l with
  | none => rfl
  | some o =>
    rw [e l o q] at h
    cases h
theorem yP.seq {K : PySem.W.Frag} {H H' : Hp} {a : Addr} {xs : List V} (e : yP H H') (h : SqL K H a xs) : SqL K H' a xs := by
  rcases h with (h | ⟨o, h⟩) | h
  · exact .inl (.inl (e _ _ h))
  · exact .inl (.inr ⟨o, e _ _ h⟩)
  · exact .inr h
end L2
namespace L2
open PySem PySem.Spec PyProof.Rows
end L2
namespace L2
open PySem PySem.Spec PyProof.Rows
section
variable (P : Program) (w : World)
end
section
variable {P : Program} {w : World} {H H' : Hp} {h h' : Heap} {a : Addr} {o : HO}
end
section
variable {P : Program} {w : World} {H : Hp} {h h' : Heap} {x e : Addr} {o' : HO}
end
section
variable {fs fs' ex ex' : List Addr} {H H1 H2 : Hp} {h h1 h2 h' : Heap} {a x e : Addr} {o : HO}
end
end L2
namespace L2
open PySem PySem.Spec PyProof.Rows
section
variable {X : Cx} {pins : List (Addr × Obj)} {σ : List (Option V)} {H H' : Hp} {s : Shared} {h' : Heap}
end
end L2
namespace L2
open PySem PySem.Spec PyProof.Rows
section
variable {X : Cx}
variable {a b : Expr} {ta tb : TE} {pos : Pos}
variable {tA tB' : TT} {rest : List Expr}
end
end L2
namespace L2
open PySem PySem.Spec PyProof.Rows
section
variable {X : Cx} {pins : List (Addr × Obj)} {σ : St} {H : Hp} {s : Shared} {a : Addr} {xs ys : List V}
end
section
variable {X : Cx} {pins : List (Addr × Obj)} {σ : St} {H : Hp} {s : Shared} {E : Value → Shared → Prop}
end
section
variable {X : Cx} {st : Stmt} {rest : List Stmt} {t u : TS} {e : Expr} {te : TE} {pos : Pos}
end
section
variable {X : Cx} {pos : Pos}
end
section
variable {X : Cx} {pos : Pos}
end
end L2
namespace L2
open PySem PySem.Spec PyProof.Rows
section
variable {X : Cx} {tg : Expr}
end
end L2
namespace L2
open PySem PySem.Spec PyProof.Rows
section
variable {X : Cx} {a b c : Expr} {ta tb tc : TE} {pos : Pos}
end
section
variable {X : Cx} {a b c : Expr} {ta tb tc : TE} {pos : Pos}
end
end L2
namespace L2
open PySem PySem.Spec PyProof.Rows
section
variable {prog : Program} {w : World} {A : Around} {E : Value → Shared → Prop} {s : Shared} {K : PySem.W.Frag} {x dx C f : Addr} {mA : Str → Option Value} {name : Str} {v : Value}
end
section
variable {P : Program} {w : World} {H H' : Hp} {h h' : Heap} {a C dx : Addr} {fs fs' : List (Str × V)}
end
section
variable {X : Cx} {pins : List (Addr × Obj)} {σ : St} {H : Hp} {s : Shared} {a C dx : Addr} {fs : List (Str × V)} {f : Str} {v : V} {A : Around} {E : Value → Shared → Prop}
end
section
variable {X : Cx} {o e value : Expr} {f : Str} {pos pos' tpos : Pos} {ta tv : TE}
end
section
variable {X : Cx} {pins : List (Addr × Obj)} {σ : St} {H : Hp} {s : Shared} {A : Around} {E : Value → Shared → Prop} {Q : Value → Shared → Prop} {c : Value} {b : Bool}
end
end L2
namespace L2
open PySem PySem.Spec PyProof.Rows
section
variable {X : Cx} {e : Expr} {es : List Expr} {te : TE} {t : TA} {pos : Pos}
end
section
variable {X : Cx} {pins : List (Addr × Obj)} {σ : St} {H : Hp} {s s' : Shared}
end
section
variable {X : Cx} {CX : CXT} {k : Nat} {f C : Addr} {fd : FuncData} {ps : List Str} {sp : Sp} {dvs : List V} {ds : List Value} {E : XK} {x m : Str} {p pos apos : Pos} {e o : Expr} {es : List Expr} {ta : TE} {t : TA}
end
section
variable {X : Cx} {CX : CXT} {k : Nat} {f C : Addr} {fd : FuncData} {ps ks : List Str} {sp : Sp} {E : XK} {x m : Str} {p pos apos kpos : Pos} {e o : Expr} {es : List Expr} {kws : List Keyword} {te ta : TE} {t tk : TA} {nm : Option Str}
variable {g : List Value → List Value → List Value} {gV : List V → List V → List V}
end
end L2
namespace L2
open PySem PySem.Spec PyProof.Rows
section
variable {X : Cx} {x : Str} {p pos : Pos} {e : Expr} {es : List Expr} {t : TA} {id T : String} {r : List V → Hp → VK → Prop}
end
end L2
namespace L2
open PySem PySem.Spec PyProof.Rows
section
variable {κ : Type} [DecidableEq κ]
end
section
variable {P : Program} {w : World} {H : Hp} {h : Heap} {a : Addr}
end
section
variable {X : Cx} {pins : List (Addr × Obj)} {σ : St} {H : Hp} {s : Shared} {a : Addr} {y v : V} {u r : Value} {o : Option V} {A : Around} {E : Value → Shared → Prop}
end
section
variable {X : Cx} {pins : List (Addr × Obj)} {σ : St} {H : Hp} {s : Shared} {a : Addr} {kvs : List (Key × V)} {k : Key} {u : Value} {A : Around} {E : Value → Shared → Prop}
end
section
variable {X : Cx} {o i e value : Expr} {pos pos' tpos : Pos} {td ty tv : TE}
end
section
variable {X : Cx} {pos : Pos}
end
section
variable {X : Cx} {pins : List (Addr × Obj)} {σ : St} {H : Hp} {s : Shared} {a : Addr} {y d : V} {u r : Value} {o : Option V} {A : Around} {E : Value → Shared → Prop}
end
section
variable {X : Cx} {o e f : Expr} {apos cpos : Pos} {td ty tx : TE}
end
section
variable {X : Cx} {pins : List (Addr × Obj)} {σ : St} {H : Hp} {s : Shared} {a : Addr} {kvs : List (Key × V)} {A : Around} {E : Value → Shared → Prop}
end
section
variable {X : Cx} {pins : List (Addr × Obj)} {σ : St} {H : Hp} {s : Shared} {a : Addr} {y : V} {u : Value} {A : Around} {E : Value → Shared → Prop}
end
end L2
namespace Att
open PySem PySem.W PySem.Calls PyProof.Rows
section
variable {prog : Program} {w : World} {A : Around} {E : Value → Shared → Prop} {s : Shared} {K : Frag}
end
end Att
namespace L2
open PySem PySem.Spec PyProof.Rows
end L2
namespace L2
open PySem PySem.Spec PyProof.Rows
end L2
namespace L2
open PySem PySem.Spec PyProof.Rows
section
variable {P : Program} {w : World} {K : PySem.W.Frag} {mg : Str → Option Value} {base : Heap}
end
section
variable {X : Cx}
end
section
variable {κ : Type} [DecidableEq κ]
end
end L2
namespace L2
open PySem PySem.Spec PyProof.Rows
theorem Vd {X : Cx} : vY X (.builtin "isinstance") (fun xs H Q => ∃ x n t b, xs = [x, .ty n] ∧ zaf X.K H x t ∧ PySem.W.kitOne X.K t (.type n) = some b ∧ Q (.bl b) H) := by
  intro pins s σ H xs us Q I r h
  obtain ⟨x, n, t, b, rfl, ty, e, q⟩ := h
  obtain ⟨u, w', rfl, rx, rt⟩ := zbn r
  cases (show w' = Value.type n from rt)
  exact zbf I rx ty e fun tk => ⟨.bl b, H, I.tok _, rfl, q⟩
theorem zcx {X : Cx} : OpR X (compareOp .Is) (fun x y H Q => ∃ i j, x = .bl i ∧ y = .bl j ∧ Q (.bl (i == j)) H) := by
  intro pins s σ H x y v u Q I rx ry h
  obtain ⟨i, j, rfl, rfl, q⟩ := h
  cases rx
  cases ry
  refine wpAny_is_plain (by rfl) ⟨.bl (i == j), H, I, ?_, q⟩
  cases i <;> cases j <;> rfl
theorem W5 {X : Cx} : OpR X (compareOp .IsNot) (fun x y H Q => ∃ i j, x = .bl i ∧ y = .bl j ∧ Q (.bl (!(i == j))) H) := by
  intro pins s σ H x y v u Q I rx ry h
  obtain ⟨i, j, rfl, rfl, q⟩ := h
  cases rx
  cases ry
  refine wpAny_isNot_plain (by rfl) ⟨.bl (!(i == j)), H, I, ?_, q⟩
  cases i <;> cases j <;> rfl
noncomputable def zdI (K : PySem.W.Frag) : R2 := fun x y H Q => ∃ a b xs ys, x = .ref a ∧ y = .ref b ∧ SqT K H a xs ∧ SqT K H b ys ∧ xs.length + ys.length ≤ sizeLine ∧
  (xs = [] → Q (.ref b) H) ∧ (xs ≠ [] → ys = [] → Q (.ref a) H) ∧ (xs ≠ [] → ys ≠ [] → ∀ p, H p = none → Q (.ref p) (upd H p (.tup (xs ++ ys))))
theorem zde {X : Cx} : OpR X (binaryOp .Add) (zdI X.K) := by
  intro pins s σ H x y v u Q I rx ry h
  obtain ⟨a, b, xs, ys, rfl, rfl, ha, hb, hz, q0, q1, q2⟩ := h
  by_cases hx : xs = []
  · subst hx
    cases rx
    cases ry
    obtain ⟨its, r, p, _⟩ := I.tuple ha
    obtain ⟨its', r', p', _⟩ := I.tuple hb
    cases r
    obtain ⟨⟨cls, dd, data, sl⟩, ho, hc, n, hd⟩ := id p
    obtain ⟨⟨cls2, dd2, data2, sl2⟩, ho2, hc2, n2, hd2⟩ := id p'
    simp only at hc hd hc2 hd2
    subst hc hd hc2 hd2
    exact concat_meets ⟨_, ho, rfl⟩ ⟨_, ho2, rfl⟩ noFill_tuple_add seq_tuple_add PySem.F.slot_tuple_add PySem.F.entry_tuple_add (PySem.F.args_tuple_add_2 _ _)
      (tuple_addW0 a b #[] its'.toArray n n2 dd dd2 sl sl2 rfl) ⟨ho, ho2, ⟨.ref b, H, I, rfl, q0 rfl⟩⟩
  · refine zeB pins s σ H (.ref a) (.ref b) v u Q I rx ry ⟨a, b, xs, ys, rfl, rfl, ha, hb, hx, hz, ?_⟩
    exact ⟨fun e => q1 hx e, fun e => q2 hx e⟩
end L2
namespace L2
open PySem PySem.Spec PyProof.Rows
inductive Yy : St → St → Prop where
  | nil : Yy [] []
  | non {a : Option V} {s t : St} : Yy s t → Yy (none :: s) (a :: t)
  | same {a : Option V} {s t : St} : Yy s t → Yy (a :: s) (a :: t)
theorem Yy.refl : ∀ s : St, Yy s s
  | [] => .nil
  | _ :: r => .same (Yy.refl r)
theorem Yy.length {s t : St} (h : Yy s t) : s.length = t.length := by
  induction h with
  | nil => rfl
  | non _ ih => simp [ih]
  | same _ ih => simp [ih]
theorem Yy.get {s t : St} (h : Yy s t) : ∀ (i : Nat) (v : V), s[i]? = some (some v) → t[i]? = some (some v) := by
  induction h with
  | nil => intro i v e; exact e
  | non _ ih =>
    intro i v e
    cases i with
    | zero => simp at e
    | succ i => simpa using ih i v (by simpa using e)
  | same _ ih =>
    intro i v e
    cases i with
    | zero => simpa using e
    | succ i => simpa using ih i v (by simpa using e)
theorem Yy.set {n : Nat} {v : V} : ∀ {s t : St}, Yy s t → s[n]? = some none → Yy s (t.set n (some v))
  | _, _, .nil, _ => .nil
  | _, _, .non (a := a) h, e => by
    cases n with
    | zero => exact .non h
    | succ n => exact .non (Yy.set h (by simpa using e))
  | _, _, .same (a := a) h, e => by
    cases n with
    | zero =>
      have e' : a = none := by simpa using e
      subst e'
      exact .non h
    | succ n => exact .same (Yy.set h (by simpa using e))
theorem Inv.sub {X : Cx} {pins : List (Addr × Obj)} {σ σ' : St} {H : Hp} {s : Shared} (I : Inv X pins σ H s) (h : Yy σ' σ) : Inv X pins σ' H s := I.weak h.length h.get
noncomputable def PIf (X : Cx) (ifs : List Expr) (t : TT) : Prop :=
  ∀ (pins : List (Addr × Obj)) (s : Shared) (σ : St) (H : Hp) (Q : Bool → Hp → Prop), Inv X pins σ H s → t σ H Q →
    wpAny (model X.prog X.w) X.A (forIn ifs true fun c r => if r = true then do let ok ← isTrue c X.env (eval c X.env); pure (ForInStep.yield ok) else pure (ForInStep.yield r)) (TP X pins σ Q) X.xe s
noncomputable def tYes : TT := fun _ H Q => Q true H
theorem zb3 {X : Cx} : PIf X [] tYes := by
  intro pins s σ H Q I h
  rw [List.forIn_nil]
  exact wpAny_pure ⟨H, I, h⟩
theorem zem {X : Cx} {c : Expr} {t : TT} (hc : PT X c t) : PIf X [c] t := by
  intro pins s σ H Q I h
  rw [List.forIn_cons]
  refine wpAny_bind ?_
  rw [if_pos rfl]
  refine wpAny_bind (thn (hc pins s σ H Q I h) fun b s1 q => wpAny_pure ?_)
  show wpAny _ _ (forIn [] b _) _ _ _
  rw [List.forIn_nil]
  exact wpAny_pure q
section
variable {prog : Program} {w : World} {A : Around} {R : Result → Shared → Prop} {s : Shared}
theorem vw {elt target iter : Expr} {ifs : List Expr} {scope : Scope} {pos : Pos} {it acc : Value} {env : Env} (I : Nat → Shared → Prop)
    (turn : ∀ n s, I n s → wpAny (model prog w) A (pyNext it) (fun r s₁ => match r with
      | none => R (.ok .next) s₁
      | some v => wpAny (model prog w) A (letOwnedTupleGo target it v) (fun _ s₁' => wpAny (model prog w) A (assign target env v) (fun _ s₂ =>
          wpAny (model prog w) A (forIn ifs true fun c r => if r = true then do let ok ← isTrue c env (eval c env); pure (ForInStep.yield ok) else pure (ForInStep.yield r)) (fun ok s₃ =>
            if ok = true then wpAny (model prog w) A (eval elt env) (fun x s₄ =>
              wpAny (model prog w) A (call (.builtin "list.append") [acc, x]) (fun _ s₅ => ∃ m, m < n ∧ I m s₅) (fun _ _ => False) s₄) (fun _ _ => False) s₃
            else ∃ m, m < n ∧ I m s₃) (fun _ _ => False) s₂) (fun _ _ => False) s₁') (fun _ _ => False) s₁) (fun _ _ => False) s)
    (n : Nat) (h : I n s) :
    codeAny (model prog w) A (.compLoop (.ListComp elt [⟨target, iter, ifs, 0⟩] scope pos) 0 it acc env) R s := by
  refine codeAny_loop rfl I (fun n s hI => ?_) n h
  show wpAny _ A ((compTurn (.ListComp elt [⟨target, iter, ifs, 0⟩] scope pos) 0 it acc env).onRaise (fun x => do noteFrame x env; theTreesLotGoes x)) _ _ s
  refine wpAny_noted ?_
  rw [compTurn_list]
  refine wpAny_bind (wpAny_standAt (wpAny_bind (wpAny_mono (turn n s hI) (fun r s₁ h₁ => ?_) fun _ _ h' => h'.elim)))
  cases r with
  | none => exact wpAny_pure h₁
  | some v =>
    refine wpAny_bind (wpAny_mono h₁ (fun _ s₁' h₁' => ?_) fun _ _ h' => h'.elim)
    refine wpAny_bind (wpAny_mono h₁' (fun _ s₂ h₂ => wpAny_bind (wpAny_mono h₂ (fun ok s₃ h₃ => ?_) fun _ _ h' => h'.elim)) fun _ _ h' => h'.elim)
    cases ok with
    | false => exact wpAny_pure ⟨rfl, h₃⟩
    | true =>
      exact wpAny_bind (wpAny_bind (wpAny_mono h₃ (fun x s₄ h₄ => wpAny_bind (wpAny_mono h₄ (fun _ s₅ h₅ => wpAny_pure (wpAny_pure ⟨rfl, h₅⟩)) fun _ _ h' => h'.elim)) fun _ _ h' => h'.elim))
end
noncomputable def tLC (wi : TI) (n : Nat) (g : TG) (tt : TT) (te : TE) : TE := fun σ H Q => wi σ H fun J H1 => ∀ D, H1 D = none → ∃ W : Nat → Nat → List V → Hp → Prop, (∃ m, W 0 m [] (upd H1 D (.lst []))) ∧
  ∀ i m ys H2, W i m ys H2 → (J.stop i H2 ∧ Q (.ref D) H2) ∨ (J.go i H2 ∧ ys.length < sizeLine ∧ ∀ x H3, J.yld i H2 x H3 → g x (List.replicate n none ++ σ) H3 fun σ2 H4 => tt σ2 H4 fun b H5 =>
    if b = true then te σ2 H5 fun y H6 => H6 D = some (.lst ys) ∧ ∃ m', m' < m ∧ W (i + 1) m' (ys ++ [y]) (upd H6 D (.lst (ys ++ [y]))) else ∃ m', m' < m ∧ W (i + 1) m' ys H5)
theorem vF {α : Type} : ∀ {l : List (Str × α)} {y : Str}, y ∈ l.map Prod.fst → ∃ c, l.lookup y = some c
  | [], _, h => by simp at h
  | (k, v) :: r, y, h => by
    by_cases e : y = k
    · exact ⟨v, by simp [List.lookup, e]⟩
    · obtain ⟨c, hc⟩ := vF (l := r) (y := y) (by simpa [e] using h)
      have hb : (y == k) = false := beq_eq_false_iff_ne.mpr e
      exact ⟨c, by simp only [List.lookup, hb]; exact hc⟩
theorem Yk {α : Type} {P : α → Prop} : ∀ p ∈ ([] : List α), P p := fun _ h => nomatch h
theorem all_cons {α : Type} {P : α → Prop} {a : α} {l : List α} (h : P a) (t : ∀ p ∈ l, P p) : ∀ p ∈ a :: l, P p := fun p hp => by
  rcases List.mem_cons.mp hp with e | hp
  · rw [e]; exact h
  · exact t p hp
theorem gs1 (σ : St) (v : V) (H : Hp) (Q : St → Hp → Prop) (h : YT 0 v (List.replicate 1 none ++ σ) H Q) : YT 0 v (List.replicate 1 none ++ σ) H (fun σ2 H2 => Yy (List.replicate 1 none ++ σ) σ2 ∧ Q σ2 H2) := ⟨.set (.refl _) rfl, h⟩
theorem gs2 {K : PySem.W.Frag} (σ : St) (v : V) (H : Hp) (Q : St → Hp → Prop) (h : zg6 K 2 (zbM (YT 0) (zbM (YT 1) zhc)) v (List.replicate 2 none ++ σ) H Q) :
    zg6 K 2 (zbM (YT 0) (zbM (YT 1) zhc)) v (List.replicate 2 none ++ σ) H (fun σ2 H2 => Yy (List.replicate 2 none ++ σ) σ2 ∧ Q σ2 H2) := by
  obtain ⟨a, xs, e, hq, hl, x, r, e1, y, r2, e2, e3, q⟩ := h
  exact ⟨a, xs, e, hq, hl, x, r, e1, y, r2, e2, e3, .set (.set (.refl _) rfl) rfl, q⟩
end L2
namespace L2
open PySem PySem.Spec PyProof.Rows
noncomputable def Wl (X : Cx) (L M : List Str) (scope : Scope) (cl : List (Str × Addr)) (s₀ : Shared) (H₀ : Hp) (ex : List Addr) (pn : List (Addr × Obj)) : Cx :=
  { X with N := L ++ M, s₀ := s₀, H₀ := H₀, env := compEnvC scope cl s₀.heap.objs.size X.env, outer := X.stack, stack := X.stack, ex := ex, fn := fun _ => false, pn := pn, xe := fun _ _ => False }
structure xE (X : Cx) (L M : List Str) (scope : Scope) (cl : List (Str × Addr)) : Prop where
  clos : closureFor scope X.env = pure cl
  cell : ∀ y ∈ scope.names, y.2 ≠ .cell
  kind : scope.kind = .function
  names : ∀ y ∈ scope.names, y.2 = .local → scope.names.lookup y.1 = some .local
  sub : ∀ y c, cl.lookup y = some c → X.env.cells.lookup y = some c
  has : ∀ y, ((relabel scope X.env).names.lookup y = some .cell ∨ (relabel scope X.env).names.lookup y = some .free) → ∃ c, cl.lookup y = some c
  mlen : M.length = X.N.length
  msk : ∀ (i : Nat) y, M[i]? = some y → Vis (relabel scope X.env) y → X.N[i]? = some y
  vis : ∀ (i : Nat) y, M[i]? = some y → Vis (relabel scope X.env) y → ((relabel scope X.env).names.lookup y = some .cell ∨ (relabel scope X.env).names.lookup y = some .free)
  out : ∀ (i : Nat) y, M[i]? = some y → Vis (relabel scope X.env) y → Vis X.env.scope y ∧ X.env.kindOf y ≠ some .local
theorem Inv.letGo {X : Cx} {pins : List (Addr × Obj)} {σ : St} {H : Hp} {s : Shared} {C : Addr} {h' : Heap} (I : Inv X pins σ H s) (f : VB X pins H C) (sb : Heap.SameBut C s.heap h') : Inv X pins σ H { s with heap := h' } := by
  obtain ⟨f0, f1, f2, f3, f4, f5⟩ := f
  have ne : ∀ b, b ∉ [C] → b ≠ C := fun b hb z => hb (by rw [z]; exact List.mem_singleton.mpr rfl)
  refine I.call' (s' := { s with heap := h' }) (ch := [C]) rfl ⟨fun b o e _ _ hx => (sb.2 b (ne b hx)).trans e, fun b o e _ _ hx => ⟨o.slots, (sb.2 b (ne b hx)).trans e⟩, fun _ _ _ n _ => n, fun b o e hx => ⟨o, (sb.2 b (ne b hx)).trans e⟩, fun _ _ q => q, fun _ _ _ q => q, fun _ ps q => ⟨#[], by rw [q]; simp⟩⟩ ?_ I.bare fun b hb => ?_
  · intro b ob e
    refine (I.hok b ob e).stay (fun c v hc q => (sb.2 c ?_).trans q) (fun _ q => q) fun _ _ q => q
    rintro rfl
    rcases hc with z | z
    · rw [← z, f0] at e; cases e
    · rw [f0] at z; cases z
  · rw [List.mem_singleton.mp hb]
    exact ⟨f3, f1, f4, f5⟩
theorem zci {use : Option (Value → Sem Unit)} {Qf : Value → Shared → Prop} {X : Cx} {elt tg iter : Expr} {ifs : List Expr} {L M : List Str} {scope : Scope} {cl : List (Str × Addr)} {pos : Pos} {wi : TI} {g : TG} {tt : TT} {te : TE}
    (hc : X.calm = true) (S : xE X L M scope cl) (hi : PI X tg iter wi)
    (hgS : ∀ (σ : St) (v : V) (H : Hp) (Q : St → Hp → Prop), g v (List.replicate L.length none ++ σ) H Q → g v (List.replicate L.length none ++ σ) H (fun σ2 H2 => Yy (List.replicate L.length none ++ σ) σ2 ∧ Q σ2 H2))
    (hg : ∀ s₀ H₀ ex pn, PG (Wl X L M scope cl s₀ H₀ ex pn) tg g) (ht : ∀ s₀ H₀ ex pn, PIf (Wl X L M scope cl s₀ H₀ ex pn) ifs tt) (he : ∀ s₀ H₀ ex pn, PE (Wl X L M scope cl s₀ H₀ ex pn) elt te)
    (hs : ∀ x, foldedSetIterable iter X.env x = pure x := by intro _; rfl) :
    ∀ (pos' : Pos) (pins : List (Addr × Obj)) (s : Shared) (σ : St) (H : Hp) (Q : VK), Inv X pins σ H s → tLC wi L.length g tt te σ H Q →
      (∀ (D C : Addr) (H' : Hp) (s' : Shared), Inv X pins σ H' s' → (∃ m, s'.heap.Ns C m) → VB X pins H' C → Q (.ref D) H' → compPost (model X.prog X.w) X.A X.xe use Qf (.ref D) C (.ok .next) s') →
      wpAny (model X.prog X.w) X.A (comprehension (.ListComp elt [⟨tg, iter, ifs, 0⟩] scope pos) scope X.env pos' (newList []) false (eval iter X.env) use) Qf X.xe s := by
  intro pos' pins s σ H Q I h fin
  refine wpAny_comprehension_free (use := use) rfl hs S.clos S.kind S.names (thn (hi pins s σ H _ I h) fun v s1 h1 => thn h1 fun itv s2 h2 => ?_)
  obtain ⟨it, fp, tn, J, H2, e, I2, T, st2, f2, q⟩ := h2
  subst e
  have hD : H2 s2.heap.objs.size = none := I2.hok.fresh (Nat.le_refl _)
  obtain ⟨W, ⟨m0, w0⟩, turn⟩ := q _ hD
  refine wpAny_newObj_type (wpAny_newFunctionEnv S.cell (by intro y hy; simp at hy) (fun h₁ hns₁ hsb₁ => ?_) S.kind)
  have I3 : Inv X pins σ (upd H2 s2.heap.objs.size (.lst [])) { s2 with heap := s2.heap.push { cls := .type "list", data := .seq ([] : List Value).toArray } } := by
    refine I2.laid (t' := s2.toks) (fun b u e => Heap.get?_push_of_some _ e) (Nat.le_refl _) ?_
    exact ⟨Nat.zero_le _, [], 0, .nil, Heap.get?_push_size _ rfl⟩
  generalize hs3 : ({ s2 with heap := s2.heap.push { cls := .type "list", data := .seq ([] : List Value).toArray } } : Shared) = s3 at I3 hns₁ hsb₁ ⊢
  have hobj : ∀ b ∈ fp, b < s2.heap.objs.size := fun b hb => by
    obtain ⟨o, ho, _⟩ := T.obj _ _ st2 b hb
    exact Heap.lt_size ho
  have hz3 : s3.heap.objs.size = s2.heap.objs.size + 1 := by rw [← hs3]; exact Heap.size_push ..
  have k23 : ∀ b o, s2.heap.get? b = some o → s3.heap.get? b = some o := fun b o e => by rw [← hs3]; exact Heap.get?_push_of_some _ e
  have k34 : ∀ b o, s3.heap.get? b = some o → h₁.get? b = some o := fun b o e => (hsb₁.2 b (Nat.ne_of_lt (Heap.lt_size e))).trans (Heap.get?_push_of_some _ e)
  generalize hH3 : upd H2 s2.heap.objs.size (.lst []) = H3 at I3 w0
  have hfp3 : ∀ b ∈ fp, H3 b = none := fun b hb => by
    rw [← hH3, zz (Nat.ne_of_lt (hobj b hb))]
    exact (f2 b hb).1
  have nfs : ∀ b ∈ fp, b ∉ frs X.stack := fun b hb z => by
    obtain ⟨_, n1, n2, _⟩ := f2 b hb
    rcases List.mem_cons.mp (I3.stkSub b z) with e | e
    · exact n1 e
    · exact n2 e
  let Y : Cx := Wl X L M scope cl s3 H3 fp (X.pn ++ pins)
  have OkY : Y.Ok := by
    refine ⟨I.ok.mod, S.kind, I.ok.glob, I.ok.blt, Nat.le_refl _, fun x y c h1 h2 => I.ok.inj x y c (S.sub x c h1) (S.sub y c h2), fun x hx => S.has x hx, (fun x c h _ => absurd h Bool.false_ne_true), I.ok.hd, I.ok.frames, .inl rfl, fun b hb => ⟨?_, fun x c e z => ?_⟩,
      fun b o e => I3.bs b o e, Nat.le_trans I.ok.bsz I3.sz, fun b o e hb => ?_, nfs, I3.stack, I3.stkFree⟩
    · show b ≠ s3.heap.objs.size
      exact Nat.ne_of_lt (Nat.lt_of_lt_of_le (hobj b hb) (by rw [hz3]; exact Nat.le_succ _))
    · exact (f2 b hb).2.2.2.2.1 x c (S.sub x c e) z
    · rcases (f2 b hb).2.2.2.1 with z | z
      · exact I.ok.noex b o e z
      · have h1 := Heap.lt_size e
        have h2 := I.ok.bsz
        exact absurd (Nat.lt_of_lt_of_le h1 (Nat.le_trans h2 z)) (Nat.lt_irrefl _)
  have I4 : Inv Y [] (List.replicate L.length none ++ σ) H3 { s3 with heap := h₁, toks := s3.toks + ([] : List (Str × Value)).length } := by
    refine ⟨OkY, rfl, I3.bare, Un.kept k34, ⟨_, hns₁, fun i y v e1 e2 e3 => ?_⟩, fun x c e => ?_, I3.hok.fresh (Nat.le_refl _), fun x c e => I3.freeC x c (S.sub x c e), fun p hp => ?_, I3.hok.kept k34, ?_⟩
    · have hi : ¬ i < L.length := fun hlt => by
        rw [List.getElem?_append_left (by simpa using hlt), List.getElem?_replicate] at e2
        split at e2 <;> cases e2
      have e0' : M[i - L.length]? = some y := by
        have e1 : (L ++ M)[i]? = some y := e1
        rw [List.getElem?_append_right (by omega)] at e1
        exact e1
      have e2' : σ[i - L.length]? = some (some v) := by rw [List.getElem?_append_right (by simpa using Nat.le_of_not_lt hi)] at e2; simpa using e2
      have e1' := S.msk _ y e0' e3
      obtain ⟨ov, ok⟩ := S.out _ y e0' e3
      obtain ⟨m, hn, hl⟩ := I3.loc
      obtain ⟨u, ru, lk⟩ := hl _ y v e1' e2' ov
      refine ⟨u, ru, ?_⟩
      rcases lk with ⟨hk, _⟩ | ⟨_, c, hc', hcell⟩
      · exact absurd hk ok
      · have kn := S.vis _ y e0' e3
        obtain ⟨c', hc2⟩ := S.has y kn
        have := S.sub y c' hc2
        rw [hc'] at this
        cases this
        refine .inr ⟨kn, c, hc2, ?_⟩
        obtain ⟨o, ho, hd⟩ := hcell
        exact ⟨o, k34 _ _ ho, hd⟩
    · obtain ⟨v, o, ho, hd⟩ := I3.cell x c (S.sub x c e)
      exact ⟨v, o, k34 _ _ ho, hd⟩
    · have hp' : p ∈ X.pn ++ pins := List.append_nil (X.pn ++ pins) ▸ hp
      obtain ⟨a1, a2, a3, a4, a5⟩ := I3.pin p hp'
      refine ⟨k34 _ _ a1, a2, Nat.ne_of_lt (Heap.lt_size a1), fun z => ?_, a5⟩
      rcases List.mem_cons.mp (I3.stkSub p.1 z) with e | e
      · exact a3 e
      · exact a4 e
    · show (List.replicate L.length none ++ σ).length = (L ++ M).length
      rw [List.length_append, List.length_append, List.length_replicate, I.len, S.mlen]
  have fpY : ∀ {H' : Hp}, (∀ b ∈ fp, H' b = none) → ∀ b ∈ fp, VB Y [] H' b := fun {H'} hn b hb => by
    refine ⟨hn b hb, (OkY.exf b hb).1, nfs b hb, .inl hb, (OkY.exf b hb).2, fun p hp => ?_⟩
    have hp' : p ∈ X.pn ++ pins := List.append_nil (X.pn ++ pins) ▸ hp
    exact (f2 b hb).2.2.2.2.2 p hp'
  have st4 : tn 0 h₁ := T.keep _ _ _ st2 fun b hb o e => k34 b o (k23 b o e)
  -- behind the loop
  have back : ∀ (H' : Hp) (s' : Shared), Inv Y [] (List.replicate L.length none ++ σ) H' s' → Q (.ref s2.heap.objs.size) H' → compPost (model X.prog X.w) X.A X.xe use Qf (.ref s2.heap.objs.size) s3.heap.objs.size (.ok .next) s' := fun H' s' J' q' => by
    obtain ⟨m, hn, _⟩ := J'.loc
    refine fin _ _ H' s' (I3.call' (ch := fp) J'.os J'.base J'.hok J'.bare fun b hb => ?_) ⟨m, hn⟩ (I3.fpOk (Nat.le_refl _) J'.free) q'
    obtain ⟨_, n1, _, n3, n4, n5⟩ := f2 b hb
    exact ⟨n3, n1, n4, n5⟩
  have loop : codeAny (model X.prog X.w) X.A (.compLoop (.ListComp elt [⟨tg, iter, ifs, 0⟩] scope pos) 0 (.ref it) (.ref s2.heap.objs.size) (compEnvC scope cl s3.heap.objs.size X.env))
      (compPost (model X.prog X.w) X.A X.xe use Qf (.ref s2.heap.objs.size) s3.heap.objs.size) { s3 with heap := h₁, toks := s3.toks + ([] : List (Str × Value)).length } := by
    refine vw (fun n s' => ∃ i ys H', Inv Y [] (List.replicate L.length none ++ σ) H' s' ∧ tn i s'.heap ∧ (∀ b ∈ fp, H' b = none) ∧ W i n ys H') ?_ m0 ⟨0, [], H3, I4, st4, hfp3, w0⟩
    rintro n s5 ⟨i, ys, H5, I5, st5, fr5, w5⟩
    rcases turn i n ys H5 w5 with ⟨stop, qn⟩ | ⟨go, hlen, step⟩
    · refine thn (T.done Y rfl rfl rfl hc i [] s5 _ H5 _ I5 (fpY fr5) st5 stop) fun r s6 hh9 => ?_
      obtain ⟨hr, I6⟩ := hh9
      subst hr
      exact back H5 s6 I6 qn
    · refine thn (T.item Y rfl rfl rfl hc i [] s5 _ H5 _ I5 (fpY fr5) st5 go) fun r s6 hh9 => ?_
      obtain ⟨u, hr, h6⟩ := hh9
      subst hr
      refine thn h6 fun _ s7 hh9 => ?_
      obtain ⟨x, H7, I7, r7, y7, st7, fr7⟩ := hh9
      have I7' := I7.pinned (fpY fr7) (T.obj _ _ st7)
      have g7 := hgS σ x H7 _ (step x H7 y7)
      refine thn (hg _ _ _ _ _ s7 _ H7 x u _ I7' r7 g7) fun _ s8 hh9 => ?_
      obtain ⟨σ8, H8, I8, sub8, q8⟩ := hh9
      have again : ∀ {σ9 : St} {H9 : Hp} {s9 : Shared} {zs : List V}, Inv Y ([] ++ Xh fp s7.heap) σ9 H9 s9 → Yy (List.replicate L.length none ++ σ) σ9 → (∃ m', m' < n ∧ W (i + 1) m' zs H9) →
          ∃ m, m < n ∧ ∃ i ys H', Inv Y [] (List.replicate L.length none ++ σ) H' s9 ∧ tn i s9.heap ∧ (∀ b ∈ fp, H' b = none) ∧ W i m ys H' := fun {σ9 H9 s9 zs} I9 sub9 w9 => by
        obtain ⟨m', hm, w9⟩ := w9
        refine ⟨m', hm, i + 1, zs, H9, (I9.sub sub9).unpinned, T.keep _ _ _ st7 fun b hb o e => (I9.pin (b, o) (List.mem_append_right _ (List.mem_append_right _ (wM hb e)))).1, fun b hb => ?_, w9⟩
        obtain ⟨o, e, d⟩ := T.obj _ _ st7 b hb
        exact (I9.pin (b, o) (List.mem_append_right _ (List.mem_append_right _ (wM hb e)))).2.1
      refine thn (ht _ _ _ _ _ s8 σ8 H8 _ I8 q8) fun b s9 hh9 => ?_
      obtain ⟨H9, I9, q9⟩ := hh9
      cases b with
      | false =>
        rw [if_neg Bool.false_ne_true] at q9
        rw [if_neg Bool.false_ne_true]
        exact again I9 sub8 q9
      | true =>
        rw [if_pos rfl] at q9
        rw [if_pos rfl]
        refine thn (he _ _ _ _ _ s9 σ8 H9 _ I9 q9) fun y s10 hh9 => ?_
        obtain ⟨yv, H10, I10, r10, hD10, w10⟩ := hh9
        obtain ⟨z10, its, k, rv, e10⟩ : ys.length ≤ sizeLine ∧ ∃ (its : List Value) (n : Nat), yg ys its ∧ s10.heap.get? s2.heap.objs.size = some { cls := .type "list", data := .seq its.toArray n } := I10.hok _ _ hD10
        have hl10 : s10.heap.PlainList s2.heap.objs.size its.toArray := ⟨k, e10⟩
        refine wpAny_list_append_plain (hsz := by rw [List.size_toArray, ← rv.length]; exact z10) hl10 fun h11 hl11 sb11 => ?_
        obtain ⟨k', e11⟩ := hl11
        have I11 : Inv Y ([] ++ Xh fp s7.heap) σ8 (upd H10 s2.heap.objs.size (.lst (ys ++ [yv]))) { s10 with heap := h11 } := by
          refine I10.write (x := s2.heap.objs.size) (e := s2.heap.objs.size) (t' := s10.toks) (by rw [hD10]; exact True.intro) (.inl rfl) (fun b u hb e => (sb11.2 b hb).trans e) ⟨_, e11⟩ ?_
          refine ⟨by rw [List.length_append]; show ys.length + 1 ≤ sizeLine; exact hlen, its ++ [y], k', rv.append (.cons r10 .nil), ?_⟩
          rw [e11]
          simp
        exact again I11 sub8 w10
  exact codeAny_compStart_list loop (T.self _ 0 _ _ _ st4 loop)
theorem zdk {X : Cx} {elt tg iter : Expr} {ifs : List Expr} {L M : List Str} {scope : Scope} {cl : List (Str × Addr)} {pos : Pos} {wi : TI} {g : TG} {tt : TT} {te : TE}
    (hc : X.calm = true) (S : xE X L M scope cl) (hi : PI X tg iter wi)
    (hgS : ∀ (σ : St) (v : V) (H : Hp) (Q : St → Hp → Prop), g v (List.replicate L.length none ++ σ) H Q → g v (List.replicate L.length none ++ σ) H (fun σ2 H2 => Yy (List.replicate L.length none ++ σ) σ2 ∧ Q σ2 H2))
    (hg : ∀ s₀ H₀ ex pn, PG (Wl X L M scope cl s₀ H₀ ex pn) tg g) (ht : ∀ s₀ H₀ ex pn, PIf (Wl X L M scope cl s₀ H₀ ex pn) ifs tt) (he : ∀ s₀ H₀ ex pn, PE (Wl X L M scope cl s₀ H₀ ex pn) elt te)
    (hs : ∀ x, foldedSetIterable iter X.env x = pure x := by intro _; rfl) :
    PE X (.ListComp elt [⟨tg, iter, ifs, 0⟩] scope pos) (tLC wi L.length g tt te) := by
  intro pins s σ H Q I h
  rw [eval_ListComp]
  refine zci hc S hi hgS hg ht he hs _ pins s σ H Q I h fun D C H' s' I' ⟨m, hn⟩ f q => ⟨m, hn, fun h' sb => ⟨.ref D, _, I'.letGo f sb, rfl, q⟩⟩
theorem ze3 {i : Nat} {x : Str} {px spos : Pos} {X : Cx} {elt tg iter : Expr} {ifs : List Expr} {L M : List Str} {scope : Scope} {cl : List (Str × Addr)} {pos : Pos} {wi : TI} {g : TG} {tt : TT} {te : TE}
    (hN : X.N.Nodup) (hi' : X.N[i]? = some x) (hx : Loc X.env.scope x) (hc : X.calm = true) (S : xE X L M scope cl) (hi : PI X tg iter wi)
    (hgS : ∀ (σ : St) (v : V) (H : Hp) (Q : St → Hp → Prop), g v (List.replicate L.length none ++ σ) H Q → g v (List.replicate L.length none ++ σ) H (fun σ2 H2 => Yy (List.replicate L.length none ++ σ) σ2 ∧ Q σ2 H2))
    (hg : ∀ s₀ H₀ ex pn, PG (Wl X L M scope cl s₀ H₀ ex pn) tg g) (ht : ∀ s₀ H₀ ex pn, PIf (Wl X L M scope cl s₀ H₀ ex pn) ifs tt) (he : ∀ s₀ H₀ ex pn, PE (Wl X L M scope cl s₀ H₀ ex pn) elt te)
    (hs : ∀ x, foldedSetIterable iter X.env x = pure x := by intro _; rfl)
    (hsw : swapsWith (.ListComp elt [⟨tg, iter, ifs, 0⟩] scope pos) (some (.Name x px)) spos.line X.env = pure true := by rfl)
    (hf : X.fn x = true ∨ X.env.scope.names.lookup x = some .local := by first | exact .inl rfl | exact .inr rfl | assumption) :
    PS X (.Assign [.Name x px] (.ListComp elt [⟨tg, iter, ifs, 0⟩] scope pos) spos) (zgA (tLC wi L.length g tt te) (YT i)) := by
  intro pins s σ H D I h
  rw [exec_Assign_Name_used _ _ _ _ hsw]
  refine wpAny_bind (wpAny_standAt (wpAny_bind ?_))
  show wpAny _ X.A (do let _ ← comprehension (.ListComp elt [⟨tg, iter, ifs, 0⟩] scope pos) scope X.env _ (newList []) false (eval iter X.env) (some (assign (.Name x px) X.env))) _ _ s
  refine wpAny_bind (thn (zci (use := some (assign (.Name x px) X.env)) (Qf := fun _ s' => SP X pins D .next s') hc S hi hgS hg ht he hs _ pins s σ H _ I h fun D' C H' s' I' ⟨m, hn⟩ f q => ?_) fun _ s' hq => wpAny_pure (wpAny_pure hq))
  have hob : ∀ b ∈ [C], ∃ o, s'.heap.get? b = some o ∧ ∀ v, o.data ≠ .cell v := fun b hb => by
    rw [List.mem_singleton.mp hb]
    obtain ⟨o, es, ep, e, d, _⟩ := hn
    exact ⟨o, e, fun v z => by rw [z] at d; cases d⟩
  have I2 := I'.pinned (fp := [C]) (fun b hb => by rw [List.mem_singleton.mp hb]; exact f) hob
  refine thn (zT (pos := px) hN hi' hx hf _ s' σ H' (.ref D') (.ref D') _ I2 rfl q) fun _ s2 hh9 => ?_
  obtain ⟨σ2, H2, I3, q3⟩ := hh9
  obtain ⟨o, es, ep, e, d⟩ := hn
  have pn := I3.pin (C, o) (List.mem_append_right _ (List.mem_append_right _ (wM (List.mem_singleton.mpr rfl) e)))
  exact ⟨m, ⟨o, es, ep, pn.1, d⟩, fun h' sb => ⟨σ2, H2, I3.unpinned.letGo ⟨pn.2.1, f.2⟩ sb, q3⟩⟩
noncomputable def Z5 (names rn dn : List (Str × NameKind)) (N M cn : List Str) : Bool :=
  names.all (fun y => decide (y.2 ≠ .cell)) && names.all (fun y => decide (y.2 = .local → names.lookup y.1 = some .local)) &&
  rn.all (fun y => decide ((y.2 = .cell ∨ y.2 = .free) → y.1 ∈ cn)) &&
  (M.length == N.length) && (M.zip N).all (fun p => decide ((rn.lookup p.1 = some .local ∨ rn.lookup p.1 = some .cell ∨ rn.lookup p.1 = some .free) → p.1 = p.2)) &&
  M.all (fun y => decide ((rn.lookup y = some .local ∨ rn.lookup y = some .cell ∨ rn.lookup y = some .free) →
    (rn.lookup y = some .cell ∨ rn.lookup y = some .free) ∧ (dn.lookup y = some .local ∨ dn.lookup y = some .cell ∨ dn.lookup y = some .free) ∧ dn.lookup y ≠ some .local))
theorem Z6 {X : Cx} {L N M cn : List Str} {scope : Scope} {cl : List (Str × Addr)} {rn dn : List (Str × NameKind)} (hr : (relabel scope X.env).names = rn) (hd : X.env.scope.names = dn) (hN : X.N = N)
    (clos : closureFor scope X.env = pure cl) (kind : scope.kind = .function) (hc : cl.map Prod.fst = cn) (good : Z5 scope.names rn dn N M cn = true) (sub : ∀ p ∈ cl, X.env.cells.lookup p.1 = some p.2) : xE X L M scope cl := by
  unfold Z5 at good
  simp only [Bool.and_eq_true, List.all_eq_true, decide_eq_true_eq] at good
  obtain ⟨⟨⟨⟨⟨g1, g2⟩, g3⟩, g5⟩, g6⟩, g4⟩ := good
  have g5 : M.length = N.length := by simpa using g5
  refine ⟨clos, g1, kind, g2, fun y c h => sub (y, c) (PySem.mem_of_lookup h), fun y h => ?_, by rw [hN]; exact g5, fun i y e v => ?_, fun i y e v => ?_, fun i y e v => ?_⟩
  · rw [hr] at h
    have hy : y ∈ cn := by
      rcases h with h | h
      · exact g3 _ (PySem.mem_of_lookup h) (.inl rfl)
      · exact g3 _ (PySem.mem_of_lookup h) (.inr rfl)
    exact vF (by rw [hc]; exact hy)
  · unfold Vis at v
    rw [hr] at v
    have hi := (List.getElem?_eq_some_iff.mp e).1
    have hj : i < N.length := by rw [← g5]; exact hi
    have hz : (M.zip N)[i]? = some (y, N[i]) := by
      rw [List.getElem?_zip_eq_some]
      exact ⟨e, List.getElem?_eq_getElem hj⟩
    have := g6 _ (List.mem_of_getElem? hz) v
    rw [hN, List.getElem?_eq_getElem hj]
    exact congrArg some this.symm
  · unfold Vis at v
    rw [hr] at v ⊢
    exact (g4 y (List.mem_of_getElem? e) v).1
  · unfold Vis at v
    rw [hr] at v
    obtain ⟨_, k1, k2⟩ := g4 y (List.mem_of_getElem? e) v
    refine ⟨?_, ?_⟩
    · unfold Vis; rw [hd]; exact k1
    · show X.env.scope.names.lookup y ≠ _; rw [hd]; exact k2
end L2
namespace PySem
open Sem (wp)
open AutoSeq1 (wpAny_loadPart')
section
variable {prog : Program} {w : World} {A : Around} {E : Value → Shared → Prop} {s : Shared}
theorem wZ {it l : Addr} {i : Nat} {items} {x : Value} {Q : Value → Shared → Prop} (hit : s.heap.IsTupleIter it l i)
    (hl : s.heap.IsTuple l items) (hx : items[i]? = some x)
    (hQ : ∀ h', h'.IsTupleIter it l (i + 1) → Heap.SameBut it s.heap h' → Q x { s with heap := h' }) :
    wpAny (model prog w) A (Builtin.SmallTypes.nextOf (.ref it)) Q E s := by
  obtain ⟨o, ho, hc, hd⟩ := id hit
  obtain ⟨ol, hol, _, nl, hdl⟩ := hl
  unfold Builtin.SmallTypes.nextOf
  refine wpAny_bind (wpAny_callSpecial?_slot (name := Str.ofString "__next__") hit.typeIs F.slot_tuple_iterator_next
    (wpAny_call_entry F.slot_tuple_iterator_next hit.typeIs F.entry_tuple_iterator_next ?_ (F.args_tuple_iterator_next_1 _)))
  show wpAny _ _ (field (.ref it) 0 >>= _) _ _ s
  refine wpAny_bind (wpAny_field ho hd (x := .ref l) rfl ?_)
  show wpAny _ _ (if (Value.ref l == Value.none) = true then _ else _) _ _ s
  rw [if_neg (show ¬ ((Value.ref l == Value.none) = true) from Bool.false_ne_true)]
  show wpAny _ _ (field (.ref it) 1 >>= _) _ _ s
  refine wpAny_bind (wpAny_field ho hd (x := .int i 0) rfl ?_)
  show wpAny _ _ (seqItems? (.ref l) >>= _) _ _ s
  refine wpAny_bind (wpAny_seqItems hol hdl ?_)
  simp only [Int.toNat_natCast, hx]
  refine wpAny_bind (wpAny_setField ho hd (by simp) (wpAny_pure ⟨x, rfl, wpAny_pure (hQ _ ?_ (Heap.SameBut.update ..))⟩))
  exact ⟨_, Heap.get?_update_self _ ho (Obj.isFreed_of_fields (Obj.data_mapFields hd _)), (Obj.cls_mapFields ..).trans hc, by
    rw [Obj.data_mapFields hd]; simp [rawInt]⟩
theorem x4 {it l : Addr} {i : Nat} {items} {Q : Value → Shared → Prop} (hh : A.handled = none)
    (hit : s.heap.IsTupleIter it l i) (hl : s.heap.IsTuple l items) (hx : items[i]? = none)
    (hE : ∀ h' e, Heap.ExtBut it s.heap h' → (∃ o, h'.get? e = some o ∧ o.cls = .type "StopIteration") → E (.ref e) { s with heap := h' }) :
    wpAny (model prog w) A (Builtin.SmallTypes.nextOf (.ref it)) Q E s := by
  obtain ⟨o, ho, hc, hd⟩ := id hit
  obtain ⟨ol, hol, _, nl, hdl⟩ := hl
  unfold Builtin.SmallTypes.nextOf
  refine wpAny_bind (wpAny_callSpecial?_slot (name := Str.ofString "__next__") hit.typeIs F.slot_tuple_iterator_next
    (wpAny_call_entry F.slot_tuple_iterator_next hit.typeIs F.entry_tuple_iterator_next ?_ (F.args_tuple_iterator_next_1 _)))
  show wpAny _ _ (field (.ref it) 0 >>= _) _ _ s
  refine wpAny_bind (wpAny_field ho hd (x := .ref l) rfl ?_)
  show wpAny _ _ (if (Value.ref l == Value.none) = true then _ else _) _ _ s
  rw [if_neg (show ¬ ((Value.ref l == Value.none) = true) from Bool.false_ne_true)]
  show wpAny _ _ (field (.ref it) 1 >>= _) _ _ s
  refine wpAny_bind (wpAny_field ho hd (x := .int i 0) rfl ?_)
  show wpAny _ _ (seqItems? (.ref l) >>= _) _ _ s
  refine wpAny_bind (wpAny_seqItems hol hdl ?_)
  simp only [Int.toNat_natCast, hx]
  refine wpAny_bind (wpAny_rule (wpAny_bind (wpAny_setField ho hd (by simp) ?_)))
  show wpAny _ _ (newExc (.type "StopIteration") [] >>= _) _ _ _
  refine wpAny_bind ?_
  simp only [newExc, newTuple]
  refine wpAny_bind (wpAny_newObj_type ?_ (by size_fits))
  refine wpAny_bind (m := firstArgMember _ _) (wpAny_of_eq (a := Value.none) (by first | rfl | (simp only [firstArgMember]; rfl)) ?_)
  refine wpAny_newObj_type ?_ (by size_fits)
  simp only [raiseNew]
  refine wpAny_bind (wpAny_handled ?_)
  first | rw [show A.in1.handled = none from hh] | rw [hh]
  refine wpAny_bind (wpAny_pure (wpAny_throw ?_))
  exact hE _ _ (((Heap.SameBut.update ..).extBut.push _).push _) ⟨_, Heap.get?_push_size _ rfl, rfl⟩
end
theorem vx {prog : Program} {w : World} {A : Around} {E : Value → Shared → Prop} {s : Shared} {e it l : Addr} {i : Nat} {items : Array Value} {old : Value} {Q : Option Value → Shared → Prop} (hh : A.handled = none)
    (he : IsEnum s.heap e it i old) (hit : s.heap.IsTupleIter it l i) (hl : s.heap.IsTuple l items) (hx : items[i]? = none)
    (hQ : ∀ h', Heap.ExtBut it s.heap h' → Q none { s with heap := h' }) : wpAny (model prog w) A (pyNext (.ref e)) Q E s := by
  have hT : s.TypeIs (.ref e) "enumerate" := ⟨_, he, rfl⟩
  unfold pyNext
  refine wpAny_bind (wpAny_attempt (wpAny_callSpecial?_slot (name := Str.ofString "__next__") hT F.slot_enumerate_next
    (wpAny_call_entry F.slot_enumerate_next hT F.entry_enumerate_next ?_ (F.args_enumerate_next_1 _))))
  show wpAny _ _ (field (.ref e) 2 >>= _) _ _ _
  refine wpAny_bind (wpAny_field he rfl (x := .ref it) rfl ?_)
  refine wpAny_bind (x4 hh hit hl hx fun h' x he' hx' => ?_)
  obtain ⟨o, ho, hc⟩ := hx'
  refine wpAny_bind (wpAny_isInstance (T := "StopIteration") (b := true) ⟨o, ho, hc⟩ isSubtype_stop ?_)
  exact wpAny_pure (hQ _ he')
theorem vn {prog : Program} {w : World} {A : Around} (hh : A.handled = none) (it l : Addr) (hne : l ≠ it) (items : Array Value) :
    Draws prog w A it [it, l] items.size (fun i v => items[i]? = some v) (fun i h => h.IsTupleIter it l i ∧ h.IsTuple l items) where
  live := fun _ _ st => let ⟨o, ho, _⟩ := st.1; ⟨o, ho⟩
  frame := fun _ _ _ st hk => by
    obtain ⟨⟨o, ho, r⟩, ⟨o2, ho2, r2⟩⟩ := st
    exact ⟨⟨o, hk it (by simp) o ho, r⟩, ⟨o2, hk l (by simp) o2 ho2, r2⟩⟩
  item := fun i s Q E hi st hQ => by
    refine wZ st.1 st.2 (x := items[i]) (by simp [hi]) fun h' hit' hs' => ?_
    exact hQ _ h' s.toks (by simp [hi]) ⟨hit', st.2.extBut hs'.extBut hne⟩ hs'
  done := fun s Q E st hE => x4 hh st.1 st.2 (by simp) hE
theorem Yg (l : Addr) (items : Array Value) (n : Nat) (dd : Option Addr) (sl : Array (Option Value)) :
    Meets (Builtin.«enumerate.__new__» ⟨[.type "enumerate", .ref l], []⟩) (fun _ R s => s.heap.get? l = some { cls := .type "tuple", dict := dd, data := .seq items n, slots := sl } ∧
      R (.ok (.ret (.ref (s.heap.push { cls := .type "tuple_iterator", data := .fields #[.ref l, .int 0 0] }).objs.size)))
        { s with heap := (s.heap.push { cls := .type "tuple_iterator", data := .fields #[.ref l, .int 0 0] }).push { cls := .type "enumerate", data := .fields #[.none, .bool false, .ref s.heap.objs.size, rawInt 0, .none, .none] } }) :=
  .of_wp fun prog w A R s h => by
    obtain ⟨hp, g, d, tk, os⟩ := s; obtain ⟨hl, h⟩ := h
    have hsub := sub_enumerate
    have hL : Heap.IsTuple (Shared.heap ⟨hp, g, d, tk, os⟩) l items := ⟨_, hl, rfl, n, rfl⟩
    wp_walk using wpAny_loadPart' hl
    refine wpAny_stack_any fun st => wpAny_pure ?_
    split
    · rename_i c _ _ _ _ _
      cases (c == Value.type "enumerate")
      · wp_walk using wpAny_loadPart' hl, wpAny_pyIter_tuple hL
        exact ⟨_, rfl, h⟩
      · wp_walk using wpAny_loadPart' hl, wpAny_pyIter_tuple hL
        exact ⟨_, rfl, h⟩
    · wp_walk using wpAny_loadPart' hl, wpAny_pyIter_tuple hL
      exact ⟨_, rfl, h⟩
section
variable {prog : Program} {w : World} {A : Around} {E : Value → Shared → Prop} {s : Shared}
theorem vy {l : Addr} {items : Array Value} {Q : Value → Shared → Prop}
    (hl : s.heap.IsTuple l items)
    (h : ∀ h', IsEnum h' (s.heap.objs.size + 1) s.heap.objs.size 0 .none → h'.IsTupleIter s.heap.objs.size l 0 → h'.objs.size = s.heap.objs.size + 2 →
      (∀ b o, s.heap.get? b = some o → h'.get? b = some o) → Q (.ref (s.heap.objs.size + 1)) { s with heap := h' }) :
    wpAny (model prog w) A (call (.type "enumerate") [.ref l]) Q E s := by
  obtain ⟨⟨cls, dd, data, sl⟩, ho, hc, n, hd⟩ := hl
  simp only at hc hd
  subst hc hd
  refine callType_new F.called_enumerate (by decide) (F.typeCall_enumerate_1 _) (F.newCall_enumerate_1 _) (fun obj => F.args_object_init_2 obj _) F.entry_enumerate_new
    (Yg l items n dd sl) ⟨ho, ?_⟩
  have hz : (s.heap.push { cls := .type "tuple_iterator", data := .fields #[.ref l, .int 0 0] }).objs.size = s.heap.objs.size + 1 := Heap.size_push ..
  show _ ∧ _
  rw [hz]
  have he : IsEnum ((s.heap.push { cls := .type "tuple_iterator", data := .fields #[.ref l, .int 0 0] }).push
      { cls := .type "enumerate", data := .fields #[.none, .bool false, .ref s.heap.objs.size, rawInt 0, .none, .none] }) (s.heap.objs.size + 1) s.heap.objs.size 0 .none := by
    have := Heap.get?_push_size (s.heap.push { cls := .type "tuple_iterator", data := .fields #[.ref l, .int 0 0] })
      (o := { cls := .type "enumerate", data := .fields #[.none, .bool false, .ref s.heap.objs.size, rawInt 0, .none, .none] }) rfl
    rw [hz] at this; exact this
  refine ⟨⟨_, he, rfl⟩, h _ he ⟨_, Heap.get?_push_of_some _ (Heap.get?_push_size _ rfl), rfl, rfl⟩ (by rw [Heap.size_push, hz]) fun b o x => Heap.get?_push_of_some _ (Heap.get?_push_of_some _ x)⟩
end
end PySem
namespace L2
open PySem PySem.Spec PyProof.Rows
section
variable {X : Cx} {pins : List (Addr × Obj)} {σ : St} {H : Hp} {s : Shared} {h' : Heap}
theorem Inv.grown {ch : List Addr} {T : Addr} {o : HO} {t' : Nat} (I : Inv X pins σ H s) (hch : ∀ b ∈ ch, VB X pins H b) (hT : s.heap.objs.size ≤ T) (k : ∀ b u, b ∉ ch → s.heap.get? b = some u → h'.get? b = some u)
    (new : wf X.prog X.w (upd H T o) h' T o) : Inv X pins σ (upd H T o) { s with heap := h', toks := t' } := by
  have hn : H T = none := I.hok.fresh hT
  have neT : ∀ b u, s.heap.get? b = some u → b ≠ T := fun b u e => Nat.ne_of_lt (Nat.lt_of_lt_of_le (Heap.lt_size e) hT)
  have nch : ∀ b u, H b = some u → b ∉ ch := fun b u e z => by rw [(hch b z).1] at e; cases e
  refine I.step (g' := s.gens) (d' := s.drawn) (ch := ch) (fun b hb => ?_) (fun b u _ _ hc e _ => k b u hc e) (fun b u _ _ hc e _ => ⟨u.slots, k b u hc e⟩) (fun b u _ e n => by rw [zz (neT b u e)]; exact n)
    (fun b u hc e => ⟨u, k b u hc e⟩) (fun b xs e => by rw [zz (zm e hn)]; exact e) (fun b u xs e => by rw [zz (zm e hn)]; exact e) (fun b ps e => ⟨#[], by rw [zz (zm e hn), e]; simp⟩) (fun m hm => ?_) (fun b u e => ?_) I.bare
  · obtain ⟨_, n1, _, n3, n4, n5⟩ := hch b hb
    exact ⟨n3, n1, n4, n5⟩
  · obtain ⟨ob, es, ep, ho, r⟩ := hm
    exact ⟨ob, es, ep, k _ ob (fun z => (hch _ z).2.1 rfl) ho, r⟩
  · by_cases hb : b = T
    · subst hb; rw [zo] at e; cases e; exact new
    · rw [zz hb] at e
      refine (I.hok b u e).stay (fun c v hc q => k c v ?_ q) (fun c q => by rw [zz (zm q hn)]; exact q) fun c xs q => by rw [zz (zm q hn)]; exact q
      rcases hc with z | z
      · rw [z]; exact nch b u e
      · exact nch c _ z
theorem Inv.turnedN {ch : List Addr} {t' : Nat} (I : Inv X pins σ H s) (hch : ∀ b ∈ ch, VB X pins H b) (k : ∀ b u, b ∉ ch → s.heap.get? b = some u → h'.get? b = some u) : Inv X pins σ H { s with heap := h', toks := t' } := by
  have nch : ∀ b u, H b = some u → b ∉ ch := fun b u e z => by rw [(hch b z).1] at e; cases e
  refine I.step (g' := s.gens) (d' := s.drawn) (ch := ch) (fun b hb => ?_) (fun b u _ _ hc e _ => k b u hc e) (fun b u _ _ hc e _ => ⟨u.slots, k b u hc e⟩) (fun b u _ e n => n)
    (fun b u hc e => ⟨u, k b u hc e⟩) (fun b xs e => e) (fun b u xs e => e) (fun b ps e => ⟨#[], by rw [e]; simp⟩) (fun m hm => ?_) (fun b u e => ?_) I.bare
  · obtain ⟨_, n1, _, n3, n4, n5⟩ := hch b hb
    exact ⟨n3, n1, n4, n5⟩
  · obtain ⟨ob, es, ep, ho, r⟩ := hm
    exact ⟨ob, es, ep, k _ ob (fun z => (hch _ z).2.1 rfl) ho, r⟩
  · refine (I.hok b u e).stay (fun c v hc q => k c v ?_ q) (fun c q => q) fun c xs q => q
    rcases hc with z | z
    · rw [z]; exact nch b u e
    · exact nch c _ z
end
noncomputable def Iel (K : PySem.W.Frag) (a : Addr) : It :=
  ⟨fun i H => ∃ xs x, SqL K H a xs ∧ xs[i]? = some x, fun i H v H' => ∃ T x, v = .ref T ∧ H T = none ∧ H' = upd H T (.tup [.int i, x]) ∧ ∀ xs, SqL K H a xs → xs[i]? = some x, fun i H => ∃ xs, SqL K H a xs ∧ xs.length ≤ i⟩
noncomputable def Iet (K : PySem.W.Frag) (a : Addr) : It :=
  ⟨fun i H => ∃ xs x, SqT K H a xs ∧ xs[i]? = some x, fun i H v H' => ∃ T x, v = .ref T ∧ H T = none ∧ H' = upd H T (.tup [.int i, x]) ∧ ∀ xs, SqT K H a xs → xs[i]? = some x, fun i H => ∃ xs, SqT K H a xs ∧ xs.length ≤ i⟩
theorem zaI {P : Program} {w : World} {K : PySem.W.Frag} {es : List Expr} {k : Nat} {tp : Pos} (a e it : Addr) (hne : e ≠ it) :
    zdy P w K (.Tuple es k tp) (Iel K a) [e, it] e (fun i h => (∃ old, IsEnum h e it i old) ∧ h.IsListIter it a i) where
  mem := by simp
  obj := fun i h st b hb => by
    obtain ⟨⟨old, he⟩, o, ho, _, hd⟩ := st
    rcases List.mem_cons.mp hb with rfl | hb
    · exact ⟨_, he, fun v z => by cases z⟩
    · rw [List.mem_singleton.mp hb]
      exact ⟨o, ho, fun v z => by rw [hd] at z; cases z⟩
  keep := fun i h h' st kk => by
    obtain ⟨⟨old, he⟩, hit⟩ := st
    exact ⟨⟨old, kk e (by simp) _ he⟩, hit.at fun o q => kk it (by simp) o q⟩
  item := by
    intro X hP hw hK hc i pins s σ H E I hf st hg
    subst hP hw hK
    obtain ⟨⟨old, he⟩, hit⟩ := st
    obtain ⟨xs, x, hq, hx⟩ := hg
    obtain ⟨its, rv, p, hz⟩ := I.list hq
    obtain ⟨u, hu, ru⟩ := rv.get hx
    refine wpAny_pyNext_enum_item he hit p.isList (x := u) (by simpa using hu) hne fun h1 ho1 hit1 hT1 hz1 hk1 => ?_
    refine ⟨_, rfl, wpAny_letOwnedTupleGo_enum ho1 fun h2 he2 hs2 => ?_⟩
    have hfr : H s.heap.objs.size = none := I.hok.fresh (Nat.le_refl _)
    have neE : s.heap.objs.size ≠ e := Nat.ne_of_gt (Heap.lt_size he)
    have hT2 : h2.get? s.heap.objs.size = some { cls := .type "tuple", data := .seq #[.int i s.toks, u] } := (hs2.2 _ neE).trans hT1
    refine ⟨.ref s.heap.objs.size, upd H s.heap.objs.size (.tup [.int i, x]), ?_, rfl, ⟨_, x, rfl, hfr, rfl, fun ys hy => by rw [I.list_inj hy hq]; exact hx⟩, ⟨⟨_, by simpa using he2⟩, hit1.at fun o q => (hs2.2 it (Ne.symm hne)).trans q⟩, fun b hb => ?_⟩
    · refine I.grown (ch := [e, it]) hf (Nat.le_refl _) (fun b v hb q => ?_) ?_
      · have n1 : b ≠ e := fun z => hb (by simp [z])
        have n2 : b ≠ it := fun z => hb (by simp [z])
        exact (hs2.2 b n1).trans (hk1 b v n1 n2 q)
      · exact ⟨by show 2 ≤ sizeLine; decide, [.int i s.toks, u], .cons ⟨_, rfl⟩ (.cons ru .nil), ⟨_, hT2, rfl, 0, rfl⟩⟩
    · obtain ⟨o, hb2, _⟩ : ∃ o, s.heap.get? b = some o ∧ True := by
        rcases List.mem_cons.mp hb with rfl | hb
        · exact ⟨_, he, trivial⟩
        · rw [List.mem_singleton.mp hb]
          obtain ⟨o, ho, _⟩ := hit
          exact ⟨o, ho, trivial⟩
      rw [zz (Nat.ne_of_lt (Heap.lt_size hb2))]
      exact (hf b hb).1
  done := by
    intro X hP hw hK hc i pins s σ H E I hf st hg
    subst hP hw hK
    obtain ⟨⟨old, he⟩, hit⟩ := st
    obtain ⟨xs, hq, hx⟩ := hg
    obtain ⟨its, rv, p, hz⟩ := I.list hq
    have hl := rv.length
    exact wpAny_pyNext_enum_end (I.ok.hd hc) he hit p.isList (by simp; omega) fun h1 hx1 => ⟨rfl, I.turnedN (ch := [e, it]) (t' := s.toks) hf fun b v hb q => hx1 b v (fun z => hb (by simp [z])) q⟩
  self := fun _ _ _ _ _ st h => wpAny_pyIter_enum st.1.choose_spec h
theorem zav {P : Program} {w : World} {K : PySem.W.Frag} {es : List Expr} {k : Nat} {tp : Pos} (a e it : Addr) (hne : e ≠ it) (hai : a ≠ it) (hae : a ≠ e) :
    zdy P w K (.Tuple es k tp) (Iet K a) [e, it] e (fun i h => (∃ old, IsEnum h e it i old) ∧ h.IsTupleIter it a i) where
  mem := by simp
  obj := fun i h st b hb => by
    obtain ⟨⟨old, he⟩, o, ho, _, hd⟩ := st
    rcases List.mem_cons.mp hb with rfl | hb
    · exact ⟨_, he, fun v z => by cases z⟩
    · rw [List.mem_singleton.mp hb]
      exact ⟨o, ho, fun v z => by rw [hd] at z; cases z⟩
  keep := fun i h h' st kk => by
    obtain ⟨⟨old, he⟩, o, ho, r⟩ := st
    exact ⟨⟨old, kk e (by simp) _ he⟩, o, kk it (by simp) o ho, r⟩
  item := by
    intro X hP hw hK hc i pins s σ H E I hf st hg
    subst hP hw hK
    obtain ⟨⟨old, he⟩, hit⟩ := st
    obtain ⟨xs, x, hq, hx⟩ := hg
    obtain ⟨its, rv, p, hz⟩ := I.tuple hq
    obtain ⟨u, hu, ru⟩ := rv.get hx
    have p' : s.heap.IsTuple a its.toArray := p
    have D := vn (prog := X.prog) (w := X.w) (A := X.A.in1) (I.ok.hd hc) it a hai its.toArray
    have hlt : i < its.toArray.size := by
      obtain ⟨h1, _⟩ := List.getElem?_eq_some_iff.mp hu
      simpa using h1
    refine wpAny_pyNext_enum_itemD D he ⟨hit, p'⟩ hlt hne (by simp [hne, Ne.symm hae]) fun u' h1 tk hP1 ho1 hit1 hT1 hz1 hk1 => ?_
    have eu : u' = u := by
      have : its[i]? = some u' := by simpa using hP1
      rw [hu] at this
      exact (Option.some.inj this).symm
    subst eu
    refine ⟨_, rfl, wpAny_letOwnedTupleGo_enum ho1 fun h2 he2 hs2 => ?_⟩
    have hfr : H s.heap.objs.size = none := I.hok.fresh (Nat.le_refl _)
    have neE : s.heap.objs.size ≠ e := Nat.ne_of_gt (Heap.lt_size he)
    have hT2 : h2.get? s.heap.objs.size = some { cls := .type "tuple", data := .seq #[.int i tk, u'] } := (hs2.2 _ neE).trans hT1
    refine ⟨.ref s.heap.objs.size, upd H s.heap.objs.size (.tup [.int i, x]), ?_, rfl, ⟨_, x, rfl, hfr, rfl, fun ys hy => by rw [I.tuple_inj hy hq]; exact hx⟩, ⟨⟨_, by simpa using he2⟩, ?_⟩, fun b hb => ?_⟩
    · refine I.grown (ch := [e, it]) hf (Nat.le_refl _) (fun b v hb q => ?_) ?_
      · have n1 : b ≠ e := fun z => hb (by simp [z])
        have n2 : b ≠ it := fun z => hb (by simp [z])
        exact (hs2.2 b n1).trans (hk1 b v n1 n2 q)
      · exact ⟨by show 2 ≤ sizeLine; decide, [.int i tk, u'], .cons ⟨_, rfl⟩ (.cons ru .nil), ⟨_, hT2, rfl, 0, rfl⟩⟩
    · obtain ⟨o, ho, r⟩ := hit1.1
      exact ⟨o, (hs2.2 it (Ne.symm hne)).trans ho, r⟩
    · obtain ⟨o, hb2, _⟩ : ∃ o, s.heap.get? b = some o ∧ True := by
        rcases List.mem_cons.mp hb with rfl | hb
        · exact ⟨_, he, trivial⟩
        · rw [List.mem_singleton.mp hb]
          obtain ⟨o, ho, _⟩ := hit
          exact ⟨o, ho, trivial⟩
      rw [zz (Nat.ne_of_lt (Heap.lt_size hb2))]
      exact (hf b hb).1
  done := by
    intro X hP hw hK hc i pins s σ H E I hf st hg
    subst hP hw hK
    obtain ⟨⟨old, he⟩, hit⟩ := st
    obtain ⟨xs, hq, hx⟩ := hg
    obtain ⟨its, rv, p, hz⟩ := I.tuple hq
    have hl := rv.length
    have p' : s.heap.IsTuple a its.toArray := p
    exact vx (I.ok.hd hc) he hit p' (by simp; omega) fun h1 hx1 => ⟨rfl, I.turnedN (ch := [e, it]) (t' := s.toks) hf fun b v hb q => hx1 b v (fun z => hb (by simp [z])) q⟩
  self := fun _ _ _ _ _ st h => wpAny_pyIter_enum st.1.choose_spec h
noncomputable def zgY (K : PySem.W.Frag) (ta : TA) : TI := fun σ H R => ta σ H fun vs H1 => ∃ a, vs = [.ref a] ∧ ((∃ xs, H1 a = some (.lst xs) ∧ R (Iel K a) H1) ∨ (∃ xs, SqT K H1 a xs ∧ R (Iet K a) H1))
theorem zdX {X : Cx} {es : List Expr} {k : Nat} {tp : Pos} {a : Expr} {ta : TA} {p pos : Pos} (hg : Gl X "enumerate") (hm : X.mg "enumerate" = none) (hb : bootBuiltins "enumerate" = some (.type "enumerate")) (ha : PA X [a] ta)
    (hs : starEach [a] X.env = [(false, eval a X.env)] := by rfl) : PI X (.Tuple es k tp) (.Call (.Name "enumerate" p) [a] [] pos) (zgY X.K ta) := by
  intro pins s σ H R I h
  refine Call_ (vA I hg hm hb (PyProof.Rows.callWith_type1 (thn (ha pos pins s σ H _ I h) fun us s1 hh9 => ?_) hs rfl))
  obtain ⟨vs, H1, I1, r1, q1⟩ := hh9
  obtain ⟨l, e, q⟩ := q1
  subst e
  obtain ⟨u, rfl, ru⟩ := Xx r1
  cases ru
  have hn : ∀ b, s1.heap.objs.size ≤ b → VB X pins H1 b := fun b hb => I1.fpOk hb (I1.hok.fresh hb)
  have hne : s1.heap.objs.size + 1 ≠ s1.heap.objs.size := by omega
  have hfp : ∀ b ∈ [s1.heap.objs.size + 1, s1.heap.objs.size], VB X pins H1 b := fun b hb => by
    rcases List.mem_cons.mp hb with rfl | hb
    · exact hn _ (Nat.le_succ _)
    · rw [List.mem_singleton.mp hb]; exact hn _ (Nat.le_refl _)
  rcases q with ⟨xs, hx, q⟩ | ⟨xs, hx, q⟩
  · obtain ⟨_, its, n, _, e⟩ : xs.length ≤ sizeLine ∧ ∃ (its : List Value) (n : Nat), yg xs its ∧ s1.heap.get? l = some { cls := .type "list", data := .seq its.toArray n } := I1.hok _ _ hx
    refine call_enumerate_1 e fun h2 he hit hz hk => wpAny_pyIter_enum he ?_
    exact ⟨_, _, _, _, H1, rfl, I1.kept (t' := s1.toks) hk, zaI l _ _ hne, ⟨⟨_, he⟩, hit⟩, hfp, q⟩
  · obtain ⟨its, _, p1, _⟩ := I1.tuple hx
    have lt : l < s1.heap.objs.size := by
      obtain ⟨o, ho, _⟩ := p1
      exact Heap.lt_size ho
    refine vy (show s1.heap.IsTuple l its.toArray from p1) fun h2 he hit hz hk => wpAny_pyIter_enum he ?_
    exact ⟨_, _, _, _, H1, rfl, I1.kept (t' := s1.toks) hk, zav l _ _ hne (Nat.ne_of_lt lt) (Nat.ne_of_lt (Nat.lt_succ_of_lt lt)), ⟨⟨_, he⟩, hit⟩, hfp, q⟩
end L2
namespace HT
open PySem PyProof.Rows
section
open PySem.SeqAt
open PySem.AutoSeq1 (wpAny_loadPart')
open PySem.MeetsSeq PySem.MeetsSeq2 PySem.MeetsSeq3
end
section
variable {prog : Program} {w : World} {A : Around} {E : Value → Shared → Prop} {s : Shared}
end
end HT
namespace L2
open PySem PySem.Spec PyProof.Rows
end L2
namespace HT
open PySem PyProof.Rows
section
variable {prog : Program} {w : World} {A : Around} {E : Value → Shared → Prop} {s : Shared}
theorem own_getItem_whole {t sl : Addr} {items : Array Value} {vl vu : Value} {lo hi : Option Int} {Q : Value → Shared → Prop} (ht : IsTup s.heap t items) (hs : s.heap.IsSliceOf sl vl vu .none) (pl : IsPart vl lo) (pu : IsPart vu hi)
    (hw : sIx items.size 0 lo = 0 ∧ sIx items.size items.size hi = items.size) (h : Q (.ref t) s) : wpAny (model prog w) A (getItem (.ref t) (.ref sl)) Q E s := by
  obtain ⟨os, hos, hcs, hds⟩ := id hs
  have hTs : s.TypeIs (.ref sl) "slice" := ⟨os, hos, hcs⟩
  unfold getItem
  try with_reducible refine wpAny_holding ?_
  first | refine wpAny_bind (wpAny_pure ?_) | skip
  refine wpAny_bind (wpAny_sequenceKey ht.typeIs (by decide) ?_)
  refine wpAny_bind (wpAny_callSpecial?_slot (name := Str.ofString "__getitem__") ht.typeIs PyProof.Rows.slot_tuple_getitem
    (wpAny_call_entry PyProof.Rows.slot_tuple_getitem ht.typeIs entry_tuple_getitem ?_ (args_tuple_getitem _ _)))
  show wpAny _ _ (Builtin.Tuple.tupleItemsOf (.ref t) >>= _) _ _ s
  refine wpAny_bind (tupleItemsOf_ ht ?_)
  refine wpAny_bind (wpAny_typeOf hTs ?_)
  rw [if_pos (by decide)]
  refine wpAny_bind (wT hs pl pu ?_)
  have hyes : (((sIx items.size 0 lo : Nat) : Int) == 0 && (1 : Int) == 1 && (sIx items.size items.size hi - sIx items.size 0 lo) == items.size) = true := by
    rw [hw.1, hw.2]
    simp
  show wpAny _ _ (if (((sIx items.size 0 lo : Nat) : Int) == 0 && (1 : Int) == 1 && (sIx items.size items.size hi - sIx items.size 0 lo) == items.size) = true then _ else _) _ _ s
  rw [if_pos hyes]
  refine wpAny_bind (m := Builtin.Tuple.tupleIsExact (.ref t)) ?_
  unfold Builtin.Tuple.tupleIsExact
  refine wpAny_bind (wpAny_typeOf ht.typeIs (wpAny_pure ?_))
  rw [if_pos (by decide)]
  refine wpAny_bind (wpAny_rule ?_)
  first
    | exact wpAny_pure ⟨_, rfl, wpAny_pure h⟩
    | exact wpAny_bind (wpAny_pure (wpAny_pure ⟨_, rfl, wpAny_pure h⟩))
end
end HT
namespace L2
open PySem PySem.Spec PyProof.Rows
end L2
namespace PySem
open Sem (wp)
theorem zp {prog : Program} {w : World} {A : Around} {it a : Addr} {fp : List Addr} {n k : Nat} {P : Nat → Value → Prop} {St : Nat → Heap → Prop} (D : Draws prog w A it fp n P St) {h h' : Heap} (st : St k h) (sb : Heap.SameBut a h h') (na : a ∉ fp) : St k h' :=
  D.frame _ _ _ st fun b hb o e => (sb.2 b fun z => na (z ▸ hb)).trans e
set_option genInjectivity false in
set_option genSizeOf false in
set_option genCtorIdx false in
structure zcN (z TI TO i1 i2 : Addr) (fp1 fp2 : List Addr) : Prop where
  nd : [z, TI, TO, i1, i2].Nodup
  z1 : z ∉ fp1
  z2 : z ∉ fp2
  o1 : TO ∉ fp1
  o2 : TO ∉ fp2
  i12 : i1 ∉ fp2
  i21 : i2 ∉ fp1
section
variable {prog : Program} {w : World} {A : Around} {E : Value → Shared → Prop} {s : Shared} {z TI TO i1 i2 : Addr} {fp1 fp2 : List Addr} {n1 n2 k1 k2 : Nat} {P1 P2 : Nat → Value → Prop} {St1 St2 : Nat → Heap → Prop} {a b : Value}
theorem WM {Q : Value → Shared → Prop} (D1 : Draws prog w A i1 fp1 n1 P1 St1) (D2 : Draws prog w A i2 fp2 n2 P2 St2) (ap : zcN z TI TO i1 i2 fp1 fp2)
    (hz : IsZip s.heap z TI TO .none) (hTI : IsPair s.heap TI (.ref i1) (.ref i2)) (hTO : IsPair s.heap TO a b) (h1 : St1 k1 s.heap) (h2 : St2 k2 s.heap) (l1 : k1 < n1) (l2 : k2 < n2)
    (hQ : ∀ x y h' tk, P1 k1 x → P2 k2 y → IsZip h' z TI TO (rawInt s.heap.objs.size) → IsPair h' TO x y → St1 (k1 + 1) h' → St2 (k2 + 1) h' → IsPair h' s.heap.objs.size x y →
      (∀ c o, c ∉ [z, TO, i1, i2] → s.heap.get? c = some o → h'.get? c = some o) → Q (.ref s.heap.objs.size) { s with heap := h', toks := tk }) :
    wpAny (model prog w) A (Builtin.«zip.__next__» ⟨[.ref z], []⟩) (fun fin s' => ∃ v, fin = .done (.ret v) ∧ Q v s') E s := by
  obtain ⟨nd, az1, az2, ao1, ao2, a12, a21⟩ := ap
  simp only [List.nodup_cons, List.mem_cons, List.not_mem_nil, or_false, not_or, not_false_eq_true, List.nodup_nil, and_true] at nd
  obtain ⟨⟨n1', n2', n3', n4'⟩, ⟨n5, n6, n7⟩, ⟨n8, n9⟩, n10⟩ := nd
  show wpAny _ _ (field (.ref z) 2 >>= _) _ _ _
  refine wpAny_bind (wpAny_field hz rfl (x := .bool false) rfl ?_)
  show wpAny _ _ (field (.ref z) 3 >>= _) _ _ _
  refine wpAny_bind (wpAny_field hz rfl (x := .ref TI) rfl (wpAny_bind (wpAny_seqItems hTI rfl ?_)))
  show wpAny _ _ (Builtin.SmallTypes.ownedTupleIsFree (.ref z) >>= _) _ _ _
  refine wpAny_bind ?_
  unfold Builtin.SmallTypes.ownedTupleIsFree
  refine wpAny_bind (wpAny_field hz rfl (x := .none) rfl (wpAny_pure ?_))
  simp only [if_true]
  refine wpAny_bind (wpAny_rule (wpAny_bind (wpAny_field hz rfl (x := .ref TO) rfl (wpAny_bind (wpAny_setField_rec hz (by simp) fun g1 z1 b1 => ?_)))))
  refine wpAny_bind ?_
  simp only [List.zipIdx_cons, List.zipIdx_nil, List.forIn_cons, List.forIn_nil]
  refine wpAny_bind (wpAny_bind (wpAny_onRaise ?_))
  show wpAny _ _ (Builtin.SmallTypes.nextOf (.ref i1) >>= _) _ _ _
  refine wpAny_bind (D1.item k1 _ _ _ l1 (zp D1 h1 b1 az1) fun x g2 tk2 px st2 b2 => wpAny_pure ?_)
  have o2 : IsPair g2 TO a b := (b2.2 TO n8).trans ((b1.2 TO (Ne.symm n2')).trans hTO)
  refine wpAny_bind (wpAny_seqItems o2 rfl (wpAny_bind (wpAny_updateSeq_pair o2 fun g3 o3 b3 => ?_)))
  refine wpAny_bind (wpAny_letGo (wpAny_pure ?_))
  refine wpAny_bind (wpAny_bind (wpAny_onRaise ?_))
  show wpAny _ _ (Builtin.SmallTypes.nextOf (.ref i2) >>= _) _ _ _
  have s23 : St2 k2 g3 := zp D2 (zp D2 (zp D2 h2 b1 az2) b2 a12) b3 ao2
  refine wpAny_bind (D2.item k2 _ _ _ l2 s23 fun y g4 tk4 py st4 b4 => wpAny_pure ?_)
  have o4 : IsPair g4 TO x b := (b4.2 TO n9).trans o3
  refine wpAny_bind (wpAny_seqItems o4 rfl (wpAny_bind (wpAny_updateSeq_pair o4 fun g5 o5 b5 => ?_)))
  replace o5 : IsPair g5 TO x y := o5
  refine wpAny_bind (wpAny_letGo (wpAny_pure (wpAny_pure ?_)))
  refine wpAny_bind (wpAny_seqItems o5 rfl ?_)
  show wpAny _ _ (newTuple [x, y] >>= _) _ _ _
  refine wpAny_bind (wpAny_newTuple ?_)
  have hsz : g5.objs.size = s.heap.objs.size := by rw [b5.1, b4.1, b3.1, b2.1, b1.1]
  have z5 : IsZip g5 z TI TO .ellipsis := (b5.2 z n2').trans ((b4.2 z n4').trans ((b3.2 z n2').trans ((b2.2 z n3').trans z1)))
  have zlt : z < g5.objs.size := Heap.lt_size z5
  show wpAny _ _ (Builtin.SmallTypes.ownedTupleHandOut (.ref z) (.ref g5.objs.size) >>= _) _ _ _
  refine wpAny_bind ?_
  unfold Builtin.SmallTypes.ownedTupleHandOut
  have z6 : IsZip (g5.push { cls := .type "tuple", data := .seq #[x, y] }) z TI TO .ellipsis := Heap.get?_push_of_some _ z5
  refine wpAny_bind (wpAny_setField_rec z6 (by simp) fun g7 z7 b7 => ?_)
  refine wpAny_setField_rec z7 (by simp) fun g8 z8 b8 => ?_
  have up : ∀ c o, c ≠ z → g5.get? c = some o → g8.get? c = some o := fun c o n e => (b8.2 c n).trans ((b7.2 c n).trans (Heap.get?_push_of_some _ e))
  have t8 : IsPair g8 g5.objs.size x y := (b8.2 _ (Nat.ne_of_gt zlt)).trans ((b7.2 _ (Nat.ne_of_gt zlt)).trans (Heap.get?_push_size _ rfl))
  have e8 : IsZip g8 z TI TO (rawInt g5.objs.size) := z8
  rw [hsz] at e8 t8
  refine wpAny_pure ⟨_, rfl, ?_⟩
  show Q (.ref g5.objs.size) _
  rw [hsz]
  have f1 : St1 (k1 + 1) g5 := zp D1 (zp D1 (zp D1 st2 b3 ao1) b4 a21) b5 ao1
  have f2 : St2 (k2 + 1) g5 := zp D2 st4 b5 ao2
  refine hQ x y g8 _ px py e8 (up _ _ (Ne.symm n2') o5) (D1.frame _ _ _ f1 fun c hc o e => up c o (fun q => az1 (q ▸ hc)) e) (D2.frame _ _ _ f2 fun c hc o e => up c o (fun q => az2 (q ▸ hc)) e) t8 fun c o hc e => ?_
  simp only [List.mem_cons, List.not_mem_nil, or_false, not_or] at hc
  obtain ⟨c1, c2, c3, c4⟩ := hc
  exact up c o c1 ((b5.2 c c2).trans ((b4.2 c c4).trans ((b3.2 c c2).trans ((b2.2 c c3).trans ((b1.2 c c1).trans e)))))
theorem Vt {Q : Fin → Shared → Prop} (D1 : Draws prog w A i1 fp1 n1 P1 St1) (az1 : z ∉ fp1) (nz : i1 ≠ z)
    (hz : IsZip s.heap z TI TO .none) (hTI : IsPair s.heap TI (.ref i1) (.ref i2)) (h1 : St1 n1 s.heap)
    (hE : ∀ h' e, (∀ c o, c ≠ z → c ≠ i1 → s.heap.get? c = some o → h'.get? c = some o) → (∃ o, h'.get? e = some o ∧ o.cls = .type "StopIteration") → E (.ref e) { s with heap := h' }) :
    wpAny (model prog w) A (Builtin.«zip.__next__» ⟨[.ref z], []⟩) Q E s := by
  show wpAny _ _ (field (.ref z) 2 >>= _) _ _ _
  refine wpAny_bind (wpAny_field hz rfl (x := .bool false) rfl ?_)
  show wpAny _ _ (field (.ref z) 3 >>= _) _ _ _
  refine wpAny_bind (wpAny_field hz rfl (x := .ref TI) rfl (wpAny_bind (wpAny_seqItems hTI rfl ?_)))
  show wpAny _ _ (Builtin.SmallTypes.ownedTupleIsFree (.ref z) >>= _) _ _ _
  refine wpAny_bind ?_
  unfold Builtin.SmallTypes.ownedTupleIsFree
  refine wpAny_bind (wpAny_field hz rfl (x := .none) rfl (wpAny_pure ?_))
  simp only [if_true]
  refine wpAny_bind (wpAny_rule (wpAny_bind (wpAny_field hz rfl (x := .ref TO) rfl (wpAny_bind (wpAny_setField_rec hz (by simp) fun g1 z1 b1 => ?_)))))
  refine wpAny_bind ?_
  simp only [List.zipIdx_cons, List.zipIdx_nil, List.forIn_cons, List.forIn_nil]
  refine wpAny_bind (wpAny_bind (wpAny_onRaise ?_))
  show wpAny _ _ (Builtin.SmallTypes.nextOf (.ref i1) >>= _) _ _ _
  refine wpAny_bind (D1.done _ _ _ (zp D1 h1 b1 az1) fun g2 e b2 he => ?_)
  obtain ⟨oe, hoe, hce⟩ := he
  have z2 : IsZip g2 z TI TO .ellipsis := b2 _ _ (Ne.symm nz) z1
  have nez : e ≠ z := fun q => by subst q; rw [z2] at hoe; cases hoe; simp at hce
  exact wpAny_setField_rec z2 (by simp) fun g3 _ b3 => hE g3 e (fun c o c1 c2 q => (b3.2 c c1).trans (b2 c o c2 ((b1.2 c c1).trans q))) ⟨oe, (b3.2 e nez).trans hoe, hce⟩
end
noncomputable def vV (b : Bool) (h : Heap) (it l : Addr) (k : Nat) : Prop := if b = true then h.IsListIter it l k else h.IsTupleIter it l k
noncomputable def zap (b : Bool) (h : Heap) (l : Addr) (items : Array Value) : Prop := if b = true then h.IsList l items else h.IsTuple l items
theorem wo {prog : Program} {w : World} {A : Around} (hh : A.handled = none) (b : Bool) (it l : Addr) (hne : l ≠ it) (items : Array Value) :
    Draws prog w A it [it, l] items.size (fun i v => items[i]? = some v) (fun i h => vV b h it l i ∧ zap b h l items) := by
  cases b with
  | true => exact Draws.list hh it l hne items
  | false => exact vn hh it l hne items
noncomputable def Zs (b : Bool) (l : Addr) : Obj := { cls := .type (if b = true then "list_iterator" else "tuple_iterator"), data := .fields #[.ref l, .int 0 0] }
noncomputable abbrev zpA (h : Heap) (b1 : Bool) (l1 : Addr) : Heap := h.push (Zs b1 l1)
noncomputable abbrev zpB (h : Heap) (b1 b2 : Bool) (l1 l2 : Addr) : Heap := (zpA h b1 l1).push (Zs b2 l2)
noncomputable abbrev zpC (h : Heap) (b1 b2 : Bool) (l1 l2 : Addr) : Heap := (zpB h b1 b2 l1 l2).push (Obj.mk (.type "tuple") none (.seq #[.ref h.objs.size, .ref (zpA h b1 l1).objs.size]) #[])
noncomputable abbrev zpD (h : Heap) (b1 b2 : Bool) (l1 l2 : Addr) : Heap := (zpC h b1 b2 l1 l2).push (Obj.mk (.type "tuple") none (.seq #[.none, .none]) #[])
noncomputable abbrev zpE (h : Heap) (b1 b2 : Bool) (l1 l2 : Addr) : Heap := (zpD h b1 b2 l1 l2).push (Obj.mk (.type "zip") none (.fields #[.none, .bool false, .bool false, .ref (zpB h b1 b2 l1 l2).objs.size, .ref (zpC h b1 b2 l1 l2).objs.size]) #[])
theorem Vc (b1 b2 : Bool) (l1 l2 : Addr) (xs ys : Array Value) :
    Meets (Builtin.«zip.__new__» ⟨[.type "zip", .ref l1, .ref l2], []⟩) (fun _ R s => zap b1 s.heap l1 xs ∧ zap b2 s.heap l2 ys ∧
      R (.ok (.ret (.ref (zpD s.heap b1 b2 l1 l2).objs.size))) { s with heap := zpE s.heap b1 b2 l1 l2 }) :=
  .of_wp fun prog w A R s h => by
    obtain ⟨hp, g, d, tk, os⟩ := s; obtain ⟨hl1, hl2, h⟩ := h
    have hsub := sub_zip
    cases b1 with
    | true =>
      have hL1 : Heap.IsList (Shared.heap ⟨hp, g, d, tk, os⟩) l1 xs := hl1
      cases b2 with
      | true =>
        have hL2 : Heap.IsList (Shared.heap ⟨hp.push { cls := .type "list_iterator", data := .fields #[.ref l1, .int 0 0] }, g, d, tk, os⟩) l2 ys := Heap.IsList.push hl2 _
        wp_walk using wpAny_pyIter_list hL1, wpAny_pyIter_list hL2
        exact ⟨_, rfl, h⟩
      | false =>
        have hL2 : Heap.IsTuple (Shared.heap ⟨hp.push { cls := .type "list_iterator", data := .fields #[.ref l1, .int 0 0] }, g, d, tk, os⟩) l2 ys := Heap.IsTuple.push hl2 _
        wp_walk using wpAny_pyIter_list hL1, wpAny_pyIter_tuple hL2
        exact ⟨_, rfl, h⟩
    | false =>
      have hL1 : Heap.IsTuple (Shared.heap ⟨hp, g, d, tk, os⟩) l1 xs := hl1
      cases b2 with
      | true =>
        have hL2 : Heap.IsList (Shared.heap ⟨hp.push { cls := .type "tuple_iterator", data := .fields #[.ref l1, .int 0 0] }, g, d, tk, os⟩) l2 ys := Heap.IsList.push hl2 _
        wp_walk using wpAny_pyIter_tuple hL1, wpAny_pyIter_list hL2
        exact ⟨_, rfl, h⟩
      | false =>
        have hL2 : Heap.IsTuple (Shared.heap ⟨hp.push { cls := .type "tuple_iterator", data := .fields #[.ref l1, .int 0 0] }, g, d, tk, os⟩) l2 ys := Heap.IsTuple.push hl2 _
        wp_walk using wpAny_pyIter_tuple hL1, wpAny_pyIter_tuple hL2
        exact ⟨_, rfl, h⟩
end PySem
namespace PySem
section
variable {prog : Program} {w : World} {A : Around} {E : Value → Shared → Prop} {s : Shared}
theorem WR {b1 b2 : Bool} {l1 l2 : Addr} {xs ys : Array Value} {Q : Value → Shared → Prop} (hl1 : zap b1 s.heap l1 xs) (hl2 : zap b2 s.heap l2 ys)
    (h : ∀ h', IsZip h' (s.heap.objs.size + 4) (s.heap.objs.size + 2) (s.heap.objs.size + 3) .none → IsPair h' (s.heap.objs.size + 2) (.ref s.heap.objs.size) (.ref (s.heap.objs.size + 1)) →
      IsPair h' (s.heap.objs.size + 3) .none .none → vV b1 h' s.heap.objs.size l1 0 → vV b2 h' (s.heap.objs.size + 1) l2 0 →
      (∀ c o, s.heap.get? c = some o → h'.get? c = some o) → Q (.ref (s.heap.objs.size + 4)) { s with heap := h' }) :
    wpAny (model prog w) A (call (.type "zip") [.ref l1, .ref l2]) Q E s := by
  refine callType_new F.called_zip (by decide) (F.typeCall_zip_2 _ _) (F.newCall_zip_2 _ _) (fun obj => F.args_object_init_3 obj _ _) F.entry_zip_new
    (Vc b1 b2 l1 l2 xs ys) ⟨hl1, hl2, ?_⟩
  have z1 : (zpA s.heap b1 l1).objs.size = s.heap.objs.size + 1 := Heap.size_push ..
  have z2 : (zpB s.heap b1 b2 l1 l2).objs.size = s.heap.objs.size + 2 := by rw [Heap.size_push, z1]
  have z3 : (zpC s.heap b1 b2 l1 l2).objs.size = s.heap.objs.size + 3 := by rw [Heap.size_push, z2]
  have z4 : (zpD s.heap b1 b2 l1 l2).objs.size = s.heap.objs.size + 4 := by rw [Heap.size_push, z3]
  have g5 : (zpE s.heap b1 b2 l1 l2).get? (zpD s.heap b1 b2 l1 l2).objs.size = some _ := Heap.get?_push_size _ rfl
  have g4 : (zpE s.heap b1 b2 l1 l2).get? (zpC s.heap b1 b2 l1 l2).objs.size = some _ := Heap.get?_push_of_some _ (Heap.get?_push_size _ rfl)
  have g3 : (zpE s.heap b1 b2 l1 l2).get? (zpB s.heap b1 b2 l1 l2).objs.size = some _ := Heap.get?_push_of_some _ (Heap.get?_push_of_some _ (Heap.get?_push_size _ rfl))
  have g2 : (zpE s.heap b1 b2 l1 l2).get? (zpA s.heap b1 l1).objs.size = some (Zs b2 l2) := Heap.get?_push_of_some _ (Heap.get?_push_of_some _ (Heap.get?_push_of_some _ (Heap.get?_push_size _ rfl)))
  have g1 : (zpE s.heap b1 b2 l1 l2).get? s.heap.objs.size = some (Zs b1 l1) := Heap.get?_push_of_some _ (Heap.get?_push_of_some _ (Heap.get?_push_of_some _ (Heap.get?_push_of_some _ (Heap.get?_push_size _ rfl))))
  show _ ∧ _
  rw [z2, z3, z4] at g5
  rw [z1, z2] at g3
  rw [z3] at g4
  rw [z1] at g2
  rw [z4]
  have it0 : ∀ {b : Bool} {l c : Addr}, (zpE s.heap b1 b2 l1 l2).get? c = some (Zs b l) → vV b (zpE s.heap b1 b2 l1 l2) c l 0 := fun {b l c} e => by
    cases b
    · exact ⟨_, e, rfl, rfl⟩
    · exact ⟨_, e, rfl, rfl⟩
  exact ⟨⟨_, g5, rfl⟩, h _ g5 g3 g4 (it0 g1) (it0 g2) fun c o x =>
    Heap.get?_push_of_some _ (Heap.get?_push_of_some _ (Heap.get?_push_of_some _ (Heap.get?_push_of_some _ (Heap.get?_push_of_some _ x))))⟩
variable {z TI TO i1 i2 : Addr} {fp1 fp2 : List Addr} {n1 n2 k1 k2 : Nat} {P1 P2 : Nat → Value → Prop} {St1 St2 : Nat → Heap → Prop} {a b : Value}
theorem vL {Q : Option Value → Shared → Prop} (D1 : Draws prog w A.in1 i1 fp1 n1 P1 St1) (D2 : Draws prog w A.in1 i2 fp2 n2 P2 St2) (ap : zcN z TI TO i1 i2 fp1 fp2)
    (hz : IsZip s.heap z TI TO .none) (hTI : IsPair s.heap TI (.ref i1) (.ref i2)) (hTO : IsPair s.heap TO a b) (h1 : St1 k1 s.heap) (h2 : St2 k2 s.heap) (l1 : k1 < n1) (l2 : k2 < n2)
    (hQ : ∀ x y h' tk, P1 k1 x → P2 k2 y → IsZip h' z TI TO (rawInt s.heap.objs.size) → IsPair h' TO x y → St1 (k1 + 1) h' → St2 (k2 + 1) h' → IsPair h' s.heap.objs.size x y →
      (∀ c o, c ∉ [z, TO, i1, i2] → s.heap.get? c = some o → h'.get? c = some o) → Q (some (.ref s.heap.objs.size)) { s with heap := h', toks := tk }) :
    wpAny (model prog w) A (pyNext (.ref z)) Q E s := by
  have hT : s.TypeIs (.ref z) "zip" := ⟨_, hz, rfl⟩
  unfold pyNext
  exact wpAny_bind (wpAny_attempt (wpAny_callSpecial?_slot (name := Str.ofString "__next__") hT F.slot_zip_next
    (wpAny_call_entry F.slot_zip_next hT F.entry_zip_next
      (WM D1 D2 ap hz hTI hTO h1 h2 l1 l2 fun x y h' tk a1 a2 a3 a4 a5 a6 a7 a8 => wpAny_pure (hQ x y h' tk a1 a2 a3 a4 a5 a6 a7 a8)) (F.args_zip_next_1 _))))
theorem v6 {Q : Option Value → Shared → Prop} (D1 : Draws prog w A.in1 i1 fp1 n1 P1 St1) (az1 : z ∉ fp1) (nz : i1 ≠ z)
    (hz : IsZip s.heap z TI TO .none) (hTI : IsPair s.heap TI (.ref i1) (.ref i2)) (h1 : St1 n1 s.heap)
    (hQ : ∀ h', (∀ c o, c ≠ z → c ≠ i1 → s.heap.get? c = some o → h'.get? c = some o) → Q none { s with heap := h' }) : wpAny (model prog w) A (pyNext (.ref z)) Q E s := by
  have hT : s.TypeIs (.ref z) "zip" := ⟨_, hz, rfl⟩
  unfold pyNext
  refine wpAny_bind (wpAny_attempt (wpAny_callSpecial?_slot (name := Str.ofString "__next__") hT F.slot_zip_next
    (wpAny_call_entry F.slot_zip_next hT F.entry_zip_next (Vt D1 az1 nz hz hTI h1 fun h' e hk he => ?_) (F.args_zip_next_1 _))))
  obtain ⟨o, ho, hc⟩ := he
  refine wpAny_bind (wpAny_isInstance (T := "StopIteration") (b := true) ⟨o, ho, hc⟩ isSubtype_stop ?_)
  exact wpAny_pure (hQ _ hk)
end
end PySem
namespace L2
open PySem PySem.Spec PyProof.Rows
noncomputable def Sq (b : Bool) (K : PySem.W.Frag) (H : Hp) (a : Addr) (xs : List V) : Prop := if b = true then SqL K H a xs else SqT K H a xs
theorem Inv.sq {X : Cx} {pins : List (Addr × Obj)} {σ : St} {H : Hp} {s : Shared} {a : Addr} {xs : List V} {b : Bool} (I : Inv X pins σ H s) (h : Sq b X.K H a xs) : ∃ its : List Value, yg xs its ∧ zap b s.heap a its.toArray ∧ a < s.heap.objs.size := by
  cases b with
  | true =>
    obtain ⟨its, r, p, _⟩ := I.list (show SqL X.K H a xs from h)
    exact ⟨its, r, p.isList, by obtain ⟨o, n, ho, _⟩ := p; exact Heap.lt_size ho⟩
  | false =>
    obtain ⟨its, r, p, _⟩ := I.tuple (show SqT X.K H a xs from h)
    exact ⟨its, r, p, by obtain ⟨o, ho, _⟩ := p; exact Heap.lt_size ho⟩
theorem Inv.sq_inj {X : Cx} {pins : List (Addr × Obj)} {σ : St} {H : Hp} {s : Shared} {a : Addr} {xs ys : List V} {b : Bool} (I : Inv X pins σ H s) (h : Sq b X.K H a xs) (h' : Sq b X.K H a ys) : xs = ys := by
  cases b with
  | true => exact I.list_inj h h'
  | false => exact I.tuple_inj h h'
noncomputable def Izp (K : PySem.W.Frag) (b1 b2 : Bool) (l1 l2 : Addr) : It :=
  ⟨fun i H => ∃ xs ys x y, Sq b1 K H l1 xs ∧ Sq b2 K H l2 ys ∧ xs[i]? = some x ∧ ys[i]? = some y,
   fun i H v H' => ∃ T x y, v = .ref T ∧ H T = none ∧ H' = upd H T (.tup [x, y]) ∧ (∀ xs, Sq b1 K H l1 xs → xs[i]? = some x) ∧ (∀ ys, Sq b2 K H l2 ys → ys[i]? = some y),
   fun i H => ∃ xs, Sq b1 K H l1 xs ∧ i = xs.length⟩
theorem yU {b : Bool} {h : Heap} {it l : Addr} {k : Nat} (x : vV b h it l k) : ∃ o, h.get? it = some o ∧ ∀ v, o.data ≠ .cell v := by
  cases b
  · obtain ⟨o, ho, _, hd⟩ := x
    exact ⟨o, ho, fun v z => by rw [hd] at z; cases z⟩
  · obtain ⟨o, ho, _, hd⟩ := x
    exact ⟨o, ho, fun v z => by rw [hd] at z; cases z⟩
theorem xF {b : Bool} {h h' : Heap} {it l : Addr} {k : Nat} (x : vV b h it l k) (e : ∀ o, h.get? it = some o → h'.get? it = some o) : vV b h' it l k := by
  cases b
  · obtain ⟨o, ho, r⟩ := x
    exact ⟨o, e o ho, r⟩
  · obtain ⟨o, ho, r⟩ := x
    exact ⟨o, e o ho, r⟩
theorem zdb {P : Program} {w : World} {K : PySem.W.Frag} {es : List Expr} {k : Nat} {tp : Pos} (b1 b2 : Bool) (l1 l2 z TI TO i1 i2 : Addr) (ap : zcN z TI TO i1 i2 [i1, l1] [i2, l2]) (n1 : l1 ≠ i1) (n2 : l2 ≠ i2) :
    zdy P w K (.Tuple es k tp) (Izp K b1 b2 l1 l2) [z, TI, TO, i1, i2] z (fun i h => IsZip h z TI TO .none ∧ IsPair h TI (.ref i1) (.ref i2) ∧ (∃ a b, IsPair h TO a b) ∧ vV b1 h i1 l1 i ∧ vV b2 h i2 l2 i) where
  mem := by simp
  obj := fun i h st b hb => by
    obtain ⟨hz, hTI, ⟨a, c, hTO⟩, h1, h2⟩ := st
    simp only [List.mem_cons, List.not_mem_nil, or_false] at hb
    rcases hb with rfl | rfl | rfl | rfl | rfl
    · exact ⟨_, hz, fun v z => by cases z⟩
    · exact ⟨_, hTI, fun v z => by cases z⟩
    · exact ⟨_, hTO, fun v z => by cases z⟩
    · exact yU h1
    · exact yU h2
  keep := fun i h h' st kk => by
    obtain ⟨hz, hTI, ⟨a, c, hTO⟩, h1, h2⟩ := st
    exact ⟨kk z (by simp) _ hz, kk TI (by simp) _ hTI, ⟨a, c, kk TO (by simp) _ hTO⟩, xF h1 fun o q => kk i1 (by simp) o q, xF h2 fun o q => kk i2 (by simp) o q⟩
  item := by
    intro X hP hw hK hc i pins s σ H E I hf st hg
    subst hP hw hK
    obtain ⟨hz, hTI, ⟨a, c, hTO⟩, h1, h2⟩ := st
    obtain ⟨xs, ys, x, y, hq1, hq2, hx, hy⟩ := hg
    obtain ⟨its, rv, p, _⟩ := I.sq hq1
    obtain ⟨its2, rv2, p2, _⟩ := I.sq hq2
    obtain ⟨u, hu, ru⟩ := rv.get hx
    obtain ⟨u2, hu2, ru2⟩ := rv2.get hy
    have hl1 : i < its.toArray.size := by simpa using (List.getElem?_eq_some_iff.mp hu).1
    have hl2 : i < its2.toArray.size := by simpa using (List.getElem?_eq_some_iff.mp hu2).1
    have hh : X.A.in1.handled = none := I.ok.hd hc
    refine vL (wo hh b1 i1 l1 n1 its.toArray) (wo hh b2 i2 l2 n2 its2.toArray) ap hz hTI hTO ⟨h1, p⟩ ⟨h2, p2⟩ hl1 hl2 fun v1 v2 h' tk e1 e2 hz' hTO' s1 s2 hT' hk => ?_
    have eu : v1 = u := by
      have : its[i]? = some v1 := by simpa using e1
      rw [hu] at this
      exact (Option.some.inj this).symm
    have eu2 : v2 = u2 := by
      have : its2[i]? = some v2 := by simpa using e2
      rw [hu2] at this
      exact (Option.some.inj this).symm
    subst eu eu2
    obtain ⟨nd, az1, az2, ao1, ao2, a12, a21⟩ := ap
    simp only [List.nodup_cons, List.mem_cons, List.not_mem_nil, or_false, not_or, not_false_eq_true, List.nodup_nil, and_true] at nd
    obtain ⟨⟨m1, m2, m3, m4⟩, ⟨m5, m6, m7⟩, ⟨m8, m9⟩, m10⟩ := nd
    refine ⟨_, rfl, wpAny_letOwnedTupleGo_zip hz' fun h2' hz2 hs2 => ?_⟩
    have hfr : H s.heap.objs.size = none := I.hok.fresh (Nat.le_refl _)
    have neZ : s.heap.objs.size ≠ z := Nat.ne_of_gt (Heap.lt_size hz)
    have hT2 : IsPair h2' s.heap.objs.size v1 v2 := (hs2.2 _ neZ).trans hT'
    have hTI' : IsPair h' TI (.ref i1) (.ref i2) := hk TI _ (by simp [Ne.symm m1, m5, m6, m7]) hTI
    have lt : ∀ b ∈ [z, TI, TO, i1, i2], b < s.heap.objs.size := fun b hb => by
      simp only [List.mem_cons, List.not_mem_nil, or_false] at hb
      rcases hb with rfl | rfl | rfl | rfl | rfl
      · exact Heap.lt_size hz
      · exact Heap.lt_size hTI
      · exact Heap.lt_size hTO
      · obtain ⟨o, ho, _⟩ := yU h1; exact Heap.lt_size ho
      · obtain ⟨o, ho, _⟩ := yU h2; exact Heap.lt_size ho
    refine ⟨.ref s.heap.objs.size, upd H s.heap.objs.size (.tup [x, y]), ?_, rfl, ⟨_, x, y, rfl, hfr, rfl, fun zs hz => by rw [I.sq_inj hz hq1]; exact hx, fun zs hz => by rw [I.sq_inj hz hq2]; exact hy⟩,
      ⟨hz2, (hs2.2 TI (Ne.symm m1)).trans hTI', ⟨_, _, (hs2.2 TO (Ne.symm m2)).trans hTO'⟩, xF s1.1 fun o q => (hs2.2 i1 (Ne.symm m3)).trans q, xF s2.1 fun o q => (hs2.2 i2 (Ne.symm m4)).trans q⟩, fun b hb => ?_⟩
    · refine I.grown (ch := [z, TI, TO, i1, i2]) hf (Nat.le_refl _) (fun b v hb q => ?_) ?_
      · have nb : b ≠ z := fun w => hb (by simp [w])
        refine (hs2.2 b nb).trans (hk b v (fun w => hb ?_) q)
        simp only [List.mem_cons, List.not_mem_nil, or_false] at w ⊢
        rcases w with w | w | w | w
        · exact .inl w
        · exact .inr (.inr (.inl w))
        · exact .inr (.inr (.inr (.inl w)))
        · exact .inr (.inr (.inr (.inr w)))
      · exact ⟨by show 2 ≤ sizeLine; decide, [v1, v2], .cons ru (.cons ru2 .nil), ⟨_, hT2, rfl, 0, rfl⟩⟩
    · rw [zz (Nat.ne_of_lt (lt b hb))]
      exact (hf b hb).1
  done := by
    intro X hP hw hK hc i pins s σ H E I hf st hg
    subst hP hw hK
    obtain ⟨hz, hTI, ⟨a, c, hTO⟩, h1, h2⟩ := st
    obtain ⟨xs, hq, rfl⟩ := hg
    obtain ⟨its, rv, p, _⟩ := I.sq hq
    have hl := rv.length
    have hh : X.A.in1.handled = none := I.ok.hd hc
    have D := wo (prog := X.prog) (w := X.w) hh b1 i1 l1 n1 its.toArray
    refine v6 D ap.z1 ?_ hz hTI ⟨by rw [List.size_toArray, ← hl]; exact h1, p⟩ fun h' hk => ⟨rfl, I.turnedN (ch := [z, TI, TO, i1, i2]) (t' := s.toks) hf fun b v hb q => hk b v (fun w => hb (by simp [w])) (fun w => hb (by simp [w])) q⟩
    have nd := ap.nd
    simp only [List.nodup_cons, List.mem_cons, List.not_mem_nil, or_false, not_or, not_false_eq_true, List.nodup_nil, and_true] at nd
    exact Ne.symm nd.1.2.2.1
  self := fun _ _ _ _ _ st h => wpAny_pyIter_zip st.1 h
noncomputable def iZip (K : PySem.W.Frag) (ta : TA) : TI := fun σ H R => ta σ H fun vs H1 => ∃ b1 b2 l1 l2 xs ys, vs = [.ref l1, .ref l2] ∧ Sq b1 K H1 l1 xs ∧ Sq b2 K H1 l2 ys ∧ R (Izp K b1 b2 l1 l2) H1
theorem zgh {X : Cx} {es : List Expr} {k : Nat} {tp : Pos} {a b : Expr} {ta : TA} {p pos : Pos} (hg : Gl X "zip") (hm : X.mg "zip" = none) (hb : bootBuiltins "zip" = some (.type "zip")) (ha : PA X [a, b] ta)
    (hs : starEach [a, b] X.env = [(false, eval a X.env), (false, eval b X.env)] := by rfl) (hs2 : starEach [b] X.env = [(false, eval b X.env)] := by rfl) : PI X (.Tuple es k tp) (.Call (.Name "zip" p) [a, b] [] pos) (iZip X.K ta) := by
  intro pins s σ H R I h
  refine Call_ (vA I hg hm hb (PyProof.Rows.callWith_type1 (thn (ha pos pins s σ H _ I h) fun us s1 hh9 => ?_) (by rw [hs, hs2]) (by rw [hs2]; rfl)))
  obtain ⟨vs, H1, I1, r1, q1⟩ := hh9
  obtain ⟨b1, b2, l1, l2, xs, ys, e, hq1, hq2, q⟩ := q1
  subst e
  obtain ⟨u, u2, rfl, ru, ru2⟩ := zbn r1
  cases ru
  cases ru2
  obtain ⟨its, rv, p1, lt1⟩ := I1.sq hq1
  obtain ⟨its2, rv2, p2, lt2⟩ := I1.sq hq2
  refine WR p1 p2 fun h2 hz hTI hTO hi1 hi2 hk => wpAny_pyIter_zip hz ?_
  have hn : ∀ b, s1.heap.objs.size ≤ b → VB X pins H1 b := fun b hb => I1.fpOk hb (I1.hok.fresh hb)
  have ap : zcN (s1.heap.objs.size + 4) (s1.heap.objs.size + 2) (s1.heap.objs.size + 3) s1.heap.objs.size (s1.heap.objs.size + 1) [s1.heap.objs.size, l1] [s1.heap.objs.size + 1, l2] := by
    have q1 : l1 ≠ s1.heap.objs.size := Nat.ne_of_lt lt1
    have q2 : ∀ j : Nat, s1.heap.objs.size + j ≠ l1 := fun j e => Nat.lt_irrefl _ (Nat.lt_of_lt_of_le (by rw [← e] at lt1; exact lt1) (Nat.le_add_right _ _))
    have q3 : ∀ j : Nat, s1.heap.objs.size + j ≠ l2 := fun j e => Nat.lt_irrefl _ (Nat.lt_of_lt_of_le (by rw [← e] at lt2; exact lt2) (Nat.le_add_right _ _))
    have ne : ∀ i j : Nat, i ≠ j → s1.heap.objs.size + i ≠ s1.heap.objs.size + j := fun i j h e => h (Nat.add_left_cancel e)
    have n0 : ∀ i : Nat, i ≠ 0 → s1.heap.objs.size + i ≠ s1.heap.objs.size := fun i h e => h (Nat.add_left_cancel (n := s1.heap.objs.size) (m := i) (k := 0) e)
    refine ⟨?_, ?_, ?_, ?_, ?_, ?_, ?_⟩
    · simp only [List.nodup_cons, List.mem_cons, List.not_mem_nil, or_false, not_or, not_false_eq_true, List.nodup_nil, and_true]
      exact ⟨⟨ne 4 2 (by decide), ne 4 3 (by decide), n0 4 (by decide), ne 4 1 (by decide)⟩, ⟨ne 2 3 (by decide), n0 2 (by decide), ne 2 1 (by decide)⟩, ⟨n0 3 (by decide), ne 3 1 (by decide)⟩, Ne.symm (n0 1 (by decide))⟩
    · simp only [List.mem_cons, List.not_mem_nil, or_false, not_or]; exact ⟨n0 4 (by decide), q2 4⟩
    · simp only [List.mem_cons, List.not_mem_nil, or_false, not_or]; exact ⟨ne 4 1 (by decide), q3 4⟩
    · simp only [List.mem_cons, List.not_mem_nil, or_false, not_or]; exact ⟨n0 3 (by decide), q2 3⟩
    · simp only [List.mem_cons, List.not_mem_nil, or_false, not_or]; exact ⟨ne 3 1 (by decide), q3 3⟩
    · simp only [List.mem_cons, List.not_mem_nil, or_false, not_or]; exact ⟨Ne.symm (n0 1 (by decide)), q3 0⟩
    · simp only [List.mem_cons, List.not_mem_nil, or_false, not_or]; exact ⟨n0 1 (by decide), q2 1⟩
  refine ⟨_, _, _, _, H1, rfl, I1.kept (t' := s1.toks) hk, zdb b1 b2 l1 l2 _ _ _ _ _ ap (Nat.ne_of_lt lt1) (Nat.ne_of_lt (Nat.lt_succ_of_lt lt2)), ⟨hz, hTI, ⟨_, _, hTO⟩, hi1, hi2⟩, fun b hb => ?_, q⟩
  simp only [List.mem_cons, List.not_mem_nil, or_false] at hb
  rcases hb with rfl | rfl | rfl | rfl | rfl
  · exact hn _ (Nat.le_add_right _ _)
  · exact hn _ (Nat.le_add_right _ _)
  · exact hn _ (Nat.le_add_right _ _)
  · exact hn _ (Nat.le_refl _)
  · exact hn _ (Nat.le_add_right _ _)
end L2
namespace OwnSort
open PySem PyProof.Rows
section pure
variable {κ : KeyKind} {xs : Array Keyed}
theorem up1 {x : Nat} (hs : SortedToK κ xs x) (hx : 1 ≤ x) (h : κ.kle (KK κ xs (x - 1)) (KK κ xs x)) : SortedToK κ xs (x + 1) := fun i j hij hj => by
  by_cases c : j < x
  · exact hs i j hij c
  · obtain rfl : j = x := by omega
    by_cases d : i = j
    · rw [d]; exact KeyOrd.kle_refl _
    · exact KeyOrd.kle_trans (hs i (j - 1) (by omega) (by omega)) h
theorem zdi {x : Nat} (hs : NonIncK κ xs x) (hx : 1 ≤ x) (h : κ.kle (KK κ xs x) (KK κ xs (x - 1))) : NonIncK κ xs (x + 1) := fun i j hij hj => by
  by_cases c : j < x
  · exact hs i j hij c
  · obtain rfl : j = x := by omega
    by_cases d : i = j
    · rw [d]; exact KeyOrd.kle_refl _
    · exact KeyOrd.kle_trans h (hs i (j - 1) (by omega) (by omega))
theorem Zt {ys : Array Keyed} {n : Nat} (e : ∀ i, KK κ ys i = KK κ xs i) (h : NonIncK κ xs n) : NonIncK κ ys n := fun i j hij hj => by rw [e, e]; exact h i j hij hj
theorem turned {n : Nat} (hn : n ≤ xs.size) (h : NonIncK κ xs n) : SortedToK κ (mirror xs 0 n ((n - 0) / 2)) n := fun i j hij hj => by
  rw [KK_mirror hn, KK_mirror hn, if_pos ⟨by omega, by omega⟩, if_pos ⟨by omega, by omega⟩]
  exact h _ _ (by omega) (by omega)
theorem zaA : SortedToK κ xs 1 := fun i j hij hj => by
  obtain rfl : i = j := by omega
  exact KeyOrd.kle_refl _
theorem zas : NonIncK κ xs 1 := fun i j hij hj => by
  obtain rfl : i = j := by omega
  exact KeyOrd.kle_refl _
end pure
set_option genInjectivity false in
set_option genSizeOf false in
set_option genCtorIdx false in
structure SB (k : SortKind) (a₀ : Array Keyed) (st : SortSt) : Prop where
  pm : (arrOf st).Perm a₀
  kd : kindOf st = k
  fl : failedOf st = none
  pd : pendingOf st = #[]
theorem SB.sz {k : SortKind} {a₀ : Array Keyed} {st : SortSt} (B : SB k a₀ st) : (arrOf st).size = a₀.size := B.pm.size_eq
theorem SB.put {k : SortKind} {a₀ xs : Array Keyed} {st : SortSt} (B : SB k a₀ st) (p : xs.Perm (arrOf st)) : SB k a₀ (setArr st xs) := ⟨p.trans B.pm, B.kd, B.fl, B.pd⟩
section
variable {prog : Program} {w : World} {A : Around} {E : Value → Shared → Prop} {s : Shared} {a₀ : Array Keyed} {κ : KeyKind} {k : SortKind} {st : SortSt}
noncomputable def zdz (prog : Program) (w : World) (A : Around) (E : Value → Shared → Prop) (s : Shared) (a₀ : Array Keyed) (κ : KeyKind) (k : SortKind) : Prop :=
  ∀ (st : SortSt) (i j : Nat) (Q : Option Bool → SortSt → Prop), SB k a₀ st → i < a₀.size → j < a₀.size → Q (some (κ.blt (KK κ (arrOf st) i) (KK κ (arrOf st) j))) st → wpS (model prog w) A E s (ltAt' i j) Q st
theorem zbp {a n : Nat} {Q : AscSt → SortSt → Prop} (L : zdz prog w A E s a₀ κ k) (hn : n ≤ a₀.size) (ha : 1 ≤ a) (han : a ≤ n) (B : SB k a₀ st) (hs : SortedToK κ (arrOf st) a)
    (h : ∀ m, a ≤ m → m ≤ n → SortedToK κ (arrOf st) m → (m = n ∨ κ.klt (KK κ (arrOf st) m) (KK κ (arrOf st) (m - 1))) → Q (none, m) st) : wpS (model prog w) A E s (ascLoop a n) Q st := by
  unfold ascLoop
  refine wpS_forRange (I := fun x c t => (t = st ∧ c = (none, x)) ∧ SortedToK κ (arrOf st) x) (fun x c t h1 h2 hI => ?_) (fun c t hI => ?_) ⟨⟨rfl, rfl⟩, hs⟩
  · obtain ⟨⟨rfl, rfl⟩, hx⟩ := hI
    refine wpS_bind (L _ x (x - 1) _ B (by omega) (by omega) ?_)
    cases c : κ.blt (KK κ (arrOf t) x) (KK κ (arrOf t) (x - 1)) with
    | true => exact wpS_pure (h x h1 (by omega) hx (.inr c))
    | false => exact wpS_pure ⟨⟨rfl, rfl⟩, up1 hx (by omega) c⟩
  · obtain ⟨⟨rfl, rfl⟩, hx⟩ := hI
    have e : max a n = n := by omega
    rw [e] at hx ⊢
    exact h n han (Nat.le_refl _) hx (.inl rfl)
theorem zaj {n m : Nat} {Q : Option Nat → SortSt → Prop} (L : zdz prog w A E s a₀ κ k) (hm : m ≤ a₀.size) (h1 : 1 ≤ n) (hnm : n ≤ m) (B : SB k a₀ st) (hs : NonIncK κ (arrOf st) n)
    (h : ∀ r t, SB k a₀ t → 1 ≤ r → r ≤ m → SortedToK κ (arrOf t) r → Q (some r) t) : wpS (model prog w) A E s (tail3 n m) Q st := by
  unfold tail3
  have B' := B.put (mirror_perm (arrOf st) 0 n ((n - 0) / 2))
  exact wpS_bind (wpS_reverse (wpS_bind (zbp L hm h1 hnm B' (turned (by rw [B.sz]; omega) hs) fun r g1 g2 g3 _ => wpS_pure (h r _ B' (by omega) g2 g3))))
theorem zcH {n m : Nat} {Q : DescSt → SortSt → Prop} (L : zdz prog w A E s a₀ κ k) (hm : m ≤ a₀.size) (h1 : 1 ≤ n) (hnm : n ≤ m) (B : SB k a₀ st) (hs : NonIncK κ (arrOf st) n)
    (h : ∀ r q t, SB k a₀ t → n ≤ r → r ≤ m → NonIncK κ (arrOf t) r → q + 1 ≤ r → (∀ i, r - (q + 1) ≤ i → i < r → KK κ (arrOf t) i = KK κ (arrOf t) (r - 1)) → Q (none, r, q) t) : wpS (model prog w) A E s (descLoop n m) Q st := by
  unfold descLoop
  refine wpS_forRange (I := fun x c t => ∃ q, c = (none, x, q) ∧ SB k a₀ t ∧ NonIncK κ (arrOf t) x ∧ q + 1 ≤ x ∧ ∀ i, x - (q + 1) ≤ i → i < x → KK κ (arrOf t) i = KK κ (arrOf t) (x - 1))
    (fun x c t g1 g2 hI => ?_) (fun c t hI => ?_) ⟨0, rfl, B, hs, h1, fun i c1 c2 => by rw [show i = n - 1 from Nat.le_antisymm (Nat.le_sub_one_of_lt c2) c1]⟩
  · obtain ⟨q, rfl, B1, ni, hq, he⟩ := hI
    have hxs : x < a₀.size := Nat.lt_of_lt_of_le g2 hm
    have hxs1 : x - 1 < a₀.size := Nat.lt_of_le_of_lt (Nat.sub_le _ _) hxs
    have hx1 : 1 ≤ x := Nat.le_trans h1 g1
    have hz : x ≤ (arrOf t).size := by rw [B1.sz]; exact Nat.le_of_lt hxs
    refine wpS_bind (L _ x (x - 1) _ B1 hxs hxs1 ?_)
    cases c : κ.blt (KK κ (arrOf t) x) (KK κ (arrOf t) (x - 1)) with
    | true =>
      have d := zdi ni hx1 (KeyOrd.kle_of_klt c)
      by_cases hq0 : q > 0
      · show wpS _ _ _ _ (if q > 0 then _ else _) _ _
        rw [if_pos hq0]
        exact wpS_bind (wpS_reverse (wpS_pure ⟨0, rfl, B1.put (mirror_perm _ _ _ _), Zt (KK_mirror_equal hz he) d, Nat.succ_le_succ (Nat.zero_le _), fun i c1 c2 => by rw [show i = x + 1 - 1 from Nat.le_antisymm (Nat.le_of_lt_succ c2) c1]⟩))
      · show wpS _ _ _ _ (if q > 0 then _ else _) _ _
        rw [if_neg hq0]
        exact wpS_pure ⟨0, rfl, B1, d, Nat.succ_le_succ (Nat.zero_le _), fun i c1 c2 => by rw [show i = x + 1 - 1 from Nat.le_antisymm (Nat.le_of_lt_succ c2) c1]⟩
    | false =>
      refine wpS_bind (L _ (x - 1) x _ B1 hxs1 hxs ?_)
      cases c2 : κ.blt (KK κ (arrOf t) (x - 1)) (KK κ (arrOf t) x) with
      | true => exact wpS_pure (h x q t B1 g1 (Nat.le_of_lt g2) ni hq he)
      | false =>
        have same : KK κ (arrOf t) x = KK κ (arrOf t) (x - 1) := KeyOrd.kle_antisymm c2 c
        refine wpS_pure ⟨q + 1, rfl, B1, zdi ni hx1 c2, Nat.succ_le_succ hq, fun i d1 d2 => ?_⟩
        show KK κ (arrOf t) i = KK κ (arrOf t) x
        by_cases di : i = x
        · rw [di]
        · rw [same]; exact he i (by omega) (by omega)
  · obtain ⟨q, rfl, B1, ni, hq, he⟩ := hI
    have e : max n m = m := Nat.max_eq_right hnm
    rw [e] at ni hq he ⊢
    exact h m q t B1 hnm (Nat.le_refl _) ni hq he
theorem YH {n m : Nat} {Q : Option Nat → SortSt → Prop} (L : zdz prog w A E s a₀ κ k) (hm : m ≤ a₀.size) (hnm : n + 1 ≤ m) (B : SB k a₀ st) (hs : NonIncK κ (arrOf st) (n + 1))
    (h : ∀ r t, SB k a₀ t → 1 ≤ r → r ≤ m → SortedToK κ (arrOf t) r → Q (some r) t) : wpS (model prog w) A E s (descPart n m) Q st := by
  unfold descPart
  refine wpS_bind (wpS_lift (wpAny_rule ⟨rfl, wpS_bind (zcH L hm (by omega) hnm B hs fun r q t B1 r1 r2 ni hq he => ?_)⟩))
  have hz : r ≤ (arrOf t).size := by rw [B1.sz]; omega
  by_cases hq0 : q > 0
  · show wpS _ _ _ _ (if q > 0 then _ else _) _ _
    rw [if_pos hq0]
    exact wpS_bind (wpS_reverse (zaj (n := r) L hm (by omega) r2 (B1.put (mirror_perm _ _ _ _)) (Zt (KK_mirror_equal hz he) ni) h))
  · show wpS _ _ _ _ (if q > 0 then _ else _) _ _
    rw [if_neg hq0]
    exact zaj (n := r) L hm (by omega) r2 B1 ni h
theorem zel {m : Nat} {Q : Option Nat → SortSt → Prop} (L : zdz prog w A E s a₀ κ k) (hm : m ≤ a₀.size) (h1 : 1 ≤ m) (B : SB k a₀ st)
    (h : ∀ r t, SB k a₀ t → 1 ≤ r → r ≤ m → SortedToK κ (arrOf t) r → Q (some r) t) : wpS (model prog w) A E s (countRun' 0 m) Q st := by
  rw [countRun0_eq]
  refine wpS_bind (zbp L hm (Nat.le_refl 1) h1 B zaA fun n n1 n2 sn or => ?_)
  show wpS _ _ _ _ (if (n == m) = true then _ else if n > 1 then _ else _) _ _
  by_cases e : n = m
  · rw [if_pos (by rw [e]; exact beq_self_eq_true m)]
    exact wpS_pure (h n st B n1 n2 sn)
  · rw [if_neg (fun z => e (eq_of_beq z))]
    have lt := or.resolve_left e
    by_cases g : n > 1
    · rw [if_pos g]
      refine wpS_bind (L _ 0 (n - 1) _ B (by omega) (by omega) ?_)
      cases c : κ.blt (KK κ (arrOf st) 0) (KK κ (arrOf st) (n - 1)) with
      | true => exact wpS_pure (h n st B n1 n2 sn)
      | false =>
        have hz : n ≤ (arrOf st).size := by rw [B.sz]; omega
        have eq : ∀ i, 0 ≤ i → i < n → KK κ (arrOf st) i = KK κ (arrOf st) (n - 1) := fun i _ hi =>
          KeyOrd.kle_antisymm (sn i (n - 1) (by omega) (by omega)) (KeyOrd.kle_trans c (sn 0 i (by omega) hi))
        have ni : NonIncK κ (arrOf st) n := fun i j _ hj => by rw [eq i (by omega) (by omega), eq j (by omega) hj]; exact KeyOrd.kle_refl _
        exact wpS_bind (wpS_reverse (YH L hm (by omega) (B.put (mirror_perm _ _ _ _)) (Zt (KK_mirror_equal hz eq) (zdi ni (by omega) (KeyOrd.kle_of_klt lt))) h))
    · rw [if_neg g]
      obtain rfl : n = 1 := by omega
      exact YH L hm (by omega) B (zdi zas (Nat.le_refl 1) (KeyOrd.kle_of_klt lt)) h
theorem zff {l u md : Nat} (h : (l + u) / 2 = md) (c : ¬ l ≥ u) : l ≤ md ∧ md < u := by
  have c' : l < u := Nat.lt_of_not_le c
  rw [← h]
  exact ⟨(Nat.le_div_iff_mul_le (by decide)).mpr (by rw [Nat.mul_two]; exact Nat.add_le_add_left (Nat.le_of_lt c') l), (Nat.div_lt_iff_lt_mul (by decide)).mpr (by rw [Nat.mul_two]; exact Nat.add_lt_add_right c' u)⟩
theorem zgQ {l u md x y : Nat} (m1 : l ≤ md) (m2 : md < u) (e3 : u - l ≤ x - y) : md - l ≤ x - (y + 1) :=
  Nat.le_trans (Nat.le_sub_one_of_lt (Nat.sub_lt_sub_right m1 m2)) (Nat.sub_le_sub_right e3 1)
theorem zgH {l u md x y : Nat} (m1 : l ≤ md) (e3 : u - l ≤ x - y) : u - (md + 1) ≤ x - (y + 1) :=
  Nat.le_trans (Nat.sub_le_sub_left (Nat.succ_le_succ m1) u) (Nat.sub_le_sub_right e3 1)
theorem zfp (r n : Nat) : min (max (max r 1) n) n = n := Nat.min_eq_right (Nat.le_max_right _ _)
theorem zfk {r n : Nat} (r0 : ¬ r = 0) (hr : r ≤ n) : min (max r 1) n = r := by
  rw [Nat.max_eq_left (Nat.pos_of_ne_zero r0), Nat.min_eq_left hr]
theorem zgl {i j r n : Nat} (hr : r = 0) (hij : i ≤ j) (hj : j < min (max r 1) n) : i = j := by
  subst hr
  have h0 : j = 0 := Nat.lt_one_iff.mp (Nat.lt_of_lt_of_le hj (Nat.min_le_left _ _))
  subst h0
  exact Nat.le_zero.mp hij
theorem zeE {n r : Nat} {Q : Bool → SortSt → Prop} (L : zdz prog w A E s a₀ κ k) (hn : n ≤ a₀.size) (hr : r ≤ n) (B : SB k a₀ st) (hs : SortedToK κ (arrOf st) r)
    (h : ∀ t, SB k a₀ t → SortedToK κ (arrOf t) n → Q true t) : wpS (model prog w) A E s (binarySort' 0 n r) Q st := by
  rw [binarySort'_eq]
  refine wpS_bind (wpS_mono (wpS_forRange (I := fun x c t => (c = (none, ()) ∧ SB k a₀ t) ∧ SortedToK κ (arrOf t) (min x n)) (Q := fun c t => (c = (none, ()) ∧ SB k a₀ t) ∧ SortedToK κ (arrOf t) n)
    (fun x c t g1 g2 hI => ?_) (fun c t hI => ?_) ⟨⟨rfl, B⟩, ?_⟩) fun c t hI => ?_)
  · obtain ⟨⟨rfl, B1⟩, sx⟩ := hI
    rw [Nat.min_eq_left (Nat.le_of_lt g2)] at sx
    have hx : x < a₀.size := Nat.lt_of_lt_of_le g2 hn
    refine wpS_bind (wpS_mono (wpS_forRange
      (I := fun y c t' => t' = t ∧ ∃ l u, c = (none, l, u) ∧ (l ≤ u ∧ u ≤ x ∧ u - l ≤ x - y) ∧ (∀ i, i < l → κ.kle (KK κ (arrOf t) i) (KK κ (arrOf t) x)) ∧ ∀ i, u ≤ i → i < x → κ.klt (KK κ (arrOf t) x) (KK κ (arrOf t) i))
      (Q := fun c t' => t' = t ∧ ∃ l u, c = (none, l, u) ∧ l ≤ x ∧ (∀ i, i < l → κ.kle (KK κ (arrOf t) i) (KK κ (arrOf t) x)) ∧ ∀ i, l ≤ i → i < x → κ.klt (KK κ (arrOf t) x) (KK κ (arrOf t) i))
      (fun y c t' y1 y2 hJ => ?_) (fun c t' hJ => ?_) ⟨rfl, 0, x, rfl, ⟨Nat.zero_le _, Nat.le_refl _, Nat.le_refl _⟩, fun i hi => absurd hi (Nat.not_lt_zero _), fun i i1 i2 => absurd (Nat.lt_of_le_of_lt i1 i2) (Nat.lt_irrefl _)⟩) fun c t' hJ => ?_)
    · obtain ⟨rfl, l, u, rfl, ⟨e1, e2, e3⟩, lo, up⟩ := hJ
      show wpS _ _ _ _ (if l ≥ u then _ else _) _ _
      by_cases c1 : l ≥ u
      · rw [if_pos c1]
        obtain rfl : l = u := Nat.le_antisymm e1 c1
        exact wpS_pure ⟨rfl, l, l, rfl, e2, lo, up⟩
      · rw [if_neg c1]
        generalize hmd : (l + u) / 2 = md
        obtain ⟨m1, m2⟩ := zff hmd c1
        clear hmd c1 e1
        refine wpS_bind (L _ (0 + x) (0 + md) _ B1 (by rw [Nat.zero_add]; exact hx) (by rw [Nat.zero_add]; exact Nat.lt_of_lt_of_le m2 (Nat.le_trans e2 (Nat.le_of_lt hx))) ?_)
        rw [Nat.zero_add, Nat.zero_add]
        cases c2 : κ.blt (KK κ (arrOf t') x) (KK κ (arrOf t') md) with
        | true => exact wpS_pure ⟨rfl, l, md, rfl, ⟨m1, Nat.le_trans (Nat.le_of_lt m2) e2, zgQ m1 m2 e3⟩, lo, fun i i1 i2 => KeyOrd.klt_of_klt_of_kle c2 (sx _ _ i1 i2)⟩
        | false => exact wpS_pure ⟨rfl, md + 1, u, rfl, ⟨m2, e2, zgH m1 e3⟩, fun i i1 => KeyOrd.kle_trans (sx i md (Nat.le_of_lt_succ i1) (Nat.lt_of_lt_of_le m2 e2)) c2, up⟩
    · obtain ⟨rfl, l, u, rfl, ⟨e1, e2, e3⟩, lo, up⟩ := hJ
      obtain rfl : l = u := by omega
      exact ⟨rfl, l, l, rfl, e2, lo, up⟩
    · obtain ⟨rfl, l, u, rfl, e2, lo, up⟩ := hJ
      show wpS _ _ _ _ (do moveDown' (0 + x) (0 + l); pure (ForInStep.yield (none, ()))) _ _
      rw [moveDown'_eq, Nat.zero_add, Nat.zero_add]
      refine wpS_bind (wpS_modify (wpS_pure ⟨⟨rfl, B1.put (bubble_perm _ _ _)⟩, ?_⟩))
      have hz : x < (arrOf t').size := by rw [B1.sz]; exact hx
      rw [Nat.min_eq_left (Nat.succ_le_of_lt g2)]
      show SortedToK κ (bubble (arrOf t') x (x - l)) (x + 1)
      intro i j hij hj
      rw [KK_bubble hz (Nat.sub_le _ _), KK_bubble hz (Nat.sub_le _ _), Nat.sub_sub_self e2]
      by_cases i1 : i = l
      · rw [if_pos i1]
        by_cases j1 : j = l
        · rw [if_pos j1]; exact KeyOrd.kle_refl _
        · have lj : l < j := Nat.lt_of_le_of_ne (by rw [← i1]; exact hij) (fun e => j1 e.symm)
          rw [if_neg j1, if_pos ⟨lj, Nat.le_of_lt_succ hj⟩]; exact KeyOrd.kle_of_klt (up _ (Nat.le_sub_one_of_lt lj) (Nat.lt_of_lt_of_le (Nat.sub_lt (Nat.zero_lt_of_lt lj) Nat.one_pos) (Nat.le_of_lt_succ hj)))
      · rw [if_neg i1]
        by_cases i2 : l < i ∧ i ≤ x
        · have lj := Nat.lt_of_lt_of_le i2.1 hij
          rw [if_pos i2, if_neg (fun e => absurd lj (by rw [e]; exact Nat.lt_irrefl _)), if_pos ⟨lj, Nat.le_of_lt_succ hj⟩]; exact sx _ _ (Nat.sub_le_sub_right hij 1) (Nat.lt_of_lt_of_le (Nat.sub_lt (Nat.zero_lt_of_lt lj) Nat.one_pos) (Nat.le_of_lt_succ hj))
        · rw [if_neg i2]
          have i3 : i < l := Nat.lt_of_le_of_ne (Nat.le_of_not_lt fun h => i2 ⟨h, Nat.le_trans hij (Nat.le_of_lt_succ hj)⟩) i1
          clear i2 i1
          by_cases j1 : j = l
          · rw [if_pos j1]; exact lo i i3
          · rw [if_neg j1]
            by_cases j2 : l < j ∧ j ≤ x
            · rw [if_pos j2]; exact sx _ _ (Nat.le_sub_one_of_lt (Nat.lt_trans i3 j2.1)) (Nat.lt_of_lt_of_le (Nat.sub_lt (Nat.zero_lt_of_lt j2.1) Nat.one_pos) (Nat.le_of_lt_succ hj))
            · rw [if_neg j2]; exact sx _ _ hij (Nat.lt_of_lt_of_le (Nat.lt_of_le_of_ne (Nat.le_of_not_lt fun h => j2 ⟨h, Nat.le_of_lt_succ hj⟩) j1) e2)
  · obtain ⟨⟨e1, B1⟩, sx⟩ := hI
    rw [zfp] at sx
    exact ⟨⟨e1, B1⟩, sx⟩
  · by_cases r0 : r = 0
    · intro i j hij hj
      obtain rfl : i = j := zgl r0 hij hj
      exact KeyOrd.kle_refl _
    · rw [zfk r0 hr]; exact hs
  · obtain ⟨⟨rfl, B1⟩, sx⟩ := hI
    exact wpS_pure (h t B1 sx)
theorem zcC {Q : Unit → SortSt → Prop} (L : zdz prog w A E s a₀ κ k) (B : SB k a₀ st) (h2 : 2 ≤ a₀.size) (h64 : a₀.size < 64)
    (h : ∀ t, (arrOf t).Perm a₀ → failedOf t = none → SortedToK κ (arrOf t) a₀.size → Q () t) : wpS (model prog w) A E s sortRuns' Q st := by
  rw [sortRuns'_eq]
  have mr : minRun' a₀.size a₀.size 0 = a₀.size := by
    cases e : a₀.size with
    | zero => omega
    | succ f => rw [minRun'_succ, if_pos (by omega), Nat.add_zero]
  refine wpS_bind (wpS_get ?_)
  simp only [B.sz, mr]
  let Dn : SortSt → Prop := fun t => (arrOf t).Perm a₀ ∧ failedOf t = none ∧ pendingOf t = #[(0, a₀.size, 0)] ∧ SortedToK κ (arrOf t) a₀.size
  have fin : ∀ t, SB k a₀ t → SortedToK κ (arrOf t) a₀.size → Dn (setPending t ((pendingOf t).push (0, a₀.size, 0))) := fun t B1 sx => ⟨B1.pm, B1.fl, by show (pendingOf t).push _ = _; rw [B1.pd]; rfl, sx⟩
  refine wpS_bind (wpS_mono (wpS_forRange (I := fun x c t => (x = 0 ∧ c = (none, 0) ∧ SB k a₀ t) ∨ (1 ≤ x ∧ c = (none, a₀.size) ∧ Dn t)) (Q := fun c t => c = (none, a₀.size) ∧ Dn t)
    (fun x c t g1 g2 hI => ?_) (fun c t hI => ?_) (.inl ⟨rfl, rfl, B⟩)) fun c t hI => ?_)
  · rcases hI with ⟨rfl, rfl, B1⟩ | ⟨_, rfl, D1⟩
    · show wpS _ _ _ _ (if 0 ≥ a₀.size then _ else _) _ _
      rw [if_neg (by omega)]
      simp only [Nat.sub_zero, Nat.min_self, Nat.zero_add]
      refine wpS_bind (zel L (Nat.le_refl _) (by omega) B1 fun r t2 B2 r1 r2 s2 => ?_)
      show wpS _ _ _ _ (if r < a₀.size then _ else _) _ _
      by_cases c1 : r < a₀.size
      · rw [if_pos c1]
        refine wpS_bind (wpS_lift (wpAny_rule ⟨rfl, wpS_bind (zeE L (Nat.le_refl _) r2 B2 s2 fun t3 B3 s3 => ?_)⟩))
        refine wpS_bind (wpS_get ?_)
        rw [show (pendingOf t3).back? = none by rw [B3.pd]; rfl]
        exact wpS_bind (wpS_modify (wpS_pure (.inr ⟨by omega, rfl, fin t3 B3 s3⟩)))
      · rw [if_neg c1]
        obtain rfl : r = a₀.size := by omega
        refine wpS_bind (wpS_get ?_)
        rw [show (pendingOf t2).back? = none by rw [B2.pd]; rfl]
        exact wpS_bind (wpS_modify (wpS_pure (.inr ⟨by omega, rfl, fin t2 B2 s2⟩)))
    · show wpS _ _ _ _ (if a₀.size ≥ a₀.size then _ else _) _ _
      rw [if_pos (Nat.le_refl _)]
      exact wpS_pure ⟨rfl, D1⟩
  · rcases hI with ⟨z, _, _⟩ | ⟨_, e, D1⟩
    · omega
    · exact ⟨e, D1⟩
  · obtain ⟨rfl, d1, d2, d3, d4⟩ := hI
    refine wpS_bind (wpS_mono (wpS_forRange (I := fun _ c t' => t' = t ∧ c = (none, ())) (Q := fun c t' => t' = t ∧ c = (none, ())) (fun x c t' _ _ hI => ?_) (fun _ _ z => z) ⟨rfl, rfl⟩) fun c t' hI => ?_)
    · obtain ⟨rfl, rfl⟩ := hI
      refine wpS_bind (wpS_get ?_)
      rw [if_pos (by rw [d3]; exact Nat.le_refl 1)]
      exact wpS_pure ⟨rfl, rfl⟩
    · obtain ⟨rfl, rfl⟩ := hI
      exact wpS_pure (h _ d1 d2 d4)
end
end OwnSort
namespace OwnSort
open PySem PyProof.Rows
noncomputable abbrev Pr := Int × Int
noncomputable def bltP (s t : Pr) : Bool := decide (s.1 < t.1 ∨ (s.1 = t.1 ∧ s.2 < t.2))
noncomputable def TP (h : Heap) (v : Value) (t : Pr) : Prop := ∃ a o n tx ty, v = .ref a ∧ h.get? a = some o ∧ o.cls = .type "tuple" ∧ o.data = .seq #[.int t.1 tx, .int t.2 ty] n
theorem TP.uniq {h : Heap} {v : Value} {s t : Pr} (x : TP h v s) (y : TP h v t) : s = t := by
  obtain ⟨a, o, n, tx, ty, rfl, e1, _, d1⟩ := x
  obtain ⟨b, o2, n2, ux, uy, e, e2, _, d2⟩ := y
  cases e
  rw [e1] at e2
  cases e2
  rw [d1] at d2
  injection d2 with d2 _
  have := congrArg Array.toList d2
  simp at this
  exact Prod.ext this.1.1 this.2.1
theorem TP.keep {h h' : Heap} {v : Value} {t : Pr} (x : TP h v t) (k : ∀ b o, h.get? b = some o → h'.get? b = some o) : TP h' v t := by
  obtain ⟨a, o, n, tx, ty, e, e1, r⟩ := x
  exact ⟨a, o, n, tx, ty, e, k _ _ e1, r⟩
open Classical in
noncomputable def keyP (h : Heap) (v : Value) : Option Pr := if x : ∃ t, TP h v t then some x.choose else none
theorem keyP_of {h : Heap} {v : Value} {t : Pr} (x : TP h v t) : keyP h v = some t := by
  unfold keyP
  have y : ∃ t, TP h v t := ⟨t, x⟩
  rw [dif_pos y, y.choose_spec.uniq x]
@[reducible] noncomputable def zcy (h : Heap) : KeyKind where
  α := Pr
  blt := bltP
  irrefl a := by unfold bltP; exact decide_eq_false (by omega)
  trans a b c h1 h2 := by unfold bltP at *; rw [decide_eq_true_eq] at *; omega
  negTrans a b c h := by unfold bltP at *; rw [decide_eq_true_eq] at *; rw [decide_eq_true_eq]; omega
  total a b h1 h2 := by
    unfold bltP at *
    rw [decide_eq_false_iff_not] at *
    exact Prod.ext (by omega) (by omega)
  keyOf := keyP h
  dflt := (0, 0)
theorem za0 (b : Bool) (x y : Value) : keyLt' (tuples' b) x y = (do
    let xs ← Builtin.List.listItems x
    let ys ← Builtin.List.listItems y
    for ((p, q), i) in (xs.toList.zip ys.toList).zipIdx do
      if !(← eqBool p q) then return ← oneLt' (b && i == 0) p q
    return xs.size < ys.size) := rfl
theorem zcf (v : Value) : firstOfTuple' v = (do
    if (← typeOf v) != .type "tuple" then return none
    return (← Builtin.List.listItems v)[0]?) := rfl
section
variable {prog : Program} {w : World} {A : Around} {E : Value → Shared → Prop} {s : Shared}
theorem lt0 {a b : Int} {t u : Tok} {Q : Bool → Shared → Prop} (h : Q (decide (a < b)) s) : wpAny (model prog w) A (oneLt' false (.int a t) (.int b u)) Q E s := by
  rw [oneLt'_eq]
  rw [if_neg Bool.false_ne_true]
  exact wpAny_bind (PyProof.Rows.lt_int (wpAny_truthy_bool h))
theorem zfo {x y : Value} {a b : Pr} {Q : Bool → Shared → Prop} (hx : TP s.heap x a) (hy : TP s.heap y b) (h : Q (bltP a b) s) : wpAny (model prog w) A (keyLt' (tuples' true) x y) Q E s := by
  obtain ⟨p, o, n, t1, t2, rfl, e1, _, d1⟩ := hx
  obtain ⟨q, o2, n2, u1, u2, rfl, e2, _, d2⟩ := hy
  rw [za0]
  refine wpAny_bind (listItems_at e1 d1 (wpAny_bind (listItems_at e2 d2 ?_)))
  simp only [List.zip_cons_cons, List.zip_nil_right, List.zipIdx_cons, List.zipIdx_nil, List.forIn_cons, List.forIn_nil]
  refine wpAny_bind (wpAny_bind (wpAny_bind (SeqAt.EqAt.int_int a.1 t1 b.1 u1 prog w E _ ?_)))
  by_cases c : a.1 = b.1
  · rw [show (a.1 == b.1) = true by rw [c]; exact beq_self_eq_true _]
    refine wpAny_pure (wpAny_bind (wpAny_bind (SeqAt.EqAt.int_int a.2 t2 b.2 u2 prog w E _ ?_)))
    by_cases c2 : a.2 = b.2
    · rw [show (a.2 == b.2) = true by rw [c2]; exact beq_self_eq_true _]
      refine wpAny_pure (wpAny_pure (wpAny_pure ?_))
      have : bltP a b = false := by unfold bltP; exact decide_eq_false (by omega)
      rw [this] at h
      exact h
    · rw [show (a.2 == b.2) = false by simpa using c2]
      refine wpAny_bind (lt0 (wpAny_pure (wpAny_pure (wpAny_pure ?_))))
      have : bltP a b = decide (a.2 < b.2) := by unfold bltP; congr 1; apply propext; omega
      rw [this] at h
      exact h
  · rw [show (a.1 == b.1) = false by simpa using c]
    refine wpAny_bind (oneLt_int (wpAny_pure (wpAny_pure (wpAny_pure ?_))))
    have : bltP a b = decide (a.1 < b.1) := by unfold bltP; congr 1; apply propext; omega
    rw [this] at h
    exact h
theorem zcA {vs : List Value} (hT : ∀ v ∈ vs, ∃ t, TP s.heap v t) : zdz prog w A E s (pairsOf vs) (zcy s.heap) (tuples' true) := by
  intro st i j Q B hi hj h
  have look : ∀ {i : Nat}, i < (pairsOf vs).size → ∃ x p t, (arrOf st)[i]? = some (x, p) ∧ TP s.heap x t ∧ KK (zcy s.heap) (arrOf st) i = t := fun {i} hi => by
    have hi' : i < (arrOf st).size := by rw [B.sz]; exact hi
    have hm : (arrOf st)[i] ∈ (pairsOf vs).toList := (Array.perm_iff_toList_perm.mp B.pm).mem_iff.mp (by simp)
    rw [pairsOf_toList] at hm
    obtain ⟨t, ht⟩ := hT _ (mem_zip_self hm).2
    refine ⟨(arrOf st)[i].1, (arrOf st)[i].2, t, getElem?_pos _ i hi', ht, ?_⟩
    unfold KK
    rw [getElem?_pos _ i hi']
    show (keyP s.heap (arrOf st)[i].1).getD _ = t
    rw [keyP_of ht]
    rfl
  obtain ⟨x, p, a, e1, ta, ka⟩ := look hi
  obtain ⟨y, q, b, e2, tb, kb⟩ := look hj
  rw [ka, kb] at h
  rw [ltAt'_eq]
  refine wpS_bind (wpS_get ?_)
  show wpS _ _ _ _ (elem' (arrOf st) i >>= fun x => elem' (arrOf st) j >>= fun y => lt' x y) Q st
  rw [elem'_eq, elem'_eq, e1, e2]
  refine wpS_bind (wpS_pure (wpS_bind (wpS_pure ?_)))
  rw [lt'_eq]
  refine wpS_bind (wpS_get ?_)
  rw [B.kd]
  exact wpS_bind (wpS_lift (wpAny_attempt (zfo ta tb ⟨rfl, wpS_pure h⟩)))
theorem Wy : ∀ {vs : List Value} {Q : List (Option Value) → Shared → Prop}, (∀ v ∈ vs, ∃ t, TP s.heap v t) → (∀ fs : List Value, fs.length = vs.length → (∀ f ∈ fs, ∃ i t, f = .int i t) → Q (fs.map some) s) → wpAny (model prog w) A (vs.mapM firstOfTuple') Q E s
  | [], Q, _, h => by rw [List.mapM_nil]; exact wpAny_pure (h [] rfl (by simp))
  | v :: vs, Q, hT, h => by
    obtain ⟨t, a, o, n, t1, t2, rfl, e1, c1, d1⟩ := hT v List.mem_cons_self
    rw [List.mapM_cons, zcf]
    refine wpAny_bind (wpAny_bind (wpAny_typeOf (T := "tuple") ⟨o, e1, c1⟩ ?_))
    rw [if_neg (by simp)]
    refine wpAny_bind (listItems_at e1 d1 (wpAny_pure (wpAny_bind (Wy (fun u hu => hT u (List.mem_cons_of_mem _ hu)) fun fs hl hf => wpAny_pure ?_))))
    exact h (.int t.1 t1 :: fs) (by simp [hl]) fun f hf' => by
      rcases List.mem_cons.mp hf' with rfl | hf'
      · exact ⟨_, _, rfl⟩
      · exact hf f hf'
theorem zag : ∀ {fs : List Value}, (∀ f ∈ fs, ∃ i t, f = .int i t) → fs.mapM typeOf = pure (fs.map fun _ => Value.type "int")
  | [], _ => by simp
  | f :: fs, h => by
    obtain ⟨i, t, rfl⟩ := h f List.mem_cons_self
    rw [List.mapM_cons, zag fun g hg => h g (List.mem_cons_of_mem _ hg), show typeOf (.int i t) = pure (.type "int") from rfl]
    simp
theorem zaC {v₁ : Value} {vs : List Value} {Q : SortKind → Shared → Prop} (hT : ∀ v ∈ v₁ :: vs, ∃ t, TP s.heap v t) (h : Q (tuples' true) s) : wpAny (model prog w) A (keyKind' (v₁ :: vs).toArray) Q E s := by
  rw [keyKind'_eq, List.mapM_toArray, ← bind_pure_comp, bind_assoc]
  refine wpAny_bind (Wy hT fun fs hl hf => wpAny_bind (wpAny_pure ?_))
  cases fs with
  | nil => simp at hl
  | cons f fs =>
    rw [if_pos (by simp)]
    have ef : ((f :: fs).map some).toArray.filterMap id = (f :: fs).toArray := by simp
    refine wpAny_bind (wpAny_rule ?_)
    rw [ef, oneTypeOnly'_eq, List.mapM_toArray, zag hf]
    simp only [map_pure, pure_bind]
    rw [show (List.map (fun _ => Value.type "int") (f :: fs)).toArray[0]? = some (Value.type "int") by simp]
    have al : ((List.map (fun _ => Value.type "int") (f :: fs)).toArray.all fun x => x == Value.type "int") = true := by
      simp only [List.all_toArray, List.all_map, List.all_eq_true]
      intro _ _
      rfl
    simp only [al, if_true, pure_bind, Option.any_some]
    rw [show (Value.type "int" != Value.type "tuple") = true by decide +kernel]
    exact wpAny_pure h
end
end OwnSort
namespace OwnSort
open PySem PyProof.Rows
theorem TP.keepT {h h' : Heap} {v : Value} {t : Pr} (x : TP h v t) (k : ∀ b o, o.cls = .type "tuple" → h.get? b = some o → h'.get? b = some o) : TP h' v t := by
  obtain ⟨a, o, n, tx, ty, e, e1, c, r⟩ := x
  exact ⟨a, o, n, tx, ty, e, k _ _ c e1, c, r⟩
noncomputable def zhg (h : Heap) (out : List Value) : Prop := ∃ ts : List Pr, out.length = ts.length ∧ (∀ (i : Nat) (v : Value) (t : Pr), out[i]? = some v → ts[i]? = some t → TP h v t) ∧ ts.Pairwise fun a b => bltP b a = false
theorem zbF {h h' : Heap} {vs : List Value} {xs : Array Keyed} (hT : ∀ v ∈ vs, ∃ t, TP h v t) (hk : ∀ v t, TP h v t → TP h' v t) (pm : xs.Perm (pairsOf vs)) (hs : SortedToK (zcy h') xs (pairsOf vs).size) : (xs.map (·.2)).toList.Perm vs ∧ zhg h (xs.map (·.2)).toList := by
  have hl : xs.toList.Perm (vs.zip vs) := by rw [← pairsOf_toList]; exact Array.perm_iff_toList_perm.mp pm
  have hm : ∀ p ∈ xs.toList, p.1 = p.2 ∧ p.1 ∈ vs := fun p hp => mem_zip_self (hl.mem_iff.mp hp)
  have e2 : (xs.map (·.2)).toList = xs.toList.map (·.2) := by simp
  rw [e2]
  refine ⟨?_, xs.toList.map fun p => (keyP h' p.1).getD (0, 0), by simp, fun i v t hv ht => ?_, ?_⟩
  · have := hl.map (·.2)
    rwa [show (vs.zip vs).map (·.2) = vs from List.map_snd_zip (Nat.le_refl _)] at this
  · rw [List.getElem?_map] at hv ht
    cases hx : xs.toList[i]? with
    | none => rw [hx] at hv; cases hv
    | some p =>
      rw [hx] at hv ht
      cases hv
      cases ht
      obtain ⟨q1, q2⟩ := hm p (List.mem_of_getElem? hx)
      obtain ⟨t, ht⟩ := hT _ q2
      show TP h p.2 ((keyP h' p.1).getD (0, 0))
      rw [keyP_of (hk _ _ ht), ← q1]
      exact ht
  · rw [List.pairwise_iff_getElem]
    intro i j hi hj hij
    have hi' : i < xs.size := by simpa using hi
    have hj' : j < xs.size := by simpa using hj
    have := hs i j (Nat.le_of_lt hij) (by rw [← pm.size_eq]; exact hj')
    unfold KK at this
    rw [getElem?_pos xs i hi', getElem?_pos xs j hj'] at this
    have this : bltP ((keyP h' xs[j].1).getD (0, 0)) ((keyP h' xs[i].1).getD (0, 0)) = false := this
    simpa using this
section
variable {prog : Program} {w : World} {A : Around} {E : Value → Shared → Prop} {s : Shared}
theorem XE {a : Addr} {vs : List Value} {n : Nat} {P : Fin → Shared → Prop} (ho : s.heap.get? a = some (seqObj "list" vs.toArray n)) (hT : ∀ v ∈ vs, ∃ t, TP s.heap v t) (h64 : vs.length < 64)
    (h : ∀ out : Array Value, out.toList.Perm vs → zhg s.heap out.toList → P (.done (.ret .none)) { s with heap := sortedHeap s.heap a vs out }) : wpAny (model prog w) A (Builtin.«list.sort» ⟨[.ref a], []⟩) P E s := by
  have la : a < s.heap.objs.size := Heap.lt_size ho
  have zl : vs.toArray.size = vs.length := List.size_toArray
  obtain ⟨e1, o1⟩ : ∃ e1, (s.heap.update a (Obj.mapSeq fun _ => #[])).get? a = some (seqObj "list" #[] e1) := ⟨_, get?_update_seq ho (fun _ => #[])⟩
  have o6 : (((s.heap.update a (Obj.mapSeq fun _ => #[])).push (seqObj "tuple" vs.toArray 0)).push (seqObj "list" #[] 0)).get? a = some (seqObj "list" #[] e1) := Heap.get?_push_of_some _ (Heap.get?_push_of_some _ o1)
  have up : ∀ b o, o.cls = .type "tuple" → s.heap.get? b = some o → (((s.heap.update a (Obj.mapSeq fun _ => #[])).push (seqObj "tuple" vs.toArray 0)).push (seqObj "list" #[] 0)).get? b = some o := fun b o c e => by
    refine Heap.get?_push_of_some _ (Heap.get?_push_of_some _ ((Heap.get?_update_other _ _ fun z => ?_).trans e))
    subst z
    rw [ho] at e
    cases e
    exact absurd (show Value.type "list" = Value.type "tuple" from c) (by decide +kernel)
  have hT6 : ∀ v ∈ vs, ∃ t, TP (((s.heap.update a (Obj.mapSeq fun _ => #[])).push (seqObj "tuple" vs.toArray 0)).push (seqObj "list" #[] 0)) v t := fun v hv => let ⟨t, ht⟩ := hT v hv; ⟨t, ht.keepT up⟩
  rw [list_sort_plain]
  refine wpAny_bind (listItems_at ho rfl (wpAny_bind (listUpdate_at ho rfl (wpAny_bind (seqEpoch_at o1 rfl (wpAny_bind (wpAny_newTuple (wpAny_bind (wpAny_newList (wpAny_holding ?_))))))))))
  show wpAny (model prog w) A _ P E { s with heap := ((s.heap.update a (Obj.mapSeq fun _ => #[])).push (seqObj "tuple" vs.toArray 0)).push (seqObj "list" #[] 0) }
  by_cases c2 : vs.toArray.size < 2
  · rw [if_pos c2, if_pos c2]
    refine wpAny_bind (wpAny_pure ?_)
    dsimp only
    rw [StateT.run_pure]
    refine wpAny_bind (wpAny_pure ?_)
    obtain ⟨r1, r2⟩ := zbF (xs := pairsOf vs) hT (fun v t ht => ht) (Array.Perm.refl _) (fun i j hij hj => by
      obtain rfl : i = j := by rw [pairsOf_size] at hj; omega
      exact KeyOrd.kle_refl _)
    refine wpAny_bind (seqEpoch_at o6 rfl (wpAny_bind (listUpdate_at o6 rfl ?_ (hsz2 := by rw [Array.size_map]; show (pairsOf vs).size ≤ _; rw [pairsOf_size, sizeLine_eq]; omega))))
    rw [show (e1 != e1) = false by simp]
    exact wpAny_pure (h _ r1 r2)
  · rw [if_neg c2, if_neg c2]
    cases vs with
    | nil => simp at c2
    | cons v₁ rest =>
      refine wpAny_bind (zaC hT6 ?_)
      refine wpAny_bind (wpAny_mono (zcC (st := SortSt.mk' (tuples' true) ((v₁ :: rest).toArray.zip (v₁ :: rest).toArray) #[] 7 none) (Q := fun _ t => (arrOf t).Perm (pairsOf (v₁ :: rest)) ∧ failedOf t = none ∧ SortedToK (zcy _) (arrOf t) (pairsOf (v₁ :: rest)).size)
        (zcA hT6) ⟨Array.Perm.refl _, rfl, rfl, rfl⟩ (by rw [pairsOf_size]; omega) (by rw [pairsOf_size]; exact h64) fun t p1 p2 p3 => ⟨p1, p2, p3⟩) ?_ fun _ _ e => e)
      rintro ⟨⟨⟩, t⟩ s' ⟨rfl, p1, p2, p3⟩
      obtain ⟨r1, r2⟩ := zbF hT (fun v t ht => ht.keepT up) p1 p3
      refine wpAny_bind (seqEpoch_at o6 rfl (wpAny_bind (listUpdate_at o6 rfl ?_ (hsz2 := by rw [Array.size_map]; show (arrOf t).size ≤ _; rw [p1.size_eq, pairsOf_size, sizeLine_eq]; omega))))
      rw [p2, show (e1 != e1) = false by simp]
      exact wpAny_pure (h _ r1 r2)
theorem own_sorted {l : Addr} {vs : List Value} {Q : Value → Shared → Prop} (hl : s.heap.IsList l vs.toArray) (hT : ∀ v ∈ vs, ∃ t, TP s.heap v t) (h64 : vs.length < 64)
    (h : ∀ out : Array Value, out.toList.Perm vs → zhg s.heap out.toList → Q (.ref (s.heap.objs.size + 1)) { s with heap := sortedAll s.heap vs out }) : wpAny (model prog w) A (call (.builtin "sorted") [.ref l]) Q E s := by
  have z1 : ((s.heap.push (seqObj "list" #[] 0)).update s.heap.objs.size (Obj.mapSeq (· ++ vs.toArray))).objs.size = s.heap.objs.size + 1 := (Heap.size_update ..).trans (size_push' _ _)
  have oL : (((s.heap.push (seqObj "list" #[] 0)).update s.heap.objs.size (Obj.mapSeq (· ++ vs.toArray))).push (seqObj "list" vs.toArray 0)).get? (s.heap.objs.size + 1) = some (seqObj "list" vs.toArray 0) := z1 ▸ Heap.get?_push_size _ rfl
  have up : ∀ b o, s.heap.get? b = some o → (((s.heap.push (seqObj "list" #[] 0)).update s.heap.objs.size (Obj.mapSeq (· ++ vs.toArray))).push (seqObj "list" vs.toArray 0)).get? b = some o := fun b o e =>
    Heap.get?_push_of_some _ ((Heap.get?_update_other _ _ fun z => by subst z; exact absurd (Heap.lt_size e) (Nat.lt_irrefl _)).trans (Heap.get?_push_of_some _ e))
  refine Calls.call_function_entry kind_sorted plain_sorted entry_sorted (args_sorted1 _) ?_
  unfold Builtin.«sorted»
  refine wpAny_bind (m := checkCount "sorted" 1 1 _) (wpAny_pure (wpAny_bind (collect_list hl (wpAny_bind (wpAny_newList ?_)))))
  show wpAny _ _ _ _ _ (Shared.mk (((s.heap.push (seqObj "list" #[] 0)).update s.heap.objs.size (Obj.mapSeq (· ++ vs.toArray))).push (seqObj "list" vs.toArray 0)) s.gens s.drawn s.toks s.os)
  rw [z1]
  refine wpAny_bind (wpAny_holding (wpAny_call_entry slot_list_sort ⟨_, oL, rfl⟩ entry_list_sort (XE oL (fun v hv => let ⟨t, ht⟩ := hT v hv; ⟨t, ht.keep up⟩) h64 fun out p1 p2 => ⟨_, rfl, wpAny_pure ⟨_, rfl, h out p1 ?_⟩⟩) (args_list_sort _)))
  obtain ⟨ts, q1, q2, q3⟩ := p2
  refine ⟨ts, q1, fun i v t hv ht => ?_, q3⟩
  obtain ⟨t0, ht0⟩ := hT v (p1.mem_iff.mp (List.mem_of_getElem? hv))
  rw [(q2 i v t hv ht).uniq (ht0.keep up)]
  exact ht0
end
end OwnSort
namespace Dl
open PySem L2
class KK where
  K : PySem.W.Frag
inductive D where
  | non | bl (b : Bool) | int (i : Int) | str (x : Str) | tup (ds : List D) | lst (ds : List D) | scr (ns : List Int)
    | dct (z t : Bool) (ks : List (List Key)) (vs : List D)
  deriving Inhabited
section
variable [KK]
noncomputable def zgj (o : HO) (t : Bool) (ks : List (List Key)) (xs : List V) : Prop :=
  if t = true then ∃ kvs, o = .dT kvs ∧ kvs.map (·.1) = ks ∧ kvs.map (·.2) = xs else ∃ kvs : List (Key × V), o = .dK kvs ∧ kvs.map (fun p => [p.1]) = ks ∧ kvs.map (·.2) = xs
noncomputable def Vo (H : Hp) (a : Addr) (z t : Bool) (ks : List (List Key)) (xs : List V) : Prop :=
  ∃ u, zgj u t ks xs ∧ if z = true then ∃ ob, H a = some (.frz ob u) else H a = some u
theorem Vo.mono {H H' : Hp} {a : Addr} {z t : Bool} {ks : List (List Key)} {xs : List V} (s : yP H H') (h : Vo H a z t ks xs) : Vo H' a z t ks xs := by
  obtain ⟨u, h1, h2⟩ := h
  refine ⟨u, h1, ?_⟩
  cases z with
  | true =>
    rw [if_pos rfl] at h2 ⊢
    obtain ⟨ob, h2⟩ := h2
    exact ⟨ob, s _ _ h2⟩
  | false =>
    rw [if_neg Bool.false_ne_true] at h2 ⊢
    exact s _ _ h2
theorem Vo.rd {H : Hp} {a : Addr} {z t : Bool} {ks : List (List Key)} {xs : List V} (h : Vo H a z t ks xs) : ∃ u, zgj u t ks xs ∧ Rd H a u := by
  obtain ⟨u, h1, h2⟩ := h
  refine ⟨u, h1, ?_⟩
  cases z with
  | true =>
    rw [if_pos rfl] at h2
    obtain ⟨ob, h2⟩ := h2
    exact .inr ⟨ob, h2⟩
  | false =>
    rw [if_neg Bool.false_ne_true] at h2
    exact .inl h2
mutual
noncomputable def At (H : Hp) : D → V → Prop
  | .non, v => v = .non
  | .bl b, v => v = .bl b
  | .int i, v => v = .int i
  | .str x, v => v = .str x
  | .tup ds, v => ∃ a xs, v = .ref a ∧ H a = some (.tup xs) ∧ AtL H ds xs
  | .lst ds, v => ∃ a xs, v = .ref a ∧ H a = some (.lst xs) ∧ AtL H ds xs
  | .scr ns, v => ∃ a, v = .ref a ∧ SqL KK.K H a (ns.map V.int)
  | .dct z t ks vs, v => ∃ a xs, v = .ref a ∧ Vo H a z t ks xs ∧ AtL H vs xs
noncomputable def AtL (H : Hp) : List D → List V → Prop
  | [], xs => xs = []
  | d :: ds, xs => ∃ x r, xs = x :: r ∧ At H d x ∧ AtL H ds r
end
mutual
theorem At.mono {H H' : Hp} (s : yP H H') : ∀ {d : D} {v : V}, At H d v → At H' d v
  | .non, _, h => by unfold At at h ⊢; exact h
  | .bl _, _, h => by unfold At at h ⊢; exact h
  | .int _, _, h => by unfold At at h ⊢; exact h
  | .str _, _, h => by unfold At at h ⊢; exact h
  | .tup ds, _, h => by
    unfold At at h ⊢
    obtain ⟨a, xs, e, hx, hl⟩ := h
    exact ⟨a, xs, e, s _ _ hx, AtL.mono s hl⟩
  | .lst ds, _, h => by
    unfold At at h ⊢
    obtain ⟨a, xs, e, hx, hl⟩ := h
    exact ⟨a, xs, e, s _ _ hx, AtL.mono s hl⟩
  | .scr ns, _, h => by
    unfold At at h ⊢
    obtain ⟨a, e, hx⟩ := h
    exact ⟨a, e, s.seq hx⟩
  | .dct z t ks vs, _, h => by
    unfold At at h ⊢
    obtain ⟨a, xs, e, hx, hl⟩ := h
    exact ⟨a, xs, e, hx.mono s, AtL.mono s hl⟩
theorem AtL.mono {H H' : Hp} (s : yP H H') : ∀ {ds : List D} {xs : List V}, AtL H ds xs → AtL H' ds xs
  | [], _, h => by unfold AtL at h ⊢; exact h
  | d :: ds, _, h => by
    unfold AtL at h ⊢
    obtain ⟨x, r, e, h1, h2⟩ := h
    exact ⟨x, r, e, At.mono s h1, AtL.mono s h2⟩
end
mutual
noncomputable def noL : D → Bool
  | .tup ds => zgv ds
  | .lst _ => false
  | .scr _ => false
  | .dct _ _ _ _ => false
  | _ => true
noncomputable def zgv : List D → Bool
  | [] => true
  | d :: ds => noL d && zgv ds
end
mutual
theorem At.flat {G F : Hp} (h : ∀ q xs, G q = some (.tup xs) → F q = some (.tup xs)) : ∀ {d : D} {v : V}, noL d = true → At G d v → At F d v
  | .non, _, _, a => by unfold At at a ⊢; exact a
  | .bl _, _, _, a => by unfold At at a ⊢; exact a
  | .int _, _, _, a => by unfold At at a ⊢; exact a
  | .str _, _, _, a => by unfold At at a ⊢; exact a
  | .tup ds, _, n, a => by
    unfold At at a ⊢
    unfold noL at n
    obtain ⟨p, xs, e, hx, hl⟩ := a
    exact ⟨p, xs, e, h _ _ hx, AtL.flat h n hl⟩
  | .lst ds, _, n, _ => by unfold noL at n; cases n
  | .scr ds, _, n, _ => by unfold noL at n; cases n
  | .dct _ _ _ _, _, n, _ => by unfold noL at n; cases n
theorem AtL.flat {G F : Hp} (h : ∀ q xs, G q = some (.tup xs) → F q = some (.tup xs)) : ∀ {ds : List D} {xs : List V}, zgv ds = true → AtL G ds xs → AtL F ds xs
  | [], _, _, a => by unfold AtL at a ⊢; exact a
  | d :: ds, _, n, a => by
    unfold AtL at a ⊢
    unfold zgv at n
    rw [Bool.and_eq_true] at n
    obtain ⟨x, r, e, h1, h2⟩ := a
    exact ⟨x, r, e, At.flat h n.1 h1, AtL.flat h n.2 h2⟩
end
section
variable {H H' : Hp} {d : D} {ds es : List D} {v x : V} {xs ys : List V}
theorem At.int {i : Int} : At H (.int i) (.int i) := by unfold At; rfl
theorem At.bl {b : Bool} : At H (.bl b) (.bl b) := by unfold At; rfl
theorem At.non : At H .non .non := by unfold At; rfl
theorem At.str {y : Str} : At H (.str y) (.str y) := by unfold At; rfl
theorem At.tup {a : Addr} (h : H a = some (.tup xs)) (hl : AtL H ds xs) : At H (.tup ds) (.ref a) := by unfold At; exact ⟨a, xs, rfl, h, hl⟩
theorem At.lst {a : Addr} (h : H a = some (.lst xs)) (hl : AtL H ds xs) : At H (.lst ds) (.ref a) := by unfold At; exact ⟨a, xs, rfl, h, hl⟩
theorem AtL.nil : AtL H [] [] := by unfold AtL; rfl
theorem AtL.cons (h : At H d x) (hl : AtL H ds xs) : AtL H (d :: ds) (x :: xs) := by unfold AtL; exact ⟨x, xs, rfl, h, hl⟩
theorem At.int_inv {i : Int} (h : At H (.int i) v) : v = .int i := by unfold At at h; exact h
theorem At.bl_inv {b : Bool} (h : At H (.bl b) v) : v = .bl b := by unfold At at h; exact h
theorem At.non_inv (h : At H .non v) : v = .non := by unfold At at h; exact h
theorem At.str_inv {y : Str} (h : At H (.str y) v) : v = .str y := by unfold At at h; exact h
theorem At.tup_inv (h : At H (.tup ds) v) : ∃ a xs, v = .ref a ∧ H a = some (.tup xs) ∧ AtL H ds xs := by unfold At at h; exact h
theorem At.lst_inv (h : At H (.lst ds) v) : ∃ a xs, v = .ref a ∧ H a = some (.lst xs) ∧ AtL H ds xs := by unfold At at h; exact h
theorem At.scr_inv {ns : List Int} (h : At H (.scr ns) v) : ∃ a, v = .ref a ∧ SqL KK.K H a (ns.map V.int) := by unfold At at h; exact h
theorem At.dct_inv {z t : Bool} {ks : List (List Key)} {vs : List D} (h : At H (.dct z t ks vs) v) : ∃ a xs, v = .ref a ∧ Vo H a z t ks xs ∧ AtL H vs xs := by unfold At at h; exact h
theorem AtL.nil_inv (h : AtL H [] xs) : xs = [] := by unfold AtL at h; exact h
theorem AtL.cons_inv (h : AtL H (d :: ds) xs) : ∃ x r, xs = x :: r ∧ At H d x ∧ AtL H ds r := by unfold AtL at h; exact h
theorem AtL.length : ∀ {ds : List D} {xs : List V}, AtL H ds xs → xs.length = ds.length
  | [], _, h => by rw [h.nil_inv]; rfl
  | _ :: _, _, h => by
    obtain ⟨x, r, rfl, _, h2⟩ := h.cons_inv
    rw [List.length_cons, List.length_cons, AtL.length h2]
theorem AtL.get : ∀ {ds : List D} {xs : List V} {i : Nat} {d : D}, AtL H ds xs → ds[i]? = some d → ∃ x, xs[i]? = some x ∧ At H d x
  | [], _, _, _, _, e => by simp at e
  | _ :: _, _, i, _, h, e => by
    obtain ⟨x, r, rfl, h1, h2⟩ := h.cons_inv
    cases i with
    | zero =>
      simp at e
      subst e
      exact ⟨x, rfl, h1⟩
    | succ i =>
      obtain ⟨y, hy, ha⟩ := AtL.get (i := i) h2 (by simpa using e)
      exact ⟨y, by simpa using hy, ha⟩
theorem AtL.append : ∀ {ds es : List D} {xs ys : List V}, AtL H ds xs → AtL H es ys → AtL H (ds ++ es) (xs ++ ys)
  | [], _, _, _, h, k => by rw [h.nil_inv]; exact k
  | _ :: _, _, _, _, h, k => by
    obtain ⟨x, r, rfl, h1, h2⟩ := h.cons_inv
    exact .cons h1 (AtL.append h2 k)
theorem AtL.snoc (h : AtL H ds xs) (k : At H d v) : AtL H (ds ++ [d]) (xs ++ [v]) := h.append (.cons k .nil)
theorem AtL.take : ∀ (n : Nat) {ds : List D} {xs : List V}, AtL H ds xs → AtL H (ds.take n) (xs.take n)
  | 0, _, _, _ => by simpa using AtL.nil
  | n + 1, [], _, h => by rw [h.nil_inv]; simpa using AtL.nil
  | n + 1, _ :: _, _, h => by
    obtain ⟨x, r, rfl, h1, h2⟩ := h.cons_inv
    rw [List.take_succ_cons, List.take_succ_cons]
    exact .cons h1 (AtL.take n h2)
theorem AtL.drop : ∀ (n : Nat) {ds : List D} {xs : List V}, AtL H ds xs → AtL H (ds.drop n) (xs.drop n)
  | 0, _, _, h => h
  | n + 1, [], _, h => by rw [h.nil_inv]; simpa using AtL.nil
  | n + 1, _ :: _, _, h => by
    obtain ⟨x, r, rfl, h1, h2⟩ := h.cons_inv
    rw [List.drop_succ_cons, List.drop_succ_cons]
    exact AtL.drop n h2
theorem AtL.set : ∀ (n : Nat) {ds : List D} {xs : List V}, AtL H ds xs → At H d v → AtL H (ds.set n d) (xs.set n v)
  | _, [], _, h, _ => by rw [h.nil_inv]; simpa using AtL.nil
  | 0, _ :: _, _, h, k => by
    obtain ⟨x, r, rfl, h1, h2⟩ := h.cons_inv
    exact .cons k h2
  | n + 1, _ :: _, _, h, k => by
    obtain ⟨x, r, rfl, h1, h2⟩ := h.cons_inv
    exact .cons h1 (AtL.set n h2 k)
theorem AtL.reverse : ∀ {ds : List D} {xs : List V}, AtL H ds xs → AtL H ds.reverse xs.reverse
  | [], _, h => by rw [h.nil_inv]; exact .nil
  | _ :: _, _, h => by
    obtain ⟨x, r, rfl, h1, h2⟩ := h.cons_inv
    rw [List.reverse_cons, List.reverse_cons]
    exact (AtL.reverse h2).snoc h1
theorem AtL.rep (h : AtL H ds xs) : ∀ k : Nat, AtL H (List.replicate k ds).flatten (List.replicate k xs).flatten
  | 0 => .nil
  | k + 1 => by
    rw [List.replicate_succ, List.replicate_succ, List.flatten_cons, List.flatten_cons]
    exact h.append (AtL.rep h k)
theorem AtL.ints (ns : List Int) : AtL H (ns.map D.int) (ns.map V.int) := by
  induction ns with
  | nil => exact .nil
  | cons n r ih => exact .cons .int ih
theorem AtL.of_ints : ∀ {ns : List Int} {xs : List V}, AtL H (ns.map D.int) xs → xs = ns.map V.int
  | [], _, h => h.nil_inv
  | n :: r, _, h => by
    obtain ⟨x, r', rfl, h1, h2⟩ := AtL.cons_inv (by simpa using h)
    rw [h1.int_inv, AtL.of_ints h2]
    rfl
end
noncomputable def tyN : D → String
  | .non => "NoneType" | .bl _ => "bool" | .int _ => "int" | .str _ => "str" | .tup _ => "tuple" | .lst _ => "list" | .scr _ => "list" | .dct _ _ _ _ => "dict"
noncomputable def Hid (F' : Hp) (p : Addr) (o : HO) : Prop := F' p = none ∨ ((∃ xs, o = .tup xs) ∧ F' p = some o)
noncomputable def Keep (F H F' H' : Hp) : Prop := ∀ p o, F p = none → H p = some o → Hid F' p o ∧ H' p = some o
set_option genInjectivity false in
set_option genSizeOf false in
set_option genCtorIdx false in
structure Gr (F H F' H' : Hp) : Prop where
  ff : yP F F'
  fh : yP F' H'
  kp : Keep F H F' H'
theorem Gr.refl {F H : Hp} (s : yP F H) : Gr F H F H := ⟨yP.refl _, s, fun _ _ a b => ⟨.inl a, b⟩⟩
theorem Gr.trans {F H F1 H1 F2 H2 : Hp} (a : Gr F H F1 H1) (b : Gr F1 H1 F2 H2) : Gr F H F2 H2 :=
  ⟨a.ff.trans b.ff, b.fh, fun p o e1 e2 => by
    obtain ⟨x, y⟩ := a.kp p o e1 e2
    rcases x with x | ⟨x1, x2⟩
    · exact b.kp p o x y
    · exact ⟨.inr ⟨x1, b.ff _ _ x2⟩, b.fh _ _ (b.ff _ _ x2)⟩⟩
theorem Gr.kl {F H F' H' : Hp} {p : Addr} {o : HO} (g : Gr F H F' H') (n : ∀ xs, o ≠ .tup xs) (e1 : F p = none) (e2 : H p = some o) : F' p = none ∧ H' p = some o := by
  obtain ⟨x, y⟩ := g.kp p o e1 e2
  rcases x with x | ⟨⟨xs, x1⟩, _⟩
  · exact ⟨x, y⟩
  · exact absurd x1 (n xs)
theorem Gr.alloc {F H : Hp} {p : Addr} (s : yP F H) (h : H p = none) (o : HO) : Gr F H (upd F p o) (upd H p o) := by
  have hF : F p = none := s.free h
  refine ⟨fun b u q => ?_, fun b u q => ?_, fun b u q r => ?_⟩
  · rw [zz (zm q hF)]; exact q
  · by_cases e : b = p
    · subst e; rw [zo] at q ⊢; exact q
    · rw [zz e] at q ⊢; exact s b u q
  · have e : b ≠ p := zm r h
    rw [zz e]; exact ⟨.inl (by rw [zz e]; exact q), r⟩
theorem Gr.hide {F H : Hp} {p : Addr} (s : yP F H) (h : H p = none) (o : HO) : Gr F H F (upd H p o) := by
  refine ⟨yP.refl _, fun b u q => ?_, fun b u q r => ?_⟩
  · rw [zz (zm (s b u q) h)]; exact s b u q
  · have e : b ≠ p := zm r h
    rw [zz e]; exact ⟨.inl q, r⟩
theorem Gr.show {F H : Hp} {p : Addr} {o : HO} {F0 H0 : Hp} (g : Gr F0 H0 F H) (h0 : H0 p = none) (hF : F p = none) (h : H p = some o) : Gr F0 H0 (upd F p o) H := by
  refine ⟨fun b u q => ?_, fun b u q => ?_, fun b u q r => ?_⟩
  · have := g.ff b u q
    rw [zz (zm this hF)]; exact this
  · by_cases e : b = p
    · subst e; rw [zo] at q; rw [← q]; exact h
    · rw [zz e] at q; exact g.fh b u q
  · have e : b ≠ p := zm r h0
    obtain ⟨x, y⟩ := g.kp b u q r
    refine ⟨?_, y⟩
    unfold Hid
    rw [zz e]
    exact x
noncomputable abbrev Ev := List (Option D)
noncomputable def VAt (F : Hp) (ρ : Ev) (σ : St) : Prop := ∀ (i : Nat) (d : D), ρ[i]? = some (some d) → ∃ v, σ[i]? = some (some v) ∧ At F d v
theorem VAt.mono {F F' : Hp} {ρ : Ev} {σ : St} (h : VAt F ρ σ) (s : yP F F') : VAt F' ρ σ := fun i d e => let ⟨v, e1, a⟩ := h i d e; ⟨v, e1, a.mono s⟩
noncomputable def RE (t : TE) (f : Ev → Option D) : Prop :=
  ∀ (σ : St) (ρ : Ev) (F H : Hp) (d : D) (Q : VK), yP F H → VAt F ρ σ → f ρ = some d → (∀ F' H' v, Gr F H F' H' → At F' d v → Q v H') → t σ H Q
noncomputable def RT (t : TT) (f : Ev → Option Bool) : Prop :=
  ∀ (σ : St) (ρ : Ev) (F H : Hp) (b : Bool) (Q : Bool → Hp → Prop), yP F H → VAt F ρ σ → f ρ = some b → (∀ F' H', Gr F H F' H' → Q b H') → t σ H Q
noncomputable def RA (t : TA) (f : Ev → Option (List D)) : Prop :=
  ∀ (σ : St) (ρ : Ev) (F H : Hp) (ds : List D) (Q : List V → Hp → Prop), yP F H → VAt F ρ σ → f ρ = some ds → (∀ F' H' vs, Gr F H F' H' → AtL F' ds vs → Q vs H') → t σ H Q
noncomputable def RF (t : TE) (f : Ev → Option (List D)) : Prop :=
  ∀ (σ : St) (ρ : Ev) (F H : Hp) (ds : List D) (Q : VK), yP F H → VAt F ρ σ → f ρ = some ds → (∀ F' H' p xs, Gr F H F' H' → H p = none → F' p = none → H' p = some (.lst xs) → AtL F' ds xs → Q (.ref p) H') → t σ H Q
noncomputable def ED (X : Cx) (e : Expr) (f : Ev → Option D) : Prop := ∃ t, PE X e t ∧ RE t f
noncomputable def TD (X : Cx) (e : Expr) (f : Ev → Option Bool) : Prop := ∃ t, PT X e t ∧ RT t f
noncomputable def WD (X : Cx) (e : Expr) (f : Ev → Option Bool) : Prop := ∃ t, PW X e t ∧ RT t f
noncomputable def AD (X : Cx) (es : List Expr) (f : Ev → Option (List D)) : Prop := ∃ t, PA X es t ∧ RA t f
noncomputable def FL (X : Cx) (e : Expr) (f : Ev → Option (List D)) : Prop := ∃ t, PE X e t ∧ RF t f
section
variable {X : Cx} {a b c : Expr} {pos : Pos}
noncomputable def xS (f : Ev → Option (List D)) : Ev → Option D := fun ρ => (f ρ).map .lst
theorem wX {f : Ev → Option (List D)} (h : FL X a f) : ED X a (xS f) := by
  obtain ⟨t, ht, r⟩ := h
  refine ⟨t, ht, fun σ ρ F H d Q s va e q => ?_⟩
  obtain ⟨ds, e1, rfl⟩ := Option.map_eq_some_iff.mp e
  refine r σ ρ F H ds Q s va e1 fun F' H' p xs g h0 hF hH hx => ?_
  have g2 := g.show h0 hF hH
  exact q _ _ _ g2 (At.lst zo (hx.mono (fun b u e => by rw [zz (zm e hF)]; exact e)))
noncomputable def zg (i : Nat) : Ev → Option D := fun ρ => (ρ[i]?).getD none
theorem za (i : Nat) (h : PE X a (zdQ i)) : ED X a (zg i) := by
  refine ⟨_, h, fun σ ρ F H d Q s va e q => ?_⟩
  have e' : ρ[i]? = some (some d) := by
    unfold zg at e
    cases h : ρ[i]? with
    | none => rw [h] at e; cases e
    | some x => rw [h] at e; cases x with
      | none => cases e
      | some y => cases e; rfl
  obtain ⟨v, e1, a1⟩ := va i d e'
  exact ⟨v, e1, q _ _ _ (.refl s) a1⟩
noncomputable def eC (d : D) : Ev → Option D := fun _ => some d
theorem zh {i : Int} (h : PE X a (tC (.int i))) : ED X a (eC (.int i)) := ⟨_, h, fun _ _ _ _ _ _ s _ e q => by cases e; exact q _ _ _ (.refl s) .int⟩
theorem vM {i : Bool} (h : PE X a (tC (.bl i))) : ED X a (eC (.bl i)) := ⟨_, h, fun _ _ _ _ _ _ s _ e q => by cases e; exact q _ _ _ (.refl s) .bl⟩
theorem vD {i : Str} (h : PE X a (tC (.str i))) : ED X a (eC (.str i)) := ⟨_, h, fun _ _ _ _ _ _ s _ e q => by cases e; exact q _ _ _ (.refl s) .str⟩
theorem vH (h : PE X a (tC .non)) : ED X a (eC .non) := ⟨_, h, fun _ _ _ _ _ _ s _ e q => by cases e; exact q _ _ _ (.refl s) .non⟩
noncomputable def OpD (r : R2) (g : D → D → Option D) : Prop :=
  ∀ (F H : Hp) (x y : V) (d e z : D) (Q : VK), yP F H → At F d x → At F e y → g d e = some z → (∀ F' H' v, Gr F H F' H' → At F' z v → Q v H') → r x y H Q
noncomputable def zk (g : D → D → Option D) (f h : Ev → Option D) : Ev → Option D := fun ρ => (f ρ).bind fun x => (h ρ).bind fun y => g x y
theorem zcz {r : R2} {g : D → D → Option D} {ta tb : TE} {f h : Ev → Option D} (hg : OpD r g) (ra : RE ta f) (rb : RE tb h) : RE (tOp r ta tb) (zk g f h) := by
  intro σ ρ F H z Q s va e q
  obtain ⟨x, e1, e⟩ := Option.bind_eq_some_iff.mp e
  obtain ⟨y, e2, e⟩ := Option.bind_eq_some_iff.mp e
  refine ra σ ρ F H x _ s va e1 fun F1 H1 v g1 a1 => ?_
  refine rb σ ρ F1 H1 y _ g1.fh (va.mono g1.ff) e2 fun F2 H2 u g2 a2 => ?_
  exact hg F2 H2 v u x y z Q g2.fh (a1.mono g2.ff) a2 e fun F3 H3 w g3 a3 => q F3 H3 w ((g1.trans g2).trans g3) a3
theorem Z9 {op : Operator} {r : R2} {g : D → D → Option D} {f h : Ev → Option D} (ho : OpR X (binaryOp op) r) (hg : OpD r g) (ha : ED X a f) (hb : ED X b h) : ED X (.BinOp a op b pos) (zk g f h) :=
  let ⟨_, pa, ra⟩ := ha
  let ⟨_, pb, rb⟩ := hb
  ⟨_, zf2 ho pa pb, zcz hg ra rb⟩
theorem wN {op : CmpOp} {r : R2} {g : D → D → Option D} {f h : Ev → Option D} (ho : OpR X (compareOp op) r) (hg : OpD r g) (hm : behindInMarks op b = false) (ha : ED X a f) (hb : ED X b h) : ED X (.Compare a [op] [b] pos) (zk g f h) :=
  let ⟨_, pa, ra⟩ := ha
  let ⟨_, pb, rb⟩ := hb
  ⟨_, zcb ho pa pb hm, zcz hg ra rb⟩
noncomputable def asB : D → Option Bool
  | .bl b => some b
  | _ => none
theorem Ye {d : D} {b : Bool} (h : asB d = some b) : d = .bl b := by
  cases d <;> first | (cases h; rfl) | cases h
noncomputable def tOf (f : Ev → Option D) : Ev → Option Bool := fun ρ => (f ρ).bind asB
theorem zfl {t : TE} {f : Ev → Option D} (r : RE t f) : RT (zf6 t) (tOf f) := by
  intro σ ρ F H b Q s va e q
  obtain ⟨x, e1, e⟩ := Option.bind_eq_some_iff.mp e
  cases Ye e
  exact r σ ρ F H _ _ s va e1 fun F1 H1 v g1 a1 => ⟨b, a1.bl_inv, q F1 H1 g1⟩
theorem zV {op : CmpOp} {r : R2} {g : D → D → Option D} {f h : Ev → Option D} (ho : OpR X (compareOp op) r) (hg : OpD r g) (hm : behindInMarks op b = false) (ha : ED X a f) (hb : ED X b h) : TD X (.Compare a [op] [b] pos) (tOf (zk g f h)) :=
  let ⟨_, pa, ra⟩ := ha
  let ⟨_, pb, rb⟩ := hb
  ⟨_, zdJ ho pa pb hm, zfl (zcz hg ra rb)⟩
theorem xn {f : Ev → Option D} (ha : ED X a f) (he : ∀ whole, isTrue a X.env whole = (do let v ← whole; standAt a.pos; holding [v] (truthy v)) := by intro _; rfl) : TD X a (tOf f) :=
  let ⟨_, pa, ra⟩ := ha
  ⟨_, zfa pa he, zfl ra⟩
noncomputable def wJ (f g : Ev → Option Bool) : Ev → Option Bool := fun ρ => (f ρ).bind fun c => if c = true then g ρ else some false
noncomputable def Yw (f g : Ev → Option Bool) : Ev → Option Bool := fun ρ => (f ρ).bind fun c => if c = true then some true else g ρ
noncomputable def yF (f : Ev → Option Bool) : Ev → Option Bool := fun ρ => (f ρ).map (!·)
theorem zew {f : Ev → Option Bool} (ha : TD X a f) : WD X (.BoolOp .And [a] pos) f := let ⟨_, pa, ra⟩ := ha; ⟨_, zdR pa, ra⟩
theorem Xb {f : Ev → Option Bool} (ha : TD X a f) : WD X (.BoolOp .Or [a] pos) f := let ⟨_, pa, ra⟩ := ha; ⟨_, zfg pa, ra⟩
theorem ze1 {rest : List Expr} {f g : Ev → Option Bool} (ha : TD X a f) (hb : WD X (.BoolOp .And (b :: rest) pos) g) : WD X (.BoolOp .And (a :: b :: rest) pos) (wJ f g) := by
  obtain ⟨ta, pa, ra⟩ := ha
  obtain ⟨tb, pb, rb⟩ := hb
  refine ⟨_, zfH pa pb, fun σ ρ F H z Q s va e q => ?_⟩
  obtain ⟨x, e1, e⟩ := Option.bind_eq_some_iff.mp e
  refine ra σ ρ F H x _ s va e1 fun F1 H1 g1 => ?_
  cases x with
  | true =>
    rw [if_pos rfl] at e ⊢
    exact rb σ ρ F1 H1 z Q g1.fh (va.mono g1.ff) e fun F2 H2 g2 => q F2 H2 (g1.trans g2)
  | false =>
    rw [if_neg Bool.false_ne_true] at e ⊢
    cases e
    exact q F1 H1 g1
theorem Vz {rest : List Expr} {f g : Ev → Option Bool} (ha : TD X a f) (hb : WD X (.BoolOp .Or (b :: rest) pos) g) : WD X (.BoolOp .Or (a :: b :: rest) pos) (Yw f g) := by
  obtain ⟨ta, pa, ra⟩ := ha
  obtain ⟨tb, pb, rb⟩ := hb
  refine ⟨_, zhk pa pb, fun σ ρ F H z Q s va e q => ?_⟩
  obtain ⟨x, e1, e⟩ := Option.bind_eq_some_iff.mp e
  refine ra σ ρ F H x _ s va e1 fun F1 H1 g1 => ?_
  cases x with
  | false =>
    rw [if_neg Bool.false_ne_true] at e ⊢
    exact rb σ ρ F1 H1 z Q g1.fh (va.mono g1.ff) e fun F2 H2 g2 => q F2 H2 (g1.trans g2)
  | true =>
    rw [if_pos rfl] at e ⊢
    cases e
    exact q F1 H1 g1
theorem zeg {f : Ev → Option Bool} (h : WD X a f) : TD X a f := let ⟨_, p, r⟩ := h; ⟨_, p.pt, r⟩
theorem wv {f : Ev → Option Bool} (ha : TD X a f) : TD X (.UnaryOp .Not a pos) (yF f) := by
  obtain ⟨ta, pa, ra⟩ := ha
  refine ⟨_, zf5 pa, fun σ ρ F H z Q s va e q => ?_⟩
  obtain ⟨x, e1, rfl⟩ := Option.map_eq_some_iff.mp e
  exact ra σ ρ F H x _ s va e1 fun F1 H1 g1 => q F1 H1 g1
noncomputable def vW (f g : Ev → Option D) : Ev → Option D := fun ρ => ((f ρ).bind asB).bind fun c => if c = true then g ρ else some (.bl false)
noncomputable def eOr (f g : Ev → Option D) : Ev → Option D := fun ρ => ((f ρ).bind asB).bind fun c => if c = true then some (.bl true) else g ρ
noncomputable def Xc (f : Ev → Option D) : Ev → Option D := fun ρ => ((f ρ).bind asB).map fun c => .bl (!c)
theorem vG {op} {f : Ev → Option D} (ha : ED X a f) : ED X (.BoolOp op [a] pos) f := let ⟨_, pa, ra⟩ := ha; ⟨_, zfL pa, ra⟩
theorem vI {rest : List Expr} {f g : Ev → Option D} (ha : ED X a f) (hb : ED X (.BoolOp .And (b :: rest) pos) g) : ED X (.BoolOp .And (a :: b :: rest) pos) (vW f g) := by
  obtain ⟨ta, pa, ra⟩ := ha
  obtain ⟨tb, pb, rb⟩ := hb
  refine ⟨_, zfT pa pb, fun σ ρ F H z Q s va e q => ?_⟩
  obtain ⟨x, e1, e⟩ := Option.bind_eq_some_iff.mp e
  obtain ⟨y, e1, e2⟩ := Option.bind_eq_some_iff.mp e1
  cases Ye e2
  refine ra σ ρ F H _ _ s va e1 fun F1 H1 v g1 a1 => ⟨x, a1.bl_inv, ?_⟩
  cases x with
  | true =>
    rw [if_pos rfl] at e ⊢
    exact rb σ ρ F1 H1 z Q g1.fh (va.mono g1.ff) e fun F2 H2 w g2 a2 => q F2 H2 w (g1.trans g2) a2
  | false =>
    rw [if_neg Bool.false_ne_true] at e ⊢
    cases e
    exact q F1 H1 _ g1 .bl
theorem zgL {rest : List Expr} {f g : Ev → Option D} (ha : ED X a f) (hb : ED X (.BoolOp .Or (b :: rest) pos) g) : ED X (.BoolOp .Or (a :: b :: rest) pos) (eOr f g) := by
  obtain ⟨ta, pa, ra⟩ := ha
  obtain ⟨tb, pb, rb⟩ := hb
  refine ⟨_, zhm pa pb, fun σ ρ F H z Q s va e q => ?_⟩
  obtain ⟨x, e1, e⟩ := Option.bind_eq_some_iff.mp e
  obtain ⟨y, e1, e2⟩ := Option.bind_eq_some_iff.mp e1
  cases Ye e2
  refine ra σ ρ F H _ _ s va e1 fun F1 H1 v g1 a1 => ⟨x, a1.bl_inv, ?_⟩
  cases x with
  | false =>
    rw [if_neg Bool.false_ne_true] at e ⊢
    exact rb σ ρ F1 H1 z Q g1.fh (va.mono g1.ff) e fun F2 H2 w g2 a2 => q F2 H2 w (g1.trans g2) a2
  | true =>
    rw [if_pos rfl] at e ⊢
    cases e
    exact q F1 H1 _ g1 .bl
theorem zdx {f : Ev → Option D} (ha : ED X a f) : ED X (.UnaryOp .Not a pos) (Xc f) := by
  obtain ⟨ta, pa, ra⟩ := ha
  refine ⟨_, zgp pa, fun σ ρ F H z Q s va e q => ?_⟩
  obtain ⟨x, e1, rfl⟩ := Option.map_eq_some_iff.mp e
  obtain ⟨y, e1, e2⟩ := Option.bind_eq_some_iff.mp e1
  cases Ye e2
  exact ra σ ρ F H _ _ s va e1 fun F1 H1 v g1 a1 => ⟨x, a1.bl_inv, q F1 H1 _ g1 .bl⟩
noncomputable def eIf (t : Ev → Option Bool) (f g : Ev → Option D) : Ev → Option D := fun ρ => (t ρ).bind fun c => if c = true then f ρ else g ρ
noncomputable def eUn (g : D → Option D) (f : Ev → Option D) : Ev → Option D := fun ρ => (f ρ).bind g
noncomputable def YL : D → Option D
  | .int i => some (.int (-i))
  | _ => none
theorem Zj {f : Ev → Option D} (ha : ED X a f) : ED X (.UnaryOp .USub a pos) (eUn YL f) := by
  obtain ⟨ta, pa, ra⟩ := ha
  refine ⟨_, zg3 ze7 pa, fun σ ρ F H z Q s va e q => ?_⟩
  obtain ⟨x, e1, e⟩ := Option.bind_eq_some_iff.mp e
  cases x <;> try cases e
  exact ra σ ρ F H _ _ s va e1 fun F1 H1 v g1 a1 => ⟨_, a1.int_inv, q F1 H1 _ g1 .int⟩
noncomputable def zu : Ev → Option (List D) := fun _ => some []
noncomputable def zc (f : Ev → Option D) (g : Ev → Option (List D)) : Ev → Option (List D) := fun ρ => (f ρ).bind fun d => (g ρ).map (d :: ·)
theorem zf : AD X [] zu := ⟨_, V6, fun _ _ _ _ _ _ s _ e q => by cases e; exact q _ _ _ (.refl s) .nil⟩
theorem zb {e : Expr} {es : List Expr} {f : Ev → Option D} {g : Ev → Option (List D)} (ha : ED X e f) (hr : AD X es g) (hs : starEach (e :: es) X.env = (false, eval e X.env) :: starEach es X.env := by rfl) : AD X (e :: es) (zc f g) := by
  obtain ⟨ta, pa, ra⟩ := ha
  obtain ⟨tb, pb, rb⟩ := hr
  refine ⟨_, ZV pa pb hs, fun σ ρ F H z Q s va e q => ?_⟩
  obtain ⟨x, e1, e⟩ := Option.bind_eq_some_iff.mp e
  obtain ⟨ds, e2, rfl⟩ := Option.map_eq_some_iff.mp e
  refine ra σ ρ F H x _ s va e1 fun F1 H1 v g1 a1 => ?_
  exact rb σ ρ F1 H1 ds _ g1.fh (va.mono g1.ff) e2 fun F2 H2 w g2 a2 => q F2 H2 _ (g1.trans g2) (.cons (a1.mono g2.ff) a2)
noncomputable def lim (n : Nat) : Bool := decide (n ≤ sizeLine)
noncomputable def wW (g : Ev → Option (List D)) : Ev → Option D := fun ρ => (g ρ).bind fun ds => if lim ds.length = true then some (.tup ds) else none
noncomputable def yf (g : Ev → Option (List D)) : Ev → Option (List D) := fun ρ => (g ρ).bind fun ds => if lim ds.length = true then some ds else none
theorem x5 {es : List Expr} {x1} {g : Ev → Option (List D)} (h : AD X es g) : ED X (.Tuple es x1 pos) (wW g) := by
  obtain ⟨ta, pa, ra⟩ := h
  refine ⟨_, zgm pa, fun σ ρ F H z Q s va e q => ?_⟩
  obtain ⟨ds, e1, e⟩ := Option.bind_eq_some_iff.mp e
  split at e <;> cases e
  rename_i hl
  refine ra σ ρ F H ds _ s va e1 fun F1 H1 vs g1 a1 => ⟨by rw [a1.length]; exact of_decide_eq_true hl, fun p hp => ?_⟩
  have g2 := Gr.alloc g1.fh hp (.tup vs)
  exact q _ _ _ (g1.trans g2) (.tup zo (a1.mono g2.ff))
theorem x6 {es : List Expr} {g : Ev → Option (List D)} (h : AD X es g) : FL X (.List es pos) (yf g) := by
  obtain ⟨ta, pa, ra⟩ := h
  refine ⟨_, zgf pa, fun σ ρ F H z Q s va e q => ?_⟩
  obtain ⟨ds, e1, e⟩ := Option.bind_eq_some_iff.mp e
  split at e <;> cases e
  rename_i hl
  refine ra σ ρ F H _ _ s va e1 fun F1 H1 vs g1 a1 => ⟨by rw [a1.length]; exact of_decide_eq_true hl, fun p hp => ?_⟩
  have g2 := Gr.hide g1.fh hp (.lst vs)
  have h0 : H p = none := by
    cases e : H p with
    | none => rfl
    | some o =>
      cases e2 : F p with
      | none => rw [(g1.kp p o e2 e).2] at hp; cases hp
      | some u => rw [g1.fh _ _ (g1.ff _ _ e2)] at hp; cases hp
  exact q _ _ _ _ (g1.trans g2) h0 (g1.fh.free hp) zo a1
end
end
end Dl
namespace Dl
open PySem L2
variable [KK]
inductive Sl where
  | no | v (d : D) | o (ds : List D) | m (t : Bool) (ks : List (List Key)) (vs : List D)
  deriving Inhabited
noncomputable abbrev SE := List Sl
noncomputable def Sl.f : Sl → Option D
  | .v d => some d
  | _ => none
noncomputable def Sl.g : Sl → Option D
  | .v d => some d
  | .o ds => some (.lst ds)
  | .m t ks vs => some (.dct false t ks vs)
  | .no => none
noncomputable def Sl.isO : Sl → Bool
  | .o _ => true
  | .m _ _ _ => true
  | _ => false
noncomputable def visF (ρ : SE) : Ev := ρ.map Sl.f
noncomputable def visG (ρ : SE) : Ev := ρ.map Sl.g
noncomputable def zaU (F : Hp) (o : HO) : Sl → Prop
  | .o ds => ∃ xs, o = .lst xs ∧ AtL F ds xs
  | .m t ks ds => ∃ xs, zgj o t ks xs ∧ AtL F ds xs
  | _ => False
theorem zaU.mono {F F' : Hp} {o : HO} {s : Sl} (h : zaU F o s) (k : yP F F') : zaU F' o s := by
  cases s with
  | no => exact h
  | v d => exact h
  | o ds => obtain ⟨xs, e, a⟩ := h; exact ⟨xs, e, a.mono k⟩
  | m t ks ds => obtain ⟨xs, e, a⟩ := h; exact ⟨xs, e, a.mono k⟩
theorem zaU.isO {F : Hp} {o : HO} {s : Sl} (h : zaU F o s) : s.isO = true := by
  cases s with
  | no => exact h.elim
  | v d => exact h.elim
  | o ds => rfl
  | m t ks ds => rfl
theorem zaU.ntup {F : Hp} {o : HO} {s : Sl} (h : zaU F o s) (xs : List V) : o ≠ .tup xs := by
  cases s with
  | no => exact h.elim
  | v d => exact h.elim
  | o ds => obtain ⟨ys, rfl, _⟩ := h; intro e; cases e
  | m t ks ds =>
    obtain ⟨ys, e, _⟩ := h
    unfold zgj at e
    split at e
    · obtain ⟨kvs, rfl, _⟩ := e; intro e; cases e
    · obtain ⟨kvs, rfl, _⟩ := e; intro e; cases e
theorem zaU.at {F G : Hp} {o : HO} {s : Sl} {d : D} {p : Addr} (h : zaU F o s) (e : s.g = some d) (hp : G p = some o) (k : yP F G) : At G d (.ref p) := by
  cases s with
  | no => exact h.elim
  | v d => exact h.elim
  | o ds =>
    cases e
    obtain ⟨xs, rfl, a⟩ := h
    exact .lst hp (a.mono k)
  | m t ks ds =>
    cases e
    obtain ⟨xs, e, a⟩ := h
    unfold At
    exact ⟨p, xs, rfl, ⟨o, e, hp⟩, a.mono k⟩
set_option genInjectivity false in
set_option genSizeOf false in
set_option genCtorIdx false in
structure Rl (Fb Hb F H : Hp) (ρ : SE) (σ : St) : Prop where
  gr : Gr Fb Hb F H
  vals : ∀ (i : Nat) (d : D), ρ[i]? = some (.v d) → ∃ v, σ[i]? = some (some v) ∧ At F d v
  ows : ∀ (i : Nat) (s : Sl), ρ[i]? = some s → s.isO = true → ∃ p o, σ[i]? = some (some (.ref p)) ∧ Hb p = none ∧ F p = none ∧ H p = some o ∧ zaU F o s
  dis : ∀ (i j : Nat) (p : Addr) (s t : Sl), ρ[i]? = some s → ρ[j]? = some t → s.isO = true → t.isO = true → σ[i]? = some (some (.ref p)) → σ[j]? = some (some (.ref p)) → i = j
  len : ρ.length = σ.length
section
variable {Fb Hb F H F' H' : Hp} {ρ ρ' : SE} {σ σ' : St}
theorem Rl.owns (r : Rl Fb Hb F H ρ σ) (i : Nat) (ds : List D) (e : ρ[i]? = some (.o ds)) : ∃ p xs, σ[i]? = some (some (.ref p)) ∧ Hb p = none ∧ F p = none ∧ H p = some (.lst xs) ∧ AtL F ds xs := by
  obtain ⟨p, o, e1, e2, e3, e4, xs, rfl, a⟩ := r.ows i _ e rfl
  exact ⟨p, xs, e1, e2, e3, e4, a⟩
theorem Rl.grow (r : Rl Fb Hb F H ρ σ) (g : Gr F H F' H') : Rl Fb Hb F' H' ρ σ := by
  refine ⟨r.gr.trans g, fun i d e => ?_, fun i s e h => ?_, r.dis, r.len⟩
  · obtain ⟨v, e1, a⟩ := r.vals i d e
    exact ⟨v, e1, a.mono g.ff⟩
  · obtain ⟨p, o, e1, e2, e3, e4, a⟩ := r.ows i s e h
    obtain ⟨k1, k2⟩ := g.kl a.ntup e3 e4
    exact ⟨p, o, e1, e2, k1, k2, a.mono g.ff⟩
theorem Rl.visF (r : Rl Fb Hb F H ρ σ) : VAt F (visF ρ) σ := fun i d e => by
  unfold Dl.visF at e
  rw [List.getElem?_map] at e
  cases h : ρ[i]? with
  | none => rw [h] at e; cases e
  | some x =>
    rw [h] at e
    cases x with
    | no => cases e
    | v d' =>
      cases e
      exact r.vals i d h
    | o ds => cases e
    | m t ks ds => cases e
noncomputable def Own (ρ : SE) (σ : St) (p : Addr) : Prop := ∃ (i : Nat) (s : Sl), ρ[i]? = some s ∧ s.isO = true ∧ σ[i]? = some (some (.ref p))
open Classical in
noncomputable def gOf (ρ : SE) (σ : St) (F H : Hp) : Hp := fun p => if Own ρ σ p then H p else F p
open Classical in
noncomputable def fOf (ρ : SE) (σ : St) (G : Hp) : Hp := fun p => if Own ρ σ p then none else G p
theorem Rl.own (r : Rl Fb Hb F H ρ σ) {p : Addr} (h : Own ρ σ p) : Hb p = none ∧ F p = none ∧ ∃ o, H p = some o ∧ ∀ xs, o ≠ .tup xs := by
  obtain ⟨i, s, e1, e2, e3⟩ := h
  obtain ⟨q, o, e4, e5, e6, e7, a⟩ := r.ows i s e1 e2
  rw [e3] at e4
  cases e4
  exact ⟨e5, e6, o, e7, a.ntup⟩
theorem Rl.notown (r : Rl Fb Hb F H ρ σ) {q : Addr} (h : H q = none) (j : Nat) (s : Sl) (e1 : ρ[j]? = some s) (e2 : s.isO = true) : σ[j]? ≠ some (some (.ref q)) := fun e => by
  obtain ⟨p, o, f1, _, _, f4, _⟩ := r.ows j s e1 e2
  rw [e] at f1
  cases f1
  rw [h] at f4
  cases f4
theorem Rl.notbase (r : Rl Fb Hb F H ρ σ) {q : Addr} (h : H q = none) : Hb q = none := by
  cases z : Hb q with
  | none => rfl
  | some o =>
    cases z2 : Fb q with
    | none => rw [(r.gr.kp q o z2 z).2] at h; cases h
    | some u => rw [r.gr.fh _ _ (r.gr.ff _ _ z2)] at h; cases h
theorem Rl.fg (r : Rl Fb Hb F H ρ σ) : yP F (gOf ρ σ F H) := fun p o e => by
  unfold gOf
  split
  · exact r.gr.fh p o e
  · exact e
theorem Rl.gh (r : Rl Fb Hb F H ρ σ) : yP (gOf ρ σ F H) H := fun p o e => by
  unfold gOf at e
  split at e
  · exact e
  · exact r.gr.fh p o e
theorem Rl.visG (r : Rl Fb Hb F H ρ σ) : VAt (gOf ρ σ F H) (visG ρ) σ := fun i d e => by
  unfold Dl.visG at e
  rw [List.getElem?_map] at e
  cases h : ρ[i]? with
  | none => rw [h] at e; cases e
  | some x =>
    rw [h] at e
    have e : x.g = some d := Option.some.inj e
    have own : x.isO = true → ∃ v, σ[i]? = some (some v) ∧ At (gOf ρ σ F H) d v := fun hx => by
      obtain ⟨p, o, e1, e2, e3, e4, a⟩ := r.ows i x h hx
      refine ⟨_, e1, a.at e ?_ r.fg⟩
      unfold gOf
      rw [if_pos ⟨i, x, h, hx, e1⟩]
      exact e4
    cases x with
    | no => cases e
    | v d' =>
      cases e
      obtain ⟨v, e1, a⟩ := r.vals i d h
      exact ⟨v, e1, a.mono r.fg⟩
    | o ds => exact own rfl
    | m t ks ds => exact own rfl
theorem Rl.back {G' : Hp} (r : Rl Fb Hb F H ρ σ) (g : Gr (gOf ρ σ F H) H G' H') : Gr F H (fOf ρ σ G') H' ∧ ∀ q xs, G' q = some (.tup xs) → fOf ρ σ G' q = some (.tup xs) := by
  refine ⟨⟨fun p o e => ?_, fun p o e => ?_, fun p o e1 e2 => ?_⟩, fun q xs e => ?_⟩
  · unfold fOf
    rw [if_neg (fun h => by rw [(r.own h).2.1] at e; cases e)]
    exact g.ff p o (r.fg p o e)
  · unfold fOf at e
    split at e
    · cases e
    · exact g.fh p o e
  · by_cases h : Own ρ σ p
    · refine ⟨.inl (by unfold fOf; rw [if_pos h]), g.fh p o (g.ff p o ?_)⟩
      unfold gOf
      rw [if_pos h]
      exact e2
    · obtain ⟨x, y⟩ := g.kp p o (by unfold gOf; rw [if_neg h]; exact e1) e2
      refine ⟨?_, y⟩
      unfold Hid fOf
      rw [if_neg h]
      exact x
  · unfold fOf
    rw [if_neg (fun h => ?_)]
    · exact e
    · obtain ⟨_, _, o, e2, n⟩ := r.own h
      have : G' q = some o := g.ff q _ (by unfold gOf; rw [if_pos h]; exact e2)
      rw [this] at e
      cases e
      exact n xs rfl
theorem Rl.out {G' : Hp} (r : Rl Fb Hb F H ρ σ) (g : Gr (gOf ρ σ F H) H G' H') : Gr Fb Hb G' H' := by
  refine ⟨fun p o e => g.ff p o (r.fg p o (r.gr.ff p o e)), g.fh, fun p o e1 e2 => ?_⟩
  obtain ⟨k1, k2⟩ := r.gr.kp p o e1 e2
  have e3 : gOf ρ σ F H p = F p := by
    unfold gOf
    rw [if_neg (fun h => by rw [(r.own h).1] at e2; cases e2)]
  rcases k1 with k1 | ⟨k1, k3⟩
  · exact g.kp p o (by rw [e3]; exact k1) k2
  · have := g.ff p o (by rw [e3]; exact k3)
    exact ⟨.inr ⟨k1, this⟩, g.fh _ _ this⟩
theorem Rl.set (r : Rl Fb Hb F H ρ σ) {i : Nat} {d : D} {v : V} (a : At F d v) : Rl Fb Hb F H (ρ.set i (.v d)) (σ.set i (some v)) := by
  have nj : ∀ {j : Nat} {s : Sl}, (ρ.set i (.v d))[j]? = some s → s.isO = true → i ≠ j := fun {j s} h ho e => by
    subst e
    rw [List.getElem?_set] at h
    simp only [if_true] at h
    split at h <;> cases h
    cases ho
  refine ⟨r.gr, fun j e h => ?_, fun j s h ho => ?_, fun j k p s t h1 h2 o1 o2 h3 h4 => ?_, by simp [r.len]⟩
  · by_cases hj : i = j
    · subst hj
      rw [List.getElem?_set] at h
      simp only [if_true] at h
      split at h
      · rename_i hl
        cases h
        refine ⟨v, ?_, a⟩
        rw [List.getElem?_set]
        simp [← r.len, hl]
      · cases h
    · rw [List.getElem?_set_ne hj] at h ⊢
      exact r.vals j e h
  · have hj := nj h ho
    rw [List.getElem?_set_ne hj] at h ⊢
    exact r.ows j s h ho
  · have a1 := nj h1 o1
    have a2 := nj h2 o2
    rw [List.getElem?_set_ne a1] at h1 h3
    rw [List.getElem?_set_ne a2] at h2 h4
    exact r.dis j k p s t h1 h2 o1 o2 h3 h4
theorem Rl.setW (r : Rl Fb Hb F H ρ σ) {i : Nat} {w : Sl} {p : Addr} {o : HO} (h0 : Hb p = none) (hF : F p = none) (hH : H p = some o) (a : zaU F o w)
    (nw : ∀ (j : Nat) (s : Sl), ρ[j]? = some s → s.isO = true → σ[j]? ≠ some (some (.ref p))) : Rl Fb Hb F H (ρ.set i w) (σ.set i (some (.ref p))) := by
  have at_i : ∀ {s : Sl}, (ρ.set i w)[i]? = some s → i < ρ.length ∧ s = w := fun {s} h => by
    rw [List.getElem?_set] at h
    simp only [if_true] at h
    split at h
    · rename_i hl
      cases h
      exact ⟨hl, rfl⟩
    · cases h
  have st_i : i < ρ.length → (σ.set i (some (V.ref p)))[i]? = some (some (.ref p)) := fun hl => by
    rw [List.getElem?_set]
    simp [← r.len, hl]
  refine ⟨r.gr, fun j e h => ?_, fun j s h ho => ?_, fun j k q s t h1 h2 o1 o2 h3 h4 => ?_, by simp [r.len]⟩
  · by_cases hj : i = j
    · subst hj
      have e := (at_i h).2
      have := a.isO
      rw [← e] at this
      cases this
    · rw [List.getElem?_set_ne hj] at h ⊢
      exact r.vals j e h
  · by_cases hj : i = j
    · subst hj
      obtain ⟨hl, e⟩ := at_i h
      subst e
      exact ⟨p, o, st_i hl, h0, hF, hH, a⟩
    · rw [List.getElem?_set_ne hj] at h ⊢
      exact r.ows j s h ho
  · by_cases hj : i = j
    · subst hj
      by_cases hk : i = k
      · exact hk
      · obtain ⟨hl, _⟩ := at_i h1
        rw [st_i hl] at h3
        cases h3
        rw [List.getElem?_set_ne hk] at h2 h4
        exact absurd h4 (nw k t h2 o2)
    · by_cases hk : i = k
      · subst hk
        obtain ⟨hl, _⟩ := at_i h2
        rw [st_i hl] at h4
        cases h4
        rw [List.getElem?_set_ne hj] at h1 h3
        exact absurd h3 (nw j s h1 o1)
      · rw [List.getElem?_set_ne hj] at h1 h3
        rw [List.getElem?_set_ne hk] at h2 h4
        exact r.dis j k q s t h1 h2 o1 o2 h3 h4
theorem Rl.setO (r : Rl Fb Hb F H ρ σ) {i : Nat} {ds : List D} {p : Addr} {xs : List V} (h0 : Hb p = none) (hF : F p = none) (hH : H p = some (.lst xs)) (a : AtL F ds xs)
    (nw : ∀ (j : Nat) (s : Sl), ρ[j]? = some s → s.isO = true → σ[j]? ≠ some (some (.ref p))) : Rl Fb Hb F H (ρ.set i (.o ds)) (σ.set i (some (.ref p))) := r.setW h0 hF hH ⟨xs, rfl, a⟩ nw
theorem Rl.mutW (r : Rl Fb Hb F H ρ σ) {i : Nat} {w w' : Sl} {p : Addr} {o' : HO} (e : ρ[i]? = some w) (hw : w.isO = true) (e1 : σ[i]? = some (some (.ref p))) (a : zaU F o' w') : Rl Fb Hb F (upd H p o') (ρ.set i w') σ := by
  obtain ⟨q, o, e2, h0, hF, hH, _⟩ := r.ows i w e hw
  rw [e1] at e2
  cases e2
  have hi : i < ρ.length := (List.getElem?_eq_some_iff.mp e).1
  have neP : ∀ {j : Nat} {s : Sl} {q : Addr}, i ≠ j → ρ[j]? = some s → s.isO = true → σ[j]? = some (some (.ref q)) → q ≠ p := fun {j s q} hne h1 ho h2 z => by
    subst z
    exact hne (r.dis i j q w s e h1 hw ho e1 h2)
  refine ⟨⟨r.gr.ff, fun b o z => ?_, fun b o z1 z2 => ?_⟩, fun j d h => ?_, fun j s h ho => ?_, fun j k q s t h1 h2 o1 o2 h3 h4 => ?_, by simp [r.len]⟩
  · rw [zz (zm z hF)]
    exact r.gr.fh b o z
  · rw [zz (zm z2 h0)]
    exact r.gr.kp b o z1 z2
  · by_cases hj : i = j
    · subst hj
      rw [List.getElem?_set_self hi] at h
      cases h
      exact (Bool.noConfusion a.isO)
    · rw [List.getElem?_set_ne hj] at h
      exact r.vals j d h
  · by_cases hj : i = j
    · subst hj
      rw [List.getElem?_set_self hi] at h
      cases h
      exact ⟨p, o', e1, h0, hF, zo, a⟩
    · rw [List.getElem?_set_ne hj] at h
      obtain ⟨q, z, f1, f2, f3, f4, f5⟩ := r.ows j s h ho
      refine ⟨q, z, f1, f2, f3, ?_, f5⟩
      rw [zz (neP hj h ho f1)]
      exact f4
  · have back : ∀ {j : Nat} {s : Sl}, (ρ.set i w')[j]? = some s → s.isO = true → ∃ s', ρ[j]? = some s' ∧ s'.isO = true := fun {j s} h ho => by
      by_cases hj : i = j
      · subst hj; exact ⟨w, e, hw⟩
      · rw [List.getElem?_set_ne hj] at h; exact ⟨s, h, ho⟩
    obtain ⟨f1, g1, g1'⟩ := back h1 o1
    obtain ⟨f2, g2, g2'⟩ := back h2 o2
    exact r.dis j k q f1 f2 g1 g2 g1' g2' h3 h4
theorem Rl.mutate (r : Rl Fb Hb F H ρ σ) {i : Nat} {ds es : List D} {p : Addr} {ys : List V} (e : ρ[i]? = some (.o ds)) (e1 : σ[i]? = some (some (.ref p))) (a : AtL F es ys) : Rl Fb Hb F (upd H p (.lst ys)) (ρ.set i (.o es)) σ :=
  r.mutW e rfl e1 ⟨ys, rfl, a⟩
noncomputable def Sl.fz : Sl → Sl
  | .o ds => .v (.lst ds)
  | .m t ks vs => .v (.dct false t ks vs)
  | s => s
noncomputable def zgu (ρ : SE) (i : Nat) : SE := ρ.set i ((ρ[i]?).getD .no).fz
theorem Rl.freeze (r : Rl Fb Hb F H ρ σ) (i : Nat) : ∃ F', Rl Fb Hb F' H (zgu ρ i) σ := by
  unfold zgu
  cases h : ρ[i]? with
  | none =>
    refine ⟨F, ?_⟩
    rw [List.set_eq_of_length_le (List.getElem?_eq_none_iff.mp h)]
    exact r
  | some s =>
    have hi : i < ρ.length := (List.getElem?_eq_some_iff.mp h).1
    have same : s.fz = s → ∃ F', Rl Fb Hb F' H (ρ.set i ((some s).getD .no).fz) σ := fun e => by
      refine ⟨F, ?_⟩
      show Rl Fb Hb F H (ρ.set i s.fz) σ
      rw [e]
      have : ρ.set i s = ρ := by
        apply List.ext_getElem?
        intro j
        by_cases hj : i = j
        · subst hj; rw [List.getElem?_set_self hi, h]
        · rw [List.getElem?_set_ne hj]
      rw [this]
      exact r
    have give : ∀ d, s.isO = true → s.g = some d → s.fz = .v d → ∃ F', Rl Fb Hb F' H (ρ.set i ((some s).getD .no).fz) σ := fun d ho hg hz => by
      obtain ⟨p, o, e1, e2, e3, e4, a⟩ := r.ows i s h ho
      have sF : yP F (upd F p o) := fun b u e => by rw [zz (zm e e3)]; exact e
      show ∃ F', Rl Fb Hb F' H (ρ.set i s.fz) σ
      rw [hz]
      have nj : ∀ {j : Nat} {t : Sl}, (ρ.set i (.v d))[j]? = some t → t.isO = true → i ≠ j := fun {j t} h ht e => by
        subst e
        rw [List.getElem?_set_self hi] at h
        cases h
        cases ht
      refine ⟨upd F p o, r.gr.show e2 e3 e4, fun j e z => ?_, fun j t z ht => ?_, fun j k q t u h1 h2 o1 o2 h3 h4 => ?_, by simp [r.len]⟩
      · by_cases hj : i = j
        · subst hj
          rw [List.getElem?_set_self hi] at z
          cases z
          exact ⟨_, e1, a.at hg zo sF⟩
        · rw [List.getElem?_set_ne hj] at z
          obtain ⟨v, f1, f2⟩ := r.vals j e z
          exact ⟨v, f1, f2.mono sF⟩
      · have hj := nj z ht
        rw [List.getElem?_set_ne hj] at z
        obtain ⟨q, y, f1, f2, f3, f4, f5⟩ := r.ows j t z ht
        refine ⟨q, y, f1, f2, ?_, f4, f5.mono sF⟩
        rw [zz (fun w => hj (r.dis i j p s t h z ho ht e1 (by rw [← w]; exact f1)))]
        exact f3
      · have a1 := nj h1 o1
        have a2 := nj h2 o2
        rw [List.getElem?_set_ne a1] at h1
        rw [List.getElem?_set_ne a2] at h2
        exact r.dis j k q t u h1 h2 o1 o2 h3 h4
    cases s with
    | no => exact same rfl
    | v d => exact same rfl
    | o ds => exact give _ rfl rfl rfl
    | m t ks ds => exact give _ rfl rfl rfl
end
inductive Ctl where
  | nx (ρ : SE) | rt (d : D) | bk (ρ : SE) | ct (ρ : SE) | no
  deriving Inhabited
noncomputable def SOk (Fb Hb : Hp) (E : zaT) : Ctl → Prop
  | .nx ρ => ∀ F H σ, Rl Fb Hb F H ρ σ → E.nx σ H
  | .bk ρ => ∀ F H σ, Rl Fb Hb F H ρ σ → E.bk σ H
  | .ct ρ => ∀ F H σ, Rl Fb Hb F H ρ σ → E.ct σ H
  | .rt d => ∀ F H v, Gr Fb Hb F H → At F d v → E.rt v H
  | .no => False
noncomputable def RS (t : TS) (g : SE → Ctl) : Prop := ∀ (Fb Hb F H : Hp) (ρ : SE) (σ : St) (E : zaT), Rl Fb Hb F H ρ σ → SOk Fb Hb E (g ρ) → t E σ H
noncomputable def SD (X : Cx) (st : Stmt) (g : SE → Ctl) : Prop := ∃ t, PS X st t ∧ RS t g
noncomputable def SDs (X : Cx) (sts : List Stmt) (g : SE → Ctl) : Prop := ∃ t, PSs X sts t ∧ RS t g
section
variable {X : Cx} {st : Stmt} {sts : List Stmt} {a b c e : Expr} {pos pos' : Pos}
noncomputable def zG : SE → Ctl := .nx
noncomputable def zM (g h : SE → Ctl) : SE → Ctl := fun ρ => match g ρ with
  | .nx ρ' => h ρ'
  | .rt d => .rt d
  | .bk ρ' => .bk ρ'
  | .ct ρ' => .ct ρ'
  | .no => .no
theorem zw : SDs X [] zG := ⟨_, za9, fun _ _ F H ρ σ E r h => h F H σ r⟩
theorem ze {g h : SE → Ctl} (h1 : SD X st g) (h2 : SDs X sts h) : SDs X (st :: sts) (zM g h) := by
  obtain ⟨t, p, r⟩ := h1
  obtain ⟨u, p2, r2⟩ := h2
  refine ⟨_, XR p p2, fun Fb Hb F H ρ σ E rl k => ?_⟩
  refine r Fb Hb F H ρ σ { E with nx := u E } rl ?_
  unfold zM at k
  cases e : g ρ with
  | nx ρ' =>
    rw [e] at k
    exact fun F' H' σ' rl' => r2 Fb Hb F' H' ρ' σ' E rl' k
  | rt d => rw [e] at k; exact k
  | bk d => rw [e] at k; exact k
  | ct d => rw [e] at k; exact k
  | no => rw [e] at k; exact k
theorem zj {g : SE → Ctl} (h1 : SD X st g) : SDs X [st] g := let ⟨_, p, r⟩ := h1; ⟨_, Vf p, r⟩
noncomputable def sFz (i : Nat) (g : SE → Ctl) : SE → Ctl := fun ρ => g (zgu ρ i)
theorem Xk {g : SE → Ctl} (i : Nat) (h : SDs X sts g) : SDs X sts (sFz i g) := by
  obtain ⟨t, p, r⟩ := h
  refine ⟨_, p, fun Fb Hb F H ρ σ E rl k => ?_⟩
  obtain ⟨F', rl'⟩ := rl.freeze i
  exact r Fb Hb F' H _ σ E rl' k
noncomputable def sNo : SE → Ctl := fun _ => .no
theorem Y8 : SD X st sNo := ⟨_, zcO, fun _ _ _ _ _ _ _ _ h => h.elim⟩
noncomputable def yn (f : Ev → Option D) : SE → Ctl := fun ρ => match f (visG ρ) with
  | some d => .rt d
  | none => .no
theorem zt {f : Ev → Option D} (h : ED X e f) : SD X (.Return (some e) pos) (yn f) := by
  obtain ⟨t, p, r⟩ := h
  refine ⟨_, zac p, fun Fb Hb F H ρ σ E rl k => ?_⟩
  unfold yn at k
  cases h : f (visG ρ) with
  | none => rw [h] at k; exact k.elim
  | some d =>
    rw [h] at k
    exact r σ _ _ H d _ rl.gh rl.visG h fun F' H' v g av => k F' H' v (rl.out g) av
noncomputable def ve : SE → Ctl := fun _ => .rt .non
noncomputable def vEv (m : Bool) (f : Ev → Option D) (ρ : SE) : Option D := if m = true then (f (visG ρ)).bind fun d => if noL d = true then some d else none else f (visF ρ)
theorem RE.at {Fb Hb F H : Hp} {ρ : SE} {σ : St} {m : Bool} {f : Ev → Option D} {t : TE} {d : D} {Q : VK} (r : RE t f) (rl : Rl Fb Hb F H ρ σ) (h : vEv m f ρ = some d) (q : ∀ F' H' v, Gr F H F' H' → At F' d v → Q v H') : t σ H Q := by
  unfold vEv at h
  cases m with
  | false =>
    rw [if_neg Bool.false_ne_true] at h
    exact r σ _ _ H d _ rl.gr.fh rl.visF h q
  | true =>
    rw [if_pos rfl] at h
    obtain ⟨d', h1, h2⟩ := Option.bind_eq_some_iff.mp h
    split at h2 <;> cases h2
    rename_i hn
    refine r σ _ _ H d _ rl.gh rl.visG h1 fun F' H' v g av => ?_
    obtain ⟨g2, fl⟩ := rl.back g
    exact q _ H' v g2 (av.flat fl hn)
noncomputable def wm (m : Bool) (i : Nat) (f : Ev → Option D) : SE → Ctl := fun ρ => match vEv m f ρ with
  | some d => .nx (ρ.set i (.v d))
  | none => .no
theorem yI {m : Bool} {i : Nat} {x : Str} {f : Ev → Option D} (hN : X.N.Nodup) (hi : X.N[i]? = some x) (hx : Loc X.env.scope x) (he : ED X e f) (hs : swapsWith e (some (.Name x pos')) pos.line X.env = pure false := by rfl)
    (hf : X.fn x = true ∨ X.env.scope.names.lookup x = some .local := by first | exact .inl rfl | exact .inr rfl | assumption) : SD X (.Assign [.Name x pos'] e pos) (wm m i f) := by
  obtain ⟨t, p, r⟩ := he
  refine ⟨_, zbv hN hi hx p hs hf, fun Fb Hb F H ρ σ E rl k => ?_⟩
  unfold wm at k
  cases h : vEv m f ρ with
  | none => rw [h] at k; exact k.elim
  | some d =>
    rw [h] at k
    exact r.at rl h fun F' H' v g av => k F' H' _ ((rl.grow g).set av)
noncomputable def Yh (f : Ev → Option D) : SE → Ctl := fun ρ => match f (visG ρ) with
  | some _ => .nx ρ
  | none => .no
theorem ZL {f : Ev → Option D} (he : ED X e f) (hs : swapsWith e none pos.line X.env = pure false := by rfl) : SD X (.Expr e pos) (Yh f) := by
  obtain ⟨t, p, r⟩ := he
  refine ⟨_, Vj p hs, fun Fb Hb F H ρ σ E rl k => ?_⟩
  unfold Yh at k
  cases h : f (visG ρ) with
  | none => rw [h] at k; exact k.elim
  | some d =>
    rw [h] at k
    exact r σ _ _ H d _ rl.gh rl.visG h fun F' H' v g av => k _ H' σ (rl.grow (rl.back g).1)
noncomputable def Yi (i : Nat) (f : Ev → Option (List D)) : SE → Ctl := fun ρ => match f (visF ρ) with
  | some ds => .nx (ρ.set i (.o ds))
  | none => .no
theorem ZD {i : Nat} {x : Str} {f : Ev → Option (List D)} (hN : X.N.Nodup) (hi : X.N[i]? = some x) (hx : Loc X.env.scope x) (he : FL X e f) (hs : swapsWith e (some (.Name x pos')) pos.line X.env = pure false := by rfl)
    (hf : X.fn x = true ∨ X.env.scope.names.lookup x = some .local := by first | exact .inl rfl | exact .inr rfl | assumption) : SD X (.Assign [.Name x pos'] e pos) (Yi i f) := by
  obtain ⟨t, p, r⟩ := he
  refine ⟨_, zbv hN hi hx p hs hf, fun Fb Hb F H ρ σ E rl k => ?_⟩
  unfold Yi at k
  cases h : f (visF ρ) with
  | none => rw [h] at k; exact k.elim
  | some ds =>
    rw [h] at k
    refine r σ _ _ H ds _ rl.gr.fh rl.visF h fun F' H' q xs g h0 hF hH hx => ?_
    have rl2 := rl.grow g
    exact k F' H' _ (rl2.setO (rl.notbase h0) hF hH hx (rl.notown h0))
noncomputable def sIf (t : Ev → Option Bool) (g h : SE → Ctl) : SE → Ctl := fun ρ => match t (visG ρ) with
  | some true => g ρ
  | some false => h ρ
  | none => .no
theorem yu {as bs : List Stmt} {t : Ev → Option Bool} {g h : SE → Ctl} (hc : TD X c t) (ha : SDs X as g) (hb : SDs X bs h) : SD X (.If c as bs pos) (sIf t g h) := by
  obtain ⟨tc, pc, rc⟩ := hc
  obtain ⟨ta, pa, ra⟩ := ha
  obtain ⟨tb, pb, rb⟩ := hb
  refine ⟨_, zf3 pc pa pb, fun Fb Hb F H ρ σ E rl k => ?_⟩
  unfold sIf at k
  cases h : t (visG ρ) with
  | none => rw [h] at k; exact k.elim
  | some d =>
    rw [h] at k
    refine rc σ _ _ H d _ rl.gh rl.visG h fun F' H' g => ?_
    have rl2 := rl.grow (rl.back g).1
    cases d with
    | true => rw [if_pos rfl]; exact ra Fb Hb _ H' ρ σ E rl2 k
    | false => rw [if_neg Bool.false_ne_true]; exact rb Fb Hb _ H' ρ σ E rl2 k
noncomputable def RG (t : TG) (b : D → SE → Option SE) : Prop := ∀ (Fb Hb F H : Hp) (ρ ρ' : SE) (σ : St) (d : D) (v : V) (Q : St → Hp → Prop), Rl Fb Hb F H ρ σ → At F d v → b d ρ = some ρ' → (∀ σ', Rl Fb Hb F H ρ' σ' → Q σ' H) → t v σ H Q
noncomputable def RGs (t : TGs) (b : List D → SE → Option SE) : Prop := ∀ (Fb Hb F H : Hp) (ρ ρ' : SE) (σ : St) (ds : List D) (vs : List V) (Q : St → Hp → Prop), Rl Fb Hb F H ρ σ → AtL F ds vs → b ds ρ = some ρ' → (∀ σ', Rl Fb Hb F H ρ' σ' → Q σ' H) → t vs σ H Q
noncomputable def BD (X : Cx) (tg : Expr) (b : D → SE → Option SE) : Prop := ∃ t, PG X tg t ∧ RG t b
noncomputable def BDs (X : Cx) (tgs : List Expr) (b : List D → SE → Option SE) : Prop := ∃ t, PGs X tgs t ∧ RGs t b
noncomputable def yq (i : Nat) : D → SE → Option SE := fun d ρ => some (ρ.set i (.v d))
theorem yR {i : Nat} (h : PG X a (YT i)) : BD X a (yq i) := by
  refine ⟨_, h, fun Fb Hb F H ρ ρ' σ d v Q rl av e q => ?_⟩
  cases e
  exact q _ (rl.set av)
noncomputable def Y9 : List D → SE → Option SE
  | [], ρ => some ρ
  | _, _ => none
noncomputable def yX (b : D → SE → Option SE) (c : List D → SE → Option SE) : List D → SE → Option SE
  | d :: ds, ρ => (b d ρ).bind (c ds)
  | [], _ => none
theorem Xz : BDs X [] Y9 := by
  refine ⟨_, zdU, fun Fb Hb F H ρ ρ' σ ds vs Q rl av e q => ?_⟩
  cases ds with
  | nil => cases e; exact ⟨av.nil_inv, q _ rl⟩
  | cons _ _ => cases e
theorem we {es : List Expr} {b : D → SE → Option SE} {c : List D → SE → Option SE} (h1 : BD X e b) (h2 : BDs X es c)
    (hs : (assignEach (e :: es) X.env).map (·.2) = assign e X.env :: (assignEach es X.env).map (·.2) := by rfl) : BDs X (e :: es) (yX b c) := by
  obtain ⟨t, p, r⟩ := h1
  obtain ⟨u, p2, r2⟩ := h2
  refine ⟨_, zc7 p p2 hs, fun Fb Hb F H ρ ρ' σ ds vs Q rl av e q => ?_⟩
  cases ds with
  | nil => cases e
  | cons d ds =>
    obtain ⟨x, xs, rfl, a1, a2⟩ := av.cons_inv
    obtain ⟨ρ1, e1, e2⟩ := Option.bind_eq_some_iff.mp e
    exact ⟨x, xs, rfl, r Fb Hb F H ρ ρ1 σ d x _ rl a1 e1 fun σ1 rl1 => r2 Fb Hb F H ρ1 ρ' σ1 ds xs Q rl1 a2 e2 q⟩
noncomputable def YQ (n : Nat) (c : List D → SE → Option SE) : D → SE → Option SE
  | .tup ds, ρ => if ds.length = n then c ds ρ else none
  | _, _ => none
theorem VZ {es : List Expr} {k : Nat} {n : Nat} {c : List D → SE → Option SE} (hc : X.calm = true) (h : BDs X es c)
    (hn : (assignEach es X.env).length = n := by rfl) (hst : (assignEach es X.env).findIdx? (·.1) = none := by rfl) : BD X (.Tuple es k pos) (YQ n c) := by
  obtain ⟨t, p, r⟩ := h
  refine ⟨_, zgn hc p hn hst, fun Fb Hb F H ρ ρ' σ d v Q rl av e q => ?_⟩
  cases d with
  | tup ds =>
    unfold YQ at e
    dsimp only at e
    split at e
    · rename_i hl
      obtain ⟨a, xs, rfl, hx, al⟩ := av.tup_inv
      exact ⟨a, xs, rfl, SqT.of (rl.gr.fh _ _ hx), by rw [al.length]; exact hl, r Fb Hb F H ρ ρ' σ ds xs Q rl al e q⟩
    · cases e
  | _ => cases e
noncomputable def WT (m : Bool) (f : Ev → Option D) (b : D → SE → Option SE) : SE → Ctl := fun ρ => match (vEv m f ρ).bind fun d => b d ρ with
  | some ρ' => .nx ρ'
  | none => .no
noncomputable def Ys (m : Bool) (i : Nat) (fk fe : Ev → Option D) : SE → Ctl := fun ρ => match (vEv m fe ρ).bind fun d => (fk (visG ρ)).bind fun k => match ρ[i]?, k with
    | some (.o ds), .int k => (ixN ds.length k).map fun j => ρ.set i (.o (ds.set j d))
    | _, _ => none with
  | some ρ' => .nx ρ'
  | none => .no
theorem V4 {m : Bool} {i : Nat} {ko : Expr} {fk fe : Ev → Option D} (he : ED X e fe) (ho : PE X a (zdQ i)) (hk : ED X ko fk) (hs : swapsWithSole [.Subscript a ko pos'] e pos.line X.env = pure false := by rfl) (hw : swappedStores [.Subscript a ko pos'] e X.env = pure none := by rfl)
    (h1 : (assignEach [.Subscript a ko pos'] X.env).map (·.2) = [assign (.Subscript a ko pos') X.env] := by rfl)
    (ha : ∀ v, assign (.Subscript a ko pos') X.env v = (do
      let ov ← holding [v] (eval a X.env)
      let iv ← holding [v, ov] (eval ko X.env)
      standAt pos'
      holding [v, ov, iv] (setItem ov iv v)
      release [v, ov, iv] []) := by intro _; rfl) : SD X (.Assign [.Subscript a ko pos'] e pos) (Ys m i fk fe) := by
  obtain ⟨t, p, r⟩ := he
  obtain ⟨tk, pk, rk⟩ := hk
  refine ⟨_, zfX p (zeS ho pk zdd ha) hs hw h1, fun Fb Hb F H ρ σ E rl k => ?_⟩
  unfold Ys at k
  cases h : (vEv m fe ρ).bind fun d => (fk (visG ρ)).bind fun k => match ρ[i]?, k with
    | some (.o ds), .int k => (ixN ds.length k).map fun j => ρ.set i (.o (ds.set j d))
    | _, _ => none with
  | none => rw [h] at k; exact k.elim
  | some ρ' =>
    rw [h] at k
    obtain ⟨d, e1, e2⟩ := Option.bind_eq_some_iff.mp h
    obtain ⟨kd, e3, e2⟩ := Option.bind_eq_some_iff.mp e2
    cases hs : ρ[i]? with
    | none => rw [hs] at e2; cases e2
    | some sl =>
      rw [hs] at e2
      cases sl with
      | no => cases e2
      | v _ => cases e2
      | m _ _ _ => cases e2
      | o ds =>
        cases kd with
        | int kk =>
          obtain ⟨j, e4, rfl⟩ := Option.map_eq_some_iff.mp e2
          refine r.at rl e1 fun F' H' v g av => ?_
          have rl2 := rl.grow g
          obtain ⟨q, xs, f1, _⟩ := rl2.owns i ds hs
          refine ⟨_, f1, ?_⟩
          refine rk σ _ _ H' _ _ rl2.gh rl2.visG e3 fun F3 H3 v3 g3 av3 => ?_
          obtain ⟨gb, _⟩ := rl2.back g3
          have rl3 := rl2.grow gb
          obtain ⟨q3, xs3, f1', _, _, f4, f5⟩ := rl3.owns i ds hs
          rw [f1] at f1'
          cases f1'
          refine ⟨q, xs3, kk, j, rfl, av3.int_inv, f4, by rw [f5.length]; exact e4, ?_⟩
          exact k _ _ σ (rl3.mutate hs f1 (f5.set j (av.mono gb.ff)))
        | _ => cases e2
end
end Dl
namespace L2
open PySem PySem.Spec PyProof.Rows
section
variable {X : Cx} {tg : Expr}
noncomputable def iSeq (K : PySem.W.Frag) (tl : TE) : TI := fun σ H R => tl σ H fun x H1 => (∃ a, x = .ref a ∧ (∃ xs, SqL K H1 a xs) ∧ R (Itl K a) H1) ∨ (∃ a, x = .ref a ∧ (∃ xs, SqT K H1 a xs) ∧ R (Itt K a) H1)
theorem ze8 {l : Expr} {tl : TE} (hl : PE X l tl) : PI X tg l (iSeq X.K tl) := by
  intro pins s σ H R I h
  refine thn (hl pins s σ H _ I h) fun v s1 hh9 => ?_
  obtain ⟨x, H1, I1, r1, q1⟩ := hh9
  rcases q1 with ⟨a, e, ⟨xs, hq⟩, q⟩ | ⟨a, e, ⟨xs, hq⟩, q⟩
  · subst e
    cases r1
    obtain ⟨its, rv, p, hz⟩ := I1.list hq
    refine wpAny_pyIter_list p.isList ?_
    refine ⟨s1.heap.objs.size, [s1.heap.objs.size], _, _, H1, rfl, I1.kept (t' := s1.toks) fun b o e => Heap.get?_push_of_some _ e, zbl a _, ⟨_, Heap.get?_push_size _ rfl, rfl, rfl⟩, fun b hb => ?_, q⟩
    have e : b = s1.heap.objs.size := by simpa using hb
    subst e
    exact I1.fpOk (Nat.le_refl _) (I1.hok.fresh (Nat.le_refl _))
  · subst e
    cases r1
    obtain ⟨its, rv, p, hz⟩ := I1.tuple hq
    refine wpAny_pyIter_tuple (show s1.heap.IsTuple a its.toArray from p) ?_
    refine ⟨s1.heap.objs.size, [s1.heap.objs.size], _, _, H1, rfl, I1.kept (t' := s1.toks) fun b o e => Heap.get?_push_of_some _ e, zar a _, ⟨_, Heap.get?_push_size _ rfl, rfl, rfl⟩, fun b hb => ?_, q⟩
    have e : b = s1.heap.objs.size := by simpa using hb
    subst e
    exact I1.fpOk (Nat.le_refl _) (I1.hok.fresh (Nat.le_refl _))
end
end L2
namespace Dl
open PySem L2
variable [KK]
noncomputable def zeP (J : It) (F : Hp) (ds : List D) : Prop := ∀ (i : Nat) (F2 H2 : Hp), yP F F2 → yP F2 H2 → (i = ds.length → J.stop i H2) ∧
  ∀ d, ds[i]? = some d → J.go i H2 ∧ ∀ x H3, J.yld i H2 x H3 → ∃ F3, Gr F2 H2 F3 H3 ∧ At F3 d x
noncomputable def RI (wi : TI) (f : Ev → Option (List D)) : Prop :=
  ∀ (σ : St) (ρ : Ev) (F H : Hp) (ds : List D) (R : It → Hp → Prop), yP F H → VAt F ρ σ → f ρ = some ds → (∀ F' H' J, Gr F H F' H' → zeP J F' ds → R J H') → wi σ H R
noncomputable def ID (X : Cx) (tg iter : Expr) (f : Ev → Option (List D)) : Prop := ∃ wi, PI X tg iter wi ∧ RI wi f
noncomputable def xy : D → Option (List D)
  | .lst ds => some ds
  | .tup ds => some ds
  | _ => none
section
variable {X : Cx} {tg a b c e : Expr} {pos : Pos}
theorem zf7 {K : PySem.W.Frag} {F : Hp} {p : Addr} {xs : List V} {ds : List D} (h : F p = some (.lst xs)) (al : AtL F ds xs) : zeP (Itl K p) F ds := by
  intro i F2 H2 s1 s2
  have q : SqL K H2 p xs := SqL.of (s2 _ _ (s1 _ _ h))
  refine ⟨fun hl => ⟨xs, q, by rw [al.length, hl]; exact Nat.le_refl _⟩, fun d hd => ?_⟩
  obtain ⟨x, hx, ax⟩ := al.get hd
  refine ⟨⟨xs, x, q, hx⟩, fun y H3 hy => ?_⟩
  obtain ⟨rfl, hy⟩ := hy
  have := hy xs q
  rw [hx] at this
  cases this
  exact ⟨F2, .refl s2, ax.mono s1⟩
theorem zfR {K : PySem.W.Frag} {F : Hp} {p : Addr} {xs : List V} {ds : List D} (h : F p = some (.tup xs)) (al : AtL F ds xs) : zeP (Itt K p) F ds := by
  intro i F2 H2 s1 s2
  have q : SqT K H2 p xs := SqT.of (s2 _ _ (s1 _ _ h))
  refine ⟨fun hl => ⟨xs, q, by rw [al.length, hl]; exact Nat.le_refl _⟩, fun d hd => ?_⟩
  obtain ⟨x, hx, ax⟩ := al.get hd
  refine ⟨⟨xs, x, q, hx⟩, fun y H3 hy => ?_⟩
  obtain ⟨rfl, hy⟩ := hy
  have := hy xs q
  rw [hx] at this
  cases this
  exact ⟨F2, .refl s2, ax.mono s1⟩
noncomputable def iOf (f : Ev → Option D) : Ev → Option (List D) := fun ρ => (f ρ).bind xy
theorem Zq {f : Ev → Option D} (ha : ED X a f) : ID X tg a (iOf f) := by
  obtain ⟨t, p, r⟩ := ha
  refine ⟨_, ze8 p, fun σ ρ F H ds R s va e q => ?_⟩
  obtain ⟨d, e1, e2⟩ := Option.bind_eq_some_iff.mp e
  refine r σ ρ F H d _ s va e1 fun F1 H1 v g1 a1 => ?_
  cases d <;> try cases e2
  · obtain ⟨p, xs, rfl, hx, al⟩ := a1.tup_inv
    exact .inr ⟨p, rfl, ⟨xs, SqT.of (g1.fh _ _ hx)⟩, q F1 H1 _ g1 (zfR hx al)⟩
  · obtain ⟨p, xs, rfl, hx, al⟩ := a1.lst_inv
    exact .inl ⟨p, rfl, ⟨xs, SqL.of (g1.fh _ _ hx)⟩, q F1 H1 _ g1 (zf7 hx al)⟩
noncomputable def Xn (lo : Int) (n : Nat) : List D := (List.range n).map fun k : Nat => .int (lo + k)
theorem VT {F : Hp} (lo : Int) (n : Nat) : zeP (Itr lo n) F (Xn lo n) := by
  intro i F2 H2 s1 s2
  have hlen : (Xn lo n).length = n := by unfold Xn; simp
  refine ⟨fun hl => by rw [hlen] at hl; rw [hl]; exact Nat.le_refl _, fun d hd => ?_⟩
  have hi : i < n := by
    have := (List.getElem?_eq_some_iff.mp hd).1
    omega
  refine ⟨hi, fun y H3 hy => ?_⟩
  obtain ⟨rfl, rfl⟩ := hy
  refine ⟨F2, .refl s2, ?_⟩
  unfold Xn at hd
  rw [List.getElem?_map, List.getElem?_range hi] at hd
  cases hd
  exact .int
@[irreducible] noncomputable def zdH (j : Int) : Bool := decide (-(2 ^ 62) ≤ j ∧ j < 2 ^ 62)
omit [KK] in
theorem yr {j : Int} : zdH j = true ↔ -(2 ^ 62) ≤ j ∧ j < 2 ^ 62 := by unfold zdH; exact decide_eq_true_iff
noncomputable def vX : List D → Option (List D)
  | [.int j] => if zdH j = true then some (Xn 0 j.toNat) else none
  | _ => none
noncomputable def v5 : List D → Option (List D)
  | [.int i, .int j] => if zdH i = true ∧ zdH j = true then some (Xn i (j - i).toNat) else none
  | _ => none
noncomputable def YD (g : List D → Option (List D)) (f : Ev → Option (List D)) : Ev → Option (List D) := fun ρ => (f ρ).bind g
theorem zbi {p : Pos} {f : Ev → Option (List D)} (hg : Gl X "range") (hm : X.mg "range" = none) (ha : AD X [a] f) (hs : starEach [a] X.env = [(false, eval a X.env)] := by rfl) : ID X tg (.Call (.Name "range" p) [a] [] pos) (YD vX f) := by
  obtain ⟨t, pa, r⟩ := ha
  refine ⟨_, WE hg hm pa hs, fun σ ρ F H ds R s va e q => ?_⟩
  obtain ⟨d, e1, e2⟩ := Option.bind_eq_some_iff.mp e
  refine r σ ρ F H d _ s va e1 fun F1 H1 v g1 a1 => ?_
  unfold vX at e2
  split at e2
  · split at e2
    · cases e2
      rename_i hc
      obtain ⟨x, r', rfl, ax, ar⟩ := a1.cons_inv
      cases ar.nil_inv
      exact ⟨_, by rw [ax.int_inv], (yr.mp hc).1, (yr.mp hc).2, q F1 H1 _ g1 (VT 0 _)⟩
    · cases e2
  · cases e2
theorem ZK {p : Pos} {f : Ev → Option (List D)} (hg : Gl X "range") (hm : X.mg "range" = none) (ha : AD X [a, b] f) (hs : starEach [a, b] X.env = [(false, eval a X.env), (false, eval b X.env)] := by rfl) (hs2 : starEach [b] X.env = [(false, eval b X.env)] := by rfl) :
    ID X tg (.Call (.Name "range" p) [a, b] [] pos) (YD v5 f) := by
  obtain ⟨t, pa, r⟩ := ha
  refine ⟨_, Wr hg hm pa hs hs2, fun σ ρ F H ds R s va e q => ?_⟩
  obtain ⟨d, e1, e2⟩ := Option.bind_eq_some_iff.mp e
  refine r σ ρ F H d _ s va e1 fun F1 H1 v g1 a1 => ?_
  unfold v5 at e2
  split at e2
  · split at e2
    · cases e2
      rename_i hc
      obtain ⟨x, r', rfl, ax, ar⟩ := a1.cons_inv
      obtain ⟨y, r', rfl, ay, ar⟩ := ar.cons_inv
      cases ar.nil_inv
      exact ⟨_, _, by rw [ax.int_inv, ay.int_inv], ⟨(yr.mp hc.1).1, (yr.mp hc.1).2, (yr.mp hc.2).1, (yr.mp hc.2).2⟩, q F1 H1 _ g1 (VT _ _)⟩
    · cases e2
  · cases e2
noncomputable def Xo (n : Nat) : List D → List D
  | [] => []
  | d :: ds => .tup [.int n, d] :: Xo (n + 1) ds
omit [KK] in
theorem ZQ (ds : List D) : ∀ (n i : Nat), (Xo n ds)[i]? = (ds[i]?).map fun d => .tup [.int ((n + i : Nat) : Int), d] := by
  induction ds with
  | nil => intro n i; simp [Xo]
  | cons d ds ih =>
    intro n i
    cases i with
    | zero => simp [Xo]
    | succ i =>
      show (Xo (n + 1) ds)[i]? = (ds[i]?).map _
      rw [ih]
      have : n + 1 + i = n + (i + 1) := by omega
      rw [this]
omit [KK] in
theorem vo (ds : List D) : ∀ n, (Xo n ds).length = ds.length := by
  induction ds with
  | nil => intro n; rfl
  | cons d ds ih => intro n; simp [Xo, ih]
noncomputable def y6 (f : Ev → Option (List D)) : Ev → Option (List D) := fun ρ => (f ρ).bind fun as => match as with
  | [d] => (xy d).map (Xo 0)
  | _ => none
theorem zef {es : List Expr} {k : Nat} {tp p : Pos} {f : Ev → Option (List D)} (hg : Gl X "enumerate") (hm : X.mg "enumerate" = none) (hb : bootBuiltins "enumerate" = some (.type "enumerate")) (ha : AD X [a] f)
    (hs : starEach [a] X.env = [(false, eval a X.env)] := by rfl) : ID X (.Tuple es k tp) (.Call (.Name "enumerate" p) [a] [] pos) (y6 f) := by
  obtain ⟨t, pa, r⟩ := ha
  refine ⟨_, zdX hg hm hb pa hs, fun σ ρ F H ds R s va e q => ?_⟩
  obtain ⟨as, e1, e2⟩ := Option.bind_eq_some_iff.mp e
  refine r σ ρ F H as _ s va e1 fun F1 H1 v g1 a1 => ?_
  split at e2
  · obtain ⟨x, r', rfl, ax, ar⟩ := a1.cons_inv
    cases ar.nil_inv
    obtain ⟨es, e3, rfl⟩ := Option.map_eq_some_iff.mp e2
    rename_i d
    cases d <;> try cases e3
    · obtain ⟨p, xs, rfl, hx, al⟩ := ax.tup_inv
      refine ⟨p, rfl, .inr ⟨xs, SqT.of (g1.fh _ _ hx), q F1 H1 _ g1 fun i F2 H2 s1 s2 => ?_⟩⟩
      have qq : SqT X.K H2 p xs := SqT.of (s2 _ _ (s1 _ _ hx))
      refine ⟨fun hl => ⟨xs, qq, by rw [al.length, hl, vo]; exact Nat.le_refl _⟩, fun d hd => ?_⟩
      rw [ZQ] at hd
      obtain ⟨d', hd', rfl⟩ := Option.map_eq_some_iff.mp hd
      obtain ⟨x, hxi, ax⟩ := al.get hd'
      refine ⟨⟨xs, x, qq, hxi⟩, fun y H3 hy => ?_⟩
      obtain ⟨T, y, rfl, hT, rfl, hy⟩ := hy
      have := hy xs qq
      rw [hxi] at this
      cases this
      have g3 := Gr.alloc s2 hT (.tup [.int i, x])
      exact ⟨_, g3, .tup zo (.cons (by rw [Nat.zero_add]; exact .int) (.cons (ax.mono (s1.trans g3.ff)) .nil))⟩
    · obtain ⟨p, xs, rfl, hx, al⟩ := ax.lst_inv
      refine ⟨p, rfl, .inl ⟨xs, g1.fh _ _ hx, q F1 H1 _ g1 fun i F2 H2 s1 s2 => ?_⟩⟩
      have qq : SqL X.K H2 p xs := SqL.of (s2 _ _ (s1 _ _ hx))
      refine ⟨fun hl => ⟨xs, qq, by rw [al.length, hl, vo]; exact Nat.le_refl _⟩, fun d hd => ?_⟩
      rw [ZQ] at hd
      obtain ⟨d', hd', rfl⟩ := Option.map_eq_some_iff.mp hd
      obtain ⟨x, hxi, ax⟩ := al.get hd'
      refine ⟨⟨xs, x, qq, hxi⟩, fun y H3 hy => ?_⟩
      obtain ⟨T, y, rfl, hT, rfl, hy⟩ := hy
      have := hy xs qq
      rw [hxi] at this
      cases this
      have g3 := Gr.alloc s2 hT (.tup [.int i, x])
      exact ⟨_, g3, .tup zo (.cons (by rw [Nat.zero_add]; exact .int) (.cons (ax.mono (s1.trans g3.ff)) .nil))⟩
  · cases e2
noncomputable def hb2 (F1 Hb : Hp) : Hp := fun p => match F1 p with
  | some o => some o
  | none => Hb p
theorem v0 {F1 Hb : Hp} {p : Addr} (h : F1 p = none) : hb2 F1 Hb p = Hb p := by unfold hb2; rw [h]
theorem VJ {F1 Hb : Hp} {p : Addr} {o : HO} (h : F1 p = some o) : hb2 F1 Hb p = some o := by unfold hb2; rw [h]
theorem Gr.up {Fb Hb F1 H1 F H : Hp} (g1 : Gr Fb Hb F1 H1) (g : Gr F1 (hb2 F1 Hb) F H) : Gr Fb Hb F H := by
  refine ⟨g1.ff.trans g.ff, g.fh, fun p o e1 e2 => ?_⟩
  rcases (g1.kp p o e1 e2).1 with n | ⟨n1, n2⟩
  · exact g.kp p o n (by rw [v0 n]; exact e2)
  · exact ⟨.inr ⟨n1, g.ff _ _ n2⟩, g.fh _ _ (g.ff _ _ n2)⟩
theorem Gr.dn {Fb Hb F1 F H : Hp} (g : Gr Fb Hb F H) (s1 : yP Fb F1) (s : yP F1 F) : Gr F1 (hb2 F1 Hb) F H := by
  refine ⟨s, g.fh, fun p o e1 e2 => ?_⟩
  rw [v0 e1] at e2
  exact g.kp p o (s1.free e1) e2
theorem Rl.up {Fb Hb F1 H1 F H : Hp} {ρ : SE} {σ : St} (g1 : Gr Fb Hb F1 H1) (r : Rl F1 (hb2 F1 Hb) F H ρ σ) : Rl Fb Hb F H ρ σ := by
  refine ⟨g1.up r.gr, r.vals, fun i s e ho => ?_, r.dis, r.len⟩
  obtain ⟨p, o, e1, e2, e3⟩ := r.ows i s e ho
  refine ⟨p, o, e1, ?_, e3⟩
  cases h : F1 p with
  | none => rw [v0 h] at e2; exact e2
  | some o => rw [VJ h] at e2; cases e2
theorem Rl.dn {Fb Hb F1 F H : Hp} {ρ : SE} {σ : St} (r : Rl Fb Hb F H ρ σ) (s1 : yP Fb F1) (s : yP F1 F) : Rl F1 (hb2 F1 Hb) F H ρ σ := by
  refine ⟨r.gr.dn s1 s, r.vals, fun i t e ho => ?_, r.dis, r.len⟩
  obtain ⟨p, o, e1, e2, e3, e4⟩ := r.ows i t e ho
  refine ⟨p, o, e1, ?_, e3, e4⟩
  rw [v0 (s.free e3)]
  exact e2
noncomputable def Vy (b : D → SE → Option SE) (g : SE → Ctl) : List D → SE → Ctl
  | [], ρ => .nx ρ
  | d :: ds, ρ => match b d ρ with
    | none => .no
    | some ρ1 => match g ρ1 with
      | .nx ρ' => Vy b g ds ρ'
      | .ct ρ' => Vy b g ds ρ'
      | .bk ρ' => .nx ρ'
      | .rt d => .rt d
      | .no => .no
noncomputable def vz (f : Ev → Option (List D)) (b : D → SE → Option SE) (g : SE → Ctl) : SE → Ctl := fun ρ => match f (visF ρ) with
  | some ds => Vy b g ds ρ
  | none => .no
theorem zaW {Fb Hb F1 H1 : Hp} {ρ : SE} {σ : St} {E : zaT} {J : It} {g : TG} {tb : TS} {ds : List D} {b : D → SE → Option SE} {gb : SE → Ctl} (hit : zeP J F1 ds) (rg : RG g b) (rb : RS tb gb) (rl0 : Rl Fb Hb F1 H1 ρ σ) (k : SOk Fb Hb E (Vy b gb ds ρ)) :
    ∃ W : Nat → Nat → St → Hp → Prop, (∃ m, W 0 m σ H1) ∧ ∀ i m σ H, W i m σ H →
      (J.stop i H ∧ E.nx σ H) ∨ (J.go i H ∧ ∃ N : St → Hp → Prop, (∀ σ' H', N σ' H' → ∃ m', m' < m ∧ W (i + 1) m' σ' H') ∧ ∀ x H', J.yld i H x H' → g x σ H' fun σ2 H2 => tb { E with nx := N, ct := N, bk := E.nx } σ2 H2) := by
  refine ⟨fun i m σ H => m = ds.length - i ∧ i ≤ ds.length ∧ ∃ F ρ, yP F1 F ∧ Rl Fb Hb F H ρ σ ∧ SOk Fb Hb E (Vy b gb (ds.drop i) ρ), ⟨ds.length, by simp, Nat.zero_le _, F1, ρ, yP.refl _, rl0, k⟩, ?_⟩
  rintro i m σ H ⟨rfl, hi, F, ρ, s1, rl, k⟩
  obtain ⟨stop, go⟩ := hit i F H s1 rl.gr.fh
  by_cases hlt : i < ds.length
  · have hd : ds.drop i = ds[i] :: ds.drop (i + 1) := List.drop_eq_getElem_cons hlt
    rw [hd] at k
    unfold Vy at k
    obtain ⟨g1, g2⟩ := go ds[i] (by simp [hlt])
    refine .inr ⟨g1, fun σ H => ∃ F ρ, yP F1 F ∧ Rl Fb Hb F H ρ σ ∧ SOk Fb Hb E (Vy b gb (ds.drop (i + 1)) ρ), fun σ' H' w => ⟨ds.length - (i + 1), by omega, rfl, hlt, w⟩, fun x H' hy => ?_⟩
    obtain ⟨F3, g3, a3⟩ := g2 x H' hy
    cases hb : b ds[i] ρ with
    | none => rw [hb] at k; exact k.elim
    | some ρ1 =>
      rw [hb] at k
      dsimp only at k
      refine rg Fb Hb F3 H' ρ ρ1 σ _ x _ (rl.grow g3) a3 hb fun σ2 rl2 => ?_
      have s3 := s1.trans g3.ff
      refine rb F1 (hb2 F1 Hb) F3 H' ρ1 σ2 _ (rl2.dn rl0.gr.ff s3) ?_
      cases hg : gb ρ1 with
      | nx ρ' => rw [hg] at k; exact fun F4 H4 σ4 r4 => ⟨F4, ρ', r4.gr.ff, r4.up rl0.gr, k⟩
      | ct ρ' => rw [hg] at k; exact fun F4 H4 σ4 r4 => ⟨F4, ρ', r4.gr.ff, r4.up rl0.gr, k⟩
      | bk ρ' => rw [hg] at k; exact fun F4 H4 σ4 r4 => k F4 H4 σ4 (r4.up rl0.gr)
      | rt d => rw [hg] at k; exact fun F4 H4 v g4 a4 => k F4 H4 v (rl0.gr.up g4) a4
      | no => rw [hg] at k; exact k.elim
  · have e : i = ds.length := by omega
    subst e
    rw [List.drop_length] at k
    exact .inl ⟨stop rfl, k F H σ rl⟩
theorem ZS {iter : Expr} {body : List Stmt} {f : Ev → Option (List D)} {b : D → SE → Option SE} {g : SE → Ctl} (hp : PassesOwn (model X.prog X.w) X.A X.env X.xe) (hc : X.calm = true) (hi : ID X tg iter f) (hg : BD X tg b) (hb : SDs X body g)
    (hs : ∀ x, foldedSetIterable iter X.env x = pure x := by intro _; rfl) : SD X (.For tg iter body [] pos) (vz f b g) := by
  obtain ⟨wi, pi, ri⟩ := hi
  obtain ⟨tg', pg, rg⟩ := hg
  obtain ⟨tb, pb, rb⟩ := hb
  refine ⟨_, VP hp hc pi pg pb hs, fun Fb Hb F H ρ σ E rl k => ?_⟩
  unfold vz at k
  cases h : f (visF ρ) with
  | none => rw [h] at k; exact k.elim
  | some ds =>
    rw [h] at k
    exact ri σ _ _ H ds _ rl.gr.fh rl.visF h fun F1 H1 J g1 ok => zaW ok rg rb (rl.grow g1) k
end
noncomputable def lcD (b : D → Option (List (Option D))) (t : Ev → Option Bool) (f : Ev → Option D) (ρ : Ev) : List D → Option (List D)
  | [] => some []
  | d :: ds => (b d).bind fun own => (t (own ++ ρ)).bind fun c => if c = true then (f (own ++ ρ)).bind fun y => (lcD b t f ρ ds).map (y :: ·) else lcD b t f ρ ds
noncomputable def fLC (i : Ev → Option (List D)) (b : D → Option (List (Option D))) (t : Ev → Option Bool) (f : Ev → Option D) : Ev → Option (List D) := fun ρ => (i ρ).bind fun ds => if lim ds.length = true then lcD b t f ρ ds else none
noncomputable def b1 : D → Option (List (Option D)) := fun d => some [some d]
noncomputable def b2 : D → Option (List (Option D))
  | .tup [x, y] => some [some x, some y]
  | _ => none
noncomputable def RB (n : Nat) (t : TG) (b : D → Option (List (Option D))) : Prop := ∀ (σ : St) (ρ : Ev) (F H : Hp) (d : D) (v : V) (own : List (Option D)) (Q : St → Hp → Prop), yP F H → VAt F ρ σ → At F d v → b d = some own → (∀ σ', VAt F (own ++ ρ) σ' → Q σ' H) → t v (List.replicate n none ++ σ) H Q
noncomputable def xk : Ev → Option Bool := fun _ => some true
theorem zdv : RT tYes xk := fun _ _ _ _ _ _ s _ e q => by cases e; exact q _ _ (.refl s)
theorem zdS {wi : TI} {n : Nat} {g : TG} {tt : TT} {te : TE} {fi : Ev → Option (List D)} {b : D → Option (List (Option D))} {ft : Ev → Option Bool} {fe : Ev → Option D} (ri : RI wi fi) (rg : RB n g b) (rt : RT tt ft) (re : RE te fe) :
    RF (tLC wi n g tt te) (fLC fi b ft fe) := by
  intro σ ρ F H out Q s va e q
  obtain ⟨ds, e1, e2⟩ := Option.bind_eq_some_iff.mp e
  split at e2 <;> try cases e2
  rename_i hlim
  have hlim : ds.length ≤ sizeLine := of_decide_eq_true hlim
  refine ri σ ρ F H ds _ s va e1 fun F1 H1 J g1 ok => ?_
  intro P hP
  have hF1 : F1 P = none := g1.fh.free hP
  have hH0 : H P = none := by
    cases e : H P with
    | none => rfl
    | some o =>
      cases e2 : F P with
      | none => rw [(g1.kp P o e2 e).2] at hP; cases hP
      | some u => rw [g1.fh _ _ (g1.ff _ _ e2)] at hP; cases hP
  refine ⟨fun i m ys H2 => m = ds.length - i ∧ i ≤ ds.length ∧ ∃ F2 done, Gr F1 H1 F2 H2 ∧ Gr F1 (upd H1 P (.lst [])) F2 (upd H2 P (.lst [])) ∧ F2 P = none ∧ H2 P = some (.lst ys) ∧ AtL F2 done ys ∧ done.length ≤ i ∧ ∃ more, lcD b ft fe ρ (ds.drop i) = some more ∧ done ++ more = out, ⟨ds.length, by simp, Nat.zero_le _, F1, [], Gr.hide g1.fh hP _, ?_, hF1, zo, .nil, Nat.zero_le _, out, e2, rfl⟩, ?_⟩
  · rw [zbm]
    exact .refl fun b u z => by rw [zz (zm z hF1)]; exact g1.fh b u z
  rintro i m ys H2 ⟨rfl, hi, F2, done, g2, g2', hF2, hH2, al, hdl, more, hm, hout⟩
  obtain ⟨stop, go⟩ := ok i F2 H2 g2.ff g2.fh
  by_cases hlt : i < ds.length
  · have hd : ds.drop i = ds[i] :: ds.drop (i + 1) := List.drop_eq_getElem_cons hlt
    rw [hd] at hm
    unfold lcD at hm
    obtain ⟨own, hb, hm⟩ := Option.bind_eq_some_iff.mp hm
    obtain ⟨cb, hc, hm⟩ := Option.bind_eq_some_iff.mp hm
    obtain ⟨k1, k2⟩ := go ds[i] (by simp [hlt])
    refine .inr ⟨k1, by rw [al.length]; omega, fun x H3 hy => ?_⟩
    obtain ⟨F3, g3, a3⟩ := k2 x H3 hy
    refine rg σ ρ F3 H3 ds[i] x own _ g3.fh (va.mono (g1.ff.trans (g2.ff.trans g3.ff))) a3 hb fun σ4 va4 => ?_
    refine rt σ4 _ F3 H3 cb _ g3.fh va4 hc fun F5 H5 g5 => ?_
    have g35 := g3.trans g5
    obtain ⟨n5, h5⟩ := g35.kl (fun _ e => by cases e) hF2 hH2
    have keep2 : ∀ {F6 H6 : Hp} {o : HO}, Gr F2 H2 F6 H6 → F6 P = none → Gr F1 (upd H1 P (.lst [])) F6 (upd (upd H6 P o) P (.lst [])) := fun {F6 H6 o} g6 n6 => by
      rw [zbm]
      refine ⟨g2.ff.trans g6.ff, fun b u z => ?_, fun b u z1 z2 => ?_⟩
      · rw [zz (zm z n6)]; exact g6.fh b u z
      · by_cases hbP : b = P
        · subst hbP
          rw [zo] at z2 ⊢
          exact ⟨.inl n6, z2⟩
        · rw [zz hbP] at z2 ⊢
          exact (g2.trans g6).kp b u z1 z2
    have keep1 : ∀ {F6 H6 : Hp} {o : HO}, Gr F2 H2 F6 H6 → F6 P = none → Gr F1 H1 F6 (upd H6 P o) := fun {F6 H6 o} g6 n6 => by
      refine ⟨g2.ff.trans g6.ff, fun b u z => ?_, fun b u z1 z2 => ?_⟩
      · rw [zz (zm z n6)]; exact g6.fh b u z
      · rw [zz (zm z2 hP)]
        exact (g2.trans g6).kp b u z1 z2
    cases cb with
    | false =>
      rw [if_neg Bool.false_ne_true] at hm ⊢
      have ups : H5 = upd H5 P (.lst ys) := by
        funext b
        by_cases hbP : b = P
        · subst hbP; rw [zo]; exact h5
        · rw [zz hbP]
      refine ⟨ds.length - (i + 1), by omega, rfl, hlt, F5, done, ?_, ?_, n5, h5, al.mono g35.ff, by omega, more, hm, hout⟩
      · rw [ups]; exact keep1 g35 n5
      · have := keep2 (o := .lst ys) g35 n5
        rw [← ups] at this
        exact this
    | true =>
      rw [if_pos rfl] at hm ⊢
      obtain ⟨y, hy, hm⟩ := Option.bind_eq_some_iff.mp hm
      obtain ⟨rest, hm', rfl⟩ := Option.map_eq_some_iff.mp hm
      refine re σ4 _ F5 H5 y _ g5.fh (va4.mono g5.ff) hy fun F6 H6 v g6 a6 => ?_
      have g36 := g35.trans g6
      obtain ⟨n6, h6⟩ := g36.kl (fun _ e => by cases e) hF2 hH2
      refine ⟨h6, ds.length - (i + 1), by omega, rfl, hlt, F6, done ++ [y], keep1 g36 n6, keep2 g36 n6, n6, zo, (al.mono g36.ff).snoc a6, by rw [List.length_append]; simp; omega, rest, hm', by rw [← hout, List.append_assoc]; rfl⟩
  · have e : i = ds.length := by omega
    subst e
    rw [List.drop_length] at hm
    cases hm
    rw [List.append_nil] at hout
    subst hout
    exact .inl ⟨stop rfl, q F2 H2 P ys (g1.trans g2) hH0 hF2 hH2 al⟩
theorem rb1 : RB 1 (YT 0) b1 := by
  intro σ ρ F H d v own Q s va av e q
  cases e
  refine q _ fun i d' h => ?_
  cases i with
  | zero => cases h; exact ⟨v, rfl, av⟩
  | succ i => exact va i d' h
noncomputable def tCan (f : Ev → Option D) : TE := fun σ H Q => ∃ ρ F d, yP F H ∧ VAt F ρ σ ∧ f ρ = some d ∧ ∀ F' H' v, Gr F H F' H' → At F' d v → Q v H'
noncomputable def zfd (f : Ev → Option Bool) : TT := fun σ H Q => ∃ ρ F d, yP F H ∧ VAt F ρ σ ∧ f ρ = some d ∧ ∀ F' H', Gr F H F' H' → Q d H'
theorem ED.can {X : Cx} {e : Expr} {f : Ev → Option D} (h : ED X e f) : PE X e (tCan f) := by
  obtain ⟨t, p, r⟩ := h
  rintro pins s σ H Q I ⟨ρ, F, d, h1, h2, h3, h4⟩
  exact p pins s σ H Q I (r σ ρ F H d Q h1 h2 h3 h4)
theorem TD.can {X : Cx} {e : Expr} {f : Ev → Option Bool} (h : TD X e f) : PT X e (zfd f) := by
  obtain ⟨t, p, r⟩ := h
  rintro pins s σ H Q I ⟨ρ, F, d, h1, h2, h3, h4⟩
  exact p pins s σ H Q I (r σ ρ F H d Q h1 h2 h3 h4)
theorem zaY {f : Ev → Option D} : RE (tCan f) f := fun _ ρ F _ d _ h1 h2 h3 h4 => ⟨ρ, F, d, h1, h2, h3, h4⟩
theorem zft {f : Ev → Option Bool} : RT (zfd f) f := fun _ ρ F _ d _ h1 h2 h3 h4 => ⟨ρ, F, d, h1, h2, h3, h4⟩
theorem VU {X : Cx} {elt tg iter : Expr} {L M : List Str} {scope : Scope} {cl : List (Str × Addr)} {pos : Pos} {fi : Ev → Option (List D)} {b : D → Option (List (Option D))} {fe : Ev → Option D} {g : TG}
    (hc : X.calm = true) (S : xE X L M scope cl) (hi : ID X tg iter fi)
    (hgS : ∀ (σ : St) (v : V) (H : Hp) (Q : St → Hp → Prop), g v (List.replicate L.length none ++ σ) H Q → g v (List.replicate L.length none ++ σ) H (fun σ2 H2 => Yy (List.replicate L.length none ++ σ) σ2 ∧ Q σ2 H2))
    (hrb : RB L.length g b)
    (hg : ∀ s₀ H₀ ex pn, PG (Wl X L M scope cl s₀ H₀ ex pn) tg g) (he : ∀ s₀ H₀ ex pn, ED (Wl X L M scope cl s₀ H₀ ex pn) elt fe)
    (hs : ∀ x, foldedSetIterable iter X.env x = pure x := by intro _; rfl) : FL X (.ListComp elt [⟨tg, iter, [], 0⟩] scope pos) (fLC fi b xk fe) := by
  obtain ⟨wi, pi, ri⟩ := hi
  exact ⟨_, zdk hc S pi hgS hg (fun _ _ _ _ => zb3) (fun _ _ _ _ => (he _ _ _ _).can) hs, zdS ri hrb zdv zaY⟩
theorem ze2 {X : Cx} {elt tg iter c : Expr} {L M : List Str} {scope : Scope} {cl : List (Str × Addr)} {pos : Pos} {fi : Ev → Option (List D)} {b : D → Option (List (Option D))} {ft : Ev → Option Bool} {fe : Ev → Option D} {g : TG}
    (hc : X.calm = true) (S : xE X L M scope cl) (hi : ID X tg iter fi)
    (hgS : ∀ (σ : St) (v : V) (H : Hp) (Q : St → Hp → Prop), g v (List.replicate L.length none ++ σ) H Q → g v (List.replicate L.length none ++ σ) H (fun σ2 H2 => Yy (List.replicate L.length none ++ σ) σ2 ∧ Q σ2 H2))
    (hrb : RB L.length g b)
    (hg : ∀ s₀ H₀ ex pn, PG (Wl X L M scope cl s₀ H₀ ex pn) tg g) (ht : ∀ s₀ H₀ ex pn, TD (Wl X L M scope cl s₀ H₀ ex pn) c ft) (he : ∀ s₀ H₀ ex pn, ED (Wl X L M scope cl s₀ H₀ ex pn) elt fe)
    (hs : ∀ x, foldedSetIterable iter X.env x = pure x := by intro _; rfl) : FL X (.ListComp elt [⟨tg, iter, [c], 0⟩] scope pos) (fLC fi b ft fe) := by
  obtain ⟨wi, pi, ri⟩ := hi
  exact ⟨_, zdk hc S pi hgS hg (fun _ _ _ _ => zem (ht _ _ _ _).can) (fun _ _ _ _ => (he _ _ _ _).can) hs, zdS ri hrb zft zaY⟩
theorem zgi {t : TE} {f : Ev → Option (List D)} (r : RF t f) : RE t (xS f) := by
  intro σ ρ F H d Q s va e q
  obtain ⟨ds, e1, rfl⟩ := Option.map_eq_some_iff.mp e
  refine r σ ρ F H ds Q s va e1 fun F' H' p xs g h0 hF hH hx => ?_
  have g2 := g.show h0 hF hH
  exact q _ _ _ g2 (At.lst zo (hx.mono (fun b u e => by rw [zz (zm e hF)]; exact e)))
noncomputable def FLS (X : Cx) (i : Nat) (st : Stmt) (f : Ev → Option (List D)) : Prop := ∃ t, PS X st (zgA t (YT i)) ∧ RF t f
theorem zes {m : Bool} {i : Nat} {st : Stmt} {f : Ev → Option (List D)} (he : FLS X i st f) : SD X st (wm m i (xS f)) := by
  obtain ⟨t, p, r⟩ := he
  refine ⟨_, p, fun Fb Hb F H ρ σ E rl k => ?_⟩
  unfold wm at k
  cases h : vEv m (xS f) ρ with
  | none => rw [h] at k; exact k.elim
  | some d =>
    rw [h] at k
    exact (zgi r).at rl h fun F' H' v g av => k F' H' _ ((rl.grow g).set av)
theorem zek {i : Nat} {x : Str} {px spos : Pos} {X : Cx} {elt tg iter : Expr} {L M : List Str} {scope : Scope} {cl : List (Str × Addr)} {pos : Pos} {fi : Ev → Option (List D)} {b : D → Option (List (Option D))} {fe : Ev → Option D} {g : TG}
    (hN : X.N.Nodup) (hi' : X.N[i]? = some x) (hx : Loc X.env.scope x) (hc : X.calm = true) (S : xE X L M scope cl) (hi : ID X tg iter fi)
    (hgS : ∀ (σ : St) (v : V) (H : Hp) (Q : St → Hp → Prop), g v (List.replicate L.length none ++ σ) H Q → g v (List.replicate L.length none ++ σ) H (fun σ2 H2 => Yy (List.replicate L.length none ++ σ) σ2 ∧ Q σ2 H2))
    (hrb : RB L.length g b)
    (hg : ∀ s₀ H₀ ex pn, PG (Wl X L M scope cl s₀ H₀ ex pn) tg g) (he : ∀ s₀ H₀ ex pn, ED (Wl X L M scope cl s₀ H₀ ex pn) elt fe)
    (hs : ∀ x, foldedSetIterable iter X.env x = pure x := by intro _; rfl)
    (hsw : swapsWith (.ListComp elt [⟨tg, iter, [], 0⟩] scope pos) (some (.Name x px)) spos.line X.env = pure true := by rfl)
    (hf : X.fn x = true ∨ X.env.scope.names.lookup x = some .local := by first | exact .inl rfl | exact .inr rfl | assumption) : FLS X i (.Assign [.Name x px] (.ListComp elt [⟨tg, iter, [], 0⟩] scope pos) spos) (fLC fi b xk fe) := by
  obtain ⟨wi, pi, ri⟩ := hi
  exact ⟨_, ze3 hN hi' hx hc S pi hgS hg (fun _ _ _ _ => zb3) (fun _ _ _ _ => (he _ _ _ _).can) hs hsw hf, zdS ri hrb zdv zaY⟩
noncomputable def fnD (n : Nat) (g : SE → Ctl) (ds : List D) : Option D := match g (ds.map .v ++ List.replicate (n - ds.length) .no) with
  | .rt d => some d
  | .nx _ => some .non
  | _ => none
noncomputable def spD (m : Nat) (p : List D → Option D) : Sp := fun vs H Q _ => ∃ ds d F, ds.length = m ∧ yP F H ∧ AtL F ds vs ∧ p ds = some d ∧ ∀ F' H' v, Gr F H F' H' → At F' d v → Q v H'
theorem X2 {F H : Hp} {N : List Str} {ds : List D} {vs : List V} (s : yP F H) (a : AtL F ds vs) : Rl F H F H (ds.map .v ++ List.replicate (N.length - ds.length) .no) (L2.start N vs) := by
  have hl := a.length
  have noO : ∀ (i : Nat) (t : Sl), (ds.map Sl.v ++ List.replicate (N.length - ds.length) Sl.no)[i]? = some t → t.isO = true → False := fun i t h ho => by
    by_cases hi : i < ds.length
    · rw [List.getElem?_append_left (by simpa using hi), List.getElem?_map] at h
      cases e : ds[i]? with
      | none => rw [e] at h; cases h
      | some d => rw [e] at h; cases h; cases ho
    · rw [List.getElem?_append_right (by simpa using hi), List.getElem?_replicate] at h
      split at h <;> cases h
      cases ho
  refine ⟨.refl s, fun i d h => ?_, fun i t h ho => (noO i t h ho).elim, fun i j p t u h _ ho => (noO i t h ho).elim, ?_⟩
  · by_cases hi : i < ds.length
    · rw [List.getElem?_append_left (by simpa using hi), List.getElem?_map] at h
      cases e : ds[i]? with
      | none => rw [e] at h; cases h
      | some d' =>
        rw [e] at h
        cases h
        obtain ⟨x, hx, ax⟩ := a.get e
        refine ⟨x, ?_, ax⟩
        unfold L2.start
        rw [List.getElem?_append_left (by simpa [hl] using hi), List.getElem?_map, hx]
        rfl
    · rw [List.getElem?_append_right (by simpa using hi), List.getElem?_replicate] at h
      split at h <;> cases h
  · unfold L2.start
    simp [hl]
theorem xA {P : Program} {w : World} {K : PySem.W.Frag} {mg : Str → Option Value} {base : Heap} {x qual : Str} {st : Stmt} {f : Addr} {fd : FuncData} {N ps : List Str} {k : Nat} {g : SE → Ctl} (Fu : Fun K x qual st f fd) (S : zB N ps (zd st))
    (hb : ∀ (cdv : Value) (A : Around) (outer : List Env) (s : Shared) (H : Hp) (E : XK), YI k (A.deeper (PyProof.Rows.envOfC qual (zd st) s.heap.objs.size f cdv)) → SDs (zcp CX0 P w K mg base N qual (zd st) f cdv A outer s H E).nox (zx st) g) :
    y0 P w K mg base CX0 (k + 1) f fd ps (spD ps.length (fnD N.length g)) := by
  refine Fu.ok S (fun vs H Q E h => ?_) fun cdv A outer s H vs Q E hr h => ?_
  · obtain ⟨ds, d, F, hl, _, a, _⟩ := h
    rw [a.length]; exact hl
  · obtain ⟨ds, d, F, hl, sm, a, e, q⟩ := h
    obtain ⟨t, p, r⟩ := hb cdv A outer s H E hr
    refine ⟨t, p, r F H F H _ _ _ (X2 sm a) ?_⟩
    unfold fnD at e
    cases hg : g (ds.map .v ++ List.replicate (N.length - ds.length) .no) with
    | rt d' => rw [hg] at e; cases e; exact fun F' H' v g av => q F' H' v g av
    | nx ρ => rw [hg] at e; cases e; exact fun F' H' σ rl => q F' H' _ rl.gr .non
    | bk ρ => rw [hg] at e; cases e
    | ct ρ => rw [hg] at e; cases e
    | no => rw [hg] at e; cases e
theorem Yd {P : Program} {w : World} {K : PySem.W.Frag} {mg : Str → Option Value} {base : Heap} {f : Addr} {fd : FuncData} {ps : List Str} {k m : Nat} {p q : List D → Option D} (F : y0 P w K mg base CX0 k f fd ps (spD m p)) (h : ∀ ds d, ds.length = m → q ds = some d → p ds = some d) : y0 P w K mg base CX0 k f fd ps (spD m q) :=
  F.imp fun vs H Q E ⟨ds, d, F', h1, h2, h3, h4, h5⟩ => ⟨ds, d, F', h1, h2, h3, h ds d h1 h4, h5⟩
noncomputable def zr (m : Nat) (p : List D → Option D) (f : Ev → Option (List D)) : Ev → Option D := fun ρ => (f ρ).bind fun ds => if ds.length = m then p ds else none
theorem zn {X : Cx} {x : Str} {k m : Nat} {f : Addr} {fd : FuncData} {ps : List Str} {p : List D → Option D} {e : Expr} {es : List Expr} {pp pos : Pos} {fa : Ev → Option (List D)} (F : y0 X.prog X.w X.K X.mg X.base CX0 k f fd ps (spD m p)) (hr : YI k X.A) (hg : Gl X x) (hm : X.mg x = some (.ref f)) (hk : PySem.W.keepIn X.K (.ref f) = true) (hb : X5 X.K fd ps [])
    (ha : AD X (e :: es) fa) (hdb : (x == ("__debug__" : Str)) = false := by decide) (he : starEach (e :: es) X.env = (false, eval e X.env) :: starEach es X.env := by rfl) (hpl : (backTo pos (starEach es X.env)).any (·.1) = false := by rfl) :
    ED X (.Call (.Name x pp) (e :: es) [] pos) (zr m p fa) := by
  obtain ⟨t, pa, r⟩ := ha
  refine ⟨_, Vw F hr hg hm hk hb .nil zdP pa hdb he hpl, fun σ ρ F0 H d Q s va e q => ?_⟩
  obtain ⟨ds, e1, e2⟩ := Option.bind_eq_some_iff.mp e
  split at e2 <;> try cases e2
  rename_i hl
  refine r σ ρ F0 H ds _ s va e1 fun F1 H1 vs g1 a1 => ?_
  refine ⟨ds, d, F1, hl, g1.fh, by rw [List.append_nil]; exact a1, e2, fun F' H' v g av => q F' H' v (g1.trans g) av⟩
end Dl
namespace Dl
open PySem L2
variable [KK]
section
variable {X : Cx} {a b c e : Expr} {pos : Pos}
theorem XD : bootBuiltins "isinstance" = some (.builtin "isinstance") := by decide +kernel
theorem vg : bootBuiltins "len" = some (.builtin "len") := by decide +kernel
theorem zfK : bootBuiltins "min" = some (.builtin "min") := by decide +kernel
theorem ze9 : bootBuiltins "max" = some (.builtin "max") := by decide +kernel
theorem zbY : bootBuiltins "sorted" = some (.builtin "sorted") := by decide +kernel
theorem zfz : bootBuiltins "sum" = some (.builtin "sum") := by decide +kernel
theorem zdE : bootBuiltins "all" = some (.builtin "all") := by decide +kernel
theorem zbo : bootBuiltins "int" = some (.type "int") := by decide +kernel
theorem X7 : bootBuiltins "bool" = some (.type "bool") := by decide +kernel
theorem xp : bootBuiltins "tuple" = some (.type "tuple") := by decide +kernel
theorem Zn : bootBuiltins "list" = some (.type "list") := by decide +kernel
theorem zb8 : bootBuiltins "str" = some (.type "str") := by decide +kernel
theorem WS : bootBuiltins "enumerate" = some (.type "enumerate") := by decide +kernel
theorem Vr : bootBuiltins "reversed" = some (.type "reversed") := by decide +kernel
theorem zdj : bootBuiltins "zip" = some (.type "zip") := by decide +kernel
noncomputable def ZW (C : Int → Int → Bool) (g : Int → Int → Int) : D → D → Option D
  | .int i, .int j => if C i j = true then some (.int (g i j)) else none
  | _, _ => none
noncomputable def wn (g : Int → Int → Int) : D → D → Option D
  | .int i, .int j => some (.int (g i j))
  | _, _ => none
noncomputable def ZX (g : Int → Int → Bool) : D → D → Option D
  | .int i, .int j => some (.bl (g i j))
  | _, _ => none
theorem XX {C : Int → Int → Prop} {Cb : Int → Int → Bool} {g : Int → Int → Int} (h : ∀ i j, Cb i j = true → C i j) : OpD (rI C fun i j => .int (g i j)) (ZW Cb g) := by
  intro F H x y d e z Q s ax ay ez q
  cases d <;> try cases ez
  cases e <;> try cases ez
  unfold ZW at ez
  dsimp only at ez
  split at ez <;> cases ez
  rename_i hc
  exact ⟨_, _, ax.int_inv, ay.int_inv, h _ _ hc, q F H _ (.refl s) .int⟩
theorem Zd {g : Int → Int → Int} : OpD (rI0 fun i j => .int (g i j)) (wn g) := by
  intro F H x y d e z Q s ax ay ez q
  cases d <;> try cases ez
  cases e <;> try cases ez
  exact ⟨_, _, ax.int_inv, ay.int_inv, q F H _ (.refl s) .int⟩
theorem yK {g : Int → Int → Bool} : OpD (rI0 fun i j => .bl (g i j)) (ZX g) := by
  intro F H x y d e z Q s ax ay ez q
  cases d <;> try cases ez
  cases e <;> try cases ez
  exact ⟨_, _, ax.int_inv, ay.int_inv, q F H _ (.refl s) .bl⟩
theorem WP {r r' : R2} {g g' : D → D → Option D} (h : OpD r g) (h' : OpD r' g') : OpD (fun x y H Q => r x y H Q ∨ r' x y H Q) (fun d e => (g d e).or (g' d e)) := by
  intro F H x y d e z Q s ax ay ez q
  dsimp only at ez
  cases hg : g d e with
  | some z' => rw [hg] at ez; cases ez; exact .inl (h F H x y d e z Q s ax ay hg q)
  | none => rw [hg] at ez; exact .inr (h' F H x y d e z Q s ax ay ez q)
noncomputable def zgr : D → D → Option D
  | .tup a, .tup b => if lim (a.length + b.length) = true then some (.tup (a ++ b)) else none
  | _, _ => none
noncomputable def zfY : D → D → Option (List D)
  | .lst a, .lst b => if lim (a.length + b.length) = true then some (a ++ b) else none
  | _, _ => none
noncomputable def zbg (d e : D) : Option D := (zfY d e).map .lst
noncomputable def zfb : D → D → Option D
  | .str a, .str b => if lim (a.length + b.length) = true then some (.str (a ++ b)) else none
  | _, _ => none
theorem zcq {K : PySem.W.Frag} : OpD (zdI K) zgr := by
  intro F H x y d e z Q s ax ay ez q
  cases d <;> try cases ez
  cases e <;> try cases ez
  unfold zgr at ez
  dsimp only at ez
  split at ez <;> cases ez
  rename_i hl
  obtain ⟨p, xs, rfl, hx, al⟩ := ax.tup_inv
  obtain ⟨p2, ys, rfl, hy, bl⟩ := ay.tup_inv
  refine ⟨p, p2, xs, ys, rfl, rfl, SqT.of (s _ _ hx), SqT.of (s _ _ hy), by rw [al.length, bl.length]; exact of_decide_eq_true hl, fun e1 => ?_, fun _ e2 => ?_, fun _ _ r hr => ?_⟩
  · subst e1
    have : (_ : List D) = [] := List.length_eq_zero_iff.mp al.length.symm
    subst this
    exact q F H _ (.refl s) (.tup hy bl)
  · subst e2
    have : (_ : List D) = [] := List.length_eq_zero_iff.mp bl.length.symm
    subst this
    rw [List.append_nil] at q
    exact q F H _ (.refl s) (.tup hx al)
  · have g := Gr.alloc s hr (.tup (xs ++ ys))
    exact q _ _ _ g (.tup zo ((al.append bl).mono g.ff))
theorem zcS : OpD rCat zbg := by
  intro F H x y d e z Q s ax ay ez q
  cases d <;> try cases ez
  cases e <;> try cases ez
  unfold zbg zfY at ez
  dsimp only at ez
  split at ez <;> cases ez
  rename_i hl
  obtain ⟨p, xs, rfl, hx, al⟩ := ax.lst_inv
  obtain ⟨p2, ys, rfl, hy, bl⟩ := ay.lst_inv
  refine ⟨p, p2, xs, ys, rfl, rfl, s _ _ hx, s _ _ hy, by rw [al.length, bl.length]; exact of_decide_eq_true hl, fun r hr => ?_⟩
  have g := Gr.alloc s hr (.lst (xs ++ ys))
  exact q _ _ _ g (.lst zo ((al.append bl).mono g.ff))
theorem zcr : OpD (fun x y H Q => ∃ i j, x = .str i ∧ y = .str j ∧ i.length + j.length ≤ sizeLine ∧ Q (.str (i ++ j)) H) zfb := by
  intro F H x y d e z Q s ax ay ez q
  cases d <;> try cases ez
  cases e <;> try cases ez
  unfold zfb at ez
  dsimp only at ez
  split at ez <;> cases ez
  rename_i hl
  exact ⟨_, _, ax.str_inv, ay.str_inv, of_decide_eq_true hl, q F H _ (.refl s) .str⟩
noncomputable def wg : D → D → Option D
  | .int i, .int j => some (.int (i + j))
  | .tup a, .tup b => if lim (a.length + b.length) = true then some (.tup (a ++ b)) else none
  | .lst a, .lst b => if lim (a.length + b.length) = true then some (.lst (a ++ b)) else none
  | .str a, .str b => if lim (a.length + b.length) = true then some (.str (a ++ b)) else none
  | _, _ => none
theorem VG {r : R2} {g g' : D → D → Option D} (h : OpD r g) (k : ∀ d e z, g' d e = some z → g d e = some z) : OpD r g' := fun F H x y d e z Q s ax ay ez q => h F H x y d e z Q s ax ay (k d e z ez) q
theorem yl {f h : Ev → Option D} (ha : ED X a f) (hb : ED X b h) : ED X (.BinOp a .Add b pos) (zk wg f h) :=
  Z9 (((zgb.or zde).or zfi).or zau) (VG (WP (WP (WP (Zd (g := fun i j => i + j)) zcq) zcS) zcr) fun d e z h => by
    cases d <;> try cases h
    all_goals cases e <;> try cases h
    · rfl
    · unfold wg at h; dsimp only at h; split at h <;> cases h; rename_i hl; simp [wn, zgr, hl, zbg, zfY, zfb]
    · unfold wg at h; dsimp only at h; split at h <;> cases h; rename_i hl; simp [wn, zgr, hl, zbg, zfY, zfb]
    · unfold wg at h; dsimp only at h; split at h <;> cases h; rename_i hl; simp [wn, zgr, hl, zbg, zfY, zfb]) ha hb
noncomputable def fBin (g : D → D → Option (List D)) (f h : Ev → Option D) : Ev → Option (List D) := fun ρ => (f ρ).bind fun x => (h ρ).bind fun y => g x y
theorem Wc {F H F1 H1 : Hp} {p : Addr} (g1 : Gr F H F1 H1) (hp : H1 p = none) : H p = none := by
  cases e : H p with
  | none => rfl
  | some o =>
    cases e2 : F p with
    | none => rw [(g1.kp p o e2 e).2] at hp; cases hp
    | some u => rw [g1.fh _ _ (g1.ff _ _ e2)] at hp; cases hp
noncomputable def Yn (i j : Int) : Bool := decide ((-(2 ^ 64) < i ∧ i < 2 ^ 64) ∨ (-(2 ^ 64) < j ∧ j < 2 ^ 64))
noncomputable def zdB : D → D → Option (List D)
  | .lst a, .int k => if -(2 ^ 63) ≤ k ∧ k < 2 ^ 63 ∧ lim (a.length * k.toNat) = true then some (List.replicate k.toNat a).flatten else none
  | _, _ => none
noncomputable def zcI (d e : D) : Option D := (zdB d e).map .lst
noncomputable def wy : D → D → Option D
  | .int i, .int j => if Yn i j = true then some (.int (i * j)) else none
  | .lst a, .int k => if -(2 ^ 63) ≤ k ∧ k < 2 ^ 63 ∧ lim (a.length * k.toNat) = true then some (.lst (List.replicate k.toNat a).flatten) else none
  | _, _ => none
theorem zcQ : OpD rRep zcI := by
  intro F H x y d e z Q s ax ay ez q
  cases d <;> try cases ez
  cases e <;> try cases ez
  unfold zcI zdB at ez
  dsimp only at ez
  split at ez <;> cases ez
  rename_i hl
  obtain ⟨p, xs, rfl, hx, al⟩ := ax.lst_inv
  refine ⟨p, _, xs, rfl, ay.int_inv, s _ _ hx, hl.1, hl.2.1, by rw [al.length]; exact of_decide_eq_true hl.2.2, fun r hr => ?_⟩
  rename_i ds k
  have g := Gr.alloc s hr (.lst (List.replicate k.toNat xs).flatten)
  exact q _ _ _ g (.lst zo ((al.rep _).mono g.ff))
theorem vE {f h : Ev → Option D} (ha : ED X a f) (hb : ED X b h) : ED X (.BinOp a .Mult b pos) (zk wy f h) :=
  Z9 (zfr.or zdt) (VG (WP (XX (Cb := Yn) (g := fun i j => i * j) fun i j h => by have h' := of_decide_eq_true (show decide ((-(2 ^ 64) < i ∧ i < 2 ^ 64) ∨ (-(2 ^ 64) < j ∧ j < 2 ^ 64)) = true from h); exact h') zcQ) fun d e z h => by
    cases d <;> try cases h
    all_goals cases e <;> try cases h
    · unfold wy at h; dsimp only at h; split at h <;> cases h; rename_i hl; simp [ZW, hl]
    · unfold wy at h; dsimp only at h; split at h <;> cases h; rename_i hl; show (zcI _ _) = _; unfold zcI zdB; dsimp only; rw [if_pos hl]; rfl) ha hb
theorem zfA {f h : Ev → Option D} (ha : ED X a f) (hb : ED X b h) : FL X (.BinOp a .Mult b pos) (fBin zdB f h) := by
  obtain ⟨ta, pa, ra⟩ := ha
  obtain ⟨tb, pb, rb⟩ := hb
  refine ⟨_, zf2 zdt pa pb, fun σ ρ F H z Q s va e q => ?_⟩
  obtain ⟨x, e1, e3⟩ := Option.bind_eq_some_iff.mp e
  obtain ⟨y, e2, ez⟩ := Option.bind_eq_some_iff.mp e3
  clear e e3
  refine ra σ ρ F H x _ s va e1 fun F1 H1 v g1 a1 => ?_
  refine rb σ ρ F1 H1 y _ g1.fh (va.mono g1.ff) e2 fun F2 H2 u g2 a2 => ?_
  cases x <;> try cases ez
  cases y <;> try cases ez
  unfold zdB at ez
  dsimp only at ez
  split at ez <;> cases ez
  rename_i hl
  obtain ⟨p, xs, rfl, hx, al⟩ := (a1.mono g2.ff).lst_inv
  refine ⟨p, _, xs, rfl, a2.int_inv, g2.fh _ _ hx, hl.1, hl.2.1, by rw [al.length]; exact of_decide_eq_true hl.2.2, fun r hr => ?_⟩
  exact q _ _ _ _ ((g1.trans g2).trans (Gr.hide g2.fh hr _)) (Wc (g1.trans g2) hr) (g2.fh.free hr) zo (al.rep _)
noncomputable def YG := wn fun i j => i - j
noncomputable def xz := ZW (fun _ j => decide (0 < j ∧ j < 1606938044258990275541962092341162602522202993782792835301376)) fun i j => i / j
noncomputable def xT := ZW (fun _ j => decide (0 < j)) fun i j => i % j
noncomputable def xorD := wn fun i j => Builtin.bitXor i j
theorem WV {f h : Ev → Option D} (ha : ED X a f) (hb : ED X b h) : ED X (.BinOp a .Sub b pos) (zk YG f h) := Z9 zeZ Zd ha hb
theorem zc2 : OpR X (binaryOp .FloorDiv) (rI (fun _ j => 0 < j ∧ j < 1606938044258990275541962092341162602522202993782792835301376) fun i j => .int (i / j)) := opI fun i j _ _ _ _ _ hc q => by
  have h1 : (0 : Int) < j := hc.1
  have h2 : j < 1606938044258990275541962092341162602522202993782792835301376 := hc.2
  refine PyProof.Rows.floordiv_int (by omega) (by rw [Int.fdiv_eq_ediv_of_nonneg i (by omega)]; exact q) (.inl (PyProof.noPylong_of_log2 ?_))
  have h0 : j.natAbs ≠ 0 := by omega
  have h3 : j.natAbs < 1606938044258990275541962092341162602522202993782792835301376 := by omega
  have h4 : j.natAbs.log2 < 200 := (Nat.log2_lt h0).mpr h3
  omega
theorem Xw {f h : Ev → Option D} (ha : ED X a f) (hb : ED X b h) : ED X (.BinOp a .FloorDiv b pos) (zk xz f h) := Z9 zc2 (XX fun _ _ h => by have h' := of_decide_eq_true h; exact h') ha hb
theorem x8 {f h : Ev → Option D} (ha : ED X a f) (hb : ED X b h) : ED X (.BinOp a .Mod b pos) (zk xT f h) := Z9 ze0 (XX fun _ _ h => by have h' := of_decide_eq_true h; exact h') ha hb
theorem zfn {f h : Ev → Option D} (ha : ED X a f) (hb : ED X b h) : ED X (.BinOp a .BitXor b pos) (zk xorD f h) := Z9 zgt Zd ha hb
noncomputable def ltD := ZX fun i j => decide (i < j)
noncomputable def leD := ZX fun i j => decide (i ≤ j)
noncomputable def gtD := ZX fun i j => decide (j < i)
noncomputable def geD := ZX fun i j => decide (j ≤ i)
noncomputable def eqS : D → D → Option Bool
  | .non, .non => some true
  | .int i, .int j => some (decide (i = j))
  | .bl i, .bl j => some (decide (i = j))
  | .str i, .str j => some (decide (i = j))
  | .non, .int _ => some false | .int _, .non => some false | .non, .bl _ => some false | .bl _, .non => some false | .non, .str _ => some false | .str _, .non => some false
  | .int _, .str _ => some false | .str _, .int _ => some false | .bl _, .str _ => some false | .str _, .bl _ => some false
  | _, _ => none
noncomputable def eqD (d e : D) : Option D := (eqS d e).map .bl
noncomputable def neD (d e : D) : Option D := (eqS d e).map fun c => .bl (!c)
theorem zds : OpD rEq eqD := by
  intro F H x y d e z Q s ax ay ez q
  obtain ⟨c, e1, rfl⟩ := Option.map_eq_some_iff.mp ez
  cases d <;> cases e <;> try cases e1
  · cases ax.non_inv; cases ay.non_inv; exact ⟨rfl, q F H _ (.refl s) .bl⟩
  · cases ax.non_inv; cases ay.bl_inv; exact ⟨rfl, q F H _ (.refl s) .bl⟩
  · cases ax.non_inv; cases ay.int_inv; exact ⟨rfl, q F H _ (.refl s) .bl⟩
  · cases ax.non_inv; cases ay.str_inv; exact ⟨rfl, q F H _ (.refl s) .bl⟩
  · cases ax.bl_inv; cases ay.non_inv; exact ⟨rfl, q F H _ (.refl s) .bl⟩
  · cases ax.bl_inv; cases ay.bl_inv; refine ⟨rfl, ?_⟩; rw [show ∀ i j : Bool, decide (V.bl i = V.bl j) = decide (i = j) from fun i j => by simp]; exact q F H _ (.refl s) .bl
  · cases ax.bl_inv; cases ay.str_inv; exact ⟨rfl, q F H _ (.refl s) .bl⟩
  · cases ax.int_inv; cases ay.non_inv; exact ⟨rfl, q F H _ (.refl s) .bl⟩
  · cases ax.int_inv; cases ay.int_inv; refine ⟨rfl, ?_⟩; rw [show ∀ i j : Int, decide (V.int i = V.int j) = decide (i = j) from fun i j => by simp]; exact q F H _ (.refl s) .bl
  · cases ax.int_inv; cases ay.str_inv; exact ⟨rfl, q F H _ (.refl s) .bl⟩
  · cases ax.str_inv; cases ay.non_inv; exact ⟨rfl, q F H _ (.refl s) .bl⟩
  · cases ax.str_inv; cases ay.bl_inv; exact ⟨rfl, q F H _ (.refl s) .bl⟩
  · cases ax.str_inv; cases ay.int_inv; exact ⟨rfl, q F H _ (.refl s) .bl⟩
  · cases ax.str_inv; cases ay.str_inv; refine ⟨rfl, ?_⟩; rw [show ∀ i j : Str, decide (V.str i = V.str j) = decide (i = j) from fun i j => by simp]; exact q F H _ (.refl s) .bl
theorem Xf : OpD rNe neD := by
  intro F H x y d e z Q s ax ay ez q
  obtain ⟨c, e1, rfl⟩ := Option.map_eq_some_iff.mp ez
  have := zds F H x y d e (.bl c) (fun v H' => ∃ b, v = .bl b ∧ Q (.bl (!b)) H') s ax ay (by unfold eqD; rw [e1]; rfl) fun F' H' v g av => ⟨c, av.bl_inv, q F' H' _ g .bl⟩
  obtain ⟨h1, b, h2, h3⟩ := this
  cases h2
  exact ⟨h1, h3⟩
noncomputable def ZY : D → D → Option D
  | d, .non => some (.bl (match d with | .non => true | _ => false))
  | .bl a, .bl b => some (.bl (a == b))
  | _, _ => none
noncomputable def yc : D → D → Option D
  | d, .non => some (.bl (match d with | .non => false | _ => true))
  | .bl a, .bl b => some (.bl (!(a == b)))
  | _, _ => none
theorem zaZ {F : Hp} {d : D} {x : V} (h : At F d x) : decide (x = V.non) = (match d with | .non => true | _ => false) := by
  cases d with
  | non => cases h.non_inv; rfl
  | bl b => cases h.bl_inv; rfl
  | int b => cases h.int_inv; rfl
  | str b => cases h.str_inv; rfl
  | tup ds => obtain ⟨a, xs, rfl, _⟩ := h.tup_inv; rfl
  | lst ds => obtain ⟨a, xs, rfl, _⟩ := h.lst_inv; rfl
  | scr ds => obtain ⟨a, rfl, _⟩ := h.scr_inv; rfl
  | dct z t ks vs => obtain ⟨a, xs, rfl, _⟩ := h.dct_inv; rfl
theorem Vm : OpD (fun x y H Q => (y = .non ∧ Q (.bl (decide (x = .non))) H) ∨ ∃ i j, x = .bl i ∧ y = .bl j ∧ Q (.bl (i == j)) H) ZY := by
  intro F H x y d e z Q s ax ay ez q
  unfold ZY at ez
  split at ez
  · cases ez
    refine .inl ⟨ay.non_inv, ?_⟩
    rw [zaZ ax]
    have := q F H _ (.refl s) .bl
    cases d <;> exact this
  · cases ez
    exact .inr ⟨_, _, ax.bl_inv, ay.bl_inv, q F H _ (.refl s) .bl⟩
  · cases ez
theorem Z4 : OpD (fun x y H Q => (y = .non ∧ Q (.bl (!decide (x = .non))) H) ∨ ∃ i j, x = .bl i ∧ y = .bl j ∧ Q (.bl (!(i == j))) H) yc := by
  intro F H x y d e z Q s ax ay ez q
  unfold yc at ez
  split at ez
  · cases ez
    refine .inl ⟨ay.non_inv, ?_⟩
    rw [zaZ ax]
    have := q F H _ (.refl s) .bl
    cases d <;> exact this
  · cases ez
    exact .inr ⟨_, _, ax.bl_inv, ay.bl_inv, q F H _ (.refl s) .bl⟩
  · cases ez
theorem zbW : OpR X (compareOp .Is) (fun x y H Q => (y = .non ∧ Q (.bl (decide (x = .non))) H) ∨ ∃ i j, x = .bl i ∧ y = .bl j ∧ Q (.bl (i == j)) H) := zfx.or zcx
theorem WJ : OpR X (compareOp .IsNot) (fun x y H Q => (y = .non ∧ Q (.bl (!decide (x = .non))) H) ∨ ∃ i j, x = .bl i ∧ y = .bl j ∧ Q (.bl (!(i == j))) H) := zd9.or W5
noncomputable def y8 (g g' : D → D → Option D) (f h k : Ev → Option D) : Ev → Option D := fun ρ => (f ρ).bind fun x => (h ρ).bind fun y => ((g x y).bind asB).bind fun c => if c = true then (k ρ).bind fun z => g' y z else some (.bl false)
theorem zdg {r r' : R2} {g g' : D → D → Option D} {ta tb tc : TE} {f h k : Ev → Option D} (hg : OpD r g) (hg' : OpD r' g') (ra : RE ta f) (rb : RE tb h) (rc : RE tc k) : RE (zbJ r r' ta tb tc) (y8 g g' f h k) := by
  intro σ ρ F H z Q s va e q
  obtain ⟨x, e1, e⟩ := Option.bind_eq_some_iff.mp e
  obtain ⟨y, e2, e⟩ := Option.bind_eq_some_iff.mp e
  obtain ⟨c, e3, e⟩ := Option.bind_eq_some_iff.mp e
  obtain ⟨cd, e3, e4⟩ := Option.bind_eq_some_iff.mp e3
  cases Ye e4
  refine ra σ ρ F H x _ s va e1 fun F1 H1 v g1 a1 => ?_
  refine rb σ ρ F1 H1 y _ g1.fh (va.mono g1.ff) e2 fun F2 H2 u g2 a2 => ?_
  refine hg F2 H2 v u x y _ _ g2.fh (a1.mono g2.ff) a2 e3 fun F3 H3 w g3 a3 => ⟨c, a3.bl_inv, ?_⟩
  have g123 := (g1.trans g2).trans g3
  cases c with
  | true =>
    rw [if_pos rfl] at e ⊢
    obtain ⟨z', e5, e6⟩ := Option.bind_eq_some_iff.mp e
    refine rc σ ρ F3 H3 z' _ g3.fh (va.mono g123.ff) e5 fun F4 H4 w4 g4 a4 => ?_
    exact hg' F4 H4 u w4 y z' z Q g4.fh (a2.mono (g3.ff.trans g4.ff)) a4 e6 fun F5 H5 w5 g5 a5 => q F5 H5 w5 ((g123.trans g4).trans g5) a5
  | false =>
    rw [if_neg Bool.false_ne_true] at e ⊢
    cases e
    exact q F3 H3 _ g123 .bl
theorem zcZ {op op' : CmpOp} {r r' : R2} {g g' : D → D → Option D} {f h k : Ev → Option D} (ho : OpR X (compareOp op) r) (ho' : OpR X (compareOp op') r') (hg : OpD r g) (hg' : OpD r' g') (ha : ED X a f) (hb : ED X b h) (hc : ED X c k)
    (pch : ∀ {ta tb tc : TE}, PE X a ta → PE X b tb → PE X c tc → PE X (.Compare a [op, op'] [b, c] pos) (zbJ r r' ta tb tc)) : ED X (.Compare a [op, op'] [b, c] pos) (y8 g g' f h k) :=
  let ⟨_, pa, ra⟩ := ha
  let ⟨_, pb, rb⟩ := hb
  let ⟨_, pc, rc⟩ := hc
  ⟨_, pch pa pb pc, zdg hg hg' ra rb rc⟩
noncomputable def ixD : D → D → Option D
  | .lst ds, .int i => atI ds i
  | .tup ds, .int i => atI ds i
  | .scr ns, .int i => (atI ns i).map .int
  | _, _ => none
theorem AtL.atI {F : Hp} {ds : List D} {xs : List V} {i : Int} {d : D} (al : AtL F ds xs) (h : L2.atI ds i = some d) : ∃ x, L2.atI xs i = some x ∧ At F d x := by
  unfold L2.atI at h ⊢
  obtain ⟨j, e1, e2⟩ := Option.bind_eq_some_iff.mp h
  obtain ⟨x, hx, ax⟩ := al.get e2
  exact ⟨x, by rw [al.length, e1]; exact hx, ax⟩
theorem zfO : OpD (rIx KK.K) ixD := by
  intro F H x y d e z Q s ax ay ez q
  cases e <;> try (cases d <;> cases ez)
  cases ay.int_inv
  cases d with
  | lst ds =>
    obtain ⟨p, xs, rfl, hx, al⟩ := ax.lst_inv
    obtain ⟨v, e1, av⟩ := al.atI ez
    exact .inl ⟨p, xs, _, v, rfl, rfl, SqL.of (s _ _ hx), e1, q F H _ (.refl s) av⟩
  | tup ds =>
    obtain ⟨p, xs, rfl, hx, al⟩ := ax.tup_inv
    obtain ⟨v, e1, av⟩ := al.atI ez
    exact .inr (.inl ⟨p, xs, _, v, rfl, rfl, SqT.of (s _ _ hx), e1, q F H _ (.refl s) av⟩)
  | scr ns =>
    obtain ⟨p, rfl, hx⟩ := ax.scr_inv
    obtain ⟨n, e1, rfl⟩ := Option.map_eq_some_iff.mp ez
    refine .inl ⟨p, ns.map V.int, _, .int n, rfl, rfl, s.seq hx, ?_, q F H _ (.refl s) .int⟩
    unfold L2.atI at e1 ⊢
    rw [List.length_map]
    obtain ⟨j, e2, e3⟩ := Option.bind_eq_some_iff.mp e1
    rw [e2]
    show (ns.map V.int)[j]? = _
    rw [List.getElem?_map, e3]
    rfl
  | _ => cases ez
theorem yA {f h : Ev → Option D} (ha : ED X a f) (hb : ED X b h) (hs : Xv b) (hK : X.K = KK.K := by rfl) : ED X (.Subscript a b pos) (zk ixD f h) :=
  let ⟨_, pa, ra⟩ := ha
  let ⟨_, pb, rb⟩ := hb
  ⟨_, zeR zfB pa pb hs, zcz (by rw [hK]; exact zfO) ra rb⟩
noncomputable def X9 {α : Type} (xs : List α) (lo hi : Option Int) : List α := (xs.drop (HT.sIx xs.length 0 lo)).take (HT.sIx xs.length xs.length hi - HT.sIx xs.length 0 lo)
theorem AtL.cut {F : Hp} {ds : List D} {xs : List V} {lo hi : Option Int} (al : AtL F ds xs) : AtL F (X9 ds lo hi) (Va xs lo hi) := by
  unfold X9 Va
  rw [al.length]
  exact (al.drop _).take _
noncomputable def OD (X : Cx) (e : Option Expr) (f : Ev → Option (Option Int)) : Prop := ∃ t, PO X e t ∧ ∀ (σ : St) (ρ : Ev) (F H : Hp) (i : Option Int) (Q : Option Int → Hp → Prop), yP F H → VAt F ρ σ → f ρ = some i → (∀ F' H', Gr F H F' H' → Q i H') → t σ H Q
noncomputable def wG : Ev → Option (Option Int) := fun _ => some none
noncomputable def asI : D → Option Int
  | .int i => some i
  | _ => none
noncomputable def xW (f : Ev → Option D) : Ev → Option (Option Int) := fun ρ => ((f ρ).bind asI).map some
theorem zeo : OD X none wG := ⟨_, zee, fun _ _ _ _ _ _ s _ e q => by cases e; exact q _ _ (.refl s)⟩
theorem W6 {f : Ev → Option D} (h : ED X e f) : OD X (some e) (xW f) := by
  obtain ⟨t, p, r⟩ := h
  refine ⟨_, zd4 p, fun σ ρ F H i Q s va e q => ?_⟩
  obtain ⟨j, e1, rfl⟩ := Option.map_eq_some_iff.mp e
  obtain ⟨d, e1, e2⟩ := Option.bind_eq_some_iff.mp e1
  cases d <;> cases e2
  exact r σ ρ F H _ _ s va e1 fun F1 H1 v g1 a1 => ⟨_, a1.int_inv, q F1 H1 g1⟩
noncomputable def slD : D → Option Int → Option Int → Option D
  | .lst ds, lo, hi => some (.lst (X9 ds lo hi))
  | .scr ns, lo, hi => some (.lst ((X9 ns lo hi).map .int))
  | .tup ds, lo, hi => some (.tup (X9 ds lo hi))
  | _, _, _ => none
noncomputable def eSl (g : D → Option Int → Option Int → Option D) (f : Ev → Option D) (l h : Ev → Option (Option Int)) : Ev → Option D := fun ρ => (f ρ).bind fun d => (l ρ).bind fun lo => (h ρ).bind fun hi => g d lo hi
omit [KK] in
theorem zcF {ns : List Int} {lo hi : Option Int} : Va (ns.map V.int) lo hi = (X9 ns lo hi).map V.int := by
  unfold Va X9
  rw [List.length_map, List.map_take, List.map_drop]
end
end Dl
namespace L2
open PySem PySem.Spec PyProof.Rows
noncomputable def rSlN : V → Option Int → Option Int → Hp → VK → Prop := fun x lo hi H Q => ∃ a xs, x = .ref a ∧ H a = some (.tup xs) ∧ (Va xs lo hi = xs → Q (.ref a) H) ∧ ∀ p, H p = none → Q (.ref p) (upd H p (.tup (Va xs lo hi)))
theorem zeJ {X : Cx} : SlR X rSlN := by
  intro pins s σ H x v vl vu lo hi sl Q I rx hs pl pu h
  obtain ⟨a, xs, rfl, hx, q1, q2⟩ := h
  by_cases hw : HT.sIx xs.length 0 lo = 0 ∧ HT.sIx xs.length xs.length hi = xs.length
  · cases rx
    obtain ⟨its, r, ht, hz⟩ := I.tuple (SqT.of hx)
    have hlen : its.toArray.size = xs.length := by rw [List.size_toArray]; exact r.length.symm
    refine ⟨"tuple", _, PyProof.Rows.slot_tuple_getitem.lookup, ht.typeIs, ?_⟩
    refine HT.own_getItem_whole ht hs pl pu (by rw [hlen]; exact hw) ⟨.ref a, H, I, rfl, q1 ?_⟩
    unfold Va
    rw [hw.1, hw.2, List.drop_zero, Nat.sub_zero, List.take_length]
  · exact zfM pins s σ H (.ref a) v vl vu lo hi sl Q I rx hs pl pu ⟨a, xs, rfl, SqT.of hx, hw, q2⟩
end L2
namespace Dl
open PySem L2
variable [KK]
section
variable {X : Cx} {a b c e : Expr} {pos : Pos}
theorem VN {lo hi : Option Expr} {p2 : Pos} {f : Ev → Option D} {l h : Ev → Option (Option Int)} (ha : ED X a f) (hl : OD X lo l) (hh : OD X hi h) (hK : X.K = KK.K := by rfl) : ED X (.Subscript a (.Slice lo hi none p2) pos) (eSl slD f l h) := by
  obtain ⟨ta, pa, ra⟩ := ha
  obtain ⟨tl, ppl, rl⟩ := hl
  obtain ⟨th, ph, rh⟩ := hh
  refine ⟨_, zcY (zey.or zeJ) pa ppl ph, fun σ ρ F H z Q s va e q => ?_⟩
  obtain ⟨d, e1, e⟩ := Option.bind_eq_some_iff.mp e
  obtain ⟨i, e2, e⟩ := Option.bind_eq_some_iff.mp e
  obtain ⟨j, e3, e⟩ := Option.bind_eq_some_iff.mp e
  refine ra σ ρ F H d _ s va e1 fun F1 H1 v g1 a1 => ?_
  refine rl σ ρ F1 H1 i _ g1.fh (va.mono g1.ff) e2 fun F2 H2 g2 => ?_
  refine rh σ ρ F2 H2 j _ g2.fh (va.mono (g1.ff.trans g2.ff)) e3 fun F3 H3 g3 => ?_
  have g123 := (g1.trans g2).trans g3
  have a3 := a1.mono (g2.ff.trans g3.ff)
  cases d <;> try cases e
  · obtain ⟨p, xs, rfl, hx, al⟩ := a3.tup_inv
    refine .inr ⟨p, xs, rfl, g3.fh _ _ hx, fun ec => ?_, fun r hr => ?_⟩
    · have := al.cut (lo := i) (hi := j)
      rw [ec] at this
      exact q F3 H3 _ g123 (.tup hx this)
    · have g := Gr.alloc g3.fh hr (.tup (Va xs i j))
      exact q _ _ _ (g123.trans g) (.tup zo (al.cut.mono g.ff))
  · obtain ⟨p, xs, rfl, hx, al⟩ := a3.lst_inv
    refine .inl ⟨p, xs, rfl, SqL.of (g3.fh _ _ hx), fun r hr => ?_⟩
    have g := Gr.alloc g3.fh hr (.lst (Va xs i j))
    exact q _ _ _ (g123.trans g) (.lst zo (al.cut.mono g.ff))
  · rename_i ns _ _
    obtain ⟨p, rfl, hx⟩ := a3.scr_inv
    refine .inl ⟨p, _, rfl, (by rw [hK]; exact g3.fh.seq hx), fun r hr => ?_⟩
    rw [zcF]
    have g := Gr.alloc g3.fh hr (.lst ((X9 ns i j).map V.int))
    exact q _ _ _ (g123.trans g) (.lst zo (.ints _))
noncomputable def CaD (r : List V → Hp → VK → Prop) (g : List D → Option D) : Prop := ∀ (F H : Hp) (vs : List V) (ds : List D) (z : D) (Q : VK), yP F H → AtL F ds vs → g ds = some z → (∀ F' H' v, Gr F H F' H' → At F' z v → Q v H') → r vs H Q
noncomputable def eFn (g : List D → Option D) (f : Ev → Option (List D)) : Ev → Option D := fun ρ => (f ρ).bind g
noncomputable def fFn (g : List D → Option (List D)) (f : Ev → Option (List D)) : Ev → Option (List D) := fun ρ => (f ρ).bind g
theorem ye {x : Str} {id : String} {p : Pos} {es : List Expr} {r : List V → Hp → VK → Prop} {g : List D → Option D} {f : Ev → Option (List D)} (hc : vY X (.builtin id) r) (hg : CaD r g) (hgl : Gl X x) (hm : X.mg x = none) (hv : bootBuiltins x = some (.builtin id)) (ha : AD X (e :: es) f)
    (hn : x ≠ "__name__" := by decide) (hdb : (x == ("__debug__" : Str)) = false := by decide) (he : starEach (e :: es) X.env = (false, eval e X.env) :: starEach es X.env := by rfl) (hpl : (backTo pos (starEach es X.env)).any (·.1) = false := by rfl) :
    ED X (.Call (.Name x p) (e :: es) [] pos) (eFn g f) := by
  obtain ⟨t, pa, ra⟩ := ha
  refine ⟨_, Xr hc hgl hm hv pa hn hdb he hpl, fun σ ρ F H z Q s va e q => ?_⟩
  obtain ⟨ds, e1, e2⟩ := Option.bind_eq_some_iff.mp e
  refine ra σ ρ F H ds _ s va e1 fun F1 H1 vs g1 a1 => ?_
  exact hg F1 H1 vs ds z Q g1.fh a1 e2 fun F' H' v g av => q F' H' v (g1.trans g) av
theorem vp {x : Str} {T : String} {p : Pos} {es : List Expr} {r : List V → Hp → VK → Prop} {g : List D → Option D} {f : Ev → Option (List D)} (hc : vY X (.type T) r) (hg : CaD r g) (hgl : Gl X x) (hm : X.mg x = none) (hv : bootBuiltins x = some (.type T)) (ha : AD X (e :: es) f)
    (hn : x ≠ "__name__" := by decide) (hdb : (x == ("__debug__" : Str)) = false := by decide) (he : starEach (e :: es) X.env = (false, eval e X.env) :: starEach es X.env := by rfl) (hpl : (backTo pos (starEach es X.env)).any (·.1) = false := by rfl) :
    ED X (.Call (.Name x p) (e :: es) [] pos) (eFn g f) := by
  obtain ⟨t, pa, ra⟩ := ha
  refine ⟨_, WX hc hgl hm hv pa hn hdb he hpl, fun σ ρ F H z Q s va e q => ?_⟩
  obtain ⟨ds, e1, e2⟩ := Option.bind_eq_some_iff.mp e
  refine ra σ ρ F H ds _ s va e1 fun F1 H1 vs g1 a1 => ?_
  exact hg F1 H1 vs ds z Q g1.fh a1 e2 fun F' H' v g av => q F' H' v (g1.trans g) av
noncomputable def vO : List D → Option D
  | [.lst ds] => some (.int ds.length)
  | [.tup ds] => some (.int ds.length)
  | [.scr ds] => some (.int ds.length)
  | _ => none
theorem wq : CaD (fun xs H Q => ∃ p ys, xs = [.ref p] ∧ (SqL KK.K H p ys ∨ SqT KK.K H p ys) ∧ Q (.int ys.length) H) vO := by
  intro F H vs ds z Q s al e q
  unfold vO at e
  split at e <;> cases e
  all_goals
    obtain ⟨x, r, rfl, ax, ar⟩ := al.cons_inv
    cases ar.nil_inv
  · obtain ⟨p, xs, rfl, hx, bl⟩ := ax.lst_inv
    exact ⟨p, xs, rfl, .inl (SqL.of (s _ _ hx)), by rw [bl.length]; exact q F H _ (.refl s) .int⟩
  · obtain ⟨p, xs, rfl, hx, bl⟩ := ax.tup_inv
    exact ⟨p, xs, rfl, .inr (SqT.of (s _ _ hx)), by rw [bl.length]; exact q F H _ (.refl s) .int⟩
  · obtain ⟨p, rfl, hx⟩ := ax.scr_inv
    exact ⟨p, _, rfl, .inl ((s.seq hx)), by rw [List.length_map]; exact q F H _ (.refl s) .int⟩
noncomputable def yB : List D → Option D
  | [.lst ds] => some (.tup ds)
  | [.tup ds] => some (.tup ds)
  | _ => none
theorem vm {K : PySem.W.Frag} : CaD (fun xs H Q => ∃ p ys, xs = [.ref p] ∧ ((SqL K H p ys ∧ ∀ l, H l = none → Q (.ref l) (upd H l (.tup ys))) ∨ (SqT K H p ys ∧ Q (.ref p) H))) yB := by
  intro F H vs ds z Q s al e q
  unfold yB at e
  split at e <;> cases e
  all_goals
    obtain ⟨x, r, rfl, ax, ar⟩ := al.cons_inv
    cases ar.nil_inv
  · obtain ⟨p, xs, rfl, hx, bl⟩ := ax.lst_inv
    refine ⟨p, xs, rfl, .inl ⟨SqL.of (s _ _ hx), fun l hl => ?_⟩⟩
    have g := Gr.alloc s hl (.tup xs)
    exact q _ _ _ g (.tup zo (bl.mono g.ff))
  · obtain ⟨p, xs, rfl, hx, bl⟩ := ax.tup_inv
    exact ⟨p, xs, rfl, .inr ⟨SqT.of (s _ _ hx), q F H _ (.refl s) (.tup hx bl)⟩⟩
noncomputable def wE : List D → Option (List D)
  | [.lst ds] => some ds
  | [.tup ds] => some ds
  | [.scr ns] => some (ns.map .int)
  | _ => none
theorem zbP {p : Pos} {f : Ev → Option (List D)} (hgl : Gl X "list") (hm : X.mg "list" = none) (ha : AD X [e] f) (hK : X.K = KK.K := by rfl)
    (he : starEach [e] X.env = (false, eval e X.env) :: starEach [] X.env := by rfl) (hpl : (backTo pos (starEach [] X.env)).any (·.1) = false := by rfl) : FL X (.Call (.Name "list" p) [e] [] pos) (fFn wE f) := by
  obtain ⟨t, pa, ra⟩ := ha
  refine ⟨_, WX Wg hgl hm Zn pa (by decide) (by decide) he hpl, fun σ ρ F H z Q s va e q => ?_⟩
  obtain ⟨ds, e1, e2⟩ := Option.bind_eq_some_iff.mp e
  refine ra σ ρ F H ds _ s va e1 fun F1 H1 vs g1 a1 => ?_
  unfold wE at e2
  split at e2 <;> cases e2
  all_goals
    obtain ⟨x, r, rfl, ax, ar⟩ := a1.cons_inv
    cases ar.nil_inv
  · obtain ⟨p, xs, rfl, hx, bl⟩ := ax.lst_inv
    exact ⟨p, xs, rfl, .inl (SqL.of (g1.fh _ _ hx)), fun l hl => q _ _ _ _ (g1.trans (Gr.hide g1.fh hl _)) (Wc g1 hl) (g1.fh.free hl) zo bl⟩
  · obtain ⟨p, xs, rfl, hx, bl⟩ := ax.tup_inv
    exact ⟨p, xs, rfl, .inr (SqT.of (g1.fh _ _ hx)), fun l hl => q _ _ _ _ (g1.trans (Gr.hide g1.fh hl _)) (Wc g1 hl) (g1.fh.free hl) zo bl⟩
  · obtain ⟨p, rfl, hx⟩ := ax.scr_inv
    exact ⟨p, _, rfl, .inl (by rw [hK]; exact g1.fh.seq hx), fun l hl => q _ _ _ _ (g1.trans (Gr.hide g1.fh hl _)) (Wc g1 hl) (g1.fh.free hl) zo (.ints _)⟩
inductive TyD (K : PySem.W.Frag) (H : Hp) : V → Value → Prop where
  | of {v : V} {t : Value} (h : zaf K H v t) : TyD K H v t
  | dd {a : Addr} {u : HO} (h : Rd H a u) (d : (∃ kvs, u = .dK kvs) ∨ ∃ kvs, u = .dT kvs) : TyD K H (.ref a) (.type "dict")
theorem WY {X : Cx} : vY X (.builtin "isinstance") (fun xs H Q => ∃ x n t b, xs = [x, .ty n] ∧ TyD X.K H x t ∧ PySem.W.kitOne X.K t (.type n) = some b ∧ Q (.bl b) H) := by
  intro pins s σ H xs us Q I r h
  obtain ⟨x, n, t, b, rfl, ty, e, q⟩ := h
  cases ty with
  | of ty => exact Vd pins s σ H _ us Q I r ⟨x, n, t, b, rfl, ty, e, q⟩
  | @dd a u h d =>
    cases r with
    | cons r1 r2 =>
      cases r2 with
      | cons r3 r4 =>
        cases r4
        cases r1
        cases r3
        have ok := h.ok I.hok
        rcases d with ⟨kvs, rfl⟩ | ⟨kvs, rfl⟩
        · obtain ⟨_, _, vs, _, p⟩ := (show wf X.prog X.w H s.heap a (.dK kvs) from ok)
          obtain ⟨o, es, ep, h1, h2, _⟩ := p
          exact PySem.W.kia_one PySem.W.kitx_dict I.kIn ⟨o, h1, h2.1⟩ e (fun z => nomatch z) fun tk => ⟨.bl b, H, I.tok tk, rfl, q⟩
        · obtain ⟨_, _, xs, _, o, es, ep, h1, h2, _⟩ := (show wf X.prog X.w H s.heap a (.dT kvs) from ok)
          exact PySem.W.kia_one PySem.W.kitx_dict I.kIn ⟨o, h1, h2.1⟩ e (fun z => nomatch z) fun tk => ⟨.bl b, H, I.tok tk, rfl, q⟩
theorem At.ty {K : PySem.W.Frag} {F H : Hp} (s : yP F H) : ∀ {d : D} {v : V}, At F d v → (∀ ns, d ≠ .scr ns) → TyD K H v (.type (tyN d))
  | .non, _, h, _ => by cases h.non_inv; exact .of .non
  | .bl b, _, h, _ => by cases h.bl_inv; exact .of (.bl b)
  | .int i, _, h, _ => by cases h.int_inv; exact .of (.int i)
  | .str x, _, h, _ => by cases h.str_inv; exact .of (.str x)
  | .tup ds, _, h, _ => by obtain ⟨a, xs, rfl, e, _⟩ := h.tup_inv; exact .of (.tup (s _ _ e))
  | .lst ds, _, h, _ => by obtain ⟨a, xs, rfl, e, _⟩ := h.lst_inv; exact .of (.lst (s _ _ e))
  | .scr ns, _, _, n => absurd rfl (n ns)
  | .dct z t ks vs, _, h, _ => by
    obtain ⟨a, xs, rfl, d, _⟩ := h.dct_inv
    obtain ⟨u, e1, e2⟩ := (d.mono s).rd
    exact .dd e2 (by
      unfold zgj at e1
      split at e1
      · obtain ⟨kvs, rfl, _⟩ := e1; exact .inr ⟨kvs, rfl⟩
      · obtain ⟨kvs, rfl, _⟩ := e1; exact .inl ⟨kvs, rfl⟩)
inductive Ty where
  | int | bool | tuple | list | str
noncomputable def Ty.nm : Ty → String
  | .int => "int" | .bool => "bool" | .tuple => "tuple" | .list => "list" | .str => "str"
noncomputable def isT : Ty → D → Bool
  | .int, .int _ => true | .int, .bl _ => true
  | .bool, .bl _ => true
  | .tuple, .tup _ => true
  | .list, .lst _ => true
  | .str, .str _ => true
  | _, _ => false
noncomputable def yz (n : Ty) : D → Option D
  | .scr _ => none
  | d => some (.bl (isT n d))
theorem zfN (K : PySem.W.Frag) (n : Ty) (d : D) (h : ∀ ns, d ≠ .scr ns) : PySem.W.kitOne K (.type (tyN d)) (.type n.nm) = some (isT n d) := by
  cases n <;> cases d <;> first | exact absurd rfl (h _) | kernel_rfl
theorem zI {p : Pos} {f : Ev → Option D} (n : Ty) (hgl : Gl X "isinstance") (hm : X.mg "isinstance" = none) (ha : ED X a f) (hb : PE X b (tC (.ty n.nm)))
    (hs : starEach [a, b] X.env = (false, eval a X.env) :: starEach [b] X.env := by rfl) (hs2 : starEach [b] X.env = (false, eval b X.env) :: starEach [] X.env := by rfl) (hpl : (backTo pos (starEach [b] X.env)).any (·.1) = false := by rfl) :
    ED X (.Call (.Name "isinstance" p) [a, b] [] pos) (eUn (yz n) f) := by
  obtain ⟨t, pa, ra⟩ := ha
  refine ⟨_, Xr WY hgl hm XD (ZV pa (ZV hb V6 hs2) hs) (by decide) (by decide) hs hpl, fun σ ρ F H z Q s va e q => ?_⟩
  obtain ⟨d, e1, e2⟩ := Option.bind_eq_some_iff.mp e
  refine ra σ ρ F H d _ s va e1 fun F1 H1 v g1 a1 => ?_
  have ns : ∀ ns, d ≠ .scr ns := fun ns h => by subst h; cases e2
  have e3 : z = .bl (isT n d) := by
    cases d <;> first | exact (Option.some.inj e2).symm | exact absurd rfl (ns _)
  subst e3
  exact ⟨v, n.nm, _, _, rfl, a1.ty g1.fh ns, zfN _ n d ns, q F1 H1 _ g1 .bl⟩
noncomputable def Y6 (m : Bool) (i : Nat) (f : Ev → Option D) : SE → Ctl := fun ρ => match (vEv m f ρ).bind fun d => match ρ[i]? with
    | some (.o ds) => if decide (ds.length < sizeLine) = true then some (ρ.set i (.o (ds ++ [d]))) else none
    | _ => none with
  | some ρ' => .nx ρ'
  | none => .no
theorem zb5 {m : Bool} {i : Nat} {p pos' : Pos} {f : Ev → Option D} (ho : PE X a (zdQ i)) (he : ED X e f)
    (hp : ∀ {ta : TE} {t : TA}, PE X a ta → PA X [e] t → PE X (.Call (.Attribute a "append" p) [e] [] pos') (tBM X.K "list" zcl ta t)) (hsw : swapsWith (.Call (.Attribute a "append" p) [e] [] pos') none pos.line X.env = pure false := by rfl)
    (hs : starEach [e] X.env = (false, eval e X.env) :: starEach [] X.env := by rfl) : SD X (.Expr (.Call (.Attribute a "append" p) [e] [] pos') pos) (Y6 m i f) := by
  obtain ⟨t, pe, re⟩ := he
  refine ⟨_, Vj (hp ho (ZV pe V6 hs)) hsw, fun Fb Hb F H ρ σ E rl k => ?_⟩
  unfold Y6 at k
  cases h : (vEv m f ρ).bind fun d => match ρ[i]? with
    | some (.o ds) => if decide (ds.length < sizeLine) = true then some (ρ.set i (.o (ds ++ [d]))) else none
    | _ => none with
  | none => rw [h] at k; exact k.elim
  | some ρ' =>
    rw [h] at k
    obtain ⟨d, e1, e2⟩ := Option.bind_eq_some_iff.mp h
    cases hs : ρ[i]? with
    | none => rw [hs] at e2; cases e2
    | some sl =>
      rw [hs] at e2
      cases sl with
      | no => cases e2
      | v _ => cases e2
      | m _ _ _ => cases e2
      | o ds =>
        dsimp only at e2
        split at e2 <;> cases e2
        rename_i hl
        obtain ⟨q, xs, f1, f2, f3, f4, f5⟩ := rl.owns i ds hs
        refine ⟨_, f1, .inl ⟨rfl, xs, SqL.of f4⟩, ?_⟩
        refine re.at rl e1 fun F' H' v g av => ?_
        have rl2 := rl.grow g
        obtain ⟨q2, xs2, f1', _, _, f4', f5'⟩ := rl2.owns i ds hs
        rw [f1] at f1'
        cases f1'
        refine ⟨q, xs2, v, rfl, rfl, f4', by rw [f5'.length]; exact of_decide_eq_true hl, ?_⟩
        exact k _ _ σ (rl2.mutate hs f1 (f5'.snoc av))
noncomputable def Zm (i : Nat) (f : Ev → Option D) : SE → Ctl := fun ρ => match (f (visF ρ)).bind fun d => match ρ[i]?, d with
    | some (.o ds), .lst es => if lim (ds.length + es.length) = true then some (ρ.set i (.o (ds ++ es))) else none
    | _, _ => none with
  | some ρ' => .nx ρ'
  | none => .no
theorem zdF {i : Nat} {p pos' : Pos} {f : Ev → Option D} (ho : PE X a (zdQ i)) (he : ED X e f)
    (hp : ∀ {ta : TE} {t : TA}, PE X a ta → PA X [e] t → PE X (.Call (.Attribute a "extend" p) [e] [] pos') (tBM X.K "list" zbw ta t)) (hsw : swapsWith (.Call (.Attribute a "extend" p) [e] [] pos') none pos.line X.env = pure false := by rfl)
    (hs : starEach [e] X.env = (false, eval e X.env) :: starEach [] X.env := by rfl) : SD X (.Expr (.Call (.Attribute a "extend" p) [e] [] pos') pos) (Zm i f) := by
  obtain ⟨t, pe, re⟩ := he
  refine ⟨_, Vj (hp ho (ZV pe V6 hs)) hsw, fun Fb Hb F H ρ σ E rl k => ?_⟩
  unfold Zm at k
  cases h : (f (visF ρ)).bind fun d => match ρ[i]?, d with
    | some (.o ds), .lst es => if lim (ds.length + es.length) = true then some (ρ.set i (.o (ds ++ es))) else none
    | _, _ => none with
  | none => rw [h] at k; exact k.elim
  | some ρ' =>
    rw [h] at k
    obtain ⟨d, e1, e2⟩ := Option.bind_eq_some_iff.mp h
    cases hs : ρ[i]? with
    | none => rw [hs] at e2; cases e2
    | some sl =>
      rw [hs] at e2
      cases sl with
      | no => cases e2
      | v _ => cases e2
      | m _ _ _ => cases e2
      | o ds =>
        cases d with
        | lst es =>
          dsimp only at e2
          split at e2 <;> cases e2
          rename_i hl
          obtain ⟨q, xs, f1, f2, f3, f4, f5⟩ := rl.owns i ds hs
          refine ⟨_, f1, .inl ⟨rfl, xs, SqL.of f4⟩, ?_⟩
          refine re σ _ _ H _ _ rl.gr.fh rl.visF e1 fun F' H' v g av => ?_
          have rl2 := rl.grow g
          obtain ⟨q2, xs2, f1', _, _, f4', f5'⟩ := rl2.owns i ds hs
          rw [f1] at f1'
          cases f1'
          obtain ⟨pb, zs, rfl, hz, bl⟩ := av.lst_inv
          refine ⟨q, pb, xs2, zs, rfl, rfl, f4', g.fh _ _ hz, by rw [f5'.length, bl.length]; exact of_decide_eq_true hl, ?_⟩
          exact k _ _ σ (rl2.mutate hs f1 (f5'.append bl))
        | _ => cases e2
end
end Dl
namespace Dl
open PySem L2
variable [KK]
noncomputable def okE : Nat → D → Bool
  | _, .scr _ => false
  | _, .dct _ _ _ _ => false
  | 0, .tup _ => false
  | 0, .lst _ => false
  | n + 1, .tup ds => ds.all (okE n)
  | n + 1, .lst ds => ds.all (okE n)
  | _, _ => true
noncomputable def eqN : Nat → D → D → Bool
  | _, .non, .non => true
  | _, .bl a, .bl b => a == b
  | _, .bl a, .int b => (if a then 1 else 0) == b
  | _, .int a, .bl b => a == (if b then 1 else 0)
  | _, .int a, .int b => a == b
  | _, .str a, .str b => a == b
  | n + 1, .tup a, .tup b => (List.zipWith (eqN n) a b).all id && a.length == b.length
  | n + 1, .lst a, .lst b => (List.zipWith (eqN n) a b).all id && a.length == b.length
  | _, _, _ => false
omit [KK] in
theorem W7 {n : Nat} : ∀ (a b : List D), (List.zipWith (eqN n) a b).all id = (List.range (min a.length b.length)).all fun j => eqN n (a.getD j .non) (b.getD j .non) := by
  intro a b
  have : List.zipWith (eqN n) a b = (List.range (min a.length b.length)).map fun j => eqN n (a.getD j .non) (b.getD j .non) := by
    apply List.ext_getElem
    · simp
    · intro i h1 h2
      simp at h1 h2
      have g1 : i < a.length := Nat.lt_of_lt_of_le h1 (Nat.min_le_left _ _)
      have g2 : i < b.length := Nat.lt_of_lt_of_le h1 (Nat.min_le_right _ _)
      simp [g1, g2]
  rw [this, List.all_map]
  rfl
omit [KK] in
noncomputable def vOf : D → V
  | .bl b => .bl b
  | .int i => .int i
  | .str t => .str t
  | _ => .non
theorem xZ {F : Hp} {d : D} {x : V} (h : okE 0 d = true) (a : At F d x) : x = vOf d := by
  cases d with
  | non => exact a.non_inv
  | bl b => exact a.bl_inv
  | int b => exact a.int_inv
  | str b => exact a.str_inv
  | _ => cases h
omit [KK] in
theorem YZ {d : D} (h : okE 0 d = true) : zet (vOf d) = true := by
  cases d <;> first | rfl | cases h
omit [KK] in
theorem Xt {d : D} {p : Addr} (h : okE 0 d = true) (e : vOf d = .ref p) : False := by
  cases d <;> first | (cases h; done) | (cases e; done)
noncomputable def dOfV : V → D
  | .bl b => .bl b
  | .int i => .int i
  | .str t => .str t
  | _ => .non
omit [KK] in
theorem zbD {d : D} (h : okE 0 d = true) : dOfV (vOf d) = d := by
  cases d <;> first | rfl | (cases h; done)
omit [KK] in
theorem zbs {d e : D} (h1 : okE 0 d = true) (h2 : okE 0 e = true) (h : vOf d = vOf e) : d = e := by
  rw [← zbD h1, h, zbD h2]
omit [KK] in
theorem xM {n : Nat} {d : D} (h : okE (n + 1) d = true) : okE 0 d = true ∨ (∃ ds, d = .tup ds ∧ ds.all (okE n) = true) ∨ ∃ ds, d = .lst ds ∧ ds.all (okE n) = true := by
  cases d with
  | tup ds => exact .inr (.inl ⟨ds, rfl, h⟩)
  | lst ds => exact .inr (.inr ⟨ds, rfl, h⟩)
  | scr _ => cases h
  | dct _ _ _ _ => cases h
  | _ => exact .inl rfl
theorem za1 {F : Hp} {n : Nat} (ih : ∀ {d e : D} {v : V}, okE n d = true → okE n e = true → At F d v → At F e v → d = e) : ∀ {xs : List V} {ds es : List D}, ds.all (okE n) = true → es.all (okE n) = true → AtL F ds xs → AtL F es xs → ds = es := by
  intro xs
  induction xs with
  | nil =>
    intro ds es _ _ a1 a2
    exact (List.length_eq_zero_iff.mp a1.length.symm).trans (List.length_eq_zero_iff.mp a2.length.symm).symm
  | cons x xs ih2 =>
    intro ds es h1 h2 a1 a2
    cases ds with
    | nil => cases a1.nil_inv
    | cons d ds => cases es with
      | nil => cases a2.nil_inv
      | cons e es =>
        obtain ⟨y, r, e1, b1, c1⟩ := a1.cons_inv
        obtain ⟨y2, r2, e2, b2, c2⟩ := a2.cons_inv
        cases e1
        cases e2
        rw [List.all_cons, Bool.and_eq_true] at h1 h2
        rw [ih2 h1.2 h2.2 c1 c2, ih h1.1 h2.1 b1 b2]
theorem zdp {F : Hp} : ∀ (n : Nat) {d e : D} {v : V}, okE n d = true → okE n e = true → At F d v → At F e v → d = e := by
  intro n
  induction n with
  | zero =>
    intro d e v h1 h2 a1 a2
    exact zbs h1 h2 ((xZ h1 a1).symm.trans (xZ h2 a2))
  | succ n ih =>
    intro d e v h1 h2 a1 a2
    rcases xM h1 with f1 | ⟨ds, rfl, k1⟩ | ⟨ds, rfl, k1⟩
    · have e1 := xZ f1 a1
      rcases xM h2 with f2 | ⟨es, rfl, _⟩ | ⟨es, rfl, _⟩
      · exact zbs f1 f2 (e1.symm.trans (xZ f2 a2))
      · obtain ⟨p, xs, e2, _⟩ := a2.tup_inv
        exact (Xt f1 (e1.symm.trans e2)).elim
      · obtain ⟨p, xs, e2, _⟩ := a2.lst_inv
        exact (Xt f1 (e1.symm.trans e2)).elim
    · obtain ⟨p, xs, e0, hx, al⟩ := a1.tup_inv
      rcases xM h2 with f2 | ⟨es, rfl, k2⟩ | ⟨es, rfl, k2⟩
      · exact (Xt f2 ((xZ f2 a2).symm.trans e0)).elim
      · obtain ⟨q, ys, e1, hy, bl⟩ := a2.tup_inv
        cases e0.symm.trans e1
        cases hx.symm.trans hy
        rw [za1 ih k1 k2 al bl]
      · obtain ⟨q, ys, e1, hy, bl⟩ := a2.lst_inv
        cases e0.symm.trans e1
        cases hx.symm.trans hy
    · obtain ⟨p, xs, e0, hx, al⟩ := a1.lst_inv
      rcases xM h2 with f2 | ⟨es, rfl, k2⟩ | ⟨es, rfl, k2⟩
      · exact (Xt f2 ((xZ f2 a2).symm.trans e0)).elim
      · obtain ⟨q, ys, e1, hy, bl⟩ := a2.tup_inv
        cases e0.symm.trans e1
        cases hx.symm.trans hy
      · obtain ⟨q, ys, e1, hy, bl⟩ := a2.lst_inv
        cases e0.symm.trans e1
        cases hx.symm.trans hy
        rw [za1 ih k1 k2 al bl]
omit [KK] in
theorem zcJ : ∀ (n : Nat) {d : D}, okE n d = true → eqN n d d = true := by
  intro n
  induction n with
  | zero =>
    intro d h
    cases d with
    | tup _ => cases h
    | lst _ => cases h
    | scr _ => cases h
    | dct _ _ _ _ => cases h
    | _ => first | rfl | exact decide_eq_true rfl | exact beq_self_eq_true _
  | succ n ih =>
    have ihl : ∀ {ds : List D}, ds.all (okE n) = true → (List.zipWith (eqN n) ds ds).all id = true := by
      intro ds
      induction ds with
      | nil => intro _; rfl
      | cons d ds ih2 =>
        intro h
        rw [List.all_cons, Bool.and_eq_true] at h
        rw [List.zipWith_cons_cons, List.all_cons, ih2 h.2, Bool.and_true]
        exact ih h.1
    intro d h
    cases d with
    | tup ds => show ((List.zipWith (eqN n) ds ds).all id && ds.length == ds.length) = true; rw [ihl h]; simp
    | lst ds => show ((List.zipWith (eqN n) ds ds).all id && ds.length == ds.length) = true; rw [ihl h]; simp
    | scr _ => cases h
    | dct _ _ _ _ => cases h
    | _ => first | rfl | exact decide_eq_true rfl | exact beq_self_eq_true _
theorem zdq {F : Hp} (n : Nat) {d e : D} {v : V} (h1 : okE n d = true) (h2 : okE n e = true) (a1 : At F d v) (a2 : At F e v) : eqN n d e = true := by
  rw [zdp n h1 h2 a1 a2]
  exact zcJ n h2
omit [KK] in
theorem wC {n : Nat} {ds : List D} {j : Nat} (h : ds.all (okE n) = true) (hj : j < ds.length) : okE n (ds.getD j .non) = true := by
  have : ds.getD j .non = ds[j] := by simp [hj]
  rw [this]
  exact List.all_eq_true.mp h _ (List.getElem_mem hj)
theorem AtL.nth {F : Hp} {ds : List D} {xs : List V} {us : List Value} {j : Nat} (al : AtL F ds xs) (r : yg xs us) (h : j < us.length) : ∃ x, At F (ds.getD j .non) x ∧ xJ x us[j] := by
  have hl := al.length
  have hl2 := r.length
  have hj : j < ds.length := by omega
  obtain ⟨x, hx, ax⟩ := al.get (i := j) (d := ds[j]) (by simp [hj])
  obtain ⟨u, hu, ru⟩ := r.get hx
  refine ⟨x, by rw [show ds.getD j .non = ds[j] by simp [hj]]; exact ax, ?_⟩
  have : us[j]? = some us[j] := by simp [h]
  rw [hu] at this
  cases this
  exact ru
omit [KK] in
theorem V5 {n : Nat} {d e : D} (h1 : okE 0 d = true) (h2 : okE 0 e = true) : eqN n d e = eqV (vOf d) (vOf e) := by
  cases n <;> cases d <;> first | (cases h1; done) | skip
  all_goals cases e <;> first | (cases h2; done) | rfl
omit [KK] in
theorem VS {n : Nat} {d : D} (ds : List D) (h : okE 0 d = true) : eqN (n + 1) d (.tup ds) = false ∧ eqN (n + 1) d (.lst ds) = false ∧ eqN (n + 1) (.tup ds) d = false ∧ eqN (n + 1) (.lst ds) d = false := by
  cases d <;> first | exact ⟨rfl, rfl, rfl, rfl⟩ | cases h
omit [KK] in
theorem XS {A : Around} {s : Shared} {d : D} {u : Value} {p : Addr} {its : Array Value} (h : okE 0 d = true) (r : xJ (vOf d) u) (hu : A.units < cLine) :
    (s.heap.IsTuple p its → SeqAt.EqAt A s u (.ref p) false ∧ SeqAt.EqAt A s (.ref p) u false) ∧ (s.heap.IsList p its → SeqAt.EqAt A s u (.ref p) false ∧ SeqAt.EqAt A s (.ref p) u false) := by
  cases d with
  | non => cases r; exact ⟨fun ht => ⟨.none_tuple ht hu, .tuple_none ht hu⟩, fun ht => ⟨.none_list ht hu, .list_none ht hu⟩⟩
  | bl b => cases r; exact ⟨fun ht => ⟨.bool_tuple b ht hu, .tuple_bool b ht hu⟩, fun ht => ⟨.bool_list b ht hu, .list_bool b ht hu⟩⟩
  | int b => obtain ⟨t, rfl⟩ := r; exact ⟨fun ht => ⟨.int_tuple b t ht hu, .tuple_int b t ht hu⟩, fun ht => ⟨.int_list b t ht hu, .list_int b t ht hu⟩⟩
  | str b => obtain ⟨t, rfl⟩ := r; exact ⟨fun ht => ⟨.str_tuple b t ht hu, .tuple_str b t ht hu⟩, fun ht => ⟨.str_list b t ht hu, .list_str b t ht hu⟩⟩
  | _ => cases h
theorem XL {X : Cx} {pins : List (Addr × Obj)} {σ : St} {F H : Hp} {s : Shared} (I : Inv X pins σ H s) (sm : yP F H) {ds : List D} {x : V} {u : Value} (a : At F (.tup ds) x) (r : xJ x u) : ∃ p its xs, u = .ref p ∧ x = .ref p ∧ yg xs its ∧ AtL F ds xs ∧ s.heap.IsTuple p its.toArray := by
  obtain ⟨p, xs, rfl, hx, al⟩ := a.tup_inv
  cases r
  obtain ⟨its, rv, ht, hz⟩ := I.tuple (SqT.of (sm _ _ hx))
  exact ⟨p, its, xs, rfl, rfl, rv, al, ht⟩
theorem XJ {X : Cx} {pins : List (Addr × Obj)} {σ : St} {F H : Hp} {s : Shared} (I : Inv X pins σ H s) (sm : yP F H) {ds : List D} {x : V} {u : Value} (a : At F (.lst ds) x) (r : xJ x u) : ∃ p its xs, u = .ref p ∧ x = .ref p ∧ yg xs its ∧ AtL F ds xs ∧ s.heap.IsList p its.toArray := by
  obtain ⟨p, xs, rfl, hx, al⟩ := a.lst_inv
  cases r
  obtain ⟨its, rv, ht, hz⟩ := I.list (SqL.of (sm _ _ hx))
  exact ⟨p, its, xs, rfl, rfl, rv, al, ht.isList⟩
omit [KK] in
theorem zca {n : Nat} (ds es : List D) : ((List.zipWith (eqN n) ds es).all id && ds.length == es.length) = ((List.range (min ds.length es.length)).all (fun j => eqN n (ds.getD j .non) (es.getD j .non)) && ds.length == es.length) := by rw [W7]
theorem VV {X : Cx} {pins : List (Addr × Obj)} {σ : St} {F H : Hp} {s : Shared} (I : Inv X pins σ H s) (sm : yP F H) : ∀ (n : Nat) {A : Around} {d e : D} {x y : V} {u v : Value}, okE n d = true → okE n e = true → At F d x → At F e y → xJ x u → xJ y v → A.units + n < cLine → SeqAt.EqAt A s u v (eqN n d e) := by
  intro n
  induction n with
  | zero =>
    intro A d e x y u v h1 h2 a1 a2 r1 r2 hu
    cases xZ h1 a1
    cases xZ h2 a2
    rw [V5 h1 h2]
    exact zdG r1 r2 (YZ h1) (YZ h2)
  | succ n ih =>
    intro A d e x y u v h1 h2 a1 a2 r1 r2 hu
    have hu0 : A.units < cLine := Nat.lt_of_le_of_lt (Nat.le_add_right _ _) hu
    have hu1 : A.units + 1 + n < cLine := by rw [Nat.add_assoc, Nat.add_comm 1 n]; exact hu
    rcases xM h1 with f1 | ⟨ds, rfl, k1⟩ | ⟨ds, rfl, k1⟩
    · cases xZ f1 a1
      rcases xM h2 with f2 | ⟨es, rfl, k2⟩ | ⟨es, rfl, k2⟩
      · cases xZ f2 a2
        rw [V5 f1 f2]
        exact zdG r1 r2 (YZ f1) (YZ f2)
      · obtain ⟨q, its2, ys, rfl, _, _, _, ht2⟩ := XL I sm a2 r2
        rw [(VS es f1).1]
        exact ((XS f1 r1 hu0).1 ht2).1
      · obtain ⟨q, its2, ys, rfl, _, _, _, ht2⟩ := XJ I sm a2 r2
        rw [(VS es f1).2.1]
        exact ((XS f1 r1 hu0).2 ht2).1
    · obtain ⟨p, its, xs, rfl, hxp, rv, al, ht⟩ := XL I sm a1 r1
      rcases xM h2 with f2 | ⟨es, rfl, k2⟩ | ⟨es, rfl, k2⟩
      · cases xZ f2 a2
        rw [(VS ds f2).2.2.1]
        exact ((XS f2 r2 hu0).1 ht).2
      · obtain ⟨q, its2, ys, rfl, hyq, rv2, bl, ht2⟩ := XL I sm a2 r2
        by_cases hpq : p = q
        · subst hpq
          rw [hxp] at a1
          rw [hyq] at a2
          rw [zdq (n + 1) h1 h2 a1 a2]
          exact .same _
        · have hl1 : its.toArray.size = ds.length := by rw [List.size_toArray, ← rv.length, al.length]
          have hl2 : its2.toArray.size = es.length := by rw [List.size_toArray, ← rv2.length, bl.length]
          have := SeqAt.RcAt.tuples (A := A) (e := fun j => eqN n (ds.getD j .non) (es.getD j .non)) ht ht2 hu0 fun j g1 g2 => by
            obtain ⟨x', ax, rx⟩ := al.nth rv (j := j) g1
            obtain ⟨y', ay, ry⟩ := bl.nth rv2 (j := j) g2
            exact ih (wC k1 (hl1 ▸ g1)) (wC k2 (hl2 ▸ g2)) ax ay rx ry hu1
          rw [hl1, hl2] at this
          rw [show eqN (n + 1) (.tup ds) (.tup es) = _ from zca ds es]
          exact SeqAt.EqAt.of_refs hpq this
      · obtain ⟨q, its2, ys, rfl, _, _, _, ht2⟩ := XJ I sm a2 r2
        exact .tuple_list ht ht2 hu0
    · obtain ⟨p, its, xs, rfl, hxp, rv, al, ht⟩ := XJ I sm a1 r1
      rcases xM h2 with f2 | ⟨es, rfl, k2⟩ | ⟨es, rfl, k2⟩
      · cases xZ f2 a2
        rw [(VS ds f2).2.2.2]
        exact ((XS f2 r2 hu0).2 ht).2
      · obtain ⟨q, its2, ys, rfl, _, _, _, ht2⟩ := XL I sm a2 r2
        exact .list_tuple ht ht2 hu0
      · obtain ⟨q, its2, ys, rfl, hyq, rv2, bl, ht2⟩ := XJ I sm a2 r2
        by_cases hpq : p = q
        · subst hpq
          rw [hxp] at a1
          rw [hyq] at a2
          rw [zdq (n + 1) h1 h2 a1 a2]
          exact .same _
        · have hl1 : its.toArray.size = ds.length := by rw [List.size_toArray, ← rv.length, al.length]
          have hl2 : its2.toArray.size = es.length := by rw [List.size_toArray, ← rv2.length, bl.length]
          rw [show eqN (n + 1) (.lst ds) (.lst es) = _ from zca ds es]
          by_cases hle : ds.length = es.length
          · have := SeqAt.RcAt.lists (A := A) (e := fun j => eqN n (ds.getD j .non) (es.getD j .non)) ht ht2 (by rw [hl1, hl2, hle]) hu0 fun j g1 g2 => by
              obtain ⟨x', ax, rx⟩ := al.nth rv (j := j) g1
              obtain ⟨y', ay, ry⟩ := bl.nth rv2 (j := j) g2
              exact ih (wC k1 (hl1 ▸ g1)) (wC k2 (hl2 ▸ g2)) ax ay rx ry hu1
            rw [hl1] at this
            rw [← hle, Nat.min_self, beq_self_eq_true, Bool.and_true]
            exact SeqAt.EqAt.of_refs hpq this
          · have := SeqAt.RcAt.lists_lengths (A := A) ht ht2 (by rw [hl1, hl2]; exact bne_iff_ne.mpr hle) hu0
            rw [beq_eq_false_iff_ne.mpr hle, Bool.and_false]
            exact SeqAt.EqAt.of_refs hpq this
noncomputable def zcU (d : D) (es : List D) : Option Bool := if okE 20 d = true ∧ es.all (okE 20) = true then some (es.any fun e => eqN 20 e d) else none
noncomputable def inD (d e : D) : Option D := (xy e).bind fun es => (zcU d es).map .bl
noncomputable def zbU (d e : D) : Option D := (xy e).bind fun es => (zcU d es).map fun b => .bl (!b)
open Classical in
noncomputable def Wo (F : Hp) (d : D) (u : Value) : Bool := decide (∃ d0 x, At F d0 x ∧ xJ x u ∧ okE 20 d0 = true ∧ eqN 20 d0 d = true)
open Classical in
theorem Vb {F : Hp} {d d0 : D} {x : V} {u : Value} (a : At F d0 x) (r : xJ x u) (k : okE 20 d0 = true) : Wo F d u = eqN 20 d0 d := by
  unfold Wo
  cases h : eqN 20 d0 d with
  | true => exact decide_eq_true ⟨d0, x, a, r, k, h⟩
  | false =>
    refine decide_eq_false ?_
    rintro ⟨d1, y, a1, r1, k1, h1⟩
    have e := r1.inj r
    subst e
    rw [zdp 20 k1 k a1 a] at h1
    rw [h1] at h
    cases h
theorem Ya {F : Hp} {d : D} : ∀ {ds : List D} {xs : List V} {us : List Value}, AtL F ds xs → yg xs us → ds.all (okE 20) = true → us.any (Wo F d) = ds.any fun e => eqN 20 e d
  | [], _, _, al, r, _ => by cases al.nil_inv; cases r; rfl
  | e :: ds, _, _, al, r, k => by
    obtain ⟨x, xs, rfl, a1, a2⟩ := al.cons_inv
    cases r with
    | cons r1 r2 =>
      rw [List.all_cons, Bool.and_eq_true] at k
      rw [List.any_cons, List.any_cons, Vb a1 r1 k.1, Ya a2 r2 k.2]
section
variable {X : Cx}
noncomputable def zgD (neg : Bool) : R2 := fun x y H Q => ∃ F d e es b, yP F H ∧ At F d x ∧ At F e y ∧ xy e = some es ∧ zcU d es = some b ∧ Q (.bl (if neg then !b else b)) H
theorem zfF {k : Nat} (hr : YI k X.A) : OpR X (compareOp .In) (zgD false) := by
  intro pins s σ H x y v u Q I rx ry h
  obtain ⟨F, d, e, es, b, sm, a1, a2, hs, hb, q⟩ := h
  unfold zcU at hb
  split at hb <;> cases hb
  rename_i hk
  have hu : X.A.in1.units + 20 < cLine := by have := hr.un; show X.A.units + 1 + 20 < cLine; omega
  have mem : ∀ {xs : List V} {us : List Value}, AtL F es xs → yg xs us → ∀ z ∈ us, SeqAt.EqAt X.A.in1 s z v (Wo F d z) := fun {xs us} al r z hz => by
    obtain ⟨j, hj, rfl⟩ := List.getElem_of_mem hz
    obtain ⟨x', ax, rx'⟩ := al.nth r hj
    have hj' : j < es.length := by have := al.length; have := r.length; omega
    have k2 := wC hk.2 hj'
    rw [Vb ax rx' k2]
    exact VV I sm 20 k2 hk.1 ax a1 rx' rx hu
  cases e <;> cases hs
  · obtain ⟨p, xs, rfl, hx, al⟩ := a2.tup_inv
    cases ry
    obtain ⟨its, r, pl, hz⟩ := I.tuple (SqT.of (sm _ _ hx))
    refine SeqAt.in_tupleAt (Wo F d) pl (fun z hz => mem al r z (by simpa using hz)) ⟨.bl _, H, I, rfl, ?_⟩
    rw [show its.toArray.any (Wo F d) = its.any (Wo F d) by simp, Ya al r hk.2]
    exact q
  · obtain ⟨p, xs, rfl, hx, al⟩ := a2.lst_inv
    cases ry
    obtain ⟨its, r, pl, hz⟩ := I.list (SqL.of (sm _ _ hx))
    refine SeqAt.in_listAt (Wo F d) pl.isList (fun z hz => mem al r z (by simpa using hz)) ⟨.bl _, H, I, rfl, ?_⟩
    rw [show its.toArray.any (Wo F d) = its.any (Wo F d) by simp, Ya al r hk.2]
    exact q
theorem zbb {k : Nat} (hr : YI k X.A) : OpR X (compareOp .NotIn) (zgD true) := by
  intro pins s σ H x y v u Q I rx ry h
  obtain ⟨F, d, e, es, b, sm, a1, a2, hs, hb, q⟩ := h
  unfold zcU at hb
  split at hb <;> cases hb
  rename_i hk
  have hu : X.A.in1.units + 20 < cLine := by have := hr.un; show X.A.units + 1 + 20 < cLine; omega
  have mem : ∀ {xs : List V} {us : List Value}, AtL F es xs → yg xs us → ∀ z ∈ us, SeqAt.EqAt X.A.in1 s z v (Wo F d z) := fun {xs us} al r z hz => by
    obtain ⟨j, hj, rfl⟩ := List.getElem_of_mem hz
    obtain ⟨x', ax, rx'⟩ := al.nth r hj
    have hj' : j < es.length := by have := al.length; have := r.length; omega
    have k2 := wC hk.2 hj'
    rw [Vb ax rx' k2]
    exact VV I sm 20 k2 hk.1 ax a1 rx' rx hu
  cases e <;> cases hs
  · obtain ⟨p, xs, rfl, hx, al⟩ := a2.tup_inv
    cases ry
    obtain ⟨its, r, pl, hz⟩ := I.tuple (SqT.of (sm _ _ hx))
    refine SeqAt.notIn_tupleAt (Wo F d) pl (fun z hz => mem al r z (by simpa using hz)) ⟨.bl _, H, I, rfl, ?_⟩
    rw [show its.toArray.any (Wo F d) = its.any (Wo F d) by simp, Ya al r hk.2]
    exact q
  · obtain ⟨p, xs, rfl, hx, al⟩ := a2.lst_inv
    cases ry
    obtain ⟨its, r, pl, hz⟩ := I.list (SqL.of (sm _ _ hx))
    refine SeqAt.notIn_listAt (Wo F d) pl.isList (fun z hz => mem al r z (by simpa using hz)) ⟨.bl _, H, I, rfl, ?_⟩
    rw [show its.toArray.any (Wo F d) = its.any (Wo F d) by simp, Ya al r hk.2]
    exact q
theorem zfV : OpD (zgD false) inD := by
  intro F H x y d e z Q s ax ay ez q
  obtain ⟨es, e1, e2⟩ := Option.bind_eq_some_iff.mp ez
  obtain ⟨b, e3, rfl⟩ := Option.map_eq_some_iff.mp e2
  exact ⟨F, d, e, es, b, s, ax, ay, e1, e3, q F H _ (.refl s) .bl⟩
theorem zck : OpD (zgD true) zbU := by
  intro F H x y d e z Q s ax ay ez q
  obtain ⟨es, e1, e2⟩ := Option.bind_eq_some_iff.mp ez
  obtain ⟨b, e3, rfl⟩ := Option.map_eq_some_iff.mp e2
  exact ⟨F, d, e, es, b, s, ax, ay, e1, e3, q F H _ (.refl s) .bl⟩
noncomputable def eqG (d e : D) : Option Bool := match d, e with
  | .tup _, .tup _ => if okE 20 d = true ∧ okE 20 e = true then some (eqN 20 d e) else none
  | .lst _, .lst _ => if okE 20 d = true ∧ okE 20 e = true then some (eqN 20 d e) else none
  | _, _ => eqS d e
noncomputable def YN (d e : D) : Option D := (eqG d e).map .bl
noncomputable def zgz : R2 := fun x y H Q => ∃ F d e, yP F H ∧ At F d x ∧ At F e y ∧ ((∃ ds es, d = .tup ds ∧ e = .tup es) ∨ (∃ ds es, d = .lst ds ∧ e = .lst es)) ∧ okE 20 d = true ∧ okE 20 e = true ∧ Q (.bl (eqN 20 d e)) H
theorem zeU {k : Nat} (hr : YI k X.A) : OpR X (compareOp .Eq) zgz := by
  intro pins s σ H x y v u Q I rx ry h
  obtain ⟨F, d, e, sm, a1, a2, hk, k1, k2, q⟩ := h
  have hu : X.A.units + 30 < cLine := by have := hr.un; omega
  rcases hk with ⟨ds, es, rfl, rfl⟩ | ⟨ds, es, rfl, rfl⟩
  · obtain ⟨p, xs, rfl, hx, al⟩ := a1.tup_inv
    obtain ⟨p2, ys, rfl, hy, bl⟩ := a2.tup_inv
    cases rx
    cases ry
    obtain ⟨its, r, ht, hz⟩ := I.tuple (SqT.of (sm _ _ hx))
    obtain ⟨its2, r2, ht2, hz2⟩ := I.tuple (SqT.of (sm _ _ hy))
    have hl1 : its.toArray.size = ds.length := by rw [List.size_toArray, ← r.length, al.length]
    have hl2 : its2.toArray.size = es.length := by rw [List.size_toArray, ← r2.length, bl.length]
    refine SeqAt.eq_tupleAt (e := fun j => eqN 19 (ds.getD j .non) (es.getD j .non)) (show s.heap.IsTuple p its.toArray from ht) (show s.heap.IsTuple p2 its2.toArray from ht2) (by omega) (fun j g1 g2 => ?_) ⟨.bl _, H, I, rfl, ?_⟩
    · obtain ⟨x', ax, rx⟩ := al.nth r (j := j) (by simpa using g1)
      obtain ⟨y', ay, ry⟩ := bl.nth r2 (j := j) (by simpa using g2)
      exact VV I sm 19 (wC k1 (by rw [← hl1]; exact g1)) (wC k2 (by rw [← hl2]; exact g2)) ax ay (by simpa using rx) (by simpa using ry) (Nat.lt_of_le_of_lt (show X.A.units + 20 ≤ X.A.units + 30 from Nat.add_le_add_left (by decide) _) hu)
    · rw [hl1, hl2, ← W7]
      exact q
  · obtain ⟨p, xs, rfl, hx, al⟩ := a1.lst_inv
    obtain ⟨p2, ys, rfl, hy, bl⟩ := a2.lst_inv
    cases rx
    cases ry
    obtain ⟨its, r, ht, hz⟩ := I.list (SqL.of (sm _ _ hx))
    obtain ⟨its2, r2, ht2, hz2⟩ := I.list (SqL.of (sm _ _ hy))
    have hl1 : its.toArray.size = ds.length := by rw [List.size_toArray, ← r.length, al.length]
    have hl2 : its2.toArray.size = es.length := by rw [List.size_toArray, ← r2.length, bl.length]
    have e1 : eqN 20 (.lst ds) (.lst es) = ((List.range (min ds.length es.length)).all (fun j => eqN 19 (ds.getD j .non) (es.getD j .non)) && ds.length == es.length) := by
      show ((List.zipWith (eqN 19) ds es).all id && ds.length == es.length) = _
      rw [W7]
    by_cases hle : ds.length = es.length
    · refine SeqAt.eq_listAt (e := fun j => eqN 19 (ds.getD j .non) (es.getD j .non)) ht.isList ht2.isList (by rw [hl1, hl2]; exact hle) (Nat.lt_of_le_of_lt (Nat.le_add_right _ 30) hu) (fun j g1 g2 => ?_) ⟨.bl _, H, I, rfl, ?_⟩
      · obtain ⟨x', ax, rx⟩ := al.nth r (j := j) (by simpa using g1)
        obtain ⟨y', ay, ry⟩ := bl.nth r2 (j := j) (by simpa using g2)
        exact VV I sm 19 (wC k1 (by rw [← hl1]; exact g1)) (wC k2 (by rw [← hl2]; exact g2)) ax ay (by simpa using rx) (by simpa using ry) (Nat.lt_of_le_of_lt (show X.A.units + 20 ≤ X.A.units + 30 from Nat.add_le_add_left (by decide) _) hu)
      · rw [hl1]
        rw [e1, ← hle, Nat.min_self] at q
        simpa using q
    · refine SeqAt.eq_list_lengthsAt ht.isList ht2.isList (by rw [hl1, hl2]; simpa using hle) (Nat.lt_of_le_of_lt (Nat.le_add_right _ 30) hu) ⟨.bl _, H, I, rfl, ?_⟩
      have : (ds.length == es.length) = false := by simpa using hle
      rw [e1, this, Bool.and_false] at q
      exact q
theorem zeH : OpD zgz (fun d e => match d, e with
  | .tup _, .tup _ => if okE 20 d = true ∧ okE 20 e = true then some (.bl (eqN 20 d e)) else none
  | .lst _, .lst _ => if okE 20 d = true ∧ okE 20 e = true then some (.bl (eqN 20 d e)) else none
  | _, _ => none) := by
  intro F H x y d e z Q s ax ay ez q
  dsimp only at ez
  split at ez
  · split at ez <;> cases ez
    rename_i hk
    exact ⟨F, _, _, s, ax, ay, .inl ⟨_, _, rfl, rfl⟩, hk.1, hk.2, q F H _ (.refl s) .bl⟩
  · split at ez <;> cases ez
    rename_i hk
    exact ⟨F, _, _, s, ax, ay, .inr ⟨_, _, rfl, rfl⟩, hk.1, hk.2, q F H _ (.refl s) .bl⟩
  · cases ez
theorem xt {k : Nat} (hr : YI k X.A) : OpR X (compareOp .Eq) (fun x y H Q => rEq x y H Q ∨ zgz x y H Q) := zg8.or (zeU hr)
theorem yt : OpD (fun x y H Q => rEq x y H Q ∨ zgz x y H Q) YN := by
  refine VG (WP zds zeH) fun d e z h => ?_
  obtain ⟨b, hb, rfl⟩ := Option.map_eq_some_iff.mp h
  unfold eqG at hb
  split at hb
  · split at hb <;> cases hb
    rename_i hk
    show (Option.or none (if okE 20 _ = true ∧ okE 20 _ = true then some (D.bl (eqN 20 _ _)) else none)) = _
    rw [if_pos hk]
    rfl
  · split at hb <;> cases hb
    rename_i hk
    show (Option.or none (if okE 20 _ = true ∧ okE 20 _ = true then some (D.bl (eqN 20 _ _)) else none)) = _
    rw [if_pos hk]
    rfl
  · show ((eqD d e).or _) = _
    unfold eqD
    rw [hb]
    rfl
theorem Y1 {pins : List (Addr × Obj)} {σ : St} {H : Hp} {s : Shared} {a : Addr} {xs : List V} {A : Around} {Q : Value → Shared → Prop} {E : Value → Shared → Prop} (I : Inv X pins σ H s) (hh : A.handled = none) (h : SqL X.K H a xs ∨ SqT X.K H a xs)
    (k : ∀ (it : Addr) (its : List Value) (fp wr : List Addr) (St : Nat → Heap → Prop) (s₂ : Shared), yg xs its → Walks X.prog X.w A it fp wr its.length (fun i v => its[i]? = some v) St → St 0 s₂.heap → (∀ b ∈ fp, b < s₂.heap.objs.size) →
      (∀ (h' : Heap) (tk : Nat), (∀ b o, b ∉ wr → s₂.heap.get? b = some o → h'.get? b = some o) → Inv X pins σ H { s₂ with heap := h', toks := tk }) → Q (.ref it) s₂) :
    wpAny (model X.prog X.w) A (pyIter (.ref a)) Q E s := by
  have back : ∀ {o : Obj} {s₂ : Shared}, s₂ = { s with heap := s.heap.push o } → ∀ (h' : Heap) (tk : Nat), (∀ b u, b ∉ [s.heap.objs.size] → s₂.heap.get? b = some u → h'.get? b = some u) → Inv X pins σ H { s₂ with heap := h', toks := tk } := fun {o s₂} e h' tk kk => by
    subst e
    exact I.kept (t' := tk) fun b u z => kk b u (by simpa using Nat.ne_of_lt (Heap.lt_size z)) (Heap.get?_push_of_some _ z)
  rcases h with h | h
  · obtain ⟨its, rv, p, hz⟩ := I.list h
    have lt : a < s.heap.objs.size := by obtain ⟨o, n, ho, _⟩ := p; exact Heap.lt_size ho
    refine wpAny_pyIter_list p.isList ?_
    have W := Walks.list (prog := X.prog) (w := X.w) (A := A) hh s.heap.objs.size a (Nat.ne_of_lt lt) its.toArray
    refine k s.heap.objs.size its [s.heap.objs.size, a] [s.heap.objs.size] (fun i h => h.IsListIter s.heap.objs.size a i ∧ h.IsList a its.toArray) _ rv (by simpa using W) ⟨⟨_, Heap.get?_push_size _ rfl, rfl, rfl⟩, p.isList.at fun o e => Heap.get?_push_of_some _ e⟩ (fun b hb => ?_) (back rfl)
    show b < (s.heap.push _).objs.size
    rw [Heap.size_push]
    rcases List.mem_cons.mp hb with rfl | hb
    · exact Nat.lt_succ_self _
    · rw [List.mem_singleton.mp hb]; exact Nat.lt_succ_of_lt lt
  · obtain ⟨its, rv, p, hz⟩ := I.tuple h
    have p' : s.heap.IsTuple a its.toArray := p
    have lt : a < s.heap.objs.size := by obtain ⟨o, ho, _⟩ := p; exact Heap.lt_size ho
    refine wpAny_pyIter_tuple p' ?_
    have W := Walks.tuple (prog := X.prog) (w := X.w) (A := A) hh s.heap.objs.size a (Nat.ne_of_lt lt) its.toArray
    refine k s.heap.objs.size its [s.heap.objs.size, a] [s.heap.objs.size] (fun i h => h.IsTupleIter s.heap.objs.size a i ∧ h.IsTuple a its.toArray) _ rv (by simpa using W) ⟨⟨_, Heap.get?_push_size _ rfl, rfl, rfl⟩, p'.at fun o e => Heap.get?_push_of_some _ e⟩ (fun b hb => ?_) (back rfl)
    show b < (s.heap.push _).objs.size
    rw [Heap.size_push]
    rcases List.mem_cons.mp hb with rfl | hb
    · exact Nat.lt_succ_self _
    · rw [List.mem_singleton.mp hb]; exact Nat.lt_succ_of_lt lt
end
end Dl
namespace Dl
open PySem L2
variable [KK]
omit [KK] in
theorem zbA {bs : List Bool} : (List.range bs.length).all (fun i => bs.getD i false) = bs.all id := by
  have : bs = (List.range bs.length).map fun i => bs.getD i false := by
    apply List.ext_getElem
    · simp
    · intro i h1 h2
      simp [h1]
  conv => rhs; rw [this]
  rw [List.all_map]
  rfl
omit [KK] in
theorem za6 : ∀ (ns : List Int) (n : Nat), n ≤ ns.length → preSum (fun i => ns.getD i 0) n = (ns.take n).sum := by
  intro ns n
  induction n with
  | zero => intro _; simp [preSum]
  | succ n ih =>
    intro h
    show preSum (fun i => ns.getD i 0) n + ns.getD n 0 = _
    rw [ih (by omega), List.take_succ, List.sum_append]
    have : ns[n]? = some ns[n] := by simp [show n < ns.length by omega]
    simp [this]
section
variable {X : Cx}
omit [KK] in
theorem zeD {bs : List Bool} {its : List Value} {i : Nat} {v : Value} (r : yg (bs.map V.bl) its) (h : its[i]? = some v) : v = .bool (bs.getD i false) := by
  have hl := r.length
  have hi : i < its.length := (List.getElem?_eq_some_iff.mp h).1
  rw [List.length_map] at hl
  obtain ⟨u, hu, ru⟩ := r.get (i := i) (x := .bl (bs[i]'(by omega))) (by rw [List.getElem?_map]; simp [show i < bs.length by omega])
  rw [h] at hu
  cases hu
  cases ru
  simp [show i < bs.length by omega]
omit [KK] in
theorem wR {ns : List Int} {its : List Value} {i : Nat} {v : Value} (r : yg (ns.map V.int) its) (h : its[i]? = some v) : ∃ t, v = .int (ns.getD i 0) t := by
  have hl := r.length
  have hi : i < its.length := (List.getElem?_eq_some_iff.mp h).1
  rw [List.length_map] at hl
  obtain ⟨u, hu, ru⟩ := r.get (i := i) (x := .int (ns[i]'(by omega))) (by rw [List.getElem?_map]; simp [show i < ns.length by omega])
  rw [h] at hu
  cases hu
  obtain ⟨t, rfl⟩ := ru
  exact ⟨t, by simp [show i < ns.length by omega]⟩
theorem WB (hc : X.calm = true) : vY X (.builtin "all") (fun xs H Q => ∃ (p : Addr) (bs : List Bool), xs = [.ref p] ∧ (SqL X.K H p (bs.map V.bl) ∨ SqT X.K H p (bs.map V.bl)) ∧ Q (.bl (bs.all id)) H) := by
  intro pins s σ H xs us Q I r h
  obtain ⟨p, bs, rfl, hq, q⟩ := h
  obtain ⟨u, rfl, ru⟩ := Xx r
  cases ru
  refine call_all_walk (Y1 I (I.ok.hd hc) hq fun it its fp wr St s₂ rv W st fpl back => ?_)
  have hl := rv.length
  rw [List.length_map] at hl
  refine ⟨it, fp, wr, _, _, St, fun i => bs.getD i false, rfl, W, st, fun i v s Q E hv hQ => ?_, fun h' tk kk => ⟨.bl _, H, back h' tk kk, rfl, ?_⟩⟩
  · rw [zeD rv hv]
    exact wpAny_truthy_bool hQ
  · rw [← hl, zbA]
    exact q
theorem zcm (hc : X.calm = true) : vY X (.builtin "sum") (fun xs H Q => ∃ (p : Addr) (ns : List Int), xs = [.ref p] ∧ (SqL X.K H p (ns.map V.int) ∨ SqT X.K H p (ns.map V.int)) ∧ Q (.int ns.sum) H) := by
  intro pins s σ H xs us Q I r h
  obtain ⟨p, ns, rfl, hq, q⟩ := h
  obtain ⟨u, rfl, ru⟩ := Xx r
  cases ru
  refine call_sum_walkG (Y1 I (I.ok.hd hc) hq fun it its fp wr St s₂ rv W st fpl back => ?_)
  have hl := rv.length
  rw [List.length_map] at hl
  refine ⟨it, fp, wr, _, _, St, fun i => ns.getD i 0, rfl, W, st, fpl, fun i v hv => wR rv hv, fun h' tk t' kk => ⟨.int ns.sum, H, back h' tk kk, ?_, q⟩⟩
  refine ⟨t', ?_⟩
  rw [← hl, za6 ns _ (Nat.le_refl _), List.take_length]
noncomputable def zd0 (ns : List Int) : Int := (ns.max?).getD 0
noncomputable def zdM (ns : List Int) : Int := (ns.min?).getD 0
omit [KK] in
theorem zaX (f : Nat → Int) : ∀ k i, i ≤ k → f i ≤ f (argBest (fun i j => decide (f j < f i)) k) ∧ argBest (fun i j => decide (f j < f i)) k ≤ k := by
  intro k
  induction k with
  | zero => intro i hi; have : i = 0 := by omega
            subst this; exact ⟨Int.le_refl _, Nat.le_refl _⟩
  | succ k ih =>
    intro i hi
    unfold argBest
    obtain ⟨h1, h2⟩ := ih (min i k) (Nat.min_le_right _ _)
    split
    · rename_i hc
      have hc : f (argBest (fun i j => decide (f j < f i)) k) < f (k + 1) := of_decide_eq_true hc
      refine ⟨?_, Nat.le_refl _⟩
      by_cases hik : i ≤ k
      · rw [Nat.min_eq_left hik] at h1; omega
      · have : i = k + 1 := by omega
        subst this; exact Int.le_refl _
    · rename_i hc
      have hc : ¬ f (argBest (fun i j => decide (f j < f i)) k) < f (k + 1) := fun z => hc (decide_eq_true z)
      refine ⟨?_, by omega⟩
      by_cases hik : i ≤ k
      · rw [Nat.min_eq_left hik] at h1; exact h1
      · have : i = k + 1 := by omega
        subst this; omega
omit [KK] in
theorem zeW {ns : List Int} {m : Int} (h1 : m ∈ ns) (h2 : ∀ x ∈ ns, x ≤ m) : zd0 ns = m := by
  unfold zd0
  rw [List.max?_eq_some_iff.mpr ⟨h1, h2⟩]
  rfl
omit [KK] in
theorem zfu {ns : List Int} {m : Int} (h1 : m ∈ ns) (h2 : ∀ x ∈ ns, m ≤ x) : zdM ns = m := by
  unfold zdM
  rw [List.min?_eq_some_iff.mpr ⟨h1, h2⟩]
  rfl
omit [KK] in
theorem VL {ns : List Int} {k : Nat} (h : k < ns.length) : ns.getD k 0 ∈ ns := by
  rw [List.getD_eq_getElem?_getD, List.getElem?_eq_getElem h]
  exact List.getElem_mem h
omit [KK] in
theorem zbr {ns : List Int} {k : Nat} (h : k < ns.length) : ns.getD k 0 = ns[k] := by
  rw [List.getD_eq_getElem?_getD, List.getElem?_eq_getElem h]
  rfl
theorem zaV (hc : X.calm = true) : vY X (.builtin "max") (fun xs H Q => ∃ (p : Addr) (ns : List Int), xs = [.ref p] ∧ (SqL X.K H p (ns.map V.int) ∨ SqT X.K H p (ns.map V.int)) ∧ ns ≠ [] ∧ Q (.int (zd0 ns)) H) := by
  intro pins s σ H xs us Q I r h
  obtain ⟨p, ns, rfl, hq, hne, q⟩ := h
  obtain ⟨u, rfl, ru⟩ := Xx r
  cases ru
  refine call_max_walk (Y1 I (I.ok.hd hc) hq fun it its fp wr St s₂ rv W st fpl back => ?_)
  have hl := rv.length
  rw [List.length_map] at hl
  have hpos : 0 < ns.length := List.length_pos_iff.mpr hne
  refine ⟨it, fp, wr, _, _, St, fun i j => decide (ns.getD j 0 < ns.getD i 0), rfl, W, st, fpl, by omega, fun i j vi vj s Q E hi hj hQ => ?_, fun v h' tk hv kk => ?_⟩
  · obtain ⟨t1, rfl⟩ := wR rv hi
    obtain ⟨t2, rfl⟩ := wR rv hj
    exact PyProof.Rows.gt_int hQ
  · obtain ⟨t, rfl⟩ := wR rv hv
    refine ⟨.int (zd0 ns), H, back h' tk kk, ⟨t, ?_⟩, q⟩
    have key := zaX (fun i => ns.getD i 0) (its.length - 1)
    have hb : argBest (fun i j => decide (ns.getD j 0 < ns.getD i 0)) (its.length - 1) < ns.length := by
      have := (key 0 (Nat.zero_le _)).2
      omega
    rw [zeW (m := ns.getD (argBest (fun i j => decide (ns.getD j 0 < ns.getD i 0)) (its.length - 1)) 0)]
    · exact VL hb
    · intro x hx
      obtain ⟨j, hj, rfl⟩ := List.getElem_of_mem hx
      have := (key j (by omega)).1
      rw [← zbr hj]
      exact this
theorem zbC (hc : X.calm = true) : vY X (.builtin "min") (fun xs H Q => ∃ (p : Addr) (ns : List Int), xs = [.ref p] ∧ (SqL X.K H p (ns.map V.int) ∨ SqT X.K H p (ns.map V.int)) ∧ ns ≠ [] ∧ Q (.int (zdM ns)) H) := by
  intro pins s σ H xs us Q I r h
  obtain ⟨p, ns, rfl, hq, hne, q⟩ := h
  obtain ⟨u, rfl, ru⟩ := Xx r
  cases ru
  refine call_min_walk (Y1 I (I.ok.hd hc) hq fun it its fp wr St s₂ rv W st fpl back => ?_)
  have hl := rv.length
  rw [List.length_map] at hl
  have hpos : 0 < ns.length := List.length_pos_iff.mpr hne
  refine ⟨it, fp, wr, _, _, St, fun i j => decide (ns.getD i 0 < ns.getD j 0), rfl, W, st, fpl, by omega, fun i j vi vj s Q E hi hj hQ => ?_, fun v h' tk hv kk => ?_⟩
  · obtain ⟨t1, rfl⟩ := wR rv hi
    obtain ⟨t2, rfl⟩ := wR rv hj
    exact PyProof.Rows.lt_int hQ
  · obtain ⟨t, rfl⟩ := wR rv hv
    refine ⟨.int (zdM ns), H, back h' tk kk, ⟨t, ?_⟩, q⟩
    have key := zaX (fun i => - ns.getD i 0) (its.length - 1)
    have e0 : (fun i j => decide (ns.getD i 0 < ns.getD j 0)) = fun i j => decide (-ns.getD j 0 < -ns.getD i 0) := by
      funext i j
      congr 1
      apply propext
      constructor <;> intro h <;> omega
    rw [e0]
    have hb : argBest (fun i j => decide (-ns.getD j 0 < -ns.getD i 0)) (its.length - 1) < ns.length := by
      have := (key 0 (Nat.zero_le _)).2
      omega
    rw [zfu (m := ns.getD (argBest (fun i j => decide (-ns.getD j 0 < -ns.getD i 0)) (its.length - 1)) 0)]
    · exact VL hb
    · intro x hx
      obtain ⟨j, hj, rfl⟩ := List.getElem_of_mem hx
      have := (key j (by omega)).1
      rw [← zbr hj]
      omega
noncomputable def zeu : List D → Option (List Bool)
  | [] => some []
  | .bl b :: ds => (zeu ds).map (b :: ·)
  | _ => none
noncomputable def zcR : List D → Option (List Int)
  | [] => some []
  | .int b :: ds => (zcR ds).map (b :: ·)
  | _ => none
omit [KK] in
theorem zcg : ∀ {ds : List D} {bs : List Bool}, zeu ds = some bs → ds = bs.map .bl
  | [], bs, h => by cases h; rfl
  | d :: ds, bs, h => by
    cases d <;> try cases h
    obtain ⟨cs, h1, rfl⟩ := Option.map_eq_some_iff.mp h
    rw [zcg h1]
    rfl
omit [KK] in
theorem Zy : ∀ {ds : List D} {bs : List Int}, zcR ds = some bs → ds = bs.map .int
  | [], bs, h => by cases h; rfl
  | d :: ds, bs, h => by
    cases d <;> try cases h
    obtain ⟨cs, h1, rfl⟩ := Option.map_eq_some_iff.mp h
    rw [Zy h1]
    rfl
omit [KK] in
theorem zcu (bs : List Bool) : zeu (bs.map .bl) = some bs := by
  induction bs with
  | nil => rfl
  | cons b r ih => show (zeu (r.map .bl)).map (b :: ·) = _; rw [ih]; rfl
omit [KK] in
theorem zdc (bs : List Int) : zcR (bs.map .int) = some bs := by
  induction bs with
  | nil => rfl
  | cons b r ih => show (zcR (r.map .int)).map (b :: ·) = _; rw [ih]; rfl
theorem AtL.of_bls {H : Hp} : ∀ {ns : List Bool} {xs : List V}, AtL H (ns.map D.bl) xs → xs = ns.map V.bl
  | [], _, h => h.nil_inv
  | n :: r, _, h => by
    obtain ⟨x, r', rfl, h1, h2⟩ := AtL.cons_inv (by simpa using h)
    rw [h1.bl_inv, AtL.of_bls h2]
    rfl
noncomputable def zeQ {α : Type} (as : List D → Option α) (g : α → Option D) : List D → Option D
  | [d] => ((xy d).bind as).bind g
  | _ => none
theorem XC {K : PySem.W.Frag} {F H : Hp} {vs : List V} {ds : List D} {z : D} {α : Type} {as : List D → Option α} {g : α → Option D} (s : yP F H) (al : AtL F ds vs) (e : zeQ as g ds = some z) :
    ∃ p es xs b, vs = [.ref p] ∧ (SqL K H p xs ∨ SqT K H p xs) ∧ AtL F es xs ∧ as es = some b ∧ g b = some z := by
  unfold zeQ at e
  split at e
  · obtain ⟨b, e1, e2⟩ := Option.bind_eq_some_iff.mp e
    obtain ⟨es, e3, e4⟩ := Option.bind_eq_some_iff.mp e1
    obtain ⟨x, r, rfl, ax, ar⟩ := al.cons_inv
    cases ar.nil_inv
    rename_i d
    cases d <;> cases e3
    · obtain ⟨p, xs, rfl, hx, bl⟩ := ax.tup_inv
      exact ⟨p, _, xs, b, rfl, .inr (SqT.of (s _ _ hx)), bl, e4, e2⟩
    · obtain ⟨p, xs, rfl, hx, bl⟩ := ax.lst_inv
      exact ⟨p, _, xs, b, rfl, .inl (SqL.of (s _ _ hx)), bl, e4, e2⟩
  · cases e
noncomputable def zeM := zeQ zeu fun bs => some (.bl (bs.all id))
noncomputable def zgW := zeQ zcR fun ns => some (.int ns.sum)
noncomputable def zdY := zeQ zcR fun ns => if ns = [] then none else some (.int (zd0 ns))
noncomputable def zea := zeQ zcR fun ns => if ns = [] then none else some (.int (zdM ns))
theorem zby {K : PySem.W.Frag} : CaD (fun xs H Q => ∃ (p : Addr) (bs : List Bool), xs = [.ref p] ∧ (SqL K H p (bs.map V.bl) ∨ SqT K H p (bs.map V.bl)) ∧ Q (.bl (bs.all id)) H) zeM := by
  intro F H vs ds z Q s al e q
  obtain ⟨p, es, xs, bs, rfl, hq, bl, e1, e2⟩ := XC (K := K) s al e
  cases e2
  rw [zcg e1] at bl
  rw [bl.of_bls] at hq
  exact ⟨p, bs, rfl, hq, q F H _ (.refl s) .bl⟩
theorem zd1 {K : PySem.W.Frag} : CaD (fun xs H Q => ∃ (p : Addr) (ns : List Int), xs = [.ref p] ∧ (SqL K H p (ns.map V.int) ∨ SqT K H p (ns.map V.int)) ∧ Q (.int ns.sum) H) zgW := by
  intro F H vs ds z Q s al e q
  obtain ⟨p, es, xs, bs, rfl, hq, bl, e1, e2⟩ := XC (K := K) s al e
  cases e2
  rw [Zy e1] at bl
  rw [bl.of_ints] at hq
  exact ⟨p, bs, rfl, hq, q F H _ (.refl s) .int⟩
theorem zcE {K : PySem.W.Frag} : CaD (fun xs H Q => ∃ (p : Addr) (ns : List Int), xs = [.ref p] ∧ (SqL K H p (ns.map V.int) ∨ SqT K H p (ns.map V.int)) ∧ ns ≠ [] ∧ Q (.int (zd0 ns)) H) zdY := by
  intro F H vs ds z Q s al e q
  obtain ⟨p, es, xs, bs, rfl, hq, bl, e1, e2⟩ := XC (K := K) s al e
  split at e2 <;> cases e2
  rename_i hne
  rw [Zy e1] at bl
  rw [bl.of_ints] at hq
  exact ⟨p, bs, rfl, hq, hne, q F H _ (.refl s) .int⟩
theorem zda {K : PySem.W.Frag} : CaD (fun xs H Q => ∃ (p : Addr) (ns : List Int), xs = [.ref p] ∧ (SqL K H p (ns.map V.int) ∨ SqT K H p (ns.map V.int)) ∧ ns ≠ [] ∧ Q (.int (zdM ns)) H) zea := by
  intro F H vs ds z Q s al e q
  obtain ⟨p, es, xs, bs, rfl, hq, bl, e1, e2⟩ := XC (K := K) s al e
  split at e2 <;> cases e2
  rename_i hne
  rw [Zy e1] at bl
  rw [bl.of_ints] at hq
  exact ⟨p, bs, rfl, hq, hne, q F H _ (.refl s) .int⟩
end
end Dl
namespace Dl
open PySem L2
variable [KK]
section
variable {X : Cx} {tg a b c e : Expr} {pos : Pos}
noncomputable def V2 : List D → List D → List D
  | x :: xs, y :: ys => .tup [x, y] :: V2 xs ys
  | _, _ => []
omit [KK] in
theorem VQ : ∀ (xs ys : List D) (i : Nat), (V2 xs ys)[i]? = match xs[i]?, ys[i]? with | some x, some y => some (.tup [x, y]) | _, _ => none
  | [], ys, i => by simp [V2]
  | x :: xs, [], i => by simp [V2]
  | x :: xs, y :: ys, 0 => by simp [V2]
  | x :: xs, y :: ys, i + 1 => by simpa [V2] using VQ xs ys i
omit [KK] in
theorem Zi : ∀ (xs ys : List D), xs.length ≤ ys.length → (V2 xs ys).length = xs.length
  | [], ys, _ => by simp [V2]
  | x :: xs, [], h => by simp at h
  | x :: xs, y :: ys, h => by simp [V2, Zi xs ys (by simpa using h)]
noncomputable def wQ (f : Ev → Option (List D)) : Ev → Option (List D) := fun ρ => (f ρ).bind fun as => match as with
  | [d, e] => (xy d).bind fun xs => (xy e).bind fun ys => if xs.length ≤ ys.length then some (V2 xs ys) else none
  | _ => none
theorem zfE {K : PySem.W.Frag} {F H : Hp} {d : D} {v : V} {ds : List D} (s : yP F H) (h : At F d v) (e : xy d = some ds) : ∃ b p xs, v = .ref p ∧ (∀ {F' H' : Hp}, yP F F' → yP F' H' → Sq b K H' p xs) ∧ AtL F ds xs := by
  cases d <;> cases e
  · obtain ⟨p, xs, rfl, hx, al⟩ := h.tup_inv
    exact ⟨false, p, xs, rfl, fun s1 s2 => SqT.of (s2 _ _ (s1 _ _ hx)), al⟩
  · obtain ⟨p, xs, rfl, hx, al⟩ := h.lst_inv
    exact ⟨true, p, xs, rfl, fun s1 s2 => SqL.of (s2 _ _ (s1 _ _ hx)), al⟩
theorem zfJ {es : List Expr} {k : Nat} {tp p : Pos} {f : Ev → Option (List D)} (hg : Gl X "zip") (hm : X.mg "zip" = none) (ha : AD X [a, b] f)
    (hs : starEach [a, b] X.env = [(false, eval a X.env), (false, eval b X.env)] := by rfl) (hs2 : starEach [b] X.env = [(false, eval b X.env)] := by rfl) : ID X (.Tuple es k tp) (.Call (.Name "zip" p) [a, b] [] pos) (wQ f) := by
  obtain ⟨t, pa, r⟩ := ha
  refine ⟨_, zgh hg hm zdj pa hs hs2, fun σ ρ F H ds R s va e q => ?_⟩
  obtain ⟨as, e1, e2⟩ := Option.bind_eq_some_iff.mp e
  refine r σ ρ F H as _ s va e1 fun F1 H1 v g1 a1 => ?_
  split at e2
  · obtain ⟨x, r', rfl, ax, ar⟩ := a1.cons_inv
    obtain ⟨y, r', rfl, ay, ar⟩ := ar.cons_inv
    cases ar.nil_inv
    obtain ⟨xs, e3, e2'⟩ := Option.bind_eq_some_iff.mp e2
    obtain ⟨ys, e4, e2''⟩ := Option.bind_eq_some_iff.mp e2'
    clear e2 e2' e
    split at e2'' <;> cases e2''
    rename_i hle
    obtain ⟨b1, p1, us, rfl, sq1, al⟩ := zfE (K := X.K) g1.fh ax e3
    obtain ⟨b2, p2, ws, rfl, sq2, bl⟩ := zfE (K := X.K) g1.fh ay e4
    refine ⟨b1, b2, p1, p2, us, ws, rfl, sq1 (yP.refl _) g1.fh, sq2 (yP.refl _) g1.fh, q F1 H1 _ g1 fun i F2 H2 s1 s2 => ?_⟩
    have q1 := sq1 s1 s2
    have q2 := sq2 s1 s2
    refine ⟨fun hl => ⟨us, q1, by rw [hl, Zi _ _ hle, al.length]⟩, fun d hd => ?_⟩
    rw [VQ] at hd
    cases h1 : xs[i]? with
    | none => rw [h1] at hd; cases hd
    | some x =>
      cases h2 : ys[i]? with
      | none => rw [h1, h2] at hd; cases hd
      | some y =>
        rw [h1, h2] at hd
        cases hd
        obtain ⟨u, hu, au⟩ := al.get h1
        obtain ⟨u2, hu2, au2⟩ := bl.get h2
        refine ⟨⟨us, ws, u, u2, q1, q2, hu, hu2⟩, fun z H3 hz => ?_⟩
        obtain ⟨T, x', y', rfl, hT, rfl, hx', hy'⟩ := hz
        have e5 := hx' us q1
        have e6 := hy' ws q2
        rw [hu] at e5
        rw [hu2] at e6
        cases e5
        cases e6
        have g3 := Gr.alloc s2 hT (.tup [u, u2])
        exact ⟨_, g3, .tup zo (.cons (au.mono (s1.trans g3.ff)) (.cons (au2.mono (s1.trans g3.ff)) .nil))⟩
  · cases e2
noncomputable def xP (g : List D → Option (List D)) (f : Ev → Option (List D)) (b : D → SE → Option SE) (h : SE → Ctl) : SE → Ctl := fun ρ => match (f (visG ρ)).bind g with
  | some ds => Vy b h ds ρ
  | none => .no
theorem V0 {p pos' : Pos} {body : List Stmt} {f : Ev → Option (List D)} {b' : D → SE → Option SE} {g : SE → Ctl} (hp : PassesOwn (model X.prog X.w) X.A X.env X.xe) (hc : X.calm = true) (hgl : Gl X "range") (hm : X.mg "range" = none) (ha : AD X [a] f) (hg : BD X tg b') (hb : SDs X body g)
    (hs0 : starEach [a] X.env = [(false, eval a X.env)] := by rfl) (hs : ∀ x, foldedSetIterable (.Call (.Name "range" p) [a] [] pos) X.env x = pure x := by intro _; rfl) : SD X (.For tg (.Call (.Name "range" p) [a] [] pos) body [] pos') (xP vX f b' g) := by
  obtain ⟨t, pa, r⟩ := ha
  obtain ⟨tg', pg, rg⟩ := hg
  obtain ⟨tb, pb, rb⟩ := hb
  refine ⟨_, VP hp hc (WE hgl hm pa hs0) pg pb hs, fun Fb Hb F H ρ σ E rl k => ?_⟩
  unfold xP at k
  cases h : (f (visG ρ)).bind vX with
  | none => rw [h] at k; exact k.elim
  | some ds =>
    rw [h] at k
    obtain ⟨as, e1, e2⟩ := Option.bind_eq_some_iff.mp h
    refine r σ _ _ H as _ rl.gh rl.visG e1 fun F1 H1 vs g1 a1 => ?_
    have rl2 := rl.grow (rl.back g1).1
    unfold vX at e2
    split at e2
    · split at e2 <;> cases e2
      rename_i hc
      obtain ⟨x, r', rfl, ax, ar⟩ := a1.cons_inv
      cases ar.nil_inv
      exact ⟨_, by rw [ax.int_inv], (yr.mp hc).1, (yr.mp hc).2, zaW (VT 0 _) rg rb rl2 k⟩
    · cases e2
theorem zcL {p pos' : Pos} {body : List Stmt} {f : Ev → Option (List D)} {b' : D → SE → Option SE} {g : SE → Ctl} (hp : PassesOwn (model X.prog X.w) X.A X.env X.xe) (hc : X.calm = true) (hgl : Gl X "range") (hm : X.mg "range" = none) (ha : AD X [a, b] f) (hg : BD X tg b') (hb : SDs X body g)
    (hs0 : starEach [a, b] X.env = [(false, eval a X.env), (false, eval b X.env)] := by rfl) (hs2 : starEach [b] X.env = [(false, eval b X.env)] := by rfl) (hs : ∀ x, foldedSetIterable (.Call (.Name "range" p) [a, b] [] pos) X.env x = pure x := by intro _; rfl) : SD X (.For tg (.Call (.Name "range" p) [a, b] [] pos) body [] pos') (xP v5 f b' g) := by
  obtain ⟨t, pa, r⟩ := ha
  obtain ⟨tg', pg, rg⟩ := hg
  obtain ⟨tb, pb, rb⟩ := hb
  refine ⟨_, VP hp hc (Wr hgl hm pa hs0 hs2) pg pb hs, fun Fb Hb F H ρ σ E rl k => ?_⟩
  unfold xP at k
  cases h : (f (visG ρ)).bind v5 with
  | none => rw [h] at k; exact k.elim
  | some ds =>
    rw [h] at k
    obtain ⟨as, e1, e2⟩ := Option.bind_eq_some_iff.mp h
    refine r σ _ _ H as _ rl.gh rl.visG e1 fun F1 H1 vs g1 a1 => ?_
    have rl2 := rl.grow (rl.back g1).1
    unfold v5 at e2
    split at e2
    · split at e2 <;> cases e2
      rename_i hc
      obtain ⟨x, r', rfl, ax, ar⟩ := a1.cons_inv
      obtain ⟨y, r', rfl, ay, ar⟩ := ar.cons_inv
      cases ar.nil_inv
      exact ⟨_, _, by rw [ax.int_inv, ay.int_inv], ⟨(yr.mp hc.1).1, (yr.mp hc.1).2, (yr.mp hc.2).1, (yr.mp hc.2).2⟩, zaW (VT _ _) rg rb rl2 k⟩
    · cases e2
end
theorem zex {P : Program} {w : World} {K : PySem.W.Frag} {mg : Str → Option Value} {base : Heap} {f : Addr} {fd : FuncData} {ps : List Str} {k m : Nat} : y0 P w K mg base CX0 k f fd ps (spD m fun _ => none) := by
  refine ⟨fun vs H Q E h => ?_, fun A outer s H args us vs Q E _ _ _ _ h => ?_⟩
  · obtain ⟨_, _, _, _, _, _, e, _⟩ := h
    cases e
  · obtain ⟨_, _, _, _, _, _, e, _⟩ := h
    cases e
noncomputable def zfS (n : Nat) (g : (List D → Option D) → SE → Ctl) : Nat → List D → Option D
  | 0 => fun _ => none
  | k + 1 => fnD n (g (zfS n g k))
theorem zgd {P : Program} {w : World} {K : PySem.W.Frag} {mg : Str → Option Value} {base : Heap} {x qual : Str} {st : Stmt} {f : Addr} {fd : FuncData} {N ps : List Str} {k0 : Nat} {g : (List D → Option D) → SE → Ctl} (Fu : Fun K x qual st f fd) (S : zB N ps (zd st))
    (hb : ∀ (k : Nat) (r : List D → Option D), y0 P w K mg base CX0 (k0 + k) f fd ps (spD ps.length r) → ∀ (cdv : Value) (A : Around) (outer : List Env) (s : Shared) (H : Hp) (E : XK), YI (k0 + k) (A.deeper (PyProof.Rows.envOfC qual (zd st) s.heap.objs.size f cdv)) → SDs (zcp CX0 P w K mg base N qual (zd st) f cdv A outer s H E).nox (zx st) (g r)) :
    ∀ n, y0 P w K mg base CX0 (k0 + n) f fd ps (spD ps.length (zfS N.length g n)) := by
  intro n
  induction n with
  | zero => exact zex
  | succ n ih => exact xA Fu S fun cdv A outer s H E hr => hb n _ ih cdv A outer s H E hr
noncomputable def zbX (K : PySem.W.Frag) : Sp := fun vs H Q _ => ∃ (a : Addr) (ns : List Int), vs = [.ref a] ∧ SqL K H a (ns.map V.int) ∧ ns.length ≤ 63 ∧ ∀ H', Q (.bl true) H'
end Dl
namespace Dl
open PySem L2
theorem zf1 {P : Program} {w : World} {K : PySem.W.Frag} {mg : Str → Option Value} {base : Heap} {f : Addr} {fd : FuncData} {ps : List Str} {k : Nat} {p : List D → Option D} (F : y0 P w K mg base CX0 k f fd ps (@spD ⟨K⟩ 1 p)) (h : ∀ ns : List Int, ns.length ≤ 63 → p [.scr ns] = some (.bl true)) :
    y0 P w K mg base CX0 k f fd ps (zbX K) := by
  letI : KK := ⟨K⟩
  refine F.imp fun vs H Q E hs => ?_
  obtain ⟨a, ns, rfl, hq, hl, q⟩ := hs
  refine ⟨[.scr ns], .bl true, H, rfl, yP.refl _, .cons ?_ .nil, h ns hl, fun F' H' v _ av => ?_⟩
  · unfold At
    exact ⟨a, rfl, hq⟩
  · rw [av.bl_inv]
    exact q H'
structure Def (K : PySem.W.Frag) (mg : Str → Option Value) (x : Str) (st : Stmt) (ps : List Str) (f : Addr) (fd : FuncData) : Prop where
  fn : Fun K x x st f fd
  bd : X5 K fd ps []
  at_ : mg x = some (.ref f)
theorem Def.kp {K : PySem.W.Frag} {mg : Str → Option Value} {x : Str} {st : Stmt} {ps : List Str} {f : Addr} {fd : FuncData} (d : Def K mg x st ps f fd) : PySem.W.keepIn K (.ref f) = true := d.fn.kp
end Dl
namespace Dl
open PySem L2
inductive Ctl.w : Ctl → (SE → Prop) → (SE → Prop) → (SE → Prop) → (D → Prop) → Prop where
  | nx {ρ : SE} {n b k : SE → Prop} {r : D → Prop} : n ρ → Ctl.w (.nx ρ) n b k r
  | bk {ρ : SE} {n b k : SE → Prop} {r : D → Prop} : b ρ → Ctl.w (.bk ρ) n b k r
  | ct {ρ : SE} {n b k : SE → Prop} {r : D → Prop} : k ρ → Ctl.w (.ct ρ) n b k r
  | rt {d : D} {n b k : SE → Prop} {r : D → Prop} : r d → Ctl.w (.rt d) n b k r
section
variable {ρ : SE} {d : D} {n b k : SE → Prop} {r : D → Prop}
theorem Ctl.w.nxi (h : Ctl.w (.nx ρ) n b k r) : n ρ := by cases h; assumption
theorem Ctl.w.bki (h : Ctl.w (.bk ρ) n b k r) : b ρ := by cases h; assumption
theorem Ctl.w.cti (h : Ctl.w (.ct ρ) n b k r) : k ρ := by cases h; assumption
theorem Ctl.w.rti (h : Ctl.w (.rt d) n b k r) : r d := by cases h; assumption
theorem Ctl.w.noi (h : Ctl.w .no n b k r) : False := by cases h
end
noncomputable abbrev noP : SE → Prop := fun _ => False
section
variable {g h : SE → Ctl} {ρ ρ' : SE} {n b k : SE → Prop} {r : D → Prop}
theorem wd (e : (g ρ).w (fun ρ' => (h ρ').w n b k r) b k r) : (zM g h ρ).w n b k r := by
  unfold zM
  cases hg : g ρ with
  | nx ρ' => rw [hg] at e; exact e.nxi
  | bk ρ' => rw [hg] at e; exact .bk e.bki
  | ct ρ' => rw [hg] at e; exact .ct e.cti
  | rt d => rw [hg] at e; exact .rt e.rti
  | no => rw [hg] at e; exact e.noi.elim
theorem zH (e : g ρ = .nx ρ') (q : (h ρ').w n b k r) : (zM g h ρ).w n b k r := wd (by rw [e]; exact .nx q)
theorem Yj (e : g ρ = .nx ρ') (q : n ρ') : (g ρ).w n b k r := by rw [e]; exact .nx q
theorem WH {d : D} (e : g ρ = .rt d) (q : r d) : (g ρ).w n b k r := by rw [e]; exact .rt q
theorem Z0 {t : Ev → Option Bool} {c : Bool} (e : t (visG ρ) = some c) (h1 : c = true → (g ρ).w n b k r) (h2 : c = false → (h ρ).w n b k r) : (sIf t g h ρ).w n b k r := by
  unfold sIf
  rw [e]
  cases c with
  | true => exact h1 rfl
  | false => exact h2 rfl
theorem zfw {i : Nat} (e : zgu ρ i = ρ') (q : (g ρ').w n b k r) : (sFz i g ρ).w n b k r := by
  unfold sFz
  rw [e]
  exact q
theorem zbH {bd : D → SE → Option SE} (I : Nat → SE → Prop) : ∀ (ds : List D) (j : Nat) (ρ : SE), I j ρ →
    (∀ i d ρ, ds[i]? = some d → I (j + i) ρ → ∃ ρ1, bd d ρ = some ρ1 ∧ (g ρ1).w (I (j + i + 1)) n (I (j + i + 1)) r) → (∀ ρ, I (j + ds.length) ρ → n ρ) → (Vy bd g ds ρ).w n b k r
  | [], j, ρ, h0, _, fin => .nx (fin ρ h0)
  | d :: ds, j, ρ, h0, step, fin => by
    obtain ⟨ρ1, e1, e2⟩ := step 0 d ρ rfl h0
    unfold Vy
    rw [e1]
    dsimp only
    have next : ∀ ρ', I (j + 1) ρ' → (Vy bd g ds ρ').w n b k r := fun ρ' h' => zbH I ds (j + 1) ρ' h'
      (fun i d' ρ hd hI => by
        have := step (i + 1) d' ρ (by simpa using hd) (by rw [show j + (i + 1) = j + 1 + i by omega]; exact hI)
        rwa [show j + (i + 1) + 1 = j + 1 + i + 1 by omega] at this)
      (fun ρ hI => fin ρ (by rw [List.length_cons, show j + (ds.length + 1) = j + 1 + ds.length by omega]; exact hI))
    cases hg : g ρ1 with
    | nx ρ' => rw [hg] at e2; exact next ρ' e2.nxi
    | ct ρ' => rw [hg] at e2; exact next ρ' e2.cti
    | bk ρ' => rw [hg] at e2; exact .nx e2.bki
    | rt d' => rw [hg] at e2; exact .rt e2.rti
    | no => rw [hg] at e2; exact e2.noi.elim
theorem XZ {f : Ev → Option (List D)} {bd : D → SE → Option SE} {ds : List D} (I : Nat → SE → Prop) (e : f (visF ρ) = some ds) (h0 : I 0 ρ)
    (step : ∀ i d ρ, ds[i]? = some d → I i ρ → ∃ ρ1, bd d ρ = some ρ1 ∧ (g ρ1).w (I (i + 1)) n (I (i + 1)) r) (fin : ∀ ρ, I ds.length ρ → n ρ) : (vz f bd g ρ).w n b k r := by
  unfold vz
  rw [e]
  exact zbH I ds 0 ρ h0 (fun i d ρ hd hI => by rw [Nat.zero_add] at hI ⊢; exact step i d ρ hd hI) (fun ρ hI => fin ρ (by rw [Nat.zero_add] at hI; exact hI))
theorem zdl {f : Ev → Option (List D)} {bd : D → SE → Option SE} {rg : List D → Option (List D)} {lo : Int} {c : Nat} (I : Nat → SE → Prop) (e : (f (visG ρ)).bind rg = some (Xn lo c)) (h0 : I 0 ρ)
    (step : ∀ (i : Nat) ρ, i < c → I i ρ → ∃ ρ1, bd (.int (lo + i)) ρ = some ρ1 ∧ (g ρ1).w (I (i + 1)) n (I (i + 1)) r) (fin : ∀ ρ, I c ρ → n ρ) : (xP rg f bd g ρ).w n b k r := by
  unfold xP
  rw [e]
  refine zbH I (Xn lo c) 0 ρ h0 (fun i d ρ hd hI => ?_) (fun ρ hI => fin ρ ?_)
  · rw [Nat.zero_add] at hI ⊢
    unfold Xn at hd
    rw [List.getElem?_map] at hd
    by_cases hi : i < c
    · rw [List.getElem?_range hi] at hd
      cases hd
      exact step i ρ hi hI
    · rw [List.getElem?_eq_none (by simpa using hi)] at hd
      cases hd
  · rw [Nat.zero_add] at hI
    rwa [show (Xn lo c).length = c by unfold Xn; simp] at hI
theorem ze5 {n' b' k' : SE → Prop} {r' : D → Prop} {c : Ctl} (q : c.w n b k r) (h1 : ∀ ρ, n ρ → n' ρ) (h2 : ∀ ρ, b ρ → b' ρ) (h3 : ∀ ρ, k ρ → k' ρ) (h4 : ∀ d, r d → r' d) : c.w n' b' k' r' := by
  cases q with
  | nx q => exact .nx (h1 _ q)
  | bk q => exact .bk (h2 _ q)
  | ct q => exact .ct (h3 _ q)
  | rt q => exact .rt (h4 _ q)
end
theorem Vh {m : Nat} {g : SE → Ctl} {ds : List D} {d : D} {ρ : SE} (e : ds.map .v ++ List.replicate (m - ds.length) .no = ρ) (q : (g ρ).w (fun _ => d = .non) noP noP (fun d' => d' = d)) : fnD m g ds = some d := by
  unfold fnD
  rw [e]
  cases hg : g ρ with
  | nx ρ' => rw [hg] at q; rw [show d = .non from q.nxi]
  | rt d' => rw [hg] at q; rw [show d' = d from q.rti]
  | bk _ => rw [hg] at q; exact q.bki.elim
  | ct _ => rw [hg] at q; exact q.cti.elim
  | no => rw [hg] at q; exact q.noi.elim
theorem zb0 {m : Bool} {i : Nat} {f : Ev → Option D} {ρ : SE} {ds : List D} {d : D} (h1 : vEv m f ρ = some d) (h2 : ρ[i]? = some (.o ds)) (h3 : ds.length ≤ 1000) : Y6 m i f ρ = .nx (ρ.set i (.o (ds ++ [d]))) := by
  unfold Y6
  rw [h1, h2]
  show (match (if decide (ds.length < sizeLine) = true then some (ρ.set i (.o (ds ++ [d]))) else none) with | some ρ' => Ctl.nx ρ' | none => Ctl.no) = _
  rw [if_pos (decide_eq_true (Ze h3))]
theorem Zl {b : D → Option (List (Option D))} {t : Ev → Option Bool} {f : Ev → Option D} {ρ : Ev} {α : Type} (c : α → D) (y : α → D) : ∀ (xs : List α), (∀ x ∈ xs, ∃ own, b (c x) = some own ∧ t (own ++ ρ) = some true ∧ f (own ++ ρ) = some (y x)) → lcD b t f ρ (xs.map c) = some (xs.map y)
  | [], _ => rfl
  | x :: xs, h => by
    obtain ⟨own, h1, h2, h3⟩ := h x List.mem_cons_self
    show lcD b t f ρ (c x :: xs.map c) = _
    unfold lcD
    rw [h1]
    simp only [Option.bind_some, h2, if_true, h3, Zl c y xs fun z hz => h z (List.mem_cons_of_mem _ hz)]
    rfl
mutual
noncomputable def noS : D → Bool
  | .tup ds => zd5 ds
  | .lst ds => zd5 ds
  | .scr _ => false
  | _ => true
noncomputable def zd5 : List D → Bool
  | [] => true
  | d :: ds => noS d && zd5 ds
end
theorem zae : ∀ {ds : List D} {i : Nat} {d : D}, zd5 ds = true → ds[i]? = some d → noS d = true
  | [], _, _, _, h => by simp at h
  | d :: ds, i, e, h, he => by
    unfold zd5 at h
    rw [Bool.and_eq_true] at h
    cases i with
    | zero => simp at he; subst he; exact h.1
    | succ i => exact zae h.2 (by simpa using he)
theorem w8 {n : Nat} (h : n ≤ 1000) : lim n = true := by
  unfold lim
  exact decide_eq_true (Nat.le_of_lt (Ze h))
theorem ZE (lo : Int) (n : Nat) : (Xn lo n).length = n := by unfold Xn; simp
end Dl
namespace Dl
open PySem L2
noncomputable abbrev Pr := Int × Int
noncomputable def prD (t : Pr) : D := .tup [.int t.1, .int t.2]
noncomputable def zgw : D → Option Pr
  | .tup [.int a, .int b] => some (a, b)
  | _ => none
noncomputable def zaO : List D → Option (List Pr)
  | [] => some []
  | d :: ds => (zgw d).bind fun t => (zaO ds).map (t :: ·)
theorem zdV {d : D} {t : Pr} (h : zgw d = some t) : d = prD t := by
  unfold zgw at h
  split at h
  · cases h; rfl
  · cases h
theorem VO : ∀ {ds : List D} {ts : List Pr}, zaO ds = some ts → ds = ts.map prD
  | [], ts, h => by cases h; rfl
  | d :: ds, ts, h => by
    unfold zaO at h
    obtain ⟨t, h1, h2⟩ := Option.bind_eq_some_iff.mp h
    obtain ⟨us, h3, rfl⟩ := Option.map_eq_some_iff.mp h2
    rw [zdV h1, VO h3]
    rfl
theorem za5 (ts : List Pr) : zaO (ts.map prD) = some ts := by
  induction ts with
  | nil => rfl
  | cons t ts ih =>
    show (zgw (prD t)).bind (fun u => (zaO (ts.map prD)).map (u :: ·)) = _
    rw [ih]
    rfl
noncomputable def zgk (a b : Pr) : Bool := !OwnSort.bltP b a
noncomputable def zan (ts : List Pr) : List Pr := ts.mergeSort zgk
noncomputable def leI (a b : Int) : Bool := decide (a ≤ b)
noncomputable def zcG (ns : List Int) : List Int := ns.mergeSort leI
theorem Xi {a b : Pr} : OwnSort.bltP b a = false ↔ zgk a b = true := by unfold zgk; simp
theorem Y7 {a b : Pr} : zgk a b = true ↔ a.1 < b.1 ∨ (a.1 = b.1 ∧ a.2 ≤ b.2) := by
  rw [← Xi]
  unfold OwnSort.bltP
  rw [decide_eq_false_iff_not]
  omega
theorem zaw {ts us : List Pr} (p : us.Perm ts) (h : us.Pairwise fun a b => OwnSort.bltP b a = false) : us = zan ts := by
  refine List.Perm.eq_of_pairwise (le := fun a b => zgk a b = true) (fun a b _ _ h1 h2 => ?_) (h.imp fun x => Xi.mp x) ?_ (p.trans (List.mergeSort_perm _ _).symm)
  · rw [Y7] at h1 h2
    exact Prod.ext (by omega) (by omega)
  · exact List.pairwise_mergeSort (fun a b c h1 h2 => by rw [Y7] at *; omega) (fun a b => by rw [Bool.or_eq_true, Y7, Y7]; omega) _
theorem zaz {ts us : List Int} (p : us.Perm ts) (h : us.Pairwise (· ≤ ·)) : us = zcG ts := by
  refine List.Perm.eq_of_pairwise (le := fun a b => leI a b = true) (fun a b _ _ h1 h2 => ?_) (h.imp fun x => decide_eq_true x) ?_ (p.trans (List.mergeSort_perm _ _).symm)
  · unfold leI at h1 h2
    rw [decide_eq_true_eq] at h1 h2
    omega
  · exact List.pairwise_mergeSort (fun a b c h1 h2 => by unfold leI at *; rw [decide_eq_true_eq] at *; omega) (fun a b => by unfold leI; rw [Bool.or_eq_true, decide_eq_true_eq, decide_eq_true_eq]; omega) _
noncomputable def zaN : List D → Option (List D)
  | [.lst ds] => if ds.length < 64 then match zaO ds with
      | some ts => some ((zan ts).map prD)
      | none => match zcR ds with
        | some ns => some ((zcG ns).map .int)
        | none => none
    else none
  | _ => none
variable [KK]
section
variable {X : Cx} {e : Expr} {pos : Pos}
theorem At.pr_inv {F : Hp} {t : Pr} {v : V} (h : At F (prD t) v) : ∃ a, v = .ref a ∧ F a = some (.tup [.int t.1, .int t.2]) := by
  obtain ⟨a, xs, rfl, hx, al⟩ := h.tup_inv
  obtain ⟨x, r, rfl, a1, al⟩ := al.cons_inv
  obtain ⟨y, r, rfl, a2, al⟩ := al.cons_inv
  cases al.nil_inv
  cases a1.int_inv
  cases a2.int_inv
  exact ⟨a, rfl, hx⟩
theorem Wz (hc : X.calm = true) : vY X (.builtin "sorted") (fun xs H Q => ∃ F p ys ds out, xs = [.ref p] ∧ yP F H ∧ H p = some (.lst ys) ∧ AtL F ds ys ∧ zaN [.lst ds] = some out ∧ ∀ l zs, H l = none → AtL F out zs → Q (.ref l) (upd H l (.lst zs))) := by
  intro pins s σ H xs us Q I r h
  obtain ⟨F, p, ys, ds, out, rfl, sm, hp, al, hs, q⟩ := h
  obtain ⟨u, rfl, ru⟩ := Xx r
  cases ru
  obtain ⟨its, rv, pl, hz⟩ := I.list (SqL.of hp)
  have hlen : its.length = ds.length := by rw [← rv.length, al.length]
  unfold zaN at hs
  dsimp only at hs
  split at hs <;> try cases hs
  rename_i h64
  have fin : ∀ (zs : List V) (ws : List Value), zs.length < 64 → yg zs ws → AtL F out zs → EP X pins σ Q (.ref (s.heap.objs.size + 1)) { s with heap := PyProof.Rows.sortedAll s.heap its ws.toArray } := fun zs ws hl rz az => by
    have hn : H (s.heap.objs.size + 1) = none := I.hok.fresh (Nat.le_succ _)
    obtain ⟨ep, he⟩ := PyProof.Rows.sortedAll_at s.heap its ws.toArray
    refine ⟨.ref (s.heap.objs.size + 1), upd H (s.heap.objs.size + 1) (.lst zs), I.laid (t' := s.toks) (fun b o z => PyProof.Rows.sortedAll_old z) (Nat.le_succ _) ?_, rfl, q _ zs hn az⟩
    exact ⟨Nat.le_of_lt (Ze (by omega)), ws, ep, rz, he⟩
  split at hs
  · rename_i ts hts
    cases hs
    have eds := VO hts
    subst eds
    have look : ∀ {v : Value}, v ∈ its → ∃ a t, v = .ref a ∧ t ∈ ts ∧ F a = some (.tup [.int t.1, .int t.2]) ∧ OwnSort.TP s.heap v t := fun {v} hv => by
      obtain ⟨j, hj, rfl⟩ := List.getElem_of_mem hv
      have hj2 : j < ts.length := by rw [List.length_map] at hlen; omega
      obtain ⟨x, hx, ax⟩ := al.get (i := j) (d := prD ts[j]) (by rw [List.getElem?_map]; simp [hj2])
      obtain ⟨a, rfl, ha⟩ := ax.pr_inv
      obtain ⟨v, hv, rvv⟩ := rv.get hx
      have e1 : its[j]? = some its[j] := by simp [hj]
      rw [hv] at e1
      cases e1
      have e2 : its[j] = .ref a := rvv
      refine ⟨a, ts[j], e2, List.getElem_mem hj2, ha, ?_⟩
      obtain ⟨us, ru, ⟨o, ho, hcl, n, hd⟩, _⟩ := I.tuple (SqT.of (sm _ _ ha))
      obtain ⟨u1, u2, rfl, r1, r2⟩ := zbn ru
      obtain ⟨t1, rfl⟩ := r1
      obtain ⟨t2, rfl⟩ := r2
      exact ⟨a, o, n, t1, t2, e2, ho, hcl, hd⟩
    refine OwnSort.own_sorted pl.isList (fun v hv => let ⟨a, t, _, _, _, ht⟩ := look hv; ⟨t, ht⟩) (by omega) fun o2 pm ri => ?_
    obtain ⟨us, l1, l2, l3⟩ := ri
    have hlo : o2.toList.length = ts.length := by rw [pm.length_eq, hlen, List.length_map]
    -- the values' addresses
    have zsOf : ∀ (ws : List Value) (vs : List Pr), ws.length = vs.length → (∀ w ∈ ws, w ∈ its) → (∀ (i : Nat) v t, ws[i]? = some v → vs[i]? = some t → OwnSort.TP s.heap v t) → ∃ zs : List V, yg zs ws ∧ AtL F (vs.map prD) zs := by
      intro ws
      induction ws with
      | nil =>
        intro vs hl _ _
        cases vs with
        | nil => exact ⟨[], .nil, .nil⟩
        | cons _ _ => simp at hl
      | cons w ws ih =>
        intro vs hl hm ht
        cases vs with
        | nil => simp at hl
        | cons t vs =>
          obtain ⟨zs, z1, z2⟩ := ih vs (by simpa using hl) (fun w' hw' => hm w' (List.mem_cons_of_mem _ hw')) (fun i v t h1 h2 => ht (i + 1) v t (by simpa using h1) (by simpa using h2))
          obtain ⟨a, t', rfl, _, ha, htp⟩ := look (hm w List.mem_cons_self)
          have et : t' = t := htp.uniq (ht 0 _ t rfl rfl)
          subst et
          exact ⟨.ref a :: zs, .cons rfl z1, .cons (.tup ha (.cons .int (.cons .int .nil))) z2⟩
    obtain ⟨zs, z1, z2⟩ := zsOf o2.toList us l1 (fun w hw => pm.mem_iff.mp hw) l2
    have keysPerm : us.Perm ts := by
      -- by the keys of the values
      have kv : ∀ (ws : List Value) (vs : List Pr), ws.length = vs.length → (∀ (i : Nat) v t, ws[i]? = some v → vs[i]? = some t → OwnSort.TP s.heap v t) → vs = ws.map fun v => (OwnSort.keyP s.heap v).getD (0, 0) := by
        intro ws
        induction ws with
        | nil => intro vs hl _; cases vs with
          | nil => rfl
          | cons _ _ => simp at hl
        | cons w ws ih =>
          intro vs hl ht
          cases vs with
          | nil => simp at hl
          | cons t vs =>
            rw [List.map_cons, OwnSort.keyP_of (ht 0 w t rfl rfl), ← ih vs (by simpa using hl) fun i v t h1 h2 => ht (i + 1) v t (by simpa using h1) (by simpa using h2)]
            rfl
      rw [kv _ _ l1 l2, kv its ts (by rw [hlen, List.length_map]) fun i v t h1 h2 => ?_]
      · exact pm.map _
      · obtain ⟨x, hx, ax⟩ := al.get (i := i) (d := prD t) (by rw [List.getElem?_map, h2]; rfl)
        obtain ⟨a, rfl, ha⟩ := ax.pr_inv
        obtain ⟨v', hv', rvv⟩ := rv.get hx
        rw [h1] at hv'
        cases hv'
        obtain ⟨us', ru', ⟨o, ho, hcl, n, hd⟩, _⟩ := I.tuple (SqT.of (sm _ _ ha))
        obtain ⟨u1, u2, rfl, r1, r2⟩ := zbn ru'
        obtain ⟨t1, rfl⟩ := r1
        obtain ⟨t2, rfl⟩ := r2
        exact ⟨a, o, n, t1, t2, rvv, ho, hcl, hd⟩
    have e3 := zaw keysPerm l3
    rw [e3] at z2
    have := fin zs o2.toList (by rw [z1.length]; rw [List.length_map] at h64; omega) z1 z2
    simpa using this
  · split at hs <;> try cases hs
    rename_i ns hns
    have eds := Zy hns
    subst eds
    have hI : PyProof.Rows.IntsAre its ns := zaM (by rw [← al.of_ints]; exact rv)
    refine PyProof.Rows.sorted_ints pl.isList hI (by omega) fun o2 ns' h1 h2 h3 => ?_
    have e3 := zaz h2 h3
    subst e3
    have z1 : yg ((zcG ns).map V.int) o2.toList := Wj h1
    have := fin ((zcG ns).map V.int) o2.toList (by rw [List.length_map, h2.length_eq]; rw [List.length_map] at h64; omega) z1 (.ints _)
    simpa using this
theorem zb9 {p : Pos} {f : Ev → Option (List D)} (hc : X.calm = true) (hgl : Gl X "sorted") (hm : X.mg "sorted" = none) (ha : AD X [e] f)
    (he : starEach [e] X.env = (false, eval e X.env) :: starEach [] X.env := by rfl) (hpl : (backTo pos (starEach [] X.env)).any (·.1) = false := by rfl) : FL X (.Call (.Name "sorted" p) [e] [] pos) (fFn zaN f) := by
  obtain ⟨t, pa, ra⟩ := ha
  refine ⟨_, Xr (Wz hc) hgl hm zbY pa (by decide) (by decide) he hpl, fun σ ρ F H z Q s va e q => ?_⟩
  obtain ⟨ds, e1, e2⟩ := Option.bind_eq_some_iff.mp e
  refine ra σ ρ F H ds _ s va e1 fun F1 H1 vs g1 a1 => ?_
  have e2' := e2
  unfold zaN at e2'
  split at e2'
  · obtain ⟨x, r, rfl, ax, ar⟩ := a1.cons_inv
    cases ar.nil_inv
    obtain ⟨p, ys, rfl, hx, bl⟩ := ax.lst_inv
    exact ⟨F1, p, ys, _, z, rfl, g1.fh, g1.fh _ _ hx, bl, e2, fun l zs hl az => q _ _ _ _ (g1.trans (Gr.hide g1.fh hl _)) (Wc g1 hl) (g1.fh.free hl) zo az⟩
  · cases e2'
end
end Dl
namespace Dl
open PySem L2
variable [KK]
end Dl
namespace L2
open PySem PySem.Spec PyProof.Rows
section
variable {X : Cx}
end
end L2
namespace Dl
open PySem L2
section
variable [KK] {X : Cx} {a e k : Expr} {pos : Pos}
end
end Dl
namespace Dl
open PySem L2
end Dl
namespace L2
open PySem PySem.Spec PyProof.Rows
section
variable {X : Cx} {tg : Expr}
end
end L2
namespace Dl
open PySem L2
section
variable [KK] {X : Cx} {a b c e : Expr} {tg : Expr} {pos : Pos}
end
end Dl
namespace Dl
open PySem L2
variable [KK]
noncomputable def zgy (m : Nat) (p : List D → Option (List D)) : Sp := fun vs H Q _ => ∃ ds es F, ds.length = m ∧ yP F H ∧ AtL F ds vs ∧ p ds = some es ∧ ∀ F' H' q xs, Gr F H F' H' → H q = none → F' q = none → H' q = some (.lst xs) → AtL F' es xs → Q (.ref q) H'
noncomputable def SDO (X : Cx) (sts : List Stmt) (g : SE → Ctl) (i : Nat) : Prop := ∃ t, PSs X sts t ∧ ∀ (Fb Hb F H : Hp) (ρ : SE) (σ : St) (E : zaT), Rl Fb Hb F H ρ σ → ∀ (ρ' : SE) (es : List D), g ρ = .nx ρ' → ρ'[i]? = some (.o es) →
  (∀ F' H' q xs, Gr Fb Hb F' H' → Hb q = none → F' q = none → H' q = some (.lst xs) → AtL F' es xs → E.rt (.ref q) H') → t E σ H
section
variable {X : Cx} {st : Stmt} {sts : List Stmt} {a e : Expr} {pos : Pos}
theorem zeb {i : Nat} (h : PE X e (zdQ i)) : SDO X [.Return (some e) pos] zG i := by
  refine ⟨_, Vf (zac h), fun Fb Hb F H ρ σ E rl ρ' es hg hi k => ?_⟩
  cases hg
  obtain ⟨p, xs, f1, f2, f3, f4, f5⟩ := rl.owns i es hi
  exact ⟨_, f1, k F H p xs rl.gr f2 f3 f4 f5⟩
theorem zad {g h : SE → Ctl} {i : Nat} (h1 : SD X st g) (h2 : SDO X sts h i) : SDO X (st :: sts) (zM g h) i := by
  obtain ⟨t, p, r⟩ := h1
  obtain ⟨u, p2, r2⟩ := h2
  refine ⟨_, XR p p2, fun Fb Hb F H ρ σ E rl ρ' es hg hi k => ?_⟩
  refine r Fb Hb F H ρ σ { E with nx := u E } rl ?_
  unfold zM at hg
  cases e : g ρ with
  | nx ρ1 =>
    rw [e] at hg
    exact fun F' H' σ' rl' => r2 Fb Hb F' H' ρ1 σ' E rl' ρ' es hg hi k
  | rt d => rw [e] at hg; cases hg
  | bk d => rw [e] at hg; cases hg
  | ct d => rw [e] at hg; cases hg
  | no => rw [e] at hg; cases hg
end
noncomputable def zf9 (n : Nat) (g : SE → Ctl) (i : Nat) (ds : List D) : Option (List D) := match g (ds.map .v ++ List.replicate (n - ds.length) .no) with
  | .nx ρ => match ρ[i]? with
    | some (.o es) => some es
    | _ => none
  | _ => none
theorem zfD {P : Program} {w : World} {K : PySem.W.Frag} {mg : Str → Option Value} {base : Heap} {x qual : Str} {st : Stmt} {f : Addr} {fd : FuncData} {N ps : List Str} {k : Nat} {g : SE → Ctl} {i : Nat} (Fu : Fun K x qual st f fd) (S : zB N ps (zd st))
    (hb : ∀ (cdv : Value) (A : Around) (outer : List Env) (s : Shared) (H : Hp) (E : XK), YI k (A.deeper (PyProof.Rows.envOfC qual (zd st) s.heap.objs.size f cdv)) → SDO (zcp CX0 P w K mg base N qual (zd st) f cdv A outer s H E).nox (zx st) g i) :
    y0 P w K mg base CX0 (k + 1) f fd ps (zgy ps.length (zf9 N.length g i)) := by
  refine Fu.ok S (fun vs H Q E h => ?_) fun cdv A outer s H vs Q E hr h => ?_
  · obtain ⟨ds, d, F, hl, _, a, _⟩ := h
    rw [a.length]; exact hl
  · obtain ⟨ds, es, F, hl, sm, a, e, q⟩ := h
    obtain ⟨t, p, r⟩ := hb cdv A outer s H E hr
    unfold zf9 at e
    cases hg : g (ds.map .v ++ List.replicate (N.length - ds.length) .no) with
    | nx ρ =>
      rw [hg] at e
      dsimp only at e
      cases hi : ρ[i]? with
      | none => rw [hi] at e; cases e
      | some sl =>
        rw [hi] at e
        cases sl with
        | no => cases e
        | v _ => cases e
        | m _ _ _ => cases e
        | o es' =>
          cases e
          exact ⟨t, p, r F H F H _ _ _ (X2 sm a) ρ es hg hi fun F' H' q' xs g h0 hF hH hx => q F' H' q' xs g h0 hF hH hx⟩
    | rt d' => rw [hg] at e; cases e
    | bk ρ => rw [hg] at e; cases e
    | ct ρ => rw [hg] at e; cases e
    | no => rw [hg] at e; cases e
theorem zfh {P : Program} {w : World} {K : PySem.W.Frag} {mg : Str → Option Value} {base : Heap} {f : Addr} {fd : FuncData} {ps : List Str} {k m : Nat} {p : List D → Option (List D)} (F : y0 P w K mg base CX0 k f fd ps (zgy m p)) : y0 P w K mg base CX0 k f fd ps (spD m fun ds => (p ds).map .lst) :=
  F.imp fun vs H Q E ⟨ds, d, F', h1, h2, h3, h4, h5⟩ => by
    obtain ⟨es, e1, rfl⟩ := Option.map_eq_some_iff.mp h4
    exact ⟨ds, es, F', h1, h2, h3, e1, fun F2 H2 q xs g h0 hF hH hx => h5 _ _ _ (g.show h0 hF hH) (At.lst zo (hx.mono (fun b u e => by rw [zz (zm e hF)]; exact e)))⟩
noncomputable def WF (m : Nat) (p : List D → Option (List D)) (f : Ev → Option (List D)) : Ev → Option (List D) := fun ρ => (f ρ).bind fun ds => if ds.length = m then p ds else none
theorem zei {X : Cx} {x : Str} {k m : Nat} {f : Addr} {fd : FuncData} {ps : List Str} {p : List D → Option (List D)} {e : Expr} {es : List Expr} {pp pos : Pos} {fa : Ev → Option (List D)} (F : y0 X.prog X.w X.K X.mg X.base CX0 k f fd ps (zgy m p)) (hr : YI k X.A) (hg : Gl X x) (hm : X.mg x = some (.ref f)) (hk : PySem.W.keepIn X.K (.ref f) = true) (hb : X5 X.K fd ps [])
    (ha : AD X (e :: es) fa) (hdb : (x == ("__debug__" : Str)) = false := by decide) (he : starEach (e :: es) X.env = (false, eval e X.env) :: starEach es X.env := by rfl) (hpl : (backTo pos (starEach es X.env)).any (·.1) = false := by rfl) :
    FL X (.Call (.Name x pp) (e :: es) [] pos) (WF m p fa) := by
  obtain ⟨t, pa, r⟩ := ha
  refine ⟨_, Vw F hr hg hm hk hb .nil zdP pa hdb he hpl, fun σ ρ F0 H d Q s va e q => ?_⟩
  obtain ⟨ds, e1, e2⟩ := Option.bind_eq_some_iff.mp e
  split at e2 <;> try cases e2
  rename_i hl
  refine r σ ρ F0 H ds _ s va e1 fun F1 H1 vs g1 a1 => ?_
  refine ⟨ds, d, F1, hl, g1.fh, by rw [List.append_nil]; exact a1, e2, fun F' H' q' xs g h0 hF hH hx => q F' H' q' xs (g1.trans g) (Wc g1 h0) hF hH hx⟩
omit [KK] in
theorem zgq {m : Nat} {g : SE → Ctl} {i : Nat} {ds es : List D} {ρ : SE} (e : ds.map .v ++ List.replicate (m - ds.length) .no = ρ) (q : (g ρ).w (fun ρ' => ρ'[i]? = some (.o es)) noP noP (fun _ => False)) : zf9 m g i ds = some es := by
  unfold zf9
  rw [e]
  cases hg : g ρ with
  | nx ρ' => rw [hg] at q; dsimp only; rw [q.nxi]
  | bk ρ' => rw [hg] at q; exact q.bki.elim
  | ct ρ' => rw [hg] at q; exact q.cti.elim
  | rt d => rw [hg] at q; exact q.rti.elim
  | no => rw [hg] at q; exact q.noi.elim
end Dl
namespace Dl
open PySem L2
variable [KK]
section
variable {X : Cx} {a b : Expr} {pos : Pos}
end
end Dl
namespace Dl
open PySem L2
variable [KK]
section
variable {X : Cx} {a e : Expr}
end
end Dl
namespace Dl
open PySem L2
section
variable [KK]
section
variable {κ : Type} [DecidableEq κ] (f : κ → List Key) (hf : ∀ a b, f a = f b → a = b)
include hf
end
section
variable {X : Cx} {a b c : Expr} {pos apos : Pos}
end
section
variable {X : Cx} {a e ko : Expr} {pos pos' : Pos} {st : Stmt}
end
end
end Dl
namespace Dl
open PySem L2
variable [KK]
section
variable {X : Cx} {a b e : Expr} {pos pos' : Pos}
end
end Dl
namespace Dl
open PySem L2
variable [KK]
section
variable {X : Cx}
end
end Dl
namespace L2
open PySem PySem.Spec PyProof.Rows
section
variable {prog : Program} {w : World} {A : Around} {E : Value → Shared → Prop} {s : Shared} {d it : Addr} {o : Obj} {es : Array DictEntry} {ep i : Nat}
end
section
variable {X : Cx} {tg : Expr}
end
end L2
namespace Dl
open PySem L2
section
variable [KK]
section
variable {X : Cx} {tg a b e k v : Expr} {pos pos' : Pos} {sts : List Stmt}
end
end
end Dl
namespace OwnRep
open PySem Builtin
end OwnRep
namespace L2
open PySem
section
variable {X : Cx}
end
end L2
namespace Dl
open PySem L2
section
variable [KK]
section
variable {X : Cx} {a b : Expr} {pos : Pos}
end
end
end Dl
namespace L2
open PySem PySem.Spec PyProof.Rows
end L2
namespace Dl
open PySem L2
variable [KK]
end Dl
namespace PySem
open Sem (wp)
namespace OwnRev
theorem lri_slot_hint : Slot "list_reverseiterator" "__length_hint__" "list_reverseiterator.__length_hint__" :=
  .of (owner := "list_reverseiterator") (n := "__length_hint__") (by rw [typeLookup_type, builtinLookup_eq_fast]; kernel_rfl) (by decide +kernel) (by decide +kernel) (by decide +kernel)
    (by first | exact .inl (by decide +kernel) | exact .inr (by decide +kernel)) (by rw [isSubtype_type]; kernel_rfl)
theorem lri_no_len : typeLookup (.type "list_reverseiterator") "__len__" = pure none := by rw [typeLookup_type, builtinLookup_eq_fast]; kernel_rfl
theorem lri_sub_self : isSubtype (.type "list_reverseiterator") (.type "list_reverseiterator") = pure true := by rw [isSubtype_type]; kernel_rfl
end OwnRev
section
variable {prog : Program} {w : World} {A : Around} {E : Value → Shared → Prop} {s : Shared}
theorem Wb {I l : Addr} {i : Int} {Q : Bool → Shared → Prop} (he : s.heap.IsRevIter I l i) (hQ : Q false s) : wpAny (model prog w) A (Builtin.List.listLengthHint (.ref I)) Q E s := by
  have hT := he.typeIs
  unfold Builtin.List.listLengthHint
  refine wpAny_bind (wpAny_specialOf hT OwnRev.lri_no_len ?_)
  try dsimp only
  show wpAny _ _ (if false = true then _ else (if false = true then _ else _)) _ _ _
  rw [if_neg Bool.false_ne_true, if_neg Bool.false_ne_true]
  refine wpAny_bind (wpAny_specialOf hT OwnRev.lri_slot_hint.lookup ?_)
  try dsimp only
  have hsp : splitId "list_reverseiterator.__length_hint__" = some ("list_reverseiterator", "__length_hint__") := by decide +kernel
  rw [hsp]
  try dsimp only
  refine wpAny_bind (wpAny_isInstance (T := "list_reverseiterator") (b := true) hT OwnRev.lri_sub_self ?_)
  rw [if_neg (by decide)]
  show wpAny _ _ (if true = true then _ else _) _ _ _
  rw [if_pos rfl, if_neg (by decide)]
  exact wpAny_pure hQ
theorem WG {I l : Addr} {items : Array Value} {Q : Value → Shared → Prop} (hh : A.handled = none) (he : s.heap.IsRevIter I l ((items.size : Int) - 1)) (hl : s.heap.IsList l items) (hne : l ≠ I) (hsz : items.size ≤ sizeLine)
    (hQ : ∀ (h' : Heap) (c' tk : Nat), (∀ b o, b ≠ I → s.heap.get? b = some o → h'.get? b = some o) →
      h'.get? s.heap.objs.size = some { cls := .type "list", dict := none, data := .seq items.toList.reverse.toArray c', slots := #[] } → Q (.ref s.heap.objs.size) { s with heap := h', toks := tk }) :
    wpAny (model prog w) A (call (.type "list") [.ref I]) Q E s := by
  have hIl : I < s.heap.objs.size := by obtain ⟨o, ho, _⟩ := he; exact Heap.lt_size ho
  have hll : l < s.heap.objs.size := by obtain ⟨o, ho, _⟩ := hl; exact Heap.lt_size ho
  have hSI : s.heap.objs.size ≠ I := Nat.ne_of_gt hIl
  have hSf : s.heap.objs.size ∉ [I, l] := fun hm => by
    rcases List.mem_cons.mp hm with h | h
    · exact hSI h
    · exact Nat.ne_of_gt hll (List.mem_singleton.mp h)
  have W := Walks.listRev (prog := prog) (w := w) (A := A.in1.in1) hh I l hne items
  have ends : ∀ acc : Array Value, ItemsOf (fun i v => items[items.size - 1 - i]? = some v) acc items.size → acc = items.toList.reverse.toArray := fun acc ha => by
    apply Array.ext'
    apply List.ext_getElem?
    intro i
    by_cases hi : i < items.size
    · have e1 : acc[i]? = some (acc[i]'(by rw [ha.1]; exact hi)) := Array.getElem?_eq_getElem _
      have e2 := ha.2 i _ e1
      show acc.toList[i]? = items.toList.reverse[i]?
      rw [List.getElem?_reverse (by simpa using hi)]
      simp only [Array.getElem?_toList, Array.length_toList]
      rw [e1, e2]
    · rw [List.getElem?_eq_none (by simp [ha.1]; omega), List.getElem?_eq_none (by simp; omega)]
  refine callType_codes (Q₁ := fun obj s₁ => obj = .ref s.heap.objs.size ∧ s₁ = { s with heap := s.heap.push { cls := .type "list", data := .seq #[] } }) F.called_list (F.typeCall_list_1 _) F.entry_list_init
    (code_list_new _ ⟨rfl, rfl⟩) fun obj s₁ h₁ => ?_
  obtain ⟨rfl, rfl⟩ := h₁
  have hS : (s.heap.push { cls := .type "list", data := .seq #[] }).get? s.heap.objs.size = some { cls := .type "list", data := .seq #[] } := Heap.get?_push_size _ rfl
  refine ⟨⟨_, hS, rfl⟩, F.args_list_init_2 _ _, ?_⟩
  show wpAny _ A.in1.in1 (do let old ← Builtin.List.listItems (.ref s.heap.objs.size); Builtin.List.listUpdate (.ref s.heap.objs.size) (fun _ => #[]); letGo old.toList.reverse; Builtin.List.listExtendWith (.ref s.heap.objs.size) (.ref I) .none) _ _ _
  refine wpAny_bind ?_
  unfold Builtin.List.listItems
  refine wpAny_bind (wpAny_seqItems hS rfl (wpAny_pure ?_))
  show wpAny _ A.in1.in1 (updateSeq s.heap.objs.size (fun _ => #[]) >>= fun _ => letGo (#[] : Array Value).toList.reverse >>= fun _ => Builtin.List.listExtendWith (.ref s.heap.objs.size) (.ref I) .none) _ _ _
  refine wpAny_bind (wpAny_updateSeq hS rfl ?_)
  have hS2 := Heap.get?_update_self (Obj.mapSeq (fun _ => (#[] : Array Value))) hS rfl
  have oth : ∀ b o, b ≠ s.heap.objs.size → s.heap.get? b = some o → ((s.heap.push { cls := .type "list", data := .seq #[] }).update s.heap.objs.size (Obj.mapSeq (fun _ => (#[] : Array Value)))).get? b = some o :=
    fun b o hb e => (Heap.get?_update_other _ _ (Ne.symm hb)).trans (Heap.get?_push_of_some _ e)
  refine wpAny_bind (wpAny_letGo ?_)
  have he1 := he.at (h' := (s.heap.push { cls := .type "list", data := .seq #[] }).update s.heap.objs.size (Obj.mapSeq (fun _ => (#[] : Array Value)))) fun o e => oth I o (Ne.symm hSI) e
  have hl1 : ((s.heap.push { cls := .type "list", data := .seq #[] }).update s.heap.objs.size (Obj.mapSeq (fun _ => (#[] : Array Value)))).IsList l items := hl.at fun o e => oth l o (Nat.ne_of_lt hll) e
  unfold Builtin.List.listExtendWith
  refine wpAny_bind (wpAny_typeOf he1.typeIs ?_)
  have h1 : Builtin.List.listSameRef (.ref s.heap.objs.size) (.ref I) = false := by simp [Builtin.List.listSameRef, hSI]
  have h2 : (Value.type "list_reverseiterator" == Value.type "list") = false := by decide
  have h3 : (Value.type "list_reverseiterator" == Value.type "tuple") = false := by decide
  simp only [h1, h2, h3, Bool.or_false, Bool.false_eq_true, if_false]
  refine wpAny_bind (wpAny_pyIter_revIter he1 ?_)
  refine wpAny_bind (wpAny_holding (Wb he1 ?_))
  show wpAny _ A.in1.in1 (if false = true then _ else _) _ _ _
  rw [if_neg Bool.false_ne_true]
  refine wpAny_pure ⟨plainId_quiet F.plain_extend_loop _, codeAny_extend_loopS W.toS hsz _ hSf _ items.size 0 _ #[] _ rfl (Nat.zero_le _) ⟨Nat.zero_le _, ?_, hl1⟩ hS2 (ItemsOf.nil _) fun s' acc' c' hm hS' hacc => ?_⟩
  · have : (items.size : Int) - 1 - ((0 : Nat) : Int) = (items.size : Int) - 1 := by omega
    rw [this]
    exact he1
  · refine ⟨rfl, ?_⟩
    rw [ends _ hacc] at hS'
    obtain ⟨h', g', d', tk', os'⟩ := s'
    have e1 : g' = s.gens := hm.gens
    have e2 : d' = s.drawn := hm.drawn
    have e3 : os' = s.os := hm.os
    subst e1 e2 e3
    refine hQ h' c' tk' (fun b o hb q => hm.heap b o (fun hmem => ?_) (oth b o (Nat.ne_of_lt (Heap.lt_size q)) q)) hS'
    rcases List.mem_cons.mp hmem with h | h
    · exact Nat.ne_of_lt (Heap.lt_size q) h
    · exact hb (List.mem_singleton.mp h)
end
end PySem
namespace L2
open PySem PySem.Spec PyProof.Rows
noncomputable def tLR (K : PySem.W.Frag) (ta : TE) : TE := fun σ H Q => ta σ H fun x H1 => ∃ a xs, x = .ref a ∧ SqL K H1 a xs ∧ ∀ l, H1 l = none → Q (.ref l) (upd H1 l (.lst xs.reverse))
theorem zaE {X : Cx} {a : Expr} {ta : TE} {p1 p2 pos1 pos2 : Pos} (hc : X.calm = true) (hg1 : Gl X "list") (hm1 : X.mg "list" = none) (hb1 : bootBuiltins "list" = some (.type "list")) (hg2 : Gl X "reversed") (hm2 : X.mg "reversed" = none) (hb2 : bootBuiltins "reversed" = some (.type "reversed")) (ha : PE X a ta)
    (hs : starEach [a] X.env = [(false, eval a X.env)] := by rfl) (hs2 : starEach [.Call (.Name "reversed" p2) [a] [] pos2] X.env = [(false, eval (.Call (.Name "reversed" p2) [a] [] pos2) X.env)] := by rfl) : PE X (.Call (.Name "list" p1) [.Call (.Name "reversed" p2) [a] [] pos2] [] pos1) (tLR X.K ta) := by
  intro pins s σ H Q I h
  refine Call_ (vA I hg1 hm1 hb1 (PyProof.Rows.callWith_type1 (Q := EP X pins σ Q) ?_ hs2 rfl))
  rw [hs2]
  show wpAny _ _ (spliced ((false, eval (.Call (.Name "reversed" p2) [a] [] pos2) X.env) :: [])) _ _ _
  refine Calls.spliced_cons ?_
  refine Call_ (vA I hg2 hm2 hb2 (PyProof.Rows.callWith_type1 ?_ hs rfl))
  rw [hs]
  show wpAny _ _ (spliced ((false, eval a X.env) :: [])) _ _ _
  refine Calls.spliced_cons (thn (ha pins s σ H _ I h) fun v s1 hh9 => ?_)
  obtain ⟨x, H1, I1, r1, q1⟩ := hh9
  obtain ⟨t, xs, rfl, hx, q⟩ := q1
  cases r1
  obtain ⟨its, rv, pt, hz⟩ := I1.list hx
  have hlen : its.toArray.size ≤ sizeLine := by rw [List.size_toArray, ← rv.length]; exact hz
  have lt : t < s1.heap.objs.size := by
    obtain ⟨o, ho, _⟩ := pt.isList
    exact Heap.lt_size ho
  refine Calls.spliced_nil ?_
  refine call_reversed_list pt.isList ?_
  refine Calls.spliced_nil ?_
  refine WG (I := s1.heap.objs.size) (l := t) (items := its.toArray) (I.ok.hd hc) ⟨_, Heap.get?_push_size _ rfl, rfl, rfl⟩ (pt.isList.at fun o e => Heap.get?_push_of_some _ e) (Nat.ne_of_lt lt) hlen fun h' c' tk' hk hS => ?_
  have hS' : h'.get? (s1.heap.push (revObj t (((its.toArray.size : Nat) : Int) - 1))).objs.size = some { cls := .type "list", dict := none, data := .seq its.reverse.toArray c', slots := #[] } := hS
  refine ⟨.ref _, _, I1.laid (t' := tk') (a := (s1.heap.push (revObj t (((its.toArray.size : Nat) : Int) - 1))).objs.size) (fun b o e => hk b o (Nat.ne_of_lt (Heap.lt_size e)) (Heap.get?_push_of_some _ e)) ?_ (show wf X.prog X.w _ h' _ (.lst xs.reverse) from ⟨by rw [List.length_reverse]; exact hz, its.reverse, c', rv.reverse, hS'⟩), rfl, q _ (I1.hok.fresh ?_)⟩
  all_goals exact Nat.le_of_lt (by rw [Heap.push]; simp)
end L2
namespace Dl
open PySem L2 PySem.Spec PyProof.Rows
variable [KK] {X : Cx} {e : Expr}
noncomputable def revD : D → Option (List D)
  | .lst ds => some ds.reverse
  | _ => none
noncomputable def zgM (f : Ev → Option D) : Ev → Option (List D) := fun ρ => (f ρ).bind revD
theorem zaS {p1 p2 pos1 pos2 : Pos} {f : Ev → Option D} (hc : X.calm = true) (hg1 : Gl X "list") (hm1 : X.mg "list" = none) (hg2 : Gl X "reversed") (hm2 : X.mg "reversed" = none) (ha : ED X e f)
    (hs : starEach [e] X.env = [(false, eval e X.env)] := by rfl) (hs2 : starEach [.Call (.Name "reversed" p2) [e] [] pos2] X.env = [(false, eval (.Call (.Name "reversed" p2) [e] [] pos2) X.env)] := by rfl) :
    FL X (.Call (.Name "list" p1) [.Call (.Name "reversed" p2) [e] [] pos2] [] pos1) (zgM f) := by
  obtain ⟨t, pa, ra⟩ := ha
  refine ⟨_, zaE hc hg1 hm1 Zn hg2 hm2 Vr pa hs hs2, fun σ ρ F H z Q s va e q => ?_⟩
  obtain ⟨d, e1, e2⟩ := Option.bind_eq_some_iff.mp e
  refine ra σ ρ F H d _ s va e1 fun F1 H1 v g1 a1 => ?_
  unfold revD at e2
  split at e2 <;> cases e2
  obtain ⟨p, xs, rfl, hx, bl⟩ := a1.lst_inv
  exact ⟨p, xs, rfl, SqL.of (g1.fh _ _ hx), fun l hl => q _ _ _ _ (g1.trans (Gr.hide g1.fh hl _)) (Wc g1 hl) (g1.fh.free hl) zo bl.reverse⟩
end Dl
namespace OwnSet
open PySem
end OwnSet
namespace OwnSet
open PySem
section
variable {prog : Program} {w : World} {A : Around} {E : Value → Shared → Prop} {s : Shared}
end
end OwnSet
namespace OwnSet
open PySem
section
variable {prog : Program} {w : World} {A : Around} {E : Value → Shared → Prop} {s : Shared}
end
section
variable {prog : Program} {w : World} {A : Around} {R : Result → Shared → Prop} {I : Addr} {fp wr : List Addr} {G : Array GenState → Array GenState → Prop} {n : Nat} {P : Nat → Value → Prop} {St : Nat → Shared → Prop}
end
section
variable {prog : Program} {w : World} {A : Around} {E : Value → Shared → Prop} {s : Shared}
end
end OwnSet
namespace OwnSet
open PySem
section
variable {prog : Program} {w : World} {A : Around} {E : Value → Shared → Prop} {s : Shared}
end
end OwnSet
namespace OwnSet
open PySem
section
variable {prog : Program} {w : World} {A : Around} {E : Value → Shared → Prop} {s : Shared}
end
end OwnSet
namespace OwnSet
open PySem
section
variable {prog : Program} {w : World} {A : Around} {E : Value → Shared → Prop} {s : Shared}
end
end OwnSet
namespace OwnSet
open PySem
section
variable {prog : Program} {w : World} {A : Around} {E : Value → Shared → Prop} {s : Shared}
end
end OwnSet
namespace OwnSet
open PySem
section
variable {prog : Program} {w : World} {A : Around} {E : Value → Shared → Prop} {s : Shared}
end
end OwnSet
namespace OwnSet
open PySem PyProof.Rows
section
variable {prog : Program} {w : World} {A : Around} {E : Value → Shared → Prop} {s : Shared}
end
end OwnSet
namespace L2
open PySem PySem.Spec PyProof.Rows
end L2
namespace Dl
open PySem L2 PySem.Spec PyProof.Rows
variable [KK] {X : Cx} {e : Expr}
end Dl
namespace Dl
open PySem L2 PySem.Spec PyProof.Rows
variable [KK] {X : Cx} {a b : Expr} {pos apos : Pos}
end Dl
namespace L2
open PySem PySem.Spec PyProof.Rows
theorem zah {h₀ : Heap} {k : Str} {P : Value → Prop} : ∀ {D : List (Str × KTD.Dat)}, (∀ d, KTD.datumAt k D = some d → KTD.Opened h₀ P d) → KTD.EachL h₀ k P D
  | [], _ => trivial
  | [(x, d)], h => fun e => h d (by show (if decide (k = x) = true then some d else none) = _; rw [if_pos (decide_eq_true e)])
  | (x, d) :: q :: D, h => by
    show if decide (k = x) = true then KTD.Opened h₀ P d else KTD.EachL h₀ k P (q :: D)
    by_cases e : k = x
    · rw [if_pos (decide_eq_true e)]
      exact h d (by show (if decide (k = x) = true then some d else _) = _; rw [if_pos (decide_eq_true e)])
    · rw [if_neg (by rw [decide_eq_false e]; exact Bool.false_ne_true)]
      refine zah fun d' h' => h d' ?_
      show (if decide (k = x) = true then some d else KTD.datumAt k (q :: D)) = _
      rw [if_neg (by rw [decide_eq_false e]; exact Bool.false_ne_true), h']
theorem Xj : ∀ {ns : List Int} {vs : List Value}, KTD.Flats vs (ns.map PyData.int) → yg (ns.map V.int) vs
  | [], _, h => by cases h; exact .nil
  | n :: ns, _, h => by
    cases h with
    | cons h1 h2 =>
      obtain ⟨t, rfl⟩ := h1.int_inv
      exact .cons ⟨t, rfl⟩ (Xj h2)
section
variable {X : Cx} {a : Addr} {D : List (Str × KTD.Dat)} {nm : Str} {b : Expr} {p pos : Pos} {tb : TE}
noncomputable def zfG (a : Addr) (D : List (Str × KTD.Dat)) : R2 := fun x y H Q => ∃ s, x = .str s ∧ y = .ref a ∧ Q (.bl (KTD.inKeys s D)) H
theorem zcw (T : ∀ h : Heap, X.K.In h → KTD.TextTab h a D) : OpR X (compareOp .In) (zfG a D) := by
  intro pins s σ H x y v u Q I rx ry h
  obtain ⟨z, rfl, rfl, q⟩ := h
  obtain ⟨t, rfl⟩ := rx
  cases ry
  exact KTD.in_text ⟨T _ I.kIn, fun _ _ e => e⟩ ⟨.bl _, H, I.tok _, rfl, q⟩
noncomputable def tTab (D : List (Str × KTD.Dat)) (base : Heap) (tb : TE) : TE := fun σ H Q => tb σ H fun y H1 => ∃ (z : Str) (ns : List Int), y = .str z ∧ KTD.datumAt z D = some (.tup (ns.map PyData.int)) ∧ ∀ p its, IsTup base p (List.toArray its) → yg (ns.map V.int) its → Q (.ref p) H1
theorem zgg (T : ∀ h : Heap, X.K.In h → KTD.TextTab h a D) (hg : Gl X nm) (hm : X.mg nm = some (.ref a)) (hb : PE X b tb) (hs : Xv b) (hd : (nm == ("__debug__" : Str)) = false := by decide) : PE X (.Subscript (.Name nm p) b pos) (tTab D X.base tb) := by
  intro pins s σ H Q I h
  refine Subscript_ (W2 I hg hm (thn (hb pins s σ H _ I h) fun u s1 hq => ?_) hd)
  obtain ⟨y, H1, I1, ry, z, ns, rfl, hz, q⟩ := hq
  obtain ⟨t, rfl⟩ := ry
  have hin : KTD.inKeys z D = true := by rw [← KTD.isSome_datumAt, hz]; rfl
  refine KTD.item_text (h₀ := X.base) ⟨T _ I.mod.kin, I1.bk⟩ hin (zah fun d hd => ?_) (hs _ _) (by intro _; with_unfolding_all rfl)
  rw [hz] at hd
  cases hd
  exact fun p its h1 h2 => ⟨.ref p, H1, I1.tok _, rfl, q p its h1 (Xj h2)⟩
noncomputable def rIxB (base : Heap) : R2 := fun x y H Q => ∃ p its xs i v, x = .ref p ∧ y = .int i ∧ IsTup base p (List.toArray its) ∧ yg xs its ∧ xs.length ≤ sizeLine ∧ atI xs i = some v ∧ Q v H
theorem zeh : IxR X (rIxB X.base) := by
  intro value slice pins s σ H x y v u Q I rx ry h hs
  obtain ⟨p, its, xs, i, z, rfl, rfl, hq, r, hz, he, q⟩ := h
  cases rx
  obtain ⟨t, rfl⟩ := ry
  have pl : IsTup s.heap p its.toArray := by
    obtain ⟨o, ho, hc, n, hd⟩ := hq
    exact ⟨o, I.bk _ _ ho, hc, n, hd⟩
  obtain ⟨j, h1, h2, h3, h4, h5⟩ := XT he
  obtain ⟨w, ew, rw'⟩ := r.get h2
  have hl := r.length
  have hn := Z3
  have fin : EP X pins σ Q w s := ⟨z, H, I, rw', q⟩
  exact subscriptTail_builtinR (x := w) pl.typeIs slot_tuple_getitem.lookup
    (getItem_tuple (j := j) (Q := fun r s' => r = w ∧ EP X pins σ Q r s') pl (by omega) (by omega) (by rw [List.size_toArray, ← hl]; exact h1) (by simpa using ew) ⟨rfl, fin⟩) hs
end
end L2
namespace Dl
open PySem L2 PySem.Spec PyProof.Rows
variable [KK] {X : Cx} {a : Addr} {T : List (Str × KTD.Dat)} {nm : Str} {b : Expr} {p p2 p3 pos : Pos} {f : Ev → Option D}
noncomputable abbrev zc6 := List (Str × List Int)
noncomputable def WK (t : zc6) : List (Str × KTD.Dat) := t.map fun q => (q.1, .tup (q.2.map PyData.int))
noncomputable def ZU : zc6 → Str → Option (List Int)
  | [], _ => none
  | q :: t, x => if x = q.1 then some q.2 else ZU t x
omit [KK] in
theorem ZP (x : Str) : ∀ t : zc6, KTD.datumAt x (WK t) = (ZU t x).map fun ns => KTD.Dat.tup (ns.map PyData.int)
  | [] => rfl
  | q :: t => by
    show (if decide (x = q.1) = true then some (KTD.Dat.tup (q.2.map PyData.int)) else KTD.datumAt x (WK t)) = (if x = q.1 then some q.2 else ZU t x).map _
    by_cases h : x = q.1
    · rw [if_pos (decide_eq_true h), if_pos h]; rfl
    · rw [if_neg (by rw [decide_eq_false h]; exact Bool.false_ne_true), if_neg h, ZP x t]
noncomputable def zdo (t : zc6) : D → Option D
  | .str x => some (.bl (ZU t x).isSome)
  | _ => none
noncomputable def zbL (t : zc6) (i : Int) : D → Option D
  | .str x => (ZU t x).bind fun ns => (atI ns i).map D.int
  | _ => none
theorem zc4 {t : zc6} (T : ∀ h : Heap, X.K.In h → KTD.TextTab h a (WK t)) (hg : Gl X nm) (hm : X.mg nm = some (.ref a)) (hb : ED X b f) (hk : behindInMarks .In (.Name nm p) = false := by with_unfolding_all rfl) (hd : (nm == ("__debug__" : Str)) = false := by decide) :
    ED X (.Compare b [.In] [.Name nm p] pos) (eUn (zdo t) f) := by
  obtain ⟨tb, pb, rb⟩ := hb
  refine ⟨_, zcb (zcw T) pb (VD (v := .ref a) hg hm rfl hd) hk, fun σ ρ F H z Q s va e q => ?_⟩
  obtain ⟨d, e1, e2⟩ := Option.bind_eq_some_iff.mp e
  refine rb σ ρ F H d _ s va e1 fun F1 H1 v g1 a1 => ?_
  cases d with
  | str x =>
    cases e2
    cases a1.str_inv
    refine ⟨x, rfl, rfl, ?_⟩
    rw [← KTD.isSome_datumAt, ZP, Option.isSome_map]
    exact q F1 H1 _ g1 .bl
  | _ => cases e2
theorem zaa {t : zc6} {i : Int} {j : Nat} (T : ∀ h : Heap, X.K.In h → KTD.TextTab h a (WK t)) (hl : ∀ q ∈ t, q.2.length ≤ sizeLine) (hg : Gl X nm) (hm : X.mg nm = some (.ref a)) (hb : ED X b f) (hs : Xv b) (hd : (nm == ("__debug__" : Str)) = false := by decide) :
    ED X (.Subscript (.Subscript (.Name nm p) b p2) (.Constant (.int i) j p3) pos) (eUn (zbL t i) f) := by
  obtain ⟨tb, pb, rb⟩ := hb
  refine ⟨_, zeR zeh (zgg T hg hm pb hs hd) zi (fun _ _ => rfl), fun σ ρ F H z Q s va e q => ?_⟩
  obtain ⟨d, e1, e2⟩ := Option.bind_eq_some_iff.mp e
  refine rb σ ρ F H d _ s va e1 fun F1 H1 v g1 a1 => ?_
  cases d with
  | str x =>
    obtain ⟨ns, h1, h2⟩ := Option.bind_eq_some_iff.mp e2
    obtain ⟨n, h3, rfl⟩ := Option.map_eq_some_iff.mp h2
    cases a1.str_inv
    have hmem : ∀ t : zc6, (∀ q ∈ t, q.2.length ≤ sizeLine) → ZU t x = some ns → ns.length ≤ sizeLine := by
      intro t
      induction t with
      | nil => intro _ h; cases h
      | cons q t ih =>
        intro hl h
        unfold ZU at h
        split at h
        · cases h; exact hl q List.mem_cons_self
        · exact ih (fun r hr => hl r (List.mem_cons_of_mem _ hr)) h
    refine ⟨x, ns, rfl, by rw [ZP, h1]; rfl, fun p its h4 h5 => ⟨p, its, ns.map V.int, i, .int n, rfl, rfl, h4, h5, by rw [List.length_map]; exact hmem t hl h1, ?_, q F1 H1 _ g1 .int⟩⟩
    have : ∀ (xs : List Int), atI xs i = some n → atI (xs.map V.int) i = some (V.int n) := fun xs h => by
      unfold atI at h ⊢
      rw [List.length_map]
      cases hi : ixN xs.length i with
      | none => rw [hi] at h; cases h
      | some k =>
        rw [hi] at h
        show (xs.map V.int)[k]? = _
        have h : xs[k]? = some n := h
        rw [List.getElem?_map, h]
        rfl
    exact this ns h3
  | _ => cases e2
end Dl
namespace L2
open PySem PySem.Spec PyProof.Rows
end L2
namespace Dl
open PySem L2 PySem.Spec PyProof.Rows
variable [KK] {X : Cx} {e : Expr}
end Dl
namespace L2
open PySem PySem.Spec PyProof.Rows
end L2
namespace Dl
open PySem L2 PySem.Spec PyProof.Rows
variable [KK] {X : Cx} {a e ko : Expr} {pos tpos : Pos}
end Dl
namespace PySem
open Sem (wp)
noncomputable abbrev yG (h : Heap) (T : Addr) (a b c : Value) : Prop := h.get? T = some { cls := .type "tuple", data := .seq #[a, b, c] }
set_option genInjectivity false in
set_option genSizeOf false in
set_option genCtorIdx false in
structure VM (z TI TO i1 i2 i3 : Addr) (fp1 fp2 fp3 : List Addr) : Prop where
  nd : [z, TI, TO, i1, i2, i3].Nodup
  z1 : z ∉ fp1
  z2 : z ∉ fp2
  z3 : z ∉ fp3
  o1 : TO ∉ fp1
  o2 : TO ∉ fp2
  o3 : TO ∉ fp3
  i12 : i1 ∉ fp2
  i13 : i1 ∉ fp3
  i21 : i2 ∉ fp1
  i23 : i2 ∉ fp3
  i31 : i3 ∉ fp1
  i32 : i3 ∉ fp2
section
variable {prog : Program} {w : World} {A : Around} {E : Value → Shared → Prop} {s : Shared} {z TI TO i1 i2 i3 : Addr} {fp1 fp2 fp3 : List Addr} {n1 n2 n3 k1 k2 k3 : Nat} {P1 P2 P3 : Nat → Value → Prop} {St1 St2 St3 : Nat → Heap → Prop} {a b c : Value}
theorem vk {T : Addr} {x : Value} {k : Nat} {Q : Unit → Shared → Prop} (hT : yG s.heap T a b c)
    (h : ∀ h', h'.get? T = some { cls := .type "tuple", data := .seq ((#[a, b, c] : Array Value).setIfInBounds k x) } → Heap.SameBut T s.heap h' → Q () { s with heap := h' }) :
    wpAny (model prog w) A (updateSeq T (·.setIfInBounds k x)) Q E s :=
  wpAny_updateSeq hT rfl (h _ (by rw [Heap.get?_update_self _ hT rfl]; simp [Obj.mapSeq]) (Heap.SameBut.update ..))
theorem Xm {Q : Value → Shared → Prop} (D1 : Draws prog w A i1 fp1 n1 P1 St1) (D2 : Draws prog w A i2 fp2 n2 P2 St2) (D3 : Draws prog w A i3 fp3 n3 P3 St3) (ap : VM z TI TO i1 i2 i3 fp1 fp2 fp3)
    (hz : IsZip s.heap z TI TO .none) (hTI : yG s.heap TI (.ref i1) (.ref i2) (.ref i3)) (hTO : yG s.heap TO a b c) (h1 : St1 k1 s.heap) (h2 : St2 k2 s.heap) (h3 : St3 k3 s.heap) (l1 : k1 < n1) (l2 : k2 < n2) (l3 : k3 < n3)
    (hQ : ∀ x y u h' tk, P1 k1 x → P2 k2 y → P3 k3 u → IsZip h' z TI TO (rawInt s.heap.objs.size) → yG h' TO x y u → St1 (k1 + 1) h' → St2 (k2 + 1) h' → St3 (k3 + 1) h' → yG h' s.heap.objs.size x y u →
      (∀ c o, c ∉ [z, TO, i1, i2, i3] → s.heap.get? c = some o → h'.get? c = some o) → Q (.ref s.heap.objs.size) { s with heap := h', toks := tk }) :
    wpAny (model prog w) A (Builtin.«zip.__next__» ⟨[.ref z], []⟩) (fun fin s' => ∃ v, fin = .done (.ret v) ∧ Q v s') E s := by
  obtain ⟨nd, az1, az2, az3, ao1, ao2, ao3, a12, a13, a21, a23, a31, a32⟩ := ap
  simp only [List.nodup_cons, List.mem_cons, List.not_mem_nil, or_false, not_or, not_false_eq_true, List.nodup_nil, and_true] at nd
  obtain ⟨⟨nI, nO, nz1, nz2, nz3⟩, ⟨_, _, _, _⟩, ⟨m1, m2, m3⟩, ⟨_, _⟩, _⟩ := nd
  show wpAny _ _ (field (.ref z) 2 >>= _) _ _ _
  refine wpAny_bind (wpAny_field hz rfl (x := .bool false) rfl ?_)
  show wpAny _ _ (field (.ref z) 3 >>= _) _ _ _
  refine wpAny_bind (wpAny_field hz rfl (x := .ref TI) rfl (wpAny_bind (wpAny_seqItems hTI rfl ?_)))
  show wpAny _ _ (Builtin.SmallTypes.ownedTupleIsFree (.ref z) >>= _) _ _ _
  refine wpAny_bind ?_
  unfold Builtin.SmallTypes.ownedTupleIsFree
  refine wpAny_bind (wpAny_field hz rfl (x := .none) rfl (wpAny_pure ?_))
  simp only [if_true]
  refine wpAny_bind (wpAny_rule (wpAny_bind (wpAny_field hz rfl (x := .ref TO) rfl (wpAny_bind (wpAny_setField_rec hz (by simp) fun g1 z1 b1 => ?_)))))
  refine wpAny_bind ?_
  simp only [List.zipIdx_cons, List.zipIdx_nil, List.forIn_cons, List.forIn_nil]
  refine wpAny_bind (wpAny_bind (wpAny_onRaise ?_))
  show wpAny _ _ (Builtin.SmallTypes.nextOf (.ref i1) >>= _) _ _ _
  refine wpAny_bind (D1.item k1 _ _ _ l1 (zp D1 h1 b1 az1) fun x g2 tk2 px st2 b2 => wpAny_pure ?_)
  have o2 : yG g2 TO a b c := (b2.2 TO m1).trans ((b1.2 TO (Ne.symm nO)).trans hTO)
  refine wpAny_bind (wpAny_seqItems o2 rfl (wpAny_bind (vk o2 fun g3 o3 b3 => ?_)))
  refine wpAny_bind (wpAny_letGo (wpAny_pure ?_))
  refine wpAny_bind (wpAny_bind (wpAny_onRaise ?_))
  show wpAny _ _ (Builtin.SmallTypes.nextOf (.ref i2) >>= _) _ _ _
  have s23 : St2 k2 g3 := zp D2 (zp D2 (zp D2 h2 b1 az2) b2 a12) b3 ao2
  refine wpAny_bind (D2.item k2 _ _ _ l2 s23 fun y g4 tk4 py st4 b4 => wpAny_pure ?_)
  have o4 : yG g4 TO x b c := (b4.2 TO m2).trans o3
  refine wpAny_bind (wpAny_seqItems o4 rfl (wpAny_bind (vk o4 fun g5 o5 b5 => ?_)))
  replace o5 : yG g5 TO x y c := o5
  refine wpAny_bind (wpAny_letGo (wpAny_pure ?_))
  refine wpAny_bind (wpAny_bind (wpAny_onRaise ?_))
  show wpAny _ _ (Builtin.SmallTypes.nextOf (.ref i3) >>= _) _ _ _
  have s35 : St3 k3 g5 := zp D3 (zp D3 (zp D3 (zp D3 (zp D3 h3 b1 az3) b2 a13) b3 ao3) b4 a23) b5 ao3
  refine wpAny_bind (D3.item k3 _ _ _ l3 s35 fun u g6 tk6 pu st6 b6 => wpAny_pure ?_)
  have o6 : yG g6 TO x y c := (b6.2 TO m3).trans o5
  refine wpAny_bind (wpAny_seqItems o6 rfl (wpAny_bind (vk o6 fun g7 o7 b7 => ?_)))
  replace o7 : yG g7 TO x y u := o7
  refine wpAny_bind (wpAny_letGo (wpAny_pure (wpAny_pure ?_)))
  refine wpAny_bind (wpAny_seqItems o7 rfl ?_)
  show wpAny _ _ (newTuple [x, y, u] >>= _) _ _ _
  refine wpAny_bind (wpAny_newTuple ?_)
  have hsz : g7.objs.size = s.heap.objs.size := by rw [b7.1, b6.1, b5.1, b4.1, b3.1, b2.1, b1.1]
  have z5 : IsZip g7 z TI TO .ellipsis := (b7.2 z nO).trans ((b6.2 z nz3).trans ((b5.2 z nO).trans ((b4.2 z nz2).trans ((b3.2 z nO).trans ((b2.2 z nz1).trans z1)))))
  have zlt : z < g7.objs.size := Heap.lt_size z5
  show wpAny _ _ (Builtin.SmallTypes.ownedTupleHandOut (.ref z) (.ref g7.objs.size) >>= _) _ _ _
  refine wpAny_bind ?_
  unfold Builtin.SmallTypes.ownedTupleHandOut
  have z6 : IsZip (g7.push { cls := .type "tuple", data := .seq #[x, y, u] }) z TI TO .ellipsis := Heap.get?_push_of_some _ z5
  refine wpAny_bind (wpAny_setField_rec z6 (by simp) fun g9 z9 b9 => ?_)
  refine wpAny_setField_rec z9 (by simp) fun g8 z8 b8 => ?_
  have up : ∀ c o, c ≠ z → g7.get? c = some o → g8.get? c = some o := fun c o n e => (b8.2 c n).trans ((b9.2 c n).trans (Heap.get?_push_of_some _ e))
  have t8 : yG g8 g7.objs.size x y u := (b8.2 _ (Nat.ne_of_gt zlt)).trans ((b9.2 _ (Nat.ne_of_gt zlt)).trans (Heap.get?_push_size _ rfl))
  have e8 : IsZip g8 z TI TO (rawInt g7.objs.size) := z8
  rw [hsz] at e8 t8
  refine wpAny_pure ⟨_, rfl, ?_⟩
  show Q (.ref g7.objs.size) _
  rw [hsz]
  have f1 : St1 (k1 + 1) g7 := zp D1 (zp D1 (zp D1 (zp D1 (zp D1 st2 b3 ao1) b4 a21) b5 ao1) b6 a31) b7 ao1
  have f2 : St2 (k2 + 1) g7 := zp D2 (zp D2 (zp D2 st4 b5 ao2) b6 a32) b7 ao2
  have f3 : St3 (k3 + 1) g7 := zp D3 st6 b7 ao3
  refine hQ x y u g8 _ px py pu e8 (up _ _ (Ne.symm nO) o7) (D1.frame _ _ _ f1 fun c hc o e => up c o (fun q => az1 (q ▸ hc)) e) (D2.frame _ _ _ f2 fun c hc o e => up c o (fun q => az2 (q ▸ hc)) e) (D3.frame _ _ _ f3 fun c hc o e => up c o (fun q => az3 (q ▸ hc)) e) t8 fun c o hc e => ?_
  simp only [List.mem_cons, List.not_mem_nil, or_false, not_or] at hc
  obtain ⟨c1, c2, c3, c4, c5⟩ := hc
  exact up c o c1 ((b7.2 c c2).trans ((b6.2 c c5).trans ((b5.2 c c2).trans ((b4.2 c c4).trans ((b3.2 c c2).trans ((b2.2 c c3).trans ((b1.2 c c1).trans e)))))))
theorem We {Q : Fin → Shared → Prop} (D1 : Draws prog w A i1 fp1 n1 P1 St1) (az1 : z ∉ fp1) (nz : i1 ≠ z)
    (hz : IsZip s.heap z TI TO .none) (hTI : yG s.heap TI (.ref i1) (.ref i2) (.ref i3)) (h1 : St1 n1 s.heap)
    (hE : ∀ h' e, (∀ c o, c ≠ z → c ≠ i1 → s.heap.get? c = some o → h'.get? c = some o) → (∃ o, h'.get? e = some o ∧ o.cls = .type "StopIteration") → E (.ref e) { s with heap := h' }) :
    wpAny (model prog w) A (Builtin.«zip.__next__» ⟨[.ref z], []⟩) Q E s := by
  show wpAny _ _ (field (.ref z) 2 >>= _) _ _ _
  refine wpAny_bind (wpAny_field hz rfl (x := .bool false) rfl ?_)
  show wpAny _ _ (field (.ref z) 3 >>= _) _ _ _
  refine wpAny_bind (wpAny_field hz rfl (x := .ref TI) rfl (wpAny_bind (wpAny_seqItems hTI rfl ?_)))
  show wpAny _ _ (Builtin.SmallTypes.ownedTupleIsFree (.ref z) >>= _) _ _ _
  refine wpAny_bind ?_
  unfold Builtin.SmallTypes.ownedTupleIsFree
  refine wpAny_bind (wpAny_field hz rfl (x := .none) rfl (wpAny_pure ?_))
  simp only [if_true]
  refine wpAny_bind (wpAny_rule (wpAny_bind (wpAny_field hz rfl (x := .ref TO) rfl (wpAny_bind (wpAny_setField_rec hz (by simp) fun g1 z1 b1 => ?_)))))
  refine wpAny_bind ?_
  simp only [List.zipIdx_cons, List.zipIdx_nil, List.forIn_cons, List.forIn_nil]
  refine wpAny_bind (wpAny_bind (wpAny_onRaise ?_))
  show wpAny _ _ (Builtin.SmallTypes.nextOf (.ref i1) >>= _) _ _ _
  refine wpAny_bind (D1.done _ _ _ (zp D1 h1 b1 az1) fun g2 e b2 he => ?_)
  obtain ⟨oe, hoe, hce⟩ := he
  have z2 : IsZip g2 z TI TO .ellipsis := b2 _ _ (Ne.symm nz) z1
  have nez : e ≠ z := fun q => by subst q; rw [z2] at hoe; cases hoe; simp at hce
  exact wpAny_setField_rec z2 (by simp) fun g3 _ b3 => hE g3 e (fun c o c1 c2 q => (b3.2 c c1).trans (b2 c o c2 ((b1.2 c c1).trans q))) ⟨oe, (b3.2 e nez).trans hoe, hce⟩
end
noncomputable abbrev zqA (h : Heap) (l1 : Addr) : Heap := h.push (Zs true l1)
noncomputable abbrev zqB (h : Heap) (l1 l2 : Addr) : Heap := (zqA h l1).push (Zs true l2)
noncomputable abbrev zqC (h : Heap) (l1 l2 l3 : Addr) : Heap := (zqB h l1 l2).push (Zs true l3)
noncomputable abbrev zqD (h : Heap) (l1 l2 l3 : Addr) : Heap := (zqC h l1 l2 l3).push (Obj.mk (.type "tuple") none (.seq #[.ref h.objs.size, .ref (zqA h l1).objs.size, .ref (zqB h l1 l2).objs.size]) #[])
noncomputable abbrev zqE (h : Heap) (l1 l2 l3 : Addr) : Heap := (zqD h l1 l2 l3).push (Obj.mk (.type "tuple") none (.seq #[.none, .none, .none]) #[])
noncomputable abbrev zqF (h : Heap) (l1 l2 l3 : Addr) : Heap := (zqE h l1 l2 l3).push (Obj.mk (.type "zip") none (.fields #[.none, .bool false, .bool false, .ref (zqC h l1 l2 l3).objs.size, .ref (zqD h l1 l2 l3).objs.size]) #[])
theorem Wq (l1 l2 l3 : Addr) (xs ys us : Array Value) :
    Meets (Builtin.«zip.__new__» ⟨[.type "zip", .ref l1, .ref l2, .ref l3], []⟩) (fun _ R s => s.heap.IsList l1 xs ∧ s.heap.IsList l2 ys ∧ s.heap.IsList l3 us ∧
      R (.ok (.ret (.ref (zqE s.heap l1 l2 l3).objs.size))) { s with heap := zqF s.heap l1 l2 l3 }) :=
  .of_wp fun prog w A R s h => by
    obtain ⟨hp, g, d, tk, os⟩ := s; obtain ⟨hl1, hl2, hl3, h⟩ := h
    have hsub := sub_zip
    have hL1 : Heap.IsList (Shared.heap ⟨hp, g, d, tk, os⟩) l1 xs := hl1
    have hL2 : Heap.IsList (Shared.heap ⟨hp.push { cls := .type "list_iterator", data := .fields #[.ref l1, .int 0 0] }, g, d, tk, os⟩) l2 ys := Heap.IsList.push hl2 _
    have hL3 : Heap.IsList (Shared.heap ⟨(hp.push { cls := .type "list_iterator", data := .fields #[.ref l1, .int 0 0] }).push { cls := .type "list_iterator", data := .fields #[.ref l2, .int 0 0] }, g, d, tk, os⟩) l3 us := Heap.IsList.push (Heap.IsList.push hl3 _) _
    wp_walk using wpAny_pyIter_list hL1, wpAny_pyIter_list hL2, wpAny_pyIter_list hL3
    exact ⟨_, rfl, h⟩
section
variable {prog : Program} {w : World} {A : Around} {E : Value → Shared → Prop} {s : Shared}
theorem Yv (a b c : Value) : checkTypeCall "zip" ⟨[a, b, c], []⟩ = pure () := by kernel_rfl
theorem YM (a b c : Value) : checkBuiltinCall "zip.__new__" ⟨[.type "zip", a, b, c], []⟩ = pure () := by kernel_rfl
theorem Xp {l1 l2 l3 : Addr} {xs ys us : Array Value} {Q : Value → Shared → Prop} (hl1 : s.heap.IsList l1 xs) (hl2 : s.heap.IsList l2 ys) (hl3 : s.heap.IsList l3 us)
    (h : ∀ h', IsZip h' (s.heap.objs.size + 5) (s.heap.objs.size + 3) (s.heap.objs.size + 4) .none → yG h' (s.heap.objs.size + 3) (.ref s.heap.objs.size) (.ref (s.heap.objs.size + 1)) (.ref (s.heap.objs.size + 2)) →
      yG h' (s.heap.objs.size + 4) .none .none .none → vV true h' s.heap.objs.size l1 0 → vV true h' (s.heap.objs.size + 1) l2 0 → vV true h' (s.heap.objs.size + 2) l3 0 →
      (∀ c o, s.heap.get? c = some o → h'.get? c = some o) → Q (.ref (s.heap.objs.size + 5)) { s with heap := h' }) :
    wpAny (model prog w) A (call (.type "zip") [.ref l1, .ref l2, .ref l3]) Q E s := by
  refine callType_new F.called_zip (by decide) (Yv _ _ _) (YM _ _ _) (fun obj => F.initArgs_range_3 obj _ _ _) F.entry_zip_new
    (Wq l1 l2 l3 xs ys us) ⟨hl1, hl2, hl3, ?_⟩
  have z1 : (zqA s.heap l1).objs.size = s.heap.objs.size + 1 := Heap.size_push ..
  have z2 : (zqB s.heap l1 l2).objs.size = s.heap.objs.size + 2 := by rw [Heap.size_push, z1]
  have z3 : (zqC s.heap l1 l2 l3).objs.size = s.heap.objs.size + 3 := by rw [Heap.size_push, z2]
  have z4 : (zqD s.heap l1 l2 l3).objs.size = s.heap.objs.size + 4 := by rw [Heap.size_push, z3]
  have z5 : (zqE s.heap l1 l2 l3).objs.size = s.heap.objs.size + 5 := by rw [Heap.size_push, z4]
  have g6 : (zqF s.heap l1 l2 l3).get? (zqE s.heap l1 l2 l3).objs.size = some _ := Heap.get?_push_size _ rfl
  have g5 : (zqF s.heap l1 l2 l3).get? (zqD s.heap l1 l2 l3).objs.size = some _ := Heap.get?_push_of_some _ (Heap.get?_push_size _ rfl)
  have g4 : (zqF s.heap l1 l2 l3).get? (zqC s.heap l1 l2 l3).objs.size = some _ := Heap.get?_push_of_some _ (Heap.get?_push_of_some _ (Heap.get?_push_size _ rfl))
  have g3 : (zqF s.heap l1 l2 l3).get? (zqB s.heap l1 l2).objs.size = some (Zs true l3) := Heap.get?_push_of_some _ (Heap.get?_push_of_some _ (Heap.get?_push_of_some _ (Heap.get?_push_size _ rfl)))
  have g2 : (zqF s.heap l1 l2 l3).get? (zqA s.heap l1).objs.size = some (Zs true l2) := Heap.get?_push_of_some _ (Heap.get?_push_of_some _ (Heap.get?_push_of_some _ (Heap.get?_push_of_some _ (Heap.get?_push_size _ rfl))))
  have g1 : (zqF s.heap l1 l2 l3).get? s.heap.objs.size = some (Zs true l1) := Heap.get?_push_of_some _ (Heap.get?_push_of_some _ (Heap.get?_push_of_some _ (Heap.get?_push_of_some _ (Heap.get?_push_of_some _ (Heap.get?_push_size _ rfl)))))
  show _ ∧ _
  rw [z3, z4, z5] at g6
  rw [z1, z2, z3] at g4
  rw [z4] at g5
  rw [z2] at g3
  rw [z1] at g2
  rw [z5]
  exact ⟨⟨_, g6, rfl⟩, h _ g6 g4 g5 ⟨_, g1, rfl, rfl⟩ ⟨_, g2, rfl, rfl⟩ ⟨_, g3, rfl, rfl⟩ fun c o x =>
    Heap.get?_push_of_some _ (Heap.get?_push_of_some _ (Heap.get?_push_of_some _ (Heap.get?_push_of_some _ (Heap.get?_push_of_some _ (Heap.get?_push_of_some _ x)))))⟩
variable {z TI TO i1 i2 i3 : Addr} {fp1 fp2 fp3 : List Addr} {n1 n2 n3 k1 k2 k3 : Nat} {P1 P2 P3 : Nat → Value → Prop} {St1 St2 St3 : Nat → Heap → Prop} {a b c : Value}
theorem Xs {Q : Option Value → Shared → Prop} (D1 : Draws prog w A.in1 i1 fp1 n1 P1 St1) (D2 : Draws prog w A.in1 i2 fp2 n2 P2 St2) (D3 : Draws prog w A.in1 i3 fp3 n3 P3 St3) (ap : VM z TI TO i1 i2 i3 fp1 fp2 fp3)
    (hz : IsZip s.heap z TI TO .none) (hTI : yG s.heap TI (.ref i1) (.ref i2) (.ref i3)) (hTO : yG s.heap TO a b c) (h1 : St1 k1 s.heap) (h2 : St2 k2 s.heap) (h3 : St3 k3 s.heap) (l1 : k1 < n1) (l2 : k2 < n2) (l3 : k3 < n3)
    (hQ : ∀ x y u h' tk, P1 k1 x → P2 k2 y → P3 k3 u → IsZip h' z TI TO (rawInt s.heap.objs.size) → yG h' TO x y u → St1 (k1 + 1) h' → St2 (k2 + 1) h' → St3 (k3 + 1) h' → yG h' s.heap.objs.size x y u →
      (∀ c o, c ∉ [z, TO, i1, i2, i3] → s.heap.get? c = some o → h'.get? c = some o) → Q (some (.ref s.heap.objs.size)) { s with heap := h', toks := tk }) :
    wpAny (model prog w) A (pyNext (.ref z)) Q E s := by
  have hT : s.TypeIs (.ref z) "zip" := ⟨_, hz, rfl⟩
  unfold pyNext
  exact wpAny_bind (wpAny_attempt (wpAny_callSpecial?_slot (name := Str.ofString "__next__") hT F.slot_zip_next
    (wpAny_call_entry F.slot_zip_next hT F.entry_zip_next
      (Xm D1 D2 D3 ap hz hTI hTO h1 h2 h3 l1 l2 l3 fun x y u h' tk a1 a2 a3 a4 a5 a6 a7 a8 a9 b1 => wpAny_pure (hQ x y u h' tk a1 a2 a3 a4 a5 a6 a7 a8 a9 b1)) (F.args_zip_next_1 _))))
theorem X8 {Q : Option Value → Shared → Prop} (D1 : Draws prog w A.in1 i1 fp1 n1 P1 St1) (az1 : z ∉ fp1) (nz : i1 ≠ z)
    (hz : IsZip s.heap z TI TO .none) (hTI : yG s.heap TI (.ref i1) (.ref i2) (.ref i3)) (h1 : St1 n1 s.heap)
    (hQ : ∀ h', (∀ c o, c ≠ z → c ≠ i1 → s.heap.get? c = some o → h'.get? c = some o) → Q none { s with heap := h' }) : wpAny (model prog w) A (pyNext (.ref z)) Q E s := by
  have hT : s.TypeIs (.ref z) "zip" := ⟨_, hz, rfl⟩
  unfold pyNext
  refine wpAny_bind (wpAny_attempt (wpAny_callSpecial?_slot (name := Str.ofString "__next__") hT F.slot_zip_next
    (wpAny_call_entry F.slot_zip_next hT F.entry_zip_next (We D1 az1 nz hz hTI h1 fun h' e hk he => ?_) (F.args_zip_next_1 _))))
  obtain ⟨o, ho, hc⟩ := he
  refine wpAny_bind (wpAny_isInstance (T := "StopIteration") (b := true) ⟨o, ho, hc⟩ isSubtype_stop ?_)
  exact wpAny_pure (hQ _ hk)
end
end PySem
namespace L2
open PySem PySem.Spec PyProof.Rows
noncomputable def Izp3 (K : PySem.W.Frag) (l1 l2 l3 : Addr) : It :=
  ⟨fun i H => ∃ xs ys us x y u, SqL K H l1 xs ∧ SqL K H l2 ys ∧ SqL K H l3 us ∧ xs[i]? = some x ∧ ys[i]? = some y ∧ us[i]? = some u,
   fun i H v H' => ∃ T x y u, v = .ref T ∧ H T = none ∧ H' = upd H T (.tup [x, y, u]) ∧ (∀ xs, SqL K H l1 xs → xs[i]? = some x) ∧ (∀ ys, SqL K H l2 ys → ys[i]? = some y) ∧ (∀ us, SqL K H l3 us → us[i]? = some u),
   fun i H => ∃ xs, SqL K H l1 xs ∧ i = xs.length⟩
theorem X6 {its : List Value} {i : Nat} {u v : Value} (hu : its[i]? = some u) (e : its.toArray[i]? = some v) : v = u := by
  have : its[i]? = some v := by simpa using e
  rw [hu] at this
  exact (Option.some.inj this).symm
theorem zbB {P : Program} {w : World} {K : PySem.W.Frag} {es : List Expr} {k : Nat} {tp : Pos} (l1 l2 l3 z TI TO i1 i2 i3 : Addr) (ap : VM z TI TO i1 i2 i3 [i1, l1] [i2, l2] [i3, l3]) (n1 : l1 ≠ i1) (n2 : l2 ≠ i2) (n3 : l3 ≠ i3) :
    zdy P w K (.Tuple es k tp) (Izp3 K l1 l2 l3) [z, TI, TO, i1, i2, i3] z (fun i h => IsZip h z TI TO .none ∧ yG h TI (.ref i1) (.ref i2) (.ref i3) ∧ (∃ a b c, yG h TO a b c) ∧ vV true h i1 l1 i ∧ vV true h i2 l2 i ∧ vV true h i3 l3 i) where
  mem := by simp
  obj := fun i h st b hb => by
    obtain ⟨hz, hTI, ⟨a, c, d, hTO⟩, h1, h2, h3⟩ := st
    simp only [List.mem_cons, List.not_mem_nil, or_false] at hb
    rcases hb with rfl | rfl | rfl | rfl | rfl | rfl
    · exact ⟨_, hz, fun v z => by cases z⟩
    · exact ⟨_, hTI, fun v z => by cases z⟩
    · exact ⟨_, hTO, fun v z => by cases z⟩
    · exact yU h1
    · exact yU h2
    · exact yU h3
  keep := fun i h h' st kk => by
    obtain ⟨hz, hTI, ⟨a, c, d, hTO⟩, h1, h2, h3⟩ := st
    exact ⟨kk z (by simp) _ hz, kk TI (by simp) _ hTI, ⟨a, c, d, kk TO (by simp) _ hTO⟩, xF h1 fun o q => kk i1 (by simp) o q, xF h2 fun o q => kk i2 (by simp) o q, xF h3 fun o q => kk i3 (by simp) o q⟩
  item := by
    intro X hP hw hK hc i pins s σ H E I hf st hg
    subst hP hw hK
    obtain ⟨hz, hTI, ⟨a, c, d, hTO⟩, h1, h2, h3⟩ := st
    obtain ⟨xs, ys, us, x, y, u, hq1, hq2, hq3, hx, hy, hu⟩ := hg
    obtain ⟨its, rv, p, _⟩ := I.sq (b := true) hq1
    obtain ⟨its2, rv2, p2, _⟩ := I.sq (b := true) hq2
    obtain ⟨its3, rv3, p3, _⟩ := I.sq (b := true) hq3
    obtain ⟨w1, hw1, rw1⟩ := rv.get hx
    obtain ⟨w2, hw2, rw2⟩ := rv2.get hy
    obtain ⟨w3, hw3, rw3⟩ := rv3.get hu
    have hl1 : i < its.toArray.size := by simpa using (List.getElem?_eq_some_iff.mp hw1).1
    have hl2 : i < its2.toArray.size := by simpa using (List.getElem?_eq_some_iff.mp hw2).1
    have hl3 : i < its3.toArray.size := by simpa using (List.getElem?_eq_some_iff.mp hw3).1
    have hh : X.A.in1.handled = none := I.ok.hd hc
    refine Xs (wo hh true i1 l1 n1 its.toArray) (wo hh true i2 l2 n2 its2.toArray) (wo hh true i3 l3 n3 its3.toArray) ap hz hTI hTO ⟨h1, p⟩ ⟨h2, p2⟩ ⟨h3, p3⟩ hl1 hl2 hl3 fun v1 v2 v3 h' tk e1 e2 e3 hz' hTO' s1 s2 s3 hT' hk => ?_
    cases X6 hw1 e1
    cases X6 hw2 e2
    cases X6 hw3 e3
    obtain ⟨nd, az1, az2, az3, ao1, ao2, ao3, a12, a13, a21, a23, a31, a32⟩ := ap
    simp only [List.nodup_cons, List.mem_cons, List.not_mem_nil, or_false, not_or, not_false_eq_true, List.nodup_nil, and_true] at nd
    obtain ⟨⟨m1, m2, m3, m4, m5⟩, ⟨m6, m7, m8, m9⟩, _⟩ := nd
    refine ⟨_, rfl, wpAny_letOwnedTupleGo_zip hz' fun h2' hz2 hs2 => ?_⟩
    have hfr : H s.heap.objs.size = none := I.hok.fresh (Nat.le_refl _)
    have neZ : s.heap.objs.size ≠ z := Nat.ne_of_gt (Heap.lt_size hz)
    have hT2 : yG h2' s.heap.objs.size w1 w2 w3 := (hs2.2 _ neZ).trans hT'
    have hTI' : yG h' TI (.ref i1) (.ref i2) (.ref i3) := hk TI _ (by simp [Ne.symm m1, m6, m7, m8, m9]) hTI
    have lt : ∀ b ∈ [z, TI, TO, i1, i2, i3], b < s.heap.objs.size := fun b hb => by
      simp only [List.mem_cons, List.not_mem_nil, or_false] at hb
      rcases hb with rfl | rfl | rfl | rfl | rfl | rfl
      · exact Heap.lt_size hz
      · exact Heap.lt_size hTI
      · exact Heap.lt_size hTO
      · obtain ⟨o, ho, _⟩ := yU h1; exact Heap.lt_size ho
      · obtain ⟨o, ho, _⟩ := yU h2; exact Heap.lt_size ho
      · obtain ⟨o, ho, _⟩ := yU h3; exact Heap.lt_size ho
    refine ⟨.ref s.heap.objs.size, upd H s.heap.objs.size (.tup [x, y, u]), ?_, rfl, ⟨_, x, y, u, rfl, hfr, rfl, fun zs hz => by rw [I.list_inj hz hq1]; exact hx, fun zs hz => by rw [I.list_inj hz hq2]; exact hy, fun zs hz => by rw [I.list_inj hz hq3]; exact hu⟩,
      ⟨hz2, (hs2.2 TI (Ne.symm m1)).trans hTI', ⟨_, _, _, (hs2.2 TO (Ne.symm m2)).trans hTO'⟩, xF s1.1 fun o q => (hs2.2 i1 (Ne.symm m3)).trans q, xF s2.1 fun o q => (hs2.2 i2 (Ne.symm m4)).trans q, xF s3.1 fun o q => (hs2.2 i3 (Ne.symm m5)).trans q⟩, fun b hb => ?_⟩
    · refine I.grown (ch := [z, TI, TO, i1, i2, i3]) hf (Nat.le_refl _) (fun b v hb q => ?_) ?_
      · have nb : b ≠ z := fun w => hb (by simp [w])
        refine (hs2.2 b nb).trans (hk b v (fun w => hb ?_) q)
        simp only [List.mem_cons, List.not_mem_nil, or_false] at w ⊢
        rcases w with w | w | w | w | w
        · exact .inl w
        · exact .inr (.inr (.inl w))
        · exact .inr (.inr (.inr (.inl w)))
        · exact .inr (.inr (.inr (.inr (.inl w))))
        · exact .inr (.inr (.inr (.inr (.inr w))))
      · exact ⟨by show 3 ≤ sizeLine; decide, [w1, w2, w3], .cons rw1 (.cons rw2 (.cons rw3 .nil)), ⟨_, hT2, rfl, 0, rfl⟩⟩
    · rw [zz (Nat.ne_of_lt (lt b hb))]
      exact (hf b hb).1
  done := by
    intro X hP hw hK hc i pins s σ H E I hf st hg
    subst hP hw hK
    obtain ⟨hz, hTI, _, h1, _⟩ := st
    obtain ⟨xs, hq, rfl⟩ := hg
    obtain ⟨its, rv, p, _⟩ := I.sq (b := true) hq
    have hl := rv.length
    have hh : X.A.in1.handled = none := I.ok.hd hc
    have D := wo (prog := X.prog) (w := X.w) hh true i1 l1 n1 its.toArray
    refine X8 D ap.z1 ?_ hz hTI ⟨by rw [List.size_toArray, ← hl]; exact h1, p⟩ fun h' hk => ⟨rfl, I.turnedN (ch := [z, TI, TO, i1, i2, i3]) (t' := s.toks) hf fun b v hb q => hk b v (fun w => hb (by simp [w])) (fun w => hb (by simp [w])) q⟩
    have nd := ap.nd
    simp only [List.nodup_cons, List.mem_cons, List.not_mem_nil, or_false, not_or, not_false_eq_true, List.nodup_nil, and_true] at nd
    exact Ne.symm nd.1.2.2.1
  self := fun _ _ _ _ _ st h => wpAny_pyIter_zip st.1 h
noncomputable def zhj (K : PySem.W.Frag) (ta : TA) : TI := fun σ H R => ta σ H fun vs H1 => ∃ l1 l2 l3 xs ys us, vs = [.ref l1, .ref l2, .ref l3] ∧ SqL K H1 l1 xs ∧ SqL K H1 l2 ys ∧ SqL K H1 l3 us ∧ R (Izp3 K l1 l2 l3) H1
theorem zec {X : Cx} {es : List Expr} {k : Nat} {tp : Pos} {a b c : Expr} {ta : TA} {p pos : Pos} (hg : Gl X "zip") (hm : X.mg "zip" = none) (hb : bootBuiltins "zip" = some (.type "zip")) (ha : PA X [a, b, c] ta)
    (hs : starEach [a, b, c] X.env = (false, eval a X.env) :: starEach [b, c] X.env := by rfl) (hs2 : (backTo pos (starEach [b, c] X.env)).any (·.1) = false := by rfl) : PI X (.Tuple es k tp) (.Call (.Name "zip" p) [a, b, c] [] pos) (zhj X.K ta) := by
  intro pins s σ H R I h
  refine Call_ (vA I hg hm hb (PyProof.Rows.callWith_type1 (thn (ha pos pins s σ H _ I h) fun vs0 s1 hq => ?_) hs hs2))
  obtain ⟨vs, H1, I1, r1, l1, l2, l3, xs, ys, us, e, hq1, hq2, hq3, q⟩ := hq
  subst e
  obtain ⟨w1, t1, rfl, rr1, r1⟩ : ∃ u t, vs0 = u :: t ∧ xJ (.ref l1) u ∧ yg [.ref l2, .ref l3] t := by cases r1 with | cons r t => exact ⟨_, _, rfl, r, t⟩
  obtain ⟨w2, w3, rfl, rr2, rr3⟩ := zbn r1
  cases rr1
  cases rr2
  cases rr3
  obtain ⟨its, rv, p1, lt1⟩ := I1.sq (b := true) hq1
  obtain ⟨its2, rv2, p2, lt2⟩ := I1.sq (b := true) hq2
  obtain ⟨its3, rv3, p3, lt3⟩ := I1.sq (b := true) hq3
  refine Xp p1 p2 p3 fun h2 hz hTI hTO hi1 hi2 hi3 hk => wpAny_pyIter_zip hz ?_
  have hn : ∀ b, s1.heap.objs.size ≤ b → VB X pins H1 b := fun b hb => I1.fpOk hb (I1.hok.fresh hb)
  have q1 : ∀ j : Nat, s1.heap.objs.size + j ≠ l1 := fun j e => Nat.lt_irrefl _ (Nat.lt_of_lt_of_le (by rw [← e] at lt1; exact lt1) (Nat.le_add_right _ _))
  have q2 : ∀ j : Nat, s1.heap.objs.size + j ≠ l2 := fun j e => Nat.lt_irrefl _ (Nat.lt_of_lt_of_le (by rw [← e] at lt2; exact lt2) (Nat.le_add_right _ _))
  have q3 : ∀ j : Nat, s1.heap.objs.size + j ≠ l3 := fun j e => Nat.lt_irrefl _ (Nat.lt_of_lt_of_le (by rw [← e] at lt3; exact lt3) (Nat.le_add_right _ _))
  have ne : ∀ i j : Nat, i ≠ j → s1.heap.objs.size + i ≠ s1.heap.objs.size + j := fun i j h e => h (Nat.add_left_cancel e)
  have n0 : ∀ i : Nat, i ≠ 0 → s1.heap.objs.size + i ≠ s1.heap.objs.size := fun i h e => h (Nat.add_left_cancel (n := s1.heap.objs.size) (m := i) (k := 0) e)
  have ap : VM (s1.heap.objs.size + 5) (s1.heap.objs.size + 3) (s1.heap.objs.size + 4) s1.heap.objs.size (s1.heap.objs.size + 1) (s1.heap.objs.size + 2) [s1.heap.objs.size, l1] [s1.heap.objs.size + 1, l2] [s1.heap.objs.size + 2, l3] := by
    refine ⟨?_, ?_, ?_, ?_, ?_, ?_, ?_, ?_, ?_, ?_, ?_, ?_, ?_⟩
    · simp only [List.nodup_cons, List.mem_cons, List.not_mem_nil, or_false, not_or, not_false_eq_true, List.nodup_nil, and_true]
      exact ⟨⟨ne 5 3 (by decide), ne 5 4 (by decide), n0 5 (by decide), ne 5 1 (by decide), ne 5 2 (by decide)⟩, ⟨ne 3 4 (by decide), n0 3 (by decide), ne 3 1 (by decide), ne 3 2 (by decide)⟩, ⟨n0 4 (by decide), ne 4 1 (by decide), ne 4 2 (by decide)⟩, ⟨Ne.symm (n0 1 (by decide)), Ne.symm (n0 2 (by decide))⟩, ne 1 2 (by decide)⟩
    all_goals simp only [List.mem_cons, List.not_mem_nil, or_false, not_or]
    · exact ⟨n0 5 (by decide), q1 5⟩
    · exact ⟨ne 5 1 (by decide), q2 5⟩
    · exact ⟨ne 5 2 (by decide), q3 5⟩
    · exact ⟨n0 4 (by decide), q1 4⟩
    · exact ⟨ne 4 1 (by decide), q2 4⟩
    · exact ⟨ne 4 2 (by decide), q3 4⟩
    · exact ⟨Ne.symm (n0 1 (by decide)), q2 0⟩
    · exact ⟨Ne.symm (n0 2 (by decide)), q3 0⟩
    · exact ⟨n0 1 (by decide), q1 1⟩
    · exact ⟨ne 1 2 (by decide), q3 1⟩
    · exact ⟨n0 2 (by decide), q1 2⟩
    · exact ⟨ne 2 1 (by decide), q2 2⟩
  refine ⟨_, _, _, _, H1, rfl, I1.kept (t' := s1.toks) hk, zbB l1 l2 l3 _ _ _ _ _ _ ap (Nat.ne_of_lt lt1) (Nat.ne_of_lt (Nat.lt_succ_of_lt lt2)) (Nat.ne_of_lt (Nat.lt_succ_of_lt (Nat.lt_succ_of_lt lt3))), ⟨hz, hTI, ⟨_, _, _, hTO⟩, hi1, hi2, hi3⟩, fun b hb => ?_, q⟩
  simp only [List.mem_cons, List.not_mem_nil, or_false] at hb
  rcases hb with rfl | rfl | rfl | rfl | rfl | rfl
  · exact hn _ (Nat.le_add_right _ _)
  · exact hn _ (Nat.le_add_right _ _)
  · exact hn _ (Nat.le_add_right _ _)
  · exact hn _ (Nat.le_refl _)
  · exact hn _ (Nat.le_add_right _ _)
  · exact hn _ (Nat.le_add_right _ _)
end L2
namespace Dl
open PySem L2 PySem.Spec PyProof.Rows
variable [KK] {X : Cx} {a b c : Expr} {pos : Pos}
noncomputable def YO : List D → List D → List D → List D
  | x :: xs, y :: ys, u :: us => .tup [x, y, u] :: YO xs ys us
  | _, _, _ => []
omit [KK] in
theorem Zk : ∀ (xs ys us : List D) (i : Nat) (d : D), (YO xs ys us)[i]? = some d → ∃ x y u, xs[i]? = some x ∧ ys[i]? = some y ∧ us[i]? = some u ∧ d = .tup [x, y, u]
  | x :: xs, y :: ys, u :: us, 0, d, h => by cases h; exact ⟨x, y, u, rfl, rfl, rfl, rfl⟩
  | x :: xs, y :: ys, u :: us, i + 1, d, h => by
    obtain ⟨x', y', u', h1, h2, h3, h4⟩ := Zk xs ys us i d (by simpa [YO] using h)
    exact ⟨x', y', u', by simpa using h1, by simpa using h2, by simpa using h3, h4⟩
  | [], _, _, _, _, h => by simp [YO] at h
  | _ :: _, [], _, _, _, h => by simp [YO] at h
  | _ :: _, _ :: _, [], _, _, h => by simp [YO] at h
omit [KK] in
theorem vf : ∀ (xs ys us : List D), xs.length ≤ ys.length → xs.length ≤ us.length → (YO xs ys us).length = xs.length
  | [], _, _, _, _ => by simp [YO]
  | x :: xs, [], _, h, _ => by simp at h
  | x :: xs, _ :: _, [], _, h => by simp at h
  | x :: xs, y :: ys, u :: us, h, h2 => by simp [YO, vf xs ys us (by simpa using h) (by simpa using h2)]
noncomputable def V9 (f : Ev → Option (List D)) : Ev → Option (List D) := fun ρ => (f ρ).bind fun as => match as with
  | [.lst xs, .lst ys, .lst us] => if xs.length ≤ ys.length ∧ xs.length ≤ us.length then some (YO xs ys us) else none
  | _ => none
theorem zej {es : List Expr} {k : Nat} {tp p : Pos} {f : Ev → Option (List D)} (hg : Gl X "zip") (hm : X.mg "zip" = none) (ha : AD X [a, b, c] f)
    (hs : starEach [a, b, c] X.env = (false, eval a X.env) :: starEach [b, c] X.env := by rfl) (hs2 : (backTo pos (starEach [b, c] X.env)).any (·.1) = false := by rfl) : ID X (.Tuple es k tp) (.Call (.Name "zip" p) [a, b, c] [] pos) (V9 f) := by
  obtain ⟨t, pa, r⟩ := ha
  refine ⟨_, zec hg hm zdj pa hs hs2, fun σ ρ F H ds R s va e q => ?_⟩
  obtain ⟨as, e1, e2⟩ := Option.bind_eq_some_iff.mp e
  refine r σ ρ F H as _ s va e1 fun F1 H1 v g1 a1 => ?_
  split at e2
  · rename_i xs ys us
    have e2 : (if xs.length ≤ ys.length ∧ xs.length ≤ us.length then some (YO xs ys us) else none) = some ds := e2
    by_cases hle : xs.length ≤ ys.length ∧ xs.length ≤ us.length
    · rw [if_pos hle] at e2
      cases e2
      obtain ⟨x, r', rfl, ax, ar⟩ := a1.cons_inv
      obtain ⟨y, r', rfl, ay, ar⟩ := ar.cons_inv
      obtain ⟨u, r', rfl, au, ar⟩ := ar.cons_inv
      cases ar.nil_inv
      obtain ⟨p1, vs1, rfl, hx, al1⟩ := ax.lst_inv
      obtain ⟨p2, vs2, rfl, hy, al2⟩ := ay.lst_inv
      obtain ⟨p3, vs3, rfl, hu, al3⟩ := au.lst_inv
      refine ⟨p1, p2, p3, vs1, vs2, vs3, rfl, SqL.of (g1.fh _ _ hx), SqL.of (g1.fh _ _ hy), SqL.of (g1.fh _ _ hu), q F1 H1 _ g1 fun i F2 H2 s1 s2 => ?_⟩
      have q1 : SqL X.K H2 p1 vs1 := SqL.of (s2 _ _ (s1 _ _ hx))
      have q2 : SqL X.K H2 p2 vs2 := SqL.of (s2 _ _ (s1 _ _ hy))
      have q3 : SqL X.K H2 p3 vs3 := SqL.of (s2 _ _ (s1 _ _ hu))
      refine ⟨fun hl => ⟨vs1, q1, by rw [hl, vf _ _ _ hle.1 hle.2, al1.length]⟩, fun d hd => ?_⟩
      obtain ⟨x, y, u, h1, h2, h3, rfl⟩ := Zk _ _ _ _ _ hd
      obtain ⟨w1, hw1, aw1⟩ := al1.get h1
      obtain ⟨w2, hw2, aw2⟩ := al2.get h2
      obtain ⟨w3, hw3, aw3⟩ := al3.get h3
      refine ⟨⟨vs1, vs2, vs3, w1, w2, w3, q1, q2, q3, hw1, hw2, hw3⟩, fun z H3 hz => ?_⟩
      obtain ⟨T, x', y', u', rfl, hT, rfl, hx', hy', hu'⟩ := hz
      have e5 := hx' vs1 q1
      have e6 := hy' vs2 q2
      have e7 := hu' vs3 q3
      rw [hw1] at e5
      rw [hw2] at e6
      rw [hw3] at e7
      cases e5
      cases e6
      cases e7
      have g3 := Gr.alloc s2 hT (.tup [w1, w2, w3])
      exact ⟨_, g3, .tup zo (.cons (aw1.mono (s1.trans g3.ff)) (.cons (aw2.mono (s1.trans g3.ff)) (.cons (aw3.mono (s1.trans g3.ff)) .nil)))⟩
    · rw [if_neg hle] at e2; cases e2
  · cases e2
end Dl
namespace Dl
open PySem L2
variable [KK]
noncomputable def Vu (F H : Hp) (Q : VK) (d : D) : Prop := match d with
  | .lst es => ∀ F' H' q xs, Gr F H F' H' → H q = none → F' q = none → H' q = some (.lst xs) → AtL F' es xs → Q (.ref q) H'
  | d => ∀ F' H' v, Gr F H F' H' → At F' d v → Q v H'
noncomputable def zgB (Fb Hb : Hp) (E : zaT) : Ctl → Prop
  | .rt d => Vu Fb Hb E.rt d
  | c => SOk Fb Hb E c
noncomputable def RSN (t : TS) (g : SE → Ctl) : Prop := ∀ (Fb Hb F H : Hp) (ρ : SE) (σ : St) (E : zaT), Rl Fb Hb F H ρ σ → zgB Fb Hb E (g ρ) → t E σ H
noncomputable def SDN (X : Cx) (st : Stmt) (g : SE → Ctl) : Prop := ∃ t, PS X st t ∧ RSN t g
noncomputable def zdA (X : Cx) (sts : List Stmt) (g : SE → Ctl) : Prop := ∃ t, PSs X sts t ∧ RSN t g
section
variable {X : Cx} {st : Stmt} {sts : List Stmt} {a b c e tg : Expr} {pos pos' : Pos}
theorem V3 : zdA X [] zG := ⟨_, za9, fun _ _ F H ρ σ E r h => h F H σ r⟩
theorem ZM {g h : SE → Ctl} (h1 : SDN X st g) (h2 : zdA X sts h) : zdA X (st :: sts) (zM g h) := by
  obtain ⟨t, p, r⟩ := h1
  obtain ⟨u, p2, r2⟩ := h2
  refine ⟨_, XR p p2, fun Fb Hb F H ρ σ E rl k => ?_⟩
  refine r Fb Hb F H ρ σ { E with nx := u E } rl ?_
  unfold zM at k
  cases e : g ρ with
  | nx ρ' =>
    rw [e] at k
    exact fun F' H' σ' rl' => r2 Fb Hb F' H' ρ' σ' E rl' k
  | rt d => rw [e] at k; exact k
  | bk d => rw [e] at k; exact k
  | ct d => rw [e] at k; exact k
  | no => rw [e] at k; exact k
theorem Y3 {g : SE → Ctl} (h1 : SDN X st g) : zdA X [st] g := let ⟨_, p, r⟩ := h1; ⟨_, Vf p, r⟩
theorem zfs {g : SE → Ctl} (h : SD X st g) (hn : ∀ ρ d, g ρ ≠ .rt d) : SDN X st g := by
  obtain ⟨t, p, r⟩ := h
  refine ⟨t, p, fun Fb Hb F H ρ σ E rl k => r Fb Hb F H ρ σ E rl ?_⟩
  cases e : g ρ with
  | rt d => exact absurd e (hn ρ d)
  | nx _ => rw [e] at k; exact k
  | bk _ => rw [e] at k; exact k
  | ct _ => rw [e] at k; exact k
  | no => rw [e] at k; exact k
omit [KK] in
theorem zd8 {f : Ev → Option D} (ρ : SE) (d : D) : Yh f ρ ≠ .rt d := by
  unfold Yh
  cases f (visG ρ) <;> (intro h; cases h)
theorem zal {f : Ev → Option (List D)} (h : FL X e f) : SDN X (.Return (some e) pos) (yn (xS f)) := by
  obtain ⟨t, p, r⟩ := h
  refine ⟨_, zac p, fun Fb Hb F H ρ σ E rl k => ?_⟩
  unfold yn xS at k
  cases h : f (visG ρ) with
  | none => rw [h] at k; exact k.elim
  | some es =>
    rw [h] at k
    exact r σ _ _ H es _ rl.gh rl.visG h fun F' H' q xs g h0 hF hH hx => k F' H' q xs (rl.out g) (rl.notbase h0) hF hH hx
theorem zcD (h : ED X e (eC .non)) : SDN X (.Return (some e) pos) (yn (eC .non)) := by
  obtain ⟨t, p, r⟩ := h
  refine ⟨_, zac p, fun Fb Hb F H ρ σ E rl k => ?_⟩
  exact r σ _ _ H .non _ rl.gh rl.visG rfl fun F' H' v g av => k F' H' v (rl.out g) av
theorem zdu {as bs : List Stmt} {t : Ev → Option Bool} {g h : SE → Ctl} (hc : TD X c t) (ha : zdA X as g) (hb : zdA X bs h) : SDN X (.If c as bs pos) (sIf t g h) := by
  obtain ⟨tc, pc, rc⟩ := hc
  obtain ⟨ta, pa, ra⟩ := ha
  obtain ⟨tb, pb, rb⟩ := hb
  refine ⟨_, zf3 pc pa pb, fun Fb Hb F H ρ σ E rl k => ?_⟩
  unfold sIf at k
  cases h : t (visG ρ) with
  | none => rw [h] at k; exact k.elim
  | some d =>
    rw [h] at k
    refine rc σ _ _ H d _ rl.gh rl.visG h fun F' H' g => ?_
    have rl2 := rl.grow (rl.back g).1
    cases d with
    | true => rw [if_pos rfl]; exact ra Fb Hb _ H' ρ σ E rl2 k
    | false => rw [if_neg Bool.false_ne_true]; exact rb Fb Hb _ H' ρ σ E rl2 k
theorem Vu.up {Fb Hb F1 H1 : Hp} {Q : VK} {d : D} (g1 : Gr Fb Hb F1 H1) (k : Vu Fb Hb Q d) : Vu F1 (hb2 F1 Hb) Q d := by
  have base : ∀ q, hb2 F1 Hb q = none → Hb q = none := fun q h => by
    cases e : F1 q with
    | none => rw [v0 e] at h; exact h
    | some o => rw [VJ e] at h; cases h
  cases d with
  | lst es => exact fun F' H' q xs g h0 hF hH hx => k F' H' q xs (g1.up g) (base q h0) hF hH hx
  | _ => exact fun F' H' v g av => k F' H' v (g1.up g) av
theorem zdT {Fb Hb F1 H1 : Hp} {ρ : SE} {σ : St} {E : zaT} {J : It} {g : TG} {tb : TS} {ds : List D} {b : D → SE → Option SE} {gb : SE → Ctl} (hit : zeP J F1 ds) (rg : RG g b) (rb : RSN tb gb) (rl0 : Rl Fb Hb F1 H1 ρ σ) (k : zgB Fb Hb E (Vy b gb ds ρ)) :
    ∃ W : Nat → Nat → St → Hp → Prop, (∃ m, W 0 m σ H1) ∧ ∀ i m σ H, W i m σ H →
      (J.stop i H ∧ E.nx σ H) ∨ (J.go i H ∧ ∃ N : St → Hp → Prop, (∀ σ' H', N σ' H' → ∃ m', m' < m ∧ W (i + 1) m' σ' H') ∧ ∀ x H', J.yld i H x H' → g x σ H' fun σ2 H2 => tb { E with nx := N, ct := N, bk := E.nx } σ2 H2) := by
  refine ⟨fun i m σ H => m = ds.length - i ∧ i ≤ ds.length ∧ ∃ F ρ, yP F1 F ∧ Rl Fb Hb F H ρ σ ∧ zgB Fb Hb E (Vy b gb (ds.drop i) ρ), ⟨ds.length, by simp, Nat.zero_le _, F1, ρ, yP.refl _, rl0, k⟩, ?_⟩
  rintro i m σ H ⟨rfl, hi, F, ρ, s1, rl, k⟩
  obtain ⟨stop, go⟩ := hit i F H s1 rl.gr.fh
  by_cases hlt : i < ds.length
  · have hd : ds.drop i = ds[i] :: ds.drop (i + 1) := List.drop_eq_getElem_cons hlt
    rw [hd] at k
    unfold Vy at k
    obtain ⟨g1, g2⟩ := go ds[i] (by simp [hlt])
    refine .inr ⟨g1, fun σ H => ∃ F ρ, yP F1 F ∧ Rl Fb Hb F H ρ σ ∧ zgB Fb Hb E (Vy b gb (ds.drop (i + 1)) ρ), fun σ' H' w => ⟨ds.length - (i + 1), by omega, rfl, hlt, w⟩, fun x H' hy => ?_⟩
    obtain ⟨F3, g3, a3⟩ := g2 x H' hy
    cases hb : b ds[i] ρ with
    | none => rw [hb] at k; exact k.elim
    | some ρ1 =>
      rw [hb] at k
      dsimp only at k
      refine rg Fb Hb F3 H' ρ ρ1 σ _ x _ (rl.grow g3) a3 hb fun σ2 rl2 => ?_
      have s3 := s1.trans g3.ff
      refine rb F1 (hb2 F1 Hb) F3 H' ρ1 σ2 _ (rl2.dn rl0.gr.ff s3) ?_
      cases hg : gb ρ1 with
      | nx ρ' => rw [hg] at k; exact fun F4 H4 σ4 r4 => ⟨F4, ρ', r4.gr.ff, r4.up rl0.gr, k⟩
      | ct ρ' => rw [hg] at k; exact fun F4 H4 σ4 r4 => ⟨F4, ρ', r4.gr.ff, r4.up rl0.gr, k⟩
      | bk ρ' => rw [hg] at k; exact fun F4 H4 σ4 r4 => k F4 H4 σ4 (r4.up rl0.gr)
      | rt d => rw [hg] at k; exact Vu.up rl0.gr k
      | no => rw [hg] at k; exact k.elim
  · have e : i = ds.length := by omega
    subst e
    rw [List.drop_length] at k
    exact .inl ⟨stop rfl, k F H σ rl⟩
theorem zdK {iter : Expr} {body : List Stmt} {f : Ev → Option (List D)} {b : D → SE → Option SE} {g : SE → Ctl} (hp : PassesOwn (model X.prog X.w) X.A X.env X.xe) (hc : X.calm = true) (hi : ID X tg iter f) (hg : BD X tg b) (hb : zdA X body g)
    (hs : ∀ x, foldedSetIterable iter X.env x = pure x := by intro _; rfl) : SDN X (.For tg iter body [] pos) (vz f b g) := by
  obtain ⟨wi, pi, ri⟩ := hi
  obtain ⟨tg', pg, rg⟩ := hg
  obtain ⟨tb, pb, rb⟩ := hb
  refine ⟨_, VP hp hc pi pg pb hs, fun Fb Hb F H ρ σ E rl k => ?_⟩
  unfold vz at k
  cases h : f (visF ρ) with
  | none => rw [h] at k; exact k.elim
  | some ds =>
    rw [h] at k
    exact ri σ _ _ H ds _ rl.gr.fh rl.visF h fun F1 H1 J g1 ok => zdT ok rg rb (rl.grow g1) k
end
noncomputable def zgE (m : Nat) (p : List D → Option D) : Sp := fun vs H Q _ => ∃ ds d F, ds.length = m ∧ yP F H ∧ AtL F ds vs ∧ p ds = some d ∧ Vu F H Q d
theorem zgs {P : Program} {w : World} {K : PySem.W.Frag} {mg : Str → Option Value} {base : Heap} {x qual : Str} {st : Stmt} {f : Addr} {fd : FuncData} {N ps : List Str} {k : Nat} {g : SE → Ctl} (Fu : Fun K x qual st f fd) (S : zB N ps (zd st))
    (hb : ∀ (cdv : Value) (A : Around) (outer : List Env) (s : Shared) (H : Hp) (E : XK), YI k (A.deeper (PyProof.Rows.envOfC qual (zd st) s.heap.objs.size f cdv)) → zdA (zcp CX0 P w K mg base N qual (zd st) f cdv A outer s H E).nox (zx st) g) :
    y0 P w K mg base CX0 (k + 1) f fd ps (zgE ps.length (fnD N.length g)) := by
  refine Fu.ok S (fun vs H Q E h => ?_) fun cdv A outer s H vs Q E hr h => ?_
  · obtain ⟨ds, d, F, hl, _, a, _⟩ := h
    rw [a.length]; exact hl
  · obtain ⟨ds, d, F, hl, sm, a, e, q⟩ := h
    obtain ⟨t, p, r⟩ := hb cdv A outer s H E hr
    refine ⟨t, p, r F H F H _ _ _ (X2 sm a) ?_⟩
    unfold fnD at e
    cases hg : g (ds.map .v ++ List.replicate (N.length - ds.length) .no) with
    | rt d' => rw [hg] at e; cases e; exact q
    | nx ρ => rw [hg] at e; cases e; exact fun F' H' σ rl => q F' H' _ rl.gr .non
    | bk ρ => rw [hg] at e; cases e
    | ct ρ => rw [hg] at e; cases e
    | no => rw [hg] at e; cases e
theorem zfe {P : Program} {w : World} {K : PySem.W.Frag} {mg : Str → Option Value} {base : Heap} {f : Addr} {fd : FuncData} {ps : List Str} {k m : Nat} {p : List D → Option D} (F : y0 P w K mg base CX0 k f fd ps (zgE m p)) : y0 P w K mg base CX0 k f fd ps (spD m p) :=
  F.imp fun vs H Q E ⟨ds, d, F', h1, h2, h3, h4, h5⟩ => by
    refine ⟨ds, d, F', h1, h2, h3, h4, ?_⟩
    cases d with
    | lst es => exact fun F2 H2 q xs g h0 hF hH hx => h5 _ _ _ (g.show h0 hF hH) (At.lst zo (hx.mono (fun b u e => by rw [zz (zm e hF)]; exact e)))
    | _ => exact h5
noncomputable def EN (X : Cx) (e : Expr) (f : Ev → Option D) : Prop := ∃ t, PE X e t ∧ ∀ (σ : St) (ρ : Ev) (F H : Hp) (d : D) (Q : VK), yP F H → VAt F ρ σ → f ρ = some d → Vu F H Q d → t σ H Q
theorem zeq {X : Cx} {x : Str} {k m : Nat} {f : Addr} {fd : FuncData} {ps : List Str} {p : List D → Option D} {e : Expr} {es : List Expr} {pp pos : Pos} {fa : Ev → Option (List D)} (F : y0 X.prog X.w X.K X.mg X.base CX0 k f fd ps (zgE m p)) (hr : YI k X.A) (hg : Gl X x) (hm : X.mg x = some (.ref f)) (hk : PySem.W.keepIn X.K (.ref f) = true) (hb : X5 X.K fd ps [])
    (ha : AD X (e :: es) fa) (hdb : (x == ("__debug__" : Str)) = false := by decide) (he : starEach (e :: es) X.env = (false, eval e X.env) :: starEach es X.env := by rfl) (hpl : (backTo pos (starEach es X.env)).any (·.1) = false := by rfl) :
    EN X (.Call (.Name x pp) (e :: es) [] pos) (zr m p fa) := by
  obtain ⟨t, pa, r⟩ := ha
  refine ⟨_, Vw F hr hg hm hk hb .nil zdP pa hdb he hpl, fun σ ρ F0 H d Q s va e q => ?_⟩
  obtain ⟨ds, e1, e2⟩ := Option.bind_eq_some_iff.mp e
  split at e2 <;> try cases e2
  rename_i hl
  refine r σ ρ F0 H ds _ s va e1 fun F1 H1 vs g1 a1 => ?_
  refine ⟨ds, d, F1, hl, g1.fh, by rw [List.append_nil]; exact a1, e2, ?_⟩
  cases d with
  | lst es => exact fun F' H' q' xs g h0 hF hH hx => q F' H' q' xs (g1.trans g) (Wc g1 h0) hF hH hx
  | _ => exact fun F' H' v g av => q F' H' v (g1.trans g) av
noncomputable def zd3 (i : Nat) (f : Ev → Option D) : SE → Ctl := fun ρ => match f (visF ρ) with
  | some (.lst es) => .nx (ρ.set i (.o es))
  | some d => .nx (ρ.set i (.v d))
  | none => .no
theorem zfI {X : Cx} {e : Expr} {pos pos' : Pos} {i : Nat} {x : Str} {f : Ev → Option D} (hN : X.N.Nodup) (hi : X.N[i]? = some x) (hx : Loc X.env.scope x) (he : EN X e f) (hs : swapsWith e (some (.Name x pos')) pos.line X.env = pure false := by rfl)
    (hf : X.fn x = true ∨ X.env.scope.names.lookup x = some .local := by first | exact .inl rfl | exact .inr rfl | assumption) : SD X (.Assign [.Name x pos'] e pos) (zd3 i f) := by
  obtain ⟨t, p, r⟩ := he
  refine ⟨_, zbv hN hi hx p hs hf, fun Fb Hb F H ρ σ E rl k => ?_⟩
  unfold zd3 at k
  cases h : f (visF ρ) with
  | none => rw [h] at k; exact k.elim
  | some d =>
    rw [h] at k
    refine r σ _ _ H d _ rl.gr.fh rl.visF h ?_
    cases d with
    | lst es => exact fun F' H' q xs g h0 hF hH hx => k F' H' _ ((rl.grow g).setO (rl.notbase h0) hF hH hx (rl.notown h0))
    | _ => exact fun F' H' v g av => k F' H' _ ((rl.grow g).set av)
omit [KK] in
theorem zd7 {i : Nat} {f : Ev → Option D} {ρ ρ' : SE} {es : List D} (h : f (visF ρ) = some (.lst es)) (h2 : ρ.set i (.o es) = ρ' := by rfl) : zd3 i f ρ = .nx ρ' := by
  unfold zd3
  rw [h, ← h2]
omit [KK] in
theorem zdO {i : Nat} {f : Ev → Option D} {ρ ρ' : SE} (h : f (visF ρ) = some .non) (h2 : ρ.set i (.v .non) = ρ' := by rfl) : zd3 i f ρ = .nx ρ' := by
  unfold zd3
  rw [h, ← h2]
end Dl
namespace Mz
open PySem Dl
noncomputable abbrev Tie := Int × Int
noncomputable def ltP (s t : Tie) : Prop := s.1 < t.1 ∨ (s.1 = t.1 ∧ s.2 < t.2)
noncomputable instance (s t : Tie) : Decidable (ltP s t) := by unfold ltP; infer_instance
noncomputable def zq (t : Tie) : D := .tup [.int t.1, .int t.2]
noncomputable def zat (many : Int) (ties : List Tie) : D := .tup [.int many, .tup (ties.map zq)]
noncomputable def inR (m a : Int) : Bool := decide (0 ≤ a) && decide (a ≤ m - 1)
end Mz
namespace Mz
open Dl
noncomputable def W1 (c k : Int) : Int :=
  let a := (c % 2147483647 + 977 * k + 1) * 48271 % 2147483647
  let b := a * a % 2147483629
  (b + 40692 * (k + 3)) * 69621 % 2147483647 / 8
end Mz
namespace Mz
open Dl
theorem Yc {P : Nat → Prop} : ∀ k, P k → ∃ j, P j ∧ ∀ i, P i → j ≤ i := by
  intro k
  induction k using Nat.strongRecOn with
  | _ k ih =>
    intro h
    by_cases c : ∃ i, i < k ∧ P i
    · obtain ⟨i, hi, h2⟩ := c
      exact ih i hi h2
    · exact ⟨k, h, fun i hi => Nat.le_of_not_lt fun z => c ⟨i, z, hi⟩⟩
theorem zdw {n : Nat} {i : Int} (h0 : 0 ≤ i) (h1 : i < n) : L2.ixN n i = some i.toNat := by
  unfold L2.ixN
  rw [if_pos h0, if_pos h1]
theorem zdn {α : Type} {xs : List α} {i : Int} {x : α} (h0 : 0 ≤ i) (h : xs[i.toNat]? = some x) : L2.atI xs i = some x := by
  have := (List.getElem?_eq_some_iff.mp h).1
  unfold L2.atI
  rw [zdw h0 (by omega)]
  exact h
theorem zdD {m : Bool} {i : Nat} {fk fe : Ev → Option D} {ρ : SE} {ds : List D} {d : D} {k : Int} (h1 : vEv m fe ρ = some d) (h2 : fk (visG ρ) = some (.int k)) (h3 : ρ[i]? = some (.o ds)) (h4 : 0 ≤ k) (h5 : k < ds.length) :
    Ys m i fk fe ρ = .nx (ρ.set i (.o (ds.set k.toNat d))) := by
  unfold Ys
  rw [h1, h2, h3]
  show (match ((L2.ixN ds.length k).map fun j => ρ.set i (Sl.o (ds.set j d))) with | some ρ' => Ctl.nx ρ' | none => Ctl.no) = _
  rw [zdw h4 h5]
  rfl
theorem zbq : ∀ {ns : List Int} {k : Nat} {x : Int} (h : k < ns.length), (ns.set k x).sum = ns.sum - ns[k] + x
  | [], _, _, h => by simp at h
  | n :: ns, 0, x, _ => by simp; omega
  | n :: ns, k + 1, x, h => by
    have := zbq (ns := ns) (k := k) (x := x) (by simpa using h)
    simp only [List.set_cons_succ, List.sum_cons, List.getElem_cons_succ, this]
    omega
theorem zax (ts : List Tie) : (zan ts).Perm ts := List.mergeSort_perm _ _
theorem zeF {d : D} {n : Int} (h0 : 0 ≤ n) (h1 : n ≤ 1000) : zdB (.lst [d]) (.int n) = some (List.replicate n.toNat d) := by
  show (if -(2 ^ 63) ≤ n ∧ n < 2 ^ 63 ∧ lim (1 * n.toNat) = true then _ else none) = _
  rw [if_pos ⟨by omega, by omega, w8 (by omega)⟩, List.flatten_replicate_singleton]
theorem zev {m : Bool} {i : Nat} {fk fe : Ev → Option D} {ρ : SE} {n b kk : SE → Prop} {r : D → Prop} (ds : List D) (d : D) (k : Int) (h1 : vEv m fe ρ = some d) (h2 : fk (visG ρ) = some (.int k)) (h3 : ρ[i]? = some (.o ds)) (h4 : 0 ≤ k) (h5 : k < ds.length) (q : n (ρ.set i (.o (ds.set k.toNat d)))) :
    (Ys m i fk fe ρ).w n b kk r := Yj (zdD h1 h2 h3 h4 h5) q
theorem zb4 (n : Nat) : (List.replicate n (0 : Int)).sum = 0 := by
  induction n with
  | zero => rfl
  | succ n ih => rw [List.replicate_succ, List.sum_cons, ih]; rfl
theorem za7 {i j : Int} (h1 : -(2 ^ 64) < i) (h2 : i < 2 ^ 64) : wy (.int i) (.int j) = some (.int (i * j)) := by
  show (if Yn i j = true then _ else none) = _
  rw [if_pos (show Yn i j = true from decide_eq_true (.inl ⟨h1, h2⟩))]
theorem zcW {α : Type} (xs : List α) (lo hi : Option Int) : (X9 xs lo hi).length ≤ xs.length := by
  unfold X9
  rw [List.length_take, List.length_drop]
  omega
theorem Y0 {a b : List D} (h : a.length + b.length ≤ 1000) : wg (.lst a) (.lst b) = some (.lst (a ++ b)) := by
  show (if lim (a.length + b.length) = true then _ else none) = _
  rw [if_pos (w8 h)]
theorem zfv {g h : SE → Ctl} {ρ : SE} {n b k : SE → Prop} {r : D → Prop} (J : SE → Prop) (h1 : (g ρ).w J b k r) (h2 : ∀ ρ', J ρ' → (h ρ').w n b k r) : (zM g h ρ).w n b k r :=
  wd (ze5 h1 h2 (fun _ h => h) (fun _ h => h) fun _ h => h)
theorem za4 : ∀ {ns : List Int}, (∀ x ∈ ns, 0 ≤ x) → 0 ≤ ns.sum
  | [], _ => by simp
  | n :: ns, h => by
    have := za4 (ns := ns) fun x hx => h x (List.mem_cons_of_mem _ hx)
    have := h n List.mem_cons_self
    rw [List.sum_cons]
    omega
theorem xj {m : Bool} {i : Nat} {f : Ev → Option D} {ρ ρ' : SE} {d : D} (h : vEv m f ρ = some d) (h2 : ρ.set i (.v d) = ρ' := by rfl) : wm m i f ρ = .nx ρ' := by
  unfold wm
  rw [h, ← h2]
theorem Xy {f : Ev → Option D} {ρ : SE} {d : D} (h : f (visG ρ) = some d) : Yh f ρ = .nx ρ := by
  unfold Yh
  rw [h]
theorem vR {f : Ev → Option D} {ρ : SE} {d : D} (h : f (visG ρ) = some d) : yn f ρ = .rt d := by
  unfold yn
  rw [h]
theorem zbh {i : Nat} {f : Ev → Option (List D)} {ρ ρ' : SE} {ds : List D} (h : f (visF ρ) = some ds) (h2 : ρ.set i (.o ds) = ρ' := by rfl) : Yi i f ρ = .nx ρ' := by
  unfold Yi
  rw [h, ← h2]
theorem yH {a b : Int} : neD (.int a) (.int b) = some (.bl (!decide (a = b))) := rfl
theorem Y2 {a m x : Int} (h : 0 < m) (hx : a % m = x) : 0 ≤ x ∧ x < m := by
  subst hx
  exact ⟨Int.emod_nonneg _ (by omega), Int.emod_lt_of_pos _ h⟩
theorem zfj {m : Int} (h : 1 ≤ m) : 0 < m := by omega
theorem zhl {d : D} {m : Int} (h1 : 1 ≤ m) (h8 : m ≤ 8) : zdB (.lst [d]) (.int m) = some (List.replicate m.toNat d) := zeF (by omega) (by omega)
theorem yb {a b : Int} : YN (.int a) (.int b) = some (.bl (decide (a = b))) := rfl
theorem yE {a b : Bool} : YN (.bl a) (.bl b) = some (.bl (decide (a = b))) := rfl
theorem zZ {a b : PySem.Str} : YN (.str a) (.str b) = some (.bl (decide (a = b))) := rfl
theorem zU {a b : Int} : wg (.int a) (.int b) = some (.int (a + b)) := rfl
end Mz
namespace Mz
open Dl
theorem zfQ {α : Type} (xs : List α) (k : Nat) : X9 xs none (some (k : Int)) = xs.take k := by
  unfold X9
  rw [HT.sIx_none, List.drop_zero, Nat.sub_zero, HT.sIx_nat]
  by_cases h : k ≤ xs.length
  · rw [Nat.min_eq_left h]
  · rw [Nat.min_eq_right (by omega), List.take_of_length_le (Nat.le_refl _), List.take_of_length_le (by omega)]
theorem zco {α : Type} (xs : List α) (k : Nat) : X9 xs (some (k : Int)) none = xs.drop k := by
  unfold X9
  rw [HT.sIx_none, HT.sIx_nat]
  by_cases h : k ≤ xs.length
  · rw [Nat.min_eq_left h, List.take_of_length_le (by rw [List.length_drop]; omega)]
  · rw [Nat.min_eq_right (by omega), Nat.sub_self, List.take_zero, List.drop_of_length_le (by omega)]
section
variable {ρ : Ev} {f g h : Ev → Option D} {a : Ev → Option (List D)} {t u : Ev → Option Bool} {d e x y z : D} {ds es : List D} {b c : Bool}
theorem xg : zu ρ = some [] := rfl
theorem zv (h1 : f ρ = some d) (h2 : a ρ = some ds) : zc f a ρ = some (d :: ds) := by unfold zc; rw [h1, h2]; rfl
theorem zJ {n : Nat} {p : List D → Option D} (h1 : a ρ = some ds) (h2 : p ds = some d) (hl : ds.length = n := by rfl) : zr n p a ρ = some d := by
  unfold zr
  rw [h1, Option.bind_some, if_pos hl, h2]
theorem zcK {n : Nat} {p : List D → Option (List D)} (h1 : a ρ = some ds) (h2 : p ds = some es) (hl : ds.length = n := by rfl) : WF n p a ρ = some es := by
  unfold WF
  rw [h1, Option.bind_some, if_pos hl, h2]
theorem za3 {i n : Nat} {p : List D → Option D} {σ σ' : SE} (h1 : a (visF σ) = some ds) (h2 : p ds = some d) (hl : ds.length = n := by rfl) (h3 : σ.set i (.v d) = σ' := by rfl) : wm false i (zr n p a) σ = .nx σ' := xj (show zr n p a (visF σ) = some d from zJ h1 h2 hl) h3
theorem zA {k : D → D → Option D} (h1 : f ρ = some x) (h2 : g ρ = some y) (h3 : k x y = some z) : zk k f g ρ = some z := by unfold zk; rw [h1, h2]; exact h3
theorem vZ (h1 : a ρ = some ds) : xS a ρ = some (.lst ds) := by unfold xS; rw [h1]; rfl
theorem zbj {k : List D → Option D} (h1 : a ρ = some ds) (h2 : k ds = some d) : eFn k a ρ = some d := by unfold eFn; rw [h1]; exact h2
theorem zdC {k : List D → Option (List D)} (h1 : a ρ = some ds) (h2 : k ds = some es) : fFn k a ρ = some es := by unfold fFn; rw [h1]; exact h2
theorem W9 (h1 : a ρ = some ds) (hl : ds.length ≤ 1000) : yf a ρ = some ds := by unfold yf; rw [h1, Option.bind_some, if_pos (w8 hl)]
theorem YE (h1 : a ρ = some ds) (hl : ds.length ≤ 1000) : wW a ρ = some (.tup ds) := by unfold wW; rw [h1, Option.bind_some, if_pos (w8 hl)]
theorem zcd (h1 : f ρ = some d) (h2 : xy d = some ds) : iOf f ρ = some ds := by unfold iOf; rw [h1]; exact h2
theorem YV (h1 : f ρ = some (.bl b)) : tOf f ρ = some b := by unfold tOf; rw [h1]; rfl
theorem V1 (h1 : t ρ = some b) : yF t ρ = some (!b) := by unfold yF; rw [h1]; rfl
theorem zbQ (h1 : t ρ = some false) (h2 : u ρ = some c) : Yw t u ρ = some c := by unfold Yw; rw [h1]; exact h2
end
end Mz
namespace Mz
open PySem L2 Dl
noncomputable def v4 : zc6 := [("row", [1, 8]), ("ring", [3, 8]), ("cube", [0, 3]), ("full", [1, 8]), ("star", [1, 7])]
noncomputable def top (i : Nat) : Stmt := PySem.Challenge.pw_twoforone_k51_sweeps_round_a_ring.main.body.getD i (.Pass ⟨0, 0, 0, 0⟩)
noncomputable abbrev xB : Stmt := top 9
noncomputable abbrev zN : Stmt := top 10
noncomputable abbrev zS : Stmt := top 11
noncomputable abbrev zR : Stmt := top 12
noncomputable abbrev xD : Stmt := top 13
noncomputable abbrev yN : Stmt := top 14
noncomputable abbrev zX : Stmt := top 16
noncomputable abbrev yM : Stmt := top 18
noncomputable abbrev yi : Stmt := top 19
noncomputable abbrev wj : Stmt := top 22
noncomputable abbrev y9 : Stmt := top 23
noncomputable abbrev xc : Stmt := top 24
noncomputable abbrev xC : Stmt := top 25
noncomputable abbrev wl : Stmt := top 26
noncomputable abbrev zQ : Stmt := top 28
noncomputable abbrev zW : Stmt := top 29
noncomputable abbrev yj : Stmt := top 30
noncomputable abbrev vv : Stmt := top 31
noncomputable abbrev wH : Stmt := top 32
noncomputable abbrev yx : Stmt := top 33
noncomputable abbrev yJ : Stmt := top 34
noncomputable abbrev ym : Stmt := top 36
noncomputable abbrev y4 : Stmt := top 37
noncomputable abbrev y3 : Stmt := top 38
noncomputable abbrev yh : Stmt := top 39
noncomputable abbrev xb : Stmt := top 40
noncomputable abbrev yO : Stmt := top 41
noncomputable abbrev yy : Stmt := top 42
noncomputable abbrev Xe : Stmt := top 43
theorem VE : zB ["thing"] ["thing"] (zd xB) := ⟨rfl, rfl, rfl, by decide +kernel, rfl, by decide +kernel, by decide +kernel⟩
theorem v9 : zB ["thing", "least", "most"] ["thing", "least", "most"] (zd zN) := ⟨rfl, rfl, rfl, by decide +kernel, rfl, by decide +kernel, by decide +kernel⟩
theorem Yz : zB ["thing", "least", "most"] ["thing", "least", "most"] (zd zS) := ⟨rfl, rfl, rfl, by decide +kernel, rfl, by decide +kernel, by decide +kernel⟩
theorem Yl : zB ["thing"] ["thing"] (zd zR) := ⟨rfl, rfl, rfl, by decide +kernel, rfl, by decide +kernel, by decide +kernel⟩
theorem Vq : zB ["many", "thing"] ["many", "thing"] (zd xD) := ⟨rfl, rfl, rfl, by decide +kernel, rfl, by decide +kernel, by decide +kernel⟩
theorem XU : zB ["many", "thing"] ["many", "thing"] (zd yN) := ⟨rfl, rfl, rfl, by decide +kernel, rfl, by decide +kernel, by decide +kernel⟩
theorem YS : zB ["web", "thing"] ["web", "thing"] (zd zX) := ⟨rfl, rfl, rfl, by decide +kernel, rfl, by decide +kernel, by decide +kernel⟩
theorem XY : zB ["web", "thing"] ["web", "thing"] (zd yM) := ⟨rfl, rfl, rfl, by decide +kernel, rfl, by decide +kernel, by decide +kernel⟩
theorem ZR : zB ["web", "thing"] ["web", "thing"] (zd yi) := ⟨rfl, rfl, rfl, by decide +kernel, rfl, by decide +kernel, by decide +kernel⟩
theorem zaF : zB ["thing"] ["thing"] (zd wj) := ⟨rfl, rfl, rfl, by decide +kernel, rfl, by decide +kernel, by decide +kernel⟩
theorem YF : zB ["thing", "word"] ["thing"] (zd y9) := ⟨rfl, rfl, rfl, by decide +kernel, rfl, by decide +kernel, by decide +kernel⟩
theorem W0 : zB ["word", "size"] ["word", "size"] (zd xc) := ⟨rfl, rfl, rfl, by decide +kernel, rfl, by decide +kernel, by decide +kernel⟩
theorem Ve : zB ["word", "size", "one", "other"] ["word", "size", "one", "other"] (zd xC) := ⟨rfl, rfl, rfl, by decide +kernel, rfl, by decide +kernel, by decide +kernel⟩
theorem wk : zB ["kind", "word", "size", "many", "ties", "one"] ["kind"] (zd wl) := ⟨rfl, rfl, rfl, by decide +kernel, rfl, by decide +kernel, by decide +kernel⟩
theorem Yo : zB ["n"] ["n"] (zd zQ) := ⟨rfl, rfl, rfl, by decide +kernel, rfl, by decide +kernel, by decide +kernel⟩
theorem wS : zB ["n", "heap", "place", "web"] ["n", "heap", "place"] (zd zW) := ⟨rfl, rfl, rfl, by decide +kernel, rfl, by decide +kernel, by decide +kernel⟩
theorem vh : zB ["n", "place", "upwards"] ["n", "place"] (zd yj) := ⟨rfl, rfl, rfl, by decide +kernel, rfl, by decide +kernel, by decide +kernel⟩
theorem v7 : zB ["heap", "order", "carried", "ahead", "place"] ["heap", "order"] (zd vv) := ⟨rfl, rfl, rfl, by decide +kernel, rfl, by decide +kernel, by decide +kernel⟩
theorem zce : zB ["n", "heap", "place"] ["n", "heap", "place"] (zd wH) := ⟨rfl, rfl, rfl, by decide +kernel, rfl, by decide +kernel, by decide +kernel⟩
theorem yV : zB ["heap", "order", "place", "steps", "one", "other", "times"] ["heap", "order", "place"] (zd yx) := ⟨rfl, rfl, rfl, by decide +kernel, rfl, by decide +kernel, by decide +kernel⟩
theorem v8 : zB ["n", "heap", "place", "order"] ["n", "heap", "place"] (zd yJ) := ⟨rfl, rfl, rfl, by decide +kernel, rfl, by decide +kernel, by decide +kernel⟩
theorem Za : zB ["script", "k"] ["script", "k"] (zd ym) := ⟨rfl, rfl, rfl, by decide +kernel, rfl, by decide +kernel, by decide +kernel⟩
theorem vd : zB ["found", "due", "one", "other"] ["found", "due"] (zd y4) := ⟨rfl, rfl, rfl, by decide +kernel, rfl, by decide +kernel, by decide +kernel⟩
theorem wz : zB ["cell", "k", "number"] ["cell", "k"] (zd y3) := ⟨rfl, rfl, rfl, by decide +kernel, rfl, by decide +kernel, by decide +kernel⟩
theorem yD : zB ["many", "cell", "most", "found", "k", "place"] ["many", "cell", "most"] (zd yh) := ⟨rfl, rfl, rfl, by decide +kernel, rfl, by decide +kernel, by decide +kernel⟩
theorem Wp : zB ["n"] ["n"] (zd xb) := ⟨rfl, rfl, rfl, by decide +kernel, rfl, by decide +kernel, by decide +kernel⟩
theorem xi : zB ["heap", "place", "by", "found", "carry", "k"] ["heap", "place", "by"] (zd yO) := ⟨rfl, rfl, rfl, by decide +kernel, rfl, by decide +kernel, by decide +kernel⟩
theorem wD : zB ["web", "heap", "steps", "here", "step"] ["web", "heap", "steps"] (zd yy) := ⟨rfl, rfl, rfl, by decide +kernel, rfl, by decide +kernel, by decide +kernel⟩
theorem xO : zB ["script", "cell", "n", "place", "heap", "rows", "due", "by", "row", "k", "many", "answer", "last"] ["script"] (zd Xe) := ⟨rfl, rfl, rfl, by decide +kernel, rfl, by decide +kernel, by decide +kernel⟩
set_option genInjectivity false in
set_option genSizeOf false in
set_option genCtorIdx false in
structure Adr where
  f_is_whole : Addr
  e_is_whole : FuncData
  f_is_whole_within : Addr
  e_is_whole_within : FuncData
  f_must_be_within : Addr
  e_must_be_within : FuncData
  f_is_place_count : Addr
  e_is_place_count : FuncData
  f_is_place : Addr
  e_is_place : FuncData
  f_are_counts : Addr
  e_are_counts : FuncData
  f_must_be_place : Addr
  e_must_be_place : FuncData
  f_are_stones : Addr
  e_are_stones : FuncData
  f_must_be_heap : Addr
  e_must_be_heap : FuncData
  f_is_over : Addr
  e_is_over : FuncData
  f_kind_good : Addr
  e_kind_good : FuncData
  f_places_of : Addr
  e_places_of : FuncData
  f_are_tied : Addr
  e_are_tied : FuncData
  f_web_for : Addr
  e_web_for : FuncData
  f_ring_of_places : Addr
  e_ring_of_places : FuncData
  f_must_fit_ring : Addr
  e_must_fit_ring : FuncData
  f_sweep_orders : Addr
  e_sweep_orders : FuncData
  f_swept : Addr
  e_swept : FuncData
  f_sweeps : Addr
  e_sweeps : FuncData
  f_sweep_steps : Addr
  e_sweep_steps : FuncData
  f_ring_steps : Addr
  e_ring_steps : FuncData
  f__law_cell_at : Addr
  e__law_cell_at : FuncData
  f__law_same : Addr
  e__law_same : FuncData
  f__law_stir : Addr
  e__law_stir : FuncData
  f__law_heap_by : Addr
  e__law_heap_by : FuncData
  f__law_ring : Addr
  e__law_ring : FuncData
  f__law_sweep : Addr
  e__law_sweep : FuncData
  f__law_played : Addr
  e__law_played : FuncData
  f_law : Addr
  e_law : FuncData
  t_MOST_PLACES : Tok
  t_MOST_STONES : Tok
  s_SIZES : Addr
set_option genInjectivity false in
set_option genSizeOf false in
set_option genCtorIdx false in
structure Txt (K : PySem.W.Frag) (mg : Str → Option Value) (ad : Adr) : Prop where
  d_is_whole : Def K mg "is_whole" xB ["thing"] ad.f_is_whole ad.e_is_whole
  d_is_whole_within : Def K mg "is_whole_within" zN ["thing", "least", "most"] ad.f_is_whole_within ad.e_is_whole_within
  d_must_be_within : Def K mg "must_be_within" zS ["thing", "least", "most"] ad.f_must_be_within ad.e_must_be_within
  d_is_place_count : Def K mg "is_place_count" zR ["thing"] ad.f_is_place_count ad.e_is_place_count
  d_is_place : Def K mg "is_place" xD ["many", "thing"] ad.f_is_place ad.e_is_place
  d_are_counts : Def K mg "are_counts" yN ["many", "thing"] ad.f_are_counts ad.e_are_counts
  d_must_be_place : Def K mg "must_be_place" zX ["web", "thing"] ad.f_must_be_place ad.e_must_be_place
  d_are_stones : Def K mg "are_stones" yM ["web", "thing"] ad.f_are_stones ad.e_are_stones
  d_must_be_heap : Def K mg "must_be_heap" yi ["web", "thing"] ad.f_must_be_heap ad.e_must_be_heap
  d_is_over : Def K mg "is_over" wj ["thing"] ad.f_is_over ad.e_is_over
  d_kind_good : Def K mg "kind_good" y9 ["thing"] ad.f_kind_good ad.e_kind_good
  d_places_of : Def K mg "places_of" xc ["word", "size"] ad.f_places_of ad.e_places_of
  d_are_tied : Def K mg "are_tied" xC ["word", "size", "one", "other"] ad.f_are_tied ad.e_are_tied
  d_web_for : Def K mg "web_for" wl ["kind"] ad.f_web_for ad.e_web_for
  d_ring_of_places : Def K mg "ring_of_places" zQ ["n"] ad.f_ring_of_places ad.e_ring_of_places
  d_must_fit_ring : Def K mg "must_fit_ring" zW ["n", "heap", "place"] ad.f_must_fit_ring ad.e_must_fit_ring
  d_sweep_orders : Def K mg "sweep_orders" yj ["n", "place"] ad.f_sweep_orders ad.e_sweep_orders
  d_swept : Def K mg "swept" vv ["heap", "order"] ad.f_swept ad.e_swept
  d_sweeps : Def K mg "sweeps" wH ["n", "heap", "place"] ad.f_sweeps ad.e_sweeps
  d_sweep_steps : Def K mg "sweep_steps" yx ["heap", "order", "place"] ad.f_sweep_steps ad.e_sweep_steps
  d_ring_steps : Def K mg "ring_steps" yJ ["n", "heap", "place"] ad.f_ring_steps ad.e_ring_steps
  d__law_cell_at : Def K mg "_law_cell_at" ym ["script", "k"] ad.f__law_cell_at ad.e__law_cell_at
  d__law_same : Def K mg "_law_same" y4 ["found", "due"] ad.f__law_same ad.e__law_same
  d__law_stir : Def K mg "_law_stir" y3 ["cell", "k"] ad.f__law_stir ad.e__law_stir
  d__law_heap_by : Def K mg "_law_heap_by" yh ["many", "cell", "most"] ad.f__law_heap_by ad.e__law_heap_by
  d__law_ring : Def K mg "_law_ring" xb ["n"] ad.f__law_ring ad.e__law_ring
  d__law_sweep : Def K mg "_law_sweep" yO ["heap", "place", "by"] ad.f__law_sweep ad.e__law_sweep
  d__law_played : Def K mg "_law_played" yy ["web", "heap", "steps"] ad.f__law_played ad.e__law_played
  d_law : Def K mg "law" Xe ["script"] ad.f_law ad.e_law
  g_MOST_PLACES : mg "MOST_PLACES" = some (Value.int 8 ad.t_MOST_PLACES)
  g_MOST_STONES : mg "MOST_STONES" = some (Value.int 300 ad.t_MOST_STONES)
  z_all : mg "all" = none
  z_bool : mg "bool" = none
  z_enumerate : mg "enumerate" = none
  z_int : mg "int" = none
  z_isinstance : mg "isinstance" = none
  z_len : mg "len" = none
  z_list : mg "list" = none
  z_max : mg "max" = none
  z_min : mg "min" = none
  z_range : mg "range" = none
  z_reversed : mg "reversed" = none
  z_sorted : mg "sorted" = none
  z_str : mg "str" = none
  z_sum : mg "sum" = none
  z_tuple : mg "tuple" = none
  z_zip : mg "zip" = none
  g_SIZES : mg "SIZES" = some (Value.ref ad.s_SIZES)
  b_SIZES : ∀ h : Heap, K.In h → PyProof.Rows.KTD.TextTab h ad.s_SIZES (WK v4)
theorem zhi : (["part", "many", "thing"] : List Str).Nodup := by decide +kernel
theorem zgP : (["place", "thing"] : List Str).Nodup := by decide +kernel
theorem zhe : (["other", "kind", "word", "size", "many", "ties", "one"] : List Str).Nodup := by decide +kernel
theorem zgX : (["at", "n", "place", "upwards"] : List Str).Nodup := by decide +kernel
theorem zg1 : (["k", "n"] : List Str).Nodup := by decide +kernel
theorem zgV : (["order", "n", "heap", "place"] : List Str).Nodup := by decide +kernel
noncomputable def Yf : D → Bool
  | .int _ => true
  | _ => false
noncomputable def Zw (d : D) (lo hi : Int) : Bool := match d with
  | .int i => decide (lo ≤ i) && decide (i ≤ hi)
  | _ => false
section
variable {P : Program} {w : World} {K : PySem.W.Frag} {mg : Str → Option Value} {base : Heap} {ad : Adr}
noncomputable def zY : List D → Option D
  | [d] => if noS d = true then some (.bl (Yf d)) else none
  | _ => none
noncomputable def YB : SE → Ctl :=
  (yn (vW (eUn (yz .int) (zg 0)) (Xc (eUn (yz .bool) (zg 0)))))
noncomputable def zaQ : List D → Option D := fnD 1 YB
theorem len1 {α : Type} {ds : List α} (h : ds.length = 1) : ∃ a, ds = [a] := by match ds, h with | [a], _ => exact ⟨a, rfl⟩
theorem zeN {α : Type} {ds : List α} (h : ds.length = 2) : ∃ a b, ds = [a, b] := by match ds, h with | [a, b], _ => exact ⟨a, b, rfl⟩
theorem len3 {α : Type} {ds : List α} (h : ds.length = 3) : ∃ a b c, ds = [a, b, c] := by match ds, h with | [a, b, c], _ => exact ⟨a, b, c, rfl⟩
theorem ifS {c : Bool} {x y : D} (h : (if c = true then some x else none) = some y) : c = true ∧ x = y := by
  split at h
  · cases h
    exact ⟨by assumption, rfl⟩
  · cases h
theorem W4 : ∀ ds d, ds.length = 1 → zY ds = some d → zaQ ds = some d := by
  intro ds d hl h
  obtain ⟨a, rfl⟩ := len1 hl
  obtain ⟨hn, rfl⟩ := ifS h
  cases a <;> first | rfl | cases hn
theorem ZC (T : Txt K mg ad) : y0 P w K mg base CX0 1 ad.f_is_whole ad.e_is_whole ["thing"] (@spD ⟨K⟩ 1 zY) := by
  letI : KK := ⟨K⟩
  refine Yd (xA (N := ["thing"]) (ps := ["thing"]) T.d_is_whole.fn VE (g := YB) fun cdv A outer s H E hr => ?_) W4
  unfold YB
  exact (zj (zt (vI (zI .int rfl T.z_isinstance (za 0 (pv 0)) (yp (v := .ty "int") rfl T.z_int zbo rfl)) (vG (zdx (zI .bool rfl T.z_isinstance (za 0 (pv 0)) (yp (v := .ty "bool") rfl T.z_bool X7 rfl)))))))
noncomputable def yk : SE → Ctl :=
  (yn (vW (zr 1 zY (zc (zg 0) zu)) (y8 leD leD (zg 1) (zg 0) (zg 2))))
noncomputable def wI : List D → Option D := fnD 3 yk
noncomputable def zy : List D → Option D
  | [d, .int lo, .int hi] => if noS d = true then some (.bl (Zw d lo hi)) else none
  | _ => none
theorem XG {a : D} {lo hi : Int} (hn : noS a = true) (hw : Yf a = false) : wI [a, .int lo, .int hi] = some (.bl false) := by
  have e : zY [a] = some (.bl false) := by
    show (if noS a = true then some (D.bl (Yf a)) else none) = _
    rw [if_pos hn, hw]
  refine Vh (ρ := [.v a, .v (.int lo), .v (.int hi)]) rfl ?_
  unfold yk
  refine WH (vR ?_) rfl
  show (((zY [a]).bind asB).bind fun c => if c = true then _ else some (D.bl false)) = _
  rw [e]
  rfl
theorem Yb : ∀ ds d, ds.length = 3 → zy ds = some d → wI ds = some d := by
  intro ds d hl h
  obtain ⟨a, b, c, rfl⟩ := len3 hl
  cases b <;> try cases h
  cases c <;> try cases h
  rename_i lo hi
  obtain ⟨hn, rfl⟩ := ifS h
  cases a with
  | scr _ => cases hn
  | int i =>
    refine Vh (ρ := [.v (.int i), .v (.int lo), .v (.int hi)]) rfl ?_
    unfold yk
    refine WH (vR ?_) rfl
    show (if decide (lo ≤ i) = true then some (D.bl (decide (i ≤ hi))) else some (.bl false)) = some (.bl (decide (lo ≤ i) && decide (i ≤ hi)))
    cases decide (lo ≤ i) <;> rfl
  | tup es => exact XG hn rfl
  | lst es => exact XG hn rfl
  | dct z t ks vs => exact XG hn rfl
  | non => rfl
  | bl _ => rfl
  | str _ => rfl
theorem yC (T : Txt K mg ad) : y0 P w K mg base CX0 2 ad.f_is_whole_within ad.e_is_whole_within ["thing", "least", "most"] (@spD ⟨K⟩ 3 zy) := by
  letI : KK := ⟨K⟩
  have G_is_whole := ZC (P := P) (w := w) (base := base) T
  refine Yd (xA (N := ["thing", "least", "most"]) (ps := ["thing", "least", "most"]) T.d_is_whole_within.fn v9 (g := yk) fun cdv A outer s H E hr => ?_) Yb
  unfold yk
  exact (zj (zt (vI (zn (G_is_whole.mono (by decide)) hr rfl T.d_is_whole.at_ T.d_is_whole.kp T.d_is_whole.bd (zb (za 0 (pv 0)) zf)) (vG (zcZ zbx zbx yK yK (za 1 (pv 1)) (za 0 (pv 0)) (za 2 (pv 2)) (fun a b c => zdf zbx zbx a b c))))))
noncomputable def yY : SE → Ctl :=
  (yn (zr 3 zy (zc (zg 0) (zc (eC (.int 1)) (zc (eC (.int 8)) zu)))))
noncomputable def xX : List D → Option D := fnD 1 yY
noncomputable def xU : List D → Option D
  | [d] => if noS d = true then some (.bl (Zw d 1 8)) else none
  | _ => none
theorem Yp : ∀ ds d, ds.length = 1 → xU ds = some d → xX ds = some d := by
  intro ds d hl h
  obtain ⟨a, rfl⟩ := len1 hl
  have e : xX [a] = zy [a, .int 1, .int 8] := by
    cases h2 : zy [a, .int 1, .int 8] <;> simp [xX, yY, fnD, zM, yn, ve, sIf, wm, Yh, sNo, zG, WT, Yi, Y6, Zm, Ys, vEv, visF, visG, Sl.f, Sl.g, zg, eC, zk, vW, eOr, Xc, eIf, eUn, YL, wW, xS, yf, zc, zu, zr, eFn, fFn, tOf, wJ, Yw, yF, asB, asI, zU, YG, wy, xz, xT, ZW, wn, ltD, leD, gtD, geD, ZX, yb, yE, zZ, yH, ZY, yc, ixD, vO, yz, isT, eSl, wG, xW, y8, xy, iOf, vz, xP, YD, vX, v5, y6, wQ, fLC, xk, yB, wE, yq, YQ, yX, Y9, b1, b2, h2]
  rw [e]
  exact h
theorem Yr (T : Txt K mg ad) : y0 P w K mg base CX0 3 ad.f_is_place_count ad.e_is_place_count ["thing"] (@spD ⟨K⟩ 1 xU) := by
  letI : KK := ⟨K⟩
  have G_is_whole_within := yC (P := P) (w := w) (base := base) T
  refine Yd (xA (N := ["thing"]) (ps := ["thing"]) T.d_is_place_count.fn Yl (g := yY) fun cdv A outer s H E hr => ?_) Yp
  unfold yY
  exact (zj (zt (zn (G_is_whole_within.mono (by decide)) hr rfl T.d_is_whole_within.at_ T.d_is_whole_within.kp T.d_is_whole_within.bd (zb (za 0 (pv 0)) (zb (zh zi) (zb (zh (VD (v := .int 8) rfl T.g_MOST_PLACES ⟨_, rfl⟩)) zf))))))
noncomputable def vt : SE → Ctl :=
  (yn (zr 3 zy (zc (zg 1) (zc (eC (.int 0)) (zc (zk YG (zg 0) (eC (.int 1))) zu)))))
noncomputable def Yq : List D → Option D := fnD 2 vt
noncomputable def wK : List D → Option D
  | [.int m, d] => if noS d = true then some (.bl (Zw d 0 (m - 1))) else none
  | _ => none
theorem Vg : ∀ ds d, ds.length = 2 → wK ds = some d → Yq ds = some d := by
  intro ds d hl h
  obtain ⟨a, b, rfl⟩ := zeN hl
  cases a <;> try cases h
  rename_i m
  have e : Yq [.int m, b] = zy [b, .int 0, .int (m - 1)] := by
    cases h2 : zy [b, .int 0, .int (m - 1)] <;> simp [Yq, vt, fnD, zM, yn, ve, sIf, wm, Yh, sNo, zG, WT, Yi, Y6, Zm, Ys, vEv, visF, visG, Sl.f, Sl.g, zg, eC, zk, vW, eOr, Xc, eIf, eUn, YL, wW, xS, yf, zc, zu, zr, eFn, fFn, tOf, wJ, Yw, yF, asB, asI, zU, YG, wy, xz, xT, ZW, wn, ltD, leD, gtD, geD, ZX, yb, yE, zZ, yH, ZY, yc, ixD, vO, yz, isT, eSl, wG, xW, y8, xy, iOf, vz, xP, YD, vX, v5, y6, wQ, fLC, xk, yB, wE, yq, YQ, yX, Y9, b1, b2, h2]
  rw [e]
  exact h
theorem ZB (T : Txt K mg ad) : y0 P w K mg base CX0 3 ad.f_is_place ad.e_is_place ["many", "thing"] (@spD ⟨K⟩ 2 wK) := by
  letI : KK := ⟨K⟩
  have G_is_whole_within := yC (P := P) (w := w) (base := base) T
  refine Yd (xA (N := ["many", "thing"]) (ps := ["many", "thing"]) T.d_is_place.fn Vq (g := vt) fun cdv A outer s H E hr => ?_) Vg
  unfold vt
  exact (zj (zt (zn (G_is_whole_within.mono (by decide)) hr rfl T.d_is_whole_within.at_ T.d_is_whole_within.kp T.d_is_whole_within.bd (zb (za 1 (pv 1)) (zb (zh zi) (zb (WV (za 0 (pv 0)) (zh zi)) zf))))))
theorem W8 {m i : Int} : Zw (.int i) 0 (m - 1) = inR m i := rfl
end
section
variable {P : Program} {w : World} {K : PySem.W.Frag} {mg : Str → Option Value} {base : Heap} {ad : Adr}
noncomputable def xo : D → Bool
  | .int i => decide (0 ≤ i)
  | _ => false
noncomputable def zhf : D → Int
  | .int i => i
  | _ => 0
noncomputable def xq (m : Int) : D → Bool
  | .tup ds => decide ((ds.length : Int) = m) && ds.all xo
  | _ => false
theorem zct {α : Type} (f : α → Bool) (l : List α) : zeM [.lst (l.map fun x => .bl (f x))] = some (.bl (l.all f)) := by
  have : zeu (l.map fun x => D.bl (f x)) = some (l.map f) := by
    have := zcu (l.map f)
    rwa [List.map_map] at this
  show ((zeu (l.map fun x => D.bl (f x))).bind fun bs => some (D.bl (bs.all id))) = _
  rw [this]
  show some (D.bl ((l.map f).all id)) = _
  rw [List.all_map]
  rfl
theorem Vs {ds : List D} (h : ds.all xo = true) : ∃ ns : List Int, ds = ns.map .int ∧ ∀ n ∈ ns, 0 ≤ n := by
  induction ds with
  | nil => exact ⟨[], rfl, by simp⟩
  | cons d ds ih =>
    rw [List.all_cons, Bool.and_eq_true] at h
    obtain ⟨ns, rfl, hn⟩ := ih h.2
    cases d with
    | int i => exact ⟨i :: ns, rfl, fun n hm => by
        rcases List.mem_cons.mp hm with rfl | hm
        · exact of_decide_eq_true h.1
        · exact hn n hm⟩
    | _ => exact absurd h.1 Bool.false_ne_true
theorem za2 {ns : List Int} (h : ∀ n ∈ ns, 0 ≤ n) : (ns.map D.int).all xo = true := by
  rw [List.all_map, List.all_eq_true]
  exact fun n hn => decide_eq_true (h n hn)
theorem zbG (ns : List Int) : zgW [.tup (ns.map .int)] = some (.int ns.sum) := by
  show ((zcR (ns.map .int)).bind fun ns => some (D.int ns.sum)) = _
  rw [zdc]
  rfl
noncomputable def xh : SE → Ctl :=
  (zM (sIf (Yw (yF (tOf (eUn (yz .tuple) (zg 1)))) (tOf (zk neD (eFn vO (zc (zg 1) zu)) (zg 0)))) (yn (eC (.bl false))) zG)
    (yn (eFn zeM (zc (xS (fLC (iOf (zg 1)) b1 xk (vW (zr 1 zY (zc (zg 0) zu)) (zk geD (zg 0) (eC (.int 0)))))) zu))))
noncomputable def YC : List D → Option D := fnD 2 xh
noncomputable def xR : List D → Option D
  | [.int m, d] => if (noS d && decide (m ≤ 1000)) = true then some (.bl (xq m d)) else none
  | _ => none
theorem zfq {d : D} (hn : noS d = true) : ((zY [d]).bind asB).bind (fun c => if c = true then geD d (.int 0) else some (.bl false)) = some (.bl (xo d)) := by
  cases d with
  | scr _ => cases hn
  | tup _ => simp [zY, hn, Yf, asB, xo]
  | lst _ => simp [zY, hn, Yf, asB, xo]
  | _ => rfl
theorem X1 : ∀ ds d, ds.length = 2 → xR ds = some d → YC ds = some d := by
  intro ds d hl h
  obtain ⟨a, b, rfl⟩ := zeN hl
  cases a <;> try cases h
  rename_i m
  obtain ⟨hn, rfl⟩ := ifS h
  clear h hl
  rw [Bool.and_eq_true, decide_eq_true_eq] at hn
  obtain ⟨hn, hm⟩ := hn
  cases b with
  | scr _ => cases hn
  | tup es =>
    by_cases hl : (es.length : Int) = m
    · have e : fLC (iOf (zg 1)) b1 xk (vW (zr 1 zY (zc (zg 0) zu)) (zk geD (zg 0) (eC (.int 0)))) [some (.int m), some (.tup es)] = some (es.map fun d => .bl (xo d)) := by
        unfold fLC
        show (if lim es.length = true then _ else none) = _
        rw [if_pos (w8 (by omega))]
        have := Zl (b := b1) (t := xk) (f := vW (zr 1 zY (zc (zg 0) zu)) (zk geD (zg 0) (eC (.int 0)))) (ρ := [some (.int m), some (.tup es)]) id (fun d => .bl (xo d)) es
          (fun d hd => ⟨[some d], rfl, rfl, zfq (by obtain ⟨j, hj, rfl⟩ := List.getElem_of_mem hd; exact zae (i := j) hn (by simp [hj]))⟩)
        rwa [List.map_id] at this
      show fnD 2 xh _ = _
      refine Vh rfl ?_
      unfold xh
      refine wd (Z0 (c := false) (by simp [fnD, zM, yn, ve, sIf, wm, Yh, sNo, zG, WT, Yi, Y6, Zm, Ys, vEv, visF, visG, Sl.f, Sl.g, zg, eC, zk, vW, eOr, Xc, eIf, eUn, YL, wW, xS, yf, zc, zu, zr, eFn, fFn, tOf, wJ, Yw, yF, asB, asI, zU, YG, wy, xz, xT, ZW, wn, ltD, leD, gtD, geD, ZX, yb, yE, zZ, yH, ZY, yc, ixD, vO, yz, isT, eSl, wG, xW, y8, xy, iOf, vz, xP, YD, vX, v5, y6, wQ, fLC, xk, yB, wE, yq, YQ, yX, Y9, b1, b2, hl]) (fun z => by cases z) fun _ => Yj rfl (WH (d := .bl (es.all xo)) ?_ ?_))
      · show (match (((fLC (iOf (zg 1)) b1 xk (vW (zr 1 zY (zc (zg 0) zu)) (zk geD (zg 0) (eC (.int 0)))) [some (.int m), some (.tup es)]).map D.lst).bind fun d => (some [] : Option (List D)).map (d :: ·)).bind zeM with | some d => Ctl.rt d | none => Ctl.no) = _
        rw [e]
        show (match zeM [.lst (es.map fun d => .bl (xo d))] with | some d => Ctl.rt d | none => Ctl.no) = _
        rw [zct]
      · show D.bl (es.all xo) = .bl (decide ((es.length : Int) = m) && es.all xo)
        rw [decide_eq_true hl, Bool.true_and]
    · have e : xq m (.tup es) = false := by
        show (decide ((es.length : Int) = m) && es.all xo) = false
        rw [decide_eq_false hl, Bool.false_and]
      rw [e]
      simp [YC, xh, fnD, zM, yn, ve, sIf, wm, Yh, sNo, zG, WT, Yi, Y6, Zm, Ys, vEv, visF, visG, Sl.f, Sl.g, zg, eC, zk, vW, eOr, Xc, eIf, eUn, YL, wW, xS, yf, zc, zu, zr, eFn, fFn, tOf, wJ, Yw, yF, asB, asI, zU, YG, wy, xz, xT, ZW, wn, ltD, leD, gtD, geD, ZX, yb, yE, zZ, yH, ZY, yc, ixD, vO, yz, isT, eSl, wG, xW, y8, xy, iOf, vz, xP, YD, vX, v5, y6, wQ, fLC, xk, yB, wE, yq, YQ, yX, Y9, b1, b2, hl]
  | _ => rfl
theorem XB (T : Txt K mg ad) : y0 P w K mg base CX0 2 ad.f_are_counts ad.e_are_counts ["many", "thing"] (@spD ⟨K⟩ 2 xR) := by
  letI : KK := ⟨K⟩
  have G_is_whole := ZC (P := P) (w := w) (base := base) T
  refine Yd (xA (N := ["many", "thing"]) (ps := ["many", "thing"]) T.d_are_counts.fn XU (g := xh) fun cdv A outer s H E hr => ?_) X1
  unfold xh
  exact (ze (yu (zeg (Vz (wv (xn (zI .tuple rfl T.z_isinstance (za 1 (pv 1)) (yp (v := .ty "tuple") rfl T.z_tuple xp rfl)))) (Xb (zV zaP Xf (zF _) (ye zK wq rfl T.z_len vg (zb (za 1 (pv 1)) zf)) (za 0 (pv 0)))))) (zj (zt (vM vP))) zw)
      (zj (zt (ye (WB rfl) zby rfl T.z_all zdE (zb (wX (VU (L := ["part"]) (M := ["many", "thing"]) rfl (Z6 (by rfl) (by rfl) (by rfl) (by with_unfolding_all rfl) (by rfl) (by rfl) (by kernel_rfl) Yk) (Zq (za 1 (pv 1))) gs1 rb1 (fun _ _ _ _ => (zT (i := 0) zhi rfl (Or.inl rfl) (.inr rfl))) (fun _ _ _ _ => (vI (zn (G_is_whole.mono (by decide)) hr rfl T.d_is_whole.at_ T.d_is_whole.kp T.d_is_whole.bd (zb (za 0 (pv 0)) zf)) (vG (wN zg4 yK (zF _) (za 0 (pv 0)) (zh zi))))))) zf)))))
noncomputable def vQ (m : Int) : D → Bool
  | .tup ds => xq m (.tup ds) && decide ((ds.map zhf).sum ≤ 300)
  | _ => false
theorem Xa (ns : List Int) : (ns.map D.int).map zhf = ns := by rw [List.map_map]; exact (List.map_congr_left fun _ _ => rfl).trans (List.map_id _)
noncomputable def xN : SE → Ctl :=
  (yn (vW (zr 2 xR (zc (zk ixD (zg 0) (eC (.int 0))) (zc (zg 1) zu))) (zk leD (eFn zgW (zc (zg 1) zu)) (eC (.int 300)))))
noncomputable def wY : List D → Option D := fnD 2 xN
noncomputable def xa : List D → Option D
  | [.tup [.int m, _], d] => if (noS d && decide (m ≤ 1000)) = true then some (.bl (vQ m d)) else none
  | _ => none
theorem XV : ∀ ds d, ds.length = 2 → xa ds = some d → wY ds = some d := by
  intro ds d hl h
  obtain ⟨a, b, rfl⟩ := zeN hl
  unfold xa at h
  split at h
  · rename_i m t b' e
    injection e with e1 e2
    injection e2 with e2 _
    subst e1 e2
    obtain ⟨hn, rfl⟩ := ifS h
    have ec : xR [.int m, b] = some (.bl (xq m b)) := by simp only [xR]; rw [if_pos hn]
    cases hc : xq m b with
    | false =>
      rw [hc] at ec
      have e3 : vQ m b = false := by
        cases b <;> try rfl
        show (xq m _ && _) = false
        rw [hc]
        rfl
      rw [e3]
      simp [wY, xN, fnD, zM, yn, ve, sIf, wm, Yh, sNo, zG, WT, Yi, Y6, Zm, Ys, vEv, visF, visG, Sl.f, Sl.g, zg, eC, zk, vW, eOr, Xc, eIf, eUn, YL, wW, xS, yf, zc, zu, zr, eFn, fFn, tOf, wJ, Yw, yF, asB, asI, zU, YG, wy, xz, xT, ZW, wn, ltD, leD, gtD, geD, ZX, yb, yE, zZ, yH, ZY, yc, ixD, vO, yz, isT, eSl, wG, xW, y8, xy, iOf, vz, xP, YD, vX, v5, y6, wQ, fLC, xk, yB, wE, yq, YQ, yX, Y9, b1, b2, ec, atI, ixN]
    | true =>
      rw [hc] at ec
      cases b with
      | tup es =>
        have h2 : es.all xo = true := by
          unfold xq at hc
          rw [Bool.and_eq_true] at hc
          exact hc.2
        obtain ⟨ns, rfl, hns⟩ := Vs h2
        have e3 : vQ m (.tup (ns.map .int)) = decide (ns.sum ≤ 300) := by
          show (xq m _ && decide (((ns.map D.int).map zhf).sum ≤ 300)) = _
          rw [hc, Xa, Bool.true_and]
        rw [e3]
        simp [wY, xN, fnD, zM, yn, ve, sIf, wm, Yh, sNo, zG, WT, Yi, Y6, Zm, Ys, vEv, visF, visG, Sl.f, Sl.g, zg, eC, zk, vW, eOr, Xc, eIf, eUn, YL, wW, xS, yf, zc, zu, zr, eFn, fFn, tOf, wJ, Yw, yF, asB, asI, zU, YG, wy, xz, xT, ZW, wn, ltD, leD, gtD, geD, ZX, yb, yE, zZ, yH, ZY, yc, ixD, vO, yz, isT, eSl, wG, xW, y8, xy, iOf, vz, xP, YD, vX, v5, y6, wQ, fLC, xk, yB, wE, yq, YQ, yX, Y9, b1, b2, ec, zbG, atI, ixN]
      | _ => cases hc
  · cases h
theorem X3 (T : Txt K mg ad) : y0 P w K mg base CX0 3 ad.f_are_stones ad.e_are_stones ["web", "thing"] (@spD ⟨K⟩ 2 xa) := by
  letI : KK := ⟨K⟩
  have G_are_counts := XB (P := P) (w := w) (base := base) T
  refine Yd (xA (N := ["web", "thing"]) (ps := ["web", "thing"]) T.d_are_stones.fn XY (g := xN) fun cdv A outer s H E hr => ?_) XV
  unfold xN
  exact (zj (zt (vI (zn (G_are_counts.mono (by decide)) hr rfl T.d_are_counts.at_ T.d_are_counts.kp T.d_are_counts.bd (zb (yA (za 0 (pv 0)) (zh zi) (fun _ _ => rfl)) (zb (za 1 (pv 1)) zf))) (vG (wN zbx yK (zF _) (ye (zcm rfl) zd1 rfl T.z_sum zfz (zb (za 1 (pv 1)) zf)) (zh (VD (v := .int 300) rfl T.g_MOST_STONES ⟨_, rfl⟩)))))))
end
section
variable {P : Program} {w : World} {K : PySem.W.Frag} {mg : Str → Option Value} {base : Heap} {ad : Adr}
noncomputable def xL : SE → Ctl :=
  (sIf (yF (tOf (zr 2 xa (zc (zg 0) (zc (zg 1) zu))))) sNo zG)
noncomputable def vB : List D → Option D := fnD 2 xL
noncomputable def xH : List D → Option D
  | [.tup [.int m, _], d] => if (noS d && decide (m ≤ 1000) && vQ m d) = true then some .non else none
  | _ => none
theorem Zg : ∀ ds d, ds.length = 2 → xH ds = some d → vB ds = some d := by
  intro ds d hl h
  obtain ⟨a, b, rfl⟩ := zeN hl
  unfold xH at h
  split at h
  · rename_i m t b' e
    injection e with e1 e2
    injection e2 with e2 _
    subst e1 e2
    obtain ⟨hn, rfl⟩ := ifS h
    rw [Bool.and_eq_true] at hn
    have ec : xa [.tup [.int m, t], b] = some (.bl true) := by simp only [xa]; rw [if_pos hn.1, hn.2]
    simp [vB, xL, fnD, zM, yn, ve, sIf, wm, Yh, sNo, zG, WT, Yi, Y6, Zm, Ys, vEv, visF, visG, Sl.f, Sl.g, zg, eC, zk, vW, eOr, Xc, eIf, eUn, YL, wW, xS, yf, zc, zu, zr, eFn, fFn, tOf, wJ, Yw, yF, asB, asI, zU, YG, wy, xz, xT, ZW, wn, ltD, leD, gtD, geD, ZX, yb, yE, zZ, yH, ZY, yc, ixD, vO, yz, isT, eSl, wG, xW, y8, xy, iOf, vz, xP, YD, vX, v5, y6, wQ, fLC, xk, yB, wE, yq, YQ, yX, Y9, b1, b2, ec]
  · cases h
theorem Zr (T : Txt K mg ad) : y0 P w K mg base CX0 4 ad.f_must_be_heap ad.e_must_be_heap ["web", "thing"] (@spD ⟨K⟩ 2 xH) := by
  letI : KK := ⟨K⟩
  have G_are_stones := X3 (P := P) (w := w) (base := base) T
  refine Yd (xA (N := ["web", "thing"]) (ps := ["web", "thing"]) T.d_must_be_heap.fn ZR (g := xL) fun cdv A outer s H E hr => ?_) Zg
  unfold xL
  exact (zj (yu (wv (xn (zn (G_are_stones.mono (by decide)) hr rfl T.d_are_stones.at_ T.d_are_stones.kp T.d_are_stones.bd (zb (za 0 (pv 0)) (zb (za 1 (pv 1)) zf))))) (zj Y8) zw))
noncomputable def zeO (a b : Int) : Tie := (if b < a then b else a, if b > a then b else a)
noncomputable def xu : SE → Ctl :=
  (sIf (yF (tOf (zr 2 wK (zc (zk ixD (zg 0) (eC (.int 0))) (zc (zg 1) zu))))) sNo zG)
noncomputable def vb : List D → Option D := fnD 2 xu
noncomputable def xm : List D → Option D
  | [.tup [.int m, _], .int p] => if (decide (0 ≤ p) && decide (p ≤ m - 1)) = true then some .non else none
  | _ => none
theorem YU : ∀ ds d, ds.length = 2 → xm ds = some d → vb ds = some d := by
  intro ds d hl h
  obtain ⟨a, b, rfl⟩ := zeN hl
  unfold xm at h
  split at h
  · rename_i m t p' e
    injection e with e1 e2
    injection e2 with e2 _
    subst e1 e2
    obtain ⟨hn, rfl⟩ := ifS h
    have ec : wK [.int m, .int p'] = some (.bl true) := by
      show (if noS (.int p') = true then some (D.bl (Zw (.int p') 0 (m - 1))) else none) = _
      rw [if_pos (show noS (.int p') = true from rfl), W8]
      unfold inR
      rw [hn]
    simp [vb, xu, fnD, zM, yn, ve, sIf, wm, Yh, sNo, zG, WT, Yi, Y6, Zm, Ys, vEv, visF, visG, Sl.f, Sl.g, zg, eC, zk, vW, eOr, Xc, eIf, eUn, YL, wW, xS, yf, zc, zu, zr, eFn, fFn, tOf, wJ, Yw, yF, asB, asI, zU, YG, wy, xz, xT, ZW, wn, ltD, leD, gtD, geD, ZX, yb, yE, zZ, yH, ZY, yc, ixD, vO, yz, isT, eSl, wG, xW, y8, xy, iOf, vz, xP, YD, vX, v5, y6, wQ, fLC, xk, yB, wE, yq, YQ, yX, Y9, b1, b2, ec, atI, ixN]
  · cases h
theorem YR (T : Txt K mg ad) : y0 P w K mg base CX0 4 ad.f_must_be_place ad.e_must_be_place ["web", "thing"] (@spD ⟨K⟩ 2 xm) := by
  letI : KK := ⟨K⟩
  have G_is_place := ZB (P := P) (w := w) (base := base) T
  refine Yd (xA (N := ["web", "thing"]) (ps := ["web", "thing"]) T.d_must_be_place.fn YS (g := xu) fun cdv A outer s H E hr => ?_) YU
  unfold xu
  exact (zj (yu (wv (xn (zn (G_is_place.mono (by decide)) hr rfl T.d_is_place.at_ T.d_is_place.kp T.d_is_place.bd (zb (yA (za 0 (pv 0)) (zh zi) (fun _ _ => rfl)) (zb (za 1 (pv 1)) zf))))) (zj Y8) zw))
theorem zch (ts : List Tie) : (ts.map zq).all (okE 20) = true := by
  rw [List.all_map, List.all_eq_true]
  exact fun t _ => rfl
theorem zam (s t : Tie) : eqN 20 (zq s) (zq t) = decide (s = t) := by
  have : eqN 20 (zq s) (zq t) = ((s.1 == t.1) && ((s.2 == t.2) && true) && true) := rfl
  rw [this, Bool.and_true, Bool.and_true]
  by_cases h : s = t
  · subst h
    simp
  · rw [decide_eq_false h, Bool.and_eq_false_iff]
    by_cases h1 : s.1 = t.1
    · exact .inr (beq_eq_false_iff_ne.mpr fun h2 => h (Prod.ext h1 h2))
    · exact .inl (beq_eq_false_iff_ne.mpr h1)
theorem zc0 (t : Tie) (ts : List Tie) : inD (zq t) (.tup (ts.map zq)) = some (.bl (decide (t ∈ ts))) := by
  show (zcU (zq t) (ts.map zq)).map D.bl = _
  unfold zcU
  rw [if_pos ⟨rfl, zch ts⟩]
  show some (D.bl ((ts.map zq).any fun e => eqN 20 e (zq t))) = _
  rw [List.any_map]
  congr 2
  rw [Bool.eq_iff_iff, List.any_eq_true, decide_eq_true_eq]
  constructor
  · rintro ⟨s, hs, h⟩
    have h : eqN 20 (zq s) (zq t) = true := h
    rw [zam, decide_eq_true_eq] at h
    subst h
    exact hs
  · exact fun h => ⟨t, h, by show eqN 20 (zq t) (zq t) = true; rw [zam]; exact decide_eq_true rfl⟩
end
section
variable {P : Program} {w : World} {K : PySem.W.Frag} {mg : Str → Option Value} {base : Heap} {ad : Adr}
theorem zaH {m : Int} {ns : List Int} (h1 : (ns.length : Int) = m) (h2 : ∀ n ∈ ns, 0 ≤ n) (h3 : ns.sum ≤ 300) : vQ m (.tup (ns.map .int)) = true := by
  unfold vQ xq
  rw [Bool.and_eq_true, Bool.and_eq_true, decide_eq_true_eq, decide_eq_true_eq, Xa, List.length_map]
  exact ⟨⟨h1, za2 h2⟩, h3⟩
theorem zc5 (ns : List Int) : noS (.tup (ns.map .int)) = true := by
  show zd5 (ns.map .int) = true
  induction ns with
  | nil => rfl
  | cons n ns ih => show (noS (.int n) && zd5 (ns.map .int)) = true; rw [ih]; rfl
noncomputable def vAt (ns : List Int) (i : Int) : Int := ns.getD i.toNat 0
theorem zai {ns : List Int} {i : Int} (h0 : 0 ≤ i) (h1 : i < ns.length) : atI (ns.map D.int) i = some (.int (vAt ns i)) := by
  unfold vAt
  obtain ⟨k, hk⟩ : ∃ k : Nat, i = k := ⟨i.toNat, by omega⟩
  subst hk
  refine zed ?_
  rw [Int.toNat_natCast, List.getElem?_map, List.getElem?_eq_getElem (by omega), List.getD_eq_getElem?_getD, List.getElem?_eq_getElem (by omega)]
  rfl
theorem Vx {ns : List Int} {i m : Int} (h : 0 ≤ i ∧ i < m) (hl : (ns.length : Int) = m) : atI (ns.map D.int) i = some (.int (vAt ns i)) := zai h.1 (by omega)
end
theorem zgN {m : Nat} {g : SE → Ctl} {ds : List D} {R : D → Prop} {ρ : SE} (e : ds.map .v ++ List.replicate (m - ds.length) .no = ρ) (q : (g ρ).w (fun _ => R .non) noP noP R) : ∃ d, fnD m g ds = some d ∧ R d := by
  unfold fnD
  rw [e]
  cases hg : g ρ with
  | nx ρ' => rw [hg] at q; exact ⟨_, rfl, q.nxi⟩
  | rt d' => rw [hg] at q; exact ⟨_, rfl, q.rti⟩
  | bk _ => rw [hg] at q; exact q.bki.elim
  | ct _ => rw [hg] at q; exact q.cti.elim
  | no => rw [hg] at q; exact q.noi.elim
section
variable {P : Program} {w : World} {K : PySem.W.Frag} {mg : Str → Option Value} {base : Heap} {ad : Adr}
noncomputable def wP : SE → Ctl :=
  (zM (wm false 2 (zk xT (zk wy (zk wg (zk wg (zk xT (zg 0) (eC (.int 2147483647))) (zk wy (eC (.int 977)) (zg 1))) (eC (.int 1))) (eC (.int 48271))) (eC (.int 2147483647))))
    (zM (wm false 2 (zk xT (zk wy (zg 2) (zg 2)) (eC (.int 2147483629))))
    (zM (wm false 2 (zk xT (zk wy (zk wg (zg 2) (zk wy (eC (.int 40692)) (zk wg (zg 1) (eC (.int 3))))) (eC (.int 69621))) (eC (.int 2147483647))))
    (yn (zk xz (zg 2) (eC (.int 8)))))))
noncomputable def VF : List D → Option D := fnD 3 wP
noncomputable def zO : List D → Option D
  | [.int c, .int k] => some (.int (W1 c k))
  | _ => none
theorem Vp {i j : Int} (h1 : -(2 ^ 64) < i) (h2 : i < 2 ^ 64) : Yn i j = true := decide_eq_true (.inl ⟨h1, h2⟩)
theorem zb1 {i j : Int} (h1 : -(2 ^ 64) < j) (h2 : j < 2 ^ 64) : Yn i j = true := decide_eq_true (.inr ⟨h1, h2⟩)
theorem ZO {i j : Int} (h : Yn i j = true) : wy (.int i) (.int j) = some (.int (i * j)) := by
  show (if Yn i j = true then _ else none) = _
  rw [if_pos h]
theorem yQ {i j : Int} (h : 0 < j) : xT (.int i) (.int j) = some (.int (i % j)) := by
  show (if decide (0 < j) = true then _ else none) = _
  rw [if_pos (decide_eq_true h)]
theorem YX {i j : Int} (h : 0 < j) (h2 : j < 1606938044258990275541962092341162602522202993782792835301376) : xz (.int i) (.int j) = some (.int (i / j)) := by
  show (if decide (0 < j ∧ j < 1606938044258990275541962092341162602522202993782792835301376) = true then _ else none) = _
  rw [if_pos (decide_eq_true ⟨h, h2⟩)]
theorem WN : ∀ ds d, ds.length = 2 → zO ds = some d → VF ds = some d := by
  intro ds d hl h
  obtain ⟨a, b, rfl⟩ := zeN hl
  cases a <;> try cases h
  cases b <;> try cases h
  rename_i c k
  have h1 := Int.emod_nonneg ((c % 2147483647 + 977 * k + 1) * 48271) (show (2147483647 : Int) ≠ 0 by decide)
  have h2 := Int.emod_lt_of_pos ((c % 2147483647 + 977 * k + 1) * 48271) (show (0 : Int) < 2147483647 by decide)
  have m1 : Yn 977 k = true := Vp (by decide) (by decide)
  have m2 : Yn (c % 2147483647 + 977 * k + 1) 48271 = true := zb1 (by decide) (by decide)
  obtain ⟨x, hx⟩ : ∃ x, (c % 2147483647 + 977 * k + 1) * 48271 % 2147483647 = x := ⟨_, rfl⟩
  rw [hx] at h1 h2
  have m3 : Yn x x = true := Vp (Int.lt_of_lt_of_le (by decide) h1) (Int.lt_trans h2 (by decide))
  have m4 : Yn 40692 (k + 3) = true := Vp (by decide) (by decide)
  have m5 : ∀ x, Yn x 69621 = true := fun x => zb1 (by decide) (by decide)
  obtain ⟨y, hy⟩ : ∃ y, x * x % 2147483629 = y := ⟨_, rfl⟩
  obtain ⟨z, hz⟩ : ∃ z, (y + 40692 * (k + 3)) * 69621 % 2147483647 = z := ⟨_, rfl⟩
  have hst : W1 c k = z / 8 := by
    show ((((c % 2147483647 + 977 * k + 1) * 48271 % 2147483647) * ((c % 2147483647 + 977 * k + 1) * 48271 % 2147483647) % 2147483629 + 40692 * (k + 3)) * 69621 % 2147483647 / 8) = _
    rw [hx, hy, hz]
  rw [hst]
  refine Vh (ρ := [.v (.int c), .v (.int k), .no]) rfl ?_
  unfold wP
  refine zH (ρ' := [.v (.int c), .v (.int k), .v (.int x)]) (xj ?_) ?_
  · show (((((xT (.int c) (.int 2147483647)).bind fun a => (wy (.int 977) (.int k)).bind fun b => wg a b).bind fun a => wg a (.int 1)).bind fun a => wy a (.int 48271)).bind fun a => xT a (.int 2147483647)) = _
    rw [yQ (by decide), ZO m1]
    show ((wy (.int (c % 2147483647 + 977 * k + 1)) (.int 48271)).bind fun a => xT a (.int 2147483647)) = _
    rw [ZO m2, ← hx]
    exact yQ (by decide)
  refine zH (ρ' := [.v (.int c), .v (.int k), .v (.int y)]) (xj ?_) ?_
  · show ((wy (.int x) (.int x)).bind fun a => xT a (.int 2147483629)) = _
    rw [ZO m3, ← hy]
    exact yQ (by decide)
  refine zH (ρ' := [.v (.int c), .v (.int k), .v (.int z)]) (xj ?_) ?_
  · show ((((wy (.int 40692) (.int (k + 3))).bind fun b => wg (.int y) b).bind fun a => wy a (.int 69621)).bind fun a => xT a (.int 2147483647)) = _
    rw [ZO m4]
    show ((wy (.int (y + 40692 * (k + 3))) (.int 69621)).bind fun a => xT a (.int 2147483647)) = _
    rw [ZO (m5 _), ← hz]
    exact yQ (by decide)
  exact WH (vR (show xz (.int z) (.int 8) = _ from YX (by decide) (by decide))) rfl
theorem YJ (T : Txt K mg ad) : y0 P w K mg base CX0 1 ad.f__law_stir ad.e__law_stir ["cell", "k"] (@spD ⟨K⟩ 2 zO) := by
  letI : KK := ⟨K⟩
  refine Yd (xA (N := ["cell", "k", "number"]) (ps := ["cell", "k"]) T.d__law_stir.fn wz (g := wP) fun cdv A outer s H E hr => ?_) WN
  unfold wP
  exact (ze (yI (m := false) (i := 2) wz.nd rfl (Or.inl rfl) (x8 (vE (yl (yl (x8 (za 0 (pv 0)) (zh zi)) (vE (zh zi) (za 1 (pv 1)))) (zh zi)) (zh zi)) (zh zi)))
      (ze (yI (m := false) (i := 2) wz.nd rfl (Or.inl rfl) (x8 (vE (za 2 (pv 2)) (za 2 (pv 2))) (zh zi)))
      (ze (yI (m := false) (i := 2) wz.nd rfl (Or.inl rfl) (x8 (vE (yl (za 2 (pv 2)) (vE (zh zi) (yl (za 1 (pv 1)) (zh zi)))) (zh zi)) (zh zi)))
      (zj (zt (Xw (za 2 (pv 2)) (zh zi)))))))
theorem Xg {i j : Int} (h1 : 0 ≤ i) (h2 : i ≤ 1000) (h3 : 0 ≤ j) (h4 : j ≤ 1000) : v5 [.int i, .int j] = some (Xn i (j - i).toNat) := by
  show (if zdH i = true ∧ zdH j = true then some (Xn i (j - i).toNat) else none) = _
  rw [if_pos ⟨yr.mpr ⟨by (clear h4 h3 h2; omega), by (clear h4 h3; omega)⟩, yr.mpr ⟨by omega, by omega⟩⟩]
theorem Z2 {j : Int} (h3 : 0 ≤ j) (h4 : j ≤ 1000000) : vX [.int j] = some (Xn 0 j.toNat) := by
  show (if zdH j = true then some (Xn 0 j.toNat) else none) = _
  rw [if_pos (yr.mpr ⟨by omega, by omega⟩)]
end
section
variable {P : Program} {w : World} {K : PySem.W.Frag} {mg : Str → Option Value} {base : Heap} {ad : Adr}
noncomputable def yZ : SE → Ctl :=
  (zM (wm false 5 (zk xT (zr 2 zO (zc (zg 1) (zc (zk wg (eC (.int 21)) (zg 4)) zu))) (zg 0)))
    (zM (sIf (wJ (tOf (zk YN (zk xT (zg 1) (eC (.int 3))) (eC (.int 1)))) (tOf (zk gtD (zg 4) (eC (.int 0))))) (wm false 5 (zk xT (zr 2 zO (zc (zg 1) (zc (zk wg (eC (.int 21)) (zk xz (zg 4) (eC (.int 4)))) zu))) (zg 0))) zG)
    (Ys true 3 (zg 5) (zk wg (zk ixD (zg 3) (zg 5)) (eC (.int 1))))))
noncomputable def yW : SE → Ctl :=
  (zM (Yi 3 (fBin zdB (xS (yf (zc (eC (.int 0)) zu))) (zg 0)))
    (zM (xP vX (zc (zk xT (zr 2 zO (zc (zg 1) (zc (eC (.int 20)) zu))) (zk wg (zg 2) (eC (.int 1)))) zu) (yq 4) yZ)
    (sFz 3 (yn (eFn yB (zc (zg 3) zu))))))
noncomputable def wB : List D → Option D := fnD 6 yW
theorem zdm {n c mo x pl : Int} {ns : List Int} {N B C : SE → Prop} {R : D → Prop} (p0 : 0 ≤ pl) (hlt : pl.toNat < ns.length) (hll : pl < ((ns.map D.int).length : Int))
    (q : N [.v (.int n), .v (.int c), .v (.int mo), .o ((ns.set pl.toNat (ns[pl.toNat] + 1)).map .int), .v (.int x), .v (.int pl)]) :
    (Ys true 3 (zg 5) (zk wg (zk ixD (zg 3) (zg 5)) (eC (.int 1))) [.v (.int n), .v (.int c), .v (.int mo), .o (ns.map .int), .v (.int x), .v (.int pl)]).w N B C R := by
  have ea : L2.atI (ns.map D.int) pl = some (.int ns[pl.toNat]) := zdn p0 (by rw [List.getElem?_map, List.getElem?_eq_getElem hlt]; rfl)
  rw [List.map_set] at q
  refine zev (ns.map .int) (.int (ns[pl.toNat] + 1)) pl ?_ rfl rfl p0 hll q
  show ((((L2.atI (ns.map D.int) pl).bind fun a => wg a (.int 1))).bind fun d => if noL d = true then some d else none) = _
  rw [ea]
  rfl
theorem zfC {n c mo x : Int} {ns : List Int} {o5 : Sl} {N B C : SE → Prop} {R : D → Prop} (hn0 : 0 < n) (hl : (ns.length : Int) = n)
    (q : ∀ (k : Nat) (hk : k < ns.length) (o5 : Sl), N [.v (.int n), .v (.int c), .v (.int mo), .o ((ns.set k (ns[k] + 1)).map .int), .v (.int x), o5]) :
    (yZ [.v (.int n), .v (.int c), .v (.int mo), .o (ns.map .int), .v (.int x), o5]).w N B C R := by
  unfold yZ
  have go : ∀ y : Int, ∃ pl : Int, y % n = pl ∧ 0 ≤ pl ∧ pl.toNat < ns.length ∧ pl < ((ns.map D.int).length : Int) := fun y => ⟨_, rfl, Int.emod_nonneg _ (by omega), by have := Int.emod_lt_of_pos y hn0; have := Int.emod_nonneg y (show n ≠ 0 by omega); omega, by rw [List.length_map, hl]; exact Int.emod_lt_of_pos _ hn0⟩
  obtain ⟨p1, e1, a0, a1, a2⟩ := go (W1 c (21 + x))
  obtain ⟨p2, e2, b0, b1, b2⟩ := go (W1 c (21 + x / 4))
  refine zH (ρ' := [.v (.int n), .v (.int c), .v (.int mo), .o (ns.map .int), .v (.int x), .v (.int p1)]) (xj (show xT (.int (W1 c (21 + x))) (.int n) = some (.int p1) by rw [yQ hn0, e1])) ?_
  have f1 : tOf (zk YN (zk xT (zg 1) (eC (.int 3))) (eC (.int 1))) (visG [.v (.int n), .v (.int c), .v (.int mo), .o (ns.map .int), .v (.int x), .v (.int p1)]) = some (decide (c % 3 = 1)) := by
    show ((xT (.int c) (.int 3)).bind fun y => YN y (.int 1)).bind asB = _
    rw [yQ (by decide)]
    rfl
  refine wd (Z0 (c := decide (c % 3 = 1) && decide (0 < x)) ?_ (fun _ => Yj (ρ' := [.v (.int n), .v (.int c), .v (.int mo), .o (ns.map .int), .v (.int x), .v (.int p2)]) (xj (d := .int p2) ?_) (zdm b0 b1 b2 (q _ _ _))) (fun _ => Yj rfl (zdm a0 a1 a2 (q _ _ _))))
  · unfold wJ
    rw [f1, Option.bind_some]
    show (if decide (c % 3 = 1) = true then some (decide (0 < x)) else some false) = _
    cases decide (c % 3 = 1) <;> rfl
  · have g1 : xz (.int x) (.int 4) = some (.int (x / 4)) := YX (by decide) (by decide)
    have g2 : xT (.int (W1 c (21 + x / 4))) (.int n) = some (.int p2) := by rw [yQ hn0, e2]
    show (((((xz (.int x) (.int 4)).bind fun y => wg (.int 21) y).bind fun d => (some ([] : List D)).map (d :: ·)).map (D.int c :: ·)).bind (fun ds => if ds.length = 2 then zO ds else none)).bind (fun r => xT r (.int n)) = _
    rw [g1]
    exact g2
theorem Vv {n c mo : Int} (h1 : 1 ≤ n) (h8 : n ≤ 8) (hm0 : 0 ≤ mo) (hm : mo ≤ 1000) : ∃ ns : List Int, wB [.int n, .int c, .int mo] = some (.tup (ns.map .int)) ∧ (ns.length : Int) = n ∧ (∀ x ∈ ns, 0 ≤ x) ∧ ns.sum ≤ mo := by
  obtain ⟨cn, hcn⟩ : ∃ cn : Int, W1 c 20 % (mo + 1) = cn := ⟨_, rfl⟩
  have hmp : 0 < mo + 1 := Int.lt_add_one_of_le hm0
  obtain ⟨c0, c1⟩ := Y2 hmp hcn
  have key := zgN (m := 6) (g := yW) (ds := [.int n, .int c, .int mo]) (R := fun d => ∃ ns : List Int, d = .tup (ns.map .int) ∧ (ns.length : Int) = n ∧ (∀ x ∈ ns, 0 ≤ x) ∧ ns.sum ≤ mo) (ρ := [.v (.int n), .v (.int c), .v (.int mo), .no, .no, .no]) rfl ?_
  · obtain ⟨d, e, ns, rfl, h⟩ := key
    exact ⟨ns, e, h⟩
  unfold yW
  refine zH (ρ' := [.v (.int n), .v (.int c), .v (.int mo), .o ((List.replicate n.toNat (0 : Int)).map .int), .no, .no]) ?_ ?_
  · have e := zhl (d := .int 0) h1 h8
    refine zbh (ds := (List.replicate n.toNat (0 : Int)).map .int) ?_
    rw [List.map_replicate]
    exact e
  refine wd (zdl (lo := 0) (c := cn.toNat) (fun i ρ => ∃ (ns : List Int) (o4 o5 : Sl), ρ = [.v (.int n), .v (.int c), .v (.int mo), .o (ns.map .int), o4, o5] ∧ (ns.length : Int) = n ∧ (∀ x ∈ ns, 0 ≤ x) ∧ ns.sum = (i : Int)) ?_ ⟨_, _, _, rfl, by rw [List.length_replicate]; omega, fun x hx => by rw [(List.mem_replicate.mp hx).2]; exact Int.le_refl _, ?_⟩ ?_ ?_)
  · have e := Z2 c0 (by omega)
    have m1 : xT (.int (W1 c 20)) (.int (mo + 1)) = some (.int cn) := by rw [yQ hmp, hcn]
    show ((xT (.int (W1 c 20)) (.int (mo + 1))).bind fun d => (some []).map (d :: ·)).bind vX = _
    rw [m1]
    exact e
  · rw [zb4]; rfl
  · rintro i ρ hi ⟨ns, o4, o5, rfl, hl, hnn, hs⟩
    refine ⟨_, rfl, zfC (zfj h1) hl fun k hk o5 => ⟨_, _, o5, rfl, by rw [List.length_set]; exact hl, fun y hy => ?_, ?_⟩⟩
    · rcases List.mem_or_eq_of_mem_set hy with h | h
      · exact hnn y h
      · rw [h]; exact Int.add_nonneg (hnn _ (List.getElem_mem hk)) (by decide)
    · rw [zbq hk, hs]
      omega
  · rintro ρ ⟨ns, o4, o5, rfl, hl, hnn, hs⟩
    exact zfw (ρ' := [.v (.int n), .v (.int c), .v (.int mo), .v (.lst (ns.map .int)), o4, o5]) rfl (WH rfl ⟨ns, rfl, hl, hnn, by omega⟩)
theorem Zu (T : Txt K mg ad) : y0 P w K mg base CX0 2 ad.f__law_heap_by ad.e__law_heap_by ["many", "cell", "most"] (@spD ⟨K⟩ 3 wB) := by
  letI : KK := ⟨K⟩
  have G__law_stir := YJ (P := P) (w := w) (base := base) T
  refine xA (N := ["many", "cell", "most", "found", "k", "place"]) (ps := ["many", "cell", "most"]) T.d__law_heap_by.fn yD (g := yW) fun cdv A outer s H E hr => ?_
  unfold yW yZ
  exact (ze (ZD (i := 3) yD.nd rfl (Or.inl rfl) (zfA (wX (x6 (zb (zh zi) zf))) (za 0 (pv 0))))
      (ze (V0 PassesOwn.never rfl rfl T.z_range (zb (x8 (zn (G__law_stir.mono (by decide)) hr rfl T.d__law_stir.at_ T.d__law_stir.kp T.d__law_stir.bd (zb (za 1 (pv 1)) (zb (zh zi) zf))) (yl (za 2 (pv 2)) (zh zi))) zf) (yR (zT (i := 4) yD.nd rfl (Or.inl rfl))) (ze (yI (m := false) (i := 5) yD.nd rfl (Or.inl rfl) (x8 (zn (G__law_stir.mono (by decide)) hr rfl T.d__law_stir.at_ T.d__law_stir.kp T.d__law_stir.bd (zb (za 1 (pv 1)) (zb (yl (zh zi) (za 4 (pv 4))) zf))) (za 0 (pv 0))))
      (ze (yu (zeg (ze1 (zV (xt hr) yt (zF _) (x8 (za 1 (pv 1)) (zh zi)) (zh zi)) (zew (zV zaL yK (zF _) (za 4 (pv 4)) (zh zi))))) (zj (yI (m := false) (i := 5) yD.nd rfl (Or.inl rfl) (x8 (zn (G__law_stir.mono (by decide)) hr rfl T.d__law_stir.at_ T.d__law_stir.kp T.d__law_stir.bd (zb (za 1 (pv 1)) (zb (yl (zh zi) (Xw (za 4 (pv 4)) (zh zi))) zf))) (za 0 (pv 0))))) zw)
      (zj (V4 (m := true) (yl (yA (za 3 (pv 3)) (za 5 (pv 5)) (fun _ _ => rfl)) (zh zi)) (pv 3) (za 5 (pv 5)))))))
      (Xk 3 (zj (zt (vp xw vm rfl T.z_tuple xp (zb (za 3 (pv 3)) zf)))))))
end
section
variable {P : Program} {w : World} {K : PySem.W.Frag} {mg : Str → Option Value} {base : Heap} {ad : Adr}
noncomputable def wc (r : List D → Option D) : SE → Ctl :=
  (sIf (yF (tOf (zr 2 r (zc (zg 2) (zc (zg 3) zu))))) (yn (eC (.bl false))) zG)
noncomputable def yd (r : List D → Option D) : SE → Ctl :=
  (zM (sIf (tOf (zk ZY (zg 1) (eC .non))) (yn (zk ZY (zg 0) (eC .non))) zG)
    (zM (sIf (tOf (eUn (yz .bool) (zg 1))) (yn (vW (eUn (yz .bool) (zg 0)) (zk YN (zg 0) (zg 1)))) zG)
    (zM (sIf (tOf (eUn (yz .int) (zg 1))) (yn (vW (eUn (yz .int) (zg 0)) (vW (Xc (eUn (yz .bool) (zg 0))) (zk YN (zg 0) (zg 1))))) zG)
    (zM (sIf (tOf (eUn (yz .str) (zg 1))) (yn (vW (eUn (yz .str) (zg 0)) (zk YN (zg 0) (zg 1)))) zG)
    (zM (sIf (Yw (tOf (zk neD (eUn (yz .list) (zg 1)) (eUn (yz .list) (zg 0)))) (tOf (zk neD (eUn (yz .tuple) (zg 1)) (eUn (yz .tuple) (zg 0))))) (yn (eC (.bl false))) zG)
    (zM (sIf (tOf (zk neD (eFn vO (zc (zg 0) zu)) (eFn vO (zc (zg 1) zu)))) (yn (eC (.bl false))) zG)
    (zM (vz (wQ (zc (zg 0) (zc (zg 1) zu))) (YQ 2 (yX (yq 2) (yX (yq 3) Y9))) (wc r))
    (yn (eC (.bl true))))))))))
noncomputable def wt : List D → Option D := zfS 4 yd 6
theorem Wi (ds : List D) : V2 ds ds = ds.map fun d => .tup [d, d] := by
  induction ds with
  | nil => rfl
  | cons d ds ih => show D.tup [d, d] :: V2 ds ds = _; rw [ih]; rfl
theorem Wm {r : List D → Option D} {d : D} (hr : ∀ es, (d = .tup es ∨ d = .lst es) → ∀ e ∈ es, r [e, e] = some (.bl true)) (hn : ∀ ns, d ≠ .scr ns) (hd : ∀ z t ks vs, d ≠ .dct z t ks vs) : fnD 4 (yd r) [d, d] = some (.bl true) := by
  cases d with
  | scr ns => exact absurd rfl (hn ns)
  | dct z t ks vs => exact absurd rfl (hd z t ks vs)
  | non => rfl
  | bl b => cases b <;> rfl
  | int i => simp [yd, fnD, zM, yn, ve, sIf, wm, Yh, sNo, zG, WT, Yi, Y6, Zm, Ys, vEv, visF, visG, Sl.f, Sl.g, zg, eC, zk, vW, eOr, Xc, eIf, eUn, YL, wW, xS, yf, zc, zu, zr, eFn, fFn, tOf, wJ, Yw, yF, asB, asI, zU, YG, wy, xz, xT, ZW, wn, ltD, leD, gtD, geD, ZX, yb, yE, zZ, yH, ZY, yc, ixD, vO, yz, isT, eSl, wG, xW, y8, xy, iOf, vz, xP, YD, vX, v5, y6, wQ, fLC, xk, yB, wE, yq, YQ, yX, Y9, b1, b2]
  | str x => simp [yd, fnD, zM, yn, ve, sIf, wm, Yh, sNo, zG, WT, Yi, Y6, Zm, Ys, vEv, visF, visG, Sl.f, Sl.g, zg, eC, zk, vW, eOr, Xc, eIf, eUn, YL, wW, xS, yf, zc, zu, zr, eFn, fFn, tOf, wJ, Yw, yF, asB, asI, zU, YG, wy, xz, xT, ZW, wn, ltD, leD, gtD, geD, ZX, yb, yE, zZ, yH, ZY, yc, ixD, vO, yz, isT, eSl, wG, xW, y8, xy, iOf, vz, xP, YD, vX, v5, y6, wQ, fLC, xk, yB, wE, yq, YQ, yX, Y9, b1, b2]
  | tup es =>
    refine Vh (ρ := [.v (.tup es), .v (.tup es), .no, .no]) rfl ?_
    unfold yd
    refine zH rfl (zH rfl (zH rfl (zH rfl (zH rfl (wd (Z0 (c := false) (by simp [fnD, zM, yn, ve, sIf, wm, Yh, sNo, zG, WT, Yi, Y6, Zm, Ys, vEv, visF, visG, Sl.f, Sl.g, zg, eC, zk, vW, eOr, Xc, eIf, eUn, YL, wW, xS, yf, zc, zu, zr, eFn, fFn, tOf, wJ, Yw, yF, asB, asI, zU, YG, wy, xz, xT, ZW, wn, ltD, leD, gtD, geD, ZX, yb, yE, zZ, yH, ZY, yc, ixD, vO, yz, isT, eSl, wG, xW, y8, xy, iOf, vz, xP, YD, vX, v5, y6, wQ, fLC, xk, yB, wE, yq, YQ, yX, Y9, b1, b2]) (fun z => by cases z) fun _ => Yj rfl ?_))))))
    refine wd (XZ (ds := V2 es es) (fun i ρ => ∃ o1 o2, ρ = [.v (.tup es), .v (.tup es), o1, o2]) (by simp [fnD, zM, yn, ve, sIf, wm, Yh, sNo, zG, WT, Yi, Y6, Zm, Ys, vEv, visF, visG, Sl.f, Sl.g, zg, eC, zk, vW, eOr, Xc, eIf, eUn, YL, wW, xS, yf, zc, zu, zr, eFn, fFn, tOf, wJ, Yw, yF, asB, asI, zU, YG, wy, xz, xT, ZW, wn, ltD, leD, gtD, geD, ZX, yb, yE, zZ, yH, ZY, yc, ixD, vO, yz, isT, eSl, wG, xW, y8, xy, iOf, vz, xP, YD, vX, v5, y6, wQ, fLC, xk, yB, wE, yq, YQ, yX, Y9, b1, b2]) ⟨_, _, rfl⟩ ?_ ?_)
    · rintro i d ρ hd ⟨o1, o2, rfl⟩
      rw [Wi, List.getElem?_map] at hd
      obtain ⟨e, he, rfl⟩ := Option.map_eq_some_iff.mp hd
      have hre := hr es (.inl rfl) e (List.mem_of_getElem? he)
      refine ⟨_, rfl, ?_⟩
      unfold wc
      refine Z0 (c := false) (by simp [fnD, zM, yn, ve, sIf, wm, Yh, sNo, zG, WT, Yi, Y6, Zm, Ys, vEv, visF, visG, Sl.f, Sl.g, zg, eC, zk, vW, eOr, Xc, eIf, eUn, YL, wW, xS, yf, zc, zu, zr, eFn, fFn, tOf, wJ, Yw, yF, asB, asI, zU, YG, wy, xz, xT, ZW, wn, ltD, leD, gtD, geD, ZX, yb, yE, zZ, yH, ZY, yc, ixD, vO, yz, isT, eSl, wG, xW, y8, xy, iOf, vz, xP, YD, vX, v5, y6, wQ, fLC, xk, yB, wE, yq, YQ, yX, Y9, b1, b2, hre]) (fun z => by cases z) fun _ => Yj rfl ⟨_, _, rfl⟩
    · rintro ρ ⟨o1, o2, rfl⟩
      exact WH rfl rfl
  | lst es =>
    refine Vh (ρ := [.v (.lst es), .v (.lst es), .no, .no]) rfl ?_
    unfold yd
    refine zH rfl (zH rfl (zH rfl (zH rfl (zH rfl (wd (Z0 (c := false) (by simp [fnD, zM, yn, ve, sIf, wm, Yh, sNo, zG, WT, Yi, Y6, Zm, Ys, vEv, visF, visG, Sl.f, Sl.g, zg, eC, zk, vW, eOr, Xc, eIf, eUn, YL, wW, xS, yf, zc, zu, zr, eFn, fFn, tOf, wJ, Yw, yF, asB, asI, zU, YG, wy, xz, xT, ZW, wn, ltD, leD, gtD, geD, ZX, yb, yE, zZ, yH, ZY, yc, ixD, vO, yz, isT, eSl, wG, xW, y8, xy, iOf, vz, xP, YD, vX, v5, y6, wQ, fLC, xk, yB, wE, yq, YQ, yX, Y9, b1, b2]) (fun z => by cases z) fun _ => Yj rfl ?_))))))
    refine wd (XZ (ds := V2 es es) (fun i ρ => ∃ o1 o2, ρ = [.v (.lst es), .v (.lst es), o1, o2]) (by simp [fnD, zM, yn, ve, sIf, wm, Yh, sNo, zG, WT, Yi, Y6, Zm, Ys, vEv, visF, visG, Sl.f, Sl.g, zg, eC, zk, vW, eOr, Xc, eIf, eUn, YL, wW, xS, yf, zc, zu, zr, eFn, fFn, tOf, wJ, Yw, yF, asB, asI, zU, YG, wy, xz, xT, ZW, wn, ltD, leD, gtD, geD, ZX, yb, yE, zZ, yH, ZY, yc, ixD, vO, yz, isT, eSl, wG, xW, y8, xy, iOf, vz, xP, YD, vX, v5, y6, wQ, fLC, xk, yB, wE, yq, YQ, yX, Y9, b1, b2]) ⟨_, _, rfl⟩ ?_ ?_)
    · rintro i d ρ hd ⟨o1, o2, rfl⟩
      rw [Wi, List.getElem?_map] at hd
      obtain ⟨e, he, rfl⟩ := Option.map_eq_some_iff.mp hd
      have hre := hr es (.inr rfl) e (List.mem_of_getElem? he)
      refine ⟨_, rfl, ?_⟩
      unfold wc
      refine Z0 (c := false) (by simp [fnD, zM, yn, ve, sIf, wm, Yh, sNo, zG, WT, Yi, Y6, Zm, Ys, vEv, visF, visG, Sl.f, Sl.g, zg, eC, zk, vW, eOr, Xc, eIf, eUn, YL, wW, xS, yf, zc, zu, zr, eFn, fFn, tOf, wJ, Yw, yF, asB, asI, zU, YG, wy, xz, xT, ZW, wn, ltD, leD, gtD, geD, ZX, yb, yE, zZ, yH, ZY, yc, ixD, vO, yz, isT, eSl, wG, xW, y8, xy, iOf, vz, xP, YD, vX, v5, y6, wQ, fLC, xk, yB, wE, yq, YQ, yX, Y9, b1, b2, hre]) (fun z => by cases z) fun _ => Yj rfl ⟨_, _, rfl⟩
    · rintro ρ ⟨o1, o2, rfl⟩
      exact WH rfl rfl
theorem zbI : ∀ (n : Nat) {d : D}, okE n d = true → zfS 4 yd (n + 1) [d, d] = some (.bl true) := by
  intro n
  induction n with
  | zero =>
    intro d h
    refine Wm (fun es he => ?_) (fun ns e => by subst e; cases h) (fun _ _ _ _ e => by subst e; cases h)
    rcases he with rfl | rfl <;> cases h
  | succ n ih =>
    intro d h
    refine Wm (fun es he e hm => ?_) (fun ns e => by subst e; cases h) (fun _ _ _ _ e => by subst e; cases h)
    rcases he with rfl | rfl
    · exact ih (List.all_eq_true.mp h e hm)
    · exact ih (List.all_eq_true.mp h e hm)
theorem zab {d : D} (h : okE 5 d = true) : wt [d, d] = some (.bl true) := zbI 5 h
theorem Wx (T : Txt K mg ad) : y0 P w K mg base CX0 7 ad.f__law_same ad.e__law_same ["found", "due"] (@spD ⟨K⟩ 2 wt) := by
  letI : KK := ⟨K⟩
  have R : ∀ n, y0 P w K mg base CX0 (1 + n) ad.f__law_same ad.e__law_same ["found", "due"] (spD 2 (zfS 4 yd n)) := by
    refine zgd (P := P) (w := w) (mg := mg) (base := base) (k0 := 1) (g := yd) T.d__law_same.fn vd fun k r hrec cdv A outer s H E hr => ?_
    unfold yd wc
    exact (ze (yu (zV zbW Vm (zF _) (za 1 (pv 1)) (vH vJ)) (zj (zt (wN zbW Vm (zF _) (za 0 (pv 0)) (vH vJ)))) zw)
      (ze (yu (xn (zI .bool rfl T.z_isinstance (za 1 (pv 1)) (yp (v := .ty "bool") rfl T.z_bool X7 rfl))) (zj (zt (vI (zI .bool rfl T.z_isinstance (za 0 (pv 0)) (yp (v := .ty "bool") rfl T.z_bool X7 rfl)) (vG (wN (xt hr) yt (zF _) (za 0 (pv 0)) (za 1 (pv 1))))))) zw)
      (ze (yu (xn (zI .int rfl T.z_isinstance (za 1 (pv 1)) (yp (v := .ty "int") rfl T.z_int zbo rfl))) (zj (zt (vI (zI .int rfl T.z_isinstance (za 0 (pv 0)) (yp (v := .ty "int") rfl T.z_int zbo rfl)) (vI (zdx (zI .bool rfl T.z_isinstance (za 0 (pv 0)) (yp (v := .ty "bool") rfl T.z_bool X7 rfl))) (vG (wN (xt hr) yt (zF _) (za 0 (pv 0)) (za 1 (pv 1)))))))) zw)
      (ze (yu (xn (zI .str rfl T.z_isinstance (za 1 (pv 1)) (yp (v := .ty "str") rfl T.z_str zb8 rfl))) (zj (zt (vI (zI .str rfl T.z_isinstance (za 0 (pv 0)) (yp (v := .ty "str") rfl T.z_str zb8 rfl)) (vG (wN (xt hr) yt (zF _) (za 0 (pv 0)) (za 1 (pv 1))))))) zw)
      (ze (yu (zeg (Vz (zV zaP Xf (zF _) (zI .list rfl T.z_isinstance (za 1 (pv 1)) (yp (v := .ty "list") rfl T.z_list Zn rfl)) (zI .list rfl T.z_isinstance (za 0 (pv 0)) (yp (v := .ty "list") rfl T.z_list Zn rfl))) (Xb (zV zaP Xf (zF _) (zI .tuple rfl T.z_isinstance (za 1 (pv 1)) (yp (v := .ty "tuple") rfl T.z_tuple xp rfl)) (zI .tuple rfl T.z_isinstance (za 0 (pv 0)) (yp (v := .ty "tuple") rfl T.z_tuple xp rfl)))))) (zj (zt (vM vP))) zw)
      (ze (yu (zV zaP Xf (zF _) (ye zK wq rfl T.z_len vg (zb (za 0 (pv 0)) zf)) (ye zK wq rfl T.z_len vg (zb (za 1 (pv 1)) zf))) (zj (zt (vM vP))) zw)
      (ze (ZS PassesOwn.never rfl (zfJ rfl T.z_zip (zb (za 0 (pv 0)) (zb (za 1 (pv 1)) zf))) (VZ rfl (we (yR (zT (i := 2) vd.nd rfl (Or.inl rfl))) (we (yR (zT (i := 3) vd.nd rfl (Or.inl rfl))) Xz))) (zj (yu (wv (xn (zn hrec hr rfl T.d__law_same.at_ T.d__law_same.kp T.d__law_same.bd (zb (za 2 (pv 2)) (zb (za 3 (pv 3)) zf))))) (zj (zt (vM vP))) zw)))
      (zj (zt (vM vP))))))))))
  exact R 6
end
section
variable {P : Program} {w : World} {K : PySem.W.Frag} {mg : Str → Option Value} {base : Heap} {ad : Adr}
noncomputable def xK : SE → Ctl :=
  (zM (sIf (tOf (zk ltD (zg 1) (eFn vO (zc (zg 0) zu)))) (yn (zk ixD (zg 0) (zg 1))) zG)
    (yn (eC (.int 0))))
noncomputable def yS : List D → Option D := fnD 2 xK
theorem zaJ (ns : List Int) : ∃ c : Int, yS [.scr ns, .int 0] = some (.int c) := by
  cases ns with
  | nil => exact ⟨0, rfl⟩
  | cons n ns =>
    refine ⟨n, ?_⟩
    have e : atI (n :: ns) 0 = some n := zdn (Int.le_refl _) rfl
    simp [yS, xK, fnD, zM, yn, ve, sIf, wm, Yh, sNo, zG, WT, Yi, Y6, Zm, Ys, vEv, visF, visG, Sl.f, Sl.g, zg, eC, zk, vW, eOr, Xc, eIf, eUn, YL, wW, xS, yf, zc, zu, zr, eFn, fFn, tOf, wJ, Yw, yF, asB, asI, zU, YG, wy, xz, xT, ZW, wn, ltD, leD, gtD, geD, ZX, yb, yE, zZ, yH, ZY, yc, ixD, vO, yz, isT, eSl, wG, xW, y8, xy, iOf, vz, xP, YD, vX, v5, y6, wQ, fLC, xk, yB, wE, yq, YQ, yX, Y9, b1, b2, e]
theorem Zp (T : Txt K mg ad) : y0 P w K mg base CX0 1 ad.f__law_cell_at ad.e__law_cell_at ["script", "k"] (@spD ⟨K⟩ 2 yS) := by
  letI : KK := ⟨K⟩
  refine xA (N := ["script", "k"]) (ps := ["script", "k"]) T.d__law_cell_at.fn Za (g := xK) fun cdv A outer s H E hr => ?_
  unfold xK
  exact (ze (yu (zV zd2 yK (zF _) (za 1 (pv 1)) (ye zK wq rfl T.z_len vg (zb (za 0 (pv 0)) zf))) (zj (zt (yA (za 0 (pv 0)) (za 1 (pv 1)) (fun _ _ => rfl)))) zw)
      (zj (zt (zh zi))))
theorem zcv {ρ : Ev} (ns : List Int) (k : Int) (h : ns.length ≤ 63) : ∃ xs : List Int, (iOf (zk wg (xS (yf (zc (zr 2 yS (zc (zg 0) (zc (eC (.int 0)) zu))) zu))) (eSl slD (zg 0) (xW (eC (.int 1))) (xW (eC (.int k)))))) (some (.scr ns) :: ρ) = some (xs.map .int) := by
  obtain ⟨c, hc⟩ := zaJ ns
  refine ⟨c :: X9 ns (some 1) (some k), ?_⟩
  have e := Y0 (a := [.int c]) (b := (X9 ns (some 1) (some k)).map .int) (by have := zcW ns (some 1) (some k); simp; omega)
  simp [iOf, zk, xS, yf, zc, zu, zr, zg, eC, hc, w8, eSl, xW, asI, slD, e, xy]
end
section
variable {P : Program} {w : World} {K : PySem.W.Frag} {mg : Str → Option Value} {base : Heap} {ad : Adr}
noncomputable def xY : SE → Ctl :=
  (sIf (yF (tOf (zr 3 zy (zc (zg 0) (zc (zg 1) (zc (zg 2) zu)))))) sNo zG)
noncomputable def wU : List D → Option D := fnD 3 xY
theorem Ym (T : Txt K mg ad) : y0 P w K mg base CX0 3 ad.f_must_be_within ad.e_must_be_within ["thing", "least", "most"] (@spD ⟨K⟩ 3 wU) := by
  letI : KK := ⟨K⟩
  have G_is_whole_within := yC (P := P) (w := w) (base := base) T
  refine xA (N := ["thing", "least", "most"]) (ps := ["thing", "least", "most"]) T.d_must_be_within.fn Yz (g := xY) fun cdv A outer s H E hr => ?_
  unfold xY
  exact (zj (yu (wv (xn (zn (G_is_whole_within.mono (by decide)) hr rfl T.d_is_whole_within.at_ T.d_is_whole_within.kp T.d_is_whole_within.bd (zb (za 0 (pv 0)) (zb (za 1 (pv 1)) (zb (za 2 (pv 2)) zf)))))) (zj Y8) zw))
noncomputable def ZT : SE → Ctl :=
  (zM (sIf (Yw (yF (tOf (eUn (yz .tuple) (zg 0)))) (yF (tOf (zr 1 xU (zc (eFn vO (zc (zg 0) zu)) zu))))) (yn (eC (.bl false))) zG)
    (zM (sIf (tOf (zk yc (zk ixD (zg 0) (eC (.int 0))) (eC .non))) (yn (eC (.bl false))) zG)
    (yn (eFn zeM (zc (xS (fLC (YD v5 (zc (eC (.int 1)) (zc (eFn vO (zc (zg 0) zu)) zu))) b1 xk (zr 2 wK (zc (zg 0) (zc (zk ixD (zg 1) (zg 0)) zu))))) zu)))))
noncomputable def Wu : List D → Option D := fnD 1 ZT
theorem zaG (T : Txt K mg ad) : y0 P w K mg base CX0 4 ad.f_is_over ad.e_is_over ["thing"] (@spD ⟨K⟩ 1 Wu) := by
  letI : KK := ⟨K⟩
  have G_is_place_count := Yr (P := P) (w := w) (base := base) T
  have G_is_place := ZB (P := P) (w := w) (base := base) T
  refine xA (N := ["thing"]) (ps := ["thing"]) T.d_is_over.fn zaF (g := ZT) fun cdv A outer s H E hr => ?_
  unfold ZT
  exact (ze (yu (zeg (Vz (wv (xn (zI .tuple rfl T.z_isinstance (za 0 (pv 0)) (yp (v := .ty "tuple") rfl T.z_tuple xp rfl)))) (Xb (wv (xn (zn (G_is_place_count.mono (by decide)) hr rfl T.d_is_place_count.at_ T.d_is_place_count.kp T.d_is_place_count.bd (zb (ye zK wq rfl T.z_len vg (zb (za 0 (pv 0)) zf)) zf))))))) (zj (zt (vM vP))) zw)
      (ze (yu (zV WJ Z4 (zF _) (yA (za 0 (pv 0)) (zh zi) (fun _ _ => rfl)) (vH vJ)) (zj (zt (vM vP))) zw)
      (zj (zt (ye (WB rfl) zby rfl T.z_all zdE (zb (wX (VU (L := ["place"]) (M := ["thing"]) rfl (Z6 (by rfl) (by rfl) (by rfl) (by with_unfolding_all rfl) (by rfl) (by rfl) (by kernel_rfl) (all_cons rfl Yk)) (ZK rfl T.z_range (zb (zh zi) (zb (ye zK wq rfl T.z_len vg (zb (za 0 (pv 0)) zf)) zf))) gs1 rb1 (fun _ _ _ _ => (zT (i := 0) zgP rfl (Or.inl rfl) (.inr rfl))) (fun _ _ _ _ => (zn (G_is_place.mono (by decide)) hr rfl T.d_is_place.at_ T.d_is_place.kp T.d_is_place.bd (zb (za 0 (pv 0)) (zb (yA (za 1 (pv 1)) (za 0 (pv 0)) (fun _ _ => rfl)) zf)))))) zf))))))
noncomputable def vN : SE → Ctl :=
  (zM (sIf (Yw (yF (tOf (eUn (yz .tuple) (zg 0)))) (tOf (zk neD (eFn vO (zc (zg 0) zu)) (eC (.int 2))))) (yn (eC (.bl false))) zG)
    (zM (wm false 1 (zk ixD (zg 0) (eC (.int 0))))
    (zM (sIf (yF (tOf (eUn (yz .str) (zg 1)))) (yn (eC (.bl false))) zG)
    (zM (sIf (tOf (zk YN (zg 1) (eC (.str "tree")))) (yn (zr 1 Wu (zc (zk ixD (zg 0) (eC (.int 1))) zu))) zG)
    (yn (vW (eUn (zdo v4) (zg 1)) (zr 3 zy (zc (zk ixD (zg 0) (eC (.int 1))) (zc (eUn (zbL v4 0) (zg 1)) (zc (eUn (zbL v4 1) (zg 1)) zu))))))))))
noncomputable def Zh : List D → Option D := fnD 2 vN
theorem WW (T : Txt K mg ad) : y0 P w K mg base CX0 5 ad.f_kind_good ad.e_kind_good ["thing"] (@spD ⟨K⟩ 1 Zh) := by
  letI : KK := ⟨K⟩
  have G_is_whole_within := yC (P := P) (w := w) (base := base) T
  have G_is_over := zaG (P := P) (w := w) (base := base) T
  refine xA (N := ["thing", "word"]) (ps := ["thing"]) T.d_kind_good.fn YF (g := vN) fun cdv A outer s H E hr => ?_
  unfold vN
  exact (ze (yu (zeg (Vz (wv (xn (zI .tuple rfl T.z_isinstance (za 0 (pv 0)) (yp (v := .ty "tuple") rfl T.z_tuple xp rfl)))) (Xb (zV zaP Xf (zF _) (ye zK wq rfl T.z_len vg (zb (za 0 (pv 0)) zf)) (zh zi))))) (zj (zt (vM vP))) zw)
      (ze (yI (m := false) (i := 1) YF.nd rfl (Or.inl rfl) (yA (za 0 (pv 0)) (zh zi) (fun _ _ => rfl)))
      (ze (yu (wv (xn (zI .str rfl T.z_isinstance (za 1 (pv 1)) (yp (v := .ty "str") rfl T.z_str zb8 rfl)))) (zj (zt (vM vP))) zw)
      (ze (yu (zV (xt hr) yt (zF _) (za 1 (pv 1)) (vD vK)) (zj (zt (zn (G_is_over.mono (by decide)) hr rfl T.d_is_over.at_ T.d_is_over.kp T.d_is_over.bd (zb (yA (za 0 (pv 0)) (zh zi) (fun _ _ => rfl)) zf)))) zw)
      (zj (zt (vI (zc4 T.b_SIZES rfl T.g_SIZES (za 1 (pv 1))) (vG (zn (G_is_whole_within.mono (by decide)) hr rfl T.d_is_whole_within.at_ T.d_is_whole_within.kp T.d_is_whole_within.bd (zb (yA (za 0 (pv 0)) (zh zi) (fun _ _ => rfl)) (zb (zaa T.b_SIZES (by decide) rfl T.g_SIZES (za 1 (pv 1)) (fun _ _ => rfl)) (zb (zaa T.b_SIZES (by decide) rfl T.g_SIZES (za 1 (pv 1)) (fun _ _ => rfl)) zf))))))))))))
noncomputable def vU : SE → Ctl :=
  (zM (sIf (tOf (zk YN (zg 0) (eC (.str "cube")))) (yn (zk ixD (wW (zc (eC (.int 1)) (zc (eC (.int 2)) (zc (eC (.int 4)) (zc (eC (.int 8)) zu))))) (zg 1))) zG)
    (zM (sIf (tOf (zk YN (zg 0) (eC (.str "star")))) (yn (zk wg (zg 1) (eC (.int 1)))) zG)
    (zM (sIf (tOf (zk YN (zg 0) (eC (.str "tree")))) (yn (eFn vO (zc (zg 1) zu))) zG)
    (yn (zg 1)))))
noncomputable def Zf : List D → Option D := fnD 2 vU
theorem Ww (T : Txt K mg ad) : y0 P w K mg base CX0 1 ad.f_places_of ad.e_places_of ["word", "size"] (@spD ⟨K⟩ 2 Zf) := by
  letI : KK := ⟨K⟩
  refine xA (N := ["word", "size"]) (ps := ["word", "size"]) T.d_places_of.fn W0 (g := vU) fun cdv A outer s H E hr => ?_
  unfold vU
  exact (ze (yu (zV (xt hr) yt (zF _) (za 0 (pv 0)) (vD vK)) (zj (zt (yA (x5 (zb (zh zi) (zb (zh zi) (zb (zh zi) (zb (zh zi) zf))))) (za 1 (pv 1)) (fun _ _ => rfl)))) zw)
      (ze (yu (zV (xt hr) yt (zF _) (za 0 (pv 0)) (vD vK)) (zj (zt (yl (za 1 (pv 1)) (zh zi)))) zw)
      (ze (yu (zV (xt hr) yt (zF _) (za 0 (pv 0)) (vD vK)) (zj (zt (ye zK wq rfl T.z_len vg (zb (za 1 (pv 1)) zf)))) zw)
      (zj (zt (za 1 (pv 1)))))))
noncomputable def Yu : SE → Ctl :=
  (zM (sIf (tOf (zk YN (zg 0) (eC (.str "row")))) (yn (zk YN (zg 3) (zk wg (zg 2) (eC (.int 1))))) zG)
    (zM (sIf (tOf (zk YN (zg 0) (eC (.str "ring")))) (yn (eOr (zk YN (zg 3) (zk wg (zg 2) (eC (.int 1)))) (vW (zk YN (zg 2) (eC (.int 0))) (zk YN (zg 3) (zk YG (zg 1) (eC (.int 1))))))) zG)
    (zM (sIf (tOf (zk YN (zg 0) (eC (.str "cube")))) (yn (zk inD (zk xorD (zg 2) (zg 3)) (wW (zc (eC (.int 1)) (zc (eC (.int 2)) (zc (eC (.int 4)) zu)))))) zG)
    (zM (sIf (tOf (zk YN (zg 0) (eC (.str "star")))) (yn (zk YN (zg 2) (eC (.int 0)))) zG)
    (zM (sIf (tOf (zk YN (zg 0) (eC (.str "tree")))) (yn (zk YN (zk ixD (zg 1) (zg 3)) (zg 2))) zG)
    (yn (eC (.bl true))))))))
noncomputable def Xd : List D → Option D := fnD 4 Yu
theorem VC (T : Txt K mg ad) : y0 P w K mg base CX0 1 ad.f_are_tied ad.e_are_tied ["word", "size", "one", "other"] (@spD ⟨K⟩ 4 Xd) := by
  letI : KK := ⟨K⟩
  refine xA (N := ["word", "size", "one", "other"]) (ps := ["word", "size", "one", "other"]) T.d_are_tied.fn Ve (g := Yu) fun cdv A outer s H E hr => ?_
  unfold Yu
  exact (ze (yu (zV (xt hr) yt (zF _) (za 0 (pv 0)) (vD vK)) (zj (zt (wN (xt hr) yt (zF _) (za 3 (pv 3)) (yl (za 2 (pv 2)) (zh zi))))) zw)
      (ze (yu (zV (xt hr) yt (zF _) (za 0 (pv 0)) (vD vK)) (zj (zt (zgL (wN (xt hr) yt (zF _) (za 3 (pv 3)) (yl (za 2 (pv 2)) (zh zi))) (vG (vI (wN (xt hr) yt (zF _) (za 2 (pv 2)) (zh zi)) (vG (wN (xt hr) yt (zF _) (za 3 (pv 3)) (WV (za 1 (pv 1)) (zh zi))))))))) zw)
      (ze (yu (zV (xt hr) yt (zF _) (za 0 (pv 0)) (vD vK)) (zj (zt (wN (zfF hr) zfV (by with_unfolding_all rfl) (zfn (za 2 (pv 2)) (za 3 (pv 3))) (x5 (zb (zh zi) (zb (zh zi) (zb (zh zi) zf))))))) zw)
      (ze (yu (zV (xt hr) yt (zF _) (za 0 (pv 0)) (vD vK)) (zj (zt (wN (xt hr) yt (zF _) (za 2 (pv 2)) (zh zi)))) zw)
      (ze (yu (zV (xt hr) yt (zF _) (za 0 (pv 0)) (vD vK)) (zj (zt (wN (xt hr) yt (zF _) (yA (za 1 (pv 1)) (za 3 (pv 3)) (fun _ _ => rfl)) (za 2 (pv 2))))) zw)
      (zj (zt (vM vP))))))))
noncomputable def ZH : SE → Ctl :=
  (Zm 4 (xS (fLC (YD v5 (zc (zk wg (zg 5) (eC (.int 1))) (zc (zg 3) zu))) b1 (tOf (zr 4 Xd (zc (zg 2) (zc (zg 3) (zc (zg 6) (zc (zg 0) zu)))))) (wW (zc (zg 6) (zc (zg 0) zu))))))
noncomputable def ZI : SE → Ctl :=
  (zM (sIf (yF (tOf (zr 1 Zh (zc (zg 0) zu)))) sNo zG)
    (zM (wm false 1 (zk ixD (zg 0) (eC (.int 0))))
    (zM (wm false 2 (zk ixD (zg 0) (eC (.int 1))))
    (zM (wm false 3 (zr 2 Zf (zc (zg 1) (zc (zg 2) zu))))
    (zM (Yi 4 (yf zu))
    (zM (xP vX (zc (zg 3) zu) (yq 5) ZH)
    (sFz 4 (yn (wW (zc (zg 3) (zc (eFn yB (zc (zg 4) zu)) zu)))))))))))
noncomputable def WI : List D → Option D := fnD 6 ZI
theorem zaK (T : Txt K mg ad) : y0 P w K mg base CX0 6 ad.f_web_for ad.e_web_for ["kind"] (@spD ⟨K⟩ 1 WI) := by
  letI : KK := ⟨K⟩
  have G_kind_good := WW (P := P) (w := w) (base := base) T
  have G_places_of := Ww (P := P) (w := w) (base := base) T
  have G_are_tied := VC (P := P) (w := w) (base := base) T
  refine xA (N := ["kind", "word", "size", "many", "ties", "one"]) (ps := ["kind"]) T.d_web_for.fn wk (g := ZI) fun cdv A outer s H E hr => ?_
  unfold ZI ZH
  exact (ze (yu (wv (xn (zn (G_kind_good.mono (by decide)) hr rfl T.d_kind_good.at_ T.d_kind_good.kp T.d_kind_good.bd (zb (za 0 (pv 0)) zf)))) (zj Y8) zw)
      (ze (yI (m := false) (i := 1) wk.nd rfl (Or.inr rfl) (yA (za 0 (pv 0)) (zh zi) (fun _ _ => rfl)))
      (ze (yI (m := false) (i := 2) wk.nd rfl (Or.inr rfl) (yA (za 0 (pv 0)) (zh zi) (fun _ _ => rfl)))
      (ze (yI (m := false) (i := 3) wk.nd rfl (Or.inl rfl) (zn (G_places_of.mono (by decide)) hr rfl T.d_places_of.at_ T.d_places_of.kp T.d_places_of.bd (zb (za 1 (pv 1)) (zb (za 2 (pv 2)) zf))))
      (ze (ZD (i := 4) wk.nd rfl (Or.inl rfl) (x6 zf))
      (ze (V0 PassesOwn.never rfl rfl T.z_range (zb (za 3 (pv 3)) zf) (yR (zT (i := 5) wk.nd rfl (Or.inr rfl))) (zj (zdF (pv 4) (wX (ze2 (L := ["other"]) (M := ["kind", "word", "size", "many", "ties", "one"]) rfl (Z6 (by rfl) (by rfl) (by rfl) (by with_unfolding_all rfl) (by rfl) (by rfl) (by kernel_rfl) (all_cons rfl (all_cons rfl (all_cons rfl Yk)))) (ZK rfl T.z_range (zb (yl (za 5 (pv 5)) (zh zi)) (zb (za 3 (pv 3)) zf))) gs1 rb1 (fun _ _ _ _ => (zT (i := 0) zhe rfl (Or.inl rfl) (.inr rfl))) (fun _ _ _ _ => (xn (zn (G_are_tied.mono (by decide)) hr rfl T.d_are_tied.at_ T.d_are_tied.kp T.d_are_tied.bd (zb (za 2 (pv 2)) (zb (za 3 (pv 3)) (zb (za 6 (pv 6)) (zb (za 0 (pv 0)) zf))))))) (fun _ _ _ _ => (x5 (zb (za 6 (pv 6)) (zb (za 0 (pv 0)) zf)))))) (fun a b => zbd PySem.F.plainAttrs_list PySem.F.slot_list_extend PySem.F.type_list_extend WC a b))))
      (Xk 4 (zj (zt (x5 (zb (za 3 (pv 3)) (zb (vp xw vm rfl T.z_tuple xp (zb (za 4 (pv 4)) zf)) zf))))))))))))
noncomputable def xV : SE → Ctl :=
  (zM (Yh (zr 3 wU (zc (zg 0) (zc (eC (.int 3)) (zc (eC (.int 8)) zu)))))
    (yn (zr 1 WI (zc (wW (zc (eC (.str "ring")) (zc (zg 0) zu))) zu))))
noncomputable def yw : List D → Option D := fnD 1 xV
noncomputable def zay (n : Int) : D := match yw [.int n] with
  | some (.tup [_, t]) => t
  | _ => .non
theorem zc1 {n : Int} (h3 : 3 ≤ n) (h8 : n ≤ 8) : ∃ t, yw [.int n] = some (.tup [.int n, t]) := by
  have c : n = 3 ∨ n = 4 ∨ n = 5 ∨ n = 6 ∨ n = 7 ∨ n = 8 := by omega
  rcases c with rfl | rfl | rfl | rfl | rfl | rfl
  · exact ⟨zay 3, by kernel_rfl⟩
  · exact ⟨zay 4, by kernel_rfl⟩
  · exact ⟨zay 5, by kernel_rfl⟩
  · exact ⟨zay 6, by kernel_rfl⟩
  · exact ⟨zay 7, by kernel_rfl⟩
  · exact ⟨zay 8, by kernel_rfl⟩
theorem Yx (T : Txt K mg ad) : y0 P w K mg base CX0 7 ad.f_ring_of_places ad.e_ring_of_places ["n"] (@spD ⟨K⟩ 1 yw) := by
  letI : KK := ⟨K⟩
  have G_must_be_within := Ym (P := P) (w := w) (base := base) T
  have G_web_for := zaK (P := P) (w := w) (base := base) T
  refine xA (N := ["n"]) (ps := ["n"]) T.d_ring_of_places.fn Yo (g := xV) fun cdv A outer s H E hr => ?_
  unfold xV
  exact (ze (ZL (zn (G_must_be_within.mono (by decide)) hr rfl T.d_must_be_within.at_ T.d_must_be_within.kp T.d_must_be_within.bd (zb (za 0 (pv 0)) (zb (zh zi) (zb (zh zi) zf)))))
      (zj (zt (zn (G_web_for.mono (by decide)) hr rfl T.d_web_for.at_ T.d_web_for.kp T.d_web_for.bd (zb (x5 (zb (vD vK) (zb (za 0 (pv 0)) zf))) zf)))))
noncomputable def xv : SE → Ctl :=
  (zM (wm false 3 (zr 1 yw (zc (zg 0) zu)))
    (zM (Yh (zr 2 xH (zc (zg 3) (zc (zg 1) zu))))
    (Yh (zr 2 xm (zc (zg 3) (zc (zg 2) zu))))))
noncomputable def xl : List D → Option D := fnD 4 xv
theorem VX {n p : Int} {hs : List Int} (h3 : 3 ≤ n) (h8 : n ≤ 8) (hl : (hs.length : Int) = n) (hn : ∀ x ∈ hs, 0 ≤ x) (hsum : hs.sum ≤ 300) (hp : 0 ≤ p ∧ p < n) : xl [.int n, .tup (hs.map .int), .int p] = some .non := by
  obtain ⟨t, et⟩ := zc1 h3 h8
  refine Vh (ρ := [.v (.int n), .v (.tup (hs.map .int)), .v (.int p), .no]) rfl ?_
  unfold xv
  refine zH (xj (d := .tup [.int n, t]) ?_) (zH (Xy (d := .non) ?_) (Yj (Xy (d := .non) ?_) rfl))
  · exact (show zr 1 yw (zc (zg 0) zu) [some (.int n), some (.tup (hs.map .int)), some (.int p), none] = _ from zJ rfl et)
  · refine zJ (ds := [.tup [.int n, t], .tup (hs.map .int)]) rfl ?_
    show (if (noS (.tup (hs.map .int)) && decide (n ≤ 1000) && vQ n (.tup (hs.map .int))) = true then some D.non else none) = _
    rw [zc5, decide_eq_true (show n ≤ 1000 by omega), zaH hl hn hsum]
    rfl
  · refine zJ (ds := [.tup [.int n, t], .int p]) rfl ?_
    show (if (decide (0 ≤ p) && decide (p ≤ n - 1)) = true then some D.non else none) = _
    rw [decide_eq_true hp.1, decide_eq_true (by omega)]
    rfl
theorem wV (T : Txt K mg ad) : y0 P w K mg base CX0 8 ad.f_must_fit_ring ad.e_must_fit_ring ["n", "heap", "place"] (@spD ⟨K⟩ 3 xl) := by
  letI : KK := ⟨K⟩
  have G_must_be_place := YR (P := P) (w := w) (base := base) T
  have G_must_be_heap := Zr (P := P) (w := w) (base := base) T
  have G_ring_of_places := Yx (P := P) (w := w) (base := base) T
  refine xA (N := ["n", "heap", "place", "web"]) (ps := ["n", "heap", "place"]) T.d_must_fit_ring.fn wS (g := xv) fun cdv A outer s H E hr => ?_
  unfold xv
  exact (ze (yI (m := false) (i := 3) wS.nd rfl (Or.inl rfl) (zn (G_ring_of_places.mono (by decide)) hr rfl T.d_ring_of_places.at_ T.d_ring_of_places.kp T.d_ring_of_places.bd (zb (za 0 (pv 0)) zf)))
      (ze (ZL (zn (G_must_be_heap.mono (by decide)) hr rfl T.d_must_be_heap.at_ T.d_must_be_heap.kp T.d_must_be_heap.bd (zb (za 3 (pv 3)) (zb (za 1 (pv 1)) zf))))
      (zj (ZL (zn (G_must_be_place.mono (by decide)) hr rfl T.d_must_be_place.at_ T.d_must_be_place.kp T.d_must_be_place.bd (zb (za 3 (pv 3)) (zb (za 2 (pv 2)) zf)))))))
noncomputable def xI : SE → Ctl :=
  (zM (wm false 2 (xS (fLC (YD v5 (zc (eC (.int 1)) (zc (zg 0) zu))) b1 xk (zk xT (zk wg (zg 2) (zg 0)) (zg 1)))))
    (yn (wW (zc (zg 2) (zc (xS (zgM (zg 2))) zu)))))
noncomputable def yT : List D → Option D := fnD 3 xI
noncomputable def zE (n p s : Int) : List Int := (List.range (n - 1).toNat).map fun k : Nat => (p + s * ((k : Int) + 1)) % n
theorem zD (n p s : Int) : (zE n p s).length = (n - 1).toNat := by unfold zE; rw [List.length_map, List.length_range]
theorem vT {n p s : Int} {k : Nat} (h : k < (n - 1).toNat) : (zE n p s)[k]? = some ((p + s * ((k : Int) + 1)) % n) := by
  unfold zE
  rw [List.getElem?_map, List.getElem?_range h]
  rfl
theorem Y4 {n p s x : Int} (h : 0 < n) (hx : x ∈ zE n p s) : 0 ≤ x ∧ x < n := by
  obtain ⟨k, _, rfl⟩ := List.mem_map.mp hx
  exact ⟨Int.emod_nonneg _ (by omega), Int.emod_lt_of_pos _ h⟩
theorem YY {n p : Int} (h : 1 ≤ n) : (zE n p 1).reverse = zE n p (-1) := by
  refine List.ext_getElem? fun k => ?_
  by_cases hk : k < (n - 1).toNat
  · rw [List.getElem?_reverse (by rw [zD]; exact hk), zD, vT (by omega), vT hk]
    have e : p + 1 * ((((n - 1).toNat - 1 - k : Nat) : Int) + 1) = (p + -1 * ((k : Int) + 1)) + n := by omega
    rw [e, Int.add_emod_right]
  · rw [List.getElem?_eq_none (by rw [List.length_reverse, zD]; omega), List.getElem?_eq_none (by rw [zD]; omega)]
theorem WQ {n p : Int} (h3 : 3 ≤ n) (h8 : n ≤ 8) : yT [.int n, .int p] = some (.tup [.lst ((zE n p 1).map .int), .lst ((zE n p (-1)).map .int)]) := by
  refine Vh (ρ := [.v (.int n), .v (.int p), .no]) rfl ?_
  unfold xI
  refine zH (xj (d := .lst ((zE n p 1).map .int)) (vZ ?_)) (WH (vR (d := .tup [.lst ((zE n p 1).map .int), .lst ((zE n p (-1)).map .int)]) ?_) rfl)
  · unfold fLC
    have e1 : YD v5 (zc (eC (.int 1)) (zc (zg 0) zu)) (visF [.v (.int n), .v (.int p), .no]) = some (Xn 1 (n - 1).toNat) := by
      show v5 [.int 1, .int n] = _
      rw [Xg (by decide) (by decide) (by omega) (by omega)]
    rw [e1, Option.bind_some, if_pos (w8 (by rw [ZE]; omega))]
    unfold zE
    rw [List.map_map]
    refine Zl (fun j : Nat => D.int (1 + (j : Int))) _ (List.range (n - 1).toNat) fun j _ => ⟨[some (.int (1 + (j : Int)))], rfl, rfl, ?_⟩
    refine zA (x := .int (p + (1 + (j : Int)))) (y := .int n) rfl rfl ?_
    rw [yQ (by omega)]
    show some (D.int _) = some (D.int _)
    rw [show p + (1 + (j : Int)) = p + 1 * ((j : Int) + 1) by omega]
  · refine YE (zv (d := .lst ((zE n p 1).map .int)) rfl (zv (d := .lst ((zE n p (-1)).map .int)) (vZ ?_) xg)) (by show 2 ≤ 1000; decide)
    show zgM (zg 2) [some (.int n), some (.int p), some (.lst ((zE n p 1).map .int))] = _
    rw [← YY (by omega), List.map_reverse]
    rfl
theorem w6 (T : Txt K mg ad) : y0 P w K mg base CX0 1 ad.f_sweep_orders ad.e_sweep_orders ["n", "place"] (@spD ⟨K⟩ 2 yT) := by
  letI : KK := ⟨K⟩
  refine xA (N := ["n", "place", "upwards"]) (ps := ["n", "place"]) T.d_sweep_orders.fn vh (g := xI) fun cdv A outer s H E hr => ?_
  unfold xI
  exact (ze (zes (m := false) (i := 2) (zek (L := ["at"]) (M := ["n", "place", "upwards"]) vh.nd rfl (Or.inl rfl) rfl (Z6 (by rfl) (by rfl) (by rfl) (by with_unfolding_all rfl) (by rfl) (by rfl) (by kernel_rfl) (all_cons rfl (all_cons rfl Yk))) (ZK rfl T.z_range (zb (zh zi) (zb (za 0 (pv 0)) zf))) gs1 rb1 (fun _ _ _ _ => (zT (i := 0) zgX rfl (Or.inl rfl) (.inr rfl))) (fun _ _ _ _ => (x8 (yl (za 2 (pv 2)) (za 0 (pv 0))) (za 1 (pv 1))))))
      (zj (zt (x5 (zb (za 2 (pv 2)) (zb (wX (zaS rfl rfl T.z_list rfl T.z_reversed (za 2 (pv 2)))) zf))))))
noncomputable def zL (a : Int) : List Int → Int
  | [] => a
  | x :: xs => zL x xs
theorem zb2 : ∀ {xs : List Int} (a : Int), xs ≠ [] → xs[xs.length - 1]? = some (zL a xs)
  | [x], a, _ => rfl
  | x :: y :: xs, a, _ => by
    have := zb2 (xs := y :: xs) x (by intro h; cases h)
    show (x :: y :: xs)[xs.length + 1]? = some (zL y xs)
    rw [List.getElem?_cons_succ]
    exact this
theorem vq {xs : List Int} (h : xs ≠ []) : atI (xs.map D.int) (-1) = some (.int (zL 0 xs)) := by
  have hl : 0 < xs.length := List.length_pos_iff.mpr h
  unfold atI ixN
  rw [List.length_map, if_neg (by decide), if_pos (by omega)]
  show (xs.map D.int)[(-1 + (xs.length : Int)).toNat]? = _
  rw [show (-1 + (xs.length : Int)).toNat = xs.length - 1 by omega, List.getElem?_map, zb2 0 h]
  rfl
theorem Wk {n p s : Int} (h3 : 3 ≤ n) : zE n p s ≠ [] := fun e => by
  have := zD n p s
  rw [e, List.length_nil] at this
  omega
noncomputable def car (hs : List Int) : Int → List Int → List Int
  | _, [] => []
  | a, o :: os => (vAt hs o + a) / 2 :: car hs ((vAt hs o + a) / 2) os
theorem yL (hs : List Int) : ∀ (os : List Int) (a : Int), (car hs a os).length = os.length
  | [], _ => rfl
  | o :: os, a => by
    show (car hs _ os).length + 1 = _
    rw [yL hs os]
    rfl
theorem VI {hs : List Int} : ∀ {os : List Int} {a : Int}, (∀ o ∈ os, 0 ≤ vAt hs o) → 0 ≤ a → ∀ c ∈ car hs a os, 0 ≤ c
  | [], _, _, _, _, h => by cases h
  | o :: os, a, h, ha, c, hc => by
    have h0 := h o List.mem_cons_self
    have h1 : 0 ≤ (vAt hs o + a) / 2 := Int.ediv_nonneg (by omega) (by decide)
    rcases List.mem_cons.mp hc with rfl | hc
    · exact h1
    · exact VI (fun x hx => h x (List.mem_cons_of_mem _ hx)) h1 c hc
theorem Xu {hs : List Int} : ∀ (os : List Int) (a : Int) (i : Nat) (o : Int), os[i]? = some o → (car hs a os).take (i + 1) = (car hs a os).take i ++ [(vAt hs o + zL a ((car hs a os).take i)) / 2]
  | x :: os, a, 0, o, h => by
    cases h
    rfl
  | x :: os, a, i + 1, o, h => by
    show (vAt hs x + a) / 2 :: (car hs ((vAt hs x + a) / 2) os).take (i + 1) = (vAt hs x + a) / 2 :: ((car hs ((vAt hs x + a) / 2) os).take i ++ [(vAt hs o + zL ((vAt hs x + a) / 2) ((car hs ((vAt hs x + a) / 2) os).take i)) / 2])
    rw [Xu os _ i o (by simpa using h)]
theorem Yt : ∀ (xs : List Int) (a x : Int), zL a (xs ++ [x]) = x
  | [], _, _ => rfl
  | y :: xs, _, x => Yt xs y x
noncomputable def zfU (hs : List Int) : List Int → Int
  | [] => 0
  | o :: os => vAt hs o + 2 * zfU hs os
theorem ZA {hs : List Int} : ∀ {os : List Int} {a : Int}, a + zfU hs os + 1 ≤ 2 ^ os.length * (zL a (car hs a os) + 1)
  | [], a => by
    show a + 0 + 1 ≤ 1 * (a + 1)
    omega
  | o :: os, a => by
    have ih := ZA (hs := hs) (os := os) (a := (vAt hs o + a) / 2)
    show a + (vAt hs o + 2 * zfU hs os) + 1 ≤ 2 ^ (os.length + 1) * (zL ((vAt hs o + a) / 2) (car hs ((vAt hs o + a) / 2) os) + 1)
    rw [Int.pow_succ, Int.mul_comm (2 ^ os.length) 2, Int.mul_assoc]
    generalize 2 ^ os.length * (zL ((vAt hs o + a) / 2) (car hs ((vAt hs o + a) / 2) os) + 1) = R at ih ⊢
    omega
noncomputable def stL (p : Int) : List Int → List Int → List Tie
  | [o], c :: _ => List.replicate c.toNat (o, p)
  | o :: o2 :: os, c :: cs => List.replicate c.toNat (o, o2) ++ stL p (o2 :: os) cs
  | _, _ => []
noncomputable def plS (gs : List Int) (s : Tie) : List Int := (gs.set s.1.toNat (vAt gs s.1 - 2)).set s.2.toNat (vAt (gs.set s.1.toNat (vAt gs s.1 - 2)) s.2 + 1)
inductive YW (n : Int) : List Int → List Tie → List Int → Prop
  | nil {gs : List Int} : YW n gs [] gs
  | cons {gs gs' : List Int} {s : Tie} {ss : List Tie} : (0 ≤ s.1 ∧ s.1 < n) → (0 ≤ s.2 ∧ s.2 < n) → 2 ≤ vAt gs s.1 → YW n (plS gs s) ss gs' → YW n gs (s :: ss) gs'
theorem YW.app {n : Int} {gs gs1 gs2 : List Int} {ss tt : List Tie} (h : YW n gs ss gs1) (h2 : YW n gs1 tt gs2) : YW n gs (ss ++ tt) gs2 := by
  induction h with
  | nil => exact h2
  | cons a b c _ ih => exact .cons a b c (ih h2)
theorem Vk {ls : List Int} {i j : Int} {x : Int} (hi : 0 ≤ i) (hl : i < (ls.length : Int)) (hj : 0 ≤ j) : vAt (ls.set i.toNat x) j = if j = i then x else vAt ls j := by
  unfold vAt
  rw [List.getD_eq_getElem?_getD, List.getD_eq_getElem?_getD, List.getElem?_set]
  by_cases c : j = i
  · subst c
    rw [if_pos rfl, if_pos rfl, if_pos (by omega)]
    rfl
  · rw [if_neg (by omega), if_neg c]
theorem zep (gs : List Int) (s : Tie) : (plS gs s).length = gs.length := by unfold plS; rw [List.length_set, List.length_set]
theorem zf8 {n : Int} {gs : List Int} {a b : Int} (hl : (gs.length : Int) = n) (ha : 0 ≤ a ∧ a < n) (hb : 0 ≤ b ∧ b < n) (hab : a ≠ b) {v : Int} (hv : 0 ≤ v) : vAt (plS gs (a, b)) v = if v = b then vAt gs b + 1 else if v = a then vAt gs a - 2 else vAt gs v := by
  unfold plS
  simp only
  rw [Vk hb.1 (by rw [List.length_set]; omega) hv, Vk ha.1 (by omega) hb.1, Vk ha.1 (by omega) hv, if_neg (Ne.symm hab)]
theorem Zz {n : Int} {a b : Int} (ha : 0 ≤ a ∧ a < n) (hb : 0 ≤ b ∧ b < n) (hab : a ≠ b) : ∀ (c : Nat) (gs : List Int), (gs.length : Int) = n → 2 * (c : Int) ≤ vAt gs a →
    ∃ gs', YW n gs (List.replicate c (a, b)) gs' ∧ (gs'.length : Int) = n ∧ ∀ v, 0 ≤ v → vAt gs' v = if v = b then vAt gs b + (c : Int) else if v = a then vAt gs a - 2 * (c : Int) else vAt gs v
  | 0, gs, hl, _ => ⟨gs, .nil, hl, fun v _ => by
      by_cases c1 : v = b
      · rw [if_pos c1, c1]; omega
      · rw [if_neg c1]
        by_cases c2 : v = a
        · rw [if_pos c2, c2]; omega
        · rw [if_neg c2]⟩
  | c + 1, gs, hl, h => by
    have e1 := fun {v : Int} (hv : 0 ≤ v) => zf8 (v := v) hl ha hb hab hv
    have ea : vAt (plS gs (a, b)) a = vAt gs a - 2 := by rw [e1 ha.1, if_neg hab, if_pos rfl]
    have eb : vAt (plS gs (a, b)) b = vAt gs b + 1 := by rw [e1 hb.1, if_pos rfl]
    obtain ⟨gs', h1, h2, h3⟩ := Zz ha hb hab c (plS gs (a, b)) (by rw [zep]; exact hl) (by rw [ea]; omega)
    refine ⟨gs', ?_, h2, fun v hv => ?_⟩
    · rw [List.replicate_succ]
      exact .cons ha hb (by show 2 ≤ vAt gs a; omega) h1
    · rw [h3 v hv, ea, eb, e1 hv]
      by_cases c1 : v = b
      · rw [if_pos c1, if_pos c1]; omega
      · rw [if_neg c1, if_neg c1, if_neg c1]
        by_cases c2 : v = a
        · rw [if_pos c2, if_pos c2]; omega
        · rw [if_neg c2, if_neg c2, if_neg c2]
theorem Zb {n p : Int} {hs : List Int} (hp : 0 ≤ p ∧ p < n) : ∀ (os : List Int) (a : Int) (gs : List Int), (∀ o ∈ os, 0 ≤ o ∧ o < n) → (p :: os).Nodup → (gs.length : Int) = n → os ≠ [] → (∀ o ∈ os, 0 ≤ vAt hs o) → 0 ≤ a →
    (∀ o ∈ os.tail, vAt gs o = vAt hs o) → (∀ o, os.head? = some o → vAt gs o = vAt hs o + a) →
    ∃ gs', YW n gs (stL p os (car hs a os)) gs' ∧ (gs'.length : Int) = n ∧ vAt gs' p = vAt gs p + zL a (car hs a os)
  | [], _, _, _, _, _, h, _, _, _, _ => absurd rfl h
  | [o], a, gs, hr, nd, hl, _, hn, ha, _, hh => by
    have ho := hr o List.mem_cons_self
    have hop : o ≠ p := fun e => (List.nodup_cons.mp nd).1 (by rw [e]; exact List.mem_cons_self)
    have e0 := hh o rfl
    have h0 := hn o List.mem_cons_self
    have hc : 0 ≤ (vAt hs o + a) / 2 := Int.ediv_nonneg (by omega) (by decide)
    obtain ⟨gs', h1, h2, h3⟩ := Zz ho hp hop ((vAt hs o + a) / 2).toNat gs hl (by rw [e0]; omega)
    refine ⟨gs', h1, h2, ?_⟩
    rw [h3 p hp.1, if_pos rfl]
    show vAt gs p + _ = vAt gs p + (vAt hs o + a) / 2
    omega
  | o :: o2 :: os, a, gs, hr, nd, hl, _, hn, ha, ht, hh => by
    have ho := hr o List.mem_cons_self
    have ho2 := hr o2 (by simp)
    have nd1 := List.nodup_cons.mp nd
    have nd2 := List.nodup_cons.mp nd1.2
    have ho12 : o ≠ o2 := fun e => nd2.1 (by rw [e]; exact List.mem_cons_self)
    have hpo : p ≠ o := fun e => nd1.1 (by rw [e]; exact List.mem_cons_self)
    have hpo2 : p ≠ o2 := fun e => nd1.1 (by rw [e]; simp)
    have e0 := hh o rfl
    have h0 := hn o List.mem_cons_self
    have hc : 0 ≤ (vAt hs o + a) / 2 := Int.ediv_nonneg (by omega) (by decide)
    obtain ⟨g1, h1, h2, h3⟩ := Zz ho ho2 ho12 ((vAt hs o + a) / 2).toNat gs hl (by rw [e0]; omega)
    have nd3 : (p :: o2 :: os).Nodup := List.nodup_cons.mpr ⟨fun h => nd1.1 (List.mem_cons_of_mem _ h), nd2.2⟩
    have t1 : ∀ x ∈ (o2 :: os).tail, vAt g1 x = vAt hs x := fun x hx => by
      have hx : x ∈ os := hx
      have hxr := hr x (by simp [hx])
      have n1 : x ≠ o2 := fun e => (List.nodup_cons.mp nd2.2).1 (by rw [← e]; exact hx)
      have n2 : x ≠ o := fun e => nd2.1 (by rw [← e]; simp [hx])
      rw [h3 x hxr.1, if_neg n1, if_neg n2]
      exact ht x (by simp [hx])
    have t2 : ∀ x, (o2 :: os).head? = some x → vAt g1 x = vAt hs x + (vAt hs o + a) / 2 := fun x hx => by
      cases hx
      rw [h3 o2 ho2.1, if_pos rfl, ht o2 (by simp)]
      omega
    obtain ⟨g2, k1, k2, k3⟩ := Zb hp (o2 :: os) ((vAt hs o + a) / 2) g1 (fun x hx => hr x (List.mem_cons_of_mem _ hx)) nd3 h2 (by intro h; cases h) (fun x hx => hn x (List.mem_cons_of_mem _ hx)) hc t1 t2
    refine ⟨g2, h1.app k1, k2, ?_⟩
    rw [k3, h3 p hp.1, if_neg hpo2, if_neg hpo]
    rfl
noncomputable def zbu : List (Nat × Nat) := [3, 4, 5, 6, 7, 8].flatMap fun n => (List.range n).map fun p => (n, p)
theorem zaD {n p : Int} (h3 : 3 ≤ n) (h8 : n ≤ 8) (hp : 0 ≤ p ∧ p < n) : (n.toNat, p.toNat) ∈ zbu := by
  unfold zbu
  refine List.mem_flatMap.mpr ⟨n.toNat, ?_, List.mem_map.mpr ⟨p.toNat, List.mem_range.mpr (by omega), rfl⟩⟩
  have : n.toNat = 3 ∨ n.toNat = 4 ∨ n.toNat = 5 ∨ n.toNat = 6 ∨ n.toNat = 7 ∨ n.toNat = 8 := by omega
  simp only [List.mem_cons, List.not_mem_nil, or_false]
  exact this
theorem zbE : ∀ q ∈ zbu, ((q.2 : Int) :: zE (q.1 : Int) (q.2 : Int) 1).isPerm ((List.range q.1).map fun k : Nat => (k : Int)) = true := by decide +kernel
theorem Z7 {n p : Int} (h3 : 3 ≤ n) (h8 : n ≤ 8) (hp : 0 ≤ p ∧ p < n) : (p :: zE n p 1).Perm ((List.range n.toNat).map fun k : Nat => (k : Int)) := by
  have := List.isPerm_iff.mp (zbE _ (zaD h3 h8 hp))
  rwa [show ((n.toNat : Nat) : Int) = n by omega, show ((p.toNat : Nat) : Int) = p by omega] at this
theorem VW {l m : List Int} (h : l.Perm m) : l.sum = m.sum := by
  induction h with
  | nil => rfl
  | cons x _ ih => rw [List.sum_cons, List.sum_cons, ih]
  | swap x y l => rw [List.sum_cons, List.sum_cons, List.sum_cons, List.sum_cons]; omega
  | trans _ _ ih1 ih2 => exact ih1.trans ih2
theorem zeK {hs : List Int} : hs.sum = (((List.range hs.length).map fun k : Nat => (k : Int)).map (vAt hs)).sum := by
  congr 1
  refine List.ext_getElem? fun i => ?_
  by_cases c : i < hs.length
  · rw [List.getElem?_map, List.getElem?_map, List.getElem?_range c, List.getElem?_eq_getElem c]
    show some hs[i] = some (hs.getD ((i : Int).toNat) 0)
    rw [Int.toNat_natCast, List.getD_eq_getElem?_getD, List.getElem?_eq_getElem c]
    rfl
  · rw [List.getElem?_eq_none (by omega), List.getElem?_eq_none (by simp; omega)]
theorem Wt {n p : Int} {hs : List Int} (h3 : 3 ≤ n) (h8 : n ≤ 8) (hp : 0 ≤ p ∧ p < n) (hl : (hs.length : Int) = n) : hs.sum = vAt hs p + ((zE n p 1).map (vAt hs)).sum := by
  rw [zeK, show hs.length = n.toNat by omega, ← VW ((Z7 h3 h8 hp).map (vAt hs))]
  rfl
theorem ZJ {n p : Int} (h3 : 3 ≤ n) (h8 : n ≤ 8) (hp : 0 ≤ p ∧ p < n) : (p :: zE n p 1).Nodup := by
  refine (Z7 h3 h8 hp).nodup_iff.mpr ?_
  rw [List.nodup_iff_pairwise_ne, List.pairwise_map]
  exact List.nodup_range.imp fun h e => h (Int.ofNat.inj e)
theorem Ws {n p : Int} (h3 : 3 ≤ n) (h8 : n ≤ 8) (hp : 0 ≤ p ∧ p < n) : (p :: zE n p (-1)).Nodup := by
  rw [← YY (by omega)]
  have := List.nodup_cons.mp (ZJ h3 h8 hp)
  exact List.nodup_cons.mpr ⟨fun h => this.1 (List.mem_reverse.mp h), (List.reverse_perm (zE n p 1)).nodup_iff.mpr this.2⟩
noncomputable def zfP (n : Int) : Int := if n = 3 then 3 else if n = 4 then 4 else if n = 5 then 5 else if n = 6 then 8 else if n = 7 then 11 else 16
noncomputable def wL : List Int → Int
  | [] => 0
  | b :: bs => b + 2 * wL bs
theorem Vn (hs : List Int) : ∀ os : List Int, zfU hs os = wL (os.map (vAt hs))
  | [] => rfl
  | o :: os => by
    show vAt hs o + 2 * zfU hs os = vAt hs o + 2 * wL (os.map (vAt hs))
    rw [Vn hs os]
theorem zc3 {n : Int} {bs : List Int} (h3 : 3 ≤ n) (h8 : n ≤ 8) (hl : bs.length = (n - 1).toNat) (hn : ∀ b ∈ bs, 0 ≤ b) (h1 : wL bs + 1 ≤ 2 ^ bs.length) (h2 : wL bs.reverse + 1 ≤ 2 ^ bs.length) : bs.sum < zfP n := by
  have c : n = 3 ∨ n = 4 ∨ n = 5 ∨ n = 6 ∨ n = 7 ∨ n = 8 := by omega
  rw [hl] at h1 h2
  rcases c with rfl | rfl | rfl | rfl | rfl | rfl
  · match bs, hl with
    | [a, b], _ =>
      have e1 : a + 2 * (b + 2 * 0) + 1 ≤ 4 := h1
      have e2 : b + 2 * (a + 2 * 0) + 1 ≤ 4 := h2
      have := hn a (by simp); have := hn b (by simp)
      show a + (b + 0) < 3
      omega
  · match bs, hl with
    | [a, b, c], _ =>
      have e1 : a + 2 * (b + 2 * (c + 2 * 0)) + 1 ≤ 8 := h1
      have e2 : c + 2 * (b + 2 * (a + 2 * 0)) + 1 ≤ 8 := h2
      have := hn a (by simp); have := hn b (by simp); have := hn c (by simp)
      show a + (b + (c + 0)) < 4
      omega
  · match bs, hl with
    | [a, b, c, d], _ =>
      have e1 : a + 2 * (b + 2 * (c + 2 * (d + 2 * 0))) + 1 ≤ 16 := h1
      have e2 : d + 2 * (c + 2 * (b + 2 * (a + 2 * 0))) + 1 ≤ 16 := h2
      have := hn a (by simp); have := hn b (by simp); have := hn c (by simp); have := hn d (by simp)
      show a + (b + (c + (d + 0))) < 5
      omega
  · match bs, hl with
    | [a, b, c, d, e], _ =>
      have e1 : a + 2 * (b + 2 * (c + 2 * (d + 2 * (e + 2 * 0)))) + 1 ≤ 32 := h1
      have e2 : e + 2 * (d + 2 * (c + 2 * (b + 2 * (a + 2 * 0)))) + 1 ≤ 32 := h2
      have := hn a (by simp); have := hn b (by simp); have := hn c (by simp); have := hn d (by simp); have := hn e (by simp)
      show a + (b + (c + (d + (e + 0)))) < 8
      omega
  · match bs, hl with
    | [a, b, c, d, e, f], _ =>
      have e1 : a + 2 * (b + 2 * (c + 2 * (d + 2 * (e + 2 * (f + 2 * 0))))) + 1 ≤ 64 := h1
      have e2 : f + 2 * (e + 2 * (d + 2 * (c + 2 * (b + 2 * (a + 2 * 0))))) + 1 ≤ 64 := h2
      have := hn a (by simp); have := hn b (by simp); have := hn c (by simp); have := hn d (by simp); have := hn e (by simp); have := hn f (by simp)
      show a + (b + (c + (d + (e + (f + 0))))) < 11
      omega
  · match bs, hl with
    | [a, b, c, d, e, f, g], _ =>
      have e1 : a + 2 * (b + 2 * (c + 2 * (d + 2 * (e + 2 * (f + 2 * (g + 2 * 0)))))) + 1 ≤ 128 := h1
      have e2 : g + 2 * (f + 2 * (e + 2 * (d + 2 * (c + 2 * (b + 2 * (a + 2 * 0)))))) + 1 ≤ 128 := h2
      have := hn a (by simp); have := hn b (by simp); have := hn c (by simp); have := hn d (by simp); have := hn e (by simp); have := hn f (by simp); have := hn g (by simp)
      show a + (b + (c + (d + (e + (f + (g + 0)))))) < 16
      omega
theorem YK {hs : List Int} (h : ∀ x ∈ hs, 0 ≤ x) (o : Int) : 0 ≤ vAt hs o := by
  unfold vAt
  rw [List.getD_eq_getElem?_getD]
  cases e : hs[o.toNat]? with
  | none => exact Int.le_refl _
  | some x => exact h x (List.mem_of_getElem? e)
theorem zeL {n p : Int} {hs : List Int} (h3 : 3 ≤ n) (h8 : n ≤ 8) (hp : 0 ≤ p ∧ p < n) (hl : (hs.length : Int) = n) (hn : ∀ x ∈ hs, 0 ≤ x) (h0 : vAt hs p = 0) (h1 : zL 0 (car hs 0 (zE n p 1)) = 0) (h2 : zL 0 (car hs 0 (zE n p (-1))) = 0) : hs.sum < zfP n := by
  rw [Wt h3 h8 hp hl, h0, Int.zero_add]
  have w1 := ZA (hs := hs) (os := zE n p 1) (a := 0)
  have w2 := ZA (hs := hs) (os := zE n p (-1)) (a := 0)
  rw [h1, Vn, Int.zero_add, Int.zero_add, Int.mul_one] at w1
  rw [h2, Vn, Int.zero_add, Int.zero_add, Int.mul_one, ← YY (by omega), List.map_reverse, List.length_reverse] at w2
  refine zc3 h3 h8 (by rw [List.length_map, zD]) (fun b hb => ?_) (by rw [List.length_map]; exact w1) (by rw [List.length_map]; exact w2)
  obtain ⟨o, _, rfl⟩ := List.mem_map.mp hb
  exact YK hn o
noncomputable def Zx : SE → Ctl :=
  (zM (wm false 3 (zk xz (zk wg (zk ixD (zg 0) (zg 4)) (zg 3)) (eC (.int 2))))
    (Y6 false 2 (zg 3)))
noncomputable def XQ : SE → Ctl :=
  (zM (Yi 2 (yf zu))
    (zM (wm false 3 (eC (.int 0)))
    (zM (vz (iOf (zg 1)) (yq 4) Zx)
    (sFz 2 (yn (zg 2))))))
noncomputable def YA : List D → Option D := fnD 5 XQ
theorem XF {hs os : List Int} (h8 : os.length ≤ 8) (hr : ∀ o ∈ os, 0 ≤ o ∧ o < (hs.length : Int)) : YA [.tup (hs.map .int), .lst (os.map .int)] = some (.lst ((car hs 0 os).map .int)) := by
  refine Vh (ρ := [.v (.tup (hs.map .int)), .v (.lst (os.map .int)), .no, .no, .no]) rfl ?_
  unfold XQ
  refine zH rfl (zH rfl (wd (XZ (ds := os.map .int) (fun i ρ => ∃ o4, ρ = [.v (.tup (hs.map .int)), .v (.lst (os.map .int)), .o (((car hs 0 os).take i).map .int), .v (.int (zL 0 ((car hs 0 os).take i))), o4]) rfl ⟨_, rfl⟩ ?_ ?_)))
  · rintro i d ρ hd ⟨o4, rfl⟩
    rw [List.getElem?_map] at hd
    obtain ⟨o, ho, rfl⟩ := Option.map_eq_some_iff.mp hd
    have hor := hr o (List.mem_of_getElem? ho)
    have hi : i < os.length := (List.getElem?_eq_some_iff.mp ho).1
    refine ⟨_, rfl, ?_⟩
    unfold Zx
    rw [Xu os 0 i o ho, Yt, List.map_append]
    have hl : ((car hs 0 os).take i).length ≤ i := List.length_take_le _ _
    generalize (car hs 0 os).take i = cs at hl ⊢
    refine zH (xj (d := .int ((vAt hs o + zL 0 cs) / 2)) ?_) ?_
    · show zk xz _ (eC (.int 2)) (visF [.v (.tup (hs.map .int)), .v (.lst (os.map .int)), .o (cs.map .int), .v (.int (zL 0 cs)), .v (.int o)]) = _
      exact zA (x := .int (vAt hs o + zL 0 cs)) (y := .int 2) (zA (x := .int (vAt hs o)) (y := .int (zL 0 cs)) (zA (x := .tup (hs.map .int)) (y := .int o) rfl rfl (zai hor.1 hor.2)) rfl rfl) rfl (YX (by decide) (by decide))
    · exact Yj (zb0 (m := false) (i := 2) (f := zg 3) (ds := cs.map .int) (d := .int ((vAt hs o + zL 0 cs) / 2)) rfl rfl (by rw [List.length_map]; omega)) ⟨.v (.int o), rfl⟩
  · rintro ρ ⟨o4, rfl⟩
    rw [List.length_map, ← yL hs os 0, List.take_length]
    exact zfw rfl (WH rfl rfl)
theorem X0 (T : Txt K mg ad) : y0 P w K mg base CX0 1 ad.f_swept ad.e_swept ["heap", "order"] (@spD ⟨K⟩ 2 YA) := by
  letI : KK := ⟨K⟩
  refine xA (N := ["heap", "order", "carried", "ahead", "place"]) (ps := ["heap", "order"]) T.d_swept.fn v7 (g := XQ) fun cdv A outer s H E hr => ?_
  unfold XQ Zx
  exact (ze (ZD (i := 2) v7.nd rfl (Or.inl rfl) (x6 zf))
      (ze (yI (m := false) (i := 3) v7.nd rfl (Or.inl rfl) (zh zi))
      (ze (ZS PassesOwn.never rfl (Zq (za 1 (pv 1))) (yR (zT (i := 4) v7.nd rfl (Or.inl rfl))) (ze (yI (m := false) (i := 3) v7.nd rfl (Or.inl rfl) (Xw (yl (yA (za 0 (pv 0)) (za 4 (pv 4)) (fun _ _ => rfl)) (za 3 (pv 3))) (zh zi)))
      (zj (zb5 (m := false) (pv 2) (za 3 (pv 3)) (fun a b => zbd PySem.F.plainAttrs_list PySem.F.slot_list_append PySem.F.type_list_append Zv a b)))))
      (Xk 2 (zj (zt (za 2 (pv 2))))))))
noncomputable def xr : SE → Ctl :=
  (Zm 3 (zk wy (xS (yf (zc (wW (zc (zg 4) (zc (zg 5) zu))) zu))) (zg 6)))
noncomputable def wa : SE → Ctl :=
  (zM (Yi 3 (yf zu))
    (zM (vz (V9 (zc (zg 1) (zc (zk wg (eSl slD (zg 1) (xW (eC (.int 1))) wG) (xS (yf (zc (zg 2) zu)))) (zc (zr 2 YA (zc (zg 0) (zc (zg 1) zu))) zu)))) (YQ 3 (yX (yq 4) (yX (yq 5) (yX (yq 6) Y9)))) xr)
    zG))
noncomputable def wb : List D → Option (List D) := zf9 7 wa 3
noncomputable def XA : List D → Option D := fun ds => (wb ds).map .lst
theorem zbz {d : D} {n : Int} (h0 : 0 ≤ n) (h1 : n ≤ 1000) : wy (.lst [d]) (.int n) = some (.lst (List.replicate n.toNat d)) := by
  show (if -(2 ^ 63) ≤ n ∧ n < 2 ^ 63 ∧ lim (1 * n.toNat) = true then _ else none) = _
  rw [if_pos ⟨by omega, by omega, w8 (by omega)⟩, List.flatten_replicate_singleton]
theorem zga {i : Nat} {f : Ev → Option D} {ρ : SE} {ds es : List D} (h1 : f (visF ρ) = some (.lst es)) (h2 : ρ[i]? = some (.o ds)) (h3 : ds.length + es.length ≤ 1000) : Zm i f ρ = .nx (ρ.set i (.o (ds ++ es))) := by
  unfold Zm
  rw [h1, h2]
  show (match (if lim (ds.length + es.length) = true then some (ρ.set i (Sl.o (ds ++ es))) else none) with | some ρ' => Ctl.nx ρ' | none => Ctl.no) = _
  rw [if_pos (w8 h3)]
theorem zba {p : Int} : ∀ {i : Nat} {os cs : List Int} {o o2 c : Int}, os[i]? = some o → (os.drop 1 ++ [p])[i]? = some o2 → cs[i]? = some c → stL p (os.drop i) (cs.drop i) = List.replicate c.toNat (o, o2) ++ stL p (os.drop (i + 1)) (cs.drop (i + 1)) := by
  intro i
  induction i with
  | zero =>
    intro os cs o o2 c h1 h2 h3
    cases os with
    | nil => cases h1
    | cons x os =>
      cases cs with
      | nil => cases h3
      | cons y cs =>
        cases h1
        cases h3
        cases os with
        | nil =>
          cases h2
          exact (List.append_nil _).symm
        | cons z os =>
          cases h2
          rfl
  | succ i ih =>
    intro os cs o o2 c h1 h2 h3
    cases os with
    | nil => cases h1
    | cons x os =>
      cases cs with
      | nil => cases h3
      | cons y cs =>
        cases os with
        | nil => cases h1
        | cons z os => exact ih (os := z :: os) (cs := cs) h1 h2 h3
theorem Vi {hs : List Int} : ∀ {os : List Int} {a : Int}, (∀ o ∈ os, 0 ≤ vAt hs o) → 0 ≤ a → (car hs a os).sum ≤ (os.map (vAt hs)).sum + a := by
  intro os
  induction os with
  | nil =>
    intro a _ h
    show (0 : Int) ≤ 0 + a
    omega
  | cons o os ih =>
    intro a h ha
    have h0 := h o List.mem_cons_self
    have := ih (a := (vAt hs o + a) / 2) (fun x hx => h x (List.mem_cons_of_mem _ hx)) (Int.ediv_nonneg (by omega) (by decide))
    show (vAt hs o + a) / 2 + (car hs ((vAt hs o + a) / 2) os).sum ≤ (vAt hs o + (os.map (vAt hs)).sum) + a
    omega
theorem VA {p : Int} : ∀ {os cs : List Int}, (∀ c ∈ cs, 0 ≤ c) → ((stL p os cs).length : Int) ≤ cs.sum := by
  intro os
  induction os with
  | nil =>
    intro cs h
    exact za4 h
  | cons o os ih =>
    intro cs h
    cases cs with
    | nil =>
      cases os <;> exact Int.le_refl _
    | cons c cs =>
      have h0 := h c List.mem_cons_self
      have h1 : ∀ x ∈ cs, 0 ≤ x := fun x hx => h x (List.mem_cons_of_mem _ hx)
      have := za4 h1
      have e : (c :: cs).sum = c + cs.sum := rfl
      cases os with
      | nil =>
        show ((List.replicate c.toNat ((o, p) : Tie)).length : Int) ≤ _
        rw [List.length_replicate]
        omega
      | cons o2 os =>
        have := ih h1
        show ((List.replicate c.toNat ((o, o2) : Tie) ++ stL p (o2 :: os) cs).length : Int) ≤ _
        rw [List.length_append, List.length_replicate]
        omega
theorem zdL {hs os : List Int} {p : Int} {N B C : SE → Prop} {R : D → Prop} (h8 : os.length ≤ 8) (hr : ∀ o ∈ os, 0 ≤ o ∧ o < (hs.length : Int)) (hn : ∀ o ∈ os, 0 ≤ vAt hs o) (hsum : (os.map (vAt hs)).sum ≤ 300)
    (q : ∀ o4 o5 o6, N [.v (.tup (hs.map .int)), .v (.lst (os.map .int)), .v (.int p), .o ((stL p os (car hs 0 os)).map zq), o4, o5, o6]) :
    (vz (V9 (zc (zg 1) (zc (zk wg (eSl slD (zg 1) (xW (eC (.int 1))) wG) (xS (yf (zc (zg 2) zu)))) (zc (zr 2 YA (zc (zg 0) (zc (zg 1) zu))) zu)))) (YQ 3 (yX (yq 4) (yX (yq 5) (yX (yq 6) Y9)))) xr [.v (.tup (hs.map .int)), .v (.lst (os.map .int)), .v (.int p), .o [], .no, .no, .no]).w N B C R := by
  have es := XF h8 hr
  obtain ⟨cs, hcs⟩ : ∃ cs, car hs 0 os = cs := ⟨_, rfl⟩
  have hcl : cs.length = os.length := by rw [← hcs, yL]
  have hcn : ∀ c ∈ cs, 0 ≤ c := by rw [← hcs]; exact VI hn (Int.le_refl _)
  have hc3 : cs.sum ≤ 300 := by have := Vi (a := 0) hn (Int.le_refl _); rw [hcs] at this; omega
  have hst := VA (p := p) (os := os) hcn
  rw [hcs] at es q
  refine XZ (ds := YO (os.map .int) ((os.drop 1 ++ [p]).map .int) (cs.map .int)) (fun i ρ => ∃ (acc : List Tie) (o4 o5 o6 : Sl), ρ = [.v (.tup (hs.map .int)), .v (.lst (os.map .int)), .v (.int p), .o (acc.map zq), o4, o5, o6] ∧ stL p os cs = acc ++ stL p (os.drop i) (cs.drop i)) ?_ ⟨[], _, _, _, rfl, rfl⟩ ?_ ?_
  · unfold V9
    rw [zv (d := .lst (os.map .int)) (ds := [.lst ((os.drop 1 ++ [p]).map .int), .lst (cs.map .int)]) rfl (zv (zA (x := .lst (X9 (os.map .int) (some 1) none)) (y := .lst [.int p]) rfl rfl ?_) (zv (zJ (ds := [.tup (hs.map .int), .lst (os.map .int)]) rfl es) xg)), Option.bind_some]
    · show (if (os.map D.int).length ≤ ((os.drop 1 ++ [p]).map D.int).length ∧ (os.map D.int).length ≤ (cs.map D.int).length then _ else none) = _
      rw [if_pos ⟨by rw [List.length_map, List.length_map, List.length_append, List.length_drop]; show os.length ≤ os.length - 1 + 1; omega, by rw [List.length_map, List.length_map]; omega⟩]
    · rw [show (some (1 : Int)) = some ((1 : Nat) : Int) from rfl, zco, Y0 (by rw [List.length_drop, List.length_map]; show os.length - 1 + 1 ≤ 1000; omega), List.map_append, List.map_drop]
      rfl
  · rintro i d ρ hd ⟨acc, o4, o5, o6, rfl, hacc⟩
    obtain ⟨x, y, u, hx, hy, hu, rfl⟩ := Zk _ _ _ _ _ hd
    rw [List.getElem?_map] at hx hy hu
    obtain ⟨o, ho, rfl⟩ := Option.map_eq_some_iff.mp hx
    obtain ⟨o2, ho2, rfl⟩ := Option.map_eq_some_iff.mp hy
    obtain ⟨c, hc, rfl⟩ := Option.map_eq_some_iff.mp hu
    have h0 := hcn c (List.mem_of_getElem? hc)
    rw [zba ho ho2 hc, ← List.append_assoc] at hacc
    have hlen : acc.length + c.toNat ≤ 300 := by
      have := congrArg List.length hacc
      rw [List.length_append, List.length_append, List.length_replicate] at this
      omega
    refine ⟨_, rfl, ?_⟩
    unfold xr
    refine Yj (zga (ds := acc.map zq) (es := List.replicate c.toNat (zq (o, o2))) ?_ rfl (by rw [List.length_map, List.length_replicate]; omega)) ⟨acc ++ List.replicate c.toNat (o, o2), .v (.int o), .v (.int o2), .v (.int c), ?_, hacc⟩
    · exact zA (x := .lst [zq (o, o2)]) (y := .int c) rfl rfl (zbz h0 (by omega))
    · rw [List.map_append, List.map_replicate]
      rfl
  · rintro ρ ⟨acc, o4, o5, o6, rfl, hacc⟩
    rw [vf _ _ _ (by rw [List.length_map, List.length_map, List.length_append, List.length_drop]; show os.length ≤ os.length - 1 + 1; omega) (by rw [List.length_map, List.length_map]; omega), List.length_map, List.drop_length] at hacc
    have hacc : stL p os cs = acc ++ [] := hacc
    rw [List.append_nil] at hacc
    rw [hacc] at q
    exact q _ _ _
theorem zcX {a : Ev → Option (List D)} {ρ : Ev} {hs os : List Int} {p : Int} (ha : a ρ = some [.tup (hs.map .int), .lst (os.map .int), .int p]) (h8 : os.length ≤ 8) (hr : ∀ o ∈ os, 0 ≤ o ∧ o < (hs.length : Int)) (hn : ∀ o ∈ os, 0 ≤ vAt hs o) (hsum : (os.map (vAt hs)).sum ≤ 300) : xS (WF 3 wb a) ρ = some (.lst ((stL p os (car hs 0 os)).map zq)) := by
  refine vZ (zcK ha (zgq (ρ := [.v (.tup (hs.map .int)), .v (.lst (os.map .int)), .v (.int p), .no, .no, .no, .no]) rfl ?_))
  unfold wa
  exact zH rfl (wd (zdL h8 hr hn hsum fun _ _ _ => .nx rfl))
theorem vc (T : Txt K mg ad) : y0 P w K mg base CX0 2 ad.f_sweep_steps ad.e_sweep_steps ["heap", "order", "place"] (@zgy ⟨K⟩ 3 wb) := by
  letI : KK := ⟨K⟩
  have G_swept := X0 (P := P) (w := w) (base := base) T
  refine zfD (N := ["heap", "order", "place", "steps", "one", "other", "times"]) (ps := ["heap", "order", "place"]) T.d_sweep_steps.fn yV (g := wa) (i := 3) fun cdv A outer s H E hr => ?_
  unfold wa xr
  exact (zad (ZD (i := 3) yV.nd rfl (Or.inl rfl) (x6 zf))
      (zad (ZS PassesOwn.never rfl (zej rfl T.z_zip (zb (za 1 (pv 1)) (zb (yl (VN (za 1 (pv 1)) (W6 (zh zi)) zeo) (wX (x6 (zb (za 2 (pv 2)) zf)))) (zb (zn (G_swept.mono (by decide)) hr rfl T.d_swept.at_ T.d_swept.kp T.d_swept.bd (zb (za 0 (pv 0)) (zb (za 1 (pv 1)) zf))) zf)))) (VZ rfl (we (yR (zT (i := 4) yV.nd rfl (Or.inl rfl))) (we (yR (zT (i := 5) yV.nd rfl (Or.inl rfl))) (we (yR (zT (i := 6) yV.nd rfl (Or.inl rfl))) Xz)))) (zj (zdF (pv 3) (vE (wX (x6 (zb (x5 (zb (za 4 (pv 4)) (zb (za 5 (pv 5)) zf))) zf))) (za 6 (pv 6))) (fun a b => zbd PySem.F.plainAttrs_list PySem.F.slot_list_extend PySem.F.type_list_extend WC a b))))
      (zeb (pv 3))))
theorem Z1 (T : Txt K mg ad) : y0 P w K mg base CX0 2 ad.f_sweep_steps ad.e_sweep_steps ["heap", "order", "place"] (@spD ⟨K⟩ 3 XA) := by
  letI : KK := ⟨K⟩
  exact zfh (vc (P := P) (w := w) (base := base) T)
noncomputable def xG : SE → Ctl :=
  (sIf (tOf (zk gtD (zk ixD (zr 2 YA (zc (zg 1) (zc (zg 3) zu))) (eUn YL (eC (.int 1)))) (eC (.int 0)))) (yn (xS (WF 3 wb (zc (zg 1) (zc (zg 3) (zc (zg 2) zu)))))) zG)
noncomputable def wA : SE → Ctl :=
  (zM (Yh (zr 3 xl (zc (zg 0) (zc (zg 1) (zc (zg 2) zu)))))
    (zM (sIf (tOf (zk gtD (zk ixD (zg 1) (zg 2)) (eC (.int 0)))) (yn (xS (yf zu))) zG)
    (zM (vz (iOf (zr 2 yT (zc (zg 0) (zc (zg 2) zu)))) (yq 3) xG)
    (yn (eC .non)))))
noncomputable def xQ : List D → Option D := fnD 4 wA
noncomputable def wx (n : Int) (hs : List Int) (p : Int) : D :=
  if 0 < vAt hs p then .lst [] else if 0 < zL 0 (car hs 0 (zE n p 1)) then .lst ((stL p (zE n p 1) (car hs 0 (zE n p 1))).map zq)
  else if 0 < zL 0 (car hs 0 (zE n p (-1))) then .lst ((stL p (zE n p (-1)) (car hs 0 (zE n p (-1)))).map zq) else .non
theorem VH {n p s : Int} {hs : List Int} (h3 : 3 ≤ n) (h8 : n ≤ 8) (hp : 0 ≤ p ∧ p < n) (hl : (hs.length : Int) = n) (hn : ∀ x ∈ hs, 0 ≤ x) (hs1 : s = 1 ∨ s = -1) : ((zE n p s).map (vAt hs)).sum ≤ hs.sum := by
  have e := Wt h3 h8 hp hl
  have := YK hn p
  rcases hs1 with rfl | rfl
  · omega
  · rw [← YY (by omega), List.map_reverse, VW (List.reverse_perm _)]
    omega
theorem XM {n p : Int} {hs : List Int} (h3 : 3 ≤ n) (h8 : n ≤ 8) (hl : (hs.length : Int) = n) (hn : ∀ x ∈ hs, 0 ≤ x) (hsum : hs.sum ≤ 300) (hp : 0 ≤ p ∧ p < n) : xQ [.int n, .tup (hs.map .int), .int p] = some (wx n hs p) := by
  have ef := VX h3 h8 hl hn hsum hp
  have eo := WQ (p := p) h3 h8
  have hr : ∀ s : Int, ∀ o ∈ zE n p s, 0 ≤ o ∧ o < (hs.length : Int) := fun s x hx => hl ▸ Y4 (n := n) (p := p) (s := s) (x := x) (by omega) hx
  have ol : ∀ s : Int, (zE n p s).length ≤ 8 := fun s => by rw [zD]; omega
  have on : ∀ s : Int, ∀ o ∈ zE n p s, 0 ≤ vAt hs o := fun s o _ => YK hn o
  refine Vh (ρ := [.v (.int n), .v (.tup (hs.map .int)), .v (.int p), .no]) rfl ?_
  unfold wA
  refine zH (Xy (d := .non) (zJ rfl ef)) ?_
  refine wd (Z0 (c := decide (0 < vAt hs p)) (YV (zA (x := .int (vAt hs p)) (y := .int 0) (zA (x := .tup (hs.map .int)) (y := .int p) rfl rfl (Vx hp hl)) rfl rfl)) (fun z => WH rfl ?_) (fun z => Yj rfl ?_))
  · unfold wx
    rw [if_pos (of_decide_eq_true z)]
  have body : ∀ (s : Int) (N : SE → Prop) (hs1 : s = 1 ∨ s = -1) (h1 : 0 < zL 0 (car hs 0 (zE n p s)) → wx n hs p = .lst ((stL p (zE n p s) (car hs 0 (zE n p s))).map zq)) (h2 : ¬ 0 < zL 0 (car hs 0 (zE n p s)) → N [.v (.int n), .v (.tup (hs.map .int)), .v (.int p), .v (.lst ((zE n p s).map .int))]), (xG [.v (.int n), .v (.tup (hs.map .int)), .v (.int p), .v (.lst ((zE n p s).map .int))]).w N (fun ρ => (yn (eC .non) ρ).w (fun _ => wx n hs p = .non) noP noP (fun d' => d' = wx n hs p)) N (fun d' => d' = wx n hs p) := by
    intro s N hs1 h1 h2
    have e1 := XF (ol s) (hr s)
    have c0 : car hs 0 (zE n p s) ≠ [] := fun e => Wk (p := p) (s := s) h3 (List.eq_nil_of_length_eq_zero (by rw [← yL hs _ 0, e]; rfl))
    unfold xG
    refine Z0 (c := decide (0 < zL 0 (car hs 0 (zE n p s)))) (YV (zA (x := .int (zL 0 (car hs 0 (zE n p s)))) (y := .int 0) (zA (x := .lst ((car hs 0 (zE n p s)).map .int)) (y := .int (-1)) (zJ (ds := [.tup (hs.map .int), .lst ((zE n p s).map .int)]) rfl e1) rfl (vq c0)) rfl rfl)) (fun y => WH (vR (zcX (hs := hs) (os := zE n p s) (p := p) rfl (ol s) (hr s) (on s) (Int.le_trans (VH h3 h8 hp hl hn hs1) hsum))) (h1 (of_decide_eq_true y)).symm) (fun y => Yj rfl (h2 (of_decide_eq_false y)))
  have z := of_decide_eq_false z
  refine wd (XZ (ds := [.lst ((zE n p 1).map .int), .lst ((zE n p (-1)).map .int)]) (fun i ρ => ∃ o3, ρ = [.v (.int n), .v (.tup (hs.map .int)), .v (.int p), o3] ∧ (0 < i → ¬ 0 < zL 0 (car hs 0 (zE n p 1))) ∧ (1 < i → ¬ 0 < zL 0 (car hs 0 (zE n p (-1))))) (zcd (zJ (ds := [.int n, .int p]) rfl eo) rfl) ⟨_, rfl, fun h => absurd h (Nat.lt_irrefl _), fun h => absurd h (by decide)⟩ ?_ ?_)
  · rintro i d ρ hd ⟨o3, rfl, k1, k2⟩
    have hi : i < 2 := (List.getElem?_eq_some_iff.mp hd).1
    have : i = 0 ∨ i = 1 := by omega
    rcases this with rfl | rfl
    · cases hd
      refine ⟨_, rfl, body 1 _ (.inl rfl) (fun y => ?_) (fun y => ⟨_, rfl, fun _ => y, fun h => absurd h (by decide)⟩)⟩
      unfold wx
      rw [if_neg z, if_pos y]
    · cases hd
      refine ⟨_, rfl, body (-1) _ (.inr rfl) (fun y => ?_) (fun y => ⟨_, rfl, fun _ => k1 (by decide), fun _ => y⟩)⟩
      unfold wx
      rw [if_neg z, if_neg (k1 (by decide)), if_pos y]
  · rintro ρ ⟨o3, rfl, k1, k2⟩
    refine WH rfl ?_
    unfold wx
    rw [if_neg z, if_neg (k1 (show 0 < 2 by decide)), if_neg (k2 (show 1 < 2 by decide))]
theorem vC (T : Txt K mg ad) : y0 P w K mg base CX0 9 ad.f_ring_steps ad.e_ring_steps ["n", "heap", "place"] (@zgE ⟨K⟩ 3 xQ) := by
  letI : KK := ⟨K⟩
  have G_must_fit_ring := wV (P := P) (w := w) (base := base) T
  have G_sweep_orders := w6 (P := P) (w := w) (base := base) T
  have G_swept := X0 (P := P) (w := w) (base := base) T
  have G_sweep_steps := Z1 (P := P) (w := w) (base := base) T
  have O_sweep_steps := vc (P := P) (w := w) (base := base) T
  refine zgs (N := ["n", "heap", "place", "order"]) (ps := ["n", "heap", "place"]) T.d_ring_steps.fn v8 (g := wA) fun cdv A outer s H E hr => ?_
  unfold wA xG
  exact (ZM (zfs (ZL (zn (G_must_fit_ring.mono (by decide)) hr rfl T.d_must_fit_ring.at_ T.d_must_fit_ring.kp T.d_must_fit_ring.bd (zb (za 0 (pv 0)) (zb (za 1 (pv 1)) (zb (za 2 (pv 2)) zf))))) zd8)
      (ZM (zdu (zV zaL yK (zF _) (yA (za 1 (pv 1)) (za 2 (pv 2)) (fun _ _ => rfl)) (zh zi)) (Y3 (zal (x6 zf))) V3)
      (ZM (zdK PassesOwn.never rfl (Zq (zn (G_sweep_orders.mono (by decide)) hr rfl T.d_sweep_orders.at_ T.d_sweep_orders.kp T.d_sweep_orders.bd (zb (za 0 (pv 0)) (zb (za 2 (pv 2)) zf)))) (yR (zT (i := 3) v8.nd rfl (Or.inl rfl))) (Y3 (zdu (zV zaL yK (zF _) (yA (zn (G_swept.mono (by decide)) hr rfl T.d_swept.at_ T.d_swept.kp T.d_swept.bd (zb (za 1 (pv 1)) (zb (za 3 (pv 3)) zf))) (Zj (zh zi)) (fun _ _ => rfl)) (zh zi)) (Y3 (zal (zei (O_sweep_steps.mono (by decide)) hr rfl T.d_sweep_steps.at_ T.d_sweep_steps.kp T.d_sweep_steps.bd (zb (za 1 (pv 1)) (zb (za 3 (pv 3)) (zb (za 2 (pv 2)) zf)))))) V3)))
      (Y3 (zcD (vH vJ))))))
theorem XO (T : Txt K mg ad) : y0 P w K mg base CX0 9 ad.f_ring_steps ad.e_ring_steps ["n", "heap", "place"] (@spD ⟨K⟩ 3 xQ) := by
  letI : KK := ⟨K⟩
  exact zfe (vC (P := P) (w := w) (base := base) T)
noncomputable def wO : SE → Ctl :=
  (yn (wW (zc (zg 0) (zc (eFn yB (zc (xS (fFn zaN (zc (zk wg (xS (fLC (YD vX (zc (zk YG (zg 0) (eC (.int 1))) zu)) b1 xk (wW (zc (zg 0) (zc (zk wg (zg 0) (eC (.int 1))) zu))))) (xS (yf (zc (wW (zc (eC (.int 0)) (zc (zk YG (zg 0) (eC (.int 1))) zu))) zu)))) zu))) zu)) zu))))
noncomputable def vS : List D → Option D := fnD 1 wO
theorem Vl {ts : List Tie} (h : ts.length < 64) : zaN [.lst (ts.map zq)] = some ((zan ts).map zq) := by
  show (if (ts.map zq).length < 64 then _ else none) = _
  rw [if_pos (by rw [List.length_map]; exact h), show ts.map zq = ts.map prD from rfl, za5]
  rfl
theorem W3 {n : Int} (h3 : 3 ≤ n) (h8 : n ≤ 8) : ∃ ts : List Tie, vS [.int n] = some (zat n ts) ∧ ∀ a b : Int, (0 ≤ a ∧ a < n) → (0 ≤ b ∧ b < n) → ((a + 1) % n = b ∨ (b + 1) % n = a) → zeO a b ∈ ts := by
  obtain ⟨us, hus⟩ : ∃ us : List Tie, (List.range (n - 1).toNat).map (fun j : Nat => (((j : Int), (j : Int) + 1) : Tie)) = us := ⟨_, rfl⟩
  have hul : us.length = (n - 1).toNat := by rw [← hus, List.length_map, List.length_range]
  refine ⟨zan (us ++ [(0, n - 1)]), ?_, fun a b ha hb h => (zax _).mem_iff.mpr ?_⟩
  · refine Vh (ρ := [.v (.int n)]) rfl ?_
    unfold wO
    have e1 : fLC (YD vX (zc (zk YG (zg 0) (eC (.int 1))) zu)) b1 xk (wW (zc (zg 0) (zc (zk wg (zg 0) (eC (.int 1))) zu))) (visG [.v (.int n)]) = some (us.map zq) := by
      have ei : YD vX (zc (zk YG (zg 0) (eC (.int 1))) zu) (visG [.v (.int n)]) = some (Xn 0 (n - 1).toNat) := by
        show vX [.int (n - 1)] = _
        rw [Z2 (by omega) (by omega)]
      unfold fLC
      rw [ei, Option.bind_some, if_pos (w8 (by rw [ZE]; omega)), ← hus, List.map_map]
      refine Zl (fun j : Nat => D.int (0 + (j : Int))) _ (List.range (n - 1).toNat) fun j _ => ⟨[some (.int (0 + (j : Int)))], rfl, rfl, ?_⟩
      rw [Int.zero_add]
      exact YE (zv (d := .int (j : Int)) rfl (zv (d := .int ((j : Int) + 1)) rfl xg)) (by show 2 ≤ 1000; decide)
    refine WH (vR (d := zat n (zan (us ++ [(0, n - 1)]))) ?_) rfl
    refine YE (zv (d := .int n) rfl (zv (zbj (zv (vZ (zdC (zv (zA (x := .lst (us.map zq)) (y := .lst [zq (0, n - 1)]) (vZ e1) rfl (Y0 (by rw [List.length_map, hul]; show _ + 1 ≤ 1000; omega))) xg) ?_)) xg) rfl) xg)) (by show 2 ≤ 1000; decide)
    have := Vl (ts := us ++ [(0, n - 1)]) (by rw [List.length_append, hul]; show _ + 1 < 64; omega)
    rwa [List.map_append] at this
  · have up : ∀ x y : Int, (0 ≤ x ∧ x < n) → (x + 1) % n = y → (x + 1 = y ∧ x < n - 1) ∨ (x = n - 1 ∧ y = 0) := fun x y hx e => by
      by_cases c : x = n - 1
      · refine .inr ⟨c, ?_⟩
        rw [← e, c, Int.sub_add_cancel, Int.emod_self]
      · rw [Int.emod_eq_of_lt (by omega) (by omega)] at e
        exact .inl ⟨e, by omega⟩
    have mem : ∀ x : Int, 0 ≤ x → x < n - 1 → ((x, x + 1) : Tie) ∈ us := fun x h0 h1 => by
      rw [← hus]
      refine List.mem_map.mpr ⟨x.toNat, List.mem_range.mpr (by omega), ?_⟩
      rw [show ((x.toNat : Nat) : Int) = x by omega]
    unfold zeO
    rcases h with h | h
    · rcases up a b ha h with ⟨h1, h2⟩ | ⟨h1, h2⟩
      · rw [if_neg (by omega), if_pos (by omega), ← h1]
        exact List.mem_append_left _ (mem a ha.1 h2)
      · rw [if_pos (by omega), if_neg (by omega), h1, h2]
        exact List.mem_append_right _ List.mem_cons_self
    · rcases up b a hb h with ⟨h1, h2⟩ | ⟨h1, h2⟩
      · rw [if_pos (by omega), if_neg (by omega), ← h1]
        exact List.mem_append_left _ (mem b hb.1 h2)
      · rw [if_neg (by omega), if_pos (by omega), h1, h2]
        exact List.mem_append_right _ List.mem_cons_self
theorem WZ (T : Txt K mg ad) : y0 P w K mg base CX0 1 ad.f__law_ring ad.e__law_ring ["n"] (@spD ⟨K⟩ 1 vS) := by
  letI : KK := ⟨K⟩
  refine xA (N := ["n"]) (ps := ["n"]) T.d__law_ring.fn Wp (g := wO) fun cdv A outer s H E hr => ?_
  unfold wO
  exact (zj (zt (x5 (zb (za 0 (pv 0)) (zb (vp xw vm rfl T.z_tuple xp (zb (wX (zb9 rfl rfl T.z_sorted (zb (yl (wX (VU (L := ["k"]) (M := ["n"]) rfl (Z6 (by rfl) (by rfl) (by rfl) (by with_unfolding_all rfl) (by rfl) (by rfl) (by kernel_rfl) Yk) (zbi rfl T.z_range (zb (WV (za 0 (pv 0)) (zh zi)) zf)) gs1 rb1 (fun _ _ _ _ => (zT (i := 0) zg1 rfl (Or.inl rfl) (.inr rfl))) (fun _ _ _ _ => (x5 (zb (za 0 (pv 0)) (zb (yl (za 0 (pv 0)) (zh zi)) zf)))))) (wX (x6 (zb (x5 (zb (zh zi) (zb (WV (za 0 (pv 0)) (zh zi)) zf))) zf)))) zf))) zf)) zf)))))
noncomputable def wF : SE → Ctl :=
  (zM (wm false 4 (zk xz (zk wg (zk ixD (zg 0) (zk xT (zk wg (zg 1) (zk wy (zg 2) (zg 5))) (eFn vO (zc (zg 0) zu)))) (zg 4)) (eC (.int 2))))
    (Y6 false 3 (zg 4)))
noncomputable def ww : SE → Ctl :=
  (zM (Yi 3 (yf zu))
    (zM (wm false 4 (eC (.int 0)))
    (zM (xP v5 (zc (eC (.int 1)) (zc (eFn vO (zc (zg 0) zu)) zu)) (yq 5) wF)
    (sFz 3 (yn (zg 3))))))
noncomputable def xf : List D → Option D := fnD 6 ww
theorem Wv {n p s : Int} {hs : List Int} (h3 : 3 ≤ n) (h8 : n ≤ 8) (hl : (hs.length : Int) = n) (hs1 : s = 1 ∨ s = -1) : xf [.tup (hs.map .int), .int p, .int s] = some (.lst ((car hs 0 (zE n p s)).map .int)) := by
  refine Vh (ρ := [.v (.tup (hs.map .int)), .v (.int p), .v (.int s), .no, .no, .no]) rfl ?_
  have elen : ∀ ρ : Ev, ρ[0]? = some (some (.tup (hs.map .int))) → eFn vO (zc (zg 0) zu) ρ = some (.int n) := fun ρ h => by
    refine zbj (zv (d := .tup (hs.map .int)) ?_ xg) ?_
    · unfold zg; rw [h]; rfl
    · show some (D.int ((hs.map D.int).length : Int)) = _
      rw [List.length_map, hl]
  unfold ww
  refine zH rfl (zH rfl (wd (zdl (lo := 1) (c := (n - 1).toNat) (fun i ρ => ∃ (o5 : Sl), ρ = [.v (.tup (hs.map .int)), .v (.int p), .v (.int s), .o (((car hs 0 (zE n p s)).take i).map .int), .v (.int (zL 0 ((car hs 0 (zE n p s)).take i))), o5]) ?_ ⟨_, rfl⟩ ?_ ?_)))
  · rw [zv (d := .int 1) (ds := [.int n]) rfl (zv (elen _ rfl) xg), Option.bind_some, Xg (by decide) (by decide) (by omega) (by omega)]
  · rintro i ρ hi ⟨o5, rfl⟩
    have ho := vT (n := n) (p := p) (s := s) hi
    rw [show (i : Int) + 1 = 1 + (i : Int) by omega] at ho
    obtain ⟨k, hk⟩ : ∃ k : Int, (1 : Int) + (i : Int) = k := ⟨_, rfl⟩
    rw [hk] at ho ⊢
    refine ⟨_, rfl, ?_⟩
    obtain ⟨o, hok⟩ : ∃ o, (p + s * k) % n = o := ⟨_, rfl⟩
    rw [hok] at ho
    have hor : 0 ≤ o ∧ o < n := by rw [← hok]; exact ⟨Int.emod_nonneg _ (by omega), Int.emod_lt_of_pos _ (by omega)⟩
    rw [Xu (zE n p s) 0 i o ho, Yt, List.map_append]
    have hl2 : ((car hs 0 (zE n p s)).take i).length ≤ i := List.length_take_le _ _
    generalize (car hs 0 (zE n p s)).take i = cs at hl2 ⊢
    unfold wF
    refine zH (xj (d := .int ((vAt hs o + zL 0 cs) / 2)) ?_) ?_
    · show zk xz _ (eC (.int 2)) (visF [.v (.tup (hs.map .int)), .v (.int p), .v (.int s), .o (cs.map .int), .v (.int (zL 0 cs)), .v (.int k)]) = _
      refine zA (x := .int (vAt hs o + zL 0 cs)) (y := .int 2) (zA (x := .int (vAt hs o)) (y := .int (zL 0 cs)) (zA (x := .tup (hs.map .int)) (y := .int o) rfl (zA (x := .int (p + s * k)) (y := .int n) (zA (x := .int p) (y := .int (s * k)) rfl (zA (x := .int s) (y := .int k) rfl rfl ?_) rfl) (elen _ rfl) ?_) (Vx hor hl)) rfl rfl) rfl (YX (by decide) (by decide))
      · rcases hs1 with rfl | rfl <;> exact za7 (by decide) (by decide)
      · rw [yQ (by omega), hok]
    · exact Yj (zb0 (m := false) (i := 3) (f := zg 4) (ds := cs.map .int) (d := .int ((vAt hs o + zL 0 cs) / 2)) rfl rfl (by rw [List.length_map]; omega)) ⟨.v (.int k), rfl⟩
  · rintro ρ ⟨o5, rfl⟩
    rw [← zD n p s, ← yL hs (zE n p s) 0, List.take_length]
    exact zfw rfl (WH rfl rfl)
theorem XI (T : Txt K mg ad) : y0 P w K mg base CX0 1 ad.f__law_sweep ad.e__law_sweep ["heap", "place", "by"] (@spD ⟨K⟩ 3 xf) := by
  letI : KK := ⟨K⟩
  refine xA (N := ["heap", "place", "by", "found", "carry", "k"]) (ps := ["heap", "place", "by"]) T.d__law_sweep.fn xi (g := ww) fun cdv A outer s H E hr => ?_
  unfold ww wF
  exact (ze (ZD (i := 3) xi.nd rfl (Or.inl rfl) (x6 zf))
      (ze (yI (m := false) (i := 4) xi.nd rfl (Or.inl rfl) (zh zi))
      (ze (zcL PassesOwn.never rfl rfl T.z_range (zb (zh zi) (zb (ye zK wq rfl T.z_len vg (zb (za 0 (pv 0)) zf)) zf)) (yR (zT (i := 5) xi.nd rfl (Or.inl rfl))) (ze (yI (m := false) (i := 4) xi.nd rfl (Or.inl rfl) (Xw (yl (yA (za 0 (pv 0)) (x8 (yl (za 1 (pv 1)) (vE (za 2 (pv 2)) (za 5 (pv 5)))) (ye zK wq rfl T.z_len vg (zb (za 0 (pv 0)) zf))) (fun _ _ => rfl)) (za 4 (pv 4))) (zh zi)))
      (zj (zb5 (m := false) (pv 3) (za 4 (pv 4)) (fun a b => zbd PySem.F.plainAttrs_list PySem.F.slot_list_append PySem.F.type_list_append Zv a b)))))
      (Xk 3 (zj (zt (za 3 (pv 3))))))))
theorem Zo : ∀ (xs : List Int) (k : Nat) (y : Int), k < xs.length → (xs.set k (xs.getD k 0 + y)).sum = xs.sum + y
  | [], _, _, h => by cases h
  | x :: xs, 0, y, _ => by
    show x + y + xs.sum = x + xs.sum + y
    omega
  | x :: xs, k + 1, y, h => by
    have := Zo xs k y (by simpa using h)
    show x + (xs.set k (xs.getD k 0 + y)).sum = x + xs.sum + y
    omega
theorem zfc {xs : List Int} {k : Nat} {y : Int} (h : ∀ x ∈ xs, 0 ≤ x) (hy : 0 ≤ y) : ∀ x ∈ xs.set k y, 0 ≤ x := fun x hx => by
  rcases List.mem_or_eq_of_mem_set hx with hx | rfl
  · exact h x hx
  · exact hy
noncomputable def wu : SE → Ctl :=
  (zM (sIf (Yw (yF (tOf (eUn (yz .tuple) (zg 4)))) (Yw (tOf (zk neD (eFn vO (zc (zg 4) zu)) (eC (.int 2)))) (tOf (zk zbU (wW (zc (eFn zea (zc (zg 4) zu)) (zc (eFn zdY (zc (zg 4) zu)) zu))) (zk ixD (zg 0) (eC (.int 1))))))) (yn (eC .non)) zG)
    (zM (sIf (tOf (zk ltD (zk ixD (zg 3) (zk ixD (zg 4) (eC (.int 0)))) (eC (.int 2)))) (yn (eC .non)) zG)
    (zM (Ys true 3 (zk ixD (zg 4) (eC (.int 0))) (zk YG (zk ixD (zg 3) (zk ixD (zg 4) (eC (.int 0)))) (eC (.int 2))))
    (Ys true 3 (zk ixD (zg 4) (eC (.int 1))) (zk wg (zk ixD (zg 3) (zk ixD (zg 4) (eC (.int 1)))) (eC (.int 1)))))))
noncomputable def x9 : SE → Ctl :=
  (zM (Yi 3 (fFn wE (zc (zg 1) zu)))
    (zM (sIf (yF (tOf (eUn (yz .list) (zg 2)))) (yn (eC .non)) zG)
    (zM (vz (iOf (zg 2)) (yq 4) wu)
    (sFz 3 (yn (zg 3))))))
noncomputable def xx : List D → Option D := fnD 5 x9
theorem WU {t : Tie} {ts : List Tie} (h1 : t ∈ ts) : zbU (zq t) (.tup (ts.map zq)) = some (.bl false) := by
  have h := zc0 t ts
  have h : (zcU (zq t) (ts.map zq)).map D.bl = some (.bl (decide (t ∈ ts))) := h
  obtain ⟨b, e, h2⟩ := Option.map_eq_some_iff.mp h
  injection h2 with h2
  show (zcU (zq t) (ts.map zq)).map (fun b => D.bl (!b)) = _
  rw [e, h2, decide_eq_true h1]
  rfl
theorem zer (a b : Int) : zea [.tup [.int a, .int b]] = some (.int (if b < a then b else a)) := by
  show some (D.int (zdM [a, b])) = _
  congr 2
  show min a b = _
  by_cases c : b < a
  · rw [if_pos c]; omega
  · rw [if_neg c]; omega
theorem zd6 (a b : Int) : zdY [.tup [.int a, .int b]] = some (.int (if b > a then b else a)) := by
  show some (D.int (zd0 [a, b])) = _
  congr 2
  show max a b = _
  by_cases c : b > a
  · rw [if_pos c]; omega
  · rw [if_neg c]; omega
theorem WO {n : Int} {ts : List Tie} {hs gs' : List Int} {ss : List Tie} (hl : (hs.length : Int) = n) (ht : ∀ s ∈ ss, zeO s.1 s.2 ∈ ts) (hp : YW n hs ss gs') : xx [zat n ts, .tup (hs.map .int), .lst (ss.map zq)] = some (.lst (gs'.map .int)) := by
  refine Vh (ρ := [.v (zat n ts), .v (.tup (hs.map .int)), .v (.lst (ss.map zq)), .no, .no]) rfl ?_
  unfold x9
  refine zH (ρ' := [.v (zat n ts), .v (.tup (hs.map .int)), .v (.lst (ss.map zq)), .o (hs.map .int), .no]) rfl (wd (Z0 (c := false) rfl (fun z => by cases z) (fun _ => Yj rfl ?_)))
  refine wd (XZ (ds := ss.map zq) (fun i ρ => ∃ (gs : List Int) (o4 : Sl), ρ = [.v (zat n ts), .v (.tup (hs.map .int)), .v (.lst (ss.map zq)), .o (gs.map .int), o4] ∧ (gs.length : Int) = n ∧ YW n gs (ss.drop i) gs') rfl ⟨hs, _, rfl, hl, hp⟩ ?_ ?_)
  · rintro i d ρ hd ⟨gs, o4, rfl, hg, hpl⟩
    rw [List.getElem?_map] at hd
    obtain ⟨s, hs', rfl⟩ := Option.map_eq_some_iff.mp hd
    have d1 : ss.drop i = s :: ss.drop (i + 1) := by
      obtain ⟨h1, h2⟩ := List.getElem?_eq_some_iff.mp hs'
      rw [List.drop_eq_getElem_cons h1, h2]
    rw [d1] at hpl
    cases hpl with
    | cons p1 p2 p3 p4 =>
    obtain ⟨a, b⟩ := s
    have hm := ht _ (List.mem_of_getElem? hs')
    refine ⟨_, rfl, ?_⟩
    unfold wu
    have ea : ∀ gs : List Int, zk ixD (zg 4) (eC (.int 0)) (visG [.v (zat n ts), .v (.tup (hs.map .int)), .v (.lst (ss.map zq)), .o (gs.map .int), .v (zq (a, b))]) = some (.int a) := fun gs => rfl
    have eb : ∀ gs : List Int, zk ixD (zg 4) (eC (.int 1)) (visG [.v (zat n ts), .v (.tup (hs.map .int)), .v (.lst (ss.map zq)), .o (gs.map .int), .v (zq (a, b))]) = some (.int b) := fun gs => rfl
    refine wd (Z0 (c := false) (zbQ rfl (zbQ rfl (YV (zA (x := zq (zeO a b)) (y := .tup (ts.map zq)) (YE (zv (zbj (ds := [zq (a, b)]) rfl (zer a b)) (zv (zbj (ds := [zq (a, b)]) rfl (zd6 a b)) xg)) (by show 2 ≤ 1000; decide)) rfl (WU hm))))) (fun z => by cases z) (fun _ => Yj rfl ?_))
    refine wd (Z0 (c := false) (YV (zA (x := .int (vAt gs a)) (y := .int 2) (zA (x := .lst (gs.map .int)) (y := .int a) rfl (ea gs) (Vx p1 hg)) rfl ?_)) (fun z => by cases z) (fun _ => Yj rfl ?_))
    · show some (D.bl (decide (vAt gs a < 2))) = _
      rw [decide_eq_false (by have : 2 ≤ vAt gs a := p3; omega)]
    have p1 : 0 ≤ a ∧ a < n := p1
    have p2 : 0 ≤ b ∧ b < n := p2
    refine zH (zdD (m := true) (ds := gs.map .int) (d := .int (vAt gs a - 2)) (k := a) ?_ (ea gs) rfl p1.1 (by rw [List.length_map]; omega)) ?_
    · show (Option.bind (zk YG _ (eC (.int 2)) (visG [.v (zat n ts), .v (.tup (hs.map .int)), .v (.lst (ss.map zq)), .o (gs.map .int), .v (zq (a, b))])) fun d => if noL d = true then some d else none) = _
      rw [zA (x := .int (vAt gs a)) (y := .int 2) (z := .int (vAt gs a - 2)) (zA (x := .lst (gs.map .int)) (y := .int a) rfl (ea gs) (Vx p1 hg)) rfl rfl]
      rfl
    rw [← List.map_set]
    obtain ⟨g1, hg1⟩ : ∃ g1, gs.set a.toNat (vAt gs a - 2) = g1 := ⟨_, rfl⟩
    have hl1 : (g1.length : Int) = n := by rw [← hg1, List.length_set]; exact hg
    rw [hg1]
    have p4 : YW n ((gs.set a.toNat (vAt gs a - 2)).set b.toNat (vAt (gs.set a.toNat (vAt gs a - 2)) b + 1)) (ss.drop (i + 1)) gs' := p4
    rw [hg1] at p4
    refine zev (g1.map .int) (.int (vAt g1 b + 1)) b ?_ (eb g1) rfl p2.1 (by rw [List.length_map]; omega) ⟨g1.set b.toNat (vAt g1 b + 1), .v (zq (a, b)), ?_, by rw [List.length_set]; exact hl1, p4⟩
    · show (Option.bind (zk wg _ (eC (.int 1)) (visG [.v (zat n ts), .v (.tup (hs.map .int)), .v (.lst (ss.map zq)), .o (g1.map .int), .v (zq (a, b))])) fun d => if noL d = true then some d else none) = _
      rw [zA (x := .int (vAt g1 b)) (y := .int 1) (z := .int (vAt g1 b + 1)) (zA (x := .lst (g1.map .int)) (y := .int b) rfl (eb g1) (Vx p2 hl1)) rfl rfl]
      rfl
    · rw [List.map_set]
      rfl
  · rintro ρ ⟨gs, o4, rfl, hg, hpl⟩
    rw [List.length_map, List.drop_length] at hpl
    cases hpl
    exact zfw rfl (WH rfl rfl)
theorem ZZ (T : Txt K mg ad) : y0 P w K mg base CX0 1 ad.f__law_played ad.e__law_played ["web", "heap", "steps"] (@spD ⟨K⟩ 3 xx) := by
  letI : KK := ⟨K⟩
  refine xA (N := ["web", "heap", "steps", "here", "step"]) (ps := ["web", "heap", "steps"]) T.d__law_played.fn wD (g := x9) fun cdv A outer s H E hr => ?_
  unfold x9 wu
  exact (ze (ZD (i := 3) wD.nd rfl (Or.inl rfl) (zbP rfl T.z_list (zb (za 1 (pv 1)) zf)))
      (ze (yu (wv (xn (zI .list rfl T.z_isinstance (za 2 (pv 2)) (yp (v := .ty "list") rfl T.z_list Zn rfl)))) (zj (zt (vH vJ))) zw)
      (ze (ZS PassesOwn.never rfl (Zq (za 2 (pv 2))) (yR (zT (i := 4) wD.nd rfl (Or.inl rfl))) (ze (yu (zeg (Vz (wv (xn (zI .tuple rfl T.z_isinstance (za 4 (pv 4)) (yp (v := .ty "tuple") rfl T.z_tuple xp rfl)))) (Vz (zV zaP Xf (zF _) (ye zK wq rfl T.z_len vg (zb (za 4 (pv 4)) zf)) (zh zi)) (Xb (zV (zbb hr) zck (by with_unfolding_all rfl) (x5 (zb (ye (zbC rfl) zda rfl T.z_min zfK (zb (za 4 (pv 4)) zf)) (zb (ye (zaV rfl) zcE rfl T.z_max ze9 (zb (za 4 (pv 4)) zf)) zf))) (yA (za 0 (pv 0)) (zh zi) (fun _ _ => rfl))))))) (zj (zt (vH vJ))) zw)
      (ze (yu (zV zd2 yK (zF _) (yA (za 3 (pv 3)) (yA (za 4 (pv 4)) (zh zi) (fun _ _ => rfl)) (fun _ _ => rfl)) (zh zi)) (zj (zt (vH vJ))) zw)
      (ze (V4 (m := true) (WV (yA (za 3 (pv 3)) (yA (za 4 (pv 4)) (zh zi) (fun _ _ => rfl)) (fun _ _ => rfl)) (zh zi)) (pv 3) (yA (za 4 (pv 4)) (zh zi) (fun _ _ => rfl)))
      (zj (V4 (m := true) (yl (yA (za 3 (pv 3)) (yA (za 4 (pv 4)) (zh zi) (fun _ _ => rfl)) (fun _ _ => rfl)) (zh zi)) (pv 3) (yA (za 4 (pv 4)) (zh zi) (fun _ _ => rfl))))))))
      (Xk 3 (zj (zt (za 3 (pv 3))))))))
theorem zbT {p : Int} : ∀ {os cs : List Int} {s : Tie}, s ∈ stL p os cs → ∃ i : Nat, os[i]? = some s.1 ∧ (os.drop 1 ++ [p])[i]? = some s.2 := by
  intro os
  induction os with
  | nil => intro cs s h; cases h
  | cons o os ih =>
    intro cs s h
    cases cs with
    | nil => cases os <;> cases h
    | cons c cs =>
      cases os with
      | nil =>
        have h : s ∈ List.replicate c.toNat ((o, p) : Tie) := h
        rw [(List.mem_replicate.mp h).2]
        exact ⟨0, rfl, rfl⟩
      | cons o2 os =>
        have h : s ∈ List.replicate c.toNat ((o, o2) : Tie) ++ stL p (o2 :: os) cs := h
        rcases List.mem_append.mp h with h | h
        · rw [(List.mem_replicate.mp h).2]
          exact ⟨0, rfl, rfl⟩
        · obtain ⟨i, h1, h2⟩ := ih h
          exact ⟨i + 1, h1, h2⟩
theorem zcV {n p s : Int} {cs : List Int} {t : Tie} (h3 : 3 ≤ n) (hp : 0 ≤ p ∧ p < n) (h : t ∈ stL p (zE n p s) cs) : (t.1 + s) % n = t.2 := by
  obtain ⟨i, h1, h2⟩ := zbT h
  have hi : i < (n - 1).toNat := by have := (List.getElem?_eq_some_iff.mp h1).1; rwa [zD] at this
  rw [vT hi] at h1
  injection h1 with h1
  rw [← h1, Int.emod_add_emod, Int.add_assoc, show s * ((i : Int) + 1) + s = s * (((i + 1 : Nat) : Int) + 1) by rw [Int.mul_add, Int.mul_add, Int.mul_one, Int.natCast_succ, Int.mul_add, Int.mul_one]]
  by_cases c : i + 1 < (n - 1).toNat
  · rw [List.getElem?_append_left (by rw [List.length_drop, zD]; omega), List.getElem?_drop, Nat.add_comm 1 i, vT c] at h2
    injection h2
  · have ei : i = ((zE n p s).drop 1).length := by rw [List.length_drop, zD]; omega
    rw [ei, List.getElem?_append_right (Nat.le_refl _), Nat.sub_self] at h2
    have h2 : some p = some t.2 := h2
    injection h2 with h2
    rw [← h2, show (((i + 1 : Nat) : Int) + 1) = n by omega, Int.add_mul_emod_self_right, Int.emod_eq_of_lt hp.1 hp.2]
noncomputable def Adj (n : Int) (ts : List Tie) : Prop := ∀ a b : Int, (0 ≤ a ∧ a < n) → (0 ≤ b ∧ b < n) → ((a + 1) % n = b ∨ (b + 1) % n = a) → zeO a b ∈ ts
theorem zeC {n p s : Int} {cs : List Int} {ts : List Tie} (h3 : 3 ≤ n) (hp : 0 ≤ p ∧ p < n) (ha : Adj n ts) (hs1 : s = 1 ∨ s = -1) : ∀ t ∈ stL p (zE n p s) cs, zeO t.1 t.2 ∈ ts := fun t ht => by
  have e := zcV h3 hp ht
  obtain ⟨i, h1, _⟩ := zbT ht
  have r1 := Y4 (by omega) (List.mem_of_getElem? h1)
  have r2 : 0 ≤ t.2 ∧ t.2 < n := by rw [← e]; exact ⟨Int.emod_nonneg _ (by omega), Int.emod_lt_of_pos _ (by omega)⟩
  refine ha _ _ r1 r2 ?_
  rcases hs1 with rfl | rfl
  · exact .inl e
  · refine .inr ?_
    rw [← e, Int.emod_add_emod, Int.neg_add_cancel_right, Int.emod_eq_of_lt r1.1 r1.2]
theorem ZN {n p s : Int} {hs : List Int} {ts : List Tie} (h3 : 3 ≤ n) (h8 : n ≤ 8) (hp : 0 ≤ p ∧ p < n) (hl : (hs.length : Int) = n) (hn : ∀ x ∈ hs, 0 ≤ x) (ha : Adj n ts) (hs1 : s = 1 ∨ s = -1) (h : 0 < zL 0 (car hs 0 (zE n p s))) :
    ∃ gs : List Int, xx [zat n ts, .tup (hs.map .int), .lst ((stL p (zE n p s) (car hs 0 (zE n p s))).map zq)] = some (.lst (gs.map .int)) ∧ (gs.length : Int) = n ∧ 1 ≤ vAt gs p := by
  have nd : (p :: zE n p s).Nodup := by
    rcases hs1 with rfl | rfl
    · exact ZJ h3 h8 hp
    · exact Ws h3 h8 hp
  obtain ⟨gs, h1, h2, h4⟩ := Zb (hs := hs) hp (zE n p s) 0 hs (fun o ho => Y4 (by omega) ho) nd hl (Wk h3) (fun o _ => YK hn o) (Int.le_refl _) (fun o _ => rfl) (fun o _ => (Int.add_zero _).symm)
  refine ⟨gs, WO hl (zeC h3 hp ha hs1) h1, h2, ?_⟩
  have := YK hn p
  omega
noncomputable def Y5 : SE → Ctl :=
  (zM (Yh (zr 3 xl (zc (zg 0) (zc (zg 1) (zc (zg 2) zu)))))
    (yn (eFn yB (zc (xS (fLC (iOf (zr 2 yT (zc (zg 0) (zc (zg 2) zu)))) b1 xk (zk ixD (zr 2 YA (zc (zg 2) (zc (zg 0) zu))) (eUn YL (eC (.int 1)))))) zu))))
noncomputable def Xq : List D → Option D := fnD 3 Y5
theorem zbZ {n p : Int} {hs : List Int} (h3 : 3 ≤ n) (h8 : n ≤ 8) (hl : (hs.length : Int) = n) (hn : ∀ x ∈ hs, 0 ≤ x) (hsum : hs.sum ≤ 300) (hp : 0 ≤ p ∧ p < n) : Xq [.int n, .tup (hs.map .int), .int p] = some (.tup [.int (zL 0 (car hs 0 (zE n p 1))), .int (zL 0 (car hs 0 (zE n p (-1))))]) := by
  have ef := VX h3 h8 hl hn hsum hp
  have eo := WQ (p := p) h3 h8
  refine Vh (ρ := [.v (.int n), .v (.tup (hs.map .int)), .v (.int p)]) rfl ?_
  unfold Y5
  refine zH (Xy (d := .non) (zJ rfl ef)) (WH (vR (d := .tup [.int (zL 0 (car hs 0 (zE n p 1))), .int (zL 0 (car hs 0 (zE n p (-1))))]) ?_) rfl)
  refine zbj (ds := [.lst [.int (zL 0 (car hs 0 (zE n p 1))), .int (zL 0 (car hs 0 (zE n p (-1))))]]) (zv (vZ ?_) xg) rfl
  unfold fLC
  have ei : iOf (zr 2 yT (zc (zg 0) (zc (zg 2) zu))) (visG [.v (.int n), .v (.tup (hs.map .int)), .v (.int p)]) = some [.lst ((zE n p 1).map .int), .lst ((zE n p (-1)).map .int)] := zcd (zJ (ds := [.int n, .int p]) rfl eo) rfl
  rw [ei, Option.bind_some, if_pos (w8 (by show 2 ≤ 1000; decide))]
  refine Zl (fun s : Int => D.lst ((zE n p s).map .int)) (fun s : Int => D.int (zL 0 (car hs 0 (zE n p s)))) [1, -1] fun s _ => ⟨[some (.lst ((zE n p s).map .int))], rfl, rfl, ?_⟩
  have c0 : car hs 0 (zE n p s) ≠ [] := fun e => Wk (p := p) (s := s) h3 (List.eq_nil_of_length_eq_zero (by rw [← yL hs _ 0, e]; rfl))
  exact zA (x := .lst ((car hs 0 (zE n p s)).map .int)) (y := .int (-1)) (zJ (ds := [.tup (hs.map .int), .lst ((zE n p s).map .int)]) rfl (XF (by rw [zD]; omega) (fun x hx => hl ▸ Y4 (n := n) (p := p) (s := s) (x := x) (by omega) hx))) rfl (vq c0)
theorem zbV (T : Txt K mg ad) : y0 P w K mg base CX0 9 ad.f_sweeps ad.e_sweeps ["n", "heap", "place"] (@spD ⟨K⟩ 3 Xq) := by
  letI : KK := ⟨K⟩
  have G_must_fit_ring := wV (P := P) (w := w) (base := base) T
  have G_sweep_orders := w6 (P := P) (w := w) (base := base) T
  have G_swept := X0 (P := P) (w := w) (base := base) T
  refine xA (N := ["n", "heap", "place"]) (ps := ["n", "heap", "place"]) T.d_sweeps.fn zce (g := Y5) fun cdv A outer s H E hr => ?_
  unfold Y5
  exact (ze (ZL (zn (G_must_fit_ring.mono (by decide)) hr rfl T.d_must_fit_ring.at_ T.d_must_fit_ring.kp T.d_must_fit_ring.bd (zb (za 0 (pv 0)) (zb (za 1 (pv 1)) (zb (za 2 (pv 2)) zf)))))
      (zj (zt (vp xw vm rfl T.z_tuple xp (zb (wX (VU (L := ["order"]) (M := ["n", "heap", "place"]) rfl (Z6 (by rfl) (by rfl) (by rfl) (by with_unfolding_all rfl) (by rfl) (by rfl) (by kernel_rfl) (all_cons rfl Yk)) (Zq (zn (G_sweep_orders.mono (by decide)) hr rfl T.d_sweep_orders.at_ T.d_sweep_orders.kp T.d_sweep_orders.bd (zb (za 0 (pv 0)) (zb (za 2 (pv 2)) zf)))) gs1 rb1 (fun _ _ _ _ => (zT (i := 0) zgV rfl (Or.inl rfl) (.inr rfl))) (fun _ _ _ _ => (yA (zn (G_swept.mono (by decide)) hr rfl T.d_swept.at_ T.d_swept.kp T.d_swept.bd (zb (za 2 (pv 2)) (zb (za 0 (pv 0)) zf))) (Zj (zh zi)) (fun _ _ => rfl))))) zf)))))
theorem zen {n p s : Int} {i : Nat} (h3 : 3 ≤ n) (hp : 0 ≤ p ∧ p < n) (hi : i < (n - 1).toNat) : ((zE n p s).drop 1 ++ [p])[i]? = some ((p + s * ((i : Int) + 2)) % n) := by
  by_cases c : i + 1 < (n - 1).toNat
  · rw [List.getElem?_append_left (by rw [List.length_drop, zD]; omega), List.getElem?_drop, Nat.add_comm 1 i, vT c]
    rw [show ((i + 1 : Nat) : Int) + 1 = (i : Int) + 2 by omega]
  · have ei : i = ((zE n p s).drop 1).length := by rw [List.length_drop, zD]; omega
    rw [List.getElem?_append_right (Nat.le_of_eq ei.symm), ← ei, Nat.sub_self, show (i : Int) + 2 = n by omega, Int.add_mul_emod_self_right, Int.emod_eq_of_lt hp.1 hp.2]
    rfl
theorem zc8 {n p : Int} {hs : List Int} {ts : List Tie} (h3 : 3 ≤ n) (h8 : n ≤ 8) (hp : 0 ≤ p ∧ p < n) (hl : (hs.length : Int) = n) (hn : ∀ x ∈ hs, 0 ≤ x) (hsum : hs.sum ≤ 300) (ha : Adj n ts) :
    wx n hs p = .non ∨ ∃ (ss : List Tie) (gs : List Int), wx n hs p = .lst (ss.map zq) ∧ ss.length ≤ 300 ∧ xx [zat n ts, .tup (hs.map .int), .lst (ss.map zq)] = some (.lst (gs.map .int)) ∧ (gs.length : Int) = n ∧ 1 ≤ vAt gs p := by
  unfold wx
  have on : ∀ s : Int, ∀ o ∈ zE n p s, 0 ≤ vAt hs o := fun s o _ => YK hn o
  have bound : ∀ s : Int, (s = 1 ∨ s = -1) → (stL p (zE n p s) (car hs 0 (zE n p s))).length ≤ 300 := fun s h => by
    have b1 := VA (p := p) (os := zE n p s) (VI (on s) (Int.le_refl 0))
    have b2 := Vi (on s) (Int.le_refl 0)
    have b3 := VH h3 h8 hp hl hn h
    omega
  by_cases c1 : 0 < vAt hs p
  · rw [if_pos c1]
    exact .inr ⟨[], hs, rfl, Nat.zero_le _, WO (ss := []) hl (fun s h => by cases h) .nil, hl, c1⟩
  rw [if_neg c1]
  by_cases c2 : 0 < zL 0 (car hs 0 (zE n p 1))
  · rw [if_pos c2]
    obtain ⟨gs, h⟩ := ZN h3 h8 hp hl hn ha (.inl rfl) c2
    exact .inr ⟨_, gs, rfl, bound 1 (.inl rfl), h⟩
  rw [if_neg c2]
  by_cases c3 : 0 < zL 0 (car hs 0 (zE n p (-1)))
  · rw [if_pos c3]
    obtain ⟨gs, h⟩ := ZN h3 h8 hp hl hn ha (.inr rfl) c3
    exact .inr ⟨_, gs, rfl, bound (-1) (.inr rfl), h⟩
  · rw [if_neg c3]
    exact .inl rfl
theorem zb6 (n : Nat) (ss : List Tie) : okE (n + 2) (.lst (ss.map zq)) = true := by
  show (ss.map zq).all (okE (n + 1)) = true
  rw [List.all_map]
  exact List.all_eq_true.mpr fun t _ => (by cases n <;> rfl : okE (n + 1) (zq t) = true)
noncomputable def XW : SE → Ctl :=
  (wm false 6 (zk wg (zg 6) (zk wy (xS (yf (zc (wW (zc (zk xT (zk wg (zg 3) (zk wy (zg 7) (zk wg (zg 9) (eC (.int 1))))) (zg 2)) (zc (zk xT (zk wg (zg 3) (zk wy (zg 7) (zk wg (zg 9) (eC (.int 2))))) (zg 2)) zu))) zu))) (zg 10))))
noncomputable def X4 : SE → Ctl :=
  (sIf (tOf (zk gtD (zk ixD (zg 8) (eUn YL (eC (.int 1)))) (eC (.int 0)))) (zM (wm false 6 (xS (yf zu)))
    (vz (y6 (zc (zg 8) zu)) (YQ 2 (yX (yq 9) (yX (yq 10) Y9))) XW)) zG)
noncomputable def XN : SE → Ctl :=
  (zM (wm false 2 (zk wg (eC (.int 3)) (zk xT (zr 2 zO (zc (zg 1) (zc (eC (.int 1)) zu))) (eC (.int 6)))))
    (zM (wm false 3 (zk xT (zr 2 zO (zc (zg 1) (zc (eC (.int 2)) zu))) (zg 2)))
    (zM (Yi 4 (fFn wE (zc (zr 3 wB (zc (zg 2) (zc (zr 2 zO (zc (zg 1) (zc (eC (.int 3)) zu))) (zc (zk ixD (xS (yf (zc (eC (.int 6)) (zc (eC (.int 12)) (zc (eC (.int 40)) zu))))) (zk xT (zg 1) (eC (.int 3)))) zu)))) zu)))
    (zM (sIf (tOf (zk gtD (zk xT (zg 1) (eC (.int 4))) (eC (.int 0)))) (Ys false 4 (zg 3) (eC (.int 0))) zG)
    (sFz 4 (zM (wm false 4 (eFn yB (zc (zg 4) zu)))
    (zM (wm false 5 (xS (yf (zc (zr 3 xf (zc (zg 4) (zc (zg 3) (zc (eC (.int 1)) zu)))) (zc (zr 3 xf (zc (zg 4) (zc (zg 3) (zc (eUn YL (eC (.int 1))) zu)))) zu)))))
    (zM (sIf (yF (tOf (zr 2 wt (zc (zr 3 Xq (zc (zg 2) (zc (zg 4) (zc (zg 3) zu)))) (zc (wW (zc (zk ixD (zk ixD (zg 5) (eC (.int 0))) (eUn YL (eC (.int 1)))) (zc (zk ixD (zk ixD (zg 5) (eC (.int 1))) (eUn YL (eC (.int 1)))) zu))) zu))))) (yn (eC (.bl false))) zG)
    (zM (wm false 6 (eC .non))
    (zM (vz (iOf (xS (yf (zc (wW (zc (eUn YL (eC (.int 1))) (zc (zk ixD (zg 5) (eC (.int 1))) zu))) (zc (wW (zc (eC (.int 1)) (zc (zk ixD (zg 5) (eC (.int 0))) zu))) zu))))) (YQ 2 (yX (yq 7) (yX (yq 8) Y9))) X4)
    (zM (sIf (tOf (zk gtD (zk ixD (zg 4) (zg 3)) (eC (.int 0)))) (wm false 6 (xS (yf zu))) zG)
    (zM (zd3 11 (zr 3 xQ (zc (zg 2) (zc (zg 4) (zc (zg 3) zu)))))
    (zM (sIf (yF (tOf (zr 2 wt (zc (zg 11) (zc (zg 6) zu))))) (yn (eC (.bl false))) zG)
    (sIf (tOf (zk yc (zg 6) (eC .non))) (zM (wm false 12 (zr 3 xx (zc (zr 1 vS (zc (zg 2) zu)) (zc (zg 4) (zc (zg 6) zu)))))
    (zM (sIf (Yw (tOf (zk ZY (zg 12) (eC .non))) (tOf (zk ltD (zk ixD (zg 12) (zg 3)) (eC (.int 1))))) (yn (eC (.bl false))) zG)
    (zM (Y6 false 11 (wW zu))
    (sIf (yF (tOf (zr 2 wt (zc (zr 3 xQ (zc (zg 2) (zc (zg 4) (zc (zg 3) zu)))) (zc (zg 6) zu))))) (yn (eC (.bl false))) zG)))) zG))))))))))))))
noncomputable def zcT : SE → Ctl :=
  (zM (vz (iOf (zk wg (xS (yf (zc (zr 2 yS (zc (zg 0) (zc (eC (.int 0)) zu))) zu))) (eSl slD (zg 0) (xW (eC (.int 1))) (xW (eC (.int 15)))))) (yq 1) XN)
    (yn (eC (.bl true))))
noncomputable def zeY : List D → Option D := fnD 13 zcT
noncomputable abbrev hpD (hs : List Int) : D := .tup (hs.map .int)
theorem zg9 {ns hs : List Int} {c n p s : Int} {rows : D} {o9 o10 o11 o12 : Sl} {N B C : SE → Prop} {R : D → Prop} (h3 : 3 ≤ n) (h8 : n ≤ 8) (hp : 0 ≤ p ∧ p < n) (hl : (hs.length : Int) = n) (hn : ∀ x ∈ hs, 0 ≤ x) (hsum : hs.sum ≤ 300) (hs1 : s = 1 ∨ s = -1)
    (q : ∀ o9 o10, N [.v (.scr ns), .v (.int c), .v (.int n), .v (.int p), .v (hpD hs), .v rows, .v (.lst ((stL p (zE n p s) (car hs 0 (zE n p s))).map zq)), .v (.int s), .v (.lst ((car hs 0 (zE n p s)).map .int)), o9, o10, o11, o12]) :
    (vz (y6 (zc (zg 8) zu)) (YQ 2 (yX (yq 9) (yX (yq 10) Y9))) XW [.v (.scr ns), .v (.int c), .v (.int n), .v (.int p), .v (hpD hs), .v rows, .v (.lst []), .v (.int s), .v (.lst ((car hs 0 (zE n p s)).map .int)), o9, o10, o11, o12]).w N B C R := by
  have on : ∀ o ∈ zE n p s, 0 ≤ vAt hs o := fun o _ => YK hn o
  have hcn := VI on (Int.le_refl 0)
  have b1 := VA (p := p) (os := zE n p s) hcn
  have b2 := Vi on (Int.le_refl 0)
  have b3 := VH h3 h8 hp hl hn hs1
  have hcl : (car hs 0 (zE n p s)).length = (n - 1).toNat := by rw [yL, zD]
  generalize car hs 0 (zE n p s) = cs at *
  refine XZ (ds := Xo 0 (cs.map .int)) (fun i ρ => ∃ (acc : List Tie) (o9 o10 : Sl), ρ = [.v (.scr ns), .v (.int c), .v (.int n), .v (.int p), .v (hpD hs), .v rows, .v (.lst (acc.map zq)), .v (.int s), .v (.lst (cs.map .int)), o9, o10, o11, o12] ∧ stL p (zE n p s) cs = acc ++ stL p ((zE n p s).drop i) (cs.drop i)) rfl ⟨[], _, _, rfl, rfl⟩ ?_ ?_
  · rintro i d ρ hd ⟨acc, o9, o10, rfl, hacc⟩
    rw [ZQ, List.getElem?_map] at hd
    obtain ⟨e, he, rfl⟩ := Option.map_eq_some_iff.mp hd
    obtain ⟨v, hv, rfl⟩ := Option.map_eq_some_iff.mp he
    rw [Nat.zero_add]
    have hi : i < (n - 1).toNat := hcl ▸ (List.getElem?_eq_some_iff.mp hv).1
    have h0 := hcn v (List.mem_of_getElem? hv)
    rw [zba (vT hi) (zen h3 hp hi) hv, ← List.append_assoc] at hacc
    have hlen : acc.length + v.toNat ≤ 300 := by
      have := congrArg List.length hacc
      rw [List.length_append, List.length_append, List.length_replicate] at this
      omega
    obtain ⟨k, hk⟩ : ∃ k : Int, (i : Int) = k := ⟨_, rfl⟩
    rw [hk] at hacc ⊢
    obtain ⟨o, ho⟩ : ∃ o, (p + s * (k + 1)) % n = o := ⟨_, rfl⟩
    obtain ⟨o2, ho2⟩ : ∃ o2, (p + s * (k + 2)) % n = o2 := ⟨_, rfl⟩
    rw [ho, ho2] at hacc
    refine ⟨_, rfl, ?_⟩
    unfold XW
    refine Yj (ρ' := [.v (.scr ns), .v (.int c), .v (.int n), .v (.int p), .v (hpD hs), .v rows, .v (.lst ((acc ++ List.replicate v.toNat (o, o2)).map zq)), .v (.int s), .v (.lst (cs.map .int)), .v (.int k), .v (.int v), o11, o12]) (xj (d := .lst ((acc ++ List.replicate v.toNat (o, o2)).map zq)) ?_) ⟨_, _, _, rfl, hacc⟩
    have em : ∀ j : Int, wy (.int s) (.int j) = some (.int (s * j)) := fun j => by rcases hs1 with rfl | rfl <;> exact za7 (by decide) (by decide)
    show zk wg (zg 6) (zk wy (xS (yf (zc (wW (zc (zk xT (zk wg (zg 3) (zk wy (zg 7) (zk wg (zg 9) (eC (.int 1))))) (zg 2)) (zc (zk xT (zk wg (zg 3) (zk wy (zg 7) (zk wg (zg 9) (eC (.int 2))))) (zg 2)) zu))) zu))) (zg 10)) (visF [.v (.scr ns), .v (.int c), .v (.int n), .v (.int p), .v (hpD hs), .v rows, .v (.lst (acc.map zq)), .v (.int s), .v (.lst (cs.map .int)), .v (.int k), .v (.int v), o11, o12]) = _
    refine zA (x := .lst (acc.map zq)) (y := .lst (List.replicate v.toNat (zq (o, o2)))) rfl (zA (x := .lst [zq (o, o2)]) (y := .int v) (vZ (W9 (zv (YE (zv (zA (x := .int (p + s * (k + 1))) (y := .int n) (zA (x := .int p) (y := .int (s * (k + 1))) rfl (zA (x := .int s) (y := .int (k + 1)) rfl rfl (em _)) rfl) rfl ?_) (zv (zA (x := .int (p + s * (k + 2))) (y := .int n) (zA (x := .int p) (y := .int (s * (k + 2))) rfl (zA (x := .int s) (y := .int (k + 2)) rfl rfl (em _)) rfl) rfl ?_) xg)) (by show 2 ≤ 1000; decide)) xg) (by show 1 ≤ 1000; decide))) rfl (zbz h0 (by omega))) ?_
    · rw [yQ (by omega), ho]
    · rw [yQ (by omega), ho2]
    · rw [Y0 (by rw [List.length_map, List.length_replicate]; omega), List.map_append, List.map_replicate]
  · rintro ρ ⟨acc, o9, o10, rfl, hacc⟩
    rw [vo, List.length_map, List.drop_length, hcl, ← zD n p s, List.drop_length] at hacc
    have hacc : stL p (zE n p s) cs = acc ++ [] := hacc
    rw [List.append_nil] at hacc
    rw [hacc] at q
    exact q _ _
theorem by_w {ns hs : List Int} {c n p s : Int} {rows due : D} {o9 o10 o11 o12 : Sl} {N B C : SE → Prop} {R : D → Prop} (h3 : 3 ≤ n) (h8 : n ≤ 8) (hp : 0 ≤ p ∧ p < n) (hl : (hs.length : Int) = n) (hn : ∀ x ∈ hs, 0 ≤ x) (hsum : hs.sum ≤ 300) (hs1 : s = 1 ∨ s = -1)
    (q : ∀ o9 o10, N [.v (.scr ns), .v (.int c), .v (.int n), .v (.int p), .v (hpD hs), .v rows, .v (if 0 < zL 0 (car hs 0 (zE n p s)) then .lst ((stL p (zE n p s) (car hs 0 (zE n p s))).map zq) else due), .v (.int s), .v (.lst ((car hs 0 (zE n p s)).map .int)), o9, o10, o11, o12]) :
    (X4 [.v (.scr ns), .v (.int c), .v (.int n), .v (.int p), .v (hpD hs), .v rows, .v due, .v (.int s), .v (.lst ((car hs 0 (zE n p s)).map .int)), o9, o10, o11, o12]).w N B C R := by
  have c0 : car hs 0 (zE n p s) ≠ [] := fun e => Wk (p := p) (s := s) h3 (List.eq_nil_of_length_eq_zero (by rw [← yL hs _ 0, e]; rfl))
  unfold X4
  refine Z0 (c := decide (0 < zL 0 (car hs 0 (zE n p s)))) (YV (zA (x := .int (zL 0 (car hs 0 (zE n p s)))) (y := .int 0) (zA (x := .lst ((car hs 0 (zE n p s)).map .int)) (y := .int (-1)) rfl rfl (vq c0)) rfl rfl)) (fun z => zH rfl (zg9 h3 h8 hp hl hn hsum hs1 fun o9 o10 => ?_)) (fun z => Yj rfl ?_)
  · have := q o9 o10
    rwa [if_pos (of_decide_eq_true z)] at this
  · have := q o9 o10
    rwa [if_neg (of_decide_eq_false z)] at this
theorem zf0 {ns : List Int} {c : Int} {o2 o3 o4 o5 o6 o7 o8 o9 o10 o11 o12 : Sl} {N B C : SE → Prop} {R : D → Prop} (q : ∀ o2 o3 o4 o5 o6 o7 o8 o9 o10 o11 o12, N [.v (.scr ns), .v (.int c), o2, o3, o4, o5, o6, o7, o8, o9, o10, o11, o12]) :
    (XN [.v (.scr ns), .v (.int c), o2, o3, o4, o5, o6, o7, o8, o9, o10, o11, o12]).w N B C R := by
  have es : ∀ c k : Int, zO [.int c, .int k] = some (.int (W1 c k)) := fun c k => rfl
  obtain ⟨t, ht⟩ : ∃ t : Int, W1 c 1 % 6 = t := ⟨_, rfl⟩
  obtain ⟨t0, t6⟩ := Y2 (by decide) ht
  obtain ⟨n, hne⟩ : ∃ n : Int, 3 + t = n := ⟨_, rfl⟩
  have h3 : 3 ≤ n := by omega
  have h8 : n ≤ 8 := by omega
  obtain ⟨p, hpe⟩ : ∃ p : Int, W1 c 2 % n = p := ⟨_, rfl⟩
  have hp : 0 ≤ p ∧ p < n := Y2 (by omega) hpe
  obtain ⟨m, hm⟩ : ∃ m : Int, c % 3 = m := ⟨_, rfl⟩
  obtain ⟨m0, m3⟩ := Y2 (by decide) hm
  obtain ⟨mo, emo, hmo⟩ : ∃ mo : Int, atI [D.int 6, .int 12, .int 40] m = some (.int mo) ∧ 0 ≤ mo ∧ mo ≤ 40 := by
    have : m = 0 ∨ m = 1 ∨ m = 2 := by omega
    rcases this with rfl | rfl | rfl
    · exact ⟨6, rfl, by decide, by decide⟩
    · exact ⟨12, rfl, by decide, by decide⟩
    · exact ⟨40, rfl, by decide, by decide⟩
  obtain ⟨hs0, eh, hl0, hn0, hsum0⟩ := Vv (n := n) (c := W1 c 3) (mo := mo) (by omega) h8 hmo.1 (by omega)
  unfold XN
  refine zH (ρ' := [.v (.scr ns), .v (.int c), .v (.int n), o3, o4, o5, o6, o7, o8, o9, o10, o11, o12]) (xj (d := .int n) ?_) ?_
  · show zk wg (eC (.int 3)) (zk xT (zr 2 zO (zc (zg 1) (zc (eC (.int 1)) zu))) (eC (.int 6))) (visF [.v (.scr ns), .v (.int c), o2, o3, o4, o5, o6, o7, o8, o9, o10, o11, o12]) = _
    exact zA (x := .int 3) (y := .int t) rfl (zA (x := .int (W1 c 1)) (y := .int 6) (zJ (ds := [.int c, .int 1]) rfl (es _ _)) rfl (by rw [yQ (by decide), ht])) (by rw [zU, hne])
  refine zH (ρ' := [.v (.scr ns), .v (.int c), .v (.int n), .v (.int p), o4, o5, o6, o7, o8, o9, o10, o11, o12]) (xj (d := .int p) ?_) ?_
  · show zk xT (zr 2 zO (zc (zg 1) (zc (eC (.int 2)) zu))) (zg 2) (visF [.v (.scr ns), .v (.int c), .v (.int n), o3, o4, o5, o6, o7, o8, o9, o10, o11, o12]) = _
    exact zA (x := .int (W1 c 2)) (y := .int n) (zJ (ds := [.int c, .int 2]) rfl (es _ _)) rfl (by rw [yQ (by omega), hpe])
  refine zH (ρ' := [.v (.scr ns), .v (.int c), .v (.int n), .v (.int p), .o (hs0.map .int), o5, o6, o7, o8, o9, o10, o11, o12]) (zbh (ds := hs0.map .int) ?_) ?_
  · exact zdC (ds := [.tup (hs0.map .int)]) (zv (zJ (ds := [.int n, .int (W1 c 3), .int mo]) (zv (d := .int n) rfl (zv (zJ (ds := [.int c, .int 3]) rfl (es _ _)) (zv (zA (x := .lst [.int 6, .int 12, .int 40]) (y := .int m) rfl (zA (x := .int c) (y := .int 3) rfl rfl (by rw [yQ (by decide), hm])) emo) xg))) eh) xg) rfl
  refine zfv (fun ρ => ∃ hs : List Int, ρ = [.v (.scr ns), .v (.int c), .v (.int n), .v (.int p), .o (hs.map .int), o5, o6, o7, o8, o9, o10, o11, o12] ∧ (hs.length : Int) = n ∧ (∀ x ∈ hs, 0 ≤ x) ∧ hs.sum ≤ 300) ?_ ?_
  · refine Z0 (c := decide (0 < c % 4)) (YV (zA (x := .int (c % 4)) (y := .int 0) (zA (x := .int c) (y := .int 4) rfl rfl (yQ (by decide))) rfl rfl)) (fun _ => ?_) (fun _ => Yj rfl ⟨hs0, rfl, hl0, hn0, by omega⟩)
    refine zev (hs0.map .int) (.int 0) p rfl rfl rfl hp.1 (by rw [List.length_map]; omega) ⟨hs0.set p.toNat 0, ?_, by rw [List.length_set]; exact hl0, zfc hn0 (Int.le_refl _), ?_⟩
    · rw [List.map_set]
      rfl
    · have e := Zo hs0 p.toNat (-(vAt hs0 p)) (by omega)
      rw [show hs0.getD p.toNat 0 = vAt hs0 p from rfl, Int.add_right_neg] at e
      have := YK hn0 p
      omega
  rintro ρ ⟨hs, rfl, hl, hn, hsum⟩
  refine zfw (ρ' := [.v (.scr ns), .v (.int c), .v (.int n), .v (.int p), .v (.lst (hs.map .int)), o5, o6, o7, o8, o9, o10, o11, o12]) rfl ?_
  refine zH (ρ' := [.v (.scr ns), .v (.int c), .v (.int n), .v (.int p), .v (hpD hs), o5, o6, o7, o8, o9, o10, o11, o12]) rfl ?_
  have ew := fun (s : Int) (h : s = 1 ∨ s = -1) => Wv (p := p) h3 h8 hl h
  obtain ⟨rows, hrows⟩ : ∃ rows : D, D.lst [.lst ((car hs 0 (zE n p 1)).map .int), .lst ((car hs 0 (zE n p (-1))).map .int)] = rows := ⟨_, rfl⟩
  refine zH (ρ' := [.v (.scr ns), .v (.int c), .v (.int n), .v (.int p), .v (hpD hs), .v rows, o6, o7, o8, o9, o10, o11, o12]) (xj (d := rows) ?_) ?_
  · show xS (yf (zc (zr 3 xf (zc (zg 4) (zc (zg 3) (zc (eC (.int 1)) zu)))) (zc (zr 3 xf (zc (zg 4) (zc (zg 3) (zc (eUn YL (eC (.int 1))) zu)))) zu))) (visF [.v (.scr ns), .v (.int c), .v (.int n), .v (.int p), .v (hpD hs), o5, o6, o7, o8, o9, o10, o11, o12]) = _
    rw [← hrows]
    exact vZ (W9 (zv (zJ (ds := [hpD hs, .int p, .int 1]) rfl (ew 1 (.inl rfl))) (zv (zJ (ds := [hpD hs, .int p, .int (-1)]) rfl (ew (-1) (.inr rfl))) xg)) (by show 2 ≤ 1000; decide))
  have c0 : ∀ s : Int, car hs 0 (zE n p s) ≠ [] := fun s e => Wk (p := p) (s := s) h3 (List.eq_nil_of_length_eq_zero (by rw [← yL hs _ 0, e]; rfl))
  have e5 : ∀ (ρ : Ev), ρ[5]? = some (some rows) → zk ixD (zg 5) (eC (.int 0)) ρ = some (.lst ((car hs 0 (zE n p 1)).map .int)) ∧ zk ixD (zg 5) (eC (.int 1)) ρ = some (.lst ((car hs 0 (zE n p (-1))).map .int)) := fun ρ h => by
    have ev : zg 5 ρ = some rows := by unfold zg; rw [h]; rfl
    rw [← hrows] at ev
    exact ⟨zA ev rfl rfl, zA ev rfl rfl⟩
  refine wd (Z0 (c := false) (V1 (b := true) (YV (zJ (ds := [.tup [.int (zL 0 (car hs 0 (zE n p 1))), .int (zL 0 (car hs 0 (zE n p (-1))))], .tup [.int (zL 0 (car hs 0 (zE n p 1))), .int (zL 0 (car hs 0 (zE n p (-1))))]]) (zv (zJ (ds := [.int n, hpD hs, .int p]) rfl (zbZ h3 h8 hl hn hsum hp)) (zv (YE (zv (zA (x := .lst ((car hs 0 (zE n p 1)).map .int)) (y := .int (-1)) (e5 _ rfl).1 rfl (vq (c0 _))) (zv (zA (x := .lst ((car hs 0 (zE n p (-1))).map .int)) (y := .int (-1)) (e5 _ rfl).2 rfl (vq (c0 _))) xg)) (by show 2 ≤ 1000; decide)) xg)) (zab rfl)))) (fun z => by cases z) (fun _ => Yj rfl ?_))
  refine zH (ρ' := [.v (.scr ns), .v (.int c), .v (.int n), .v (.int p), .v (hpD hs), .v rows, .v .non, o7, o8, o9, o10, o11, o12]) rfl ?_
  obtain ⟨d1, hd1⟩ : ∃ d1 : D, (if 0 < zL 0 (car hs 0 (zE n p (-1))) then D.lst ((stL p (zE n p (-1)) (car hs 0 (zE n p (-1)))).map zq) else .non) = d1 := ⟨_, rfl⟩
  obtain ⟨d2, hd2⟩ : ∃ d2 : D, (if 0 < zL 0 (car hs 0 (zE n p 1)) then D.lst ((stL p (zE n p 1) (car hs 0 (zE n p 1))).map zq) else d1) = d2 := ⟨_, rfl⟩
  refine wd (XZ (ds := [.tup [.int (-1), .lst ((car hs 0 (zE n p (-1))).map .int)], .tup [.int 1, .lst ((car hs 0 (zE n p 1)).map .int)]]) (fun i ρ => ∃ o7 o8 o9 o10, ρ = [.v (.scr ns), .v (.int c), .v (.int n), .v (.int p), .v (hpD hs), .v rows, .v (if i = 0 then .non else if i = 1 then d1 else d2), o7, o8, o9, o10, o11, o12]) ?_ ⟨_, _, _, _, rfl⟩ ?_ ?_)
  · exact zcd (d := .lst [.tup [.int (-1), .lst ((car hs 0 (zE n p (-1))).map .int)], .tup [.int 1, .lst ((car hs 0 (zE n p 1)).map .int)]]) (vZ (W9 (zv (YE (zv (d := .int (-1)) rfl (zv (e5 _ rfl).2 xg)) (by show 2 ≤ 1000; decide)) (zv (YE (zv (d := .int 1) rfl (zv (e5 _ rfl).1 xg)) (by show 2 ≤ 1000; decide)) xg)) (by show 2 ≤ 1000; decide))) rfl
  · rintro i d ρ hd ⟨o7, o8, o9, o10, rfl⟩
    have hi : i < 2 := (List.getElem?_eq_some_iff.mp hd).1
    have : i = 0 ∨ i = 1 := by omega
    rcases this with rfl | rfl
    · cases hd
      refine ⟨_, rfl, by_w (due := .non) h3 h8 hp hl hn hsum (.inr rfl) fun o9 o10 => ⟨.v (.int (-1)), .v (.lst ((car hs 0 (zE n p (-1))).map .int)), o9, o10, ?_⟩⟩
      rw [hd1]
      rfl
    · cases hd
      refine ⟨_, rfl, by_w (due := d1) h3 h8 hp hl hn hsum (.inl rfl) fun o9 o10 => ⟨.v (.int 1), .v (.lst ((car hs 0 (zE n p 1)).map .int)), o9, o10, ?_⟩⟩
      rw [hd2]
      rfl
  rintro ρ ⟨o7, o8, o9, o10, rfl⟩
  have ed : wx n hs p = if 0 < vAt hs p then .lst [] else d2 := by rw [← hd2, ← hd1]; rfl
  refine zfv (fun ρ => ρ = [.v (.scr ns), .v (.int c), .v (.int n), .v (.int p), .v (hpD hs), .v rows, .v (wx n hs p), o7, o8, o9, o10, o11, o12]) ?_ ?_
  · refine Z0 (c := decide (0 < vAt hs p)) (YV (zA (x := .int (vAt hs p)) (y := .int 0) (zA (x := hpD hs) (y := .int p) rfl rfl (Vx hp hl)) rfl rfl)) (fun z => Yj rfl ?_) (fun z => Yj rfl ?_)
    · rw [ed, if_pos (of_decide_eq_true z)]
      rfl
    · rw [ed, if_neg (of_decide_eq_false z)]
      rfl
  rintro ρ rfl
  obtain ⟨ts, et, ha⟩ := W3 h3 h8
  have er := XM h3 h8 hl hn hsum hp
  rcases zc8 h3 h8 hp hl hn hsum ha with h | ⟨ss, gs, h, hss, eg, hg, hv⟩
  · rw [h] at er ⊢
    refine zH (ρ' := [.v (.scr ns), .v (.int c), .v (.int n), .v (.int p), .v (hpD hs), .v rows, .v .non, o7, o8, o9, o10, .v .non, o12]) (zdO (zJ (ds := [.int n, hpD hs, .int p]) rfl er)) ?_
    refine wd (Z0 (c := false) (V1 (b := true) (YV (zJ (ds := [.non, .non]) rfl (zab rfl)))) (fun z => by cases z) (fun _ => Yj rfl ?_))
    exact Z0 (c := false) rfl (fun z => by cases z) (fun _ => Yj rfl (q _ _ _ _ _ _ _ _ _ _ _))
  · rw [h] at er ⊢
    refine zH (ρ' := [.v (.scr ns), .v (.int c), .v (.int n), .v (.int p), .v (hpD hs), .v rows, .v (.lst (ss.map zq)), o7, o8, o9, o10, .o (ss.map zq), o12]) (zd7 (zJ (ds := [.int n, hpD hs, .int p]) rfl er)) ?_
    refine wd (Z0 (c := false) (V1 (b := true) (YV (zJ (ds := [.lst (ss.map zq), .lst (ss.map zq)]) rfl (zab (zb6 3 ss))))) (fun z => by cases z) (fun _ => Yj rfl ?_))
    refine Z0 (c := true) rfl (fun _ => ?_) (fun z => by cases z)
    refine zH (ρ' := [.v (.scr ns), .v (.int c), .v (.int n), .v (.int p), .v (hpD hs), .v rows, .v (.lst (ss.map zq)), o7, o8, o9, o10, .o (ss.map zq), .v (.lst (gs.map .int))]) (za3 (ds := [zat n ts, hpD hs, .lst (ss.map zq)]) (zv (zJ (ds := [.int n]) rfl et) rfl) eg) ?_
    refine wd (Z0 (c := false) (zbQ rfl (YV (zA (x := .int (vAt gs p)) (y := .int 1) (zA (x := .lst (gs.map .int)) (y := .int p) rfl rfl (Vx hp hg)) rfl ?_))) (fun z => by cases z) (fun _ => Yj rfl ?_))
    · show some (D.bl (decide (vAt gs p < 1))) = _
      rw [decide_eq_false (by omega)]
    refine zH (ρ' := [.v (.scr ns), .v (.int c), .v (.int n), .v (.int p), .v (hpD hs), .v rows, .v (.lst (ss.map zq)), o7, o8, o9, o10, .o (ss.map zq ++ [.tup []]), .v (.lst (gs.map .int))]) (zb0 (m := false) (i := 11) (ds := ss.map zq) (d := .tup []) rfl rfl (by rw [List.length_map]; omega)) ?_
    exact Z0 (c := false) (V1 (b := true) (YV (zJ (ds := [.lst (ss.map zq), .lst (ss.map zq)]) (zv (zJ (ds := [.int n, hpD hs, .int p]) rfl er) rfl) (zab (zb6 3 ss))))) (fun z => by cases z) (fun _ => Yj rfl (q _ _ _ _ _ _ _ _ _ _ _))
theorem zcP : ∀ ns : List Int, ns.length ≤ 63 → zeY [.scr ns] = some (.bl true) := by
  intro ns hns
  refine Vh (ρ := [.v (.scr ns), .no, .no, .no, .no, .no, .no, .no, .no, .no, .no, .no, .no]) rfl ?_
  unfold zcT
  obtain ⟨xs, hxs⟩ := zcv (ρ := [none, none, none, none, none, none, none, none, none, none, none, none]) ns 15 hns
  refine wd (XZ (ds := xs.map .int) (fun i ρ => ∃ o1 o2 o3 o4 o5 o6 o7 o8 o9 o10 o11 o12, ρ = [.v (.scr ns), o1, o2, o3, o4, o5, o6, o7, o8, o9, o10, o11, o12]) hxs ⟨_, _, _, _, _, _, _, _, _, _, _, _, rfl⟩ ?_ ?_)
  · rintro i d ρ hd ⟨o1, o2, o3, o4, o5, o6, o7, o8, o9, o10, o11, o12, rfl⟩
    rw [List.getElem?_map] at hd
    obtain ⟨z, hz, rfl⟩ := Option.map_eq_some_iff.mp hd
    exact ⟨_, rfl, zf0 fun _ _ _ _ _ _ _ _ _ _ _ => ⟨_, _, _, _, _, _, _, _, _, _, _, _, rfl⟩⟩
  · rintro ρ ⟨o1, o2, o3, o4, o5, o6, o7, o8, o9, o10, o11, o12, rfl⟩
    exact WH rfl rfl
theorem zeV (T : Txt K mg ad) : y0 P w K mg base CX0 20 ad.f_law ad.e_law ["script"] (zbX K) := by
  letI : KK := ⟨K⟩
  have G_sweeps := zbV (P := P) (w := w) (base := base) T
  have G_ring_steps := XO (P := P) (w := w) (base := base) T
  have N_ring_steps := vC (P := P) (w := w) (base := base) T
  have G__law_cell_at := Zp (P := P) (w := w) (base := base) T
  have G__law_same := Wx (P := P) (w := w) (base := base) T
  have G__law_stir := YJ (P := P) (w := w) (base := base) T
  have G__law_heap_by := Zu (P := P) (w := w) (base := base) T
  have G__law_ring := WZ (P := P) (w := w) (base := base) T
  have G__law_sweep := XI (P := P) (w := w) (base := base) T
  have G__law_played := ZZ (P := P) (w := w) (base := base) T
  refine (zf1 (p := zeY) (xA (N := ["script", "cell", "n", "place", "heap", "rows", "due", "by", "row", "k", "many", "answer", "last"]) (ps := ["script"]) T.d_law.fn xO (g := zcT) fun cdv A outer s H E hr => ?_) zcP).mono (j := 10) (by decide)
  unfold zcT XN X4 XW
  exact (ze (ZS PassesOwn.never rfl (Zq (yl (wX (x6 (zb (zn (G__law_cell_at.mono (by decide)) hr rfl T.d__law_cell_at.at_ T.d__law_cell_at.kp T.d__law_cell_at.bd (zb (za 0 (pv 0)) (zb (zh zi) zf))) zf))) (VN (za 0 (pv 0)) (W6 (zh zi)) (W6 (zh zi))))) (yR (zT (i := 1) xO.nd rfl (Or.inl rfl))) (ze (yI (m := false) (i := 2) xO.nd rfl (Or.inl rfl) (yl (zh zi) (x8 (zn (G__law_stir.mono (by decide)) hr rfl T.d__law_stir.at_ T.d__law_stir.kp T.d__law_stir.bd (zb (za 1 (pv 1)) (zb (zh zi) zf))) (zh zi))))
      (ze (yI (m := false) (i := 3) xO.nd rfl (Or.inl rfl) (x8 (zn (G__law_stir.mono (by decide)) hr rfl T.d__law_stir.at_ T.d__law_stir.kp T.d__law_stir.bd (zb (za 1 (pv 1)) (zb (zh zi) zf))) (za 2 (pv 2))))
      (ze (ZD (i := 4) xO.nd rfl (Or.inl rfl) (zbP rfl T.z_list (zb (zn (G__law_heap_by.mono (by decide)) hr rfl T.d__law_heap_by.at_ T.d__law_heap_by.kp T.d__law_heap_by.bd (zb (za 2 (pv 2)) (zb (zn (G__law_stir.mono (by decide)) hr rfl T.d__law_stir.at_ T.d__law_stir.kp T.d__law_stir.bd (zb (za 1 (pv 1)) (zb (zh zi) zf))) (zb (yA (wX (x6 (zb (zh zi) (zb (zh zi) (zb (zh zi) zf))))) (x8 (za 1 (pv 1)) (zh zi)) (fun _ _ => rfl)) zf)))) zf)))
      (ze (yu (zV zaL yK (zF _) (x8 (za 1 (pv 1)) (zh zi)) (zh zi)) (zj (V4 (m := false) (zh zi) (pv 4) (za 3 (pv 3)))) zw)
      (Xk 4 (ze (yI (m := false) (i := 4) xO.nd rfl (Or.inl rfl) (vp xw vm rfl T.z_tuple xp (zb (za 4 (pv 4)) zf)))
      (ze (yI (m := false) (i := 5) xO.nd rfl (Or.inl rfl) (wX (x6 (zb (zn (G__law_sweep.mono (by decide)) hr rfl T.d__law_sweep.at_ T.d__law_sweep.kp T.d__law_sweep.bd (zb (za 4 (pv 4)) (zb (za 3 (pv 3)) (zb (zh zi) zf)))) (zb (zn (G__law_sweep.mono (by decide)) hr rfl T.d__law_sweep.at_ T.d__law_sweep.kp T.d__law_sweep.bd (zb (za 4 (pv 4)) (zb (za 3 (pv 3)) (zb (Zj (zh zi)) zf)))) zf)))))
      (ze (yu (wv (xn (zn (G__law_same.mono (by decide)) hr rfl T.d__law_same.at_ T.d__law_same.kp T.d__law_same.bd (zb (zn (G_sweeps.mono (by decide)) hr rfl T.d_sweeps.at_ T.d_sweeps.kp T.d_sweeps.bd (zb (za 2 (pv 2)) (zb (za 4 (pv 4)) (zb (za 3 (pv 3)) zf)))) (zb (x5 (zb (yA (yA (za 5 (pv 5)) (zh zi) (fun _ _ => rfl)) (Zj (zh zi)) (fun _ _ => rfl)) (zb (yA (yA (za 5 (pv 5)) (zh zi) (fun _ _ => rfl)) (Zj (zh zi)) (fun _ _ => rfl)) zf))) zf))))) (zj (zt (vM vP))) zw)
      (ze (yI (m := false) (i := 6) xO.nd rfl (Or.inl rfl) (vH vJ))
      (ze (ZS PassesOwn.never rfl (Zq (wX (x6 (zb (x5 (zb (Zj (zh zi)) (zb (yA (za 5 (pv 5)) (zh zi) (fun _ _ => rfl)) zf))) (zb (x5 (zb (zh zi) (zb (yA (za 5 (pv 5)) (zh zi) (fun _ _ => rfl)) zf))) zf))))) (VZ rfl (we (yR (zT (i := 7) xO.nd rfl (Or.inl rfl))) (we (yR (zT (i := 8) xO.nd rfl (Or.inl rfl))) Xz))) (zj (yu (zV zaL yK (zF _) (yA (za 8 (pv 8)) (Zj (zh zi)) (fun _ _ => rfl)) (zh zi)) (ze (yI (m := false) (i := 6) xO.nd rfl (Or.inl rfl) (wX (x6 zf)))
      (zj (ZS PassesOwn.never rfl (zef rfl T.z_enumerate WS (zb (za 8 (pv 8)) zf)) (VZ rfl (we (yR (zT (i := 9) xO.nd rfl (Or.inl rfl))) (we (yR (zT (i := 10) xO.nd rfl (Or.inl rfl))) Xz))) (zj (yI (m := false) (i := 6) xO.nd rfl (Or.inl rfl) (yl (za 6 (pv 6)) (vE (wX (x6 (zb (x5 (zb (x8 (yl (za 3 (pv 3)) (vE (za 7 (pv 7)) (yl (za 9 (pv 9)) (zh zi)))) (za 2 (pv 2))) (zb (x8 (yl (za 3 (pv 3)) (vE (za 7 (pv 7)) (yl (za 9 (pv 9)) (zh zi)))) (za 2 (pv 2))) zf))) zf))) (za 10 (pv 10))))))))) zw)))
      (ze (yu (zV zaL yK (zF _) (yA (za 4 (pv 4)) (za 3 (pv 3)) (fun _ _ => rfl)) (zh zi)) (zj (yI (m := false) (i := 6) xO.nd rfl (Or.inl rfl) (wX (x6 zf)))) zw)
      (ze (zfI (i := 11) xO.nd rfl (Or.inl rfl) (zeq (N_ring_steps.mono (by decide)) hr rfl T.d_ring_steps.at_ T.d_ring_steps.kp T.d_ring_steps.bd (zb (za 2 (pv 2)) (zb (za 4 (pv 4)) (zb (za 3 (pv 3)) zf)))))
      (ze (yu (wv (xn (zn (G__law_same.mono (by decide)) hr rfl T.d__law_same.at_ T.d__law_same.kp T.d__law_same.bd (zb (za 11 (pv 11)) (zb (za 6 (pv 6)) zf))))) (zj (zt (vM vP))) zw)
      (zj (yu (zV WJ Z4 (zF _) (za 6 (pv 6)) (vH vJ)) (ze (yI (m := false) (i := 12) xO.nd rfl (Or.inl rfl) (zn (G__law_played.mono (by decide)) hr rfl T.d__law_played.at_ T.d__law_played.kp T.d__law_played.bd (zb (zn (G__law_ring.mono (by decide)) hr rfl T.d__law_ring.at_ T.d__law_ring.kp T.d__law_ring.bd (zb (za 2 (pv 2)) zf)) (zb (za 4 (pv 4)) (zb (za 6 (pv 6)) zf)))))
      (ze (yu (zeg (Vz (zV zbW Vm (zF _) (za 12 (pv 12)) (vH vJ)) (Xb (zV zd2 yK (zF _) (yA (za 12 (pv 12)) (za 3 (pv 3)) (fun _ _ => rfl)) (zh zi))))) (zj (zt (vM vP))) zw)
      (ze (zb5 (m := false) (pv 11) (x5 zf) (fun a b => zbd PySem.F.plainAttrs_list PySem.F.slot_list_append PySem.F.type_list_append Zv a b))
      (zj (yu (wv (xn (zn (G__law_same.mono (by decide)) hr rfl T.d__law_same.at_ T.d__law_same.kp T.d__law_same.bd (zb (zn (G_ring_steps.mono (by decide)) hr rfl T.d_ring_steps.at_ T.d_ring_steps.kp T.d_ring_steps.bd (zb (za 2 (pv 2)) (zb (za 4 (pv 4)) (zb (za 3 (pv 3)) zf)))) (zb (za 6 (pv 6)) zf))))) (zj (zt (vM vP))) zw))))) zw))))))))))))))))
      (zj (zt (vM vP))))
end
theorem WL {us : List Value} (h : us.length = 1) : ∃ x0, us = [x0] := by
  cases us with
  | nil => cases h
  | cons x0 us =>
    cases us with
    | nil => exact ⟨x0, rfl⟩
    | cons _ _ => cases h
theorem ZG {us : List Value} (h : us.length = 2) : ∃ x0 x1, us = [x0, x1] := by
  cases us with
  | nil => cases h
  | cons x0 us =>
    cases us with
    | nil => cases h
    | cons x1 us =>
      cases us with
      | nil => exact ⟨x0, x1, rfl⟩
      | cons _ _ => cases h
theorem XH {us : List Value} (h : us.length = 3) : ∃ x0 x1 x2, us = [x0, x1, x2] := by
  cases us with
  | nil => cases h
  | cons x0 us =>
    cases us with
    | nil => cases h
    | cons x1 us =>
      cases us with
      | nil => cases h
      | cons x2 us =>
        cases us with
        | nil => exact ⟨x0, x1, x2, rfl⟩
        | cons _ _ => cases h
theorem zhh {us : List Value} (h : us.length = 4) : ∃ x0 x1 x2 x3, us = [x0, x1, x2, x3] := by
  cases us with
  | nil => cases h
  | cons x0 us =>
    cases us with
    | nil => cases h
    | cons x1 us =>
      cases us with
      | nil => cases h
      | cons x2 us =>
        cases us with
        | nil => cases h
        | cons x3 us =>
          cases us with
          | nil => exact ⟨x0, x1, x2, x3, rfl⟩
          | cons _ _ => cases h
theorem all_mk {l : PySem.W.OpenLaw} {w : World} {K : PySem.W.Frag} {h : Heap} {mg : Str → Option Value} {fa f0 f1 f2 f3 f4 f5 f6 f7 f8 f9 f10 f11 f12 f13 f14 f15 f16 f17 f18 f19 f20 f21 f22 f23 f24 f25 f26 f27 f28 : Addr} (X : K.In h) (G : h.Ns mainGlobals mg) (hfa : mg "law" = some (.ref fa))
    {od0 an0 od1 an1 od2 an2 od3 an3 od4 an4 od5 an5 od6 an6 od7 an7 od8 an8 od9 an9 od10 an10 od11 an11 od12 an12 od13 an13 od14 an14 od15 an15 od16 an16 od17 an17 od18 an18 od19 an19 od20 an20 od21 an21 od22 an22 od23 an23 od24 an24 od25 an25 od26 an26 od27 an27 od28 an28 : Option Addr} {sl0 sl1 sl2 sl3 sl4 sl5 sl6 sl7 sl8 sl9 sl10 sl11 sl12 sl13 sl14 sl15 sl16 sl17 sl18 sl19 sl20 sl21 sl22 sl23 sl24 sl25 sl26 sl27 sl28 : Array (Option Value)} {oc0 kV0 dc0 pm0 cd0 ct0 oc1 kV1 dc1 pm1 cd1 ct1 oc2 kV2 dc2 pm2 cd2 ct2 oc3 kV3 dc3 pm3 cd3 ct3 oc4 kV4 dc4 pm4 cd4 ct4 oc5 kV5 dc5 pm5 cd5 ct5 oc6 kV6 dc6 pm6 cd6 ct6 oc7 kV7 dc7 pm7 cd7 ct7 oc8 kV8 dc8 pm8 cd8 ct8 oc9 kV9 dc9 pm9 cd9 ct9 oc10 kV10 dc10 pm10 cd10 ct10 oc11 kV11 dc11 pm11 cd11 ct11 oc12 kV12 dc12 pm12 cd12 ct12 oc13 kV13 dc13 pm13 cd13 ct13 oc14 kV14 dc14 pm14 cd14 ct14 oc15 kV15 dc15 pm15 cd15 ct15 oc16 kV16 dc16 pm16 cd16 ct16 oc17 kV17 dc17 pm17 cd17 ct17 oc18 kV18 dc18 pm18 cd18 ct18 oc19 kV19 dc19 pm19 cd19 ct19 oc20 kV20 dc20 pm20 cd20 ct20 oc21 kV21 dc21 pm21 cd21 ct21 oc22 kV22 dc22 pm22 cd22 ct22 oc23 kV23 dc23 pm23 cd23 ct23 oc24 kV24 dc24 pm24 cd24 ct24 oc25 kV25 dc25 pm25 cd25 ct25 oc26 kV26 dc26 pm26 cd26 ct26 oc27 kV27 dc27 pm27 cd27 ct27 oc28 kV28 dc28 pm28 cd28 ct28 : Value} {tk0 : Tok} {tk1 : Tok}
    {sz0 ep0 : Nat} {rr0_0 rr0_1 rr0_2 rr0_3 rr0_4 : Addr} {hh0_0 hh0_1 hh0_2 hh0_3 hh0_4 : Int} {tt0_0 tu0_0_0 tu0_0_1 tt0_1 tu0_1_0 tu0_1_1 tt0_2 tu0_2_0 tu0_2_1 tt0_3 tu0_3_0 tu0_3_1 tt0_4 tu0_4_0 tu0_4_1 : Tok} {nn0_0 nn0_1 nn0_2 nn0_3 nn0_4 : Nat} {oo0_0 oo0_1 oo0_2 oo0_3 oo0_4 : Option Addr} {ss0_0 ss0_1 ss0_2 ss0_3 ss0_4 : Array (Option Value)}
    (a0 : PySem.W.nsIn K mainGlobals "is_whole" = some (some (.ref f0))) (l0 : K.lookup f0 = some ⟨oc0, od0, .func (PySem.W.fnOf "is_whole" "is_whole" (zC xB) (zx xB) (zd xB) .none kV0 dc0 pm0 an0 cd0 ct0), sl0⟩) (c0 : PySem.W.codeIn K cd0 "is_whole" = true) (k0 : PySem.W.keepIn K (.ref f0) = true)
    (a1 : PySem.W.nsIn K mainGlobals "is_whole_within" = some (some (.ref f1))) (l1 : K.lookup f1 = some ⟨oc1, od1, .func (PySem.W.fnOf "is_whole_within" "is_whole_within" (zC zN) (zx zN) (zd zN) .none kV1 dc1 pm1 an1 cd1 ct1), sl1⟩) (c1 : PySem.W.codeIn K cd1 "is_whole_within" = true) (k1 : PySem.W.keepIn K (.ref f1) = true)
    (a2 : PySem.W.nsIn K mainGlobals "must_be_within" = some (some (.ref f2))) (l2 : K.lookup f2 = some ⟨oc2, od2, .func (PySem.W.fnOf "must_be_within" "must_be_within" (zC zS) (zx zS) (zd zS) .none kV2 dc2 pm2 an2 cd2 ct2), sl2⟩) (c2 : PySem.W.codeIn K cd2 "must_be_within" = true) (k2 : PySem.W.keepIn K (.ref f2) = true)
    (a3 : PySem.W.nsIn K mainGlobals "is_place_count" = some (some (.ref f3))) (l3 : K.lookup f3 = some ⟨oc3, od3, .func (PySem.W.fnOf "is_place_count" "is_place_count" (zC zR) (zx zR) (zd zR) .none kV3 dc3 pm3 an3 cd3 ct3), sl3⟩) (c3 : PySem.W.codeIn K cd3 "is_place_count" = true) (k3 : PySem.W.keepIn K (.ref f3) = true)
    (a4 : PySem.W.nsIn K mainGlobals "is_place" = some (some (.ref f4))) (l4 : K.lookup f4 = some ⟨oc4, od4, .func (PySem.W.fnOf "is_place" "is_place" (zC xD) (zx xD) (zd xD) .none kV4 dc4 pm4 an4 cd4 ct4), sl4⟩) (c4 : PySem.W.codeIn K cd4 "is_place" = true) (k4 : PySem.W.keepIn K (.ref f4) = true)
    (a5 : PySem.W.nsIn K mainGlobals "are_counts" = some (some (.ref f5))) (l5 : K.lookup f5 = some ⟨oc5, od5, .func (PySem.W.fnOf "are_counts" "are_counts" (zC yN) (zx yN) (zd yN) .none kV5 dc5 pm5 an5 cd5 ct5), sl5⟩) (c5 : PySem.W.codeIn K cd5 "are_counts" = true) (k5 : PySem.W.keepIn K (.ref f5) = true)
    (a6 : PySem.W.nsIn K mainGlobals "must_be_place" = some (some (.ref f6))) (l6 : K.lookup f6 = some ⟨oc6, od6, .func (PySem.W.fnOf "must_be_place" "must_be_place" (zC zX) (zx zX) (zd zX) .none kV6 dc6 pm6 an6 cd6 ct6), sl6⟩) (c6 : PySem.W.codeIn K cd6 "must_be_place" = true) (k6 : PySem.W.keepIn K (.ref f6) = true)
    (a7 : PySem.W.nsIn K mainGlobals "are_stones" = some (some (.ref f7))) (l7 : K.lookup f7 = some ⟨oc7, od7, .func (PySem.W.fnOf "are_stones" "are_stones" (zC yM) (zx yM) (zd yM) .none kV7 dc7 pm7 an7 cd7 ct7), sl7⟩) (c7 : PySem.W.codeIn K cd7 "are_stones" = true) (k7 : PySem.W.keepIn K (.ref f7) = true)
    (a8 : PySem.W.nsIn K mainGlobals "must_be_heap" = some (some (.ref f8))) (l8 : K.lookup f8 = some ⟨oc8, od8, .func (PySem.W.fnOf "must_be_heap" "must_be_heap" (zC yi) (zx yi) (zd yi) .none kV8 dc8 pm8 an8 cd8 ct8), sl8⟩) (c8 : PySem.W.codeIn K cd8 "must_be_heap" = true) (k8 : PySem.W.keepIn K (.ref f8) = true)
    (a9 : PySem.W.nsIn K mainGlobals "is_over" = some (some (.ref f9))) (l9 : K.lookup f9 = some ⟨oc9, od9, .func (PySem.W.fnOf "is_over" "is_over" (zC wj) (zx wj) (zd wj) .none kV9 dc9 pm9 an9 cd9 ct9), sl9⟩) (c9 : PySem.W.codeIn K cd9 "is_over" = true) (k9 : PySem.W.keepIn K (.ref f9) = true)
    (a10 : PySem.W.nsIn K mainGlobals "kind_good" = some (some (.ref f10))) (l10 : K.lookup f10 = some ⟨oc10, od10, .func (PySem.W.fnOf "kind_good" "kind_good" (zC y9) (zx y9) (zd y9) .none kV10 dc10 pm10 an10 cd10 ct10), sl10⟩) (c10 : PySem.W.codeIn K cd10 "kind_good" = true) (k10 : PySem.W.keepIn K (.ref f10) = true)
    (a11 : PySem.W.nsIn K mainGlobals "places_of" = some (some (.ref f11))) (l11 : K.lookup f11 = some ⟨oc11, od11, .func (PySem.W.fnOf "places_of" "places_of" (zC xc) (zx xc) (zd xc) .none kV11 dc11 pm11 an11 cd11 ct11), sl11⟩) (c11 : PySem.W.codeIn K cd11 "places_of" = true) (k11 : PySem.W.keepIn K (.ref f11) = true)
    (a12 : PySem.W.nsIn K mainGlobals "are_tied" = some (some (.ref f12))) (l12 : K.lookup f12 = some ⟨oc12, od12, .func (PySem.W.fnOf "are_tied" "are_tied" (zC xC) (zx xC) (zd xC) .none kV12 dc12 pm12 an12 cd12 ct12), sl12⟩) (c12 : PySem.W.codeIn K cd12 "are_tied" = true) (k12 : PySem.W.keepIn K (.ref f12) = true)
    (a13 : PySem.W.nsIn K mainGlobals "web_for" = some (some (.ref f13))) (l13 : K.lookup f13 = some ⟨oc13, od13, .func (PySem.W.fnOf "web_for" "web_for" (zC wl) (zx wl) (zd wl) .none kV13 dc13 pm13 an13 cd13 ct13), sl13⟩) (c13 : PySem.W.codeIn K cd13 "web_for" = true) (k13 : PySem.W.keepIn K (.ref f13) = true)
    (a14 : PySem.W.nsIn K mainGlobals "ring_of_places" = some (some (.ref f14))) (l14 : K.lookup f14 = some ⟨oc14, od14, .func (PySem.W.fnOf "ring_of_places" "ring_of_places" (zC zQ) (zx zQ) (zd zQ) .none kV14 dc14 pm14 an14 cd14 ct14), sl14⟩) (c14 : PySem.W.codeIn K cd14 "ring_of_places" = true) (k14 : PySem.W.keepIn K (.ref f14) = true)
    (a15 : PySem.W.nsIn K mainGlobals "must_fit_ring" = some (some (.ref f15))) (l15 : K.lookup f15 = some ⟨oc15, od15, .func (PySem.W.fnOf "must_fit_ring" "must_fit_ring" (zC zW) (zx zW) (zd zW) .none kV15 dc15 pm15 an15 cd15 ct15), sl15⟩) (c15 : PySem.W.codeIn K cd15 "must_fit_ring" = true) (k15 : PySem.W.keepIn K (.ref f15) = true)
    (a16 : PySem.W.nsIn K mainGlobals "sweep_orders" = some (some (.ref f16))) (l16 : K.lookup f16 = some ⟨oc16, od16, .func (PySem.W.fnOf "sweep_orders" "sweep_orders" (zC yj) (zx yj) (zd yj) .none kV16 dc16 pm16 an16 cd16 ct16), sl16⟩) (c16 : PySem.W.codeIn K cd16 "sweep_orders" = true) (k16 : PySem.W.keepIn K (.ref f16) = true)
    (a17 : PySem.W.nsIn K mainGlobals "swept" = some (some (.ref f17))) (l17 : K.lookup f17 = some ⟨oc17, od17, .func (PySem.W.fnOf "swept" "swept" (zC vv) (zx vv) (zd vv) .none kV17 dc17 pm17 an17 cd17 ct17), sl17⟩) (c17 : PySem.W.codeIn K cd17 "swept" = true) (k17 : PySem.W.keepIn K (.ref f17) = true)
    (a18 : PySem.W.nsIn K mainGlobals "sweeps" = some (some (.ref f18))) (l18 : K.lookup f18 = some ⟨oc18, od18, .func (PySem.W.fnOf "sweeps" "sweeps" (zC wH) (zx wH) (zd wH) .none kV18 dc18 pm18 an18 cd18 ct18), sl18⟩) (c18 : PySem.W.codeIn K cd18 "sweeps" = true) (k18 : PySem.W.keepIn K (.ref f18) = true)
    (a19 : PySem.W.nsIn K mainGlobals "sweep_steps" = some (some (.ref f19))) (l19 : K.lookup f19 = some ⟨oc19, od19, .func (PySem.W.fnOf "sweep_steps" "sweep_steps" (zC yx) (zx yx) (zd yx) .none kV19 dc19 pm19 an19 cd19 ct19), sl19⟩) (c19 : PySem.W.codeIn K cd19 "sweep_steps" = true) (k19 : PySem.W.keepIn K (.ref f19) = true)
    (a20 : PySem.W.nsIn K mainGlobals "ring_steps" = some (some (.ref f20))) (l20 : K.lookup f20 = some ⟨oc20, od20, .func (PySem.W.fnOf "ring_steps" "ring_steps" (zC yJ) (zx yJ) (zd yJ) .none kV20 dc20 pm20 an20 cd20 ct20), sl20⟩) (c20 : PySem.W.codeIn K cd20 "ring_steps" = true) (k20 : PySem.W.keepIn K (.ref f20) = true)
    (a21 : PySem.W.nsIn K mainGlobals "_law_cell_at" = some (some (.ref f21))) (l21 : K.lookup f21 = some ⟨oc21, od21, .func (PySem.W.fnOf "_law_cell_at" "_law_cell_at" (zC ym) (zx ym) (zd ym) .none kV21 dc21 pm21 an21 cd21 ct21), sl21⟩) (c21 : PySem.W.codeIn K cd21 "_law_cell_at" = true) (k21 : PySem.W.keepIn K (.ref f21) = true)
    (a22 : PySem.W.nsIn K mainGlobals "_law_same" = some (some (.ref f22))) (l22 : K.lookup f22 = some ⟨oc22, od22, .func (PySem.W.fnOf "_law_same" "_law_same" (zC y4) (zx y4) (zd y4) .none kV22 dc22 pm22 an22 cd22 ct22), sl22⟩) (c22 : PySem.W.codeIn K cd22 "_law_same" = true) (k22 : PySem.W.keepIn K (.ref f22) = true)
    (a23 : PySem.W.nsIn K mainGlobals "_law_stir" = some (some (.ref f23))) (l23 : K.lookup f23 = some ⟨oc23, od23, .func (PySem.W.fnOf "_law_stir" "_law_stir" (zC y3) (zx y3) (zd y3) .none kV23 dc23 pm23 an23 cd23 ct23), sl23⟩) (c23 : PySem.W.codeIn K cd23 "_law_stir" = true) (k23 : PySem.W.keepIn K (.ref f23) = true)
    (a24 : PySem.W.nsIn K mainGlobals "_law_heap_by" = some (some (.ref f24))) (l24 : K.lookup f24 = some ⟨oc24, od24, .func (PySem.W.fnOf "_law_heap_by" "_law_heap_by" (zC yh) (zx yh) (zd yh) .none kV24 dc24 pm24 an24 cd24 ct24), sl24⟩) (c24 : PySem.W.codeIn K cd24 "_law_heap_by" = true) (k24 : PySem.W.keepIn K (.ref f24) = true)
    (a25 : PySem.W.nsIn K mainGlobals "_law_ring" = some (some (.ref f25))) (l25 : K.lookup f25 = some ⟨oc25, od25, .func (PySem.W.fnOf "_law_ring" "_law_ring" (zC xb) (zx xb) (zd xb) .none kV25 dc25 pm25 an25 cd25 ct25), sl25⟩) (c25 : PySem.W.codeIn K cd25 "_law_ring" = true) (k25 : PySem.W.keepIn K (.ref f25) = true)
    (a26 : PySem.W.nsIn K mainGlobals "_law_sweep" = some (some (.ref f26))) (l26 : K.lookup f26 = some ⟨oc26, od26, .func (PySem.W.fnOf "_law_sweep" "_law_sweep" (zC yO) (zx yO) (zd yO) .none kV26 dc26 pm26 an26 cd26 ct26), sl26⟩) (c26 : PySem.W.codeIn K cd26 "_law_sweep" = true) (k26 : PySem.W.keepIn K (.ref f26) = true)
    (a27 : PySem.W.nsIn K mainGlobals "_law_played" = some (some (.ref f27))) (l27 : K.lookup f27 = some ⟨oc27, od27, .func (PySem.W.fnOf "_law_played" "_law_played" (zC yy) (zx yy) (zd yy) .none kV27 dc27 pm27 an27 cd27 ct27), sl27⟩) (c27 : PySem.W.codeIn K cd27 "_law_played" = true) (k27 : PySem.W.keepIn K (.ref f27) = true)
    (a28 : PySem.W.nsIn K mainGlobals "law" = some (some (.ref f28))) (l28 : K.lookup f28 = some ⟨oc28, od28, .func (PySem.W.fnOf "law" "law" (zC Xe) (zx Xe) (zd Xe) .none kV28 dc28 pm28 an28 cd28 ct28), sl28⟩) (c28 : PySem.W.codeIn K cd28 "law" = true) (k28 : PySem.W.keepIn K (.ref f28) = true)
    (gg0 : PySem.W.nsIn K mainGlobals "MOST_PLACES" = some (some (.int 8 tk0)))
    (gg1 : PySem.W.nsIn K mainGlobals "MOST_STONES" = some (some (.int 300 tk1)))
    (sa0 : PySem.W.nsIn K mainGlobals "SIZES" = some (some (.ref sz0))) (sb0 : K.lookup sz0 = some { cls := .type "dict", data := .dict #[{ hash := hh0_0, key := .str "row" tt0_0, val := .ref rr0_0 }, { hash := hh0_1, key := .str "ring" tt0_1, val := .ref rr0_1 }, { hash := hh0_2, key := .str "cube" tt0_2, val := .ref rr0_2 }, { hash := hh0_3, key := .str "full" tt0_3, val := .ref rr0_3 }, { hash := hh0_4, key := .str "star" tt0_4, val := .ref rr0_4 }] ep0 }) (sd0 : (sz0 == sysModules) = false)
    (sc0_0 : K.lookup rr0_0 = some { cls := .type "tuple", dict := oo0_0, data := .seq #[.int 1 tu0_0_0, .int 8 tu0_0_1] nn0_0, slots := ss0_0 })
    (sc0_1 : K.lookup rr0_1 = some { cls := .type "tuple", dict := oo0_1, data := .seq #[.int 3 tu0_1_0, .int 8 tu0_1_1] nn0_1, slots := ss0_1 })
    (sc0_2 : K.lookup rr0_2 = some { cls := .type "tuple", dict := oo0_2, data := .seq #[.int 0 tu0_2_0, .int 3 tu0_2_1] nn0_2, slots := ss0_2 })
    (sc0_3 : K.lookup rr0_3 = some { cls := .type "tuple", dict := oo0_3, data := .seq #[.int 1 tu0_3_0, .int 8 tu0_3_1] nn0_3, slots := ss0_3 })
    (sc0_4 : K.lookup rr0_4 = some { cls := .type "tuple", dict := oo0_4, data := .seq #[.int 1 tu0_4_0, .int 7 tu0_4_1] nn0_4, slots := ss0_4 })
    (z0 : PySem.W.nsIn K mainGlobals "all" = some none)
    (z1 : PySem.W.nsIn K mainGlobals "bool" = some none)
    (z2 : PySem.W.nsIn K mainGlobals "enumerate" = some none)
    (z3 : PySem.W.nsIn K mainGlobals "int" = some none)
    (z4 : PySem.W.nsIn K mainGlobals "isinstance" = some none)
    (z5 : PySem.W.nsIn K mainGlobals "len" = some none)
    (z6 : PySem.W.nsIn K mainGlobals "list" = some none)
    (z7 : PySem.W.nsIn K mainGlobals "max" = some none)
    (z8 : PySem.W.nsIn K mainGlobals "min" = some none)
    (z9 : PySem.W.nsIn K mainGlobals "range" = some none)
    (z10 : PySem.W.nsIn K mainGlobals "reversed" = some none)
    (z11 : PySem.W.nsIn K mainGlobals "sorted" = some none)
    (z12 : PySem.W.nsIn K mainGlobals "str" = some none)
    (z13 : PySem.W.nsIn K mainGlobals "sum" = some none)
    (z14 : PySem.W.nsIn K mainGlobals "tuple" = some none)
    (z15 : PySem.W.nsIn K mainGlobals "zip" = some none)
    : ∃ fd : FuncData, (∀ (s : Shared) (v : Value), BindsTo s fd ⟨[v], []⟩ [("script", v)]) ∧ ∀ base : Heap, K.In base → base.Ns mainGlobals mg → y0 l.prog w K mg base CX0 20 fa fd ["script"] (zbX K) := by
  have e := hfa.symm.trans (PySem.W.mg_of X G a28)
  cases e
  have F0 := ya (st := xB) l0 c0 k0
  have F1 := ya (st := zN) l1 c1 k1
  have F2 := ya (st := zS) l2 c2 k2
  have F3 := ya (st := zR) l3 c3 k3
  have F4 := ya (st := xD) l4 c4 k4
  have F5 := ya (st := yN) l5 c5 k5
  have F6 := ya (st := zX) l6 c6 k6
  have F7 := ya (st := yM) l7 c7 k7
  have F8 := ya (st := yi) l8 c8 k8
  have F9 := ya (st := wj) l9 c9 k9
  have F10 := ya (st := y9) l10 c10 k10
  have F11 := ya (st := xc) l11 c11 k11
  have F12 := ya (st := xC) l12 c12 k12
  have F13 := ya (st := wl) l13 c13 k13
  have F14 := ya (st := zQ) l14 c14 k14
  have F15 := ya (st := zW) l15 c15 k15
  have F16 := ya (st := yj) l16 c16 k16
  have F17 := ya (st := vv) l17 c17 k17
  have F18 := ya (st := wH) l18 c18 k18
  have F19 := ya (st := yx) l19 c19 k19
  have F20 := ya (st := yJ) l20 c20 k20
  have F21 := ya (st := ym) l21 c21 k21
  have F22 := ya (st := y4) l22 c22 k22
  have F23 := ya (st := y3) l23 c23 k23
  have F24 := ya (st := yh) l24 c24 k24
  have F25 := ya (st := xb) l25 c25 k25
  have F26 := ya (st := yO) l26 c26 k26
  have F27 := ya (st := yy) l27 c27 k27
  have F28 := ya (st := Xe) l28 c28 k28
  have T : Txt K mg ⟨_, _, _, _, _, _, _, _, _, _, _, _, _, _, _, _, _, _, _, _, _, _, _, _, _, _, _, _, _, _, _, _, _, _, _, _, _, _, _, _, _, _, _, _, _, _, _, _, _, _, _, _, _, _, _, _, _, _, tk0, tk1, sz0⟩ := ⟨
    ⟨F0, F0.binds (ps := ["thing"]) (fun _ _ _ _ _ _ us hl => by obtain ⟨_, rfl⟩ := WL hl; rfl), PySem.W.mg_of X G a0⟩,
    ⟨F1, F1.binds (ps := ["thing", "least", "most"]) (fun _ _ _ _ _ _ us hl => by obtain ⟨_, _, _, rfl⟩ := XH hl; rfl), PySem.W.mg_of X G a1⟩,
    ⟨F2, F2.binds (ps := ["thing", "least", "most"]) (fun _ _ _ _ _ _ us hl => by obtain ⟨_, _, _, rfl⟩ := XH hl; rfl), PySem.W.mg_of X G a2⟩,
    ⟨F3, F3.binds (ps := ["thing"]) (fun _ _ _ _ _ _ us hl => by obtain ⟨_, rfl⟩ := WL hl; rfl), PySem.W.mg_of X G a3⟩,
    ⟨F4, F4.binds (ps := ["many", "thing"]) (fun _ _ _ _ _ _ us hl => by obtain ⟨_, _, rfl⟩ := ZG hl; rfl), PySem.W.mg_of X G a4⟩,
    ⟨F5, F5.binds (ps := ["many", "thing"]) (fun _ _ _ _ _ _ us hl => by obtain ⟨_, _, rfl⟩ := ZG hl; rfl), PySem.W.mg_of X G a5⟩,
    ⟨F6, F6.binds (ps := ["web", "thing"]) (fun _ _ _ _ _ _ us hl => by obtain ⟨_, _, rfl⟩ := ZG hl; rfl), PySem.W.mg_of X G a6⟩,
    ⟨F7, F7.binds (ps := ["web", "thing"]) (fun _ _ _ _ _ _ us hl => by obtain ⟨_, _, rfl⟩ := ZG hl; rfl), PySem.W.mg_of X G a7⟩,
    ⟨F8, F8.binds (ps := ["web", "thing"]) (fun _ _ _ _ _ _ us hl => by obtain ⟨_, _, rfl⟩ := ZG hl; rfl), PySem.W.mg_of X G a8⟩,
    ⟨F9, F9.binds (ps := ["thing"]) (fun _ _ _ _ _ _ us hl => by obtain ⟨_, rfl⟩ := WL hl; rfl), PySem.W.mg_of X G a9⟩,
    ⟨F10, F10.binds (ps := ["thing"]) (fun _ _ _ _ _ _ us hl => by obtain ⟨_, rfl⟩ := WL hl; rfl), PySem.W.mg_of X G a10⟩,
    ⟨F11, F11.binds (ps := ["word", "size"]) (fun _ _ _ _ _ _ us hl => by obtain ⟨_, _, rfl⟩ := ZG hl; rfl), PySem.W.mg_of X G a11⟩,
    ⟨F12, F12.binds (ps := ["word", "size", "one", "other"]) (fun _ _ _ _ _ _ us hl => by obtain ⟨_, _, _, _, rfl⟩ := zhh hl; rfl), PySem.W.mg_of X G a12⟩,
    ⟨F13, F13.binds (ps := ["kind"]) (fun _ _ _ _ _ _ us hl => by obtain ⟨_, rfl⟩ := WL hl; rfl), PySem.W.mg_of X G a13⟩,
    ⟨F14, F14.binds (ps := ["n"]) (fun _ _ _ _ _ _ us hl => by obtain ⟨_, rfl⟩ := WL hl; rfl), PySem.W.mg_of X G a14⟩,
    ⟨F15, F15.binds (ps := ["n", "heap", "place"]) (fun _ _ _ _ _ _ us hl => by obtain ⟨_, _, _, rfl⟩ := XH hl; rfl), PySem.W.mg_of X G a15⟩,
    ⟨F16, F16.binds (ps := ["n", "place"]) (fun _ _ _ _ _ _ us hl => by obtain ⟨_, _, rfl⟩ := ZG hl; rfl), PySem.W.mg_of X G a16⟩,
    ⟨F17, F17.binds (ps := ["heap", "order"]) (fun _ _ _ _ _ _ us hl => by obtain ⟨_, _, rfl⟩ := ZG hl; rfl), PySem.W.mg_of X G a17⟩,
    ⟨F18, F18.binds (ps := ["n", "heap", "place"]) (fun _ _ _ _ _ _ us hl => by obtain ⟨_, _, _, rfl⟩ := XH hl; rfl), PySem.W.mg_of X G a18⟩,
    ⟨F19, F19.binds (ps := ["heap", "order", "place"]) (fun _ _ _ _ _ _ us hl => by obtain ⟨_, _, _, rfl⟩ := XH hl; rfl), PySem.W.mg_of X G a19⟩,
    ⟨F20, F20.binds (ps := ["n", "heap", "place"]) (fun _ _ _ _ _ _ us hl => by obtain ⟨_, _, _, rfl⟩ := XH hl; rfl), PySem.W.mg_of X G a20⟩,
    ⟨F21, F21.binds (ps := ["script", "k"]) (fun _ _ _ _ _ _ us hl => by obtain ⟨_, _, rfl⟩ := ZG hl; rfl), PySem.W.mg_of X G a21⟩,
    ⟨F22, F22.binds (ps := ["found", "due"]) (fun _ _ _ _ _ _ us hl => by obtain ⟨_, _, rfl⟩ := ZG hl; rfl), PySem.W.mg_of X G a22⟩,
    ⟨F23, F23.binds (ps := ["cell", "k"]) (fun _ _ _ _ _ _ us hl => by obtain ⟨_, _, rfl⟩ := ZG hl; rfl), PySem.W.mg_of X G a23⟩,
    ⟨F24, F24.binds (ps := ["many", "cell", "most"]) (fun _ _ _ _ _ _ us hl => by obtain ⟨_, _, _, rfl⟩ := XH hl; rfl), PySem.W.mg_of X G a24⟩,
    ⟨F25, F25.binds (ps := ["n"]) (fun _ _ _ _ _ _ us hl => by obtain ⟨_, rfl⟩ := WL hl; rfl), PySem.W.mg_of X G a25⟩,
    ⟨F26, F26.binds (ps := ["heap", "place", "by"]) (fun _ _ _ _ _ _ us hl => by obtain ⟨_, _, _, rfl⟩ := XH hl; rfl), PySem.W.mg_of X G a26⟩,
    ⟨F27, F27.binds (ps := ["web", "heap", "steps"]) (fun _ _ _ _ _ _ us hl => by obtain ⟨_, _, _, rfl⟩ := XH hl; rfl), PySem.W.mg_of X G a27⟩,
    ⟨F28, F28.binds (ps := ["script"]) (fun _ _ _ _ _ _ us hl => by obtain ⟨_, rfl⟩ := WL hl; rfl), PySem.W.mg_of X G a28⟩,
    PySem.W.mg_of X G gg0,
    PySem.W.mg_of X G gg1,
    PySem.W.mg_none_of X G z0,
    PySem.W.mg_none_of X G z1,
    PySem.W.mg_none_of X G z2,
    PySem.W.mg_none_of X G z3,
    PySem.W.mg_none_of X G z4,
    PySem.W.mg_none_of X G z5,
    PySem.W.mg_none_of X G z6,
    PySem.W.mg_none_of X G z7,
    PySem.W.mg_none_of X G z8,
    PySem.W.mg_none_of X G z9,
    PySem.W.mg_none_of X G z10,
    PySem.W.mg_none_of X G z11,
    PySem.W.mg_none_of X G z12,
    PySem.W.mg_none_of X G z13,
    PySem.W.mg_none_of X G z14,
    PySem.W.mg_none_of X G z15,
    PySem.W.mg_of X G sa0,
    fun h hK => ⟨sd0, _, _, _, hK _ _ sb0, ⟨rfl, rfl, rfl⟩, rfl, (.cons rfl ⟨_, _, rfl, ⟨_, hK _ _ sc0_0, rfl, _, rfl⟩, (.cons (.int _ _) (.cons (.int _ _) .nil))⟩ (.cons rfl ⟨_, _, rfl, ⟨_, hK _ _ sc0_1, rfl, _, rfl⟩, (.cons (.int _ _) (.cons (.int _ _) .nil))⟩ (.cons rfl ⟨_, _, rfl, ⟨_, hK _ _ sc0_2, rfl, _, rfl⟩, (.cons (.int _ _) (.cons (.int _ _) .nil))⟩ (.cons rfl ⟨_, _, rfl, ⟨_, hK _ _ sc0_3, rfl, _, rfl⟩, (.cons (.int _ _) (.cons (.int _ _) .nil))⟩ (.cons rfl ⟨_, _, rfl, ⟨_, hK _ _ sc0_4, rfl, _, rfl⟩, (.cons (.int _ _) (.cons (.int _ _) .nil))⟩ .nil)))))⟩⟩
  exact ⟨_, fun s v => .of_eq rfl, fun base _ _ => zeV T⟩
theorem walk {l : PySem.W.OpenLaw} {q : Program} {loose : List Str} {XP : (Str → Option Value) → Heap → Prop} {YP : World → Heap → Prop} {d : DefRec} {K : Params → PySem.W.Frag} (hn : l.most = some 63) (hdf : d.params.defaults = [])
    (hY : ∀ (w : World) (h : Heap), YP w h → (K w.params).In h)
    (F : ∀ (w : World) (mg : Str → Option Value) (fa : Addr) (h : Heap), (K w.params).In h → h.Ns mainGlobals mg → mg d.name = some (.ref fa) →
      ∃ fd : FuncData, (∀ (s : Shared) (u : Value), BindsTo s fd ⟨[u], []⟩ [("script", u)]) ∧ ∀ base : Heap, (K w.params).In base → base.Ns mainGlobals mg → y0 l.prog w (K w.params) mg base CX0 20 fa fd ["script"] (zbX (K w.params))) :
    PySem.W.WalkO q loose XP YP l.row.toRowW d [] (fun f vs => PySem.call f vs) :=
  L2.walk_of (n := 63) (k := 20) (x := "script") (CX := fun _ => CX0) (sp := fun w => zbX (K w.params)) hn (by decide) hdf ⟨rfl, by decide, by decide⟩ hY F (fun _ _ a ns hl _ hS => ⟨a, ns, rfl, hS, hl, fun _ => rfl⟩) fun _ _ _ _ _ z => z
end Mz
open PySem PySem.W PyProof.Rows
set_option maxRecDepth 100000 in
set_option maxHeartbeats 0 in
theorem PySem.Challenge.cw_twoforone_k51_sweeps_round_a_ring_holds : PySem.Challenge.rw_twoforone_k51_sweeps_round_a_ring.Holds := by
  w_on; o_law; k_head; (case hw => w_witness2)
  k_fill
  refine Mz.walk (l := PySem.Challenge.rw_twoforone_k51_sweeps_round_a_ring) rfl rfl (fun w h Y => PySem.W.kIn_of Y) ?F
  case F =>
    intro w mg fa h KX G hmg
    refine' Mz.all_mk KX G hmg ?a0 ?l0 ?c0 ?k0 ?a1 ?l1 ?c1 ?k1 ?a2 ?l2 ?c2 ?k2 ?a3 ?l3 ?c3 ?k3 ?a4 ?l4 ?c4 ?k4 ?a5 ?l5 ?c5 ?k5 ?a6 ?l6 ?c6 ?k6 ?a7 ?l7 ?c7 ?k7 ?a8 ?l8 ?c8 ?k8 ?a9 ?l9 ?c9 ?k9 ?a10 ?l10 ?c10 ?k10 ?a11 ?l11 ?c11 ?k11 ?a12 ?l12 ?c12 ?k12 ?a13 ?l13 ?c13 ?k13 ?a14 ?l14 ?c14 ?k14 ?a15 ?l15 ?c15 ?k15 ?a16 ?l16 ?c16 ?k16 ?a17 ?l17 ?c17 ?k17 ?a18 ?l18 ?c18 ?k18 ?a19 ?l19 ?c19 ?k19 ?a20 ?l20 ?c20 ?k20 ?a21 ?l21 ?c21 ?k21 ?a22 ?l22 ?c22 ?k22 ?a23 ?l23 ?c23 ?k23 ?a24 ?l24 ?c24 ?k24 ?a25 ?l25 ?c25 ?k25 ?a26 ?l26 ?c26 ?k26 ?a27 ?l27 ?c27 ?k27 ?a28 ?l28 ?c28 ?k28 ?gg0 ?gg1 ?sa0 ?sb0 ?sd0 ?sc0_0 ?sc0_1 ?sc0_2 ?sc0_3 ?sc0_4 ?z0 ?z1 ?z2 ?z3 ?z4 ?z5 ?z6 ?z7 ?z8 ?z9 ?z10 ?z11 ?z12 ?z13 ?z14 ?z15
    (case a0 => k_is)
    (case l0 => k_is)
    (case c0 => k_is)
    (case k0 => k_is)
    (case a1 => k_is)
    (case l1 => k_is)
    (case c1 => k_is)
    (case k1 => k_is)
    (case a2 => k_is)
    (case l2 => k_is)
    (case c2 => k_is)
    (case k2 => k_is)
    (case a3 => k_is)
    (case l3 => k_is)
    (case c3 => k_is)
    (case k3 => k_is)
    (case a4 => k_is)
    (case l4 => k_is)
    (case c4 => k_is)
    (case k4 => k_is)
    (case a5 => k_is)
    (case l5 => k_is)
    (case c5 => k_is)
    (case k5 => k_is)
    (case a6 => k_is)
    (case l6 => k_is)
    (case c6 => k_is)
    (case k6 => k_is)
    (case a7 => k_is)
    (case l7 => k_is)
    (case c7 => k_is)
    (case k7 => k_is)
    (case a8 => k_is)
    (case l8 => k_is)
    (case c8 => k_is)
    (case k8 => k_is)
    (case a9 => k_is)
    (case l9 => k_is)
    (case c9 => k_is)
    (case k9 => k_is)
    (case a10 => k_is)
    (case l10 => k_is)
    (case c10 => k_is)
    (case k10 => k_is)
    (case a11 => k_is)
    (case l11 => k_is)
    (case c11 => k_is)
    (case k11 => k_is)
    (case a12 => k_is)
    (case l12 => k_is)
    (case c12 => k_is)
    (case k12 => k_is)
    (case a13 => k_is)
    (case l13 => k_is)
    (case c13 => k_is)
    (case k13 => k_is)
    (case a14 => k_is)
    (case l14 => k_is)
    (case c14 => k_is)
    (case k14 => k_is)
    (case a15 => k_is)
    (case l15 => k_is)
    (case c15 => k_is)
    (case k15 => k_is)
    (case a16 => k_is)
    (case l16 => k_is)
    (case c16 => k_is)
    (case k16 => k_is)
    (case a17 => k_is)
    (case l17 => k_is)
    (case c17 => k_is)
    (case k17 => k_is)
    (case a18 => k_is)
    (case l18 => k_is)
    (case c18 => k_is)
    (case k18 => k_is)
    (case a19 => k_is)
    (case l19 => k_is)
    (case c19 => k_is)
    (case k19 => k_is)
    (case a20 => k_is)
    (case l20 => k_is)
    (case c20 => k_is)
    (case k20 => k_is)
    (case a21 => k_is)
    (case l21 => k_is)
    (case c21 => k_is)
    (case k21 => k_is)
    (case a22 => k_is)
    (case l22 => k_is)
    (case c22 => k_is)
    (case k22 => k_is)
    (case a23 => k_is)
    (case l23 => k_is)
    (case c23 => k_is)
    (case k23 => k_is)
    (case a24 => k_is)
    (case l24 => k_is)
    (case c24 => k_is)
    (case k24 => k_is)
    (case a25 => k_is)
    (case l25 => k_is)
    (case c25 => k_is)
    (case k25 => k_is)
    (case a26 => k_is)
    (case l26 => k_is)
    (case c26 => k_is)
    (case k26 => k_is)
    (case a27 => k_is)
    (case l27 => k_is)
    (case c27 => k_is)
    (case k27 => k_is)
    (case a28 => k_is)
    (case l28 => k_is)
    (case c28 => k_is)
    (case k28 => k_is)
    (case gg0 => k_is)
    (case gg1 => k_is)
    (case sa0 => k_is)
    (case sb0 => k_is)
    (case sd0 => decide)
    (case sc0_0 => k_is)
    (case sc0_1 => k_is)
    (case sc0_2 => k_is)
    (case sc0_3 => k_is)
    (case sc0_4 => k_is)
    (case z0 => k_is)
    (case z1 => k_is)
    (case z2 => k_is)
    (case z3 => k_is)
    (case z4 => k_is)
    (case z5 => k_is)
    (case z6 => k_is)
    (case z7 => k_is)
    (case z8 => k_is)
    (case z9 => k_is)
    (case z10 => k_is)
    (case z11 => k_is)
    (case z12 => k_is)
    (case z13 => k_is)
    (case z14 => k_is)
    (case z15 => k_is)
