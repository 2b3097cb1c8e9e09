/-
  Graphs, plain: least nodes of rings, depths; the two are what they are by what they keep. No program is named here.
-/
import Derived.Test.YteigepblocbnlaaGpRings
namespace Go.Proofs.Yteigepblocbnlaa.Gp
open Go

/-- The least of some; 0 of none. -/
def leastT : List Nat → Nat
  | [] => 0
  | x :: r => r.foldl (fun m y => if y < m then y else m) x
theorem foldl_min (r : List Nat) : ∀ m, (r.foldl (fun m y => if y < m then y else m) m ∈ m :: r) ∧ ∀ y, y ∈ m :: r → r.foldl (fun m y => if y < m then y else m) m ≤ y := by
  induction r with
  | nil => intro m; simp
  | cons a r ih =>
    intro m
    simp only [List.foldl_cons]
    obtain ⟨h1, h2⟩ := ih (if a < m then a else m)
    refine ⟨?_, ?_⟩
    · rcases List.mem_cons.1 h1 with h | h
      · rw [h]; split <;> simp
      · simp [h]
    · intro y hy
      have h3 := h2 (if a < m then a else m) (by simp)
      by_cases ha : a < m
      all_goals first | rw [if_pos ha] at h3 h2 ⊢ | rw [if_neg ha] at h3 h2 ⊢
      all_goals rcases List.mem_cons.1 hy with rfl | hy
      all_goals try omega
      all_goals rcases List.mem_cons.1 hy with rfl | hy
      all_goals try omega
      all_goals exact h2 y (by simp [hy])
theorem leastT_mem {s : List Nat} (h : s ≠ []) : leastT s ∈ s := by
  cases s with
  | nil => exact absurd rfl h
  | cons a r => exact (foldl_min r a).1
theorem leastT_le {s : List Nat} {y : Nat} (h : y ∈ s) : leastT s ≤ y := by
  cases s with
  | nil => simp at h
  | cons a r => exact (foldl_min r a).2 y h

/-- The least node of a node's ring. -/
def IsLeast (A : List (List Nat)) (n x m : Nat) : Prop := Mut A n x m ∧ ∀ y, Mut A n x y → m ≤ y
theorem IsLeast.uniq {A : List (List Nat)} {n x m k : Nat} (h : IsLeast A n x m) (i : IsLeast A n x k) : m = k := Nat.le_antisymm (h.2 k i.1) (i.2 m h.1)
theorem IsLeast.same {A : List (List Nat)} {n x y m : Nat} (h : IsLeast A n x m) (w : Mut A n x y) : IsLeast A n y m := ⟨w.symm.trans h.1, fun z hz => h.2 z (w.trans hz)⟩
/-- All of a row of places set to one value. -/
def setAll {α : Type} (d : List α) (s : List Nat) (m : α) : List α := s.foldl (fun d i => d.set i m) d
theorem setAll_length {α : Type} (s : List Nat) (m : α) : ∀ d : List α, (setAll d s m).length = d.length := by
  induction s with
  | nil => intro d; rfl
  | cons a r ih => intro d; show (setAll (d.set a m) r m).length = _; rw [ih]; simp
theorem setAll_get {α : Type} (s : List Nat) (m : α) : ∀ (d : List α) (i : Nat), i < d.length → (setAll d s m)[i]? = if i ∈ s then some m else d[i]? := by
  induction s with
  | nil => intro d i _; simp [setAll]
  | cons a r ih =>
    intro d i hi
    show (setAll (d.set a m) r m)[i]? = _
    rw [ih _ _ (by simpa using hi)]
    by_cases h : i ∈ r
    · simp [h]
    · by_cases h2 : i = a
      · subst h2; simp [hi]
      · have h3 : a ≠ i := fun e => h2 e.symm
        simp [h, h2, List.getElem?_set_ne h3]
def leastsT (d : List Nat) (l : List (List Nat)) : List Nat := l.foldl (fun d s => setAll d s (leastT s)) d
theorem leastsT_length (l : List (List Nat)) : ∀ d, (leastsT d l).length = d.length := by
  induction l with
  | nil => intro d; rfl
  | cons a r ih => intro d; show (leastsT (setAll d a (leastT a)) r).length = _; rw [ih, setAll_length]
theorem leastsT_of {A : List (List Nat)} {n : Nat} {b : List Bool} {l : List (List Nat)} (t : Told A n b l) :
    ∀ d : List Nat, d.length = n → (∀ x, x < n → been b x = true → ∃ m, d[x]? = some m ∧ IsLeast A n x m) → ∀ x, x < n → ∃ m, (leastsT d l)[x]? = some m ∧ IsLeast A n x m := by
  induction t with
  | none h => intro d _ hd x hx; exact hd x hx (h x hx)
  | @ring b b' s l h0 h1 h2 h3 h4 h5 h6 _ ih =>
    intro d hl hd
    refine ih (setAll d s (leastT s)) (by rw [setAll_length]; exact hl) ?_
    intro x hx hb
    rw [setAll_get s _ d x (by omega)]
    by_cases hs : x ∈ s
    · rw [if_pos hs]
      exact ⟨_, rfl, (h2 x _ hs).1 (leastT_mem h0), fun y hy => leastT_le ((h2 x y hs).2 hy)⟩
    · rw [if_neg hs]
      refine hd x hx ?_
      cases hbx : been b x with
      | true => rfl
      | false => have := (h4 x).2 ⟨hbx, hs⟩; rw [hb] at this; cases this

/-- How deep each node is. -/
structure Deep (A : List (List Nat)) (n : Nat) (d : Nat → Nat) : Prop where
  ring : ∀ x y, Mut A n x y → d x = d y
  out : ∀ x y, x < n → y < n → y ∈ row A x → ¬ Mut A n x y → d y < d x
  by1 : ∀ x, x < n → d x = 0 ∨ ∃ x' y, Mut A n x x' ∧ y < n ∧ y ∈ row A x' ∧ ¬ Mut A n x y ∧ d x = d y + 1
theorem Deep.way {A : List (List Nat)} {n : Nat} {d : Nat → Nat} (h : Deep A n d) {x y : Nat} (w : Rch A n x y) : Mut A n x y ∨ d y < d x := by
  refine Rch.ind (P := fun x y => Mut A n x y ∨ d y < d x) (fun x hx => Or.inl (.refl hx)) ?_ w
  intro x y z hx hy e w ih
  rcases Classical.em (Mut A n x y) with m | m
  · rcases ih with i | i
    · exact Or.inl (m.trans i)
    · right; rw [h.ring x y m]; exact i
  · right
    have := h.out x y hx hy e m
    rcases ih with i | i
    · rw [← h.ring y z i]; exact this
    · omega
theorem Deep.le {A : List (List Nat)} {n : Nat} {d e : Nat → Nat} (h : Deep A n d) (k : Deep A n e) : ∀ N x, x < n → d x ≤ N → d x ≤ e x := by
  intro N
  induction N with
  | zero => intro x _ h0; omega
  | succ N ih =>
    intro x hx hN
    rcases h.by1 x hx with h0 | ⟨x', y, m, hy, he, hne, h1⟩
    · omega
    · have a1 := ih y hy (by omega)
      have a2 := k.ring x x' m
      have a3 := k.out x' y m.1.lt.2 hy he (fun m2 => hne (m.trans m2))
      omega
theorem Deep.uniq {A : List (List Nat)} {n : Nat} {d e : Nat → Nat} (h : Deep A n d) (k : Deep A n e) {x : Nat} (hx : x < n) : d x = e x :=
  Nat.le_antisymm (h.le k (d x) x hx (Nat.le_refl _)) (k.le h (e x) x hx (Nat.le_refl _))
/-- The two graphs' ways are the same: so are the rings, and depths. -/
theorem Deep.other {A B : List (List Nat)} {n : Nat} (hm : ∀ x y, Mut A n x y ↔ Mut B n x y) (he : ∀ x y, x < n → y < n → ¬ Mut A n x y → (y ∈ row A x ↔ y ∈ row B x)) {d : Nat → Nat} (h : Deep A n d) : Deep B n d := by
  refine ⟨fun x y m => h.ring x y ((hm x y).2 m), fun x y hx hy e m => h.out x y hx hy ((he x y hx hy (fun m2 => m ((hm x y).1 m2))).2 e) (fun m2 => m ((hm x y).1 m2)), fun x hx => ?_⟩
  rcases h.by1 x hx with h0 | ⟨x', y, m, hy, e, hne, h1⟩
  · exact Or.inl h0
  · refine Or.inr ⟨x', y, (hm _ _).1 m, hy, (he x' y m.1.lt.2 hy (fun m2 => hne (m.trans m2))).1 e, fun m2 => hne ((hm _ _).2 m2), h1⟩

/-- One ring's depth: what is not told yet is -1. -/
def ringDeep (A : List (List Nat)) (d : List Int) (s : List Nat) : Int := s.foldl (fun m i => (row A i).foldl (fun m y => max m (d.getD y (-1) + 1)) m) 0
def depthsT (A : List (List Nat)) (d : List Int) (l : List (List Nat)) : List Int := l.foldl (fun d s => setAll d s (ringDeep A d s)) d
theorem depthsT_length (A : List (List Nat)) (l : List (List Nat)) : ∀ d, (depthsT A d l).length = d.length := by
  induction l with
  | nil => intro d; rfl
  | cons a r ih => intro d; show (depthsT A (setAll d a (ringDeep A d a)) r).length = _; rw [ih, setAll_length]
theorem foldl_max (f : Nat → Int) (r : List Nat) : ∀ m : Int, m ≤ r.foldl (fun m y => max m (f y)) m ∧ (∀ y, y ∈ r → f y ≤ r.foldl (fun m y => max m (f y)) m) ∧ (r.foldl (fun m y => max m (f y)) m = m ∨ ∃ y, y ∈ r ∧ r.foldl (fun m y => max m (f y)) m = f y) := by
  induction r with
  | nil => intro m; simp
  | cons a r ih =>
    intro m
    obtain ⟨h1, h2, h3⟩ := ih (max m (f a))
    simp only [List.foldl_cons]
    refine ⟨by omega, ?_, ?_⟩
    · intro y hy
      rcases List.mem_cons.1 hy with rfl | hy
      · omega
      · exact h2 y hy
    · rcases h3 with h3 | ⟨y, hy, h3⟩
      · by_cases hm : f a ≤ m
        · left; rw [h3]; omega
        · right; exact ⟨a, by simp, by rw [h3]; omega⟩
      · right; exact ⟨y, by simp [hy], h3⟩
theorem foldl_max2 (A : List (List Nat)) (f : Nat → Int) (s : List Nat) : ∀ m : Int,
    m ≤ s.foldl (fun m i => (row A i).foldl (fun m y => max m (f y)) m) m ∧ (∀ i y, i ∈ s → y ∈ row A i → f y ≤ s.foldl (fun m i => (row A i).foldl (fun m y => max m (f y)) m) m) ∧
    (s.foldl (fun m i => (row A i).foldl (fun m y => max m (f y)) m) m = m ∨ ∃ i y, i ∈ s ∧ y ∈ row A i ∧ s.foldl (fun m i => (row A i).foldl (fun m y => max m (f y)) m) m = f y) := by
  induction s with
  | nil => intro m; simp
  | cons a r ih =>
    intro m
    obtain ⟨h1, h2, h3⟩ := ih ((row A a).foldl (fun m y => max m (f y)) m)
    obtain ⟨g1, g2, g3⟩ := foldl_max f (row A a) m
    simp only [List.foldl_cons]
    refine ⟨by omega, ?_, ?_⟩
    · intro i y hi hy
      rcases List.mem_cons.1 hi with rfl | hi
      · have := g2 y hy; omega
      · exact h2 i y hi hy
    · rcases h3 with h3 | ⟨i, y, hi, hy, h3⟩
      · rcases g3 with g3 | ⟨y, hy, g3⟩
        · left; rw [h3, g3]
        · right; exact ⟨a, y, by simp, hy, by rw [h3, g3]⟩
      · right; exact ⟨i, y, by simp [hi], hy, h3⟩
/-- What is told of those where it was is their depth. -/
def DeepAt (A : List (List Nat)) (n : Nat) (b : List Bool) (d : List Int) : Prop :=
  d.length = n ∧ (∀ x, x < n → been b x = false → d[x]? = some (-1)) ∧ (∀ x, x < n → been b x = true → ∃ m, d[x]? = some m ∧ 0 ≤ m) ∧
  (∀ x y, been b x = true → Mut A n x y → d[x]? = d[y]?) ∧
  (∀ x y, x < n → y < n → been b x = true → y ∈ row A x → ¬ Mut A n x y → d.getD y (-1) < d.getD x (-1)) ∧
  (∀ x, x < n → been b x = true → d[x]? = some 0 ∨ ∃ x' y, Mut A n x x' ∧ y < n ∧ y ∈ row A x' ∧ ¬ Mut A n x y ∧ been b y = true ∧ d.getD x (-1) = d.getD y (-1) + 1)
theorem depthsT_of {A : List (List Nat)} {n : Nat} (hA : ∀ x y, x < n → y ∈ row A x → y < n) {b : List Bool} {l : List (List Nat)} (t : Told A n b l) :
    ∀ d : List Int, (∀ x y, been b x = true → Rch A n x y → been b y = true) → DeepAt A n b d → ∃ b', (∀ x, x < n → been b' x = true) ∧ DeepAt A n b' (depthsT A d l) := by
  induction t with
  | none h => intro d _ hd; exact ⟨_, h, hd⟩
  | @ring b b' s l h0 h1 h2 h3 h4 h5 h6 _ ih =>
    intro d hcl hd
    have hbt : ∀ x, been b' x = true ↔ (been b x = true ∨ x ∈ s) := by
      intro x
      have := h4 x
      cases hx : been b' x with
      | true => simp only [true_iff]; rw [hx] at this
                rcases Classical.em (x ∈ s) with h | h
                · exact Or.inr h
                · left; cases hb : been b x with
                  | true => rfl
                  | false => exact absurd (this.2 ⟨hb, h⟩) (by simp)
      | false => rw [hx] at this; have := this.1 rfl; simp [this.1, this.2]
    have hlt : ∀ x, x ∈ s → x < n := fun x hx => ((h2 x x hx).1 hx).1.lt.1
    obtain ⟨d0, d1, d2, d3, d4, d5⟩ := hd
    refine ih (setAll d s (ringDeep A d s)) ?_ ?_
    · intro x y hx w
      rcases (hbt x).1 hx with h | h
      · exact (hbt y).2 (Or.inl (hcl x y h w))
      · rcases h3 x y h w with h' | h'
        · exact (hbt y).2 (Or.inr h')
        · exact (hbt y).2 (Or.inl h')
    · obtain ⟨g1, g2, g3⟩ := foldl_max2 A (fun y => d.getD y (-1) + 1) s 0
      have hM : ringDeep A d s = s.foldl (fun m i => (row A i).foldl (fun m y => max m (d.getD y (-1) + 1)) m) 0 := rfl
      rw [← hM] at g1 g2 g3
      generalize ringDeep A d s = M at *
      have get : ∀ x, x < n → (setAll d s M)[x]? = if x ∈ s then some M else d[x]? := fun x hx => setAll_get s M d x (by omega)
      have getD : ∀ x, x < n → (setAll d s M).getD x (-1) = if x ∈ s then M else d.getD x (-1) := fun x hx => by
        rw [List.getD_eq_getElem?_getD, get x hx]; split <;> simp
      have oldns : ∀ x, been b x = true → x ∉ s := fun x hx hs => by have := h1 x hs; rw [hx] at this; cases this
      refine ⟨by rw [setAll_length]; exact d0, ?_, ?_, ?_, ?_, ?_⟩
      · intro x hx hb
        obtain ⟨hb1, hb2⟩ := (h4 x).1 hb
        rw [get x hx, if_neg hb2]; exact d1 x hx hb1
      · intro x hx hb
        rw [get x hx]
        by_cases hs : x ∈ s
        · rw [if_pos hs]; exact ⟨M, rfl, g1⟩
        · rw [if_neg hs]; rcases (hbt x).1 hb with h | h
          · exact d2 x hx h
          · exact absurd h hs
      · intro x y hb m
        rw [get x m.1.lt.1, get y m.1.lt.2]
        by_cases hs : x ∈ s
        · rw [if_pos hs, if_pos ((h2 x y hs).2 m)]
        · have hbx : been b x = true := by rcases (hbt x).1 hb with h | h
                                           · exact h
                                           · exact absurd h hs
          have hby : been b y = true := hcl x y hbx m.1
          rw [if_neg hs, if_neg (oldns y hby)]; exact d3 x y hbx m
      · intro x y hx hy hb e hne
        rw [getD x hx, getD y hy]
        by_cases hs : x ∈ s
        · have hys : y ∉ s := fun h => hne ((h2 x y hs).1 h)
          rw [if_pos hs, if_neg hys]
          have := g2 x y hs e
          omega
        · have hbx : been b x = true := by rcases (hbt x).1 hb with h | h
                                           · exact h
                                           · exact absurd h hs
          have hby : been b y = true := hcl x y hbx (.edge hx hy e)
          rw [if_neg hs, if_neg (oldns y hby)]
          exact d4 x y hx hy hbx e hne
      · intro x hx hb
        rw [get x hx, getD x hx]
        by_cases hs : x ∈ s
        · rw [if_pos hs, if_pos hs]
          rcases g3 with g3 | ⟨i, y, hi, hy, g3⟩
          · left; rw [g3]
          · have hyn : y < n := hA i y (hlt i hi) hy
            rcases h3 i y hi (.edge (hlt i hi) hyn hy) with hys | hyb
            · left
              have : d[y]? = some (-1) := d1 y hyn (h1 y hys)
              have e1 : d.getD y (-1) = -1 := by rw [List.getD_eq_getElem?_getD, this]; rfl
              rw [e1] at g3; rw [g3]; rfl
            · right
              refine ⟨i, y, (h2 x i hs).1 hi, hyn, hy, fun m => ?_, (hbt y).2 (Or.inl hyb), ?_⟩
              · exact oldns y hyb ((h2 x y hs).2 m)
              · rw [getD y hyn, if_neg (oldns y hyb)]; exact g3
        · have hbx : been b x = true := by rcases (hbt x).1 hb with h | h
                                           · exact h
                                           · exact absurd h hs
          rw [if_neg hs, if_neg hs]
          rcases d5 x hx hbx with h | ⟨x', y, m, hy, e, hne, hby, h⟩
          · exact Or.inl h
          · right
            refine ⟨x', y, m, hy, e, hne, (hbt y).2 (Or.inl hby), ?_⟩
            rw [getD y hy, if_neg (oldns y hby)]; exact h
theorem depthsT_deep {A T : List (List Nat)} {n k : Nat} (hA : ∀ x y, x < n → y ∈ row A x → y < n) (ht : TurnedOf A T n) (hk : n < k) :
    ∃ D : Nat → Nat, Deep A n D ∧ depthsT A (List.replicate n (-1)) (ringsOf A T n k) = (List.range n).map (fun x => (D x : Int)) := by
  have hb0 : ∀ x, been (List.replicate n false) x = true → ¬ x < n := fun x h => by rw [been_new] at h; simpa using h
  obtain ⟨b', hb', d0, d1, d2, d3, d4, d5⟩ := depthsT_of hA (ringsOf_told ht hk) (List.replicate n (-1)) (fun x y h w => absurd w.lt.1 (hb0 x h))
    ⟨by simp, fun x hx _ => by simp [hx], fun x hx h => absurd hx (hb0 x h), fun x y h m => absurd m.1.lt.1 (hb0 x h), fun x y hx _ h _ _ => absurd hx (hb0 x h), fun x hx h => absurd hx (hb0 x h)⟩
  generalize depthsT A (List.replicate n (-1)) (ringsOf A T n k) = d at *
  have val : ∀ x, x < n → d[x]? = some ((d.getD x 0).toNat : Int) ∧ d.getD x (-1) = ((d.getD x 0).toNat : Int) := by
    intro x hx
    obtain ⟨m, hm, h0⟩ := d2 x hx (hb' x hx)
    rw [List.getD_eq_getElem?_getD, List.getD_eq_getElem?_getD, hm]
    simp only [Option.getD_some, Option.some.injEq]
    omega
  refine ⟨fun x => (d.getD x 0).toNat, ⟨?_, ?_, ?_⟩, ?_⟩
  · intro x y m
    have := d3 x y (hb' x m.1.lt.1) m
    show (d.getD x 0).toNat = (d.getD y 0).toNat
    rw [List.getD_eq_getElem?_getD, List.getD_eq_getElem?_getD, this]
  · intro x y hx hy e hne
    have := d4 x y hx hy (hb' x hx) e hne
    rw [(val x hx).2, (val y hy).2] at this
    show (d.getD y 0).toNat < (d.getD x 0).toNat
    omega
  · intro x hx
    rcases d5 x hx (hb' x hx) with h | ⟨x', y, m, hy, e, hne, _, h⟩
    · left; show (d.getD x 0).toNat = 0
      rw [List.getD_eq_getElem?_getD, h]; rfl
    · right
      refine ⟨x', y, m, hy, e, hne, ?_⟩
      rw [(val x hx).2, (val y hy).2] at h
      show (d.getD x 0).toNat = (d.getD y 0).toNat + 1
      omega
  · apply List.ext_getElem?
    intro i
    by_cases hi : i < n
    · rw [(val i hi).1]; simp [hi]
    · rw [List.getElem?_eq_none (by omega), List.getElem?_eq_none (by simp; omega)]
theorem leastsT_least {A T : List (List Nat)} {n k : Nat} (ht : TurnedOf A T n) (hk : n < k) :
    ∃ R : Nat → Nat, (∀ x, x < n → IsLeast A n x (R x)) ∧ leastsT (List.replicate n 0) (ringsOf A T n k) = (List.range n).map R := by
  have hb0 : ∀ x, been (List.replicate n false) x = true → ¬ x < n := fun x h => by rw [been_new] at h; simpa using h
  have h := leastsT_of (ringsOf_told ht hk) (List.replicate n 0) (by simp) (fun x hx h => absurd hx (hb0 x h))
  refine ⟨fun x => (leastsT (List.replicate n 0) (ringsOf A T n k)).getD x 0, ?_, ?_⟩
  · intro x hx
    obtain ⟨m, e, hm⟩ := h x hx
    show IsLeast A n x ((leastsT (List.replicate n 0) (ringsOf A T n k)).getD x 0)
    rw [List.getD_eq_getElem?_getD, e]; exact hm
  · apply List.ext_getElem?
    intro i
    by_cases hi : i < n
    · obtain ⟨m, e, _⟩ := h i hi
      rw [e, List.getElem?_map, List.getElem?_range hi, Option.map_some, List.getD_eq_getElem?_getD, e]; rfl
    · rw [List.getElem?_eq_none (by rw [leastsT_length]; simp; omega), List.getElem?_eq_none (by simp; omega)]
end Go.Proofs.Yteigepblocbnlaa.Gp
