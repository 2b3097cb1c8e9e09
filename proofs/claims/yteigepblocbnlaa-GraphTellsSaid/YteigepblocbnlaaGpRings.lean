/-
  Graphs, plain: rings, by a going along turned edges, and one along edges; how deep they are. No program is named here.
-/
import Derived.Test.YteigepblocbnlaaGpPlain
namespace Go.Proofs.Yteigepblocbnlaa.Gp
open Go

/-- Is z come to from x? -/
def Rch (A : List (List Nat)) (n x y : Nat) : Prop := Wy A (List.replicate n false) x y
def Mut (A : List (List Nat)) (n x y : Nat) : Prop := Rch A n x y ∧ Rch A n y x
theorem Rch.lt {A : List (List Nat)} {n x y : Nat} (w : Rch A n x y) : x < n ∧ y < n := by
  have h1 := w.here; have h2 := w.there
  rw [been_new] at h1 h2; simp at h1 h2; exact ⟨h1, h2⟩
theorem Rch.refl {A : List (List Nat)} {n x : Nat} (h : x < n) : Rch A n x x := Wy.refl (by rw [been_new]; simp [h])
theorem Rch.step {A : List (List Nat)} {n x y z : Nat} (h : x < n) (e : y ∈ row A x) (w : Rch A n y z) : Rch A n x z := Wy.step (by rw [been_new]; simp [h]) e w
theorem Rch.edge {A : List (List Nat)} {n x y : Nat} (h : x < n) (hy : y < n) (e : y ∈ row A x) : Rch A n x y := .step h e (.refl hy)
theorem Rch.of {A : List (List Nat)} {b : List Bool} {n x y : Nat} (hb : ∀ z, been b z = false → z < n) (w : Wy A b x y) : Rch A n x y :=
  w.mono (fun z hz => by rw [been_new]; simp [hb z hz])
theorem Mut.refl {A : List (List Nat)} {n x : Nat} (h : x < n) : Mut A n x x := ⟨.refl h, .refl h⟩
theorem Mut.symm {A : List (List Nat)} {n x y : Nat} (h : Mut A n x y) : Mut A n y x := ⟨h.2, h.1⟩
theorem Mut.trans {A : List (List Nat)} {n x y z : Nat} (h : Mut A n x y) (k : Mut A n y z) : Mut A n x z := ⟨h.1.trans k.1, k.2.trans h.2⟩
theorem Rch.ind {A : List (List Nat)} {n : Nat} {P : Nat → Nat → Prop} (h0 : ∀ x, x < n → P x x) (h1 : ∀ x y z, x < n → y < n → y ∈ row A x → Rch A n y z → P y z → P x z) {x y : Nat} (w : Rch A n x y) : P x y := by
  unfold Rch at w
  induction w with
  | refl h => rw [been_new] at h; simp at h; exact h0 _ h
  | @step x y z h e w ih =>
    rw [been_new] at h; simp at h
    have hw : Rch A n y z := w
    exact h1 x y z h hw.lt.1 e hw ih
theorem Rch.mono {A B : List (List Nat)} {n m : Nat} (hnm : n ≤ m) (h : ∀ x y, x < n → y < n → y ∈ row A x → y ∈ row B x) {x y : Nat} (w : Rch A n x y) : Rch B m x y :=
  Rch.ind (P := fun x y => Rch B m x y) (fun _ hx => .refl (by omega)) (fun _ _ _ hx hy e _ ih => .step (by omega) (h _ _ hx hy e) ih) w
/-- The edges, turned. -/
def TurnedOf (A T : List (List Nat)) (n : Nat) : Prop := ∀ x y, x < n → y < n → (y ∈ row T x ↔ x ∈ row A y)
theorem TurnedOf.symm {A T : List (List Nat)} {n : Nat} (h : TurnedOf A T n) : TurnedOf T A n := fun x y hx hy => (h y x hy hx).symm
theorem Rch.turn {A T : List (List Nat)} {n : Nat} (ht : TurnedOf A T n) {x y : Nat} (w : Rch A n x y) : Rch T n y x :=
  Rch.ind (P := fun x y => Rch T n y x) (fun _ hx => .refl hx) (fun x y _z hx hy e _ ih => Wy.trans ih (Rch.edge hy hx ((ht y x hy hx).2 e))) w
/-- A way stays what isn't shut, if all between does. -/
theorem Rch.open {A : List (List Nat)} {n : Nat} {b : List Bool} {x y : Nat} (w : Rch A n x y) (h : ∀ z, Rch A n x z → Rch A n z y → been b z = false) : Wy A b x y := by
  revert h
  refine Rch.ind (P := fun x y => (∀ z, Rch A n x z → Rch A n z y → been b z = false) → Wy A b x y) ?_ ?_ w
  · intro x hx h; exact .refl (h x (.refl hx) (.refl hx))
  · intro x y z hx hy e w ih h
    exact .step (h x (.refl hx) (.step hx e w)) e (ih fun u u1 u2 => h u (.step hx e u1) u2)

/-- The rings: each, as it is told. -/
def ringsT (A : List (List Nat)) (k : Nat) : List Bool → List Nat → List (List Nat)
  | _, [] => []
  | b, v :: r => if 0 < (vis A k b [] v).2.length then (vis A k b [] v).2 :: ringsT A k (vis A k b [] v).1 r else ringsT A k (vis A k b [] v).1 r
/-- Each is a ring, behind all those to which edges lead out of it; told are those where it was. -/
inductive Told (A : List (List Nat)) (n : Nat) : List Bool → List (List Nat) → Prop where
  | none {b : List Bool} (h : ∀ x, x < n → been b x = true) : Told A n b []
  | ring {b b' : List Bool} {s : List Nat} {l : List (List Nat)} (h0 : s ≠ []) (h1 : ∀ x, x ∈ s → been b x = false) (h2 : ∀ x y, x ∈ s → (y ∈ s ↔ Mut A n x y))
      (h3 : ∀ x y, x ∈ s → Rch A n x y → y ∈ s ∨ been b y = true) (h4 : ∀ x, been b' x = false ↔ (been b x = false ∧ x ∉ s)) (h5 : b'.length = n) (h6 : s.Nodup) (t : Told A n b' l) : Told A n b (s :: l)
theorem ringsT_told {A T : List (List Nat)} {n k : Nat} (ht : TurnedOf A T n) {order : List Nat} {bo : List Bool} (hg : Gone T (List.replicate n false) order bo) (hall : ∀ x, x < n → x ∈ order) (hk : n < k) :
    ∀ (r done : List Nat) (b : List Bool), order = r.reverse ++ done → b.length = n → (∀ x, x ∈ done → been b x = true) → (∀ x y, Mut A n x y → been b x = been b y) → (∀ x y, been b x = true → Rch A n x y → been b y = true) → Told A n b (ringsT A k b r) := by
  intro r
  induction r with
  | nil =>
    intro done b ho hl hd _ _
    refine .none fun x hx => ?_
    have := hall x hx
    rw [ho] at this; simpa using hd x (by simpa using this)
  | cons v r ih =>
    intro done b ho hl hd hi1 hi2
    have hlt : ∀ z, been b z = false → z < n := fun z hz => by have := been_lt hz; omega
    have hcnt : b.count false < k := by have := List.count_le_length (a := false) (l := b); omega
    obtain ⟨s, b', e, f⟩ := vis_from A k b [] v hcnt
    have e2 : (vis A k b [] v).2 = s := by rw [e]; rfl
    have e1 : (vis A k b [] v).1 = b' := by rw [e]
    have ho' : order = r.reverse ++ (v :: done) := by rw [ho]; simp
    rw [ringsT, e1, e2]
    by_cases hv : been b v = true
    · obtain ⟨hs, hb⟩ := f.old hv
      subst hs; subst hb
      rw [if_neg (by simp)]
      refine ih (v :: done) b' ho' hl ?_ hi1 hi2
      intro x hx
      rcases List.mem_cons.1 hx with rfl | hx
      · exact hv
      · exact hd x hx
    · have hvf : been b v = false := by simpa using hv
      have hvs := f.has hvf
      rw [if_pos (by cases s with
        | nil => simp at hvs
        | cons _ _ => simp)]
      -- what is come to comes back
      have back : ∀ y, y ∈ s → Mut A n v y := by
        intro y hy
        have w := Rch.of hlt (f.way y hy)
        have yT : Rch T n y v := w.turn ht
        have yord := hall y w.lt.2
        obtain ⟨_, y', hy', u1, u2, p, q, eo, hq⟩ := hg.shut y v yord yT
        have m1 : Mut A n y y' := ⟨Rch.turn ht.symm (show Rch T n y' y from u2), Rch.turn ht.symm (show Rch T n y y' from u1)⟩
        have hy'b : been b y' = false := by rw [← hi1 y y' m1]; exact (f.way y hy).there
        have hnd : y' ∉ done := fun h => by have := hd y' h; rw [hy'b] at this; cases this
        -- where y' stands
        have hin : y' ∈ r.reverse ∨ y' = v := by
          rw [ho', List.mem_append, List.mem_cons] at hy'
          rcases hy' with h | h | h
          · exact Or.inl h
          · exact Or.inr h
          · exact absurd h hnd
        rcases hin with h | h
        · exfalso
          obtain ⟨p2, q2, e3⟩ := List.append_of_mem h
          have o2 : order = p2 ++ y' :: (q2 ++ v :: done) := by rw [ho', e3]; simp
          have hnod := hg.once
          have same : q = q2 ++ v :: done := by
            have hn1 : y' ∉ p := by
              intro hp; rw [eo] at hnod
              exact (List.nodup_append.1 hnod).2.2 y' hp y' (by simp) rfl
            have hn2 : y' ∉ p2 := by
              intro hp; rw [o2] at hnod
              exact (List.nodup_append.1 hnod).2.2 y' hp y' (by simp) rfl
            have key : ∀ (a c a2 c2 : List Nat), a ++ y' :: c = a2 ++ y' :: c2 → y' ∉ a → y' ∉ a2 → c = c2 := by
              intro a
              induction a with
              | nil =>
                intro c a2 c2 h h1 h2
                cases a2 with
                | nil => simpa using h
                | cons z a2 => simp at h; exact absurd h.1 (by intro hh; exact h2 (by simp [hh]))
              | cons z a iha =>
                intro c a2 c2 h h1 h2
                cases a2 with
                | nil => simp at h; exact absurd h.1 (by intro hh; exact h1 (by simp [hh]))
                | cons z2 a2 =>
                  simp only [List.cons_append, List.cons.injEq] at h
                  exact iha c a2 c2 h.2 (fun hh => h1 (by simp [hh])) (fun hh => h2 (by simp [hh]))
            exact key p q p2 _ (eo.symm.trans o2) hn1 hn2
          exact hq (by rw [same]; simp)
        · subst h; exact m1.symm
      have memiff : ∀ y, y ∈ s ↔ Mut A n v y := by
        intro y
        refine ⟨back y, fun m => ?_⟩
        have w : Wy A b v y := Rch.open m.1 fun z z1 z2 => by
          have mz : Mut A n v z := ⟨z1, z2.trans m.2⟩
          rw [← hi1 v z mz]; exact hvf
        exact (f.gone.shut v y hvs w).1
      refine .ring (by intro h; rw [h] at hvs; simp at hvs) f.gone.new ?_ ?_ f.gone.mem (f.gone.len.trans hl) f.gone.once ?_
      · intro x y hx
        have mx := (memiff x).1 hx
        rw [memiff]
        exact ⟨fun m => mx.symm.trans m, fun m => mx.trans m⟩
      · intro x y hx w
        cases hby : been b y with
        | true => exact Or.inr rfl
        | false =>
          left
          refine (f.gone.shut x y hx (Rch.open w fun z z1 z2 => ?_)).1
          cases hz : been b z with
          | false => rfl
          | true => have := hi2 z y hz z2; rw [hby] at this; cases this
      · have hbt : ∀ x, been b' x = true ↔ (been b x = true ∨ x ∈ s) := by
          intro x
          have := f.gone.mem x
          cases hx : been b' x with
          | true => simp only [true_iff]; rw [hx] at this
                    rcases Classical.em (x ∈ s) with h | h
                    · exact Or.inr h
                    · left; cases hb : been b x with
                      | true => rfl
                      | false => exact absurd (this.2 ⟨hb, h⟩) (by simp)
          | false => rw [hx] at this; have := this.1 rfl; simp [this.1, this.2]
        refine ih (v :: done) b' ho' (f.gone.len.trans hl) ?_ ?_ ?_
        · intro x hx
          rcases List.mem_cons.1 hx with rfl | hx
          · exact (hbt _).2 (Or.inr hvs)
          · exact (hbt _).2 (Or.inl (hd x hx))
        · intro x y m
          have i := hi1 x y m
          have j : x ∈ s ↔ y ∈ s := by rw [memiff, memiff]; exact ⟨fun h => h.trans m, fun h => h.trans m.symm⟩
          rw [Bool.eq_iff_iff, hbt, hbt, i, j]
        · intro x y hx w
          rcases (hbt x).1 hx with h | h
          · exact (hbt y).2 (Or.inl (hi2 x y h w))
          · cases hby : been b y with
            | true => exact (hbt y).2 (Or.inl hby)
            | false =>
              refine (hbt y).2 (Or.inr (f.gone.shut x y h (Rch.open w fun z z1 z2 => ?_)).1)
              cases hz : been b z with
              | false => rfl
              | true => have := hi2 z y hz z2; rw [hby] at this; cases this
/-- The order in which all is left, along turned edges. -/
def orderT (T : List (List Nat)) (k n : Nat) : List Nat := (visL T k (List.replicate n false, []) (List.range n)).2
def ringsOf (A T : List (List Nat)) (n k : Nat) : List (List Nat) := ringsT A k (List.replicate n false) (orderT T k n).reverse
theorem ringsOf_told {A T : List (List Nat)} {n k : Nat} (ht : TurnedOf A T n) (hk : n < k) : Told A n (List.replicate n false) (ringsOf A T n k) := by
  have hc : (List.replicate n false).count false < k := by rw [List.count_replicate_self]; omega
  obtain ⟨s, b', e, f⟩ := visL_from T k (List.range n) (List.replicate n false) [] hc
  have eo : orderT T k n = s := by unfold orderT; rw [e]; rfl
  unfold ringsOf; rw [eo]
  refine ringsT_told ht f.gone ?_ hk s.reverse [] _ (by simp) (by simp) (fun x h => (by simp at h)) ?_ ?_
  · intro x hx
    have h1 := f.has x (List.mem_range.2 hx)
    rcases Classical.em (x ∈ s) with h | h
    · exact h
    · have := (f.gone.mem x).2 ⟨by rw [been_new]; simp [hx], h⟩; rw [h1] at this; cases this
  · intro x y m
    rw [been_new, been_new]; simp [m.1.lt.1, m.1.lt.2]
  · intro x y hx w
    rw [been_new] at hx; simp at hx; have := w.lt; omega
end Go.Proofs.Yteigepblocbnlaa.Gp
