/-
  What applying changes to a tree without bodies makes of it: errors are never 0; what comes is right, so not too long. No program is named here.
-/
import Derived.Test.YtffhfllikamccaaGreatDoorTChanged
namespace Go.Proofs.YtffhfllikamccaaGreatDoor
open Go Go.RowKit Go.Shelf Go.Proofs

theorem refT_or (t : List Fl) (d : Dl) : refT t d = 0 ∨ refT t d ≠ 0 := by omega
theorem stepsT_err : ∀ (l : List Dl) {t : List Fl} {k : Int}, stepsT t l = .error k → k ≠ 0
  | [], _, _, h => by cases h
  | d :: l, t, k, h => by
    unfold stepsT at h
    rw [stepT_ref] at h
    by_cases h0 : refT t d = 0
    · rw [if_pos h0] at h
      exact stepsT_err l h
    · rw [if_neg h0] at h
      cases h
      exact h0
theorem applyT_err {l : List Dl} {t : List Fl} {k : Int} (h : applyT t l = .error k) : k ≠ 0 := by
  unfold applyT at h
  split at h
  · rename_i e he
    cases h
    exact stepsT_err l he
  · split at h
    · cases h; decide
    · split at h
      · cases h
      · cases h; decide
theorem applyT_ok {l : List Dl} {t u : List Fl} (h : applyT t l = .ok u) : rightT u = true := by
  unfold applyT at h
  split at h
  · cases h
  · split at h
    · cases h
    · split at h
      · rename_i hr
        cases h
        exact hr
      · cases h
theorem right_len {t : List Fl} (h : rightT t = true) : t.length ≤ 1000 := by
  unfold rightT at h
  simp only [Bool.and_eq_true, decide_eq_true_eq] at h
  exact h.1.1
theorem right_ok {t : List Fl} (h : rightT t = true) : ∀ x ∈ t, rightB x.1 = true ∧ x.2.length ≤ 65536 := fun x hx => by
  unfold rightT at h
  simp only [Bool.and_eq_true, List.all_eq_true] at h
  have := h.1.2 x hx
  unfold okF at this
  simpa only [Bool.and_eq_true, decide_eq_true_eq] using this

/-- The files without their bodies. -/
def bareX (l : List FX) : List FX := l.map fun x => ⟨x.p, none, 0, []⟩
def bareT (l : List Fl) : List Fl := l.map fun x => (x.1, [])
theorem bareX_fls (l : List FX) : flsX (bareX l) = bareT (flsX l) := by
  unfold flsX bareX bareT
  simp only [List.map_map]
  rfl
theorem bareX_length (l : List FX) : (bareX l).length = l.length := by unfold bareX; simp
theorem pairB_map {α β : Type} (f : α → β) (r : β → β → Bool) (q : α → α → Bool) (h : ∀ x y, r (f x) (f y) = q x y) : ∀ l : List α, pairB r (l.map f) = pairB q l
  | [] => rfl
  | x :: l => by
    unfold pairB
    rw [List.map_cons]
    show ((l.map f).all (r (f x)) && pairB r (l.map f)) = _
    rw [pairB_map f r q h l, List.all_map]
    congr 2
    funext y
    exact h x y
theorem bareT_right {t : List Fl} (h : rightT t = true) : rightT (bareT t) = true := by
  unfold rightT at h ⊢
  unfold bareT
  simp only [Bool.and_eq_true, decide_eq_true_eq] at h
  obtain ⟨⟨h1, h2⟩, h3⟩ := h
  rw [pairB_map (fun x : Fl => ((x.1, []) : Fl)) aheadB aheadB (fun x y => rfl)]
  simp only [Bool.and_eq_true, decide_eq_true_eq]
  refine ⟨⟨by rw [List.length_map]; exact h1, ?_⟩, h3⟩
  rw [List.all_map, List.all_eq_true]
  intro x hx
  have h4 := List.all_eq_true.1 h2 x hx
  unfold okF at h4
  simp only [Function.comp, okF, Bool.and_eq_true] at h4 ⊢
  exact ⟨h4.1, rfl⟩
end Go.Proofs.YtffhfllikamccaaGreatDoor
