/-
  tree.refusal, tree.changed.
-/
import Derived.Test.YtkihgbggndikpaaGreatDoorTPuts
import Derived.Test.YtkihgbggndikpaaGreatDoorTRightW
namespace Go.Proofs.YtkihgbggndikpaaGreatDoor
open Go Go.RowKit Go.Shelf Go.Proofs

/-- Why a list can't have a change; 0: it can. -/
def refT (t : List Fl) (d : Dl) : Int :=
  if !(decide (d.k = 1 ∨ d.k = 2 ∨ d.k = 3) && rightB d.p) then 2
  else if hasT t d.p && decide (d.k = 1) then 5
  else if !hasT t d.p && !decide (d.k = 1) then 6
  else 0
def chT (t : List Fl) (d : Dl) : List Fl := if d.k = 3 then dropT t d.p else putT t (d.p, d.b)
theorem stepT_ref (t : List Fl) (d : Dl) : stepT t d = if refT t d = 0 then .ok (chT t d) else .error (refT t d) := by
  unfold stepT refT chT
  split
  · rw [if_neg (by decide)]
  · split
    · rw [if_neg (by decide)]
    · split
      · rw [if_neg (by decide)]
      · rw [if_pos rfl]
def DX.f (d : DX) : FX := ⟨d.p, d.A, d.c, d.b⟩
def chX (l : List FX) (d : DX) : List FX := if d.k = 3 then keepX l d.p else putX l d.f
theorem chX_fls (l : List FX) (d : DX) : flsX (chX l d) = chT (flsX l) d.dl := by
  unfold chX chT
  by_cases h : d.k = 3
  · rw [if_pos h, if_pos (show d.dl.k = 3 from h), keepX_fls]; rfl
  · rw [if_neg h, if_neg (show ¬ d.dl.k = 3 from h), putX_fls]; rfl
theorem chX_le (l : List FX) (d : DX) : (chX l d).length ≤ l.length + 1 := by
  unfold chX
  split
  · exact Nat.le_trans (List.length_filter_le _ _) (by omega)
  · exact putX_le _ _
theorem chX_sub {l : List FX} {d : DX} : ∀ x ∈ chX l d, x = d.f ∨ x ∈ l := fun x hx => by
  unfold chX at hx
  split at hx
  · exact .inr (keepX_sub x hx)
  · exact putX_sub x hx

end Go.Proofs.YtkihgbggndikpaaGreatDoor
