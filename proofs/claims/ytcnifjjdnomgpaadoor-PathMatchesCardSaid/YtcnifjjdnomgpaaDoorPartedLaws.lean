/-
  Plain facts on rows of patterns, and on the bytes of names. No program is named here.
-/
import Derived.Test.YtcnifjjdnomgpaaDoorPlain
namespace Go.Proofs.YtcnifjjdnomgpaaDoor
open Go

theorem drop_some {α : Type} {xs : List α} {i : Nat} {p : α} (h : xs[i]? = some p) : xs.drop i = p :: xs.drop (i + 1) := by
  obtain ⟨hlt, rfl⟩ := List.getElem?_eq_some_iff.1 h
  exact List.drop_eq_getElem_cons hlt
theorem parted_skip {α : Type} (many : α → Bool) (one : α → α → Bool) (m : α) (ps is : List α) (hm : many m = true) (h : partedB many one ps is = true) : ∀ P : List α, partedB many one (m :: ps) (P ++ is) = true
  | [] => by
    cases is with
    | nil => simp only [List.nil_append, partedB, hm, h, Bool.and_self]
    | cons i r => simp only [List.nil_append, partedB, hm, h, if_true, Bool.true_or]
  | p :: P => by
    have ih := parted_skip many one m ps is hm h P
    simp only [List.cons_append, partedB, hm, if_true, ih, Bool.or_true]
theorem parted_rest {α : Type} (many : α → Bool) (one : α → α → Bool) (m : α) (hm : many m = true) (is : List α) : partedB many one [m] is = true := by
  have := parted_skip many one m [] [] hm (by simp [partedB]) is
  rwa [List.append_nil] at this
theorem plain_signs (b : UInt8) (h : plainB b = true) : (b == 42) = false ∧ (b == 63) = false ∧ (b == 47) = false := by
  refine ⟨?_, ?_, ?_⟩ <;> (rw [beq_eq_false_iff_ne]; rintro rfl; exact absurd h (by decide))
end Go.Proofs.YtcnifjjdnomgpaaDoor
