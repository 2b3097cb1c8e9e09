/-
  The contract of tree.Right.
-/
import Derived.Test.YtkihgbggndikpaaGreatDoorTNested
import Derived.Test.YtkihgbggndikpaaGreatDoorConsists
import Derived.Deep.RegionHeld3
import Derived.BigQuiet
import Derived.IntWalk
import Derived.Deep.QuietTactic
namespace Go.Proofs.YtkihgbggndikpaaGreatDoor
open Go Go.RowKit Go.Shelf Go.Proofs

theorem MaxOk.drew {w : World} (h : MaxOk w) : MaxOk w.drew := h
theorem pright_to (s : ByteArray) (r : Bool) (w : World) (hs : s.size ≤ 1000000) (hm : MaxOk w) (h : rightB s.data.toList = r) :
    Calls Tryz.prog 53 #[.string s] w fun e w' => e = .returned (.bool r) ∧ Below w.heap.size w w' := by
  have := right_any s w (by unfold maxLen; omega) hm
  rwa [h] at this

/-- What is known of the files ahead of place k. -/
def Ahead (l : List FX) (k : Nat) : Prop := (∀ j x, j < k → l[j]? = some x → rightB x.p.data.toList = true) ∧ (∀ j x y, j + 1 < k → l[j]? = some x → l[j + 1]? = some y → ltB x.p.data.toList y.p.data.toList = true)
theorem Ahead.zero (l : List FX) : Ahead l 0 := ⟨fun _ _ h => absurd h (Nat.not_lt_zero _), fun _ _ _ h => absurd h (Nat.not_lt_zero _)⟩
theorem Ahead.next {l : List FX} {k : Nat} {x : FX} (h : Ahead l k) (hx : l[k]? = some x) (hr : rightB x.p.data.toList = true) (hl : ∀ y, 0 < k → l[k - 1]? = some y → ltB y.p.data.toList x.p.data.toList = true) : Ahead l (k + 1) := by
  refine ⟨fun j y hj hy => ?_, fun j y z hj hy hz => ?_⟩
  · by_cases e : j = k
    · subst e; rw [hx] at hy; cases hy; exact hr
    · exact h.1 j y (by omega) hy
  · by_cases e : j + 1 = k
    · subst e; rw [hx] at hz; cases hz; exact hl y (by omega) hy
    · exact h.2 j y z (by omega) hy hz
theorem fls_at {l : List FX} {i : Nat} {z : Fl} (h : (flsX l)[i]? = some z) : ∃ x, l[i]? = some x ∧ z = x.fl := by
  rw [flsX_getElem?] at h
  cases e : l[i]? with
  | none => rw [e] at h; cases h
  | some x => rw [e] at h; cases h; exact ⟨x, rfl, rfl⟩
theorem Ahead.chain {l : List FX} (h : Ahead l l.length) : ∀ (i : Nat) (x y : Fl), (flsX l)[i]? = some x → (flsX l)[i + 1]? = some y → ltB x.1 y.1 = true := by
  intro i a b ha hb
  obtain ⟨x, hx, rfl⟩ := fls_at ha
  obtain ⟨y, hy, rfl⟩ := fls_at hb
  exact h.2 i x y (List.getElem?_eq_some_iff.1 hy).1 hx hy
theorem Ahead.all {l : List FX} (h : Ahead l l.length) : ∀ (i : Nat) (x : Fl), (flsX l)[i]? = some x → rightB x.1 = true := by
  intro i a ha
  obtain ⟨x, hx, rfl⟩ := fls_at ha
  exact h.1 i x (List.getElem?_eq_some_iff.1 hx).1 hx

end Go.Proofs.YtkihgbggndikpaaGreatDoor
