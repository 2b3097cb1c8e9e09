/-
  How a row of strings lies in the cells of a block, and stays there.
-/
import Derived.Test.YtcnifjjdnomgpaaDoorClean
namespace Go.Proofs.YtcnifjjdnomgpaaDoor
open Go Go.RowKit Go.Shelf Go.Proofs

/-- The cells of a slice of strings, from block g on, read L. -/
def RowS (g : Nat) (L : List Bs) (w : World) : Prop := ∀ j p, L[j]? = some p → w.cell? ⟨g, j, none⟩ = some (.string (mkB p))
theorem rowS_of {w : World} {b g n cap : Nat} {L : List Bs} (h : w.ownsRow b 9 1 (.slice (some ⟨g, 0, none⟩) n cap) n (strVs L)) : RowS g L w := fun j p hp => by
  have := h.cells (g := g) rfl j (.string (mkB p)) (by unfold strVs strV; rw [List.getElem?_map, hp]; rfl)
  unfold Addr.add at this
  split at this
  · rename_i hz; subst hz; exact this
  · simpa using this

theorem RowS.below {n : Nat} {w w' : World} {g : Nat} {L : List Bs} (h : RowS g L w) (hb : Below n w w') (hg : g < n) : RowS g L w' := fun j p hp => (hb.cell (p := ⟨g, j, none⟩) hg).trans (h j p hp)
theorem names_row {w : World} {b n : Nat} {v : Value} {L : List Bs} (h : w.ownsRow b 9 1 v n (strVs L)) (hn : n ≠ 0) : ∃ g cap, v = .slice (some ⟨g, 0, none⟩) n cap ∧ RowS g L w ∧ b ≤ g ∧ g < w.heap.size := by
  cases n with
  | zero => exact absurd rfl hn
  | succ k =>
    obtain ⟨g, cap, rfl⟩ := ownsRow_succ h
    obtain ⟨h1, cur, h2⟩ := row_ge h rfl
    exact ⟨g, cap, rfl, rowS_of h, h1, (Array.getElem?_eq_some_iff.1 h2).1⟩
end Go.Proofs.YtcnifjjdnomgpaaDoor
