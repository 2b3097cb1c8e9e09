/-
  A row that was handed in and lies nowhere has no capacity.
-/
import Derived.Test.YtjhdobknhgjdbaaDoorRlTiny
namespace Go.Proofs.YtjhdobknhgjdbaaDoor
open Go Go.RowKit Go.Shelf Go.Proofs Go.WideShapes Go.ChangeShapes Go.Deep

theorem rules_nil {H : Type} {enc : TypeId × Value → H} {P : Program} {w : World} {base : Nat} {spare : Nat → Bool} {held : Bool} {t e : TypeId} {A : Option Addr} {n c : Nat} {d : DataW H} {p : List MemPlace} (ht : P.underlying t = some (.slice e))
    (h : DataW.Trod enc P w base spare held t (.slice A n c) d p) : A = none → c = 0 := by
  obtain ⟨fuel, hf⟩ := h
  intro hA
  subst hA
  rcases open_slice ht hf with ⟨hcs, _⟩ | ⟨a, len, cap, m, k, D, Pl, hcs, _⟩
  · simp only [Value.cells, List.cons.injEq, and_true] at hcs
    cases hcs; rfl
  · simp only [Value.cells, List.cons.injEq, and_true] at hcs
    cases hcs
end Go.Proofs.YtjhdobknhgjdbaaDoor
