/-
  A nil slice of bytes that is an argument has no room. No program is named here.
-/
import Derived.Test.YtnkfnmkbfnhmfaaGreatDoorTOpen
namespace Go.Proofs.YtnkfnmkbfnhmfaaGreatDoor
open Go Go.RowKit Go.Shelf Go.Proofs Go.ChangeShapes Go.WideShapes Go.Deep

section
variable {H : Type} {enc : TypeId × Value → H} {P : Program} {w : World} {base : Nat} {spare : Nat → Bool} {held : Bool}
theorem open_nilV {t u : TypeId} (ht : P.underlying t = some (.slice u)) (hu : P.underlying u = some (.int .u8)) (hc : P.cellsOf u = 1) {A : Option Addr} {n c : Nat} {d : DataW H} {p : List MemPlace}
    (h : DataW.Trod enc P w base spare held t (.slice A n c) d p) : A = none → c = 0 := fun hA => by
  subst hA
  obtain ⟨fuel, hf⟩ := h
  rcases open_ints ht hu hc hf with ⟨hcs, _⟩ | ⟨a, len, cap, zs, hcs, _⟩
  · simp only [Value.cells, List.cons.injEq, and_true, Value.slice.injEq] at hcs
    exact hcs.2.2
  · simp [Value.cells] at hcs
end
end Go.Proofs.YtnkfnmkbfnhmfaaGreatDoor
