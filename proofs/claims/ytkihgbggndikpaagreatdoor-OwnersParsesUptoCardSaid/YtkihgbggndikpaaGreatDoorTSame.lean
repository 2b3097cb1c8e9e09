/-
  The contract of tree.Same.
-/
import Derived.Test.YtkihgbggndikpaaGreatDoorTPairs
import Derived.Test.YtkihgbggndikpaaGreatDoorConsists
import Derived.Test.YtkihgbggndikpaaGreatDoorTRound
namespace Go.Proofs.YtkihgbggndikpaaGreatDoor
open Go Go.RowKit Go.Shelf Go.Proofs
attribute [local go_sem] Oper.semAt_some

def okTo (a b : List FX) (k : Nat) : Bool := ((pairsX a b).take k).all (okPair (flsX a) (flsX b))
theorem okTo_snoc (a b : List FX) (k : Nat) (x : Option Nat × Option Nat) (hx : (pairsX a b)[k]? = some x) (h : okTo a b k = true) : okTo a b (k + 1) = okPair (flsX a) (flsX b) x := by
  unfold okTo at h ⊢
  rw [List.take_add_one, hx, List.all_append, h]; simp
theorem keepsO_drewN (W : World) (n : Nat) : KeepsOthers W (W.drewN n) := ⟨Nat.le_refl _, fun _ _ h _ => h⟩
theorem boxed_drewN {W : World} {b t : Nat} {v : Value} (h : Boxed W b t v) {n : Nat} : Boxed (W.drewN n) b t v := h
theorem okTo_all (a b : List FX) : okTo a b (pairsX a b).length = decide (flsX a = flsX b) := by
  unfold okTo
  rw [List.take_length]
  exact pairsN_all _ _ _ _ 0 0 rfl rfl
theorem okTo_false (a b : List FX) (k : Nat) (h : okTo a b k = false) : decide (flsX a = flsX b) = false := by
  rw [← okTo_all]
  unfold okTo at h ⊢
  rw [List.take_length]
  cases e : (pairsX a b).all (okPair (flsX a) (flsX b)) with
  | false => rfl
  | true =>
    have := List.all_eq_true.1 e
    rw [← h]
    symm
    exact List.all_eq_true.2 fun x hx => this x (List.mem_of_mem_take hx)

end Go.Proofs.YtkihgbggndikpaaGreatDoor
