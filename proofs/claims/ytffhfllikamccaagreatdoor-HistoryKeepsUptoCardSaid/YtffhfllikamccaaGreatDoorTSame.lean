/-
  The contract of tree.Same.
-/
import Derived.Test.YtffhfllikamccaaGreatDoorTPairs
import Derived.Test.YtffhfllikamccaaGreatDoorConsists
import Derived.Test.YtffhfllikamccaaGreatDoorTRound
namespace Go.Proofs.YtffhfllikamccaaGreatDoor
open Go Go.RowKit Go.Shelf Go.Proofs
attribute [local go_sem] Oper.semAt_some

def okTo (a b : List FX) (k : Nat) : Bool := ((pairsX a b).take k).all (okPair (flsX a) (flsX b))
theorem okTo_snoc (a b : List FX) (k : Nat) (x : Option Nat × Option Nat) (hx : (pairsX a b)[k]? = some x) (h : okTo a b k = true) : okTo a b (k + 1) = okPair (flsX a) (flsX b) x := by
  unfold okTo at h ⊢
  rw [List.take_add_one, hx, List.all_append, h]; simp
theorem beq_quiet (xa xb : FX) (r : Bool) {W : World} (h : (Lib.bytesOf (numsB xa.b) == Lib.bytesOf (numsB xb.b)) = r) (q1 : BytesAt W xa.A xa.b) (q2 : BytesAt W xb.A xb.b) (m k n : Nat) :
    (Fence.wide.depth.isSome = true → 1 ≤ m) ∧ CallsIn Fence.wide k Tryz.prog 51 #[.slice xa.A xa.b.length xa.c, .slice xb.A xb.b.length xb.c] (W.drewN n) fun e w'' => e = .returned (.bool r) ∧ ∃ n, w'' = W.drewN n := by
  refine ⟨fun h => absurd h (by decide), CallsIn.quiet_of_same (callsIn_wide.2 ?_)⟩
  rw [← h]
  exact Tryz.bytes_Equal_all xa.A xb.A xa.b.length xa.c xb.b.length xb.c (numsB xa.b) (numsB xb.b) _ (numsB_length _) (numsB_length _) q1 q2
theorem keepsO_drewN (W : World) (n : Nat) : KeepsOthers W (W.drewN n) := ⟨Nat.le_refl _, fun _ _ h _ => h⟩
theorem boxed_drewN {W : World} {b t : Nat} {v : Value} (h : Boxed W b t v) {n : Nat} : Boxed (W.drewN n) b t v := h
theorem okTo_all (a b : List FX) : okTo a b (pairsX a b).length = decide (flsX a = flsX b) := by
  unfold okTo
  rw [List.take_length]
  exact pairsN_all _ _ _ _ 0 0 rfl rfl
theorem okTo_false (a b : List FX) (k : Nat) (h : okTo a b k = false) : decide (flsX a = flsX b) = false := by
  rw [← okTo_all]
  unfold okTo at h ⊢
  rw [List.take_length]
  cases e : (pairsX a b).all (okPair (flsX a) (flsX b)) with
  | false => rfl
  | true =>
    have := List.all_eq_true.1 e
    rw [← h]
    symm
    exact List.all_eq_true.2 fun x hx => this x (List.mem_of_mem_take hx)

end Go.Proofs.YtffhfllikamccaaGreatDoor
