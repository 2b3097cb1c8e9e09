/-
  What the laws of layer 4 ask of the program's More, Sum, Step; known.
-/
import Derived.Test.YtojkifcclgecoaaCRef
import Derived.Lib.SlBytesConst
namespace Go.Proofs.Ytojkifcclgecoaa
open Go Go.RowKit Go.Shelf Go.Proofs

def SumOk : Prop := ∀ (l : List BX) (A : Option Addr) (c : Nat) (w : World), BRowAt w A c l →
  Calls Try.prog 83 #[.slice A l.length c] w fun e w' => e = .returned (.int .u32 (sumN (l.map BX.b) : Int)) ∧ Below w.heap.size w w'
def StepOk : Prop := ∀ (n : Nat), n < 2 ^ 32 → ∀ (w : World),
  Calls Try.prog 91 #[.int .u32 (n : Int)] w fun e w' => e = .returned (.int .u32 (halfN n : Int)) ∧ Below w.heap.size w w'

/-- A row of rows of bytes that lies in a new block. -/
theorem brow_new {w : World} {g : Nat} {xs : List Value} {t : TypeId} {fr : Nat × Nat} (l : List BX) (hg : w.heap[g]? = some (.cells xs.toArray t fr)) (hx : xs = l.map BX.v) (hb : ∀ x ∈ l, BytesAt w x.A x.b) (hc : ∀ x ∈ l, x.b.length ≤ x.c ∧ x.c ≤ maxLen ∧ x.b.length ≤ reachBytes) (hl : l.length ≤ maxLen) : BRowAt w (some ⟨g, 0, none⟩) l.length l := by
  refine ⟨Nat.le_refl _, hl, fun _ => ⟨g, 0, rfl, fun i x hi => ?_⟩, hb, hc⟩
  subst hx
  have e : (l.map BX.v).toArray[0 + i]? = some x.v := by rw [Nat.zero_add, List.getElem?_toArray, List.getElem?_map, hi]; rfl
  simp only [World.cell?, hg, Option.isSome_none]
  exact e

theorem known_sum : sumN [[49, 50, 51, 52], [53, 54, 55, 56, 57]] = 3421780262 := by kernel_rfl
theorem known_step : halfN 1 = 3988292384 := by kernel_rfl

end Go.Proofs.Ytojkifcclgecoaa
