/-
  What every law's row of layer 2 wants: the world of the witness, the library's variable, the reach of a string.
-/
import Derived.Test.YtffhfllikamccaaGreatDoorTSizes
import Derived.Test.YtffhfllikamccaaGreatDoorShelf
import Derived.Test.YtffhfllikamccaaGreatDoorTLawKnown
import Derived.Test.YtffhfllikamccaaGreatDoorCards
import Derived.Test.YtffhfllikamccaaGreatDoorTie
import Derived.WalkKit
import Derived.ProofKit
import Derived.OpenShut
import Derived.SizedLaws
import Derived.ShutString
import Derived.Deep.DeepHandedRow
import Derived.Lib.LaidTab
namespace Go.Proofs.YtffhfllikamccaaGreatDoor
open Go Go.ChangeShapes Go.WideShapes Go.ChangeAt Go.RowKit Go.Proofs

theorem own : ownKnob Tryz.prog.godebug = none := by kernel_rfl
def leafV : DataW Unit → Value
  | .lit (.int k n) => .int k n
  | _ => .int .u8 0
def flat1 : DataW Unit → List Value
  | .agg l => l.map leafV
  | _ => []
def flat2 : DataW Unit → List Value
  | .agg l => l.flatMap flat1
  | _ => []
def setCells (l : List Value) : Obj → Obj
  | .cells _ t frozen => .cells l.toArray t frozen
  | o => o
/-- A world for the witness: the settled one, the two tables holding what the program lays. -/
noncomputable def laidWorld (os : Os) : World :=
  { World.holding Tryz.prog os ⟨#[], #[], []⟩ with heap := ((World.holding Tryz.prog os ⟨#[], #[], []⟩).heap.modify 1 (setCells (flat1 Rows.laid_unicode_utf8_first))).modify 2 (setCells (flat2 Rows.laid_unicode_utf8_acceptRanges)) }

theorem max_ok {W : World} (h : W.ShapedOpen Tryz.prog) : MaxOk W := by
  have H : ∃ m, W.cell? ⟨0, 0, none⟩ = some (.int .i64 m) := by first | exact Tryz.laysM146.s1_3 W h | exact Tryz.laysM143.s1_3 W h | exact Tryz.laysM219.s1_3 W h
  obtain ⟨m, hm⟩ := H
  have hl := World.block_lt_of_cell? W _ hm
  exact ⟨Nat.lt_of_le_of_lt (Nat.zero_le _) hl, hl, m, hm⟩
theorem laid_out : laidOutB Tryz.prog = true := by kernel_rfl
theorem file_ty : ∃ f0 f1, FileTy Tryz.prog 65 5 f0 f1 := ⟨_, _, Tryz.underlying65, by kernel_rfl, by kernel_rfl, by kernel_rfl, by kernel_rfl, by kernel_rfl, by kernel_rfl, by kernel_rfl⟩
end Go.Proofs.YtffhfllikamccaaGreatDoor
