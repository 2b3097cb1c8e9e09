/-
  DERIVED. GIVEN WITH THE SEED: THE CARDS: each row of YtnkfnmkbfnhmfaaGreatDoorRows.lean that lists a variable, with what it lists TIED to the program's text (the seventh form; the later family's looks); each row that meets fmt, with fmt's text TOLD by the authors' own Lean function (tested against real Go, not proved from fmt's source: count such statements apart). THE CARD IS WHAT COUNTS. Prove the row's statement (the work); the ties are given (YtnkfnmkbfnhmfaaGreatDoorTie.lean); close each card by the builder's one call (the guide's Derived/Test/ToyasCard.lean, 'card_holds'). Laid BY PROGRAM, IN A SANDBOX (cutbox-door.mjs). By AI agents, Wed Nov 11 2026. No macro, syntax, notation, axiom, sorry.
-/
import Derived.Test.YtnkfnmkbfnhmfaaGreatDoorRows
import GoSem.ClaimSeven
namespace Go.Proofs.YtnkfnmkbfnhmfaaGreatDoor
namespace Rows

/-- THE TIED CARD OF 'quilterlaw13.QueueSteps'. -/
def queueStepsCard : Claim7 := { stood := { row := queueStepsRow, standIns := [], harness := (true, "48d3897f719890d6e5d33e7c09eab8292c30a0c0d655c3a32e05832b13e564c9"), looks := false }, kinds := [], alts := [], laidByText := true, laidKinds := [.data, .pinned], laidTests := true, laidLooks := .later }
def QueueStepsCardSaid : Prop := Claim7.holds Tryz.pinned (.plain (OpenSpec.ofChange queueStepsSpec)) queueStepsCard

/-- THE TIED CARD OF 'quilterlaw13.QueueConflicts'. -/
def queueConflictsCard : Claim7 := { stood := { row := queueConflictsRow, standIns := [], harness := (true, "48d3897f719890d6e5d33e7c09eab8292c30a0c0d655c3a32e05832b13e564c9"), looks := false }, kinds := [], alts := [], laidByText := true, laidKinds := [.data, .pinned], laidTests := true, laidLooks := .later }
def QueueConflictsCardSaid : Prop := Claim7.holds Tryz.pinned (.plain (OpenSpec.ofChange queueConflictsSpec)) queueConflictsCard

/-- THE TIED CARD OF 'quilterlaw13.QueueKeeps'. -/
def queueKeepsCard : Claim7 := { stood := { row := queueKeepsRow, standIns := [], harness := (true, "48d3897f719890d6e5d33e7c09eab8292c30a0c0d655c3a32e05832b13e564c9"), looks := false }, kinds := [], alts := [], laidByText := true, laidKinds := [.data, .pinned], laidTests := true, laidLooks := .later }
def QueueKeepsCardSaid : Prop := Claim7.holds Tryz.pinned (.plain (OpenSpec.ofChange queueKeepsSpec)) queueKeepsCard

/-- THE SECOND FORM's CARD OF 'quilterlaw13.QueueSteps'. -/
def queueStepsUptoCard : Claim7 := { stood := { row := queueStepsUptoRow, standIns := [], harness := (true, "48d3897f719890d6e5d33e7c09eab8292c30a0c0d655c3a32e05832b13e564c9"), looks := false }, kinds := [], alts := [], laidByText := true, laidKinds := [.data, .pinned], laidTests := true, laidLooks := .later }
def QueueStepsUptoCardSaid : Prop := Claim7.holds Tryz.pinned (.plain (OpenSpec.upto queueStepsSpec)) queueStepsUptoCard

/-- THE SECOND FORM's CARD OF 'quilterlaw13.QueueConflicts'. -/
def queueConflictsUptoCard : Claim7 := { stood := { row := queueConflictsUptoRow, standIns := [], harness := (true, "48d3897f719890d6e5d33e7c09eab8292c30a0c0d655c3a32e05832b13e564c9"), looks := false }, kinds := [], alts := [], laidByText := true, laidKinds := [.data, .pinned], laidTests := true, laidLooks := .later }
def QueueConflictsUptoCardSaid : Prop := Claim7.holds Tryz.pinned (.plain (OpenSpec.upto queueConflictsSpec)) queueConflictsUptoCard

/-- THE SECOND FORM's CARD OF 'quilterlaw13.QueueKeeps'. -/
def queueKeepsUptoCard : Claim7 := { stood := { row := queueKeepsUptoRow, standIns := [], harness := (true, "48d3897f719890d6e5d33e7c09eab8292c30a0c0d655c3a32e05832b13e564c9"), looks := false }, kinds := [], alts := [], laidByText := true, laidKinds := [.data, .pinned], laidTests := true, laidLooks := .later }
def QueueKeepsUptoCardSaid : Prop := Claim7.holds Tryz.pinned (.plain (OpenSpec.upto queueKeepsSpec)) queueKeepsUptoCard
end Rows
end Go.Proofs.YtnkfnmkbfnhmfaaGreatDoor
