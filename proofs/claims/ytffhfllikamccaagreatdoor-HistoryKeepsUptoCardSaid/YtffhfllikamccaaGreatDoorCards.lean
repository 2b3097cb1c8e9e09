/-
  DERIVED. GIVEN WITH THE SEED: THE CARDS: each row of YtffhfllikamccaaGreatDoorRows.lean that lists a variable, with what it lists TIED to the program's text (the seventh form; the later family's looks); each row that meets fmt, with fmt's text TOLD by the authors' own Lean function (tested against real Go, not proved from fmt's source: count such statements apart). THE CARD IS WHAT COUNTS. Prove the row's statement (the work); the ties are given (YtffhfllikamccaaGreatDoorTie.lean); close each card by the builder's one call (the guide's Derived/Test/ToyasCard.lean, 'card_holds'). Laid BY PROGRAM, IN A SANDBOX (cutbox-door.mjs). By AI agents, Wed Nov 11 2026. No macro, syntax, notation, axiom, sorry.
-/
import Derived.Test.YtffhfllikamccaaGreatDoorRows
import GoSem.ClaimSeven
namespace Go.Proofs.YtffhfllikamccaaGreatDoor
namespace Rows

/-- THE TIED CARD OF 'quilterlaw03.HistorySteps'. -/
def historyStepsCard : Claim7 := { stood := { row := historyStepsRow, standIns := [], harness := (true, "5918cd8af73b0831fb139b18e7b93c4c302689d4074c3a48019f701bc7a5bb33"), looks := false }, kinds := [], alts := [], laidByText := true, laidKinds := [.data, .pinned], laidTests := true, laidLooks := .later }
def HistoryStepsCardSaid : Prop := Claim7.holds Tryz.pinned (.plain (OpenSpec.ofChange historyStepsSpec)) historyStepsCard

/-- THE TIED CARD OF 'quilterlaw03.HistoryKeeps'. -/
def historyKeepsCard : Claim7 := { stood := { row := historyKeepsRow, standIns := [], harness := (true, "5918cd8af73b0831fb139b18e7b93c4c302689d4074c3a48019f701bc7a5bb33"), looks := false }, kinds := [], alts := [], laidByText := true, laidKinds := [.data, .pinned], laidTests := true, laidLooks := .later }
def HistoryKeepsCardSaid : Prop := Claim7.holds Tryz.pinned (.plain (OpenSpec.ofChange historyKeepsSpec)) historyKeepsCard

/-- THE SECOND FORM's CARD OF 'quilterlaw03.HistorySteps'. -/
def historyStepsUptoCard : Claim7 := { stood := { row := historyStepsUptoRow, standIns := [], harness := (true, "5918cd8af73b0831fb139b18e7b93c4c302689d4074c3a48019f701bc7a5bb33"), looks := false }, kinds := [], alts := [], laidByText := true, laidKinds := [.data, .pinned], laidTests := true, laidLooks := .later }
def HistoryStepsUptoCardSaid : Prop := Claim7.holds Tryz.pinned (.plain (OpenSpec.upto historyStepsSpec)) historyStepsUptoCard

/-- THE SECOND FORM's CARD OF 'quilterlaw03.HistoryKeeps'. -/
def historyKeepsUptoCard : Claim7 := { stood := { row := historyKeepsUptoRow, standIns := [], harness := (true, "5918cd8af73b0831fb139b18e7b93c4c302689d4074c3a48019f701bc7a5bb33"), looks := false }, kinds := [], alts := [], laidByText := true, laidKinds := [.data, .pinned], laidTests := true, laidLooks := .later }
def HistoryKeepsUptoCardSaid : Prop := Claim7.holds Tryz.pinned (.plain (OpenSpec.upto historyKeepsSpec)) historyKeepsUptoCard
end Rows
end Go.Proofs.YtffhfllikamccaaGreatDoor
