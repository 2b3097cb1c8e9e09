/-
  DERIVED. GIVEN WITH THE SEED: THE CARDS: each row of YtkhkjgghnicipaaDoorRows.lean that lists a variable, with what it lists TIED to the program's text (the seventh form; the later family's looks); each row that meets fmt, with fmt's text TOLD by the authors' own Lean function (tested against real Go, not proved from fmt's source: count such statements apart). THE CARD IS WHAT COUNTS. Prove the row's statement (the work); the ties are given (YtkhkjgghnicipaaDoorTie.lean); close each card by the builder's one call (the guide's Derived/Test/ToyasCard.lean, 'card_holds'). Laid BY PROGRAM, IN A SANDBOX (cutbox-door.mjs). By AI agents, Wed Nov 11 2026. No macro, syntax, notation, axiom, sorry.
-/
import Derived.Test.YtkhkjgghnicipaaDoorRows
import GoSem.ClaimSeven
namespace Go.Proofs.YtkhkjgghnicipaaDoor
namespace Rows

/-- THE TIED CARD OF 'quilterlaw03.HistoryCopies'. -/
def historyCopiesCard : Claim7 := { stood := { row := historyCopiesRow, standIns := [], harness := (true, "89e8a6adb8fd931f62a365759669c4491182545c6fef85a0b2201fd820110d42"), looks := true }, kinds := [], alts := [], laidByText := true, laidKinds := [.data, .pinned], laidTests := true, laidLooks := .later }
def HistoryCopiesCardSaid : Prop := Claim7.holds Tryd.pinned (.plain (OpenSpec.ofChange historyCopiesSpec)) historyCopiesCard

/-- THE TIED CARD OF 'quilterlaw03.HistoryLast'. -/
def historyLastCard : Claim7 := { stood := { row := historyLastRow, standIns := [], harness := (true, "89e8a6adb8fd931f62a365759669c4491182545c6fef85a0b2201fd820110d42"), looks := true }, kinds := [], alts := [], laidByText := true, laidKinds := [.data, .pinned], laidTests := true, laidLooks := .later }
def HistoryLastCardSaid : Prop := Claim7.holds Tryd.pinned (.plain (OpenSpec.ofChange historyLastSpec)) historyLastCard

/-- THE TIED CARD OF 'quilterlaw03.HistoryAgain'. -/
def historyAgainCard : Claim7 := { stood := { row := historyAgainRow, standIns := [], harness := (true, "89e8a6adb8fd931f62a365759669c4491182545c6fef85a0b2201fd820110d42"), looks := true }, kinds := [], alts := [], laidByText := true, laidKinds := [.data, .pinned], laidTests := true, laidLooks := .later }
def HistoryAgainCardSaid : Prop := Claim7.holds Tryd.pinned (.plain (OpenSpec.ofChange historyAgainSpec)) historyAgainCard

/-- THE SECOND FORM's CARD OF 'quilterlaw03.HistoryCopies'. -/
def historyCopiesUptoCard : Claim7 := { stood := { row := historyCopiesUptoRow, standIns := [], harness := (true, "89e8a6adb8fd931f62a365759669c4491182545c6fef85a0b2201fd820110d42"), looks := true }, kinds := [], alts := [], laidByText := true, laidKinds := [.data, .pinned], laidTests := true, laidLooks := .later }
def HistoryCopiesUptoCardSaid : Prop := Claim7.holds Tryd.pinned (.plain (OpenSpec.upto historyCopiesSpec)) historyCopiesUptoCard

/-- THE SECOND FORM's CARD OF 'quilterlaw03.HistoryLast'. -/
def historyLastUptoCard : Claim7 := { stood := { row := historyLastUptoRow, standIns := [], harness := (true, "89e8a6adb8fd931f62a365759669c4491182545c6fef85a0b2201fd820110d42"), looks := true }, kinds := [], alts := [], laidByText := true, laidKinds := [.data, .pinned], laidTests := true, laidLooks := .later }
def HistoryLastUptoCardSaid : Prop := Claim7.holds Tryd.pinned (.plain (OpenSpec.upto historyLastSpec)) historyLastUptoCard

/-- THE SECOND FORM's CARD OF 'quilterlaw03.HistoryAgain'. -/
def historyAgainUptoCard : Claim7 := { stood := { row := historyAgainUptoRow, standIns := [], harness := (true, "89e8a6adb8fd931f62a365759669c4491182545c6fef85a0b2201fd820110d42"), looks := true }, kinds := [], alts := [], laidByText := true, laidKinds := [.data, .pinned], laidTests := true, laidLooks := .later }
def HistoryAgainUptoCardSaid : Prop := Claim7.holds Tryd.pinned (.plain (OpenSpec.upto historyAgainSpec)) historyAgainUptoCard
end Rows
end Go.Proofs.YtkhkjgghnicipaaDoor
