/-
  DERIVED. GIVEN WITH THE SEED: THE CARDS: each row of YtephppgboaconaaDoorRows.lean that lists a variable, with what it lists TIED to the program's text (the seventh form; the later family's looks); each row that meets fmt, with fmt's text TOLD by the authors' own Lean function (tested against real Go, not proved from fmt's source: count such statements apart). THE CARD IS WHAT COUNTS. Prove the row's statement (the work); the ties are given (YtephppgboaconaaDoorTie.lean); close each card by the builder's one call (the guide's Derived/Test/ToyasCard.lean, 'card_holds'). Laid BY PROGRAM, IN A SANDBOX (cutbox-door.mjs). By AI agents, Wed Nov 11 2026. No macro, syntax, notation, axiom, sorry.
-/
import Derived.Test.YtephppgboaconaaDoorRows
import GoSem.ClaimSeven
namespace Go.Proofs.YtephppgboaconaaDoor
namespace Rows

/-- THE TIED CARD OF 'quilterlaw01.PathTells'. -/
def pathTellsCard : Claim7 := { stood := { row := pathTellsRow, standIns := [], harness := (true, "fde48deb007eb1888a40ae65e05a3948f83d9863467813f040033094021c6a2e"), looks := false }, kinds := [], alts := [], laidByText := true, laidKinds := [.data, .pinned], laidTests := true, laidLooks := .later }
def PathTellsCardSaid : Prop := Claim7.holds Tryd.pinned (.plain (OpenSpec.ofChange pathTellsSpec)) pathTellsCard

/-- THE TIED CARD OF 'quilterlaw01.PathMatches'. -/
def pathMatchesCard : Claim7 := { stood := { row := pathMatchesRow, standIns := [], harness := (true, "fde48deb007eb1888a40ae65e05a3948f83d9863467813f040033094021c6a2e"), looks := false }, kinds := [], alts := [], laidByText := true, laidKinds := [.data, .pinned], laidTests := true, laidLooks := .later }
def PathMatchesCardSaid : Prop := Claim7.holds Tryd.pinned (.plain (OpenSpec.ofChange pathMatchesSpec)) pathMatchesCard

/-- THE TIED CARD OF 'quilterlaw01.PathBack'. -/
def pathBackCard : Claim7 := { stood := { row := pathBackRow, standIns := [], harness := (true, "fde48deb007eb1888a40ae65e05a3948f83d9863467813f040033094021c6a2e"), looks := false }, kinds := [], alts := [], laidByText := true, laidKinds := [.data, .pinned], laidTests := true, laidLooks := .later }
def PathBackCardSaid : Prop := Claim7.holds Tryd.pinned (.plain (OpenSpec.ofChange pathBackSpec)) pathBackCard

/-- THE TIED CARD OF 'quilterlaw01.PathWild'. -/
def pathWildCard : Claim7 := { stood := { row := pathWildRow, standIns := [], harness := (true, "fde48deb007eb1888a40ae65e05a3948f83d9863467813f040033094021c6a2e"), looks := false }, kinds := [], alts := [], laidByText := true, laidKinds := [.data, .pinned], laidTests := true, laidLooks := .later }
def PathWildCardSaid : Prop := Claim7.holds Tryd.pinned (.plain (OpenSpec.ofChange pathWildSpec)) pathWildCard

/-- THE TIED CARD OF 'quilterlaw01.PathJoins'. -/
def pathJoinsCard : Claim7 := { stood := { row := pathJoinsRow, standIns := [], harness := (true, "fde48deb007eb1888a40ae65e05a3948f83d9863467813f040033094021c6a2e"), looks := false }, kinds := [], alts := [], laidByText := true, laidKinds := [.data, .pinned], laidTests := true, laidLooks := .later }
def PathJoinsCardSaid : Prop := Claim7.holds Tryd.pinned (.plain (OpenSpec.ofChange pathJoinsSpec)) pathJoinsCard

/-- THE TIED CARD OF 'quilterlaw01.PathUnders'. -/
def pathUndersCard : Claim7 := { stood := { row := pathUndersRow, standIns := [], harness := (true, "fde48deb007eb1888a40ae65e05a3948f83d9863467813f040033094021c6a2e"), looks := false }, kinds := [], alts := [], laidByText := true, laidKinds := [.data, .pinned], laidTests := true, laidLooks := .later }
def PathUndersCardSaid : Prop := Claim7.holds Tryd.pinned (.plain (OpenSpec.ofChange pathUndersSpec)) pathUndersCard

/-- THE TIED CARD OF 'quilterlaw01.PathLiteral'. -/
def pathLiteralCard : Claim7 := { stood := { row := pathLiteralRow, standIns := [], harness := (true, "fde48deb007eb1888a40ae65e05a3948f83d9863467813f040033094021c6a2e"), looks := false }, kinds := [], alts := [], laidByText := true, laidKinds := [.data, .pinned], laidTests := true, laidLooks := .later }
def PathLiteralCardSaid : Prop := Claim7.holds Tryd.pinned (.plain (OpenSpec.ofChange pathLiteralSpec)) pathLiteralCard

/-- THE TIED CARD OF 'quilterlaw01.PathSigns'. -/
def pathSignsCard : Claim7 := { stood := { row := pathSignsRow, standIns := [], harness := (true, "fde48deb007eb1888a40ae65e05a3948f83d9863467813f040033094021c6a2e"), looks := false }, kinds := [], alts := [], laidByText := true, laidKinds := [.data, .pinned], laidTests := true, laidLooks := .later }
def PathSignsCardSaid : Prop := Claim7.holds Tryd.pinned (.plain (OpenSpec.ofChange pathSignsSpec)) pathSignsCard

/-- THE SECOND FORM's CARD OF 'quilterlaw01.PathTells'. -/
def pathTellsUptoCard : Claim7 := { stood := { row := pathTellsUptoRow, standIns := [], harness := (true, "fde48deb007eb1888a40ae65e05a3948f83d9863467813f040033094021c6a2e"), looks := false }, kinds := [], alts := [], laidByText := true, laidKinds := [.data, .pinned], laidTests := true, laidLooks := .later }
def PathTellsUptoCardSaid : Prop := Claim7.holds Tryd.pinned (.plain (OpenSpec.upto pathTellsSpec)) pathTellsUptoCard

/-- THE SECOND FORM's CARD OF 'quilterlaw01.PathMatches'. -/
def pathMatchesUptoCard : Claim7 := { stood := { row := pathMatchesUptoRow, standIns := [], harness := (true, "fde48deb007eb1888a40ae65e05a3948f83d9863467813f040033094021c6a2e"), looks := false }, kinds := [], alts := [], laidByText := true, laidKinds := [.data, .pinned], laidTests := true, laidLooks := .later }
def PathMatchesUptoCardSaid : Prop := Claim7.holds Tryd.pinned (.plain (OpenSpec.upto pathMatchesSpec)) pathMatchesUptoCard

/-- THE SECOND FORM's CARD OF 'quilterlaw01.PathBack'. -/
def pathBackUptoCard : Claim7 := { stood := { row := pathBackUptoRow, standIns := [], harness := (true, "fde48deb007eb1888a40ae65e05a3948f83d9863467813f040033094021c6a2e"), looks := false }, kinds := [], alts := [], laidByText := true, laidKinds := [.data, .pinned], laidTests := true, laidLooks := .later }
def PathBackUptoCardSaid : Prop := Claim7.holds Tryd.pinned (.plain (OpenSpec.upto pathBackSpec)) pathBackUptoCard

/-- THE SECOND FORM's CARD OF 'quilterlaw01.PathWild'. -/
def pathWildUptoCard : Claim7 := { stood := { row := pathWildUptoRow, standIns := [], harness := (true, "fde48deb007eb1888a40ae65e05a3948f83d9863467813f040033094021c6a2e"), looks := false }, kinds := [], alts := [], laidByText := true, laidKinds := [.data, .pinned], laidTests := true, laidLooks := .later }
def PathWildUptoCardSaid : Prop := Claim7.holds Tryd.pinned (.plain (OpenSpec.upto pathWildSpec)) pathWildUptoCard

/-- THE SECOND FORM's CARD OF 'quilterlaw01.PathJoins'. -/
def pathJoinsUptoCard : Claim7 := { stood := { row := pathJoinsUptoRow, standIns := [], harness := (true, "fde48deb007eb1888a40ae65e05a3948f83d9863467813f040033094021c6a2e"), looks := false }, kinds := [], alts := [], laidByText := true, laidKinds := [.data, .pinned], laidTests := true, laidLooks := .later }
def PathJoinsUptoCardSaid : Prop := Claim7.holds Tryd.pinned (.plain (OpenSpec.upto pathJoinsSpec)) pathJoinsUptoCard

/-- THE SECOND FORM's CARD OF 'quilterlaw01.PathUnders'. -/
def pathUndersUptoCard : Claim7 := { stood := { row := pathUndersUptoRow, standIns := [], harness := (true, "fde48deb007eb1888a40ae65e05a3948f83d9863467813f040033094021c6a2e"), looks := false }, kinds := [], alts := [], laidByText := true, laidKinds := [.data, .pinned], laidTests := true, laidLooks := .later }
def PathUndersUptoCardSaid : Prop := Claim7.holds Tryd.pinned (.plain (OpenSpec.upto pathUndersSpec)) pathUndersUptoCard

/-- THE SECOND FORM's CARD OF 'quilterlaw01.PathLiteral'. -/
def pathLiteralUptoCard : Claim7 := { stood := { row := pathLiteralUptoRow, standIns := [], harness := (true, "fde48deb007eb1888a40ae65e05a3948f83d9863467813f040033094021c6a2e"), looks := false }, kinds := [], alts := [], laidByText := true, laidKinds := [.data, .pinned], laidTests := true, laidLooks := .later }
def PathLiteralUptoCardSaid : Prop := Claim7.holds Tryd.pinned (.plain (OpenSpec.upto pathLiteralSpec)) pathLiteralUptoCard

/-- THE SECOND FORM's CARD OF 'quilterlaw01.PathSigns'. -/
def pathSignsUptoCard : Claim7 := { stood := { row := pathSignsUptoRow, standIns := [], harness := (true, "fde48deb007eb1888a40ae65e05a3948f83d9863467813f040033094021c6a2e"), looks := false }, kinds := [], alts := [], laidByText := true, laidKinds := [.data, .pinned], laidTests := true, laidLooks := .later }
def PathSignsUptoCardSaid : Prop := Claim7.holds Tryd.pinned (.plain (OpenSpec.upto pathSignsSpec)) pathSignsUptoCard
end Rows
end Go.Proofs.YtephppgboaconaaDoor
