/-
  DERIVED. GIVEN WITH THE SEED: THE CARDS: each row of YtckpojkbcbogbaaDoorRows.lean that lists a variable, with what it lists TIED to the program's text (the seventh form; the later family's looks); each row that meets fmt, with fmt's text TOLD by the authors' own Lean function (tested against real Go, not proved from fmt's source: count such statements apart). THE CARD IS WHAT COUNTS. Prove the row's statement (the work); the ties are given (YtckpojkbcbogbaaDoorTie.lean); close each card by the builder's one call (the guide's Derived/Test/ToyasCard.lean, 'card_holds'). Laid BY PROGRAM, IN A SANDBOX (cutbox-door.mjs). By AI agents, Wed Nov 11 2026. No macro, syntax, notation, axiom, sorry.
-/
import Derived.Test.YtckpojkbcbogbaaDoorRows
import GoSem.ClaimSeven
namespace Go.Proofs.YtckpojkbcbogbaaDoor
namespace Rows

/-- THE TIED CARD OF 'quilterlaw09.BuildAlls'. -/
def buildAllsCard : Claim7 := { stood := { row := buildAllsRow, standIns := [], harness := (true, "842f8c1c90b2d4aca749e6c5467fc912b4b98eb02ed4e193c0cb551cb42276ad"), looks := false }, kinds := [], alts := [], laidByText := true, laidKinds := [.data, .pinned], laidTests := true, laidLooks := .later }
def BuildAllsCardSaid : Prop := Claim7.holds Tryd.pinned (.plain (OpenSpec.ofChange buildAllsSpec)) buildAllsCard

/-- THE TIED CARD OF 'quilterlaw09.BuildStands'. -/
def buildStandsCard : Claim7 := { stood := { row := buildStandsRow, standIns := [], harness := (true, "842f8c1c90b2d4aca749e6c5467fc912b4b98eb02ed4e193c0cb551cb42276ad"), looks := false }, kinds := [], alts := [], laidByText := true, laidKinds := [.data, .pinned], laidTests := true, laidLooks := .later }
def BuildStandsCardSaid : Prop := Claim7.holds Tryd.pinned (.plain (OpenSpec.ofChange buildStandsSpec)) buildStandsCard

/-- THE TIED CARD OF 'quilterlaw09.BuildDirs'. -/
def buildDirsCard : Claim7 := { stood := { row := buildDirsRow, standIns := [], harness := (true, "842f8c1c90b2d4aca749e6c5467fc912b4b98eb02ed4e193c0cb551cb42276ad"), looks := false }, kinds := [], alts := [], laidByText := true, laidKinds := [.data, .pinned], laidTests := true, laidLooks := .later }
def BuildDirsCardSaid : Prop := Claim7.holds Tryd.pinned (.plain (OpenSpec.ofChange buildDirsSpec)) buildDirsCard

/-- THE TIED CARD OF 'quilterlaw09.BuildDeps'. -/
def buildDepsCard : Claim7 := { stood := { row := buildDepsRow, standIns := [], harness := (true, "842f8c1c90b2d4aca749e6c5467fc912b4b98eb02ed4e193c0cb551cb42276ad"), looks := false }, kinds := [], alts := [], laidByText := true, laidKinds := [.data, .pinned], laidTests := true, laidLooks := .later }
def BuildDepsCardSaid : Prop := Claim7.holds Tryd.pinned (.plain (OpenSpec.ofChange buildDepsSpec)) buildDepsCard

/-- THE TIED CARD OF 'quilterlaw09.BuildWords'. -/
def buildWordsCard : Claim7 := { stood := { row := buildWordsRow, standIns := [], harness := (true, "842f8c1c90b2d4aca749e6c5467fc912b4b98eb02ed4e193c0cb551cb42276ad"), looks := false }, kinds := [], alts := [], laidByText := true, laidKinds := [.data, .pinned], laidTests := true, laidLooks := .later }
def BuildWordsCardSaid : Prop := Claim7.holds Tryd.pinned (.plain (OpenSpec.ofChange buildWordsSpec)) buildWordsCard

/-- THE TIED CARD OF 'quilterlaw09.BuildOthers'. -/
def buildOthersCard : Claim7 := { stood := { row := buildOthersRow, standIns := [], harness := (true, "842f8c1c90b2d4aca749e6c5467fc912b4b98eb02ed4e193c0cb551cb42276ad"), looks := false }, kinds := [], alts := [], laidByText := true, laidKinds := [.data, .pinned], laidTests := true, laidLooks := .later }
def BuildOthersCardSaid : Prop := Claim7.holds Tryd.pinned (.plain (OpenSpec.ofChange buildOthersSpec)) buildOthersCard

/-- THE SECOND FORM's CARD OF 'quilterlaw09.BuildAlls'. -/
def buildAllsUptoCard : Claim7 := { stood := { row := buildAllsUptoRow, standIns := [], harness := (true, "842f8c1c90b2d4aca749e6c5467fc912b4b98eb02ed4e193c0cb551cb42276ad"), looks := false }, kinds := [], alts := [], laidByText := true, laidKinds := [.data, .pinned], laidTests := true, laidLooks := .later }
def BuildAllsUptoCardSaid : Prop := Claim7.holds Tryd.pinned (.plain (OpenSpec.upto buildAllsSpec)) buildAllsUptoCard

/-- THE SECOND FORM's CARD OF 'quilterlaw09.BuildStands'. -/
def buildStandsUptoCard : Claim7 := { stood := { row := buildStandsUptoRow, standIns := [], harness := (true, "842f8c1c90b2d4aca749e6c5467fc912b4b98eb02ed4e193c0cb551cb42276ad"), looks := false }, kinds := [], alts := [], laidByText := true, laidKinds := [.data, .pinned], laidTests := true, laidLooks := .later }
def BuildStandsUptoCardSaid : Prop := Claim7.holds Tryd.pinned (.plain (OpenSpec.upto buildStandsSpec)) buildStandsUptoCard

/-- THE SECOND FORM's CARD OF 'quilterlaw09.BuildDirs'. -/
def buildDirsUptoCard : Claim7 := { stood := { row := buildDirsUptoRow, standIns := [], harness := (true, "842f8c1c90b2d4aca749e6c5467fc912b4b98eb02ed4e193c0cb551cb42276ad"), looks := false }, kinds := [], alts := [], laidByText := true, laidKinds := [.data, .pinned], laidTests := true, laidLooks := .later }
def BuildDirsUptoCardSaid : Prop := Claim7.holds Tryd.pinned (.plain (OpenSpec.upto buildDirsSpec)) buildDirsUptoCard

/-- THE SECOND FORM's CARD OF 'quilterlaw09.BuildDeps'. -/
def buildDepsUptoCard : Claim7 := { stood := { row := buildDepsUptoRow, standIns := [], harness := (true, "842f8c1c90b2d4aca749e6c5467fc912b4b98eb02ed4e193c0cb551cb42276ad"), looks := false }, kinds := [], alts := [], laidByText := true, laidKinds := [.data, .pinned], laidTests := true, laidLooks := .later }
def BuildDepsUptoCardSaid : Prop := Claim7.holds Tryd.pinned (.plain (OpenSpec.upto buildDepsSpec)) buildDepsUptoCard

/-- THE SECOND FORM's CARD OF 'quilterlaw09.BuildWords'. -/
def buildWordsUptoCard : Claim7 := { stood := { row := buildWordsUptoRow, standIns := [], harness := (true, "842f8c1c90b2d4aca749e6c5467fc912b4b98eb02ed4e193c0cb551cb42276ad"), looks := false }, kinds := [], alts := [], laidByText := true, laidKinds := [.data, .pinned], laidTests := true, laidLooks := .later }
def BuildWordsUptoCardSaid : Prop := Claim7.holds Tryd.pinned (.plain (OpenSpec.upto buildWordsSpec)) buildWordsUptoCard

/-- THE SECOND FORM's CARD OF 'quilterlaw09.BuildOthers'. -/
def buildOthersUptoCard : Claim7 := { stood := { row := buildOthersUptoRow, standIns := [], harness := (true, "842f8c1c90b2d4aca749e6c5467fc912b4b98eb02ed4e193c0cb551cb42276ad"), looks := false }, kinds := [], alts := [], laidByText := true, laidKinds := [.data, .pinned], laidTests := true, laidLooks := .later }
def BuildOthersUptoCardSaid : Prop := Claim7.holds Tryd.pinned (.plain (OpenSpec.upto buildOthersSpec)) buildOthersUptoCard
end Rows
end Go.Proofs.YtckpojkbcbogbaaDoor
