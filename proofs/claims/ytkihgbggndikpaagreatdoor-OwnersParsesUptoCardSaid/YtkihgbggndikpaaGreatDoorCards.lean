/-
  DERIVED. GIVEN WITH THE SEED: THE CARDS: each row of YtkihgbggndikpaaGreatDoorRows.lean that lists a variable, with what it lists TIED to the program's text (the seventh form; the later family's looks); each row that meets fmt, with fmt's text TOLD by the authors' own Lean function (tested against real Go, not proved from fmt's source: count such statements apart). THE CARD IS WHAT COUNTS. Prove the row's statement (the work); the ties are given (YtkihgbggndikpaaGreatDoorTie.lean); close each card by the builder's one call (the guide's Derived/Test/ToyasCard.lean, 'card_holds'). Laid BY PROGRAM, IN A SANDBOX (cutbox-door.mjs). By AI agents, Wed Nov 11 2026. No macro, syntax, notation, axiom, sorry.
-/
import Derived.Test.YtkihgbggndikpaaGreatDoorRows
import GoSem.ClaimSeven
namespace Go.Proofs.YtkihgbggndikpaaGreatDoor
namespace Rows

/-- THE TIED CARD OF 'quilterlaw08.OwnersParses'. -/
def ownersParsesCard : Claim7 := { stood := { row := ownersParsesRow, standIns := [], harness := (true, "f2835369b03c8f8a4f52d4bfd9e5e6f194f0eeb28132292244a36c1fcdfd12b1"), looks := false }, kinds := [], alts := [], laidByText := true, laidKinds := [.data, .pinned], laidTests := true, laidLooks := .later }
def OwnersParsesCardSaid : Prop := Claim7.holds Tryz.pinned (.plain (OpenSpec.ofChange ownersParsesSpec)) ownersParsesCard

/-- THE TIED CARD OF 'quilterlaw08.OwnersTells'. -/
def ownersTellsCard : Claim7 := { stood := { row := ownersTellsRow, standIns := [], harness := (true, "f2835369b03c8f8a4f52d4bfd9e5e6f194f0eeb28132292244a36c1fcdfd12b1"), looks := false }, kinds := [], alts := [], laidByText := true, laidKinds := [.data, .pinned], laidTests := true, laidLooks := .later }
def OwnersTellsCardSaid : Prop := Claim7.holds Tryz.pinned (.plain (OpenSpec.ofChange ownersTellsSpec)) ownersTellsCard

/-- THE TIED CARD OF 'quilterlaw08.OwnersBack'. -/
def ownersBackCard : Claim7 := { stood := { row := ownersBackRow, standIns := [], harness := (true, "f2835369b03c8f8a4f52d4bfd9e5e6f194f0eeb28132292244a36c1fcdfd12b1"), looks := false }, kinds := [], alts := [], laidByText := true, laidKinds := [.data, .pinned], laidTests := true, laidLooks := .later }
def OwnersBackCardSaid : Prop := Claim7.holds Tryz.pinned (.plain (OpenSpec.ofChange ownersBackSpec)) ownersBackCard

/-- THE TIED CARD OF 'quilterlaw08.OwnersUp'. -/
def ownersUpCard : Claim7 := { stood := { row := ownersUpRow, standIns := [], harness := (true, "f2835369b03c8f8a4f52d4bfd9e5e6f194f0eeb28132292244a36c1fcdfd12b1"), looks := false }, kinds := [], alts := [], laidByText := true, laidKinds := [.data, .pinned], laidTests := true, laidLooks := .later }
def OwnersUpCardSaid : Prop := Claim7.holds Tryz.pinned (.plain (OpenSpec.ofChange ownersUpSpec)) ownersUpCard

/-- THE TIED CARD OF 'quilterlaw08.OwnersLines'. -/
def ownersLinesCard : Claim7 := { stood := { row := ownersLinesRow, standIns := [], harness := (true, "f2835369b03c8f8a4f52d4bfd9e5e6f194f0eeb28132292244a36c1fcdfd12b1"), looks := false }, kinds := [], alts := [], laidByText := true, laidKinds := [.data, .pinned], laidTests := true, laidLooks := .later }
def OwnersLinesCardSaid : Prop := Claim7.holds Tryz.pinned (.plain (OpenSpec.ofChange ownersLinesSpec)) ownersLinesCard

/-- THE TIED CARD OF 'quilterlaw08.OwnersMore'. -/
def ownersMoreCard : Claim7 := { stood := { row := ownersMoreRow, standIns := [], harness := (true, "f2835369b03c8f8a4f52d4bfd9e5e6f194f0eeb28132292244a36c1fcdfd12b1"), looks := false }, kinds := [], alts := [], laidByText := true, laidKinds := [.data, .pinned], laidTests := true, laidLooks := .later }
def OwnersMoreCardSaid : Prop := Claim7.holds Tryz.pinned (.plain (OpenSpec.ofChange ownersMoreSpec)) ownersMoreCard

/-- THE TIED CARD OF 'quilterlaw08.OwnersOnly'. -/
def ownersOnlyCard : Claim7 := { stood := { row := ownersOnlyRow, standIns := [], harness := (true, "f2835369b03c8f8a4f52d4bfd9e5e6f194f0eeb28132292244a36c1fcdfd12b1"), looks := false }, kinds := [], alts := [], laidByText := true, laidKinds := [.data, .pinned], laidTests := true, laidLooks := .later }
def OwnersOnlyCardSaid : Prop := Claim7.holds Tryz.pinned (.plain (OpenSpec.ofChange ownersOnlySpec)) ownersOnlyCard

/-- THE TIED CARD OF 'quilterlaw08.OwnersGlobs'. -/
def ownersGlobsCard : Claim7 := { stood := { row := ownersGlobsRow, standIns := [], harness := (true, "f2835369b03c8f8a4f52d4bfd9e5e6f194f0eeb28132292244a36c1fcdfd12b1"), looks := false }, kinds := [], alts := [], laidByText := true, laidKinds := [.data, .pinned], laidTests := true, laidLooks := .later }
def OwnersGlobsCardSaid : Prop := Claim7.holds Tryz.pinned (.plain (OpenSpec.ofChange ownersGlobsSpec)) ownersGlobsCard

/-- THE SECOND FORM's CARD OF 'quilterlaw08.OwnersParses'. -/
def ownersParsesUptoCard : Claim7 := { stood := { row := ownersParsesUptoRow, standIns := [], harness := (true, "f2835369b03c8f8a4f52d4bfd9e5e6f194f0eeb28132292244a36c1fcdfd12b1"), looks := false }, kinds := [], alts := [], laidByText := true, laidKinds := [.data, .pinned], laidTests := true, laidLooks := .later }
def OwnersParsesUptoCardSaid : Prop := Claim7.holds Tryz.pinned (.plain (OpenSpec.upto ownersParsesSpec)) ownersParsesUptoCard

/-- THE SECOND FORM's CARD OF 'quilterlaw08.OwnersTells'. -/
def ownersTellsUptoCard : Claim7 := { stood := { row := ownersTellsUptoRow, standIns := [], harness := (true, "f2835369b03c8f8a4f52d4bfd9e5e6f194f0eeb28132292244a36c1fcdfd12b1"), looks := false }, kinds := [], alts := [], laidByText := true, laidKinds := [.data, .pinned], laidTests := true, laidLooks := .later }
def OwnersTellsUptoCardSaid : Prop := Claim7.holds Tryz.pinned (.plain (OpenSpec.upto ownersTellsSpec)) ownersTellsUptoCard

/-- THE SECOND FORM's CARD OF 'quilterlaw08.OwnersBack'. -/
def ownersBackUptoCard : Claim7 := { stood := { row := ownersBackUptoRow, standIns := [], harness := (true, "f2835369b03c8f8a4f52d4bfd9e5e6f194f0eeb28132292244a36c1fcdfd12b1"), looks := false }, kinds := [], alts := [], laidByText := true, laidKinds := [.data, .pinned], laidTests := true, laidLooks := .later }
def OwnersBackUptoCardSaid : Prop := Claim7.holds Tryz.pinned (.plain (OpenSpec.upto ownersBackSpec)) ownersBackUptoCard

/-- THE SECOND FORM's CARD OF 'quilterlaw08.OwnersUp'. -/
def ownersUpUptoCard : Claim7 := { stood := { row := ownersUpUptoRow, standIns := [], harness := (true, "f2835369b03c8f8a4f52d4bfd9e5e6f194f0eeb28132292244a36c1fcdfd12b1"), looks := false }, kinds := [], alts := [], laidByText := true, laidKinds := [.data, .pinned], laidTests := true, laidLooks := .later }
def OwnersUpUptoCardSaid : Prop := Claim7.holds Tryz.pinned (.plain (OpenSpec.upto ownersUpSpec)) ownersUpUptoCard

/-- THE SECOND FORM's CARD OF 'quilterlaw08.OwnersLines'. -/
def ownersLinesUptoCard : Claim7 := { stood := { row := ownersLinesUptoRow, standIns := [], harness := (true, "f2835369b03c8f8a4f52d4bfd9e5e6f194f0eeb28132292244a36c1fcdfd12b1"), looks := false }, kinds := [], alts := [], laidByText := true, laidKinds := [.data, .pinned], laidTests := true, laidLooks := .later }
def OwnersLinesUptoCardSaid : Prop := Claim7.holds Tryz.pinned (.plain (OpenSpec.upto ownersLinesSpec)) ownersLinesUptoCard

/-- THE SECOND FORM's CARD OF 'quilterlaw08.OwnersMore'. -/
def ownersMoreUptoCard : Claim7 := { stood := { row := ownersMoreUptoRow, standIns := [], harness := (true, "f2835369b03c8f8a4f52d4bfd9e5e6f194f0eeb28132292244a36c1fcdfd12b1"), looks := false }, kinds := [], alts := [], laidByText := true, laidKinds := [.data, .pinned], laidTests := true, laidLooks := .later }
def OwnersMoreUptoCardSaid : Prop := Claim7.holds Tryz.pinned (.plain (OpenSpec.upto ownersMoreSpec)) ownersMoreUptoCard

/-- THE SECOND FORM's CARD OF 'quilterlaw08.OwnersOnly'. -/
def ownersOnlyUptoCard : Claim7 := { stood := { row := ownersOnlyUptoRow, standIns := [], harness := (true, "f2835369b03c8f8a4f52d4bfd9e5e6f194f0eeb28132292244a36c1fcdfd12b1"), looks := false }, kinds := [], alts := [], laidByText := true, laidKinds := [.data, .pinned], laidTests := true, laidLooks := .later }
def OwnersOnlyUptoCardSaid : Prop := Claim7.holds Tryz.pinned (.plain (OpenSpec.upto ownersOnlySpec)) ownersOnlyUptoCard

/-- THE SECOND FORM's CARD OF 'quilterlaw08.OwnersGlobs'. -/
def ownersGlobsUptoCard : Claim7 := { stood := { row := ownersGlobsUptoRow, standIns := [], harness := (true, "f2835369b03c8f8a4f52d4bfd9e5e6f194f0eeb28132292244a36c1fcdfd12b1"), looks := false }, kinds := [], alts := [], laidByText := true, laidKinds := [.data, .pinned], laidTests := true, laidLooks := .later }
def OwnersGlobsUptoCardSaid : Prop := Claim7.holds Tryz.pinned (.plain (OpenSpec.upto ownersGlobsSpec)) ownersGlobsUptoCard
end Rows
end Go.Proofs.YtkihgbggndikpaaGreatDoor
