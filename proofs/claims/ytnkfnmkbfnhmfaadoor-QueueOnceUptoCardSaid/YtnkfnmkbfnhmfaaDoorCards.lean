/-
  DERIVED. GIVEN WITH THE SEED: THE CARDS: each row of YtnkfnmkbfnhmfaaDoorRows.lean that lists a variable, with what it lists TIED to the program's text (the seventh form; the later family's looks); each row that meets fmt, with fmt's text TOLD by the authors' own Lean function (tested against real Go, not proved from fmt's source: count such statements apart). THE CARD IS WHAT COUNTS. Prove the row's statement (the work); the ties are given (YtnkfnmkbfnhmfaaDoorTie.lean); close each card by the builder's one call (the guide's Derived/Test/ToyasCard.lean, 'card_holds'). Laid BY PROGRAM, IN A SANDBOX (cutbox-door.mjs). By AI agents, Wed Nov 11 2026. No macro, syntax, notation, axiom, sorry.
-/
import Derived.Test.YtnkfnmkbfnhmfaaDoorRows
import GoSem.ClaimSeven
namespace Go.Proofs.YtnkfnmkbfnhmfaaDoor
namespace Rows

/-- THE TIED CARD OF 'quilterlaw13.QueueOnce'. -/
def queueOnceCard : Claim7 := { stood := { row := queueOnceRow, standIns := [], harness := (true, "38bf6304156e50f6892c5510d3dfada5f1177849b30318c1d0f671d464b9e9df"), looks := false }, kinds := [], alts := [], laidByText := true, laidKinds := [.data, .pinned], laidTests := true, laidLooks := .later }
def QueueOnceCardSaid : Prop := Claim7.holds Tryd.pinned (.plain (OpenSpec.ofChange queueOnceSpec)) queueOnceCard

/-- THE TIED CARD OF 'quilterlaw13.QueueFirst'. -/
def queueFirstCard : Claim7 := { stood := { row := queueFirstRow, standIns := [], harness := (true, "38bf6304156e50f6892c5510d3dfada5f1177849b30318c1d0f671d464b9e9df"), looks := false }, kinds := [], alts := [], laidByText := true, laidKinds := [.data, .pinned], laidTests := true, laidLooks := .later }
def QueueFirstCardSaid : Prop := Claim7.holds Tryd.pinned (.plain (OpenSpec.ofChange queueFirstSpec)) queueFirstCard

/-- THE TIED CARD OF 'quilterlaw13.QueueRooms'. -/
def queueRoomsCard : Claim7 := { stood := { row := queueRoomsRow, standIns := [], harness := (true, "38bf6304156e50f6892c5510d3dfada5f1177849b30318c1d0f671d464b9e9df"), looks := false }, kinds := [], alts := [], laidByText := true, laidKinds := [.data, .pinned], laidTests := true, laidLooks := .later }
def QueueRoomsCardSaid : Prop := Claim7.holds Tryd.pinned (.plain (OpenSpec.ofChange queueRoomsSpec)) queueRoomsCard

/-- THE TIED CARD OF 'quilterlaw13.QueueOthers'. -/
def queueOthersCard : Claim7 := { stood := { row := queueOthersRow, standIns := [], harness := (true, "38bf6304156e50f6892c5510d3dfada5f1177849b30318c1d0f671d464b9e9df"), looks := false }, kinds := [], alts := [], laidByText := true, laidKinds := [.data, .pinned], laidTests := true, laidLooks := .later }
def QueueOthersCardSaid : Prop := Claim7.holds Tryd.pinned (.plain (OpenSpec.ofChange queueOthersSpec)) queueOthersCard

/-- THE SECOND FORM's CARD OF 'quilterlaw13.QueueOnce'. -/
def queueOnceUptoCard : Claim7 := { stood := { row := queueOnceUptoRow, standIns := [], harness := (true, "38bf6304156e50f6892c5510d3dfada5f1177849b30318c1d0f671d464b9e9df"), looks := false }, kinds := [], alts := [], laidByText := true, laidKinds := [.data, .pinned], laidTests := true, laidLooks := .later }
def QueueOnceUptoCardSaid : Prop := Claim7.holds Tryd.pinned (.plain (OpenSpec.upto queueOnceSpec)) queueOnceUptoCard

/-- THE SECOND FORM's CARD OF 'quilterlaw13.QueueFirst'. -/
def queueFirstUptoCard : Claim7 := { stood := { row := queueFirstUptoRow, standIns := [], harness := (true, "38bf6304156e50f6892c5510d3dfada5f1177849b30318c1d0f671d464b9e9df"), looks := false }, kinds := [], alts := [], laidByText := true, laidKinds := [.data, .pinned], laidTests := true, laidLooks := .later }
def QueueFirstUptoCardSaid : Prop := Claim7.holds Tryd.pinned (.plain (OpenSpec.upto queueFirstSpec)) queueFirstUptoCard

/-- THE SECOND FORM's CARD OF 'quilterlaw13.QueueRooms'. -/
def queueRoomsUptoCard : Claim7 := { stood := { row := queueRoomsUptoRow, standIns := [], harness := (true, "38bf6304156e50f6892c5510d3dfada5f1177849b30318c1d0f671d464b9e9df"), looks := false }, kinds := [], alts := [], laidByText := true, laidKinds := [.data, .pinned], laidTests := true, laidLooks := .later }
def QueueRoomsUptoCardSaid : Prop := Claim7.holds Tryd.pinned (.plain (OpenSpec.upto queueRoomsSpec)) queueRoomsUptoCard

/-- THE SECOND FORM's CARD OF 'quilterlaw13.QueueOthers'. -/
def queueOthersUptoCard : Claim7 := { stood := { row := queueOthersUptoRow, standIns := [], harness := (true, "38bf6304156e50f6892c5510d3dfada5f1177849b30318c1d0f671d464b9e9df"), looks := false }, kinds := [], alts := [], laidByText := true, laidKinds := [.data, .pinned], laidTests := true, laidLooks := .later }
def QueueOthersUptoCardSaid : Prop := Claim7.holds Tryd.pinned (.plain (OpenSpec.upto queueOthersSpec)) queueOthersUptoCard
end Rows
end Go.Proofs.YtnkfnmkbfnhmfaaDoor
