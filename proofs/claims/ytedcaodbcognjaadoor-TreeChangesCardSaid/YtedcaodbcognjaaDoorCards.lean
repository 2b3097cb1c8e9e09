/-
  DERIVED. GIVEN WITH THE SEED: THE CARDS: each row of YtedcaodbcognjaaDoorRows.lean that lists a variable, with what it lists TIED to the program's text (the seventh form; the later family's looks); each row that meets fmt, with fmt's text TOLD by the authors' own Lean function (tested against real Go, not proved from fmt's source: count such statements apart). THE CARD IS WHAT COUNTS. Prove the row's statement (the work); the ties are given (YtedcaodbcognjaaDoorTie.lean); close each card by the builder's one call (the guide's Derived/Test/ToyasCard.lean, 'card_holds'). Laid BY PROGRAM, IN A SANDBOX (cutbox-door.mjs). By AI agents, Wed Nov 11 2026. No macro, syntax, notation, axiom, sorry.
-/
import Derived.Test.YtedcaodbcognjaaDoorRows
import GoSem.ClaimSeven
namespace Go.Proofs.YtedcaodbcognjaaDoor
namespace Rows

/-- THE TIED CARD OF 'quilterlaw02.TreeChanges'. -/
def treeChangesCard : Claim7 := { stood := { row := treeChangesRow, standIns := [], harness := (true, "6bc49373b5d72aad4392a5dc735bf0f85846d2480802bff321ba73052ce0ea47"), looks := false }, kinds := [], alts := [], laidByText := true, laidKinds := [.data, .pinned], laidTests := true, laidLooks := .later }
def TreeChangesCardSaid : Prop := Claim7.holds Tryd.pinned (.plain (OpenSpec.ofChange treeChangesSpec)) treeChangesCard

/-- THE TIED CARD OF 'quilterlaw02.TreeBack'. -/
def treeBackCard : Claim7 := { stood := { row := treeBackRow, standIns := [], harness := (true, "6bc49373b5d72aad4392a5dc735bf0f85846d2480802bff321ba73052ce0ea47"), looks := false }, kinds := [], alts := [], laidByText := true, laidKinds := [.data, .pinned], laidTests := true, laidLooks := .later }
def TreeBackCardSaid : Prop := Claim7.holds Tryd.pinned (.plain (OpenSpec.ofChange treeBackSpec)) treeBackCard

/-- THE TIED CARD OF 'quilterlaw02.TreePuts'. -/
def treePutsCard : Claim7 := { stood := { row := treePutsRow, standIns := [], harness := (true, "6bc49373b5d72aad4392a5dc735bf0f85846d2480802bff321ba73052ce0ea47"), looks := false }, kinds := [], alts := [], laidByText := true, laidKinds := [.data, .pinned], laidTests := true, laidLooks := .later }
def TreePutsCardSaid : Prop := Claim7.holds Tryd.pinned (.plain (OpenSpec.ofChange treePutsSpec)) treePutsCard

/-- THE TIED CARD OF 'quilterlaw02.TreeSelects'. -/
def treeSelectsCard : Claim7 := { stood := { row := treeSelectsRow, standIns := [], harness := (true, "6bc49373b5d72aad4392a5dc735bf0f85846d2480802bff321ba73052ce0ea47"), looks := false }, kinds := [], alts := [], laidByText := true, laidKinds := [.data, .pinned], laidTests := true, laidLooks := .later }
def TreeSelectsCardSaid : Prop := Claim7.holds Tryd.pinned (.plain (OpenSpec.ofChange treeSelectsSpec)) treeSelectsCard

/-- THE TIED CARD OF 'quilterlaw02.TreeOrders'. -/
def treeOrdersCard : Claim7 := { stood := { row := treeOrdersRow, standIns := [], harness := (true, "6bc49373b5d72aad4392a5dc735bf0f85846d2480802bff321ba73052ce0ea47"), looks := false }, kinds := [], alts := [], laidByText := true, laidKinds := [.data, .pinned], laidTests := true, laidLooks := .later }
def TreeOrdersCardSaid : Prop := Claim7.holds Tryd.pinned (.plain (OpenSpec.ofChange treeOrdersSpec)) treeOrdersCard

/-- THE TIED CARD OF 'quilterlaw02.TreeChains'. -/
def treeChainsCard : Claim7 := { stood := { row := treeChainsRow, standIns := [], harness := (true, "6bc49373b5d72aad4392a5dc735bf0f85846d2480802bff321ba73052ce0ea47"), looks := false }, kinds := [], alts := [], laidByText := true, laidKinds := [.data, .pinned], laidTests := true, laidLooks := .later }
def TreeChainsCardSaid : Prop := Claim7.holds Tryd.pinned (.plain (OpenSpec.ofChange treeChainsSpec)) treeChainsCard

/-- THE SECOND FORM's CARD OF 'quilterlaw02.TreeChanges'. -/
def treeChangesUptoCard : Claim7 := { stood := { row := treeChangesUptoRow, standIns := [], harness := (true, "6bc49373b5d72aad4392a5dc735bf0f85846d2480802bff321ba73052ce0ea47"), looks := false }, kinds := [], alts := [], laidByText := true, laidKinds := [.data, .pinned], laidTests := true, laidLooks := .later }
def TreeChangesUptoCardSaid : Prop := Claim7.holds Tryd.pinned (.plain (OpenSpec.upto treeChangesSpec)) treeChangesUptoCard

/-- THE SECOND FORM's CARD OF 'quilterlaw02.TreeBack'. -/
def treeBackUptoCard : Claim7 := { stood := { row := treeBackUptoRow, standIns := [], harness := (true, "6bc49373b5d72aad4392a5dc735bf0f85846d2480802bff321ba73052ce0ea47"), looks := false }, kinds := [], alts := [], laidByText := true, laidKinds := [.data, .pinned], laidTests := true, laidLooks := .later }
def TreeBackUptoCardSaid : Prop := Claim7.holds Tryd.pinned (.plain (OpenSpec.upto treeBackSpec)) treeBackUptoCard

/-- THE SECOND FORM's CARD OF 'quilterlaw02.TreePuts'. -/
def treePutsUptoCard : Claim7 := { stood := { row := treePutsUptoRow, standIns := [], harness := (true, "6bc49373b5d72aad4392a5dc735bf0f85846d2480802bff321ba73052ce0ea47"), looks := false }, kinds := [], alts := [], laidByText := true, laidKinds := [.data, .pinned], laidTests := true, laidLooks := .later }
def TreePutsUptoCardSaid : Prop := Claim7.holds Tryd.pinned (.plain (OpenSpec.upto treePutsSpec)) treePutsUptoCard

/-- THE SECOND FORM's CARD OF 'quilterlaw02.TreeSelects'. -/
def treeSelectsUptoCard : Claim7 := { stood := { row := treeSelectsUptoRow, standIns := [], harness := (true, "6bc49373b5d72aad4392a5dc735bf0f85846d2480802bff321ba73052ce0ea47"), looks := false }, kinds := [], alts := [], laidByText := true, laidKinds := [.data, .pinned], laidTests := true, laidLooks := .later }
def TreeSelectsUptoCardSaid : Prop := Claim7.holds Tryd.pinned (.plain (OpenSpec.upto treeSelectsSpec)) treeSelectsUptoCard

/-- THE SECOND FORM's CARD OF 'quilterlaw02.TreeOrders'. -/
def treeOrdersUptoCard : Claim7 := { stood := { row := treeOrdersUptoRow, standIns := [], harness := (true, "6bc49373b5d72aad4392a5dc735bf0f85846d2480802bff321ba73052ce0ea47"), looks := false }, kinds := [], alts := [], laidByText := true, laidKinds := [.data, .pinned], laidTests := true, laidLooks := .later }
def TreeOrdersUptoCardSaid : Prop := Claim7.holds Tryd.pinned (.plain (OpenSpec.upto treeOrdersSpec)) treeOrdersUptoCard

/-- THE SECOND FORM's CARD OF 'quilterlaw02.TreeChains'. -/
def treeChainsUptoCard : Claim7 := { stood := { row := treeChainsUptoRow, standIns := [], harness := (true, "6bc49373b5d72aad4392a5dc735bf0f85846d2480802bff321ba73052ce0ea47"), looks := false }, kinds := [], alts := [], laidByText := true, laidKinds := [.data, .pinned], laidTests := true, laidLooks := .later }
def TreeChainsUptoCardSaid : Prop := Claim7.holds Tryd.pinned (.plain (OpenSpec.upto treeChainsSpec)) treeChainsUptoCard
end Rows
end Go.Proofs.YtedcaodbcognjaaDoor
