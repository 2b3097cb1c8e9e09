/-
  NARROWER THAN 'FOR EVERY INPUT', by the rows' own cells (each row's printed sentence says how): OwnersParses: laid · OwnersTells: laid · OwnersBack: laid · OwnersUp: laid · OwnersLines: laid · OwnersMore: laid · OwnersOnly: laid · OwnersGlobs: laid.
  DERIVED. THE GIVEN ROWS OF THIS SEAT. 8 by the template 'for every input the law returns true; each argument reads behind the call as it read before'; 0 by the template 'total and deterministic' (their statements: YtkihgbggndikpaaGreatDoorTotals.lean).
  GIVEN WITH THE SEED: the statements are not yours to turn. If you find one false, say at which input.
  Laid BY PROGRAM, IN A SANDBOX (cutbox-rows.mjs): the forced cells as the released guide's own fill.sh prints them over the translation 21938004a853e20c… (all of the seat's roots in one cut). By AI agents, Wed Nov 11 2026. No macro, syntax, notation, axiom, sorry.
-/
import Derived.Test.YtkihgbggndikpaaGreatDoorChecked
import GoSem.PinnedTables
import GoSem.Claim
import GoSem.ClaimJoined
import GoSem.ClaimMapViews
import Derived.JoinedTies
import Derived.KernelRfl
namespace Go.Proofs.YtkihgbggndikpaaGreatDoor
/- THE CELL 'sum', in the pinned program and in every row, IS THE sha256 OF THE DUMP (.gsa) THAT YtkihgbggndikpaaGreatDoorProg.lean LOADS. Nothing in Lean hashes anything: it is a label: what it is worth is what the hold of that sum in a sandbox is worth. -/
noncomputable def Tryz.pinned : Pinned := { name := "ytkihgbggndikpaagreatdoor", sum := "21938004a853e20c9c3252d768f26abc617c1aac08a49ae6e8b9206bc6e354f6", checked := Tryz.checked }
namespace Rows
def none {H : Type} : Left H := { results := [], args := [] }

/- WHAT THE LISTED PACKAGE-LEVEL VARIABLES READ AS WHEN THE CALL BEGINS. Each datum BY PROGRAM (the guide's laid-datum.mjs) off the statement by which the dump's own 'gosem.cut.vars' lays the variable. In a bare row this is a premise. The card (YtkihgbggndikpaaGreatDoorCards.lean) ties it to the program's text. -/
def laid_unicode_utf8_acceptRanges {H : Type} : DataW H := .agg [.agg [.lit (.int .u8 128), .lit (.int .u8 191)], .agg [.lit (.int .u8 160), .lit (.int .u8 191)], .agg [.lit (.int .u8 128), .lit (.int .u8 159)], .agg [.lit (.int .u8 144), .lit (.int .u8 191)], .agg [.lit (.int .u8 128), .lit (.int .u8 143)], .agg [.lit (.int .u8 0), .lit (.int .u8 0)], .agg [.lit (.int .u8 0), .lit (.int .u8 0)], .agg [.lit (.int .u8 0), .lit (.int .u8 0)], .agg [.lit (.int .u8 0), .lit (.int .u8 0)], .agg [.lit (.int .u8 0), .lit (.int .u8 0)], .agg [.lit (.int .u8 0), .lit (.int .u8 0)], .agg [.lit (.int .u8 0), .lit (.int .u8 0)], .agg [.lit (.int .u8 0), .lit (.int .u8 0)], .agg [.lit (.int .u8 0), .lit (.int .u8 0)], .agg [.lit (.int .u8 0), .lit (.int .u8 0)], .agg [.lit (.int .u8 0), .lit (.int .u8 0)]]
/-- One of Go's own tables, pinned by name: the form's constant. -/
def laid_unicode_utf8_first : DataW Unit := Go.Pinned.utf8First

/-- 'quilterlaw08.OwnersParses': WHATEVER THE INPUT: true; the input reads as it did. -/
def ownersParsesSpec : ChangeSpec := { name := "ownersParses", fn := fun _ => fun
  | [d1, d2, d3] => { results := [.lit (.bool true)], args := [d1, d2, d3] }
  | _ => none }
def ownersParsesRow : OpenClaim := { program := "ytkihgbggndikpaagreatdoor", sum := "21938004a853e20c9c3252d768f26abc617c1aac08a49ae6e8b9206bc6e354f6", func := "quilter/quilterlaw08.OwnersParses", spec := "ownersParses", inPlace := ["internal/bytealg.IndexByteString", "internal/bytealg.IndexString", "internal/bytealg.CountString", "internal/abi.NoEscape", "internal/bytealg.MakeNoZero"], unfollowed := true, recurses := true, named := ["unicode/utf8.first", "unicode/utf8.acceptRanges", "internal/bytealg.MaxLen"], plainKeys := false, apart := false, laid := [("unicode/utf8.acceptRanges", laid_unicode_utf8_acceptRanges), ("unicode/utf8.first", laid_unicode_utf8_first)] }
def OwnersParsesSaid : Prop := ownersParsesRow.holds Tryz.pinned (OpenSpec.ofChange ownersParsesSpec)

/-- ITS FALSE NEIGHBOUR: 'it returns false'. Refute it at one input. -/
def ownersParsesWrong : ChangeSpec := { name := "ownersParses", fn := fun _ => fun
  | [d1, d2, d3] => { results := [.lit (.bool false)], args := [d1, d2, d3] }
  | _ => none }
def OwnersParsesWrongFalsely : Prop := ownersParsesRow.holds Tryz.pinned (OpenSpec.ofChange ownersParsesWrong)

/-- 'quilterlaw08.OwnersTells': WHATEVER THE INPUT: true; the input reads as it did. -/
def ownersTellsSpec : ChangeSpec := { name := "ownersTells", fn := fun _ => fun
  | [d1, d2] => { results := [.lit (.bool true)], args := [d1, d2] }
  | _ => none }
def ownersTellsRow : OpenClaim := { program := "ytkihgbggndikpaagreatdoor", sum := "21938004a853e20c9c3252d768f26abc617c1aac08a49ae6e8b9206bc6e354f6", func := "quilter/quilterlaw08.OwnersTells", spec := "ownersTells", inPlace := ["internal/bytealg.IndexByteString", "internal/bytealg.IndexString", "internal/bytealg.CountString"], unfollowed := true, recurses := true, named := ["unicode/utf8.first", "unicode/utf8.acceptRanges", "internal/bytealg.MaxLen"], plainKeys := false, apart := false, laid := [("unicode/utf8.acceptRanges", laid_unicode_utf8_acceptRanges), ("unicode/utf8.first", laid_unicode_utf8_first)] }
def OwnersTellsSaid : Prop := ownersTellsRow.holds Tryz.pinned (OpenSpec.ofChange ownersTellsSpec)

/-- ITS FALSE NEIGHBOUR: 'it returns false'. Refute it at one input. -/
def ownersTellsWrong : ChangeSpec := { name := "ownersTells", fn := fun _ => fun
  | [d1, d2] => { results := [.lit (.bool false)], args := [d1, d2] }
  | _ => none }
def OwnersTellsWrongFalsely : Prop := ownersTellsRow.holds Tryz.pinned (OpenSpec.ofChange ownersTellsWrong)

/-- 'quilterlaw08.OwnersBack': WHATEVER THE INPUT: true; the input reads as it did. -/
def ownersBackSpec : ChangeSpec := { name := "ownersBack", fn := fun _ => fun
  | [d1, d2] => { results := [.lit (.bool true)], args := [d1, d2] }
  | _ => none }
def ownersBackRow : OpenClaim := { program := "ytkihgbggndikpaagreatdoor", sum := "21938004a853e20c9c3252d768f26abc617c1aac08a49ae6e8b9206bc6e354f6", func := "quilter/quilterlaw08.OwnersBack", spec := "ownersBack", inPlace := ["internal/bytealg.IndexByteString", "internal/bytealg.IndexString", "internal/bytealg.CountString", "internal/abi.NoEscape", "internal/bytealg.MakeNoZero"], unfollowed := true, recurses := true, named := ["unicode/utf8.first", "unicode/utf8.acceptRanges", "internal/bytealg.MaxLen"], plainKeys := false, apart := false, laid := [("unicode/utf8.acceptRanges", laid_unicode_utf8_acceptRanges), ("unicode/utf8.first", laid_unicode_utf8_first)] }
def OwnersBackSaid : Prop := ownersBackRow.holds Tryz.pinned (OpenSpec.ofChange ownersBackSpec)

/-- ITS FALSE NEIGHBOUR: 'it returns false'. Refute it at one input. -/
def ownersBackWrong : ChangeSpec := { name := "ownersBack", fn := fun _ => fun
  | [d1, d2] => { results := [.lit (.bool false)], args := [d1, d2] }
  | _ => none }
def OwnersBackWrongFalsely : Prop := ownersBackRow.holds Tryz.pinned (OpenSpec.ofChange ownersBackWrong)

/-- 'quilterlaw08.OwnersUp': WHATEVER THE INPUT: true; the input reads as it did. -/
def ownersUpSpec : ChangeSpec := { name := "ownersUp", fn := fun _ => fun
  | [d1, d2, d3, d4] => { results := [.lit (.bool true)], args := [d1, d2, d3, d4] }
  | _ => none }
def ownersUpRow : OpenClaim := { program := "ytkihgbggndikpaagreatdoor", sum := "21938004a853e20c9c3252d768f26abc617c1aac08a49ae6e8b9206bc6e354f6", func := "quilter/quilterlaw08.OwnersUp", spec := "ownersUp", inPlace := ["internal/bytealg.IndexByteString", "internal/bytealg.IndexString", "internal/bytealg.CountString"], unfollowed := true, recurses := true, named := ["unicode/utf8.first", "unicode/utf8.acceptRanges", "internal/bytealg.MaxLen"], plainKeys := false, apart := false, laid := [("unicode/utf8.acceptRanges", laid_unicode_utf8_acceptRanges), ("unicode/utf8.first", laid_unicode_utf8_first)] }
def OwnersUpSaid : Prop := ownersUpRow.holds Tryz.pinned (OpenSpec.ofChange ownersUpSpec)

/-- ITS FALSE NEIGHBOUR: 'it returns false'. Refute it at one input. -/
def ownersUpWrong : ChangeSpec := { name := "ownersUp", fn := fun _ => fun
  | [d1, d2, d3, d4] => { results := [.lit (.bool false)], args := [d1, d2, d3, d4] }
  | _ => none }
def OwnersUpWrongFalsely : Prop := ownersUpRow.holds Tryz.pinned (OpenSpec.ofChange ownersUpWrong)

/-- 'quilterlaw08.OwnersLines': WHATEVER THE INPUT: true; the input reads as it did. -/
def ownersLinesSpec : ChangeSpec := { name := "ownersLines", fn := fun _ => fun
  | [d1, d2] => { results := [.lit (.bool true)], args := [d1, d2] }
  | _ => none }
def ownersLinesRow : OpenClaim := { program := "ytkihgbggndikpaagreatdoor", sum := "21938004a853e20c9c3252d768f26abc617c1aac08a49ae6e8b9206bc6e354f6", func := "quilter/quilterlaw08.OwnersLines", spec := "ownersLines", inPlace := ["internal/bytealg.IndexByteString", "internal/bytealg.IndexString", "internal/bytealg.CountString"], unfollowed := true, recurses := true, named := ["unicode/utf8.first", "unicode/utf8.acceptRanges", "internal/bytealg.MaxLen"], plainKeys := false, apart := false, laid := [("unicode/utf8.acceptRanges", laid_unicode_utf8_acceptRanges), ("unicode/utf8.first", laid_unicode_utf8_first)] }
def OwnersLinesSaid : Prop := ownersLinesRow.holds Tryz.pinned (OpenSpec.ofChange ownersLinesSpec)

/-- ITS FALSE NEIGHBOUR: 'it returns false'. Refute it at one input. -/
def ownersLinesWrong : ChangeSpec := { name := "ownersLines", fn := fun _ => fun
  | [d1, d2] => { results := [.lit (.bool false)], args := [d1, d2] }
  | _ => none }
def OwnersLinesWrongFalsely : Prop := ownersLinesRow.holds Tryz.pinned (OpenSpec.ofChange ownersLinesWrong)

/-- 'quilterlaw08.OwnersMore': WHATEVER THE INPUT: true; the input reads as it did. -/
def ownersMoreSpec : ChangeSpec := { name := "ownersMore", fn := fun _ => fun
  | [d1, d2, d3, d4] => { results := [.lit (.bool true)], args := [d1, d2, d3, d4] }
  | _ => none }
def ownersMoreRow : OpenClaim := { program := "ytkihgbggndikpaagreatdoor", sum := "21938004a853e20c9c3252d768f26abc617c1aac08a49ae6e8b9206bc6e354f6", func := "quilter/quilterlaw08.OwnersMore", spec := "ownersMore", inPlace := ["internal/bytealg.IndexByteString", "internal/bytealg.IndexString", "internal/bytealg.CountString"], unfollowed := true, recurses := true, named := ["unicode/utf8.first", "unicode/utf8.acceptRanges", "internal/bytealg.MaxLen"], plainKeys := false, apart := false, laid := [("unicode/utf8.acceptRanges", laid_unicode_utf8_acceptRanges), ("unicode/utf8.first", laid_unicode_utf8_first)] }
def OwnersMoreSaid : Prop := ownersMoreRow.holds Tryz.pinned (OpenSpec.ofChange ownersMoreSpec)

/-- ITS FALSE NEIGHBOUR: 'it returns false'. Refute it at one input. -/
def ownersMoreWrong : ChangeSpec := { name := "ownersMore", fn := fun _ => fun
  | [d1, d2, d3, d4] => { results := [.lit (.bool false)], args := [d1, d2, d3, d4] }
  | _ => none }
def OwnersMoreWrongFalsely : Prop := ownersMoreRow.holds Tryz.pinned (OpenSpec.ofChange ownersMoreWrong)

/-- 'quilterlaw08.OwnersOnly': WHATEVER THE INPUT: true; the input reads as it did. -/
def ownersOnlySpec : ChangeSpec := { name := "ownersOnly", fn := fun _ => fun
  | [d1, d2] => { results := [.lit (.bool true)], args := [d1, d2] }
  | _ => none }
def ownersOnlyRow : OpenClaim := { program := "ytkihgbggndikpaagreatdoor", sum := "21938004a853e20c9c3252d768f26abc617c1aac08a49ae6e8b9206bc6e354f6", func := "quilter/quilterlaw08.OwnersOnly", spec := "ownersOnly", inPlace := ["internal/bytealg.IndexByteString", "internal/bytealg.IndexString", "internal/bytealg.CountString"], unfollowed := true, recurses := true, named := ["unicode/utf8.first", "unicode/utf8.acceptRanges", "internal/bytealg.MaxLen"], plainKeys := false, apart := false, laid := [("unicode/utf8.acceptRanges", laid_unicode_utf8_acceptRanges), ("unicode/utf8.first", laid_unicode_utf8_first)] }
def OwnersOnlySaid : Prop := ownersOnlyRow.holds Tryz.pinned (OpenSpec.ofChange ownersOnlySpec)

/-- ITS FALSE NEIGHBOUR: 'it returns false'. Refute it at one input. -/
def ownersOnlyWrong : ChangeSpec := { name := "ownersOnly", fn := fun _ => fun
  | [d1, d2] => { results := [.lit (.bool false)], args := [d1, d2] }
  | _ => none }
def OwnersOnlyWrongFalsely : Prop := ownersOnlyRow.holds Tryz.pinned (OpenSpec.ofChange ownersOnlyWrong)

/-- 'quilterlaw08.OwnersGlobs': WHATEVER THE INPUT: true; the input reads as it did. -/
def ownersGlobsSpec : ChangeSpec := { name := "ownersGlobs", fn := fun _ => fun
  | [d1, d2, d3, d4] => { results := [.lit (.bool true)], args := [d1, d2, d3, d4] }
  | _ => none }
def ownersGlobsRow : OpenClaim := { program := "ytkihgbggndikpaagreatdoor", sum := "21938004a853e20c9c3252d768f26abc617c1aac08a49ae6e8b9206bc6e354f6", func := "quilter/quilterlaw08.OwnersGlobs", spec := "ownersGlobs", inPlace := ["internal/bytealg.IndexByteString", "internal/bytealg.IndexString", "internal/bytealg.CountString"], unfollowed := true, recurses := true, named := ["unicode/utf8.first", "unicode/utf8.acceptRanges", "internal/bytealg.MaxLen"], plainKeys := false, apart := false, laid := [("unicode/utf8.acceptRanges", laid_unicode_utf8_acceptRanges), ("unicode/utf8.first", laid_unicode_utf8_first)] }
def OwnersGlobsSaid : Prop := ownersGlobsRow.holds Tryz.pinned (OpenSpec.ofChange ownersGlobsSpec)

/-- ITS FALSE NEIGHBOUR: 'it returns false'. Refute it at one input. -/
def ownersGlobsWrong : ChangeSpec := { name := "ownersGlobs", fn := fun _ => fun
  | [d1, d2, d3, d4] => { results := [.lit (.bool false)], args := [d1, d2, d3, d4] }
  | _ => none }
def OwnersGlobsWrongFalsely : Prop := ownersGlobsRow.holds Tryz.pinned (OpenSpec.ofChange ownersGlobsWrong)

/- THE SECOND FORM. 'bulk': how many values and letters a reading holds, each counted each time it is reached (what is shared counts as often as it is met; a slice's spare places count too). A statement '..UptoSaid' is the law's where the arguments, and the package variables that the reading takes, are together of bulk at most 1048576: NARROWER than '..Said'. Prove '..Said' where nothing that the law and all that it calls make is longer than what came in: it says more and counts as full. Else prove '..UptoSaid'. A law counts once. -/
mutual
def uptoBulk {H : Type} : DataW H → Nat
  | .lit (.string bytes) => bytes.length + 1
  | .lit _ => 1
  | .nil => 1
  | .ptr d => uptoBulk d + 1
  | .slice elems spare => uptoBulkAll elems + uptoBulkAll spare + 1
  | .agg parts => uptoBulkAll parts + 1
  | .iface _ d => uptoBulk d + 1
  | .map entries => uptoBulkEntries entries + 1
  | .held _ => 1
def uptoBulkAll {H : Type} : List (DataW H) → Nat
  | [] => 0
  | d :: r => uptoBulk d + uptoBulkAll r
def uptoBulkEntries {H : Type} : List (Lit × DataW H) → Nat
  | [] => 0
  | x :: r => uptoBulkEntry x + uptoBulkEntries r
def uptoBulkEntry {H : Type} : Lit × DataW H → Nat
  | (.string bytes, d) => bytes.length + uptoBulk d + 1
  | (_, d) => uptoBulk d + 1
 end
def uptoSmall : (H : Type) → List (DataW H) → Bool := fun _ ds => decide (uptoBulkAll ds ≤ 1048576)
def OpenSpec.upto (s : _root_.Go.ChangeSpec) : _root_.Go.OpenSpec := { _root_.Go.OpenSpec.ofChange s with cond := some uptoSmall }

/-- 'quilterlaw08.OwnersParses', WHERE WHAT IT READS IS OF BULK AT MOST 1048576: true; the input reads as it did. -/
def ownersParsesUptoRow : OpenClaim := { program := "ytkihgbggndikpaagreatdoor", sum := "21938004a853e20c9c3252d768f26abc617c1aac08a49ae6e8b9206bc6e354f6", func := "quilter/quilterlaw08.OwnersParses", spec := "ownersParses", inPlace := ["internal/bytealg.IndexByteString", "internal/bytealg.IndexString", "internal/bytealg.CountString", "internal/abi.NoEscape", "internal/bytealg.MakeNoZero"], unfollowed := true, recurses := true, named := ["unicode/utf8.first", "unicode/utf8.acceptRanges", "internal/bytealg.MaxLen"], plainKeys := false, apart := false, laid := [("unicode/utf8.acceptRanges", laid_unicode_utf8_acceptRanges), ("unicode/utf8.first", laid_unicode_utf8_first)], narrowed := true }
def OwnersParsesUptoSaid : Prop := ownersParsesUptoRow.holds Tryz.pinned (OpenSpec.upto ownersParsesSpec)

/-- 'quilterlaw08.OwnersTells', WHERE WHAT IT READS IS OF BULK AT MOST 1048576: true; the input reads as it did. -/
def ownersTellsUptoRow : OpenClaim := { program := "ytkihgbggndikpaagreatdoor", sum := "21938004a853e20c9c3252d768f26abc617c1aac08a49ae6e8b9206bc6e354f6", func := "quilter/quilterlaw08.OwnersTells", spec := "ownersTells", inPlace := ["internal/bytealg.IndexByteString", "internal/bytealg.IndexString", "internal/bytealg.CountString"], unfollowed := true, recurses := true, named := ["unicode/utf8.first", "unicode/utf8.acceptRanges", "internal/bytealg.MaxLen"], plainKeys := false, apart := false, laid := [("unicode/utf8.acceptRanges", laid_unicode_utf8_acceptRanges), ("unicode/utf8.first", laid_unicode_utf8_first)], narrowed := true }
def OwnersTellsUptoSaid : Prop := ownersTellsUptoRow.holds Tryz.pinned (OpenSpec.upto ownersTellsSpec)

/-- 'quilterlaw08.OwnersBack', WHERE WHAT IT READS IS OF BULK AT MOST 1048576: true; the input reads as it did. -/
def ownersBackUptoRow : OpenClaim := { program := "ytkihgbggndikpaagreatdoor", sum := "21938004a853e20c9c3252d768f26abc617c1aac08a49ae6e8b9206bc6e354f6", func := "quilter/quilterlaw08.OwnersBack", spec := "ownersBack", inPlace := ["internal/bytealg.IndexByteString", "internal/bytealg.IndexString", "internal/bytealg.CountString", "internal/abi.NoEscape", "internal/bytealg.MakeNoZero"], unfollowed := true, recurses := true, named := ["unicode/utf8.first", "unicode/utf8.acceptRanges", "internal/bytealg.MaxLen"], plainKeys := false, apart := false, laid := [("unicode/utf8.acceptRanges", laid_unicode_utf8_acceptRanges), ("unicode/utf8.first", laid_unicode_utf8_first)], narrowed := true }
def OwnersBackUptoSaid : Prop := ownersBackUptoRow.holds Tryz.pinned (OpenSpec.upto ownersBackSpec)

/-- 'quilterlaw08.OwnersUp', WHERE WHAT IT READS IS OF BULK AT MOST 1048576: true; the input reads as it did. -/
def ownersUpUptoRow : OpenClaim := { program := "ytkihgbggndikpaagreatdoor", sum := "21938004a853e20c9c3252d768f26abc617c1aac08a49ae6e8b9206bc6e354f6", func := "quilter/quilterlaw08.OwnersUp", spec := "ownersUp", inPlace := ["internal/bytealg.IndexByteString", "internal/bytealg.IndexString", "internal/bytealg.CountString"], unfollowed := true, recurses := true, named := ["unicode/utf8.first", "unicode/utf8.acceptRanges", "internal/bytealg.MaxLen"], plainKeys := false, apart := false, laid := [("unicode/utf8.acceptRanges", laid_unicode_utf8_acceptRanges), ("unicode/utf8.first", laid_unicode_utf8_first)], narrowed := true }
def OwnersUpUptoSaid : Prop := ownersUpUptoRow.holds Tryz.pinned (OpenSpec.upto ownersUpSpec)

/-- 'quilterlaw08.OwnersLines', WHERE WHAT IT READS IS OF BULK AT MOST 1048576: true; the input reads as it did. -/
def ownersLinesUptoRow : OpenClaim := { program := "ytkihgbggndikpaagreatdoor", sum := "21938004a853e20c9c3252d768f26abc617c1aac08a49ae6e8b9206bc6e354f6", func := "quilter/quilterlaw08.OwnersLines", spec := "ownersLines", inPlace := ["internal/bytealg.IndexByteString", "internal/bytealg.IndexString", "internal/bytealg.CountString"], unfollowed := true, recurses := true, named := ["unicode/utf8.first", "unicode/utf8.acceptRanges", "internal/bytealg.MaxLen"], plainKeys := false, apart := false, laid := [("unicode/utf8.acceptRanges", laid_unicode_utf8_acceptRanges), ("unicode/utf8.first", laid_unicode_utf8_first)], narrowed := true }
def OwnersLinesUptoSaid : Prop := ownersLinesUptoRow.holds Tryz.pinned (OpenSpec.upto ownersLinesSpec)

/-- 'quilterlaw08.OwnersMore', WHERE WHAT IT READS IS OF BULK AT MOST 1048576: true; the input reads as it did. -/
def ownersMoreUptoRow : OpenClaim := { program := "ytkihgbggndikpaagreatdoor", sum := "21938004a853e20c9c3252d768f26abc617c1aac08a49ae6e8b9206bc6e354f6", func := "quilter/quilterlaw08.OwnersMore", spec := "ownersMore", inPlace := ["internal/bytealg.IndexByteString", "internal/bytealg.IndexString", "internal/bytealg.CountString"], unfollowed := true, recurses := true, named := ["unicode/utf8.first", "unicode/utf8.acceptRanges", "internal/bytealg.MaxLen"], plainKeys := false, apart := false, laid := [("unicode/utf8.acceptRanges", laid_unicode_utf8_acceptRanges), ("unicode/utf8.first", laid_unicode_utf8_first)], narrowed := true }
def OwnersMoreUptoSaid : Prop := ownersMoreUptoRow.holds Tryz.pinned (OpenSpec.upto ownersMoreSpec)

/-- 'quilterlaw08.OwnersOnly', WHERE WHAT IT READS IS OF BULK AT MOST 1048576: true; the input reads as it did. -/
def ownersOnlyUptoRow : OpenClaim := { program := "ytkihgbggndikpaagreatdoor", sum := "21938004a853e20c9c3252d768f26abc617c1aac08a49ae6e8b9206bc6e354f6", func := "quilter/quilterlaw08.OwnersOnly", spec := "ownersOnly", inPlace := ["internal/bytealg.IndexByteString", "internal/bytealg.IndexString", "internal/bytealg.CountString"], unfollowed := true, recurses := true, named := ["unicode/utf8.first", "unicode/utf8.acceptRanges", "internal/bytealg.MaxLen"], plainKeys := false, apart := false, laid := [("unicode/utf8.acceptRanges", laid_unicode_utf8_acceptRanges), ("unicode/utf8.first", laid_unicode_utf8_first)], narrowed := true }
def OwnersOnlyUptoSaid : Prop := ownersOnlyUptoRow.holds Tryz.pinned (OpenSpec.upto ownersOnlySpec)

/-- 'quilterlaw08.OwnersGlobs', WHERE WHAT IT READS IS OF BULK AT MOST 1048576: true; the input reads as it did. -/
def ownersGlobsUptoRow : OpenClaim := { program := "ytkihgbggndikpaagreatdoor", sum := "21938004a853e20c9c3252d768f26abc617c1aac08a49ae6e8b9206bc6e354f6", func := "quilter/quilterlaw08.OwnersGlobs", spec := "ownersGlobs", inPlace := ["internal/bytealg.IndexByteString", "internal/bytealg.IndexString", "internal/bytealg.CountString"], unfollowed := true, recurses := true, named := ["unicode/utf8.first", "unicode/utf8.acceptRanges", "internal/bytealg.MaxLen"], plainKeys := false, apart := false, laid := [("unicode/utf8.acceptRanges", laid_unicode_utf8_acceptRanges), ("unicode/utf8.first", laid_unicode_utf8_first)], narrowed := true }
def OwnersGlobsUptoSaid : Prop := ownersGlobsUptoRow.holds Tryz.pinned (OpenSpec.upto ownersGlobsSpec)

end Rows
end Go.Proofs.YtkihgbggndikpaaGreatDoor
