/-
  NARROWER THAN 'FOR EVERY INPUT', by the rows' own cells (each row's printed sentence says how): BuildAlls: laid · BuildStands: laid · BuildDirs: laid · BuildDeps: laid · BuildWords: laid · BuildOthers: laid.
  DERIVED. THE GIVEN ROWS OF THIS SEAT. 6 by the template 'for every input the law returns true; each argument reads behind the call as it read before'; 0 by the template 'total and deterministic' (their statements: YtckpojkbcbogbaaDoorTotals.lean).
  GIVEN WITH THE SEED: the statements are not yours to turn. If you find one false, say at which input.
  Laid BY PROGRAM, IN A SANDBOX (cutbox-rows.mjs): the forced cells as the released guide's own fill.sh prints them over the translation 75d9e81c1bf9f166… (all of the seat's roots in one cut). By AI agents, Wed Nov 11 2026. No macro, syntax, notation, axiom, sorry.
-/
import Derived.Test.YtckpojkbcbogbaaDoorChecked
import GoSem.PinnedTables
import GoSem.Claim
import GoSem.ClaimJoined
import GoSem.ClaimMapViews
import Derived.JoinedTies
import Derived.KernelRfl
namespace Go.Proofs.YtckpojkbcbogbaaDoor
/- THE CELL 'sum', in the pinned program and in every row, IS THE sha256 OF THE DUMP (.gsa) THAT YtckpojkbcbogbaaDoorProg.lean LOADS. Nothing in Lean hashes anything: it is a label: what it is worth is what the hold of that sum in a sandbox is worth. -/
noncomputable def Tryd.pinned : Pinned := { name := "ytckpojkbcbogbaadoor", sum := "75d9e81c1bf9f16600f5aa860d31b589f2700760061507821b65270bc9f3b8dc", checked := Tryd.checked }
namespace Rows
def none {H : Type} : Left H := { results := [], args := [] }

/- WHAT THE LISTED PACKAGE-LEVEL VARIABLES READ AS WHEN THE CALL BEGINS. Each datum BY PROGRAM (the guide's laid-datum.mjs) off the statement by which the dump's own 'gosem.cut.vars' lays the variable. In a bare row this is a premise. The card (YtckpojkbcbogbaaDoorCards.lean) ties it to the program's text. -/
def laid_unicode_utf8_acceptRanges {H : Type} : DataW H := .agg [.agg [.lit (.int .u8 128), .lit (.int .u8 191)], .agg [.lit (.int .u8 160), .lit (.int .u8 191)], .agg [.lit (.int .u8 128), .lit (.int .u8 159)], .agg [.lit (.int .u8 144), .lit (.int .u8 191)], .agg [.lit (.int .u8 128), .lit (.int .u8 143)], .agg [.lit (.int .u8 0), .lit (.int .u8 0)], .agg [.lit (.int .u8 0), .lit (.int .u8 0)], .agg [.lit (.int .u8 0), .lit (.int .u8 0)], .agg [.lit (.int .u8 0), .lit (.int .u8 0)], .agg [.lit (.int .u8 0), .lit (.int .u8 0)], .agg [.lit (.int .u8 0), .lit (.int .u8 0)], .agg [.lit (.int .u8 0), .lit (.int .u8 0)], .agg [.lit (.int .u8 0), .lit (.int .u8 0)], .agg [.lit (.int .u8 0), .lit (.int .u8 0)], .agg [.lit (.int .u8 0), .lit (.int .u8 0)], .agg [.lit (.int .u8 0), .lit (.int .u8 0)]]
/-- One of Go's own tables, pinned by name: the form's constant. -/
def laid_unicode_utf8_first : DataW Unit := Go.Pinned.utf8First

/-- 'quilterlaw09.BuildAlls': WHATEVER THE INPUT: true; the input reads as it did. -/
def buildAllsSpec : ChangeSpec := { name := "buildAlls", fn := fun _ => fun
  | [d] => { results := [.lit (.bool true)], args := [d] }
  | _ => none }
def buildAllsRow : OpenClaim := { program := "ytckpojkbcbogbaadoor", sum := "75d9e81c1bf9f16600f5aa860d31b589f2700760061507821b65270bc9f3b8dc", func := "quilter/quilterlaw09.BuildAlls", spec := "buildAlls", inPlace := ["internal/bytealg.IndexByteString", "internal/bytealg.IndexString"], unfollowed := true, recurses := true, named := ["unicode/utf8.first", "unicode/utf8.acceptRanges", "internal/bytealg.MaxLen"], apart := false, laid := [("unicode/utf8.acceptRanges", laid_unicode_utf8_acceptRanges), ("unicode/utf8.first", laid_unicode_utf8_first)] }
def BuildAllsSaid : Prop := buildAllsRow.holds Tryd.pinned (OpenSpec.ofChange buildAllsSpec)

/-- ITS FALSE NEIGHBOUR: 'it returns false'. Refute it at one input. -/
def buildAllsWrong : ChangeSpec := { name := "buildAlls", fn := fun _ => fun
  | [d] => { results := [.lit (.bool false)], args := [d] }
  | _ => none }
def BuildAllsWrongFalsely : Prop := buildAllsRow.holds Tryd.pinned (OpenSpec.ofChange buildAllsWrong)

/-- 'quilterlaw09.BuildStands': WHATEVER THE INPUT: true; the input reads as it did. -/
def buildStandsSpec : ChangeSpec := { name := "buildStands", fn := fun _ => fun
  | [d1, d2] => { results := [.lit (.bool true)], args := [d1, d2] }
  | _ => none }
def buildStandsRow : OpenClaim := { program := "ytckpojkbcbogbaadoor", sum := "75d9e81c1bf9f16600f5aa860d31b589f2700760061507821b65270bc9f3b8dc", func := "quilter/quilterlaw09.BuildStands", spec := "buildStands", inPlace := ["internal/bytealg.IndexByteString", "internal/bytealg.IndexString"], unfollowed := true, recurses := true, named := ["unicode/utf8.first", "unicode/utf8.acceptRanges", "internal/bytealg.MaxLen"], apart := false, laid := [("unicode/utf8.acceptRanges", laid_unicode_utf8_acceptRanges), ("unicode/utf8.first", laid_unicode_utf8_first)] }
def BuildStandsSaid : Prop := buildStandsRow.holds Tryd.pinned (OpenSpec.ofChange buildStandsSpec)

/-- ITS FALSE NEIGHBOUR: 'it returns false'. Refute it at one input. -/
def buildStandsWrong : ChangeSpec := { name := "buildStands", fn := fun _ => fun
  | [d1, d2] => { results := [.lit (.bool false)], args := [d1, d2] }
  | _ => none }
def BuildStandsWrongFalsely : Prop := buildStandsRow.holds Tryd.pinned (OpenSpec.ofChange buildStandsWrong)

/-- 'quilterlaw09.BuildDirs': WHATEVER THE INPUT: true; the input reads as it did. -/
def buildDirsSpec : ChangeSpec := { name := "buildDirs", fn := fun _ => fun
  | [d1, d2, d3] => { results := [.lit (.bool true)], args := [d1, d2, d3] }
  | _ => none }
def buildDirsRow : OpenClaim := { program := "ytckpojkbcbogbaadoor", sum := "75d9e81c1bf9f16600f5aa860d31b589f2700760061507821b65270bc9f3b8dc", func := "quilter/quilterlaw09.BuildDirs", spec := "buildDirs", inPlace := ["internal/bytealg.IndexByteString", "internal/bytealg.IndexString", "internal/abi.NoEscape", "internal/bytealg.MakeNoZero"], unfollowed := true, recurses := true, named := ["unicode/utf8.first", "unicode/utf8.acceptRanges", "internal/bytealg.MaxLen"], apart := false, laid := [("unicode/utf8.acceptRanges", laid_unicode_utf8_acceptRanges), ("unicode/utf8.first", laid_unicode_utf8_first)] }
def BuildDirsSaid : Prop := buildDirsRow.holds Tryd.pinned (OpenSpec.ofChange buildDirsSpec)

/-- ITS FALSE NEIGHBOUR: 'it returns false'. Refute it at one input. -/
def buildDirsWrong : ChangeSpec := { name := "buildDirs", fn := fun _ => fun
  | [d1, d2, d3] => { results := [.lit (.bool false)], args := [d1, d2, d3] }
  | _ => none }
def BuildDirsWrongFalsely : Prop := buildDirsRow.holds Tryd.pinned (OpenSpec.ofChange buildDirsWrong)

/-- 'quilterlaw09.BuildDeps': WHATEVER THE INPUT: true; the input reads as it did. -/
def buildDepsSpec : ChangeSpec := { name := "buildDeps", fn := fun _ => fun
  | [d1, d2, d3] => { results := [.lit (.bool true)], args := [d1, d2, d3] }
  | _ => none }
def buildDepsRow : OpenClaim := { program := "ytckpojkbcbogbaadoor", sum := "75d9e81c1bf9f16600f5aa860d31b589f2700760061507821b65270bc9f3b8dc", func := "quilter/quilterlaw09.BuildDeps", spec := "buildDeps", inPlace := ["internal/bytealg.IndexByteString", "internal/bytealg.IndexString"], unfollowed := true, recurses := true, named := ["unicode/utf8.first", "unicode/utf8.acceptRanges", "internal/bytealg.MaxLen"], apart := false, laid := [("unicode/utf8.acceptRanges", laid_unicode_utf8_acceptRanges), ("unicode/utf8.first", laid_unicode_utf8_first)] }
def BuildDepsSaid : Prop := buildDepsRow.holds Tryd.pinned (OpenSpec.ofChange buildDepsSpec)

/-- ITS FALSE NEIGHBOUR: 'it returns false'. Refute it at one input. -/
def buildDepsWrong : ChangeSpec := { name := "buildDeps", fn := fun _ => fun
  | [d1, d2, d3] => { results := [.lit (.bool false)], args := [d1, d2, d3] }
  | _ => none }
def BuildDepsWrongFalsely : Prop := buildDepsRow.holds Tryd.pinned (OpenSpec.ofChange buildDepsWrong)

/-- 'quilterlaw09.BuildWords': WHATEVER THE INPUT: true; the input reads as it did. -/
def buildWordsSpec : ChangeSpec := { name := "buildWords", fn := fun _ => fun
  | [d1, d2] => { results := [.lit (.bool true)], args := [d1, d2] }
  | _ => none }
def buildWordsRow : OpenClaim := { program := "ytckpojkbcbogbaadoor", sum := "75d9e81c1bf9f16600f5aa860d31b589f2700760061507821b65270bc9f3b8dc", func := "quilter/quilterlaw09.BuildWords", spec := "buildWords", inPlace := ["internal/bytealg.IndexByteString", "internal/bytealg.IndexString"], unfollowed := true, recurses := true, named := ["unicode/utf8.first", "unicode/utf8.acceptRanges", "internal/bytealg.MaxLen"], apart := false, laid := [("unicode/utf8.acceptRanges", laid_unicode_utf8_acceptRanges), ("unicode/utf8.first", laid_unicode_utf8_first)] }
def BuildWordsSaid : Prop := buildWordsRow.holds Tryd.pinned (OpenSpec.ofChange buildWordsSpec)

/-- ITS FALSE NEIGHBOUR: 'it returns false'. Refute it at one input. -/
def buildWordsWrong : ChangeSpec := { name := "buildWords", fn := fun _ => fun
  | [d1, d2] => { results := [.lit (.bool false)], args := [d1, d2] }
  | _ => none }
def BuildWordsWrongFalsely : Prop := buildWordsRow.holds Tryd.pinned (OpenSpec.ofChange buildWordsWrong)

/-- 'quilterlaw09.BuildOthers': WHATEVER THE INPUT: true; the input reads as it did. -/
def buildOthersSpec : ChangeSpec := { name := "buildOthers", fn := fun _ => fun
  | [d1, d2] => { results := [.lit (.bool true)], args := [d1, d2] }
  | _ => none }
def buildOthersRow : OpenClaim := { program := "ytckpojkbcbogbaadoor", sum := "75d9e81c1bf9f16600f5aa860d31b589f2700760061507821b65270bc9f3b8dc", func := "quilter/quilterlaw09.BuildOthers", spec := "buildOthers", inPlace := ["internal/bytealg.IndexByteString", "internal/bytealg.IndexString"], unfollowed := true, recurses := true, named := ["unicode/utf8.first", "unicode/utf8.acceptRanges", "internal/bytealg.MaxLen"], apart := false, laid := [("unicode/utf8.acceptRanges", laid_unicode_utf8_acceptRanges), ("unicode/utf8.first", laid_unicode_utf8_first)] }
def BuildOthersSaid : Prop := buildOthersRow.holds Tryd.pinned (OpenSpec.ofChange buildOthersSpec)

/-- ITS FALSE NEIGHBOUR: 'it returns false'. Refute it at one input. -/
def buildOthersWrong : ChangeSpec := { name := "buildOthers", fn := fun _ => fun
  | [d1, d2] => { results := [.lit (.bool false)], args := [d1, d2] }
  | _ => none }
def BuildOthersWrongFalsely : Prop := buildOthersRow.holds Tryd.pinned (OpenSpec.ofChange buildOthersWrong)

/- THE SECOND FORM. 'bulk': how many values and letters a reading holds, each counted each time it is reached (what is shared counts as often as it is met; a slice's spare places count too). A statement '..UptoSaid' is the law's where the arguments, and the package variables that the reading takes, are together of bulk at most 1048576: NARROWER than '..Said'. Prove '..Said' where nothing that the law and all that it calls make is longer than what came in: it says more and counts as full. Else prove '..UptoSaid'. A law counts once. -/
mutual
def uptoBulk {H : Type} : DataW H → Nat
  | .lit (.string bytes) => bytes.length + 1
  | .lit _ => 1
  | .nil => 1
  | .ptr d => uptoBulk d + 1
  | .slice elems spare => uptoBulkAll elems + uptoBulkAll spare + 1
  | .agg parts => uptoBulkAll parts + 1
  | .iface _ d => uptoBulk d + 1
  | .map entries => uptoBulkEntries entries + 1
  | .held _ => 1
def uptoBulkAll {H : Type} : List (DataW H) → Nat
  | [] => 0
  | d :: r => uptoBulk d + uptoBulkAll r
def uptoBulkEntries {H : Type} : List (Lit × DataW H) → Nat
  | [] => 0
  | x :: r => uptoBulkEntry x + uptoBulkEntries r
def uptoBulkEntry {H : Type} : Lit × DataW H → Nat
  | (.string bytes, d) => bytes.length + uptoBulk d + 1
  | (_, d) => uptoBulk d + 1
 end
def uptoSmall : (H : Type) → List (DataW H) → Bool := fun _ ds => decide (uptoBulkAll ds ≤ 1048576)
def OpenSpec.upto (s : _root_.Go.ChangeSpec) : _root_.Go.OpenSpec := { _root_.Go.OpenSpec.ofChange s with cond := some uptoSmall }

/-- 'quilterlaw09.BuildAlls', WHERE WHAT IT READS IS OF BULK AT MOST 1048576: true; the input reads as it did. -/
def buildAllsUptoRow : OpenClaim := { program := "ytckpojkbcbogbaadoor", sum := "75d9e81c1bf9f16600f5aa860d31b589f2700760061507821b65270bc9f3b8dc", func := "quilter/quilterlaw09.BuildAlls", spec := "buildAlls", inPlace := ["internal/bytealg.IndexByteString", "internal/bytealg.IndexString"], unfollowed := true, recurses := true, named := ["unicode/utf8.first", "unicode/utf8.acceptRanges", "internal/bytealg.MaxLen"], apart := false, laid := [("unicode/utf8.acceptRanges", laid_unicode_utf8_acceptRanges), ("unicode/utf8.first", laid_unicode_utf8_first)], narrowed := true }
def BuildAllsUptoSaid : Prop := buildAllsUptoRow.holds Tryd.pinned (OpenSpec.upto buildAllsSpec)

/-- 'quilterlaw09.BuildStands', WHERE WHAT IT READS IS OF BULK AT MOST 1048576: true; the input reads as it did. -/
def buildStandsUptoRow : OpenClaim := { program := "ytckpojkbcbogbaadoor", sum := "75d9e81c1bf9f16600f5aa860d31b589f2700760061507821b65270bc9f3b8dc", func := "quilter/quilterlaw09.BuildStands", spec := "buildStands", inPlace := ["internal/bytealg.IndexByteString", "internal/bytealg.IndexString"], unfollowed := true, recurses := true, named := ["unicode/utf8.first", "unicode/utf8.acceptRanges", "internal/bytealg.MaxLen"], apart := false, laid := [("unicode/utf8.acceptRanges", laid_unicode_utf8_acceptRanges), ("unicode/utf8.first", laid_unicode_utf8_first)], narrowed := true }
def BuildStandsUptoSaid : Prop := buildStandsUptoRow.holds Tryd.pinned (OpenSpec.upto buildStandsSpec)

/-- 'quilterlaw09.BuildDirs', WHERE WHAT IT READS IS OF BULK AT MOST 1048576: true; the input reads as it did. -/
def buildDirsUptoRow : OpenClaim := { program := "ytckpojkbcbogbaadoor", sum := "75d9e81c1bf9f16600f5aa860d31b589f2700760061507821b65270bc9f3b8dc", func := "quilter/quilterlaw09.BuildDirs", spec := "buildDirs", inPlace := ["internal/bytealg.IndexByteString", "internal/bytealg.IndexString", "internal/abi.NoEscape", "internal/bytealg.MakeNoZero"], unfollowed := true, recurses := true, named := ["unicode/utf8.first", "unicode/utf8.acceptRanges", "internal/bytealg.MaxLen"], apart := false, laid := [("unicode/utf8.acceptRanges", laid_unicode_utf8_acceptRanges), ("unicode/utf8.first", laid_unicode_utf8_first)], narrowed := true }
def BuildDirsUptoSaid : Prop := buildDirsUptoRow.holds Tryd.pinned (OpenSpec.upto buildDirsSpec)

/-- 'quilterlaw09.BuildDeps', WHERE WHAT IT READS IS OF BULK AT MOST 1048576: true; the input reads as it did. -/
def buildDepsUptoRow : OpenClaim := { program := "ytckpojkbcbogbaadoor", sum := "75d9e81c1bf9f16600f5aa860d31b589f2700760061507821b65270bc9f3b8dc", func := "quilter/quilterlaw09.BuildDeps", spec := "buildDeps", inPlace := ["internal/bytealg.IndexByteString", "internal/bytealg.IndexString"], unfollowed := true, recurses := true, named := ["unicode/utf8.first", "unicode/utf8.acceptRanges", "internal/bytealg.MaxLen"], apart := false, laid := [("unicode/utf8.acceptRanges", laid_unicode_utf8_acceptRanges), ("unicode/utf8.first", laid_unicode_utf8_first)], narrowed := true }
def BuildDepsUptoSaid : Prop := buildDepsUptoRow.holds Tryd.pinned (OpenSpec.upto buildDepsSpec)

/-- 'quilterlaw09.BuildWords', WHERE WHAT IT READS IS OF BULK AT MOST 1048576: true; the input reads as it did. -/
def buildWordsUptoRow : OpenClaim := { program := "ytckpojkbcbogbaadoor", sum := "75d9e81c1bf9f16600f5aa860d31b589f2700760061507821b65270bc9f3b8dc", func := "quilter/quilterlaw09.BuildWords", spec := "buildWords", inPlace := ["internal/bytealg.IndexByteString", "internal/bytealg.IndexString"], unfollowed := true, recurses := true, named := ["unicode/utf8.first", "unicode/utf8.acceptRanges", "internal/bytealg.MaxLen"], apart := false, laid := [("unicode/utf8.acceptRanges", laid_unicode_utf8_acceptRanges), ("unicode/utf8.first", laid_unicode_utf8_first)], narrowed := true }
def BuildWordsUptoSaid : Prop := buildWordsUptoRow.holds Tryd.pinned (OpenSpec.upto buildWordsSpec)

/-- 'quilterlaw09.BuildOthers', WHERE WHAT IT READS IS OF BULK AT MOST 1048576: true; the input reads as it did. -/
def buildOthersUptoRow : OpenClaim := { program := "ytckpojkbcbogbaadoor", sum := "75d9e81c1bf9f16600f5aa860d31b589f2700760061507821b65270bc9f3b8dc", func := "quilter/quilterlaw09.BuildOthers", spec := "buildOthers", inPlace := ["internal/bytealg.IndexByteString", "internal/bytealg.IndexString"], unfollowed := true, recurses := true, named := ["unicode/utf8.first", "unicode/utf8.acceptRanges", "internal/bytealg.MaxLen"], apart := false, laid := [("unicode/utf8.acceptRanges", laid_unicode_utf8_acceptRanges), ("unicode/utf8.first", laid_unicode_utf8_first)], narrowed := true }
def BuildOthersUptoSaid : Prop := buildOthersUptoRow.holds Tryd.pinned (OpenSpec.upto buildOthersSpec)

end Rows
end Go.Proofs.YtckpojkbcbogbaaDoor
