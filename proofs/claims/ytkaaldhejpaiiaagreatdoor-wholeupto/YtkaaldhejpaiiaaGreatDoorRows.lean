/-
  NARROWER THAN 'FOR EVERY INPUT', by the rows' own cells (each row's printed sentence says how): Labels: laid · Twice: laid · Hyphened: laid · Strange: laid · Whole: laid · Joined: laid · Sided: laid.
  DERIVED. THE GIVEN ROWS OF THIS SEAT. 7 by the template 'for every input the law returns true; each argument reads behind the call as it read before'; 0 by the template 'total and deterministic' (their statements: YtkaaldhejpaiiaaGreatDoorTotals.lean).
  GIVEN WITH THE SEED: the statements are not yours to turn. If you find one false, say at which input.
  Laid BY PROGRAM, IN A SANDBOX (cutbox-rows.mjs): the forced cells as the released guide's own fill.sh prints them over the translation 98cf7a930b65000c… (all of the seat's roots in one cut). By AI agents, Wed Nov 11 2026. No macro, syntax, notation, axiom, sorry.
-/
import Derived.Test.YtkaaldhejpaiiaaGreatDoorChecked
import GoSem.PinnedTables
import GoSem.Claim
import GoSem.ClaimJoined
import GoSem.ClaimMapViews
import Derived.JoinedTies
import Derived.KernelRfl
namespace Go.Proofs.YtkaaldhejpaiiaaGreatDoor
/- THE CELL 'sum', in the pinned program and in every row, IS THE sha256 OF THE DUMP (.gsa) THAT YtkaaldhejpaiiaaGreatDoorProg.lean LOADS. Nothing in Lean hashes anything: it is a label: what it is worth is what the hold of that sum in a sandbox is worth. -/
noncomputable def Tryz.pinned : Pinned := { name := "ytkaaldhejpaiiaagreatdoor", sum := "98cf7a930b65000c36c68eabe045e0855959bc6bd3c8649ccc0d3cd0fb13c162", checked := Tryz.checked }
namespace Rows
def none {H : Type} : Left H := { results := [], args := [] }

/- WHAT THE LISTED PACKAGE-LEVEL VARIABLES READ AS WHEN THE CALL BEGINS. Each datum BY PROGRAM (the guide's laid-datum.mjs) off the statement by which the dump's own 'gosem.cut.vars' lays the variable. In a bare row this is a premise. The card (YtkaaldhejpaiiaaGreatDoorCards.lean) ties it to the program's text. -/
def laid_unicode_utf8_acceptRanges {H : Type} : DataW H := .agg [.agg [.lit (.int .u8 128), .lit (.int .u8 191)], .agg [.lit (.int .u8 160), .lit (.int .u8 191)], .agg [.lit (.int .u8 128), .lit (.int .u8 159)], .agg [.lit (.int .u8 144), .lit (.int .u8 191)], .agg [.lit (.int .u8 128), .lit (.int .u8 143)], .agg [.lit (.int .u8 0), .lit (.int .u8 0)], .agg [.lit (.int .u8 0), .lit (.int .u8 0)], .agg [.lit (.int .u8 0), .lit (.int .u8 0)], .agg [.lit (.int .u8 0), .lit (.int .u8 0)], .agg [.lit (.int .u8 0), .lit (.int .u8 0)], .agg [.lit (.int .u8 0), .lit (.int .u8 0)], .agg [.lit (.int .u8 0), .lit (.int .u8 0)], .agg [.lit (.int .u8 0), .lit (.int .u8 0)], .agg [.lit (.int .u8 0), .lit (.int .u8 0)], .agg [.lit (.int .u8 0), .lit (.int .u8 0)], .agg [.lit (.int .u8 0), .lit (.int .u8 0)]]
def laid_manor_manor_table {H : Type} : DataW H := .agg [.agg [.lit (.int .i32 45), .lit (.int .i32 45), .lit (.int .u8 3), .lit (.int .u8 6), .lit (.int .u8 0), .lit (.int .u8 0)], .agg [.lit (.int .i32 48), .lit (.int .i32 57), .lit (.int .u8 2), .lit (.int .u8 4), .lit (.int .u8 0), .lit (.int .u8 0)], .agg [.lit (.int .i32 97), .lit (.int .i32 122), .lit (.int .u8 1), .lit (.int .u8 1), .lit (.int .u8 1), .lit (.int .u8 0)], .agg [.lit (.int .i32 183), .lit (.int .i32 183), .lit (.int .u8 5), .lit (.int .u8 0), .lit (.int .u8 0), .lit (.int .u8 0)], .agg [.lit (.int .i32 223), .lit (.int .i32 246), .lit (.int .u8 1), .lit (.int .u8 1), .lit (.int .u8 1), .lit (.int .u8 0)], .agg [.lit (.int .i32 248), .lit (.int .i32 255), .lit (.int .u8 1), .lit (.int .u8 1), .lit (.int .u8 1), .lit (.int .u8 0)], .agg [.lit (.int .i32 768), .lit (.int .i32 831), .lit (.int .u8 4), .lit (.int .u8 7), .lit (.int .u8 0), .lit (.int .u8 3)], .agg [.lit (.int .i32 834), .lit (.int .i32 834), .lit (.int .u8 4), .lit (.int .u8 7), .lit (.int .u8 0), .lit (.int .u8 3)], .agg [.lit (.int .i32 837), .lit (.int .i32 846), .lit (.int .u8 4), .lit (.int .u8 7), .lit (.int .u8 0), .lit (.int .u8 3)], .agg [.lit (.int .i32 848), .lit (.int .i32 879), .lit (.int .u8 4), .lit (.int .u8 7), .lit (.int .u8 0), .lit (.int .u8 3)], .agg [.lit (.int .i32 885), .lit (.int .i32 885), .lit (.int .u8 5), .lit (.int .u8 0), .lit (.int .u8 2), .lit (.int .u8 0)], .agg [.lit (.int .i32 940), .lit (.int .i32 974), .lit (.int .u8 1), .lit (.int .u8 1), .lit (.int .u8 2), .lit (.int .u8 0)], .agg [.lit (.int .i32 1488), .lit (.int .i32 1514), .lit (.int .u8 1), .lit (.int .u8 2), .lit (.int .u8 3), .lit (.int .u8 0)], .agg [.lit (.int .i32 1523), .lit (.int .i32 1524), .lit (.int .u8 5), .lit (.int .u8 2), .lit (.int .u8 3), .lit (.int .u8 0)], .agg [.lit (.int .i32 1575), .lit (.int .i32 1575), .lit (.int .u8 1), .lit (.int .u8 3), .lit (.int .u8 4), .lit (.int .u8 1)], .agg [.lit (.int .i32 1576), .lit (.int .i32 1576), .lit (.int .u8 1), .lit (.int .u8 3), .lit (.int .u8 4), .lit (.int .u8 2)], .agg [.lit (.int .i32 1577), .lit (.int .i32 1577), .lit (.int .u8 1), .lit (.int .u8 3), .lit (.int .u8 4), .lit (.int .u8 1)], .agg [.lit (.int .i32 1578), .lit (.int .i32 1582), .lit (.int .u8 1), .lit (.int .u8 3), .lit (.int .u8 4), .lit (.int .u8 2)], .agg [.lit (.int .i32 1583), .lit (.int .i32 1586), .lit (.int .u8 1), .lit (.int .u8 3), .lit (.int .u8 4), .lit (.int .u8 1)], .agg [.lit (.int .i32 1587), .lit (.int .i32 1594), .lit (.int .u8 1), .lit (.int .u8 3), .lit (.int .u8 4), .lit (.int .u8 2)], .agg [.lit (.int .i32 1601), .lit (.int .i32 1607), .lit (.int .u8 1), .lit (.int .u8 3), .lit (.int .u8 4), .lit (.int .u8 2)], .agg [.lit (.int .i32 1608), .lit (.int .i32 1608), .lit (.int .u8 1), .lit (.int .u8 3), .lit (.int .u8 4), .lit (.int .u8 1)], .agg [.lit (.int .i32 1609), .lit (.int .i32 1610), .lit (.int .u8 1), .lit (.int .u8 3), .lit (.int .u8 4), .lit (.int .u8 2)], .agg [.lit (.int .i32 1611), .lit (.int .i32 1618), .lit (.int .u8 4), .lit (.int .u8 7), .lit (.int .u8 0), .lit (.int .u8 3)], .agg [.lit (.int .i32 1632), .lit (.int .i32 1641), .lit (.int .u8 5), .lit (.int .u8 5), .lit (.int .u8 0), .lit (.int .u8 0)], .agg [.lit (.int .i32 1776), .lit (.int .i32 1785), .lit (.int .u8 5), .lit (.int .u8 4), .lit (.int .u8 0), .lit (.int .u8 0)], .agg [.lit (.int .i32 2309), .lit (.int .i32 2361), .lit (.int .u8 1), .lit (.int .u8 1), .lit (.int .u8 5), .lit (.int .u8 0)], .agg [.lit (.int .i32 2381), .lit (.int .i32 2381), .lit (.int .u8 4), .lit (.int .u8 7), .lit (.int .u8 0), .lit (.int .u8 3)], .agg [.lit (.int .i32 8204), .lit (.int .i32 8205), .lit (.int .u8 5), .lit (.int .u8 0), .lit (.int .u8 0), .lit (.int .u8 0)], .agg [.lit (.int .i32 12353), .lit (.int .i32 12438), .lit (.int .u8 1), .lit (.int .u8 1), .lit (.int .u8 6), .lit (.int .u8 0)], .agg [.lit (.int .i32 12449), .lit (.int .i32 12538), .lit (.int .u8 1), .lit (.int .u8 1), .lit (.int .u8 7), .lit (.int .u8 0)], .agg [.lit (.int .i32 12539), .lit (.int .i32 12539), .lit (.int .u8 5), .lit (.int .u8 0), .lit (.int .u8 0), .lit (.int .u8 0)], .agg [.lit (.int .i32 19968), .lit (.int .i32 40959), .lit (.int .u8 1), .lit (.int .u8 1), .lit (.int .u8 8), .lit (.int .u8 0)]]
/-- One of Go's own tables, pinned by name: the form's constant. -/
def laid_unicode_CaseRanges : DataW Unit := Go.Pinned.caseRanges
/-- One of Go's own tables, pinned by name: the form's constant. -/
def laid_unicode_utf8_first : DataW Unit := Go.Pinned.utf8First

/-- 'manorlaw.Labels': WHATEVER THE INPUT: true; the input reads as it did. -/
def labelsSpec : ChangeSpec := { name := "labels", fn := fun _ => fun
  | [d] => { results := [.lit (.bool true)], args := [d] }
  | _ => none }
def labelsRow : OpenClaim := { program := "ytkaaldhejpaiiaagreatdoor", sum := "98cf7a930b65000c36c68eabe045e0855959bc6bd3c8649ccc0d3cd0fb13c162", func := "manor/manorlaw.Labels", spec := "labels", inPlace := ["internal/abi.NoEscape", "internal/bytealg.MakeNoZero", "slices.overlaps[rune]", "internal/bytealg.IndexByteString", "internal/bytealg.IndexString"], unfollowed := true, recurses := true, named := ["unicode/utf8.first", "unicode/utf8.acceptRanges", "unicode.CaseRanges", "manor/manor.table", "internal/bytealg.MaxLen"], apart := false, laid := [("unicode/utf8.acceptRanges", laid_unicode_utf8_acceptRanges), ("manor/manor.table", laid_manor_manor_table), ("unicode.CaseRanges", laid_unicode_CaseRanges), ("unicode/utf8.first", laid_unicode_utf8_first)] }
def LabelsSaid : Prop := labelsRow.holds Tryz.pinned (OpenSpec.ofChange labelsSpec)

/-- ITS FALSE NEIGHBOUR: 'it returns false'. Refute it at one input. -/
def labelsWrong : ChangeSpec := { name := "labels", fn := fun _ => fun
  | [d] => { results := [.lit (.bool false)], args := [d] }
  | _ => none }
def LabelsWrongFalsely : Prop := labelsRow.holds Tryz.pinned (OpenSpec.ofChange labelsWrong)

/-- 'manorkeep.Twice': WHATEVER THE INPUT: true; the input reads as it did. -/
def twiceSpec : ChangeSpec := { name := "twice", fn := fun _ => fun
  | [d] => { results := [.lit (.bool true)], args := [d] }
  | _ => none }
def twiceRow : OpenClaim := { program := "ytkaaldhejpaiiaagreatdoor", sum := "98cf7a930b65000c36c68eabe045e0855959bc6bd3c8649ccc0d3cd0fb13c162", func := "manor/manorkeep.Twice", spec := "twice", inPlace := ["internal/abi.NoEscape", "internal/bytealg.MakeNoZero", "slices.overlaps[rune]", "internal/bytealg.IndexByteString", "internal/bytealg.IndexString", "internal/bytealg.CountString"], unfollowed := true, recurses := true, named := ["unicode/utf8.first", "unicode/utf8.acceptRanges", "unicode.CaseRanges", "manor/manor.table", "internal/bytealg.MaxLen"], apart := false, laid := [("unicode/utf8.acceptRanges", laid_unicode_utf8_acceptRanges), ("manor/manor.table", laid_manor_manor_table), ("unicode.CaseRanges", laid_unicode_CaseRanges), ("unicode/utf8.first", laid_unicode_utf8_first)] }
def TwiceSaid : Prop := twiceRow.holds Tryz.pinned (OpenSpec.ofChange twiceSpec)

/-- ITS FALSE NEIGHBOUR: 'it returns false'. Refute it at one input. -/
def twiceWrong : ChangeSpec := { name := "twice", fn := fun _ => fun
  | [d] => { results := [.lit (.bool false)], args := [d] }
  | _ => none }
def TwiceWrongFalsely : Prop := twiceRow.holds Tryz.pinned (OpenSpec.ofChange twiceWrong)

/-- 'manorkeep.Hyphened': WHATEVER THE INPUT: true; the input reads as it did. -/
def hyphenedSpec : ChangeSpec := { name := "hyphened", fn := fun _ => fun
  | [d1, d2, d3] => { results := [.lit (.bool true)], args := [d1, d2, d3] }
  | _ => none }
def hyphenedRow : OpenClaim := { program := "ytkaaldhejpaiiaagreatdoor", sum := "98cf7a930b65000c36c68eabe045e0855959bc6bd3c8649ccc0d3cd0fb13c162", func := "manor/manorkeep.Hyphened", spec := "hyphened", inPlace := ["internal/abi.NoEscape", "internal/bytealg.MakeNoZero", "slices.overlaps[rune]", "internal/bytealg.IndexByteString", "internal/bytealg.IndexString", "internal/bytealg.CountString"], unfollowed := true, recurses := true, named := ["unicode/utf8.first", "unicode/utf8.acceptRanges", "unicode.CaseRanges", "manor/manor.table", "internal/bytealg.MaxLen"], apart := false, laid := [("unicode/utf8.acceptRanges", laid_unicode_utf8_acceptRanges), ("manor/manor.table", laid_manor_manor_table), ("unicode.CaseRanges", laid_unicode_CaseRanges), ("unicode/utf8.first", laid_unicode_utf8_first)] }
def HyphenedSaid : Prop := hyphenedRow.holds Tryz.pinned (OpenSpec.ofChange hyphenedSpec)

/-- ITS FALSE NEIGHBOUR: 'it returns false'. Refute it at one input. -/
def hyphenedWrong : ChangeSpec := { name := "hyphened", fn := fun _ => fun
  | [d1, d2, d3] => { results := [.lit (.bool false)], args := [d1, d2, d3] }
  | _ => none }
def HyphenedWrongFalsely : Prop := hyphenedRow.holds Tryz.pinned (OpenSpec.ofChange hyphenedWrong)

/-- 'manorkeep.Strange': WHATEVER THE INPUT: true; the input reads as it did. -/
def strangeSpec : ChangeSpec := { name := "strange", fn := fun _ => fun
  | [d1, d2, d3] => { results := [.lit (.bool true)], args := [d1, d2, d3] }
  | _ => none }
def strangeRow : OpenClaim := { program := "ytkaaldhejpaiiaagreatdoor", sum := "98cf7a930b65000c36c68eabe045e0855959bc6bd3c8649ccc0d3cd0fb13c162", func := "manor/manorkeep.Strange", spec := "strange", inPlace := ["internal/abi.NoEscape", "internal/bytealg.MakeNoZero", "slices.overlaps[rune]", "internal/bytealg.IndexByteString", "internal/bytealg.IndexString", "internal/bytealg.CountString"], unfollowed := true, recurses := true, named := ["unicode/utf8.first", "unicode/utf8.acceptRanges", "unicode.CaseRanges", "manor/manor.table", "internal/bytealg.MaxLen"], apart := false, laid := [("unicode/utf8.acceptRanges", laid_unicode_utf8_acceptRanges), ("manor/manor.table", laid_manor_manor_table), ("unicode.CaseRanges", laid_unicode_CaseRanges), ("unicode/utf8.first", laid_unicode_utf8_first)] }
def StrangeSaid : Prop := strangeRow.holds Tryz.pinned (OpenSpec.ofChange strangeSpec)

/-- ITS FALSE NEIGHBOUR: 'it returns false'. Refute it at one input. -/
def strangeWrong : ChangeSpec := { name := "strange", fn := fun _ => fun
  | [d1, d2, d3] => { results := [.lit (.bool false)], args := [d1, d2, d3] }
  | _ => none }
def StrangeWrongFalsely : Prop := strangeRow.holds Tryz.pinned (OpenSpec.ofChange strangeWrong)

/-- 'manorlaw.Whole': WHATEVER THE INPUT: true; the input reads as it did. -/
def wholeSpec : ChangeSpec := { name := "whole", fn := fun _ => fun
  | [d] => { results := [.lit (.bool true)], args := [d] }
  | _ => none }
def wholeRow : OpenClaim := { program := "ytkaaldhejpaiiaagreatdoor", sum := "98cf7a930b65000c36c68eabe045e0855959bc6bd3c8649ccc0d3cd0fb13c162", func := "manor/manorlaw.Whole", spec := "whole", inPlace := ["internal/bytealg.CountString", "internal/bytealg.IndexByteString", "internal/bytealg.IndexString", "internal/abi.NoEscape", "internal/bytealg.MakeNoZero", "slices.overlaps[rune]"], unfollowed := true, recurses := true, named := ["unicode/utf8.first", "unicode/utf8.acceptRanges", "internal/bytealg.MaxLen", "unicode.CaseRanges", "manor/manor.table"], apart := false, laid := [("unicode/utf8.acceptRanges", laid_unicode_utf8_acceptRanges), ("manor/manor.table", laid_manor_manor_table), ("unicode.CaseRanges", laid_unicode_CaseRanges), ("unicode/utf8.first", laid_unicode_utf8_first)] }
def WholeSaid : Prop := wholeRow.holds Tryz.pinned (OpenSpec.ofChange wholeSpec)

/-- ITS FALSE NEIGHBOUR: 'it returns false'. Refute it at one input. -/
def wholeWrong : ChangeSpec := { name := "whole", fn := fun _ => fun
  | [d] => { results := [.lit (.bool false)], args := [d] }
  | _ => none }
def WholeWrongFalsely : Prop := wholeRow.holds Tryz.pinned (OpenSpec.ofChange wholeWrong)

/-- 'manorkeep.Joined': WHATEVER THE INPUT: true; the input reads as it did. -/
def joinedSpec : ChangeSpec := { name := "joined", fn := fun _ => fun
  | [d1, d2, d3] => { results := [.lit (.bool true)], args := [d1, d2, d3] }
  | _ => none }
def joinedRow : OpenClaim := { program := "ytkaaldhejpaiiaagreatdoor", sum := "98cf7a930b65000c36c68eabe045e0855959bc6bd3c8649ccc0d3cd0fb13c162", func := "manor/manorkeep.Joined", spec := "joined", inPlace := ["internal/abi.NoEscape", "internal/bytealg.MakeNoZero", "slices.overlaps[rune]", "internal/bytealg.IndexByteString", "internal/bytealg.IndexString", "internal/bytealg.CountString"], unfollowed := true, recurses := true, named := ["unicode/utf8.first", "unicode/utf8.acceptRanges", "unicode.CaseRanges", "manor/manor.table", "internal/bytealg.MaxLen"], apart := false, laid := [("unicode/utf8.acceptRanges", laid_unicode_utf8_acceptRanges), ("manor/manor.table", laid_manor_manor_table), ("unicode.CaseRanges", laid_unicode_CaseRanges), ("unicode/utf8.first", laid_unicode_utf8_first)] }
def JoinedSaid : Prop := joinedRow.holds Tryz.pinned (OpenSpec.ofChange joinedSpec)

/-- ITS FALSE NEIGHBOUR: 'it returns false'. Refute it at one input. -/
def joinedWrong : ChangeSpec := { name := "joined", fn := fun _ => fun
  | [d1, d2, d3] => { results := [.lit (.bool false)], args := [d1, d2, d3] }
  | _ => none }
def JoinedWrongFalsely : Prop := joinedRow.holds Tryz.pinned (OpenSpec.ofChange joinedWrong)

/-- 'manorkeep.Sided': WHATEVER THE INPUT: true; the input reads as it did. -/
def sidedSpec : ChangeSpec := { name := "sided", fn := fun _ => fun
  | [d1, d2, d3] => { results := [.lit (.bool true)], args := [d1, d2, d3] }
  | _ => none }
def sidedRow : OpenClaim := { program := "ytkaaldhejpaiiaagreatdoor", sum := "98cf7a930b65000c36c68eabe045e0855959bc6bd3c8649ccc0d3cd0fb13c162", func := "manor/manorkeep.Sided", spec := "sided", inPlace := ["internal/abi.NoEscape", "internal/bytealg.MakeNoZero", "slices.overlaps[rune]", "internal/bytealg.IndexByteString", "internal/bytealg.IndexString", "internal/bytealg.CountString"], unfollowed := true, recurses := true, named := ["unicode/utf8.first", "unicode/utf8.acceptRanges", "unicode.CaseRanges", "manor/manor.table", "internal/bytealg.MaxLen"], apart := false, laid := [("unicode/utf8.acceptRanges", laid_unicode_utf8_acceptRanges), ("manor/manor.table", laid_manor_manor_table), ("unicode.CaseRanges", laid_unicode_CaseRanges), ("unicode/utf8.first", laid_unicode_utf8_first)] }
def SidedSaid : Prop := sidedRow.holds Tryz.pinned (OpenSpec.ofChange sidedSpec)

/-- ITS FALSE NEIGHBOUR: 'it returns false'. Refute it at one input. -/
def sidedWrong : ChangeSpec := { name := "sided", fn := fun _ => fun
  | [d1, d2, d3] => { results := [.lit (.bool false)], args := [d1, d2, d3] }
  | _ => none }
def SidedWrongFalsely : Prop := sidedRow.holds Tryz.pinned (OpenSpec.ofChange sidedWrong)

/- THE SECOND FORM. 'bulk': how many values and letters a reading holds, each counted each time it is reached (what is shared counts as often as it is met; a slice's spare places count too). A statement '..UptoSaid' is the law's where the arguments, and the package variables that the reading takes, are together of bulk at most 1048576: NARROWER than '..Said'. Prove '..Said' where nothing that the law and all that it calls make is longer than what came in: it says more and counts as full. Else prove '..UptoSaid'. A law counts once. -/
mutual
def uptoBulk {H : Type} : DataW H → Nat
  | .lit (.string bytes) => bytes.length + 1
  | .lit _ => 1
  | .nil => 1
  | .ptr d => uptoBulk d + 1
  | .slice elems spare => uptoBulkAll elems + uptoBulkAll spare + 1
  | .agg parts => uptoBulkAll parts + 1
  | .iface _ d => uptoBulk d + 1
  | .map entries => uptoBulkEntries entries + 1
  | .held _ => 1
def uptoBulkAll {H : Type} : List (DataW H) → Nat
  | [] => 0
  | d :: r => uptoBulk d + uptoBulkAll r
def uptoBulkEntries {H : Type} : List (Lit × DataW H) → Nat
  | [] => 0
  | x :: r => uptoBulkEntry x + uptoBulkEntries r
def uptoBulkEntry {H : Type} : Lit × DataW H → Nat
  | (.string bytes, d) => bytes.length + uptoBulk d + 1
  | (_, d) => uptoBulk d + 1
 end
def uptoSmall : (H : Type) → List (DataW H) → Bool := fun _ ds => decide (uptoBulkAll ds ≤ 1048576)
def OpenSpec.upto (s : _root_.Go.ChangeSpec) : _root_.Go.OpenSpec := { _root_.Go.OpenSpec.ofChange s with cond := some uptoSmall }

/-- 'manorlaw.Labels', WHERE WHAT IT READS IS OF BULK AT MOST 1048576: true; the input reads as it did. -/
def labelsUptoRow : OpenClaim := { program := "ytkaaldhejpaiiaagreatdoor", sum := "98cf7a930b65000c36c68eabe045e0855959bc6bd3c8649ccc0d3cd0fb13c162", func := "manor/manorlaw.Labels", spec := "labels", inPlace := ["internal/abi.NoEscape", "internal/bytealg.MakeNoZero", "slices.overlaps[rune]", "internal/bytealg.IndexByteString", "internal/bytealg.IndexString"], unfollowed := true, recurses := true, named := ["unicode/utf8.first", "unicode/utf8.acceptRanges", "unicode.CaseRanges", "manor/manor.table", "internal/bytealg.MaxLen"], apart := false, laid := [("unicode/utf8.acceptRanges", laid_unicode_utf8_acceptRanges), ("manor/manor.table", laid_manor_manor_table), ("unicode.CaseRanges", laid_unicode_CaseRanges), ("unicode/utf8.first", laid_unicode_utf8_first)], narrowed := true }
def LabelsUptoSaid : Prop := labelsUptoRow.holds Tryz.pinned (OpenSpec.upto labelsSpec)

/-- 'manorkeep.Twice', WHERE WHAT IT READS IS OF BULK AT MOST 1048576: true; the input reads as it did. -/
def twiceUptoRow : OpenClaim := { program := "ytkaaldhejpaiiaagreatdoor", sum := "98cf7a930b65000c36c68eabe045e0855959bc6bd3c8649ccc0d3cd0fb13c162", func := "manor/manorkeep.Twice", spec := "twice", inPlace := ["internal/abi.NoEscape", "internal/bytealg.MakeNoZero", "slices.overlaps[rune]", "internal/bytealg.IndexByteString", "internal/bytealg.IndexString", "internal/bytealg.CountString"], unfollowed := true, recurses := true, named := ["unicode/utf8.first", "unicode/utf8.acceptRanges", "unicode.CaseRanges", "manor/manor.table", "internal/bytealg.MaxLen"], apart := false, laid := [("unicode/utf8.acceptRanges", laid_unicode_utf8_acceptRanges), ("manor/manor.table", laid_manor_manor_table), ("unicode.CaseRanges", laid_unicode_CaseRanges), ("unicode/utf8.first", laid_unicode_utf8_first)], narrowed := true }
def TwiceUptoSaid : Prop := twiceUptoRow.holds Tryz.pinned (OpenSpec.upto twiceSpec)

/-- 'manorkeep.Hyphened', WHERE WHAT IT READS IS OF BULK AT MOST 1048576: true; the input reads as it did. -/
def hyphenedUptoRow : OpenClaim := { program := "ytkaaldhejpaiiaagreatdoor", sum := "98cf7a930b65000c36c68eabe045e0855959bc6bd3c8649ccc0d3cd0fb13c162", func := "manor/manorkeep.Hyphened", spec := "hyphened", inPlace := ["internal/abi.NoEscape", "internal/bytealg.MakeNoZero", "slices.overlaps[rune]", "internal/bytealg.IndexByteString", "internal/bytealg.IndexString", "internal/bytealg.CountString"], unfollowed := true, recurses := true, named := ["unicode/utf8.first", "unicode/utf8.acceptRanges", "unicode.CaseRanges", "manor/manor.table", "internal/bytealg.MaxLen"], apart := false, laid := [("unicode/utf8.acceptRanges", laid_unicode_utf8_acceptRanges), ("manor/manor.table", laid_manor_manor_table), ("unicode.CaseRanges", laid_unicode_CaseRanges), ("unicode/utf8.first", laid_unicode_utf8_first)], narrowed := true }
def HyphenedUptoSaid : Prop := hyphenedUptoRow.holds Tryz.pinned (OpenSpec.upto hyphenedSpec)

/-- 'manorkeep.Strange', WHERE WHAT IT READS IS OF BULK AT MOST 1048576: true; the input reads as it did. -/
def strangeUptoRow : OpenClaim := { program := "ytkaaldhejpaiiaagreatdoor", sum := "98cf7a930b65000c36c68eabe045e0855959bc6bd3c8649ccc0d3cd0fb13c162", func := "manor/manorkeep.Strange", spec := "strange", inPlace := ["internal/abi.NoEscape", "internal/bytealg.MakeNoZero", "slices.overlaps[rune]", "internal/bytealg.IndexByteString", "internal/bytealg.IndexString", "internal/bytealg.CountString"], unfollowed := true, recurses := true, named := ["unicode/utf8.first", "unicode/utf8.acceptRanges", "unicode.CaseRanges", "manor/manor.table", "internal/bytealg.MaxLen"], apart := false, laid := [("unicode/utf8.acceptRanges", laid_unicode_utf8_acceptRanges), ("manor/manor.table", laid_manor_manor_table), ("unicode.CaseRanges", laid_unicode_CaseRanges), ("unicode/utf8.first", laid_unicode_utf8_first)], narrowed := true }
def StrangeUptoSaid : Prop := strangeUptoRow.holds Tryz.pinned (OpenSpec.upto strangeSpec)

/-- 'manorlaw.Whole', WHERE WHAT IT READS IS OF BULK AT MOST 1048576: true; the input reads as it did. -/
def wholeUptoRow : OpenClaim := { program := "ytkaaldhejpaiiaagreatdoor", sum := "98cf7a930b65000c36c68eabe045e0855959bc6bd3c8649ccc0d3cd0fb13c162", func := "manor/manorlaw.Whole", spec := "whole", inPlace := ["internal/bytealg.CountString", "internal/bytealg.IndexByteString", "internal/bytealg.IndexString", "internal/abi.NoEscape", "internal/bytealg.MakeNoZero", "slices.overlaps[rune]"], unfollowed := true, recurses := true, named := ["unicode/utf8.first", "unicode/utf8.acceptRanges", "internal/bytealg.MaxLen", "unicode.CaseRanges", "manor/manor.table"], apart := false, laid := [("unicode/utf8.acceptRanges", laid_unicode_utf8_acceptRanges), ("manor/manor.table", laid_manor_manor_table), ("unicode.CaseRanges", laid_unicode_CaseRanges), ("unicode/utf8.first", laid_unicode_utf8_first)], narrowed := true }
def WholeUptoSaid : Prop := wholeUptoRow.holds Tryz.pinned (OpenSpec.upto wholeSpec)

/-- 'manorkeep.Joined', WHERE WHAT IT READS IS OF BULK AT MOST 1048576: true; the input reads as it did. -/
def joinedUptoRow : OpenClaim := { program := "ytkaaldhejpaiiaagreatdoor", sum := "98cf7a930b65000c36c68eabe045e0855959bc6bd3c8649ccc0d3cd0fb13c162", func := "manor/manorkeep.Joined", spec := "joined", inPlace := ["internal/abi.NoEscape", "internal/bytealg.MakeNoZero", "slices.overlaps[rune]", "internal/bytealg.IndexByteString", "internal/bytealg.IndexString", "internal/bytealg.CountString"], unfollowed := true, recurses := true, named := ["unicode/utf8.first", "unicode/utf8.acceptRanges", "unicode.CaseRanges", "manor/manor.table", "internal/bytealg.MaxLen"], apart := false, laid := [("unicode/utf8.acceptRanges", laid_unicode_utf8_acceptRanges), ("manor/manor.table", laid_manor_manor_table), ("unicode.CaseRanges", laid_unicode_CaseRanges), ("unicode/utf8.first", laid_unicode_utf8_first)], narrowed := true }
def JoinedUptoSaid : Prop := joinedUptoRow.holds Tryz.pinned (OpenSpec.upto joinedSpec)

/-- 'manorkeep.Sided', WHERE WHAT IT READS IS OF BULK AT MOST 1048576: true; the input reads as it did. -/
def sidedUptoRow : OpenClaim := { program := "ytkaaldhejpaiiaagreatdoor", sum := "98cf7a930b65000c36c68eabe045e0855959bc6bd3c8649ccc0d3cd0fb13c162", func := "manor/manorkeep.Sided", spec := "sided", inPlace := ["internal/abi.NoEscape", "internal/bytealg.MakeNoZero", "slices.overlaps[rune]", "internal/bytealg.IndexByteString", "internal/bytealg.IndexString", "internal/bytealg.CountString"], unfollowed := true, recurses := true, named := ["unicode/utf8.first", "unicode/utf8.acceptRanges", "unicode.CaseRanges", "manor/manor.table", "internal/bytealg.MaxLen"], apart := false, laid := [("unicode/utf8.acceptRanges", laid_unicode_utf8_acceptRanges), ("manor/manor.table", laid_manor_manor_table), ("unicode.CaseRanges", laid_unicode_CaseRanges), ("unicode/utf8.first", laid_unicode_utf8_first)], narrowed := true }
def SidedUptoSaid : Prop := sidedUptoRow.holds Tryz.pinned (OpenSpec.upto sidedSpec)

end Rows
end Go.Proofs.YtkaaldhejpaiiaaGreatDoor
