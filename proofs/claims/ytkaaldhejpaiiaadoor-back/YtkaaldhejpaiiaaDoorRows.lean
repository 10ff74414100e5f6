/-
  NARROWER THAN 'FOR EVERY INPUT', by the rows' own cells (each row's printed sentence says how): Encodes: laid · Decodes: laid · Back: laid · Plain: laid · Kinds: laid.
  DERIVED. THE GIVEN ROWS OF THIS SEAT. 5 by the template 'for every input the law returns true; each argument reads behind the call as it read before'; 0 by the template 'total and deterministic' (their statements: YtkaaldhejpaiiaaDoorTotals.lean).
  GIVEN WITH THE SEED: the statements are not yours to turn. If you find one false, say at which input.
  Laid BY PROGRAM, IN A SANDBOX (cutbox-rows.mjs): the forced cells as the released guide's own fill.sh prints them over the translation 5687c43230337281… (all of the seat's roots in one cut). By AI agents, Wed Nov 11 2026. No macro, syntax, notation, axiom, sorry.
-/
import Derived.Test.YtkaaldhejpaiiaaDoorChecked
import GoSem.PinnedTables
import GoSem.Claim
import GoSem.ClaimJoined
import GoSem.ClaimMapViews
import Derived.JoinedTies
import Derived.KernelRfl
namespace Go.Proofs.YtkaaldhejpaiiaaDoor
/- THE CELL 'sum', in the pinned program and in every row, IS THE sha256 OF THE DUMP (.gsa) THAT YtkaaldhejpaiiaaDoorProg.lean LOADS. Nothing in Lean hashes anything: it is a label: what it is worth is what the hold of that sum in a sandbox is worth. -/
noncomputable def Tryd.pinned : Pinned := { name := "ytkaaldhejpaiiaadoor", sum := "5687c4323033728190aa6b188e3bcf6e9ae06d5815c857a9e2197926c03791f3", checked := Tryd.checked }
namespace Rows
def none {H : Type} : Left H := { results := [], args := [] }

/- WHAT THE LISTED PACKAGE-LEVEL VARIABLES READ AS WHEN THE CALL BEGINS. Each datum BY PROGRAM (the guide's laid-datum.mjs) off the statement by which the dump's own 'gosem.cut.vars' lays the variable. In a bare row this is a premise. The card (YtkaaldhejpaiiaaDoorCards.lean) ties it to the program's text. -/
def laid_unicode_utf8_acceptRanges {H : Type} : DataW H := .agg [.agg [.lit (.int .u8 128), .lit (.int .u8 191)], .agg [.lit (.int .u8 160), .lit (.int .u8 191)], .agg [.lit (.int .u8 128), .lit (.int .u8 159)], .agg [.lit (.int .u8 144), .lit (.int .u8 191)], .agg [.lit (.int .u8 128), .lit (.int .u8 143)], .agg [.lit (.int .u8 0), .lit (.int .u8 0)], .agg [.lit (.int .u8 0), .lit (.int .u8 0)], .agg [.lit (.int .u8 0), .lit (.int .u8 0)], .agg [.lit (.int .u8 0), .lit (.int .u8 0)], .agg [.lit (.int .u8 0), .lit (.int .u8 0)], .agg [.lit (.int .u8 0), .lit (.int .u8 0)], .agg [.lit (.int .u8 0), .lit (.int .u8 0)], .agg [.lit (.int .u8 0), .lit (.int .u8 0)], .agg [.lit (.int .u8 0), .lit (.int .u8 0)], .agg [.lit (.int .u8 0), .lit (.int .u8 0)], .agg [.lit (.int .u8 0), .lit (.int .u8 0)]]
/-- One of Go's own tables, pinned by name: the form's constant. -/
def laid_unicode_utf8_first : DataW Unit := Go.Pinned.utf8First
def laid_manor_manor_table {H : Type} : DataW H := .agg [.agg [.lit (.int .i32 45), .lit (.int .i32 45), .lit (.int .u8 3), .lit (.int .u8 6), .lit (.int .u8 0), .lit (.int .u8 0)], .agg [.lit (.int .i32 48), .lit (.int .i32 57), .lit (.int .u8 2), .lit (.int .u8 4), .lit (.int .u8 0), .lit (.int .u8 0)], .agg [.lit (.int .i32 97), .lit (.int .i32 122), .lit (.int .u8 1), .lit (.int .u8 1), .lit (.int .u8 1), .lit (.int .u8 0)], .agg [.lit (.int .i32 183), .lit (.int .i32 183), .lit (.int .u8 5), .lit (.int .u8 0), .lit (.int .u8 0), .lit (.int .u8 0)], .agg [.lit (.int .i32 223), .lit (.int .i32 246), .lit (.int .u8 1), .lit (.int .u8 1), .lit (.int .u8 1), .lit (.int .u8 0)], .agg [.lit (.int .i32 248), .lit (.int .i32 255), .lit (.int .u8 1), .lit (.int .u8 1), .lit (.int .u8 1), .lit (.int .u8 0)], .agg [.lit (.int .i32 768), .lit (.int .i32 831), .lit (.int .u8 4), .lit (.int .u8 7), .lit (.int .u8 0), .lit (.int .u8 3)], .agg [.lit (.int .i32 834), .lit (.int .i32 834), .lit (.int .u8 4), .lit (.int .u8 7), .lit (.int .u8 0), .lit (.int .u8 3)], .agg [.lit (.int .i32 837), .lit (.int .i32 846), .lit (.int .u8 4), .lit (.int .u8 7), .lit (.int .u8 0), .lit (.int .u8 3)], .agg [.lit (.int .i32 848), .lit (.int .i32 879), .lit (.int .u8 4), .lit (.int .u8 7), .lit (.int .u8 0), .lit (.int .u8 3)], .agg [.lit (.int .i32 885), .lit (.int .i32 885), .lit (.int .u8 5), .lit (.int .u8 0), .lit (.int .u8 2), .lit (.int .u8 0)], .agg [.lit (.int .i32 940), .lit (.int .i32 974), .lit (.int .u8 1), .lit (.int .u8 1), .lit (.int .u8 2), .lit (.int .u8 0)], .agg [.lit (.int .i32 1488), .lit (.int .i32 1514), .lit (.int .u8 1), .lit (.int .u8 2), .lit (.int .u8 3), .lit (.int .u8 0)], .agg [.lit (.int .i32 1523), .lit (.int .i32 1524), .lit (.int .u8 5), .lit (.int .u8 2), .lit (.int .u8 3), .lit (.int .u8 0)], .agg [.lit (.int .i32 1575), .lit (.int .i32 1575), .lit (.int .u8 1), .lit (.int .u8 3), .lit (.int .u8 4), .lit (.int .u8 1)], .agg [.lit (.int .i32 1576), .lit (.int .i32 1576), .lit (.int .u8 1), .lit (.int .u8 3), .lit (.int .u8 4), .lit (.int .u8 2)], .agg [.lit (.int .i32 1577), .lit (.int .i32 1577), .lit (.int .u8 1), .lit (.int .u8 3), .lit (.int .u8 4), .lit (.int .u8 1)], .agg [.lit (.int .i32 1578), .lit (.int .i32 1582), .lit (.int .u8 1), .lit (.int .u8 3), .lit (.int .u8 4), .lit (.int .u8 2)], .agg [.lit (.int .i32 1583), .lit (.int .i32 1586), .lit (.int .u8 1), .lit (.int .u8 3), .lit (.int .u8 4), .lit (.int .u8 1)], .agg [.lit (.int .i32 1587), .lit (.int .i32 1594), .lit (.int .u8 1), .lit (.int .u8 3), .lit (.int .u8 4), .lit (.int .u8 2)], .agg [.lit (.int .i32 1601), .lit (.int .i32 1607), .lit (.int .u8 1), .lit (.int .u8 3), .lit (.int .u8 4), .lit (.int .u8 2)], .agg [.lit (.int .i32 1608), .lit (.int .i32 1608), .lit (.int .u8 1), .lit (.int .u8 3), .lit (.int .u8 4), .lit (.int .u8 1)], .agg [.lit (.int .i32 1609), .lit (.int .i32 1610), .lit (.int .u8 1), .lit (.int .u8 3), .lit (.int .u8 4), .lit (.int .u8 2)], .agg [.lit (.int .i32 1611), .lit (.int .i32 1618), .lit (.int .u8 4), .lit (.int .u8 7), .lit (.int .u8 0), .lit (.int .u8 3)], .agg [.lit (.int .i32 1632), .lit (.int .i32 1641), .lit (.int .u8 5), .lit (.int .u8 5), .lit (.int .u8 0), .lit (.int .u8 0)], .agg [.lit (.int .i32 1776), .lit (.int .i32 1785), .lit (.int .u8 5), .lit (.int .u8 4), .lit (.int .u8 0), .lit (.int .u8 0)], .agg [.lit (.int .i32 2309), .lit (.int .i32 2361), .lit (.int .u8 1), .lit (.int .u8 1), .lit (.int .u8 5), .lit (.int .u8 0)], .agg [.lit (.int .i32 2381), .lit (.int .i32 2381), .lit (.int .u8 4), .lit (.int .u8 7), .lit (.int .u8 0), .lit (.int .u8 3)], .agg [.lit (.int .i32 8204), .lit (.int .i32 8205), .lit (.int .u8 5), .lit (.int .u8 0), .lit (.int .u8 0), .lit (.int .u8 0)], .agg [.lit (.int .i32 12353), .lit (.int .i32 12438), .lit (.int .u8 1), .lit (.int .u8 1), .lit (.int .u8 6), .lit (.int .u8 0)], .agg [.lit (.int .i32 12449), .lit (.int .i32 12538), .lit (.int .u8 1), .lit (.int .u8 1), .lit (.int .u8 7), .lit (.int .u8 0)], .agg [.lit (.int .i32 12539), .lit (.int .i32 12539), .lit (.int .u8 5), .lit (.int .u8 0), .lit (.int .u8 0), .lit (.int .u8 0)], .agg [.lit (.int .i32 19968), .lit (.int .i32 40959), .lit (.int .u8 1), .lit (.int .u8 1), .lit (.int .u8 8), .lit (.int .u8 0)]]

/-- 'manorlaw.Encodes': WHATEVER THE INPUT: true; the input reads as it did. -/
def encodesSpec : ChangeSpec := { name := "encodes", fn := fun _ => fun
  | [d] => { results := [.lit (.bool true)], args := [d] }
  | _ => none }
def encodesRow : OpenClaim := { program := "ytkaaldhejpaiiaadoor", sum := "5687c4323033728190aa6b188e3bcf6e9ae06d5815c857a9e2197926c03791f3", func := "manor/manorlaw.Encodes", spec := "encodes", inPlace := ["slices.overlaps[rune]"], recurses := true, named := ["unicode/utf8.first", "unicode/utf8.acceptRanges"], apart := false, laid := [("unicode/utf8.acceptRanges", laid_unicode_utf8_acceptRanges), ("unicode/utf8.first", laid_unicode_utf8_first)] }
def EncodesSaid : Prop := encodesRow.holds Tryd.pinned (OpenSpec.ofChange encodesSpec)

/-- ITS FALSE NEIGHBOUR: 'it returns false'. Refute it at one input. -/
def encodesWrong : ChangeSpec := { name := "encodes", fn := fun _ => fun
  | [d] => { results := [.lit (.bool false)], args := [d] }
  | _ => none }
def EncodesWrongFalsely : Prop := encodesRow.holds Tryd.pinned (OpenSpec.ofChange encodesWrong)

/-- 'manorlaw.Decodes': WHATEVER THE INPUT: true; the input reads as it did. -/
def decodesSpec : ChangeSpec := { name := "decodes", fn := fun _ => fun
  | [d] => { results := [.lit (.bool true)], args := [d] }
  | _ => none }
def decodesRow : OpenClaim := { program := "ytkaaldhejpaiiaadoor", sum := "5687c4323033728190aa6b188e3bcf6e9ae06d5815c857a9e2197926c03791f3", func := "manor/manorlaw.Decodes", spec := "decodes", inPlace := ["slices.overlaps[rune]"], recurses := true, named := ["unicode/utf8.first", "unicode/utf8.acceptRanges"], apart := false, laid := [("unicode/utf8.acceptRanges", laid_unicode_utf8_acceptRanges), ("unicode/utf8.first", laid_unicode_utf8_first)] }
def DecodesSaid : Prop := decodesRow.holds Tryd.pinned (OpenSpec.ofChange decodesSpec)

/-- ITS FALSE NEIGHBOUR: 'it returns false'. Refute it at one input. -/
def decodesWrong : ChangeSpec := { name := "decodes", fn := fun _ => fun
  | [d] => { results := [.lit (.bool false)], args := [d] }
  | _ => none }
def DecodesWrongFalsely : Prop := decodesRow.holds Tryd.pinned (OpenSpec.ofChange decodesWrong)

/-- 'manorkeep.Back': WHATEVER THE INPUT: true; the input reads as it did. -/
def backSpec : ChangeSpec := { name := "back", fn := fun _ => fun
  | [d1, d2] => { results := [.lit (.bool true)], args := [d1, d2] }
  | _ => none }
def backRow : OpenClaim := { program := "ytkaaldhejpaiiaadoor", sum := "5687c4323033728190aa6b188e3bcf6e9ae06d5815c857a9e2197926c03791f3", func := "manor/manorkeep.Back", spec := "back", inPlace := ["slices.overlaps[rune]"], recurses := true, named := ["unicode/utf8.first", "unicode/utf8.acceptRanges"], apart := false, laid := [("unicode/utf8.acceptRanges", laid_unicode_utf8_acceptRanges), ("unicode/utf8.first", laid_unicode_utf8_first)] }
def BackSaid : Prop := backRow.holds Tryd.pinned (OpenSpec.ofChange backSpec)

/-- ITS FALSE NEIGHBOUR: 'it returns false'. Refute it at one input. -/
def backWrong : ChangeSpec := { name := "back", fn := fun _ => fun
  | [d1, d2] => { results := [.lit (.bool false)], args := [d1, d2] }
  | _ => none }
def BackWrongFalsely : Prop := backRow.holds Tryd.pinned (OpenSpec.ofChange backWrong)

/-- 'manorkeep.Plain': WHATEVER THE INPUT: true; the input reads as it did. -/
def plainSpec : ChangeSpec := { name := "plain", fn := fun _ => fun
  | [d] => { results := [.lit (.bool true)], args := [d] }
  | _ => none }
def plainRow : OpenClaim := { program := "ytkaaldhejpaiiaadoor", sum := "5687c4323033728190aa6b188e3bcf6e9ae06d5815c857a9e2197926c03791f3", func := "manor/manorkeep.Plain", spec := "plain", inPlace := ["slices.overlaps[rune]"], recurses := true, named := ["unicode/utf8.first", "unicode/utf8.acceptRanges"], apart := false, laid := [("unicode/utf8.acceptRanges", laid_unicode_utf8_acceptRanges), ("unicode/utf8.first", laid_unicode_utf8_first)] }
def PlainSaid : Prop := plainRow.holds Tryd.pinned (OpenSpec.ofChange plainSpec)

/-- ITS FALSE NEIGHBOUR: 'it returns false'. Refute it at one input. -/
def plainWrong : ChangeSpec := { name := "plain", fn := fun _ => fun
  | [d] => { results := [.lit (.bool false)], args := [d] }
  | _ => none }
def PlainWrongFalsely : Prop := plainRow.holds Tryd.pinned (OpenSpec.ofChange plainWrong)

/-- 'manorlaw.Kinds': WHATEVER THE INPUT: true; the input reads as it did. -/
def kindsSpec : ChangeSpec := { name := "kinds", fn := fun _ => fun
  | [d] => { results := [.lit (.bool true)], args := [d] }
  | _ => none }
def kindsRow : OpenClaim := { program := "ytkaaldhejpaiiaadoor", sum := "5687c4323033728190aa6b188e3bcf6e9ae06d5815c857a9e2197926c03791f3", func := "manor/manorlaw.Kinds", spec := "kinds", unfollowed := true, recurses := true, named := ["manor/manor.table"], apart := false, laid := [("manor/manor.table", laid_manor_manor_table)] }
def KindsSaid : Prop := kindsRow.holds Tryd.pinned (OpenSpec.ofChange kindsSpec)

/-- ITS FALSE NEIGHBOUR: 'it returns false'. Refute it at one input. -/
def kindsWrong : ChangeSpec := { name := "kinds", fn := fun _ => fun
  | [d] => { results := [.lit (.bool false)], args := [d] }
  | _ => none }
def KindsWrongFalsely : Prop := kindsRow.holds Tryd.pinned (OpenSpec.ofChange kindsWrong)

/- THE SECOND FORM. 'bulk': how many values and letters a reading holds, each counted each time it is reached (what is shared counts as often as it is met; a slice's spare places count too). A statement '..UptoSaid' is the law's where the arguments, and the package variables that the reading takes, are together of bulk at most 1048576: NARROWER than '..Said'. Prove '..Said' where nothing that the law and all that it calls make is longer than what came in: it says more and counts as full. Else prove '..UptoSaid'. A law counts once. -/
mutual
def uptoBulk {H : Type} : DataW H → Nat
  | .lit (.string bytes) => bytes.length + 1
  | .lit _ => 1
  | .nil => 1
  | .ptr d => uptoBulk d + 1
  | .slice elems spare => uptoBulkAll elems + uptoBulkAll spare + 1
  | .agg parts => uptoBulkAll parts + 1
  | .iface _ d => uptoBulk d + 1
  | .map entries => uptoBulkEntries entries + 1
  | .held _ => 1
def uptoBulkAll {H : Type} : List (DataW H) → Nat
  | [] => 0
  | d :: r => uptoBulk d + uptoBulkAll r
def uptoBulkEntries {H : Type} : List (Lit × DataW H) → Nat
  | [] => 0
  | x :: r => uptoBulkEntry x + uptoBulkEntries r
def uptoBulkEntry {H : Type} : Lit × DataW H → Nat
  | (.string bytes, d) => bytes.length + uptoBulk d + 1
  | (_, d) => uptoBulk d + 1
 end
def uptoSmall : (H : Type) → List (DataW H) → Bool := fun _ ds => decide (uptoBulkAll ds ≤ 1048576)
def OpenSpec.upto (s : _root_.Go.ChangeSpec) : _root_.Go.OpenSpec := { _root_.Go.OpenSpec.ofChange s with cond := some uptoSmall }

/-- 'manorlaw.Encodes', WHERE WHAT IT READS IS OF BULK AT MOST 1048576: true; the input reads as it did. -/
def encodesUptoRow : OpenClaim := { program := "ytkaaldhejpaiiaadoor", sum := "5687c4323033728190aa6b188e3bcf6e9ae06d5815c857a9e2197926c03791f3", func := "manor/manorlaw.Encodes", spec := "encodes", inPlace := ["slices.overlaps[rune]"], recurses := true, named := ["unicode/utf8.first", "unicode/utf8.acceptRanges"], apart := false, laid := [("unicode/utf8.acceptRanges", laid_unicode_utf8_acceptRanges), ("unicode/utf8.first", laid_unicode_utf8_first)], narrowed := true }
def EncodesUptoSaid : Prop := encodesUptoRow.holds Tryd.pinned (OpenSpec.upto encodesSpec)

/-- 'manorlaw.Decodes', WHERE WHAT IT READS IS OF BULK AT MOST 1048576: true; the input reads as it did. -/
def decodesUptoRow : OpenClaim := { program := "ytkaaldhejpaiiaadoor", sum := "5687c4323033728190aa6b188e3bcf6e9ae06d5815c857a9e2197926c03791f3", func := "manor/manorlaw.Decodes", spec := "decodes", inPlace := ["slices.overlaps[rune]"], recurses := true, named := ["unicode/utf8.first", "unicode/utf8.acceptRanges"], apart := false, laid := [("unicode/utf8.acceptRanges", laid_unicode_utf8_acceptRanges), ("unicode/utf8.first", laid_unicode_utf8_first)], narrowed := true }
def DecodesUptoSaid : Prop := decodesUptoRow.holds Tryd.pinned (OpenSpec.upto decodesSpec)

/-- 'manorkeep.Back', WHERE WHAT IT READS IS OF BULK AT MOST 1048576: true; the input reads as it did. -/
def backUptoRow : OpenClaim := { program := "ytkaaldhejpaiiaadoor", sum := "5687c4323033728190aa6b188e3bcf6e9ae06d5815c857a9e2197926c03791f3", func := "manor/manorkeep.Back", spec := "back", inPlace := ["slices.overlaps[rune]"], recurses := true, named := ["unicode/utf8.first", "unicode/utf8.acceptRanges"], apart := false, laid := [("unicode/utf8.acceptRanges", laid_unicode_utf8_acceptRanges), ("unicode/utf8.first", laid_unicode_utf8_first)], narrowed := true }
def BackUptoSaid : Prop := backUptoRow.holds Tryd.pinned (OpenSpec.upto backSpec)

/-- 'manorkeep.Plain', WHERE WHAT IT READS IS OF BULK AT MOST 1048576: true; the input reads as it did. -/
def plainUptoRow : OpenClaim := { program := "ytkaaldhejpaiiaadoor", sum := "5687c4323033728190aa6b188e3bcf6e9ae06d5815c857a9e2197926c03791f3", func := "manor/manorkeep.Plain", spec := "plain", inPlace := ["slices.overlaps[rune]"], recurses := true, named := ["unicode/utf8.first", "unicode/utf8.acceptRanges"], apart := false, laid := [("unicode/utf8.acceptRanges", laid_unicode_utf8_acceptRanges), ("unicode/utf8.first", laid_unicode_utf8_first)], narrowed := true }
def PlainUptoSaid : Prop := plainUptoRow.holds Tryd.pinned (OpenSpec.upto plainSpec)

/-- 'manorlaw.Kinds', WHERE WHAT IT READS IS OF BULK AT MOST 1048576: true; the input reads as it did. -/
def kindsUptoRow : OpenClaim := { program := "ytkaaldhejpaiiaadoor", sum := "5687c4323033728190aa6b188e3bcf6e9ae06d5815c857a9e2197926c03791f3", func := "manor/manorlaw.Kinds", spec := "kinds", unfollowed := true, recurses := true, named := ["manor/manor.table"], apart := false, laid := [("manor/manor.table", laid_manor_manor_table)], narrowed := true }
def KindsUptoSaid : Prop := kindsUptoRow.holds Tryd.pinned (OpenSpec.upto kindsSpec)

end Rows
end Go.Proofs.YtkaaldhejpaiiaaDoor
