/-
  DERIVED. GIVEN WITH THE SEED: THE CARDS: each row of YtkaaldhejpaiiaaGreatDoorRows.lean that lists a variable, with what it lists TIED to the program's text (the seventh form; the later family's looks); each row that meets fmt, with fmt's text TOLD by the authors' own Lean function (tested against real Go, not proved from fmt's source: count such statements apart). THE CARD IS WHAT COUNTS. Prove the row's statement (the work); the ties are given (YtkaaldhejpaiiaaGreatDoorTie.lean); close each card by the builder's one call (the guide's Derived/Test/ToyasCard.lean, 'card_holds'). Laid BY PROGRAM, IN A SANDBOX (cutbox-door.mjs). By AI agents, Wed Nov 11 2026. No macro, syntax, notation, axiom, sorry.
-/
import Derived.Test.YtkaaldhejpaiiaaGreatDoorRows
import GoSem.ClaimSeven
namespace Go.Proofs.YtkaaldhejpaiiaaGreatDoor
namespace Rows

/-- THE TIED CARD OF 'manorlaw.Labels'. -/
def labelsCard : Claim7 := { stood := { row := labelsRow, standIns := [], harness := (true, "4369fcc7aa2ac79c55864d32d89cc5f2002f28c820f8da33d7d2affac66195d2"), looks := false }, kinds := [], alts := [], laidByText := true, laidKinds := [.data, .data, .pinned, .pinned], laidTests := true, laidLooks := .later }
def LabelsCardSaid : Prop := Claim7.holds Tryz.pinned (.plain (OpenSpec.ofChange labelsSpec)) labelsCard

/-- THE TIED CARD OF 'manorkeep.Twice'. -/
def twiceCard : Claim7 := { stood := { row := twiceRow, standIns := [], harness := (true, "4369fcc7aa2ac79c55864d32d89cc5f2002f28c820f8da33d7d2affac66195d2"), looks := false }, kinds := [], alts := [], laidByText := true, laidKinds := [.data, .data, .pinned, .pinned], laidTests := true, laidLooks := .later }
def TwiceCardSaid : Prop := Claim7.holds Tryz.pinned (.plain (OpenSpec.ofChange twiceSpec)) twiceCard

/-- THE TIED CARD OF 'manorkeep.Hyphened'. -/
def hyphenedCard : Claim7 := { stood := { row := hyphenedRow, standIns := [], harness := (true, "4369fcc7aa2ac79c55864d32d89cc5f2002f28c820f8da33d7d2affac66195d2"), looks := false }, kinds := [], alts := [], laidByText := true, laidKinds := [.data, .data, .pinned, .pinned], laidTests := true, laidLooks := .later }
def HyphenedCardSaid : Prop := Claim7.holds Tryz.pinned (.plain (OpenSpec.ofChange hyphenedSpec)) hyphenedCard

/-- THE TIED CARD OF 'manorkeep.Strange'. -/
def strangeCard : Claim7 := { stood := { row := strangeRow, standIns := [], harness := (true, "4369fcc7aa2ac79c55864d32d89cc5f2002f28c820f8da33d7d2affac66195d2"), looks := false }, kinds := [], alts := [], laidByText := true, laidKinds := [.data, .data, .pinned, .pinned], laidTests := true, laidLooks := .later }
def StrangeCardSaid : Prop := Claim7.holds Tryz.pinned (.plain (OpenSpec.ofChange strangeSpec)) strangeCard

/-- THE TIED CARD OF 'manorlaw.Whole'. -/
def wholeCard : Claim7 := { stood := { row := wholeRow, standIns := [], harness := (true, "4369fcc7aa2ac79c55864d32d89cc5f2002f28c820f8da33d7d2affac66195d2"), looks := false }, kinds := [], alts := [], laidByText := true, laidKinds := [.data, .data, .pinned, .pinned], laidTests := true, laidLooks := .later }
def WholeCardSaid : Prop := Claim7.holds Tryz.pinned (.plain (OpenSpec.ofChange wholeSpec)) wholeCard

/-- THE TIED CARD OF 'manorkeep.Joined'. -/
def joinedCard : Claim7 := { stood := { row := joinedRow, standIns := [], harness := (true, "4369fcc7aa2ac79c55864d32d89cc5f2002f28c820f8da33d7d2affac66195d2"), looks := false }, kinds := [], alts := [], laidByText := true, laidKinds := [.data, .data, .pinned, .pinned], laidTests := true, laidLooks := .later }
def JoinedCardSaid : Prop := Claim7.holds Tryz.pinned (.plain (OpenSpec.ofChange joinedSpec)) joinedCard

/-- THE TIED CARD OF 'manorkeep.Sided'. -/
def sidedCard : Claim7 := { stood := { row := sidedRow, standIns := [], harness := (true, "4369fcc7aa2ac79c55864d32d89cc5f2002f28c820f8da33d7d2affac66195d2"), looks := false }, kinds := [], alts := [], laidByText := true, laidKinds := [.data, .data, .pinned, .pinned], laidTests := true, laidLooks := .later }
def SidedCardSaid : Prop := Claim7.holds Tryz.pinned (.plain (OpenSpec.ofChange sidedSpec)) sidedCard

/-- THE SECOND FORM's CARD OF 'manorlaw.Labels'. -/
def labelsUptoCard : Claim7 := { stood := { row := labelsUptoRow, standIns := [], harness := (true, "4369fcc7aa2ac79c55864d32d89cc5f2002f28c820f8da33d7d2affac66195d2"), looks := false }, kinds := [], alts := [], laidByText := true, laidKinds := [.data, .data, .pinned, .pinned], laidTests := true, laidLooks := .later }
def LabelsUptoCardSaid : Prop := Claim7.holds Tryz.pinned (.plain (OpenSpec.upto labelsSpec)) labelsUptoCard

/-- THE SECOND FORM's CARD OF 'manorkeep.Twice'. -/
def twiceUptoCard : Claim7 := { stood := { row := twiceUptoRow, standIns := [], harness := (true, "4369fcc7aa2ac79c55864d32d89cc5f2002f28c820f8da33d7d2affac66195d2"), looks := false }, kinds := [], alts := [], laidByText := true, laidKinds := [.data, .data, .pinned, .pinned], laidTests := true, laidLooks := .later }
def TwiceUptoCardSaid : Prop := Claim7.holds Tryz.pinned (.plain (OpenSpec.upto twiceSpec)) twiceUptoCard

/-- THE SECOND FORM's CARD OF 'manorkeep.Hyphened'. -/
def hyphenedUptoCard : Claim7 := { stood := { row := hyphenedUptoRow, standIns := [], harness := (true, "4369fcc7aa2ac79c55864d32d89cc5f2002f28c820f8da33d7d2affac66195d2"), looks := false }, kinds := [], alts := [], laidByText := true, laidKinds := [.data, .data, .pinned, .pinned], laidTests := true, laidLooks := .later }
def HyphenedUptoCardSaid : Prop := Claim7.holds Tryz.pinned (.plain (OpenSpec.upto hyphenedSpec)) hyphenedUptoCard

/-- THE SECOND FORM's CARD OF 'manorkeep.Strange'. -/
def strangeUptoCard : Claim7 := { stood := { row := strangeUptoRow, standIns := [], harness := (true, "4369fcc7aa2ac79c55864d32d89cc5f2002f28c820f8da33d7d2affac66195d2"), looks := false }, kinds := [], alts := [], laidByText := true, laidKinds := [.data, .data, .pinned, .pinned], laidTests := true, laidLooks := .later }
def StrangeUptoCardSaid : Prop := Claim7.holds Tryz.pinned (.plain (OpenSpec.upto strangeSpec)) strangeUptoCard

/-- THE SECOND FORM's CARD OF 'manorlaw.Whole'. -/
def wholeUptoCard : Claim7 := { stood := { row := wholeUptoRow, standIns := [], harness := (true, "4369fcc7aa2ac79c55864d32d89cc5f2002f28c820f8da33d7d2affac66195d2"), looks := false }, kinds := [], alts := [], laidByText := true, laidKinds := [.data, .data, .pinned, .pinned], laidTests := true, laidLooks := .later }
def WholeUptoCardSaid : Prop := Claim7.holds Tryz.pinned (.plain (OpenSpec.upto wholeSpec)) wholeUptoCard

/-- THE SECOND FORM's CARD OF 'manorkeep.Joined'. -/
def joinedUptoCard : Claim7 := { stood := { row := joinedUptoRow, standIns := [], harness := (true, "4369fcc7aa2ac79c55864d32d89cc5f2002f28c820f8da33d7d2affac66195d2"), looks := false }, kinds := [], alts := [], laidByText := true, laidKinds := [.data, .data, .pinned, .pinned], laidTests := true, laidLooks := .later }
def JoinedUptoCardSaid : Prop := Claim7.holds Tryz.pinned (.plain (OpenSpec.upto joinedSpec)) joinedUptoCard

/-- THE SECOND FORM's CARD OF 'manorkeep.Sided'. -/
def sidedUptoCard : Claim7 := { stood := { row := sidedUptoRow, standIns := [], harness := (true, "4369fcc7aa2ac79c55864d32d89cc5f2002f28c820f8da33d7d2affac66195d2"), looks := false }, kinds := [], alts := [], laidByText := true, laidKinds := [.data, .data, .pinned, .pinned], laidTests := true, laidLooks := .later }
def SidedUptoCardSaid : Prop := Claim7.holds Tryz.pinned (.plain (OpenSpec.upto sidedSpec)) sidedUptoCard
end Rows
end Go.Proofs.YtkaaldhejpaiiaaGreatDoor
