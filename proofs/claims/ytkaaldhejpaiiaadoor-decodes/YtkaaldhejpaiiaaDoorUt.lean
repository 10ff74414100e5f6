/- A world that lays the tables of unicode/utf8; what the rows' condition gives. -/
import Derived.Test.YtkaaldhejpaiiaaDoorRows
import Derived.Test.YtkaaldhejpaiiaaDoorValid
import Derived.ProofKit
import Derived.LaidMore
import Derived.LaidHandle
import Derived.OpenShut
import Derived.Stop.Joined
import Derived.Lib.LaidU8T
import Derived.PinnedBridge
namespace Go.Proofs.YtkaaldhejpaiiaaDoor
open Go.RowKit

theorem ownU : ownKnob Tryd.prog.godebug = none := by kernel_rfl
theorem laidOutU : laidOutB Tryd.prog = true := by kernel_rfl
theorem extraU : U8Extra Tryd.prog laysValid_ren := ⟨by kernel_rfl, by kernel_rfl, by kernel_rfl, by kernel_rfl, by kernel_rfl, by kernel_rfl, by kernel_rfl⟩
theorem accept_is : (Rows.laid_unicode_utf8_acceptRanges : DataW Unit) = Lib.acceptData := by kernel_rfl
def utfLaid : List (String × DataW Unit) := [("unicode/utf8.acceptRanges", Rows.laid_unicode_utf8_acceptRanges), ("unicode/utf8.first", Rows.laid_unicode_utf8_first)]
theorem tabs_of {W : World} (h : laidMetH Tryd.prog utfLaid W) : Lib.Utf8Tabs 0 1 W := by
  rw [MakeChecks.laidMetH_plain _ _ _ (by kernel_rfl)] at h
  obtain ⟨ps, ⟨g0, t0, cs0, f0, p0, q0, hg0, ht0, hv0, hd0, ⟨g1, t1, cs1, f1, p1, q1, hg1, ht1, hv1, hd1, _, _⟩, _⟩, _, _⟩ := h
  rw [accept_is] at hd0
  have e1 : Rows.laid_unicode_utf8_first = Lib.firstData := Pinned.utf8First_eq
  rw [e1] at hd1
  exact utf8Tabs_of_readsT (U8Types.of196 laysValid) extraU ⟨g1, t1, cs1, f1, p1, hg1, ht1, hv1, hd1⟩ ⟨g0, t0, cs0, f0, p0, hg0, ht0, hv0, hd0⟩

def firstCells : Array Value := (Lib.firstTab.map fun z => Value.int .u8 z).toArray
noncomputable def utfWorld (os : Os) : World :=
  let w0 := World.doorLaid Tryd.prog 50 os
  { w0 with heap := w0.heap.modify 0 fun
      | .cells _ t frozen => .cells firstCells t frozen
      | o => o }
theorem utf_met (os : Os) (args : Array Value) : laidMetH Tryd.prog utfLaid ((utfWorld os).forCall (fun _ _ => 0) ⟨#[], args, []⟩).memory :=
  laidMetH_of_parts3 (fuel := 8) (laidMet_of_run' 8 (by kernel_rfl) (by kernel_rfl)) (by kernel_rfl) (by kernel_rfl)
end Go.Proofs.YtkaaldhejpaiiaaDoor
