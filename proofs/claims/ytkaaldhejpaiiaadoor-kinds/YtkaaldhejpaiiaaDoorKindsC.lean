/- Kinds: the tied card. -/
import Derived.Test.YtkaaldhejpaiiaaDoorKindsP
import Derived.Test.YtkaaldhejpaiiaaDoorTie
import Derived.Test.YtkaaldhejpaiiaaDoorCards
import Derived.SevenTiedAt
namespace Go.Proofs.YtkaaldhejpaiiaaDoor
open Go
theorem kindsCard_holds : Rows.KindsCardSaid :=
  Claim7.holds_tied_plain_at .later [] [.data] true (true, "54cbbe1ce43dad076c4794255d2964d788a6cdb829ae9006a9b1768aa6d474db") false
    kinds_holds (fun _ h => by cases h) (by kernel_rfl) (fun _ h => by cases h) kinds_row_tie rfl ⟨rfl, rfl⟩ (by kernel_rfl) rfl
    (fun f fn hf hfn => by
      obtain rfl : f = 7 := Option.some.inj ((show Tryd.prog.funcNamed "manor/manorlaw.Kinds" = some 7 by kernel_rfl).symm.trans hf) |>.symm
      obtain rfl : fn = Tryd.f7 := (Option.some.inj (Tryd.func7.symm.trans hfn)).symm
      exact ⟨by kernel_rfl, fun j t ht => by
        rw [Tryd.params7] at ht
        have hm : t ∈ [3] := by simpa using Array.mem_of_getElem? ht
        have hall : ([3].all fun u => !Tryd.prog.wantsStandIn u) = true := by kernel_rfl
        exact (show Tryd.prog.wantsStandIn t = false by simpa using List.all_eq_true.1 hall t hm)⟩)
    (by kernel_rfl)
#print axioms kindsCard_holds
end Go.Proofs.YtkaaldhejpaiiaaDoor
