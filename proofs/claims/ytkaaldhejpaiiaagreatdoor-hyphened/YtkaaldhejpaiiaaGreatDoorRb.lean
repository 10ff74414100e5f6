/- The walk of the law Plain. -/
import Derived.Test.YtkaaldhejpaiiaaGreatDoorRa
namespace Go.Proofs.YtkaaldhejpaiiaaGreatDoor
open Go.RowKit

set_option maxHeartbeats 1000000 in
theorem pick_any (c : Int) (w : World) (h1 : -9223372036854775808 ≤ c) (h2 : c ≤ 9223372036854775807) :
    Calls Tryz.prog 15 #[.int .i64 c, .int .i64 128] w fun e w' => (∃ p : Nat, p < 128 ∧ e = .returned (.int .i64 (p : Int))) ∧ w' = w := by
  by_cases hc : c < 0
  · have hn : 0 ≤ -(c + 1) := by omega
    go_enter Tryz.func15, Tryz.ntmps15
    go_wp2
    go_ret
    refine ⟨⟨((-(c + 1)) % 128).toNat, by omega, ret_int ?_⟩, rfl⟩
    rw [← Int.neg_tmod, Int.tmod_eq_emod_of_nonneg hn]
    omega
  · go_enter Tryz.func15, Tryz.ntmps15
    go_wp2
    go_ret
    refine ⟨⟨(c % 128).toNat, by omega, ret_int ?_⟩, rfl⟩
    first | omega | (rw [Int.tmod_eq_emod_of_nonneg (by omega)]; omega)
theorem run_oneString (W : World) (p : Nat) (hp : p < 128) :
    (convert 30 9 (.slice (some ⟨W.heap.size, 0, none⟩) 1 1)).run Tryz.prog (W.alloc (.cells #[.int .u8 (p : Int)] 5)) = .ok (.string ⟨#[UInt8.ofNat p]⟩) (W.alloc (.cells #[.int .u8 (p : Int)] 5)) := by
  have ho : (W.alloc (.cells #[.int .u8 (p : Int)] 5)).ownsRow 0 5 1 (.slice (some ⟨W.heap.size, 0, none⟩) 1 1) 1 ([UInt8.ofNat p].map bv) := by
    refine ⟨rfl, .inr ⟨W.heap.size, 1, _, rfl, Nat.zero_le _, Go.heap_alloc_new W _, Nat.le_refl _, by unfold maxLen; omega, rfl, ?_⟩⟩
    simp [bv]
    omega
  exact run_formString _ 0 1 _ [UInt8.ofNat p] rfl ho

def oneA : ByteArray := { data := #[97] }
def oneAH : ByteArray := { data := #[97, 45] }
end Go.Proofs.YtkaaldhejpaiiaaGreatDoor
