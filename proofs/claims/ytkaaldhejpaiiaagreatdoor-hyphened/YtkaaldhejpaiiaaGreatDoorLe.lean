/- Heights: the project's. -/
import Derived.Test.YtkaaldhejpaiiaaGreatDoorLm
import Derived.Test.YtkaaldhejpaiiaaGreatDoorLc
namespace Go.Proofs.YtkaaldhejpaiiaaGreatDoor
open Go.RowKit

theorem isB_t (n a b : Int) (w : World) (h : a ≤ n ∧ n ≤ b) : Calls Tryz.prog 135 #[.int .i32 n, .int .i32 a, .int .i32 b] w fun e w' => e = .returned (.bool true) ∧ w' = w := by
  obtain ⟨h1, h2⟩ := h
  go_enter Tryz.func135, Tryz.ntmps135
  go_wp2
  go_ret
  exact ⟨rfl, rfl⟩
theorem isB_f (n a b : Int) (w : World) (h : ¬ (a ≤ n ∧ n ≤ b)) : Calls Tryz.prog 135 #[.int .i32 n, .int .i32 a, .int .i32 b] w fun e w' => e = .returned (.bool false) ∧ w' = w := by
  by_cases h1 : a ≤ n
  · have h2 : ¬ n ≤ b := fun h2 => h ⟨h1, h2⟩
    go_enter Tryz.func135, Tryz.ntmps135
    go_wp2
    go_ret
    exact ⟨rfl, rfl⟩
  · go_enter Tryz.func135, Tryz.ntmps135
    go_wp2
    go_ret
    exact ⟨rfl, rfl⟩
set_option maxHeartbeats 4000000 in
theorem heightC_any (n : Nat) (w : World) (hn : n ≤ 1114111) : Calls Tryz.prog 99 #[.int .i32 (n : Int)] w fun e w' => e = .returned (.int .i64 (Lm.height n : Nat)) ∧ w' = w := by
  by_cases h0 : n = 2381
  · have HH : Hid (Lm.height n = 9) := by unfold Hid Lm.height; rw [if_pos h0]
    rw [HH.out]
    go_enter Tryz.func99, Tryz.ntmps99
    go_wp2_with (go_at_call 135; first | (refine (isB_t _ _ _ _ (by omega)).mono ?_; rintro e w' ⟨rfl, hw'⟩; rw [hw']; clear hw') | (refine (isB_f _ _ _ _ (by omega)).mono ?_; rintro e w' ⟨rfl, hw'⟩; rw [hw']; clear hw'))
    go_ret
    exact ⟨rfl, rfl⟩
  by_cases h1 : 1611 ≤ n ∧ n ≤ 1618
  · have HH : Hid (Lm.height n = n - 1611 + 27) := by unfold Hid Lm.height; rw [if_neg h0, if_pos h1]
    rw [HH.out]
    go_enter Tryz.func99, Tryz.ntmps99
    go_wp2_with (go_at_call 135; first | (refine (isB_t _ _ _ _ (by omega)).mono ?_; rintro e w' ⟨rfl, hw'⟩; rw [hw']; clear hw') | (refine (isB_f _ _ _ _ (by omega)).mono ?_; rintro e w' ⟨rfl, hw'⟩; rw [hw']; clear hw'))
    go_ret
    exact ⟨ret_int (by omega), rfl⟩
  by_cases h2 : n = 807
  · have HH : Hid (Lm.height n = 202) := by unfold Hid Lm.height; rw [if_neg h0, if_neg h1, if_pos h2]
    rw [HH.out]
    go_enter Tryz.func99, Tryz.ntmps99
    go_wp2_with (go_at_call 135; first | (refine (isB_t _ _ _ _ (by omega)).mono ?_; rintro e w' ⟨rfl, hw'⟩; rw [hw']; clear hw') | (refine (isB_f _ _ _ _ (by omega)).mono ?_; rintro e w' ⟨rfl, hw'⟩; rw [hw']; clear hw'))
    go_ret
    exact ⟨rfl, rfl⟩
  by_cases h3 : n = 808
  · have HH : Hid (Lm.height n = 202) := by unfold Hid Lm.height; rw [if_neg h0, if_neg h1, if_neg h2, if_pos h3]
    rw [HH.out]
    go_enter Tryz.func99, Tryz.ntmps99
    go_wp2_with (go_at_call 135; first | (refine (isB_t _ _ _ _ (by omega)).mono ?_; rintro e w' ⟨rfl, hw'⟩; rw [hw']; clear hw') | (refine (isB_f _ _ _ _ (by omega)).mono ?_; rintro e w' ⟨rfl, hw'⟩; rw [hw']; clear hw'))
    go_ret
    exact ⟨rfl, rfl⟩
  by_cases h4 : 790 ≤ n ∧ n ≤ 793
  · have HH : Hid (Lm.height n = 220) := by unfold Hid Lm.height; rw [if_neg h0, if_neg h1, if_neg h2, if_neg h3, if_pos h4]
    rw [HH.out]
    go_enter Tryz.func99, Tryz.ntmps99
    go_wp2_with (go_at_call 135; first | (refine (isB_t _ _ _ _ (by omega)).mono ?_; rintro e w' ⟨rfl, hw'⟩; rw [hw']; clear hw') | (refine (isB_f _ _ _ _ (by omega)).mono ?_; rintro e w' ⟨rfl, hw'⟩; rw [hw']; clear hw'))
    go_ret
    exact ⟨rfl, rfl⟩
  by_cases h5 : 796 ≤ n ∧ n ≤ 800
  · have HH : Hid (Lm.height n = 220) := by unfold Hid Lm.height; rw [if_neg h0, if_neg h1, if_neg h2, if_neg h3, if_neg h4, if_pos h5]
    rw [HH.out]
    go_enter Tryz.func99, Tryz.ntmps99
    go_wp2_with (go_at_call 135; first | (refine (isB_t _ _ _ _ (by omega)).mono ?_; rintro e w' ⟨rfl, hw'⟩; rw [hw']; clear hw') | (refine (isB_f _ _ _ _ (by omega)).mono ?_; rintro e w' ⟨rfl, hw'⟩; rw [hw']; clear hw'))
    go_ret
    exact ⟨rfl, rfl⟩
  by_cases h6 : 803 ≤ n ∧ n ≤ 806
  · have HH : Hid (Lm.height n = 220) := by unfold Hid Lm.height; rw [if_neg h0, if_neg h1, if_neg h2, if_neg h3, if_neg h4, if_neg h5, if_pos h6]
    rw [HH.out]
    go_enter Tryz.func99, Tryz.ntmps99
    go_wp2_with (go_at_call 135; first | (refine (isB_t _ _ _ _ (by omega)).mono ?_; rintro e w' ⟨rfl, hw'⟩; rw [hw']; clear hw') | (refine (isB_f _ _ _ _ (by omega)).mono ?_; rintro e w' ⟨rfl, hw'⟩; rw [hw']; clear hw'))
    go_ret
    exact ⟨rfl, rfl⟩
  by_cases h7 : 809 ≤ n ∧ n ≤ 819
  · have HH : Hid (Lm.height n = 220) := by unfold Hid Lm.height; rw [if_neg h0, if_neg h1, if_neg h2, if_neg h3, if_neg h4, if_neg h5, if_neg h6, if_pos h7]
    rw [HH.out]
    go_enter Tryz.func99, Tryz.ntmps99
    go_wp2_with (go_at_call 135; first | (refine (isB_t _ _ _ _ (by omega)).mono ?_; rintro e w' ⟨rfl, hw'⟩; rw [hw']; clear hw') | (refine (isB_f _ _ _ _ (by omega)).mono ?_; rintro e w' ⟨rfl, hw'⟩; rw [hw']; clear hw'))
    go_ret
    exact ⟨rfl, rfl⟩
  have HH : Hid (Lm.height n = 230) := by unfold Hid Lm.height; rw [if_neg h0, if_neg h1, if_neg h2, if_neg h3, if_neg h4, if_neg h5, if_neg h6, if_neg h7]
  rw [HH.out]
  go_enter Tryz.func99, Tryz.ntmps99
  go_wp2_with (go_at_call 135; first | (refine (isB_t _ _ _ _ (by omega)).mono ?_; rintro e w' ⟨rfl, hw'⟩; rw [hw']; clear hw') | (refine (isB_f _ _ _ _ (by omega)).mono ?_; rintro e w' ⟨rfl, hw'⟩; rw [hw']; clear hw'))
  go_ret
  exact ⟨rfl, rfl⟩
end Go.Proofs.YtkaaldhejpaiiaaGreatDoor
