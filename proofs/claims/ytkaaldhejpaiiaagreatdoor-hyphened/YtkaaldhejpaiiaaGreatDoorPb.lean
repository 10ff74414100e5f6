/- The walks of puny's small functions. -/
import Derived.Test.YtkaaldhejpaiiaaGreatDoorProg
import Derived.Test.YtkaaldhejpaiiaaGreatDoorPm
import Derived.WalkKit
import Derived.WalkLawsBesides
import Derived.WalkSpells
import Derived.BigQuiet
import Derived.Deep.QuietTactic
import Derived.Outline
namespace Go.Proofs.YtkaaldhejpaiiaaGreatDoor
open Go.RowKit

theorem ret_int {k : IntKind} {a b : Int} (h : a = b) : Ending.returned (.int k a) = .returned (.int k b) := by rw [h]
theorem ret_bool {a b : Bool} (h : a = b) : Ending.returned (.bool a) = .returned (.bool b) := by rw [h]
theorem ret_ib {k : IntKind} {a b : Int} {x y : Bool} (h : a = b) (h2 : x = y) : Ending.returned (.tuple #[.int k a, .bool x]) = .returned (.tuple #[.int k b, .bool y]) := by rw [h, h2]

set_option maxHeartbeats 400000 in
theorem bound_any (k bias : Nat) (w : World) (hk : k ≤ 2000) (hb : bias ≤ 1099511627776) :
    Calls Tryz.prog 196 #[.int .i64 k, .int .i64 bias] w fun e w' => e = .returned (.int .i64 (Pm.bnd k bias : Nat)) ∧ w' = w := by
  go_enter Tryz.func196, Tryz.ntmps196
  go_wp2
  all_goals
    go_ret
    exact ⟨ret_int (by simp [Pm.bnd]; omega), rfl⟩

theorem dig_a {c : Nat} (h1 : (97 : Int) ≤ c) (h2 : (c : Int) ≤ 122) : Pm.dig c = some (c - 97) := by unfold Pm.dig; rw [if_pos (by omega)]
theorem dig_0 {c : Nat} (h1 : (48 : Int) ≤ c) (h2 : (c : Int) ≤ 57) : Pm.dig c = some (c - 48 + 26) := by unfold Pm.dig; rw [if_neg (by omega), if_pos (by omega)]
theorem dig_n {c : Nat} (h1 : ¬ (97 ≤ c ∧ c ≤ 122)) (h2 : ¬ (48 ≤ c ∧ c ≤ 57)) : Pm.dig c = none := by unfold Pm.dig; rw [if_neg h1, if_neg h2]
set_option maxHeartbeats 400000 in
theorem digitOf_any (c : UInt8) (w : World) :
    Calls Tryz.prog 195 #[.int .u8 c.toNat] w fun e w' => e = .returned (.tuple #[.int .i64 ((Pm.dig c.toNat).getD 0 : Nat), .bool (Pm.dig c.toNat).isSome]) ∧ w' = w := by
  have hc : c.toNat < 256 := c.toNat_lt
  go_enter Tryz.func195, Tryz.ntmps195
  go_wp2
  · go_ret2
    exact ⟨ret_ib (by rw [dig_a ‹_› ‹_›]; simp; omega) (by rw [dig_a ‹_› ‹_›]; rfl), rfl⟩
  · go_ret2
    exact ⟨ret_ib (by rw [dig_n (by omega) (by omega)]; rfl) (by rw [dig_n (by omega) (by omega)]; rfl), rfl⟩
  · go_ret2
    exact ⟨ret_ib (by rw [dig_0 ‹_› ‹_›]; simp; omega) (by rw [dig_0 ‹_› ‹_›]; rfl), rfl⟩
  · go_ret2
    exact ⟨ret_ib (by rw [dig_n (by omega) (by omega)]; rfl) (by rw [dig_n (by omega) (by omega)]; rfl), rfl⟩
  · go_ret2
    exact ⟨ret_ib (by rw [dig_n (by omega) (by omega)]; rfl) (by rw [dig_n (by omega) (by omega)]; rfl), rfl⟩

theorem sign_t {n : Nat} (h : n ≤ 1114111) (h2 : n < 55296 ∨ 57343 < n) : Pm.sign n = true := by
  unfold Pm.sign; simp only [Bool.and_eq_true, Bool.or_eq_true, decide_eq_true_eq]; omega
theorem sign_f {n : Nat} (h : ¬ (n ≤ 1114111 ∧ (n < 55296 ∨ 57343 < n))) : Pm.sign n = false := by
  rw [Bool.eq_false_iff]
  intro hs
  unfold Pm.sign at hs
  simp only [Bool.and_eq_true, Bool.or_eq_true, decide_eq_true_eq] at hs
  exact h hs
set_option maxRecDepth 100000 in
set_option maxHeartbeats 400000 in
theorem isSign_any (n : Nat) (w : World) :
    Calls Tryz.prog 183 #[.int .i64 n] w fun e w' => e = .returned (.bool (Pm.sign n)) ∧ w' = w := by
  have h0 : ¬ (n : Int) < 0 := by omega
  by_cases h1 : (1114111 : Int) < n
  · have hs : Pm.sign n = false := sign_f (by omega)
    rw [hs]
    go_enter Tryz.func183, Tryz.ntmps183
    go_wp2
    go_ret
    exact ⟨rfl, rfl⟩
  · by_cases h2 : (n : Int) < 55296
    · rw [sign_t (by omega) (by omega)]
      go_enter Tryz.func183, Tryz.ntmps183
      go_wp2
      go_ret
      exact ⟨rfl, rfl⟩
    · by_cases h3 : (57343 : Int) < n
      · rw [sign_t (by omega) (by omega)]
        go_enter Tryz.func183, Tryz.ntmps183
        go_wp2
        go_ret
        exact ⟨rfl, rfl⟩
      · rw [sign_f (by omega)]
        go_enter Tryz.func183, Tryz.ntmps183
        go_wp2
        go_ret
        exact ⟨rfl, rfl⟩
end Go.Proofs.YtkaaldhejpaiiaaGreatDoor
