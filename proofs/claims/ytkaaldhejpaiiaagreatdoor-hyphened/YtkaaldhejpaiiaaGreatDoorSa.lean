/- The document's answer: value, bound, isSign, read, step. -/
import Derived.Test.YtkaaldhejpaiiaaGreatDoorPi
import Derived.Test.YtkaaldhejpaiiaaGreatDoorPl
namespace Go.Proofs.YtkaaldhejpaiiaaGreatDoor
open Go.RowKit

/-- What a State's block holds. -/
def sCells (n i : Nat) (v : Value) (bias : Nat) (b : Bool) : Array Value := #[.int .i64 n, .int .i64 i, v, .int .i64 bias, .bool b]

def refDig (c : Nat) : Int := match Pm.dig c with | some d => (d : Int) | none => -1
set_option maxHeartbeats 400000 in
theorem value_any (c : UInt8) (w : World) :
    Calls Tryz.prog 105 #[.int .u8 c.toNat] w fun e w' => e = .returned (.int .i64 (refDig c.toNat)) ∧ w' = w := by
  have hc : c.toNat < 256 := c.toNat_lt
  go_enter Tryz.func105, Tryz.ntmps105
  go_wp2
  · go_ret
    exact ⟨ret_int (by unfold refDig; rw [dig_a ‹_› ‹_›]; simp; omega), rfl⟩
  · go_ret
    exact ⟨ret_int (by unfold refDig; rw [dig_n (by omega) (by omega)]), rfl⟩
  · go_ret
    exact ⟨ret_int (by unfold refDig; rw [dig_0 ‹_› ‹_›]; simp; omega), rfl⟩
  · go_ret
    exact ⟨ret_int (by unfold refDig; rw [dig_n (by omega) (by omega)]), rfl⟩
  · go_ret
    exact ⟨ret_int (by unfold refDig; rw [dig_n (by omega) (by omega)]), rfl⟩

set_option maxHeartbeats 400000 in
theorem refBound_any (X k bias : Nat) (w : World) (hc : w.cell? ⟨X, 3, none⟩ = some (.int .i64 bias)) (hk : k ≤ 2000) (hb : bias ≤ 1099511627776) :
    Calls Tryz.prog 106 #[.pointer (some ⟨X, 0, none⟩), .int .i64 k] w fun e w' => e = .returned (.int .i64 (Pm.bnd k bias : Nat)) ∧ w' = w := by
  go_enter Tryz.func106, Tryz.ntmps106
  go_wp2
  all_goals
    go_ret
    exact ⟨ret_int (by simp [Pm.bnd]; omega), rfl⟩

set_option maxRecDepth 100000 in
set_option maxHeartbeats 400000 in
theorem refSign_any (n : Nat) (w : World) :
    Calls Tryz.prog 68 #[.int .i64 n] w fun e w' => e = .returned (.bool (Pm.sign n)) ∧ w' = w := by
  have h0 : (0 : Int) ≤ (n : Int) := by omega
  by_cases h1 : (n : Int) ≤ 1114111
  · by_cases h2 : (n : Int) < 55296
    · rw [sign_t (by omega) (by omega)]
      go_enter Tryz.func68, Tryz.ntmps68
      go_wp2
      go_ret
      exact ⟨rfl, rfl⟩
    · by_cases h3 : (57343 : Int) < n
      · rw [sign_t (by omega) (by omega)]
        go_enter Tryz.func68, Tryz.ntmps68
        go_wp2
        go_ret
        exact ⟨rfl, rfl⟩
      · rw [sign_f (by omega)]
        go_enter Tryz.func68, Tryz.ntmps68
        go_wp2
        go_ret
        exact ⟨rfl, rfl⟩
  · rw [sign_f (by omega)]
    go_enter Tryz.func68, Tryz.ntmps68
    go_wp2
    go_ret
    exact ⟨rfl, rfl⟩

set_option maxRecDepth 100000 in
set_option maxHeartbeats 2000000 in
theorem refStep_any (X n i bias len c : Nat) (a : Option Addr) (b : Bool) (q : Nat) (w : World) (h : w.heap[X]? = some (.cells (sCells n i (.slice a len c) bias b) 106 (0, 0))) (h1 : n ≤ 1114111) (h2 : i ≤ 1000) (h3 : len ≤ 1000) (h4 : q ≤ 1099511627776) :
    Calls Tryz.prog 67 #[.pointer (some ⟨X, 0, none⟩), .int .i64 q] w fun e w' => e = .returned (.tuple #[]) ∧ w'.heap[X]? = some (.cells (sCells (n + (i + q) / (len + 1)) ((i + q) % (len + 1)) (.slice a len c) bias b) 106 (0, 0)) ∧ w.grownBy w' (some X) := by
  have c0 : w.cell? ⟨X, 0, none⟩ = some (.int .i64 n) := by rw [cell_of_row w X 0 _ 106 (0, 0) h]; rfl
  have c1 : w.cell? ⟨X, 1, none⟩ = some (.int .i64 i) := by rw [cell_of_row w X 1 _ 106 (0, 0) h]; rfl
  have c2 : w.cell? ⟨X, 2, none⟩ = some (.slice a len c) := by rw [cell_of_row w X 2 _ 106 (0, 0) h]; rfl
  have f0 := unfrozen h 0; have f1 := unfrozen h 1
  have H : Hid (w.heap[X]? = some (.cells (sCells n i (.slice a len c) bias b) 106 (0, 0))) := h
  have hz : ¬ (len : Int) + 1 = 0 := by omega
  have hq1 : 0 ≤ ((i : Int) + q) / ((len : Int) + 1) := Int.ediv_nonneg (by omega) (by omega)
  have hq2 : ((i : Int) + q) / ((len : Int) + 1) ≤ 1099511628776 := Int.ediv_le_of_le_mul (by omega) (by
    have : (1099511628776 : Int) * 1 ≤ 1099511628776 * ((len : Int) + 1) := Int.mul_le_mul_of_nonneg_left (by omega) (by omega)
    omega)
  have HE : Hid (((n + (i + q) / (len + 1) : Nat) : Int) = (n : Int) + ((i : Int) + q) / ((len : Int) + 1)) := by
    unfold Hid; simp
  have HF : Hid ((((i + q) % (len + 1) : Nat) : Int) = ((i : Int) + q) % ((len : Int) + 1)) := by
    unfold Hid; simp
  clear h
  go_enter Tryz.func67, Tryz.ntmps67
  go_wp2
  go_region
  all_goals
    go_wp2
    go_end0
    refine ⟨rfl, ?_, grown_drewN (grown_setCell (grown_setCell (World.grownBy.refl w (some X)) 0 (.int .i64 ((n : Int) + ((i : Int) + q) / ((len : Int) + 1)))) 1 (.int .i64 (((i : Int) + q) % ((len : Int) + 1)))) 1⟩
    unfold sCells
    rw [HE.out, HF.out]
    exact setCell_row (setCell_row H.out 0 _) 1 _
end Go.Proofs.YtkaaldhejpaiiaaGreatDoor
