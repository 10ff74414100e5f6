/- The state's methods: stepsTo, walk, settle, firstState. A state lies in five cells from ⟨E, o⟩ on. -/
import Derived.Test.YtkaaldhejpaiiaaGreatDoorPe
import Derived.Deep.RegionWith
namespace Go.Proofs.YtkaaldhejpaiiaaGreatDoor
open Go.RowKit

/-- The state's five cells. -/
structure StAt (w : World) (E o n i len bias : Nat) (begun : Bool) : Prop where
  c0 : w.cell? ⟨E, o, none⟩ = some (.int .i64 n)
  c1 : w.cell? ⟨E, o + 1, none⟩ = some (.int .i64 i)
  c2 : w.cell? ⟨E, o + 2, none⟩ = some (.int .i64 len)
  c3 : w.cell? ⟨E, o + 3, none⟩ = some (.int .i64 bias)
  c4 : w.cell? ⟨E, o + 4, none⟩ = some (.bool begun)

set_option maxHeartbeats 1000000 in
theorem stepsTo_any (E o n i len bias : Nat) (begun : Bool) (size place : Nat) (w : World) (h : StAt w E o n i len bias begun) (h1 : n ≤ size) (h2 : size ≤ 1114111) (h3 : len ≤ 1000) (h4 : place ≤ 1000) (h5 : i ≤ (size - n) * (len + 1) + place) :
    Calls Tryz.prog 171 #[.pointer (some ⟨E, o, none⟩), .int .i64 size, .int .i64 place] w fun e w' => e = .returned (.int .i64 ((size - n) * (len + 1) + place - i : Nat)) ∧ ∃ q, w' = w.drewN q := by
  obtain ⟨c0, c1, c2, _, _⟩ := h
  have hm : ((size : Int) - n) * ((len : Int) + 1) ≤ 1115226111 := by
    have := Nat.mul_le_mul (show size - n ≤ 1114111 by omega) (show len + 1 ≤ 1001 by omega)
    have e : (((size - n) * (len + 1) : Nat) : Int) = ((size : Int) - n) * ((len : Int) + 1) := by rw [Int.natCast_mul, Int.natCast_sub h1]; rfl
    omega
  have hm0 : 0 ≤ ((size : Int) - n) * ((len : Int) + 1) := Int.mul_nonneg (by omega) (by omega)
  have HE : Hid ((((size - n) * (len + 1) + place - i : Nat) : Int) = ((size : Int) - n) * ((len : Int) + 1) + place - i) := by
    unfold Hid
    have e : (((size - n) * (len + 1) : Nat) : Int) = ((size : Int) - n) * ((len : Int) + 1) := by rw [Int.natCast_mul, Int.natCast_sub h1]; rfl
    omega
  have hi : (i : Int) ≤ ((size : Int) - n) * ((len : Int) + 1) + place := by
    have e : (((size - n) * (len + 1) : Nat) : Int) = ((size : Int) - n) * ((len : Int) + 1) := by rw [Int.natCast_mul, Int.natCast_sub h1]; rfl
    omega
  rw [HE.out]
  clear h5
  go_enter Tryz.func171, Tryz.ntmps171
  go_wp2
  go_quiet (fail)
  go_wp2
  go_ret
  exact ⟨rfl, _, rfl⟩

set_option maxHeartbeats 1000000 in
theorem walk_any (E o n i len bias : Nat) (begun : Bool) (q : Nat) (w : World) (h : StAt w E o n i len bias begun) (hf0 : w.frozen? ⟨E, o, none⟩ = false) (hf1 : w.frozen? ⟨E, o + 1, none⟩ = false) (h1 : n ≤ 1114111) (h2 : i ≤ 1000) (h3 : len ≤ 1000) (h4 : q ≤ 1115226111) :
    Calls Tryz.prog 182 #[.pointer (some ⟨E, o, none⟩), .int .i64 q] w fun e w' => e = .returned (.tuple #[]) ∧ ∃ k, w' = (((w.setCell ⟨E, o, none⟩ (.int .i64 (n + (i + q) / (len + 1) : Nat))).setCell ⟨E, o + 1, none⟩ (.int .i64 ((i + q) % (len + 1) : Nat)))).drewN k := by
  obtain ⟨c0, c1, c2, _, _⟩ := h
  have hz : ¬ (len : Int) + 1 = 0 := by omega
  have hq1 : 0 ≤ ((q : Int) + i) / ((len : Int) + 1) := Int.ediv_nonneg (by omega) (by omega)
  have hq2 : ((q : Int) + i) / ((len : Int) + 1) ≤ 1115227111 := Int.ediv_le_of_le_mul (by omega) (by
    have : (1115227111 : Int) * 1 ≤ 1115227111 * ((len : Int) + 1) := Int.mul_le_mul_of_nonneg_left (by omega) (by omega)
    omega)
  have HE : Hid (((n + (i + q) / (len + 1) : Nat) : Int) = (n : Int) + ((q : Int) + i) / ((len : Int) + 1)) := by
    unfold Hid; rw [Nat.add_comm i q]; simp
  have HF : Hid ((((i + q) % (len + 1) : Nat) : Int) = ((q : Int) + i) % ((len : Int) + 1)) := by
    unfold Hid; rw [Nat.add_comm i q]; simp
  rw [HE.out, HF.out]
  go_enter Tryz.func182, Tryz.ntmps182
  go_wp2
  go_region
  all_goals
    go_wp2
    go_end0
    exact ⟨rfl, 1, rfl⟩

set_option maxHeartbeats 2000000 in
theorem settle_any (E o n i len bias : Nat) (begun : Bool) (q : Nat) (w : World) (h : StAt w E o n i len bias begun) (hf1 : w.frozen? ⟨E, o + 1, none⟩ = false) (hf2 : w.frozen? ⟨E, o + 2, none⟩ = false) (hf3 : w.frozen? ⟨E, o + 3, none⟩ = false) (hf4 : w.frozen? ⟨E, o + 4, none⟩ = false) (h2 : i ≤ 1000) (h3 : len ≤ 1000) (h4 : q ≤ 1115226111) :
    Calls Tryz.prog 185 #[.pointer (some ⟨E, o, none⟩), .int .i64 q] w fun e w' => e = .returned (.tuple #[]) ∧ ∃ k, w' = (((((w.setCell ⟨E, o + 2, none⟩ (.int .i64 (len + 1 : Nat))).setCell ⟨E, o + 1, none⟩ (.int .i64 (i + 1 : Nat)))).setCell ⟨E, o + 3, none⟩ (.int .i64 (Pm.biasN q (len + 1) (!begun) : Nat))).setCell ⟨E, o + 4, none⟩ (.bool true)).drewN k := by
  obtain ⟨_, c1, c2, c3, c4⟩ := h
  have e1 : ((len + 1 : Nat) : Int) = (len : Int) + 1 := by omega
  have e2 : ((i + 1 : Nat) : Int) = (i : Int) + 1 := by omega
  have hbb := fun w => biasBehind_any q (len + 1) (!begun) w (by omega) (by omega) (by omega)
  rw [e1] at hbb
  rw [e1, e2]
  clear e1 e2
  generalize Pm.biasN q (len + 1) (!begun) = B at hbb ⊢
  go_enter Tryz.func185, Tryz.ntmps185
  go_wp2
  go_region_with (go_at_call 198; refine (hbb _).mono ?_; rintro e w' ⟨rfl, rfl⟩)
  all_goals
    go_wp2
    go_end0
    exact ⟨rfl, 1, rfl⟩
end Go.Proofs.YtkaaldhejpaiiaaGreatDoor
