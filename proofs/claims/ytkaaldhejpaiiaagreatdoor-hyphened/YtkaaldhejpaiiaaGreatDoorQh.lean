/- pdqsort at none and at one. -/
import Derived.Test.YtkaaldhejpaiiaaGreatDoorQf
namespace Go.Proofs.YtkaaldhejpaiiaaGreatDoor
open Go.RowKit
set_option maxRecDepth 100000 in
set_option maxHeartbeats 1000000 in
theorem ins0 (a : Option Addr) (n c b : Nat) (hb : b ≤ 1) (w : World) : Calls Tryz.prog 200 #[.slice a n c, .int .i64 0, .int .i64 b] w fun e w' => e = .returned (.tuple #[]) ∧ w' = w := by
  go_enter Tryz.func200, Tryz.ntmps200
  go_wp2
  go_loop [6] (fun i => i = .int .i64 1) (fun _ => 0)
  case atStart => rfl
  case round =>
    obtain rfl := hrel
    go_wp2
    go_end0
    exact ⟨rfl, rfl⟩

set_option maxRecDepth 100000 in
set_option maxHeartbeats 1000000 in
theorem len0 (w : World) : Calls Tryz.prog 192 #[.int .u64 0] w fun e w' => (∃ l : Int, e = .returned (.int .i64 l)) ∧ w' = w := by
  go_enter Tryz.func192, Tryz.ntmps192
  go_wp2
  go_ret
  exact ⟨⟨_, rfl⟩, rfl⟩
set_option maxRecDepth 100000 in
set_option maxHeartbeats 1000000 in
theorem len1 (w : World) : Calls Tryz.prog 192 #[.int .u64 1] w fun e w' => (∃ l : Int, e = .returned (.int .i64 l)) ∧ w' = w := by
  go_enter Tryz.func192, Tryz.ntmps192
  go_wp2
  go_ret
  exact ⟨⟨_, rfl⟩, rfl⟩
set_option maxRecDepth 100000 in
set_option maxHeartbeats 1000000 in
theorem pdq0 (a : Option Addr) (n c b : Nat) (l : Int) (hb : b ≤ 1) (w : World) : Calls Tryz.prog 191 #[.slice a n c, .int .i64 0, .int .i64 b, .int .i64 l] w fun e w' => e = .returned (.tuple #[]) ∧ w' = w := by
  go_enter Tryz.func191, Tryz.ntmps191
  go_wp2
  refine wp_loop_once ?_
  go_wp2_with (go_at_call 200; refine (ins0 a n c b hb _).mono ?_; rintro e w' ⟨rfl, hw'⟩; rw [hw']; clear hw')
  refine bodyPost_ret (results_none rfl _ _ _) rfl ?_
  exact ⟨rfl, rfl⟩
set_option maxRecDepth 100000 in
set_option maxHeartbeats 1000000 in
theorem sort_few (a : Option Addr) (n c : Nat) (hn : n ≤ 1) (w : World) : Calls Tryz.prog 168 #[.slice a n c] w fun e w' => e = .returned (.tuple #[]) ∧ w' = w := by
  rcases Nat.le_one_iff_eq_zero_or_eq_one.1 hn with rfl | rfl
  · go_enter Tryz.func168, Tryz.ntmps168
    go_wp2_with (first | (go_at_call 192; refine (len0 _).mono ?_; rintro e w' ⟨⟨l, rfl⟩, hw'⟩; rw [hw']; clear hw') | (go_at_call 191; refine (pdq0 a 0 c 0 l (by omega) _).mono ?_; rintro e w' ⟨rfl, hw'⟩; rw [hw']; clear hw'))
    go_end0
    exact ⟨rfl, rfl⟩
  · go_enter Tryz.func168, Tryz.ntmps168
    go_wp2_with (first | (go_at_call 192; refine (len1 _).mono ?_; rintro e w' ⟨⟨l, rfl⟩, hw'⟩; rw [hw']; clear hw') | (go_at_call 191; refine (pdq0 a 1 c 1 l (by omega) _).mono ?_; rintro e w' ⟨rfl, hw'⟩; rw [hw']; clear hw'))
    go_end0
    exact ⟨rfl, rfl⟩
set_option maxRecDepth 100000 in
set_option maxHeartbeats 1000000 in
theorem compact_few (a : Option Addr) (n c : Nat) (hn : n ≤ 1) (w : World) : Calls Tryz.prog 169 #[.slice a n c] w fun e w' => e = .returned (.slice a n c) ∧ w' = w := by
  go_enter Tryz.func169, Tryz.ntmps169
  go_wp2
  go_ret
  exact ⟨rfl, rfl⟩
theorem sortOk_few (zs : List Nat) (h : zs.length ≤ 1) : SortOk zs zs := by
  intro B w v ho _
  obtain ⟨a, c, rfl⟩ := own21_form ho
  refine (sort_few a zs.length c h w).mono ?_
  rintro e w' ⟨rfl, rfl⟩
  exact ⟨rfl, ho, Below.refl _ _⟩
theorem compOk_few (zs : List Nat) (h : zs.length ≤ 1) : CompOk zs zs := by
  intro B w v ho _
  obtain ⟨a, c, rfl⟩ := own21_form ho
  refine (compact_few a zs.length c h w).mono ?_
  rintro e w' ⟨rfl, rfl⟩
  exact ⟨_, rfl, ho, Below.refl _ _⟩
end Go.Proofs.YtkaaldhejpaiiaaGreatDoor
