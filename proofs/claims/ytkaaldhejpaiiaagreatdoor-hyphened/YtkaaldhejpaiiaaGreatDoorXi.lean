/- math/bits.Len at numbers up to a million; nextPowerOfTwo; xorshift's Next. -/
import Derived.Test.YtkaaldhejpaiiaaGreatDoorXa
import Derived.Lib.Strings
import Derived.Lib.Slices
import Derived.Lib.Small
import Derived.Lib.Walk
import Derived.Lib.BitFns
import Derived.Sort.WalkA14
import Derived.Sort.Walk7a
namespace Go.Proofs.YtkaaldhejpaiiaaGreatDoor
open Go.RowKit Go.Sort

theorem tab_get (y : Nat) (h : y < Lib.len8tab.size) : (Lib.len8tab[y]'h).toNat = Lib.bitLen y := by
  have hy : y < 256 := by rw [Lib.len8tab_size] at h; exact h
  have := Lib.len8_of (y : Int) (by omega) (by omega)
  unfold Lib.len8 at this
  rw [Int.toNat_natCast, ByteArray.getElem?_lt' _ _ h, Option.getD_some] at this
  omega
theorem wrap_small (z : Int) (h0 : 0 ≤ z) (h1 : z ≤ 1000000) : wrap64 z = z := by unfold wrap64; omega

set_option maxHeartbeats 4000000 in
set_option maxRecDepth 100000 in
theorem len64_any (x : Int) (w : World) (h0 : 0 ≤ x) (h1 : x ≤ 1000000) :
    Calls Tryz.prog 210 #[.int .u64 x] w fun e w' => e = .returned (.int .i64 (Lib.bitLen x.toNat)) ∧ w' = w := by
  have hts : Lib.len8tab.size = 256 := by rfl
  have h2 : ¬ (4294967296 : Int) ≤ x := by omega
  go_enter Tryz.func210, Tryz.ntmps210
  by_cases h65 : (65536 : Int) ≤ x
  · have hq : x / 65536 < 256 := by omega
    go_wp2
    go_ret
    refine ⟨congrArg Ending.returned (congrArg (Value.int IntKind.i64) ?_), rfl⟩
    have hl := Lib.bitLen_le8' (x / 65536) (by omega) (by omega)
    rw [tab_get, wrap_small ((Lib.bitLen (x / 65536).toNat : Nat) : Int) (by omega) (by omega), wrap_small _ (by omega) (by omega), Lib.bitLen_shift16 x.toNat (by omega) (by omega), show (x / 65536).toNat = x.toNat / 65536 by omega]
    omega
  by_cases h8 : (256 : Int) ≤ x
  · have hq : x / 256 < 256 := by omega
    go_wp2
    go_ret
    refine ⟨congrArg Ending.returned (congrArg (Value.int IntKind.i64) ?_), rfl⟩
    have hl := Lib.bitLen_le8' (x / 256) (by omega) (by omega)
    rw [tab_get, wrap_small ((Lib.bitLen (x / 256).toNat : Nat) : Int) (by omega) (by omega), wrap_small _ (by omega) (by omega), Lib.bitLen_shift8 x.toNat (by omega) (by omega), show (x / 256).toNat = x.toNat / 256 by omega]
    omega
  · go_wp2
    go_ret
    refine ⟨congrArg Ending.returned (congrArg (Value.int IntKind.i64) ?_), rfl⟩
    have hl := Lib.bitLen_le8' x (by omega) (by omega)
    rw [tab_get, wrap_small ((Lib.bitLen x.toNat : Nat) : Int) (by omega) (by omega), wrap_small _ (by omega) (by omega)]

theorem len_any (x : Int) (w : World) (h0 : 0 ≤ x) (h1 : x ≤ 1000000) :
    Calls Tryz.prog 192 #[.int .u64 x] w fun e w' => e = .returned (.int .i64 (bitsLen x.toNat)) ∧ w' = w := by
  have hc := len64_any x w h0 h1
  rw [bitLen_eq x.toNat (by omega)] at hc
  go_enter Tryz.func192, Tryz.ntmps192
  go_wp2_with (go_at_call 210; refine hc.mono ?_; rintro e w' ⟨rfl, rfl⟩)
  go_ret
  exact ⟨rfl, rfl⟩

theorem len_small {n : Nat} (h : n ≤ 1000000) : bitsLen n ≤ 21 := (bitsLen_le_iff n 21).2 (by omega)
theorem next_pow (n : Nat) (w : World) (h : n ≤ 1000000) :
    Calls Tryz.prog 214 #[.int .i64 n] w fun e w' => e = .returned (.int .u64 ((2 ^ bitsLen n : Nat) : Int)) ∧ w' = w := by
  have hc := len_any (n : Int) w (by omega) (by omega)
  rw [Int.toNat_natCast] at hc
  have hk := len_small h
  obtain ⟨k, hk0⟩ : ∃ k, bitsLen n = k := ⟨_, rfl⟩
  rw [hk0] at hc hk ⊢
  have hm : min k 64 = k := by omega
  have hp := wrap_two_pow k (by omega)
  rw [Nat.one_shiftLeft] at hp
  rw [← hp]
  clear hk0 hp
  go_enter Tryz.func214, Tryz.ntmps214
  go_wp2_with (go_at_call 192; refine hc.mono ?_; rintro e w' ⟨rfl, rfl⟩)
  go_ret
  exact ⟨rfl, rfl⟩

/-- x ^ (x << s), x ^ (x >> s): some number of 64 bits. -/
theorem xor_left (X : Nat) (z : Int) (hX : X < 18446744073709551616) : ∃ A : Nat, A < 18446744073709551616 ∧ bits .xor .u64 (X : Int) (IntKind.u64.wrap ((X : Int) * z)) = (A : Int) := by
  rw [IntKind.wrap_u64]
  generalize (X : Int) * z = y
  obtain ⟨m, hm⟩ : ∃ m : Nat, y % 18446744073709551616 = (m : Int) := ⟨(y % 18446744073709551616).toNat, by omega⟩
  have hm2 : m < 18446744073709551616 := by omega
  rw [hm]
  exact ⟨X ^^^ m, Nat.xor_lt_two_pow (n := 64) (by omega) (by omega), bits_xor_u64_nat _ _ hX hm2⟩
theorem xor_right (X : Nat) (hX : X < 18446744073709551616) : ∃ A : Nat, A < 18446744073709551616 ∧ bits .xor .u64 (X : Int) ((X : Int) / 128) = (A : Int) := by
  refine ⟨X ^^^ (X / 128), Nat.xor_lt_two_pow (n := 64) (by omega) (by omega), ?_⟩
  rw [show ((X : Int) / 128) = ((X / 128 : Nat) : Int) by omega, bits_xor_u64_nat _ _ hX (by omega)]

set_option maxHeartbeats 4000000 in
set_option maxRecDepth 100000 in
theorem next_any (rb X : Nat) (w : World) (hX : X < 18446744073709551616) (hc : w.cell? ⟨rb, 0, none⟩ = some (.int .u64 X)) (hf : w.frozen? ⟨rb, 0, none⟩ = false) :
    Calls Tryz.prog 215 #[.pointer (some ⟨rb, 0, none⟩)] w fun e w' => ∃ Y : Nat, Y < 18446744073709551616 ∧ e = .returned (.int .u64 Y) ∧ w' = (w.setCell ⟨rb, 0, none⟩ (.int .u64 (Y : Nat))).drewN 3 := by
  obtain ⟨A, lA, e1⟩ := xor_left X 8192 hX
  obtain ⟨B, lB, e2⟩ := xor_right A lA
  obtain ⟨C, lC, e3⟩ := xor_left B 131072 lB
  have hss : ∀ v v', (w.setCell ⟨rb, 0, none⟩ v).setCell ⟨rb, 0, none⟩ v' = w.setCell ⟨rb, 0, none⟩ v' := setCell_setCell w rb 0
  go_enter Tryz.func215, Tryz.ntmps215
  go_wp2
  go_region
  all_goals go_wp2
  all_goals go_region
  all_goals go_wp2
  all_goals go_region
  all_goals go_wp2
  go_ret
  exact ⟨C, lC, rfl, rfl⟩
end Go.Proofs.YtkaaldhejpaiiaaGreatDoor
