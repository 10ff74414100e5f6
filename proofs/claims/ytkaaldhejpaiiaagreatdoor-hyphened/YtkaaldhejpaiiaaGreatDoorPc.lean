/- The walks of puny's loops over strings and numbers. -/
import Derived.Test.YtkaaldhejpaiiaaGreatDoorPb
namespace Go.Proofs.YtkaaldhejpaiiaaGreatDoor
open Go.RowKit

theorem cast_div (a b : Nat) : ((a / b : Nat) : Int) = (a : Int) / (b : Int) := by simp
set_option maxHeartbeats 1000000 in
theorem biasBehind_any (q len : Nat) (first : Bool) (w : World) (hq : q ≤ 1099511627776) (hl : 1 ≤ len) (hl2 : len ≤ 1099511627776) :
    Calls Tryz.prog 198 #[.int .i64 q, .int .i64 len, .bool first] w fun e w' => e = .returned (.int .i64 (Pm.biasN q len first : Nat)) ∧ w' = w := by
  have hnz : ¬ (len : Int) = 0 := by omega
  have hd := Pm.damp_le q len first
  have HD2 : Hid ((Pm.damp q len false : Nat) = (q : Int) / 2 + (q : Int) / 2 / (len : Int)) := by unfold Hid Pm.damp; simp
  have HD7 : Hid ((Pm.damp q len true : Nat) = (q : Int) / 700 + (q : Int) / 700 / (len : Int)) := by unfold Hid Pm.damp; simp
  have b2 : (q : Int) / 2 / (len : Int) ≤ 1099511627776 := by
    have := Nat.div_le_self (q / 2) len
    have e : (((q / 2) / len : Nat) : Int) = (q : Int) / 2 / (len : Int) := by simp
    omega
  have b2' : 0 ≤ (q : Int) / 2 / (len : Int) := Int.ediv_nonneg (by omega) (by omega)
  have b7 : (q : Int) / 700 / (len : Int) ≤ 1099511627776 := by
    have := Nat.div_le_self (q / 700) len
    have e : (((q / 700) / len : Nat) : Int) = (q : Int) / 700 / (len : Int) := by simp
    omega
  have b7' : 0 ≤ (q : Int) / 700 / (len : Int) := Int.ediv_nonneg (by omega) (by omega)
  cases first
  · go_enter Tryz.func198, Tryz.ntmps198
    go_wp2
    go_loop [7, 8] (fun d b => ∃ D B : Nat, d = .int .i64 D ∧ b = .int .i64 B ∧ D ≤ 1099511627776 ∧ B + D ≤ 1099511627776 ∧ Pm.shr (Pm.damp q len false) 0 = Pm.shr D B) (fun d _ => (intOf d).toNat)
    case atStart => exact ⟨Pm.damp q len false, 0, by rw [HD2.out], rfl, by omega, by omega, rfl⟩
    case round =>
      obtain ⟨D, B, rfl, rfl, hD, hB, hs⟩ := hrel
      have HS : Hid (Pm.shr (Pm.damp q len false) 0 = Pm.shr D B) := hs
      clear hs b2 b2' b7 b7' hd
      by_cases h : 455 < D
      · go_wp2
        go_round
        case rel => exact ⟨D / 35, B + 36, by go_num, by go_num, by omega, by omega, by rw [HS.out, Pm.shr_big h]⟩
        case measure => simp [intOf]; omega
      · have hz : ¬ (D : Int) + 38 = 0 := by omega
        have hq1 : 0 ≤ 36 * (D : Int) / ((D : Int) + 38) := Int.ediv_nonneg (by omega) (by omega)
        have hq2 : 36 * (D : Int) / ((D : Int) + 38) ≤ 36 := Int.ediv_le_of_le_mul (by omega) (by omega)
        go_wp2
        go_ret
        refine ⟨ret_int ?_, rfl⟩
        unfold Pm.biasN
        rw [HS.out, Pm.shr_small h]
        simp
  · go_enter Tryz.func198, Tryz.ntmps198
    go_wp2
    go_loop [7, 8] (fun d b => ∃ D B : Nat, d = .int .i64 D ∧ b = .int .i64 B ∧ D ≤ 1099511627776 ∧ B + D ≤ 1099511627776 ∧ Pm.shr (Pm.damp q len true) 0 = Pm.shr D B) (fun d _ => (intOf d).toNat)
    case atStart => exact ⟨Pm.damp q len true, 0, by rw [HD7.out], rfl, by omega, by omega, rfl⟩
    case round =>
      obtain ⟨D, B, rfl, rfl, hD, hB, hs⟩ := hrel
      have HS : Hid (Pm.shr (Pm.damp q len true) 0 = Pm.shr D B) := hs
      clear hs b2 b2' b7 b7' hd
      by_cases h : 455 < D
      · go_wp2
        go_round
        case rel => exact ⟨D / 35, B + 36, by go_num, by go_num, by omega, by omega, by rw [HS.out, Pm.shr_big h]⟩
        case measure => simp [intOf]; omega
      · have hz : ¬ (D : Int) + 38 = 0 := by omega
        have hq1 : 0 ≤ 36 * (D : Int) / ((D : Int) + 38) := Int.ediv_nonneg (by omega) (by omega)
        have hq2 : 36 * (D : Int) / ((D : Int) + 38) ≤ 36 := Int.ediv_le_of_le_mul (by omega) (by omega)
        go_wp2
        go_ret
        refine ⟨ret_int ?_, rfl⟩
        unfold Pm.biasN
        rw [HS.out, Pm.shr_small h]
        simp

def ascB (l : List UInt8) : Bool := l.all fun c => decide (c.toNat < 128)
theorem take_snoc (s : ByteArray) (k : Nat) (h : k < s.size) : s.data.toList.take (k + 1) = s.data.toList.take k ++ [s[k]] := by
  rw [List.take_succ_eq_append_getElem (by simpa using h)]; rfl
theorem ascB_snoc (l : List UInt8) (c : UInt8) : ascB (l ++ [c]) = (ascB l && decide (c.toNat < 128)) := by simp [ascB]
theorem ascB_no (s : ByteArray) (k : Nat) (h : k < s.size) (hc : ¬ (s[k].toNat : Int) < 128) : ascB s.data.toList = false := by
  rw [Bool.eq_false_iff]
  intro ht
  have := List.all_eq_true.1 ht s[k] (by rw [ByteArray.getElem_eq_getElem_data]; exact Array.getElem_mem_toList (xs := s.data) h)
  simp at this
  omega
set_option maxRecDepth 100000 in
set_option maxHeartbeats 400000 in
theorem isASCII_any (s : ByteArray) (w : World) (hs : s.size ≤ 1000) :
    Calls Tryz.prog 53 #[.string s] w fun e w' => e = .returned (.bool (ascB s.data.toList)) ∧ w' = w := by
  go_enter Tryz.func53, Tryz.ntmps53
  go_wp2
  go_loop [6] (fun i => ∃ k : Nat, k ≤ s.size ∧ i = .int .i64 k ∧ ascB (s.data.toList.take k) = true) (fun i => s.size - (intOf i).toNat)
  case atStart => exact ⟨0, Nat.zero_le _, rfl, rfl⟩
  case round =>
    obtain ⟨k, hk, rfl, ha⟩ := hrel
    have HA : Hid (ascB (s.data.toList.take k) = true) := ha
    clear ha
    by_cases hlt : k < s.size
    · go_wp2
      · go_ret
        exact ⟨ret_bool (by rw [ascB_no s k hlt (by omega)]), rfl⟩
      · go_round
        case rel => exact ⟨k + 1, by omega, by go_num, by rw [take_snoc s k hlt, ascB_snoc, HA.out]; simp; omega⟩
        case measure => simp [intOf]; omega
    · go_wp2
      go_ret
      have e : s.data.toList.take k = s.data.toList := List.take_of_length_le (by simp; omega)
      exact ⟨ret_bool (by have := HA.out; rw [e] at this; rw [this]), rfl⟩

/-- Up to and with the last hyphen of the first k bytes. -/
def lastP (s : ByteArray) : Nat → Nat
  | 0 => 0
  | k + 1 => if (s.get! k).toNat = 45 then k + 1 else lastP s k
theorem lastP_le (s : ByteArray) : ∀ k, lastP s k ≤ k
  | 0 => Nat.le_refl _
  | k + 1 => by unfold lastP; split; omega; have := lastP_le s k; omega
theorem get!_at (s : ByteArray) (k : Nat) (h : k < s.size) : s.get! k = s[k] := by
  rw [ByteArray.getElem_eq_getElem_data]
  simp [ByteArray.get!, getElem!_pos s.data k h]
set_option maxHeartbeats 400000 in
theorem lastByte_any (s : ByteArray) (w : World) (hs : s.size ≤ 1000) :
    Calls Tryz.prog 180 #[.string s, .int .u8 45] w fun e w' => e = .returned (.int .i64 ((lastP s s.size : Nat) - 1 : Int)) ∧ w' = w := by
  go_enter Tryz.func180, Tryz.ntmps180
  go_wp2
  go_loop [5] (fun i => ∃ k : Nat, k ≤ s.size ∧ i = .int .i64 ((k : Int) - 1) ∧ lastP s s.size = lastP s k) (fun i => (intOf i + 1).toNat)
  case atStart => exact ⟨s.size, Nat.le_refl _, rfl, rfl⟩
  case round =>
    obtain ⟨k, hk, rfl, ha⟩ := hrel
    have HA : Hid (lastP s s.size = lastP s k) := ha
    clear ha
    cases k with
    | zero =>
      go_wp2
      go_ret
      exact ⟨ret_int (by rw [HA.out]; rfl), rfl⟩
    | succ k =>
      have e1 : ((k + 1 : Nat) : Int) - 1 = (k : Int) := by omega
      rw [e1]
      have hlt : k < s.size := by omega
      by_cases hc : (s[k].toNat : Int) = 45
      · go_wp2
        go_ret
        exact ⟨ret_int (by rw [HA.out, lastP, if_pos (by rw [get!_at s k hlt]; omega)]; simp), rfl⟩
      · go_wp2
        go_round
        case rel => exact ⟨k, by omega, by go_num, by rw [HA.out, lastP, if_neg (by rw [get!_at s k hlt]; omega)]⟩
        case measure => simp [intOf]

set_option maxHeartbeats 400000 in
theorem lastIndexByte_any (s : ByteArray) (w : World) (hs : s.size ≤ 1000) :
    Calls Tryz.prog 160 #[.string s, .int .u8 45] w fun e w' => e = .returned (.int .i64 ((lastP s s.size : Nat) - 1 : Int)) ∧ w' = w := by
  go_enter Tryz.func160, Tryz.ntmps160
  go_wp2_with (go_at_call 180; refine (lastByte_any _ _ hs).mono ?_; rintro e w' ⟨rfl, rfl⟩)
  go_ret
  exact ⟨rfl, rfl⟩

def noBytes : ByteArray := { data := #[] }
/-- What split hands back. -/
def splitV (s : ByteArray) : Value := if lastP s s.size = 0 then .tuple #[.string noBytes, .string s, .bool true] else .tuple #[.string (s.extract 0 (lastP s s.size - 1)), .string (s.extract (lastP s s.size) s.size), .bool (decide (1 < lastP s s.size))]
set_option maxHeartbeats 400000 in
theorem split_any (s : ByteArray) (w : World) (hs : s.size ≤ 1000) :
    Calls Tryz.prog 129 #[.string s] w fun e w' => e = .returned (splitV s) ∧ ∃ n, w' = w.drewN n := by
  have hle := lastP_le s s.size
  obtain ⟨p, hp⟩ : ∃ p, lastP s s.size = p := ⟨_, rfl⟩
  by_cases h0 : p = 0
  · have hr : splitV s = .tuple #[.string noBytes, .string s, .bool true] := by rw [splitV, if_pos (by omega)]
    rw [hr]
    have hc := lastIndexByte_any s w hs
    rw [hp, h0] at hc
    clear hr
    go_enter Tryz.func129, Tryz.ntmps129
    go_wp2_with (go_at_call 160; refine hc.mono ?_; rintro e w' ⟨rfl, rfl⟩)
    go_ret3
    exact ⟨rfl, 0, rfl⟩
  · obtain ⟨m, rfl⟩ : ∃ m, p = m + 1 := ⟨p - 1, by omega⟩
    have hr : splitV s = .tuple #[.string (s.extract 0 m), .string (s.extract (m + 1) s.size), .bool (decide (0 < m))] := by
      rw [splitV, if_neg (by omega), hp]
      simp
    rw [hr]
    have hc := lastIndexByte_any s w hs
    rw [hp, show ((m + 1 : Nat) : Int) - 1 = (m : Int) by omega] at hc
    have hm : m < s.size := by omega
    clear hr hle
    go_enter Tryz.func129, Tryz.ntmps129
    go_wp2_with (go_at_call 160; refine hc.mono ?_; rintro e w' ⟨rfl, rfl⟩)
    go_quiet (fail)
    go_wp2
    go_ret3
    exact ⟨rfl, _, rfl⟩
end Go.Proofs.YtkaaldhejpaiiaaGreatDoor
