/- The walk of readNumber. -/
import Derived.Test.YtkaaldhejpaiiaaGreatDoorPc
namespace Go.Proofs.YtkaaldhejpaiiaaGreatDoor
open Go.RowKit

theorem drop_cons (s : ByteArray) (k : Nat) (h : k < s.size) : s.data.toList.drop k = s[k] :: s.data.toList.drop (k + 1) := by
  rw [List.drop_eq_getElem_cons (by simpa using h)]; rfl
theorem rd_nil (bias k s u : Nat) : Pm.rd bias k s u [] = none := by simp [Pm.rd]
theorem rd_bad {bias k s u : Nat} {c : UInt8} {l : List UInt8} (h : Pm.dig c.toNat = none) : Pm.rd bias k s u (c :: l) = none := by simp [Pm.rd, h]
theorem rd_last {bias k s u d : Nat} {c : UInt8} {l : List UInt8} (h : Pm.dig c.toNat = some d) (hd : d < Pm.bnd k bias) : Pm.rd bias k s u (c :: l) = some (s + d * u, l) := by simp [Pm.rd, h, hd]
theorem rd_more {bias k s u d : Nat} {c : UInt8} {l : List UInt8} (h : Pm.dig c.toNat = some d) (hd : ¬ d < Pm.bnd k bias) : Pm.rd bias k s u (c :: l) = Pm.rd bias (k + 1) (s + d * u) (u * (36 - Pm.bnd k bias)) l := by simp [Pm.rd, h, hd]
theorem rd_much {bias k s u d most : Nat} {c : UInt8} {l : List UInt8} (h : Pm.dig c.toNat = some d) (hm : most < s + d * u) : ∀ q r, Pm.rd bias k s u (c :: l) = some (q, r) → most < q := by
  intro q r hr
  by_cases hd : d < Pm.bnd k bias
  · rw [rd_last h hd] at hr; simp at hr; omega
  · rw [rd_more h hd] at hr
    have := Pm.rd_ge bias l _ _ _ _ _ hr
    omega
theorem toList_extract_end (s : ByteArray) (k : Nat) : (s.extract k s.size).data.toList = s.data.toList.drop k := by
  simp only [ByteArray.data_extract, Array.toList_extract, List.extract_eq_take_drop]
  exact List.take_of_length_le (by simp)

def RdOk (s : ByteArray) (bias most : Nat) (e : Ending) : Prop :=
  (∃ (q : Nat) (r : ByteArray), Pm.rd bias 1 0 1 s.data.toList = some (q, r.data.toList) ∧ q ≤ most ∧ r.size < s.size ∧ e = .returned (.tuple #[.int .i64 q, .string r, .bool true])) ∨
  ((∀ q r, Pm.rd bias 1 0 1 s.data.toList = some (q, r) → most < q) ∧ e = .returned (.tuple #[.int .i64 0, .string { data := #[] }, .bool false]))

set_option maxRecDepth 100000 in
set_option maxHeartbeats 2000000 in
theorem readNumber_any (s : ByteArray) (bias most : Nat) (w : World) (hs : s.size ≤ 1000) (hb : bias ≤ 1099511627776) (hm : most ≤ 1115226111) :
    Calls Tryz.prog 181 #[.string s, .int .i64 bias, .int .i64 most] w fun e w' => RdOk s bias most e ∧ ∃ n, w' = w.drewN n := by
  go_enter Tryz.func181, Tryz.ntmps181
  go_wp2
  go_loop [9, 10, 17] (fun sm wt i => ∃ k S U : Nat, k ≤ s.size ∧ i = .int .i64 k ∧ sm = .int .i64 S ∧ wt = .int .i64 U ∧ S ≤ most ∧ U ≤ 35 * most + 1 ∧ Pm.rd bias 1 0 1 s.data.toList = Pm.rd bias (k + 1) S U (s.data.toList.drop k)) (fun _ _ i => s.size - (intOf i).toNat)
  case atStart => exact ⟨0, 0, 1, by omega, rfl, rfl, rfl, by omega, by omega, by simp⟩
  case round =>
    obtain ⟨k, S, U, hk, rfl, rfl, rfl, hS, hU, hrd⟩ := hrel
    have HR : Hid (Pm.rd bias 1 0 1 s.data.toList = Pm.rd bias (k + 1) S U (s.data.toList.drop k)) := hrd
    clear hrd
    by_cases hlt : k < s.size
    · have HC : Hid (s.data.toList.drop k = s[k] :: s.data.toList.drop (k + 1)) := drop_cons s k hlt
      have hcall := fun w => digitOf_any s[k] w
      cases hdg : Pm.dig (s[k]).toNat with
      | none =>
        have HD : Hid (Pm.dig (s[k]).toNat = none) := hdg
        simp only [hdg, Option.getD_none, Option.isSome_none] at hcall
        clear hdg
        go_wp2_with (go_at_call 195; refine (hcall _).mono ?_; rintro e w' ⟨rfl, rfl⟩)
        go_ret3
        exact ⟨Or.inr ⟨by rw [HR.out, HC.out, rd_bad HD.out]; simp, rfl⟩, 0, rfl⟩
      | some d =>
        have HD : Hid (Pm.dig (s[k]).toNat = some d) := hdg
        have hd35 := Pm.dig_le hdg
        simp only [hdg, Option.getD_some, Option.isSome_some] at hcall
        clear hdg
        have HM : Hid (d * U ≤ 35 * (35 * most + 1)) := Nat.mul_le_mul hd35 hU
        have hz2 : (d : Int) * (U : Int) ≤ 1366152006975 := by
          have := HM.out
          have e : (d : Int) * (U : Int) = ((d * U : Nat) : Int) := by simp
          omega
        have hz1 : 0 ≤ (d : Int) * (U : Int) := Int.mul_nonneg (by omega) (by omega)
        have HE : Hid (((S + d * U : Nat) : Int) = (S : Int) + (d : Int) * (U : Int)) := by unfold Hid; simp
        clear hU
        by_cases hbig : (most : Int) < (S : Int) + (d : Int) * (U : Int)
        · go_wp2_with (go_at_call 195; refine (hcall _).mono ?_; rintro e w' ⟨rfl, rfl⟩)
          go_ret3
          exact ⟨Or.inr ⟨by rw [HR.out, HC.out]; exact rd_much HD.out (by have := HE.out; omega), rfl⟩, 0, rfl⟩
        · have hbn := fun w => bound_any (k + 1) bias w (by omega) hb
          have hb1 := Pm.bnd_pos (k + 1) bias
          have hb2 := Pm.bnd_le (k + 1) bias
          obtain ⟨B, hB⟩ : ∃ B, Pm.bnd (k + 1) bias = B := ⟨_, rfl⟩
          have HB : Hid (Pm.bnd (k + 1) bias = B) := hB
          simp only [hB] at hbn hb1 hb2
          clear hB
          have ek : ((k + 1 : Nat) : Int) = (k : Int) + 1 := by omega
          rw [ek] at hbn
          clear ek
          by_cases hlast : (d : Int) < (B : Int)
          · go_wp2_with (first | (go_at_call 195; refine (hcall _).mono ?_; rintro e w' ⟨rfl, rfl⟩) | (go_at_call 196; refine (hbn _).mono ?_; rintro e w' ⟨rfl, rfl⟩))
            go_quiet (fail)
            go_wp2
            go_ret3
            refine ⟨Or.inl ⟨S + d * U, s.extract (k + 1) s.size, ?_, by have := HE.out; omega, ?_, ?_⟩, _, rfl⟩
            · rw [HR.out, HC.out, rd_last HD.out (by rw [HB.out]; omega), toList_extract_end]
            · simp; omega
            · rw [HE.out]; rfl
          · have HU : Hid (U ≤ d * U) := Nat.le_mul_of_pos_left U (by omega)
            have HU2 : Hid (U * (36 - B) ≤ 35 * most) := by
              have h1 := HU.out
              have h2 := HE.out
              have h3 : U * (36 - B) ≤ U * 35 := Nat.mul_le_mul_left U (by omega)
              unfold Hid
              omega
            have hu1 : 0 ≤ (U : Int) * (36 - (B : Int)) := Int.mul_nonneg (by omega) (by omega)
            have HUE : Hid (((U * (36 - B) : Nat) : Int) = (U : Int) * (36 - (B : Int))) := by unfold Hid; rw [Int.natCast_mul, Int.natCast_sub (by omega)]; rfl
            have hu2 : (U : Int) * (36 - (B : Int)) ≤ 1366152006975 := by
              have h1 := HU2.out
              have h2 := HUE.out
              omega
            go_wp2_with (first | (go_at_call 195; refine (hcall _).mono ?_; rintro e w' ⟨rfl, rfl⟩) | (go_at_call 196; refine (hbn _).mono ?_; rintro e w' ⟨rfl, rfl⟩))
            go_round
            case rel => exact ⟨k + 1, S + d * U, U * (36 - B), by omega, by go_num, by rw [HE.out], by rw [HUE.out], by have := HE.out; omega, by have := HU2.out; omega, by rw [HR.out, HC.out, rd_more HD.out (by rw [HB.out]; omega), HB.out]⟩
            case measure => simp [intOf]; omega
    · go_wp2
      go_ret3
      exact ⟨Or.inr ⟨by rw [HR.out, List.drop_eq_nil_of_le (by simp; omega), rd_nil]; simp, rfl⟩, 0, rfl⟩
end Go.Proofs.YtkaaldhejpaiiaaGreatDoor
