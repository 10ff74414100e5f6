/- The document's answer: read. -/
import Derived.Test.YtkaaldhejpaiiaaGreatDoorSa
namespace Go.Proofs.YtkaaldhejpaiiaaGreatDoor
open Go.RowKit

def RefRd (s : ByteArray) (at0 bias : Nat) (e : Ending) : Prop :=
  (∃ (q : Nat) (r : List UInt8), Pm.rd bias 1 0 1 (s.data.toList.drop at0) = some (q, r) ∧ q ≤ 1099511627776 ∧ e = .returned (.tuple #[.int .i64 q, .int .i64 ((s.size - r.length : Nat) : Int)])) ∨
  ((∀ q r, Pm.rd bias 1 0 1 (s.data.toList.drop at0) = some (q, r) → 1099511627776 < q) ∧ e = .returned (.tuple #[.int .i64 0, .int .i64 0]))

set_option maxRecDepth 100000 in
set_option maxHeartbeats 4000000 in
theorem refRead_any (X : Nat) (s : ByteArray) (at0 bias : Nat) (w : World) (hc : w.cell? ⟨X, 3, none⟩ = some (.int .i64 bias)) (hs : s.size ≤ 1000) (ha : at0 ≤ s.size) (hb : bias ≤ 1099511627776) :
    Calls Tryz.prog 66 #[.pointer (some ⟨X, 0, none⟩), .string s, .int .i64 at0] w fun e w' => RefRd s at0 bias e ∧ w' = w := by
  go_enter Tryz.func66, Tryz.ntmps66
  go_wp2
  go_loop [2, 8, 9, 10] (fun av qv uv kv => ∃ A S U K : Nat, A ≤ s.size ∧ K ≤ A + 1 ∧ av = .int .i64 A ∧ qv = .int .i64 S ∧ uv = .int .i64 U ∧ kv = .int .i64 K ∧ S ≤ 1099511627776 ∧ U ≤ 38482906972160 ∧ Pm.rd bias 1 0 1 (s.data.toList.drop at0) = Pm.rd bias K S U (s.data.toList.drop A)) (fun av _ _ _ => s.size - (intOf av).toNat)
  case atStart => exact ⟨at0, 0, 1, 1, ha, by omega, rfl, rfl, rfl, rfl, by omega, by omega, rfl⟩
  case round =>
    obtain ⟨A, S, U, K, hA, hKA, rfl, rfl, rfl, rfl, hS, hU, hrd⟩ := hrel
    have HR : Hid (Pm.rd bias 1 0 1 (s.data.toList.drop at0) = Pm.rd bias K S U (s.data.toList.drop A)) := hrd
    clear hrd ha
    by_cases hlt : A < s.size
    · have HC : Hid (s.data.toList.drop A = s[A] :: s.data.toList.drop (A + 1)) := drop_cons s A hlt
      have hcall := fun w => value_any s[A] w
      cases hdg : Pm.dig (s[A]).toNat with
      | none =>
        have HD : Hid (Pm.dig (s[A]).toNat = none) := hdg
        simp only [refDig, hdg] at hcall
        clear hdg
        go_wp2_with (go_at_call 105; refine (hcall _).mono ?_; rintro e w' ⟨rfl, rfl⟩)
        go_ret2
        exact ⟨Or.inr ⟨by rw [HR.out, HC.out, rd_bad HD.out]; simp, rfl⟩, rfl⟩
      | some d =>
        have HD : Hid (Pm.dig (s[A]).toNat = some d) := hdg
        have hd35 := Pm.dig_le hdg
        simp only [refDig, hdg] at hcall
        clear hdg
        have hbn := fun w h => refBound_any X K bias w h (by omega) hb
        have hb1 := Pm.bnd_pos K bias
        have hb2 := Pm.bnd_le K bias
        obtain ⟨B, hB⟩ : ∃ B, Pm.bnd K bias = B := ⟨_, rfl⟩
        have HB : Hid (Pm.bnd K bias = B) := hB
        simp only [hB] at hbn hb1 hb2
        clear hB
        have hz1 : 0 ≤ (d : Int) * (U : Int) := Int.mul_nonneg (by omega) (by omega)
        have hz2 : (d : Int) * (U : Int) ≤ 1346901744025600 := by
          have h1 : d * U ≤ 35 * 38482906972160 := Nat.mul_le_mul hd35 hU
          have e : (d : Int) * (U : Int) = ((d * U : Nat) : Int) := by simp
          omega
        have HE : Hid (((S + d * U : Nat) : Int) = (S : Int) + (d : Int) * (U : Int)) := by unfold Hid; simp
        have HM : Hid (((d * U : Nat) : Int) = (d : Int) * (U : Int)) := by unfold Hid; simp
        have hdn : ¬ (d : Int) < 0 := by omega
        by_cases hbig : (1099511627776 : Int) < (S : Int) + (d : Int) * (U : Int)
        · have HBG : Hid (∀ q r, Pm.rd bias 1 0 1 (s.data.toList.drop at0) = some (q, r) → 1099511627776 < q) := by
            unfold Hid; rw [HR.out, HC.out]; exact rd_much HD.out (by have := HE.out; omega)
          by_cases hd0 : (0 : Int) < (d : Int)
          · by_cases hu : (1099511627776 : Int) < (U : Int)
            · go_wp2_with (first | (go_at_call 105; refine (hcall _).mono ?_; rintro e w' ⟨rfl, hw'⟩; rw [hw']; clear hw') | (go_at_call 106; refine (hbn _ hc).mono ?_; rintro e w' ⟨rfl, hw'⟩; rw [hw']; clear hw'))
              go_ret2
              exact ⟨Or.inr ⟨HBG.out, rfl⟩, rfl⟩
            · by_cases hm : (1099511627776 : Int) < (d : Int) * (U : Int)
              · go_wp2_with (first | (go_at_call 105; refine (hcall _).mono ?_; rintro e w' ⟨rfl, hw'⟩; rw [hw']; clear hw') | (go_at_call 106; refine (hbn _ hc).mono ?_; rintro e w' ⟨rfl, hw'⟩; rw [hw']; clear hw'))
                go_ret2
                exact ⟨Or.inr ⟨HBG.out, rfl⟩, rfl⟩
              · go_wp2_with (first | (go_at_call 105; refine (hcall _).mono ?_; rintro e w' ⟨rfl, hw'⟩; rw [hw']; clear hw') | (go_at_call 106; refine (hbn _ hc).mono ?_; rintro e w' ⟨rfl, hw'⟩; rw [hw']; clear hw'))
                go_ret2
                exact ⟨Or.inr ⟨HBG.out, rfl⟩, rfl⟩
          · exfalso
            have : d = 0 := by omega
            subst this
            simp at hbig
            omega
        · by_cases hlast : (d : Int) < (B : Int)
          · have HL : Hid (Pm.rd bias 1 0 1 (s.data.toList.drop at0) = some (S + d * U, s.data.toList.drop (A + 1))) := by
              unfold Hid; rw [HR.out, HC.out, rd_last HD.out (by rw [HB.out]; omega)]
            have HN : Hid ((s.size - (s.data.toList.drop (A + 1)).length : Nat) = A + 1) := by
              unfold Hid; rw [List.length_drop, Array.length_toList]; show s.size - (s.size - (A + 1)) = A + 1; omega
            by_cases hd0 : (0 : Int) < (d : Int)
            · have hu : ¬ (1099511627776 : Int) < (U : Int) := by
                intro hu
                have h1 : U * 1 ≤ U * d := Nat.mul_le_mul_left U (by omega)
                have h2 := HM.out
                rw [Nat.mul_comm] at h1
                rw [Nat.mul_comm U d] at h1
                omega
              have hm : ¬ (1099511627776 : Int) < (d : Int) * (U : Int) := by omega
              go_wp2_with (first | (go_at_call 105; refine (hcall _).mono ?_; rintro e w' ⟨rfl, hw'⟩; rw [hw']; clear hw') | (go_at_call 106; refine (hbn _ hc).mono ?_; rintro e w' ⟨rfl, hw'⟩; rw [hw']; clear hw'))
              go_ret2
              exact ⟨Or.inl ⟨S + d * U, _, HL.out, by have := HE.out; omega, by rw [HE.out, HN.out]; rfl⟩, rfl⟩
            · have hd1 : d = 0 := by omega
              subst hd1
              by_cases hu : (1099511627776 : Int) < (U : Int)
              all_goals
                go_wp2_with (first | (go_at_call 105; refine (hcall _).mono ?_; rintro e w' ⟨rfl, hw'⟩; rw [hw']; clear hw') | (go_at_call 106; refine (hbn _ hc).mono ?_; rintro e w' ⟨rfl, hw'⟩; rw [hw']; clear hw'))
                go_ret2
                exact ⟨Or.inl ⟨S + 0 * U, _, HL.out, by have := HE.out; omega, by rw [HN.out]; simp⟩, rfl⟩
          · have hd0 : (0 : Int) < (d : Int) := by omega
            have hu : ¬ (1099511627776 : Int) < (U : Int) := by
              intro hu
              have h1 : U * 1 ≤ U * d := Nat.mul_le_mul_left U (by omega)
              have h2 := HM.out
              rw [Nat.mul_comm U d] at h1
              omega
            have hm : ¬ (1099511627776 : Int) < (d : Int) * (U : Int) := by omega
            have hu1 : 0 ≤ (U : Int) * (36 - (B : Int)) := Int.mul_nonneg (by omega) (by omega)
            have HUE : Hid (((U * (36 - B) : Nat) : Int) = (U : Int) * (36 - (B : Int))) := by unfold Hid; rw [Int.natCast_mul, Int.natCast_sub (by omega)]; rfl
            have HU2 : Hid (U * (36 - B) ≤ 38482906972160) := by
              have h3 : U * (36 - B) ≤ 1099511627776 * 35 := Nat.mul_le_mul (by omega) (by omega)
              unfold Hid; omega
            have hu2 : (U : Int) * (36 - (B : Int)) ≤ 38482906972160 := by have h1 := HU2.out; have h2 := HUE.out; omega
            go_wp2_with (first | (go_at_call 105; refine (hcall _).mono ?_; rintro e w' ⟨rfl, hw'⟩; rw [hw']; clear hw') | (go_at_call 106; refine (hbn _ hc).mono ?_; rintro e w' ⟨rfl, hw'⟩; rw [hw']; clear hw'))
            go_round
            case rel => exact ⟨A + 1, S + d * U, U * (36 - B), K + 1, by omega, by omega, by go_num, by rw [HE.out], by rw [HUE.out], by go_num, by have := HE.out; omega, HU2.out, by rw [HR.out, HC.out, rd_more HD.out (by rw [HB.out]; omega), HB.out]⟩
            case measure => simp [intOf]; omega
    · go_wp2
      go_ret2
      exact ⟨Or.inr ⟨by rw [HR.out, List.drop_eq_nil_of_le (by rw [Array.length_toList]; show s.size ≤ A; omega), rd_nil]; simp, rfl⟩, rfl⟩
end Go.Proofs.YtkaaldhejpaiiaaGreatDoor
