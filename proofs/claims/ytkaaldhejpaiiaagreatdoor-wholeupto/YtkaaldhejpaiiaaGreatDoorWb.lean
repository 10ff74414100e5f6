import Derived.Test.YtkaaldhejpaiiaaGreatDoorBu19
import Derived.Test.YtkaaldhejpaiiaaGreatDoorWa
import Derived.CellFam
/- The document's number and ahead, at long labels. -/
namespace Go.Proofs.YtkaaldhejpaiiaaGreatDoor
open Go.RowKit

set_option maxRecDepth 100000 in
set_option maxHeartbeats 4000000 in
theorem refNumberB (X q bias : Nat) (w : World) (hX : X < w.heap.size) (hc : w.cell? ⟨X, 3, none⟩ = some (.int .i64 bias)) (hq : q ≤ 1300000000000) (hb : bias ≤ 1400000000000) :
    Calls Tryz.prog 75 #[.pointer (some ⟨X, 0, none⟩), .int .i64 q] w fun e w' => e = .returned (.string ⟨(wnum bias (q + 1) 1 q).toArray⟩) ∧ Below w.heap.size w w' := by
  obtain ⟨ANS, hANS⟩ : ∃ ANS, wnum bias (q + 1) 1 q = ANS := ⟨_, rfl⟩
  rw [hANS]
  have hkz : q < 2 ^ 41 := by omega
  go_enter Tryz.func75, Tryz.ntmps75
  go_wp2
  go_loopg [1, 5, 6] 50 (fun gk q0 s0 k0 wx => ∃ (S : ByteArray) (Q K : Nat), q0 = .int .i64 Q ∧ s0 = .string S ∧ k0 = .int .i64 K ∧ Below w.heap.size w wx ∧ K + gk = 51 ∧ 1 ≤ K ∧ 1 ≤ gk ∧ Q < 2 ^ (gk - 1) ∧ S.size + gk ≤ 50 ∧ S.data.toList ++ wnum bias (Q + 1) K Q = ANS)
  case atStart => exact ⟨{ data := #[] }, q, 1, rfl, rfl, rfl, Below.refl _ _, by omega, by omega, by omega, by show q < 2 ^ 49; omega, Nat.le_refl _, by simpa using hANS⟩
  case round =>
    clear hANS
    obtain ⟨S, Q, K, rfl, rfl, rfl, hbw, hKg, hK1, hg1, hQ, hF, hv⟩ := hrel
    obtain ⟨gk', rfl⟩ : ∃ gk', gk = gk' + 1 := ⟨gk - 1, by omega⟩
    have hcr : wr.cell? ⟨X, 3, none⟩ = some (.int .i64 bias) := (hbw.cell (p := ⟨X, 3, none⟩) hX).trans hc
    have hbn := refBoundB X K bias wr hcr (by omega) hb
    have hb1 := Pm.bnd_pos K bias
    have hb2 := Pm.bnd_le K bias
    obtain ⟨b, hbb⟩ : ∃ b, Pm.bnd K bias = b := ⟨_, rfl⟩
    have HB : Hid (Pm.bnd K bias = b) := hbb
    rw [hbb] at hbn hb1 hb2
    clear hbb
    have HV : Hid (S.data.toList ++ wnum bias (Q + 1) K Q = ANS) := hv
    clear hv hcr
    have hQ2 : Q < 2 ^ 49 := Nat.lt_of_lt_of_le hQ (Nat.pow_le_pow_right (by omega) (by omega))
    have hQ3 : Q ≤ 562949953421312 := by omega
    have HQ : Hid (Q < 2 ^ gk') := hQ
    have HKG : Hid (K + (gk' + 1) = 51) := hKg
    have hK2 : K ≤ 50 := by omega
    have HF : Hid (S.size + (gk' + 1) ≤ 50) := hF
    have hsz : S.size + 1 ≤ 9223372036854775807 := by omega
    clear hQ hQ2 hKg hF hkz
    by_cases hlt : (Q : Int) < (b : Int)
    · have hdg := refDigit_any Q wr (by omega)
      have hcv := run_oneString wr (dchar Q).toNat (dchar_lt (by omega)).1
      go_wp2_with (first | (go_at_call 106; refine hbn.mono ?_; rintro e w' ⟨rfl, hw'⟩; rw [hw']; clear hw') | (go_at_call 111; refine hdg.mono ?_; rintro e w' ⟨rfl, hw'⟩; rw [hw']; clear hw'))
      go_ret
      refine ⟨?_, hbw.alloc hbw.size _⟩
      have hv := HV.out
      unfold wnum at hv
      rw [HB.out, if_pos (by omega)] at hv
      rw [← hv]
      refine congrArg Ending.returned ?_
      show Value.string (S ++ ⟨#[dchar Q]⟩) = _
      congr 1
    · have hd36 : b + (Q - b) % (36 - b) < 36 := by
        have := Nat.mod_lt (Q - b) (show 0 < 36 - b by omega)
        omega
      obtain ⟨D, hD⟩ : ∃ D, b + (Q - b) % (36 - b) = D := ⟨_, rfl⟩
      have hDI : (b : Int) + ((Q : Int) - (b : Int)) % (36 - (b : Int)) = (D : Int) := by
        rw [← hD, show (Q : Int) - (b : Int) = ((Q - b : Nat) : Int) by omega, show (36 : Int) - (b : Int) = ((36 - b : Nat) : Int) by omega]
        push_cast
        rfl
      obtain ⟨R, hR⟩ : ∃ R, (Q - b) / (36 - b) = R := ⟨_, rfl⟩
      have hRI : ((Q : Int) - (b : Int)) / (36 - (b : Int)) = (R : Int) := by
        rw [← hR, show (Q : Int) - (b : Int) = ((Q - b : Nat) : Int) by omega, show (36 : Int) - (b : Int) = ((36 - b : Nat) : Int) by omega]
        push_cast
        rfl
      have HRD : Hid (b + (Q - b) % (36 - b) = D ∧ (Q - b) / (36 - b) = R) := ⟨hD, hR⟩
      rw [hD] at hd36
      have hRQ : R < 2 ^ (gk' - 1) ∧ 1 ≤ gk' := by
        have h1 := HQ.out
        have h2 : 1 ≤ gk' := by
          rcases Nat.eq_zero_or_pos gk' with h0 | h0
          · rw [h0] at h1; omega
          · exact h0
        refine ⟨?_, h2⟩
        have h3 : (Q - b) / (36 - b) ≤ Q / 2 := by
          have e1 : (Q - b) / (36 - b) ≤ (Q - b) / 2 := Nat.div_le_div_left (by omega) (by omega)
          have e2 : (Q - b) / 2 ≤ Q / 2 := Nat.div_le_div_right (by omega)
          omega
        have h4 : 2 ^ gk' = 2 * 2 ^ (gk' - 1) := by rw [← Nat.pow_succ', show (gk' - 1).succ = gk' by omega]
        omega
      have hdg := refDigit_any D wr hd36
      have hcv := run_oneString wr (dchar D).toNat (dchar_lt hd36).1
      have hne : ((36 : Int) - (b : Int) == 0) = false := by simp; omega
      clear hD hR
      go_wp2_with (first | (go_at_call 106; refine hbn.mono ?_; rintro e w' ⟨rfl, hw'⟩; rw [hw']; clear hw') | (go_at_call 111; refine hdg.mono ?_; rintro e w' ⟨rfl, hw'⟩; rw [hw']; clear hw'))
      go_roundg gk'
      case measure => omega
      case rel =>
        refine ⟨S ++ ⟨#[dchar D]⟩, R, K + 1, by rw [hRI], ?_, by go_num, hbw.alloc hbw.size _, by have := HKG.out; omega, by omega, hRQ.2, hRQ.1, ?_, ?_⟩
        · simp
        · have := HF.out
          rw [ByteArray.size_append]
          show S.size + 1 + gk' ≤ 50
          omega
        · have hv := HV.out
          unfold wnum at hv
          rw [HB.out, if_neg (by omega), HRD.out.1, HRD.out.2] at hv
          rw [← hv, append_bytes, List.append_assoc]
          rw [wnum_fuel bias (R + 1) Q (K + 1) R (by omega) (by have := HRD.out.2; have h5 : (Q - b) / (36 - b) ≤ Q - b := Nat.div_le_self _ _; omega)]
          rfl

set_option maxRecDepth 100000 in
set_option maxHeartbeats 4000000 in
theorem aheadB (g c p : Nat) (L : List Nat) (w : World) (hL : L.length ≤ 1100000) (hp : p < L.length) (hc : ∀ j (hj : j < L.length), w.cell? ⟨g, j, none⟩ = some (.int .i64 (L[j] : Nat))) :
    Calls Tryz.prog 74 #[.slice (some ⟨g, 0, none⟩) L.length c, .int .i64 p] w fun e w' => e = .returned (.int .i64 (cnt L L[p] p)) ∧ ∃ q, w' = w.drewN q := by
  obtain ⟨n, hn⟩ : ∃ n, L.length = n := ⟨_, rfl⟩
  obtain ⟨y, hy⟩ : ∃ y, L[p] = y := ⟨_, rfl⟩
  have hcp := hc p hp
  rw [hy] at hcp ⊢
  have HC : Hid (∀ j (hj : j < L.length), w.cell? ⟨g, j, none⟩ = some (.int .i64 (L[j] : Nat))) := hc
  rw [hn] at hp hL ⊢
  clear hc
  go_enter Tryz.func74, Tryz.ntmps74
  go_wp2
  go_loopg [5, 6] p (fun k x z wr => ∃ i q : Nat, x = .int .i64 (cnt L y i) ∧ z = .int .i64 i ∧ i ≤ p ∧ p - i ≤ k ∧ wr = w.drewN q)
  case atStart => exact ⟨0, 0, by simp [cnt], rfl, by omega, by omega, rfl⟩
  case round =>
    obtain ⟨i, q, rfl, rfl, hi, hk, rfl⟩ := hrel
    by_cases hlt : i < p
    · have hci := HC.out i (by omega)
      obtain ⟨m, hm⟩ : ∃ m, L[i]'(by omega) = m := ⟨_, rfl⟩
      rw [hm] at hci
      have HS : Hid (cnt L y (i + 1) = if m ≤ y then cnt L y i + 1 else cnt L y i) := by unfold Hid; rw [cnt_snoc (by omega), hm]
      have hcl : cnt L y i ≤ 1100000 := by have := cnt_le_sub L y i; have := sub_len_le L y i; omega
      clear hm
      generalize cnt L y i = C at *
      by_cases hle : (m : Int) ≤ (y : Int)
      · go_wp2
        go_quiet (fail)
        go_wp2
        go_roundg (p - (i + 1))
        case measure => omega
        case rel => exact ⟨i + 1, q + nq, by rw [HS.out, if_pos (by omega)]; go_num, by go_num, by omega, by omega, rfl⟩
      · go_wp2
        go_quiet (fail)
        go_wp2
        go_roundg (p - (i + 1))
        case measure => omega
        case rel => exact ⟨i + 1, q + nq, by rw [HS.out, if_neg (by omega)], by go_num, by omega, by omega, rfl⟩
    · have : i = p := by omega
      subst this
      go_wp2
      go_ret
      exact ⟨rfl, q, rfl⟩

end Go.Proofs.YtkaaldhejpaiiaaGreatDoor

