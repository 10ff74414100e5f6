import Derived.Test.YtkaaldhejpaiiaaGreatDoorOl
/- Strange, at every input. -/
namespace Go.Proofs.YtkaaldhejpaiiaaGreatDoor
open Go.RowKit

theorem strange_text (n : Nat) (zs : List Int) : (⟨#[109]⟩ : ByteArray) ++ textOf [n] ++ textOf (lettersM zs) = textOf (strangeL n zs) := by
  rw [show strangeL n zs = ([109] ++ [n]) ++ lettersM zs from rfl, textOf_append, textOf_append]
  rfl
theorem low_bytes (L : List Nat) (h : allLow L = true) (j : Nat) (hj : j < (textOf L).size) : ((textOf L)[j].toNat : Int) < 128 := by
  rw [← textOf_low] at h
  have h1 := List.all_eq_true.1 h (textOf L)[j] (by rw [ByteArray.getElem_eq_getElem_data]; exact Array.getElem_mem_toList (xs := (textOf L).data) hj)
  simp at h1
  omega
theorem high_byte (L : List Nat) (h : allLow L = false) : ∃ j, ∃ hj : j < (textOf L).size, ¬ ((textOf L)[j].toNat : Int) < 128 := by
  rw [← textOf_low] at h
  unfold ascB at h
  rw [List.all_eq_false] at h
  obtain ⟨b, hb, h1⟩ := h
  obtain ⟨j, hj, e⟩ := List.getElem_of_mem hb
  have hj2 : j < (textOf L).size := by simpa using hj
  refine ⟨j, hj2, ?_⟩
  have e2 : (textOf L)[j] = b := by rw [ByteArray.getElem_eq_getElem_data, ← e]; simp
  rw [e2]
  simp at h1
  omega
set_option maxRecDepth 100000 in
set_option maxHeartbeats 8000000 in
theorem strange_any (a : Option Addr) (cap : Nat) (zs : List Int) (n0 at0 : Int) (w : World) (hG : Ground w) (hR : Raw w a zs)
    (hb1 : -9223372036854775808 ≤ n0) (hb2 : n0 ≤ 9223372036854775807) :
    Calls Tryz.prog 6 #[.slice a zs.length cap, .int .i64 n0, .int .i64 at0] w fun e w' => e = .returned (.bool true) ∧ Below w.heap.size w w' := by
  have hlk := looks_any w hG
  have HG : Hid (∀ W, Below w.heap.size w W → Ground W) := fun W hW => hG.keep hW
  have HR : Hid (∀ W, Below w.heap.size w W → Raw W a zs) := fun W hW => hR.keep hW
  clear hG hR
  have hpn := fun W => pick_gen n0 1114112 W hb1 hb2 (by omega) (by omega)
  have hnl := pickM_lt n0 1114112 (by omega)
  generalize pickM n0 1114112 = n at hpn hnl
  have hza : (textOf (lettersM zs)).size ≤ 52 := by
    have := textOf_len (lettersM zs)
    have h2 : (lettersM zs).length ≤ 13 := by unfold lettersM; simp; omega
    omega
  have hlv := letters_labelV zs
  have hfz : (formB (lettersM zs)).toList.isEmpty = false := by
    have h0 := form_pos (letters_good zs)
    cases h : (formB (lettersM zs)).toList.isEmpty with
    | false => rfl
    | true =>
      have h1 := empty_beq (formB (lettersM zs))
      rw [List.isEmpty_iff.1 h] at h1
      have h2 : decide ((formB (lettersM zs)).size = 0) = true := h1.symm
      exact absurd (of_decide_eq_true h2) (by omega)
  have HL : Hid (∀ W, Ground W → Calls Tryz.prog 11 #[.string (textOf (lettersM zs))] W fun e w' => e = .returned (.tuple #[.string (textOf (lettersM zs)), .string (formB (lettersM zs)), .int .i64 0]) ∧ Below W.heap.size W w') := fun W hW => by rw [← hlv]; exact Label_at _ W (by omega) hW
  have HU : Hid (∀ W, Ground W → Calls Tryz.prog 11 #[.string (⟨#[109, 255]⟩ ++ textOf (lettersM zs))] W fun e w' => e = .returned (.tuple #[.string { data := #[] }, .string { data := #[] }, .int .i64 1]) ∧ Below W.heap.size W w') := fun W hW => by rw [← strange_utf (textOf (lettersM zs))]; exact Label_at _ W (by rw [ByteArray.size_append]; have : (⟨#[109, 255]⟩ : ByteArray).size = 2 := rfl; omega) hW
  clear hlv
  have HF : Hid (Pm.sign n = true → ∃ x y, ∀ W, Ground W → Calls Tryz.prog 11 #[.string (⟨#[109]⟩ ++ textOf [n] ++ textOf (lettersM zs))] W fun e w' => e = .returned (.tuple #[.string x, .string y, .int .i64 ((labelM (textOf (strangeL n zs))).1 : Nat)]) ∧ Below W.heap.size W w') := fun hs => by
    obtain ⟨x, y, h⟩ := labelV_err (textOf (strangeL n zs))
    refine ⟨x, y, fun W hW => ?_⟩
    rw [strange_text, ← h]
    refine Label_at _ W ?_ hW
    have h1 := textOf_len (strangeL n zs)
    have h2 : (strangeL n zs).length ≤ 15 := by unfold strangeL lettersM; simp; omega
    omega
  have HK : Hid (∀ W, Ground W → Calls Tryz.prog 17 #[.int .i64 (n : Int)] W fun e w' => e = .returned (.int .i64 (rC (pk (n : Int)))) ∧ Below W.heap.size W w') := fun W hW => by
    obtain ⟨_, ⟨tt, fr, h⟩, _⟩ := hW
    rw [rC_look]
    exact kind_any (n : Int) W tt fr h
  have HS : Hid (Pm.sign n = true → ∀ W, Calls Tryz.prog 18 #[.int .i64 (n : Int)] W fun e w' => e = .returned (.string (textOf [n])) ∧ Below W.heap.size W w') := fun hs W => sign_any n W hs
  have hz1 : (textOf [n]).size ≤ 4 := textOf_len [n]
  have HC : Hid (65 ≤ n ∧ n ≤ 90 → (labelM (textOf (strangeL n zs))).1 = if allLow (lettersM zs) = true then 0 else 4) := strange_cap zs
  have HO : Hid (Pm.sign n = true → ¬ (65 ≤ n ∧ n ≤ 90) → (rC (pk (n : Int)) = 0 → (labelM (textOf (strangeL n zs))).1 = 4) ∧ (Common n → (labelM (textOf (strangeL n zs))).1 = 0) ∧ (rC (pk (n : Int)) ≠ 0 → (labelM (textOf (strangeL n zs))).1 ≠ 4)) := strange_other zs
  have HLB : Hid (∀ h : allLow (lettersM zs) = true, ∀ j (hj : j < (textOf (lettersM zs)).size), ((textOf (lettersM zs))[j].toNat : Int) < 128) := low_bytes (lettersM zs)
  have HHB : Hid (allLow (lettersM zs) = false → ∃ j, ∃ hj : j < (textOf (lettersM zs)).size, ¬ ((textOf (lettersM zs))[j].toNat : Int) < 128) := high_byte (lettersM zs)
  generalize (labelM (textOf (strangeL n zs))).1 = c at HF HC HO
  go_enter Tryz.func6, Tryz.ntmps6
  go_wp2_with fail
  refine hlk.mono ?_
  rintro e w1 ⟨rfl, hbw1⟩
  clear hlk
  have hle := letters_any a cap zs w1 (HR.out w1 hbw1)
  have HB1 : Hid (Below w.heap.size w w1) := hbw1
  clear hbw1
  generalize textOf (lettersM zs) = A at *
  generalize formB (lettersM zs) = F at *
  go_wp2_with fail
  refine hle.mono ?_
  rintro e w2 ⟨rfl, hb2⟩
  clear hle
  have HB2 : Hid (Below w.heap.size w w2) := Below.andThen HB1.out hb2
  clear hb2
  have c1 := HL.out w2 (HG.out w2 HB2.out)
  go_wp2_with fail
  refine c1.mono ?_
  rintro e w3 ⟨rfl, hb3⟩
  clear c1
  have HB3 : Hid (Below w.heap.size w w3) := Below.andThen HB2.out hb3
  clear hb3
  have c2 := hpn w3
  go_wp2_with fail
  refine c2.mono ?_
  rintro e w' ⟨rfl, hw'⟩; rw [hw']; clear hw' c2 hpn
  by_cases hd : n < 55296
  · have hs : Pm.sign n = true := by rw [sign_iff]; omega
    have ck := HK.out w3 (HG.out w3 HB3.out)
    obtain ⟨x, y, hf⟩ := HF.out hs
    have HF2 : Hid (∀ W, Ground W → Calls Tryz.prog 11 #[.string (⟨#[109]⟩ ++ textOf [n] ++ A)] W fun e w' => e = .returned (.tuple #[.string x, .string y, .int .i64 (c : Int)]) ∧ Below W.heap.size W w') := hf
    have HS2 : Hid (∀ W, Calls Tryz.prog 18 #[.int .i64 (n : Int)] W fun e w' => e = .returned (.string (textOf [n])) ∧ Below W.heap.size W w') := HS.out hs
    have hrg := rC_range (n : Int)
    have HO2 : Hid (¬ (65 ≤ n ∧ n ≤ 90) → (rC (pk (n : Int)) = 0 → c = 4) ∧ ((rC (pk (n : Int)) = 1 ∨ rC (pk (n : Int)) = 2 ∨ rC (pk (n : Int)) = 3) → c = 0) ∧ (rC (pk (n : Int)) ≠ 0 → c ≠ 4)) := HO.out hs
    generalize textOf [n] = T at HF2 HS2 hz1
    generalize rC (pk (n : Int)) = K at ck hrg HO2
    obtain ⟨M, hM⟩ : ∃ M : Int, (n : Int) = M := ⟨_, rfl⟩
    have HM : Hid ((n : Int) = M) := hM
    rw [hM] at ck HS2 ⊢
    have q1 : ¬ (55296 : Int) ≤ M := by omega
    have z1 : ((⟨#[109]⟩ : ByteArray) ++ T).size ≤ 5 := by rw [ByteArray.size_append]; have : (⟨#[109]⟩ : ByteArray).size = 1 := rfl; omega
    have HRG : Hid (K = 0 ∨ K = 1 ∨ K = 2 ∨ K = 3 ∨ K = 4 ∨ K = 5) := hrg
    have HNL : Hid (n < 55296) := hd
    clear hf HF HO HK HS hd hs hM hrg hnl
    go_wp2_with fail
    refine ck.mono ?_
    rintro e w4 ⟨rfl, hb4⟩
    clear ck
    have HB4 : Hid (Below w.heap.size w w4) := Below.andThen HB3.out hb4
    clear hb4
    have cs := HS2.out w4
    go_wp2_with fail
    refine cs.mono ?_
    rintro e w5 ⟨rfl, hb5⟩
    clear cs
    have HB5 : Hid (Below w.heap.size w w5) := Below.andThen HB4.out hb5
    clear hb5
    have cf := HF2.out w5 (HG.out w5 HB5.out)
    go_wp2_with fail
    refine cf.mono ?_
    rintro e w6 ⟨rfl, hb6⟩
    clear cf
    have HB6 : Hid (Below w.heap.size w w6) := Below.andThen HB5.out hb6
    clear hb6
    have cu := HU.out w6 (HG.out w6 HB6.out)
    go_wp2_with fail
    refine cu.mono ?_
    rintro e w7 ⟨rfl, hb7⟩
    clear cu
    have HB7 : Hid (Below w.heap.size w w7) := Below.andThen HB6.out hb7
    clear hb7
    by_cases hcap : 65 ≤ n ∧ n ≤ 90
    · have hcv := HC.out hcap
      have hm := HM.out
      have q3 : (65 : Int) ≤ M := by omega
      have q4 : M ≤ 90 := by omega
      clear hm hcap HC HO2 HM HNL HRG q1
      cases hal : allLow (lettersM zs) with
      | true =>
        rw [hal, if_pos rfl] at hcv
        subst hcv
        have HLB2 := HLB.out hal
        clear hal HLB HHB
        go_wp2_with fail
        go_loop [19] (fun i => ∃ k : Nat, k ≤ A.size ∧ i = .int .i64 k) (fun i => A.size - (intOf i).toNat)
        case atStart => exact ⟨0, Nat.zero_le _, rfl⟩
        case round =>
          obtain ⟨k, hk, rfl⟩ := hrel
          by_cases hlt : k < A.size
          · have h8 := HLB2 k hlt
            have h9 : ¬ (128 : Int) ≤ (A[k].toNat : Int) := by omega
            go_wp2
            go_round
            case rel => exact ⟨k + 1, by omega, by go_num⟩
            case measure => simp [intOf]; omega
          · go_wp2
            go_ret
            exact ⟨by simp, HB7.out⟩
      | false =>
        rw [hal, if_neg (by decide)] at hcv
        subst hcv
        obtain ⟨j, hj, hjb⟩ := HHB.out hal
        clear hal HLB HHB
        have HJ : Hid (128 ≤ (A[j].toNat : Int)) := by unfold Hid; omega
        clear hjb
        go_wp2_with fail
        go_loop [19] (fun i => ∃ k : Nat, k ≤ j ∧ i = .int .i64 k) (fun i => A.size - (intOf i).toNat)
        case atStart => exact ⟨0, Nat.zero_le _, rfl⟩
        case round =>
          obtain ⟨k, hk, rfl⟩ := hrel
          have hlt : k < A.size := by omega
          by_cases h8 : (128 : Int) ≤ (A[k].toNat : Int)
          · go_wp2
            go_ret
            exact ⟨by simp, HB7.out⟩
          · have hkj : k < j := by
              rcases Nat.lt_or_ge k j with h | h
              · exact h
              · exfalso
                obtain rfl : k = j := by omega
                have := HJ.out
                omega
            go_wp2
            go_round
            case rel => exact ⟨k + 1, by omega, by go_num⟩
            case measure => simp [intOf]; omega
    · obtain ⟨o1, o2, o3⟩ := HO2.out hcap
      have O1 : Hid (K = 0 → c = 4) := o1
      have O2 : Hid ((K = 1 ∨ K = 2 ∨ K = 3) → c = 0) := o2
      have O3 : Hid (K ≠ 0 → c ≠ 4) := o3
      have hm := HM.out
      have hcc : ¬ (65 : Int) ≤ M ∨ ((65 : Int) ≤ M ∧ ¬ M ≤ 90) := by omega
      clear hm hcap HC HO2 HM HNL o1 o2 o3 q1 HLB HHB
      rcases hcc with q3 | ⟨q3, q4⟩
      all_goals
        rcases HRG.out with rfl | rfl | rfl | rfl | rfl | rfl
        · have hc4 := O1.out rfl
          subst hc4
          clear O1 O2 O3 HRG
          go_wp2_with fail
          go_ret
          exact ⟨by simp, HB7.out⟩
        · have hc0 := O2.out (Or.inl rfl)
          subst hc0
          clear O1 O2 O3 HRG
          go_wp2_with fail
          go_ret
          exact ⟨by simp, HB7.out⟩
        · have hc0 := O2.out (Or.inr (Or.inl rfl))
          subst hc0
          clear O1 O2 O3 HRG
          go_wp2_with fail
          go_ret
          exact ⟨by simp, HB7.out⟩
        · have hc0 := O2.out (Or.inr (Or.inr rfl))
          subst hc0
          clear O1 O2 O3 HRG
          go_wp2_with fail
          go_ret
          exact ⟨by simp, HB7.out⟩
        · have hc0 := O3.out (by decide)
          have hE : ((c : Int) == 4) = false := beq_eq_false_iff_ne.2 (by omega)
          clear O1 O2 O3 HRG hc0
          go_wp2_with fail
          go_ret
          exact ⟨by simp; exact beq_eq_false_iff_ne.1 hE, HB7.out⟩
        · have hc0 := O3.out (by decide)
          have hE : ((c : Int) == 4) = false := beq_eq_false_iff_ne.2 (by omega)
          clear O1 O2 O3 HRG hc0
          go_wp2_with fail
          go_ret
          exact ⟨by simp; exact beq_eq_false_iff_ne.1 hE, HB7.out⟩
  · by_cases he : n ≤ 57343
    · have q1 : (55296 : Int) ≤ (n : Int) := by omega
      have q2 : (n : Int) ≤ 57343 := by omega
      go_wp2_with fail
      go_ret
      exact ⟨rfl, HB3.out⟩
    · have hs : Pm.sign n = true := by rw [sign_iff]; omega
      have hk0 : rC (pk (n : Int)) = 0 := by
        rcases Decidable.em (rC (pk (n : Int)) = 0) with h | h
        · exact h
        · have := (kind_range h).1; omega
      have hc4 := (HO.out hs (by omega)).1 hk0
      have ck := HK.out w3 (HG.out w3 HB3.out)
      rw [hk0] at ck
      obtain ⟨x, y, hf⟩ := HF.out hs
      rw [hc4] at hf
      have HF2 : Hid (∀ W, Ground W → Calls Tryz.prog 11 #[.string (⟨#[109]⟩ ++ textOf [n] ++ A)] W fun e w' => e = .returned (.tuple #[.string x, .string y, .int .i64 4]) ∧ Below W.heap.size W w') := hf
      have HS2 : Hid (∀ W, Calls Tryz.prog 18 #[.int .i64 (n : Int)] W fun e w' => e = .returned (.string (textOf [n])) ∧ Below W.heap.size W w') := HS.out hs
      generalize textOf [n] = T at HF2 HS2 hz1
      obtain ⟨M, hM⟩ : ∃ M : Int, (n : Int) = M := ⟨_, rfl⟩
      rw [hM] at ck HS2 ⊢
      have q1 : (55296 : Int) ≤ M := by omega
      have q2 : ¬ M ≤ 57343 := by omega
      have q3 : (65 : Int) ≤ M := by omega
      have q4 : ¬ M ≤ 90 := by omega
      have z1 : ((⟨#[109]⟩ : ByteArray) ++ T).size ≤ 5 := by rw [ByteArray.size_append]; have : (⟨#[109]⟩ : ByteArray).size = 1 := rfl; omega
      clear hf HF HO HC HK HS hd hk0 hs hM he hc4 hnl HLB HHB
      go_wp2_with fail
      refine ck.mono ?_
      rintro e w4 ⟨rfl, hb4⟩
      clear ck
      have HB4 : Hid (Below w.heap.size w w4) := Below.andThen HB3.out hb4
      clear hb4
      have cs := HS2.out w4
      go_wp2_with fail
      refine cs.mono ?_
      rintro e w5 ⟨rfl, hb5⟩
      clear cs
      have HB5 : Hid (Below w.heap.size w w5) := Below.andThen HB4.out hb5
      clear hb5
      have cf := HF2.out w5 (HG.out w5 HB5.out)
      go_wp2_with fail
      refine cf.mono ?_
      rintro e w6 ⟨rfl, hb6⟩
      clear cf
      have HB6 : Hid (Below w.heap.size w w6) := Below.andThen HB5.out hb6
      clear hb6
      have cu := HU.out w6 (HG.out w6 HB6.out)
      go_wp2_with fail
      refine cu.mono ?_
      rintro e w7 ⟨rfl, hb7⟩
      clear cu
      have HB7 : Hid (Below w.heap.size w w7) := Below.andThen HB6.out hb7
      clear hb7
      go_wp2_with fail
      go_ret
      exact ⟨by simp, HB7.out⟩
end Go.Proofs.YtkaaldhejpaiiaaGreatDoor

