import Derived.Test.YtkaaldhejpaiiaaGreatDoorBu24
/- The walk of the law Hyphened. -/
namespace Go.Proofs.YtkaaldhejpaiiaaGreatDoor
open Go.RowKit

theorem hyp_snoc (j : Nat) : textOf (List.replicate (j + 1) 45) = textOf (List.replicate j 45) ++ ⟨#[45]⟩ := by
  rw [List.replicate_succ', textOf_append]
  rfl
theorem hyp_size : ∀ j : Nat, (textOf (List.replicate j 45)).size = j
  | 0 => rfl
  | j + 1 => by rw [hyp_snoc, ByteArray.size_append, hyp_size j]; rfl
theorem lead_text (p : Nat) (hp : p < 7) : (⟨#[97, 98, 99, 100, 101, 102]⟩ : ByteArray).extract 0 p = textOf (leadL p) ∧ (textOf (leadL p)).size = p := by
  rcases (by omega : p = 0 ∨ p = 1 ∨ p = 2 ∨ p = 3 ∨ p = 4 ∨ p = 5 ∨ p = 6) with rfl | rfl | rfl | rfl | rfl | rfl | rfl <;> exact ⟨by decide +kernel, by decide +kernel⟩
set_option maxRecDepth 100000 in
set_option maxHeartbeats 8000000 in
theorem hyphened_any (a : Option Addr) (cap : Nat) (zs : List Int) (before many : Int) (w : World) (hG : Ground w) (hR : Raw w a zs)
    (hb1 : -9223372036854775808 ≤ before) (hb2 : before ≤ 9223372036854775807) (hm1 : -9223372036854775808 ≤ many) (hm2 : many ≤ 9223372036854775807) :
    Calls Tryz.prog 5 #[.slice a zs.length cap, .int .i64 before, .int .i64 many] w fun e w' => e = .returned (.bool true) ∧ Below w.heap.size w w' := by
  have hlk := looks_any w hG
  have HG : Hid (∀ W, Below w.heap.size w W → Ground W) := fun W hW => hG.keep hW
  have HR : Hid (∀ W, Below w.heap.size w W → Raw W a zs) := fun W hW => hR.keep hW
  clear hG hR
  have hm4 := pickM_lt many 4 (by omega)
  have hp7 := pickM_lt before 7 (by omega)
  go_enter Tryz.func5, Tryz.ntmps5
  go_wp2_with fail
  refine hlk.mono ?_
  rintro e w1 ⟨rfl, hbw1⟩
  clear hlk
  have hpm := pick_gen many 4 w1 hm1 hm2 (by omega) (by omega)
  go_wp2_with fail
  refine hpm.mono ?_
  rintro e w' ⟨rfl, hw'⟩; rw [hw']; clear hw' hpm
  have hpb := fun W => pick_gen before 7 W hb1 hb2 (by omega) (by omega)
  generalize pickM many 4 = m at *
  generalize pickM before 7 = p at *
  go_wp2_with fail
  go_loopw [8, 9] (fun hv iv wr => ∃ j : Nat, j ≤ m + 1 ∧ iv = .int .i64 ((m : Int) - (j : Int)) ∧ hv = .string (textOf (List.replicate j 45)) ∧ wr = w1) (fun _ iv _ => (intOf iv + 1).toNat)
  case atStart => exact ⟨0, by omega, by simp, rfl, rfl⟩
  case round =>
    obtain ⟨j, hj, rfl, rfl, rfl⟩ := hrel
    have hsz := hyp_size j
    obtain ⟨S, hS⟩ : ∃ S, textOf (List.replicate j 45) = S := ⟨_, rfl⟩
    have HN : Hid (textOf (List.replicate (j + 1) 45) = S ++ ⟨#[45]⟩) := by unfold Hid; rw [hyp_snoc, hS]
    rw [hS] at hsz
    rw [hS]
    have HS : Hid (textOf (List.replicate j 45) = S) := hS
    clear hS
    by_cases hlt : j < m + 1
    · have hge : (0 : Int) ≤ (m : Int) - (j : Int) := by omega
      go_wp2_with fail
      go_roundw
      case rel => exact ⟨j + 1, by omega, by go_num, by rw [HN.out], trivial⟩
      case measure => simp [intOf]; omega
    · have hge : ¬ (0 : Int) ≤ (m : Int) - (j : Int) := by omega
      obtain rfl : j = m + 1 := by omega
      clear hlt HN
      have hle := letters_any a cap zs wr (HR.out wr hbw1)
      go_wp2_with fail
      refine hle.mono ?_
      rintro e w2 ⟨rfl, hbw2⟩
      clear hle
      have hpb2 := hpb w2
      go_wp2_with fail
      refine hpb2.mono ?_
      rintro e w' ⟨rfl, hw'⟩; rw [hw']; clear hw' hpb2 hpb
      obtain ⟨hld, hlz⟩ := lead_text p hp7
      have h1 := hyphened1 p m hp7 hm4 zs
      have h2 := hyphened2 m zs
      have hz3 : (textOf (lettersM zs)).size ≤ 52 := by
        have := textOf_len (lettersM zs)
        have h2 : (lettersM zs).length ≤ 13 := by unfold lettersM; simp; omega
        omega
      have e2 : textOf (lettersM zs ++ hypL m) = textOf (lettersM zs) ++ S := by rw [textOf_append, ← HS.out]; rfl
      have e1 : textOf (leadL p ++ hypL m ++ lettersM zs) = textOf (leadL p) ++ S ++ textOf (lettersM zs) := by rw [textOf_append, textOf_append, ← HS.out]; rfl
      rw [e1] at h1
      rw [e2] at h2
      clear e1 e2 HS
      generalize textOf (leadL p) = ld at *
      generalize textOf (lettersM zs) = aa at *
      generalize formB (leadL p ++ hypL m ++ lettersM zs) = F at *
      have g1 : ld.size + S.size ≤ 9223372036854775807 := by omega
      have g2 : (ld ++ S).size + aa.size ≤ 9223372036854775807 := by rw [ByteArray.size_append]; omega
      have g3 : aa.size + S.size ≤ 9223372036854775807 := by omega
      have hL1 := Label_at (ld ++ S ++ aa) w2 (by rw [ByteArray.size_append, ByteArray.size_append]; omega) (HG.out w2 (Below.andThen hbw1 hbw2))
      have HL2 : Hid (∀ W, Ground W → Calls Tryz.prog 11 #[.string (aa ++ S)] W fun e w' => e = .returned (.tuple #[.string { data := #[] }, .string { data := #[] }, .int .i64 5]) ∧ Below W.heap.size W w') := fun W hW => by rw [← h2]; exact Label_at (aa ++ S) W (by rw [ByteArray.size_append]; omega) hW
      rw [h1] at hL1
      clear h1 h2
      go_wp2_with fail
      refine hL1.mono ?_
      rintro e w3 ⟨he, hbw3⟩
      have hl2 := HL2.out w3 (HG.out w3 (Below.andThen (Below.andThen hbw1 hbw2) hbw3))
      have HB : Hid (Below w.heap.size w w3) := Below.andThen (Below.andThen hbw1 hbw2) hbw3
      have b1 : ld.size ≤ 6 := by omega
      have b2 : S.size ≤ 4 := by omega
      clear hL1 hld HL2 hge hj hb1 hb2 hm1 hm2 hbw1 hbw2 hbw3 hz3
      by_cases h0 : p = 0
      · rw [if_pos (Or.inl h0)] at he
        have i0 : (ld.size : Int) = 0 := by rw [hlz, h0]; rfl
        subst he
        clear hlz hsz h0
        go_wp2_with fail
        refine hl2.mono ?_
        rintro e w4 ⟨rfl, hbw4⟩
        clear hl2
        go_wp2_with fail
        go_ret
        exact ⟨by simp, Below.andThen HB.out hbw4⟩
      · have i0 : ¬ (ld.size : Int) = 0 := by rw [hlz]; omega
        have c0 : ((ld.size : Int) == 0) = false := beq_eq_false_iff_ne.2 i0
        by_cases h2 : p ≤ 2
        · have i2 : (ld.size : Int) ≤ 2 := by rw [hlz]; omega
          by_cases h4 : 4 ≤ p + (m + 1)
          · have i4 : (4 : Int) ≤ (ld.size : Int) + (S.size : Int) := by rw [hlz, hsz]; omega
            rw [if_pos (Or.inr ⟨h2, h4⟩)] at he
            subst he
            clear hlz hsz h0 h2 h4
            go_wp2_with fail
            refine hl2.mono ?_
            rintro e w4 ⟨rfl, hbw4⟩
            clear hl2
            go_wp2_with fail
            go_ret
            exact ⟨by simp, Below.andThen HB.out hbw4⟩
          · have i4 : ¬ (4 : Int) ≤ (ld.size : Int) + (S.size : Int) := by rw [hlz, hsz]; omega
            rw [if_neg (by omega)] at he
            subst he
            clear hlz hsz h0 h2 h4
            go_wp2_with fail
            refine hl2.mono ?_
            rintro e w4 ⟨rfl, hbw4⟩
            clear hl2
            go_wp2_with fail
            go_ret
            exact ⟨by simp, Below.andThen HB.out hbw4⟩
        · have i2 : ¬ (ld.size : Int) ≤ 2 := by rw [hlz]; omega
          rw [if_neg (by omega)] at he
          subst he
          clear hlz hsz h0 h2
          go_wp2_with fail
          refine hl2.mono ?_
          rintro e w4 ⟨rfl, hbw4⟩
          clear hl2
          go_wp2_with fail
          go_ret
          exact ⟨by simp, Below.andThen HB.out hbw4⟩
end Go.Proofs.YtkaaldhejpaiiaaGreatDoor

