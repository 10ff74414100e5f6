import Derived.Test.YtkaaldhejpaiiaaGreatDoorOl
/- Sided, at every input. -/
namespace Go.Proofs.YtkaaldhejpaiiaaGreatDoor
open Go.RowKit

theorem hebP_snoc (hs : List Int) (k : Nat) (h : k < hs.length) : hebP hs (k + 1) = hebP hs k ++ [1488 + pickM hs[k] 27] := by
  unfold hebP
  rw [List.take_succ_eq_append_getElem h, List.map_append]
  rfl
theorem hebP_size (hs : List Int) (k : Nat) (h : k ≤ 10) : (textOf (hebP hs k)).size ≤ 40 := by
  have h1 := textOf_len (hebP hs k)
  have h2 : (hebP hs k).length ≤ 10 := by unfold hebP; simp; omega
  omega
theorem heb_text (hs : List Int) : textOf (hebP hs 10) ++ ⟨#[215, 144]⟩ = textOf (hebL hs) := by
  unfold hebL
  rw [textOf_append]
  congr 1
theorem dig_text (zs : List Int) : (⟨#[49]⟩ : ByteArray) ++ textOf (lettersM zs) = textOf (digL zs) := by
  rw [show digL zs = [49] ++ lettersM zs from rfl, textOf_append]
  rfl
theorem mix_text (hs : List Int) : textOf (hebL hs) ++ ⟨#[97]⟩ = textOf (mixL hs) := by
  unfold mixL
  rw [textOf_append]
  rfl
theorem letters_size (zs : List Int) : (textOf (lettersM zs)).size ≤ 52 := by
  have := textOf_len (lettersM zs)
  have h2 : (lettersM zs).length ≤ 13 := by unfold lettersM; simp; omega
  omega
set_option maxRecDepth 100000 in
set_option maxHeartbeats 8000000 in
theorem sided_any (a b : Option Addr) (cap cap2 : Nat) (zs hs : List Int) (first : Bool) (w : World) (hG : Ground w) (hR : Raw w a zs) (hH : Raw w b hs) :
    Calls Tryz.prog 9 #[.slice a zs.length cap, .slice b hs.length cap2, .bool first] w fun e w' => e = .returned (.bool true) ∧ Below w.heap.size w w' := by
  have hlk := looks_any w hG
  have HG : Hid (∀ W, Below w.heap.size w W → Ground W) := fun W hW => hG.keep hW
  have HR : Hid (∀ W, Below w.heap.size w W → Raw W a zs) := fun W hW => hR.keep hW
  have hlen := hH.len
  clear hG hR
  go_enter Tryz.func9, Tryz.ntmps9
  go_wp2_with fail
  refine hlk.mono ?_
  rintro e w1 ⟨rfl, hbw1⟩
  clear hlk
  go_wp2_with fail
  go_loopw [8, 9] (fun hv iv wr => ∃ k : Nat, k ≤ hs.length ∧ k ≤ 10 ∧ iv = .int .i64 k ∧ hv = .string (textOf (hebP hs k)) ∧ Below w.heap.size w wr) (fun _ iv _ => hs.length - (intOf iv).toNat)
  case atStart => exact ⟨0, by omega, by omega, rfl, rfl, hbw1⟩
  case round =>
    obtain ⟨k, hk, hk10, rfl, rfl, hbw⟩ := hrel
    have hsz := hebP_size hs k hk10
    obtain ⟨S, hS⟩ : ∃ S, textOf (hebP hs k) = S := ⟨_, rfl⟩
    rw [hS] at hsz
    rw [hS]
    have HS : Hid (textOf (hebP hs k) = S) := hS
    clear hS
    by_cases hlt : k < hs.length ∧ k < 10
    · obtain ⟨hl1, hl2⟩ := hlt
      obtain ⟨b0, off, rfl, hbl, hc, hz1, hz2⟩ := hH.cell k hl1
      have HT : Hid (textOf (hebP hs (k + 1)) = S ++ textOf [1488 + pickM hs[k] 27]) := by unfold Hid; rw [hebP_snoc hs k hl1, textOf_append, HS.out]
      obtain ⟨z, hz⟩ : ∃ z, hs[k] = z := ⟨_, rfl⟩
      rw [hz] at hc hz1 hz2 HT
      have hc1 : wr.cell? ⟨b0, off + k, none⟩ = some (.int .i64 z) := (hbw.cell (p := ⟨b0, off + k, none⟩) hbl).trans hc
      have hpk := pick_gen z 27 wr hz1 hz2 (by omega) (by omega)
      have hp27 := pickM_lt z 27 (by omega)
      clear hc hH hz hz1 hz2
      generalize pickM z 27 = p at hpk hp27 HT
      have hsg := sign_any (1488 + p) wr (by rw [sign_iff]; omega)
      rw [show ((1488 + p : Nat) : Int) = 1488 + (p : Int) by omega] at hsg
      have hts : (textOf [1488 + p]).size ≤ 4 := textOf_len [1488 + p]
      generalize textOf [1488 + p] = T at hsg HT hts
      have HB : Hid (Below w.heap.size w wr) := hbw
      clear hbw
      go_wp2_with fail
      refine hpk.mono ?_
      rintro e w' ⟨rfl, hw'⟩; rw [hw']; clear hw' hpk
      go_wp2_with fail
      refine hsg.mono ?_
      rintro e w2 ⟨rfl, hb2⟩
      clear hsg
      go_wp2_with fail
      go_roundw
      case rel => exact ⟨k + 1, by omega, by omega, by go_num, by rw [HT.out], Below.andThen HB.out hb2⟩
      case measure => simp [intOf]; omega
    · have e : hebP hs k = hebP hs 10 := by
        unfold hebP
        by_cases h10 : k = 10
        · rw [h10]
        · rw [List.take_of_length_le (show hs.length ≤ k by omega), List.take_of_length_le (show hs.length ≤ 10 by omega)]
      have hE : S ++ ⟨#[215, 144]⟩ = textOf (hebL hs) := by rw [← heb_text, ← e, HS.out]
      have hle := letters_any a cap zs wr (HR.out wr hbw)
      have HB : Hid (Below w.heap.size w wr) := hbw
      have d1 := sided1 zs hs
      have d2 := sided2 zs hs
      have d3 := sided3 zs hs
      have d4 := sided4 zs hs
      have d5 := sided5 zs
      have d6 := sided6 hs
      rw [← mix_text] at d6
      rw [← dig_text] at d3 d4 d5
      have za := letters_size zs
      have zh : (textOf (hebL hs)).size ≤ 44 := by have := textOf_len (hebL hs); have := heb_len hs; omega
      have N : ∀ (s : ByteArray) (V : Value), nameV s = V → s.size ≤ 300000000 → ∀ W, Ground W → Calls Tryz.prog 20 #[.string s] W fun e w' => e = .returned V ∧ Below W.heap.size W w' := fun s V h hs W hW => by rw [← h]; exact Name_at s W hs hW
      have y1 : ∀ x y : ByteArray, (x ++ y).size = x.size + y.size := fun x y => ByteArray.size_append
      have p1 : (⟨#[46]⟩ : ByteArray).size = 1 := rfl
      have p2 : (⟨#[49]⟩ : ByteArray).size = 1 := rfl
      have p3 : (⟨#[97]⟩ : ByteArray).size = 1 := rfl
      have D1 := N _ _ d1 (by simp only [y1, p1]; omega)
      have D2 := N _ _ d2 (by simp only [y1, p1]; omega)
      have D3 := N _ _ d3 (by simp only [y1, p1, p2]; omega)
      have D4 := N _ _ d4 (by simp only [y1, p1, p2]; omega)
      have D5 := N _ _ d5 (by simp only [y1, p1, p2]; omega)
      have D6 := N _ _ d6 (by simp only [y1, p3]; omega)
      clear N d1 d2 d3 d4 d5 d6 e
      generalize textOf (lettersM zs) = A at *
      generalize textOf (hebL hs) = H at *
      generalize formB (lettersM zs) ++ ⟨#[46]⟩ ++ formB (hebL hs) = F1 at *
      generalize formB (hebL hs) ++ ⟨#[46]⟩ ++ formB (lettersM zs) = F2 at *
      generalize formB (digL zs) ++ ⟨#[46]⟩ ++ formB (lettersM zs) = F5 at *
      have HD1 : Hid (∀ W, Ground W → Calls Tryz.prog 20 #[.string (A ++ ⟨#[46]⟩ ++ H)] W fun e w' => e = .returned (.tuple #[.string (A ++ ⟨#[46]⟩ ++ H), .string F1, .int .i64 0, .int .i64 0]) ∧ Below W.heap.size W w') := D1
      have HD2 : Hid (∀ W, Ground W → Calls Tryz.prog 20 #[.string (H ++ ⟨#[46]⟩ ++ A)] W fun e w' => e = .returned (.tuple #[.string (H ++ ⟨#[46]⟩ ++ A), .string F2, .int .i64 0, .int .i64 0]) ∧ Below W.heap.size W w') := D2
      have HD3 : Hid (∀ W, Ground W → Calls Tryz.prog 20 #[.string (⟨#[49]⟩ ++ A ++ ⟨#[46]⟩ ++ H)] W fun e w' => e = .returned (.tuple #[.string { data := #[] }, .string { data := #[] }, .int .i64 0, .int .i64 10]) ∧ Below W.heap.size W w') := D3
      have HD4 : Hid (∀ W, Ground W → Calls Tryz.prog 20 #[.string (H ++ ⟨#[46]⟩ ++ (⟨#[49]⟩ ++ A))] W fun e w' => e = .returned (.tuple #[.string { data := #[] }, .string { data := #[] }, .int .i64 1, .int .i64 10]) ∧ Below W.heap.size W w') := D4
      have HD5 : Hid (∀ W, Ground W → Calls Tryz.prog 20 #[.string (⟨#[49]⟩ ++ A ++ ⟨#[46]⟩ ++ A)] W fun e w' => e = .returned (.tuple #[.string (⟨#[49]⟩ ++ A ++ ⟨#[46]⟩ ++ A), .string F5, .int .i64 0, .int .i64 0]) ∧ Below W.heap.size W w') := D5
      have HD6 : Hid (∀ W, Ground W → Calls Tryz.prog 20 #[.string (H ++ ⟨#[97]⟩)] W fun e w' => e = .returned (.tuple #[.string { data := #[] }, .string { data := #[] }, .int .i64 0, .int .i64 10]) ∧ Below W.heap.size W w') := D6
      have z1 : (A ++ ⟨#[46]⟩).size ≤ 53 := by simp only [y1, p1]; omega
      have z2 : (H ++ ⟨#[46]⟩).size ≤ 45 := by simp only [y1, p1]; omega
      have z3 : (⟨#[49]⟩ ++ A).size ≤ 53 := by simp only [y1, p2]; omega
      have z4 : (⟨#[49]⟩ ++ A ++ ⟨#[46]⟩).size ≤ 54 := by simp only [y1, p1, p2]; omega
      clear D1 D2 D3 D4 D5 D6 y1 p1 p2 p3 hbw HS hH
      by_cases hkl : (k : Int) < (hs.length : Int)
      all_goals
        go_wp2_with fail
        refine hle.mono ?_
        rintro e w2 ⟨rfl, hb2⟩
        clear hle
        have HB2 : Hid (Below w.heap.size w w2) := Below.andThen HB.out hb2
        clear hb2
        cases first
        · have c1 := HD1.out w2 (HG.out w2 HB2.out)
          go_wp2_with fail
          refine c1.mono ?_
          rintro e w3 ⟨rfl, hb3⟩
          clear c1
          have HB3 : Hid (Below w.heap.size w w3) := Below.andThen HB2.out hb3
          have c3 := HD3.out w3 (HG.out w3 HB3.out)
          go_wp2_with fail
          refine c3.mono ?_
          rintro e w4 ⟨rfl, hb4⟩
          clear c3
          have HB4 : Hid (Below w.heap.size w w4) := Below.andThen HB3.out hb4
          have c5 := HD5.out w4 (HG.out w4 HB4.out)
          go_wp2_with fail
          refine c5.mono ?_
          rintro e w5 ⟨rfl, hb5⟩
          clear c5
          have HB5 : Hid (Below w.heap.size w w5) := Below.andThen HB4.out hb5
          have c6 := HD6.out w5 (HG.out w5 HB5.out)
          go_wp2_with fail
          refine c6.mono ?_
          rintro e w6 ⟨rfl, hb6⟩
          clear c6
          go_wp2_with fail
          go_ret
          exact ⟨by simp, Below.andThen HB5.out hb6⟩
        · have c1 := HD2.out w2 (HG.out w2 HB2.out)
          go_wp2_with fail
          refine c1.mono ?_
          rintro e w3 ⟨rfl, hb3⟩
          clear c1
          have HB3 : Hid (Below w.heap.size w w3) := Below.andThen HB2.out hb3
          have c3 := HD4.out w3 (HG.out w3 HB3.out)
          go_wp2_with fail
          refine c3.mono ?_
          rintro e w4 ⟨rfl, hb4⟩
          clear c3
          have HB4 : Hid (Below w.heap.size w w4) := Below.andThen HB3.out hb4
          have c5 := HD5.out w4 (HG.out w4 HB4.out)
          go_wp2_with fail
          refine c5.mono ?_
          rintro e w5 ⟨rfl, hb5⟩
          clear c5
          have HB5 : Hid (Below w.heap.size w w5) := Below.andThen HB4.out hb5
          have c6 := HD6.out w5 (HG.out w5 HB5.out)
          go_wp2_with fail
          refine c6.mono ?_
          rintro e w6 ⟨rfl, hb6⟩
          clear c6
          go_wp2_with fail
          go_ret
          exact ⟨by simp, Below.andThen HB5.out hb6⟩
end Go.Proofs.YtkaaldhejpaiiaaGreatDoor

