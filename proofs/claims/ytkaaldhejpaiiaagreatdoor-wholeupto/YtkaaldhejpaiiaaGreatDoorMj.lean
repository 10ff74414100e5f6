import Derived.Test.YtkaaldhejpaiiaaGreatDoorMi
import Derived.Deep.CutRange
/- The document's sided, walked. -/
namespace Go.Proofs.YtkaaldhejpaiiaaGreatDoor
open Go.RowKit

theorem side0 {Z : ByteArray} {v : Int} (h : SideS Z v) (hv : v = 0) : (Z.toList == [76]) = false ∧ (Z.toList == [82]) = false ∧ (Z.toList == [65, 76]) = false ∧ (Z.toList == [69, 78]) = false ∧ (Z.toList == [65, 78]) = false ∧ (Z.toList == [69, 83]) = false ∧ (Z.toList == [78, 83, 77]) = false ∧ Z.toList.isEmpty = true := by
  subst hv
  obtain ⟨h1, h2, h3, h4, h5, h6, h7, h8⟩ := h.all
  exact ⟨h1.trans (by decide), h2.trans (by decide), h3.trans (by decide), h4.trans (by decide), h5.trans (by decide), h6.trans (by decide), h7.trans (by decide), h8.trans (by decide)⟩
theorem side1 {Z : ByteArray} {v : Int} (h : SideS Z v) (hv : v = 1) : (Z.toList == [76]) = true ∧ (Z.toList == [82]) = false ∧ (Z.toList == [65, 76]) = false ∧ (Z.toList == [69, 78]) = false ∧ (Z.toList == [65, 78]) = false ∧ (Z.toList == [69, 83]) = false ∧ (Z.toList == [78, 83, 77]) = false ∧ Z.toList.isEmpty = false := by
  subst hv
  obtain ⟨h1, h2, h3, h4, h5, h6, h7, h8⟩ := h.all
  exact ⟨h1.trans (by decide), h2.trans (by decide), h3.trans (by decide), h4.trans (by decide), h5.trans (by decide), h6.trans (by decide), h7.trans (by decide), h8.trans (by decide)⟩
theorem side2 {Z : ByteArray} {v : Int} (h : SideS Z v) (hv : v = 2) : (Z.toList == [76]) = false ∧ (Z.toList == [82]) = true ∧ (Z.toList == [65, 76]) = false ∧ (Z.toList == [69, 78]) = false ∧ (Z.toList == [65, 78]) = false ∧ (Z.toList == [69, 83]) = false ∧ (Z.toList == [78, 83, 77]) = false ∧ Z.toList.isEmpty = false := by
  subst hv
  obtain ⟨h1, h2, h3, h4, h5, h6, h7, h8⟩ := h.all
  exact ⟨h1.trans (by decide), h2.trans (by decide), h3.trans (by decide), h4.trans (by decide), h5.trans (by decide), h6.trans (by decide), h7.trans (by decide), h8.trans (by decide)⟩
theorem side3 {Z : ByteArray} {v : Int} (h : SideS Z v) (hv : v = 3) : (Z.toList == [76]) = false ∧ (Z.toList == [82]) = false ∧ (Z.toList == [65, 76]) = true ∧ (Z.toList == [69, 78]) = false ∧ (Z.toList == [65, 78]) = false ∧ (Z.toList == [69, 83]) = false ∧ (Z.toList == [78, 83, 77]) = false ∧ Z.toList.isEmpty = false := by
  subst hv
  obtain ⟨h1, h2, h3, h4, h5, h6, h7, h8⟩ := h.all
  exact ⟨h1.trans (by decide), h2.trans (by decide), h3.trans (by decide), h4.trans (by decide), h5.trans (by decide), h6.trans (by decide), h7.trans (by decide), h8.trans (by decide)⟩
theorem side4 {Z : ByteArray} {v : Int} (h : SideS Z v) (hv : v = 4) : (Z.toList == [76]) = false ∧ (Z.toList == [82]) = false ∧ (Z.toList == [65, 76]) = false ∧ (Z.toList == [69, 78]) = true ∧ (Z.toList == [65, 78]) = false ∧ (Z.toList == [69, 83]) = false ∧ (Z.toList == [78, 83, 77]) = false ∧ Z.toList.isEmpty = false := by
  subst hv
  obtain ⟨h1, h2, h3, h4, h5, h6, h7, h8⟩ := h.all
  exact ⟨h1.trans (by decide), h2.trans (by decide), h3.trans (by decide), h4.trans (by decide), h5.trans (by decide), h6.trans (by decide), h7.trans (by decide), h8.trans (by decide)⟩
theorem side5 {Z : ByteArray} {v : Int} (h : SideS Z v) (hv : v = 5) : (Z.toList == [76]) = false ∧ (Z.toList == [82]) = false ∧ (Z.toList == [65, 76]) = false ∧ (Z.toList == [69, 78]) = false ∧ (Z.toList == [65, 78]) = true ∧ (Z.toList == [69, 83]) = false ∧ (Z.toList == [78, 83, 77]) = false ∧ Z.toList.isEmpty = false := by
  subst hv
  obtain ⟨h1, h2, h3, h4, h5, h6, h7, h8⟩ := h.all
  exact ⟨h1.trans (by decide), h2.trans (by decide), h3.trans (by decide), h4.trans (by decide), h5.trans (by decide), h6.trans (by decide), h7.trans (by decide), h8.trans (by decide)⟩
theorem side6 {Z : ByteArray} {v : Int} (h : SideS Z v) (hv : v = 6) : (Z.toList == [76]) = false ∧ (Z.toList == [82]) = false ∧ (Z.toList == [65, 76]) = false ∧ (Z.toList == [69, 78]) = false ∧ (Z.toList == [65, 78]) = false ∧ (Z.toList == [69, 83]) = true ∧ (Z.toList == [78, 83, 77]) = false ∧ Z.toList.isEmpty = false := by
  subst hv
  obtain ⟨h1, h2, h3, h4, h5, h6, h7, h8⟩ := h.all
  exact ⟨h1.trans (by decide), h2.trans (by decide), h3.trans (by decide), h4.trans (by decide), h5.trans (by decide), h6.trans (by decide), h7.trans (by decide), h8.trans (by decide)⟩
theorem side7 {Z : ByteArray} {v : Int} (h : SideS Z v) (hv : v = 7) : (Z.toList == [76]) = false ∧ (Z.toList == [82]) = false ∧ (Z.toList == [65, 76]) = false ∧ (Z.toList == [69, 78]) = false ∧ (Z.toList == [65, 78]) = false ∧ (Z.toList == [69, 83]) = false ∧ (Z.toList == [78, 83, 77]) = true ∧ Z.toList.isEmpty = false := by
  subst hv
  obtain ⟨h1, h2, h3, h4, h5, h6, h7, h8⟩ := h.all
  exact ⟨h1.trans (by decide), h2.trans (by decide), h3.trans (by decide), h4.trans (by decide), h5.trans (by decide), h6.trans (by decide), h7.trans (by decide), h8.trans (by decide)⟩

set_option maxRecDepth 100000 in
set_option maxHeartbeats 64000000 in
theorem sidedD_any {w : World} {g : Nat} {L : List Nat} (hI : Ints w g L) (c : Nat) (hlen : L.length ≤ 2000000000) :
    Calls Tryz.prog 35 #[.slice (some ⟨g, 0, none⟩) L.length c] w fun e w' => e = .returned (.bool (sidedM L)) ∧ Below w.heap.size w w' := by
  have HI : Hid (∀ W, Below w.heap.size w W → Ints W g L) := fun W hW => hI.keep hW
  have HSD : Hid (sidedM L = if rS (pkAt L 0) = 1 then sidedD false L L.length else if rS (pkAt L 0) = 2 ∨ rS (pkAt L 0) = 3 then sidedD true L L.length else false) := sided_doc L
  obtain ⟨n, hn⟩ : ∃ n, L.length = n := ⟨_, rfl⟩
  have HAT : Hid (∀ W, Below w.heap.size w W → ∀ (p : Int) (a b k : Int) (s t j : ByteArray), Km.rowA Km.ref (dkAt L p) = a → Km.rowB Km.ref (dkAt L p) = b → Km.rowC Km.ref (dkAt L p) = k → rowS (dkAt L p) = s → rowT (dkAt L p) = t → rowJ (dkAt L p) = j →
      Calls Tryz.prog 34 #[.slice (some ⟨g, 0, none⟩) n c, .int .i64 p] W fun e w' => e = .returned (.agg #[.int .i64 a, .int .i64 b, .int .i64 k, .string s, .string t, .string j]) ∧ Below W.heap.size W w') := fun W hW p a b k s t j h1 h2 h3 h4 h5 h6 => by
    have := at_any' (HI.out W hW) c p _ rfl
    rw [hn, h1, h2, h3, h4, h5, h6] at this
    exact this
  rw [hn] at HSD hlen ⊢
  have fld := fun (a b c s d e : Value) w => (field_rowD a b c s d e w).1
  clear hI hn HI
  obtain ⟨a0, ha0⟩ : ∃ x, Km.rowA Km.ref (dkAt L 0) = x := ⟨_, rfl⟩
  obtain ⟨b0, hb0⟩ : ∃ x, Km.rowB Km.ref (dkAt L 0) = x := ⟨_, rfl⟩
  obtain ⟨k0, hk0⟩ : ∃ x, Km.rowC Km.ref (dkAt L 0) = x := ⟨_, rfl⟩
  obtain ⟨S0, hS0⟩ : ∃ x, rowS (dkAt L 0) = x := ⟨_, rfl⟩
  obtain ⟨t0, ht0⟩ : ∃ x, rowT (dkAt L 0) = x := ⟨_, rfl⟩
  obtain ⟨j0, hj0⟩ : ∃ x, rowJ (dkAt L 0) = x := ⟨_, rfl⟩
  have H0 : Hid (∀ W, Below w.heap.size w W → Calls Tryz.prog 34 #[.slice (some ⟨g, 0, none⟩) n c, .int .i64 0] W fun e w' => e = .returned (.agg #[.int .i64 a0, .int .i64 b0, .int .i64 k0, .string S0, .string t0, .string j0]) ∧ Below W.heap.size W w') := fun W hW => HAT.out W hW 0 a0 b0 k0 S0 t0 j0 ha0 hb0 hk0 hS0 ht0 hj0
  have hside := side_row L 0
  rw [hS0] at hside
  have HSide : Hid (SideS S0 (rS (pkAt L 0))) := hside
  have HRG : Hid (rS (pkAt L 0) = 0 ∨ rS (pkAt L 0) = 1 ∨ rS (pkAt L 0) = 2 ∨ rS (pkAt L 0) = 3 ∨ rS (pkAt L 0) = 4 ∨ rS (pkAt L 0) = 5 ∨ rS (pkAt L 0) = 6 ∨ rS (pkAt L 0) = 7) := rS_range L 0
  clear ha0 hb0 hk0 hS0 ht0 hj0 hside
  generalize rS (pkAt L 0) = v0 at *
  go_enter Tryz.func35, Tryz.ntmps35
  go_upto_region 1 with fail
  go_cut [3] from 9 to 18 (fun rv wc => rv = .bool (decide (v0 = 2) || decide (v0 = 3)) ∧ Below w.heap.size w wc)
  case first =>
    have c1 := H0.out w (Below.refl _ _)
    obtain ⟨g1, g2, g3, g4, g5, g6, g7, g8⟩ := HSide.out.all
    clear g1 g4 g5 g6 g7 g8
    by_cases h2 : v0 = 2
    · rw [decide_eq_true h2] at g2
      have HE : Hid ((decide (v0 = 2) || decide (v0 = 3)) = true) := by unfold Hid; rw [decide_eq_true h2]; rfl
      clear h2 g3
      go_wp2_with fail
      refine c1.mono ?_
      rintro e w1 ⟨rfl, hb1⟩
      clear c1
      go_wp2_with fail
      go_meet
      case rel => exact ⟨by rw [HE.out], hb1⟩
    · rw [decide_eq_false h2] at g2
      have HE : Hid ((decide (v0 = 2) || decide (v0 = 3)) = decide (v0 = 3)) := by unfold Hid; rw [decide_eq_false h2]; rfl
      generalize decide (v0 = 3) = r3 at *
      clear h2
      go_wp2_with fail
      refine c1.mono ?_
      rintro e w1 ⟨rfl, hb1⟩
      clear c1
      have c2 := H0.out w1 hb1
      go_wp2_with fail
      refine c2.mono ?_
      rintro e w2 ⟨rfl, hb2⟩
      clear c2
      go_wp2_with fail
      go_meet
      case rel => exact ⟨by rw [HE.out], Below.andThen hb1 hb2⟩
  case rest =>
    obtain ⟨rfl, hbc⟩ := hcut
    have HBC : Hid (Below w.heap.size w wc) := hbc
    clear hbc
    obtain ⟨g1, g2, g3, g4, g5, g6, g7, g8⟩ := HSide.out.all
    clear g2 g3 g4 g5 g6 g7 g8
    by_cases hr : v0 = 2 ∨ v0 = 3
    · have e1 : (decide (v0 = 2) || decide (v0 = 3)) = true := by rcases hr with h | h <;> rw [h] <;> decide
      have HS : Hid (sidedM L = sidedD true L n) := by unfold Hid; rw [HSD.out, if_neg (by omega), if_pos hr]
      rw [e1]
      clear e1 hr g1 HSide HRG HSD H0
      go_wp2_with fail
      go_loopw [4, 5, 6, 7] (fun lv ev av iv7 wr => ∃ (k : Nat) (Z : ByteArray), k ≤ n ∧ iv7 = .int .i64 k ∧ lv = .string Z ∧ SideS Z (lastV L k) ∧ ev = .bool (anyS 4 L k) ∧ av = .bool (anyS 5 L k) ∧ allS true L k = true ∧ Below w.heap.size w wr) (fun _ _ _ iv7 _ => n - (intOf iv7).toNat)
      case atStart => exact ⟨0, { data := #[] }, by omega, rfl, rfl, by rw [lastV_zero]; exact side_none, rfl, rfl, rfl, HBC.out⟩
      case round =>
        obtain ⟨k, Z, hk, rfl, rfl, hZ, rfl, rfl, hall, hbw⟩ := hrel
        have HZ : Hid (SideS Z (lastV L k)) := hZ
        have HALL : Hid (allS true L k = true) := hall
        have HBW : Hid (Below w.heap.size w wr) := hbw
        clear hZ hall hbw
        obtain ⟨b4, h4⟩ : ∃ b4, anyS 4 L k = b4 := ⟨_, rfl⟩
        obtain ⟨b5, h5⟩ : ∃ b5, anyS 5 L k = b5 := ⟨_, rfl⟩
        have HA4 : Hid (anyS 4 L k = b4) := h4
        have HA5 : Hid (anyS 5 L k = b5) := h5
        rw [h4, h5]
        clear h4 h5
        by_cases hkn : k < n
        · have hkn' : (k : Int) < (n : Int) := by omega
          obtain ⟨a1, ha1⟩ : ∃ x, Km.rowA Km.ref (dkAt L (k : Int)) = x := ⟨_, rfl⟩
          obtain ⟨b1, hb1⟩ : ∃ x, Km.rowB Km.ref (dkAt L (k : Int)) = x := ⟨_, rfl⟩
          obtain ⟨k1, hk1⟩ : ∃ x, Km.rowC Km.ref (dkAt L (k : Int)) = x := ⟨_, rfl⟩
          obtain ⟨S, hS⟩ : ∃ x, rowS (dkAt L (k : Int)) = x := ⟨_, rfl⟩
          obtain ⟨t1, ht1⟩ : ∃ x, rowT (dkAt L (k : Int)) = x := ⟨_, rfl⟩
          obtain ⟨j1, hj1⟩ : ∃ x, rowJ (dkAt L (k : Int)) = x := ⟨_, rfl⟩
          have hat := HAT.out wr HBW.out (k : Int) a1 b1 k1 S t1 j1 ha1 hb1 hk1 hS ht1 hj1
          have hside := side_row L (k : Int)
          rw [hS] at hside
          have HSK : Hid (SideS S (rS (pkAt L (k : Int)))) := hside
          have HF : Hid (okS true (rS (pkAt L (k : Int))) = false → sidedM L = false) := fun h => by rw [HS.out]; unfold sidedD; rw [allS_bad hkn h]; rfl
          have hrg := rS_range L (k : Int)
          have h4s := anyS_succ 4 L k
          have h5s := anyS_succ 5 L k
          have hls := lastV_succ L k
          have has := allS_succ true L k
          rw [HA4.out] at h4s
          rw [HA5.out] at h5s
          rw [HALL.out, Bool.true_and] at has
          have H4S : Hid (anyS 4 L (k + 1) = (b4 || decide (rS (pkAt L (k : Int)) = 4))) := h4s
          have H5S : Hid (anyS 5 L (k + 1) = (b5 || decide (rS (pkAt L (k : Int)) = 5))) := h5s
          have HLS : Hid (lastV L (k + 1) = if rS (pkAt L (k : Int)) = 7 then lastV L k else rS (pkAt L (k : Int))) := hls
          have HAS : Hid (allS true L (k + 1) = okS true (rS (pkAt L (k : Int)))) := has
          clear ha1 hb1 hk1 hS ht1 hj1 hside h4s h5s hls has
          generalize rS (pkAt L (k : Int)) = v at *
          rcases hrg with hv | hv | hv | hv | hv | hv | hv | hv
          · obtain ⟨f1, f2, f3, f4, f5, f6, f7, f8⟩ := side0 HSK.out hv
            have HE4 : Hid (anyS 4 L (k + 1) = b4) := by unfold Hid; rw [H4S.out, hv]; exact Bool.or_false _
            have HE5 : Hid (anyS 5 L (k + 1) = b5) := by unfold Hid; rw [H5S.out, hv]; exact Bool.or_false _
            have HEA : Hid (allS true L (k + 1) = true) := by unfold Hid; rw [HAS.out, hv]; decide
            have HEL : Hid (SideS S (lastV L (k + 1))) := by unfold Hid; rw [HLS.out, if_neg (by omega)]; exact HSK.out
            clear HF H4S H5S HLS HAS HSK hv
            cases b4 <;> cases b5
            all_goals
              go_wp2_with fail
              refine hat.mono ?_
              rintro e w2 ⟨rfl, hb2⟩
              clear hat
              go_wp2_with fail
              go_roundw
              case rel => exact ⟨k + 1, _, by omega, by go_num, rfl, HEL.out, by rw [HE4.out], by rw [HE5.out], HEA.out, Below.andThen HBW.out hb2⟩
              case measure => simp [intOf]; omega
          · obtain ⟨f1, f2, f3, f4, f5, f6, f7, f8⟩ := side1 HSK.out hv
            have HE : Hid (sidedM L = false) := HF.out (by rw [hv]; decide)
            clear HF H4S H5S HLS HAS HSK hv
            cases b4 <;> cases b5
            all_goals
              go_wp2_with fail
              refine hat.mono ?_
              rintro e w2 ⟨rfl, hb2⟩
              clear hat
              go_wp2_with fail
              go_ret
              exact ⟨by rw [HE.out]; rfl, Below.andThen HBW.out hb2⟩
          · obtain ⟨f1, f2, f3, f4, f5, f6, f7, f8⟩ := side2 HSK.out hv
            have HE4 : Hid (anyS 4 L (k + 1) = b4) := by unfold Hid; rw [H4S.out, hv]; exact Bool.or_false _
            have HE5 : Hid (anyS 5 L (k + 1) = b5) := by unfold Hid; rw [H5S.out, hv]; exact Bool.or_false _
            have HEA : Hid (allS true L (k + 1) = true) := by unfold Hid; rw [HAS.out, hv]; decide
            have HEL : Hid (SideS S (lastV L (k + 1))) := by unfold Hid; rw [HLS.out, if_neg (by omega)]; exact HSK.out
            clear HF H4S H5S HLS HAS HSK hv
            cases b4 <;> cases b5
            all_goals
              go_wp2_with fail
              refine hat.mono ?_
              rintro e w2 ⟨rfl, hb2⟩
              clear hat
              go_wp2_with fail
              go_roundw
              case rel => exact ⟨k + 1, _, by omega, by go_num, rfl, HEL.out, by rw [HE4.out], by rw [HE5.out], HEA.out, Below.andThen HBW.out hb2⟩
              case measure => simp [intOf]; omega
          · obtain ⟨f1, f2, f3, f4, f5, f6, f7, f8⟩ := side3 HSK.out hv
            have HE4 : Hid (anyS 4 L (k + 1) = b4) := by unfold Hid; rw [H4S.out, hv]; exact Bool.or_false _
            have HE5 : Hid (anyS 5 L (k + 1) = b5) := by unfold Hid; rw [H5S.out, hv]; exact Bool.or_false _
            have HEA : Hid (allS true L (k + 1) = true) := by unfold Hid; rw [HAS.out, hv]; decide
            have HEL : Hid (SideS S (lastV L (k + 1))) := by unfold Hid; rw [HLS.out, if_neg (by omega)]; exact HSK.out
            clear HF H4S H5S HLS HAS HSK hv
            cases b4 <;> cases b5
            all_goals
              go_wp2_with fail
              refine hat.mono ?_
              rintro e w2 ⟨rfl, hb2⟩
              clear hat
              go_wp2_with fail
              go_roundw
              case rel => exact ⟨k + 1, _, by omega, by go_num, rfl, HEL.out, by rw [HE4.out], by rw [HE5.out], HEA.out, Below.andThen HBW.out hb2⟩
              case measure => simp [intOf]; omega
          · obtain ⟨f1, f2, f3, f4, f5, f6, f7, f8⟩ := side4 HSK.out hv
            have HE4 : Hid (anyS 4 L (k + 1) = true) := by unfold Hid; rw [H4S.out, hv]; exact Bool.or_true _
            have HE5 : Hid (anyS 5 L (k + 1) = b5) := by unfold Hid; rw [H5S.out, hv]; exact Bool.or_false _
            have HEA : Hid (allS true L (k + 1) = true) := by unfold Hid; rw [HAS.out, hv]; decide
            have HEL : Hid (SideS S (lastV L (k + 1))) := by unfold Hid; rw [HLS.out, if_neg (by omega)]; exact HSK.out
            clear HF H4S H5S HLS HAS HSK hv
            cases b4 <;> cases b5
            all_goals
              go_wp2_with fail
              refine hat.mono ?_
              rintro e w2 ⟨rfl, hb2⟩
              clear hat
              go_wp2_with fail
              go_roundw
              case rel => exact ⟨k + 1, _, by omega, by go_num, rfl, HEL.out, by rw [HE4.out], by rw [HE5.out], HEA.out, Below.andThen HBW.out hb2⟩
              case measure => simp [intOf]; omega
          · obtain ⟨f1, f2, f3, f4, f5, f6, f7, f8⟩ := side5 HSK.out hv
            have HE4 : Hid (anyS 4 L (k + 1) = b4) := by unfold Hid; rw [H4S.out, hv]; exact Bool.or_false _
            have HE5 : Hid (anyS 5 L (k + 1) = true) := by unfold Hid; rw [H5S.out, hv]; exact Bool.or_true _
            have HEA : Hid (allS true L (k + 1) = true) := by unfold Hid; rw [HAS.out, hv]; decide
            have HEL : Hid (SideS S (lastV L (k + 1))) := by unfold Hid; rw [HLS.out, if_neg (by omega)]; exact HSK.out
            clear HF H4S H5S HLS HAS HSK hv
            cases b4 <;> cases b5
            all_goals
              go_wp2_with fail
              refine hat.mono ?_
              rintro e w2 ⟨rfl, hb2⟩
              clear hat
              go_wp2_with fail
              go_roundw
              case rel => exact ⟨k + 1, _, by omega, by go_num, rfl, HEL.out, by rw [HE4.out], by rw [HE5.out], HEA.out, Below.andThen HBW.out hb2⟩
              case measure => simp [intOf]; omega
          · obtain ⟨f1, f2, f3, f4, f5, f6, f7, f8⟩ := side6 HSK.out hv
            have HE4 : Hid (anyS 4 L (k + 1) = b4) := by unfold Hid; rw [H4S.out, hv]; exact Bool.or_false _
            have HE5 : Hid (anyS 5 L (k + 1) = b5) := by unfold Hid; rw [H5S.out, hv]; exact Bool.or_false _
            have HEA : Hid (allS true L (k + 1) = true) := by unfold Hid; rw [HAS.out, hv]; decide
            have HEL : Hid (SideS S (lastV L (k + 1))) := by unfold Hid; rw [HLS.out, if_neg (by omega)]; exact HSK.out
            clear HF H4S H5S HLS HAS HSK hv
            cases b4 <;> cases b5
            all_goals
              go_wp2_with fail
              refine hat.mono ?_
              rintro e w2 ⟨rfl, hb2⟩
              clear hat
              go_wp2_with fail
              go_roundw
              case rel => exact ⟨k + 1, _, by omega, by go_num, rfl, HEL.out, by rw [HE4.out], by rw [HE5.out], HEA.out, Below.andThen HBW.out hb2⟩
              case measure => simp [intOf]; omega
          · obtain ⟨f1, f2, f3, f4, f5, f6, f7, f8⟩ := side7 HSK.out hv
            have HE4 : Hid (anyS 4 L (k + 1) = b4) := by unfold Hid; rw [H4S.out, hv]; exact Bool.or_false _
            have HE5 : Hid (anyS 5 L (k + 1) = b5) := by unfold Hid; rw [H5S.out, hv]; exact Bool.or_false _
            have HEA : Hid (allS true L (k + 1) = true) := by unfold Hid; rw [HAS.out, hv]; decide
            have HEL : Hid (SideS Z (lastV L (k + 1))) := by unfold Hid; rw [HLS.out, if_pos hv]; exact HZ.out
            clear HF H4S H5S HLS HAS HSK hv
            cases b4 <;> cases b5
            all_goals
              go_wp2_with fail
              refine hat.mono ?_
              rintro e w2 ⟨rfl, hb2⟩
              clear hat
              go_wp2_with fail
              go_roundw
              case rel => exact ⟨k + 1, _, by omega, by go_num, rfl, HEL.out, by rw [HE4.out], by rw [HE5.out], HEA.out, Below.andThen HBW.out hb2⟩
              case measure => simp [intOf]; omega
        · obtain rfl : k = n := by omega
          have hkn' : ¬ (k : Int) < (k : Int) := by omega
          have HSF : Hid (sidedM L = ((decide (lastV L k = 2) || decide (lastV L k = 3) || decide (lastV L k = 4) || decide (lastV L k = 5)) && (!b4 || !b5))) := by
            unfold Hid
            rw [HS.out]
            unfold sidedD
            rw [HALL.out, HA4.out, HA5.out]
            rfl
          have hrg := rS_range L (endN L k)
          have hrg2 : lastV L k = 0 ∨ lastV L k = 1 ∨ lastV L k = 2 ∨ lastV L k = 3 ∨ lastV L k = 4 ∨ lastV L k = 5 ∨ lastV L k = 6 ∨ lastV L k = 7 := hrg
          clear hrg HALL HA4 HA5 HS
          generalize lastV L k = v at *
          rcases hrg2 with hv | hv | hv | hv | hv | hv | hv | hv
          · obtain ⟨f1, f2, f3, f4, f5, f6, f7, f8⟩ := side0 HZ.out hv
            subst hv
            clear HZ
            cases b4 <;> cases b5
            all_goals
              go_wp2_with fail
              go_ret
              exact ⟨by rw [HSF.out]; rfl, HBW.out⟩
          · obtain ⟨f1, f2, f3, f4, f5, f6, f7, f8⟩ := side1 HZ.out hv
            subst hv
            clear HZ
            cases b4 <;> cases b5
            all_goals
              go_wp2_with fail
              go_ret
              exact ⟨by rw [HSF.out]; rfl, HBW.out⟩
          · obtain ⟨f1, f2, f3, f4, f5, f6, f7, f8⟩ := side2 HZ.out hv
            subst hv
            clear HZ
            cases b4 <;> cases b5
            all_goals
              go_wp2_with fail
              go_ret
              exact ⟨by rw [HSF.out]; rfl, HBW.out⟩
          · obtain ⟨f1, f2, f3, f4, f5, f6, f7, f8⟩ := side3 HZ.out hv
            subst hv
            clear HZ
            cases b4 <;> cases b5
            all_goals
              go_wp2_with fail
              go_ret
              exact ⟨by rw [HSF.out]; rfl, HBW.out⟩
          · obtain ⟨f1, f2, f3, f4, f5, f6, f7, f8⟩ := side4 HZ.out hv
            subst hv
            clear HZ
            cases b4 <;> cases b5
            all_goals
              go_wp2_with fail
              go_ret
              exact ⟨by rw [HSF.out]; rfl, HBW.out⟩
          · obtain ⟨f1, f2, f3, f4, f5, f6, f7, f8⟩ := side5 HZ.out hv
            subst hv
            clear HZ
            cases b4 <;> cases b5
            all_goals
              go_wp2_with fail
              go_ret
              exact ⟨by rw [HSF.out]; rfl, HBW.out⟩
          · obtain ⟨f1, f2, f3, f4, f5, f6, f7, f8⟩ := side6 HZ.out hv
            subst hv
            clear HZ
            cases b4 <;> cases b5
            all_goals
              go_wp2_with fail
              go_ret
              exact ⟨by rw [HSF.out]; rfl, HBW.out⟩
          · obtain ⟨f1, f2, f3, f4, f5, f6, f7, f8⟩ := side7 HZ.out hv
            subst hv
            clear HZ
            cases b4 <;> cases b5
            all_goals
              go_wp2_with fail
              go_ret
              exact ⟨by rw [HSF.out]; rfl, HBW.out⟩
    · have e1 : (decide (v0 = 2) || decide (v0 = 3)) = false := by rw [decide_eq_false (by omega), decide_eq_false (by omega)]; rfl
      rw [e1]
      have c3 := H0.out wc HBC.out
      by_cases h1 : v0 = 1
      · rw [decide_eq_true h1] at g1
        have HS : Hid (sidedM L = sidedD false L n) := by unfold Hid; rw [HSD.out, if_pos h1]
        clear e1 hr h1 HSide HRG HSD H0
        go_wp2_with fail
        refine c3.mono ?_
        rintro e w1 ⟨rfl, hb1⟩
        clear c3
        have HBC2 : Hid (Below w.heap.size w w1) := Below.andThen HBC.out hb1
        clear hb1
        go_wp2_with fail
        go_loopw [4, 5, 6, 7] (fun lv ev av iv7 wr => ∃ (k : Nat) (Z : ByteArray), k ≤ n ∧ iv7 = .int .i64 k ∧ lv = .string Z ∧ SideS Z (lastV L k) ∧ ev = .bool (anyS 4 L k) ∧ av = .bool (anyS 5 L k) ∧ allS false L k = true ∧ Below w.heap.size w wr) (fun _ _ _ iv7 _ => n - (intOf iv7).toNat)
        case atStart => exact ⟨0, { data := #[] }, by omega, rfl, rfl, by rw [lastV_zero]; exact side_none, rfl, rfl, rfl, HBC2.out⟩
        case round =>
          obtain ⟨k, Z, hk, rfl, rfl, hZ, rfl, rfl, hall, hbw⟩ := hrel
          have HZ : Hid (SideS Z (lastV L k)) := hZ
          have HALL : Hid (allS false L k = true) := hall
          have HBW : Hid (Below w.heap.size w wr) := hbw
          clear hZ hall hbw
          obtain ⟨b4, h4⟩ : ∃ b4, anyS 4 L k = b4 := ⟨_, rfl⟩
          obtain ⟨b5, h5⟩ : ∃ b5, anyS 5 L k = b5 := ⟨_, rfl⟩
          have HA4 : Hid (anyS 4 L k = b4) := h4
          have HA5 : Hid (anyS 5 L k = b5) := h5
          rw [h4, h5]
          clear h4 h5
          by_cases hkn : k < n
          · have hkn' : (k : Int) < (n : Int) := by omega
            obtain ⟨a1, ha1⟩ : ∃ x, Km.rowA Km.ref (dkAt L (k : Int)) = x := ⟨_, rfl⟩
            obtain ⟨b1, hb1⟩ : ∃ x, Km.rowB Km.ref (dkAt L (k : Int)) = x := ⟨_, rfl⟩
            obtain ⟨k1, hk1⟩ : ∃ x, Km.rowC Km.ref (dkAt L (k : Int)) = x := ⟨_, rfl⟩
            obtain ⟨S, hS⟩ : ∃ x, rowS (dkAt L (k : Int)) = x := ⟨_, rfl⟩
            obtain ⟨t1, ht1⟩ : ∃ x, rowT (dkAt L (k : Int)) = x := ⟨_, rfl⟩
            obtain ⟨j1, hj1⟩ : ∃ x, rowJ (dkAt L (k : Int)) = x := ⟨_, rfl⟩
            have hat := HAT.out wr HBW.out (k : Int) a1 b1 k1 S t1 j1 ha1 hb1 hk1 hS ht1 hj1
            have hside := side_row L (k : Int)
            rw [hS] at hside
            have HSK : Hid (SideS S (rS (pkAt L (k : Int)))) := hside
            have HF : Hid (okS false (rS (pkAt L (k : Int))) = false → sidedM L = false) := fun h => by rw [HS.out]; unfold sidedD; rw [allS_bad hkn h]; rfl
            have hrg := rS_range L (k : Int)
            have h4s := anyS_succ 4 L k
            have h5s := anyS_succ 5 L k
            have hls := lastV_succ L k
            have has := allS_succ false L k
            rw [HA4.out] at h4s
            rw [HA5.out] at h5s
            rw [HALL.out, Bool.true_and] at has
            have H4S : Hid (anyS 4 L (k + 1) = (b4 || decide (rS (pkAt L (k : Int)) = 4))) := h4s
            have H5S : Hid (anyS 5 L (k + 1) = (b5 || decide (rS (pkAt L (k : Int)) = 5))) := h5s
            have HLS : Hid (lastV L (k + 1) = if rS (pkAt L (k : Int)) = 7 then lastV L k else rS (pkAt L (k : Int))) := hls
            have HAS : Hid (allS false L (k + 1) = okS false (rS (pkAt L (k : Int)))) := has
            clear ha1 hb1 hk1 hS ht1 hj1 hside h4s h5s hls has
            generalize rS (pkAt L (k : Int)) = v at *
            rcases hrg with hv | hv | hv | hv | hv | hv | hv | hv
            · obtain ⟨f1, f2, f3, f4, f5, f6, f7, f8⟩ := side0 HSK.out hv
              have HE4 : Hid (anyS 4 L (k + 1) = b4) := by unfold Hid; rw [H4S.out, hv]; exact Bool.or_false _
              have HE5 : Hid (anyS 5 L (k + 1) = b5) := by unfold Hid; rw [H5S.out, hv]; exact Bool.or_false _
              have HEA : Hid (allS false L (k + 1) = true) := by unfold Hid; rw [HAS.out, hv]; decide
              have HEL : Hid (SideS S (lastV L (k + 1))) := by unfold Hid; rw [HLS.out, if_neg (by omega)]; exact HSK.out
              clear HF H4S H5S HLS HAS HSK hv
              cases b4 <;> cases b5
              all_goals
                go_wp2_with fail
                refine hat.mono ?_
                rintro e w2 ⟨rfl, hb2⟩
                clear hat
                go_wp2_with fail
                go_roundw
                case rel => exact ⟨k + 1, _, by omega, by go_num, rfl, HEL.out, by rw [HE4.out], by rw [HE5.out], HEA.out, Below.andThen HBW.out hb2⟩
                case measure => simp [intOf]; omega
            · obtain ⟨f1, f2, f3, f4, f5, f6, f7, f8⟩ := side1 HSK.out hv
              have HE4 : Hid (anyS 4 L (k + 1) = b4) := by unfold Hid; rw [H4S.out, hv]; exact Bool.or_false _
              have HE5 : Hid (anyS 5 L (k + 1) = b5) := by unfold Hid; rw [H5S.out, hv]; exact Bool.or_false _
              have HEA : Hid (allS false L (k + 1) = true) := by unfold Hid; rw [HAS.out, hv]; decide
              have HEL : Hid (SideS S (lastV L (k + 1))) := by unfold Hid; rw [HLS.out, if_neg (by omega)]; exact HSK.out
              clear HF H4S H5S HLS HAS HSK hv
              cases b4 <;> cases b5
              all_goals
                go_wp2_with fail
                refine hat.mono ?_
                rintro e w2 ⟨rfl, hb2⟩
                clear hat
                go_wp2_with fail
                go_roundw
                case rel => exact ⟨k + 1, _, by omega, by go_num, rfl, HEL.out, by rw [HE4.out], by rw [HE5.out], HEA.out, Below.andThen HBW.out hb2⟩
                case measure => simp [intOf]; omega
            · obtain ⟨f1, f2, f3, f4, f5, f6, f7, f8⟩ := side2 HSK.out hv
              have HE : Hid (sidedM L = false) := HF.out (by rw [hv]; decide)
              clear HF H4S H5S HLS HAS HSK hv
              cases b4 <;> cases b5
              all_goals
                go_wp2_with fail
                refine hat.mono ?_
                rintro e w2 ⟨rfl, hb2⟩
                clear hat
                go_wp2_with fail
                go_ret
                exact ⟨by rw [HE.out]; rfl, Below.andThen HBW.out hb2⟩
            · obtain ⟨f1, f2, f3, f4, f5, f6, f7, f8⟩ := side3 HSK.out hv
              have HE : Hid (sidedM L = false) := HF.out (by rw [hv]; decide)
              clear HF H4S H5S HLS HAS HSK hv
              cases b4 <;> cases b5
              all_goals
                go_wp2_with fail
                refine hat.mono ?_
                rintro e w2 ⟨rfl, hb2⟩
                clear hat
                go_wp2_with fail
                go_ret
                exact ⟨by rw [HE.out]; rfl, Below.andThen HBW.out hb2⟩
            · obtain ⟨f1, f2, f3, f4, f5, f6, f7, f8⟩ := side4 HSK.out hv
              have HE4 : Hid (anyS 4 L (k + 1) = true) := by unfold Hid; rw [H4S.out, hv]; exact Bool.or_true _
              have HE5 : Hid (anyS 5 L (k + 1) = b5) := by unfold Hid; rw [H5S.out, hv]; exact Bool.or_false _
              have HEA : Hid (allS false L (k + 1) = true) := by unfold Hid; rw [HAS.out, hv]; decide
              have HEL : Hid (SideS S (lastV L (k + 1))) := by unfold Hid; rw [HLS.out, if_neg (by omega)]; exact HSK.out
              clear HF H4S H5S HLS HAS HSK hv
              cases b4 <;> cases b5
              all_goals
                go_wp2_with fail
                refine hat.mono ?_
                rintro e w2 ⟨rfl, hb2⟩
                clear hat
                go_wp2_with fail
                go_roundw
                case rel => exact ⟨k + 1, _, by omega, by go_num, rfl, HEL.out, by rw [HE4.out], by rw [HE5.out], HEA.out, Below.andThen HBW.out hb2⟩
                case measure => simp [intOf]; omega
            · obtain ⟨f1, f2, f3, f4, f5, f6, f7, f8⟩ := side5 HSK.out hv
              have HE : Hid (sidedM L = false) := HF.out (by rw [hv]; decide)
              clear HF H4S H5S HLS HAS HSK hv
              cases b4 <;> cases b5
              all_goals
                go_wp2_with fail
                refine hat.mono ?_
                rintro e w2 ⟨rfl, hb2⟩
                clear hat
                go_wp2_with fail
                go_ret
                exact ⟨by rw [HE.out]; rfl, Below.andThen HBW.out hb2⟩
            · obtain ⟨f1, f2, f3, f4, f5, f6, f7, f8⟩ := side6 HSK.out hv
              have HE4 : Hid (anyS 4 L (k + 1) = b4) := by unfold Hid; rw [H4S.out, hv]; exact Bool.or_false _
              have HE5 : Hid (anyS 5 L (k + 1) = b5) := by unfold Hid; rw [H5S.out, hv]; exact Bool.or_false _
              have HEA : Hid (allS false L (k + 1) = true) := by unfold Hid; rw [HAS.out, hv]; decide
              have HEL : Hid (SideS S (lastV L (k + 1))) := by unfold Hid; rw [HLS.out, if_neg (by omega)]; exact HSK.out
              clear HF H4S H5S HLS HAS HSK hv
              cases b4 <;> cases b5
              all_goals
                go_wp2_with fail
                refine hat.mono ?_
                rintro e w2 ⟨rfl, hb2⟩
                clear hat
                go_wp2_with fail
                go_roundw
                case rel => exact ⟨k + 1, _, by omega, by go_num, rfl, HEL.out, by rw [HE4.out], by rw [HE5.out], HEA.out, Below.andThen HBW.out hb2⟩
                case measure => simp [intOf]; omega
            · obtain ⟨f1, f2, f3, f4, f5, f6, f7, f8⟩ := side7 HSK.out hv
              have HE4 : Hid (anyS 4 L (k + 1) = b4) := by unfold Hid; rw [H4S.out, hv]; exact Bool.or_false _
              have HE5 : Hid (anyS 5 L (k + 1) = b5) := by unfold Hid; rw [H5S.out, hv]; exact Bool.or_false _
              have HEA : Hid (allS false L (k + 1) = true) := by unfold Hid; rw [HAS.out, hv]; decide
              have HEL : Hid (SideS Z (lastV L (k + 1))) := by unfold Hid; rw [HLS.out, if_pos hv]; exact HZ.out
              clear HF H4S H5S HLS HAS HSK hv
              cases b4 <;> cases b5
              all_goals
                go_wp2_with fail
                refine hat.mono ?_
                rintro e w2 ⟨rfl, hb2⟩
                clear hat
                go_wp2_with fail
                go_roundw
                case rel => exact ⟨k + 1, _, by omega, by go_num, rfl, HEL.out, by rw [HE4.out], by rw [HE5.out], HEA.out, Below.andThen HBW.out hb2⟩
                case measure => simp [intOf]; omega
          · obtain rfl : k = n := by omega
            have hkn' : ¬ (k : Int) < (k : Int) := by omega
            have HSF : Hid (sidedM L = ((decide (lastV L k = 1) || decide (lastV L k = 4)) && !b5)) := by
              unfold Hid
              rw [HS.out]
              unfold sidedD
              rw [HALL.out, HA4.out, HA5.out]
              rfl
            have hrg := rS_range L (endN L k)
            have hrg2 : lastV L k = 0 ∨ lastV L k = 1 ∨ lastV L k = 2 ∨ lastV L k = 3 ∨ lastV L k = 4 ∨ lastV L k = 5 ∨ lastV L k = 6 ∨ lastV L k = 7 := hrg
            clear hrg HALL HA4 HA5 HS
            generalize lastV L k = v at *
            rcases hrg2 with hv | hv | hv | hv | hv | hv | hv | hv
            · obtain ⟨f1, f2, f3, f4, f5, f6, f7, f8⟩ := side0 HZ.out hv
              subst hv
              clear HZ
              cases b4 <;> cases b5
              all_goals
                go_wp2_with fail
                go_ret
                exact ⟨by rw [HSF.out]; rfl, HBW.out⟩
            · obtain ⟨f1, f2, f3, f4, f5, f6, f7, f8⟩ := side1 HZ.out hv
              subst hv
              clear HZ
              cases b4 <;> cases b5
              all_goals
                go_wp2_with fail
                go_ret
                exact ⟨by rw [HSF.out]; rfl, HBW.out⟩
            · obtain ⟨f1, f2, f3, f4, f5, f6, f7, f8⟩ := side2 HZ.out hv
              subst hv
              clear HZ
              cases b4 <;> cases b5
              all_goals
                go_wp2_with fail
                go_ret
                exact ⟨by rw [HSF.out]; rfl, HBW.out⟩
            · obtain ⟨f1, f2, f3, f4, f5, f6, f7, f8⟩ := side3 HZ.out hv
              subst hv
              clear HZ
              cases b4 <;> cases b5
              all_goals
                go_wp2_with fail
                go_ret
                exact ⟨by rw [HSF.out]; rfl, HBW.out⟩
            · obtain ⟨f1, f2, f3, f4, f5, f6, f7, f8⟩ := side4 HZ.out hv
              subst hv
              clear HZ
              cases b4 <;> cases b5
              all_goals
                go_wp2_with fail
                go_ret
                exact ⟨by rw [HSF.out]; rfl, HBW.out⟩
            · obtain ⟨f1, f2, f3, f4, f5, f6, f7, f8⟩ := side5 HZ.out hv
              subst hv
              clear HZ
              cases b4 <;> cases b5
              all_goals
                go_wp2_with fail
                go_ret
                exact ⟨by rw [HSF.out]; rfl, HBW.out⟩
            · obtain ⟨f1, f2, f3, f4, f5, f6, f7, f8⟩ := side6 HZ.out hv
              subst hv
              clear HZ
              cases b4 <;> cases b5
              all_goals
                go_wp2_with fail
                go_ret
                exact ⟨by rw [HSF.out]; rfl, HBW.out⟩
            · obtain ⟨f1, f2, f3, f4, f5, f6, f7, f8⟩ := side7 HZ.out hv
              subst hv
              clear HZ
              cases b4 <;> cases b5
              all_goals
                go_wp2_with fail
                go_ret
                exact ⟨by rw [HSF.out]; rfl, HBW.out⟩
      · rw [decide_eq_false h1] at g1
        have HS : Hid (sidedM L = false) := by unfold Hid; rw [HSD.out, if_neg h1, if_neg hr]
        clear e1 hr h1 HSide HRG HSD H0
        go_wp2_with fail
        refine c3.mono ?_
        rintro e w1 ⟨rfl, hb1⟩
        clear c3
        go_wp2_with fail
        go_ret
        exact ⟨by rw [HS.out]; rfl, Below.andThen HBC.out hb1⟩
end Go.Proofs.YtkaaldhejpaiiaaGreatDoor

