/- hasWrongForm, fault. -/
import Derived.Test.YtkaaldhejpaiiaaGreatDoorLi
import Derived.Deep.QuietTactic
import Derived.Deep.RegionWith
import Derived.Deep.CutRange
import Derived.Deep.CutBlock
namespace Go.Proofs.YtkaaldhejpaiiaaGreatDoor
open Go.RowKit

/-- Two neighbours that are a pair, or marks in a wrong order. -/
def badAt (L : List Nat) (i : Nat) : Bool := Lm.pair (L.getD i 0) (L.getD (i + 1) 0) || (decide (rC (pkAt L (i : Int)) = 4) && decide (rC (pkAt L ((i : Int) + 1)) = 4) && decide (Lm.height (L.getD (i + 1) 0) < Lm.height (L.getD i 0)))
def formBad (L : List Nat) : Bool := (List.range (L.length - 1)).any (badAt L)
/-- The sign is in the table. -/
def known (L : List Nat) : Prop := ∀ x ∈ L, x ≤ 40959

set_option maxRecDepth 100000 in
set_option maxHeartbeats 4000000 in
theorem hasWrongForm_any {w : World} {b r : Nat} {L : List Nat} (hL : Lab w b r L) (hkn : known L)
    (hpair : ∀ (a b : Nat) (W : World), a ≤ 40959 → Calls Tryz.prog 98 #[.int .i32 (a : Int), .int .i32 (b : Int)] W fun e w' => e = .returned (.bool (Lm.pair a b)) ∧ Below W.heap.size W w') :
    Calls Tryz.prog 61 #[.pointer (some ⟨b, 0, none⟩)] w fun e w' => e = .returned (.bool (formBad L)) ∧ Below w.heap.size w w' := by
  have hlen := hL.len
  have HL : Hid (Lab w b r L) := hL
  have HK : Hid (known L) := hkn
  obtain ⟨n, hn⟩ : ∃ n, L.length = n := ⟨_, rfl⟩
  have HN : Hid (L.length = n) := hn
  unfold formBad
  rw [hn] at hlen ⊢
  clear hL hn hkn
  go_enter Tryz.func61, Tryz.ntmps61
  go_wp2
  go_loopw [3] (fun iv wr => ∃ k : Nat, 1 ≤ k ∧ (k ≤ n ∨ k = 1) ∧ iv = .int .i64 k ∧ (∀ j, j + 1 < k → badAt L j = false) ∧ Below w.heap.size w wr) (fun iv _ => n - (intOf iv).toNat)
  case atStart => exact ⟨1, by omega, by omega, rfl, fun j hj => absurd hj (by omega), Below.refl _ _⟩
  case round =>
    obtain ⟨k, hk1, hk, rfl, hno, hbw⟩ := hrel
    have HO : Hid (∀ j, j + 1 < k → badAt L j = false) := hno
    have HBW : Hid (Below w.heap.size w wr) := hbw
    have hct := fcount_any (HL.out.keep hbw)
    rw [HN.out] at hct
    clear hno
    by_cases hlt : k < n
    · obtain ⟨i, hik⟩ : ∃ i, k = i + 1 := ⟨k - 1, by omega⟩
      have hlt' : (k : Int) < (n : Int) := by omega
      have hi0 : i < L.length := by rw [HN.out]; omega
      have hi1 : k < L.length := by rw [HN.out]; exact hlt
      have ha0 := fun W (hW : BW wr W) => fat_any ((HL.out.keep hbw).keep hW) i hi0
      have ha1 := fun W (hW : BW wr W) => fat_any ((HL.out.keep hbw).keep hW) k hi1
      have g0 : L.getD i 0 = L[i] := by simp [List.getD, hi0]
      have g1 : L.getD (i + 1) 0 = L[k] := by rw [← hik]; simp [List.getD, hi1]
      have hs0 : L[i] ≤ 40959 := HK.out _ (List.getElem_mem hi0)
      have hs1 : L[k] ≤ 40959 := HK.out _ (List.getElem_mem hi1)
      have hpk : pkAt L ((i : Int) + 1) = pkAt L (k : Int) := congrArg _ (by omega)
      have hbad : badAt L i = (Lm.pair L[i] L[k] || (decide (rC (pkAt L (i : Int)) = 4) && decide (rC (pkAt L (k : Int)) = 4) && decide (Lm.height L[k] < Lm.height L[i]))) := by unfold badAt; rw [g0, g1, hpk]
      generalize L[i] = x at *
      generalize L[k] = y at *
      have hpr := hpair x y wr hs0
      simp only [show (i : Int) = (k : Int) - 1 by omega] at ha0
      clear g0 g1 hi0 hi1 hpk hpr hbw
      have HI : Hid (k = i + 1) := hik
      have hkI : (i : Int) = (k : Int) - 1 := by omega
      rw [hkI] at hbad
      have HBD : Hid (badAt L i = (Lm.pair x y || (decide (rC (pkAt L ((k : Int) - 1)) = 4) && decide (rC (pkAt L (k : Int)) = 4) && decide (Lm.height y < Lm.height x)))) := hbad
      have HP : Hid (∀ (a b : Nat) (W : World), a ≤ 40959 → Calls Tryz.prog 98 #[.int .i32 (a : Int), .int .i32 (b : Int)] W fun e w' => e = .returned (.bool (Lm.pair a b)) ∧ Below W.heap.size W w') := hpair
      clear hik hkI hbad hpair
      have hw1 : IntKind.i64.wrap ((k : Int) - 1) = (k : Int) - 1 := by rw [IntKind.wrap_i64]; omega
      obtain ⟨f, hf0, hf1⟩ : ∃ f : Int → Int, f (IntKind.i64.wrap ((k : Int) - 1)) = (x : Int) ∧ f (k : Int) = (y : Int) := ⟨fun p => if p = (k : Int) then (y : Int) else (x : Int), by rw [hw1]; exact if_neg (by omega), if_pos rfl⟩
      have HA : Hid (∀ W (p : Int), BW wr W → (p = IntKind.i64.wrap ((k : Int) - 1) ∨ p = (k : Int)) → Calls Tryz.prog 97 #[.pointer (some ⟨b, 0, none⟩), .int .i64 p] W fun e w' => e = .returned (.int .i32 (f p)) ∧ w' = W) := by
        intro W p hW hp
        rcases hp with rfl | rfl
        · rw [hf0, hw1]; exact ha0 W hW
        · rw [hf1]; exact ha1 W hW
      have HF : Hid (f (IntKind.i64.wrap ((k : Int) - 1)) = (x : Int) ∧ f (k : Int) = (y : Int)) := ⟨hf0, hf1⟩
      clear ha0 ha1 hw1 hf0 hf1
      go_upto_region 4 with (go_at_call 94; refine hct.mono ?_; rintro e w' ⟨rfl, hw'⟩; rw [hw']; clear hw' hct)
      go_cut [4, 5] from 6 to 45 (fun a b wc => a = .int .i32 (x : Int) ∧ b = .int .i32 (y : Int) ∧ BW wr wc)
      case first =>
        first | (go_region_with (go_at_call 97; refine (HA.out _ _ (by repeat (first | assumption | exact BW.refl _ | apply BW.drew)) (by first | exact Or.inl rfl | exact Or.inr rfl)).mono ?_; rintro e w' ⟨rfl, hw'⟩; rw [hw']; clear hw')) | fail
        all_goals go_wp2
        all_goals go_meet
        all_goals exact ⟨by rw [HF.out.1], by rw [HF.out.2], by repeat (first | assumption | exact BW.refl _ | apply BW.drew)⟩
      case rest =>
        obtain ⟨rfl, rfl, hbc⟩ := hcut
        have hpr := HP.out x y wc hs0
        have HW : Hid (Below w.heap.size w wc) := Below.andThen HBW.out hbc
        have go_on : ∀ j, j < k → badAt L i = false → badAt L j = false := fun j hj hb => by
          rcases Nat.lt_or_ge (j + 1) k with h | h
          · exact HO.out j h
          · rw [show j = i by have := HI.out; omega]; exact hb
        have GO : Hid (∀ j, j < k → badAt L i = false → badAt L j = false) := go_on
        clear hbc go_on
        cases hv : Lm.pair x y with
        | true =>
          rw [hv] at hpr
          go_wp2_with (go_at_call 98; refine hpr.mono ?_; rintro e w1 ⟨rfl, hb1⟩)
          go_ret
          refine ⟨?_, Below.andThen HW.out hb1⟩
          rw [List.any_eq_true.2 ⟨i, List.mem_range.2 (by have := HI.out; omega), by rw [HBD.out, hv]; rfl⟩]
          rfl
        | false =>
          rw [hv] at hpr
          cases hv0 : decide (rC (pkAt L ((k : Int) - 1)) = 4) with
          | false =>
            go_upto_region 7 with (go_at_call 98; refine hpr.mono ?_; rintro e w1 ⟨rfl, hb1⟩)
            clear hpr
            have k0 := kind_lit (HL.out.keep (Below.andThen HW.out hb1)) ((k : Int) - 1) 4 false hv0
            go_wp2_with (go_at_call 60; refine k0.mono ?_; rintro e w2 ⟨rfl, hb2⟩)
            go_roundw
            case rel => exact ⟨k + 1, by omega, by omega, by go_num, fun j hj => GO.out j (by omega) (by rw [HBD.out, hv, hv0]; rfl), Below.andThen (Below.andThen HW.out hb1) hb2⟩
            case measure => simp [intOf]; omega
          | true =>
            cases hv1 : decide (rC (pkAt L (k : Int)) = 4) with
            | false =>
              go_upto_region 7 with (go_at_call 98; refine hpr.mono ?_; rintro e w1 ⟨rfl, hb1⟩)
              clear hpr
              have k0 := kind_lit (HL.out.keep (Below.andThen HW.out hb1)) ((k : Int) - 1) 4 true hv0
              go_wp2_with (go_at_call 60; refine k0.mono ?_; rintro e w2 ⟨rfl, hb2⟩; clear k0; have k1 := kind_lit (HL.out.keep (Below.andThen (Below.andThen HW.out hb1) hb2)) (k : Int) 4 false hv1)
              refine k1.mono ?_
              rintro e w3 ⟨rfl, hb3⟩
              clear k1
              go_wp2_with fail
              go_roundw
              case rel => exact ⟨k + 1, by omega, by omega, by go_num, fun j hj => GO.out j (by omega) (by rw [HBD.out, hv, hv0, hv1]; rfl), Below.andThen (Below.andThen (Below.andThen HW.out hb1) hb2) hb3⟩
              case measure => simp [intOf]; omega
            | true =>
              have hx := fun W => heightC_any x W (by omega)
              have hy := fun W => heightC_any y W (by omega)
              have HX : Hid (∀ W, Calls Tryz.prog 99 #[.int .i32 (x : Int)] W fun e w' => e = .returned (.int .i64 (Lm.height x : Nat)) ∧ w' = W) := hx
              have HY : Hid (∀ W, Calls Tryz.prog 99 #[.int .i32 (y : Int)] W fun e w' => e = .returned (.int .i64 (Lm.height y : Nat)) ∧ w' = W) := hy
              clear hx hy
              generalize Lm.height x = hx at *
              generalize Lm.height y = hy at *
              by_cases hh : hy < hx
              · have hh' : (hy : Int) < (hx : Int) := by omega
                go_upto_region 7 with (go_at_call 98; refine hpr.mono ?_; rintro e w1 ⟨rfl, hb1⟩)
                clear hpr
                have k0 := kind_lit (HL.out.keep (Below.andThen HW.out hb1)) ((k : Int) - 1) 4 true hv0
                go_wp2_with (go_at_call 60; refine k0.mono ?_; rintro e w2 ⟨rfl, hb2⟩; clear k0; have k1 := kind_lit (HL.out.keep (Below.andThen (Below.andThen HW.out hb1) hb2)) (k : Int) 4 true hv1)
                refine k1.mono ?_
                rintro e w3 ⟨rfl, hb3⟩
                clear k1
                go_wp2_with fail
                refine (HX.out _).mono ?_
                rintro e w' ⟨rfl, hw'⟩; rw [hw']; clear hw'
                go_wp2_with fail
                refine (HY.out _).mono ?_
                rintro e w' ⟨rfl, hw'⟩; rw [hw']; clear hw'
                go_wp2_with fail
                go_ret
                refine ⟨?_, Below.andThen (Below.andThen (Below.andThen HW.out hb1) hb2) hb3⟩
                rw [List.any_eq_true.2 ⟨i, List.mem_range.2 (by have := HI.out; omega), by rw [HBD.out, hv, hv0, hv1, decide_eq_true hh]; rfl⟩]
                rfl
              · have hh' : ¬ (hy : Int) < (hx : Int) := by omega
                go_upto_region 7 with (go_at_call 98; refine hpr.mono ?_; rintro e w1 ⟨rfl, hb1⟩)
                clear hpr
                have k0 := kind_lit (HL.out.keep (Below.andThen HW.out hb1)) ((k : Int) - 1) 4 true hv0
                go_wp2_with (go_at_call 60; refine k0.mono ?_; rintro e w2 ⟨rfl, hb2⟩; clear k0; have k1 := kind_lit (HL.out.keep (Below.andThen (Below.andThen HW.out hb1) hb2)) (k : Int) 4 true hv1)
                refine k1.mono ?_
                rintro e w3 ⟨rfl, hb3⟩
                clear k1
                go_wp2_with fail
                refine (HX.out _).mono ?_
                rintro e w' ⟨rfl, hw'⟩; rw [hw']; clear hw'
                go_wp2_with fail
                refine (HY.out _).mono ?_
                rintro e w' ⟨rfl, hw'⟩; rw [hw']; clear hw'
                go_wp2_with fail
                go_roundw
                case rel => exact ⟨k + 1, by omega, by omega, by go_num, fun j hj => GO.out j (by omega) (by rw [HBD.out, hv, hv0, hv1, decide_eq_false hh]; rfl), Below.andThen (Below.andThen (Below.andThen HW.out hb1) hb2) hb3⟩
                case measure => simp [intOf]; omega
    · have hlt' : ¬ (k : Int) < (n : Int) := by omega
      clear hbw
      go_wp2_with (go_at_call 94; refine hct.mono ?_; rintro e w' ⟨rfl, hw'⟩; rw [hw']; clear hw' hct)
      go_ret
      refine ⟨?_, HBW.out⟩
      rw [List.any_eq_false.2 fun j hj => by
        rw [HO.out j (by have := List.mem_range.1 hj; omega)]
        simp]
      rfl
end Go.Proofs.YtkaaldhejpaiiaaGreatDoor
