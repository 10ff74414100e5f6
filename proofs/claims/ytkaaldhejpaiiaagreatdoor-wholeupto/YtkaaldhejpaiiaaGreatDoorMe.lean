import Derived.Test.YtkaaldhejpaiiaaGreatDoorMd
import Derived.Test.YtkaaldhejpaiiaaGreatDoorBu24
import Derived.Deep.CutRange
import Derived.BigQuiet
/- The document's rules. -/
namespace Go.Proofs.YtkaaldhejpaiiaaGreatDoor
open Go.RowKit

theorem kindQ (n : Nat) (w : World) : Calls Tryz.prog 70 #[.int .i64 (n : Int)] w fun e w' => e = .returned (.int .i64 (rC (pk (n : Int)))) ∧ Below w.heap.size w w' := by
  rw [rC_look, Km.agree]
  exact refKind_any (n : Int) w
theorem pairQ (a b : Nat) (w : World) : Calls Tryz.prog 71 #[.int .i64 (a : Int), .int .i64 (b : Int)] w fun e w' => e = .returned (.bool (Lm.pair a b)) ∧ ∃ m, w' = w.drewN m := by
  refine (pairD_any a b w).mono ?_
  rintro e w' ⟨rfl, rfl⟩
  exact ⟨rfl, 0, rfl⟩
theorem heightQ (a : Nat) (ha : a ≤ 1114111) (w : World) : Calls Tryz.prog 72 #[.int .i64 (a : Int)] w fun e w' => e = .returned (.int .i64 (Lm.height a : Nat)) ∧ ∃ m, w' = w.drewN m := by
  refine (heightD_any a w ha).mono ?_
  rintro e w' ⟨rfl, rfl⟩
  exact ⟨rfl, 0, rfl⟩
theorem below_drewN {B : Nat} {w w' : World} (h : Below B w w') (q : Nat) : Below B w (w'.drewN q) := ⟨h.os, h.tape, h.output, h.size, h.block⟩
theorem noKind_of {L : List Nat} {k : Nat} (hk : k < L.length) (h : rC (pk ((L[k] : Nat) : Int)) = 0) : noKind L = true := by
  rw [noKind_iff, List.any_eq_true]
  exact ⟨L[k], List.getElem_mem hk, by simpa using h⟩
theorem noKind_none {L : List Nat} (h : ∀ j (hj : j < L.length), rC (pk ((L[j] : Nat) : Int)) ≠ 0) : noKind L = false := by
  rw [noKind_iff, List.any_eq_false]
  intro n hn
  obtain ⟨j, hj, rfl⟩ := List.getElem_of_mem hn
  simpa using h j hj
theorem badAt_eq (L : List Nat) (k : Nat) (h : k + 1 < L.length) : badAt L k = (Lm.pair L[k] L[k + 1] || (decide (rC (pk ((L[k] : Nat) : Int)) = 4) && decide (rC (pk ((L[k + 1] : Nat) : Int)) = 4) && decide (Lm.height L[k + 1] < Lm.height L[k]))) := by
  unfold badAt
  have e1 : L.getD k 0 = L[k] := by rw [List.getD_eq_getElem?_getD, List.getElem?_eq_getElem (by omega)]; rfl
  have e2 : L.getD (k + 1) 0 = L[k + 1] := by rw [List.getD_eq_getElem?_getD, List.getElem?_eq_getElem h]; rfl
  rw [e1, e2, pkAt_nat L k (by omega), show ((k : Int) + 1) = ((k + 1 : Nat) : Int) by omega, pkAt_nat L (k + 1) h]
theorem formBad_of {L : List Nat} {k : Nat} (hk : k + 1 < L.length) (h : badAt L k = true) : formBad L = true := by
  unfold formBad
  rw [List.any_eq_true]
  exact ⟨k, List.mem_range.2 (by omega), h⟩
theorem formBad_none {L : List Nat} (h : ∀ j, j + 1 < L.length → badAt L j = false) : formBad L = false := by
  unfold formBad
  rw [List.any_eq_false]
  intro j hj
  rw [h j (by have := List.mem_range.1 hj; omega)]
  decide
theorem ctxBad_of {L : List Nat} {k : Nat} (hk : k < L.length) (h : ctxM L (kataM L) (mixedM L) L[k] k = false) : ctxBad L = true := by
  unfold ctxBad
  rw [List.any_eq_true]
  refine ⟨k, List.mem_range.2 hk, ?_⟩
  rw [List.getD_eq_getElem?_getD, List.getElem?_eq_getElem hk]
  show (!ctxM L (kataM L) (mixedM L) L[k] k) = true
  rw [h]
  rfl
theorem ctxBad_none {L : List Nat} (h : ∀ j (hj : j < L.length), ctxM L (kataM L) (mixedM L) L[j] j = true) : ctxBad L = false := by
  unfold ctxBad
  rw [List.any_eq_false]
  intro j hj
  have hl := List.mem_range.1 hj
  rw [List.getD_eq_getElem?_getD, List.getElem?_eq_getElem hl]
  show ¬ (!ctxM L (kataM L) (mixedM L) L[j] j) = true
  rw [h j hl]
  decide
/-- The hyphens, as the document tells them. -/
theorem hyph_doc {w : World} {g : Nat} {L : List Nat} (hI : Ints w g L) (h : L ≠ []) : ∃ x0 xl x2 x3 : Nat,
    (∀ W, Below w.heap.size w W → W.cell? ⟨g, 0, none⟩ = some (.int .i64 (x0 : Int)) ∧ W.cell? ⟨g, L.length - 1, none⟩ = some (.int .i64 (xl : Int)) ∧ (3 < L.length → W.cell? ⟨g, 2, none⟩ = some (.int .i64 (x2 : Int)) ∧ W.cell? ⟨g, 3, none⟩ = some (.int .i64 (x3 : Int)))) ∧
    rC (pkAt L 0) = rC (pk (x0 : Int)) ∧ hyphM L = (decide ((x0 : Int) = 45) || decide ((xl : Int) = 45) || (decide (3 < L.length) && decide ((x2 : Int) = 45) && decide ((x3 : Int) = 45))) := by
  have h0 := List.length_pos_iff.2 h
  refine ⟨L[0], L[L.length - 1], L.getD 2 0, L.getD 3 0, fun W hW => ?_, ?_, ?_⟩
  · have hJ := hI.keep hW
    refine ⟨hJ.cell 0 h0, hJ.cell (L.length - 1) (by omega), fun h3 => ?_⟩
    have e2 : L.getD 2 0 = L[2] := by rw [List.getD_eq_getElem?_getD, List.getElem?_eq_getElem (by omega)]; rfl
    have e3 : L.getD 3 0 = L[3] := by rw [List.getD_eq_getElem?_getD, List.getElem?_eq_getElem h3]; rfl
    rw [e2, e3]
    exact ⟨hJ.cell 2 (by omega), hJ.cell 3 h3⟩
  · rw [show (0 : Int) = ((0 : Nat) : Int) from rfl, pkAt_nat L 0 h0]
  · rw [hyphM_eq h]
    have e : ∀ (k : Nat) (hk : k < L.length), decide (L[k]? = some 45) = decide (((L[k] : Nat) : Int) = 45) := fun k hk => by
      rw [List.getElem?_eq_getElem hk]
      apply decide_eq_decide.2
      constructor
      · intro h; have := Option.some.inj h; omega
      · intro h; congr 1; omega
    rw [e 0 h0, List.getLast?_eq_getElem?, e (L.length - 1) (by omega)]
    by_cases h3 : 3 < L.length
    · have e2 : L.getD 2 0 = L[2] := by rw [List.getD_eq_getElem?_getD, List.getElem?_eq_getElem (by omega)]; rfl
      have e3 : L.getD 3 0 = L[3] := by rw [List.getD_eq_getElem?_getD, List.getElem?_eq_getElem h3]; rfl
      rw [e 2 (by omega), e 3 h3, e2, e3, decide_eq_true h3, Bool.true_and]
    · have : L[3]? = none := List.getElem?_eq_none (by omega)
      rw [this, decide_eq_false h3]
      simp

set_option maxRecDepth 100000 in
set_option maxHeartbeats 16000000 in
theorem rules_any {w : World} {g : Nat} {L : List Nat} (hI : Ints w g L) (c : Nat) (hne : L ≠ []) (hlen : L.length ≤ 2000000000) :
    Calls Tryz.prog 42 #[.slice (some ⟨g, 0, none⟩) L.length c] w fun e w' => e = .returned (.int .i64 (faultM L : Nat)) ∧ Below w.heap.size w w' := by
  have h0 := List.length_pos_iff.2 hne
  have HF : Hid (faultM L = if noKind L = true then 4 else if hyphM L = true then 5 else if decide (rC (pkAt L 0) = 4) = true then 6 else if formBad L = true then 7 else if ctxBad L = true then 8 else 0) := rfl
  obtain ⟨x0, xl, x2, x3, hcs, hp0, hhy⟩ := hyph_doc hI hne
  have HI : Hid (∀ W, Below w.heap.size w W → Ints W g L) := fun W hW => hI.keep hW
  have hgl := hI.lt
  obtain ⟨n, hnn⟩ : ∃ n, L.length = n := ⟨_, rfl⟩
  have HN : Hid (L.length = n) := hnn
  have HCell : Hid (∀ W, Below w.heap.size w W → ∀ k (hk : k < L.length), W.cell? ⟨g, k, none⟩ = some (.int .i64 ((L[k] : Nat) : Int))) := fun W hW k hk => (hI.keep hW).cell k hk
  rw [hnn] at hcs hhy ⊢
  have HCS : Hid (∀ W, Below w.heap.size w W → W.cell? ⟨g, 0, none⟩ = some (.int .i64 (x0 : Int)) ∧ W.cell? ⟨g, n - 1, none⟩ = some (.int .i64 (xl : Int)) ∧ (3 < n → W.cell? ⟨g, 2, none⟩ = some (.int .i64 (x2 : Int)) ∧ W.cell? ⟨g, 3, none⟩ = some (.int .i64 (x3 : Int)))) := hcs
  have HHH : Hid (hyphM L = (decide ((x0 : Int) = 45) || decide ((xl : Int) = 45) || (decide (3 < n) && decide ((x2 : Int) = 45) && decide ((x3 : Int) = 45)))) := hhy
  have HP0 : Hid (rC (pkAt L 0) = rC (pk (x0 : Int))) := hp0
  have hn1 : 1 ≤ n := by omega
  have hn2 : n ≤ 2000000000 := by omega
  clear hI hcs hp0 hhy hlen h0 hne hnn
  go_enter Tryz.func42, Tryz.ntmps42
  go_wp2_with fail
  go_loopw [3] (fun pv wr => ∃ k : Nat, k ≤ n ∧ pv = .int .i64 (k : Int) ∧ (∀ j (hj : j < L.length), j < k → rC (pk ((L[j] : Nat) : Int)) ≠ 0) ∧ Below w.heap.size w wr) (fun pv _ => n - (intOf pv).toNat)
  case atStart => exact ⟨0, by omega, rfl, fun j _ hj => absurd hj (Nat.not_lt_zero _), Below.refl _ _⟩
  case round =>
    obtain ⟨k, hk, rfl, hno, hbw⟩ := hrel
    have HNO : Hid (∀ j (hj : j < L.length), j < k → rC (pk ((L[j] : Nat) : Int)) ≠ 0) := hno
    have HBW : Hid (Below w.heap.size w wr) := hbw
    clear hno
    by_cases hkn : k < n
    · have hkL : k < L.length := by have := HN.out; omega
      have hck := HCell.out wr hbw k hkL
      have hkd := kindQ L[k] wr
      clear hbw
      have HV : Hid (rC (pk ((L[k] : Nat) : Int)) = 0 → faultM L = 4) := fun h => by rw [HF.out, noKind_of hkL h, if_pos rfl]
      have HW : Hid (rC (pk ((L[k] : Nat) : Int)) ≠ 0 → ∀ j (hj : j < L.length), j < k + 1 → rC (pk ((L[j] : Nat) : Int)) ≠ 0) := fun h j hj hjk => by
        rcases Nat.lt_or_ge j k with h1 | h1
        · exact HNO.out j hj h1
        · obtain rfl : j = k := by omega
          exact h
      generalize rC (pk ((L[k] : Nat) : Int)) = K at *
      generalize L[k] = x at *
      by_cases hK : K = 0
      · have HE : Hid (faultM L = 4) := HV.out hK
        subst hK
        go_wp2_with fail
        refine hkd.mono ?_
        rintro e w1 ⟨rfl, hb1⟩
        clear hkd
        go_wp2_with fail
        go_ret
        exact ⟨by rw [HE.out]; rfl, Below.andThen HBW.out hb1⟩
      · have HE := HW.out hK
        have hK' : (K == 0) = false := beq_eq_false_iff_ne.2 hK
        have HE2 : Hid (∀ j (hj : j < L.length), j < k + 1 → rC (pk ((L[j] : Nat) : Int)) ≠ 0) := HE
        clear HE HV HW hK
        go_wp2_with fail
        refine hkd.mono ?_
        rintro e w1 ⟨rfl, hb1⟩
        clear hkd
        go_wp2_with fail
        go_roundw
        case rel => exact ⟨k + 1, by omega, by go_num, HE2.out, Below.andThen HBW.out hb1⟩
        case measure => simp [intOf]; omega
    · have hkn' : ¬ (k : Int) < (n : Int) := by omega
      have HK0 : Hid (noKind L = false) := noKind_none fun j hj => HNO.out j hj (by have := HN.out; omega)
      clear HNO
      obtain ⟨c0, cl, c23⟩ := HCS.out wr hbw
      obtain ⟨m, rfl⟩ : ∃ m, n = m + 1 := ⟨n - 1, by omega⟩
      rw [Nat.add_sub_cancel] at cl
      clear hbw hn1 hk hkn
      have hm2 : m ≤ 2000000000 := by omega
      go_upto_region 8 with fail
      go_cut [56] from 29 to 56 (fun v wc => v = .bool (hyphM L) ∧ wc = wr)
      case first =>
        by_cases y0 : (x0 : Int) = 45
        · have HE : Hid (hyphM L = true) := by unfold Hid; rw [HHH.out, decide_eq_true y0]; simp
          clear cl c23
          go_wp2_with fail
          go_meet
          case rel => exact ⟨by rw [HE.out], rfl⟩
        · have y0' : ((x0 : Int) == 45) = false := beq_eq_false_iff_ne.2 y0
          by_cases yl : (xl : Int) = 45
          · have HE : Hid (hyphM L = true) := by unfold Hid; rw [HHH.out, decide_eq_true yl]; simp
            clear c23 y0
            go_wp2_with fail
            go_meet
            case rel => exact ⟨by rw [HE.out], rfl⟩
          · have yl' : ((xl : Int) == 45) = false := beq_eq_false_iff_ne.2 yl
            by_cases h3 : 3 < m + 1
            · have h3' : (3 : Int) < ((m + 1 : Nat) : Int) := by omega
              obtain ⟨c2, c3⟩ := c23 h3
              clear c23
              by_cases y2 : (x2 : Int) = 45
              · by_cases y3 : (x3 : Int) = 45
                · have HE : Hid (hyphM L = true) := by unfold Hid; rw [HHH.out, decide_eq_true h3, decide_eq_true y2, decide_eq_true y3]; simp
                  clear y0 yl
                  go_wp2_with fail
                  go_meet
                  case rel => exact ⟨by rw [HE.out], rfl⟩
                · have y3' : ((x3 : Int) == 45) = false := beq_eq_false_iff_ne.2 y3
                  have HE : Hid (hyphM L = false) := by unfold Hid; rw [HHH.out, decide_eq_false y0, decide_eq_false yl, decide_eq_false y3]; simp
                  clear y0 yl y3
                  go_wp2_with fail
                  go_meet
                  case rel => exact ⟨by rw [HE.out], rfl⟩
              · have y2' : ((x2 : Int) == 45) = false := beq_eq_false_iff_ne.2 y2
                have HE : Hid (hyphM L = false) := by unfold Hid; rw [HHH.out, decide_eq_false y0, decide_eq_false yl, decide_eq_false y2]; simp
                clear y0 yl y2
                go_wp2_with fail
                go_meet
                case rel => exact ⟨by rw [HE.out], rfl⟩
            · have h3' : ¬ (3 : Int) < ((m + 1 : Nat) : Int) := by omega
              have HE : Hid (hyphM L = false) := by unfold Hid; rw [HHH.out, decide_eq_false y0, decide_eq_false yl, decide_eq_false h3]; simp
              clear c23 y0 yl
              go_wp2_with fail
              go_meet
              case rel => exact ⟨by rw [HE.out], rfl⟩
      case rest =>
        obtain ⟨rfl, rfl⟩ := hcut
        clear cl c23 HHH
        cases hv : hyphM L with
        | true =>
          have HE : Hid (faultM L = 5) := by unfold Hid; rw [HF.out, HK0.out, if_neg (by decide), hv, if_pos rfl]
          clear hv
          go_wp2_with fail
          go_ret
          exact ⟨by rw [HE.out]; rfl, HBW.out⟩
        | false =>
          have HF2 : Hid (faultM L = if decide (rC (pk (x0 : Int)) = 4) = true then 6 else if formBad L = true then 7 else if ctxBad L = true then 8 else 0) := by
            unfold Hid
            rw [HF.out, HK0.out, if_neg (by decide), hv, if_neg (by decide), HP0.out]
          clear hv HF HP0
          have hkd := kindQ x0 wc
          generalize rC (pk (x0 : Int)) = K at *
          by_cases hK : K = 4
          · have HE : Hid (faultM L = 6) := by unfold Hid; rw [HF2.out, if_pos (decide_eq_true hK)]
            subst hK
            go_wp2_with fail
            refine hkd.mono ?_
            rintro e w1 ⟨rfl, hb1⟩
            clear hkd
            go_wp2_with fail
            go_ret
            exact ⟨by rw [HE.out]; rfl, Below.andThen HBW.out hb1⟩
          · have HF3 : Hid (faultM L = if formBad L = true then 7 else if ctxBad L = true then 8 else 0) := by unfold Hid; rw [HF2.out, if_neg (by simpa using hK)]
            have hK' : (K == 4) = false := beq_eq_false_iff_ne.2 hK
            clear HF2 hK
            go_wp2_with fail
            refine hkd.mono ?_
            rintro e w1 ⟨rfl, hb1⟩
            clear hkd
            have HB1 : Hid (Below w.heap.size w w1) := Below.andThen HBW.out hb1
            clear hb1 c0
            go_wp2_with fail
            go_loopw [7] (fun pv wr => ∃ k : Nat, k ≤ m ∧ pv = .int .i64 (k : Int) ∧ (∀ j, j < k → badAt L j = false) ∧ Below w.heap.size w wr) (fun pv _ => m - (intOf pv).toNat)
            case atStart => exact ⟨0, by omega, rfl, fun j hj => absurd hj (Nat.not_lt_zero _), HB1.out⟩
            case round =>
              obtain ⟨k2, hk2, rfl, hno, hbw⟩ := hrel
              have HNO : Hid (∀ j, j < k2 → badAt L j = false) := hno
              have HB2 : Hid (Below w.heap.size w wr) := hbw
              clear hno
              by_cases hkn2 : k2 < m
              · have hkn3 : (k2 : Int) + 1 < ((m + 1 : Nat) : Int) := by omega
                have l1 : k2 < L.length := by have := HN.out; omega
                have l2 : k2 + 1 < L.length := by have := HN.out; omega
                have hc1 := HCell.out wr hbw k2 l1
                have hc2 := HCell.out wr hbw (k2 + 1) l2
                have HBA : Hid (badAt L k2 = (Lm.pair L[k2] L[k2 + 1] || (decide (rC (pk ((L[k2] : Nat) : Int)) = 4) && decide (rC (pk ((L[k2 + 1] : Nat) : Int)) = 4) && decide (Lm.height L[k2 + 1] < Lm.height L[k2])))) := badAt_eq L k2 l2
                have sx := (HI.out wr hbw).sgn L[k2] (List.getElem_mem l1)
                have sy := (HI.out wr hbw).sgn L[k2 + 1] (List.getElem_mem l2)
                have HBAD : Hid (badAt L k2 = true → faultM L = 7) := fun h => by rw [HF3.out, formBad_of l2 h, if_pos rfl]
                have HOK : Hid (badAt L k2 = false → ∀ j, j < k2 + 1 → badAt L j = false) := fun h j hj => by
                  rcases Nat.lt_or_ge j k2 with h1 | h1
                  · exact HNO.out j h1
                  · obtain rfl : j = k2 := by omega
                    exact h
                have HC1 : Hid (∀ W, Below w.heap.size w W → W.cell? ⟨g, k2, none⟩ = some (.int .i64 ((L[k2] : Nat) : Int)) ∧ W.cell? ⟨g, k2 + 1, none⟩ = some (.int .i64 ((L[k2 + 1] : Nat) : Int))) := fun W hW => ⟨HCell.out W hW k2 l1, HCell.out W hW (k2 + 1) l2⟩
                clear hbw HNO
                generalize L[k2] = x at *
                generalize L[k2 + 1] = y at *
                clear l1 l2
                have hp := fun W => pairQ x y W
                have hk1 := fun W => kindQ x W
                have hk2b := fun W => kindQ y W
                have HKX : Hid (∀ W, Calls Tryz.prog 70 #[.int .i64 (x : Int)] W fun e w' => e = .returned (.int .i64 (rC (pk (x : Int)))) ∧ Below W.heap.size W w') := hk1
                have HKY : Hid (∀ W, Calls Tryz.prog 70 #[.int .i64 (y : Int)] W fun e w' => e = .returned (.int .i64 (rC (pk (y : Int)))) ∧ Below W.heap.size W w') := hk2b
                have HHX : Hid (∀ W, Calls Tryz.prog 72 #[.int .i64 (x : Int)] W fun e w' => e = .returned (.int .i64 (Lm.height x : Nat)) ∧ ∃ m, w' = W.drewN m) := fun W => heightQ x sx W
                have HHY : Hid (∀ W, Calls Tryz.prog 72 #[.int .i64 (y : Int)] W fun e w' => e = .returned (.int .i64 (Lm.height y : Nat)) ∧ ∃ m, w' = W.drewN m) := fun W => heightQ y sy W
                clear hk1 hk2b
                generalize Lm.pair x y = pv at *
                generalize rC (pk (x : Int)) = KX at *
                generalize rC (pk (y : Int)) = KY at *
                generalize Lm.height x = X at *
                generalize Lm.height y = Y at *
                go_upto_region 16 with fail
                go_quiet (first | (go_at_call 71; refine Calls.quiet_of (hp _)))
                have HBQ : Hid (Below w.heap.size w (wr.drewN nq)) := below_drewN HB2.out nq
                generalize wr.drewN nq = w2 at *
                obtain ⟨d1, d2⟩ := HC1.out w2 HBQ.out
                have k1 := HKX.out w2
                clear hc1 hc2 hp
                go_wp2_with fail
                refine k1.mono ?_
                rintro e w3 ⟨rfl, hb3⟩
                clear k1 d1 d2
                have HB3 : Hid (Below w.heap.size w w3) := Below.andThen HBQ.out hb3
                clear hb3
                obtain ⟨d1, d2⟩ := HC1.out w3 HB3.out
                have k2' := HKY.out w3
                go_wp2_with fail
                refine k2'.mono ?_
                rintro e w4 ⟨rfl, hb4⟩
                clear k2' d1 d2
                have HB4 : Hid (Below w.heap.size w w4) := Below.andThen HB3.out hb4
                clear hb4
                obtain ⟨d1, d2⟩ := HC1.out w4 HB4.out
                have hhx := HHX.out
                have hhy := HHY.out
                cases pv with
                | true =>
                  have HE : Hid (faultM L = 7) := HBAD.out (by rw [HBA.out]; rfl)
                  clear HBA HBAD HOK d1 d2 hhx hhy
                  go_upto_region 19 with fail
                  go_quiet (fail)
                  go_wp2_with fail
                  go_ret
                  exact ⟨by rw [HE.out]; rfl, below_drewN HB4.out nq⟩
                | false =>
                  by_cases z1 : KX = 4
                  · by_cases z2 : KY = 4
                    · by_cases z3 : Y < X
                      · have HE : Hid (faultM L = 7) := HBAD.out (by rw [HBA.out, decide_eq_true z1, decide_eq_true z2, decide_eq_true z3]; rfl)
                        have z3' : (Y : Int) < (X : Int) := by omega
                        clear HBA HBAD HOK
                        subst z1 z2
                        go_upto_region 19 with fail
                        go_quiet (first | (go_at_call_of 72 (Value.int .i64 (x : Int)); refine Calls.quiet_of (hhx _)) | (go_at_call_of 72 (Value.int .i64 (y : Int)); refine Calls.quiet_of (hhy _)))
                        go_wp2_with fail
                        go_ret
                        exact ⟨by rw [HE.out]; rfl, below_drewN HB4.out nq⟩
                      · have HE : Hid (∀ j, j < k2 + 1 → badAt L j = false) := HOK.out (by rw [HBA.out, decide_eq_true z1, decide_eq_true z2, decide_eq_false z3]; rfl)
                        have z3' : decide ((Y : Int) < (X : Int)) = false := decide_eq_false (by omega)
                        clear HBA HBAD HOK
                        subst z1 z2
                        go_upto_region 19 with fail
                        go_quiet (first | (go_at_call_of 72 (Value.int .i64 (x : Int)); refine Calls.quiet_of (hhx _)) | (go_at_call_of 72 (Value.int .i64 (y : Int)); refine Calls.quiet_of (hhy _)))
                        go_wp2_with fail
                        go_roundw
                        case rel => exact ⟨k2 + 1, by omega, by go_num, HE.out, below_drewN HB4.out nq⟩
                        case measure => simp [intOf]; omega
                    · have HE : Hid (∀ j, j < k2 + 1 → badAt L j = false) := HOK.out (by rw [HBA.out, decide_eq_true z1, decide_eq_false z2]; rfl)
                      have z2' : (KY == 4) = false := beq_eq_false_iff_ne.2 z2
                      clear HBA HBAD HOK d1 d2 hhx hhy z2
                      subst z1
                      go_upto_region 19 with fail
                      go_quiet (fail)
                      go_wp2_with fail
                      go_roundw
                      case rel => exact ⟨k2 + 1, by omega, by go_num, HE.out, below_drewN HB4.out nq⟩
                      case measure => simp [intOf]; omega
                  · have HE : Hid (∀ j, j < k2 + 1 → badAt L j = false) := HOK.out (by rw [HBA.out, decide_eq_false z1]; rfl)
                    have z1' : (KX == 4) = false := beq_eq_false_iff_ne.2 z1
                    clear HBA HBAD HOK d1 d2 hhx hhy z1
                    go_upto_region 19 with fail
                    go_quiet (fail)
                    go_wp2_with fail
                    go_roundw
                    case rel => exact ⟨k2 + 1, by omega, by go_num, HE.out, below_drewN HB4.out nq⟩
                    case measure => simp [intOf]; omega
              · have hkn3 : ¬ (k2 : Int) + 1 < ((m + 1 : Nat) : Int) := by omega
                have HF4 : Hid (faultM L = if ctxBad L = true then 8 else 0) := by
                  unfold Hid
                  rw [HF3.out, formBad_none (fun j hj => HNO.out j (by have := HN.out; omega)), if_neg (by decide)]
                clear HF3 HNO hbw
                go_wp2_with fail
                go_loopw [11] (fun pv wr => ∃ k : Nat, k ≤ m + 1 ∧ pv = .int .i64 (k : Int) ∧ (∀ j (hj : j < L.length), j < k → ctxM L (kataM L) (mixedM L) L[j] j = true) ∧ Below w.heap.size w wr) (fun pv _ => m + 1 - (intOf pv).toNat)
                case atStart => exact ⟨0, by omega, rfl, fun j _ hj => absurd hj (Nat.not_lt_zero _), HB2.out⟩
                case round =>
                  obtain ⟨k3, hk3, rfl, hno, hbw⟩ := hrel
                  have HNO : Hid (∀ j (hj : j < L.length), j < k3 → ctxM L (kataM L) (mixedM L) L[j] j = true) := hno
                  have HB5 : Hid (Below w.heap.size w wr) := hbw
                  clear hno
                  by_cases hkn4 : k3 < m + 1
                  · have hkn5 : (k3 : Int) < ((m + 1 : Nat) : Int) := by omega
                    have l1 : k3 < L.length := by have := HN.out; omega
                    have hc1 := HCell.out wr hbw k3 l1
                    have hk1 := kindQ L[k3] wr
                    have HCX : Hid (rC (pk ((L[k3] : Nat) : Int)) = 5 → ∀ W, Below w.heap.size w W → Calls Tryz.prog 73 #[.slice (some ⟨g, 0, none⟩) (m + 1) c, .int .i64 (k3 : Int)] W fun e w' => e = .returned (.bool (ctxM L (kataM L) (mixedM L) L[k3] k3)) ∧ Below W.heap.size W w') := fun h5 W hW => by
                      have := context_any (HI.out W hW) c k3 l1 h5
                      rw [HN.out] at this
                      exact this
                    have HNC : Hid (rC (pk ((L[k3] : Nat) : Int)) ≠ 5 → ctxM L (kataM L) (mixedM L) L[k3] k3 = true) := fun h => ctx_common L _ _ _ _ h
                    have HBAD : Hid (ctxM L (kataM L) (mixedM L) L[k3] k3 = false → faultM L = 8) := fun h => by rw [HF4.out, ctxBad_of l1 h, if_pos rfl]
                    have HOK : Hid (ctxM L (kataM L) (mixedM L) L[k3] k3 = true → ∀ j (hj : j < L.length), j < k3 + 1 → ctxM L (kataM L) (mixedM L) L[j] j = true) := fun h j hj hjk => by
                      rcases Nat.lt_or_ge j k3 with h1 | h1
                      · exact HNO.out j hj h1
                      · obtain rfl : j = k3 := by omega
                        exact h
                    clear hbw HNO
                    generalize ctxM L (kataM L) (mixedM L) L[k3] k3 = V at *
                    generalize L[k3] = x at *
                    clear l1
                    generalize rC (pk (x : Int)) = K5 at *
                    by_cases z5 : K5 = 5
                    · have cx := HCX.out z5
                      have HCX2 : Hid (∀ W, Below w.heap.size w W → Calls Tryz.prog 73 #[.slice (some ⟨g, 0, none⟩) (m + 1) c, .int .i64 (k3 : Int)] W fun e w' => e = .returned (.bool V) ∧ Below W.heap.size W w') := cx
                      clear cx HCX HNC
                      subst z5
                      go_wp2_with fail
                      refine hk1.mono ?_
                      rintro e w6 ⟨rfl, hb6⟩
                      clear hk1
                      have HB6 : Hid (Below w.heap.size w w6) := Below.andThen HB5.out hb6
                      clear hb6
                      have cx := HCX2.out w6 HB6.out
                      go_wp2_with fail
                      refine cx.mono ?_
                      rintro e w7 ⟨rfl, hb7⟩
                      clear cx
                      cases V with
                      | true =>
                        have HE : Hid (∀ j (hj : j < L.length), j < k3 + 1 → ctxM L (kataM L) (mixedM L) L[j] j = true) := HOK.out rfl
                        clear HOK HBAD
                        go_wp2_with fail
                        go_roundw
                        case rel => exact ⟨k3 + 1, by omega, by go_num, HE.out, Below.andThen HB6.out hb7⟩
                        case measure => simp [intOf]; omega
                      | false =>
                        have HE : Hid (faultM L = 8) := HBAD.out rfl
                        clear HOK HBAD
                        go_wp2_with fail
                        go_ret
                        exact ⟨by rw [HE.out]; rfl, Below.andThen HB6.out hb7⟩
                    · have hV := HNC.out z5
                      have HE : Hid (∀ j (hj : j < L.length), j < k3 + 1 → ctxM L (kataM L) (mixedM L) L[j] j = true) := HOK.out hV
                      have z5' : (K5 == 5) = false := beq_eq_false_iff_ne.2 z5
                      clear hV HOK HBAD HNC HCX z5
                      go_wp2_with fail
                      refine hk1.mono ?_
                      rintro e w6 ⟨rfl, hb6⟩
                      clear hk1
                      go_wp2_with fail
                      go_roundw
                      case rel => exact ⟨k3 + 1, by omega, by go_num, HE.out, Below.andThen HB5.out hb6⟩
                      case measure => simp [intOf]; omega
                  · have hkn5 : ¬ (k3 : Int) < ((m + 1 : Nat) : Int) := by omega
                    have HE : Hid (faultM L = 0) := by
                      unfold Hid
                      rw [HF4.out, ctxBad_none (fun j hj => HNO.out j hj (by have := HN.out; omega)), if_neg (by decide)]
                    clear HF4 HNO hbw
                    go_wp2_with fail
                    go_ret
                    exact ⟨by rw [HE.out]; rfl, HB5.out⟩
end Go.Proofs.YtkaaldhejpaiiaaGreatDoor

