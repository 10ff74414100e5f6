import Derived.Test.YtkaaldhejpaiiaaGreatDoorMf
import Derived.Test.YtkaaldhejpaiiaaGreatDoorWt
import Derived.Test.YtkaaldhejpaiiaaGreatDoorBu19
import Derived.Test.YtkaaldhejpaiiaaGreatDoorWd
import Derived.Deep.CutBlock
import Derived.Deep.CutRange
/- The document's label. -/
namespace Go.Proofs.YtkaaldhejpaiiaaGreatDoor
open Go.RowKit

theorem signs_form {w : World} {B n : Nat} {v : Value} {xs : List Value} (h : w.ownsRow B 3 1 v n xs) : ∃ a c, v = .slice a n c := by
  rcases h.2 with ⟨rfl, rfl⟩ | ⟨g, cap, cur, rfl, _⟩
  · exact ⟨none, 0, rfl⟩
  · exact ⟨_, _, rfl⟩
theorem all_okB {L : List Nat} (hL : L.length ≤ 1100000) : ∀ (ys : List Nat) (x : Es), Come L ys → EsOkB x → (∀ y ∈ ys, x.n ≤ y ∧ (x.n = y → x.i = 0)) → x.i ≤ x.len → x.len = (L.filter (fun h => decide (h ∉ ys))).length →
    EsOkB (eachAll L ys x) ∧ (eachAll L ys x).len ≤ 1100000
  | [], x, _, ho, _, _, hl => by
    have e : L.filter (fun h => decide (h ∉ ([] : List Nat))) = L := by simp
    rw [e] at hl
    exact ⟨ho, by show x.len ≤ _; omega⟩
  | y :: r, x, hc, ho, hn, hi, hl => by
    obtain ⟨hup, hsg, hlow⟩ := hc
    obtain ⟨hyr, hr⟩ := List.pairwise_cons.1 hup
    have hs := hsg y (by simp)
    have hy : y ≤ 1114111 := by unfold Pm.sign at hs; simp at hs; omega
    have e1 : L.filter (fun h => decide (h ∉ y :: r)) = sub L y 0 := by
      rw [sub_zero]
      apply List.filter_congr
      intro h hh
      congr 1
      apply propext
      constructor
      · intro hm; exact hlow h hh hm y (by simp)
      · intro hlt hm
        rcases List.mem_cons.1 hm with rfl | hm
        · omega
        · have := hyr h hm; omega
    have e2 : sub L y L.length = L.filter (fun h => decide (h ∉ r)) := by
      rw [sub_all]
      apply List.filter_congr
      intro h hh
      congr 1
      apply propext
      constructor
      · intro hle hm; have := hyr h hm; omega
      · intro hm
        by_cases he : h = y
        · omega
        · exact Nat.le_of_lt (hlow h hh (by simp [he, hm]) y (by simp))
    have hc2 : Come L r := ⟨hr, fun z hz => hsg z (by simp [hz]), fun h hh hm z hz => by
      have hyz := hyr z hz
      by_cases he : h = y
      · omega
      · have := hlow h hh (by simp [he, hm]) y (by simp); omega⟩
    have hrel : EsRel L y 0 x := ⟨(hn y (by simp)).1, fun e => by rw [cnt_zero, (hn y (by simp)).2 e]; exact Nat.le_refl _, hi, by rw [← e1]; exact hl⟩
    obtain ⟨k2, k3⟩ := each_relB hs hL hy L 0 x (by simp) (Nat.zero_le _) hrel ho
    rw [cnt_zero] at k2 k3
    exact all_okB hL r (each y L 0 x) hc2 k3 (fun z hz => by have h1 := hyr z hz; have h2 := k2.n; exact ⟨by omega, fun e => by omega⟩) k2.i (by rw [k2.len, e2])
theorem enc_len {M : List Nat} (hs : signsL M) (hl : M.length ≤ 1100000) : (⟨(encS M (ysOf M)).toArray⟩ : ByteArray).size ≤ 60000000 := by
  have h := ysOf_ys M
  have hal := ascF_len M
  have hform : (firstEs M).form.length ≤ 1100001 := by unfold firstEs; simp only; split <;> simp; omega
  have k := all_okB (L := M) hl (ysOf M) (firstEs M) (ys_come h hs) ⟨Nat.le_refl _, by simp [firstEs], by omega⟩ (fun y hy => ⟨((h.all y).1 hy).2, fun _ => rfl⟩) (Nat.zero_le _) (by rw [ys_filter h]; exact ascF_len_eq M)
  have hk := k.1.form
  have hk2 := k.2
  rw [size_list]
  show (encS M (ysOf M)).length ≤ _
  unfold encS
  omega
set_option maxRecDepth 100000 in
set_option maxHeartbeats 16000000 in
theorem label_doc (s : ByteArray) (w : World) (hs : s.size ≤ 1048576) : Calls Tryz.prog 25 #[.string s] w (DocL s w) := by
  have hsg := Signs_any s w (by omega)
  go_enter Tryz.func25, Tryz.ntmps25
  go_wp2_with fail
  refine hsg.mono ?_
  rintro e w1 ⟨hcase, hb1⟩
  clear hsg
  have HB1 : Hid (Below w.heap.size w w1) := hb1
  clear hb1
  rcases hcase with ⟨hv, v, rfl, ho⟩ | ⟨hv, rfl⟩
  · have hL := (valid_text hv).1
    have hrl := runes_len s
    by_cases h0 : runes s = []
    · have HE : Hid ((labelM s).1 = 2) := label_err (plain_nil hv h0) (by decide)
      obtain ⟨a, c, rfl⟩ := signs_form ho
      rw [h0]
      clear ho hL hrl
      go_wp2_with fail
      go_ret3
      exact doc_err HE.out (by decide) HB1.out
    · have hlen : (runes s).length ≤ 1100000 := by omega
      obtain ⟨n, hn⟩ : ∃ n, (runes s).length = n := ⟨_, rfl⟩
      obtain ⟨g, c, rfl, hnc, hR⟩ := row_of ho h0 hL hlen hn
      have hpos := List.length_pos_iff.2 h0
      have HR : Hid (RowI w1 w.heap.size g (runes s)) := hR
      have HPH : Hid (allLow (runes s) = false → plainM s = (0, runes s)) := fun h => plain_high hv h0 h
      have HPL : Hid (allLow (runes s) = true → plainM s = if Lib.hasPrefix (textOf ((runes s).map lowN)).data.toList xn = true then decM ⟨((textOf ((runes s).map lowN)).data.toList.drop 4).toArray⟩ else (0, (runes s).map lowN)) := fun h => plain_lower hv h0 h
      have HNE : Hid (runes s ≠ []) := h0
      have hcell := fun i hi => hR.cell i hi
      have HCell : Hid (∀ i (hi : i < (runes s).length), w1.cell? ⟨g, i, none⟩ = some (.int .i64 (((runes s)[i] : Nat) : Int))) := hcell
      clear ho hL hrl hv h0 hR hcell hlen
      generalize runes s = L at *
      have HN : Hid (L.length = n) := hn
      have hn1 : 1 ≤ n := by omega
      have hn2 : n ≤ 1100000 := by have := HR.out.len; omega
      clear hn hpos
      have hnz : ((n : Int) == 0) = false := beq_eq_false_iff_ne.2 (by omega)
      go_wp2_with fail
      go_loop [7, 8] (fun pv iv8 => ∃ k : Nat, k ≤ n ∧ iv8 = .int .i64 k ∧ pv = .bool (allLow (L.take k))) (fun _ iv8 => n - (intOf iv8).toNat)
      case atStart => exact ⟨0, by omega, rfl, rfl⟩
      case round =>
        obtain ⟨k, hk, rfl, rfl⟩ := hrel
        by_cases hkn : k < n
        · have hkn' : (k : Int) < (n : Int) := by omega
          have lk : k < L.length := by have := HN.out; omega
          have hc := HCell.out k lk
          have HT : Hid (allLow (L.take (k + 1)) = (allLow (L.take k) && decide (L[k] < 128))) := allLow_take L k lk
          generalize L[k] = x at *
          clear lk
          generalize allLow (L.take k) = b at *
          cases b with
          | true =>
            by_cases hx : x < 128
            · have hx' : (x : Int) < 128 := by omega
              have HT2 : Hid (allLow (L.take (k + 1)) = true) := by unfold Hid; rw [HT.out, decide_eq_true hx]; rfl
              go_wp2_with fail
              go_round
              case rel => exact ⟨k + 1, by omega, by go_num, by rw [HT2.out]⟩
              case measure => simp [intOf]; omega
            · have hx' : ¬ (x : Int) < 128 := by omega
              have HT2 : Hid (allLow (L.take (k + 1)) = false) := by unfold Hid; rw [HT.out, decide_eq_false hx]; rfl
              go_wp2_with fail
              go_round
              case rel => exact ⟨k + 1, by omega, by go_num, by rw [HT2.out]⟩
              case measure => simp [intOf]; omega
          | false =>
            have HT2 : Hid (allLow (L.take (k + 1)) = false) := by unfold Hid; rw [HT.out]; rfl
            go_wp2_with fail
            go_round
            case rel => exact ⟨k + 1, by omega, by go_num, by rw [HT2.out]⟩
            case measure => simp [intOf]; omega
        · obtain rfl : k = n := by omega
          have hkn' : ¬ (k : Int) < (k : Int) := by omega
          rw [List.take_of_length_le (by rw [HN.out]; exact Nat.le_refl _)]
          clear hkn
          obtain ⟨b, hal⟩ : ∃ b, allLow L = b := ⟨_, rfl⟩
          have HALB : Hid (allLow L = b) := hal
          rw [hal]
          clear hal
          go_upto_if 41 with fail
          go_cut [5, 7] from 42 to 104 (fun lv pv wc => ∃ (G C : Nat) (M : List Nat), lv = .slice (some ⟨G, 0, none⟩) M.length C ∧ pv = .bool (allLow M) ∧ M ≠ [] ∧ RowI wc w.heap.size G M ∧ plainM s = (0, M) ∧ Below w.heap.size w wc)
          case first =>
            cases b with
            | false =>
              have HP : Hid (plainM s = (0, L)) := HPH.out HALB.out
              have HAL : Hid (allLow L = false) := HALB.out
              clear HPL HPH
              go_wp2_with fail
              go_meet
              case rel => exact ⟨g, c, L, by rw [HN.out], by rw [HAL.out], HNE.out, HR.out, HP.out, HB1.out⟩
            | true =>
              have HPT := HPL.out HALB.out
              have HAL : Hid (allLow L = true) := HALB.out
              have HPL2 : Hid (plainM s = if Lib.hasPrefix (textOf (L.map lowN)).data.toList xn = true then decM ⟨((textOf (L.map lowN)).data.toList.drop 4).toArray⟩ else (0, L.map lowN)) := HPT
              clear HPT HPL HPH HALB
              go_wp2_with fail
              go_loopw [9] (fun iv9 wr => ∃ j : Nat, j ≤ k ∧ iv9 = .int .i64 j ∧ RowI wr w.heap.size g (lowTo L j) ∧ Below w.heap.size w wr) (fun iv9 _ => k - (intOf iv9).toNat)
              case atStart => exact ⟨0, by omega, rfl, by rw [lowTo_zero]; exact HR.out, HB1.out⟩
              case round =>
                obtain ⟨j, hj, rfl, hrj, hbj⟩ := hrel
                have HRJ : Hid (RowI wr w.heap.size g (lowTo L j)) := hrj
                have HBJ : Hid (Below w.heap.size w wr) := hbj
                clear hrj hbj
                by_cases hjk : j < k
                · have hjk' : (j : Int) < (k : Int) := by omega
                  have lj : j < L.length := by have := HN.out; omega
                  have hlj : j < (lowTo L j).length := by rw [lowTo_len]; exact lj
                  have hc := HRJ.out.cell j hlj
                  have e1 : (lowTo L j)[j] = L[j] := by
                    have := lowTo_at L j lj
                    rw [List.getElem?_eq_getElem hlj] at this
                    exact Option.some.inj this
                  rw [e1] at hc
                  have hfz := HRJ.out.froz j
                  have HSU : Hid (65 ≤ L[j] ∧ L[j] ≤ 90 → lowTo L (j + 1) = (lowTo L j).set j (L[j] + 32)) := fun h => by
                    rw [lowTo_succ L j lj]
                    unfold lowN
                    rw [if_pos h]
                  have HSA : Hid (¬ (65 ≤ L[j] ∧ L[j] ≤ 90) → lowTo L (j + 1) = lowTo L j) := fun h => lowTo_same L j lj h
                  clear e1 hlj
                  generalize L[j] = x at *
                  clear lj
                  by_cases x1 : 65 ≤ x
                  · have x1' : (65 : Int) ≤ (x : Int) := by omega
                    by_cases x2 : x ≤ 90
                    · have x2' : (x : Int) ≤ 90 := by omega
                      have e2 := HSU.out ⟨x1, x2⟩
                      have HR2 : Hid (RowI (wr.setCell ⟨g, j, none⟩ (.int .i64 ((x : Int) + 32))) w.heap.size g (lowTo L (j + 1))) := by
                        unfold Hid
                        rw [e2]
                        have := HRJ.out.set j (x + 32) (sign_low (by omega))
                        exact this
                      have HB2 : Hid (Below w.heap.size w (wr.setCell ⟨g, j, none⟩ (.int .i64 ((x : Int) + 32)))) := HBJ.out.trans (below_set j HRJ.out.own HRJ.out.lt)
                      clear e2
                      go_wp2_with fail
                      go_roundw
                      case rel => exact ⟨j + 1, by omega, by go_num, HR2.out, HB2.out⟩
                      case measure => simp [intOf]; omega
                    · have x2' : ¬ (x : Int) ≤ 90 := by omega
                      have e2 := HSA.out (by omega)
                      have HE2 : Hid (lowTo L (j + 1) = lowTo L j) := e2
                      clear e2
                      go_wp2_with fail
                      go_roundw
                      case rel => exact ⟨j + 1, by omega, by go_num, by rw [HE2.out]; exact HRJ.out, HBJ.out⟩
                      case measure => simp [intOf]; omega
                  · have x1' : ¬ (65 : Int) ≤ (x : Int) := by omega
                    have e2 := HSA.out (by omega)
                    have HE2 : Hid (lowTo L (j + 1) = lowTo L j) := e2
                    clear e2
                    go_wp2_with fail
                    go_roundw
                    case rel => exact ⟨j + 1, by omega, by go_num, by rw [HE2.out]; exact HRJ.out, HBJ.out⟩
                    case measure => simp [intOf]; omega
                · obtain rfl : j = k := by omega
                  have hjk' : ¬ (j : Int) < (j : Int) := by omega
                  have hrl := HRJ.out
                  rw [lowTo_all L j (by rw [HN.out]; exact Nat.le_refl _)] at hrl
                  have HRL : Hid (RowI wr w.heap.size g (L.map lowN)) := hrl
                  have hte := textB (some ⟨g, 0, none⟩) c (L.map lowN) wr hrl.len hrl.sgn (fun i hi => ⟨g, rfl, hrl.lt, hrl.cell i hi⟩)
                  have hlm : (L.map lowN).length = j := by rw [List.length_map, HN.out]
                  rw [hlm] at hte
                  have hTz : (textOf (L.map lowN)).size ≤ 4400000 := by have := textOf_len (L.map lowN); rw [hlm] at this; omega
                  have HLM : Hid ((L.map lowN).length = j) := hlm
                  have HALM : Hid (allLow (L.map lowN) = true) := allLow_low HAL.out
                  have HMNE : Hid (L.map lowN ≠ []) := by unfold Hid; have := HNE.out; simpa using this
                  clear hrl hlm hjk HRJ HAL HNE
                  rw [show runesBytes (lI (L.map lowN)) = textOf (L.map lowN) from rfl] at hte
                  generalize L.map lowN = M at *
                  generalize textOf M = T at *
                  have HPRE : Hid (Lib.hasPrefix T.data.toList xn = decide (T.data.toList.take 4 = xn)) := prefix_take T.data.toList
                  have hx4 := bytes_beq (T.extract 0 4) [120, 110, 45, 45]
                  rw [Lib.extract_from_zero] at hx4
                  have hdr : T.extract 4 T.size = ⟨(T.data.toList.drop 4).toArray⟩ := by
                    apply bytes_ext
                    rw [Lib.extract_to_end]
                  have hT4 : decide (T.data.toList.take 4 = xn) = true → 4 ≤ T.size := fun h => by
                    have h1 := congrArg List.length (of_decide_eq_true h)
                    rw [List.length_take, ← size_list] at h1
                    have h2 : xn.length = 4 := rfl
                    omega
                  rw [show ([120, 110, 45, 45] : List UInt8) = xn from rfl] at hx4
                  cases hpv : decide (T.data.toList.take 4 = xn) with
                  | false =>
                    rw [hpv] at hx4
                    have HP : Hid (plainM s = (0, M)) := by unfold Hid; rw [HPL2.out, HPRE.out, hpv, if_neg (by decide)]
                    clear hpv HPRE HPL2 hdr hT4
                    unfold xn at hx4
                    by_cases hz4 : (4 : Int) ≤ (T.size : Int)
                    · go_wp2_with fail
                      refine hte.mono ?_
                      rintro e w2 ⟨rfl, hb2⟩
                      clear hte
                      go_wp2_with fail
                      go_meet
                      case rel => exact ⟨g, c, M, by rw [HLM.out], by rw [HALM.out], HMNE.out, HRL.out.keep hb2, HP.out, Below.andThen HBJ.out hb2⟩
                    · go_wp2_with fail
                      refine hte.mono ?_
                      rintro e w2 ⟨rfl, hb2⟩
                      clear hte
                      go_wp2_with fail
                      go_meet
                      case rel => exact ⟨g, c, M, by rw [HLM.out], by rw [HALM.out], HMNE.out, HRL.out.keep hb2, HP.out, Below.andThen HBJ.out hb2⟩
                  | true =>
                    rw [hpv] at hx4
                    have hz4 : (4 : Int) ≤ (T.size : Int) := by have := hT4 hpv; omega
                    have HP0 : Hid (plainM s = decM (T.extract 4 T.size)) := by unfold Hid; rw [HPL2.out, HPRE.out, hpv, if_pos rfl, hdr]
                    have hez : (T.extract 4 T.size).size ≤ 9223372036854775807 := by rw [ByteArray.size_extract]; omega
                    have HDC : Hid (∀ W, Calls Tryz.prog 41 #[.string (T.extract 4 T.size)] W fun e w' => RefDec (decodeS (T.extract 4 T.size)) W.heap.size e w' ∧ Below W.heap.size W w') := fun W => refDec_all _ W hez
                    clear hpv HPRE HPL2 hdr hT4 hez
                    unfold xn at hx4
                    go_wp2_with fail
                    refine hte.mono ?_
                    rintro e w2 ⟨rfl, hb2⟩
                    clear hte HRL HLM HALM HMNE
                    have HB2 : Hid (Below w.heap.size w w2) := Below.andThen HBJ.out hb2
                    clear hb2
                    have hdc := HDC.out w2
                    clear HDC
                    go_wp2_with fail
                    generalize T.extract 4 T.size = X at *
                    refine hdc.mono ?_
                    rintro e w3 ⟨hrd, hb3⟩
                    clear hdc
                    have HB3 : Hid (Below w.heap.size w w3) := Below.andThen HB2.out hb3
                    have hs23 := HB2.out.size
                    clear hb3
                    unfold decM at HP0
                    generalize decodeS X = ANS at *
                    cases ANS with
                    | none =>
                      have HE : Hid ((labelM s).1 = 3) := label_err HP0.out (by decide)
                      have hrd2 : e = .returned (.tuple #[.slice none 0 0, .bool false]) := hrd
                      subst hrd2
                      clear hrd HP0
                      go_wp2_with fail
                      go_loop [13, 14] (fun mv iv14 => mv = .bool false ∧ iv14 = .int .i64 0) (fun _ _ => 0)
                      case atStart => exact ⟨rfl, rfl⟩
                      case round =>
                        obtain ⟨rfl, rfl⟩ := hrel
                        go_wp2_with fail
                        go_ret3
                        exact doc_err HE.out (by decide) HB3.out
                    | some D =>
                      obtain ⟨v, he, hoD, hsD, hlD⟩ := hrd
                      subst he
                      by_cases hD0 : D = []
                      · have HE : Hid ((labelM s).1 = 3) := by
                          have h1 := HP0.out
                          simp only at h1
                          rw [hD0] at h1
                          exact label_err h1 (by decide)
                        obtain ⟨a2, c2, rfl⟩ := signs_form hoD
                        rw [hD0]
                        clear hoD hsD hlD HP0 hD0
                        go_wp2_with fail
                        go_loop [13, 14] (fun mv iv14 => mv = .bool false ∧ iv14 = .int .i64 0) (fun _ _ => 0)
                        case atStart => exact ⟨rfl, rfl⟩
                        case round =>
                          obtain ⟨rfl, rfl⟩ := hrel
                          go_wp2_with fail
                          go_ret3
                          exact doc_err HE.out (by decide) HB3.out
                      · obtain ⟨m, hm⟩ : ∃ m, D.length = m := ⟨_, rfl⟩
                        obtain ⟨g2, c2, rfl, hmc, hR2⟩ := row_of (owns_mono hoD hs23) hD0 hsD (by omega) hm
                        have HRD : Hid (RowI w3 w.heap.size g2 D) := hR2
                        have HDM : Hid (D.length = m) := hm
                        have HD0 : Hid (D ≠ []) := hD0
                        have HCD : Hid (∀ i (hi : i < D.length), w3.cell? ⟨g2, i, none⟩ = some (.int .i64 ((D[i] : Nat) : Int))) := fun i hi => hR2.cell i hi
                        have hm2 : m ≤ 1100000 := by have := hR2.len; omega
                        have HPD : Hid ((allLow D = true → (labelM s).1 = 3) ∧ (allLow D = false → plainM s = (0, D))) := by
                          have h1 := HP0.out
                          simp only at h1
                          refine ⟨fun h => ?_, fun h => ?_⟩
                          · rw [h, if_pos rfl] at h1
                            exact label_err h1 (by decide)
                          · rw [h, if_neg (by decide)] at h1
                            exact h1
                        clear hoD hsD hlD hD0 hR2 hm HP0
                        go_wp2_with fail
                        go_loop [13, 14] (fun mv iv14 => ∃ q : Nat, q ≤ m ∧ iv14 = .int .i64 q ∧ mv = .bool (!allLow (D.take q))) (fun _ iv14 => m - (intOf iv14).toNat)
                        case atStart => exact ⟨0, by omega, rfl, rfl⟩
                        case round =>
                          obtain ⟨q, hq, rfl, rfl⟩ := hrel
                          by_cases hqm : q < m
                          · have hqm' : (q : Int) < (m : Int) := by omega
                            have lq : q < D.length := by have := HDM.out; omega
                            have hc := HCD.out q lq
                            have HT : Hid (allLow (D.take (q + 1)) = (allLow (D.take q) && decide (D[q] < 128))) := allLow_take D q lq
                            generalize D[q] = y at *
                            clear lq
                            generalize allLow (D.take q) = b2 at *
                            cases b2 with
                            | true =>
                              by_cases hy : y < 128
                              · have hy' : ¬ (128 : Int) ≤ (y : Int) := by omega
                                have HT2 : Hid (allLow (D.take (q + 1)) = true) := by unfold Hid; rw [HT.out, decide_eq_true hy]; rfl
                                go_wp2_with fail
                                go_round
                                case rel => exact ⟨q + 1, by omega, by go_num, by rw [HT2.out]; rfl⟩
                                case measure => simp [intOf]; omega
                              · have hy' : (128 : Int) ≤ (y : Int) := by omega
                                have HT2 : Hid (allLow (D.take (q + 1)) = false) := by unfold Hid; rw [HT.out, decide_eq_false hy]; rfl
                                go_wp2_with fail
                                go_round
                                case rel => exact ⟨q + 1, by omega, by go_num, by rw [HT2.out]; rfl⟩
                                case measure => simp [intOf]; omega
                            | false =>
                              have HT2 : Hid (allLow (D.take (q + 1)) = false) := by unfold Hid; rw [HT.out]; rfl
                              go_wp2_with fail
                              go_round
                              case rel => exact ⟨q + 1, by omega, by go_num, by rw [HT2.out]; rfl⟩
                              case measure => simp [intOf]; omega
                          · obtain rfl : q = m := by omega
                            have hqm' : ¬ (q : Int) < (q : Int) := by omega
                            rw [List.take_of_length_le (by rw [HDM.out]; exact Nat.le_refl _)]
                            obtain ⟨b3, hb3⟩ : ∃ b3, allLow D = b3 := ⟨_, rfl⟩
                            have HB3D : Hid (allLow D = b3) := hb3
                            rw [hb3]
                            clear hb3 hqm
                            cases b3 with
                            | true =>
                              have HE : Hid ((labelM s).1 = 3) := HPD.out.1 HB3D.out
                              clear HPD
                              go_wp2_with fail
                              go_ret3
                              exact doc_err HE.out (by decide) HB3.out
                            | false =>
                              have HP : Hid (plainM s = (0, D)) := HPD.out.2 HB3D.out
                              clear HPD
                              go_wp2_with fail
                              go_meet
                              case rel => exact ⟨g2, c2, D, by rw [HDM.out], by rw [HB3D.out], HD0.out, HRD.out, HP.out, HB3.out⟩
          case rest =>
            obtain ⟨G, CC, M, rfl, rfl, hMne, hRM, hPM, hBM⟩ := hcut
            have hMl := hRM.len
            have hMs := hRM.sgn
            have HRM : Hid (RowI wc w.heap.size G M) := hRM
            have HBM : Hid (Below w.heap.size w wc) := hBM
            obtain ⟨m, hm⟩ : ∃ m, M.length = m := ⟨_, rfl⟩
            have HMM : Hid (M.length = m) := hm
            have hlp := labelM_of_plain hPM
            have HRU : Hid (∀ W, RowI W w.heap.size G M → Calls Tryz.prog 42 #[.slice (some ⟨G, 0, none⟩) m CC] W fun e w' => e = .returned (.int .i64 (faultM M : Nat)) ∧ Below W.heap.size W w') := fun W hW => by
              have := rules_any hW.ints CC hMne (by omega)
              rw [hm] at this
              exact this
            have HTE : Hid (∀ W, RowI W w.heap.size G M → Calls Tryz.prog 26 #[.slice (some ⟨G, 0, none⟩) m CC] W fun e w' => e = .returned (.string (textOf M)) ∧ Below W.heap.size W w') := fun W hW => by
              have := textB (some ⟨G, 0, none⟩) CC M W hMl hMs (fun i hi => ⟨G, rfl, hW.lt, hW.cell i hi⟩)
              rw [hm] at this
              exact this
            have HEN : Hid (∀ W, RowI W w.heap.size G M → Calls Tryz.prog 43 #[.slice (some ⟨G, 0, none⟩) m CC] W fun e w' => e = .returned (.string ⟨(encS M (ysOf M)).toArray⟩) ∧ Below W.heap.size W w') := fun W hW => by
              have := refEncodeB G CC M (ysOf M) W hMl hMs (ysOf_ys M) hW.lt (fun i hi => hW.cell i hi)
              rw [hm] at this
              exact this
            have HLF : Hid (faultM M ≠ 0 → (labelM s).1 = faultM M) := fun h => by rw [hlp, if_pos h]
            have HL9 : Hid (faultM M = 0 → 63 < (formB M).size → (labelM s).1 = 9) := fun h0 h => by rw [hlp, if_neg (by simpa using h0), if_pos h]
            have HL0 : Hid (faultM M = 0 → ¬ 63 < (formB M).size → labelM s = (0, M, formB M)) := fun h0 h => by rw [hlp, if_neg (by simpa using h0), if_neg h]
            have HFT : Hid (allLow M = true → formB M = textOf M) := fun h => by unfold formB; rw [if_pos h]
            have HFE : Hid (allLow M = false → formB M = ⟨#[120, 110, 45, 45]⟩ ++ ⟨(encS M (ysOf M)).toArray⟩) := fun h => by
              unfold formB
              rw [h, if_neg (by decide), xn_append]
            have hez : (⟨(encS M (ysOf M)).toArray⟩ : ByteArray).size ≤ 60000000 := enc_len hMs hMl
            rw [hm]
            clear hRM hBM hlp hPM hMne hMl hMs hm HR HB1 HNE HPH HPL HALB HCell HN
            obtain ⟨b4, hb4⟩ : ∃ b4, allLow M = b4 := ⟨_, rfl⟩
            have HB4 : Hid (allLow M = b4) := hb4
            rw [hb4]
            clear hb4
            have cru := HRU.out wc HRM.out
            generalize faultM M = F at *
            go_wp2_with fail
            refine cru.mono ?_
            rintro e w5 ⟨rfl, hb5⟩
            clear cru HRU
            have HB5 : Hid (Below w.heap.size w w5) := Below.andThen HBM.out hb5
            have HR5 : Hid (RowI w5 w.heap.size G M) := HRM.out.keep hb5
            clear hb5 HBM HRM
            by_cases hf : F = 0
            · have HL9' := HL9.out hf
              have HL0' := HL0.out hf
              have K9 : Hid (63 < (formB M).size → (labelM s).1 = 9) := HL9'
              have K0 : Hid (¬ 63 < (formB M).size → labelM s = (0, M, formB M)) := HL0'
              clear HL9 HL0 HLF HL9' HL0'
              subst hf
              have cte := HTE.out w5 HR5.out
              go_wp2_with fail
              refine cte.mono ?_
              rintro e w6 ⟨rfl, hb6⟩
              clear cte HTE
              have HB6 : Hid (Below w.heap.size w w6) := Below.andThen HB5.out hb6
              have HR6 : Hid (RowI w6 w.heap.size G M) := HR5.out.keep hb6
              clear hb6 HB5 HR5
              cases b4 with
              | true =>
                have hft := HFT.out HB4.out
                rw [hft] at K9 K0
                clear hft HFT HFE HEN HB4 hez
                generalize textOf M = FB at *
                by_cases hbig : 63 < FB.size
                · have hb2 : (63 : Int) < (FB.size : Int) := by omega
                  have HE : Hid ((labelM s).1 = 9) := K9.out hbig
                  clear hbig K9 K0
                  go_wp2_with fail
                  go_ret3
                  exact doc_err HE.out (by decide) HB6.out
                · have hb2 : ¬ (63 : Int) < (FB.size : Int) := by omega
                  have HE : Hid (labelM s = (0, M, FB)) := K0.out hbig
                  clear hbig K9 K0
                  go_wp2_with fail
                  go_ret3
                  exact doc_good HE.out HMM.out HR6.out HB6.out
              | false =>
                have hfe := HFE.out HB4.out
                rw [hfe] at K9 K0
                have cen := HEN.out w6 HR6.out
                clear hfe HFT HFE HEN HB4
                generalize (⟨(encS M (ysOf M)).toArray⟩ : ByteArray) = EN at *
                have hsz : ((⟨#[120, 110, 45, 45]⟩ : ByteArray) ++ EN).size = 4 + EN.size := by rw [ByteArray.size_append]; rfl
                have HSZ : Hid (((⟨#[120, 110, 45, 45]⟩ : ByteArray) ++ EN).size = 4 + EN.size) := hsz
                go_wp2_with fail
                refine cen.mono ?_
                rintro e w7 ⟨rfl, hb7⟩
                clear cen
                have HB7 : Hid (Below w.heap.size w w7) := Below.andThen HB6.out hb7
                have HR7 : Hid (RowI w7 w.heap.size G M) := HR6.out.keep hb7
                clear hb7 HB6 HR6
                by_cases hbig : 63 < ((⟨#[120, 110, 45, 45]⟩ : ByteArray) ++ EN).size
                · have hb2 : (63 : Int) < 4 + (EN.size : Int) := by omega
                  have HE : Hid ((labelM s).1 = 9) := K9.out hbig
                  clear hbig K9 K0 hsz
                  go_wp2_with fail
                  go_ret3
                  exact doc_err HE.out (by decide) HB7.out
                · have hb2 : ¬ (63 : Int) < 4 + (EN.size : Int) := by omega
                  have HE : Hid (labelM s = (0, M, (⟨#[120, 110, 45, 45]⟩ : ByteArray) ++ EN)) := K0.out hbig
                  clear hbig K9 K0 hsz
                  go_wp2_with fail
                  go_ret3
                  exact doc_good HE.out HMM.out HR7.out HB7.out
            · have hf' : ((F : Int) == 0) = false := beq_eq_false_iff_ne.2 (by omega)
              have HEF : Hid ((labelM s).1 = F) := HLF.out hf
              have HNF : Hid (F ≠ 0) := hf
              clear hf HLF HL9 HL0
              go_wp2_with fail
              go_ret3
              exact doc_err HEF.out HNF.out HB5.out
  · have HE : Hid ((labelM s).1 = 1) := label_err (plain_bad hv) (by decide)
    go_wp2_with fail
    go_ret3
    exact doc_err HE.out (by decide) HB1.out
end Go.Proofs.YtkaaldhejpaiiaaGreatDoor

