import Derived.Test.YtkaaldhejpaiiaaGreatDoorZd
import Derived.Test.YtkaaldhejpaiiaaGreatDoorWb
import Derived.Test.YtkaaldhejpaiiaaGreatDoorWz
import Derived.Deep.CutRange
import Derived.BigQuiet
/- The document's encode, at long labels. -/
namespace Go.Proofs.YtkaaldhejpaiiaaGreatDoor
open Go.RowKit

set_option maxRecDepth 100000 in
set_option maxHeartbeats 16000000 in
theorem refEncodeB (g c : Nat) (L ys : List Nat) (w : World) (hL : L.length ≤ 1100000) (hs : ∀ n ∈ L, Pm.sign n = true) (hY : Ys L ys) (hg : g < w.heap.size)
    (hc : ∀ j (hj : j < L.length), w.cell? ⟨g, j, none⟩ = some (.int .i64 (L[j] : Nat))) :
    Calls Tryz.prog 43 #[.slice (some ⟨g, 0, none⟩) L.length c] w fun e w' => e = .returned (.string ⟨(encS L ys).toArray⟩) ∧ Below w.heap.size w w' := by
  obtain ⟨i0, hi, hz0, hz1, hz2⟩ := info_parts info3
  obtain ⟨n, hn⟩ : ∃ n, L.length = n := ⟨_, rfl⟩
  have hm : ∀ j (hj : j < n), L[j]'(by omega) ≤ 1114111 := fun j hj => by
    have := hs _ (List.getElem_mem (show j < L.length by omega))
    unfold Pm.sign at this; simp at this; omega
  have HRoad : Hid (RoadB L (firstEs L) (eachAll L ys (firstEs L))) := road_allB hY hs hL
  have HC : Hid (∀ (W : World), Below w.heap.size w W → ∀ j (hj : j < L.length), W.cell? ⟨g, j, none⟩ = some (.int .i64 (L[j] : Nat))) := fun W hW j hj => (hW.cell (p := ⟨g, j, none⟩) hg).trans (hc j hj)
  have HE : Hid (encS L ys = (eachAll L ys (firstEs L)).form) := rfl
  obtain ⟨ANS, hANS⟩ : ∃ ANS, encS L ys = ANS := ⟨_, rfl⟩
  obtain ⟨Z, hZ⟩ : ∃ Z, eachAll L ys (firstEs L) = Z := ⟨_, rfl⟩
  rw [hANS, hZ] at HE
  rw [hZ] at HRoad
  rw [hANS, hn]
  rw [hn] at hL
  clear hc hs hY hANS hZ
  go_enter Tryz.func43, Tryz.ntmps43
  go_wp2
  go_loopg [3, 4, 5] n (fun k sv pv iv5 wr => ∃ (i : Nat) (S : ByteArray), iv5 = .int .i64 i ∧ i ≤ n ∧ n - i ≤ k ∧ sv = .string S ∧ S.data.toList = ascF (L.take i) ∧ wr.ownsRow w.heap.size 3 1 pv (low (L.take i)).length ((low (L.take i)).map iv) ∧ Below w.heap.size w wr)
  case atStart => exact ⟨0, { data := #[] }, rfl, by omega, by omega, rfl, by simp [ascF], World.ownsRow_nil _ _ _ _, Below.refl _ _⟩
  case round =>
    obtain ⟨i, S, rfl, hin, hk, rfl, hS, ho, hbw⟩ := hrel
    obtain ⟨pv, rfl⟩ : ∃ pv, u4 = pv := ⟨_, rfl⟩
    have HB : Hid (Below w.heap.size w wr) := hbw
    have hsz := hbw.size
    by_cases hlt : i < n
    · have hci := HC.out wr hbw i (by omega)
      have hmi := hm i hlt
      have HT : Hid (L.take (i + 1) = L.take i ++ [L[i]'(by omega)]) := take_snoc_nat (by omega)
      obtain ⟨m, hmm⟩ : ∃ m, L[i]'(by omega) = m := ⟨_, rfl⟩
      rw [hmm] at hci hmi
      have HT2 : Hid (L.take (i + 1) = L.take i ++ [m]) := by unfold Hid; rw [HT.out, hmm]
      have HS : Hid (S.data.toList = ascF (L.take i)) := hS
      have hSl : S.size ≤ 1100000 := by
        have h1 : S.size = S.data.toList.length := by rw [Array.length_toList]; rfl
        rw [h1, hS]
        have := ascF_len (L.take i)
        rw [List.length_take] at this
        omega
      have hmm2 := hmm
      clear HT hmm hS hbw
      by_cases h128 : (m : Int) < 128
      · have hcv := run_oneString wr m (by omega)
        have hw8 : IntKind.u8.wrap (m : Int) = (m : Int) := by rw [IntKind.wrap_u8]; omega
        have hS1 : S.size + 1 ≤ 9223372036854775807 := by omega
        obtain ⟨F, hF⟩ : ∃ F, low (L.take i) = F := ⟨_, rfl⟩
        have hFl : F.length ≤ 1100000 := by rw [← hF]; have := low_len (L.take i); rw [List.length_take] at this; omega
        rw [hF] at ho
        have HF : Hid (low (L.take i) = F) := hF
        have HO : Hid (wr.ownsRow w.heap.size 3 1 u4 F.length (F.map iv)) := ho
        have hone : ∀ u ∈ [Value.int .i64 (m : Int)], u.oneCell' = true := by intro u hu; simp at hu; subst hu; rfl
        have hci2 : (wr.alloc (.cells #[.int .u8 (m : Int)] 5)).cell? ⟨g, i, none⟩ = some (.int .i64 (m : Int)) := HC.out _ (HB.out.alloc hsz _) i (by omega) |>.trans (by rw [hmm2])
        clear ho hF hmm2
        go_wp2_with (at_builtin; refine wpList_append_own _ rfl (.tmp 33) (.tmp 38) 31 rfl w.heap.size 3 i0 (.int .i64 0) 1 8 Tryz.underlying31 hi hz0 hz1 hz2 rfl (by decide) _ _ _ rfl ((HO.out.alloc _).alloc _) ⟨wr.heap.size + 1, 0, none⟩ 1 1 [.int .i64 (m : Int)] rfl rfl (new2 _ _ _ _) hone (by unfold maxLen; omega) (by omega) (by simp; omega) ?_)
        intro v1 w1 hown1 hgr1 hne1
        have HO1 : Hid (w1.ownsRow w.heap.size 3 1 v1 (low (L.take (i + 1))).length ((low (L.take (i + 1))).map iv)) := by
          unfold Hid
          rw [HT2.out, low_snoc, if_pos (by omega), HF.out, List.length_append, List.map_append]
          exact hown1
        have HB1 : Hid (Below w.heap.size w w1) := below_append hgr1 ((HO.out.alloc _).alloc _) ((HB.out.alloc hsz _).alloc (by simp; omega) _) (by simp; omega)
        clear hown1 hgr1 hne1 HO HB
        go_wp2
        go_roundg (n - (i + 1))
        case measure => omega
        case rel =>
          refine ⟨i + 1, S ++ ⟨#[UInt8.ofNat m]⟩, by go_num, by omega, Nat.le_refl _, by simp, ?_, HO1.out, HB1.out⟩
          rw [append_bytes, HS.out, HT2.out, ascF_snoc, if_pos (by omega)]
      · go_wp2
        go_roundg (n - (i + 1))
        case measure => omega
        case rel => exact ⟨i + 1, S, by go_num, by omega, Nat.le_refl _, rfl, by rw [HT2.out, ascF_snoc, if_neg (by omega)]; exact HS.out, by rw [HT2.out, low_snoc, if_neg (by omega)]; exact ho, HB.out⟩
    · have hie : n = i := by omega
      subst hie
      have hS0 : S.data.toList = ascF L := by rw [hS, List.take_of_length_le (by omega)]
      rw [List.take_of_length_le (by omega)] at ho
      have HO : Hid (wr.ownsRow w.heap.size 3 1 u4 (low L).length ((low L).map iv)) := ho
      have HS : Hid (S.data.toList = ascF L) := hS0
      have hSl : S.size ≤ 1100000 := by
        have h1 : S.size = S.data.toList.length := by rw [Array.length_toList]; rfl
        rw [h1, hS0]
        have := ascF_len L
        omega
      clear hS hS0 ho hbw
      go_upto_if 41 with fail
      go_cut [3] from 13 (fun sv wc => wc = wr ∧ ∃ S' : ByteArray, sv = .string S' ∧ S'.data.toList = (firstEs L).form)
      case first =>
        have hS1 : S.size + 1 ≤ 9223372036854775807 := by omega
        have e0 := Lib.toList_data S
        have HE : Hid (S.toList = S.data.toList) := e0
        clear e0
        go_wp2
        · have hS0 : (!S.toList.isEmpty) = true := by assumption
          have HE0 : Hid (ascF L ≠ []) := by
            unfold Hid
            rw [← HS.out, ← HE.out]
            intro h
            rw [h] at hS0
            cases hS0
          go_meet
          case rel =>
            refine ⟨rfl, _, rfl, ?_⟩
            unfold firstEs
            rw [if_neg HE0.out, append_bytes, HS.out]
        · have hS0 : (!S.toList.isEmpty) = false := by assumption
          have HE0 : Hid (ascF L = []) := by
            unfold Hid
            rw [← HS.out, ← HE.out]
            exact List.isEmpty_iff.1 (by simpa using hS0)
          go_meet
          case rel =>
            refine ⟨rfl, _, rfl, ?_⟩
            unfold firstEs
            rw [HS.out, if_pos HE0.out, HE0.out]
      case rest =>
        obtain ⟨rfl, S', rfl, hS'⟩ := hcut
        have hbeg := begin_any u4 (low L) w.heap.size wc HO.out hsz
        clear HO HS hSl
        go_wp2_with (go_at_call 65; refine hbeg.mono ?_; rintro e w2 ⟨X, rfl, hR, hb2⟩)
        have HB2 : Hid (Below w.heap.size w w2) := HB.out.trans hb2
        have HR : Hid (RefAt w2 X w.heap.size (Pm.St.first (low L))) := hR
        have HS' : Hid (S'.data.toList = (firstEs L).form) := hS'
        clear hR hb2 hbeg HB hS'
        go_loopg [3] n (fun k sv wr => ∃ (x : Es) (l : List Nat) (S : ByteArray), sv = .string S ∧ S.data.toList = x.form ∧ l.length = x.len ∧ RefAt wr X w.heap.size (stOf x l) ∧ Below w.heap.size w wr ∧ RoadB L x Z ∧ n - x.len ≤ k)
        case atStart => exact ⟨firstEs L, low L, S', rfl, HS'.out, low_ascF L, HR.out, HB2.out, HRoad.out, by omega⟩
        case round =>
          obtain ⟨x, l, S, rfl, hS, hl, hR, hbw, hroad, hk2⟩ := hrel
          obtain ⟨wA, rfl⟩ : ∃ wA, wA = wr := ⟨wr, rfl⟩
          have HS3 : Hid (S.data.toList = x.form) := hS
          have HBA : Hid (Below w.heap.size w wA) := hbw
          have HRA : Hid (RefAt wA X w.heap.size (stOf x l)) := hR
          obtain ⟨v, hX, hov, hBX⟩ := hR
          have c0 : wA.cell? ⟨X, 0, none⟩ = some (.int .i64 x.n) := by rw [cell_of_row wA X 0 _ 106 (0, 0) hX]; rfl
          have c1 : wA.cell? ⟨X, 1, none⟩ = some (.int .i64 x.i) := by rw [cell_of_row wA X 1 _ 106 (0, 0) hX]; rfl
          have c3 : wA.cell? ⟨X, 3, none⟩ = some (.int .i64 x.bias) := by rw [cell_of_row wA X 3 _ 106 (0, 0) hX]; rfl
          have hv : ∃ a c, v = .slice a x.len c := by
            rcases hov.2 with ⟨rfl, e⟩ | ⟨g, cap, cur, rfl, _⟩
            · exact ⟨none, 0, by rw [← hl, show l.length = 0 from e]⟩
            · exact ⟨_, _, by rw [← hl]; rfl⟩
          obtain ⟨va, vc, rfl⟩ := hv
          have c2 : wA.cell? ⟨X, 2, none⟩ = some (.slice va x.len vc) := by rw [cell_of_row wA X 2 _ 106 (0, 0) hX]; rfl
          have hXl : X < wA.heap.size := (Array.getElem?_eq_some_iff.1 hX).1
          have HCA := HC.out wA hbw
          clear HS' HR HB2 HRoad hS hbw hX hov
          cases hroad with
          | done h =>
            have hend : ¬ (Z.len : Int) < (n : Int) := by omega
            go_wp2
            go_ret
            refine ⟨?_, HBA.out⟩
            have := HS3.out
            rw [HE.out, ← this]
            refine congrArg Ending.returned ?_
            show Value.string S = _
            congr 1
          | step _ _ y p hN r =>
            have hgd := hN.good
            have hlt : (x.len : Int) < (n : Int) := by have := hN.lt; omega
            have hxn : x.n ≤ y := hgd.n
            have hyt := hN.top
            have hxi := hgd.i
            have hxl := hgd.len
            have hxb := hgd.bias
            have hil := hN.ilen
            have hah : ∀ (i m : Nat), L[i]? = some m → ∀ q : Nat, Calls Tryz.prog 74 #[.slice (some ⟨g, 0, none⟩) n c, .int .i64 i] (wA.drewN q) fun e w' => e = .returned (.int .i64 (cnt L m i)) ∧ ∃ m, w' = (wA.drewN q).drewN m := fun i m him q => by
              obtain ⟨hi, rfl⟩ := List.getElem?_eq_some_iff.1 him
              subst hn
              exact aheadB g c i L (wA.drewN q) (by omega) hi HCA
            have HN : Hid (NxtB L x y p) := hN
            have HRd : Hid (RoadB L (x.put (x.steps y (cnt L y p))) Z) := r
            have HCn : Hid (∀ j i, cnt L j i ≤ 1100000) := fun j i => by have := cnt_le_sub L j i; have := sub_len_le L j i; omega
            clear hN r hgd
            go_wp2
            go_loopg [7, 8] n (fun k nv iv8 w3 => ∃ (i nx q : Nat), nv = .int .i64 nx ∧ iv8 = .int .i64 i ∧ i ≤ n ∧ n - i ≤ k ∧ w3 = wA.drewN q ∧ Least L x i nx ∧ nx ≤ 1114112)
            case atStart => exact ⟨0, 1114112, 0, rfl, rfl, by omega, by omega, rfl, Least.zero L x, by omega⟩
            case round =>
              obtain ⟨i, nx, q, rfl, rfl, hin, hk3, hw3, hLe, hnx⟩ := hrel
              have d0 : wr.cell? ⟨X, 0, none⟩ = some (.int .i64 x.n) := by rw [hw3]; exact c0
              have d1 : wr.cell? ⟨X, 1, none⟩ = some (.int .i64 x.i) := by rw [hw3]; exact c1
              have HW3 : Hid (wr = wA.drewN q) := hw3
              have HLe : Hid (Least L x i nx) := hLe
              clear hLe
              by_cases hilt : i < n
              · obtain ⟨m, him⟩ : ∃ m, L[i]? = some m := ⟨_, List.getElem?_eq_getElem (by omega)⟩
                have hai : ∀ q2 : Nat, Calls Tryz.prog 74 #[.slice (some ⟨g, 0, none⟩) n c, .int .i64 i] (wr.drewN q2) fun e w' => e = .returned (.int .i64 (cnt L m i)) ∧ ∃ m, w' = (wr.drewN q2).drewN m := fun q2 => by
                  have := hah i m him (q + q2)
                  rw [← World.drewN_drewN, ← hw3] at this
                  exact this
                have hie : ∀ hj : i < L.length, L[i]'hj = m := fun hj => by rw [List.getElem?_eq_getElem hj] at him; exact Option.some.inj him
                have hci : wr.cell? ⟨g, i, none⟩ = some (.int .i64 (m : Int)) := by have := HCA i (by omega); rw [hie] at this; rw [hw3]; exact this
                have HMm : Hid (∀ hj, Cand L x i hj ↔ (128 ≤ m ∧ (x.n < m ∨ (m = x.n ∧ x.i ≤ cnt L m i)))) := fun hj => by unfold Cand; rw [hie hj]
                have hCl := HCn.out m i
                have hmi : m ≤ 1114111 := by have := hm i hilt; rwa [hie] at this
                have HM : Hid (∀ hj : i < L.length, L[i]'hj = m) := hie
                obtain ⟨C, hC⟩ : ∃ C, cnt L m i = C := ⟨_, rfl⟩
                rw [hC] at hai HMm hCl
                clear him hie hC hw3 c0 c1 c2 c3
                go_upto_region 17 with fail
                go_cut [104] from 54 to 108 (fun v wc => v = .bool (decide (128 ≤ m ∧ m < nx ∧ (x.n < m ∨ (m = x.n ∧ x.i ≤ C)))) ∧ ∃ q, wc = wr.drewN q)
                case first =>
                  by_cases g1 : 128 ≤ m
                  · have g1' : (128 : Int) ≤ (m : Int) := by omega
                    by_cases g2 : m < nx
                    · have g2' : (m : Int) < (nx : Int) := by omega
                      by_cases g3 : x.n < m
                      · have g3' : (x.n : Int) < (m : Int) := by omega
                        go_quiet (first | (go_at_call 74; refine Calls.quiet_of (hai _)))
                        go_wp2
                        go_meet
                        case rel => exact ⟨by simp [g1, g2, g3], _, rfl⟩
                      · have g3' : decide ((x.n : Int) < (m : Int)) = false := decide_eq_false (by omega)
                        by_cases g4 : m = x.n
                        · have g4' : ((m : Int) == (x.n : Int)) = true := by simp; omega
                          have G4 : Hid (m = x.n) := g4
                          clear g4
                          go_quiet (first | (go_at_call 74; refine Calls.quiet_of (hai _)))
                          go_wp2
                          go_meet
                          case rel => exact ⟨congrArg Value.bool (decide_eq_decide.2 (by have := G4.out; constructor <;> intro h <;> omega)), _, rfl⟩
                        · have g4' : ((m : Int) == (x.n : Int)) = false := by simp; omega
                          go_quiet (first | (go_at_call 74; refine Calls.quiet_of (hai _)))
                          go_wp2
                          go_meet
                          case rel => exact ⟨by simp [g1, g2, g3, g4], _, rfl⟩
                    · have g2' : decide ((m : Int) < (nx : Int)) = false := decide_eq_false (by omega)
                      go_quiet (first | (go_at_call 74; refine Calls.quiet_of (hai _)))
                      go_wp2
                      go_meet
                      case rel => exact ⟨by simp [g2], _, rfl⟩
                  · have g1' : decide ((128 : Int) ≤ (m : Int)) = false := decide_eq_false (by omega)
                    go_quiet (first | (go_at_call 74; refine Calls.quiet_of (hai _)))
                    go_wp2
                    go_meet
                    case rel => exact ⟨by simp [g1], _, rfl⟩
                case rest =>
                  obtain ⟨rfl, q2, hq2⟩ := hcut
                  have hci2 : wc.cell? ⟨g, i, none⟩ = some (.int .i64 (m : Int)) := by rw [hq2]; exact hci
                  have HQ2 : Hid (wc = wA.drewN (q + q2)) := by unfold Hid; rw [hq2, HW3.out, World.drewN_drewN]
                  clear hq2 hci hai d0 d1
                  generalize hBe : decide (128 ≤ m ∧ m < nx ∧ (x.n < m ∨ (m = x.n ∧ x.i ≤ C))) = B
                  have HBe : Hid (decide (128 ≤ m ∧ m < nx ∧ (x.n < m ∨ (m = x.n ∧ x.i ≤ C))) = B) := hBe
                  clear hBe
                  cases B
                  · go_wp2
                    go_roundg (n - (i + 1))
                    case measure => omega
                    case rel =>
                      refine ⟨i + 1, nx, q + q2, rfl, by go_num, by omega, Nat.le_refl _, HQ2.out, HLe.out.skip (by omega) ?_, hnx⟩
                      rintro ⟨k1, k2⟩
                      have k3 := (HMm.out (by omega)).1 k1
                      rw [HM.out] at k2
                      exact of_decide_eq_false HBe.out ⟨k3.1, k2, k3.2⟩
                  · go_wp2
                    go_roundg (n - (i + 1))
                    case measure => omega
                    case rel =>
                      have k := of_decide_eq_true HBe.out
                      have k2 := HLe.out.take (show i < L.length by omega) ((HMm.out _).2 ⟨k.1, k.2.2⟩) (by rw [HM.out]; exact k.2.1)
                      rw [HM.out] at k2
                      exact ⟨i + 1, m, q + q2, rfl, by go_num, by omega, Nat.le_refl _, HQ2.out, k2, by omega⟩
              · have hie : n = i := by omega
                subst hie
                have hny : y = nx := (by have h1 := HLe.out; rw [← hn] at h1; exact (h1.allB HN.out).symm)
                subst hny
                have hpn : p < n := by have := HN.out.hp; omega
                have hw3' : wr = wA.drewN q := HW3.out
                clear d0 d1 HLe HW3 hw3
                go_wp2
                go_loopg [3, 9] n (fun k sv iv9 w4 => sv = .string S ∧ ∃ (i q : Nat), iv9 = .int .i64 i ∧ i ≤ p ∧ p - i ≤ k ∧ w4 = wA.drewN q)
                case atStart => exact ⟨rfl, 0, q, rfl, by omega, by omega, rfl⟩
                case round =>
                  obtain ⟨rfl, i, q4, rfl, hip, hk4, hw4⟩ := hrel
                  obtain ⟨m, him⟩ : ∃ m, L[i]? = some m := ⟨_, List.getElem?_eq_getElem (by omega)⟩
                  have hai := hah i m him q4
                  rw [← hw4] at hai
                  have hie : ∀ hj : i < L.length, L[i]'hj = m := fun hj => by rw [List.getElem?_eq_getElem hj] at him; exact Option.some.inj him
                  have HCi : Hid (wA.cell? ⟨g, i, none⟩ = some (.int .i64 (m : Int))) := by unfold Hid; have := HCA i (by omega); rwa [hie] at this
                  have hCl := HCn.out m i
                  have HM : Hid (∀ hj : i < L.length, L[i]'hj = m) := hie
                  obtain ⟨C, hC⟩ : ∃ C, cnt L m i = C := ⟨_, rfl⟩
                  have HCm : Hid (cnt L m i = C) := hC
                  rw [hC] at hai hCl
                  have HW4 : Hid (wr = wA.drewN q4) := hw4
                  have HD0 : Hid (wA.cell? ⟨X, 0, none⟩ = some (.int .i64 x.n)) := c0
                  have HD1 : Hid (wA.cell? ⟨X, 1, none⟩ = some (.int .i64 x.i)) := c1
                  have HD2 : Hid (wA.cell? ⟨X, 2, none⟩ = some (.slice va x.len vc)) := c2
                  have HD3 : Hid (wA.cell? ⟨X, 3, none⟩ = some (.int .i64 x.bias)) := c3
                  clear him hie hC hw4 c0 c1 c2 c3
                  have hilt : (i : Int) < (n : Int) := by omega
                  go_upto_region 23 with (go_at_call 74; refine hai.mono ?_; rintro e w5 ⟨rfl, q5, hw5⟩; have HW5 : Hid (w5 = wA.drewN (q4 + q5)) := (by unfold Hid; rw [hw5, HW4.out, World.drewN_drewN]); clear hw5)
                  have e0 : w5.cell? ⟨X, 0, none⟩ = some (.int .i64 x.n) := by rw [HW5.out]; exact HD0.out
                  have e1 : w5.cell? ⟨X, 1, none⟩ = some (.int .i64 x.i) := by rw [HW5.out]; exact HD1.out
                  have e2 : w5.cell? ⟨X, 2, none⟩ = some (.slice va x.len vc) := by rw [HW5.out]; exact HD2.out
                  have hci : w5.cell? ⟨g, i, none⟩ = some (.int .i64 (m : Int)) := by rw [HW5.out]; exact HCi.out
                  clear hai
                  go_cut [139] from 109 to 171 (fun v wc => wc = w5 ∧ v = .bool (decide (m = y ∧ (x.n < y ∨ x.i ≤ C))))
                  case first =>
                    by_cases g1 : m = y
                    · have g1' : ((m : Int) == (y : Int)) = true := by simp; omega
                      have G1 : Hid (m = y) := g1
                      clear g1
                      by_cases g2 : x.n < y
                      · have g2' : (x.n : Int) < (y : Int) := by omega
                        go_wp2
                        go_meet
                        case rel => exact ⟨rfl, by have := G1.out; simp [this, g2]⟩
                      · have g2' : decide ((x.n : Int) < (y : Int)) = false := decide_eq_false (by omega)
                        go_wp2
                        go_meet
                        case rel => exact ⟨rfl, congrArg Value.bool (decide_eq_decide.2 (by have := G1.out; constructor <;> intro h <;> omega))⟩
                    · have g1' : ((m : Int) == (y : Int)) = false := by simp; omega
                      go_wp2
                      go_meet
                      case rel => exact ⟨rfl, by simp [g1]⟩
                  case rest =>
                    obtain ⟨rfl, rfl⟩ := hcut
                    generalize hBe : decide (m = y ∧ (x.n < y ∨ x.i ≤ C)) = B
                    have HBe : Hid (decide (m = y ∧ (x.n < y ∨ x.i ≤ C)) = B) := hBe
                    clear hBe
                    cases B
                    · have hne : i ≠ p := by
                        rintro rfl
                        have k := of_decide_eq_false HBe.out
                        have h1 := HN.out.eq
                        rw [HM.out] at h1
                        have h2 := HN.out.new
                        rw [← h1, HCm.out] at h2
                        apply k
                        rw [← h1]
                        exact ⟨rfl, by rcases h2 with h2 | h2; exact Or.inl h2; exact Or.inr h2.2⟩
                      go_wp2
                      go_roundg (p - (i + 1))
                      case measure => omega
                      case rel => exact ⟨rfl, i + 1, q4 + q5, by go_num, by omega, Nat.le_refl _, HW5.out⟩
                    · have hkk := of_decide_eq_true HBe.out
                      have hpi : p = i := by
                        rcases Nat.lt_or_ge i p with h1 | h1
                        · exfalso
                          have h2 := HN.out.first i (by omega) h1 (by rw [HM.out]; exact hkk.1)
                          apply h2
                          have h3 := HCm.out
                          rw [hkk.1] at h3
                          rw [h3]
                          exact hkk.2
                        · omega
                      subst hpi
                      obtain ⟨M, hM⟩ : ∃ M, (y - x.n) * (x.len + 1) = M := ⟨_, rfl⟩
                      have hMb : M ≤ 1114111 * 1100001 := by rw [← hM]; exact Nat.mul_le_mul (by omega) (by omega)
                      have hmul : ((y : Int) - (x.n : Int)) * ((x.len : Int) + 1) = (M : Int) := by
                        rw [← hM, show (y : Int) - (x.n : Int) = ((y - x.n : Nat) : Int) by omega, show (x.len : Int) + 1 = ((x.len + 1 : Nat) : Int) by omega]
                        exact (Int.natCast_mul _ _).symm
                      have hst : x.i ≤ M + C := by
                        have := HN.out.good.st
                        rw [hM] at this
                        have h3 := HCm.out
                        rw [hkk.1] at h3
                        rw [h3] at this
                        exact this
                      obtain ⟨Q, hQ⟩ : ∃ Q, M + C - x.i = Q := ⟨_, rfl⟩
                      have hQI : (M : Int) + (C : Int) - (x.i : Int) = (Q : Int) := by omega
                      have hQb : Q ≤ 1300000000000 := by omega
                      have HQ : Hid (x.steps y (cnt L y p) = Q) := by
                        unfold Hid Es.steps
                        have h3 := HCm.out
                        rw [hkk.1] at h3
                        rw [h3, hM, hQ]
                      have hsb : (0 : Int) ≤ (y : Int) - (x.n : Int) := by omega
                      clear hM hQ hst hkk HBe hci
                      go_upto_region 25 with fail
                      go_quiet (fail)
                      have HW6 : Hid (wc.drewN nq = wA.drewN (q4 + q5 + nq)) := by unfold Hid; rw [HW5.out, World.drewN_drewN]
                      clear e0 e1 e2
                      generalize wc.drewN nq = w6 at *
                      have HR6 : Hid (RefAt w6 X w.heap.size (stOf x l)) := by unfold Hid; rw [HW6.out]; exact HRA.out
                      have HB6 : Hid (Below w.heap.size w w6) := by unfold Hid; rw [HW6.out]; exact ⟨HBA.out.os, HBA.out.tape, HBA.out.output, HBA.out.size, HBA.out.block⟩
                      have e3 : w6.cell? ⟨X, 3, none⟩ = some (.int .i64 x.bias) := by rw [HW6.out]; exact HD3.out
                      have hX6 : X < w6.heap.size := by rw [HW6.out]; exact hXl
                      obtain ⟨NS, hNS⟩ : ∃ NS : ByteArray, NS = ⟨(wnum x.bias (Q + 1) 1 Q).toArray⟩ := ⟨_, rfl⟩
                      have hnum := refNumberB X Q x.bias w6 hX6 e3 hQb hxb
                      rw [← hNS] at hnum
                      have hNl : NS.data.toList = wnum x.bias (Q + 1) 1 Q := by rw [hNS]
                      have hNsz : NS.size ≤ 100 := by
                        have h1 : NS.size = NS.data.toList.length := by rw [Array.length_toList]; rfl
                        rw [h1, hNl]
                        have := wnum_len x.bias 41 (Q + 1) 1 Q (by omega)
                        omega
                      have hSsz : S.size ≤ 60000000 := by
                        have h1 : S.size = S.data.toList.length := by rw [Array.length_toList]; rfl
                        rw [h1, HS3.out]
                        exact HN.out.good.form
                      have hadd : S.size + NS.size ≤ 9223372036854775807 := by omega
                      have HNl : Hid (NS.data.toList = wnum x.bias (Q + 1) 1 Q) := hNl
                      clear hNS hNl e3
                      go_upto_region 27 with (go_at_call 75; refine hnum.mono ?_; rintro e w7 ⟨rfl, hb7⟩)
                      have HR7 : Hid (RefAt w7 X w.heap.size (stOf x l)) := refAt_below HR6.out hb7
                      have HB7 : Hid (Below w.heap.size w w7) := HB6.out.trans (hb7.mono HB6.out.size)
                      clear hb7 hnum HR6 HB6
                      have hstp := refStepStB X w.heap.size (stOf x l) Q w7 HR7.out (by show x.n ≤ 1114111; omega) (by show x.i ≤ 1100000; omega) (by show l.length ≤ 1100000; omega) (by omega)
                      have hins := fun W (hW : RefAt W X w.heap.size ((stOf x l).step Q)) => refInsertStB X w.heap.size ((stOf x l).step Q) Q W hW (by
                        show (x.i + Q) % (l.length + 1) ≤ l.length
                        have := Nat.mod_lt (x.i + Q) (show 0 < l.length + 1 by omega)
                        omega) (by show l.length ≤ 1100000; omega) (by omega)
                      go_wp2_with (first | (go_at_call 67; refine hstp.mono ?_; rintro e w8 ⟨rfl, hR8, hb8⟩) | (go_at_call 69; refine (hins _ hR8).mono ?_; rintro e w9 ⟨rfl, hR9, hb9⟩))
                      have HB8 : Hid (Below w.heap.size w w8) := HB7.out.trans hb8
                      go_roundg (n - (x.len + 1))
                      case measure => omega
                      case rel =>
                        obtain ⟨l', hl', hst'⟩ := st_put x l Q hl
                        rw [hst'] at hR9
                        have hrd := HRd.out
                        rw [HQ.out] at hrd
                        refine ⟨x.put Q, l', S ++ NS, by simp, ?_, hl', hR9, HB8.out.trans hb9, hrd, Nat.le_refl _⟩
                        rw [append_bytes, HS3.out, HNl.out]
                        rfl

end Go.Proofs.YtkaaldhejpaiiaaGreatDoor

