/- The library's sort at runes: partialInsertionSortOrdered. -/
import Derived.Test.YtkaaldhejpaiiaaGreatDoorXe
import Derived.Sort.LotD2
namespace Go.Proofs.YtkaaldhejpaiiaaGreatDoor
open Go.RowKit Go.Sort

/-- A sign that is less than its left neighbour stands behind the part's first place. -/
theorem below_lt {a b j : Nat} {d D : Array Int} (hB : Sort.Below ltInt a b d) (hb : b ≤ d.size) (hP : PermIn a b d D) (haj : a ≤ j) (hjb : j < b) (h1 : 1 ≤ j) (hl : ltInt D[j]! D[j - 1]! = true) : a < j := by
  rcases Nat.lt_or_ge a j with h | h
  · exact h
  · obtain rfl : a = j := by omega
    rcases hB.perm hb hP with e | e
    · omega
    · rw [e a (Nat.le_refl _) hjb] at hl; cases hl
theorem ins_of_swap {a i : Nat} {D : Array Int} (hs : SortedIn ltInt a i D) (hai : a < i) : Ins ltInt a (i - 1) (i - 1) (swp D i (i - 1)) := by
  refine ⟨fun p q h1 h2 h3 h4 h5 => ?_, fun q h1 h2 => by omega⟩
  rw [swp_other D i (i - 1) q (by omega) h5, swp_other D i (i - 1) p (by omega) h4]
  exact hs p q h1 h2 (by omega)

set_option maxHeartbeats 16000000 in
set_option maxRecDepth 100000 in
theorem pins32 (blk off n cap a b : Nat) (d : Array Int) (w : World) (hn : d.size = n) (hH : Holds (Value.int .i32) w blk off d) (hblk : blk < w.heap.size) (hab : a < b) (hb : b ≤ n) (hsz : n ≤ 1000000) (hB : Sort.Below ltInt a b d) :
    Calls Tryz.prog 205 #[.slice (some ⟨blk, off, none⟩) n cap, .int .i64 a, .int .i64 b] w fun e w' =>
      ∃ (ok : Bool) (d' : Array Int), e = .returned (.bool ok) ∧ S32 w blk off d' w' ∧ PermIn a b d d' ∧ (ok = true → SortedIn ltInt a b d') := by
  have HS : Hid (S32 w blk off d w) := S32.refl hH hblk
  have HBl : Hid (∀ (j : Nat) (D : Array Int), PermIn a b d D → a ≤ j → j < b → 1 ≤ j → ltInt D[j]! D[j - 1]! = true → a < j) := fun j D hP h1 h2 h3 h4 => below_lt hB (by omega) hP h1 h2 h3 h4
  clear hH hB
  go_enter Tryz.func205, Tryz.ntmps205
  go_wp2
  go_loopg [7, 8] 5 (fun g x y wr => ∃ (i s : Nat) (D : Array Int), x = .int .i64 i ∧ y = .int .i64 s ∧ 5 - s ≤ g ∧ s ≤ 5 ∧ a < i ∧ i ≤ b ∧ D.size = n ∧ S32 w blk off D wr ∧ PermIn a b d D ∧ SortedIn ltInt a i D)
  case atStart => exact ⟨a + 1, 0, d, by go_num, rfl, by omega, by omega, by omega, by omega, hn, HS.out, permIn_refl _ _ _, fun p q h1 h2 h3 => by omega⟩
  case round =>
    obtain ⟨i, s, D, rfl, rfl, hg, hs5, hai, hib, hD, hSD, hP, hso⟩ := hrel
    have HSD : Hid (S32 w blk off D wr) := hSD
    have HP : Hid (PermIn a b d D) := hP
    have HSo : Hid (SortedIn ltInt a i D) := hso
    clear hSD hP hso
    by_cases hs : s < 5
    · have hs' : (s : Int) < 5 := by omega
      go_wp2
      go_loopg [7] (b - i) (fun g x wr => ∃ z : Nat, x = .int .i64 z ∧ b - z ≤ g ∧ i ≤ z ∧ z ≤ b ∧ S32 w blk off D wr ∧ SortedIn ltInt a z D)
      case atStart => exact ⟨i, rfl, Nat.le_refl _, Nat.le_refl _, hib, HSD.out, HSo.out⟩
      case round =>
        obtain ⟨z, rfl, hgz, hiz, hzb, hSz, hsz2⟩ := hrel
        obtain ⟨G, hG⟩ := fam D
        obtain ⟨hc, hz⟩ := hSz.cells hD G hG
        have HSz : Hid (S32 w blk off D wr) := hSz
        have HG : Hid (∀ t, G t = D[t]!) := hG
        have HSo2 : Hid (SortedIn ltInt a z D) := hsz2
        clear hSz hG hsz2 HSD
        go_upto_region 5 with fail
        go_cut [32] from 17 to 34 (fun x wc => x = .bool (decide (z < b) && !ltInt (G z) (G (z - 1))) ∧ S32 w blk off D wc)
        case first =>
          by_cases hij : z < b
          · have hij' : (z : Int) < (b : Int) := by omega
            go_quiet (first | (go_at_call 206; refine Calls.quiet_of_same (less32 _ _ _)))
            go_wp2
            go_meet
            case rel => exact ⟨by simp [hij], HSz.out.ahead _⟩
          · have hij' : decide ((z : Int) < (b : Int)) = false := decide_eq_false (by omega)
            go_quiet (first | (go_at_call 206; refine Calls.quiet_of_same (less32 _ _ _)))
            go_wp2
            go_meet
            case rel => exact ⟨by simp [hij], HSz.out.ahead _⟩
        case rest =>
          obtain ⟨rfl, hSc⟩ := hcut
          have HS1 : Hid (S32 w blk off D wc) := hSc
          clear hSc hc hz HSz
          generalize hBe : (decide (z < b) && !ltInt (G z) (G (z - 1))) = B
          have HBe : Hid ((decide (z < b) && !ltInt (G z) (G (z - 1))) = B) := hBe
          clear hBe
          cases B
          · by_cases hzb2 : z = b
            · subst hzb2
              go_wp2
              go_ret
              exact ⟨true, D, rfl, HS1.out, HP.out, fun _ => HSo2.out⟩
            · have hzne : ((z : Int) == (b : Int)) = false := by simp; omega
              have HL : Hid (ltInt D[z]! D[z - 1]! = true) := by
                have := HBe.out
                rw [HG.out, HG.out, decide_eq_true (show z < b by omega)] at this
                unfold Hid
                simpa using this
              by_cases h50 : (b : Int) - (a : Int) < 50
              · go_wp2
                go_ret
                exact ⟨false, D, rfl, HS1.out, HP.out, fun h => by cases h⟩
              · obtain ⟨hc1, hz1⟩ := HS1.out.cells hD G HG.out
                have HSW : Hid (S32 w blk off (swp D z (z - 1)) (((wc.drewN 1).setCell ⟨blk, off + z, none⟩ (.int .i32 (G (z - 1)))).setCell ⟨blk, off + (z - 1), none⟩ (.int .i32 (G z)))) := by
                  unfold Hid; rw [HG.out, HG.out]; exact HS1.out.swap 1 z (z - 1) (by omega) (by omega)
                have HPW : Hid (PermIn a b d (swp D z (z - 1))) := permIn_trans _ _ _ _ _ HP.out (swp_permIn D a b z (z - 1) (by omega) (by omega) (by omega) (by omega) (by omega))
                have HIn : Hid (Ins ltInt a (z - 1) (z - 1) (swp D z (z - 1))) := ins_of_swap HSo2.out (by omega)
                have hDw : (swp D z (z - 1)).size = n := by rw [size_swp]; exact hD
                go_upto_region 11 with fail
                go_cut [] from 13 to 132 (fun wc => S32 w blk off (swp D z (z - 1)) wc)
                case first =>
                  go_big_region
                  all_goals go_wp2
                  all_goals go_meet
                  case rel => exact HSW.out
                generalize swp D z (z - 1) = F at HPW HIn hDw hcut
                have HSF : Hid (S32 w blk off F wc) := hcut
                clear hcut hc1 hz1 HSW HS1
                go_upto_if 61 with fail
                go_cut [9] from 13 to 132 (fun x wd => ∃ F : Array Int, F.size = n ∧ S32 w blk off F wd ∧ PermIn a b d F ∧ SortedIn ltInt a z F)
                case first =>
                  by_cases h2 : 2 ≤ (z : Int) - (a : Int)
                  · go_wp2
                    go_loopg [9] z (fun g x wr => ∃ (j : Nat) (H : Array Int), x = .int .i64 j ∧ j ≤ g ∧ a ≤ j ∧ j < z ∧ H.size = n ∧ S32 w blk off H wr ∧ PermIn a b d H ∧ Ins ltInt a j (z - 1) H)
                    case atStart => exact ⟨z - 1, F, by congr 1; omega, by omega, by omega, by omega, hDw, HSF.out, HPW.out, HIn.out⟩
                    case round =>
                      obtain ⟨j, H, rfl, hgj, haj, hjz, hHn, hSH, hPH, hIH⟩ := hrel
                      have HSH : Hid (S32 w blk off H wr) := hSH
                      have HPH : Hid (PermIn a b d H) := hPH
                      have HIH : Hid (Ins ltInt a j (z - 1) H) := hIH
                      clear hSH hPH hIH
                      by_cases hj1 : 1 ≤ j
                      · have hj1' : (1 : Int) ≤ (j : Int) := by omega
                        obtain ⟨K, hK⟩ := fam H
                        obtain ⟨hc, hz⟩ := HSH.out.cells hHn K hK
                        have HK : Hid (∀ t, K t = H[t]!) := hK
                        clear hK
                        go_wp2
                        go_quiet (first | (go_at_call 206; refine Calls.quiet_of_same (less32 _ _ _)))
                        go_wp2
                        · have hl : (!ltInt (K j) (K (j - 1))) = true := by assumption
                          go_meet
                          case rel =>
                            refine ⟨H, hHn, HSH.out.ahead _, HPH.out, ?_⟩
                            have := HIH.out.stop swo_ltInt (Or.inr (by rw [← HK.out, ← HK.out]; simpa using hl))
                            rwa [show z - 1 + 1 = z by omega] at this
                        · have hl : (!ltInt (K j) (K (j - 1))) = false := by assumption
                          have HL2 : Hid (ltInt H[j]! H[j - 1]! = true) := by unfold Hid; rw [← HK.out, ← HK.out]; simpa using hl
                          have hajl : a < j := HBl.out j H HPH.out haj (by omega) hj1 HL2.out
                          have HS3 : Hid (S32 w blk off H (wr.drewN nq)) := HSH.out.ahead _
                          obtain ⟨hc3, hz3⟩ := HS3.out.cells hHn K HK.out
                          clear hc hz HSH hl
                          generalize wr.drewN nq = w3 at *
                          go_big_region
                          all_goals go_wp2
                          go_roundg (j - 1)
                          case measure => omega
                          case rel =>
                            refine ⟨j - 1, swp H j (j - 1), by congr 1; omega, Nat.le_refl _, by omega, by omega, by rw [size_swp]; exact hHn, ?_, ?_, ?_⟩
                            · rw [HK.out, HK.out]; exact HS3.out.swap 1 j (j - 1) (by omega) (by omega)
                            · exact permIn_trans _ _ _ _ _ HPH.out (swp_permIn H a b j (j - 1) (by omega) (by omega) (by omega) (by omega) (by omega))
                            · have hI := HIH.out
                              have hL := HL2.out
                              obtain ⟨k, rfl⟩ : ∃ k, j = k + 1 := ⟨j - 1, by omega⟩
                              rw [Nat.add_sub_cancel] at hL ⊢
                              exact hI.step hL (by omega) (by omega)
                      · have hj1' : ¬ (1 : Int) ≤ (j : Int) := by omega
                        go_wp2
                        go_meet
                        case rel =>
                          refine ⟨H, hHn, HSH.out, HPH.out, ?_⟩
                          have := HIH.out.stop swo_ltInt (Or.inl (by omega))
                          rwa [show z - 1 + 1 = z by omega] at this
                  · go_wp2
                    go_meet
                    case rel => exact ⟨F, hDw, HSF.out, HPW.out, fun p q h1 h2 h3 => by omega⟩
                case rest =>
                  obtain ⟨F2, hF2, hS2, hP2, hso2⟩ := hcut
                  have HS2 : Hid (S32 w blk off F2 wc) := hS2
                  have HP2 : Hid (PermIn a b d F2) := hP2
                  have HO2 : Hid (SortedIn ltInt a z F2) := hso2
                  clear hS2 hP2 hso2 HSF
                  by_cases h2 : 2 ≤ (b : Int) - (z : Int)
                  · go_wp2
                    go_loopg [10] (b - z) (fun g x wr => ∃ (j : Nat) (H : Array Int), x = .int .i64 j ∧ b - j ≤ g ∧ z < j ∧ j ≤ b ∧ H.size = n ∧ S32 w blk off H wr ∧ PermIn a b d H ∧ SortedIn ltInt a z H)
                    case atStart => exact ⟨z + 1, F2, by go_num, by omega, by omega, by omega, hF2, HS2.out, HP2.out, HO2.out⟩
                    case round =>
                      obtain ⟨j, H, rfl, hgj, hzj, hjb, hHn, hSH, hPH, hOH⟩ := hrel
                      have HSH : Hid (S32 w blk off H wr) := hSH
                      have HPH : Hid (PermIn a b d H) := hPH
                      have HOH : Hid (SortedIn ltInt a z H) := hOH
                      clear hSH hPH hOH
                      by_cases hj1 : j < b
                      · have hj1' : (j : Int) < (b : Int) := by omega
                        obtain ⟨K, hK⟩ := fam H
                        obtain ⟨hc, hz⟩ := HSH.out.cells hHn K hK
                        have HK : Hid (∀ t, K t = H[t]!) := hK
                        clear hK
                        go_wp2
                        go_quiet (first | (go_at_call 206; refine Calls.quiet_of_same (less32 _ _ _)))
                        go_wp2
                        · go_roundg (5 - (s + 1))
                          case measure => omega
                          case rel => exact ⟨z, s + 1, H, rfl, by go_num, Nat.le_refl _, by omega, by omega, hzb, hHn, HSH.out.ahead _, HPH.out, HOH.out⟩
                        · have HS3 : Hid (S32 w blk off H (wr.drewN nq)) := HSH.out.ahead _
                          obtain ⟨hc3, hz3⟩ := HS3.out.cells hHn K HK.out
                          clear hc hz HSH
                          generalize wr.drewN nq = w3 at *
                          go_big_region
                          all_goals go_wp2
                          go_roundg (b - (j + 1))
                          case measure => omega
                          case rel =>
                            refine ⟨j + 1, swp H j (j - 1), by go_num, Nat.le_refl _, by omega, by omega, by rw [size_swp]; exact hHn, ?_, ?_, ?_⟩
                            · rw [HK.out, HK.out]; exact HS3.out.swap 1 j (j - 1) (by omega) (by omega)
                            · exact permIn_trans _ _ _ _ _ HPH.out (swp_permIn H a b j (j - 1) (by omega) (by omega) (by omega) (by omega) (by omega))
                            · exact HOH.out.congrA fun p hp => swp_other H j (j - 1) p (by omega) (by omega)
                      · have hj1' : ¬ (j : Int) < (b : Int) := by omega
                        go_wp2
                        go_roundg (5 - (s + 1))
                        case measure => omega
                        case rel => exact ⟨z, s + 1, H, rfl, by go_num, Nat.le_refl _, by omega, by omega, hzb, hHn, HSH.out, HPH.out, HOH.out⟩
                  · go_wp2
                    go_roundg (5 - (s + 1))
                    case measure => omega
                    case rel => exact ⟨z, s + 1, F2, rfl, by go_num, Nat.le_refl _, by omega, by omega, hzb, hF2, HS2.out, HP2.out, HO2.out⟩
          · go_wp2
            go_roundg (b - (z + 1))
            case measure => have := HBe.out; simp at this; omega
            case rel =>
              have := HBe.out
              rw [HG.out, HG.out] at this
              simp only [Bool.and_eq_true, decide_eq_true_eq] at this
              exact ⟨z + 1, by go_num, Nat.le_refl _, by omega, by omega, HS1.out, HSo2.out.snoc swo_ltInt (by simpa using this.2)⟩
    · have hs' : ¬ (s : Int) < 5 := by omega
      go_wp2
      go_ret
      exact Or.inl ⟨rfl, D, HSD.out, HP.out⟩

end Go.Proofs.YtkaaldhejpaiiaaGreatDoor
