import Derived.Test.YtkaaldhejpaiiaaGreatDoorBu01
/- Xf Xg, in one. -/
/- The library's sort at runes: partitionOrdered. -/
namespace Go.Proofs.YtkaaldhejpaiiaaGreatDoor
open Go.RowKit Go.Sort

set_option maxHeartbeats 16000000 in
set_option maxRecDepth 100000 in
theorem part32 (blk off n cap a b pv : Nat) (d : Array Int) (w : World) (hn : d.size = n) (hH : Holds (Value.int .i32) w blk off d) (hblk : blk < w.heap.size) (hap : a ≤ pv) (hpb : pv < b) (hb : b ≤ n) (hsz : n ≤ 1000000) :
    Calls Tryz.prog 208 #[.slice (some ⟨blk, off, none⟩) n cap, .int .i64 a, .int .i64 b, .int .i64 pv] w fun e w' =>
      ∃ (j : Nat) (ok : Bool) (d' : Array Int), e = .returned (.tuple #[.int .i64 j, .bool ok]) ∧ S32 w blk off d' w' ∧ a ≤ j ∧ j < b ∧ PermIn a b d d' ∧ (∀ t, a ≤ t → t < j → ltInt d'[t]! d'[j]! = true) ∧ (∀ t, j < t → t < b → ltInt d'[t]! d'[j]! = false) := by
  have HS : Hid (S32 w blk off d w) := S32.refl hH hblk
  obtain ⟨P, hP⟩ : ∃ P, d[pv]! = P := ⟨_, rfl⟩
  obtain ⟨p, hp⟩ : ∃ p : Int → Bool, ∀ x, p x = ltInt x P := ⟨_, fun _ => rfl⟩
  have Hp : Hid (∀ x, p x = ltInt x P) := hp
  have HFin : Hid (∀ (i j : Nat) (D : Array Int), Pt p a b P d i j D → j < i → a ≤ j ∧ j < b ∧ PermIn a b d (swp D j a) ∧ (∀ t, a ≤ t → t < j → ltInt (swp D j a)[t]! (swp D j a)[j]! = true) ∧ (∀ t, j < t → t < b → ltInt (swp D j a)[t]! (swp D j a)[j]! = false)) := fun i j D h hji => by
    obtain rfl : p = fun x => ltInt x P := funext hp
    exact h.fin hji
  have HPt : Hid (Pt p a b P d (a + 1) (b - 1) (swp d a pv)) := by unfold Hid; rw [← hP]; exact Pt.start hap hpb (by omega)
  obtain ⟨j0, hj0⟩ : ∃ j0, j0 + 1 = b := ⟨b - 1, by omega⟩
  rw [show b - 1 = j0 by omega] at HPt
  have hbj : (b : Int) - 1 = (j0 : Int) := by omega
  have hjb : j0 < b := by omega
  have hjb2 : b ≤ j0 + 1 := by omega
  clear hH hP hj0 hp
  go_enter Tryz.func208, Tryz.ntmps208
  go_upto_region 1 with fail
  go_cut [] from 12 (fun wc => S32 w blk off (swp d a pv) wc)
  case first =>
    obtain ⟨G, hG⟩ := fam d
    obtain ⟨hc, hz⟩ := HS.out.cells hn G hG
    have HSW : Hid (S32 w blk off (swp d a pv) (((w.drewN 1).setCell ⟨blk, off + a, none⟩ (.int .i32 (G pv))).setCell ⟨blk, off + pv, none⟩ (.int .i32 (G a)))) := by
      unfold Hid; rw [hG, hG]; exact HS.out.swap 1 a pv (by omega) (by omega)
    clear hG
    by_cases hap2 : a = pv
    · subst hap2
      go_big_region
      all_goals go_wp2
      all_goals go_meet
      case rel => exact HSW.out
    · go_big_region
      all_goals go_wp2
      all_goals go_meet
      case rel => exact HSW.out
  case rest =>
    have HSC : Hid (S32 w blk off (swp d a pv) wc) := hcut
    clear hcut
    have hDn : (swp d a pv).size = n := by rw [size_swp]; exact hn
    generalize swp d a pv = D at HSC HPt hDn
    go_wp2

    go_loopg [10] (b - (a + 1)) (fun g x wr => ∃ (z : Nat), x = .int .i64 z ∧ b - z ≤ g ∧ (a + 1) ≤ z ∧ S32 w blk off D wr ∧ Pt p a b P d z j0 D)
    case atStart => exact ⟨(a + 1), rfl, by omega, Nat.le_refl _, HSC.out, HPt.out⟩
    case round =>
      obtain ⟨z1, rfl, hg1, hiz1, hSD, hpt⟩ := hrel
      obtain ⟨G1, hG⟩ := fam D
      obtain ⟨hc, hz⟩ := hSD.cells hDn G1 hG
      have ha1 := hpt.ha
      have hi1 := hpt.hij
      have hjb1 := hpt.hj
      have HSD : Hid (S32 w blk off D wr) := hSD
      have HG1 : Hid (∀ t, G1 t = D[t]!) := hG
      have HGa : Hid (G1 a = P) := by unfold Hid; rw [hG]; exact hpt.ata
      have HPT1 : Hid (Pt p a b P d z1 j0 D) := hpt
      clear hSD hG hpt
      go_upto_region 3 with fail
      go_cut [43] from 30 to 45 (fun x wc => x = .bool (decide (z1 ≤ j0) && p (G1 z1)) ∧ S32 w blk off D wc)
      case first =>
        by_cases hij : z1 ≤ j0
        · have hij' : (z1 : Int) ≤ (j0 : Int) := by omega
          go_quiet (first | (go_at_call 206; refine Calls.quiet_of_same (less32 _ _ _)))
          go_wp2
          go_meet
          case rel => exact ⟨by rw [HGa.out, Hp.out]; simp [hij], HSD.out.ahead _⟩
        · have hij' : decide ((z1 : Int) ≤ (j0 : Int)) = false := decide_eq_false (by omega)
          go_quiet (first | (go_at_call 206; refine Calls.quiet_of_same (less32 _ _ _)))
          go_wp2
          go_meet
          case rel => exact ⟨by simp [hij], HSD.out.ahead _⟩
      case rest =>
        obtain ⟨rfl, hSc⟩ := hcut
        have HS1 : Hid (S32 w blk off D wc) := hSc
        clear hSc hc hz HSD
        generalize hB : (decide (z1 ≤ j0) && p (G1 z1)) = B
        have HB1 : Hid ((decide (z1 ≤ j0) && p (G1 z1)) = B) := hB
        clear hB
        cases B
        · have HX1 : Hid ((decide (z1 ≤ j0) && p (D[z1]!)) = false) := by have := HB1.out; rw [HG1.out] at this; exact this
          clear HB1
          go_wp2

          go_loopg [11] j0 (fun g x wr => ∃ (z : Nat), x = .int .i64 z ∧ z ≤ g ∧ z ≤ j0 ∧ S32 w blk off D wr ∧ Pt p a b P d z1 z D)
          case atStart => exact ⟨j0, rfl, Nat.le_refl _, Nat.le_refl _, HS1.out, HPT1.out⟩
          case round =>
            obtain ⟨z2, rfl, hg2, hzj2, hSD, hpt⟩ := hrel
            obtain ⟨G2, hG⟩ := fam D
            obtain ⟨hc, hz⟩ := hSD.cells hDn G2 hG
            have ha2 := hpt.ha
            have hi2 := hpt.hij
            have hjb2 := hpt.hj
            have HSD : Hid (S32 w blk off D wr) := hSD
            have HG2 : Hid (∀ t, G2 t = D[t]!) := hG
            have HGa : Hid (G2 a = P) := by unfold Hid; rw [hG]; exact hpt.ata
            have HPT2 : Hid (Pt p a b P d z1 z2 D) := hpt
            clear hSD hG hpt
            go_upto_region 5 with fail
            go_cut [60] from 46 to 62 (fun x wc => x = .bool (decide (z1 ≤ z2) && !p (G2 z2)) ∧ S32 w blk off D wc)
            case first =>
              by_cases hij : z1 ≤ z2
              · have hij' : (z1 : Int) ≤ (z2 : Int) := by omega
                go_quiet (first | (go_at_call 206; refine Calls.quiet_of_same (less32 _ _ _)))
                go_wp2
                go_meet
                case rel => exact ⟨by rw [HGa.out, Hp.out]; simp [hij], HSD.out.ahead _⟩
              · have hij' : decide ((z1 : Int) ≤ (z2 : Int)) = false := decide_eq_false (by omega)
                go_quiet (first | (go_at_call 206; refine Calls.quiet_of_same (less32 _ _ _)))
                go_wp2
                go_meet
                case rel => exact ⟨by simp [hij], HSD.out.ahead _⟩
            case rest =>
              obtain ⟨rfl, hSc⟩ := hcut
              have HS2 : Hid (S32 w blk off D wc) := hSc
              clear hSc hc hz HSD
              generalize hB : (decide (z1 ≤ z2) && !p (G2 z2)) = B
              have HB2 : Hid ((decide (z1 ≤ z2) && !p (G2 z2)) = B) := hB
              clear hB
              cases B
              · have HX2 : Hid ((decide (z1 ≤ z2) && !p (D[z2]!)) = false) := by have := HB2.out; rw [HG2.out] at this; exact this
                clear HB2
                by_cases hij : z1 ≤ z2
                · have hij' : ¬ (z2 : Int) < (z1 : Int) := by omega
                  have f1 : p D[z1]! = false := by have := HX1.out; rw [decide_eq_true (show z1 ≤ j0 by omega)] at this; simpa using this
                  have f2 : p D[z2]! = true := by have := HX2.out; rw [decide_eq_true hij] at this; simpa using this
                  have hlt : z1 < z2 := Pt.ne hij f1 f2

                  obtain ⟨G, hG⟩ := fam D
                  obtain ⟨hc, hz⟩ := HS2.out.cells hDn G hG
                  have HSW8 : Hid (S32 w blk off (swp D z1 z2) (((wc.drewN 1).setCell ⟨blk, off + z1, none⟩ (.int .i32 (G z2))).setCell ⟨blk, off + z2, none⟩ (.int .i32 (G z1)))) := by
                    unfold Hid; rw [hG, hG]; exact HS2.out.swap 1 z1 z2 (by omega) (by omega)
                  have HPW8 : Hid (Pt p a b P d (z1 + 1) (z2 - 1) (swp D z1 z2)) := HPT2.out.swap hlt f1 f2
                  clear hG f1 f2
                  go_wp2
                  go_big_region
                  all_goals go_wp2

                  go_loopg [10, 11] b (fun g x y wr => ∃ (i j : Nat) (F : Array Int), x = .int .i64 i ∧ y = .int .i64 j ∧ j + 1 - i ≤ g ∧ F.size = n ∧ S32 w blk off F wr ∧ Pt p a b P d i j F)
                  case atStart => exact ⟨z1 + 1, z2 - 1, swp D z1 z2, by go_num, by congr 1; omega, by omega, by rw [size_swp]; exact hDn, HSW8.out, HPW8.out⟩
                  case round =>
                    obtain ⟨i3, j3, F, rfl, rfl, hg3, hF, hS3, hP3⟩ := hrel
                    have hj3 := hP3.hj
                    have ha3 := hP3.ha
                    have hij3 := hP3.hij
                    have HS3 : Hid (S32 w blk off F wr) := hS3
                    have HPT3 : Hid (Pt p a b P d i3 j3 F) := hP3
                    clear hS3 hP3
                    go_wp2
                    go_loopg [10] (b - i3) (fun g x wr => ∃ (z : Nat), x = .int .i64 z ∧ b - z ≤ g ∧ i3 ≤ z ∧ S32 w blk off F wr ∧ Pt p a b P d z j3 F)
                    case atStart => exact ⟨i3, rfl, by omega, Nat.le_refl _, HS3.out, HPT3.out⟩
                    case round =>
                      obtain ⟨z4, rfl, hg4, hiz4, hSD, hpt⟩ := hrel
                      obtain ⟨G4, hG⟩ := fam F
                      obtain ⟨hc, hz⟩ := hSD.cells hF G4 hG
                      have ha4 := hpt.ha
                      have hi4 := hpt.hij
                      have hjb4 := hpt.hj
                      have HSD : Hid (S32 w blk off F wr) := hSD
                      have HG4 : Hid (∀ t, G4 t = F[t]!) := hG
                      have HGa : Hid (G4 a = P) := by unfold Hid; rw [hG]; exact hpt.ata
                      have HPT4 : Hid (Pt p a b P d z4 j3 F) := hpt
                      clear hSD hG hpt
                      go_upto_region 13 with fail
                      go_cut [112] from 99 to 114 (fun x wc => x = .bool (decide (z4 ≤ j3) && p (G4 z4)) ∧ S32 w blk off F wc)
                      case first =>
                        by_cases hij : z4 ≤ j3
                        · have hij' : (z4 : Int) ≤ (j3 : Int) := by omega
                          go_quiet (first | (go_at_call 206; refine Calls.quiet_of_same (less32 _ _ _)))
                          go_wp2
                          go_meet
                          case rel => exact ⟨by rw [HGa.out, Hp.out]; simp [hij], HSD.out.ahead _⟩
                        · have hij' : decide ((z4 : Int) ≤ (j3 : Int)) = false := decide_eq_false (by omega)
                          go_quiet (first | (go_at_call 206; refine Calls.quiet_of_same (less32 _ _ _)))
                          go_wp2
                          go_meet
                          case rel => exact ⟨by simp [hij], HSD.out.ahead _⟩
                      case rest =>
                        obtain ⟨rfl, hSc⟩ := hcut
                        have HS4 : Hid (S32 w blk off F wc) := hSc
                        clear hSc hc hz HSD
                        generalize hB : (decide (z4 ≤ j3) && p (G4 z4)) = B
                        have HB4 : Hid ((decide (z4 ≤ j3) && p (G4 z4)) = B) := hB
                        clear hB
                        cases B
                        · have HX4 : Hid ((decide (z4 ≤ j3) && p (F[z4]!)) = false) := by have := HB4.out; rw [HG4.out] at this; exact this
                          clear HB4
                          go_wp2

                          go_loopg [11] j3 (fun g x wr => ∃ (z : Nat), x = .int .i64 z ∧ z ≤ g ∧ z ≤ j3 ∧ S32 w blk off F wr ∧ Pt p a b P d z4 z F)
                          case atStart => exact ⟨j3, rfl, Nat.le_refl _, Nat.le_refl _, HS4.out, HPT4.out⟩
                          case round =>
                            obtain ⟨z5, rfl, hg5, hzj5, hSD, hpt⟩ := hrel
                            obtain ⟨G5, hG⟩ := fam F
                            obtain ⟨hc, hz⟩ := hSD.cells hF G5 hG
                            have ha5 := hpt.ha
                            have hi5 := hpt.hij
                            have hjb5 := hpt.hj
                            have HSD : Hid (S32 w blk off F wr) := hSD
                            have HG5 : Hid (∀ t, G5 t = F[t]!) := hG
                            have HGa : Hid (G5 a = P) := by unfold Hid; rw [hG]; exact hpt.ata
                            have HPT5 : Hid (Pt p a b P d z4 z5 F) := hpt
                            clear hSD hG hpt
                            go_upto_region 15 with fail
                            go_cut [129] from 115 to 131 (fun x wc => x = .bool (decide (z4 ≤ z5) && !p (G5 z5)) ∧ S32 w blk off F wc)
                            case first =>
                              by_cases hij : z4 ≤ z5
                              · have hij' : (z4 : Int) ≤ (z5 : Int) := by omega
                                go_quiet (first | (go_at_call 206; refine Calls.quiet_of_same (less32 _ _ _)))
                                go_wp2
                                go_meet
                                case rel => exact ⟨by rw [HGa.out, Hp.out]; simp [hij], HSD.out.ahead _⟩
                              · have hij' : decide ((z4 : Int) ≤ (z5 : Int)) = false := decide_eq_false (by omega)
                                go_quiet (first | (go_at_call 206; refine Calls.quiet_of_same (less32 _ _ _)))
                                go_wp2
                                go_meet
                                case rel => exact ⟨by simp [hij], HSD.out.ahead _⟩
                            case rest =>
                              obtain ⟨rfl, hSc⟩ := hcut
                              have HS5 : Hid (S32 w blk off F wc) := hSc
                              clear hSc hc hz HSD
                              generalize hB : (decide (z4 ≤ z5) && !p (G5 z5)) = B
                              have HB5 : Hid ((decide (z4 ≤ z5) && !p (G5 z5)) = B) := hB
                              clear hB
                              cases B
                              · have HX5 : Hid ((decide (z4 ≤ z5) && !p (F[z5]!)) = false) := by have := HB5.out; rw [HG5.out] at this; exact this
                                clear HB5
                                by_cases hij : z4 ≤ z5
                                · have hij' : ¬ (z5 : Int) < (z4 : Int) := by omega
                                  have f1 : p F[z4]! = false := by have := HX4.out; rw [decide_eq_true (show z4 ≤ j3 by omega)] at this; simpa using this
                                  have f2 : p F[z5]! = true := by have := HX5.out; rw [decide_eq_true hij] at this; simpa using this
                                  have hlt : z4 < z5 := Pt.ne hij f1 f2

                                  obtain ⟨G, hG⟩ := fam F
                                  obtain ⟨hc, hz⟩ := HS5.out.cells hF G hG
                                  have HSW9 : Hid (S32 w blk off (swp F z4 z5) (((wc.drewN 1).setCell ⟨blk, off + z4, none⟩ (.int .i32 (G z5))).setCell ⟨blk, off + z5, none⟩ (.int .i32 (G z4)))) := by
                                    unfold Hid; rw [hG, hG]; exact HS5.out.swap 1 z4 z5 (by omega) (by omega)
                                  have HPW9 : Hid (Pt p a b P d (z4 + 1) (z5 - 1) (swp F z4 z5)) := HPT5.out.swap hlt f1 f2
                                  clear hG f1 f2
                                  go_wp2
                                  go_big_region
                                  all_goals go_wp2

                                  go_roundg (z5 - 1 + 1 - (z4 + 1))
                                  case measure => omega
                                  case rel => exact ⟨z4 + 1, z5 - 1, swp F z4 z5, by go_num, by congr 1; omega, Nat.le_refl _, by rw [size_swp]; exact hF, HSW9.out, HPW9.out⟩
                                · have hij' : (z5 : Int) < (z4 : Int) := by omega
                                  have haz : a < z4 := ha4
                                  go_upto_region 21 with fail
                                  go_cut [] from 153 (fun wc => S32 w blk off (swp F z5 a) wc)
                                  case first =>
                                    obtain ⟨G, hG⟩ := fam F
                                    obtain ⟨hc, hz⟩ := HS5.out.cells hF G hG
                                    have HSW : Hid (S32 w blk off (swp F z5 a) (((wc.drewN 1).setCell ⟨blk, off + z5, none⟩ (.int .i32 (G a))).setCell ⟨blk, off + a, none⟩ (.int .i32 (G z5)))) := by
                                      unfold Hid; rw [hG, hG]; exact HS5.out.swap 1 z5 a (by omega) (by omega)
                                    clear hG
                                    by_cases hap2 : z5 = a
                                    · subst hap2
                                      go_big_region
                                      all_goals go_wp2
                                      all_goals go_meet
                                      case rel => exact HSW.out
                                    · go_big_region
                                      all_goals go_wp2
                                      all_goals go_meet
                                      case rel => exact HSW.out
                                  case rest =>
                                    have HSe : Hid (S32 w blk off (swp F z5 a) wc) := hcut
                                    clear hcut
                                    have hF := HFin.out z4 z5 F HPT5.out (by omega)
                                    go_wp2
                                    go_ret2
                                    exact ⟨z5, false, swp F z5 a, rfl, HSe.out, hF⟩

                              · go_wp2
                                go_roundg (z5 - 1)
                                case measure => have := HB5.out; simp at this; omega
                                case rel =>
                                  have := HB5.out
                                  rw [HG5.out] at this
                                  simp only [Bool.and_eq_true, decide_eq_true_eq] at this
                                  exact ⟨z5 - 1, by congr 1; omega, Nat.le_refl _, by omega, HS5.out, HPT5.out.down this.1 (by simpa using this.2)⟩

                        · go_wp2
                          go_roundg (b - (z4 + 1))
                          case measure => have := HB4.out; simp at this; omega
                          case rel =>
                            have := HB4.out
                            rw [HG4.out] at this
                            simp only [Bool.and_eq_true, decide_eq_true_eq] at this
                            exact ⟨z4 + 1, by go_num, Nat.le_refl _, by omega, HS4.out, HPT4.out.up this.1 this.2⟩
                · have hij' : (z2 : Int) < (z1 : Int) := by omega
                  have haz : a < z1 := ha1
                  go_upto_region 8 with fail
                  go_cut [] from 66 (fun wc => S32 w blk off (swp D z2 a) wc)
                  case first =>
                    obtain ⟨G, hG⟩ := fam D
                    obtain ⟨hc, hz⟩ := HS2.out.cells hDn G hG
                    have HSW : Hid (S32 w blk off (swp D z2 a) (((wc.drewN 1).setCell ⟨blk, off + z2, none⟩ (.int .i32 (G a))).setCell ⟨blk, off + a, none⟩ (.int .i32 (G z2)))) := by
                      unfold Hid; rw [hG, hG]; exact HS2.out.swap 1 z2 a (by omega) (by omega)
                    clear hG
                    by_cases hap2 : z2 = a
                    · subst hap2
                      go_big_region
                      all_goals go_wp2
                      all_goals go_meet
                      case rel => exact HSW.out
                    · go_big_region
                      all_goals go_wp2
                      all_goals go_meet
                      case rel => exact HSW.out
                  case rest =>
                    have HSe : Hid (S32 w blk off (swp D z2 a) wc) := hcut
                    clear hcut
                    have hF := HFin.out z1 z2 D HPT2.out (by omega)
                    go_wp2
                    go_ret2
                    exact ⟨z2, true, swp D z2 a, rfl, HSe.out, hF⟩

              · go_wp2
                go_roundg (z2 - 1)
                case measure => have := HB2.out; simp at this; omega
                case rel =>
                  have := HB2.out
                  rw [HG2.out] at this
                  simp only [Bool.and_eq_true, decide_eq_true_eq] at this
                  exact ⟨z2 - 1, by congr 1; omega, Nat.le_refl _, by omega, HS2.out, HPT2.out.down this.1 (by simpa using this.2)⟩

        · go_wp2
          go_roundg (b - (z1 + 1))
          case measure => have := HB1.out; simp at this; omega
          case rel =>
            have := HB1.out
            rw [HG1.out] at this
            simp only [Bool.and_eq_true, decide_eq_true_eq] at this
            exact ⟨z1 + 1, by go_num, Nat.le_refl _, by omega, HS1.out, HPT1.out.up this.1 this.2⟩

end Go.Proofs.YtkaaldhejpaiiaaGreatDoor

/- The library's sort at runes: partitionEqualOrdered. -/
namespace Go.Proofs.YtkaaldhejpaiiaaGreatDoor
open Go.RowKit Go.Sort

/-- partitionEqualOrdered's end. -/
theorem Pt.finEq {p : Int → Bool} {a b : Nat} {P : Int} {d : Array Int} {i j : Nat} {D : Array Int} (hp : ∀ x, p x = !ltInt P x) (h : Pt p a b P d i j D) (hji : j < i) :
    a < i ∧ i ≤ b ∧ PermIn a b d D ∧ (∀ t, a ≤ t → t < i → ltInt P D[t]! = false) ∧ (∀ t, i ≤ t → t < b → ltInt P D[t]! = true) := by
  have hb := h.hb; have hj := h.hj; have ha := h.ha; have hij := h.hij; have hP := h.ata
  refine ⟨ha, by omega, h.perm, ?_, ?_⟩
  · intro t h1 h2
    by_cases e : t = a
    · rw [e, hP]; simp [ltInt]
    · have := h.lo t (by omega) h2
      rw [hp] at this
      simpa using this
  · intro t h1 h2
    have := h.hi t (by omega) h2
    rw [hp] at this
    simpa using this

set_option maxHeartbeats 16000000 in
set_option maxRecDepth 100000 in
theorem parteq32 (blk off n cap a b pv : Nat) (d : Array Int) (w : World) (hn : d.size = n) (hH : Holds (Value.int .i32) w blk off d) (hblk : blk < w.heap.size) (hap : a ≤ pv) (hpb : pv < b) (hb : b ≤ n) (hsz : n ≤ 1000000) :
    Calls Tryz.prog 207 #[.slice (some ⟨blk, off, none⟩) n cap, .int .i64 a, .int .i64 b, .int .i64 pv] w fun e w' =>
      ∃ (i : Nat) (d' : Array Int), e = .returned (.int .i64 i) ∧ S32 w blk off d' w' ∧ a < i ∧ i ≤ b ∧ PermIn a b d d' ∧ (∀ t, a ≤ t → t < i → ltInt d[pv]! d'[t]! = false) ∧ (∀ t, i ≤ t → t < b → ltInt d[pv]! d'[t]! = true) := by
  have HS : Hid (S32 w blk off d w) := S32.refl hH hblk
  obtain ⟨P, hP⟩ : ∃ P, d[pv]! = P := ⟨_, rfl⟩
  obtain ⟨p, hp⟩ : ∃ p : Int → Bool, ∀ x, p x = !ltInt P x := ⟨_, fun _ => rfl⟩
  have Hp : Hid (∀ x, p x = !ltInt P x) := hp
  have HPt : Hid (Pt p a b P d (a + 1) (b - 1) (swp d a pv)) := by unfold Hid; rw [← hP]; exact Pt.start hap hpb (by omega)
  rw [hP]
  obtain ⟨j0, hj0⟩ : ∃ j0, j0 + 1 = b := ⟨b - 1, by omega⟩
  rw [show b - 1 = j0 by omega] at HPt
  have hbj : (b : Int) - 1 = (j0 : Int) := by omega
  have hjb : j0 < b := by omega
  have hjb2 : b ≤ j0 + 1 := by omega
  clear hH hP hj0 hp
  go_enter Tryz.func207, Tryz.ntmps207
  go_upto_region 1 with fail
  go_cut [] from 11 (fun wc => S32 w blk off (swp d a pv) wc)
  case first =>
    obtain ⟨G, hG⟩ := fam d
    obtain ⟨hc, hz⟩ := HS.out.cells hn G hG
    have HSW : Hid (S32 w blk off (swp d a pv) (((w.drewN 1).setCell ⟨blk, off + a, none⟩ (.int .i32 (G pv))).setCell ⟨blk, off + pv, none⟩ (.int .i32 (G a)))) := by
      unfold Hid; rw [hG, hG]; exact HS.out.swap 1 a pv (by omega) (by omega)
    clear hG
    by_cases hap2 : a = pv
    · subst hap2
      go_big_region
      all_goals go_wp2
      all_goals go_meet
      case rel => exact HSW.out
    · go_big_region
      all_goals go_wp2
      all_goals go_meet
      case rel => exact HSW.out
  case rest =>
    have HSC : Hid (S32 w blk off (swp d a pv) wc) := hcut
    clear hcut
    have hDn : (swp d a pv).size = n := by rw [size_swp]; exact hn
    generalize swp d a pv = D at HSC HPt hDn
    go_wp2

    go_loopg [9, 10] b (fun g x y wr => ∃ (i j : Nat) (F : Array Int), x = .int .i64 i ∧ y = .int .i64 j ∧ j + 1 - i ≤ g ∧ F.size = n ∧ S32 w blk off F wr ∧ Pt p a b P d i j F)
    case atStart => exact ⟨a + 1, j0, D, by go_num, rfl, by omega, hDn, HSC.out, HPt.out⟩
    case round =>
      obtain ⟨i3, j3, F, rfl, rfl, hg3, hF, hS3, hP3⟩ := hrel
      have hj3 := hP3.hj
      have ha3 := hP3.ha
      have hij3 := hP3.hij
      have HS3 : Hid (S32 w blk off F wr) := hS3
      have HPT3 : Hid (Pt p a b P d i3 j3 F) := hP3
      clear hS3 hP3
      go_wp2
      go_loopg [9] (b - i3) (fun g x wr => ∃ (z : Nat), x = .int .i64 z ∧ b - z ≤ g ∧ i3 ≤ z ∧ S32 w blk off F wr ∧ Pt p a b P d z j3 F)
      case atStart => exact ⟨i3, rfl, by omega, Nat.le_refl _, HS3.out, HPT3.out⟩
      case round =>
        obtain ⟨z4, rfl, hg4, hiz4, hSD, hpt⟩ := hrel
        obtain ⟨G4, hG⟩ := fam F
        obtain ⟨hc, hz⟩ := hSD.cells hF G4 hG
        have ha4 := hpt.ha
        have hi4 := hpt.hij
        have hjb4 := hpt.hj
        have HSD : Hid (S32 w blk off F wr) := hSD
        have HG4 : Hid (∀ t, G4 t = F[t]!) := hG
        have HGa : Hid (G4 a = P) := by unfold Hid; rw [hG]; exact hpt.ata
        have HPT4 : Hid (Pt p a b P d z4 j3 F) := hpt
        clear hSD hG hpt
        go_upto_region 3 with fail
        go_cut [43] from 29 to 45 (fun x wc => x = .bool (decide (z4 ≤ j3) && p (G4 z4)) ∧ S32 w blk off F wc)
        case first =>
          by_cases hij : z4 ≤ j3
          · have hij' : (z4 : Int) ≤ (j3 : Int) := by omega
            go_quiet (first | (go_at_call 206; refine Calls.quiet_of_same (less32 _ _ _)))
            go_wp2
            go_meet
            case rel => exact ⟨by rw [HGa.out, Hp.out]; simp [hij], HSD.out.ahead _⟩
          · have hij' : decide ((z4 : Int) ≤ (j3 : Int)) = false := decide_eq_false (by omega)
            go_quiet (first | (go_at_call 206; refine Calls.quiet_of_same (less32 _ _ _)))
            go_wp2
            go_meet
            case rel => exact ⟨by simp [hij], HSD.out.ahead _⟩
        case rest =>
          obtain ⟨rfl, hSc⟩ := hcut
          have HS4 : Hid (S32 w blk off F wc) := hSc
          clear hSc hc hz HSD
          generalize hB : (decide (z4 ≤ j3) && p (G4 z4)) = B
          have HB4 : Hid ((decide (z4 ≤ j3) && p (G4 z4)) = B) := hB
          clear hB
          cases B
          · have HX4 : Hid ((decide (z4 ≤ j3) && p (F[z4]!)) = false) := by have := HB4.out; rw [HG4.out] at this; exact this
            clear HB4
            go_wp2

            go_loopg [10] j3 (fun g x wr => ∃ (z : Nat), x = .int .i64 z ∧ z ≤ g ∧ z ≤ j3 ∧ S32 w blk off F wr ∧ Pt p a b P d z4 z F)
            case atStart => exact ⟨j3, rfl, Nat.le_refl _, Nat.le_refl _, HS4.out, HPT4.out⟩
            case round =>
              obtain ⟨z5, rfl, hg5, hzj5, hSD, hpt⟩ := hrel
              obtain ⟨G5, hG⟩ := fam F
              obtain ⟨hc, hz⟩ := hSD.cells hF G5 hG
              have ha5 := hpt.ha
              have hi5 := hpt.hij
              have hjb5 := hpt.hj
              have HSD : Hid (S32 w blk off F wr) := hSD
              have HG5 : Hid (∀ t, G5 t = F[t]!) := hG
              have HGa : Hid (G5 a = P) := by unfold Hid; rw [hG]; exact hpt.ata
              have HPT5 : Hid (Pt p a b P d z4 z5 F) := hpt
              clear hSD hG hpt
              go_upto_region 5 with fail
              go_cut [59] from 46 to 61 (fun x wc => x = .bool (decide (z4 ≤ z5) && !p (G5 z5)) ∧ S32 w blk off F wc)
              case first =>
                by_cases hij : z4 ≤ z5
                · have hij' : (z4 : Int) ≤ (z5 : Int) := by omega
                  go_quiet (first | (go_at_call 206; refine Calls.quiet_of_same (less32 _ _ _)))
                  go_wp2
                  go_meet
                  case rel => exact ⟨by rw [HGa.out, Hp.out]; simp [hij], HSD.out.ahead _⟩
                · have hij' : decide ((z4 : Int) ≤ (z5 : Int)) = false := decide_eq_false (by omega)
                  go_quiet (first | (go_at_call 206; refine Calls.quiet_of_same (less32 _ _ _)))
                  go_wp2
                  go_meet
                  case rel => exact ⟨by simp [hij], HSD.out.ahead _⟩
              case rest =>
                obtain ⟨rfl, hSc⟩ := hcut
                have HS5 : Hid (S32 w blk off F wc) := hSc
                clear hSc hc hz HSD
                generalize hB : (decide (z4 ≤ z5) && !p (G5 z5)) = B
                have HB5 : Hid ((decide (z4 ≤ z5) && !p (G5 z5)) = B) := hB
                clear hB
                cases B
                · have HX5 : Hid ((decide (z4 ≤ z5) && !p (F[z5]!)) = false) := by have := HB5.out; rw [HG5.out] at this; exact this
                  clear HB5
                  by_cases hij : z4 ≤ z5
                  · have hij' : ¬ (z5 : Int) < (z4 : Int) := by omega
                    have f1 : p F[z4]! = false := by have := HX4.out; rw [decide_eq_true (show z4 ≤ j3 by omega)] at this; simpa using this
                    have f2 : p F[z5]! = true := by have := HX5.out; rw [decide_eq_true hij] at this; simpa using this
                    have hlt : z4 < z5 := Pt.ne hij f1 f2

                    obtain ⟨G, hG⟩ := fam F
                    obtain ⟨hc, hz⟩ := HS5.out.cells hF G hG
                    have HSW9 : Hid (S32 w blk off (swp F z4 z5) (((wc.drewN 1).setCell ⟨blk, off + z4, none⟩ (.int .i32 (G z5))).setCell ⟨blk, off + z5, none⟩ (.int .i32 (G z4)))) := by
                      unfold Hid; rw [hG, hG]; exact HS5.out.swap 1 z4 z5 (by omega) (by omega)
                    have HPW9 : Hid (Pt p a b P d (z4 + 1) (z5 - 1) (swp F z4 z5)) := HPT5.out.swap hlt f1 f2
                    clear hG f1 f2
                    go_wp2
                    go_big_region
                    all_goals go_wp2

                    go_roundg (z5 - 1 + 1 - (z4 + 1))
                    case measure => omega
                    case rel => exact ⟨z4 + 1, z5 - 1, swp F z4 z5, by go_num, by congr 1; omega, Nat.le_refl _, by rw [size_swp]; exact hF, HSW9.out, HPW9.out⟩
                  · have hij' : (z5 : Int) < (z4 : Int) := by omega
                    have hF5 := Pt.finEq Hp.out HPT5.out (by omega)
                    go_wp2
                    go_ret
                    exact ⟨z4, F, rfl, HS5.out, hF5⟩

                · go_wp2
                  go_roundg (z5 - 1)
                  case measure => have := HB5.out; simp at this; omega
                  case rel =>
                    have := HB5.out
                    rw [HG5.out] at this
                    simp only [Bool.and_eq_true, decide_eq_true_eq] at this
                    exact ⟨z5 - 1, by congr 1; omega, Nat.le_refl _, by omega, HS5.out, HPT5.out.down this.1 (by simpa using this.2)⟩

          · go_wp2
            go_roundg (b - (z4 + 1))
            case measure => have := HB4.out; simp at this; omega
            case rel =>
              have := HB4.out
              rw [HG4.out] at this
              simp only [Bool.and_eq_true, decide_eq_true_eq] at this
              exact ⟨z4 + 1, by go_num, Nat.le_refl _, by omega, HS4.out, HPT4.out.up this.1 this.2⟩

end Go.Proofs.YtkaaldhejpaiiaaGreatDoor

