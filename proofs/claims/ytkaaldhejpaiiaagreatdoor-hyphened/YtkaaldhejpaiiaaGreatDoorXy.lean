/- Xc Xd, in one. -/
import Derived.Test.YtkaaldhejpaiiaaGreatDoorXb
/- The library's sort at runes: heapSortOrdered. -/
namespace Go.Proofs.YtkaaldhejpaiiaaGreatDoor
open Go.RowKit Go.Sort

set_option maxHeartbeats 4000000 in
set_option maxRecDepth 100000 in
theorem heap32 (blk off n cap a b : Nat) (d : Array Int) (w : World) (hn : d.size = n) (hH : Holds (Value.int .i32) w blk off d) (hblk : blk < w.heap.size) (hab : a ≤ b) (hb : b ≤ n) (hsz : n ≤ 1000000) :
    Calls Tryz.prog 201 #[.slice (some ⟨blk, off, none⟩) n cap, .int .i64 a, .int .i64 b] w fun e w' =>
      e = .returned (.tuple #[]) ∧ S32 w blk off (heapSort ltInt d a b) w' := by
  have HS : Hid (S32 w blk off d w) := S32.refl hH hblk
  have hst := half_start hab
  clear hH
  obtain ⟨K, hK⟩ : ∃ K, (b - a - 1) / 2 + 1 = K := ⟨_, rfl⟩
  rw [hK] at hst
  have HK : Hid ((b - a - 1) / 2 + 1 = K) := hK
  have hKl : K ≤ b - a + 1 := by omega
  have hKl2 : K = 1 ∨ K ≤ b - a := by omega
  clear hK
  go_enter Tryz.func201, Tryz.ntmps201
  go_wp2
  go_loopg [9] K (fun g x wr => ∃ (k : Nat) (D : Array Int), x = .int .i64 ((k : Int) - 1) ∧ k ≤ g ∧ k ≤ K ∧ D.size = n ∧ S32 w blk off D wr ∧ heapPop ltInt a (b - a) (heapBuild ltInt (b - a) a k D) = heapSort ltInt d a b)
  case atStart => exact ⟨K, d, rfl, Nat.le_refl _, Nat.le_refl _, hn, HS.out, by rw [heapSort, HK.out]⟩
  case round =>
    obtain ⟨k, D, rfl, hg, hkK, hD, hSD, hO⟩ := hrel
    have HSD : Hid (S32 w blk off D wr) := hSD
    have HO : Hid (heapPop ltInt a (b - a) (heapBuild ltInt (b - a) a k D) = heapSort ltInt d a b) := hO
    clear hO hSD
    by_cases hk0 : 0 < k
    · obtain ⟨i, rfl⟩ : ∃ i, k = i + 1 := ⟨k - 1, by omega⟩
      have hki : ((i + 1 : Nat) : Int) - 1 = (i : Int) := by omega
      have hba : (b : Int) - (a : Int) = ((b - a : Nat) : Int) := by omega
      have hil : i ≤ b - a := by omega
      have hcall := sift32 blk off n cap i (b - a) a D wr hD HSD.out.holds HSD.out.lt hil (by omega) hsz
      rw [← hba] at hcall
      clear hba
      rw [hki]
      have h0 : (0 : Int) ≤ (i : Int) := by omega
      go_wp2_with (go_at_call 213; refine hcall.mono ?_; rintro e w' ⟨rfl, hw'⟩)
      go_roundg i
      case measure => omega
      case rel =>
        refine ⟨i, siftDown ltInt (b - a) a i D, rfl, Nat.le_refl _, by omega, ?_, HSD.out.trans hw' ?_, ?_⟩
        · rw [size_siftDown ltInt _ _ _ _ _ (Nat.le_refl _)]; exact hD
        · rw [size_siftDown ltInt _ _ _ _ _ (Nat.le_refl _)]
        · rw [← HO.out]; rfl
    · obtain rfl : k = 0 := by omega
      have HO2 : Hid (heapPop ltInt a (b - a) D = heapSort ltInt d a b) := by have := HO.out; exact this
      clear HO
      go_wp2
      go_loopg [10] (b - a) (fun g x wr2 => ∃ (k : Nat) (F : Array Int), x = .int .i64 ((k : Int) - 1) ∧ k ≤ g ∧ k ≤ b - a ∧ F.size = n ∧ S32 w blk off F wr2 ∧ heapPop ltInt a k F = heapSort ltInt d a b)
      case atStart => exact ⟨b - a, D, by congr 1; omega, Nat.le_refl _, Nat.le_refl _, hD, HSD.out, HO2.out⟩
      case round =>
        obtain ⟨k, F, rfl, hg2, hkb, hF, hSF, hP⟩ := hrel
        by_cases hk0 : 0 < k
        · obtain ⟨i, rfl⟩ : ∃ i, k = i + 1 := ⟨k - 1, by omega⟩
          have hki : ((i + 1 : Nat) : Int) - 1 = (i : Int) := by omega
          obtain ⟨G, hG⟩ := fam F
          obtain ⟨hc, hz⟩ := hSF.cells hF G hG
          have HSW : Hid (S32 w blk off (swp F a (a + i)) (((wr.drewN 1).setCell ⟨blk, off + a, none⟩ (.int .i32 (G (a + i)))).setCell ⟨blk, off + (a + i), none⟩ (.int .i32 (G a)))) := by
            unfold Hid; rw [hG, hG]; exact hSF.swap 1 a (a + i) (by omega) (by omega)
          have hSs : (swp F a (a + i)).size = n := by rw [size_swp]; exact hF
          have HP : Hid (heapPop ltInt a (i + 1) F = heapSort ltInt d a b) := hP
          rw [hki]
          have h0 : (0 : Int) ≤ (i : Int) := by omega
          clear hP hSF hG
          go_upto_region 10 with fail
          go_cut [] from 29 to 55 (fun wc => S32 w blk off (swp F a (a + i)) wc)
          case first =>
            by_cases hi0 : i = 0
            · subst hi0
              go_big_region
              all_goals go_wp2
              all_goals go_meet
              case rel => exact HSW.out
            · go_big_region
              all_goals go_wp2
              all_goals go_meet
              case rel => exact HSW.out
          have hcall := sift32 blk off n cap 0 i a (swp F a (a + i)) wc hSs hcut.holds hcut.lt (by omega) (by omega) hsz
          go_wp2_with (go_at_call 213; refine hcall.mono ?_; rintro e w' ⟨rfl, hw'⟩)
          go_roundg i
          case measure => omega
          case rel =>
            refine ⟨i, siftDown ltInt i a 0 (swp F a (a + i)), rfl, Nat.le_refl _, by omega, ?_, hcut.trans hw' ?_, ?_⟩
            · rw [size_siftDown ltInt _ _ _ _ _ (Nat.le_refl _)]; exact hSs
            · rw [size_siftDown ltInt _ _ _ _ _ (Nat.le_refl _)]
            · rw [← HP.out]; rfl
        · obtain rfl : k = 0 := by omega
          go_wp2
          go_end0
          exact ⟨rfl, by rw [← hP]; exact hSF⟩

end Go.Proofs.YtkaaldhejpaiiaaGreatDoor

/- The library's sort at runes: reverseRangeOrdered. -/
namespace Go.Proofs.YtkaaldhejpaiiaaGreatDoor
open Go.RowKit Go.Sort

set_option maxHeartbeats 4000000 in
set_option maxRecDepth 100000 in
theorem rev32 (blk off n cap a b : Nat) (d : Array Int) (w : World) (hn : d.size = n) (hH : Holds (Value.int .i32) w blk off d) (hblk : blk < w.heap.size) (hab : a < b) (hb : b ≤ n) (hsz : n ≤ 1000000) :
    Calls Tryz.prog 204 #[.slice (some ⟨blk, off, none⟩) n cap, .int .i64 a, .int .i64 b] w fun e w' =>
      e = .returned (.tuple #[]) ∧ ∃ d', S32 w blk off d' w' ∧ PermIn a b d d' := by
  have HS : Hid (S32 w blk off d w) := S32.refl hH hblk
  clear hH
  go_enter Tryz.func204, Tryz.ntmps204
  go_wp2
  go_loopg [6, 7] (b - a) (fun g x y wr => ∃ (i j : Nat) (D : Array Int), x = .int .i64 i ∧ y = .int .i64 j ∧ a ≤ i ∧ j < b ∧ b - i ≤ g ∧ i ≤ b ∧ a ≤ j + 1 ∧ i ≤ j + 2 ∧ D.size = n ∧ S32 w blk off D wr ∧ PermIn a b d D)
  case atStart => exact ⟨a, b - 1, d, rfl, by congr 1; omega, by omega, by omega, by omega, by omega, by omega, by omega, hn, HS.out, permIn_refl _ _ _⟩
  case round =>
    obtain ⟨i, j, D, rfl, rfl, h1, h2, hg, h3, h4, h5, hD, hSD, hP⟩ := hrel
    by_cases hij : i < j
    · obtain ⟨G, hG⟩ := fam D
      obtain ⟨hc, hz⟩ := hSD.cells hD G hG
      have hSw := hSD.swap 1 i j (by omega) (by omega)
      rw [← hG, ← hG] at hSw
      have HSW : Hid _ := hSw
      have HP : Hid (PermIn a b d D) := hP
      clear hSw hP hSD hG
      go_wp2
      go_region
      all_goals go_wp2
      go_roundg (b - (i + 1))
      case measure => omega
      case rel =>
        exact ⟨i + 1, j - 1, swp D i j, by go_num, by congr 1; omega, by omega, by omega, Nat.le_refl _, by omega, by omega, by omega, by rw [size_swp]; exact hD, HSW.out, permIn_trans _ _ _ _ _ HP.out (swp_permIn D a b i j h1 (by omega) (by omega) h2 (by omega))⟩
    · go_wp2
      go_end0
      exact ⟨rfl, D, hSD, hP⟩

end Go.Proofs.YtkaaldhejpaiiaaGreatDoor

