/- The library's sort at runes: reverseRangeOrdered. -/
import Derived.Test.YtgkepdjgopoljaaDoorXb
namespace Go.Proofs.YtgkepdjgopoljaaDoor
open Go.RowKit Go.Sort

set_option maxHeartbeats 4000000 in
set_option maxRecDepth 100000 in
theorem rev32 (blk off n cap a b : Nat) (d : Array Int) (w : World) (hn : d.size = n) (hH : Holds (Value.int .i32) w blk off d) (hblk : blk < w.heap.size) (hab : a < b) (hb : b ≤ n) (hsz : n ≤ 1000000) :
    Calls Tryd.prog 77 #[.slice (some ⟨blk, off, none⟩) n cap, .int .i64 a, .int .i64 b] w fun e w' =>
      e = .returned (.tuple #[]) ∧ ∃ d', S32 w blk off d' w' ∧ PermIn a b d d' := by
  have HS : Hid (S32 w blk off d w) := S32.refl hH hblk
  clear hH
  go_enter Tryd.func77, Tryd.ntmps77
  go_wp2
  go_loopg [6, 7] (b - a) (fun g x y wr => ∃ (i j : Nat) (D : Array Int), x = .int .i64 i ∧ y = .int .i64 j ∧ a ≤ i ∧ j < b ∧ b - i ≤ g ∧ i ≤ b ∧ a ≤ j + 1 ∧ i ≤ j + 2 ∧ D.size = n ∧ S32 w blk off D wr ∧ PermIn a b d D)
  case atStart => exact ⟨a, b - 1, d, rfl, by congr 1; omega, by omega, by omega, by omega, by omega, by omega, by omega, hn, HS.out, permIn_refl _ _ _⟩
  case round =>
    obtain ⟨i, j, D, rfl, rfl, h1, h2, hg, h3, h4, h5, hD, hSD, hP⟩ := hrel
    by_cases hij : i < j
    · obtain ⟨G, hG⟩ := fam D
      obtain ⟨hc, hz⟩ := hSD.cells hD G hG
      have hSw := hSD.swap 1 i j (by omega) (by omega)
      rw [← hG, ← hG] at hSw
      have HSW : Hid _ := hSw
      have HP : Hid (PermIn a b d D) := hP
      clear hSw hP hSD hG
      go_wp2
      go_region
      all_goals go_wp2
      go_roundg (b - (i + 1))
      case measure => omega
      case rel =>
        exact ⟨i + 1, j - 1, swp D i j, by go_num, by congr 1; omega, by omega, by omega, Nat.le_refl _, by omega, by omega, by omega, by rw [size_swp]; exact hD, HSW.out, permIn_trans _ _ _ _ _ HP.out (swp_permIn D a b i j h1 (by omega) (by omega) h2 (by omega))⟩
    · go_wp2
      go_end0
      exact ⟨rfl, D, hSD, hP⟩

end Go.Proofs.YtgkepdjgopoljaaDoor
