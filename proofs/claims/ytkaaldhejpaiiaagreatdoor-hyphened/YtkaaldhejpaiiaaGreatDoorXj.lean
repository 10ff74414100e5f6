/- The library's sort at runes: a block of its own; breakPatternsOrdered. -/
import Derived.Test.YtkaaldhejpaiiaaGreatDoorXe
import Derived.Test.YtkaaldhejpaiiaaGreatDoorXi
import Derived.Sort.Walk7
namespace Go.Proofs.YtkaaldhejpaiiaaGreatDoor
open Go.RowKit Go.Sort

theorem S32.alloc {w wr : World} {blk off : Nat} {d : Array Int} (h : S32 w blk off d wr) (o : Obj) : S32 w blk off d (wr.alloc o) := by
  have hg : wr.alloc o = grow wr #[o] := alloc_eq_grow wr o
  rw [hg]
  refine ⟨?_, holds_grow _ _ _ _ _ _ h.lt h.holds, by have := h.lt; simp; omega, h.lt0⟩
  obtain ⟨n, os, rfl⟩ := h.at'
  exact ⟨n, os ++ #[o], grow_grow _ _ _⟩
theorem S32.set {w wr : World} {blk off : Nat} {d : Array Int} (h : S32 w blk off d wr) (rb : Nat) (v : Value) (hr : w.heap.size ≤ rb) : S32 w blk off d (wr.setCell ⟨rb, 0, none⟩ v) := by
  have h0 := h.lt0
  have e : wr.setCell ⟨rb, 0, none⟩ v = mapBlock wr rb (·.setIfInBounds 0 v) := setCell_eq _ _ _ _
  rw [e]
  refine ⟨?_, ?_, ?_, h.lt0⟩
  · obtain ⟨n, os, rfl⟩ := h.at'
    exact ⟨n, _, mapBlock_grow_new _ _ _ _ (by simpa using hr)⟩
  · intro j hj
    have hh := h.holds j hj
    rw [frozen?_mapBlock]
    refine ⟨?_, hh.2⟩
    rw [← hh.1]
    unfold mapBlock World.cell?
    simp only [Array.getElem?_modify]
    rw [if_neg (by omega)]
  · have := h.lt; simpa [mapBlock] using this

theorem new_cell (w : World) (v : Value) (T : TypeId) : (w.alloc (Obj.cells #[v] T)).cell? ⟨w.heap.size, 0, none⟩ = some v ∧ (w.alloc (Obj.cells #[v] T)).frozen? ⟨w.heap.size, 0, none⟩ = false := by
  rw [alloc_eq_grow]
  exact ⟨grow_one_cell _ _ _, grow_one_frozen _ _ _⟩
/-- Behind two stores into the row another block's cell is as it was. -/
theorem aside_cell {w : World} {blk rb i j : Nat} {u v x : Value} (hne : rb ≠ blk) (hc : w.cell? ⟨rb, 0, none⟩ = some x) (hf : w.frozen? ⟨rb, 0, none⟩ = false) :
    ((w.setCell ⟨blk, i, none⟩ u).setCell ⟨blk, j, none⟩ v).cell? ⟨rb, 0, none⟩ = some x ∧ ((w.setCell ⟨blk, i, none⟩ u).setCell ⟨blk, j, none⟩ v).frozen? ⟨rb, 0, none⟩ = false := by
  rw [setCell_eq, setCell_eq, mapBlock_mapBlock, frozen?_mapBlock]
  refine ⟨?_, hf⟩
  rw [← hc]
  unfold mapBlock World.cell?
  simp only [Array.getElem?_modify]
  rw [if_neg (by omega)]

theorem and_low (Y M : Nat) (hY : Y < 18446744073709551616) (h1 : 1 ≤ M) (h2 : M ≤ 4000000) : ∃ O : Nat, O < M ∧ bits .and .u64 (Y : Int) ((M : Int) - 1) = (O : Int) := by
  refine ⟨Y &&& (M - 1), ?_, ?_⟩
  · have : Y &&& (M - 1) ≤ M - 1 := Nat.and_le_right
    omega
  · rw [show ((M : Int) - 1) = ((M - 1 : Nat) : Int) by omega, bits_and_u64_nat _ _ hY (by omega)]
theorem set_same {w : World} {rb : Nat} {u v : Value} (hc : w.cell? ⟨rb, 0, none⟩ = some u) (hf : w.frozen? ⟨rb, 0, none⟩ = false) :
    ((w.setCell ⟨rb, 0, none⟩ v).drewN 3).cell? ⟨rb, 0, none⟩ = some v ∧ ((w.setCell ⟨rb, 0, none⟩ v).drewN 3).frozen? ⟨rb, 0, none⟩ = false := by
  obtain ⟨c, e, fr, hb, hk⟩ := cells_of_cell? hc
  have hlt : 0 < c.size := by
    rcases Nat.eq_zero_or_pos c.size with h | h
    · rw [Array.getElem?_eq_none (by omega)] at hk; cases hk
    · exact h
  show (w.setCell ⟨rb, 0, none⟩ v).cell? ⟨rb, 0, none⟩ = some v ∧ (w.setCell ⟨rb, 0, none⟩ v).frozen? ⟨rb, 0, none⟩ = false
  rw [setCell_eq, frozen?_mapBlock, cell?_mapBlock w rb 0 _ hb]
  exact ⟨by simp [hlt], hf⟩

set_option maxHeartbeats 8000000 in
set_option maxRecDepth 100000 in
theorem brk32 (blk off n cap a L : Nat) (d : Array Int) (w : World) (hn : d.size = n) (hH : Holds (Value.int .i32) w blk off d) (hblk : blk < w.heap.size) (hb : a + L ≤ n) (hsz : n ≤ 1000000) (h8 : 8 ≤ L) :
    Calls Tryz.prog 202 #[.slice (some ⟨blk, off, none⟩) n cap, .int .i64 a, .int .i64 ((a + L : Nat) : Int)] w fun e w' =>
      e = .returned (.tuple #[]) ∧ ∃ d', S32 w blk off d' w' ∧ PermIn a (a + L) d d' := by
  obtain ⟨M, hM⟩ : ∃ M : Nat, M = 2 ^ bitsLen L := ⟨_, rfl⟩
  have hM1 : 1 ≤ M := by rw [hM]; exact Nat.two_pow_pos _
  have hM2 : M ≤ 2 * L := by rw [hM]; exact two_pow_bitsLen_le (by omega)
  have hNP : ∀ w, Calls Tryz.prog 214 #[.int .i64 (L : Int)] w fun e w' => e = .returned (.int .u64 (M : Int)) ∧ w' = w := by rw [hM]; exact fun w => next_pow L w (by omega)
  clear hM
  have HS : Hid (S32 w blk off d (w.alloc (Obj.cells #[.int .u64 (L : Int)] 238))) := (S32.refl hH hblk).alloc _
  have HC : Hid ((w.alloc (Obj.cells #[.int .u64 (L : Int)] 238)).cell? ⟨w.heap.size, 0, none⟩ = some (.int .u64 (L : Int)) ∧ (w.alloc (Obj.cells #[.int .u64 (L : Int)] 238)).frozen? ⟨w.heap.size, 0, none⟩ = false) := new_cell _ _ _
  obtain ⟨q, hq⟩ : ∃ q : Nat, L / 4 * 2 = q := ⟨_, rfl⟩
  have hq1 : 4 ≤ q := by omega
  have hq2 : q + 2 ≤ L := by omega
  have hqI : (L : Int) / 4 * 2 = (q : Int) := by omega
  have hLI : (a : Int) + (L : Int) - (a : Int) = (L : Int) := by omega
  clear hH hq
  go_enter Tryz.func202, Tryz.ntmps202
  go_wp2_with (first | (go_at_call 214; refine (hNP _).mono ?_; rintro e w' ⟨rfl, rfl⟩))
  go_loopg [9] 3 (fun g x wr => ∃ (t : Nat) (X : Nat) (D : Array Int), x = .int .i64 ((a + q - 1 + t : Nat) : Int) ∧ 3 - t ≤ g ∧ t ≤ 3 ∧ D.size = n ∧ X < 18446744073709551616 ∧ S32 w blk off D wr ∧ wr.cell? ⟨w.heap.size, 0, none⟩ = some (.int .u64 (X : Int)) ∧ wr.frozen? ⟨w.heap.size, 0, none⟩ = false ∧ PermIn a (a + L) d D)
  case atStart => exact ⟨0, L, d, by congr 1; omega, by omega, by omega, hn, by omega, HS.out, HC.out.1, HC.out.2, permIn_refl _ _ _⟩
  case round =>
    obtain ⟨t, X, D, rfl, hg, ht, hD, hX, hSD, hcB, hfB, hP⟩ := hrel
    have hNext := next_any w.heap.size X wr hX hcB hfB
    have HSD : Hid (S32 w blk off D wr) := hSD
    have HP : Hid (PermIn a (a + L) d D) := hP
    clear hSD hP
    by_cases ht3 : t < 3
    · have hle : ((a + q - 1 + t : Nat) : Int) ≤ (a : Int) + (q : Int) + 1 := by omega
      obtain ⟨I, hI⟩ : ∃ I : Nat, a + q - 1 + t = I := ⟨_, rfl⟩
      rw [hI] at hle ⊢
      have hI1 : a ≤ I := by omega
      have hI2 : I < a + L := by omega
      have HI : Hid (a + q - 1 + t = I) := hI
      clear hI
      go_upto_if 43 with (go_at_call 215; refine hNext.mono ?_; rintro e w' ⟨Y, hY, rfl, hw'⟩; obtain ⟨O, hO, eAnd⟩ := and_low Y M hY hM1 (by omega); have HS2 : Hid (S32 w blk off D w') := (by unfold Hid; rw [hw']; exact (HSD.out.set _ _ (Nat.le_refl _)).ahead 3); have HC2 : Hid (w'.cell? ⟨w.heap.size, 0, none⟩ = some (.int .u64 (Y : Int)) ∧ w'.frozen? ⟨w.heap.size, 0, none⟩ = false) := (by unfold Hid; rw [hw']; exact set_same hcB hfB); clear hw')
      clear hcB hfB hNext HSD eAnd
      go_cut [10] from 26 to 64 (fun x wc => wc = w' ∧ ∃ o : Nat, x = .int .i64 o ∧ o < L)
      case first =>
        by_cases hLO : (L : Int) ≤ (O : Int)
        · go_wp2
          go_meet
          case rel => exact ⟨rfl, O - L, by congr 1; omega, by omega⟩
        · go_wp2
          go_meet
          case rel => exact ⟨rfl, O, rfl, by omega⟩
      case rest =>
        obtain ⟨rfl, o, rfl, hoL⟩ := hcut
        have HC3 : Hid (∀ (i j : Nat) (u v : Value), (((wc.drewN 1).setCell ⟨blk, i, none⟩ u).setCell ⟨blk, j, none⟩ v).cell? ⟨w.heap.size, 0, none⟩ = some (.int .u64 (Y : Int)) ∧ (((wc.drewN 1).setCell ⟨blk, i, none⟩ u).setCell ⟨blk, j, none⟩ v).frozen? ⟨w.heap.size, 0, none⟩ = false) := fun i j u v => aside_cell (by omega) HC2.out.1 HC2.out.2
        go_upto_region 10 with fail
        obtain ⟨G, hG⟩ := fam D
        obtain ⟨hc, hz⟩ := HS2.out.cells hD G hG
        have HSW : Hid (S32 w blk off (swp D I (a + o)) (((wc.drewN 1).setCell ⟨blk, off + I, none⟩ (.int .i32 (G (a + o)))).setCell ⟨blk, off + (a + o), none⟩ (.int .i32 (G I)))) := by
          unfold Hid; rw [hG, hG]; exact HS2.out.swap 1 I (a + o) (by omega) (by omega)
        have HPW : Hid (PermIn a (a + L) d (swp D I (a + o))) := permIn_trans _ _ _ _ _ HP.out (swp_permIn D a (a + L) I (a + o) hI1 hI2 (by omega) (by omega) (by omega))
        clear hG HS2 HC2
        by_cases hEq : I = a + o
        · subst hEq
          go_big_region
          all_goals go_wp2
          go_roundg (3 - (t + 1))
          case measure => omega
          case rel => exact ⟨t + 1, Y, swp D (a + o) (a + o), by have := HI.out; first | rfl | (congr 1; omega), Nat.le_refl _, by omega, by rw [size_swp]; exact hD, hY, HSW.out, (HC3.out _ _ _ _).1, (HC3.out _ _ _ _).2, HPW.out⟩
        · go_big_region
          all_goals go_wp2
          go_roundg (3 - (t + 1))
          case measure => omega
          case rel => exact ⟨t + 1, Y, swp D I (a + o), by have := HI.out; first | rfl | (congr 1; omega), Nat.le_refl _, by omega, by rw [size_swp]; exact hD, hY, HSW.out, (HC3.out _ _ _ _).1, (HC3.out _ _ _ _).2, HPW.out⟩
    · have hle : ¬ ((a + q - 1 + t : Nat) : Int) ≤ (a : Int) + (q : Int) + 1 := by omega
      go_wp2
      go_end0
      exact ⟨rfl, D, HSD.out, HP.out⟩

end Go.Proofs.YtkaaldhejpaiiaaGreatDoor
