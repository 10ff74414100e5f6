/- The library's sort at runes: what the walks have in common; cmp.Less; insertionSortOrdered. -/
import Derived.Test.YtkaaldhejpaiiaaGreatDoorChecked
import Derived.Sort.WalkA
import Derived.Sort.Walk13a
namespace Go.Proofs.YtkaaldhejpaiiaaGreatDoor
open Go.RowKit Go.Sort

/-- wr: w, but for the row of runes at blk, which holds d, for draws and new blocks. -/
structure S32 (w : World) (blk off : Nat) (d : Array Int) (wr : World) : Prop where
  at' : At (Value.int .i32) w blk off d wr
  holds : Holds (Value.int .i32) wr blk off d
  lt : blk < wr.heap.size
  lt0 : blk < w.heap.size

theorem S32.refl {w : World} {blk off : Nat} {d : Array Int} (h : Holds (Value.int .i32) w blk off d) (hb : blk < w.heap.size) : S32 w blk off d w := ⟨At.refl h, h, hb, hb⟩
theorem S32.ahead {w wr : World} {blk off : Nat} {d : Array Int} (h : S32 w blk off d wr) (q : Nat) : S32 w blk off d (wr.drewN q) := ⟨h.at'.ahead q, h.holds, h.lt, h.lt0⟩
theorem S32.trans {w w1 w2 : World} {blk off : Nat} {d d' : Array Int} (h : S32 w blk off d w1) (h2 : S32 w1 blk off d' w2) (hs : d'.size = d.size) : S32 w blk off d' w2 :=
  ⟨h.at'.stepG h.lt0 hs h2.at', h2.holds, h2.lt, h.lt0⟩
theorem S32.swap {w wr : World} {blk off : Nat} {d : Array Int} (h : S32 w blk off d wr) (q i j : Nat) (hi : i < d.size) (hj : j < d.size) :
    S32 w blk off (swp d i j) (((wr.drewN q).setCell ⟨blk, off + i, none⟩ (.int .i32 d[j]!)).setCell ⟨blk, off + j, none⟩ (.int .i32 d[i]!)) := by
  have hq := h.ahead q
  have e : ((wr.drewN q).setCell ⟨blk, off + i, none⟩ (.int .i32 d[j]!)).setCell ⟨blk, off + j, none⟩ (.int .i32 d[i]!) = putRow (Value.int .i32) (Sort.ahead (wr.drewN q) 0) blk off (swp d i j) := by
    rw [ahead_zero, ← putRow_swp (Value.int .i32) (wr.drewN q) blk off d i j hi hj, putRow_self _ _ _ _ _ hq.holds]
  rw [e]
  refine ⟨hq.at'.step hq.lt0 (size_swp _ _ _) ⟨0, rfl⟩, ?_, ?_, h.lt0⟩
  · exact holds_putRow _ _ _ _ d _ hq.holds (size_swp _ _ _)
  · simpa using hq.lt
theorem S32.cells {w wr : World} {blk off n : Nat} {d : Array Int} (h : S32 w blk off d wr) (hn : d.size = n) (G : Nat → Int) (hG : ∀ t, G t = d[t]!) : (∀ t, t < n → wr.cell? ⟨blk, off + t, none⟩ = some (.int .i32 (G t))) ∧ ∀ t, t < n → wr.frozen? ⟨blk, off + t, none⟩ = false :=
  ⟨fun t ht => by rw [hG]; exact (h.holds t (by omega)).1, fun t ht => (h.holds t (by omega)).2⟩
theorem fam (d : Array Int) : ∃ G : Nat → Int, ∀ t, G t = d[t]! := ⟨fun t => d[t]!, fun _ => rfl⟩

theorem nan32 (x : Int) (w : World) : Calls Tryz.prog 218 #[.int .i32 x] w fun e w' => e = .returned (.bool false) ∧ w' = w := by
  go_enter Tryz.func218, Tryz.ntmps218
  go_wp2
  go_ret
  exact ⟨by simp, rfl⟩
theorem less32 (x y : Int) (w : World) : Calls Tryz.prog 206 #[.int .i32 x, .int .i32 y] w fun e w' => e = .returned (.bool (ltInt x y)) ∧ w' = w := by
  go_enter Tryz.func206, Tryz.ntmps206
  go_wp2_with (go_at_call 218; refine (nan32 _ _).mono ?_; rintro e w' ⟨rfl, rfl⟩)
  go_ret
  exact ⟨rfl, rfl⟩

set_option maxHeartbeats 4000000 in
set_option maxRecDepth 100000 in
theorem ins32 (blk off n cap a b : Nat) (d : Array Int) (w : World) (hn : d.size = n) (hH : Holds (Value.int .i32) w blk off d) (hblk : blk < w.heap.size) (hab : a ≤ b) (hb : b ≤ n) (hsz : n ≤ 1000000) :
    Calls Tryz.prog 200 #[.slice (some ⟨blk, off, none⟩) n cap, .int .i64 a, .int .i64 b] w fun e w' =>
      e = .returned (.tuple #[]) ∧ S32 w blk off (insertionSort ltInt d a b) w' := by
  have HS : Hid (S32 w blk off d w) := S32.refl hH hblk
  clear hH
  go_enter Tryz.func200, Tryz.ntmps200
  go_wp2
  go_loopw [6] (fun x wr => ∃ (i : Nat) (D : Array Int), x = .int .i64 i ∧ a < i ∧ i ≤ b + 1 ∧ D.size = n ∧ S32 w blk off D wr ∧ insOuter ltInt a b i D = insertionSort ltInt d a b) (fun x _ => b + 1 - (intOf x).toNat)
  case atStart => exact ⟨a + 1, d, by go_num, by omega, by omega, hn, HS.out, rfl⟩
  case round =>
    obtain ⟨i, D, rfl, h1, h2, hD, hSD, hO⟩ := hrel
    have HO : Hid (insOuter ltInt a b i D = insertionSort ltInt d a b) := hO
    have HSD : Hid (S32 w blk off D wr) := hSD
    clear hO hSD
    go_wp2
    · have hlt : i < b := by assumption
      go_loopw [7] (fun x wr2 => ∃ (j : Nat) (F : Array Int), x = .int .i64 j ∧ a ≤ j ∧ j ≤ i ∧ F.size = n ∧ S32 w blk off F wr2 ∧ insInner ltInt a j F = insInner ltInt a i D) (fun x _ => (intOf x).toNat)
      case atStart => exact ⟨i, D, rfl, by omega, Nat.le_refl _, hD, HSD.out, rfl⟩
      case round =>
        obtain ⟨j, F, rfl, h3, h4, hF, hSF, hI⟩ := hrel
        obtain ⟨G, hG⟩ := fam F
        obtain ⟨hc, hz⟩ := hSF.cells hF G hG
        have HSF : Hid (S32 w blk off F wr) := hSF
        have HG : Hid (∀ t, G t = F[t]!) := hG
        have HI : Hid (insInner ltInt a j F = insInner ltInt a i D) := hI
        clear hSF hG hI
        have stop : Hid ((j ≤ a ∨ ltInt F[j]! F[j - 1]! = false) → insOuter ltInt a b (i + 1) F = insertionSort ltInt d a b) := fun h => by
          rw [← HO.out, insOuter_go _ _ _ _ _ hlt, ← HI.out, insInner_stop _ _ _ _ h]
        go_wp2
        by_cases hja : a < j
        · go_quiet (first | (go_at_call 206; refine Calls.quiet_of_same (less32 _ _ _)))
          go_wp2
          · have hl : ltInt (G j) (G (j - 1)) = true := by assumption
            go_region
            all_goals go_wp2
            go_roundw
            case rel =>
              refine ⟨j - 1, swp F j (j - 1), by congr 1; omega, by omega, by omega, by rw [size_swp]; exact hF, ?_, ?_⟩
              · rw [HG.out, HG.out]; exact HSF.out.swap _ j (j - 1) (by omega) (by omega)
              · rw [← HI.out, insInner_go ltInt a j F hja (by rw [← HG.out, ← HG.out]; exact hl)]
            case measure => simp [intOf]; omega
          · have hl : ltInt (G j) (G (j - 1)) = false := by assumption
            go_roundw
            case rel => exact ⟨i + 1, F, by go_num, by omega, by omega, hF, HSF.out.ahead _, stop.out (Or.inr (by rw [← HG.out, ← HG.out]; exact hl))⟩
            case measure => simp [intOf]; omega
        · go_quiet (first | (go_at_call 206; refine Calls.quiet_of_same (less32 _ _ _)))
          go_wp2
          go_roundw
          case rel => exact ⟨i + 1, F, by go_num, by omega, by omega, hF, HSF.out.ahead _, stop.out (Or.inl (by omega))⟩
          case measure => simp [intOf]; omega
    · have hge : ¬ i < b := by assumption
      go_end0
      exact ⟨rfl, by rw [← HO.out, insOuter_stop _ _ _ _ _ hge]; exact HSD.out⟩

end Go.Proofs.YtkaaldhejpaiiaaGreatDoor
