import Derived.Test.YtkaaldhejpaiiaaGreatDoorChecked
import Derived.Sort.WalkA
import Derived.Sort.Walk13a
import Derived.Sort.WalkB3
import Derived.Deep.CutRange
/- The library's sort at runes: what the walks have in common; cmp.Less; insertionSortOrdered. -/
namespace Go.Proofs.YtkaaldhejpaiiaaGreatDoor
open Go.RowKit Go.Sort

/-- wr: w, but for the row of runes at blk, which holds d, for draws and new blocks. -/
structure S32 (w : World) (blk off : Nat) (d : Array Int) (wr : World) : Prop where
  at' : At (Value.int .i32) w blk off d wr
  holds : Holds (Value.int .i32) wr blk off d
  lt : blk < wr.heap.size
  lt0 : blk < w.heap.size

theorem S32.refl {w : World} {blk off : Nat} {d : Array Int} (h : Holds (Value.int .i32) w blk off d) (hb : blk < w.heap.size) : S32 w blk off d w := ⟨At.refl h, h, hb, hb⟩
theorem S32.ahead {w wr : World} {blk off : Nat} {d : Array Int} (h : S32 w blk off d wr) (q : Nat) : S32 w blk off d (wr.drewN q) := ⟨h.at'.ahead q, h.holds, h.lt, h.lt0⟩
theorem S32.trans {w w1 w2 : World} {blk off : Nat} {d d' : Array Int} (h : S32 w blk off d w1) (h2 : S32 w1 blk off d' w2) (hs : d'.size = d.size) : S32 w blk off d' w2 :=
  ⟨h.at'.stepG h.lt0 hs h2.at', h2.holds, h2.lt, h.lt0⟩
theorem S32.swap {w wr : World} {blk off : Nat} {d : Array Int} (h : S32 w blk off d wr) (q i j : Nat) (hi : i < d.size) (hj : j < d.size) :
    S32 w blk off (swp d i j) (((wr.drewN q).setCell ⟨blk, off + i, none⟩ (.int .i32 d[j]!)).setCell ⟨blk, off + j, none⟩ (.int .i32 d[i]!)) := by
  have hq := h.ahead q
  have e : ((wr.drewN q).setCell ⟨blk, off + i, none⟩ (.int .i32 d[j]!)).setCell ⟨blk, off + j, none⟩ (.int .i32 d[i]!) = putRow (Value.int .i32) (Sort.ahead (wr.drewN q) 0) blk off (swp d i j) := by
    rw [ahead_zero, ← putRow_swp (Value.int .i32) (wr.drewN q) blk off d i j hi hj, putRow_self _ _ _ _ _ hq.holds]
  rw [e]
  refine ⟨hq.at'.step hq.lt0 (size_swp _ _ _) ⟨0, rfl⟩, ?_, ?_, h.lt0⟩
  · exact holds_putRow _ _ _ _ d _ hq.holds (size_swp _ _ _)
  · simpa using hq.lt
theorem S32.cells {w wr : World} {blk off n : Nat} {d : Array Int} (h : S32 w blk off d wr) (hn : d.size = n) (G : Nat → Int) (hG : ∀ t, G t = d[t]!) : (∀ t, t < n → wr.cell? ⟨blk, off + t, none⟩ = some (.int .i32 (G t))) ∧ ∀ t, t < n → wr.frozen? ⟨blk, off + t, none⟩ = false :=
  ⟨fun t ht => by rw [hG]; exact (h.holds t (by omega)).1, fun t ht => (h.holds t (by omega)).2⟩
theorem fam (d : Array Int) : ∃ G : Nat → Int, ∀ t, G t = d[t]! := ⟨fun t => d[t]!, fun _ => rfl⟩

theorem nan32 (x : Int) (w : World) : Calls Tryz.prog 218 #[.int .i32 x] w fun e w' => e = .returned (.bool false) ∧ w' = w := by
  go_enter Tryz.func218, Tryz.ntmps218
  go_wp2
  go_ret
  exact ⟨by simp, rfl⟩
theorem less32 (x y : Int) (w : World) : Calls Tryz.prog 206 #[.int .i32 x, .int .i32 y] w fun e w' => e = .returned (.bool (ltInt x y)) ∧ w' = w := by
  go_enter Tryz.func206, Tryz.ntmps206
  go_wp2_with (go_at_call 218; refine (nan32 _ _).mono ?_; rintro e w' ⟨rfl, rfl⟩)
  go_ret
  exact ⟨rfl, rfl⟩

set_option maxHeartbeats 4000000 in
set_option maxRecDepth 100000 in
theorem ins32 (blk off n cap a b : Nat) (d : Array Int) (w : World) (hn : d.size = n) (hH : Holds (Value.int .i32) w blk off d) (hblk : blk < w.heap.size) (hab : a ≤ b) (hb : b ≤ n) (hsz : n ≤ 1000000) :
    Calls Tryz.prog 200 #[.slice (some ⟨blk, off, none⟩) n cap, .int .i64 a, .int .i64 b] w fun e w' =>
      e = .returned (.tuple #[]) ∧ S32 w blk off (insertionSort ltInt d a b) w' := by
  have HS : Hid (S32 w blk off d w) := S32.refl hH hblk
  clear hH
  go_enter Tryz.func200, Tryz.ntmps200
  go_wp2
  go_loopw [6] (fun x wr => ∃ (i : Nat) (D : Array Int), x = .int .i64 i ∧ a < i ∧ i ≤ b + 1 ∧ D.size = n ∧ S32 w blk off D wr ∧ insOuter ltInt a b i D = insertionSort ltInt d a b) (fun x _ => b + 1 - (intOf x).toNat)
  case atStart => exact ⟨a + 1, d, by go_num, by omega, by omega, hn, HS.out, rfl⟩
  case round =>
    obtain ⟨i, D, rfl, h1, h2, hD, hSD, hO⟩ := hrel
    have HO : Hid (insOuter ltInt a b i D = insertionSort ltInt d a b) := hO
    have HSD : Hid (S32 w blk off D wr) := hSD
    clear hO hSD
    go_wp2
    · have hlt : i < b := by assumption
      go_loopw [7] (fun x wr2 => ∃ (j : Nat) (F : Array Int), x = .int .i64 j ∧ a ≤ j ∧ j ≤ i ∧ F.size = n ∧ S32 w blk off F wr2 ∧ insInner ltInt a j F = insInner ltInt a i D) (fun x _ => (intOf x).toNat)
      case atStart => exact ⟨i, D, rfl, by omega, Nat.le_refl _, hD, HSD.out, rfl⟩
      case round =>
        obtain ⟨j, F, rfl, h3, h4, hF, hSF, hI⟩ := hrel
        obtain ⟨G, hG⟩ := fam F
        obtain ⟨hc, hz⟩ := hSF.cells hF G hG
        have HSF : Hid (S32 w blk off F wr) := hSF
        have HG : Hid (∀ t, G t = F[t]!) := hG
        have HI : Hid (insInner ltInt a j F = insInner ltInt a i D) := hI
        clear hSF hG hI
        have stop : Hid ((j ≤ a ∨ ltInt F[j]! F[j - 1]! = false) → insOuter ltInt a b (i + 1) F = insertionSort ltInt d a b) := fun h => by
          rw [← HO.out, insOuter_go _ _ _ _ _ hlt, ← HI.out, insInner_stop _ _ _ _ h]
        go_wp2
        by_cases hja : a < j
        · go_quiet (first | (go_at_call 206; refine Calls.quiet_of_same (less32 _ _ _)))
          go_wp2
          · have hl : ltInt (G j) (G (j - 1)) = true := by assumption
            go_region
            all_goals go_wp2
            go_roundw
            case rel =>
              refine ⟨j - 1, swp F j (j - 1), by congr 1; omega, by omega, by omega, by rw [size_swp]; exact hF, ?_, ?_⟩
              · rw [HG.out, HG.out]; exact HSF.out.swap _ j (j - 1) (by omega) (by omega)
              · rw [← HI.out, insInner_go ltInt a j F hja (by rw [← HG.out, ← HG.out]; exact hl)]
            case measure => simp [intOf]; omega
          · have hl : ltInt (G j) (G (j - 1)) = false := by assumption
            go_roundw
            case rel => exact ⟨i + 1, F, by go_num, by omega, by omega, hF, HSF.out.ahead _, stop.out (Or.inr (by rw [← HG.out, ← HG.out]; exact hl))⟩
            case measure => simp [intOf]; omega
        · go_quiet (first | (go_at_call 206; refine Calls.quiet_of_same (less32 _ _ _)))
          go_wp2
          go_roundw
          case rel => exact ⟨i + 1, F, by go_num, by omega, by omega, hF, HSF.out.ahead _, stop.out (Or.inl (by omega))⟩
          case measure => simp [intOf]; omega
    · have hge : ¬ i < b := by assumption
      go_end0
      exact ⟨rfl, by rw [← HO.out, insOuter_stop _ _ _ _ _ hge]; exact HSD.out⟩

end Go.Proofs.YtkaaldhejpaiiaaGreatDoor

/- The library's sort at runes: siftDownOrdered. -/
namespace Go.Proofs.YtkaaldhejpaiiaaGreatDoor
open Go.RowKit Go.Sort

/-- The greater child's place, where there is one. -/
theorem sd_go {hi F r c : Nat} {D : Array Int} (hc : c < hi) (hcc : (c = 2 * r + 1 ∧ (2 * r + 2 < hi → ltInt D[F + (2 * r + 1)]! D[F + (2 * r + 2)]! = false)) ∨ (c = 2 * r + 2 ∧ ltInt D[F + (2 * r + 1)]! D[F + (2 * r + 2)]! = true)) :
    siftDown ltInt hi F r D = if ltInt D[F + r]! D[F + c]! then siftDown ltInt hi F c (swp D (F + r) (F + c)) else D := by
  rcases hcc with ⟨rfl, h⟩ | ⟨rfl, h⟩
  · cases hl : ltInt D[F + r]! D[F + (2 * r + 1)]!
    · rw [sd_left_stop ltInt D hc h hl]; simp
    · rw [sd_left_go ltInt D hc h hl]; simp
  · cases hl : ltInt D[F + r]! D[F + (2 * r + 2)]!
    · rw [sd_right_stop ltInt D hc h hl]; simp
    · rw [sd_right_go ltInt D hc h hl]; simp

set_option maxHeartbeats 4000000 in
set_option maxRecDepth 100000 in
theorem sift32 (blk off n cap lo hi first : Nat) (d : Array Int) (w : World) (hn : d.size = n) (hH : Holds (Value.int .i32) w blk off d) (hblk : blk < w.heap.size) (hlo : lo ≤ hi) (hb : first + hi ≤ n) (hsz : n ≤ 1000000) :
    Calls Tryz.prog 213 #[.slice (some ⟨blk, off, none⟩) n cap, .int .i64 lo, .int .i64 hi, .int .i64 first] w fun e w' =>
      e = .returned (.tuple #[]) ∧ S32 w blk off (siftDown ltInt hi first lo d) w' := by
  have HS : Hid (S32 w blk off d w) := S32.refl hH hblk
  clear hH
  go_enter Tryz.func213, Tryz.ntmps213
  go_wp2
  go_loopg [8] (hi - lo) (fun k x wr => ∃ (r : Nat) (D : Array Int), x = .int .i64 r ∧ r ≤ hi ∧ hi - r ≤ k ∧ D.size = n ∧ S32 w blk off D wr ∧ siftDown ltInt hi first r D = siftDown ltInt hi first lo d)
  case atStart => exact ⟨lo, d, rfl, hlo, Nat.le_refl _, hn, HS.out, rfl⟩
  case round =>
    obtain ⟨r, D, rfl, h1, hk, hD, hSD, hO⟩ := hrel
    obtain ⟨G, hG⟩ := fam D
    obtain ⟨hc, hz⟩ := hSD.cells hD G hG
    have HSD : Hid (S32 w blk off D wr) := hSD
    have HG : Hid (∀ t, G t = D[t]!) := hG
    have HO : Hid (siftDown ltInt hi first r D = siftDown ltInt hi first lo d) := hO
    clear hSD hG hO
    by_cases hend : hi ≤ 2 * r + 1
    · have hend' : (hi : Int) ≤ 2 * (r : Int) + 1 := by omega
      go_wp2
      go_end0
      exact ⟨rfl, by rw [← HO.out, sd_end ltInt D hend]; exact HSD.out⟩
    · have hend' : ¬ (hi : Int) ≤ 2 * (r : Int) + 1 := by omega
      go_upto_region 3 with fail
      go_cut [36] from 11 to 75 (fun x wc => x = .bool (decide (2 * r + 2 < hi) && ltInt (G (first + (2 * r + 1))) (G (first + (2 * r + 2)))) ∧ S32 w blk off D wc)
      case first =>
        by_cases h2 : 2 * r + 2 < hi
        · have h2' : 2 * (r : Int) + 1 + 1 < (hi : Int) := by omega
          go_quiet (first | (go_at_call 206; refine Calls.quiet_of_same (less32 _ _ _)))
          go_wp2
          go_meet
          case rel => exact ⟨by simp [h2, Nat.add_assoc], HSD.out.ahead _⟩
        · have h2' : decide (2 * (r : Int) + 1 + 1 < (hi : Int)) = false := decide_eq_false (by omega)
          go_quiet (first | (go_at_call 206; refine Calls.quiet_of_same (less32 _ _ _)))
          go_wp2
          go_meet
          case rel => exact ⟨by simp [h2], HSD.out.ahead _⟩
      case rest =>
        obtain ⟨rfl, hSc⟩ := hcut
        obtain ⟨hcc, hzc⟩ := hSc.cells hD G HG.out
        have HSC : Hid (S32 w blk off D wc) := hSc
        clear hSc hc hz HSD
        generalize hB : (decide (2 * r + 2 < hi) && ltInt (G (first + (2 * r + 1))) (G (first + (2 * r + 2)))) = B
        have HB : Hid ((decide (2 * r + 2 < hi) && ltInt (G (first + (2 * r + 1))) (G (first + (2 * r + 2)))) = B) := hB
        clear hB
        go_upto_if 36 with fail
        go_cut [9] from 11 to 75 (fun x wd => wd = wc ∧ ∃ c : Nat, x = .int .i64 c ∧ c < hi ∧ r < c ∧ Hid (siftDown ltInt hi first r D = if ltInt (G (first + r)) (G (first + c)) then siftDown ltInt hi first c (swp D (first + r) (first + c)) else D))
        case first =>
          cases B
          · go_wp2
            go_meet
            case rel =>
              refine ⟨rfl, 2 * r + 1, by go_num, by omega, by omega, ?_⟩
              unfold Hid
              rw [HG.out, HG.out, sd_go (c := 2 * r + 1) (by omega) (Or.inl ⟨rfl, fun h => ?_⟩)]
              have := HB.out
              rw [HG.out, HG.out] at this
              simpa [h] using this
          · go_wp2
            go_meet
            case rel =>
              have := HB.out
              rw [HG.out, HG.out] at this
              simp only [Bool.and_eq_true, decide_eq_true_eq] at this
              refine ⟨rfl, 2 * r + 2, by go_num, by omega, by omega, ?_⟩
              unfold Hid
              rw [HG.out, HG.out, sd_go (c := 2 * r + 2) (by omega) (Or.inr ⟨rfl, this.2⟩)]
        case rest =>
          obtain ⟨rfl, c, rfl, hch, hrc, HE⟩ := hcut
          go_wp2
          go_quiet (first | (go_at_call 206; refine Calls.quiet_of_same (less32 _ _ _)))
          go_wp2
          · have hl : (!ltInt (G (first + r)) (G (first + c))) = true := by assumption
            (try simp only [Exit.inBlock, Exit.then]); refine bodyPost_ret (results_none rfl _ _ _) rfl ?_
            refine ⟨rfl, ?_⟩
            rw [← HO.out, HE.out, if_neg (by simpa using hl)]
            exact HSC.out.ahead _
          · have hl : (!ltInt (G (first + r)) (G (first + c))) = false := by assumption
            have HS3 : Hid (S32 w blk off D (wc.drewN nq)) := HSC.out.ahead _
            obtain ⟨hc3, hz3⟩ := HS3.out.cells hD G HG.out
            clear hcc hzc HSC
            generalize wc.drewN nq = w3 at *
            go_region
            all_goals go_wp2
            go_roundg (hi - c)
            case measure => omega
            case rel =>
              refine ⟨c, swp D (first + r) (first + c), rfl, by omega, Nat.le_refl _, by rw [size_swp]; exact hD, ?_, ?_⟩
              · rw [HG.out, HG.out]; exact HS3.out.swap 1 (first + r) (first + c) (by omega) (by omega)
              · rw [← HO.out, HE.out, if_pos (by simpa using hl)]

end Go.Proofs.YtkaaldhejpaiiaaGreatDoor

/- The library's sort at runes: what both partitions keep; partitionOrdered. -/
namespace Go.Proofs.YtkaaldhejpaiiaaGreatDoor
open Go.RowKit Go.Sort

/-- Between the two ends of a partition: what was gone by on the left is so, on the right it isn't. -/
structure Pt (p : Int → Bool) (a b : Nat) (P : Int) (d : Array Int) (i j : Nat) (D : Array Int) : Prop where
  perm : PermIn a b d D
  ha : a < i
  hj : j < b
  hij : i ≤ j + 1
  hb : b ≤ D.size
  ata : D[a]! = P
  lo : ∀ t, a < t → t < i → p D[t]! = true
  hi : ∀ t, j < t → t < b → p D[t]! = false

theorem Pt.up {p : Int → Bool} {a b : Nat} {P : Int} {d : Array Int} {i j : Nat} {D : Array Int} (h : Pt p a b P d i j D) (hij : i ≤ j) (hp : p D[i]! = true) : Pt p a b P d (i + 1) j D :=
  ⟨h.perm, by have := h.ha; omega, h.hj, by omega, h.hb, h.ata, fun t h1 h2 => by
    by_cases e : t = i
    · rw [e]; exact hp
    · exact h.lo t h1 (by omega), h.hi⟩
theorem Pt.down {p : Int → Bool} {a b : Nat} {P : Int} {d : Array Int} {i j : Nat} {D : Array Int} (h : Pt p a b P d i j D) (hij : i ≤ j) (hp : p D[j]! = false) : Pt p a b P d i (j - 1) D :=
  ⟨h.perm, h.ha, by have := h.hj; omega, by have := h.ha; omega, h.hb, h.ata, h.lo, fun t h1 h2 => by
    by_cases e : t = j
    · rw [e]; exact hp
    · exact h.hi t (by omega) h2⟩
theorem Pt.ne {p : Int → Bool} {i j : Nat} {D : Array Int} (hij : i ≤ j) (h1 : p D[i]! = false) (h2 : p D[j]! = true) : i < j := by
  rcases Nat.lt_or_ge i j with h | h
  · exact h
  · obtain rfl : i = j := by omega
    rw [h1] at h2; cases h2
theorem Pt.swap {p : Int → Bool} {a b : Nat} {P : Int} {d : Array Int} {i j : Nat} {D : Array Int} (h : Pt p a b P d i j D) (hij : i < j) (h1 : p D[i]! = false) (h2 : p D[j]! = true) : Pt p a b P d (i + 1) (j - 1) (swp D i j) := by
  have hb := h.hb; have hj := h.hj; have ha := h.ha
  refine ⟨permIn_trans _ _ _ _ _ h.perm (swp_permIn D a b i j (by omega) (by omega) (by omega) hj hb), by omega, by omega, by omega, by rw [size_swp]; exact hb, ?_, ?_, ?_⟩
  · rw [swp_other D i j a (by omega) (by omega)]; exact h.ata
  · intro t ht1 ht2
    by_cases e : t = i
    · rw [e, swp_left D i j (by omega) (by omega)]; exact h2
    · rw [swp_other D i j t e (by omega)]; exact h.lo t ht1 (by omega)
  · intro t ht1 ht2
    by_cases e : t = j
    · rw [e, swp_right D i j (by omega)]; exact h1
    · rw [swp_other D i j t (by omega) e]; exact h.hi t (by omega) ht2
theorem Pt.start {p : Int → Bool} {a b pv : Nat} {d : Array Int} (h1 : a ≤ pv) (h2 : pv < b) (hb : b ≤ d.size) : Pt p a b d[pv]! d (a + 1) (b - 1) (swp d a pv) := by
  refine ⟨swp_permIn d a b a pv (Nat.le_refl _) (by omega) h1 h2 hb, by omega, by omega, by omega, by rw [size_swp]; exact hb, ?_, fun t _ _ => by omega, fun t _ _ => by omega⟩
  by_cases e : a = pv
  · subst e; rw [swp_right d a a (by omega)]
  · rw [swp_left d a pv (by omega) e]
/-- partitionOrdered's end. -/
theorem Pt.fin {a b : Nat} {P : Int} {d : Array Int} {i j : Nat} {D : Array Int} (h : Pt (fun x => ltInt x P) a b P d i j D) (hji : j < i) :
    a ≤ j ∧ j < b ∧ PermIn a b d (swp D j a) ∧ (∀ t, a ≤ t → t < j → ltInt (swp D j a)[t]! (swp D j a)[j]! = true) ∧ (∀ t, j < t → t < b → ltInt (swp D j a)[t]! (swp D j a)[j]! = false) := by
  have hb := h.hb; have hj := h.hj; have ha := h.ha; have hij := h.hij; have hP := h.ata
  have haj : a ≤ j := by omega
  have eqj : (swp D j a)[j]! = P := by
    by_cases e : j = a
    · subst e; rw [swp_right D j j (by omega)]; exact hP
    · rw [swp_left D j a (by omega) e]; exact hP
  refine ⟨haj, hj, permIn_trans _ _ _ _ _ h.perm (swp_permIn D a b j a haj hj (Nat.le_refl _) (by omega) hb), ?_, ?_⟩
  · intro t h1 h2
    rw [eqj]
    by_cases e : t = a
    · rw [e, swp_right D j a (by omega)]; exact h.lo j (by omega) (by omega)
    · rw [swp_other D j a t (by omega) e]; exact h.lo t (by omega) (by omega)
  · intro t h1 h2
    rw [eqj, swp_other D j a t (by omega) (by omega)]
    exact h.hi t h1 h2

end Go.Proofs.YtkaaldhejpaiiaaGreatDoor

/- Xc Xd, in one. -/
/- The library's sort at runes: heapSortOrdered. -/
namespace Go.Proofs.YtkaaldhejpaiiaaGreatDoor
open Go.RowKit Go.Sort

set_option maxHeartbeats 4000000 in
set_option maxRecDepth 100000 in
theorem heap32 (blk off n cap a b : Nat) (d : Array Int) (w : World) (hn : d.size = n) (hH : Holds (Value.int .i32) w blk off d) (hblk : blk < w.heap.size) (hab : a ≤ b) (hb : b ≤ n) (hsz : n ≤ 1000000) :
    Calls Tryz.prog 201 #[.slice (some ⟨blk, off, none⟩) n cap, .int .i64 a, .int .i64 b] w fun e w' =>
      e = .returned (.tuple #[]) ∧ S32 w blk off (heapSort ltInt d a b) w' := by
  have HS : Hid (S32 w blk off d w) := S32.refl hH hblk
  have hst := half_start hab
  clear hH
  obtain ⟨K, hK⟩ : ∃ K, (b - a - 1) / 2 + 1 = K := ⟨_, rfl⟩
  rw [hK] at hst
  have HK : Hid ((b - a - 1) / 2 + 1 = K) := hK
  have hKl : K ≤ b - a + 1 := by omega
  have hKl2 : K = 1 ∨ K ≤ b - a := by omega
  clear hK
  go_enter Tryz.func201, Tryz.ntmps201
  go_wp2
  go_loopg [9] K (fun g x wr => ∃ (k : Nat) (D : Array Int), x = .int .i64 ((k : Int) - 1) ∧ k ≤ g ∧ k ≤ K ∧ D.size = n ∧ S32 w blk off D wr ∧ heapPop ltInt a (b - a) (heapBuild ltInt (b - a) a k D) = heapSort ltInt d a b)
  case atStart => exact ⟨K, d, rfl, Nat.le_refl _, Nat.le_refl _, hn, HS.out, by rw [heapSort, HK.out]⟩
  case round =>
    obtain ⟨k, D, rfl, hg, hkK, hD, hSD, hO⟩ := hrel
    have HSD : Hid (S32 w blk off D wr) := hSD
    have HO : Hid (heapPop ltInt a (b - a) (heapBuild ltInt (b - a) a k D) = heapSort ltInt d a b) := hO
    clear hO hSD
    by_cases hk0 : 0 < k
    · obtain ⟨i, rfl⟩ : ∃ i, k = i + 1 := ⟨k - 1, by omega⟩
      have hki : ((i + 1 : Nat) : Int) - 1 = (i : Int) := by omega
      have hba : (b : Int) - (a : Int) = ((b - a : Nat) : Int) := by omega
      have hil : i ≤ b - a := by omega
      have hcall := sift32 blk off n cap i (b - a) a D wr hD HSD.out.holds HSD.out.lt hil (by omega) hsz
      rw [← hba] at hcall
      clear hba
      rw [hki]
      have h0 : (0 : Int) ≤ (i : Int) := by omega
      go_wp2_with (go_at_call 213; refine hcall.mono ?_; rintro e w' ⟨rfl, hw'⟩)
      go_roundg i
      case measure => omega
      case rel =>
        refine ⟨i, siftDown ltInt (b - a) a i D, rfl, Nat.le_refl _, by omega, ?_, HSD.out.trans hw' ?_, ?_⟩
        · rw [size_siftDown ltInt _ _ _ _ _ (Nat.le_refl _)]; exact hD
        · rw [size_siftDown ltInt _ _ _ _ _ (Nat.le_refl _)]
        · rw [← HO.out]; rfl
    · obtain rfl : k = 0 := by omega
      have HO2 : Hid (heapPop ltInt a (b - a) D = heapSort ltInt d a b) := by have := HO.out; exact this
      clear HO
      go_wp2
      go_loopg [10] (b - a) (fun g x wr2 => ∃ (k : Nat) (F : Array Int), x = .int .i64 ((k : Int) - 1) ∧ k ≤ g ∧ k ≤ b - a ∧ F.size = n ∧ S32 w blk off F wr2 ∧ heapPop ltInt a k F = heapSort ltInt d a b)
      case atStart => exact ⟨b - a, D, by congr 1; omega, Nat.le_refl _, Nat.le_refl _, hD, HSD.out, HO2.out⟩
      case round =>
        obtain ⟨k, F, rfl, hg2, hkb, hF, hSF, hP⟩ := hrel
        by_cases hk0 : 0 < k
        · obtain ⟨i, rfl⟩ : ∃ i, k = i + 1 := ⟨k - 1, by omega⟩
          have hki : ((i + 1 : Nat) : Int) - 1 = (i : Int) := by omega
          obtain ⟨G, hG⟩ := fam F
          obtain ⟨hc, hz⟩ := hSF.cells hF G hG
          have HSW : Hid (S32 w blk off (swp F a (a + i)) (((wr.drewN 1).setCell ⟨blk, off + a, none⟩ (.int .i32 (G (a + i)))).setCell ⟨blk, off + (a + i), none⟩ (.int .i32 (G a)))) := by
            unfold Hid; rw [hG, hG]; exact hSF.swap 1 a (a + i) (by omega) (by omega)
          have hSs : (swp F a (a + i)).size = n := by rw [size_swp]; exact hF
          have HP : Hid (heapPop ltInt a (i + 1) F = heapSort ltInt d a b) := hP
          rw [hki]
          have h0 : (0 : Int) ≤ (i : Int) := by omega
          clear hP hSF hG
          go_upto_region 10 with fail
          go_cut [] from 29 to 55 (fun wc => S32 w blk off (swp F a (a + i)) wc)
          case first =>
            by_cases hi0 : i = 0
            · subst hi0
              go_big_region
              all_goals go_wp2
              all_goals go_meet
              case rel => exact HSW.out
            · go_big_region
              all_goals go_wp2
              all_goals go_meet
              case rel => exact HSW.out
          have hcall := sift32 blk off n cap 0 i a (swp F a (a + i)) wc hSs hcut.holds hcut.lt (by omega) (by omega) hsz
          go_wp2_with (go_at_call 213; refine hcall.mono ?_; rintro e w' ⟨rfl, hw'⟩)
          go_roundg i
          case measure => omega
          case rel =>
            refine ⟨i, siftDown ltInt i a 0 (swp F a (a + i)), rfl, Nat.le_refl _, by omega, ?_, hcut.trans hw' ?_, ?_⟩
            · rw [size_siftDown ltInt _ _ _ _ _ (Nat.le_refl _)]; exact hSs
            · rw [size_siftDown ltInt _ _ _ _ _ (Nat.le_refl _)]
            · rw [← HP.out]; rfl
        · obtain rfl : k = 0 := by omega
          go_wp2
          go_end0
          exact ⟨rfl, by rw [← hP]; exact hSF⟩

end Go.Proofs.YtkaaldhejpaiiaaGreatDoor

/- The library's sort at runes: reverseRangeOrdered. -/
namespace Go.Proofs.YtkaaldhejpaiiaaGreatDoor
open Go.RowKit Go.Sort

set_option maxHeartbeats 4000000 in
set_option maxRecDepth 100000 in
theorem rev32 (blk off n cap a b : Nat) (d : Array Int) (w : World) (hn : d.size = n) (hH : Holds (Value.int .i32) w blk off d) (hblk : blk < w.heap.size) (hab : a < b) (hb : b ≤ n) (hsz : n ≤ 1000000) :
    Calls Tryz.prog 204 #[.slice (some ⟨blk, off, none⟩) n cap, .int .i64 a, .int .i64 b] w fun e w' =>
      e = .returned (.tuple #[]) ∧ ∃ d', S32 w blk off d' w' ∧ PermIn a b d d' := by
  have HS : Hid (S32 w blk off d w) := S32.refl hH hblk
  clear hH
  go_enter Tryz.func204, Tryz.ntmps204
  go_wp2
  go_loopg [6, 7] (b - a) (fun g x y wr => ∃ (i j : Nat) (D : Array Int), x = .int .i64 i ∧ y = .int .i64 j ∧ a ≤ i ∧ j < b ∧ b - i ≤ g ∧ i ≤ b ∧ a ≤ j + 1 ∧ i ≤ j + 2 ∧ D.size = n ∧ S32 w blk off D wr ∧ PermIn a b d D)
  case atStart => exact ⟨a, b - 1, d, rfl, by congr 1; omega, by omega, by omega, by omega, by omega, by omega, by omega, hn, HS.out, permIn_refl _ _ _⟩
  case round =>
    obtain ⟨i, j, D, rfl, rfl, h1, h2, hg, h3, h4, h5, hD, hSD, hP⟩ := hrel
    by_cases hij : i < j
    · obtain ⟨G, hG⟩ := fam D
      obtain ⟨hc, hz⟩ := hSD.cells hD G hG
      have hSw := hSD.swap 1 i j (by omega) (by omega)
      rw [← hG, ← hG] at hSw
      have HSW : Hid _ := hSw
      have HP : Hid (PermIn a b d D) := hP
      clear hSw hP hSD hG
      go_wp2
      go_region
      all_goals go_wp2
      go_roundg (b - (i + 1))
      case measure => omega
      case rel =>
        exact ⟨i + 1, j - 1, swp D i j, by go_num, by congr 1; omega, by omega, by omega, Nat.le_refl _, by omega, by omega, by omega, by rw [size_swp]; exact hD, HSW.out, permIn_trans _ _ _ _ _ HP.out (swp_permIn D a b i j h1 (by omega) (by omega) h2 (by omega))⟩
    · go_wp2
      go_end0
      exact ⟨rfl, D, hSD, hP⟩

end Go.Proofs.YtkaaldhejpaiiaaGreatDoor

