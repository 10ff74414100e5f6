/- The library's sort at runes: siftDownOrdered. -/
import Derived.Test.YtkaaldhejpaiiaaGreatDoorXa
import Derived.Sort.WalkB3
import Derived.Deep.CutRange
namespace Go.Proofs.YtkaaldhejpaiiaaGreatDoor
open Go.RowKit Go.Sort

/-- The greater child's place, where there is one. -/
theorem sd_go {hi F r c : Nat} {D : Array Int} (hc : c < hi) (hcc : (c = 2 * r + 1 ∧ (2 * r + 2 < hi → ltInt D[F + (2 * r + 1)]! D[F + (2 * r + 2)]! = false)) ∨ (c = 2 * r + 2 ∧ ltInt D[F + (2 * r + 1)]! D[F + (2 * r + 2)]! = true)) :
    siftDown ltInt hi F r D = if ltInt D[F + r]! D[F + c]! then siftDown ltInt hi F c (swp D (F + r) (F + c)) else D := by
  rcases hcc with ⟨rfl, h⟩ | ⟨rfl, h⟩
  · cases hl : ltInt D[F + r]! D[F + (2 * r + 1)]!
    · rw [sd_left_stop ltInt D hc h hl]; simp
    · rw [sd_left_go ltInt D hc h hl]; simp
  · cases hl : ltInt D[F + r]! D[F + (2 * r + 2)]!
    · rw [sd_right_stop ltInt D hc h hl]; simp
    · rw [sd_right_go ltInt D hc h hl]; simp

set_option maxHeartbeats 4000000 in
set_option maxRecDepth 100000 in
theorem sift32 (blk off n cap lo hi first : Nat) (d : Array Int) (w : World) (hn : d.size = n) (hH : Holds (Value.int .i32) w blk off d) (hblk : blk < w.heap.size) (hlo : lo ≤ hi) (hb : first + hi ≤ n) (hsz : n ≤ 1000000) :
    Calls Tryz.prog 213 #[.slice (some ⟨blk, off, none⟩) n cap, .int .i64 lo, .int .i64 hi, .int .i64 first] w fun e w' =>
      e = .returned (.tuple #[]) ∧ S32 w blk off (siftDown ltInt hi first lo d) w' := by
  have HS : Hid (S32 w blk off d w) := S32.refl hH hblk
  clear hH
  go_enter Tryz.func213, Tryz.ntmps213
  go_wp2
  go_loopg [8] (hi - lo) (fun k x wr => ∃ (r : Nat) (D : Array Int), x = .int .i64 r ∧ r ≤ hi ∧ hi - r ≤ k ∧ D.size = n ∧ S32 w blk off D wr ∧ siftDown ltInt hi first r D = siftDown ltInt hi first lo d)
  case atStart => exact ⟨lo, d, rfl, hlo, Nat.le_refl _, hn, HS.out, rfl⟩
  case round =>
    obtain ⟨r, D, rfl, h1, hk, hD, hSD, hO⟩ := hrel
    obtain ⟨G, hG⟩ := fam D
    obtain ⟨hc, hz⟩ := hSD.cells hD G hG
    have HSD : Hid (S32 w blk off D wr) := hSD
    have HG : Hid (∀ t, G t = D[t]!) := hG
    have HO : Hid (siftDown ltInt hi first r D = siftDown ltInt hi first lo d) := hO
    clear hSD hG hO
    by_cases hend : hi ≤ 2 * r + 1
    · have hend' : (hi : Int) ≤ 2 * (r : Int) + 1 := by omega
      go_wp2
      go_end0
      exact ⟨rfl, by rw [← HO.out, sd_end ltInt D hend]; exact HSD.out⟩
    · have hend' : ¬ (hi : Int) ≤ 2 * (r : Int) + 1 := by omega
      go_upto_region 3 with fail
      go_cut [36] from 11 to 75 (fun x wc => x = .bool (decide (2 * r + 2 < hi) && ltInt (G (first + (2 * r + 1))) (G (first + (2 * r + 2)))) ∧ S32 w blk off D wc)
      case first =>
        by_cases h2 : 2 * r + 2 < hi
        · have h2' : 2 * (r : Int) + 1 + 1 < (hi : Int) := by omega
          go_quiet (first | (go_at_call 206; refine Calls.quiet_of_same (less32 _ _ _)))
          go_wp2
          go_meet
          case rel => exact ⟨by simp [h2, Nat.add_assoc], HSD.out.ahead _⟩
        · have h2' : decide (2 * (r : Int) + 1 + 1 < (hi : Int)) = false := decide_eq_false (by omega)
          go_quiet (first | (go_at_call 206; refine Calls.quiet_of_same (less32 _ _ _)))
          go_wp2
          go_meet
          case rel => exact ⟨by simp [h2], HSD.out.ahead _⟩
      case rest =>
        obtain ⟨rfl, hSc⟩ := hcut
        obtain ⟨hcc, hzc⟩ := hSc.cells hD G HG.out
        have HSC : Hid (S32 w blk off D wc) := hSc
        clear hSc hc hz HSD
        generalize hB : (decide (2 * r + 2 < hi) && ltInt (G (first + (2 * r + 1))) (G (first + (2 * r + 2)))) = B
        have HB : Hid ((decide (2 * r + 2 < hi) && ltInt (G (first + (2 * r + 1))) (G (first + (2 * r + 2)))) = B) := hB
        clear hB
        go_upto_if 36 with fail
        go_cut [9] from 11 to 75 (fun x wd => wd = wc ∧ ∃ c : Nat, x = .int .i64 c ∧ c < hi ∧ r < c ∧ Hid (siftDown ltInt hi first r D = if ltInt (G (first + r)) (G (first + c)) then siftDown ltInt hi first c (swp D (first + r) (first + c)) else D))
        case first =>
          cases B
          · go_wp2
            go_meet
            case rel =>
              refine ⟨rfl, 2 * r + 1, by go_num, by omega, by omega, ?_⟩
              unfold Hid
              rw [HG.out, HG.out, sd_go (c := 2 * r + 1) (by omega) (Or.inl ⟨rfl, fun h => ?_⟩)]
              have := HB.out
              rw [HG.out, HG.out] at this
              simpa [h] using this
          · go_wp2
            go_meet
            case rel =>
              have := HB.out
              rw [HG.out, HG.out] at this
              simp only [Bool.and_eq_true, decide_eq_true_eq] at this
              refine ⟨rfl, 2 * r + 2, by go_num, by omega, by omega, ?_⟩
              unfold Hid
              rw [HG.out, HG.out, sd_go (c := 2 * r + 2) (by omega) (Or.inr ⟨rfl, this.2⟩)]
        case rest =>
          obtain ⟨rfl, c, rfl, hch, hrc, HE⟩ := hcut
          go_wp2
          go_quiet (first | (go_at_call 206; refine Calls.quiet_of_same (less32 _ _ _)))
          go_wp2
          · have hl : (!ltInt (G (first + r)) (G (first + c))) = true := by assumption
            (try simp only [Exit.inBlock, Exit.then]); refine bodyPost_ret (results_none rfl _ _ _) rfl ?_
            refine ⟨rfl, ?_⟩
            rw [← HO.out, HE.out, if_neg (by simpa using hl)]
            exact HSC.out.ahead _
          · have hl : (!ltInt (G (first + r)) (G (first + c))) = false := by assumption
            have HS3 : Hid (S32 w blk off D (wc.drewN nq)) := HSC.out.ahead _
            obtain ⟨hc3, hz3⟩ := HS3.out.cells hD G HG.out
            clear hcc hzc HSC
            generalize wc.drewN nq = w3 at *
            go_region
            all_goals go_wp2
            go_roundg (hi - c)
            case measure => omega
            case rel =>
              refine ⟨c, swp D (first + r) (first + c), rfl, by omega, Nat.le_refl _, by rw [size_swp]; exact hD, ?_, ?_⟩
              · rw [HG.out, HG.out]; exact HS3.out.swap 1 (first + r) (first + c) (by omega) (by omega)
              · rw [← HO.out, HE.out, if_pos (by simpa using hl)]

end Go.Proofs.YtkaaldhejpaiiaaGreatDoor
