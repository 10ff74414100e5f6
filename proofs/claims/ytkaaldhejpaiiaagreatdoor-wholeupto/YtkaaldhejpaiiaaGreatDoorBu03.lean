import Derived.Test.YtkaaldhejpaiiaaGreatDoorBu01
import Derived.Sort.LotD2
import Derived.Lib.Strings
import Derived.Lib.Slices
import Derived.Lib.Small
import Derived.Lib.Walk
import Derived.Lib.BitFns
import Derived.Sort.WalkA14
import Derived.Sort.Walk7a
import Derived.Sort.Walk7
/- The library's sort at runes: partialInsertionSortOrdered. -/
namespace Go.Proofs.YtkaaldhejpaiiaaGreatDoor
open Go.RowKit Go.Sort

/-- A sign that is less than its left neighbour stands behind the part's first place. -/
theorem below_lt {a b j : Nat} {d D : Array Int} (hB : Sort.Below ltInt a b d) (hb : b ≤ d.size) (hP : PermIn a b d D) (haj : a ≤ j) (hjb : j < b) (h1 : 1 ≤ j) (hl : ltInt D[j]! D[j - 1]! = true) : a < j := by
  rcases Nat.lt_or_ge a j with h | h
  · exact h
  · obtain rfl : a = j := by omega
    rcases hB.perm hb hP with e | e
    · omega
    · rw [e a (Nat.le_refl _) hjb] at hl; cases hl
theorem ins_of_swap {a i : Nat} {D : Array Int} (hs : SortedIn ltInt a i D) (hai : a < i) : Ins ltInt a (i - 1) (i - 1) (swp D i (i - 1)) := by
  refine ⟨fun p q h1 h2 h3 h4 h5 => ?_, fun q h1 h2 => by omega⟩
  rw [swp_other D i (i - 1) q (by omega) h5, swp_other D i (i - 1) p (by omega) h4]
  exact hs p q h1 h2 (by omega)

set_option maxHeartbeats 16000000 in
set_option maxRecDepth 100000 in
theorem pins32 (blk off n cap a b : Nat) (d : Array Int) (w : World) (hn : d.size = n) (hH : Holds (Value.int .i32) w blk off d) (hblk : blk < w.heap.size) (hab : a < b) (hb : b ≤ n) (hsz : n ≤ 1000000) (hB : Sort.Below ltInt a b d) :
    Calls Tryz.prog 205 #[.slice (some ⟨blk, off, none⟩) n cap, .int .i64 a, .int .i64 b] w fun e w' =>
      ∃ (ok : Bool) (d' : Array Int), e = .returned (.bool ok) ∧ S32 w blk off d' w' ∧ PermIn a b d d' ∧ (ok = true → SortedIn ltInt a b d') := by
  have HS : Hid (S32 w blk off d w) := S32.refl hH hblk
  have HBl : Hid (∀ (j : Nat) (D : Array Int), PermIn a b d D → a ≤ j → j < b → 1 ≤ j → ltInt D[j]! D[j - 1]! = true → a < j) := fun j D hP h1 h2 h3 h4 => below_lt hB (by omega) hP h1 h2 h3 h4
  clear hH hB
  go_enter Tryz.func205, Tryz.ntmps205
  go_wp2
  go_loopg [7, 8] 5 (fun g x y wr => ∃ (i s : Nat) (D : Array Int), x = .int .i64 i ∧ y = .int .i64 s ∧ 5 - s ≤ g ∧ s ≤ 5 ∧ a < i ∧ i ≤ b ∧ D.size = n ∧ S32 w blk off D wr ∧ PermIn a b d D ∧ SortedIn ltInt a i D)
  case atStart => exact ⟨a + 1, 0, d, by go_num, rfl, by omega, by omega, by omega, by omega, hn, HS.out, permIn_refl _ _ _, fun p q h1 h2 h3 => by omega⟩
  case round =>
    obtain ⟨i, s, D, rfl, rfl, hg, hs5, hai, hib, hD, hSD, hP, hso⟩ := hrel
    have HSD : Hid (S32 w blk off D wr) := hSD
    have HP : Hid (PermIn a b d D) := hP
    have HSo : Hid (SortedIn ltInt a i D) := hso
    clear hSD hP hso
    by_cases hs : s < 5
    · have hs' : (s : Int) < 5 := by omega
      go_wp2
      go_loopg [7] (b - i) (fun g x wr => ∃ z : Nat, x = .int .i64 z ∧ b - z ≤ g ∧ i ≤ z ∧ z ≤ b ∧ S32 w blk off D wr ∧ SortedIn ltInt a z D)
      case atStart => exact ⟨i, rfl, Nat.le_refl _, Nat.le_refl _, hib, HSD.out, HSo.out⟩
      case round =>
        obtain ⟨z, rfl, hgz, hiz, hzb, hSz, hsz2⟩ := hrel
        obtain ⟨G, hG⟩ := fam D
        obtain ⟨hc, hz⟩ := hSz.cells hD G hG
        have HSz : Hid (S32 w blk off D wr) := hSz
        have HG : Hid (∀ t, G t = D[t]!) := hG
        have HSo2 : Hid (SortedIn ltInt a z D) := hsz2
        clear hSz hG hsz2 HSD
        go_upto_region 5 with fail
        go_cut [32] from 17 to 34 (fun x wc => x = .bool (decide (z < b) && !ltInt (G z) (G (z - 1))) ∧ S32 w blk off D wc)
        case first =>
          by_cases hij : z < b
          · have hij' : (z : Int) < (b : Int) := by omega
            go_quiet (first | (go_at_call 206; refine Calls.quiet_of_same (less32 _ _ _)))
            go_wp2
            go_meet
            case rel => exact ⟨by simp [hij], HSz.out.ahead _⟩
          · have hij' : decide ((z : Int) < (b : Int)) = false := decide_eq_false (by omega)
            go_quiet (first | (go_at_call 206; refine Calls.quiet_of_same (less32 _ _ _)))
            go_wp2
            go_meet
            case rel => exact ⟨by simp [hij], HSz.out.ahead _⟩
        case rest =>
          obtain ⟨rfl, hSc⟩ := hcut
          have HS1 : Hid (S32 w blk off D wc) := hSc
          clear hSc hc hz HSz
          generalize hBe : (decide (z < b) && !ltInt (G z) (G (z - 1))) = B
          have HBe : Hid ((decide (z < b) && !ltInt (G z) (G (z - 1))) = B) := hBe
          clear hBe
          cases B
          · by_cases hzb2 : z = b
            · subst hzb2
              go_wp2
              go_ret
              exact ⟨true, D, rfl, HS1.out, HP.out, fun _ => HSo2.out⟩
            · have hzne : ((z : Int) == (b : Int)) = false := by simp; omega
              have HL : Hid (ltInt D[z]! D[z - 1]! = true) := by
                have := HBe.out
                rw [HG.out, HG.out, decide_eq_true (show z < b by omega)] at this
                unfold Hid
                simpa using this
              by_cases h50 : (b : Int) - (a : Int) < 50
              · go_wp2
                go_ret
                exact ⟨false, D, rfl, HS1.out, HP.out, fun h => by cases h⟩
              · obtain ⟨hc1, hz1⟩ := HS1.out.cells hD G HG.out
                have HSW : Hid (S32 w blk off (swp D z (z - 1)) (((wc.drewN 1).setCell ⟨blk, off + z, none⟩ (.int .i32 (G (z - 1)))).setCell ⟨blk, off + (z - 1), none⟩ (.int .i32 (G z)))) := by
                  unfold Hid; rw [HG.out, HG.out]; exact HS1.out.swap 1 z (z - 1) (by omega) (by omega)
                have HPW : Hid (PermIn a b d (swp D z (z - 1))) := permIn_trans _ _ _ _ _ HP.out (swp_permIn D a b z (z - 1) (by omega) (by omega) (by omega) (by omega) (by omega))
                have HIn : Hid (Ins ltInt a (z - 1) (z - 1) (swp D z (z - 1))) := ins_of_swap HSo2.out (by omega)
                have hDw : (swp D z (z - 1)).size = n := by rw [size_swp]; exact hD
                go_upto_region 11 with fail
                go_cut [] from 13 to 132 (fun wc => S32 w blk off (swp D z (z - 1)) wc)
                case first =>
                  go_big_region
                  all_goals go_wp2
                  all_goals go_meet
                  case rel => exact HSW.out
                generalize swp D z (z - 1) = F at HPW HIn hDw hcut
                have HSF : Hid (S32 w blk off F wc) := hcut
                clear hcut hc1 hz1 HSW HS1
                go_upto_if 61 with fail
                go_cut [9] from 13 to 132 (fun x wd => ∃ F : Array Int, F.size = n ∧ S32 w blk off F wd ∧ PermIn a b d F ∧ SortedIn ltInt a z F)
                case first =>
                  by_cases h2 : 2 ≤ (z : Int) - (a : Int)
                  · go_wp2
                    go_loopg [9] z (fun g x wr => ∃ (j : Nat) (H : Array Int), x = .int .i64 j ∧ j ≤ g ∧ a ≤ j ∧ j < z ∧ H.size = n ∧ S32 w blk off H wr ∧ PermIn a b d H ∧ Ins ltInt a j (z - 1) H)
                    case atStart => exact ⟨z - 1, F, by congr 1; omega, by omega, by omega, by omega, hDw, HSF.out, HPW.out, HIn.out⟩
                    case round =>
                      obtain ⟨j, H, rfl, hgj, haj, hjz, hHn, hSH, hPH, hIH⟩ := hrel
                      have HSH : Hid (S32 w blk off H wr) := hSH
                      have HPH : Hid (PermIn a b d H) := hPH
                      have HIH : Hid (Ins ltInt a j (z - 1) H) := hIH
                      clear hSH hPH hIH
                      by_cases hj1 : 1 ≤ j
                      · have hj1' : (1 : Int) ≤ (j : Int) := by omega
                        obtain ⟨K, hK⟩ := fam H
                        obtain ⟨hc, hz⟩ := HSH.out.cells hHn K hK
                        have HK : Hid (∀ t, K t = H[t]!) := hK
                        clear hK
                        go_wp2
                        go_quiet (first | (go_at_call 206; refine Calls.quiet_of_same (less32 _ _ _)))
                        go_wp2
                        · have hl : (!ltInt (K j) (K (j - 1))) = true := by assumption
                          go_meet
                          case rel =>
                            refine ⟨H, hHn, HSH.out.ahead _, HPH.out, ?_⟩
                            have := HIH.out.stop swo_ltInt (Or.inr (by rw [← HK.out, ← HK.out]; simpa using hl))
                            rwa [show z - 1 + 1 = z by omega] at this
                        · have hl : (!ltInt (K j) (K (j - 1))) = false := by assumption
                          have HL2 : Hid (ltInt H[j]! H[j - 1]! = true) := by unfold Hid; rw [← HK.out, ← HK.out]; simpa using hl
                          have hajl : a < j := HBl.out j H HPH.out haj (by omega) hj1 HL2.out
                          have HS3 : Hid (S32 w blk off H (wr.drewN nq)) := HSH.out.ahead _
                          obtain ⟨hc3, hz3⟩ := HS3.out.cells hHn K HK.out
                          clear hc hz HSH hl
                          generalize wr.drewN nq = w3 at *
                          go_big_region
                          all_goals go_wp2
                          go_roundg (j - 1)
                          case measure => omega
                          case rel =>
                            refine ⟨j - 1, swp H j (j - 1), by congr 1; omega, Nat.le_refl _, by omega, by omega, by rw [size_swp]; exact hHn, ?_, ?_, ?_⟩
                            · rw [HK.out, HK.out]; exact HS3.out.swap 1 j (j - 1) (by omega) (by omega)
                            · exact permIn_trans _ _ _ _ _ HPH.out (swp_permIn H a b j (j - 1) (by omega) (by omega) (by omega) (by omega) (by omega))
                            · have hI := HIH.out
                              have hL := HL2.out
                              obtain ⟨k, rfl⟩ : ∃ k, j = k + 1 := ⟨j - 1, by omega⟩
                              rw [Nat.add_sub_cancel] at hL ⊢
                              exact hI.step hL (by omega) (by omega)
                      · have hj1' : ¬ (1 : Int) ≤ (j : Int) := by omega
                        go_wp2
                        go_meet
                        case rel =>
                          refine ⟨H, hHn, HSH.out, HPH.out, ?_⟩
                          have := HIH.out.stop swo_ltInt (Or.inl (by omega))
                          rwa [show z - 1 + 1 = z by omega] at this
                  · go_wp2
                    go_meet
                    case rel => exact ⟨F, hDw, HSF.out, HPW.out, fun p q h1 h2 h3 => by omega⟩
                case rest =>
                  obtain ⟨F2, hF2, hS2, hP2, hso2⟩ := hcut
                  have HS2 : Hid (S32 w blk off F2 wc) := hS2
                  have HP2 : Hid (PermIn a b d F2) := hP2
                  have HO2 : Hid (SortedIn ltInt a z F2) := hso2
                  clear hS2 hP2 hso2 HSF
                  by_cases h2 : 2 ≤ (b : Int) - (z : Int)
                  · go_wp2
                    go_loopg [10] (b - z) (fun g x wr => ∃ (j : Nat) (H : Array Int), x = .int .i64 j ∧ b - j ≤ g ∧ z < j ∧ j ≤ b ∧ H.size = n ∧ S32 w blk off H wr ∧ PermIn a b d H ∧ SortedIn ltInt a z H)
                    case atStart => exact ⟨z + 1, F2, by go_num, by omega, by omega, by omega, hF2, HS2.out, HP2.out, HO2.out⟩
                    case round =>
                      obtain ⟨j, H, rfl, hgj, hzj, hjb, hHn, hSH, hPH, hOH⟩ := hrel
                      have HSH : Hid (S32 w blk off H wr) := hSH
                      have HPH : Hid (PermIn a b d H) := hPH
                      have HOH : Hid (SortedIn ltInt a z H) := hOH
                      clear hSH hPH hOH
                      by_cases hj1 : j < b
                      · have hj1' : (j : Int) < (b : Int) := by omega
                        obtain ⟨K, hK⟩ := fam H
                        obtain ⟨hc, hz⟩ := HSH.out.cells hHn K hK
                        have HK : Hid (∀ t, K t = H[t]!) := hK
                        clear hK
                        go_wp2
                        go_quiet (first | (go_at_call 206; refine Calls.quiet_of_same (less32 _ _ _)))
                        go_wp2
                        · go_roundg (5 - (s + 1))
                          case measure => omega
                          case rel => exact ⟨z, s + 1, H, rfl, by go_num, Nat.le_refl _, by omega, by omega, hzb, hHn, HSH.out.ahead _, HPH.out, HOH.out⟩
                        · have HS3 : Hid (S32 w blk off H (wr.drewN nq)) := HSH.out.ahead _
                          obtain ⟨hc3, hz3⟩ := HS3.out.cells hHn K HK.out
                          clear hc hz HSH
                          generalize wr.drewN nq = w3 at *
                          go_big_region
                          all_goals go_wp2
                          go_roundg (b - (j + 1))
                          case measure => omega
                          case rel =>
                            refine ⟨j + 1, swp H j (j - 1), by go_num, Nat.le_refl _, by omega, by omega, by rw [size_swp]; exact hHn, ?_, ?_, ?_⟩
                            · rw [HK.out, HK.out]; exact HS3.out.swap 1 j (j - 1) (by omega) (by omega)
                            · exact permIn_trans _ _ _ _ _ HPH.out (swp_permIn H a b j (j - 1) (by omega) (by omega) (by omega) (by omega) (by omega))
                            · exact HOH.out.congrA fun p hp => swp_other H j (j - 1) p (by omega) (by omega)
                      · have hj1' : ¬ (j : Int) < (b : Int) := by omega
                        go_wp2
                        go_roundg (5 - (s + 1))
                        case measure => omega
                        case rel => exact ⟨z, s + 1, H, rfl, by go_num, Nat.le_refl _, by omega, by omega, hzb, hHn, HSH.out, HPH.out, HOH.out⟩
                  · go_wp2
                    go_roundg (5 - (s + 1))
                    case measure => omega
                    case rel => exact ⟨z, s + 1, F2, rfl, by go_num, Nat.le_refl _, by omega, by omega, hzb, hF2, HS2.out, HP2.out, HO2.out⟩
          · go_wp2
            go_roundg (b - (z + 1))
            case measure => have := HBe.out; simp at this; omega
            case rel =>
              have := HBe.out
              rw [HG.out, HG.out] at this
              simp only [Bool.and_eq_true, decide_eq_true_eq] at this
              exact ⟨z + 1, by go_num, Nat.le_refl _, by omega, by omega, HS1.out, HSo2.out.snoc swo_ltInt (by simpa using this.2)⟩
    · have hs' : ¬ (s : Int) < 5 := by omega
      go_wp2
      go_ret
      exact Or.inl ⟨rfl, D, HSD.out, HP.out⟩

end Go.Proofs.YtkaaldhejpaiiaaGreatDoor

/- math/bits.Len at numbers up to a million; nextPowerOfTwo; xorshift's Next. -/
namespace Go.Proofs.YtkaaldhejpaiiaaGreatDoor
open Go.RowKit Go.Sort

theorem tab_get (y : Nat) (h : y < Lib.len8tab.size) : (Lib.len8tab[y]'h).toNat = Lib.bitLen y := by
  have hy : y < 256 := by rw [Lib.len8tab_size] at h; exact h
  have := Lib.len8_of (y : Int) (by omega) (by omega)
  unfold Lib.len8 at this
  rw [Int.toNat_natCast, ByteArray.getElem?_lt' _ _ h, Option.getD_some] at this
  omega
theorem wrap_small (z : Int) (h0 : 0 ≤ z) (h1 : z ≤ 1000000) : wrap64 z = z := by unfold wrap64; omega

set_option maxHeartbeats 4000000 in
set_option maxRecDepth 100000 in
theorem len64_any (x : Int) (w : World) (h0 : 0 ≤ x) (h1 : x ≤ 1000000) :
    Calls Tryz.prog 210 #[.int .u64 x] w fun e w' => e = .returned (.int .i64 (Lib.bitLen x.toNat)) ∧ w' = w := by
  have hts : Lib.len8tab.size = 256 := by rfl
  have h2 : ¬ (4294967296 : Int) ≤ x := by omega
  go_enter Tryz.func210, Tryz.ntmps210
  by_cases h65 : (65536 : Int) ≤ x
  · have hq : x / 65536 < 256 := by omega
    go_wp2
    go_ret
    refine ⟨congrArg Ending.returned (congrArg (Value.int IntKind.i64) ?_), rfl⟩
    have hl := Lib.bitLen_le8' (x / 65536) (by omega) (by omega)
    rw [tab_get, wrap_small ((Lib.bitLen (x / 65536).toNat : Nat) : Int) (by omega) (by omega), wrap_small _ (by omega) (by omega), Lib.bitLen_shift16 x.toNat (by omega) (by omega), show (x / 65536).toNat = x.toNat / 65536 by omega]
    omega
  by_cases h8 : (256 : Int) ≤ x
  · have hq : x / 256 < 256 := by omega
    go_wp2
    go_ret
    refine ⟨congrArg Ending.returned (congrArg (Value.int IntKind.i64) ?_), rfl⟩
    have hl := Lib.bitLen_le8' (x / 256) (by omega) (by omega)
    rw [tab_get, wrap_small ((Lib.bitLen (x / 256).toNat : Nat) : Int) (by omega) (by omega), wrap_small _ (by omega) (by omega), Lib.bitLen_shift8 x.toNat (by omega) (by omega), show (x / 256).toNat = x.toNat / 256 by omega]
    omega
  · go_wp2
    go_ret
    refine ⟨congrArg Ending.returned (congrArg (Value.int IntKind.i64) ?_), rfl⟩
    have hl := Lib.bitLen_le8' x (by omega) (by omega)
    rw [tab_get, wrap_small ((Lib.bitLen x.toNat : Nat) : Int) (by omega) (by omega), wrap_small _ (by omega) (by omega)]

theorem len_any (x : Int) (w : World) (h0 : 0 ≤ x) (h1 : x ≤ 1000000) :
    Calls Tryz.prog 192 #[.int .u64 x] w fun e w' => e = .returned (.int .i64 (bitsLen x.toNat)) ∧ w' = w := by
  have hc := len64_any x w h0 h1
  rw [bitLen_eq x.toNat (by omega)] at hc
  go_enter Tryz.func192, Tryz.ntmps192
  go_wp2_with (go_at_call 210; refine hc.mono ?_; rintro e w' ⟨rfl, rfl⟩)
  go_ret
  exact ⟨rfl, rfl⟩

theorem len_small {n : Nat} (h : n ≤ 1000000) : bitsLen n ≤ 21 := (bitsLen_le_iff n 21).2 (by omega)
theorem next_pow (n : Nat) (w : World) (h : n ≤ 1000000) :
    Calls Tryz.prog 214 #[.int .i64 n] w fun e w' => e = .returned (.int .u64 ((2 ^ bitsLen n : Nat) : Int)) ∧ w' = w := by
  have hc := len_any (n : Int) w (by omega) (by omega)
  rw [Int.toNat_natCast] at hc
  have hk := len_small h
  obtain ⟨k, hk0⟩ : ∃ k, bitsLen n = k := ⟨_, rfl⟩
  rw [hk0] at hc hk ⊢
  have hm : min k 64 = k := by omega
  have hp := wrap_two_pow k (by omega)
  rw [Nat.one_shiftLeft] at hp
  rw [← hp]
  clear hk0 hp
  go_enter Tryz.func214, Tryz.ntmps214
  go_wp2_with (go_at_call 192; refine hc.mono ?_; rintro e w' ⟨rfl, rfl⟩)
  go_ret
  exact ⟨rfl, rfl⟩

/-- x ^ (x << s), x ^ (x >> s): some number of 64 bits. -/
theorem xor_left (X : Nat) (z : Int) (hX : X < 18446744073709551616) : ∃ A : Nat, A < 18446744073709551616 ∧ bits .xor .u64 (X : Int) (IntKind.u64.wrap ((X : Int) * z)) = (A : Int) := by
  rw [IntKind.wrap_u64]
  generalize (X : Int) * z = y
  obtain ⟨m, hm⟩ : ∃ m : Nat, y % 18446744073709551616 = (m : Int) := ⟨(y % 18446744073709551616).toNat, by omega⟩
  have hm2 : m < 18446744073709551616 := by omega
  rw [hm]
  exact ⟨X ^^^ m, Nat.xor_lt_two_pow (n := 64) (by omega) (by omega), bits_xor_u64_nat _ _ hX hm2⟩
theorem xor_right (X : Nat) (hX : X < 18446744073709551616) : ∃ A : Nat, A < 18446744073709551616 ∧ bits .xor .u64 (X : Int) ((X : Int) / 128) = (A : Int) := by
  refine ⟨X ^^^ (X / 128), Nat.xor_lt_two_pow (n := 64) (by omega) (by omega), ?_⟩
  rw [show ((X : Int) / 128) = ((X / 128 : Nat) : Int) by omega, bits_xor_u64_nat _ _ hX (by omega)]

set_option maxHeartbeats 4000000 in
set_option maxRecDepth 100000 in
theorem next_any (rb X : Nat) (w : World) (hX : X < 18446744073709551616) (hc : w.cell? ⟨rb, 0, none⟩ = some (.int .u64 X)) (hf : w.frozen? ⟨rb, 0, none⟩ = false) :
    Calls Tryz.prog 215 #[.pointer (some ⟨rb, 0, none⟩)] w fun e w' => ∃ Y : Nat, Y < 18446744073709551616 ∧ e = .returned (.int .u64 Y) ∧ w' = (w.setCell ⟨rb, 0, none⟩ (.int .u64 (Y : Nat))).drewN 3 := by
  obtain ⟨A, lA, e1⟩ := xor_left X 8192 hX
  obtain ⟨B, lB, e2⟩ := xor_right A lA
  obtain ⟨C, lC, e3⟩ := xor_left B 131072 lB
  have hss : ∀ v v', (w.setCell ⟨rb, 0, none⟩ v).setCell ⟨rb, 0, none⟩ v' = w.setCell ⟨rb, 0, none⟩ v' := setCell_setCell w rb 0
  go_enter Tryz.func215, Tryz.ntmps215
  go_wp2
  go_region
  all_goals go_wp2
  all_goals go_region
  all_goals go_wp2
  all_goals go_region
  all_goals go_wp2
  go_ret
  exact ⟨C, lC, rfl, rfl⟩
end Go.Proofs.YtkaaldhejpaiiaaGreatDoor

/- The library's sort at runes: a block of its own; breakPatternsOrdered. -/
namespace Go.Proofs.YtkaaldhejpaiiaaGreatDoor
open Go.RowKit Go.Sort

theorem S32.alloc {w wr : World} {blk off : Nat} {d : Array Int} (h : S32 w blk off d wr) (o : Obj) : S32 w blk off d (wr.alloc o) := by
  have hg : wr.alloc o = grow wr #[o] := alloc_eq_grow wr o
  rw [hg]
  refine ⟨?_, holds_grow _ _ _ _ _ _ h.lt h.holds, by have := h.lt; simp; omega, h.lt0⟩
  obtain ⟨n, os, rfl⟩ := h.at'
  exact ⟨n, os ++ #[o], grow_grow _ _ _⟩
theorem S32.set {w wr : World} {blk off : Nat} {d : Array Int} (h : S32 w blk off d wr) (rb : Nat) (v : Value) (hr : w.heap.size ≤ rb) : S32 w blk off d (wr.setCell ⟨rb, 0, none⟩ v) := by
  have h0 := h.lt0
  have e : wr.setCell ⟨rb, 0, none⟩ v = mapBlock wr rb (·.setIfInBounds 0 v) := setCell_eq _ _ _ _
  rw [e]
  refine ⟨?_, ?_, ?_, h.lt0⟩
  · obtain ⟨n, os, rfl⟩ := h.at'
    exact ⟨n, _, mapBlock_grow_new _ _ _ _ (by simpa using hr)⟩
  · intro j hj
    have hh := h.holds j hj
    rw [frozen?_mapBlock]
    refine ⟨?_, hh.2⟩
    rw [← hh.1]
    unfold mapBlock World.cell?
    simp only [Array.getElem?_modify]
    rw [if_neg (by omega)]
  · have := h.lt; simpa [mapBlock] using this

theorem new_cell (w : World) (v : Value) (T : TypeId) : (w.alloc (Obj.cells #[v] T)).cell? ⟨w.heap.size, 0, none⟩ = some v ∧ (w.alloc (Obj.cells #[v] T)).frozen? ⟨w.heap.size, 0, none⟩ = false := by
  rw [alloc_eq_grow]
  exact ⟨grow_one_cell _ _ _, grow_one_frozen _ _ _⟩
/-- Behind two stores into the row another block's cell is as it was. -/
theorem aside_cell {w : World} {blk rb i j : Nat} {u v x : Value} (hne : rb ≠ blk) (hc : w.cell? ⟨rb, 0, none⟩ = some x) (hf : w.frozen? ⟨rb, 0, none⟩ = false) :
    ((w.setCell ⟨blk, i, none⟩ u).setCell ⟨blk, j, none⟩ v).cell? ⟨rb, 0, none⟩ = some x ∧ ((w.setCell ⟨blk, i, none⟩ u).setCell ⟨blk, j, none⟩ v).frozen? ⟨rb, 0, none⟩ = false := by
  rw [setCell_eq, setCell_eq, mapBlock_mapBlock, frozen?_mapBlock]
  refine ⟨?_, hf⟩
  rw [← hc]
  unfold mapBlock World.cell?
  simp only [Array.getElem?_modify]
  rw [if_neg (by omega)]

theorem and_low (Y M : Nat) (hY : Y < 18446744073709551616) (h1 : 1 ≤ M) (h2 : M ≤ 4000000) : ∃ O : Nat, O < M ∧ bits .and .u64 (Y : Int) ((M : Int) - 1) = (O : Int) := by
  refine ⟨Y &&& (M - 1), ?_, ?_⟩
  · have : Y &&& (M - 1) ≤ M - 1 := Nat.and_le_right
    omega
  · rw [show ((M : Int) - 1) = ((M - 1 : Nat) : Int) by omega, bits_and_u64_nat _ _ hY (by omega)]
theorem set_same {w : World} {rb : Nat} {u v : Value} (hc : w.cell? ⟨rb, 0, none⟩ = some u) (hf : w.frozen? ⟨rb, 0, none⟩ = false) :
    ((w.setCell ⟨rb, 0, none⟩ v).drewN 3).cell? ⟨rb, 0, none⟩ = some v ∧ ((w.setCell ⟨rb, 0, none⟩ v).drewN 3).frozen? ⟨rb, 0, none⟩ = false := by
  obtain ⟨c, e, fr, hb, hk⟩ := cells_of_cell? hc
  have hlt : 0 < c.size := by
    rcases Nat.eq_zero_or_pos c.size with h | h
    · rw [Array.getElem?_eq_none (by omega)] at hk; cases hk
    · exact h
  show (w.setCell ⟨rb, 0, none⟩ v).cell? ⟨rb, 0, none⟩ = some v ∧ (w.setCell ⟨rb, 0, none⟩ v).frozen? ⟨rb, 0, none⟩ = false
  rw [setCell_eq, frozen?_mapBlock, cell?_mapBlock w rb 0 _ hb]
  exact ⟨by simp [hlt], hf⟩

set_option maxHeartbeats 8000000 in
set_option maxRecDepth 100000 in
theorem brk32 (blk off n cap a L : Nat) (d : Array Int) (w : World) (hn : d.size = n) (hH : Holds (Value.int .i32) w blk off d) (hblk : blk < w.heap.size) (hb : a + L ≤ n) (hsz : n ≤ 1000000) (h8 : 8 ≤ L) :
    Calls Tryz.prog 202 #[.slice (some ⟨blk, off, none⟩) n cap, .int .i64 a, .int .i64 ((a + L : Nat) : Int)] w fun e w' =>
      e = .returned (.tuple #[]) ∧ ∃ d', S32 w blk off d' w' ∧ PermIn a (a + L) d d' := by
  obtain ⟨M, hM⟩ : ∃ M : Nat, M = 2 ^ bitsLen L := ⟨_, rfl⟩
  have hM1 : 1 ≤ M := by rw [hM]; exact Nat.two_pow_pos _
  have hM2 : M ≤ 2 * L := by rw [hM]; exact two_pow_bitsLen_le (by omega)
  have hNP : ∀ w, Calls Tryz.prog 214 #[.int .i64 (L : Int)] w fun e w' => e = .returned (.int .u64 (M : Int)) ∧ w' = w := by rw [hM]; exact fun w => next_pow L w (by omega)
  clear hM
  have HS : Hid (S32 w blk off d (w.alloc (Obj.cells #[.int .u64 (L : Int)] 238))) := (S32.refl hH hblk).alloc _
  have HC : Hid ((w.alloc (Obj.cells #[.int .u64 (L : Int)] 238)).cell? ⟨w.heap.size, 0, none⟩ = some (.int .u64 (L : Int)) ∧ (w.alloc (Obj.cells #[.int .u64 (L : Int)] 238)).frozen? ⟨w.heap.size, 0, none⟩ = false) := new_cell _ _ _
  obtain ⟨q, hq⟩ : ∃ q : Nat, L / 4 * 2 = q := ⟨_, rfl⟩
  have hq1 : 4 ≤ q := by omega
  have hq2 : q + 2 ≤ L := by omega
  have hqI : (L : Int) / 4 * 2 = (q : Int) := by omega
  have hLI : (a : Int) + (L : Int) - (a : Int) = (L : Int) := by omega
  clear hH hq
  go_enter Tryz.func202, Tryz.ntmps202
  go_wp2_with (first | (go_at_call 214; refine (hNP _).mono ?_; rintro e w' ⟨rfl, rfl⟩))
  go_loopg [9] 3 (fun g x wr => ∃ (t : Nat) (X : Nat) (D : Array Int), x = .int .i64 ((a + q - 1 + t : Nat) : Int) ∧ 3 - t ≤ g ∧ t ≤ 3 ∧ D.size = n ∧ X < 18446744073709551616 ∧ S32 w blk off D wr ∧ wr.cell? ⟨w.heap.size, 0, none⟩ = some (.int .u64 (X : Int)) ∧ wr.frozen? ⟨w.heap.size, 0, none⟩ = false ∧ PermIn a (a + L) d D)
  case atStart => exact ⟨0, L, d, by congr 1; omega, by omega, by omega, hn, by omega, HS.out, HC.out.1, HC.out.2, permIn_refl _ _ _⟩
  case round =>
    obtain ⟨t, X, D, rfl, hg, ht, hD, hX, hSD, hcB, hfB, hP⟩ := hrel
    have hNext := next_any w.heap.size X wr hX hcB hfB
    have HSD : Hid (S32 w blk off D wr) := hSD
    have HP : Hid (PermIn a (a + L) d D) := hP
    clear hSD hP
    by_cases ht3 : t < 3
    · have hle : ((a + q - 1 + t : Nat) : Int) ≤ (a : Int) + (q : Int) + 1 := by omega
      obtain ⟨I, hI⟩ : ∃ I : Nat, a + q - 1 + t = I := ⟨_, rfl⟩
      rw [hI] at hle ⊢
      have hI1 : a ≤ I := by omega
      have hI2 : I < a + L := by omega
      have HI : Hid (a + q - 1 + t = I) := hI
      clear hI
      go_upto_if 43 with (go_at_call 215; refine hNext.mono ?_; rintro e w' ⟨Y, hY, rfl, hw'⟩; obtain ⟨O, hO, eAnd⟩ := and_low Y M hY hM1 (by omega); have HS2 : Hid (S32 w blk off D w') := (by unfold Hid; rw [hw']; exact (HSD.out.set _ _ (Nat.le_refl _)).ahead 3); have HC2 : Hid (w'.cell? ⟨w.heap.size, 0, none⟩ = some (.int .u64 (Y : Int)) ∧ w'.frozen? ⟨w.heap.size, 0, none⟩ = false) := (by unfold Hid; rw [hw']; exact set_same hcB hfB); clear hw')
      clear hcB hfB hNext HSD eAnd
      go_cut [10] from 26 to 64 (fun x wc => wc = w' ∧ ∃ o : Nat, x = .int .i64 o ∧ o < L)
      case first =>
        by_cases hLO : (L : Int) ≤ (O : Int)
        · go_wp2
          go_meet
          case rel => exact ⟨rfl, O - L, by congr 1; omega, by omega⟩
        · go_wp2
          go_meet
          case rel => exact ⟨rfl, O, rfl, by omega⟩
      case rest =>
        obtain ⟨rfl, o, rfl, hoL⟩ := hcut
        have HC3 : Hid (∀ (i j : Nat) (u v : Value), (((wc.drewN 1).setCell ⟨blk, i, none⟩ u).setCell ⟨blk, j, none⟩ v).cell? ⟨w.heap.size, 0, none⟩ = some (.int .u64 (Y : Int)) ∧ (((wc.drewN 1).setCell ⟨blk, i, none⟩ u).setCell ⟨blk, j, none⟩ v).frozen? ⟨w.heap.size, 0, none⟩ = false) := fun i j u v => aside_cell (by omega) HC2.out.1 HC2.out.2
        go_upto_region 10 with fail
        obtain ⟨G, hG⟩ := fam D
        obtain ⟨hc, hz⟩ := HS2.out.cells hD G hG
        have HSW : Hid (S32 w blk off (swp D I (a + o)) (((wc.drewN 1).setCell ⟨blk, off + I, none⟩ (.int .i32 (G (a + o)))).setCell ⟨blk, off + (a + o), none⟩ (.int .i32 (G I)))) := by
          unfold Hid; rw [hG, hG]; exact HS2.out.swap 1 I (a + o) (by omega) (by omega)
        have HPW : Hid (PermIn a (a + L) d (swp D I (a + o))) := permIn_trans _ _ _ _ _ HP.out (swp_permIn D a (a + L) I (a + o) hI1 hI2 (by omega) (by omega) (by omega))
        clear hG HS2 HC2
        by_cases hEq : I = a + o
        · subst hEq
          go_big_region
          all_goals go_wp2
          go_roundg (3 - (t + 1))
          case measure => omega
          case rel => exact ⟨t + 1, Y, swp D (a + o) (a + o), by have := HI.out; first | rfl | (congr 1; omega), Nat.le_refl _, by omega, by rw [size_swp]; exact hD, hY, HSW.out, (HC3.out _ _ _ _).1, (HC3.out _ _ _ _).2, HPW.out⟩
        · go_big_region
          all_goals go_wp2
          go_roundg (3 - (t + 1))
          case measure => omega
          case rel => exact ⟨t + 1, Y, swp D I (a + o), by have := HI.out; first | rfl | (congr 1; omega), Nat.le_refl _, by omega, by rw [size_swp]; exact hD, hY, HSW.out, (HC3.out _ _ _ _).1, (HC3.out _ _ _ _).2, HPW.out⟩
    · have hle : ¬ ((a + q - 1 + t : Nat) : Int) ≤ (a : Int) + (q : Int) + 1 := by omega
      go_wp2
      go_end0
      exact ⟨rfl, D, HSD.out, HP.out⟩

end Go.Proofs.YtkaaldhejpaiiaaGreatDoor

/- The library's sort at runes: order2Ordered, medianOrdered, medianAdjacentOrdered, choosePivotOrdered. -/
namespace Go.Proofs.YtkaaldhejpaiiaaGreatDoor
open Go.RowKit Go.Sort

/-- The row, and a counter in a block of its own. -/
structure C32 (w : World) (blk off sb : Nat) (d : Array Int) (k : Nat) (wr : World) : Prop where
  row : S32 w blk off d wr
  new : w.heap.size ≤ sb
  cnt : ∃ c : Nat, c ≤ k ∧ wr.cell? ⟨sb, 0, none⟩ = some (.int .i64 (c : Int))
  free : wr.frozen? ⟨sb, 0, none⟩ = false

theorem C32.ahead {w wr : World} {blk off sb k : Nat} {d : Array Int} (h : C32 w blk off sb d k wr) (q : Nat) : C32 w blk off sb d k (wr.drewN q) := ⟨h.row.ahead q, h.new, h.cnt, h.free⟩
theorem C32.mono {w wr : World} {blk off sb k k' : Nat} {d : Array Int} (h : C32 w blk off sb d k wr) (hk : k ≤ k') : C32 w blk off sb d k' wr := by
  obtain ⟨c, hc, e⟩ := h.cnt
  exact ⟨h.row, h.new, ⟨c, by omega, e⟩, h.free⟩
theorem C32.count {w wr : World} {blk off sb k c : Nat} {d : Array Int} (h : C32 w blk off sb d k wr) (hc : c ≤ k + 1) : C32 w blk off sb d (k + 1) (wr.setCell ⟨sb, 0, none⟩ (.int .i64 (c : Int))) := by
  obtain ⟨c0, _, e⟩ := h.cnt
  have hs := set_same (v := .int .i64 (c : Int)) e h.free
  exact ⟨h.row.set _ _ h.new, h.new, ⟨c, hc, hs.1⟩, hs.2⟩

set_option maxHeartbeats 4000000 in
set_option maxRecDepth 100000 in
theorem ord32 (blk off n cap sb k x y : Nat) (d : Array Int) (w w0 : World) (hn : d.size = n) (hC : C32 w0 blk off sb d k w) (hk : k ≤ 1000) (hx : x < n) (hy : y < n) (_hsz : n ≤ 1000000) :
    Calls Tryz.prog 220 #[.slice (some ⟨blk, off, none⟩) n cap, .int .i64 x, .int .i64 y, .pointer (some ⟨sb, 0, none⟩)] w fun e w' =>
      ∃ (u v : Nat), e = .returned (.tuple #[.int .i64 u, .int .i64 v]) ∧ (u = x ∧ v = y ∨ u = y ∧ v = x) ∧ C32 w0 blk off sb d (k + 1) w' := by
  obtain ⟨G, hG⟩ := fam d
  obtain ⟨hc, hz⟩ := hC.row.cells hn G hG
  have HC : Hid (C32 w0 blk off sb d k w) := hC
  obtain ⟨c, hck, hcc⟩ := hC.cnt
  have hfr := hC.free
  clear hC hG
  go_enter Tryz.func220, Tryz.ntmps220
  go_wp2
  go_quiet (first | (go_at_call 206; refine Calls.quiet_of_same (less32 _ _ _)))
  have hcc' : (w.drewN nq).cell? ⟨sb, 0, none⟩ = some (.int .i64 (c : Int)) := hcc
  have hfr' : (w.drewN nq).frozen? ⟨sb, 0, none⟩ = false := hfr
  have HC' : Hid (C32 w0 blk off sb d k (w.drewN nq)) := HC.out.ahead _
  clear HC hcc hfr hc hz
  generalize w.drewN nq = w1 at *
  go_wp2
  · go_ret2
    exact ⟨y, x, rfl, Or.inr ⟨rfl, rfl⟩, HC'.out.count (c := c + 1) (by omega)⟩
  · go_ret2
    exact ⟨x, y, rfl, Or.inl ⟨rfl, rfl⟩, HC'.out.mono (by omega)⟩

set_option maxHeartbeats 4000000 in
set_option maxRecDepth 100000 in
theorem med32 (blk off n cap sb k x y z : Nat) (d : Array Int) (w w0 : World) (hn : d.size = n) (hC : C32 w0 blk off sb d k w) (hk : k ≤ 900) (hx : x < n) (hy : y < n) (hz : z < n) (hsz : n ≤ 1000000) :
    Calls Tryz.prog 217 #[.slice (some ⟨blk, off, none⟩) n cap, .int .i64 x, .int .i64 y, .int .i64 z, .pointer (some ⟨sb, 0, none⟩)] w fun e w' =>
      ∃ u : Nat, e = .returned (.int .i64 u) ∧ (u = x ∨ u = y ∨ u = z) ∧ C32 w0 blk off sb d (k + 3) w' := by
  have h1 := ord32 blk off n cap sb k x y d w w0 hn hC (by omega) hx hy hsz
  go_enter Tryz.func217, Tryz.ntmps217
  go_upto_region 2 with (go_at_call 220; refine h1.mono ?_; rintro e w1 ⟨u1, v1, rfl, huv1, hC1⟩)
  have h2 := ord32 blk off n cap sb (k + 1) v1 z d w1 w0 hn hC1 (by omega) (by omega) hz hsz
  clear h1 hC1
  go_upto_region 3 with (go_at_call 220; refine h2.mono ?_; rintro e w2 ⟨u2, v2, rfl, huv2, hC2⟩)
  have h3 := ord32 blk off n cap sb (k + 2) u1 u2 d w2 w0 hn hC2 (by omega) (by omega) (by omega) hsz
  clear h2 hC2
  go_wp2_with (go_at_call 220; refine h3.mono ?_; rintro e w3 ⟨u3, v3, rfl, huv3, hC3⟩)
  go_ret
  exact ⟨v3, rfl, by omega, hC3⟩

set_option maxHeartbeats 4000000 in
set_option maxRecDepth 100000 in
theorem medadj32 (blk off n cap sb k x : Nat) (d : Array Int) (w w0 : World) (hn : d.size = n) (hC : C32 w0 blk off sb d k w) (hk : k ≤ 900) (hx0 : 1 ≤ x) (hx : x + 1 < n) (hsz : n ≤ 1000000) :
    Calls Tryz.prog 216 #[.slice (some ⟨blk, off, none⟩) n cap, .int .i64 x, .pointer (some ⟨sb, 0, none⟩)] w fun e w' =>
      ∃ u : Nat, e = .returned (.int .i64 u) ∧ (u = x - 1 ∨ u = x ∨ u = x + 1) ∧ C32 w0 blk off sb d (k + 3) w' := by
  have h1 := med32 blk off n cap sb k (x - 1) x (x + 1) d w w0 hn hC (by omega) (by omega) (by omega) (by omega) hsz
  have e1 : ((x - 1 : Nat) : Int) = (x : Int) - 1 := by omega
  have e2 : ((x + 1 : Nat) : Int) = (x : Int) + 1 := by omega
  rw [e1, e2] at h1
  clear e1 e2
  go_enter Tryz.func216, Tryz.ntmps216
  go_wp2_with (go_at_call 217; refine h1.mono ?_; rintro e w1 ⟨u, rfl, hu, hC1⟩)
  go_ret
  exact ⟨u, rfl, hu, hC1⟩

set_option maxHeartbeats 8000000 in
set_option maxRecDepth 100000 in
theorem pivot32 (blk off n cap a L : Nat) (d : Array Int) (w : World) (hn : d.size = n) (hH : Holds (Value.int .i32) w blk off d) (hblk : blk < w.heap.size) (hL : 1 ≤ L) (hb : a + L ≤ n) (hsz : n ≤ 1000000) :
    Calls Tryz.prog 203 #[.slice (some ⟨blk, off, none⟩) n cap, .int .i64 a, .int .i64 ((a + L : Nat) : Int)] w fun e w' =>
      ∃ pv h : Nat, e = .returned (.tuple #[.int .i64 pv, .int .i64 h]) ∧ a ≤ pv ∧ pv < a + L ∧ h ≤ 2 ∧ S32 w blk off d w' := by
  have HC : Hid (C32 w blk off w.heap.size d 0 (w.alloc (Obj.cells #[.int .i64 0] 3))) :=
    ⟨(S32.refl hH hblk).alloc _, Nat.le_refl _, ⟨0, Nat.le_refl _, (new_cell _ _ _).1⟩, (new_cell _ _ _).2⟩
  obtain ⟨q, hq⟩ : ∃ q : Nat, L / 4 = q := ⟨_, rfl⟩
  have hqI : (L : Int) / 4 = (q : Int) := by omega
  have hq1 : 4 * q ≤ L := by omega
  have hq2 : L ≤ 4 * q + 3 := by omega
  have hLI : (a : Int) + (L : Int) - (a : Int) = (L : Int) := by omega
  clear hH hq
  go_enter Tryz.func203, Tryz.ntmps203
  go_upto_if 32 with fail
  generalize w.alloc (Obj.cells #[.int .i64 0] 3) = w1 at *
  go_cut [10, 11, 12] from 13 (fun x y z wc => ∃ pv : Nat, y = .int .i64 pv ∧ a ≤ pv ∧ pv < a + L ∧ C32 w blk off w.heap.size d 12 wc)
  case first =>
    by_cases h8 : (8 : Int) ≤ (L : Int)
    · go_upto_if 34 with fail
      go_cut [10, 11, 12] from 13 (fun x y z wc => ∃ i j k : Nat, x = .int .i64 i ∧ y = .int .i64 j ∧ z = .int .i64 k ∧ a ≤ i ∧ i < a + L ∧ a ≤ j ∧ j < a + L ∧ a ≤ k ∧ k < a + L ∧ C32 w blk off w.heap.size d 9 wc)
      case first =>
        by_cases h50 : (50 : Int) ≤ (L : Int)
        · have m1 := medadj32 blk off n cap w.heap.size 0 (a + q) d w1 w hn HC.out (by omega) (by omega) (by omega) hsz
          have e1 : ((a + q : Nat) : Int) = (a : Int) + (q : Int) := by omega
          rw [e1] at m1
          clear e1
          go_upto_region 9 with (go_at_call 216; refine m1.mono ?_; rintro e w2 ⟨i, rfl, hi, hC2⟩)
          have m2 := medadj32 blk off n cap w.heap.size 3 (a + q * 2) d w2 w hn hC2 (by omega) (by omega) (by omega) hsz
          have e2 : ((a + q * 2 : Nat) : Int) = (a : Int) + (q : Int) * 2 := by omega
          rw [e2] at m2
          clear e2 m1 hC2
          go_upto_region 10 with (go_at_call 216; refine m2.mono ?_; rintro e w3 ⟨j, rfl, hj, hC3⟩)
          have m3 := medadj32 blk off n cap w.heap.size 6 (a + q * 3) d w3 w hn hC3 (by omega) (by omega) (by omega) hsz
          have e3 : ((a + q * 3 : Nat) : Int) = (a : Int) + (q : Int) * 3 := by omega
          rw [e3] at m3
          clear e3 m2 hC3
          go_wp2_with (go_at_call 216; refine m3.mono ?_; rintro e w4 ⟨k, rfl, hk, hC4⟩)
          go_meet
          case rel => exact ⟨i, j, k, rfl, rfl, rfl, by omega, by omega, by omega, by omega, by omega, by omega, hC4⟩
        · go_wp2
          go_meet
          case rel => exact ⟨a + q, a + q * 2, a + q * 3, by congr 1, by congr 1, by congr 1, by omega, by omega, by omega, by omega, by omega, by omega, HC.out.mono (by omega)⟩
      case rest =>
        obtain ⟨i, j, k, rfl, rfl, rfl, h1, h2, h3, h4, h5, h6, hC9⟩ := hcut
        have m := med32 blk off n cap w.heap.size 9 i j k d wc w hn hC9 (by omega) (by omega) (by omega) (by omega) hsz
        clear hC9
        go_wp2_with (go_at_call 217; refine m.mono ?_; rintro e w5 ⟨u, rfl, hu, hC5⟩)
        go_meet
        case rel => exact ⟨u, rfl, by omega, by omega, hC5⟩
    · go_wp2
      go_meet
      case rel => exact ⟨a + q * 2, by congr 1, by omega, by omega, HC.out.mono (by omega)⟩
  case rest =>
    obtain ⟨pv, rfl, hp1, hp2, hC⟩ := hcut
    obtain ⟨c, hc12, hcell⟩ := hC.cnt
    have HR : Hid (S32 w blk off d wc) := hC.row
    clear hC
    by_cases hc0 : c = 0
    · subst hc0
      go_wp2
      go_ret2
      exact ⟨pv, 1, rfl, hp1, hp2, by omega, HR.out⟩
    · by_cases hc1 : c = 12
      · subst hc1
        go_wp2
        go_ret2
        exact ⟨pv, 2, rfl, hp1, hp2, by omega, HR.out⟩
      · have n0 : ((c : Int) == 0) = false := by simp; omega
        have n1 : ((c : Int) == 12) = false := by simp; omega
        go_wp2
        go_ret2
        exact ⟨pv, 0, rfl, hp1, hp2, by omega, HR.out⟩

end Go.Proofs.YtkaaldhejpaiiaaGreatDoor

