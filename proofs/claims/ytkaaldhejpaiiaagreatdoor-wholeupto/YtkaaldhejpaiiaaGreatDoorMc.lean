import Derived.Test.YtkaaldhejpaiiaaGreatDoorMb
import Derived.Deep.CutBlock
import Derived.Deep.CutRange
/- The document's joined. -/
namespace Go.Proofs.YtkaaldhejpaiiaaGreatDoor
open Go.RowKit

theorem field_rowD (a b c s d e : Value) (w : World) : Sem.run Tryz.prog (Instr.field 72 (.agg #[a, b, c, s, d, e]) 3) w = .ok s w ∧ Sem.run Tryz.prog (Instr.field 72 (.agg #[a, b, c, s, d, e]) 4) w = .ok d w ∧
    Sem.run Tryz.prog (Instr.field 72 (.agg #[a, b, c, s, d, e]) 5) w = .ok e w := ⟨by kernel_rfl, by kernel_rfl, by kernel_rfl⟩
/-- What the document's row at a place says of its joining. -/
theorem jT (L : List Nat) (p : Int) : ((rowJ (dkAt L p)).toList == [84]) = decide (rE (pkAt L p) = 3) := join_is L p 3 (by decide)
theorem jD (L : List Nat) (p : Int) : ((rowJ (dkAt L p)).toList == [68]) = decide (rE (pkAt L p) = 2) := join_is L p 2 (by decide)
theorem jR (L : List Nat) (p : Int) : ((rowJ (dkAt L p)).toList == [82]) = decide (rE (pkAt L p) = 1) := join_is L p 1 (by decide)
theorem at_joining {w : World} {g : Nat} {L : List Nat} (hI : Ints w g L) (c : Nat) (p : Int) : ∃ a b k s t : Value, ∀ J, rowJ (dkAt L p) = J →
    Calls Tryz.prog 34 #[.slice (some ⟨g, 0, none⟩) L.length c, .int .i64 p] w fun e w' => e = .returned (.agg #[a, b, k, s, t, .string J]) ∧ Below w.heap.size w w' :=
  ⟨_, _, _, _, _, fun J hJ => by subst hJ; exact at_any' hI c p _ rfl⟩

set_option maxRecDepth 100000 in
set_option maxHeartbeats 4000000 in
theorem joinedD_any {w : World} {g : Nat} {L : List Nat} (hI : Ints w g L) (c : Nat) (i : Nat) (hi : i < L.length) :
    Calls Tryz.prog 110 #[.slice (some ⟨g, 0, none⟩) L.length c, .int .i64 (i : Int)] w fun e w' => e = .returned (.bool (joinedM L i)) ∧ Below w.heap.size w w' := by
  have hlen := hI.len
  have HI : Hid (Ints w g L) := hI
  have hil : (i : Int) ≤ 9223372036854775806 := by omega
  have fld := fun (a b c s d e : Value) w => (field_rowD a b c s d e w).2.2
  clear hI hlen
  go_enter Tryz.func110, Tryz.ntmps110
  go_upto_block 0 with fail
  go_cut [5] from 11 to 21 (fun av wc => av = .int .i64 (backN L i) ∧ Below w.heap.size w wc)
  case first =>
    go_wp2_with fail
    go_loopw [5] (fun pv wr => ∃ k : Nat, k ≤ i ∧ pv = .int .i64 ((k : Int) - 1) ∧ backN L i = backN L k ∧ Below w.heap.size w wr) (fun pv _ => (intOf pv + 1).toNat)
    case atStart => exact ⟨i, by omega, by go_num, rfl, Below.refl _ _⟩
    case round =>
      obtain ⟨k, hk, rfl, hbk, hbw⟩ := hrel
      have HB : Hid (backN L i = backN L k) := hbk
      have HBW : Hid (Below w.heap.size w wr) := hbw
      obtain ⟨ra, rb, rk, rs, rt, hat⟩ := at_joining (HI.out.keep hbw) c ((k : Int) - 1)
      have hJ := jT L ((k : Int) - 1)
      generalize rowJ (dkAt L ((k : Int) - 1)) = J at *
      replace hat := hat J rfl
      clear hbk hbw
      by_cases hk0 : k = 0
      · subst hk0
        go_wp2_with fail
        go_meet
        case rel => exact ⟨by rw [HB.out]; rfl, HBW.out⟩
      · have hk1 : 0 ≤ (k : Int) - 1 := by omega
        have hki : (k : Int) ≤ (i : Int) := by omega
        cases hv : decide (rE (pkAt L ((k : Int) - 1)) = 3) with
        | true =>
          rw [hv] at hJ
          go_wp2_with (go_at_call 34; refine hat.mono ?_; rintro e w1 ⟨rfl, hb1⟩)
          go_roundw
          case rel =>
            obtain ⟨m, rfl⟩ : ∃ m, k = m + 1 := ⟨k - 1, by omega⟩
            refine ⟨m, by omega, by go_num, ?_, Below.andThen HBW.out hb1⟩
            rw [HB.out, backN, if_pos (by rw [show ((m : Nat) : Int) = ((m + 1 : Nat) : Int) - 1 by omega]; exact of_decide_eq_true hv)]
          case measure => simp [intOf]; omega
        | false =>
          rw [hv] at hJ
          go_wp2_with (go_at_call 34; refine hat.mono ?_; rintro e w1 ⟨rfl, hb1⟩)
          go_meet
          case rel =>
            refine ⟨?_, Below.andThen HBW.out hb1⟩
            obtain ⟨m, rfl⟩ : ∃ m, k = m + 1 := ⟨k - 1, by omega⟩
            rw [HB.out, backN, if_neg (by rw [show ((m : Nat) : Int) = ((m + 1 : Nat) : Int) - 1 by omega]; exact of_decide_eq_false hv)]
            go_num
  case rest =>
    obtain ⟨rfl, hbc⟩ := hcut
    have HBC : Hid (Below w.heap.size w wc) := hbc
    clear hbc
    go_upto_block 2 with fail
    obtain ⟨n, hn⟩ : ∃ n, L.length = n := ⟨_, rfl⟩
    have HN : Hid (L.length = n) := hn
    have hlen : (n : Int) ≤ 9223372036854775807 := by have := HI.out.len; omega
    rw [hn]
    have hin : i < n := by omega
    go_cut [6] from 24 to 36 (fun av wd => av = .int .i64 (fwdN L (n - (i + 1)) (i + 1) : Nat) ∧ Below w.heap.size w wd)
    case first =>
      clear hn hi
      go_wp2_with fail
      go_loopw [6] (fun pv wr => ∃ k : Nat, k ≤ n ∧ pv = .int .i64 (k : Int) ∧ fwdN L (n - (i + 1)) (i + 1) = fwdN L (n - k) k ∧ Below w.heap.size w wr) (fun pv _ => n - (intOf pv).toNat)
      case atStart => exact ⟨i + 1, by omega, by go_num, rfl, HBC.out⟩
      case round =>
        obtain ⟨k, hk, rfl, hbk, hbw⟩ := hrel
        have HB : Hid (fwdN L (n - (i + 1)) (i + 1) = fwdN L (n - k) k) := hbk
        have HBW : Hid (Below w.heap.size w wr) := hbw
        obtain ⟨ra, rb, rk, rs, rt, hat⟩ := at_joining (HI.out.keep hbw) c (k : Int)
        have hJ := jT L (k : Int)
        generalize rowJ (dkAt L (k : Int)) = J at *
        replace hat := hat J rfl
        rw [HN.out] at hat
        clear hbk hbw
        by_cases hkn : k < n
        · have hkn' : (k : Int) < (n : Int) := by omega
          cases hv : decide (rE (pkAt L (k : Int)) = 3) with
          | true =>
            rw [hv] at hJ
            go_wp2_with (go_at_call 34; refine hat.mono ?_; rintro e w1 ⟨rfl, hb1⟩)
            go_roundw
            case rel =>
              refine ⟨k + 1, by omega, by go_num, ?_, Below.andThen HBW.out hb1⟩
              rw [HB.out, show n - k = (n - (k + 1)) + 1 by omega, fwdN, if_pos (of_decide_eq_true hv)]
            case measure => simp [intOf]; omega
          | false =>
            rw [hv] at hJ
            go_wp2_with (go_at_call 34; refine hat.mono ?_; rintro e w1 ⟨rfl, hb1⟩)
            go_meet
            case rel =>
              refine ⟨?_, Below.andThen HBW.out hb1⟩
              rw [HB.out, show n - k = (n - (k + 1)) + 1 by omega, fwdN, if_neg (of_decide_eq_false hv)]
        · have hkn' : ¬ (k : Int) < (n : Int) := by omega
          go_wp2_with fail
          go_meet
          case rel =>
            refine ⟨?_, HBW.out⟩
            rw [HB.out, show n - k = 0 by omega]
            rfl
    case rest =>
      obtain ⟨rfl, hbd⟩ := hcut
      have HBD : Hid (Below w.heap.size w wc) := hbd
      have h1 := fun W (hW : Ints W g L) => at_joining hW c (backN L i)
      have h2 := fun W (hW : Ints W g L) => at_joining hW c (fwdN L (n - (i + 1)) (i + 1) : Nat)
      have hjm : joinedM L i = (decide (rE (pkAt L (backN L i)) = 2) && (decide (rE (pkAt L (fwdN L (n - (i + 1)) (i + 1) : Nat)) = 2) || decide (rE (pkAt L (fwdN L (n - (i + 1)) (i + 1) : Nat)) = 1))) := by unfold joinedM; rw [HN.out]
      have d1 := jD L (backN L i)
      have d2 := jD L (fwdN L (n - (i + 1)) (i + 1) : Nat)
      have d3 := jR L (fwdN L (n - (i + 1)) (i + 1) : Nat)
      generalize rowJ (dkAt L (backN L i)) = J1 at *
      generalize rowJ (dkAt L (fwdN L (n - (i + 1)) (i + 1) : Nat)) = J2 at *
      obtain ⟨a1, a2, a3, a4, a5, hat1⟩ := h1 wc (HI.out.keep hbd)
      replace hat1 := hat1 J1 rfl
      rw [HN.out] at hat1
      clear h1 hn hi hbd
      generalize decide (rE (pkAt L (backN L i)) = 2) = v1 at *
      generalize decide (rE (pkAt L (fwdN L (n - (i + 1)) (i + 1) : Nat)) = 2) = v2 at *
      generalize decide (rE (pkAt L (fwdN L (n - (i + 1)) (i + 1) : Nat)) = 1) = v3 at *
      generalize backN L i = p1 at *
      generalize fwdN L (n - (i + 1)) (i + 1) = p2 at *
      have HJM : Hid (joinedM L i = (v1 && (v2 || v3))) := hjm
      clear hjm
      go_upto_region 8 with (go_at_call 34; refine hat1.mono ?_; rintro e w1 ⟨rfl, hb1⟩)
      obtain ⟨b1, b2, b3, b4, b5, hat2⟩ := h2 w1 ((HI.out.keep HBD.out).keep hb1)
      replace hat2 := hat2 J2 rfl
      rw [HN.out] at hat2
      clear h2 hat1
      go_upto_region 9 with (go_at_call 34; refine hat2.mono ?_; rintro e w2 ⟨rfl, hb2⟩)
      clear hat2
      cases v1 with
      | false =>
        go_wp2_with fail
        go_ret
        exact ⟨by rw [HJM.out]; simp, Below.andThen (Below.andThen HBD.out hb1) hb2⟩
      | true =>
        cases v2 with
        | true =>
          go_wp2_with fail
          go_ret
          exact ⟨by rw [HJM.out]; simp, Below.andThen (Below.andThen HBD.out hb1) hb2⟩
        | false =>
          go_wp2_with fail
          go_ret
          exact ⟨by rw [HJM.out]; simp, Below.andThen (Below.andThen HBD.out hb1) hb2⟩
end Go.Proofs.YtkaaldhejpaiiaaGreatDoor

