/- isInContext. -/
import Derived.Test.YtkaaldhejpaiiaaGreatDoorLf
namespace Go.Proofs.YtkaaldhejpaiiaaGreatDoor
open Go.RowKit

def standsM (L : List Nat) (p : Int) (x : Int) : Bool := decide (0 ≤ p ∧ p < (L.length : Int)) && decide (((L.getD p.toNat 0 : Nat) : Int) = x)
/-- Is the condition of the sign n at place i so? kata: signs of the three scripts are there; mixed: digits of both rows are. -/
def ctxM (L : List Nat) (kata mixed : Bool) (n i : Nat) : Bool :=
  if n = 183 then standsM L ((i : Int) - 1) 108 && standsM L ((i : Int) + 1) 108
  else if n = 885 then decide (rD (pkAt L ((i : Int) + 1)) = 2)
  else if n = 1523 ∨ n = 1524 then decide (rD (pkAt L ((i : Int) - 1)) = 3)
  else if n = 12539 then kata
  else if (1632 ≤ n ∧ n ≤ 1641) ∨ (1776 ≤ n ∧ n ≤ 1785) then !mixed
  else if n = 8204 then joinedM L i || standsM L ((i : Int) - 1) 2381
  else if n = 8205 then standsM L ((i : Int) - 1) 2381
  else true
theorem isAr_t (x : Int) (w : World) (h : 1632 ≤ x ∧ x ≤ 1641) : Calls Tryz.prog 138 #[.int .i32 x] w fun e w' => e = .returned (.bool true) ∧ w' = w := by
  have := isRange_any 138 1632 1641 (Or.inl ⟨rfl, rfl, rfl⟩) x w
  rwa [inRange, decide_eq_true h] at this
theorem isAr_f (x : Int) (w : World) (h : ¬ (1632 ≤ x ∧ x ≤ 1641)) : Calls Tryz.prog 138 #[.int .i32 x] w fun e w' => e = .returned (.bool false) ∧ w' = w := by
  have := isRange_any 138 1632 1641 (Or.inl ⟨rfl, rfl, rfl⟩) x w
  rwa [inRange, decide_eq_false h] at this
theorem isEx_t (x : Int) (w : World) (h : 1776 ≤ x ∧ x ≤ 1785) : Calls Tryz.prog 139 #[.int .i32 x] w fun e w' => e = .returned (.bool true) ∧ w' = w := by
  have := isRange_any 139 1776 1785 (Or.inr ⟨rfl, rfl, rfl⟩) x w
  rwa [inRange, decide_eq_true h] at this
theorem isEx_f (x : Int) (w : World) (h : ¬ (1776 ≤ x ∧ x ≤ 1785)) : Calls Tryz.prog 139 #[.int .i32 x] w fun e w' => e = .returned (.bool false) ∧ w' = w := by
  have := isRange_any 139 1776 1785 (Or.inr ⟨rfl, rfl, rfl⟩) x w
  rwa [inRange, decide_eq_false h] at this
theorem one2 (x : Int) : ([2].any fun y => x == y) = decide (x = 2) := by simp only [List.any_cons, List.any_nil, Bool.or_false]; rfl

set_option maxRecDepth 100000 in
set_option maxHeartbeats 8000000 in
theorem isInContext_any {w : World} {b r : Nat} {L : List Nat} (hL : Lab w b r L) (i : Nat) (hi : i < L.length) (kata mixed : Bool) :
    Calls Tryz.prog 101 #[.pointer (some ⟨b, 0, none⟩), .int .i64 (i : Int), .agg #[.bool kata, .bool mixed]] w fun e w' => e = .returned (.bool (ctxM L kata mixed L[i] i)) ∧ Below w.heap.size w w' := by
  have hL0 := hL.alloc (.cells #[.bool kata, .bool mixed] 139)
  have hB0 := below_one w (.cells #[.bool kata, .bool mixed] 139)
  have hlen := hL.len
  have hat := fat_any hL0 i hi
  have hil : (i : Int) < 9223372036854775807 := by omega
  have hsg : L[i] ≤ 1114111 := hL.sgn _ (List.getElem_mem hi)
  have HL : Hid (Lab (w.alloc (.cells #[.bool kata, .bool mixed] 139)) b r L) := hL0
  have HB : Hid (Below w.heap.size w (w.alloc (.cells #[.bool kata, .bool mixed] 139))) := hB0
  have hj := isBetweenJoined_any hL0 i hi
  unfold ctxM
  generalize L[i] = n at *
  clear hL hL0 hB0
  by_cases h0 : n = 183
  · subst h0
    rw [if_pos rfl]
    have s1 := stands_any HL.out ((i : Int) - 1) 108
    have s2 := stands_any HL.out ((i : Int) + 1) 108
    rw [show (decide (0 ≤ (i : Int) - 1 ∧ (i : Int) - 1 < (L.length : Int)) && decide (((L.getD ((i : Int) - 1).toNat 0 : Nat) : Int) = 108)) = standsM L ((i : Int) - 1) 108 from rfl] at s1
    rw [show (decide (0 ≤ (i : Int) + 1 ∧ (i : Int) + 1 < (L.length : Int)) && decide (((L.getD ((i : Int) + 1).toNat 0 : Nat) : Int) = 108)) = standsM L ((i : Int) + 1) 108 from rfl] at s2
    generalize standsM L ((i : Int) + 1) 108 = v2 at *
    clear hj
    cases hv : standsM L ((i : Int) - 1) 108 with
    | true =>
      rw [hv] at s1
      go_enter Tryz.func101, Tryz.ntmps101
      go_wp2_with (go_at_call 97; refine hat.mono ?_; rintro e w' ⟨rfl, hw'⟩; rw [hw']; clear hw' hat)
      refine s1.mono ?_
      rintro e w' ⟨rfl, hw'⟩; rw [hw']; clear hw' s1
      go_wp2_with fail
      refine s2.mono ?_
      rintro e w' ⟨rfl, hw'⟩; rw [hw']; clear hw' s2
      go_wp2
      go_ret
      exact ⟨by simp, HB.out⟩
    | false =>
      rw [hv] at s1
      go_enter Tryz.func101, Tryz.ntmps101
      go_wp2_with (go_at_call 97; refine hat.mono ?_; rintro e w' ⟨rfl, hw'⟩; rw [hw']; clear hw' hat)
      refine s1.mono ?_
      rintro e w' ⟨rfl, hw'⟩; rw [hw']; clear hw' s1
      go_wp2
      go_ret
      exact ⟨by simp, HB.out⟩
  by_cases h1 : n = 885
  · rw [if_neg h0, if_pos h1]
    subst h1
    have s1 : Calls Tryz.prog 141 #[.pointer (some ⟨b, 0, none⟩), .int .i64 ((i : Int) + 1), .slice (some ⟨w.heap.size + 1, 0, none⟩) 1 1] ((w.alloc (.cells #[.bool kata, .bool mixed] 139)).alloc (.cells #[.int .u8 2] 58)) fun e w' => e = .returned (.bool ([2].any fun y => rD (pkAt L ((i : Int) + 1)) == y)) ∧ Below w.heap.size w w' := by
      have h := isScript_lit HL.out ((i : Int) + 1) [2] #[.int .u8 2] 1 1 rfl rfl (by decide)
      rw [World.size_alloc] at h
      exact h.mono fun _ _ ⟨he, hb⟩ => ⟨he, HB.out.trans (hb.mono (Nat.le_succ _))⟩
    rw [show ([2].any fun y => rD (pkAt L ((i : Int) + 1)) == y) = decide (rD (pkAt L ((i : Int) + 1)) = 2) by simp only [List.any_cons, List.any_nil, Bool.or_false]; rfl] at s1
    generalize decide (rD (pkAt L ((i : Int) + 1)) = 2) = v at *
    clear hj
    go_enter Tryz.func101, Tryz.ntmps101
    go_wp2_with (first | (go_at_call 97; refine hat.mono ?_; rintro e w' ⟨rfl, hw'⟩; rw [hw']; clear hw' hat) | (go_at_call 141; refine s1.mono ?_; rintro e w1 ⟨rfl, hb1⟩))
    go_ret
    exact ⟨rfl, hb1⟩
  by_cases h2 : n = 1523 ∨ n = 1524
  · rw [if_neg h0, if_neg h1, if_pos h2]
    rcases h2 with rfl | rfl
    · have s1 : Calls Tryz.prog 141 #[.pointer (some ⟨b, 0, none⟩), .int .i64 ((i : Int) - 1), .slice (some ⟨w.heap.size + 1, 0, none⟩) 1 1] ((w.alloc (.cells #[.bool kata, .bool mixed] 139)).alloc (.cells #[.int .u8 3] 58)) fun e w' => e = .returned (.bool ([3].any fun y => rD (pkAt L ((i : Int) - 1)) == y)) ∧ Below w.heap.size w w' := by
        have h := isScript_lit HL.out ((i : Int) - 1) [3] #[.int .u8 3] 1 1 rfl rfl (by decide)
        rw [World.size_alloc] at h
        exact h.mono fun _ _ ⟨he, hb⟩ => ⟨he, HB.out.trans (hb.mono (Nat.le_succ _))⟩
      rw [show ([3].any fun y => rD (pkAt L ((i : Int) - 1)) == y) = decide (rD (pkAt L ((i : Int) - 1)) = 3) by simp only [List.any_cons, List.any_nil, Bool.or_false]; rfl] at s1
      generalize decide (rD (pkAt L ((i : Int) - 1)) = 3) = v at *
      clear hj
      go_enter Tryz.func101, Tryz.ntmps101
      go_wp2_with (first | (go_at_call 97; refine hat.mono ?_; rintro e w' ⟨rfl, hw'⟩; rw [hw']; clear hw' hat) | (go_at_call 141; refine s1.mono ?_; rintro e w1 ⟨rfl, hb1⟩))
      go_ret
      exact ⟨rfl, hb1⟩
    · have s1 : Calls Tryz.prog 141 #[.pointer (some ⟨b, 0, none⟩), .int .i64 ((i : Int) - 1), .slice (some ⟨w.heap.size + 1, 0, none⟩) 1 1] ((w.alloc (.cells #[.bool kata, .bool mixed] 139)).alloc (.cells #[.int .u8 3] 58)) fun e w' => e = .returned (.bool ([3].any fun y => rD (pkAt L ((i : Int) - 1)) == y)) ∧ Below w.heap.size w w' := by
        have h := isScript_lit HL.out ((i : Int) - 1) [3] #[.int .u8 3] 1 1 rfl rfl (by decide)
        rw [World.size_alloc] at h
        exact h.mono fun _ _ ⟨he, hb⟩ => ⟨he, HB.out.trans (hb.mono (Nat.le_succ _))⟩
      rw [show ([3].any fun y => rD (pkAt L ((i : Int) - 1)) == y) = decide (rD (pkAt L ((i : Int) - 1)) = 3) by simp only [List.any_cons, List.any_nil, Bool.or_false]; rfl] at s1
      generalize decide (rD (pkAt L ((i : Int) - 1)) = 3) = v at *
      clear hj
      go_enter Tryz.func101, Tryz.ntmps101
      go_wp2_with (first | (go_at_call 97; refine hat.mono ?_; rintro e w' ⟨rfl, hw'⟩; rw [hw']; clear hw' hat) | (go_at_call 141; refine s1.mono ?_; rintro e w1 ⟨rfl, hb1⟩))
      go_ret
      exact ⟨rfl, hb1⟩
  by_cases h3 : n = 12539
  · rw [if_neg h0, if_neg h1, if_neg h2, if_pos h3]
    subst h3
    clear hj
    go_enter Tryz.func101, Tryz.ntmps101
    go_wp2_with (first | (go_at_call 97; refine hat.mono ?_; rintro e w' ⟨rfl, hw'⟩; rw [hw']; clear hw' hat) | (go_at_call 138; first | (refine (isAr_t _ _ (by omega)).mono ?_; rintro e w' ⟨rfl, hw'⟩; rw [hw']; clear hw') | (refine (isAr_f _ _ (by omega)).mono ?_; rintro e w' ⟨rfl, hw'⟩; rw [hw']; clear hw')) | (go_at_call 139; first | (refine (isEx_t _ _ (by omega)).mono ?_; rintro e w' ⟨rfl, hw'⟩; rw [hw']; clear hw') | (refine (isEx_f _ _ (by omega)).mono ?_; rintro e w' ⟨rfl, hw'⟩; rw [hw']; clear hw')))
    go_ret
    exact ⟨rfl, HB.out⟩
  by_cases h4 : (1632 ≤ n ∧ n ≤ 1641) ∨ (1776 ≤ n ∧ n ≤ 1785)
  · rw [if_neg h0, if_neg h1, if_neg h2, if_neg h3, if_pos h4]
    clear hj
    rcases h4 with h4 | h4
    · have m0 : ¬ (n : Int) = 183 := by omega
      have m1 : ¬ (n : Int) = 885 := by omega
      have m2 : ¬ (n : Int) = 1523 := by omega
      have m3 : ¬ (n : Int) = 1524 := by omega
      have m4 : ¬ (n : Int) = 12539 := by omega
      have m5 : ¬ (n : Int) = 8204 := by omega
      have m6 : ¬ (n : Int) = 8205 := by omega
      clear hil hlen
      go_enter Tryz.func101, Tryz.ntmps101
      go_wp2_with (first | (go_at_call 97; refine hat.mono ?_; rintro e w' ⟨rfl, hw'⟩; rw [hw']; clear hw' hat) | (go_at_call 138; first | (refine (isAr_t _ _ (by omega)).mono ?_; rintro e w' ⟨rfl, hw'⟩; rw [hw']; clear hw') | (refine (isAr_f _ _ (by omega)).mono ?_; rintro e w' ⟨rfl, hw'⟩; rw [hw']; clear hw')) | (go_at_call 139; first | (refine (isEx_t _ _ (by omega)).mono ?_; rintro e w' ⟨rfl, hw'⟩; rw [hw']; clear hw') | (refine (isEx_f _ _ (by omega)).mono ?_; rintro e w' ⟨rfl, hw'⟩; rw [hw']; clear hw')))
      go_ret
      exact ⟨rfl, HB.out⟩
    · have m0 : ¬ (n : Int) = 183 := by omega
      have m1 : ¬ (n : Int) = 885 := by omega
      have m2 : ¬ (n : Int) = 1523 := by omega
      have m3 : ¬ (n : Int) = 1524 := by omega
      have m4 : ¬ (n : Int) = 12539 := by omega
      have m5 : ¬ (n : Int) = 8204 := by omega
      have m6 : ¬ (n : Int) = 8205 := by omega
      clear hil hlen
      go_enter Tryz.func101, Tryz.ntmps101
      go_wp2_with (first | (go_at_call 97; refine hat.mono ?_; rintro e w' ⟨rfl, hw'⟩; rw [hw']; clear hw' hat) | (go_at_call 138; first | (refine (isAr_t _ _ (by omega)).mono ?_; rintro e w' ⟨rfl, hw'⟩; rw [hw']; clear hw') | (refine (isAr_f _ _ (by omega)).mono ?_; rintro e w' ⟨rfl, hw'⟩; rw [hw']; clear hw')) | (go_at_call 139; first | (refine (isEx_t _ _ (by omega)).mono ?_; rintro e w' ⟨rfl, hw'⟩; rw [hw']; clear hw') | (refine (isEx_f _ _ (by omega)).mono ?_; rintro e w' ⟨rfl, hw'⟩; rw [hw']; clear hw')))
      go_ret
      exact ⟨rfl, HB.out⟩
  by_cases h5 : n = 8204
  · rw [if_neg h0, if_neg h1, if_neg h2, if_neg h3, if_neg h4, if_pos h5]
    subst h5
    have s1 := fun W (hW : Lab W b r L) => stands_any hW ((i : Int) - 1) 2381
    rw [show (decide (0 ≤ (i : Int) - 1 ∧ (i : Int) - 1 < (L.length : Int)) && decide (((L.getD ((i : Int) - 1).toNat 0 : Nat) : Int) = 2381)) = standsM L ((i : Int) - 1) 2381 from rfl] at s1
    generalize standsM L ((i : Int) - 1) 2381 = v at *
    cases hv : joinedM L i with
    | true =>
      rw [hv] at hj
      go_enter Tryz.func101, Tryz.ntmps101
      go_wp2_with (first | (go_at_call 97; refine hat.mono ?_; rintro e w' ⟨rfl, hw'⟩; rw [hw']; clear hw' hat) | (go_at_call 138; first | (refine (isAr_t _ _ (by omega)).mono ?_; rintro e w' ⟨rfl, hw'⟩; rw [hw']; clear hw') | (refine (isAr_f _ _ (by omega)).mono ?_; rintro e w' ⟨rfl, hw'⟩; rw [hw']; clear hw')) | (go_at_call 139; first | (refine (isEx_t _ _ (by omega)).mono ?_; rintro e w' ⟨rfl, hw'⟩; rw [hw']; clear hw') | (refine (isEx_f _ _ (by omega)).mono ?_; rintro e w' ⟨rfl, hw'⟩; rw [hw']; clear hw')) | (go_at_call 142; refine hj.mono ?_; rintro e w1 ⟨rfl, hb1⟩))
      go_ret
      exact ⟨by simp, Below.andThen HB.out hb1⟩
    | false =>
      rw [hv] at hj
      go_enter Tryz.func101, Tryz.ntmps101
      go_wp2_with (first | (go_at_call 97; refine hat.mono ?_; rintro e w' ⟨rfl, hw'⟩; rw [hw']; clear hw' hat) | (go_at_call 138; first | (refine (isAr_t _ _ (by omega)).mono ?_; rintro e w' ⟨rfl, hw'⟩; rw [hw']; clear hw') | (refine (isAr_f _ _ (by omega)).mono ?_; rintro e w' ⟨rfl, hw'⟩; rw [hw']; clear hw')) | (go_at_call 139; first | (refine (isEx_t _ _ (by omega)).mono ?_; rintro e w' ⟨rfl, hw'⟩; rw [hw']; clear hw') | (refine (isEx_f _ _ (by omega)).mono ?_; rintro e w' ⟨rfl, hw'⟩; rw [hw']; clear hw')) | (go_at_call 142; refine hj.mono ?_; rintro e w1 ⟨rfl, hb1⟩; have s1' := s1 w1 (HL.out.keep hb1); clear s1) | (go_at_call 140; refine s1'.mono ?_; rintro e w' ⟨rfl, hw'⟩; rw [hw']; clear hw'))
      go_ret
      exact ⟨by simp, Below.andThen HB.out hb1⟩
  clear hj
  by_cases h6 : n = 8205
  · rw [if_neg h0, if_neg h1, if_neg h2, if_neg h3, if_neg h4, if_neg h5, if_pos h6]
    subst h6
    have s1 := fun W (hW : Lab W b r L) => stands_any hW ((i : Int) - 1) 2381
    rw [show (decide (0 ≤ (i : Int) - 1 ∧ (i : Int) - 1 < (L.length : Int)) && decide (((L.getD ((i : Int) - 1).toNat 0 : Nat) : Int) = 2381)) = standsM L ((i : Int) - 1) 2381 from rfl] at s1
    generalize standsM L ((i : Int) - 1) 2381 = v at *
    have s1' := s1 _ HL.out
    clear s1
    go_enter Tryz.func101, Tryz.ntmps101
    go_wp2_with (first | (go_at_call 97; refine hat.mono ?_; rintro e w' ⟨rfl, hw'⟩; rw [hw']; clear hw' hat) | (go_at_call 138; first | (refine (isAr_t _ _ (by omega)).mono ?_; rintro e w' ⟨rfl, hw'⟩; rw [hw']; clear hw') | (refine (isAr_f _ _ (by omega)).mono ?_; rintro e w' ⟨rfl, hw'⟩; rw [hw']; clear hw')) | (go_at_call 139; first | (refine (isEx_t _ _ (by omega)).mono ?_; rintro e w' ⟨rfl, hw'⟩; rw [hw']; clear hw') | (refine (isEx_f _ _ (by omega)).mono ?_; rintro e w' ⟨rfl, hw'⟩; rw [hw']; clear hw')) | (go_at_call 140; refine s1'.mono ?_; rintro e w' ⟨rfl, hw'⟩; rw [hw']; clear hw'))
    go_ret
    exact ⟨rfl, HB.out⟩
  rw [if_neg h0, if_neg h1, if_neg h2, if_neg h3, if_neg h4, if_neg h5, if_neg h6]
  have m0 : ¬ (n : Int) = 183 := by omega
  have m1 : ¬ (n : Int) = 885 := by omega
  have m2 : ¬ (n : Int) = 1523 := by omega
  have m3 : ¬ (n : Int) = 1524 := by omega
  have m4 : ¬ (n : Int) = 12539 := by omega
  have m5 : ¬ (n : Int) = 8204 := by omega
  have m6 : ¬ (n : Int) = 8205 := by omega
  clear hil hlen
  go_enter Tryz.func101, Tryz.ntmps101
  go_wp2_with (first | (go_at_call 97; refine hat.mono ?_; rintro e w' ⟨rfl, hw'⟩; rw [hw']; clear hw' hat) | (go_at_call 138; first | (refine (isAr_t _ _ (by omega)).mono ?_; rintro e w' ⟨rfl, hw'⟩; rw [hw']; clear hw') | (refine (isAr_f _ _ (by omega)).mono ?_; rintro e w' ⟨rfl, hw'⟩; rw [hw']; clear hw')) | (go_at_call 139; first | (refine (isEx_t _ _ (by omega)).mono ?_; rintro e w' ⟨rfl, hw'⟩; rw [hw']; clear hw') | (refine (isEx_f _ _ (by omega)).mono ?_; rintro e w' ⟨rfl, hw'⟩; rw [hw']; clear hw')))
  go_ret
  exact ⟨rfl, HB.out⟩
end Go.Proofs.YtkaaldhejpaiiaaGreatDoor
