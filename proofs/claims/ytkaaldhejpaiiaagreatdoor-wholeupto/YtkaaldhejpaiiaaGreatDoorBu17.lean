import Derived.Test.YtkaaldhejpaiiaaGreatDoorBu16
import Derived.Deep.RegionWith
import Derived.Deep.QuietTactic
import Derived.Deep.CutRange
import Derived.Deep.CutBlock
/- whole. -/
namespace Go.Proofs.YtkaaldhejpaiiaaGreatDoor
open Go.RowKit Go.Sort

def kataM (L : List Nat) : Bool := (List.range L.length).any fun (i : Nat) => [6, 7, 8].any fun y => rD (pkAt L (i : Int)) == y
def mixedM (L : List Nat) : Bool := anyIn 1632 1641 L && anyIn 1776 1785 L
/-- All that lay in W0 lies unturned in W. -/
def BW (W0 W : World) : Prop := Below W0.heap.size W0 W
theorem BW.refl (W0 : World) : BW W0 W0 := Below.refl _ _
theorem BW.drew {W0 W : World} (h : BW W0 W) : BW W0 W.drew := Below.drew h
theorem BW.below {W0 W : World} (h : BW W0 W) : Below W0.heap.size W0 W := h
theorem BW.andThen {W0 W W' : World} (h : BW W0 W) (k : Below W.heap.size W W') : BW W0 W' := Below.andThen h k
theorem two_cells {W : World} {r : Nat} {a b : Value} {t : TypeId} (h : W.heap[r]? = some (.cells #[a, b] t (0, 0))) :
    W.cell? ⟨r, 0, none⟩ = some a ∧ W.cell? ⟨r, 1, none⟩ = some b ∧ ∀ j, W.frozen? ⟨r, j, none⟩ = false := by
  refine ⟨?_, ?_, fun j => unfrozen h j⟩ <;> (rw [cell_of_row _ _ _ _ t (0, 0) h]; rfl)
theorem two_set {W : World} {r : Nat} {x0 x1 : Value} {t : TypeId} (h : W.heap[r]? = some (.cells #[x0, x1] t (0, 0))) (a b : Value) :
    ((W.setCell ⟨r, 0, none⟩ a).setCell ⟨r, 1, none⟩ b).heap[r]? = some (.cells #[a, b] t (0, 0)) := by
  simp only [setCell_eq, mapBlock, Array.getElem?_modify, if_true, h, Option.map_some, onCells]
  rfl
set_option maxRecDepth 100000 in
set_option maxHeartbeats 4000000 in
theorem whole_any {w : World} {b r : Nat} {L : List Nat} (hL : Lab w b r L) :
    Calls Tryz.prog 100 #[.pointer (some ⟨b, 0, none⟩)] w fun e w' => e = .returned (.agg #[.bool (kataM L), .bool (mixedM L)]) ∧ Below w.heap.size w w' := by
  obtain ⟨W0, hW0⟩ : ∃ W0, W0 = (w.alloc (.cells #[.bool false, .bool false] 139)).alloc (.cells #[.int .u8 6, .int .u8 7, .int .u8 8] 58) := ⟨_, rfl⟩
  have hB0 : Below w.heap.size w W0 := by rw [hW0]; exact ((Below.refl _ w).alloc (Nat.le_refl _) _).alloc (by simp) _
  have hL0 : Lab W0 b r L := hL.keep hB0
  have hz : W0.heap[w.heap.size]? = some (.cells #[.bool false, .bool false] 139 (0, 0)) := by
    rw [hW0]
    exact (((Below.refl (w.alloc (.cells #[.bool false, .bool false] 139)).heap.size _).alloc (Nat.le_refl _) _).block w.heap.size (by simp)).trans (Go.heap_alloc_new w _)
  have hk : Lits W0 (w.heap.size + 1) [6, 7, 8] := by
    rw [hW0]
    have h := lits_new (w.alloc (.cells #[.bool false, .bool false] 139)) [6, 7, 8] 58 (by decide)
    rwa [World.size_alloc] at h
  have cells : ∀ W, BW W0 W → W.heap[w.heap.size]? = some (.cells #[.bool false, .bool false] 139 (0, 0)) := fun W h => (h.below.block _ (lt_heap hz)).trans hz
  have hs : ∀ W, BW W0 W → Calls Tryz.prog 136 #[.pointer (some ⟨b, 0, none⟩), .slice (some ⟨w.heap.size + 1, 0, none⟩) 3 3] W fun e w' => e = .returned (.bool (kataM L)) ∧ BW W0 w' :=
    fun W hW => (hasScript_any (hL0.keep hW) (w.heap.size + 1) 3 [6, 7, 8] (hk.keep hW)).mono fun _ _ ⟨he, hb⟩ => ⟨he, hW.andThen hb⟩
  have h1 : ∀ W, BW W0 W → Calls Tryz.prog 137 #[.pointer (some ⟨b, 0, none⟩), .func (.func 138) #[] #[]] W fun e w' => e = .returned (.bool (anyIn 1632 1641 L)) ∧ BW W0 w' :=
    fun W hW => (any_any (hL0.keep hW) 138 1632 1641 (Or.inl ⟨rfl, rfl, rfl⟩)).mono fun _ w' ⟨he, q, hq⟩ => ⟨he, hW.andThen (by rw [hq]; exact below_drewN' (Below.refl _ _) q)⟩
  have h2 : ∀ W, BW W0 W → Calls Tryz.prog 137 #[.pointer (some ⟨b, 0, none⟩), .func (.func 139) #[] #[]] W fun e w' => e = .returned (.bool (anyIn 1776 1785 L)) ∧ BW W0 w' :=
    fun W hW => (any_any (hL0.keep hW) 139 1776 1785 (Or.inr ⟨rfl, rfl, rfl⟩)).mono fun _ w' ⟨he, q, hq⟩ => ⟨he, hW.andThen (by rw [hq]; exact below_drewN' (Below.refl _ _) q)⟩
  unfold mixedM
  generalize kataM L = v0 at *
  generalize anyIn 1776 1785 L = v2 at *
  have HB0 : Hid (Below w.heap.size w W0) := hB0
  have fin : ∀ W v v', BW W0 W → ((W.setCell ⟨w.heap.size, 0, none⟩ (.bool v)).setCell ⟨w.heap.size, 1, none⟩ (.bool v')).cell? ⟨w.heap.size, 0, none⟩ = some (.bool v) ∧ ((W.setCell ⟨w.heap.size, 0, none⟩ (.bool v)).setCell ⟨w.heap.size, 1, none⟩ (.bool v')).cell? ⟨w.heap.size, 1, none⟩ = some (.bool v') ∧ Below w.heap.size w ((W.setCell ⟨w.heap.size, 0, none⟩ (.bool v)).setCell ⟨w.heap.size, 1, none⟩ (.bool v')) := by
    intro W v v' hW
    have h := two_cells (two_set (cells W hW) (.bool v) (.bool v'))
    exact ⟨h.1, h.2.1, ((Below.andThen HB0.out hW).setCell (p := ⟨w.heap.size, 0, none⟩) (Nat.le_refl _) _).setCell (p := ⟨w.heap.size, 1, none⟩) (Nat.le_refl _) _⟩
  have FIN : Hid (∀ W v v', BW W0 W → ((W.setCell ⟨w.heap.size, 0, none⟩ (.bool v)).setCell ⟨w.heap.size, 1, none⟩ (.bool v')).cell? ⟨w.heap.size, 0, none⟩ = some (.bool v) ∧ ((W.setCell ⟨w.heap.size, 0, none⟩ (.bool v)).setCell ⟨w.heap.size, 1, none⟩ (.bool v')).cell? ⟨w.heap.size, 1, none⟩ = some (.bool v') ∧ Below w.heap.size w ((W.setCell ⟨w.heap.size, 0, none⟩ (.bool v)).setCell ⟨w.heap.size, 1, none⟩ (.bool v'))) := fin
  have CE : Hid (∀ W, BW W0 W → W.heap[w.heap.size]? = some (.cells #[.bool false, .bool false] 139 (0, 0))) := cells
  clear hL hB0 hL0 hz hk cells fin
  cases hv : anyIn 1632 1641 L with
  | true =>
    simp only [hv] at h1
    go_enter Tryz.func100, Tryz.ntmps100
    go_wp2
    first | (go_region_with (first
      | (go_at_call 136; rw [← hW0]; refine (hs _ (by repeat (first | assumption | exact BW.refl _ | apply BW.drew))).mono ?_; rintro e w1 ⟨rfl, hb1⟩; obtain ⟨c10, c11, f1⟩ := two_cells (CE.out w1 hb1))
      | (go_at_call 136; refine (hs _ (by repeat (first | assumption | exact BW.refl _ | apply BW.drew))).mono ?_; rintro e w1 ⟨rfl, hb1⟩; obtain ⟨c10, c11, f1⟩ := two_cells (CE.out w1 hb1))
      | (go_at_call 137; rw [← hW0]; refine (h1 _ (by repeat (first | assumption | exact BW.refl _ | apply BW.drew))).mono ?_; rintro e w2 ⟨rfl, hb2⟩; obtain ⟨c20, c21, f2⟩ := two_cells (CE.out w2 hb2))
      | (go_at_call 137; refine (h1 _ (by repeat (first | assumption | exact BW.refl _ | apply BW.drew))).mono ?_; rintro e w2 ⟨rfl, hb2⟩; obtain ⟨c20, c21, f2⟩ := two_cells (CE.out w2 hb2))
      | (go_at_call 137; refine (h2 _ (by repeat (first | assumption | exact BW.refl _ | apply BW.drew))).mono ?_; rintro e w3 ⟨rfl, hb3⟩; obtain ⟨c30, c31, f3⟩ := two_cells (CE.out w3 hb3)))) | fail
    all_goals go_wp2
    all_goals first
      | (obtain ⟨s0, s1, hB⟩ := FIN.out w3 v0 v2 hb3; exact bodyPost_ret (v := .agg #[.bool v0, .bool v2]) (by simp [results, Tryz.results100, go_sem, s0, s1]) rfl ⟨rfl, hB⟩)
      | (obtain ⟨s0, s1, hB⟩ := FIN.out w1 v0 v2 hb1; exact bodyPost_ret (v := .agg #[.bool v0, .bool v2]) (by simp [results, Tryz.results100, go_sem, s0, s1]) rfl ⟨rfl, hB⟩)
  | false =>
    simp only [hv] at h1
    clear h2
    go_enter Tryz.func100, Tryz.ntmps100
    go_wp2
    first | (go_region_with (first
      | (go_at_call 136; rw [← hW0]; refine (hs _ (by repeat (first | assumption | exact BW.refl _ | apply BW.drew))).mono ?_; rintro e w1 ⟨rfl, hb1⟩; obtain ⟨c10, c11, f1⟩ := two_cells (CE.out w1 hb1))
      | (go_at_call 136; refine (hs _ (by repeat (first | assumption | exact BW.refl _ | apply BW.drew))).mono ?_; rintro e w1 ⟨rfl, hb1⟩; obtain ⟨c10, c11, f1⟩ := two_cells (CE.out w1 hb1))
      | (go_at_call 137; rw [← hW0]; refine (h1 _ (by repeat (first | assumption | exact BW.refl _ | apply BW.drew))).mono ?_; rintro e w2 ⟨rfl, hb2⟩; obtain ⟨c20, c21, f2⟩ := two_cells (CE.out w2 hb2))
      | (go_at_call 137; refine (h1 _ (by repeat (first | assumption | exact BW.refl _ | apply BW.drew))).mono ?_; rintro e w2 ⟨rfl, hb2⟩; obtain ⟨c20, c21, f2⟩ := two_cells (CE.out w2 hb2)))) | fail
    all_goals go_wp2
    all_goals first
      | (obtain ⟨s0, s1, hB⟩ := FIN.out w2 v0 false hb2; exact bodyPost_ret (v := .agg #[.bool v0, .bool false]) (by simp [results, Tryz.results100, go_sem, s0, s1]) rfl ⟨rfl, hB⟩)
      | (obtain ⟨s0, s1, hB⟩ := FIN.out w1 v0 false hb1; exact bodyPost_ret (v := .agg #[.bool v0, .bool false]) (by simp [results, Tryz.results100, go_sem, s0, s1]) rfl ⟨rfl, hB⟩)
end Go.Proofs.YtkaaldhejpaiiaaGreatDoor

/- isInContext. -/
namespace Go.Proofs.YtkaaldhejpaiiaaGreatDoor
open Go.RowKit

def standsM (L : List Nat) (p : Int) (x : Int) : Bool := decide (0 ≤ p ∧ p < (L.length : Int)) && decide (((L.getD p.toNat 0 : Nat) : Int) = x)
/-- Is the condition of the sign n at place i so? kata: signs of the three scripts are there; mixed: digits of both rows are. -/
def ctxM (L : List Nat) (kata mixed : Bool) (n i : Nat) : Bool :=
  if n = 183 then standsM L ((i : Int) - 1) 108 && standsM L ((i : Int) + 1) 108
  else if n = 885 then decide (rD (pkAt L ((i : Int) + 1)) = 2)
  else if n = 1523 ∨ n = 1524 then decide (rD (pkAt L ((i : Int) - 1)) = 3)
  else if n = 12539 then kata
  else if (1632 ≤ n ∧ n ≤ 1641) ∨ (1776 ≤ n ∧ n ≤ 1785) then !mixed
  else if n = 8204 then joinedM L i || standsM L ((i : Int) - 1) 2381
  else if n = 8205 then standsM L ((i : Int) - 1) 2381
  else true
theorem isAr_t (x : Int) (w : World) (h : 1632 ≤ x ∧ x ≤ 1641) : Calls Tryz.prog 138 #[.int .i32 x] w fun e w' => e = .returned (.bool true) ∧ w' = w := by
  have := isRange_any 138 1632 1641 (Or.inl ⟨rfl, rfl, rfl⟩) x w
  rwa [inRange, decide_eq_true h] at this
theorem isAr_f (x : Int) (w : World) (h : ¬ (1632 ≤ x ∧ x ≤ 1641)) : Calls Tryz.prog 138 #[.int .i32 x] w fun e w' => e = .returned (.bool false) ∧ w' = w := by
  have := isRange_any 138 1632 1641 (Or.inl ⟨rfl, rfl, rfl⟩) x w
  rwa [inRange, decide_eq_false h] at this
theorem isEx_t (x : Int) (w : World) (h : 1776 ≤ x ∧ x ≤ 1785) : Calls Tryz.prog 139 #[.int .i32 x] w fun e w' => e = .returned (.bool true) ∧ w' = w := by
  have := isRange_any 139 1776 1785 (Or.inr ⟨rfl, rfl, rfl⟩) x w
  rwa [inRange, decide_eq_true h] at this
theorem isEx_f (x : Int) (w : World) (h : ¬ (1776 ≤ x ∧ x ≤ 1785)) : Calls Tryz.prog 139 #[.int .i32 x] w fun e w' => e = .returned (.bool false) ∧ w' = w := by
  have := isRange_any 139 1776 1785 (Or.inr ⟨rfl, rfl, rfl⟩) x w
  rwa [inRange, decide_eq_false h] at this
theorem one2 (x : Int) : ([2].any fun y => x == y) = decide (x = 2) := by simp only [List.any_cons, List.any_nil, Bool.or_false]; rfl

set_option maxRecDepth 100000 in
set_option maxHeartbeats 8000000 in
theorem isInContext_any {w : World} {b r : Nat} {L : List Nat} (hL : Lab w b r L) (i : Nat) (hi : i < L.length) (kata mixed : Bool) :
    Calls Tryz.prog 101 #[.pointer (some ⟨b, 0, none⟩), .int .i64 (i : Int), .agg #[.bool kata, .bool mixed]] w fun e w' => e = .returned (.bool (ctxM L kata mixed L[i] i)) ∧ Below w.heap.size w w' := by
  have hL0 := hL.alloc (.cells #[.bool kata, .bool mixed] 139)
  have hB0 := below_one w (.cells #[.bool kata, .bool mixed] 139)
  have hlen := hL.len
  have hat := fat_any hL0 i hi
  have hil : (i : Int) < 9223372036854775807 := by omega
  have hsg : L[i] ≤ 1114111 := hL.sgn _ (List.getElem_mem hi)
  have HL : Hid (Lab (w.alloc (.cells #[.bool kata, .bool mixed] 139)) b r L) := hL0
  have HB : Hid (Below w.heap.size w (w.alloc (.cells #[.bool kata, .bool mixed] 139))) := hB0
  have hj := isBetweenJoined_any hL0 i hi
  unfold ctxM
  generalize L[i] = n at *
  clear hL hL0 hB0
  by_cases h0 : n = 183
  · subst h0
    rw [if_pos rfl]
    have s1 := stands_any HL.out ((i : Int) - 1) 108
    have s2 := stands_any HL.out ((i : Int) + 1) 108
    rw [show (decide (0 ≤ (i : Int) - 1 ∧ (i : Int) - 1 < (L.length : Int)) && decide (((L.getD ((i : Int) - 1).toNat 0 : Nat) : Int) = 108)) = standsM L ((i : Int) - 1) 108 from rfl] at s1
    rw [show (decide (0 ≤ (i : Int) + 1 ∧ (i : Int) + 1 < (L.length : Int)) && decide (((L.getD ((i : Int) + 1).toNat 0 : Nat) : Int) = 108)) = standsM L ((i : Int) + 1) 108 from rfl] at s2
    generalize standsM L ((i : Int) + 1) 108 = v2 at *
    clear hj
    cases hv : standsM L ((i : Int) - 1) 108 with
    | true =>
      rw [hv] at s1
      go_enter Tryz.func101, Tryz.ntmps101
      go_wp2_with (go_at_call 97; refine hat.mono ?_; rintro e w' ⟨rfl, hw'⟩; rw [hw']; clear hw' hat)
      refine s1.mono ?_
      rintro e w' ⟨rfl, hw'⟩; rw [hw']; clear hw' s1
      go_wp2_with fail
      refine s2.mono ?_
      rintro e w' ⟨rfl, hw'⟩; rw [hw']; clear hw' s2
      go_wp2
      go_ret
      exact ⟨by simp, HB.out⟩
    | false =>
      rw [hv] at s1
      go_enter Tryz.func101, Tryz.ntmps101
      go_wp2_with (go_at_call 97; refine hat.mono ?_; rintro e w' ⟨rfl, hw'⟩; rw [hw']; clear hw' hat)
      refine s1.mono ?_
      rintro e w' ⟨rfl, hw'⟩; rw [hw']; clear hw' s1
      go_wp2
      go_ret
      exact ⟨by simp, HB.out⟩
  by_cases h1 : n = 885
  · rw [if_neg h0, if_pos h1]
    subst h1
    have s1 : Calls Tryz.prog 141 #[.pointer (some ⟨b, 0, none⟩), .int .i64 ((i : Int) + 1), .slice (some ⟨w.heap.size + 1, 0, none⟩) 1 1] ((w.alloc (.cells #[.bool kata, .bool mixed] 139)).alloc (.cells #[.int .u8 2] 58)) fun e w' => e = .returned (.bool ([2].any fun y => rD (pkAt L ((i : Int) + 1)) == y)) ∧ Below w.heap.size w w' := by
      have h := isScript_lit HL.out ((i : Int) + 1) [2] #[.int .u8 2] 1 1 rfl rfl (by decide)
      rw [World.size_alloc] at h
      exact h.mono fun _ _ ⟨he, hb⟩ => ⟨he, HB.out.trans (hb.mono (Nat.le_succ _))⟩
    rw [show ([2].any fun y => rD (pkAt L ((i : Int) + 1)) == y) = decide (rD (pkAt L ((i : Int) + 1)) = 2) by simp only [List.any_cons, List.any_nil, Bool.or_false]; rfl] at s1
    generalize decide (rD (pkAt L ((i : Int) + 1)) = 2) = v at *
    clear hj
    go_enter Tryz.func101, Tryz.ntmps101
    go_wp2_with (first | (go_at_call 97; refine hat.mono ?_; rintro e w' ⟨rfl, hw'⟩; rw [hw']; clear hw' hat) | (go_at_call 141; refine s1.mono ?_; rintro e w1 ⟨rfl, hb1⟩))
    go_ret
    exact ⟨rfl, hb1⟩
  by_cases h2 : n = 1523 ∨ n = 1524
  · rw [if_neg h0, if_neg h1, if_pos h2]
    rcases h2 with rfl | rfl
    · have s1 : Calls Tryz.prog 141 #[.pointer (some ⟨b, 0, none⟩), .int .i64 ((i : Int) - 1), .slice (some ⟨w.heap.size + 1, 0, none⟩) 1 1] ((w.alloc (.cells #[.bool kata, .bool mixed] 139)).alloc (.cells #[.int .u8 3] 58)) fun e w' => e = .returned (.bool ([3].any fun y => rD (pkAt L ((i : Int) - 1)) == y)) ∧ Below w.heap.size w w' := by
        have h := isScript_lit HL.out ((i : Int) - 1) [3] #[.int .u8 3] 1 1 rfl rfl (by decide)
        rw [World.size_alloc] at h
        exact h.mono fun _ _ ⟨he, hb⟩ => ⟨he, HB.out.trans (hb.mono (Nat.le_succ _))⟩
      rw [show ([3].any fun y => rD (pkAt L ((i : Int) - 1)) == y) = decide (rD (pkAt L ((i : Int) - 1)) = 3) by simp only [List.any_cons, List.any_nil, Bool.or_false]; rfl] at s1
      generalize decide (rD (pkAt L ((i : Int) - 1)) = 3) = v at *
      clear hj
      go_enter Tryz.func101, Tryz.ntmps101
      go_wp2_with (first | (go_at_call 97; refine hat.mono ?_; rintro e w' ⟨rfl, hw'⟩; rw [hw']; clear hw' hat) | (go_at_call 141; refine s1.mono ?_; rintro e w1 ⟨rfl, hb1⟩))
      go_ret
      exact ⟨rfl, hb1⟩
    · have s1 : Calls Tryz.prog 141 #[.pointer (some ⟨b, 0, none⟩), .int .i64 ((i : Int) - 1), .slice (some ⟨w.heap.size + 1, 0, none⟩) 1 1] ((w.alloc (.cells #[.bool kata, .bool mixed] 139)).alloc (.cells #[.int .u8 3] 58)) fun e w' => e = .returned (.bool ([3].any fun y => rD (pkAt L ((i : Int) - 1)) == y)) ∧ Below w.heap.size w w' := by
        have h := isScript_lit HL.out ((i : Int) - 1) [3] #[.int .u8 3] 1 1 rfl rfl (by decide)
        rw [World.size_alloc] at h
        exact h.mono fun _ _ ⟨he, hb⟩ => ⟨he, HB.out.trans (hb.mono (Nat.le_succ _))⟩
      rw [show ([3].any fun y => rD (pkAt L ((i : Int) - 1)) == y) = decide (rD (pkAt L ((i : Int) - 1)) = 3) by simp only [List.any_cons, List.any_nil, Bool.or_false]; rfl] at s1
      generalize decide (rD (pkAt L ((i : Int) - 1)) = 3) = v at *
      clear hj
      go_enter Tryz.func101, Tryz.ntmps101
      go_wp2_with (first | (go_at_call 97; refine hat.mono ?_; rintro e w' ⟨rfl, hw'⟩; rw [hw']; clear hw' hat) | (go_at_call 141; refine s1.mono ?_; rintro e w1 ⟨rfl, hb1⟩))
      go_ret
      exact ⟨rfl, hb1⟩
  by_cases h3 : n = 12539
  · rw [if_neg h0, if_neg h1, if_neg h2, if_pos h3]
    subst h3
    clear hj
    go_enter Tryz.func101, Tryz.ntmps101
    go_wp2_with (first | (go_at_call 97; refine hat.mono ?_; rintro e w' ⟨rfl, hw'⟩; rw [hw']; clear hw' hat) | (go_at_call 138; first | (refine (isAr_t _ _ (by omega)).mono ?_; rintro e w' ⟨rfl, hw'⟩; rw [hw']; clear hw') | (refine (isAr_f _ _ (by omega)).mono ?_; rintro e w' ⟨rfl, hw'⟩; rw [hw']; clear hw')) | (go_at_call 139; first | (refine (isEx_t _ _ (by omega)).mono ?_; rintro e w' ⟨rfl, hw'⟩; rw [hw']; clear hw') | (refine (isEx_f _ _ (by omega)).mono ?_; rintro e w' ⟨rfl, hw'⟩; rw [hw']; clear hw')))
    go_ret
    exact ⟨rfl, HB.out⟩
  by_cases h4 : (1632 ≤ n ∧ n ≤ 1641) ∨ (1776 ≤ n ∧ n ≤ 1785)
  · rw [if_neg h0, if_neg h1, if_neg h2, if_neg h3, if_pos h4]
    clear hj
    rcases h4 with h4 | h4
    · have m0 : ¬ (n : Int) = 183 := by omega
      have m1 : ¬ (n : Int) = 885 := by omega
      have m2 : ¬ (n : Int) = 1523 := by omega
      have m3 : ¬ (n : Int) = 1524 := by omega
      have m4 : ¬ (n : Int) = 12539 := by omega
      have m5 : ¬ (n : Int) = 8204 := by omega
      have m6 : ¬ (n : Int) = 8205 := by omega
      clear hil hlen
      go_enter Tryz.func101, Tryz.ntmps101
      go_wp2_with (first | (go_at_call 97; refine hat.mono ?_; rintro e w' ⟨rfl, hw'⟩; rw [hw']; clear hw' hat) | (go_at_call 138; first | (refine (isAr_t _ _ (by omega)).mono ?_; rintro e w' ⟨rfl, hw'⟩; rw [hw']; clear hw') | (refine (isAr_f _ _ (by omega)).mono ?_; rintro e w' ⟨rfl, hw'⟩; rw [hw']; clear hw')) | (go_at_call 139; first | (refine (isEx_t _ _ (by omega)).mono ?_; rintro e w' ⟨rfl, hw'⟩; rw [hw']; clear hw') | (refine (isEx_f _ _ (by omega)).mono ?_; rintro e w' ⟨rfl, hw'⟩; rw [hw']; clear hw')))
      go_ret
      exact ⟨rfl, HB.out⟩
    · have m0 : ¬ (n : Int) = 183 := by omega
      have m1 : ¬ (n : Int) = 885 := by omega
      have m2 : ¬ (n : Int) = 1523 := by omega
      have m3 : ¬ (n : Int) = 1524 := by omega
      have m4 : ¬ (n : Int) = 12539 := by omega
      have m5 : ¬ (n : Int) = 8204 := by omega
      have m6 : ¬ (n : Int) = 8205 := by omega
      clear hil hlen
      go_enter Tryz.func101, Tryz.ntmps101
      go_wp2_with (first | (go_at_call 97; refine hat.mono ?_; rintro e w' ⟨rfl, hw'⟩; rw [hw']; clear hw' hat) | (go_at_call 138; first | (refine (isAr_t _ _ (by omega)).mono ?_; rintro e w' ⟨rfl, hw'⟩; rw [hw']; clear hw') | (refine (isAr_f _ _ (by omega)).mono ?_; rintro e w' ⟨rfl, hw'⟩; rw [hw']; clear hw')) | (go_at_call 139; first | (refine (isEx_t _ _ (by omega)).mono ?_; rintro e w' ⟨rfl, hw'⟩; rw [hw']; clear hw') | (refine (isEx_f _ _ (by omega)).mono ?_; rintro e w' ⟨rfl, hw'⟩; rw [hw']; clear hw')))
      go_ret
      exact ⟨rfl, HB.out⟩
  by_cases h5 : n = 8204
  · rw [if_neg h0, if_neg h1, if_neg h2, if_neg h3, if_neg h4, if_pos h5]
    subst h5
    have s1 := fun W (hW : Lab W b r L) => stands_any hW ((i : Int) - 1) 2381
    rw [show (decide (0 ≤ (i : Int) - 1 ∧ (i : Int) - 1 < (L.length : Int)) && decide (((L.getD ((i : Int) - 1).toNat 0 : Nat) : Int) = 2381)) = standsM L ((i : Int) - 1) 2381 from rfl] at s1
    generalize standsM L ((i : Int) - 1) 2381 = v at *
    cases hv : joinedM L i with
    | true =>
      rw [hv] at hj
      go_enter Tryz.func101, Tryz.ntmps101
      go_wp2_with (first | (go_at_call 97; refine hat.mono ?_; rintro e w' ⟨rfl, hw'⟩; rw [hw']; clear hw' hat) | (go_at_call 138; first | (refine (isAr_t _ _ (by omega)).mono ?_; rintro e w' ⟨rfl, hw'⟩; rw [hw']; clear hw') | (refine (isAr_f _ _ (by omega)).mono ?_; rintro e w' ⟨rfl, hw'⟩; rw [hw']; clear hw')) | (go_at_call 139; first | (refine (isEx_t _ _ (by omega)).mono ?_; rintro e w' ⟨rfl, hw'⟩; rw [hw']; clear hw') | (refine (isEx_f _ _ (by omega)).mono ?_; rintro e w' ⟨rfl, hw'⟩; rw [hw']; clear hw')) | (go_at_call 142; refine hj.mono ?_; rintro e w1 ⟨rfl, hb1⟩))
      go_ret
      exact ⟨by simp, Below.andThen HB.out hb1⟩
    | false =>
      rw [hv] at hj
      go_enter Tryz.func101, Tryz.ntmps101
      go_wp2_with (first | (go_at_call 97; refine hat.mono ?_; rintro e w' ⟨rfl, hw'⟩; rw [hw']; clear hw' hat) | (go_at_call 138; first | (refine (isAr_t _ _ (by omega)).mono ?_; rintro e w' ⟨rfl, hw'⟩; rw [hw']; clear hw') | (refine (isAr_f _ _ (by omega)).mono ?_; rintro e w' ⟨rfl, hw'⟩; rw [hw']; clear hw')) | (go_at_call 139; first | (refine (isEx_t _ _ (by omega)).mono ?_; rintro e w' ⟨rfl, hw'⟩; rw [hw']; clear hw') | (refine (isEx_f _ _ (by omega)).mono ?_; rintro e w' ⟨rfl, hw'⟩; rw [hw']; clear hw')) | (go_at_call 142; refine hj.mono ?_; rintro e w1 ⟨rfl, hb1⟩; have s1' := s1 w1 (HL.out.keep hb1); clear s1) | (go_at_call 140; refine s1'.mono ?_; rintro e w' ⟨rfl, hw'⟩; rw [hw']; clear hw'))
      go_ret
      exact ⟨by simp, Below.andThen HB.out hb1⟩
  clear hj
  by_cases h6 : n = 8205
  · rw [if_neg h0, if_neg h1, if_neg h2, if_neg h3, if_neg h4, if_neg h5, if_pos h6]
    subst h6
    have s1 := fun W (hW : Lab W b r L) => stands_any hW ((i : Int) - 1) 2381
    rw [show (decide (0 ≤ (i : Int) - 1 ∧ (i : Int) - 1 < (L.length : Int)) && decide (((L.getD ((i : Int) - 1).toNat 0 : Nat) : Int) = 2381)) = standsM L ((i : Int) - 1) 2381 from rfl] at s1
    generalize standsM L ((i : Int) - 1) 2381 = v at *
    have s1' := s1 _ HL.out
    clear s1
    go_enter Tryz.func101, Tryz.ntmps101
    go_wp2_with (first | (go_at_call 97; refine hat.mono ?_; rintro e w' ⟨rfl, hw'⟩; rw [hw']; clear hw' hat) | (go_at_call 138; first | (refine (isAr_t _ _ (by omega)).mono ?_; rintro e w' ⟨rfl, hw'⟩; rw [hw']; clear hw') | (refine (isAr_f _ _ (by omega)).mono ?_; rintro e w' ⟨rfl, hw'⟩; rw [hw']; clear hw')) | (go_at_call 139; first | (refine (isEx_t _ _ (by omega)).mono ?_; rintro e w' ⟨rfl, hw'⟩; rw [hw']; clear hw') | (refine (isEx_f _ _ (by omega)).mono ?_; rintro e w' ⟨rfl, hw'⟩; rw [hw']; clear hw')) | (go_at_call 140; refine s1'.mono ?_; rintro e w' ⟨rfl, hw'⟩; rw [hw']; clear hw'))
    go_ret
    exact ⟨rfl, HB.out⟩
  rw [if_neg h0, if_neg h1, if_neg h2, if_neg h3, if_neg h4, if_neg h5, if_neg h6]
  have m0 : ¬ (n : Int) = 183 := by omega
  have m1 : ¬ (n : Int) = 885 := by omega
  have m2 : ¬ (n : Int) = 1523 := by omega
  have m3 : ¬ (n : Int) = 1524 := by omega
  have m4 : ¬ (n : Int) = 12539 := by omega
  have m5 : ¬ (n : Int) = 8204 := by omega
  have m6 : ¬ (n : Int) = 8205 := by omega
  clear hil hlen
  go_enter Tryz.func101, Tryz.ntmps101
  go_wp2_with (first | (go_at_call 97; refine hat.mono ?_; rintro e w' ⟨rfl, hw'⟩; rw [hw']; clear hw' hat) | (go_at_call 138; first | (refine (isAr_t _ _ (by omega)).mono ?_; rintro e w' ⟨rfl, hw'⟩; rw [hw']; clear hw') | (refine (isAr_f _ _ (by omega)).mono ?_; rintro e w' ⟨rfl, hw'⟩; rw [hw']; clear hw')) | (go_at_call 139; first | (refine (isEx_t _ _ (by omega)).mono ?_; rintro e w' ⟨rfl, hw'⟩; rw [hw']; clear hw') | (refine (isEx_f _ _ (by omega)).mono ?_; rintro e w' ⟨rfl, hw'⟩; rw [hw']; clear hw')))
  go_ret
  exact ⟨rfl, HB.out⟩
end Go.Proofs.YtkaaldhejpaiiaaGreatDoor

/- hasWrongHyphen, hasWrongContext. -/
namespace Go.Proofs.YtkaaldhejpaiiaaGreatDoor
open Go.RowKit

def hyphM (L : List Nat) : Bool := decide (rC (pkAt L 0) = 3) || decide (rC (pkAt L ((L.length : Int) - 1)) = 3) || (decide (rC (pkAt L 2) = 3) && decide (rC (pkAt L 3) = 3))
theorem kind_lit {w : World} {b r : Nat} {L : List Nat} (hL : Lab w b r L) (p : Int) (x : Int) (v : Bool) (hv : decide (rC (pkAt L p) = x) = v) :
    Calls Tryz.prog 60 #[.pointer (some ⟨b, 0, none⟩), .int .i64 p, .slice (some ⟨w.heap.size, 0, none⟩) 1 1] (w.alloc (.cells #[.int .u8 x] 56)) fun e w' => e = .returned (.bool v) ∧ Below w.heap.size w w' := by
  have h := isKind_lit hL p [x] #[.int .u8 x] 1 1 rfl rfl (by simp)
  rw [show ([x].any fun y => rC (pkAt L p) == y) = decide (rC (pkAt L p) = x) by simp only [List.any_cons, List.any_nil, Bool.or_false]; rfl, hv] at h
  exact h
set_option maxHeartbeats 4000000 in
theorem hasWrongHyphen_any {w : World} {b r : Nat} {L : List Nat} (hL : Lab w b r L) :
    Calls Tryz.prog 59 #[.pointer (some ⟨b, 0, none⟩)] w fun e w' => e = .returned (.bool (hyphM L)) ∧ Below w.heap.size w w' := by
  have HL : Hid (Lab w b r L) := hL
  have hlen := hL.len
  unfold hyphM
  cases hv0 : decide (rC (pkAt L 0) = 3) with
  | true =>
    have k0 := kind_lit hL 0 3 true hv0
    clear hL
    go_enter Tryz.func59, Tryz.ntmps59
    go_wp2_with (go_at_call 60; refine k0.mono ?_; rintro e w1 ⟨rfl, hb1⟩)
    go_ret
    exact ⟨by simp, hb1⟩
  | false =>
    have k0 := kind_lit hL 0 3 false hv0
    cases hv1 : decide (rC (pkAt L ((L.length : Int) - 1)) = 3) with
    | true =>
      clear hL
      go_enter Tryz.func59, Tryz.ntmps59
      go_wp2_with (go_at_call 60; refine k0.mono ?_; rintro e w1 ⟨rfl, hb1⟩; clear k0; have hc := fcount_any (HL.out.keep hb1))
      refine hc.mono ?_
      rintro e w' ⟨rfl, hw'⟩; rw [hw']; clear hw' hc
      have k1 := kind_lit (HL.out.keep hb1) _ 3 true hv1
      go_wp2_with (go_at_call 60; refine k1.mono ?_; rintro e w2 ⟨rfl, hb2⟩)
      go_ret
      exact ⟨by simp, Below.andThen hb1 hb2⟩
    | false =>
      cases hv2 : decide (rC (pkAt L 2) = 3) with
      | false =>
        clear hL
        go_enter Tryz.func59, Tryz.ntmps59
        go_wp2_with (go_at_call 60; refine k0.mono ?_; rintro e w1 ⟨rfl, hb1⟩; clear k0; have hc := fcount_any (HL.out.keep hb1))
        refine hc.mono ?_
        rintro e w' ⟨rfl, hw'⟩; rw [hw']; clear hw' hc
        have k1 := kind_lit (HL.out.keep hb1) _ 3 false hv1
        go_wp2_with fail
        refine k1.mono ?_
        rintro e w2 ⟨rfl, hb2⟩
        clear k1
        have k2 := kind_lit ((HL.out.keep hb1).keep hb2) 2 3 false hv2
        go_wp2_with fail
        refine k2.mono ?_
        rintro e w3 ⟨rfl, hb3⟩
        clear k2
        go_wp2_with fail
        go_ret
        exact ⟨by simp, Below.andThen (Below.andThen hb1 hb2) hb3⟩
      | true =>
        obtain ⟨v3, hv3⟩ : ∃ v3, decide (rC (pkAt L 3) = 3) = v3 := ⟨_, rfl⟩
        rw [hv3]
        clear hL
        go_enter Tryz.func59, Tryz.ntmps59
        go_wp2_with (go_at_call 60; refine k0.mono ?_; rintro e w1 ⟨rfl, hb1⟩; clear k0; have hc := fcount_any (HL.out.keep hb1))
        refine hc.mono ?_
        rintro e w' ⟨rfl, hw'⟩; rw [hw']; clear hw' hc
        have k1 := kind_lit (HL.out.keep hb1) _ 3 false hv1
        go_wp2_with fail
        refine k1.mono ?_
        rintro e w2 ⟨rfl, hb2⟩
        clear k1
        have k2 := kind_lit ((HL.out.keep hb1).keep hb2) 2 3 true hv2
        go_wp2_with fail
        refine k2.mono ?_
        rintro e w3 ⟨rfl, hb3⟩
        clear k2
        have k3 := kind_lit (((HL.out.keep hb1).keep hb2).keep hb3) 3 3 v3 hv3
        go_wp2_with fail
        refine k3.mono ?_
        rintro e w4 ⟨rfl, hb4⟩
        clear k3
        go_wp2_with fail
        go_ret
        exact ⟨by simp, Below.andThen (Below.andThen (Below.andThen hb1 hb2) hb3) hb4⟩
set_option maxHeartbeats 4000000 in
theorem hasWrongContext_any {w : World} {b r : Nat} {L : List Nat} (hL : Lab w b r L) :
    Calls Tryz.prog 62 #[.pointer (some ⟨b, 0, none⟩)] w fun e w' => e = .returned (.bool ((List.range L.length).any fun i => !ctxM L (kataM L) (mixedM L) (L.getD i 0) i)) ∧ Below w.heap.size w w' := by
  have hw := whole_any hL
  have HL : Hid (Lab w b r L) := hL
  have hlen := hL.len
  generalize kataM L = kata at *
  generalize mixedM L = mixed at *
  obtain ⟨n, hn⟩ : ∃ n, L.length = n := ⟨_, rfl⟩
  have HN : Hid (L.length = n) := hn
  rw [hn] at hlen ⊢
  clear hL hn
  go_enter Tryz.func62, Tryz.ntmps62
  go_wp2_with (go_at_call 100; refine hw.mono ?_; rintro e w1 ⟨rfl, hb1⟩; clear hw; have hc := fcount_any ((HL.out.keep hb1).alloc (.cells #[.bool kata, .bool mixed] 139)); rw [HN.out] at hc)
  refine hc.mono ?_
  rintro e w' ⟨rfl, hw'⟩; rw [hw']; clear hw' hc
  have HL1 : Hid (Lab (w1.alloc (.cells #[.bool kata, .bool mixed] 139)) b r L) := (HL.out.keep hb1).alloc _
  have HB1 : Hid (Below w.heap.size w (w1.alloc (.cells #[.bool kata, .bool mixed] 139))) := Below.andThen hb1 (below_one _ _)
  obtain ⟨z0, z1, _⟩ := two_cells (Go.heap_alloc_new w1 (.cells #[.bool kata, .bool mixed] 139))
  have hsz : w1.heap.size < (w1.alloc (.cells #[.bool kata, .bool mixed] 139)).heap.size := by simp
  obtain ⟨W1, hW1⟩ : ∃ W1, W1 = w1.alloc (.cells #[.bool kata, .bool mixed] 139) := ⟨_, rfl⟩
  rw [← hW1] at z0 z1 hsz HL1 HB1 ⊢
  have HZ : Hid (W1.cell? ⟨w1.heap.size, 0, none⟩ = some (.bool kata) ∧ W1.cell? ⟨w1.heap.size, 1, none⟩ = some (.bool mixed) ∧ w1.heap.size < W1.heap.size) := ⟨z0, z1, hsz⟩
  clear hW1 z0 z1 hsz hb1 HL
  go_wp2_with fail
  go_loopw [11] (fun iv wr => ∃ k : Nat, k ≤ n ∧ iv = .int .i64 k ∧ (∀ j, j < k → (!ctxM L kata mixed (L.getD j 0) j) = false) ∧ Below W1.heap.size W1 wr) (fun iv _ => n - (intOf iv).toNat)
  case atStart => exact ⟨0, by omega, rfl, fun j hj => absurd hj (by omega), Below.refl _ _⟩
  case round =>
    obtain ⟨k, hk, rfl, hno, hbw⟩ := hrel
    have HO : Hid (∀ j, j < k → (!ctxM L kata mixed (L.getD j 0) j) = false) := hno
    have HBW : Hid (Below W1.heap.size W1 wr) := hbw
    clear hno
    by_cases hlt : k < n
    · have hkL : k < L.length := by rw [HN.out]; exact hlt
      have hctx := isInContext_any (HL1.out.keep hbw) k hkL kata mixed
      have hg : L.getD k 0 = L[k] := by simp [List.getD, hkL]
      have c0 : wr.cell? ⟨w1.heap.size, 0, none⟩ = some (.bool kata) := (hbw.cell (p := ⟨w1.heap.size, 0, none⟩) HZ.out.2.2).trans HZ.out.1
      have c1 : wr.cell? ⟨w1.heap.size, 1, none⟩ = some (.bool mixed) := (hbw.cell (p := ⟨w1.heap.size, 1, none⟩) HZ.out.2.2).trans HZ.out.2.1
      rw [← hg] at hctx
      have hlt' : (k : Int) < (n : Int) := by omega
      clear hbw hkL hg
      cases hv : ctxM L kata mixed (L.getD k 0) k with
      | false =>
        rw [hv] at hctx
        go_wp2_with (go_at_call 101; refine hctx.mono ?_; rintro e w2 ⟨rfl, hb2⟩)
        go_ret
        refine ⟨?_, Below.andThen (Below.andThen HB1.out HBW.out) hb2⟩
        rw [List.any_eq_true.2 ⟨k, List.mem_range.2 hlt, by rw [hv]; rfl⟩]
        rfl
      | true =>
        rw [hv] at hctx
        go_wp2_with (go_at_call 101; refine hctx.mono ?_; rintro e w2 ⟨rfl, hb2⟩)
        go_roundw
        case rel => exact ⟨k + 1, by omega, by go_num, fun j hj => by
            rcases Nat.lt_succ_iff_lt_or_eq.1 hj with h | rfl
            · exact HO.out j h
            · rw [hv]; rfl, Below.andThen HBW.out hb2⟩
        case measure => simp [intOf]; omega
    · have hlt' : ¬ (k : Int) < (n : Int) := by omega
      clear hbw
      go_wp2
      go_ret
      refine ⟨?_, Below.andThen HB1.out HBW.out⟩
      rw [List.any_eq_false.2 fun j hj => by
        have h := HO.out j (by have := List.mem_range.1 hj; omega)
        simp only [List.getD_eq_getElem?_getD] at h
        rw [h]
        simp]
      rfl
end Go.Proofs.YtkaaldhejpaiiaaGreatDoor

/- hasWrongForm, fault. -/
namespace Go.Proofs.YtkaaldhejpaiiaaGreatDoor
open Go.RowKit

/-- Two neighbours that are a pair, or marks in a wrong order. -/
def badAt (L : List Nat) (i : Nat) : Bool := Lm.pair (L.getD i 0) (L.getD (i + 1) 0) || (decide (rC (pkAt L (i : Int)) = 4) && decide (rC (pkAt L ((i : Int) + 1)) = 4) && decide (Lm.height (L.getD (i + 1) 0) < Lm.height (L.getD i 0)))
def formBad (L : List Nat) : Bool := (List.range (L.length - 1)).any (badAt L)
/-- The sign is in the table. -/
def known (L : List Nat) : Prop := ∀ x ∈ L, x ≤ 40959

set_option maxRecDepth 100000 in
set_option maxHeartbeats 4000000 in
theorem hasWrongForm_any {w : World} {b r : Nat} {L : List Nat} (hL : Lab w b r L) (hkn : known L)
    (hpair : ∀ (a b : Nat) (W : World), a ≤ 40959 → Calls Tryz.prog 98 #[.int .i32 (a : Int), .int .i32 (b : Int)] W fun e w' => e = .returned (.bool (Lm.pair a b)) ∧ Below W.heap.size W w') :
    Calls Tryz.prog 61 #[.pointer (some ⟨b, 0, none⟩)] w fun e w' => e = .returned (.bool (formBad L)) ∧ Below w.heap.size w w' := by
  have hlen := hL.len
  have HL : Hid (Lab w b r L) := hL
  have HK : Hid (known L) := hkn
  obtain ⟨n, hn⟩ : ∃ n, L.length = n := ⟨_, rfl⟩
  have HN : Hid (L.length = n) := hn
  unfold formBad
  rw [hn] at hlen ⊢
  clear hL hn hkn
  go_enter Tryz.func61, Tryz.ntmps61
  go_wp2
  go_loopw [3] (fun iv wr => ∃ k : Nat, 1 ≤ k ∧ (k ≤ n ∨ k = 1) ∧ iv = .int .i64 k ∧ (∀ j, j + 1 < k → badAt L j = false) ∧ Below w.heap.size w wr) (fun iv _ => n - (intOf iv).toNat)
  case atStart => exact ⟨1, by omega, by omega, rfl, fun j hj => absurd hj (by omega), Below.refl _ _⟩
  case round =>
    obtain ⟨k, hk1, hk, rfl, hno, hbw⟩ := hrel
    have HO : Hid (∀ j, j + 1 < k → badAt L j = false) := hno
    have HBW : Hid (Below w.heap.size w wr) := hbw
    have hct := fcount_any (HL.out.keep hbw)
    rw [HN.out] at hct
    clear hno
    by_cases hlt : k < n
    · obtain ⟨i, hik⟩ : ∃ i, k = i + 1 := ⟨k - 1, by omega⟩
      have hlt' : (k : Int) < (n : Int) := by omega
      have hi0 : i < L.length := by rw [HN.out]; omega
      have hi1 : k < L.length := by rw [HN.out]; exact hlt
      have ha0 := fun W (hW : BW wr W) => fat_any ((HL.out.keep hbw).keep hW) i hi0
      have ha1 := fun W (hW : BW wr W) => fat_any ((HL.out.keep hbw).keep hW) k hi1
      have g0 : L.getD i 0 = L[i] := by simp [List.getD, hi0]
      have g1 : L.getD (i + 1) 0 = L[k] := by rw [← hik]; simp [List.getD, hi1]
      have hs0 : L[i] ≤ 40959 := HK.out _ (List.getElem_mem hi0)
      have hs1 : L[k] ≤ 40959 := HK.out _ (List.getElem_mem hi1)
      have hpk : pkAt L ((i : Int) + 1) = pkAt L (k : Int) := congrArg _ (by omega)
      have hbad : badAt L i = (Lm.pair L[i] L[k] || (decide (rC (pkAt L (i : Int)) = 4) && decide (rC (pkAt L (k : Int)) = 4) && decide (Lm.height L[k] < Lm.height L[i]))) := by unfold badAt; rw [g0, g1, hpk]
      generalize L[i] = x at *
      generalize L[k] = y at *
      have hpr := hpair x y wr hs0
      simp only [show (i : Int) = (k : Int) - 1 by omega] at ha0
      clear g0 g1 hi0 hi1 hpk hpr hbw
      have HI : Hid (k = i + 1) := hik
      have hkI : (i : Int) = (k : Int) - 1 := by omega
      rw [hkI] at hbad
      have HBD : Hid (badAt L i = (Lm.pair x y || (decide (rC (pkAt L ((k : Int) - 1)) = 4) && decide (rC (pkAt L (k : Int)) = 4) && decide (Lm.height y < Lm.height x)))) := hbad
      have HP : Hid (∀ (a b : Nat) (W : World), a ≤ 40959 → Calls Tryz.prog 98 #[.int .i32 (a : Int), .int .i32 (b : Int)] W fun e w' => e = .returned (.bool (Lm.pair a b)) ∧ Below W.heap.size W w') := hpair
      clear hik hkI hbad hpair
      have hw1 : IntKind.i64.wrap ((k : Int) - 1) = (k : Int) - 1 := by rw [IntKind.wrap_i64]; omega
      obtain ⟨f, hf0, hf1⟩ : ∃ f : Int → Int, f (IntKind.i64.wrap ((k : Int) - 1)) = (x : Int) ∧ f (k : Int) = (y : Int) := ⟨fun p => if p = (k : Int) then (y : Int) else (x : Int), by rw [hw1]; exact if_neg (by omega), if_pos rfl⟩
      have HA : Hid (∀ W (p : Int), BW wr W → (p = IntKind.i64.wrap ((k : Int) - 1) ∨ p = (k : Int)) → Calls Tryz.prog 97 #[.pointer (some ⟨b, 0, none⟩), .int .i64 p] W fun e w' => e = .returned (.int .i32 (f p)) ∧ w' = W) := by
        intro W p hW hp
        rcases hp with rfl | rfl
        · rw [hf0, hw1]; exact ha0 W hW
        · rw [hf1]; exact ha1 W hW
      have HF : Hid (f (IntKind.i64.wrap ((k : Int) - 1)) = (x : Int) ∧ f (k : Int) = (y : Int)) := ⟨hf0, hf1⟩
      clear ha0 ha1 hw1 hf0 hf1
      go_upto_region 4 with (go_at_call 94; refine hct.mono ?_; rintro e w' ⟨rfl, hw'⟩; rw [hw']; clear hw' hct)
      go_cut [4, 5] from 6 to 45 (fun a b wc => a = .int .i32 (x : Int) ∧ b = .int .i32 (y : Int) ∧ BW wr wc)
      case first =>
        first | (go_region_with (go_at_call 97; refine (HA.out _ _ (by repeat (first | assumption | exact BW.refl _ | apply BW.drew)) (by first | exact Or.inl rfl | exact Or.inr rfl)).mono ?_; rintro e w' ⟨rfl, hw'⟩; rw [hw']; clear hw')) | fail
        all_goals go_wp2
        all_goals go_meet
        all_goals exact ⟨by rw [HF.out.1], by rw [HF.out.2], by repeat (first | assumption | exact BW.refl _ | apply BW.drew)⟩
      case rest =>
        obtain ⟨rfl, rfl, hbc⟩ := hcut
        have hpr := HP.out x y wc hs0
        have HW : Hid (Below w.heap.size w wc) := Below.andThen HBW.out hbc
        have go_on : ∀ j, j < k → badAt L i = false → badAt L j = false := fun j hj hb => by
          rcases Nat.lt_or_ge (j + 1) k with h | h
          · exact HO.out j h
          · rw [show j = i by have := HI.out; omega]; exact hb
        have GO : Hid (∀ j, j < k → badAt L i = false → badAt L j = false) := go_on
        clear hbc go_on
        cases hv : Lm.pair x y with
        | true =>
          rw [hv] at hpr
          go_wp2_with (go_at_call 98; refine hpr.mono ?_; rintro e w1 ⟨rfl, hb1⟩)
          go_ret
          refine ⟨?_, Below.andThen HW.out hb1⟩
          rw [List.any_eq_true.2 ⟨i, List.mem_range.2 (by have := HI.out; omega), by rw [HBD.out, hv]; rfl⟩]
          rfl
        | false =>
          rw [hv] at hpr
          cases hv0 : decide (rC (pkAt L ((k : Int) - 1)) = 4) with
          | false =>
            go_upto_region 7 with (go_at_call 98; refine hpr.mono ?_; rintro e w1 ⟨rfl, hb1⟩)
            clear hpr
            have k0 := kind_lit (HL.out.keep (Below.andThen HW.out hb1)) ((k : Int) - 1) 4 false hv0
            go_wp2_with (go_at_call 60; refine k0.mono ?_; rintro e w2 ⟨rfl, hb2⟩)
            go_roundw
            case rel => exact ⟨k + 1, by omega, by omega, by go_num, fun j hj => GO.out j (by omega) (by rw [HBD.out, hv, hv0]; rfl), Below.andThen (Below.andThen HW.out hb1) hb2⟩
            case measure => simp [intOf]; omega
          | true =>
            cases hv1 : decide (rC (pkAt L (k : Int)) = 4) with
            | false =>
              go_upto_region 7 with (go_at_call 98; refine hpr.mono ?_; rintro e w1 ⟨rfl, hb1⟩)
              clear hpr
              have k0 := kind_lit (HL.out.keep (Below.andThen HW.out hb1)) ((k : Int) - 1) 4 true hv0
              go_wp2_with (go_at_call 60; refine k0.mono ?_; rintro e w2 ⟨rfl, hb2⟩; clear k0; have k1 := kind_lit (HL.out.keep (Below.andThen (Below.andThen HW.out hb1) hb2)) (k : Int) 4 false hv1)
              refine k1.mono ?_
              rintro e w3 ⟨rfl, hb3⟩
              clear k1
              go_wp2_with fail
              go_roundw
              case rel => exact ⟨k + 1, by omega, by omega, by go_num, fun j hj => GO.out j (by omega) (by rw [HBD.out, hv, hv0, hv1]; rfl), Below.andThen (Below.andThen (Below.andThen HW.out hb1) hb2) hb3⟩
              case measure => simp [intOf]; omega
            | true =>
              have hx := fun W => heightC_any x W (by omega)
              have hy := fun W => heightC_any y W (by omega)
              have HX : Hid (∀ W, Calls Tryz.prog 99 #[.int .i32 (x : Int)] W fun e w' => e = .returned (.int .i64 (Lm.height x : Nat)) ∧ w' = W) := hx
              have HY : Hid (∀ W, Calls Tryz.prog 99 #[.int .i32 (y : Int)] W fun e w' => e = .returned (.int .i64 (Lm.height y : Nat)) ∧ w' = W) := hy
              clear hx hy
              generalize Lm.height x = hx at *
              generalize Lm.height y = hy at *
              by_cases hh : hy < hx
              · have hh' : (hy : Int) < (hx : Int) := by omega
                go_upto_region 7 with (go_at_call 98; refine hpr.mono ?_; rintro e w1 ⟨rfl, hb1⟩)
                clear hpr
                have k0 := kind_lit (HL.out.keep (Below.andThen HW.out hb1)) ((k : Int) - 1) 4 true hv0
                go_wp2_with (go_at_call 60; refine k0.mono ?_; rintro e w2 ⟨rfl, hb2⟩; clear k0; have k1 := kind_lit (HL.out.keep (Below.andThen (Below.andThen HW.out hb1) hb2)) (k : Int) 4 true hv1)
                refine k1.mono ?_
                rintro e w3 ⟨rfl, hb3⟩
                clear k1
                go_wp2_with fail
                refine (HX.out _).mono ?_
                rintro e w' ⟨rfl, hw'⟩; rw [hw']; clear hw'
                go_wp2_with fail
                refine (HY.out _).mono ?_
                rintro e w' ⟨rfl, hw'⟩; rw [hw']; clear hw'
                go_wp2_with fail
                go_ret
                refine ⟨?_, Below.andThen (Below.andThen (Below.andThen HW.out hb1) hb2) hb3⟩
                rw [List.any_eq_true.2 ⟨i, List.mem_range.2 (by have := HI.out; omega), by rw [HBD.out, hv, hv0, hv1, decide_eq_true hh]; rfl⟩]
                rfl
              · have hh' : ¬ (hy : Int) < (hx : Int) := by omega
                go_upto_region 7 with (go_at_call 98; refine hpr.mono ?_; rintro e w1 ⟨rfl, hb1⟩)
                clear hpr
                have k0 := kind_lit (HL.out.keep (Below.andThen HW.out hb1)) ((k : Int) - 1) 4 true hv0
                go_wp2_with (go_at_call 60; refine k0.mono ?_; rintro e w2 ⟨rfl, hb2⟩; clear k0; have k1 := kind_lit (HL.out.keep (Below.andThen (Below.andThen HW.out hb1) hb2)) (k : Int) 4 true hv1)
                refine k1.mono ?_
                rintro e w3 ⟨rfl, hb3⟩
                clear k1
                go_wp2_with fail
                refine (HX.out _).mono ?_
                rintro e w' ⟨rfl, hw'⟩; rw [hw']; clear hw'
                go_wp2_with fail
                refine (HY.out _).mono ?_
                rintro e w' ⟨rfl, hw'⟩; rw [hw']; clear hw'
                go_wp2_with fail
                go_roundw
                case rel => exact ⟨k + 1, by omega, by omega, by go_num, fun j hj => GO.out j (by omega) (by rw [HBD.out, hv, hv0, hv1, decide_eq_false hh]; rfl), Below.andThen (Below.andThen (Below.andThen HW.out hb1) hb2) hb3⟩
                case measure => simp [intOf]; omega
    · have hlt' : ¬ (k : Int) < (n : Int) := by omega
      clear hbw
      go_wp2_with (go_at_call 94; refine hct.mono ?_; rintro e w' ⟨rfl, hw'⟩; rw [hw']; clear hw' hct)
      go_ret
      refine ⟨?_, HBW.out⟩
      rw [List.any_eq_false.2 fun j hj => by
        rw [HO.out j (by have := List.mem_range.1 hj; omega)]
        simp]
      rfl
end Go.Proofs.YtkaaldhejpaiiaaGreatDoor

