import Derived.Test.YtkaaldhejpaiiaaGreatDoorMf
import Derived.Test.YtkaaldhejpaiiaaGreatDoorBu21
/- The document's sided. -/
namespace Go.Proofs.YtkaaldhejpaiiaaGreatDoor
open Go.RowKit

/-- A side's name. -/
def SideS (Z : ByteArray) (v : Int) : Prop := ∀ j, j < 8 → (Z.toList == sideName.getD j [1]) = decide (v = (j : Int))
theorem side_row (L : List Nat) (p : Int) : SideS (rowS (dkAt L p)) (rS (pkAt L p)) := fun j hj => side_is L p j hj
theorem side_none : SideS { data := #[] } 0 := by
  intro j hj
  rcases (by omega : j = 0 ∨ j = 1 ∨ j = 2 ∨ j = 3 ∨ j = 4 ∨ j = 5 ∨ j = 6 ∨ j = 7) with rfl | rfl | rfl | rfl | rfl | rfl | rfl | rfl <;> decide +kernel
theorem SideS.all {Z : ByteArray} {v : Int} (h : SideS Z v) : (Z.toList == [76]) = decide (v = 1) ∧ (Z.toList == [82]) = decide (v = 2) ∧ (Z.toList == [65, 76]) = decide (v = 3) ∧ (Z.toList == [69, 78]) = decide (v = 4) ∧ (Z.toList == [65, 78]) = decide (v = 5) ∧ (Z.toList == [69, 83]) = decide (v = 6) ∧ (Z.toList == [78, 83, 77]) = decide (v = 7) ∧ Z.toList.isEmpty = decide (v = 0) :=
  ⟨h 1 (by decide), h 2 (by decide), h 3 (by decide), h 4 (by decide), h 5 (by decide), h 6 (by decide), h 7 (by decide), by
    have := h 0 (by decide)
    rw [show ((0 : Nat) : Int) = 0 from rfl] at this
    rw [← this]
    cases Z.toList <;> rfl⟩
theorem rS_range (L : List Nat) (p : Int) : rS (pkAt L p) = 0 ∨ rS (pkAt L p) = 1 ∨ rS (pkAt L p) = 2 ∨ rS (pkAt L p) = 3 ∨ rS (pkAt L p) = 4 ∨ rS (pkAt L p) = 5 ∨ rS (pkAt L p) = 6 ∨ rS (pkAt L p) = 7 := by
  have h := same_at L p
  unfold sameRow at h
  simp only [Bool.and_eq_true, decide_eq_true_eq] at h
  omega
def okS (R : Bool) (v : Int) : Bool := decide (v = 7) || decide (v = 4) || decide (v = 6) || decide (v = 0) || (decide (v = 1) != R)
def allS (R : Bool) (L : List Nat) (k : Nat) : Bool := (List.range k).all fun (i : Nat) => okS R (rS (pkAt L (i : Int)))
def anyS (x : Int) (L : List Nat) (k : Nat) : Bool := (List.range k).any fun (i : Nat) => decide (rS (pkAt L (i : Int)) = x)
def lastV (L : List Nat) (k : Nat) : Int := rS (pkAt L (endN L k))
theorem allS_succ (R : Bool) (L : List Nat) (k : Nat) : allS R L (k + 1) = (allS R L k && okS R (rS (pkAt L (k : Int)))) := by
  unfold allS
  rw [List.range_succ, List.all_append]
  simp
theorem anyS_succ (x : Int) (L : List Nat) (k : Nat) : anyS x L (k + 1) = (anyS x L k || decide (rS (pkAt L (k : Int)) = x)) := by
  unfold anyS
  rw [List.range_succ, List.any_append]
  simp
theorem lastV_succ (L : List Nat) (k : Nat) : lastV L (k + 1) = if rS (pkAt L (k : Int)) = 7 then lastV L k else rS (pkAt L (k : Int)) := by
  unfold lastV
  rw [endN]
  split <;> rfl
theorem lastV_zero (L : List Nat) : lastV L 0 = 0 := rS_out L _ (by rw [endN]; omega)
theorem allS_bad {R : Bool} {L : List Nat} {k n : Nat} (hk : k < n) (h : okS R (rS (pkAt L (k : Int))) = false) : allS R L n = false := by
  unfold allS
  rw [List.all_eq_false]
  exact ⟨k, List.mem_range.2 hk, by rw [h]; decide⟩
/-- Sided, as the document reckons it. -/
def sidedD (R : Bool) (L : List Nat) (n : Nat) : Bool := allS R L n && (if R = true then (decide (lastV L n = 2) || decide (lastV L n = 3) || decide (lastV L n = 4) || decide (lastV L n = 5)) && (!anyS 4 L n || !anyS 5 L n) else (decide (lastV L n = 1) || decide (lastV L n = 4)) && !anyS 5 L n)
theorem not_any (n : Nat) (p : Nat → Bool) : (!((List.range n).any fun i => !(p i))) = (List.range n).all p := by
  rw [List.not_any_eq_all_not]
  congr 1
  funext i
  simp
theorem only_left (L : List Nat) : onlyM L [1, 4, 6, 7, 0] = allS false L L.length := by
  unfold onlyM allS
  rw [not_any L.length fun i => [1, 4, 6, 7, 0].any fun y => rS (pkAt L (i : Int)) == y]
  congr 1
  funext i
  unfold okS
  rcases rS_range L (i : Int) with h | h | h | h | h | h | h | h <;> rw [h] <;> rfl
theorem only_right (L : List Nat) : onlyM L [2, 3, 5, 4, 6, 7, 0] = allS true L L.length := by
  unfold onlyM allS
  rw [not_any L.length fun i => [2, 3, 5, 4, 6, 7, 0].any fun y => rS (pkAt L (i : Int)) == y]
  congr 1
  funext i
  unfold okS
  rcases rS_range L (i : Int) with h | h | h | h | h | h | h | h <;> rw [h] <;> rfl
theorem hasSide_one (L : List Nat) (x : Int) : hasSideM L [x] = anyS x L L.length := by
  unfold hasSideM anyS
  congr 1
  funext i
  simp only [List.any_cons, List.any_nil, Bool.or_false]
  rfl
theorem left_no5 (L : List Nat) (n : Nat) (h : allS false L n = true) : anyS 5 L n = false := by
  unfold anyS
  rw [List.any_eq_false]
  intro i hi
  unfold allS at h
  have h1 := List.all_eq_true.1 h i hi
  intro h2
  have h3 := of_decide_eq_true h2
  unfold okS at h1
  rw [h3] at h1
  exact absurd h1 (by decide)
theorem sided_doc (L : List Nat) : sidedM L = if rS (pkAt L 0) = 1 then sidedD false L L.length else if rS (pkAt L 0) = 2 ∨ rS (pkAt L 0) = 3 then sidedD true L L.length else false := by
  have e2 : endsM L [1, 4] = (decide (lastV L L.length = 1) || decide (lastV L L.length = 4)) := by
    unfold endsM lastV
    simp only [List.any_cons, List.any_nil, Bool.or_false]
    rfl
  have e3 : endsM L [2, 3, 4, 5] = (decide (lastV L L.length = 2) || decide (lastV L L.length = 3) || decide (lastV L L.length = 4) || decide (lastV L L.length = 5)) := by
    unfold endsM lastV
    simp only [List.any_cons, List.any_nil, Bool.or_false, Bool.or_assoc]
    rfl
  unfold sidedM sidedD
  rw [only_left, only_right, e2, e3, hasSide_one, hasSide_one]
  by_cases h1 : rS (pkAt L 0) = 1
  · rw [h1, if_pos (by decide), if_pos rfl, if_neg (by decide)]
    cases ha : allS false L L.length with
    | false => rfl
    | true => rw [left_no5 L _ ha]; simp
  · rw [if_neg h1]
    by_cases h2 : rS (pkAt L 0) = 2 ∨ rS (pkAt L 0) = 3
    · rw [if_pos h2]
      have hb : ([2, 3].any fun y => rS (pkAt L 0) == y) = true := by rcases h2 with h | h <;> rw [h] <;> decide
      have ha : ([1].any fun y => rS (pkAt L 0) == y) = false := by rcases h2 with h | h <;> rw [h] <;> decide
      rw [ha, hb, if_neg (by decide), if_pos rfl, if_pos rfl]
      cases allS true L L.length <;> simp
    · rw [if_neg h2]
      have hb : ([2, 3].any fun y => rS (pkAt L 0) == y) = false := by
        simp only [List.any_cons, List.any_nil, Bool.or_false, Bool.or_eq_false_iff, beq_eq_false_iff_ne]
        omega
      have ha : ([1].any fun y => rS (pkAt L 0) == y) = false := by
        simp only [List.any_cons, List.any_nil, Bool.or_false, beq_eq_false_iff_ne]
        omega
      rw [ha, hb]
      rfl
theorem at_side {w : World} {g : Nat} {L : List Nat} (hI : Ints w g L) (c : Nat) (p : Int) : ∃ (a b k : Int) (t j : ByteArray), ∀ S, rowS (dkAt L p) = S →
    Calls Tryz.prog 34 #[.slice (some ⟨g, 0, none⟩) L.length c, .int .i64 p] w fun e w' => e = .returned (.agg #[.int .i64 a, .int .i64 b, .int .i64 k, .string S, .string t, .string j]) ∧ Below w.heap.size w w' :=
  ⟨_, _, _, _, _, fun S hS => by subst hS; exact at_any' hI c p _ rfl⟩
end Go.Proofs.YtkaaldhejpaiiaaGreatDoor

