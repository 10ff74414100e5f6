/- Both tables agree, in scripts and joinings too. No walk in this text. -/
import Derived.Test.YtkaaldhejpaiiaaGreatDoorKc
import Derived.Test.YtkaaldhejpaiiaaGreatDoorRowL
namespace Go.Proofs.YtkaaldhejpaiiaaGreatDoor
open Go.RowKit

/-- The project's row of a number: the number of the first that fits; 33, if none does. -/
def pk (n : Int) : Nat := Km.idx Km.tab n
theorem rowVal_idx (n : Int) : rowVal n = .agg #[.int .i32 (rA (pk n)), .int .i32 (rB (pk n)), .int .u8 (rC (pk n)), .int .u8 (rS (pk n)), .int .u8 (rD (pk n)), .int .u8 (rE (pk n))] := by
  obtain ⟨h1, h2, h3⟩ := count_mono (fun i => decide (n ≤ rB i)) 33 (fun a b hab hb h => by
    have := rB_up ⟨a, by omega⟩ ⟨b, hb⟩ hab
    simp only [decide_eq_true_eq] at h ⊢
    simp only at this
    omega)
  change ∀ i, i < idxK n → _ at h1
  change ∀ i, idxK n ≤ i → _ at h2
  change idxK n ≤ 33 at h3
  unfold rowVal pk
  generalize idxK n = K at *
  have lo : ∀ j, j < K → ¬ (Km.rowA Km.tab j ≤ n ∧ n ≤ Km.rowB Km.tab j) := fun j hj h => by
    have e := rows_same ⟨j, by omega⟩
    have h4 := h1 j hj
    simp only [decide_eq_false_iff_not] at h4
    simp only at e
    rw [e.2.1] at h
    exact h4 h.2
  by_cases hK : K = 33
  · rw [if_pos (Or.inl hK), Km.idx_miss n Km.tab (fun j hj => lo j (by have h33 : j < 33 := hj; omega))]
    rfl
  · have e := rows_same ⟨K, by omega⟩
    simp only at e
    have h5 := h2 K (Nat.le_refl _) (by omega)
    simp only [decide_eq_true_eq] at h5
    by_cases hA : n < rA K
    · rw [if_pos (Or.inr hA), Km.idx_miss n Km.tab]
      · rfl
      · intro j hj h
        have hj33 : j < 33 := hj
        by_cases hjK : j < K
        · exact lo j hjK h
        · have ej := rows_same ⟨j, hj33⟩
          simp only at ej
          rw [ej.1] at h
          by_cases hje : j = K
          · subst hje; omega
          · have q1 := rA_up ⟨K, by omega⟩ ⟨j, hj33⟩ (by show K < j; omega)
            have q2 := rAB ⟨K, by omega⟩
            simp only at q1 q2
            omega
    · rw [if_neg (by omega), Km.idx_hit n Km.tab K (by show K < 33; omega) lo (by rw [e.1, e.2.1]; omega)]

theorem idx_const (lo hi n : Int) (h1 : lo ≤ n) (h2 : n ≤ hi) : ∀ t : List (Int × Int × Int), Km.apart lo hi t = true → Km.idx t n = Km.idx t lo
  | [], _ => rfl
  | (a, b, k) :: r, h => by
    simp only [Km.apart, List.all_cons, Bool.and_eq_true, Bool.or_eq_true, decide_eq_true_eq] at h
    have ih := idx_const lo hi n h1 h2 r (by simpa [Km.apart] using h.2)
    simp only [Km.idx]
    rcases h.1 with (hb | ha) | ⟨ha, hb⟩
    · rw [if_neg (by omega), if_neg (by omega), ih]
    · rw [if_neg (by omega), if_neg (by omega), ih]
    · rw [if_pos (by omega), if_pos (by omega)]
theorem idx_out (n : Int) : ∀ t : List (Int × Int × Int), (∀ r ∈ t, n < r.1 ∨ r.2.1 < n) → Km.idx t n = t.length
  | [], _ => rfl
  | (a, b, k) :: r, h => by
    have h0 := h (a, b, k) (by simp)
    simp only [Km.idx]
    rw [if_neg (by simp only at h0; omega), idx_out n r fun x hx => h x (by simp [hx])]
    rfl

/-- A side's name, a script's, a joining's, as the document's answer writes them. -/
def sideName : List (List UInt8) := [[], [76], [82], [65, 76], [69, 78], [65, 78], [69, 83], [78, 83, 77]]
def scriptName : List (List UInt8) := [[], [76, 97, 116, 105, 110], [71, 114, 101, 101, 107], [72, 101, 98, 114, 101, 119], [65, 114, 97, 98, 105, 99], [68, 101, 118, 97, 110, 97, 103, 97, 114, 105], [72, 105, 114, 97, 103, 97, 110, 97], [75, 97, 116, 97, 107, 97, 110, 97], [72, 97, 110]]
def joinName : List (List UInt8) := [[], [82], [68], [84]]
def sameRow (j k : Nat) : Bool := decide (rC j = Km.rowC Km.ref k) && decide (sideName.getD (rS j).toNat [1] = (rowS k).data.toList) && decide (0 ≤ rS j) && decide (rS j ≤ 7) && decide (scriptName.getD (rD j).toNat [1] = (rowT k).data.toList) && decide (joinName.getD (rE j).toNat [1] = (rowJ k).data.toList) && decide (0 ≤ rD j) && decide (0 ≤ rE j) && decide (rD j ≤ 8) && decide (rE j ≤ 3)
theorem all_same : (Km.pairs Km.breaks).all (fun p => Km.apart p.1 p.2 Km.tab && Km.apart p.1 p.2 Km.ref && sameRow (Km.idx Km.tab p.1) (Km.idx Km.ref p.1)) = true := by decide +kernel
theorem none_same : sameRow 33 33 = true := by decide +kernel
/-- The document's row of a number. -/
def dk (n : Int) : Nat := Km.idx Km.ref n
theorem same_rows (n : Int) : sameRow (pk n) (dk n) = true := by
  unfold pk dk
  by_cases h : 45 ≤ n ∧ n < 40960
  · obtain ⟨p, hp, h1, h2⟩ := Km.in_pairs n Km.breaks 45 rfl h.1 (by show n < 40960; exact h.2)
    have := List.all_eq_true.1 all_same p hp
    simp only [Bool.and_eq_true] at this
    rw [idx_const p.1 p.2 n h1 h2 Km.tab this.1.1, idx_const p.1 p.2 n h1 h2 Km.ref this.1.2]
    exact this.2
  · rw [idx_out n Km.tab fun r hr => by have := Km.tab_low r hr; omega, idx_out n Km.ref fun r hr => by have := Km.ref_low r hr; omega]
    exact none_same

end Go.Proofs.YtkaaldhejpaiiaaGreatDoor
