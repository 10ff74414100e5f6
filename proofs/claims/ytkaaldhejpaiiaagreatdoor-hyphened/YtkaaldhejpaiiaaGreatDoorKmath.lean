/- Plain mathematics for Kinds: two tables of runs, looked through from the top, agree at every number. Nothing of the dump. -/
namespace Go.Proofs.YtkaaldhejpaiiaaGreatDoor.Km

def look : List (Int × Int × Int) → Int → Int
  | [], _ => 0
  | (a, b, k) :: r, n => if a ≤ n ∧ n ≤ b then k else look r n

def tab : List (Int × Int × Int) := [(45, 45, 3), (48, 57, 2), (97, 122, 1), (183, 183, 5), (223, 246, 1), (248, 255, 1), (768, 831, 4), (834, 834, 4), (837, 846, 4), (848, 879, 4), (885, 885, 5), (940, 974, 1), (1488, 1514, 1), (1523, 1524, 5), (1575, 1575, 1), (1576, 1576, 1), (1577, 1577, 1), (1578, 1582, 1), (1583, 1586, 1), (1587, 1594, 1), (1601, 1607, 1), (1608, 1608, 1), (1609, 1610, 1), (1611, 1618, 4), (1632, 1641, 5), (1776, 1785, 5), (2309, 2361, 1), (2381, 2381, 4), (8204, 8205, 5), (12353, 12438, 1), (12449, 12538, 1), (12539, 12539, 5), (19968, 40959, 1)]
def ref : List (Int × Int × Int) := [(45, 45, 3), (48, 57, 2), (97, 122, 1), (223, 246, 1), (248, 255, 1), (183, 183, 5), (768, 831, 4), (834, 834, 4), (837, 846, 4), (848, 879, 4), (885, 885, 5), (940, 974, 1), (1488, 1514, 1), (1523, 1524, 5), (1575, 1575, 1), (1583, 1586, 1), (1608, 1608, 1), (1576, 1576, 1), (1578, 1582, 1), (1587, 1594, 1), (1601, 1607, 1), (1609, 1610, 1), (1577, 1577, 1), (1611, 1618, 4), (1632, 1641, 5), (1776, 1785, 5), (2309, 2361, 1), (2381, 2381, 4), (8204, 8205, 5), (12353, 12438, 1), (12449, 12538, 1), (12539, 12539, 5), (19968, 40959, 1)]

def apart (lo hi : Int) (t : List (Int × Int × Int)) : Bool := t.all fun r => decide (r.2.1 < lo) || decide (hi < r.1) || (decide (r.1 ≤ lo) && decide (hi ≤ r.2.1))
theorem look_const (lo hi n : Int) (h1 : lo ≤ n) (h2 : n ≤ hi) : ∀ t : List (Int × Int × Int), apart lo hi t = true → look t n = look t lo
  | [], _ => rfl
  | (a, b, k) :: r, h => by
    simp only [apart, List.all_cons, Bool.and_eq_true, Bool.or_eq_true, decide_eq_true_eq] at h
    have ih := look_const lo hi n h1 h2 r (by simpa [apart] using h.2)
    simp only [look]
    rcases h.1 with (hb | ha) | ⟨ha, hb⟩
    · rw [if_neg (by omega), if_neg (by omega)]; exact ih
    · rw [if_neg (by omega), if_neg (by omega)]; exact ih
    · rw [if_pos (by omega), if_pos (by omega)]
theorem look_out (n : Int) : ∀ t : List (Int × Int × Int), (∀ r ∈ t, n < r.1 ∨ r.2.1 < n) → look t n = 0
  | [], _ => rfl
  | (a, b, k) :: r, h => by
    have h0 := h (a, b, k) (by simp)
    simp only [look]
    rw [if_neg (by simp only at h0; omega)]
    exact look_out n r fun x hx => h x (by simp [hx])

/-- Breaks: between two that follow one another neither table turns. -/
def breaks : List Int := [45, 46, 48, 58, 97, 123, 183, 184, 223, 247, 248, 256, 768, 832, 834, 835, 837, 847, 848, 880, 885, 886, 940, 975, 1488, 1515, 1523, 1525, 1575, 1576, 1577, 1578, 1583, 1587, 1595, 1601, 1608, 1609, 1611, 1619, 1632, 1642, 1776, 1786, 2309, 2362, 2381, 2382, 8204, 8206, 12353, 12439, 12449, 12539, 12540, 19968, 40960]
def pairs : List Int → List (Int × Int)
  | a :: b :: r => (a, b - 1) :: pairs (b :: r)
  | _ => []
theorem in_pairs (n : Int) : ∀ (l : List Int) (a : Int), l.head? = some a → a ≤ n → n < l.getLastD 0 → ∃ p ∈ pairs l, p.1 ≤ n ∧ n ≤ p.2
  | [], _, h, _, _ => by simp at h
  | [x], a, h, h1, h2 => by simp at h; subst h; simp [List.getLastD] at h2; omega
  | x :: y :: r, a, h, h1, h2 => by
    simp only [List.head?_cons, Option.some.injEq] at h
    subst h
    by_cases hy : n < y
    · exact ⟨(x, y - 1), by simp [pairs], h1, by show n ≤ y - 1; omega⟩
    · obtain ⟨p, hp, hq⟩ := in_pairs n (y :: r) y rfl (by omega) (by simpa [List.getLastD] using h2)
      exact ⟨p, by simp [pairs]; exact Or.inr hp, hq⟩
theorem all_parts : (pairs breaks).all (fun p => apart p.1 p.2 tab && apart p.1 p.2 ref && decide (look tab p.1 = look ref p.1)) = true := by decide +kernel
theorem tab_low : ∀ r ∈ tab, (45 : Int) ≤ r.1 ∧ r.2.1 ≤ 40959 := by decide +kernel
theorem ref_low : ∀ r ∈ ref, (45 : Int) ≤ r.1 ∧ r.2.1 ≤ 40959 := by decide +kernel
theorem agree (n : Int) : look tab n = look ref n := by
  by_cases h : 45 ≤ n ∧ n < 40960
  · obtain ⟨p, hp, h1, h2⟩ := in_pairs n breaks 45 rfl h.1 (by show n < 40960; exact h.2)
    have := List.all_eq_true.1 all_parts p hp
    simp only [Bool.and_eq_true, decide_eq_true_eq] at this
    rw [look_const p.1 p.2 n h1 h2 tab this.1.1, look_const p.1 p.2 n h1 h2 ref this.1.2, this.2]
  · rw [look_out n tab fun r hr => by have := tab_low r hr; omega, look_out n ref fun r hr => by have := ref_low r hr; omega]

/-- Behind k rows that do not fit. -/
theorem look_drop (t : List (Int × Int × Int)) (n : Int) : ∀ k, (∀ j, j < k → ∀ r, t[j]? = some r → ¬ (r.1 ≤ n ∧ n ≤ r.2.1)) → look t n = look (t.drop k) n
  | 0, _ => by simp
  | k + 1, h => by
    rw [look_drop t n k fun j hj => h j (by omega)]
    cases hk : t[k]? with
    | none => rw [List.drop_eq_nil_of_le (by simpa using hk), List.drop_eq_nil_of_le (by have hx : t.length ≤ k := (by simpa using hk); omega)]
    | some r =>
      obtain ⟨hl, rfl⟩ := List.getElem?_eq_some_iff.1 hk
      have h0 := h k (by omega) _ hk
      rw [List.drop_eq_getElem_cons hl]
      rcases hr : t[k] with ⟨a, b, c⟩
      rw [hr] at h0
      simp only [look]
      rw [if_neg h0]
def rowA (t : List (Int × Int × Int)) (k : Nat) : Int := (t.getD k (0, 0, 0)).1
def rowB (t : List (Int × Int × Int)) (k : Nat) : Int := (t.getD k (0, 0, 0)).2.1
def rowC (t : List (Int × Int × Int)) (k : Nat) : Int := (t.getD k (0, 0, 0)).2.2
theorem look_hit (t : List (Int × Int × Int)) (n : Int) (k : Nat) (hk : k < t.length) (h : ∀ j, j < k → ¬ (rowA t j ≤ n ∧ n ≤ rowB t j)) (hh : rowA t k ≤ n ∧ n ≤ rowB t k) : look t n = rowC t k := by
  rw [look_drop t n k fun j hj r hr => by have := h j hj; simpa [rowA, rowB, hr] using this]
  rw [List.drop_eq_getElem_cons hk]
  simp only [rowA, rowB, rowC, List.getD_eq_getElem?_getD, List.getElem?_eq_getElem hk, Option.getD_some] at hh ⊢
  rcases hr : t[k] with ⟨a, b, c⟩
  rw [hr] at hh
  simp only [look]
  rw [if_pos hh]
theorem look_miss (t : List (Int × Int × Int)) (n : Int) (k : Nat) (hk : t.length ≤ k) (h : ∀ j, j < k → ¬ (rowA t j ≤ n ∧ n ≤ rowB t j)) : look t n = 0 := by
  rw [look_drop t n k fun j hj r hr => by have := h j hj; simpa [rowA, rowB, hr] using this, List.drop_eq_nil_of_le hk]
  rfl
/-- The number of the first row that fits; the number of rows, if none does. -/
def idx : List (Int × Int × Int) → Int → Nat
  | [], _ => 0
  | (a, b, _) :: r, n => if a ≤ n ∧ n ≤ b then 0 else idx r n + 1
theorem idx_hit (n : Int) : ∀ (t : List (Int × Int × Int)) (k : Nat), k < t.length → (∀ j, j < k → ¬ (rowA t j ≤ n ∧ n ≤ rowB t j)) → rowA t k ≤ n ∧ n ≤ rowB t k → idx t n = k
  | [], k, hk, _, _ => absurd hk (by simp)
  | (a, b, c) :: r, 0, _, _, hh => by
    simp only [idx]
    exact if_pos (by simpa [rowA, rowB] using hh)
  | (a, b, c) :: r, k + 1, hk, h, hh => by
    simp only [idx]
    rw [if_neg (by have := h 0 (by omega); simpa [rowA, rowB] using this)]
    rw [idx_hit n r k (by simpa using hk) (fun j hj => by have := h (j + 1) (by omega); simpa [rowA, rowB] using this) (by simpa [rowA, rowB] using hh)]
theorem idx_miss (n : Int) : ∀ (t : List (Int × Int × Int)), (∀ j, j < t.length → ¬ (rowA t j ≤ n ∧ n ≤ rowB t j)) → idx t n = t.length
  | [], _ => rfl
  | (a, b, c) :: r, h => by
    simp only [idx]
    rw [if_neg (by have := h 0 (by simp); simpa [rowA, rowB] using this), idx_miss n r fun j hj => by have := h (j + 1) (by simpa using hj); simpa [rowA, rowB] using this]
    rfl
theorem look_idx (n : Int) : ∀ t : List (Int × Int × Int), look t n = rowC t (idx t n)
  | [] => rfl
  | (a, b, c) :: r => by
    simp only [look, idx]
    split
    · rfl
    · rw [look_idx n r]; simp [rowC]
end Go.Proofs.YtkaaldhejpaiiaaGreatDoor.Km
