/- The project's table, and what its search comes to. No walk in this text. -/
import Derived.WalkKit
namespace Go.Proofs.YtgkepdjgopoljaaDoor
open Go

def tabK : List (Int × Int × Int × Int × Int) := [(45, 45, 3, 0, 0), (48, 57, 2, 0, 0), (97, 122, 1, 1, 0), (183, 183, 5, 0, 0), (223, 246, 1, 1, 0), (248, 255, 1, 1, 0), (768, 831, 4, 0, 3), (834, 834, 4, 0, 3), (837, 846, 4, 0, 3), (848, 879, 4, 0, 3), (885, 885, 5, 2, 0), (940, 974, 1, 2, 0), (1488, 1514, 1, 3, 0), (1523, 1524, 5, 3, 0), (1575, 1575, 1, 4, 1), (1576, 1576, 1, 4, 2), (1577, 1577, 1, 4, 1), (1578, 1582, 1, 4, 2), (1583, 1586, 1, 4, 1), (1587, 1594, 1, 4, 2), (1601, 1607, 1, 4, 2), (1608, 1608, 1, 4, 1), (1609, 1610, 1, 4, 2), (1611, 1618, 4, 0, 3), (1632, 1641, 5, 0, 0), (1776, 1785, 5, 0, 0), (2309, 2361, 1, 5, 0), (2381, 2381, 4, 0, 3), (8204, 8205, 5, 0, 0), (12353, 12438, 1, 6, 0), (12449, 12538, 1, 7, 0), (12539, 12539, 5, 0, 0), (19968, 40959, 1, 8, 0)]
def rA (k : Nat) : Int := (tabK.getD k (0, 0, 0, 0, 0)).1
def rB (k : Nat) : Int := (tabK.getD k (0, 0, 0, 0, 0)).2.1
def rC (k : Nat) : Int := (tabK.getD k (0, 0, 0, 0, 0)).2.2.1
def rD (k : Nat) : Int := (tabK.getD k (0, 0, 0, 0, 0)).2.2.2.1
def rE (k : Nat) : Int := (tabK.getD k (0, 0, 0, 0, 0)).2.2.2.2
def aggK : Array Value := #[.int .i64 45, .int .i64 45, .int .i64 3, .int .i64 0, .int .i64 0, .int .i64 48, .int .i64 57, .int .i64 2, .int .i64 0, .int .i64 0, .int .i64 97, .int .i64 122, .int .i64 1, .int .i64 1, .int .i64 0, .int .i64 183, .int .i64 183, .int .i64 5, .int .i64 0, .int .i64 0, .int .i64 223, .int .i64 246, .int .i64 1, .int .i64 1, .int .i64 0, .int .i64 248, .int .i64 255, .int .i64 1, .int .i64 1, .int .i64 0, .int .i64 768, .int .i64 831, .int .i64 4, .int .i64 0, .int .i64 3, .int .i64 834, .int .i64 834, .int .i64 4, .int .i64 0, .int .i64 3, .int .i64 837, .int .i64 846, .int .i64 4, .int .i64 0, .int .i64 3, .int .i64 848, .int .i64 879, .int .i64 4, .int .i64 0, .int .i64 3, .int .i64 885, .int .i64 885, .int .i64 5, .int .i64 2, .int .i64 0, .int .i64 940, .int .i64 974, .int .i64 1, .int .i64 2, .int .i64 0, .int .i64 1488, .int .i64 1514, .int .i64 1, .int .i64 3, .int .i64 0, .int .i64 1523, .int .i64 1524, .int .i64 5, .int .i64 3, .int .i64 0, .int .i64 1575, .int .i64 1575, .int .i64 1, .int .i64 4, .int .i64 1, .int .i64 1576, .int .i64 1576, .int .i64 1, .int .i64 4, .int .i64 2, .int .i64 1577, .int .i64 1577, .int .i64 1, .int .i64 4, .int .i64 1, .int .i64 1578, .int .i64 1582, .int .i64 1, .int .i64 4, .int .i64 2, .int .i64 1583, .int .i64 1586, .int .i64 1, .int .i64 4, .int .i64 1, .int .i64 1587, .int .i64 1594, .int .i64 1, .int .i64 4, .int .i64 2, .int .i64 1601, .int .i64 1607, .int .i64 1, .int .i64 4, .int .i64 2, .int .i64 1608, .int .i64 1608, .int .i64 1, .int .i64 4, .int .i64 1, .int .i64 1609, .int .i64 1610, .int .i64 1, .int .i64 4, .int .i64 2, .int .i64 1611, .int .i64 1618, .int .i64 4, .int .i64 0, .int .i64 3, .int .i64 1632, .int .i64 1641, .int .i64 5, .int .i64 0, .int .i64 0, .int .i64 1776, .int .i64 1785, .int .i64 5, .int .i64 0, .int .i64 0, .int .i64 2309, .int .i64 2361, .int .i64 1, .int .i64 5, .int .i64 0, .int .i64 2381, .int .i64 2381, .int .i64 4, .int .i64 0, .int .i64 3, .int .i64 8204, .int .i64 8205, .int .i64 5, .int .i64 0, .int .i64 0, .int .i64 12353, .int .i64 12438, .int .i64 1, .int .i64 6, .int .i64 0, .int .i64 12449, .int .i64 12538, .int .i64 1, .int .i64 7, .int .i64 0, .int .i64 12539, .int .i64 12539, .int .i64 5, .int .i64 0, .int .i64 0, .int .i64 19968, .int .i64 40959, .int .i64 1, .int .i64 8, .int .i64 0]
theorem cellsK : ∀ k : Nat, k < 33 → aggK[k * 5]? = some (.int .i64 (rA k)) ∧ aggK[k * 5 + 1]? = some (.int .i64 (rB k)) ∧ aggK[k * 5 + 2]? = some (.int .i64 (rC k)) ∧ aggK[k * 5 + 3]? = some (.int .i64 (rD k)) ∧ aggK[k * 5 + 4]? = some (.int .i64 (rE k))
  | 0, _ => ⟨by kernel_rfl, by kernel_rfl, by kernel_rfl, by kernel_rfl, by kernel_rfl⟩
  | 1, _ => ⟨by kernel_rfl, by kernel_rfl, by kernel_rfl, by kernel_rfl, by kernel_rfl⟩
  | 2, _ => ⟨by kernel_rfl, by kernel_rfl, by kernel_rfl, by kernel_rfl, by kernel_rfl⟩
  | 3, _ => ⟨by kernel_rfl, by kernel_rfl, by kernel_rfl, by kernel_rfl, by kernel_rfl⟩
  | 4, _ => ⟨by kernel_rfl, by kernel_rfl, by kernel_rfl, by kernel_rfl, by kernel_rfl⟩
  | 5, _ => ⟨by kernel_rfl, by kernel_rfl, by kernel_rfl, by kernel_rfl, by kernel_rfl⟩
  | 6, _ => ⟨by kernel_rfl, by kernel_rfl, by kernel_rfl, by kernel_rfl, by kernel_rfl⟩
  | 7, _ => ⟨by kernel_rfl, by kernel_rfl, by kernel_rfl, by kernel_rfl, by kernel_rfl⟩
  | 8, _ => ⟨by kernel_rfl, by kernel_rfl, by kernel_rfl, by kernel_rfl, by kernel_rfl⟩
  | 9, _ => ⟨by kernel_rfl, by kernel_rfl, by kernel_rfl, by kernel_rfl, by kernel_rfl⟩
  | 10, _ => ⟨by kernel_rfl, by kernel_rfl, by kernel_rfl, by kernel_rfl, by kernel_rfl⟩
  | 11, _ => ⟨by kernel_rfl, by kernel_rfl, by kernel_rfl, by kernel_rfl, by kernel_rfl⟩
  | 12, _ => ⟨by kernel_rfl, by kernel_rfl, by kernel_rfl, by kernel_rfl, by kernel_rfl⟩
  | 13, _ => ⟨by kernel_rfl, by kernel_rfl, by kernel_rfl, by kernel_rfl, by kernel_rfl⟩
  | 14, _ => ⟨by kernel_rfl, by kernel_rfl, by kernel_rfl, by kernel_rfl, by kernel_rfl⟩
  | 15, _ => ⟨by kernel_rfl, by kernel_rfl, by kernel_rfl, by kernel_rfl, by kernel_rfl⟩
  | 16, _ => ⟨by kernel_rfl, by kernel_rfl, by kernel_rfl, by kernel_rfl, by kernel_rfl⟩
  | 17, _ => ⟨by kernel_rfl, by kernel_rfl, by kernel_rfl, by kernel_rfl, by kernel_rfl⟩
  | 18, _ => ⟨by kernel_rfl, by kernel_rfl, by kernel_rfl, by kernel_rfl, by kernel_rfl⟩
  | 19, _ => ⟨by kernel_rfl, by kernel_rfl, by kernel_rfl, by kernel_rfl, by kernel_rfl⟩
  | 20, _ => ⟨by kernel_rfl, by kernel_rfl, by kernel_rfl, by kernel_rfl, by kernel_rfl⟩
  | 21, _ => ⟨by kernel_rfl, by kernel_rfl, by kernel_rfl, by kernel_rfl, by kernel_rfl⟩
  | 22, _ => ⟨by kernel_rfl, by kernel_rfl, by kernel_rfl, by kernel_rfl, by kernel_rfl⟩
  | 23, _ => ⟨by kernel_rfl, by kernel_rfl, by kernel_rfl, by kernel_rfl, by kernel_rfl⟩
  | 24, _ => ⟨by kernel_rfl, by kernel_rfl, by kernel_rfl, by kernel_rfl, by kernel_rfl⟩
  | 25, _ => ⟨by kernel_rfl, by kernel_rfl, by kernel_rfl, by kernel_rfl, by kernel_rfl⟩
  | 26, _ => ⟨by kernel_rfl, by kernel_rfl, by kernel_rfl, by kernel_rfl, by kernel_rfl⟩
  | 27, _ => ⟨by kernel_rfl, by kernel_rfl, by kernel_rfl, by kernel_rfl, by kernel_rfl⟩
  | 28, _ => ⟨by kernel_rfl, by kernel_rfl, by kernel_rfl, by kernel_rfl, by kernel_rfl⟩
  | 29, _ => ⟨by kernel_rfl, by kernel_rfl, by kernel_rfl, by kernel_rfl, by kernel_rfl⟩
  | 30, _ => ⟨by kernel_rfl, by kernel_rfl, by kernel_rfl, by kernel_rfl, by kernel_rfl⟩
  | 31, _ => ⟨by kernel_rfl, by kernel_rfl, by kernel_rfl, by kernel_rfl, by kernel_rfl⟩
  | 32, _ => ⟨by kernel_rfl, by kernel_rfl, by kernel_rfl, by kernel_rfl, by kernel_rfl⟩
  | k + 33, h => absurd h (by omega)
theorem rB_up : ∀ a b : Fin 33, a ≤ b → rB a ≤ rB b := by decide +kernel
/-- How many rows end ahead of n. -/
def idxK (n : Int) : Nat := (List.range 33).countP (fun i => !decide (n ≤ rB i))
theorem idxK_le (n : Int) : idxK n ≤ 33 := by
  unfold idxK
  have := List.countP_le_length (p := fun i => !decide (n ≤ rB i)) (l := List.range 33)
  simpa using this

end Go.Proofs.YtgkepdjgopoljaaDoor
