/- The project's table, and what its search comes to. No walk in this text. -/
import Derived.WalkKit
namespace Go.Proofs.YtkaaldhejpaiiaaGreatDoor
open Go

def tabK : List (Int × Int × Int × Int × Int × Int) := [(45, 45, 3, 6, 0, 0), (48, 57, 2, 4, 0, 0), (97, 122, 1, 1, 1, 0), (183, 183, 5, 0, 0, 0), (223, 246, 1, 1, 1, 0), (248, 255, 1, 1, 1, 0), (768, 831, 4, 7, 0, 3), (834, 834, 4, 7, 0, 3), (837, 846, 4, 7, 0, 3), (848, 879, 4, 7, 0, 3), (885, 885, 5, 0, 2, 0), (940, 974, 1, 1, 2, 0), (1488, 1514, 1, 2, 3, 0), (1523, 1524, 5, 2, 3, 0), (1575, 1575, 1, 3, 4, 1), (1576, 1576, 1, 3, 4, 2), (1577, 1577, 1, 3, 4, 1), (1578, 1582, 1, 3, 4, 2), (1583, 1586, 1, 3, 4, 1), (1587, 1594, 1, 3, 4, 2), (1601, 1607, 1, 3, 4, 2), (1608, 1608, 1, 3, 4, 1), (1609, 1610, 1, 3, 4, 2), (1611, 1618, 4, 7, 0, 3), (1632, 1641, 5, 5, 0, 0), (1776, 1785, 5, 4, 0, 0), (2309, 2361, 1, 1, 5, 0), (2381, 2381, 4, 7, 0, 3), (8204, 8205, 5, 0, 0, 0), (12353, 12438, 1, 1, 6, 0), (12449, 12538, 1, 1, 7, 0), (12539, 12539, 5, 0, 0, 0), (19968, 40959, 1, 1, 8, 0)]
def rA (k : Nat) : Int := (tabK.getD k (0, 0, 0, 0, 0, 0)).1
def rB (k : Nat) : Int := (tabK.getD k (0, 0, 0, 0, 0, 0)).2.1
def rC (k : Nat) : Int := (tabK.getD k (0, 0, 0, 0, 0, 0)).2.2.1
def rS (k : Nat) : Int := (tabK.getD k (0, 0, 0, 0, 0, 0)).2.2.2.1
def rD (k : Nat) : Int := (tabK.getD k (0, 0, 0, 0, 0, 0)).2.2.2.2.1
def rE (k : Nat) : Int := (tabK.getD k (0, 0, 0, 0, 0, 0)).2.2.2.2.2
def aggK : Array Value := #[.int .i32 45, .int .i32 45, .int .u8 3, .int .u8 6, .int .u8 0, .int .u8 0, .int .i32 48, .int .i32 57, .int .u8 2, .int .u8 4, .int .u8 0, .int .u8 0, .int .i32 97, .int .i32 122, .int .u8 1, .int .u8 1, .int .u8 1, .int .u8 0, .int .i32 183, .int .i32 183, .int .u8 5, .int .u8 0, .int .u8 0, .int .u8 0, .int .i32 223, .int .i32 246, .int .u8 1, .int .u8 1, .int .u8 1, .int .u8 0, .int .i32 248, .int .i32 255, .int .u8 1, .int .u8 1, .int .u8 1, .int .u8 0, .int .i32 768, .int .i32 831, .int .u8 4, .int .u8 7, .int .u8 0, .int .u8 3, .int .i32 834, .int .i32 834, .int .u8 4, .int .u8 7, .int .u8 0, .int .u8 3, .int .i32 837, .int .i32 846, .int .u8 4, .int .u8 7, .int .u8 0, .int .u8 3, .int .i32 848, .int .i32 879, .int .u8 4, .int .u8 7, .int .u8 0, .int .u8 3, .int .i32 885, .int .i32 885, .int .u8 5, .int .u8 0, .int .u8 2, .int .u8 0, .int .i32 940, .int .i32 974, .int .u8 1, .int .u8 1, .int .u8 2, .int .u8 0, .int .i32 1488, .int .i32 1514, .int .u8 1, .int .u8 2, .int .u8 3, .int .u8 0, .int .i32 1523, .int .i32 1524, .int .u8 5, .int .u8 2, .int .u8 3, .int .u8 0, .int .i32 1575, .int .i32 1575, .int .u8 1, .int .u8 3, .int .u8 4, .int .u8 1, .int .i32 1576, .int .i32 1576, .int .u8 1, .int .u8 3, .int .u8 4, .int .u8 2, .int .i32 1577, .int .i32 1577, .int .u8 1, .int .u8 3, .int .u8 4, .int .u8 1, .int .i32 1578, .int .i32 1582, .int .u8 1, .int .u8 3, .int .u8 4, .int .u8 2, .int .i32 1583, .int .i32 1586, .int .u8 1, .int .u8 3, .int .u8 4, .int .u8 1, .int .i32 1587, .int .i32 1594, .int .u8 1, .int .u8 3, .int .u8 4, .int .u8 2, .int .i32 1601, .int .i32 1607, .int .u8 1, .int .u8 3, .int .u8 4, .int .u8 2, .int .i32 1608, .int .i32 1608, .int .u8 1, .int .u8 3, .int .u8 4, .int .u8 1, .int .i32 1609, .int .i32 1610, .int .u8 1, .int .u8 3, .int .u8 4, .int .u8 2, .int .i32 1611, .int .i32 1618, .int .u8 4, .int .u8 7, .int .u8 0, .int .u8 3, .int .i32 1632, .int .i32 1641, .int .u8 5, .int .u8 5, .int .u8 0, .int .u8 0, .int .i32 1776, .int .i32 1785, .int .u8 5, .int .u8 4, .int .u8 0, .int .u8 0, .int .i32 2309, .int .i32 2361, .int .u8 1, .int .u8 1, .int .u8 5, .int .u8 0, .int .i32 2381, .int .i32 2381, .int .u8 4, .int .u8 7, .int .u8 0, .int .u8 3, .int .i32 8204, .int .i32 8205, .int .u8 5, .int .u8 0, .int .u8 0, .int .u8 0, .int .i32 12353, .int .i32 12438, .int .u8 1, .int .u8 1, .int .u8 6, .int .u8 0, .int .i32 12449, .int .i32 12538, .int .u8 1, .int .u8 1, .int .u8 7, .int .u8 0, .int .i32 12539, .int .i32 12539, .int .u8 5, .int .u8 0, .int .u8 0, .int .u8 0, .int .i32 19968, .int .i32 40959, .int .u8 1, .int .u8 1, .int .u8 8, .int .u8 0]
theorem cellsK : ∀ k : Nat, k < 33 → aggK[k * 6]? = some (.int .i32 (rA k)) ∧ aggK[k * 6 + 1]? = some (.int .i32 (rB k)) ∧ aggK[k * 6 + 2]? = some (.int .u8 (rC k)) ∧ aggK[k * 6 + 3]? = some (.int .u8 (rS k)) ∧ aggK[k * 6 + 4]? = some (.int .u8 (rD k)) ∧ aggK[k * 6 + 5]? = some (.int .u8 (rE k))
  | 0, _ => ⟨by kernel_rfl, by kernel_rfl, by kernel_rfl, by kernel_rfl, by kernel_rfl, by kernel_rfl⟩
  | 1, _ => ⟨by kernel_rfl, by kernel_rfl, by kernel_rfl, by kernel_rfl, by kernel_rfl, by kernel_rfl⟩
  | 2, _ => ⟨by kernel_rfl, by kernel_rfl, by kernel_rfl, by kernel_rfl, by kernel_rfl, by kernel_rfl⟩
  | 3, _ => ⟨by kernel_rfl, by kernel_rfl, by kernel_rfl, by kernel_rfl, by kernel_rfl, by kernel_rfl⟩
  | 4, _ => ⟨by kernel_rfl, by kernel_rfl, by kernel_rfl, by kernel_rfl, by kernel_rfl, by kernel_rfl⟩
  | 5, _ => ⟨by kernel_rfl, by kernel_rfl, by kernel_rfl, by kernel_rfl, by kernel_rfl, by kernel_rfl⟩
  | 6, _ => ⟨by kernel_rfl, by kernel_rfl, by kernel_rfl, by kernel_rfl, by kernel_rfl, by kernel_rfl⟩
  | 7, _ => ⟨by kernel_rfl, by kernel_rfl, by kernel_rfl, by kernel_rfl, by kernel_rfl, by kernel_rfl⟩
  | 8, _ => ⟨by kernel_rfl, by kernel_rfl, by kernel_rfl, by kernel_rfl, by kernel_rfl, by kernel_rfl⟩
  | 9, _ => ⟨by kernel_rfl, by kernel_rfl, by kernel_rfl, by kernel_rfl, by kernel_rfl, by kernel_rfl⟩
  | 10, _ => ⟨by kernel_rfl, by kernel_rfl, by kernel_rfl, by kernel_rfl, by kernel_rfl, by kernel_rfl⟩
  | 11, _ => ⟨by kernel_rfl, by kernel_rfl, by kernel_rfl, by kernel_rfl, by kernel_rfl, by kernel_rfl⟩
  | 12, _ => ⟨by kernel_rfl, by kernel_rfl, by kernel_rfl, by kernel_rfl, by kernel_rfl, by kernel_rfl⟩
  | 13, _ => ⟨by kernel_rfl, by kernel_rfl, by kernel_rfl, by kernel_rfl, by kernel_rfl, by kernel_rfl⟩
  | 14, _ => ⟨by kernel_rfl, by kernel_rfl, by kernel_rfl, by kernel_rfl, by kernel_rfl, by kernel_rfl⟩
  | 15, _ => ⟨by kernel_rfl, by kernel_rfl, by kernel_rfl, by kernel_rfl, by kernel_rfl, by kernel_rfl⟩
  | 16, _ => ⟨by kernel_rfl, by kernel_rfl, by kernel_rfl, by kernel_rfl, by kernel_rfl, by kernel_rfl⟩
  | 17, _ => ⟨by kernel_rfl, by kernel_rfl, by kernel_rfl, by kernel_rfl, by kernel_rfl, by kernel_rfl⟩
  | 18, _ => ⟨by kernel_rfl, by kernel_rfl, by kernel_rfl, by kernel_rfl, by kernel_rfl, by kernel_rfl⟩
  | 19, _ => ⟨by kernel_rfl, by kernel_rfl, by kernel_rfl, by kernel_rfl, by kernel_rfl, by kernel_rfl⟩
  | 20, _ => ⟨by kernel_rfl, by kernel_rfl, by kernel_rfl, by kernel_rfl, by kernel_rfl, by kernel_rfl⟩
  | 21, _ => ⟨by kernel_rfl, by kernel_rfl, by kernel_rfl, by kernel_rfl, by kernel_rfl, by kernel_rfl⟩
  | 22, _ => ⟨by kernel_rfl, by kernel_rfl, by kernel_rfl, by kernel_rfl, by kernel_rfl, by kernel_rfl⟩
  | 23, _ => ⟨by kernel_rfl, by kernel_rfl, by kernel_rfl, by kernel_rfl, by kernel_rfl, by kernel_rfl⟩
  | 24, _ => ⟨by kernel_rfl, by kernel_rfl, by kernel_rfl, by kernel_rfl, by kernel_rfl, by kernel_rfl⟩
  | 25, _ => ⟨by kernel_rfl, by kernel_rfl, by kernel_rfl, by kernel_rfl, by kernel_rfl, by kernel_rfl⟩
  | 26, _ => ⟨by kernel_rfl, by kernel_rfl, by kernel_rfl, by kernel_rfl, by kernel_rfl, by kernel_rfl⟩
  | 27, _ => ⟨by kernel_rfl, by kernel_rfl, by kernel_rfl, by kernel_rfl, by kernel_rfl, by kernel_rfl⟩
  | 28, _ => ⟨by kernel_rfl, by kernel_rfl, by kernel_rfl, by kernel_rfl, by kernel_rfl, by kernel_rfl⟩
  | 29, _ => ⟨by kernel_rfl, by kernel_rfl, by kernel_rfl, by kernel_rfl, by kernel_rfl, by kernel_rfl⟩
  | 30, _ => ⟨by kernel_rfl, by kernel_rfl, by kernel_rfl, by kernel_rfl, by kernel_rfl, by kernel_rfl⟩
  | 31, _ => ⟨by kernel_rfl, by kernel_rfl, by kernel_rfl, by kernel_rfl, by kernel_rfl, by kernel_rfl⟩
  | 32, _ => ⟨by kernel_rfl, by kernel_rfl, by kernel_rfl, by kernel_rfl, by kernel_rfl, by kernel_rfl⟩
  | k + 33, h => absurd h (by omega)
theorem rB_up : ∀ a b : Fin 33, a ≤ b → rB a ≤ rB b := by decide +kernel
theorem rAB_low : ∀ a : Fin 34, 0 ≤ rA a ∧ rA a ≤ 40959 ∧ 0 ≤ rB a ∧ rB a ≤ 40959 := by decide +kernel
theorem rC_low : ∀ a : Fin 34, 0 ≤ rC a ∧ rC a ≤ 5 ∧ 0 ≤ rS a ∧ rS a ≤ 7 ∧ 0 ≤ rD a ∧ rD a ≤ 8 ∧ 0 ≤ rE a ∧ rE a ≤ 3 := by decide +kernel
/-- How many rows end ahead of n. -/
def idxK (n : Int) : Nat := (List.range 33).countP (fun i => !decide (n ≤ rB i))
theorem idxK_le (n : Int) : idxK n ≤ 33 := by
  unfold idxK
  have := List.countP_le_length (p := fun i => !decide (n ≤ rB i)) (l := List.range 33)
  simpa using this

end Go.Proofs.YtkaaldhejpaiiaaGreatDoor
