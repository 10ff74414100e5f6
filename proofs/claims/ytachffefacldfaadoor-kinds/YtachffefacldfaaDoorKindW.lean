/- The walks of kindOf and Kind: the project's table, loaded whole and gone through. -/
import Derived.Test.YtachffefacldfaaDoorProg
import Derived.Test.YtachffefacldfaaDoorKmath
import Derived.WalkKit
import Derived.WalkLawsBesides
import Derived.Laws.Rows
import Derived.BigQuiet
import Derived.Outline
namespace Go.Proofs.YtachffefacldfaaDoor
open Go.RowKit

def aggK : Array Value := #[.int .i64 45, .int .i64 45, .int .i64 3, .int .i64 48, .int .i64 57, .int .i64 2, .int .i64 97, .int .i64 122, .int .i64 1, .int .i64 183, .int .i64 183, .int .i64 5, .int .i64 223, .int .i64 246, .int .i64 1, .int .i64 248, .int .i64 255, .int .i64 1, .int .i64 768, .int .i64 831, .int .i64 4, .int .i64 834, .int .i64 834, .int .i64 4, .int .i64 837, .int .i64 846, .int .i64 4, .int .i64 848, .int .i64 879, .int .i64 4, .int .i64 885, .int .i64 885, .int .i64 5, .int .i64 940, .int .i64 974, .int .i64 1, .int .i64 1488, .int .i64 1514, .int .i64 1, .int .i64 1523, .int .i64 1524, .int .i64 5, .int .i64 1575, .int .i64 1594, .int .i64 1, .int .i64 1601, .int .i64 1610, .int .i64 1, .int .i64 1611, .int .i64 1618, .int .i64 4, .int .i64 1632, .int .i64 1641, .int .i64 5, .int .i64 1776, .int .i64 1785, .int .i64 5, .int .i64 2309, .int .i64 2361, .int .i64 1, .int .i64 2381, .int .i64 2381, .int .i64 4, .int .i64 8204, .int .i64 8205, .int .i64 5, .int .i64 12353, .int .i64 12438, .int .i64 1, .int .i64 12449, .int .i64 12538, .int .i64 1, .int .i64 12539, .int .i64 12539, .int .i64 5, .int .i64 19968, .int .i64 40959, .int .i64 1]
theorem index_tab (w : World) : ∀ k : Nat, k < 26 → (Instr.index 83 (.agg aggK) (.int .i64 k)).run Tryd.prog w = .ok (.agg #[.int .i64 (Km.rowA Km.tab k), .int .i64 (Km.rowB Km.tab k), .int .i64 (Km.rowC Km.tab k)]) w
  | 0, _ => by kernel_rfl
  | 1, _ => by kernel_rfl
  | 2, _ => by kernel_rfl
  | 3, _ => by kernel_rfl
  | 4, _ => by kernel_rfl
  | 5, _ => by kernel_rfl
  | 6, _ => by kernel_rfl
  | 7, _ => by kernel_rfl
  | 8, _ => by kernel_rfl
  | 9, _ => by kernel_rfl
  | 10, _ => by kernel_rfl
  | 11, _ => by kernel_rfl
  | 12, _ => by kernel_rfl
  | 13, _ => by kernel_rfl
  | 14, _ => by kernel_rfl
  | 15, _ => by kernel_rfl
  | 16, _ => by kernel_rfl
  | 17, _ => by kernel_rfl
  | 18, _ => by kernel_rfl
  | 19, _ => by kernel_rfl
  | 20, _ => by kernel_rfl
  | 21, _ => by kernel_rfl
  | 22, _ => by kernel_rfl
  | 23, _ => by kernel_rfl
  | 24, _ => by kernel_rfl
  | 25, _ => by kernel_rfl
  | k + 26, h => absurd h (by omega)

set_option maxRecDepth 100000 in
set_option maxHeartbeats 1000000 in
theorem kindOf_any (n : Int) (w : World) (tt : TypeId) (fr : Nat × Nat) (hg : w.heap[2]? = some (.cells aggK tt fr)) :
    Calls Tryd.prog 28 #[.int .i64 n] w fun e w' => e = .returned (.int .i64 (Km.look Km.tab n)) ∧ Below w.heap.size w w' := by
  go_enter Tryd.func28, Tryd.ntmps28
  go_wp2_with (refine wpList_load_row rfl 83 _ rfl 2 rfl tt _ fr _ hg Tryd.underlying83 rfl (by kernel_rfl) ?_)
  go_loopw [6] (fun i wr => ∃ k : Nat, k ≤ 26 ∧ i = .int .i64 k ∧ (∀ j, j < k → ¬ (Km.rowA Km.tab j ≤ n ∧ n ≤ Km.rowB Km.tab j)) ∧ Below w.heap.size w wr) (fun i _ => 26 - (intOf i).toNat)
  case atStart => exact ⟨0, by omega, rfl, fun j hj => absurd hj (by omega), Below.refl _ _⟩
  case round =>
    obtain ⟨k, hk, rfl, hno, hb⟩ := hrel
    have HN : Hid (∀ j, j < k → ¬ (Km.rowA Km.tab j ≤ n ∧ n ≤ Km.rowB Km.tab j)) := hno
    clear hno
    by_cases hlt : k < 26
    · have hix := index_tab wr k hlt
      by_cases h1 : Km.rowA Km.tab k ≤ n
      · by_cases h2 : n ≤ Km.rowB Km.tab k
        · go_wp2
          go_ret
          exact ⟨by rw [Km.look_hit Km.tab n k hlt HN.out ⟨h1, h2⟩]; rfl, (hb.alloc hb.size _)⟩
        · go_wp2
          go_roundw
          case rel => exact ⟨k + 1, by omega, by go_num, fun j hj => by
            rcases Nat.lt_succ_iff_lt_or_eq.1 hj with h | rfl
            · exact HN.out j h
            · exact fun h => h2 h.2, hb.alloc hb.size _⟩
          case measure => simp [intOf]; omega
      · go_wp2
        go_roundw
        case rel => exact ⟨k + 1, by omega, by go_num, fun j hj => by
            rcases Nat.lt_succ_iff_lt_or_eq.1 hj with h | rfl
            · exact HN.out j h
            · exact fun h => h1 h.1, hb.alloc hb.size _⟩
        case measure => simp [intOf]; omega
    · go_wp2
      go_ret
      exact ⟨by rw [Km.look_miss Km.tab n k (by show 26 ≤ k; omega) HN.out]; rfl, hb⟩

set_option maxHeartbeats 400000 in
theorem kind_any (n : Int) (w : World) (tt : TypeId) (fr : Nat × Nat) (hg : w.heap[2]? = some (.cells aggK tt fr)) :
    Calls Tryd.prog 15 #[.int .i64 n] w fun e w' => e = .returned (.int .i64 (Km.look Km.tab n)) ∧ Below w.heap.size w w' := by
  go_enter Tryd.func15, Tryd.ntmps15
  go_wp2_with (go_at_call 28; refine (kindOf_any _ _ tt fr hg).mono ?_; rintro e w' ⟨rfl, hb⟩)
  go_ret
  exact ⟨rfl, hb⟩
end Go.Proofs.YtachffefacldfaaDoor
