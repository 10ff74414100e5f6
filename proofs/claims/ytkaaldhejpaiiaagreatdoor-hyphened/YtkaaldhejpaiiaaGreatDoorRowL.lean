/- The walks of the document's row and Kind. -/
import Derived.Test.YtkaaldhejpaiiaaGreatDoorRowW
namespace Go.Proofs.YtkaaldhejpaiiaaGreatDoor
open Go.RowKit

/-- Side, script and joining of each row. -/
def strs : List (ByteArray × ByteArray × ByteArray) := [({ data := #[69, 83] }, { data := #[] }, { data := #[] }), ({ data := #[69, 78] }, { data := #[] }, { data := #[] }), ({ data := #[76] }, { data := #[76, 97, 116, 105, 110] }, { data := #[] }), ({ data := #[76] }, { data := #[76, 97, 116, 105, 110] }, { data := #[] }), ({ data := #[76] }, { data := #[76, 97, 116, 105, 110] }, { data := #[] }), ({ data := #[] }, { data := #[] }, { data := #[] }), ({ data := #[78, 83, 77] }, { data := #[] }, { data := #[84] }), ({ data := #[78, 83, 77] }, { data := #[] }, { data := #[84] }), ({ data := #[78, 83, 77] }, { data := #[] }, { data := #[84] }), ({ data := #[78, 83, 77] }, { data := #[] }, { data := #[84] }), ({ data := #[] }, { data := #[71, 114, 101, 101, 107] }, { data := #[] }), ({ data := #[76] }, { data := #[71, 114, 101, 101, 107] }, { data := #[] }), ({ data := #[82] }, { data := #[72, 101, 98, 114, 101, 119] }, { data := #[] }), ({ data := #[82] }, { data := #[72, 101, 98, 114, 101, 119] }, { data := #[] }), ({ data := #[65, 76] }, { data := #[65, 114, 97, 98, 105, 99] }, { data := #[82] }), ({ data := #[65, 76] }, { data := #[65, 114, 97, 98, 105, 99] }, { data := #[82] }), ({ data := #[65, 76] }, { data := #[65, 114, 97, 98, 105, 99] }, { data := #[82] }), ({ data := #[65, 76] }, { data := #[65, 114, 97, 98, 105, 99] }, { data := #[68] }), ({ data := #[65, 76] }, { data := #[65, 114, 97, 98, 105, 99] }, { data := #[68] }), ({ data := #[65, 76] }, { data := #[65, 114, 97, 98, 105, 99] }, { data := #[68] }), ({ data := #[65, 76] }, { data := #[65, 114, 97, 98, 105, 99] }, { data := #[68] }), ({ data := #[65, 76] }, { data := #[65, 114, 97, 98, 105, 99] }, { data := #[68] }), ({ data := #[65, 76] }, { data := #[65, 114, 97, 98, 105, 99] }, { data := #[82] }), ({ data := #[78, 83, 77] }, { data := #[] }, { data := #[84] }), ({ data := #[65, 78] }, { data := #[] }, { data := #[] }), ({ data := #[69, 78] }, { data := #[] }, { data := #[] }), ({ data := #[76] }, { data := #[68, 101, 118, 97, 110, 97, 103, 97, 114, 105] }, { data := #[] }), ({ data := #[78, 83, 77] }, { data := #[] }, { data := #[84] }), ({ data := #[] }, { data := #[] }, { data := #[] }), ({ data := #[76] }, { data := #[72, 105, 114, 97, 103, 97, 110, 97] }, { data := #[] }), ({ data := #[76] }, { data := #[75, 97, 116, 97, 107, 97, 110, 97] }, { data := #[] }), ({ data := #[] }, { data := #[] }, { data := #[] }), ({ data := #[76] }, { data := #[72, 97, 110] }, { data := #[] })]
def rowS (k : Nat) : ByteArray := (strs.getD k (.empty, .empty, .empty)).1
def rowT (k : Nat) : ByteArray := (strs.getD k (.empty, .empty, .empty)).2.1
def rowJ (k : Nat) : ByteArray := (strs.getD k (.empty, .empty, .empty)).2.2

theorem cells_row : ∀ k : Nat, k < 33 → aggR[k * 6]? = some (.int .i64 (Km.rowA Km.ref k)) ∧ aggR[k * 6 + 1]? = some (.int .i64 (Km.rowB Km.ref k)) ∧ aggR[k * 6 + 2]? = some (.int .i64 (Km.rowC Km.ref k)) ∧
    aggR[k * 6 + 3]? = some (.string (rowS k)) ∧ aggR[k * 6 + 4]? = some (.string (rowT k)) ∧ aggR[k * 6 + 5]? = some (.string (rowJ k))
  | 0, _ => ⟨by kernel_rfl, by kernel_rfl, by kernel_rfl, by kernel_rfl, by kernel_rfl, by kernel_rfl⟩
  | 1, _ => ⟨by kernel_rfl, by kernel_rfl, by kernel_rfl, by kernel_rfl, by kernel_rfl, by kernel_rfl⟩
  | 2, _ => ⟨by kernel_rfl, by kernel_rfl, by kernel_rfl, by kernel_rfl, by kernel_rfl, by kernel_rfl⟩
  | 3, _ => ⟨by kernel_rfl, by kernel_rfl, by kernel_rfl, by kernel_rfl, by kernel_rfl, by kernel_rfl⟩
  | 4, _ => ⟨by kernel_rfl, by kernel_rfl, by kernel_rfl, by kernel_rfl, by kernel_rfl, by kernel_rfl⟩
  | 5, _ => ⟨by kernel_rfl, by kernel_rfl, by kernel_rfl, by kernel_rfl, by kernel_rfl, by kernel_rfl⟩
  | 6, _ => ⟨by kernel_rfl, by kernel_rfl, by kernel_rfl, by kernel_rfl, by kernel_rfl, by kernel_rfl⟩
  | 7, _ => ⟨by kernel_rfl, by kernel_rfl, by kernel_rfl, by kernel_rfl, by kernel_rfl, by kernel_rfl⟩
  | 8, _ => ⟨by kernel_rfl, by kernel_rfl, by kernel_rfl, by kernel_rfl, by kernel_rfl, by kernel_rfl⟩
  | 9, _ => ⟨by kernel_rfl, by kernel_rfl, by kernel_rfl, by kernel_rfl, by kernel_rfl, by kernel_rfl⟩
  | 10, _ => ⟨by kernel_rfl, by kernel_rfl, by kernel_rfl, by kernel_rfl, by kernel_rfl, by kernel_rfl⟩
  | 11, _ => ⟨by kernel_rfl, by kernel_rfl, by kernel_rfl, by kernel_rfl, by kernel_rfl, by kernel_rfl⟩
  | 12, _ => ⟨by kernel_rfl, by kernel_rfl, by kernel_rfl, by kernel_rfl, by kernel_rfl, by kernel_rfl⟩
  | 13, _ => ⟨by kernel_rfl, by kernel_rfl, by kernel_rfl, by kernel_rfl, by kernel_rfl, by kernel_rfl⟩
  | 14, _ => ⟨by kernel_rfl, by kernel_rfl, by kernel_rfl, by kernel_rfl, by kernel_rfl, by kernel_rfl⟩
  | 15, _ => ⟨by kernel_rfl, by kernel_rfl, by kernel_rfl, by kernel_rfl, by kernel_rfl, by kernel_rfl⟩
  | 16, _ => ⟨by kernel_rfl, by kernel_rfl, by kernel_rfl, by kernel_rfl, by kernel_rfl, by kernel_rfl⟩
  | 17, _ => ⟨by kernel_rfl, by kernel_rfl, by kernel_rfl, by kernel_rfl, by kernel_rfl, by kernel_rfl⟩
  | 18, _ => ⟨by kernel_rfl, by kernel_rfl, by kernel_rfl, by kernel_rfl, by kernel_rfl, by kernel_rfl⟩
  | 19, _ => ⟨by kernel_rfl, by kernel_rfl, by kernel_rfl, by kernel_rfl, by kernel_rfl, by kernel_rfl⟩
  | 20, _ => ⟨by kernel_rfl, by kernel_rfl, by kernel_rfl, by kernel_rfl, by kernel_rfl, by kernel_rfl⟩
  | 21, _ => ⟨by kernel_rfl, by kernel_rfl, by kernel_rfl, by kernel_rfl, by kernel_rfl, by kernel_rfl⟩
  | 22, _ => ⟨by kernel_rfl, by kernel_rfl, by kernel_rfl, by kernel_rfl, by kernel_rfl, by kernel_rfl⟩
  | 23, _ => ⟨by kernel_rfl, by kernel_rfl, by kernel_rfl, by kernel_rfl, by kernel_rfl, by kernel_rfl⟩
  | 24, _ => ⟨by kernel_rfl, by kernel_rfl, by kernel_rfl, by kernel_rfl, by kernel_rfl, by kernel_rfl⟩
  | 25, _ => ⟨by kernel_rfl, by kernel_rfl, by kernel_rfl, by kernel_rfl, by kernel_rfl, by kernel_rfl⟩
  | 26, _ => ⟨by kernel_rfl, by kernel_rfl, by kernel_rfl, by kernel_rfl, by kernel_rfl, by kernel_rfl⟩
  | 27, _ => ⟨by kernel_rfl, by kernel_rfl, by kernel_rfl, by kernel_rfl, by kernel_rfl, by kernel_rfl⟩
  | 28, _ => ⟨by kernel_rfl, by kernel_rfl, by kernel_rfl, by kernel_rfl, by kernel_rfl, by kernel_rfl⟩
  | 29, _ => ⟨by kernel_rfl, by kernel_rfl, by kernel_rfl, by kernel_rfl, by kernel_rfl, by kernel_rfl⟩
  | 30, _ => ⟨by kernel_rfl, by kernel_rfl, by kernel_rfl, by kernel_rfl, by kernel_rfl, by kernel_rfl⟩
  | 31, _ => ⟨by kernel_rfl, by kernel_rfl, by kernel_rfl, by kernel_rfl, by kernel_rfl, by kernel_rfl⟩
  | 32, _ => ⟨by kernel_rfl, by kernel_rfl, by kernel_rfl, by kernel_rfl, by kernel_rfl, by kernel_rfl⟩
  | k + 33, h => absurd h (by omega)

/-- The document's row of a number. -/
def rowV (n : Int) : Value := .agg #[.int .i64 (Km.rowA Km.ref (Km.idx Km.ref n)), .int .i64 (Km.rowB Km.ref (Km.idx Km.ref n)), .int .i64 (Km.rowC Km.ref (Km.idx Km.ref n)), .string (rowS (Km.idx Km.ref n)), .string (rowT (Km.idx Km.ref n)), .string (rowJ (Km.idx Km.ref n))]
set_option maxRecDepth 100000 in
set_option maxHeartbeats 1000000 in
theorem row_any (n : Int) (w : World) :
    Calls Tryz.prog 51 #[.int .i64 n] w fun e w' => e = .returned (rowV n) ∧ Below w.heap.size w w' := by
  go_enter Tryz.func51, Tryz.ntmps51
  go_wp2_with (go_at_call 85; refine (table_any _).mono ?_; rintro e w' ⟨rfl, rfl⟩)
  go_loop [4] (fun i => ∃ k : Nat, k ≤ 33 ∧ i = .int .i64 k ∧ (∀ j, j < k → ¬ (Km.rowA Km.ref j ≤ n ∧ n ≤ Km.rowB Km.ref j))) (fun i => 33 - (intOf i).toNat)
  case atStart => exact ⟨0, by omega, rfl, fun j hj => absurd hj (by omega)⟩
  case round =>
    obtain ⟨k, hk, rfl, hno⟩ := hrel
    have HN : Hid (∀ j, j < k → ¬ (Km.rowA Km.ref j ≤ n ∧ n ≤ Km.rowB Km.ref j)) := hno
    clear hno
    by_cases hlt : k < 33
    · obtain ⟨c0, c1, c2, c3, c4, c5⟩ := cells_row k hlt
      by_cases h1 : Km.rowA Km.ref k ≤ n
      · by_cases h2 : n ≤ Km.rowB Km.ref k
        · go_wp2
          refine bodyPost_ret (v := .agg #[.int .i64 (Km.rowA Km.ref k), .int .i64 (Km.rowB Km.ref k), .int .i64 (Km.rowC Km.ref k), .string (rowS k), .string (rowT k), .string (rowJ k)]) (by simp [results, Tryz.results51, go_sem]) rfl ⟨by rw [rowV, Km.idx_hit n Km.ref k hlt HN.out ⟨h1, h2⟩], ?_⟩
          exact ((Below.refl _ _).alloc (Nat.le_refl _) _).alloc (by simp) _
        · go_wp2
          go_round
          case rel => exact ⟨k + 1, by omega, by go_num, fun j hj => by
            rcases Nat.lt_succ_iff_lt_or_eq.1 hj with h | rfl
            · exact HN.out j h
            · exact fun h => h2 h.2⟩
          case measure => simp [intOf]; omega
      · go_wp2
        go_round
        case rel => exact ⟨k + 1, by omega, by go_num, fun j hj => by
            rcases Nat.lt_succ_iff_lt_or_eq.1 hj with h | rfl
            · exact HN.out j h
            · exact fun h => h1 h.1⟩
        case measure => simp [intOf]; omega
    · go_wp2
      refine bodyPost_ret (v := .agg #[.int .i64 0, .int .i64 0, .int .i64 0, .string { data := #[] }, .string { data := #[] }, .string { data := #[] }]) (by simp [results, Tryz.results51, go_sem]) rfl ⟨by rw [rowV, Km.idx_miss n Km.ref (fun j hj => HN.out j (by have h33 : j < 33 := hj; omega))]; rfl, ?_⟩
      exact ((Below.refl _ _).alloc (Nat.le_refl _) _).alloc (by simp) _

set_option maxHeartbeats 400000 in
theorem refKind_any (n : Int) (w : World) : Calls Tryz.prog 70 #[.int .i64 n] w fun e w' => e = .returned (.int .i64 (Km.look Km.ref n)) ∧ Below w.heap.size w w' := by
  rw [Km.look_idx]
  go_enter Tryz.func70, Tryz.ntmps70
  go_wp2_with (go_at_call 51; refine (row_any _ _).mono ?_; rintro e w' ⟨rfl, hb⟩; simp only [rowV])
  go_ret
  exact ⟨rfl, hb.alloc hb.size _⟩
end Go.Proofs.YtkaaldhejpaiiaaGreatDoor
