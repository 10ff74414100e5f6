/- The walks of the document's table, row and Kind. -/
import Derived.Test.YtkaaldhejpaiiaaGreatDoorProg
import Derived.Test.YtkaaldhejpaiiaaGreatDoorKmath
import Derived.WalkKit
import Derived.WalkLawsBesides
import Derived.Laws.Rows
import Derived.Test.YtkaaldhejpaiiaaGreatDoorRun
import Derived.BigQuiet
import Derived.Outline
namespace Go.Proofs.YtkaaldhejpaiiaaGreatDoor
open Go.RowKit

def aggR : Array Value := #[.int .i64 45, .int .i64 45, .int .i64 3, .string { data := #[69, 83] }, .string { data := #[] }, .string { data := #[] },
  .int .i64 48, .int .i64 57, .int .i64 2, .string { data := #[69, 78] }, .string { data := #[] }, .string { data := #[] },
  .int .i64 97, .int .i64 122, .int .i64 1, .string { data := #[76] }, .string { data := #[76, 97, 116, 105, 110] }, .string { data := #[] },
  .int .i64 223, .int .i64 246, .int .i64 1, .string { data := #[76] }, .string { data := #[76, 97, 116, 105, 110] }, .string { data := #[] },
  .int .i64 248, .int .i64 255, .int .i64 1, .string { data := #[76] }, .string { data := #[76, 97, 116, 105, 110] }, .string { data := #[] },
  .int .i64 183, .int .i64 183, .int .i64 5, .string { data := #[] }, .string { data := #[] }, .string { data := #[] },
  .int .i64 768, .int .i64 831, .int .i64 4, .string { data := #[78, 83, 77] }, .string { data := #[] }, .string { data := #[84] },
  .int .i64 834, .int .i64 834, .int .i64 4, .string { data := #[78, 83, 77] }, .string { data := #[] }, .string { data := #[84] },
  .int .i64 837, .int .i64 846, .int .i64 4, .string { data := #[78, 83, 77] }, .string { data := #[] }, .string { data := #[84] },
  .int .i64 848, .int .i64 879, .int .i64 4, .string { data := #[78, 83, 77] }, .string { data := #[] }, .string { data := #[84] },
  .int .i64 885, .int .i64 885, .int .i64 5, .string { data := #[] }, .string { data := #[71, 114, 101, 101, 107] }, .string { data := #[] },
  .int .i64 940, .int .i64 974, .int .i64 1, .string { data := #[76] }, .string { data := #[71, 114, 101, 101, 107] }, .string { data := #[] },
  .int .i64 1488, .int .i64 1514, .int .i64 1, .string { data := #[82] }, .string { data := #[72, 101, 98, 114, 101, 119] }, .string { data := #[] },
  .int .i64 1523, .int .i64 1524, .int .i64 5, .string { data := #[82] }, .string { data := #[72, 101, 98, 114, 101, 119] }, .string { data := #[] },
  .int .i64 1575, .int .i64 1575, .int .i64 1, .string { data := #[65, 76] }, .string { data := #[65, 114, 97, 98, 105, 99] }, .string { data := #[82] },
  .int .i64 1583, .int .i64 1586, .int .i64 1, .string { data := #[65, 76] }, .string { data := #[65, 114, 97, 98, 105, 99] }, .string { data := #[82] },
  .int .i64 1608, .int .i64 1608, .int .i64 1, .string { data := #[65, 76] }, .string { data := #[65, 114, 97, 98, 105, 99] }, .string { data := #[82] },
  .int .i64 1576, .int .i64 1576, .int .i64 1, .string { data := #[65, 76] }, .string { data := #[65, 114, 97, 98, 105, 99] }, .string { data := #[68] },
  .int .i64 1578, .int .i64 1582, .int .i64 1, .string { data := #[65, 76] }, .string { data := #[65, 114, 97, 98, 105, 99] }, .string { data := #[68] },
  .int .i64 1587, .int .i64 1594, .int .i64 1, .string { data := #[65, 76] }, .string { data := #[65, 114, 97, 98, 105, 99] }, .string { data := #[68] },
  .int .i64 1601, .int .i64 1607, .int .i64 1, .string { data := #[65, 76] }, .string { data := #[65, 114, 97, 98, 105, 99] }, .string { data := #[68] },
  .int .i64 1609, .int .i64 1610, .int .i64 1, .string { data := #[65, 76] }, .string { data := #[65, 114, 97, 98, 105, 99] }, .string { data := #[68] },
  .int .i64 1577, .int .i64 1577, .int .i64 1, .string { data := #[65, 76] }, .string { data := #[65, 114, 97, 98, 105, 99] }, .string { data := #[82] },
  .int .i64 1611, .int .i64 1618, .int .i64 4, .string { data := #[78, 83, 77] }, .string { data := #[] }, .string { data := #[84] },
  .int .i64 1632, .int .i64 1641, .int .i64 5, .string { data := #[65, 78] }, .string { data := #[] }, .string { data := #[] },
  .int .i64 1776, .int .i64 1785, .int .i64 5, .string { data := #[69, 78] }, .string { data := #[] }, .string { data := #[] },
  .int .i64 2309, .int .i64 2361, .int .i64 1, .string { data := #[76] }, .string { data := #[68, 101, 118, 97, 110, 97, 103, 97, 114, 105] }, .string { data := #[] },
  .int .i64 2381, .int .i64 2381, .int .i64 4, .string { data := #[78, 83, 77] }, .string { data := #[] }, .string { data := #[84] },
  .int .i64 8204, .int .i64 8205, .int .i64 5, .string { data := #[] }, .string { data := #[] }, .string { data := #[] },
  .int .i64 12353, .int .i64 12438, .int .i64 1, .string { data := #[76] }, .string { data := #[72, 105, 114, 97, 103, 97, 110, 97] }, .string { data := #[] },
  .int .i64 12449, .int .i64 12538, .int .i64 1, .string { data := #[76] }, .string { data := #[75, 97, 116, 97, 107, 97, 110, 97] }, .string { data := #[] },
  .int .i64 12539, .int .i64 12539, .int .i64 5, .string { data := #[] }, .string { data := #[] }, .string { data := #[] },
  .int .i64 19968, .int .i64 40959, .int .i64 1, .string { data := #[76] }, .string { data := #[72, 97, 110] }, .string { data := #[] }]
def tableAct (w : World) : Act := ⟨#[.slice (some ⟨w.heap.size, 0, none⟩) 33 33,
  .agg #[.int .i64 45, .int .i64 45, .int .i64 3, .string { data := #[69, 83] }, .string { data := #[] }, .string { data := #[] }],
  .agg #[.int .i64 48, .int .i64 57, .int .i64 2, .string { data := #[69, 78] }, .string { data := #[] }, .string { data := #[] }],
  .agg #[.int .i64 97, .int .i64 122, .int .i64 1, .string { data := #[76] }, .string { data := #[76, 97, 116, 105, 110] }, .string { data := #[] }],
  .agg #[.int .i64 223, .int .i64 246, .int .i64 1, .string { data := #[76] }, .string { data := #[76, 97, 116, 105, 110] }, .string { data := #[] }],
  .agg #[.int .i64 248, .int .i64 255, .int .i64 1, .string { data := #[76] }, .string { data := #[76, 97, 116, 105, 110] }, .string { data := #[] }],
  .agg #[.int .i64 183, .int .i64 183, .int .i64 5, .string { data := #[] }, .string { data := #[] }, .string { data := #[] }],
  .agg #[.int .i64 768, .int .i64 831, .int .i64 4, .string { data := #[78, 83, 77] }, .string { data := #[] }, .string { data := #[84] }],
  .agg #[.int .i64 834, .int .i64 834, .int .i64 4, .string { data := #[78, 83, 77] }, .string { data := #[] }, .string { data := #[84] }],
  .agg #[.int .i64 837, .int .i64 846, .int .i64 4, .string { data := #[78, 83, 77] }, .string { data := #[] }, .string { data := #[84] }],
  .agg #[.int .i64 848, .int .i64 879, .int .i64 4, .string { data := #[78, 83, 77] }, .string { data := #[] }, .string { data := #[84] }],
  .agg #[.int .i64 885, .int .i64 885, .int .i64 5, .string { data := #[] }, .string { data := #[71, 114, 101, 101, 107] }, .string { data := #[] }],
  .agg #[.int .i64 940, .int .i64 974, .int .i64 1, .string { data := #[76] }, .string { data := #[71, 114, 101, 101, 107] }, .string { data := #[] }],
  .agg #[.int .i64 1488, .int .i64 1514, .int .i64 1, .string { data := #[82] }, .string { data := #[72, 101, 98, 114, 101, 119] }, .string { data := #[] }],
  .agg #[.int .i64 1523, .int .i64 1524, .int .i64 5, .string { data := #[82] }, .string { data := #[72, 101, 98, 114, 101, 119] }, .string { data := #[] }],
  .agg #[.int .i64 1575, .int .i64 1575, .int .i64 1, .string { data := #[65, 76] }, .string { data := #[65, 114, 97, 98, 105, 99] }, .string { data := #[82] }],
  .agg #[.int .i64 1583, .int .i64 1586, .int .i64 1, .string { data := #[65, 76] }, .string { data := #[65, 114, 97, 98, 105, 99] }, .string { data := #[82] }],
  .agg #[.int .i64 1608, .int .i64 1608, .int .i64 1, .string { data := #[65, 76] }, .string { data := #[65, 114, 97, 98, 105, 99] }, .string { data := #[82] }],
  .agg #[.int .i64 1576, .int .i64 1576, .int .i64 1, .string { data := #[65, 76] }, .string { data := #[65, 114, 97, 98, 105, 99] }, .string { data := #[68] }],
  .agg #[.int .i64 1578, .int .i64 1582, .int .i64 1, .string { data := #[65, 76] }, .string { data := #[65, 114, 97, 98, 105, 99] }, .string { data := #[68] }],
  .agg #[.int .i64 1587, .int .i64 1594, .int .i64 1, .string { data := #[65, 76] }, .string { data := #[65, 114, 97, 98, 105, 99] }, .string { data := #[68] }],
  .agg #[.int .i64 1601, .int .i64 1607, .int .i64 1, .string { data := #[65, 76] }, .string { data := #[65, 114, 97, 98, 105, 99] }, .string { data := #[68] }],
  .agg #[.int .i64 1609, .int .i64 1610, .int .i64 1, .string { data := #[65, 76] }, .string { data := #[65, 114, 97, 98, 105, 99] }, .string { data := #[68] }],
  .agg #[.int .i64 1577, .int .i64 1577, .int .i64 1, .string { data := #[65, 76] }, .string { data := #[65, 114, 97, 98, 105, 99] }, .string { data := #[82] }],
  .agg #[.int .i64 1611, .int .i64 1618, .int .i64 4, .string { data := #[78, 83, 77] }, .string { data := #[] }, .string { data := #[84] }],
  .agg #[.int .i64 1632, .int .i64 1641, .int .i64 5, .string { data := #[65, 78] }, .string { data := #[] }, .string { data := #[] }],
  .agg #[.int .i64 1776, .int .i64 1785, .int .i64 5, .string { data := #[69, 78] }, .string { data := #[] }, .string { data := #[] }],
  .agg #[.int .i64 2309, .int .i64 2361, .int .i64 1, .string { data := #[76] }, .string { data := #[68, 101, 118, 97, 110, 97, 103, 97, 114, 105] }, .string { data := #[] }],
  .agg #[.int .i64 2381, .int .i64 2381, .int .i64 4, .string { data := #[78, 83, 77] }, .string { data := #[] }, .string { data := #[84] }],
  .agg #[.int .i64 8204, .int .i64 8205, .int .i64 5, .string { data := #[] }, .string { data := #[] }, .string { data := #[] }],
  .agg #[.int .i64 12353, .int .i64 12438, .int .i64 1, .string { data := #[76] }, .string { data := #[72, 105, 114, 97, 103, 97, 110, 97] }, .string { data := #[] }],
  .agg #[.int .i64 12449, .int .i64 12538, .int .i64 1, .string { data := #[76] }, .string { data := #[75, 97, 116, 97, 107, 97, 110, 97] }, .string { data := #[] }],
  .agg #[.int .i64 12539, .int .i64 12539, .int .i64 5, .string { data := #[] }, .string { data := #[] }, .string { data := #[] }],
  .agg #[.int .i64 19968, .int .i64 40959, .int .i64 1, .string { data := #[76] }, .string { data := #[72, 97, 110] }, .string { data := #[] }], .slice (some ⟨w.heap.size, 0, none⟩) 33 33], []⟩
set_option maxRecDepth 100000 in
theorem table_any (w : World) : Calls Tryz.prog 85 #[] w fun e w' => e = .returned (.slice (some ⟨w.heap.size, 0, none⟩) 33 33) ∧ w' = w.alloc (.cells aggR 72) := by
  go_enter Tryz.func85, Tryz.ntmps85
  refine wp_seq (wp_region_run ⟨#[.slice none 0 0, undef, undef, undef, undef, undef, undef, undef, undef, undef, undef, undef, undef, undef, undef, undef, undef, undef, undef, undef, undef, undef, undef, undef, undef, undef, undef, undef, undef, undef, undef, undef, undef, undef, undef], []⟩ w (by kernel_rfl) ?_)
  refine wp_seq (wp_region_run (tableAct w) (w.alloc (.cells aggR 72)) (by kernel_rfl) ?_)
  refine wp_ret ?_
  go_ret
  exact ⟨rfl, rfl⟩
end Go.Proofs.YtkaaldhejpaiiaaGreatDoor
