/- The walk of the law Kinds. -/
import Derived.Test.YtkaaldhejpaiiaaDoorKc
import Derived.Test.YtkaaldhejpaiiaaDoorRowL
namespace Go.Proofs.YtkaaldhejpaiiaaDoor
open Go.RowKit

theorem heap_kept {w w' : World} {o : Obj} (h : w.heap[2]? = some o) (hb : Below w.heap.size w w') : w'.heap[2]? = some o := by
  have hl : 2 < w.heap.size := (Array.getElem?_eq_some_iff.1 h).1
  rw [hb.block 2 hl]; exact h

set_option maxHeartbeats 1000000 in
theorem kinds_any (n : Int) (w : World) (tt : TypeId) (fr : Nat × Nat) (hg : w.heap[2]? = some (.cells aggK tt fr)) :
    Calls Tryd.prog 7 #[.int .i64 n] w fun e w' => e = .returned (.bool true) ∧ Below w.heap.size w w' := by
  have e1 : Km.look Km.tab 97 = 1 := by decide +kernel
  have e2 : Km.look Km.tab 2381 = 4 := by decide +kernel
  have e3 : Km.look Km.tab 65 = 0 := by decide +kernel
  have HA : Hid (Km.look Km.tab n = Km.look Km.ref n) := Km.agree n
  go_enter Tryd.func7, Tryd.ntmps7
  go_wp2_with fail
  refine (kind_any _ _ tt fr hg).mono ?_
  rintro e w1 ⟨rfl, hb1⟩
  have hg1 := heap_kept hg hb1
  go_wp2_with fail
  refine (kind_any _ _ tt fr hg1).mono ?_
  rintro e w2 ⟨rfl, hb2⟩
  have hg2 := heap_kept hg1 hb2
  go_wp2_with fail
  refine (kind_any _ _ tt fr hg2).mono ?_
  rintro e w3 ⟨rfl, hb3⟩
  have hg3 := heap_kept hg2 hb3
  go_wp2_with fail
  refine (kind_any _ _ tt fr hg3).mono ?_
  rintro e w4 ⟨rfl, hb4⟩
  go_wp2_with fail
  refine (refKind_any _ _).mono ?_
  rintro e w5 ⟨rfl, hb5⟩
  rw [← HA.out]
  go_wp2
  go_ret
  exact ⟨by simp, (((hb1.trans (hb2.mono hb1.size)).trans (hb3.mono (Nat.le_trans hb1.size hb2.size))).trans (hb4.mono (Nat.le_trans (Nat.le_trans hb1.size hb2.size) hb3.size))).trans (hb5.mono (Nat.le_trans (Nat.le_trans (Nat.le_trans hb1.size hb2.size) hb3.size) hb4.size))⟩
end Go.Proofs.YtkaaldhejpaiiaaDoor
