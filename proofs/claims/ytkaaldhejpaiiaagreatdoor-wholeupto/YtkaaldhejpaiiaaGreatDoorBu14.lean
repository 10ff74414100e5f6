import Derived.Test.YtkaaldhejpaiiaaGreatDoorBu13
import Derived.Test.YtkaaldhejpaiiaaGreatDoorBu06
import Derived.BigQuiet
import Derived.Deep.QuietTactic
import Derived.Shelf.SlSorted.Search
import Derived.WalkKit
import Derived.Test.YtkaaldhejpaiiaaGreatDoorProg
import Derived.WalkLawsBesides
import Derived.Laws.Rows
import Derived.Outline
/- The walks of rowOf's closure and of rowOf. -/
namespace Go.Proofs.YtkaaldhejpaiiaaGreatDoor
open Go.RowKit Go.Shelf Go.Sort

theorem cellK (W : World) (tt : TypeId) (fr : Nat × Nat) (hg : W.heap[0]? = some (.cells aggK tt fr)) (k : Nat) (hk : k < 33) :
    W.cell? ⟨0, k * 6, none⟩ = some (.int .i32 (rA k)) ∧ W.cell? ⟨0, k * 6 + 1, none⟩ = some (.int .i32 (rB k)) := by
  have h := cellsK k hk
  constructor
  · rw [cell_of_row W 0 (k * 6) _ tt fr hg]; exact h.1
  · rw [cell_of_row W 0 (k * 6 + 1) _ tt fr hg]; exact h.2.1

set_option maxHeartbeats 1000000 in
theorem rowF_any (b i : Nat) (n : Int) (W : World) (tt : TypeId) (fr : Nat × Nat) (hi : i < 33) (hb : W.cell? ⟨b, 0, none⟩ = some (.int .i64 n)) (hg : W.heap[0]? = some (.cells aggK tt fr)) :
    Calls Tryz.prog 45 #[.int .i64 i, .pointer (some ⟨b, 0, none⟩)] W fun e w' => e = .returned (.bool (decide (n ≤ rB i))) ∧ ∃ q, w' = W.drewN q := by
  have hc := (cellK W tt fr hg i hi).2
  have h33 : (i : Int) < 33 := by omega
  obtain ⟨_, _, hl, hu⟩ := rAB_low ⟨i, by omega⟩
  simp only at hl hu
  clear hg
  go_enter Tryz.func45, Tryz.ntmps45
  go_wp2
  go_quiet (fail)
  go_wp2
  go_ret
  exact ⟨rfl, nq, rfl⟩

def renS : Go.Shelf.Ren := ⟨fun | 16 => 44 | n => n, fun | 35 => 86 | 38 => 110 | n => n, fun n => n⟩
theorem laysS : SlLaysO.n16 Tryz.prog renS := {
  mixed := by kernel_rfl
  f16 := Tryz.func44.trans (congrArg some (by kernel_rfl))
  t3 := Tryz.underlying3
  a3 := Tryz.isAgg3
  z3 := Tryz.sizeOf3
  v3 := Tryz.zeroValue3
  t4 := Tryz.underlying4
  a4 := Tryz.isAgg4
  z4 := Tryz.sizeOf4
  v4 := Tryz.zeroValue4
  t35 := Tryz.underlying86
  a35 := Tryz.isAgg86
  z35 := Tryz.sizeOf86
  v35 := Tryz.zeroValue86
  t38 := Tryz.underlying110
  a38 := Tryz.isAgg110
  z38 := Tryz.sizeOf110
  v38 := Tryz.zeroValue110 }

theorem heap_grown {W : World} {k m : Nat} {os : Array Obj} {o : Obj} (h : W.heap[k]? = some o) : (grow (W.drewN m) os).heap[k]? = some o := by
  have hl : k < W.heap.size := (Array.getElem?_eq_some_iff.1 h).1
  rw [heap_grow_old _ _ (show k < (W.drewN m).heap.size from hl)]
  exact h

/-- The project's row of a number. -/
def rowVal (n : Int) : Value := if idxK n = 33 ∨ n < rA (idxK n) then .agg #[.int .i32 0, .int .i32 0, .int .u8 0, .int .u8 0, .int .u8 0, .int .u8 0] else .agg #[.int .i32 (rA (idxK n)), .int .i32 (rB (idxK n)), .int .u8 (rC (idxK n)), .int .u8 (rS (idxK n)), .int .u8 (rD (idxK n)), .int .u8 (rE (idxK n))]

theorem six {W : World} {r : Nat} {a b c s d e : Value} {t : TypeId} (h : W.heap[r]? = some (.cells #[a, b, c, s, d, e] t (0, 0))) :
    W.cell? ⟨r, 0, none⟩ = some a ∧ W.cell? ⟨r, 1, none⟩ = some b ∧ W.cell? ⟨r, 2, none⟩ = some c ∧ W.cell? ⟨r, 3, none⟩ = some s ∧ W.cell? ⟨r, 4, none⟩ = some d ∧ W.cell? ⟨r, 5, none⟩ = some e := by
  refine ⟨?_, ?_, ?_, ?_, ?_, ?_⟩ <;> (rw [cell_of_row _ _ _ _ t (0, 0) h]; rfl)

theorem set6 {W : World} {r : Nat} {x0 x1 x2 x3 x4 x5 : Value} {t : TypeId} (h : W.heap[r]? = some (.cells #[x0, x1, x2, x3, x4, x5] t (0, 0))) (a b c s d e : Value) :
    ((((((W.setCell ⟨r, 0, none⟩ (a)).setCell ⟨r, 1, none⟩ (b)).setCell ⟨r, 2, none⟩ (c)).setCell ⟨r, 3, none⟩ (s)).setCell ⟨r, 4, none⟩ (d)).setCell ⟨r, 5, none⟩ (e)).heap[r]? = some (.cells #[a, b, c, s, d, e] t (0, 0)) := by
  simp only [setCell_eq, mapBlock, Array.getElem?_modify, if_true, h, Option.map_some, onCells]
  rfl
theorem below6 {w W : World} {B : Nat} (h : Below B w W) (r : Nat) (hr : B ≤ r) (a b c s d e : Value) :
    Below B w ((((((W.setCell ⟨r, 0, none⟩ (a)).setCell ⟨r, 1, none⟩ (b)).setCell ⟨r, 2, none⟩ (c)).setCell ⟨r, 3, none⟩ (s)).setCell ⟨r, 4, none⟩ (d)).setCell ⟨r, 5, none⟩ (e)) := by
  exact (((((h.setCell (p := ⟨r, 0, none⟩) hr a).setCell (p := ⟨r, 1, none⟩) hr b).setCell (p := ⟨r, 2, none⟩) hr c).setCell (p := ⟨r, 3, none⟩) hr s).setCell (p := ⟨r, 4, none⟩) hr d).setCell (p := ⟨r, 5, none⟩) hr e

set_option maxRecDepth 100000 in
set_option maxHeartbeats 4000000 in
theorem rowOf_any (n : Int) (w : World) (tt : TypeId) (fr : Nat × Nat) (hg : w.heap[0]? = some (.cells aggK tt fr)) :
    Calls Tryz.prog 27 #[.int .i64 n] w fun e w' => e = .returned (rowVal n) ∧ Below w.heap.size w w' := by
  obtain ⟨W0, hW0⟩ : ∃ W0, W0 = (w.alloc (.cells #[.int .i64 n] 3)).alloc (.cells #[.int .i32 0, .int .i32 0, .int .u8 0, .int .u8 0, .int .u8 0, .int .u8 0] 61) := ⟨_, rfl⟩
  have hB0 : Below w.heap.size w W0 := by rw [hW0]; exact ((Below.refl _ w).alloc (Nat.le_refl _) _).alloc (by simp) _
  have hg0 : W0.heap[0]? = some (.cells aggK tt fr) := (hB0.block 0 (Array.getElem?_eq_some_iff.1 hg).1).trans hg
  have ca : W0.heap[w.heap.size]? = some (.cells #[.int .i64 n] 3) := by rw [hW0]; exact (((Below.refl (w.alloc (.cells #[.int .i64 n] 3)).heap.size _).alloc (Nat.le_refl _) _).block w.heap.size (by simp)).trans (Go.heap_alloc_new w _)
  have cr : W0.heap[w.heap.size + 1]? = some (.cells #[.int .i32 0, .int .i32 0, .int .u8 0, .int .u8 0, .int .u8 0, .int .u8 0] 61) := by
    rw [hW0]
    have h := Go.heap_alloc_new (w.alloc (.cells #[.int .i64 n] 3)) (.cells #[.int .i32 0, .int .i32 0, .int .u8 0, .int .u8 0, .int .u8 0, .int .u8 0] 61)
    rwa [World.size_alloc] at h
  have eg : ∀ args w, (callFunc 45 args).run Tryz.prog w = .ok (.enter 45 args) w := enters_of Tryz.func45 (by kernel_rfl) rfl
  have hS := Any.sort_Search laysS 45 #[.pointer (some ⟨w.heap.size, 0, none⟩)] 33 (fun i => decide (n ≤ rB i)) W0 eg (by omega)
    (fun m os i hi => (rowF_any w.heap.size i n _ tt fr hi (by rw [cell_of_row _ _ 0 _ 3 (0, 0) (heap_grown ca)]; rfl) (heap_grown hg0)).mono fun _ _ ⟨he, q, hq⟩ => ⟨he, q, #[], by rw [hq, grow_empty]⟩)
    (fun a b hab hb h => by
      have := rB_up ⟨a, by omega⟩ ⟨b, hb⟩ hab
      simp only [decide_eq_true_eq] at h ⊢
      simp only at this
      omega)
  have hmf : ∀ (fn : Fn) (first cap : Array Value) (w : World), (Instr.makeFunc fn first cap).run Tryz.prog w = .ok (.func fn first cap) w := fun _ _ _ _ => rfl
  have e16 : renS.f 16 = 44 := rfl
  rw [e16] at hS
  have hK := idxK_le n
  obtain ⟨K, hKe⟩ : ∃ K, idxK n = K := ⟨_, rfl⟩
  have hS2 : Calls Tryz.prog 44 #[.int .i64 (33 : Int), .func (.func 45) #[] #[.pointer (some ⟨w.heap.size, 0, none⟩)]] W0 fun e w' => e = .returned (.int .i64 (K : Nat)) ∧ w'.heap[0]? = some (.cells aggK tt fr) ∧ w'.heap[w.heap.size]? = some (.cells #[.int .i64 n] 3) ∧ w'.heap[w.heap.size + 1]? = some (.cells #[.int .i32 0, .int .i32 0, .int .u8 0, .int .u8 0, .int .u8 0, .int .u8 0] 61) ∧ Below w.heap.size w w' :=
    hS.mono (by
      rintro e w' ⟨rfl, q, os, rfl⟩
      rw [← hKe]
      refine ⟨rfl, heap_grown hg0, heap_grown ca, heap_grown cr, hB0.trans (below_grown_sl w.heap.size W0 q os hB0.size)⟩)
  rw [hKe] at hK
  have HKe : Hid (idxK n = K) := hKe
  clear hS eg e16 hg0 ca cr hB0 hg hKe
  go_enter Tryz.func27, Tryz.ntmps27
  go_wp2_with (go_at_call 44; rw [← hW0]; refine hS2.mono ?_; rintro e w1 ⟨rfl, hg1, ha1, hr1, hb1⟩)
  have a1 : w1.cell? ⟨w.heap.size, 0, none⟩ = some (.int .i64 n) := by rw [cell_of_row _ _ 0 _ 3 (0, 0) ha1]; rfl
  clear hS2 hmf ha1
  by_cases hK33 : K = 33
  · subst hK33
    go_quiet (fail)
    have hr2 : (w1.drewN nq).heap[w.heap.size + 1]? = some (.cells #[.int .i32 0, .int .i32 0, .int .u8 0, .int .u8 0, .int .u8 0, .int .u8 0] 61) := hr1
    have HB2 : Hid (Below w.heap.size w (w1.drewN nq)) := ⟨hb1.os, hb1.tape, hb1.output, hb1.size, hb1.block⟩
    clear a1 hr1 hb1 hg1
    generalize w1.drewN nq = w2 at *
    obtain ⟨r0, r1, r2, r3, r4, r5⟩ := six hr2
    have f0 : ∀ j, w2.frozen? ⟨w.heap.size + 1, j, none⟩ = false := fun j => unfrozen hr2 j
    go_wp2
    have q5 := set6 hr2 (.int .i32 0) (.int .i32 0) (.int .u8 0) (.int .u8 0) (.int .u8 0) (.int .u8 0)
    have HB5 : Hid (Below w.heap.size w _) := below6 HB2.out (w.heap.size + 1) (by omega) (.int .i32 0) (.int .i32 0) (.int .u8 0) (.int .u8 0) (.int .u8 0) (.int .u8 0)
    revert q5 HB5
    generalize (((((w2.setCell ⟨w.heap.size + 1, 0, none⟩ (.int .i32 0)).setCell ⟨w.heap.size + 1, 1, none⟩ (.int .i32 0)).setCell ⟨w.heap.size + 1, 2, none⟩ (.int .u8 0)).setCell ⟨w.heap.size + 1, 3, none⟩ (.int .u8 0)).setCell ⟨w.heap.size + 1, 4, none⟩ (.int .u8 0)).setCell ⟨w.heap.size + 1, 5, none⟩ (.int .u8 0) = w5
    intro q5 HB5
    obtain ⟨s0, s1, s2, s3, s4, s5⟩ := six q5
    refine bodyPost_ret (v := .agg #[.int .i32 0, .int .i32 0, .int .u8 0, .int .u8 0, .int .u8 0, .int .u8 0]) (by simp [results, Tryz.results27, go_sem, s0, s1, s2, s3, s4, s5]) rfl ⟨?_, HB5.out⟩
    unfold rowVal
    rw [HKe.out, if_pos (Or.inl rfl)]
  · have hne : ((K : Int) == 33) = false := by simp; omega
    have hKl : (K : Int) < 33 := by omega
    obtain ⟨hal, hau, _, _⟩ := rAB_low ⟨K, by omega⟩
    simp only at hal hau
    have t0 : w1.cell? ⟨0, K * 6, none⟩ = some (.int .i32 (rA K)) := (cellK w1 tt fr hg1 K (by omega)).1
    by_cases hlt : n < rA K
    · go_quiet (fail)
      have hr2 : (w1.drewN nq).heap[w.heap.size + 1]? = some (.cells #[.int .i32 0, .int .i32 0, .int .u8 0, .int .u8 0, .int .u8 0, .int .u8 0] 61) := hr1
      have HB2 : Hid (Below w.heap.size w (w1.drewN nq)) := ⟨hb1.os, hb1.tape, hb1.output, hb1.size, hb1.block⟩
      clear a1 hr1 hb1 hg1 t0
      generalize w1.drewN nq = w2 at *
      obtain ⟨r0, r1, r2, r3, r4, r5⟩ := six hr2
      have f0 : ∀ j, w2.frozen? ⟨w.heap.size + 1, j, none⟩ = false := fun j => unfrozen hr2 j
      go_wp2
      have q5 := set6 hr2 (.int .i32 0) (.int .i32 0) (.int .u8 0) (.int .u8 0) (.int .u8 0) (.int .u8 0)
      have HB5 : Hid (Below w.heap.size w _) := below6 HB2.out (w.heap.size + 1) (by omega) (.int .i32 0) (.int .i32 0) (.int .u8 0) (.int .u8 0) (.int .u8 0) (.int .u8 0)
      revert q5 HB5
      generalize (((((w2.setCell ⟨w.heap.size + 1, 0, none⟩ (.int .i32 0)).setCell ⟨w.heap.size + 1, 1, none⟩ (.int .i32 0)).setCell ⟨w.heap.size + 1, 2, none⟩ (.int .u8 0)).setCell ⟨w.heap.size + 1, 3, none⟩ (.int .u8 0)).setCell ⟨w.heap.size + 1, 4, none⟩ (.int .u8 0)).setCell ⟨w.heap.size + 1, 5, none⟩ (.int .u8 0) = w5
      intro q5 HB5
      obtain ⟨s0, s1, s2, s3, s4, s5⟩ := six q5
      refine bodyPost_ret (v := .agg #[.int .i32 0, .int .i32 0, .int .u8 0, .int .u8 0, .int .u8 0, .int .u8 0]) (by simp [results, Tryz.results27, go_sem, s0, s1, s2, s3, s4, s5]) rfl ⟨?_, HB5.out⟩
      unfold rowVal
      rw [HKe.out, if_pos (Or.inr hlt)]
    · have hlt' : decide (n < rA K) = false := decide_eq_false hlt
      go_quiet (fail)
      have hr2 : (w1.drewN nq).heap[w.heap.size + 1]? = some (.cells #[.int .i32 0, .int .i32 0, .int .u8 0, .int .u8 0, .int .u8 0, .int .u8 0] 61) := hr1
      have hg2 : (w1.drewN nq).heap[0]? = some (.cells aggK tt fr) := hg1
      have HB2 : Hid (Below w.heap.size w (w1.drewN nq)) := ⟨hb1.os, hb1.tape, hb1.output, hb1.size, hb1.block⟩
      clear a1 hr1 hb1 hg1 t0
      generalize w1.drewN nq = w2 at *
      obtain ⟨r0, r1, r2, r3, r4, r5⟩ := six hr2
      have f0 : ∀ j, w2.frozen? ⟨w.heap.size + 1, j, none⟩ = false := fun j => unfrozen hr2 j
      obtain ⟨k0, k1, k2, k3, k4, k5⟩ := cellsK K (by omega)
      have t0 : w2.cell? ⟨0, K * 6, none⟩ = some (.int .i32 (rA K)) := by rw [cell_of_row _ _ _ _ tt fr hg2]; exact k0
      have t1 : w2.cell? ⟨0, K * 6 + 1, none⟩ = some (.int .i32 (rB K)) := by rw [cell_of_row _ _ _ _ tt fr hg2]; exact k1
      have t2 : w2.cell? ⟨0, K * 6 + 2, none⟩ = some (.int .u8 (rC K)) := by rw [cell_of_row _ _ _ _ tt fr hg2]; exact k2
      have t3 : w2.cell? ⟨0, K * 6 + 3, none⟩ = some (.int .u8 (rS K)) := by rw [cell_of_row _ _ _ _ tt fr hg2]; exact k3
      have t4 : w2.cell? ⟨0, K * 6 + 4, none⟩ = some (.int .u8 (rD K)) := by rw [cell_of_row _ _ _ _ tt fr hg2]; exact k4
      have t5 : w2.cell? ⟨0, K * 6 + 5, none⟩ = some (.int .u8 (rE K)) := by rw [cell_of_row _ _ _ _ tt fr hg2]; exact k5
      clear hg2 k0 k1 k2 k3 k4 k5
      go_wp2
      have q5 := set6 hr2 (.int .i32 (rA K)) (.int .i32 (rB K)) (.int .u8 (rC K)) (.int .u8 (rS K)) (.int .u8 (rD K)) (.int .u8 (rE K))
      have HB5 : Hid (Below w.heap.size w _) := below6 HB2.out (w.heap.size + 1) (by omega) (.int .i32 (rA K)) (.int .i32 (rB K)) (.int .u8 (rC K)) (.int .u8 (rS K)) (.int .u8 (rD K)) (.int .u8 (rE K))
      revert q5 HB5
      generalize (((((w2.setCell ⟨w.heap.size + 1, 0, none⟩ (.int .i32 (rA K))).setCell ⟨w.heap.size + 1, 1, none⟩ (.int .i32 (rB K))).setCell ⟨w.heap.size + 1, 2, none⟩ (.int .u8 (rC K))).setCell ⟨w.heap.size + 1, 3, none⟩ (.int .u8 (rS K))).setCell ⟨w.heap.size + 1, 4, none⟩ (.int .u8 (rD K))).setCell ⟨w.heap.size + 1, 5, none⟩ (.int .u8 (rE K)) = w5
      intro q5 HB5
      obtain ⟨s0, s1, s2, s3, s4, s5⟩ := six q5
      refine bodyPost_ret (v := .agg #[.int .i32 (rA K), .int .i32 (rB K), .int .u8 (rC K), .int .u8 (rS K), .int .u8 (rD K), .int .u8 (rE K)]) (by simp [results, Tryz.results27, go_sem, s0, s1, s2, s3, s4, s5]) rfl ⟨?_, HB5.out⟩
      unfold rowVal
      rw [HKe.out, if_neg (by omega)]

end Go.Proofs.YtkaaldhejpaiiaaGreatDoor

/- Plain mathematics for Kinds: two tables of runs, looked through from the top, agree at every number. Nothing of the dump. -/
namespace Go.Proofs.YtkaaldhejpaiiaaGreatDoor.Km

def look : List (Int × Int × Int) → Int → Int
  | [], _ => 0
  | (a, b, k) :: r, n => if a ≤ n ∧ n ≤ b then k else look r n

def tab : List (Int × Int × Int) := [(45, 45, 3), (48, 57, 2), (97, 122, 1), (183, 183, 5), (223, 246, 1), (248, 255, 1), (768, 831, 4), (834, 834, 4), (837, 846, 4), (848, 879, 4), (885, 885, 5), (940, 974, 1), (1488, 1514, 1), (1523, 1524, 5), (1575, 1575, 1), (1576, 1576, 1), (1577, 1577, 1), (1578, 1582, 1), (1583, 1586, 1), (1587, 1594, 1), (1601, 1607, 1), (1608, 1608, 1), (1609, 1610, 1), (1611, 1618, 4), (1632, 1641, 5), (1776, 1785, 5), (2309, 2361, 1), (2381, 2381, 4), (8204, 8205, 5), (12353, 12438, 1), (12449, 12538, 1), (12539, 12539, 5), (19968, 40959, 1)]
def ref : List (Int × Int × Int) := [(45, 45, 3), (48, 57, 2), (97, 122, 1), (223, 246, 1), (248, 255, 1), (183, 183, 5), (768, 831, 4), (834, 834, 4), (837, 846, 4), (848, 879, 4), (885, 885, 5), (940, 974, 1), (1488, 1514, 1), (1523, 1524, 5), (1575, 1575, 1), (1583, 1586, 1), (1608, 1608, 1), (1576, 1576, 1), (1578, 1582, 1), (1587, 1594, 1), (1601, 1607, 1), (1609, 1610, 1), (1577, 1577, 1), (1611, 1618, 4), (1632, 1641, 5), (1776, 1785, 5), (2309, 2361, 1), (2381, 2381, 4), (8204, 8205, 5), (12353, 12438, 1), (12449, 12538, 1), (12539, 12539, 5), (19968, 40959, 1)]

def apart (lo hi : Int) (t : List (Int × Int × Int)) : Bool := t.all fun r => decide (r.2.1 < lo) || decide (hi < r.1) || (decide (r.1 ≤ lo) && decide (hi ≤ r.2.1))
theorem look_const (lo hi n : Int) (h1 : lo ≤ n) (h2 : n ≤ hi) : ∀ t : List (Int × Int × Int), apart lo hi t = true → look t n = look t lo
  | [], _ => rfl
  | (a, b, k) :: r, h => by
    simp only [apart, List.all_cons, Bool.and_eq_true, Bool.or_eq_true, decide_eq_true_eq] at h
    have ih := look_const lo hi n h1 h2 r (by simpa [apart] using h.2)
    simp only [look]
    rcases h.1 with (hb | ha) | ⟨ha, hb⟩
    · rw [if_neg (by omega), if_neg (by omega)]; exact ih
    · rw [if_neg (by omega), if_neg (by omega)]; exact ih
    · rw [if_pos (by omega), if_pos (by omega)]
theorem look_out (n : Int) : ∀ t : List (Int × Int × Int), (∀ r ∈ t, n < r.1 ∨ r.2.1 < n) → look t n = 0
  | [], _ => rfl
  | (a, b, k) :: r, h => by
    have h0 := h (a, b, k) (by simp)
    simp only [look]
    rw [if_neg (by simp only at h0; omega)]
    exact look_out n r fun x hx => h x (by simp [hx])

/-- Breaks: between two that follow one another neither table turns. -/
def breaks : List Int := [45, 46, 48, 58, 97, 123, 183, 184, 223, 247, 248, 256, 768, 832, 834, 835, 837, 847, 848, 880, 885, 886, 940, 975, 1488, 1515, 1523, 1525, 1575, 1576, 1577, 1578, 1583, 1587, 1595, 1601, 1608, 1609, 1611, 1619, 1632, 1642, 1776, 1786, 2309, 2362, 2381, 2382, 8204, 8206, 12353, 12439, 12449, 12539, 12540, 19968, 40960]
def pairs : List Int → List (Int × Int)
  | a :: b :: r => (a, b - 1) :: pairs (b :: r)
  | _ => []
theorem in_pairs (n : Int) : ∀ (l : List Int) (a : Int), l.head? = some a → a ≤ n → n < l.getLastD 0 → ∃ p ∈ pairs l, p.1 ≤ n ∧ n ≤ p.2
  | [], _, h, _, _ => by simp at h
  | [x], a, h, h1, h2 => by simp at h; subst h; simp [List.getLastD] at h2; omega
  | x :: y :: r, a, h, h1, h2 => by
    simp only [List.head?_cons, Option.some.injEq] at h
    subst h
    by_cases hy : n < y
    · exact ⟨(x, y - 1), by simp [pairs], h1, by show n ≤ y - 1; omega⟩
    · obtain ⟨p, hp, hq⟩ := in_pairs n (y :: r) y rfl (by omega) (by simpa [List.getLastD] using h2)
      exact ⟨p, by simp [pairs]; exact Or.inr hp, hq⟩
theorem all_parts : (pairs breaks).all (fun p => apart p.1 p.2 tab && apart p.1 p.2 ref && decide (look tab p.1 = look ref p.1)) = true := by decide +kernel
theorem tab_low : ∀ r ∈ tab, (45 : Int) ≤ r.1 ∧ r.2.1 ≤ 40959 := by decide +kernel
theorem ref_low : ∀ r ∈ ref, (45 : Int) ≤ r.1 ∧ r.2.1 ≤ 40959 := by decide +kernel
theorem agree (n : Int) : look tab n = look ref n := by
  by_cases h : 45 ≤ n ∧ n < 40960
  · obtain ⟨p, hp, h1, h2⟩ := in_pairs n breaks 45 rfl h.1 (by show n < 40960; exact h.2)
    have := List.all_eq_true.1 all_parts p hp
    simp only [Bool.and_eq_true, decide_eq_true_eq] at this
    rw [look_const p.1 p.2 n h1 h2 tab this.1.1, look_const p.1 p.2 n h1 h2 ref this.1.2, this.2]
  · rw [look_out n tab fun r hr => by have := tab_low r hr; omega, look_out n ref fun r hr => by have := ref_low r hr; omega]

/-- Behind k rows that do not fit. -/
theorem look_drop (t : List (Int × Int × Int)) (n : Int) : ∀ k, (∀ j, j < k → ∀ r, t[j]? = some r → ¬ (r.1 ≤ n ∧ n ≤ r.2.1)) → look t n = look (t.drop k) n
  | 0, _ => by simp
  | k + 1, h => by
    rw [look_drop t n k fun j hj => h j (by omega)]
    cases hk : t[k]? with
    | none => rw [List.drop_eq_nil_of_le (by simpa using hk), List.drop_eq_nil_of_le (by have hx : t.length ≤ k := (by simpa using hk); omega)]
    | some r =>
      obtain ⟨hl, rfl⟩ := List.getElem?_eq_some_iff.1 hk
      have h0 := h k (by omega) _ hk
      rw [List.drop_eq_getElem_cons hl]
      rcases hr : t[k] with ⟨a, b, c⟩
      rw [hr] at h0
      simp only [look]
      rw [if_neg h0]
def rowA (t : List (Int × Int × Int)) (k : Nat) : Int := (t.getD k (0, 0, 0)).1
def rowB (t : List (Int × Int × Int)) (k : Nat) : Int := (t.getD k (0, 0, 0)).2.1
def rowC (t : List (Int × Int × Int)) (k : Nat) : Int := (t.getD k (0, 0, 0)).2.2
theorem look_hit (t : List (Int × Int × Int)) (n : Int) (k : Nat) (hk : k < t.length) (h : ∀ j, j < k → ¬ (rowA t j ≤ n ∧ n ≤ rowB t j)) (hh : rowA t k ≤ n ∧ n ≤ rowB t k) : look t n = rowC t k := by
  rw [look_drop t n k fun j hj r hr => by have := h j hj; simpa [rowA, rowB, hr] using this]
  rw [List.drop_eq_getElem_cons hk]
  simp only [rowA, rowB, rowC, List.getD_eq_getElem?_getD, List.getElem?_eq_getElem hk, Option.getD_some] at hh ⊢
  rcases hr : t[k] with ⟨a, b, c⟩
  rw [hr] at hh
  simp only [look]
  rw [if_pos hh]
theorem look_miss (t : List (Int × Int × Int)) (n : Int) (k : Nat) (hk : t.length ≤ k) (h : ∀ j, j < k → ¬ (rowA t j ≤ n ∧ n ≤ rowB t j)) : look t n = 0 := by
  rw [look_drop t n k fun j hj r hr => by have := h j hj; simpa [rowA, rowB, hr] using this, List.drop_eq_nil_of_le hk]
  rfl
/-- The number of the first row that fits; the number of rows, if none does. -/
def idx : List (Int × Int × Int) → Int → Nat
  | [], _ => 0
  | (a, b, _) :: r, n => if a ≤ n ∧ n ≤ b then 0 else idx r n + 1
theorem idx_hit (n : Int) : ∀ (t : List (Int × Int × Int)) (k : Nat), k < t.length → (∀ j, j < k → ¬ (rowA t j ≤ n ∧ n ≤ rowB t j)) → rowA t k ≤ n ∧ n ≤ rowB t k → idx t n = k
  | [], k, hk, _, _ => absurd hk (by simp)
  | (a, b, c) :: r, 0, _, _, hh => by
    simp only [idx]
    exact if_pos (by simpa [rowA, rowB] using hh)
  | (a, b, c) :: r, k + 1, hk, h, hh => by
    simp only [idx]
    rw [if_neg (by have := h 0 (by omega); simpa [rowA, rowB] using this)]
    rw [idx_hit n r k (by simpa using hk) (fun j hj => by have := h (j + 1) (by omega); simpa [rowA, rowB] using this) (by simpa [rowA, rowB] using hh)]
theorem idx_miss (n : Int) : ∀ (t : List (Int × Int × Int)), (∀ j, j < t.length → ¬ (rowA t j ≤ n ∧ n ≤ rowB t j)) → idx t n = t.length
  | [], _ => rfl
  | (a, b, c) :: r, h => by
    simp only [idx]
    rw [if_neg (by have := h 0 (by simp); simpa [rowA, rowB] using this), idx_miss n r fun j hj => by have := h (j + 1) (by simpa using hj); simpa [rowA, rowB] using this]
    rfl
theorem look_idx (n : Int) : ∀ t : List (Int × Int × Int), look t n = rowC t (idx t n)
  | [] => rfl
  | (a, b, c) :: r => by
    simp only [look, idx]
    split
    · rfl
    · rw [look_idx n r]; simp [rowC]
end Go.Proofs.YtkaaldhejpaiiaaGreatDoor.Km

/- Kind. -/
namespace Go.Proofs.YtkaaldhejpaiiaaGreatDoor
open Go.RowKit

theorem count_mono (p : Nat → Bool) : ∀ N : Nat, (∀ a b, a ≤ b → b < N → p a = true → p b = true) →
    (∀ i, i < (List.range N).countP (fun i => !p i) → p i = false) ∧ (∀ i, (List.range N).countP (fun i => !p i) ≤ i → i < N → p i = true) ∧ (List.range N).countP (fun i => !p i) ≤ N
  | 0, _ => ⟨fun i h => by simp at h, fun i _ h => by omega, by simp⟩
  | N + 1, hm => by
    obtain ⟨h1, h2, h3⟩ := count_mono p N (fun a b hab hb => hm a b hab (by omega))
    rw [List.range_succ, List.countP_append, List.countP_singleton]
    cases hp : p N with
    | true =>
      simp only [Bool.not_true, Bool.false_eq_true, if_false, Nat.add_zero]
      refine ⟨h1, fun i hi hN => ?_, by omega⟩
      by_cases e : i = N
      · rw [e]; exact hp
      · exact h2 i hi (by omega)
    | false =>
      simp only [Bool.not_false, if_true]
      have hall : ∀ i, i < N → p i = false := fun i hi => by
        cases hq : p i with
        | false => rfl
        | true => have := hm i N (by omega) (by omega) hq; rw [hp] at this; cases this
      have hc : (List.range N).countP (fun i => !p i) = N := by
        rcases Nat.lt_or_ge ((List.range N).countP (fun i => !p i)) N with h | h
        · have := h2 _ (Nat.le_refl _) h
          rw [hall _ h] at this; cases this
        · omega
      rw [hc]
      refine ⟨fun i hi => ?_, fun i hi hN => by omega, by omega⟩
      by_cases e : i = N
      · rw [e]; exact hp
      · exact hall i (by omega)

theorem rows_same : ∀ k : Fin 33, Km.rowA Km.tab k = rA k ∧ Km.rowB Km.tab k = rB k ∧ Km.rowC Km.tab k = rC k := by decide +kernel
theorem rA_up : ∀ a b : Fin 33, a < b → rB a < rA b := by decide +kernel
theorem rAB : ∀ a : Fin 33, rA a ≤ rB a := by decide +kernel
theorem kind_look (n : Int) : (if idxK n = 33 ∨ n < rA (idxK n) then 0 else rC (idxK n)) = Km.look Km.tab n := by
  obtain ⟨h1, h2, h3⟩ := count_mono (fun i => decide (n ≤ rB i)) 33 (fun a b hab hb h => by
    have := rB_up ⟨a, by omega⟩ ⟨b, hb⟩ hab
    simp only [decide_eq_true_eq] at h ⊢
    simp only at this
    omega)
  change ∀ i, i < idxK n → _ at h1
  change ∀ i, idxK n ≤ i → _ at h2
  change idxK n ≤ 33 at h3
  generalize idxK n = K at *
  have lo : ∀ j, j < K → ¬ (Km.rowA Km.tab j ≤ n ∧ n ≤ Km.rowB Km.tab j) := fun j hj h => by
    have e := rows_same ⟨j, by omega⟩
    have h4 := h1 j hj
    simp only [decide_eq_false_iff_not] at h4
    simp only at e
    rw [e.2.1] at h
    exact h4 h.2
  by_cases hK : K = 33
  · rw [if_pos (Or.inl hK), Km.look_miss Km.tab n K (by subst hK; decide) lo]
  · have e := rows_same ⟨K, by omega⟩
    simp only at e
    have h5 := h2 K (Nat.le_refl _) (by omega)
    simp only [decide_eq_true_eq] at h5
    by_cases hA : n < rA K
    · rw [if_pos (Or.inr hA), Km.look_miss Km.tab n 33 (by decide)]
      intro j hj h
      by_cases hjK : j < K
      · exact lo j hjK h
      · have ej := rows_same ⟨j, hj⟩
        simp only at ej
        rw [ej.1] at h
        by_cases hje : j = K
        · subst hje; omega
        · have q1 := rA_up ⟨K, by omega⟩ ⟨j, hj⟩ (by show K < j; omega)
          have q2 := rAB ⟨K, by omega⟩
          simp only at q1 q2
          omega
    · rw [if_neg (by omega), Km.look_hit Km.tab n K (by show K < 33; omega) lo (by rw [e.1, e.2.1]; omega), e.2.2]

theorem look_low (n : Int) : 0 ≤ Km.look Km.tab n ∧ Km.look Km.tab n ≤ 5 := by
  rw [← kind_look]
  split
  · omega
  · obtain ⟨h1, h2, _⟩ := rC_low ⟨idxK n, Nat.lt_succ_of_le (idxK_le n)⟩
    exact ⟨h1, h2⟩
theorem field_row (a b c s d e : Value) (w : World) : Sem.run Tryz.prog (Instr.field 61 (.agg #[a, b, c, s, d, e]) 2) w = .ok c w ∧ Sem.run Tryz.prog (Instr.field 61 (.agg #[a, b, c, s, d, e]) 3) w = .ok s w ∧
    Sem.run Tryz.prog (Instr.field 61 (.agg #[a, b, c, s, d, e]) 4) w = .ok d w ∧ Sem.run Tryz.prog (Instr.field 61 (.agg #[a, b, c, s, d, e]) 5) w = .ok e w := ⟨by kernel_rfl, by kernel_rfl, by kernel_rfl, by kernel_rfl⟩
set_option maxRecDepth 100000 in
set_option maxHeartbeats 400000 in
theorem kind_any (n : Int) (w : World) (tt : TypeId) (fr : Nat × Nat) (hg : w.heap[0]? = some (.cells aggK tt fr)) :
    Calls Tryz.prog 17 #[.int .i64 n] w fun e w' => e = .returned (.int .i64 (Km.look Km.tab n)) ∧ Below w.heap.size w w' := by
  have hr := rowOf_any n w tt fr hg
  obtain ⟨hl, hu⟩ := look_low n
  obtain ⟨a, b, s, d, e, hv⟩ : ∃ a b s d e : Value, rowVal n = .agg #[a, b, .int .u8 (Km.look Km.tab n), s, d, e] := by
    rw [← kind_look]
    unfold rowVal
    by_cases h : idxK n = 33 ∨ n < rA (idxK n)
    · exact ⟨_, _, _, _, _, by rw [if_pos h, if_pos h]⟩
    · exact ⟨_, _, _, _, _, by rw [if_neg h, if_neg h]⟩
  rw [hv] at hr
  clear hv hg
  generalize Km.look Km.tab n = c at *
  have hfl := fun w => (field_row a b (.int .u8 c) s d e w).1
  go_enter Tryz.func17, Tryz.ntmps17
  go_wp2_with (go_at_call 27; refine hr.mono ?_; rintro e w' ⟨rfl, hb⟩)
  go_ret
  exact ⟨rfl, hb⟩
end Go.Proofs.YtkaaldhejpaiiaaGreatDoor

/- A region of plain operations (no guard, no call), run by the kernel in one step. -/
namespace Go.Proofs.YtkaaldhejpaiiaaGreatDoor
open Go

def runList (P : Program) : List Oper → Act → World → Option (Act × World)
  | [], a, w => some (a, w)
  | o :: rest, a, w =>
    match o.guard with
    | some _ => none
    | none =>
      match (execOp a.eval o).run P w with
      | .ok (.value v) w' => runList P rest (a.put o.dst v) w'
      | .ok .skip w' => runList P rest (a.put o.dst undef) w'
      | _ => none

theorem wpList_runList {P : Program} {ops : Array Oper} {Q : Exit → Act → World → Prop} :
    ∀ (l : List Oper) (a : Act) (w : World) (a' : Act) (w' : World), runList P l a w = some (a', w') → Q .normal a' w' → wpList P ops Q l a w
  | [], a, w, a', w', h, hq => by
    simp only [runList, Option.some.injEq, Prod.mk.injEq] at h
    obtain ⟨rfl, rfl⟩ := h
    exact wpList_nil hq
  | o :: rest, a, w, a', w', h, hq => by
    unfold runList at h
    cases hg : o.guard with
    | some x => simp [hg] at h
    | none =>
      simp only [hg] at h
      refine wpList_plain hg fun K hK => ?_
      unfold Oper.wp
      split at h
      · rename_i v w1 hr
        rw [hr, Oper.upon_value]
        exact hK _ _ (wpList_runList rest _ _ _ _ h hq)
      · rename_i w1 hr
        rw [hr, Oper.upon_skip]
        exact hK _ _ (wpList_runList rest _ _ _ _ h hq)
      · cases h

theorem wp_region_run {P : Program} {id : Nat} {l : List Oper} {Q : Exit → Act → World → Prop} {a : Act} {w : World} (a' : Act) (w' : World)
    (h : runList P l a w = some (a', w')) (hq : Q .normal a' w') : (Code.region id l.toArray false).wp P Q a w :=
  wp_region_lit (wpList_runList l a w a' w' h hq)
end Go.Proofs.YtkaaldhejpaiiaaGreatDoor

/- The walks of the document's table, row and Kind. -/
namespace Go.Proofs.YtkaaldhejpaiiaaGreatDoor
open Go.RowKit

def aggR : Array Value := #[.int .i64 45, .int .i64 45, .int .i64 3, .string { data := #[69, 83] }, .string { data := #[] }, .string { data := #[] },
  .int .i64 48, .int .i64 57, .int .i64 2, .string { data := #[69, 78] }, .string { data := #[] }, .string { data := #[] },
  .int .i64 97, .int .i64 122, .int .i64 1, .string { data := #[76] }, .string { data := #[76, 97, 116, 105, 110] }, .string { data := #[] },
  .int .i64 223, .int .i64 246, .int .i64 1, .string { data := #[76] }, .string { data := #[76, 97, 116, 105, 110] }, .string { data := #[] },
  .int .i64 248, .int .i64 255, .int .i64 1, .string { data := #[76] }, .string { data := #[76, 97, 116, 105, 110] }, .string { data := #[] },
  .int .i64 183, .int .i64 183, .int .i64 5, .string { data := #[] }, .string { data := #[] }, .string { data := #[] },
  .int .i64 768, .int .i64 831, .int .i64 4, .string { data := #[78, 83, 77] }, .string { data := #[] }, .string { data := #[84] },
  .int .i64 834, .int .i64 834, .int .i64 4, .string { data := #[78, 83, 77] }, .string { data := #[] }, .string { data := #[84] },
  .int .i64 837, .int .i64 846, .int .i64 4, .string { data := #[78, 83, 77] }, .string { data := #[] }, .string { data := #[84] },
  .int .i64 848, .int .i64 879, .int .i64 4, .string { data := #[78, 83, 77] }, .string { data := #[] }, .string { data := #[84] },
  .int .i64 885, .int .i64 885, .int .i64 5, .string { data := #[] }, .string { data := #[71, 114, 101, 101, 107] }, .string { data := #[] },
  .int .i64 940, .int .i64 974, .int .i64 1, .string { data := #[76] }, .string { data := #[71, 114, 101, 101, 107] }, .string { data := #[] },
  .int .i64 1488, .int .i64 1514, .int .i64 1, .string { data := #[82] }, .string { data := #[72, 101, 98, 114, 101, 119] }, .string { data := #[] },
  .int .i64 1523, .int .i64 1524, .int .i64 5, .string { data := #[82] }, .string { data := #[72, 101, 98, 114, 101, 119] }, .string { data := #[] },
  .int .i64 1575, .int .i64 1575, .int .i64 1, .string { data := #[65, 76] }, .string { data := #[65, 114, 97, 98, 105, 99] }, .string { data := #[82] },
  .int .i64 1583, .int .i64 1586, .int .i64 1, .string { data := #[65, 76] }, .string { data := #[65, 114, 97, 98, 105, 99] }, .string { data := #[82] },
  .int .i64 1608, .int .i64 1608, .int .i64 1, .string { data := #[65, 76] }, .string { data := #[65, 114, 97, 98, 105, 99] }, .string { data := #[82] },
  .int .i64 1576, .int .i64 1576, .int .i64 1, .string { data := #[65, 76] }, .string { data := #[65, 114, 97, 98, 105, 99] }, .string { data := #[68] },
  .int .i64 1578, .int .i64 1582, .int .i64 1, .string { data := #[65, 76] }, .string { data := #[65, 114, 97, 98, 105, 99] }, .string { data := #[68] },
  .int .i64 1587, .int .i64 1594, .int .i64 1, .string { data := #[65, 76] }, .string { data := #[65, 114, 97, 98, 105, 99] }, .string { data := #[68] },
  .int .i64 1601, .int .i64 1607, .int .i64 1, .string { data := #[65, 76] }, .string { data := #[65, 114, 97, 98, 105, 99] }, .string { data := #[68] },
  .int .i64 1609, .int .i64 1610, .int .i64 1, .string { data := #[65, 76] }, .string { data := #[65, 114, 97, 98, 105, 99] }, .string { data := #[68] },
  .int .i64 1577, .int .i64 1577, .int .i64 1, .string { data := #[65, 76] }, .string { data := #[65, 114, 97, 98, 105, 99] }, .string { data := #[82] },
  .int .i64 1611, .int .i64 1618, .int .i64 4, .string { data := #[78, 83, 77] }, .string { data := #[] }, .string { data := #[84] },
  .int .i64 1632, .int .i64 1641, .int .i64 5, .string { data := #[65, 78] }, .string { data := #[] }, .string { data := #[] },
  .int .i64 1776, .int .i64 1785, .int .i64 5, .string { data := #[69, 78] }, .string { data := #[] }, .string { data := #[] },
  .int .i64 2309, .int .i64 2361, .int .i64 1, .string { data := #[76] }, .string { data := #[68, 101, 118, 97, 110, 97, 103, 97, 114, 105] }, .string { data := #[] },
  .int .i64 2381, .int .i64 2381, .int .i64 4, .string { data := #[78, 83, 77] }, .string { data := #[] }, .string { data := #[84] },
  .int .i64 8204, .int .i64 8205, .int .i64 5, .string { data := #[] }, .string { data := #[] }, .string { data := #[] },
  .int .i64 12353, .int .i64 12438, .int .i64 1, .string { data := #[76] }, .string { data := #[72, 105, 114, 97, 103, 97, 110, 97] }, .string { data := #[] },
  .int .i64 12449, .int .i64 12538, .int .i64 1, .string { data := #[76] }, .string { data := #[75, 97, 116, 97, 107, 97, 110, 97] }, .string { data := #[] },
  .int .i64 12539, .int .i64 12539, .int .i64 5, .string { data := #[] }, .string { data := #[] }, .string { data := #[] },
  .int .i64 19968, .int .i64 40959, .int .i64 1, .string { data := #[76] }, .string { data := #[72, 97, 110] }, .string { data := #[] }]
def tableAct (w : World) : Act := ⟨#[.slice (some ⟨w.heap.size, 0, none⟩) 33 33,
  .agg #[.int .i64 45, .int .i64 45, .int .i64 3, .string { data := #[69, 83] }, .string { data := #[] }, .string { data := #[] }],
  .agg #[.int .i64 48, .int .i64 57, .int .i64 2, .string { data := #[69, 78] }, .string { data := #[] }, .string { data := #[] }],
  .agg #[.int .i64 97, .int .i64 122, .int .i64 1, .string { data := #[76] }, .string { data := #[76, 97, 116, 105, 110] }, .string { data := #[] }],
  .agg #[.int .i64 223, .int .i64 246, .int .i64 1, .string { data := #[76] }, .string { data := #[76, 97, 116, 105, 110] }, .string { data := #[] }],
  .agg #[.int .i64 248, .int .i64 255, .int .i64 1, .string { data := #[76] }, .string { data := #[76, 97, 116, 105, 110] }, .string { data := #[] }],
  .agg #[.int .i64 183, .int .i64 183, .int .i64 5, .string { data := #[] }, .string { data := #[] }, .string { data := #[] }],
  .agg #[.int .i64 768, .int .i64 831, .int .i64 4, .string { data := #[78, 83, 77] }, .string { data := #[] }, .string { data := #[84] }],
  .agg #[.int .i64 834, .int .i64 834, .int .i64 4, .string { data := #[78, 83, 77] }, .string { data := #[] }, .string { data := #[84] }],
  .agg #[.int .i64 837, .int .i64 846, .int .i64 4, .string { data := #[78, 83, 77] }, .string { data := #[] }, .string { data := #[84] }],
  .agg #[.int .i64 848, .int .i64 879, .int .i64 4, .string { data := #[78, 83, 77] }, .string { data := #[] }, .string { data := #[84] }],
  .agg #[.int .i64 885, .int .i64 885, .int .i64 5, .string { data := #[] }, .string { data := #[71, 114, 101, 101, 107] }, .string { data := #[] }],
  .agg #[.int .i64 940, .int .i64 974, .int .i64 1, .string { data := #[76] }, .string { data := #[71, 114, 101, 101, 107] }, .string { data := #[] }],
  .agg #[.int .i64 1488, .int .i64 1514, .int .i64 1, .string { data := #[82] }, .string { data := #[72, 101, 98, 114, 101, 119] }, .string { data := #[] }],
  .agg #[.int .i64 1523, .int .i64 1524, .int .i64 5, .string { data := #[82] }, .string { data := #[72, 101, 98, 114, 101, 119] }, .string { data := #[] }],
  .agg #[.int .i64 1575, .int .i64 1575, .int .i64 1, .string { data := #[65, 76] }, .string { data := #[65, 114, 97, 98, 105, 99] }, .string { data := #[82] }],
  .agg #[.int .i64 1583, .int .i64 1586, .int .i64 1, .string { data := #[65, 76] }, .string { data := #[65, 114, 97, 98, 105, 99] }, .string { data := #[82] }],
  .agg #[.int .i64 1608, .int .i64 1608, .int .i64 1, .string { data := #[65, 76] }, .string { data := #[65, 114, 97, 98, 105, 99] }, .string { data := #[82] }],
  .agg #[.int .i64 1576, .int .i64 1576, .int .i64 1, .string { data := #[65, 76] }, .string { data := #[65, 114, 97, 98, 105, 99] }, .string { data := #[68] }],
  .agg #[.int .i64 1578, .int .i64 1582, .int .i64 1, .string { data := #[65, 76] }, .string { data := #[65, 114, 97, 98, 105, 99] }, .string { data := #[68] }],
  .agg #[.int .i64 1587, .int .i64 1594, .int .i64 1, .string { data := #[65, 76] }, .string { data := #[65, 114, 97, 98, 105, 99] }, .string { data := #[68] }],
  .agg #[.int .i64 1601, .int .i64 1607, .int .i64 1, .string { data := #[65, 76] }, .string { data := #[65, 114, 97, 98, 105, 99] }, .string { data := #[68] }],
  .agg #[.int .i64 1609, .int .i64 1610, .int .i64 1, .string { data := #[65, 76] }, .string { data := #[65, 114, 97, 98, 105, 99] }, .string { data := #[68] }],
  .agg #[.int .i64 1577, .int .i64 1577, .int .i64 1, .string { data := #[65, 76] }, .string { data := #[65, 114, 97, 98, 105, 99] }, .string { data := #[82] }],
  .agg #[.int .i64 1611, .int .i64 1618, .int .i64 4, .string { data := #[78, 83, 77] }, .string { data := #[] }, .string { data := #[84] }],
  .agg #[.int .i64 1632, .int .i64 1641, .int .i64 5, .string { data := #[65, 78] }, .string { data := #[] }, .string { data := #[] }],
  .agg #[.int .i64 1776, .int .i64 1785, .int .i64 5, .string { data := #[69, 78] }, .string { data := #[] }, .string { data := #[] }],
  .agg #[.int .i64 2309, .int .i64 2361, .int .i64 1, .string { data := #[76] }, .string { data := #[68, 101, 118, 97, 110, 97, 103, 97, 114, 105] }, .string { data := #[] }],
  .agg #[.int .i64 2381, .int .i64 2381, .int .i64 4, .string { data := #[78, 83, 77] }, .string { data := #[] }, .string { data := #[84] }],
  .agg #[.int .i64 8204, .int .i64 8205, .int .i64 5, .string { data := #[] }, .string { data := #[] }, .string { data := #[] }],
  .agg #[.int .i64 12353, .int .i64 12438, .int .i64 1, .string { data := #[76] }, .string { data := #[72, 105, 114, 97, 103, 97, 110, 97] }, .string { data := #[] }],
  .agg #[.int .i64 12449, .int .i64 12538, .int .i64 1, .string { data := #[76] }, .string { data := #[75, 97, 116, 97, 107, 97, 110, 97] }, .string { data := #[] }],
  .agg #[.int .i64 12539, .int .i64 12539, .int .i64 5, .string { data := #[] }, .string { data := #[] }, .string { data := #[] }],
  .agg #[.int .i64 19968, .int .i64 40959, .int .i64 1, .string { data := #[76] }, .string { data := #[72, 97, 110] }, .string { data := #[] }], .slice (some ⟨w.heap.size, 0, none⟩) 33 33], []⟩
set_option maxRecDepth 100000 in
theorem table_any (w : World) : Calls Tryz.prog 85 #[] w fun e w' => e = .returned (.slice (some ⟨w.heap.size, 0, none⟩) 33 33) ∧ w' = w.alloc (.cells aggR 72) := by
  go_enter Tryz.func85, Tryz.ntmps85
  refine wp_seq (wp_region_run ⟨#[.slice none 0 0, undef, undef, undef, undef, undef, undef, undef, undef, undef, undef, undef, undef, undef, undef, undef, undef, undef, undef, undef, undef, undef, undef, undef, undef, undef, undef, undef, undef, undef, undef, undef, undef, undef, undef], []⟩ w (by kernel_rfl) ?_)
  refine wp_seq (wp_region_run (tableAct w) (w.alloc (.cells aggR 72)) (by kernel_rfl) ?_)
  refine wp_ret ?_
  go_ret
  exact ⟨rfl, rfl⟩
end Go.Proofs.YtkaaldhejpaiiaaGreatDoor

