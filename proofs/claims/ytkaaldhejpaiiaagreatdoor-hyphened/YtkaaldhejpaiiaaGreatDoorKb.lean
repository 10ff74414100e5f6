/- The walks of rowOf's closure and of rowOf. -/
import Derived.Test.YtkaaldhejpaiiaaGreatDoorKa
import Derived.Test.YtkaaldhejpaiiaaGreatDoorPi
import Derived.BigQuiet
import Derived.Deep.QuietTactic
import Derived.Shelf.SlSorted.Search
namespace Go.Proofs.YtkaaldhejpaiiaaGreatDoor
open Go.RowKit Go.Shelf Go.Sort

theorem cellK (W : World) (tt : TypeId) (fr : Nat × Nat) (hg : W.heap[0]? = some (.cells aggK tt fr)) (k : Nat) (hk : k < 33) :
    W.cell? ⟨0, k * 6, none⟩ = some (.int .i32 (rA k)) ∧ W.cell? ⟨0, k * 6 + 1, none⟩ = some (.int .i32 (rB k)) := by
  have h := cellsK k hk
  constructor
  · rw [cell_of_row W 0 (k * 6) _ tt fr hg]; exact h.1
  · rw [cell_of_row W 0 (k * 6 + 1) _ tt fr hg]; exact h.2.1

set_option maxHeartbeats 1000000 in
theorem rowF_any (b i : Nat) (n : Int) (W : World) (tt : TypeId) (fr : Nat × Nat) (hi : i < 33) (hb : W.cell? ⟨b, 0, none⟩ = some (.int .i64 n)) (hg : W.heap[0]? = some (.cells aggK tt fr)) :
    Calls Tryz.prog 45 #[.int .i64 i, .pointer (some ⟨b, 0, none⟩)] W fun e w' => e = .returned (.bool (decide (n ≤ rB i))) ∧ ∃ q, w' = W.drewN q := by
  have hc := (cellK W tt fr hg i hi).2
  have h33 : (i : Int) < 33 := by omega
  obtain ⟨_, _, hl, hu⟩ := rAB_low ⟨i, by omega⟩
  simp only at hl hu
  clear hg
  go_enter Tryz.func45, Tryz.ntmps45
  go_wp2
  go_quiet (fail)
  go_wp2
  go_ret
  exact ⟨rfl, nq, rfl⟩

def renS : Go.Shelf.Ren := ⟨fun | 16 => 44 | n => n, fun | 35 => 86 | 38 => 110 | n => n, fun n => n⟩
theorem laysS : SlLaysO.n16 Tryz.prog renS := {
  mixed := by kernel_rfl
  f16 := Tryz.func44.trans (congrArg some (by kernel_rfl))
  t3 := Tryz.underlying3
  a3 := Tryz.isAgg3
  z3 := Tryz.sizeOf3
  v3 := Tryz.zeroValue3
  t4 := Tryz.underlying4
  a4 := Tryz.isAgg4
  z4 := Tryz.sizeOf4
  v4 := Tryz.zeroValue4
  t35 := Tryz.underlying86
  a35 := Tryz.isAgg86
  z35 := Tryz.sizeOf86
  v35 := Tryz.zeroValue86
  t38 := Tryz.underlying110
  a38 := Tryz.isAgg110
  z38 := Tryz.sizeOf110
  v38 := Tryz.zeroValue110 }

theorem heap_grown {W : World} {k m : Nat} {os : Array Obj} {o : Obj} (h : W.heap[k]? = some o) : (grow (W.drewN m) os).heap[k]? = some o := by
  have hl : k < W.heap.size := (Array.getElem?_eq_some_iff.1 h).1
  rw [heap_grow_old _ _ (show k < (W.drewN m).heap.size from hl)]
  exact h

/-- The project's row of a number. -/
def rowVal (n : Int) : Value := if idxK n = 33 ∨ n < rA (idxK n) then .agg #[.int .i32 0, .int .i32 0, .int .u8 0, .int .u8 0, .int .u8 0, .int .u8 0] else .agg #[.int .i32 (rA (idxK n)), .int .i32 (rB (idxK n)), .int .u8 (rC (idxK n)), .int .u8 (rS (idxK n)), .int .u8 (rD (idxK n)), .int .u8 (rE (idxK n))]

theorem six {W : World} {r : Nat} {a b c s d e : Value} {t : TypeId} (h : W.heap[r]? = some (.cells #[a, b, c, s, d, e] t (0, 0))) :
    W.cell? ⟨r, 0, none⟩ = some a ∧ W.cell? ⟨r, 1, none⟩ = some b ∧ W.cell? ⟨r, 2, none⟩ = some c ∧ W.cell? ⟨r, 3, none⟩ = some s ∧ W.cell? ⟨r, 4, none⟩ = some d ∧ W.cell? ⟨r, 5, none⟩ = some e := by
  refine ⟨?_, ?_, ?_, ?_, ?_, ?_⟩ <;> (rw [cell_of_row _ _ _ _ t (0, 0) h]; rfl)

theorem set6 {W : World} {r : Nat} {x0 x1 x2 x3 x4 x5 : Value} {t : TypeId} (h : W.heap[r]? = some (.cells #[x0, x1, x2, x3, x4, x5] t (0, 0))) (a b c s d e : Value) :
    ((((((W.setCell ⟨r, 0, none⟩ (a)).setCell ⟨r, 1, none⟩ (b)).setCell ⟨r, 2, none⟩ (c)).setCell ⟨r, 3, none⟩ (s)).setCell ⟨r, 4, none⟩ (d)).setCell ⟨r, 5, none⟩ (e)).heap[r]? = some (.cells #[a, b, c, s, d, e] t (0, 0)) := by
  simp only [setCell_eq, mapBlock, Array.getElem?_modify, if_true, h, Option.map_some, onCells]
  rfl
theorem below6 {w W : World} {B : Nat} (h : Below B w W) (r : Nat) (hr : B ≤ r) (a b c s d e : Value) :
    Below B w ((((((W.setCell ⟨r, 0, none⟩ (a)).setCell ⟨r, 1, none⟩ (b)).setCell ⟨r, 2, none⟩ (c)).setCell ⟨r, 3, none⟩ (s)).setCell ⟨r, 4, none⟩ (d)).setCell ⟨r, 5, none⟩ (e)) := by
  exact (((((h.setCell (p := ⟨r, 0, none⟩) hr a).setCell (p := ⟨r, 1, none⟩) hr b).setCell (p := ⟨r, 2, none⟩) hr c).setCell (p := ⟨r, 3, none⟩) hr s).setCell (p := ⟨r, 4, none⟩) hr d).setCell (p := ⟨r, 5, none⟩) hr e

set_option maxRecDepth 100000 in
set_option maxHeartbeats 4000000 in
theorem rowOf_any (n : Int) (w : World) (tt : TypeId) (fr : Nat × Nat) (hg : w.heap[0]? = some (.cells aggK tt fr)) :
    Calls Tryz.prog 27 #[.int .i64 n] w fun e w' => e = .returned (rowVal n) ∧ Below w.heap.size w w' := by
  obtain ⟨W0, hW0⟩ : ∃ W0, W0 = (w.alloc (.cells #[.int .i64 n] 3)).alloc (.cells #[.int .i32 0, .int .i32 0, .int .u8 0, .int .u8 0, .int .u8 0, .int .u8 0] 61) := ⟨_, rfl⟩
  have hB0 : Below w.heap.size w W0 := by rw [hW0]; exact ((Below.refl _ w).alloc (Nat.le_refl _) _).alloc (by simp) _
  have hg0 : W0.heap[0]? = some (.cells aggK tt fr) := (hB0.block 0 (Array.getElem?_eq_some_iff.1 hg).1).trans hg
  have ca : W0.heap[w.heap.size]? = some (.cells #[.int .i64 n] 3) := by rw [hW0]; exact (((Below.refl (w.alloc (.cells #[.int .i64 n] 3)).heap.size _).alloc (Nat.le_refl _) _).block w.heap.size (by simp)).trans (Go.heap_alloc_new w _)
  have cr : W0.heap[w.heap.size + 1]? = some (.cells #[.int .i32 0, .int .i32 0, .int .u8 0, .int .u8 0, .int .u8 0, .int .u8 0] 61) := by
    rw [hW0]
    have h := Go.heap_alloc_new (w.alloc (.cells #[.int .i64 n] 3)) (.cells #[.int .i32 0, .int .i32 0, .int .u8 0, .int .u8 0, .int .u8 0, .int .u8 0] 61)
    rwa [World.size_alloc] at h
  have eg : ∀ args w, (callFunc 45 args).run Tryz.prog w = .ok (.enter 45 args) w := enters_of Tryz.func45 (by kernel_rfl) rfl
  have hS := Any.sort_Search laysS 45 #[.pointer (some ⟨w.heap.size, 0, none⟩)] 33 (fun i => decide (n ≤ rB i)) W0 eg (by omega)
    (fun m os i hi => (rowF_any w.heap.size i n _ tt fr hi (by rw [cell_of_row _ _ 0 _ 3 (0, 0) (heap_grown ca)]; rfl) (heap_grown hg0)).mono fun _ _ ⟨he, q, hq⟩ => ⟨he, q, #[], by rw [hq, grow_empty]⟩)
    (fun a b hab hb h => by
      have := rB_up ⟨a, by omega⟩ ⟨b, hb⟩ hab
      simp only [decide_eq_true_eq] at h ⊢
      simp only at this
      omega)
  have hmf : ∀ (fn : Fn) (first cap : Array Value) (w : World), (Instr.makeFunc fn first cap).run Tryz.prog w = .ok (.func fn first cap) w := fun _ _ _ _ => rfl
  have e16 : renS.f 16 = 44 := rfl
  rw [e16] at hS
  have hK := idxK_le n
  obtain ⟨K, hKe⟩ : ∃ K, idxK n = K := ⟨_, rfl⟩
  have hS2 : Calls Tryz.prog 44 #[.int .i64 (33 : Int), .func (.func 45) #[] #[.pointer (some ⟨w.heap.size, 0, none⟩)]] W0 fun e w' => e = .returned (.int .i64 (K : Nat)) ∧ w'.heap[0]? = some (.cells aggK tt fr) ∧ w'.heap[w.heap.size]? = some (.cells #[.int .i64 n] 3) ∧ w'.heap[w.heap.size + 1]? = some (.cells #[.int .i32 0, .int .i32 0, .int .u8 0, .int .u8 0, .int .u8 0, .int .u8 0] 61) ∧ Below w.heap.size w w' :=
    hS.mono (by
      rintro e w' ⟨rfl, q, os, rfl⟩
      rw [← hKe]
      refine ⟨rfl, heap_grown hg0, heap_grown ca, heap_grown cr, hB0.trans (below_grown_sl w.heap.size W0 q os hB0.size)⟩)
  rw [hKe] at hK
  have HKe : Hid (idxK n = K) := hKe
  clear hS eg e16 hg0 ca cr hB0 hg hKe
  go_enter Tryz.func27, Tryz.ntmps27
  go_wp2_with (go_at_call 44; rw [← hW0]; refine hS2.mono ?_; rintro e w1 ⟨rfl, hg1, ha1, hr1, hb1⟩)
  have a1 : w1.cell? ⟨w.heap.size, 0, none⟩ = some (.int .i64 n) := by rw [cell_of_row _ _ 0 _ 3 (0, 0) ha1]; rfl
  clear hS2 hmf ha1
  by_cases hK33 : K = 33
  · subst hK33
    go_quiet (fail)
    have hr2 : (w1.drewN nq).heap[w.heap.size + 1]? = some (.cells #[.int .i32 0, .int .i32 0, .int .u8 0, .int .u8 0, .int .u8 0, .int .u8 0] 61) := hr1
    have HB2 : Hid (Below w.heap.size w (w1.drewN nq)) := ⟨hb1.os, hb1.tape, hb1.output, hb1.size, hb1.block⟩
    clear a1 hr1 hb1 hg1
    generalize w1.drewN nq = w2 at *
    obtain ⟨r0, r1, r2, r3, r4, r5⟩ := six hr2
    have f0 : ∀ j, w2.frozen? ⟨w.heap.size + 1, j, none⟩ = false := fun j => unfrozen hr2 j
    go_wp2
    have q5 := set6 hr2 (.int .i32 0) (.int .i32 0) (.int .u8 0) (.int .u8 0) (.int .u8 0) (.int .u8 0)
    have HB5 : Hid (Below w.heap.size w _) := below6 HB2.out (w.heap.size + 1) (by omega) (.int .i32 0) (.int .i32 0) (.int .u8 0) (.int .u8 0) (.int .u8 0) (.int .u8 0)
    revert q5 HB5
    generalize (((((w2.setCell ⟨w.heap.size + 1, 0, none⟩ (.int .i32 0)).setCell ⟨w.heap.size + 1, 1, none⟩ (.int .i32 0)).setCell ⟨w.heap.size + 1, 2, none⟩ (.int .u8 0)).setCell ⟨w.heap.size + 1, 3, none⟩ (.int .u8 0)).setCell ⟨w.heap.size + 1, 4, none⟩ (.int .u8 0)).setCell ⟨w.heap.size + 1, 5, none⟩ (.int .u8 0) = w5
    intro q5 HB5
    obtain ⟨s0, s1, s2, s3, s4, s5⟩ := six q5
    refine bodyPost_ret (v := .agg #[.int .i32 0, .int .i32 0, .int .u8 0, .int .u8 0, .int .u8 0, .int .u8 0]) (by simp [results, Tryz.results27, go_sem, s0, s1, s2, s3, s4, s5]) rfl ⟨?_, HB5.out⟩
    unfold rowVal
    rw [HKe.out, if_pos (Or.inl rfl)]
  · have hne : ((K : Int) == 33) = false := by simp; omega
    have hKl : (K : Int) < 33 := by omega
    obtain ⟨hal, hau, _, _⟩ := rAB_low ⟨K, by omega⟩
    simp only at hal hau
    have t0 : w1.cell? ⟨0, K * 6, none⟩ = some (.int .i32 (rA K)) := (cellK w1 tt fr hg1 K (by omega)).1
    by_cases hlt : n < rA K
    · go_quiet (fail)
      have hr2 : (w1.drewN nq).heap[w.heap.size + 1]? = some (.cells #[.int .i32 0, .int .i32 0, .int .u8 0, .int .u8 0, .int .u8 0, .int .u8 0] 61) := hr1
      have HB2 : Hid (Below w.heap.size w (w1.drewN nq)) := ⟨hb1.os, hb1.tape, hb1.output, hb1.size, hb1.block⟩
      clear a1 hr1 hb1 hg1 t0
      generalize w1.drewN nq = w2 at *
      obtain ⟨r0, r1, r2, r3, r4, r5⟩ := six hr2
      have f0 : ∀ j, w2.frozen? ⟨w.heap.size + 1, j, none⟩ = false := fun j => unfrozen hr2 j
      go_wp2
      have q5 := set6 hr2 (.int .i32 0) (.int .i32 0) (.int .u8 0) (.int .u8 0) (.int .u8 0) (.int .u8 0)
      have HB5 : Hid (Below w.heap.size w _) := below6 HB2.out (w.heap.size + 1) (by omega) (.int .i32 0) (.int .i32 0) (.int .u8 0) (.int .u8 0) (.int .u8 0) (.int .u8 0)
      revert q5 HB5
      generalize (((((w2.setCell ⟨w.heap.size + 1, 0, none⟩ (.int .i32 0)).setCell ⟨w.heap.size + 1, 1, none⟩ (.int .i32 0)).setCell ⟨w.heap.size + 1, 2, none⟩ (.int .u8 0)).setCell ⟨w.heap.size + 1, 3, none⟩ (.int .u8 0)).setCell ⟨w.heap.size + 1, 4, none⟩ (.int .u8 0)).setCell ⟨w.heap.size + 1, 5, none⟩ (.int .u8 0) = w5
      intro q5 HB5
      obtain ⟨s0, s1, s2, s3, s4, s5⟩ := six q5
      refine bodyPost_ret (v := .agg #[.int .i32 0, .int .i32 0, .int .u8 0, .int .u8 0, .int .u8 0, .int .u8 0]) (by simp [results, Tryz.results27, go_sem, s0, s1, s2, s3, s4, s5]) rfl ⟨?_, HB5.out⟩
      unfold rowVal
      rw [HKe.out, if_pos (Or.inr hlt)]
    · have hlt' : decide (n < rA K) = false := decide_eq_false hlt
      go_quiet (fail)
      have hr2 : (w1.drewN nq).heap[w.heap.size + 1]? = some (.cells #[.int .i32 0, .int .i32 0, .int .u8 0, .int .u8 0, .int .u8 0, .int .u8 0] 61) := hr1
      have hg2 : (w1.drewN nq).heap[0]? = some (.cells aggK tt fr) := hg1
      have HB2 : Hid (Below w.heap.size w (w1.drewN nq)) := ⟨hb1.os, hb1.tape, hb1.output, hb1.size, hb1.block⟩
      clear a1 hr1 hb1 hg1 t0
      generalize w1.drewN nq = w2 at *
      obtain ⟨r0, r1, r2, r3, r4, r5⟩ := six hr2
      have f0 : ∀ j, w2.frozen? ⟨w.heap.size + 1, j, none⟩ = false := fun j => unfrozen hr2 j
      obtain ⟨k0, k1, k2, k3, k4, k5⟩ := cellsK K (by omega)
      have t0 : w2.cell? ⟨0, K * 6, none⟩ = some (.int .i32 (rA K)) := by rw [cell_of_row _ _ _ _ tt fr hg2]; exact k0
      have t1 : w2.cell? ⟨0, K * 6 + 1, none⟩ = some (.int .i32 (rB K)) := by rw [cell_of_row _ _ _ _ tt fr hg2]; exact k1
      have t2 : w2.cell? ⟨0, K * 6 + 2, none⟩ = some (.int .u8 (rC K)) := by rw [cell_of_row _ _ _ _ tt fr hg2]; exact k2
      have t3 : w2.cell? ⟨0, K * 6 + 3, none⟩ = some (.int .u8 (rS K)) := by rw [cell_of_row _ _ _ _ tt fr hg2]; exact k3
      have t4 : w2.cell? ⟨0, K * 6 + 4, none⟩ = some (.int .u8 (rD K)) := by rw [cell_of_row _ _ _ _ tt fr hg2]; exact k4
      have t5 : w2.cell? ⟨0, K * 6 + 5, none⟩ = some (.int .u8 (rE K)) := by rw [cell_of_row _ _ _ _ tt fr hg2]; exact k5
      clear hg2 k0 k1 k2 k3 k4 k5
      go_wp2
      have q5 := set6 hr2 (.int .i32 (rA K)) (.int .i32 (rB K)) (.int .u8 (rC K)) (.int .u8 (rS K)) (.int .u8 (rD K)) (.int .u8 (rE K))
      have HB5 : Hid (Below w.heap.size w _) := below6 HB2.out (w.heap.size + 1) (by omega) (.int .i32 (rA K)) (.int .i32 (rB K)) (.int .u8 (rC K)) (.int .u8 (rS K)) (.int .u8 (rD K)) (.int .u8 (rE K))
      revert q5 HB5
      generalize (((((w2.setCell ⟨w.heap.size + 1, 0, none⟩ (.int .i32 (rA K))).setCell ⟨w.heap.size + 1, 1, none⟩ (.int .i32 (rB K))).setCell ⟨w.heap.size + 1, 2, none⟩ (.int .u8 (rC K))).setCell ⟨w.heap.size + 1, 3, none⟩ (.int .u8 (rS K))).setCell ⟨w.heap.size + 1, 4, none⟩ (.int .u8 (rD K))).setCell ⟨w.heap.size + 1, 5, none⟩ (.int .u8 (rE K)) = w5
      intro q5 HB5
      obtain ⟨s0, s1, s2, s3, s4, s5⟩ := six q5
      refine bodyPost_ret (v := .agg #[.int .i32 (rA K), .int .i32 (rB K), .int .u8 (rC K), .int .u8 (rS K), .int .u8 (rD K), .int .u8 (rE K)]) (by simp [results, Tryz.results27, go_sem, s0, s1, s2, s3, s4, s5]) rfl ⟨?_, HB5.out⟩
      unfold rowVal
      rw [HKe.out, if_neg (by omega)]

end Go.Proofs.YtkaaldhejpaiiaaGreatDoor
