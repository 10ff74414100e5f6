/- The document's answer: insert, where nothing stands yet. -/
import Derived.Test.YtkaaldhejpaiiaaGreatDoorSc
namespace Go.Proofs.YtkaaldhejpaiiaaGreatDoor
open Go.RowKit

theorem step_append_own_none {P : Program} {w : World} {ops : Array Oper} {o : Oper} {a : Act} {K : Act → World → Prop} {Q : Exit → Act → World → Prop} {E : Prop} (hgd : o.guard = none) (s x : Operand) (t : TypeId)
    (ho : o.op = .call { callee := .builtin .append, args := #[s, x], argTypes := #[t, t] })
    (base : Nat) (e : TypeId) (i : TypeInfo) (size : Nat) (ht : P.underlying t = some (.slice e)) (hi : P.info? e = some i)
    (v : Value) (n : Nat) (xs : List Value) (hs : a.eval s = v) (hown : w.ownsRow base e size v n xs) (hx : a.eval x = .slice none 0 0)
    (h : K (a.put o.dst v) w) : if Region.wanted o (yielded ops a.tmps) = true then Oper.wp P o a w K Q else E := by
  rw [if_pos (by simp [Region.wanted, hgd])]
  have hrun := run_append_owned_none (P := P) (w := w) base t o.type e i size ht hi v n xs hown
  unfold Oper.wp
  simp [execOp, ho, resolve, invoke, builtin, hs, hx, hrun, Result.andThen]
  exact h

set_option maxRecDepth 100000 in
set_option maxHeartbeats 4000000 in
theorem refInsert_nil (X B n bias : Nat) (b : Bool) (q : Nat) (w : World) (h : w.heap[X]? = some (.cells (sCells n 0 (.slice none 0 0) bias b) 106 (0, 0))) (hBX : B ≤ X) (h4 : q ≤ 1099511627776) :
    Calls Tryz.prog 69 #[.pointer (some ⟨X, 0, none⟩), .int .i64 q] w fun e w' => e = .returned (.tuple #[]) ∧ ∃ g' c', w'.heap[X]? = some (.cells (sCells n 1 (.slice (some ⟨g', 0, none⟩) 1 c') (Pm.biasN q 1 (!b)) true) 106 (0, 0)) ∧ w'.ownsRow w.heap.size 3 1 (.slice (some ⟨g', 0, none⟩) 1 c') 1 [iv n] ∧ Below B w w' := by
  obtain ⟨i0, hi, hz0, hz1, hz2⟩ := info_parts info3
  have c1 : w.cell? ⟨X, 1, none⟩ = some (.int .i64 (0 : Nat)) := by rw [cell_of_row w X 1 _ 106 (0, 0) h]; rfl
  have c1' : w.cell? ⟨X, 1, none⟩ = some (.int .i64 0) := c1
  have c2 : w.cell? ⟨X, 2, none⟩ = some (.slice none 0 0) := by rw [cell_of_row w X 2 _ 106 (0, 0) h]; rfl
  have hXl := (Array.getElem?_eq_some_iff.1 h).1
  have n1 := World.new_ne w ⟨X, 1, none⟩ c1
  have HX : Hid (w.heap[X]? = some (.cells (sCells n 0 (.slice none 0 0) bias b) 106 (0, 0))) := h
  clear h c1
  go_enter Tryz.func69, Tryz.ntmps69
  go_wp2
  go_region_held3 (fun W => W.cell? ⟨X, 1, none⟩ = some (.int .i64 0) ∧ W.cell? ⟨X, 2, none⟩ = some (.slice none 0 0)) (go_keep) ((refine step_append_own_none (by rfl) _ _ _ (by rfl) w.heap.size 3 i0 1 Tryz.underlying31 hi (.slice (some ⟨w.heap.size, 0, none⟩) 0 0) 0 [] (by rfl) (World.ownsRow_made w #[] 0 (Nat.le_refl _) (by decide) rfl) (by rfl) ?_))
  obtain ⟨w1, hw1⟩ : ∃ w1, w1 = (w.alloc (.cells #[] 3)).drew := ⟨_, rfl⟩
  rw [← hw1]
  have hb1 : Below w.heap.size w w1 := by rw [hw1]; exact ((Below.refl _ _).alloc (Nat.le_refl _) _).drew
  have HO1 : Hid (w1.ownsRow w.heap.size 3 1 (.slice (some ⟨w.heap.size, 0, none⟩) 0 0) 0 []) := by unfold Hid; rw [hw1]; exact World.ownsRow_made w #[] 0 (Nat.le_refl _) (by decide) rfl
  have hX1 : w1.heap[X]? = some (.cells (sCells n 0 (.slice none 0 0) bias b) 106 (0, 0)) := (hb1.block X hXl).trans HX.out
  have d0 : w1.cell? ⟨X, 0, none⟩ = some (.int .i64 n) := by rw [cell_of_row w1 X 0 _ 106 (0, 0) hX1]; rfl
  have HB1 : Hid (Below w.heap.size w w1) := hb1
  have hs1 := hb1.size
  clear hb1 hX1 c1' c2 n1 hw1
  go_wp2_with (at_builtin; refine wpList_append_own _ rfl (.tmp 17) (.tmp 22) 31 rfl w.heap.size 3 i0 (.int .i64 0) 1 8 Tryz.underlying31 hi hz0 hz1 hz2 rfl (by decide) _ _ _ rfl (HO1.out.alloc _) ⟨w1.heap.size, 0, none⟩ 1 1 [.int .i64 (n : Int)] rfl rfl (cell_one_new _ _ _) (one_iv [n]) (by unfold maxLen; omega) (by omega) (by simp; omega) ?_)
  intro v2 w2 hown2 hgr2 hne2
  obtain ⟨g2, cc2, rfl⟩ := own_notnil hown2 (by first | exact hne2 | simp [hne2])
  have hb2 : Below w.heap.size w w2 := (HB1.out.alloc hs1 _).trans (below_of_grown hgr2 (own_any HO1.out).1 (by simp; omega))
  have hX2 : w2.heap[X]? = some (.cells (sCells n 0 (.slice none 0 0) bias b) 106 (0, 0)) := (hb2.block X hXl).trans HX.out
  have d1 : w2.cell? ⟨X, 1, none⟩ = some (.int .i64 0) := by rw [cell_of_row w2 X 1 _ 106 (0, 0) hX2]; rfl
  have d2 : w2.cell? ⟨X, 2, none⟩ = some (.slice none 0 0) := by rw [cell_of_row w2 X 2 _ 106 (0, 0) hX2]; rfl
  have HB2 : Hid (Below w.heap.size w w2) := hb2
  have HX2 : Hid (w2.heap[X]? = some (.cells (sCells n 0 (.slice none 0 0) bias b) 106 (0, 0))) := hX2
  have hs2 := hb2.size
  have HO2 : Hid (w2.ownsRow w.heap.size 3 1 (.slice (some ⟨g2, 0, none⟩) 1 cc2) 1 [iv n]) := hown2
  have f2 : w2.frozen? ⟨X, 2, none⟩ = false := unfrozen hX2 2
  clear hown2 hgr2 hne2 hb2 hX2 d0 HO1 HB1 hs1
  go_wp2
  go_region_law (refine step_append_own_none (by rfl) _ _ _ (by rfl) w.heap.size 3 i0 1 Tryz.underlying31 hi (.slice (some ⟨g2, 0, none⟩) 1 cc2) 1 [iv n] (by rfl) HO2.out (by rfl) ?_)
  all_goals
    obtain ⟨w4, hw4⟩ : ∃ w4, w4 = (w2.setCell ⟨X, 2, none⟩ (.slice (some ⟨g2, 0, none⟩) 1 cc2)).drew := ⟨_, rfl⟩
    have hX4 : w4.heap[X]? = some (.cells (sCells n 0 (.slice (some ⟨g2, 0, none⟩) 1 cc2) bias b) 106 (0, 0)) := by rw [hw4]; exact setCell_row HX2.out 2 _
    have hgs : w2.grownBy w4 (some X) := by rw [hw4]; exact grown_drewN (grown_setCell (World.grownBy.refl _ _) _ _) 1
    have hg3 := own_any HO2.out
    have HO4 : Hid (w4.ownsRow w.heap.size 3 1 (.slice (some ⟨g2, 0, none⟩) 1 cc2) 1 [iv n]) := HO2.out.kept hgs (Or.inr (by simp [Value.ownBlock]; omega))
    have HB4 : Hid (Below B w w4) := (HB2.out.mono (by omega)).trans (below_of_grown hgs hBX (by omega))
    rw [← hw4]
    have HX4 : Hid (w4.heap[X]? = some (.cells (sCells n 0 (.slice (some ⟨g2, 0, none⟩) 1 cc2) bias b) 106 (0, 0))) := hX4
    have d3 : w4.cell? ⟨X, 3, none⟩ = some (.int .i64 bias) := by rw [cell_of_row w4 X 3 _ 106 (0, 0) hX4]; rfl
    have d4 : w4.cell? ⟨X, 4, none⟩ = some (.bool b) := by rw [cell_of_row w4 X 4 _ 106 (0, 0) hX4]; rfl
    have d5 : w4.cell? ⟨X, 2, none⟩ = some (.slice (some ⟨g2, 0, none⟩) 1 cc2) := by rw [cell_of_row w4 X 2 _ 106 (0, 0) hX4]; rfl
    have f4 : w4.frozen? ⟨X, 4, none⟩ = false := unfrozen hX4 4
    have f5 : w4.frozen? ⟨X, 3, none⟩ = false := unfrozen hX4 3
    clear hw4 hX4 hgs hg3 f2 d1 d2 HO2 HX2 HB2 hs2
    cases b
    · have HD : Hid ((Pm.damp q 1 true : Nat) = (q : Int) / 700 + (q : Int) / 700) := by unfold Hid Pm.damp; simp
      have hdm := Pm.damp_le q 1 true
      go_wp2
      go_loopw [5] (fun d wr => ∃ D Y : Nat, d = .int .i64 D ∧ wr.heap[X]? = some (.cells (sCells n 0 (.slice (some ⟨g2, 0, none⟩) 1 cc2) Y true) 106 (0, 0)) ∧ w4.grownBy wr (some X) ∧ D ≤ 1099511627776 ∧ Y + D ≤ 1099511627776 ∧ Pm.shr (Pm.damp q 1 true) 0 = Pm.shr D Y) (fun d _ => (intOf d).toNat)
      case atStart => exact ⟨Pm.damp q 1 true, 0, by rw [HD.out], setCell_row (setCell_row HX4.out 4 _) 3 _, grown_setCell (grown_setCell (World.grownBy.refl _ _) _ _) _ _, by omega, by omega, rfl⟩
      case round =>
        obtain ⟨D, Y, rfl, hXr, hgr, hD, hY, hsh⟩ := hrel
        have HS : Hid (Pm.shr (Pm.damp q 1 true) 0 = Pm.shr D Y) := hsh
        have HXr : Hid (wr.heap[X]? = some (.cells (sCells n 0 (.slice (some ⟨g2, 0, none⟩) 1 cc2) Y true) 106 (0, 0))) := hXr
        have HGr : Hid (w4.grownBy wr (some X)) := hgr
        have e3 : wr.cell? ⟨X, 3, none⟩ = some (.int .i64 Y) := by rw [cell_of_row wr X 3 _ 106 (0, 0) hXr]; rfl
        have e1 : wr.cell? ⟨X, 1, none⟩ = some (.int .i64 (0 : Nat)) := by rw [cell_of_row wr X 1 _ 106 (0, 0) hXr]; rfl
        have f6 : wr.frozen? ⟨X, 3, none⟩ = false := unfrozen hXr 3
        have f7 : wr.frozen? ⟨X, 1, none⟩ = false := unfrozen hXr 1
        clear hsh hXr hgr hdm d3 d4 d5 f4 f5
        by_cases hbig : 455 < D
        · go_wp2
          go_roundw
          case rel => exact ⟨D / 35, Y + 36, by go_num, setCell_row HXr.out 3 _, grown_setCell HGr.out _ _, by omega, by omega, by rw [HS.out, Pm.shr_big hbig]⟩
          case measure => simp [intOf]; omega
        · have hz : ¬ (D : Int) + 38 = 0 := by omega
          have hq1 : 0 ≤ 36 * (D : Int) / ((D : Int) + 38) := Int.ediv_nonneg (by omega) (by omega)
          have hq2 : 36 * (D : Int) / ((D : Int) + 38) ≤ 36 := Int.ediv_le_of_le_mul (by omega) (by omega)
          have HBN : Hid (((Pm.biasN q 1 true : Nat) : Int) = (Y : Int) + 36 * (D : Int) / ((D : Int) + 38)) := by
            unfold Hid Pm.biasN; rw [HS.out, Pm.shr_small hbig]; simp
          go_wp2
          go_region
          all_goals
            go_wp2
            go_end0
            have hg5 : wr.grownBy ((wr.setCell ⟨X, 3, none⟩ (.int .i64 ((Y : Int) + 36 * (D : Int) / ((D : Int) + 38)))).setCell ⟨X, 1, none⟩ (.int .i64 1)).drew (some X) := grown_drewN (grown_setCell (grown_setCell (World.grownBy.refl _ _) _ _) _ _) 1
            refine ⟨rfl, g2, cc2, ?_, ?_, ?_⟩
            · unfold sCells
              simp only [Bool.not_false]
              rw [HBN.out]
              exact setCell_row (setCell_row HXr.out 3 _) 1 _
            · exact (HO4.out.kept HGr.out (Or.inr (by have := (own_any HO4.out).1; simp [Value.ownBlock]; omega))).kept hg5 (Or.inr (by have := (own_any HO4.out).1; simp [Value.ownBlock]; omega))
            · exact HB4.out.trans ((below_of_grown HGr.out hBX (by have := HB4.out.size; omega)).trans (below_of_grown hg5 hBX (by have := HB4.out.size; have := HGr.out.size; omega)))
    · have HD : Hid ((Pm.damp q 1 false : Nat) = (q : Int) / 2 + (q : Int) / 2) := by unfold Hid Pm.damp; simp
      have hdm := Pm.damp_le q 1 false
      go_wp2
      go_loopw [5] (fun d wr => ∃ D Y : Nat, d = .int .i64 D ∧ wr.heap[X]? = some (.cells (sCells n 0 (.slice (some ⟨g2, 0, none⟩) 1 cc2) Y true) 106 (0, 0)) ∧ w4.grownBy wr (some X) ∧ D ≤ 1099511627776 ∧ Y + D ≤ 1099511627776 ∧ Pm.shr (Pm.damp q 1 false) 0 = Pm.shr D Y) (fun d _ => (intOf d).toNat)
      case atStart => exact ⟨Pm.damp q 1 false, 0, by rw [HD.out], setCell_row (setCell_row HX4.out 4 _) 3 _, grown_setCell (grown_setCell (World.grownBy.refl _ _) _ _) _ _, by omega, by omega, rfl⟩
      case round =>
        obtain ⟨D, Y, rfl, hXr, hgr, hD, hY, hsh⟩ := hrel
        have HS : Hid (Pm.shr (Pm.damp q 1 false) 0 = Pm.shr D Y) := hsh
        have HXr : Hid (wr.heap[X]? = some (.cells (sCells n 0 (.slice (some ⟨g2, 0, none⟩) 1 cc2) Y true) 106 (0, 0))) := hXr
        have HGr : Hid (w4.grownBy wr (some X)) := hgr
        have e3 : wr.cell? ⟨X, 3, none⟩ = some (.int .i64 Y) := by rw [cell_of_row wr X 3 _ 106 (0, 0) hXr]; rfl
        have e1 : wr.cell? ⟨X, 1, none⟩ = some (.int .i64 (0 : Nat)) := by rw [cell_of_row wr X 1 _ 106 (0, 0) hXr]; rfl
        have f6 : wr.frozen? ⟨X, 3, none⟩ = false := unfrozen hXr 3
        have f7 : wr.frozen? ⟨X, 1, none⟩ = false := unfrozen hXr 1
        clear hsh hXr hgr hdm d3 d4 d5 f4 f5
        by_cases hbig : 455 < D
        · go_wp2
          go_roundw
          case rel => exact ⟨D / 35, Y + 36, by go_num, setCell_row HXr.out 3 _, grown_setCell HGr.out _ _, by omega, by omega, by rw [HS.out, Pm.shr_big hbig]⟩
          case measure => simp [intOf]; omega
        · have hz : ¬ (D : Int) + 38 = 0 := by omega
          have hq1 : 0 ≤ 36 * (D : Int) / ((D : Int) + 38) := Int.ediv_nonneg (by omega) (by omega)
          have hq2 : 36 * (D : Int) / ((D : Int) + 38) ≤ 36 := Int.ediv_le_of_le_mul (by omega) (by omega)
          have HBN : Hid (((Pm.biasN q 1 false : Nat) : Int) = (Y : Int) + 36 * (D : Int) / ((D : Int) + 38)) := by
            unfold Hid Pm.biasN; rw [HS.out, Pm.shr_small hbig]; simp
          go_wp2
          go_region
          all_goals
            go_wp2
            go_end0
            have hg5 : wr.grownBy ((wr.setCell ⟨X, 3, none⟩ (.int .i64 ((Y : Int) + 36 * (D : Int) / ((D : Int) + 38)))).setCell ⟨X, 1, none⟩ (.int .i64 1)).drew (some X) := grown_drewN (grown_setCell (grown_setCell (World.grownBy.refl _ _) _ _) _ _) 1
            refine ⟨rfl, g2, cc2, ?_, ?_, ?_⟩
            · unfold sCells
              simp only [Bool.not_true]
              rw [HBN.out]
              exact setCell_row (setCell_row HXr.out 3 _) 1 _
            · exact (HO4.out.kept HGr.out (Or.inr (by have := (own_any HO4.out).1; simp [Value.ownBlock]; omega))).kept hg5 (Or.inr (by have := (own_any HO4.out).1; simp [Value.ownBlock]; omega))
            · exact HB4.out.trans ((below_of_grown HGr.out hBX (by have := HB4.out.size; omega)).trans (below_of_grown hg5 hBX (by have := HB4.out.size; have := HGr.out.size; omega)))
end Go.Proofs.YtkaaldhejpaiiaaGreatDoor
