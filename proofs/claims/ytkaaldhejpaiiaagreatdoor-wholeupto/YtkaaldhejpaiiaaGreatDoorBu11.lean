import Derived.Test.YtkaaldhejpaiiaaGreatDoorBu10
import Derived.Deep.LoopGhost
/- The document's answer: insert, where nothing stands yet. -/
namespace Go.Proofs.YtkaaldhejpaiiaaGreatDoor
open Go.RowKit

theorem step_append_own_none {P : Program} {w : World} {ops : Array Oper} {o : Oper} {a : Act} {K : Act → World → Prop} {Q : Exit → Act → World → Prop} {E : Prop} (hgd : o.guard = none) (s x : Operand) (t : TypeId)
    (ho : o.op = .call { callee := .builtin .append, args := #[s, x], argTypes := #[t, t] })
    (base : Nat) (e : TypeId) (i : TypeInfo) (size : Nat) (ht : P.underlying t = some (.slice e)) (hi : P.info? e = some i)
    (v : Value) (n : Nat) (xs : List Value) (hs : a.eval s = v) (hown : w.ownsRow base e size v n xs) (hx : a.eval x = .slice none 0 0)
    (h : K (a.put o.dst v) w) : if Region.wanted o (yielded ops a.tmps) = true then Oper.wp P o a w K Q else E := by
  rw [if_pos (by simp [Region.wanted, hgd])]
  have hrun := run_append_owned_none (P := P) (w := w) base t o.type e i size ht hi v n xs hown
  unfold Oper.wp
  simp [execOp, ho, resolve, invoke, builtin, hs, hx, hrun, Result.andThen]
  exact h

set_option maxRecDepth 100000 in
set_option maxHeartbeats 4000000 in
theorem refInsert_nil (X B n bias : Nat) (b : Bool) (q : Nat) (w : World) (h : w.heap[X]? = some (.cells (sCells n 0 (.slice none 0 0) bias b) 106 (0, 0))) (hBX : B ≤ X) (h4 : q ≤ 1099511627776) :
    Calls Tryz.prog 69 #[.pointer (some ⟨X, 0, none⟩), .int .i64 q] w fun e w' => e = .returned (.tuple #[]) ∧ ∃ g' c', w'.heap[X]? = some (.cells (sCells n 1 (.slice (some ⟨g', 0, none⟩) 1 c') (Pm.biasN q 1 (!b)) true) 106 (0, 0)) ∧ w'.ownsRow w.heap.size 3 1 (.slice (some ⟨g', 0, none⟩) 1 c') 1 [iv n] ∧ Below B w w' := by
  obtain ⟨i0, hi, hz0, hz1, hz2⟩ := info_parts info3
  have c1 : w.cell? ⟨X, 1, none⟩ = some (.int .i64 (0 : Nat)) := by rw [cell_of_row w X 1 _ 106 (0, 0) h]; rfl
  have c1' : w.cell? ⟨X, 1, none⟩ = some (.int .i64 0) := c1
  have c2 : w.cell? ⟨X, 2, none⟩ = some (.slice none 0 0) := by rw [cell_of_row w X 2 _ 106 (0, 0) h]; rfl
  have hXl := (Array.getElem?_eq_some_iff.1 h).1
  have n1 := World.new_ne w ⟨X, 1, none⟩ c1
  have HX : Hid (w.heap[X]? = some (.cells (sCells n 0 (.slice none 0 0) bias b) 106 (0, 0))) := h
  clear h c1
  go_enter Tryz.func69, Tryz.ntmps69
  go_wp2
  go_region_held3 (fun W => W.cell? ⟨X, 1, none⟩ = some (.int .i64 0) ∧ W.cell? ⟨X, 2, none⟩ = some (.slice none 0 0)) (go_keep) ((refine step_append_own_none (by rfl) _ _ _ (by rfl) w.heap.size 3 i0 1 Tryz.underlying31 hi (.slice (some ⟨w.heap.size, 0, none⟩) 0 0) 0 [] (by rfl) (World.ownsRow_made w #[] 0 (Nat.le_refl _) (by decide) rfl) (by rfl) ?_))
  obtain ⟨w1, hw1⟩ : ∃ w1, w1 = (w.alloc (.cells #[] 3)).drew := ⟨_, rfl⟩
  rw [← hw1]
  have hb1 : Below w.heap.size w w1 := by rw [hw1]; exact ((Below.refl _ _).alloc (Nat.le_refl _) _).drew
  have HO1 : Hid (w1.ownsRow w.heap.size 3 1 (.slice (some ⟨w.heap.size, 0, none⟩) 0 0) 0 []) := by unfold Hid; rw [hw1]; exact World.ownsRow_made w #[] 0 (Nat.le_refl _) (by decide) rfl
  have hX1 : w1.heap[X]? = some (.cells (sCells n 0 (.slice none 0 0) bias b) 106 (0, 0)) := (hb1.block X hXl).trans HX.out
  have d0 : w1.cell? ⟨X, 0, none⟩ = some (.int .i64 n) := by rw [cell_of_row w1 X 0 _ 106 (0, 0) hX1]; rfl
  have HB1 : Hid (Below w.heap.size w w1) := hb1
  have hs1 := hb1.size
  clear hb1 hX1 c1' c2 n1 hw1
  go_wp2_with (at_builtin; refine wpList_append_own _ rfl (.tmp 17) (.tmp 22) 31 rfl w.heap.size 3 i0 (.int .i64 0) 1 8 Tryz.underlying31 hi hz0 hz1 hz2 rfl (by decide) _ _ _ rfl (HO1.out.alloc _) ⟨w1.heap.size, 0, none⟩ 1 1 [.int .i64 (n : Int)] rfl rfl (cell_one_new _ _ _) (one_iv [n]) (by unfold maxLen; omega) (by omega) (by simp; omega) ?_)
  intro v2 w2 hown2 hgr2 hne2
  obtain ⟨g2, cc2, rfl⟩ := own_notnil hown2 (by first | exact hne2 | simp [hne2])
  have hb2 : Below w.heap.size w w2 := (HB1.out.alloc hs1 _).trans (below_of_grown hgr2 (own_any HO1.out).1 (by simp; omega))
  have hX2 : w2.heap[X]? = some (.cells (sCells n 0 (.slice none 0 0) bias b) 106 (0, 0)) := (hb2.block X hXl).trans HX.out
  have d1 : w2.cell? ⟨X, 1, none⟩ = some (.int .i64 0) := by rw [cell_of_row w2 X 1 _ 106 (0, 0) hX2]; rfl
  have d2 : w2.cell? ⟨X, 2, none⟩ = some (.slice none 0 0) := by rw [cell_of_row w2 X 2 _ 106 (0, 0) hX2]; rfl
  have HB2 : Hid (Below w.heap.size w w2) := hb2
  have HX2 : Hid (w2.heap[X]? = some (.cells (sCells n 0 (.slice none 0 0) bias b) 106 (0, 0))) := hX2
  have hs2 := hb2.size
  have HO2 : Hid (w2.ownsRow w.heap.size 3 1 (.slice (some ⟨g2, 0, none⟩) 1 cc2) 1 [iv n]) := hown2
  have f2 : w2.frozen? ⟨X, 2, none⟩ = false := unfrozen hX2 2
  clear hown2 hgr2 hne2 hb2 hX2 d0 HO1 HB1 hs1
  go_wp2
  go_region_law (refine step_append_own_none (by rfl) _ _ _ (by rfl) w.heap.size 3 i0 1 Tryz.underlying31 hi (.slice (some ⟨g2, 0, none⟩) 1 cc2) 1 [iv n] (by rfl) HO2.out (by rfl) ?_)
  all_goals
    obtain ⟨w4, hw4⟩ : ∃ w4, w4 = (w2.setCell ⟨X, 2, none⟩ (.slice (some ⟨g2, 0, none⟩) 1 cc2)).drew := ⟨_, rfl⟩
    have hX4 : w4.heap[X]? = some (.cells (sCells n 0 (.slice (some ⟨g2, 0, none⟩) 1 cc2) bias b) 106 (0, 0)) := by rw [hw4]; exact setCell_row HX2.out 2 _
    have hgs : w2.grownBy w4 (some X) := by rw [hw4]; exact grown_drewN (grown_setCell (World.grownBy.refl _ _) _ _) 1
    have hg3 := own_any HO2.out
    have HO4 : Hid (w4.ownsRow w.heap.size 3 1 (.slice (some ⟨g2, 0, none⟩) 1 cc2) 1 [iv n]) := HO2.out.kept hgs (Or.inr (by simp [Value.ownBlock]; omega))
    have HB4 : Hid (Below B w w4) := (HB2.out.mono (by omega)).trans (below_of_grown hgs hBX (by omega))
    rw [← hw4]
    have HX4 : Hid (w4.heap[X]? = some (.cells (sCells n 0 (.slice (some ⟨g2, 0, none⟩) 1 cc2) bias b) 106 (0, 0))) := hX4
    have d3 : w4.cell? ⟨X, 3, none⟩ = some (.int .i64 bias) := by rw [cell_of_row w4 X 3 _ 106 (0, 0) hX4]; rfl
    have d4 : w4.cell? ⟨X, 4, none⟩ = some (.bool b) := by rw [cell_of_row w4 X 4 _ 106 (0, 0) hX4]; rfl
    have d5 : w4.cell? ⟨X, 2, none⟩ = some (.slice (some ⟨g2, 0, none⟩) 1 cc2) := by rw [cell_of_row w4 X 2 _ 106 (0, 0) hX4]; rfl
    have f4 : w4.frozen? ⟨X, 4, none⟩ = false := unfrozen hX4 4
    have f5 : w4.frozen? ⟨X, 3, none⟩ = false := unfrozen hX4 3
    clear hw4 hX4 hgs hg3 f2 d1 d2 HO2 HX2 HB2 hs2
    cases b
    · have HD : Hid ((Pm.damp q 1 true : Nat) = (q : Int) / 700 + (q : Int) / 700) := by unfold Hid Pm.damp; simp
      have hdm := Pm.damp_le q 1 true
      go_wp2
      go_loopw [5] (fun d wr => ∃ D Y : Nat, d = .int .i64 D ∧ wr.heap[X]? = some (.cells (sCells n 0 (.slice (some ⟨g2, 0, none⟩) 1 cc2) Y true) 106 (0, 0)) ∧ w4.grownBy wr (some X) ∧ D ≤ 1099511627776 ∧ Y + D ≤ 1099511627776 ∧ Pm.shr (Pm.damp q 1 true) 0 = Pm.shr D Y) (fun d _ => (intOf d).toNat)
      case atStart => exact ⟨Pm.damp q 1 true, 0, by rw [HD.out], setCell_row (setCell_row HX4.out 4 _) 3 _, grown_setCell (grown_setCell (World.grownBy.refl _ _) _ _) _ _, by omega, by omega, rfl⟩
      case round =>
        obtain ⟨D, Y, rfl, hXr, hgr, hD, hY, hsh⟩ := hrel
        have HS : Hid (Pm.shr (Pm.damp q 1 true) 0 = Pm.shr D Y) := hsh
        have HXr : Hid (wr.heap[X]? = some (.cells (sCells n 0 (.slice (some ⟨g2, 0, none⟩) 1 cc2) Y true) 106 (0, 0))) := hXr
        have HGr : Hid (w4.grownBy wr (some X)) := hgr
        have e3 : wr.cell? ⟨X, 3, none⟩ = some (.int .i64 Y) := by rw [cell_of_row wr X 3 _ 106 (0, 0) hXr]; rfl
        have e1 : wr.cell? ⟨X, 1, none⟩ = some (.int .i64 (0 : Nat)) := by rw [cell_of_row wr X 1 _ 106 (0, 0) hXr]; rfl
        have f6 : wr.frozen? ⟨X, 3, none⟩ = false := unfrozen hXr 3
        have f7 : wr.frozen? ⟨X, 1, none⟩ = false := unfrozen hXr 1
        clear hsh hXr hgr hdm d3 d4 d5 f4 f5
        by_cases hbig : 455 < D
        · go_wp2
          go_roundw
          case rel => exact ⟨D / 35, Y + 36, by go_num, setCell_row HXr.out 3 _, grown_setCell HGr.out _ _, by omega, by omega, by rw [HS.out, Pm.shr_big hbig]⟩
          case measure => simp [intOf]; omega
        · have hz : ¬ (D : Int) + 38 = 0 := by omega
          have hq1 : 0 ≤ 36 * (D : Int) / ((D : Int) + 38) := Int.ediv_nonneg (by omega) (by omega)
          have hq2 : 36 * (D : Int) / ((D : Int) + 38) ≤ 36 := Int.ediv_le_of_le_mul (by omega) (by omega)
          have HBN : Hid (((Pm.biasN q 1 true : Nat) : Int) = (Y : Int) + 36 * (D : Int) / ((D : Int) + 38)) := by
            unfold Hid Pm.biasN; rw [HS.out, Pm.shr_small hbig]; simp
          go_wp2
          go_region
          all_goals
            go_wp2
            go_end0
            have hg5 : wr.grownBy ((wr.setCell ⟨X, 3, none⟩ (.int .i64 ((Y : Int) + 36 * (D : Int) / ((D : Int) + 38)))).setCell ⟨X, 1, none⟩ (.int .i64 1)).drew (some X) := grown_drewN (grown_setCell (grown_setCell (World.grownBy.refl _ _) _ _) _ _) 1
            refine ⟨rfl, g2, cc2, ?_, ?_, ?_⟩
            · unfold sCells
              simp only [Bool.not_false]
              rw [HBN.out]
              exact setCell_row (setCell_row HXr.out 3 _) 1 _
            · exact (HO4.out.kept HGr.out (Or.inr (by have := (own_any HO4.out).1; simp [Value.ownBlock]; omega))).kept hg5 (Or.inr (by have := (own_any HO4.out).1; simp [Value.ownBlock]; omega))
            · exact HB4.out.trans ((below_of_grown HGr.out hBX (by have := HB4.out.size; omega)).trans (below_of_grown hg5 hBX (by have := HB4.out.size; have := HGr.out.size; omega)))
    · have HD : Hid ((Pm.damp q 1 false : Nat) = (q : Int) / 2 + (q : Int) / 2) := by unfold Hid Pm.damp; simp
      have hdm := Pm.damp_le q 1 false
      go_wp2
      go_loopw [5] (fun d wr => ∃ D Y : Nat, d = .int .i64 D ∧ wr.heap[X]? = some (.cells (sCells n 0 (.slice (some ⟨g2, 0, none⟩) 1 cc2) Y true) 106 (0, 0)) ∧ w4.grownBy wr (some X) ∧ D ≤ 1099511627776 ∧ Y + D ≤ 1099511627776 ∧ Pm.shr (Pm.damp q 1 false) 0 = Pm.shr D Y) (fun d _ => (intOf d).toNat)
      case atStart => exact ⟨Pm.damp q 1 false, 0, by rw [HD.out], setCell_row (setCell_row HX4.out 4 _) 3 _, grown_setCell (grown_setCell (World.grownBy.refl _ _) _ _) _ _, by omega, by omega, rfl⟩
      case round =>
        obtain ⟨D, Y, rfl, hXr, hgr, hD, hY, hsh⟩ := hrel
        have HS : Hid (Pm.shr (Pm.damp q 1 false) 0 = Pm.shr D Y) := hsh
        have HXr : Hid (wr.heap[X]? = some (.cells (sCells n 0 (.slice (some ⟨g2, 0, none⟩) 1 cc2) Y true) 106 (0, 0))) := hXr
        have HGr : Hid (w4.grownBy wr (some X)) := hgr
        have e3 : wr.cell? ⟨X, 3, none⟩ = some (.int .i64 Y) := by rw [cell_of_row wr X 3 _ 106 (0, 0) hXr]; rfl
        have e1 : wr.cell? ⟨X, 1, none⟩ = some (.int .i64 (0 : Nat)) := by rw [cell_of_row wr X 1 _ 106 (0, 0) hXr]; rfl
        have f6 : wr.frozen? ⟨X, 3, none⟩ = false := unfrozen hXr 3
        have f7 : wr.frozen? ⟨X, 1, none⟩ = false := unfrozen hXr 1
        clear hsh hXr hgr hdm d3 d4 d5 f4 f5
        by_cases hbig : 455 < D
        · go_wp2
          go_roundw
          case rel => exact ⟨D / 35, Y + 36, by go_num, setCell_row HXr.out 3 _, grown_setCell HGr.out _ _, by omega, by omega, by rw [HS.out, Pm.shr_big hbig]⟩
          case measure => simp [intOf]; omega
        · have hz : ¬ (D : Int) + 38 = 0 := by omega
          have hq1 : 0 ≤ 36 * (D : Int) / ((D : Int) + 38) := Int.ediv_nonneg (by omega) (by omega)
          have hq2 : 36 * (D : Int) / ((D : Int) + 38) ≤ 36 := Int.ediv_le_of_le_mul (by omega) (by omega)
          have HBN : Hid (((Pm.biasN q 1 false : Nat) : Int) = (Y : Int) + 36 * (D : Int) / ((D : Int) + 38)) := by
            unfold Hid Pm.biasN; rw [HS.out, Pm.shr_small hbig]; simp
          go_wp2
          go_region
          all_goals
            go_wp2
            go_end0
            have hg5 : wr.grownBy ((wr.setCell ⟨X, 3, none⟩ (.int .i64 ((Y : Int) + 36 * (D : Int) / ((D : Int) + 38)))).setCell ⟨X, 1, none⟩ (.int .i64 1)).drew (some X) := grown_drewN (grown_setCell (grown_setCell (World.grownBy.refl _ _) _ _) _ _) 1
            refine ⟨rfl, g2, cc2, ?_, ?_, ?_⟩
            · unfold sCells
              simp only [Bool.not_true]
              rw [HBN.out]
              exact setCell_row (setCell_row HXr.out 3 _) 1 _
            · exact (HO4.out.kept HGr.out (Or.inr (by have := (own_any HO4.out).1; simp [Value.ownBlock]; omega))).kept hg5 (Or.inr (by have := (own_any HO4.out).1; simp [Value.ownBlock]; omega))
            · exact HB4.out.trans ((below_of_grown HGr.out hBX (by have := HB4.out.size; omega)).trans (below_of_grown hg5 hBX (by have := HB4.out.size; have := HGr.out.size; omega)))
end Go.Proofs.YtkaaldhejpaiiaaGreatDoor

/- The document's answer: a state; begin. -/
namespace Go.Proofs.YtkaaldhejpaiiaaGreatDoor
open Go.RowKit

def RefAt (w : World) (X B : Nat) (x : Pm.St) : Prop :=
  ∃ v, w.heap[X]? = some (.cells (sCells x.n x.i v x.bias x.later) 106 (0, 0)) ∧ w.ownsRow B 3 1 v x.L.length (x.L.map iv) ∧ B ≤ X

theorem owns_mono {w : World} {B B' n : Nat} {e : TypeId} {v : Value} {xs : List Value} (h : w.ownsRow B e 1 v n xs) (hB : B' ≤ B) : w.ownsRow B' e 1 v n xs := by
  obtain ⟨h1, h2⟩ := h
  refine ⟨h1, ?_⟩
  rcases h2 with h2 | ⟨g, cap, cur, e1, e2, e3⟩
  · exact Or.inl h2
  · exact Or.inr ⟨g, cap, cur, e1, by omega, e3⟩
theorem owns_apart {w w' : World} {B X n : Nat} {v : Value} {xs : List Value} {cs : Array Value} (h : w.ownsRow B 3 1 v n xs) (hX : w.heap[X]? = some (.cells cs 106 (0, 0))) (hg : w.grownBy w' (some X)) : w'.ownsRow B 3 1 v n xs := by
  refine h.kept hg ?_
  rcases h.2 with ⟨rfl, _⟩ | ⟨g, cap, cur, rfl, _, e3, _⟩
  · exact Or.inl rfl
  · refine Or.inr ?_
    intro e
    simp [Value.ownBlock] at e
    rw [e, hX] at e3
    simp at e3

theorem refStep_st (X B : Nat) (x : Pm.St) (q : Nat) (w : World) (h : RefAt w X B x) (h1 : x.n ≤ 1114111) (h2 : x.i ≤ 1000) (h3 : x.L.length ≤ 1000) (h4 : q ≤ 1099511627776) :
    Calls Tryz.prog 67 #[.pointer (some ⟨X, 0, none⟩), .int .i64 q] w fun e w' => e = .returned (.tuple #[]) ∧ RefAt w' X B (x.step q) ∧ Below B w w' := by
  obtain ⟨v, hX, ho, hB⟩ := h
  have hv : ∃ a c, v = .slice a x.L.length c := by
    rcases ho.2 with ⟨rfl, e⟩ | ⟨g, cap, cur, rfl, _⟩
    · exact ⟨none, 0, by rw [e]⟩
    · exact ⟨_, _, rfl⟩
  obtain ⟨a, c, rfl⟩ := hv
  refine (refStep_any X x.n x.i x.bias x.L.length c a x.later q w hX h1 h2 h3 h4).mono ?_
  rintro e w' ⟨rfl, hX', hg⟩
  exact ⟨rfl, ⟨_, hX', owns_apart ho hX hg, hB⟩, below_of_grown hg hB (Nat.le_trans hB (Nat.le_of_lt (Array.getElem?_eq_some_iff.1 hX).1))⟩

theorem refInsert_st (X B : Nat) (x : Pm.St) (q : Nat) (w : World) (h : RefAt w X B x) (h2 : x.i ≤ x.L.length) (h3 : x.L.length ≤ 1000) (h4 : q ≤ 1099511627776) :
    Calls Tryz.prog 69 #[.pointer (some ⟨X, 0, none⟩), .int .i64 q] w fun e w' => e = .returned (.tuple #[]) ∧ RefAt w' X B (x.insert q) ∧ Below B w w' := by
  obtain ⟨v, hX, ho, hB⟩ := h
  have hBs : B ≤ w.heap.size := Nat.le_trans hB (Nat.le_of_lt (Array.getElem?_eq_some_iff.1 hX).1)
  have hl := Pm.insert_len x q h2
  rcases ho.2 with ⟨rfl, e⟩ | ⟨g, c, cur, rfl, _⟩
  · have hL : x.L = [] := List.eq_nil_of_length_eq_zero e
    have hi : x.i = 0 := by omega
    rw [hi] at hX
    refine (refInsert_nil X B x.n x.bias x.later q w hX hB h4).mono ?_
    rintro e w' ⟨rfl, g', c', hX', ho', hb⟩
    refine ⟨rfl, ⟨.slice (some ⟨g', 0, none⟩) 1 c', ?_, ?_, hB⟩, hb⟩
    · rw [show x.insert q = { n := x.n, i := 1, L := [x.n], bias := Pm.biasN q 1 (!x.later), later := true } by simp [Pm.St.insert, hL, hi]]
      exact hX'
    · rw [show x.insert q = { n := x.n, i := 1, L := [x.n], bias := Pm.biasN q 1 (!x.later), later := true } by simp [Pm.St.insert, hL, hi]]
      exact owns_mono ho' hBs
  · refine (refInsert_some X B x.n x.i x.bias g c x.later x.L q w hX ho hB h2 h3 h4).mono ?_
    rintro e w' ⟨rfl, g', c', hX', ho', hb⟩
    refine ⟨rfl, ⟨.slice (some ⟨g', 0, none⟩) (x.L.length + 1) c', hX', ?_, hB⟩, hb⟩
    rw [hl]
    exact owns_mono ho' hBs

set_option maxHeartbeats 400000 in
theorem begin_any (v : Value) (l : List Nat) (B : Nat) (w : World) (ho : w.ownsRow B 3 1 v l.length (l.map iv)) (hB : B ≤ w.heap.size) :
    Calls Tryz.prog 65 #[v] w fun e w' => ∃ X, e = .returned (.pointer (some ⟨X, 0, none⟩)) ∧ RefAt w' X B (Pm.St.first l) ∧ Below B w w' := by
  have hv : ∃ a c, v = .slice a l.length c := by
    rcases ho.2 with ⟨rfl, e⟩ | ⟨g, cap, cur, rfl, _⟩
    · exact ⟨none, 0, by rw [e]⟩
    · exact ⟨_, _, rfl⟩
  obtain ⟨a, c, rfl⟩ := hv
  have HO : Hid (w.ownsRow B 3 1 (.slice a l.length c) l.length (l.map iv)) := ho
  clear ho
  go_enter Tryz.func65, Tryz.ntmps65
  go_wp2
  go_ret
  refine ⟨w.heap.size, rfl, ⟨.slice a l.length c, Go.heap_alloc_new w _, HO.out.alloc _, hB⟩, (Below.refl _ _).alloc hB _⟩
end Go.Proofs.YtkaaldhejpaiiaaGreatDoor

/- The document's answer: decode. -/
namespace Go.Proofs.YtkaaldhejpaiiaaGreatDoor
open Go.RowKit

def RefDec (A : Option (List Nat)) (B : Nat) (e : Ending) (w' : World) : Prop :=
  match A with
  | none => e = .returned (.tuple #[.slice none 0 0, .bool false])
  | some L => ∃ v, e = .returned (.tuple #[v, .bool true]) ∧ w'.ownsRow B 3 1 v L.length (L.map iv) ∧ (∀ n ∈ L, Pm.sign n = true) ∧ L.length ≤ 1000

theorem asc_signs {l : List UInt8} (h : ascB l = true) : ∀ n ∈ l.map (·.toNat), Pm.sign n = true := by
  intro n hn
  obtain ⟨c, hc, rfl⟩ := List.mem_map.1 hn
  have := List.all_eq_true.1 h c hc
  simp at this
  exact sign_t (by omega) (by omega)
theorem insert_signs {x : Pm.St} {q : Nat} (h : ∀ n ∈ x.L, Pm.sign n = true) (hn : Pm.sign x.n = true) : ∀ n ∈ (x.insert q).L, Pm.sign n = true := by
  intro m hm
  simp only [Pm.St.insert, List.mem_append, List.mem_cons] at hm
  rcases hm with hm | rfl | hm
  · exact h m (List.mem_of_mem_take hm)
  · exact hn
  · exact h m (List.mem_of_mem_drop hm)
theorem sign_le {n : Nat} (h : Pm.sign n = true) : n ≤ 1114111 := by unfold Pm.sign at h; simp at h; omega
theorem below_append {H n : Nat} {w W w1 : World} {e : TypeId} {v : Value} {xs : List Value} (hgr : W.grownBy w1 v.ownBlock) (ho : W.ownsRow H e 1 v n xs) (hb : Below H w W) (hs : H ≤ W.heap.size) : Below H w w1 := by
  refine hb.trans ?_
  rcases ho.2 with ⟨rfl, _⟩ | ⟨g, cap, cur, rfl, hg, _⟩
  · exact ⟨hgr.os, hgr.tape, hgr.output, hgr.size, fun k hk => hgr.block k (Nat.lt_of_lt_of_le hk hs) (by simp [Value.ownBlock])⟩
  · exact below_of_grown hgr hg hs
theorem drop_ne {s : ByteArray} {A : Nat} (h : A < s.size) : s.data.toList.drop A ≠ [] := by
  rw [drop_cons s A h]; simp
theorem rest_drop {s : ByteArray} {A bias q : Nat} {r : List UInt8} (hA : A ≤ s.size) (h : Pm.rd bias 1 0 1 (s.data.toList.drop A) = some (q, r)) : r = s.data.toList.drop (s.size - r.length) ∧ A < s.size - r.length ∧ r.length ≤ s.size := by
  have h1 := Pm.rd_suffix _ _ _ _ _ _ _ h
  have h2 := Pm.rd_len _ _ _ _ _ _ _ h
  have hs : s.data.toList.length = s.size := by rw [Array.length_toList]; rfl
  rw [List.length_drop, hs] at h2
  rw [List.length_drop, hs, List.drop_drop] at h1
  refine ⟨?_, by omega, by omega⟩
  rw [show s.size - r.length = A + (s.size - A - r.length) by omega]
  exact h1

set_option maxRecDepth 100000 in
set_option maxHeartbeats 4000000 in
theorem refDec_big (s : ByteArray) (w : World) (hs : 1000 < s.size) (hs0 : s.size ≤ 9223372036854775807) :
    Calls Tryz.prog 41 #[.string s] w fun e w' => RefDec none w.heap.size e w' ∧ Below w.heap.size w w' := by
  unfold RefDec
  have h0 : 0 < s.size := by omega
  go_enter Tryz.func41, Tryz.ntmps41
  go_wp2
  go_loop [5, 6] (fun av kv => av = .int .i64 0 ∧ kv = .int .i64 0) (fun _ _ => 0)
  case atStart => exact ⟨rfl, rfl⟩
  case round =>
    obtain ⟨rfl, rfl⟩ := hrel
    by_cases h128 : (128 : Int) ≤ ((s[0]).toNat : Int)
    all_goals
      go_wp2
      go_ret2
      exact ⟨rfl, Below.refl _ _⟩

set_option maxRecDepth 100000 in
set_option maxHeartbeats 4000000 in
theorem refDec_small (s : ByteArray) (w : World) (hs : s.size ≤ 1000) (ANS : Option (List Nat)) (hANS : decodeS s = ANS) :
    Calls Tryz.prog 41 #[.string s] w fun e w' => RefDec ANS w.heap.size e w' ∧ Below w.heap.size w w' := by
  obtain ⟨i0, hi, hz0, hz1, hz2⟩ := info_parts info3
  have HAN : Hid (decodeS s = ANS) := hANS
  clear hANS
  go_enter Tryz.func41, Tryz.ntmps41
  go_wp2
  go_loop [5, 6] (fun av kv => ∃ k : Nat, k ≤ s.size ∧ kv = .int .i64 k ∧ av = .int .i64 (lastP s k : Nat) ∧ ascB (s.data.toList.take k) = true) (fun _ kv => s.size - (intOf kv).toNat)
  case atStart => exact ⟨0, Nat.zero_le _, rfl, rfl, rfl⟩
  case round =>
    obtain ⟨k, hk, rfl, rfl, ha⟩ := hrel
    have HA : Hid (ascB (s.data.toList.take k) = true) := ha
    clear ha
    have hlk := lastP_le s k
    obtain ⟨p, hp⟩ : ∃ p, lastP s k = p := ⟨_, rfl⟩
    rw [hp] at hlk
    rw [hp]
    have HP : Hid (lastP s k = p) := hp
    clear hp
    by_cases hlt : k < s.size
    · by_cases hc : (s[k].toNat : Int) < 128
      · have HT : Hid (ascB (s.data.toList.take (k + 1)) = true) := by unfold Hid; rw [take_snoc s k hlt, ascB_snoc, HA.out]; simp; omega
        by_cases h45 : (s[k].toNat : Int) = 45
        · have HL : Hid (lastP s (k + 1) = k + 1) := by unfold Hid; rw [lastP, if_pos (by rw [get!_at s k hlt]; omega)]
          go_wp2
          go_round
          case rel => exact ⟨k + 1, by omega, by go_num, by rw [HL.out]; go_num, HT.out⟩
          case measure => simp [intOf]; omega
        · have HL : Hid (lastP s (k + 1) = p) := by unfold Hid; rw [lastP, if_neg (by rw [get!_at s k hlt]; omega), HP.out]
          go_wp2
          go_round
          case rel => exact ⟨k + 1, by omega, by go_num, by rw [HL.out], HT.out⟩
          case measure => simp [intOf]; omega
      · have HN : Hid (ANS = none) := by unfold Hid; rw [← HAN.out, decodeS, if_pos (Or.inr (Or.inl (ascB_no s k hlt (by omega))))]
        go_wp2
        go_ret2
        exact ⟨by rw [HN.out]; rfl, Below.refl _ _⟩
    · have hks : k = s.size := by omega
      subst hks
      have HA2 : Hid (ascB s.data.toList = true) := by
        have := HA.out
        rw [List.take_of_length_le (by rw [Array.length_toList]; exact Nat.le_refl _)] at this
        exact this
      by_cases h1 : p = 1
      · have HN : Hid (ANS = none) := by unfold Hid; rw [← HAN.out, decodeS, if_pos (Or.inr (Or.inr (by rw [HP.out, h1])))]
        subst h1
        go_wp2
        go_ret2
        exact ⟨by rw [HN.out]; rfl, Below.refl _ _⟩
      · have HV : Hid (Pm.dec (s.size - p + 1) (Pm.St.first ((s.data.toList.take (p - 1)).map (·.toNat))) (s.data.toList.drop p) = ANS) := by
          unfold Hid
          rw [← HAN.out, decodeS, if_neg (by rw [HA2.out, HP.out]; simp; omega), HP.out]
        have h1i : ¬ (p : Int) = 1 := by omega
        clear HAN HA hlt
        go_wp2
        go_loopw [4, 7] (fun pv kv wr => ∃ m : Nat, m ≤ p - 1 ∧ kv = .int .i64 m ∧ wr.ownsRow w.heap.size 3 1 pv m (((s.data.toList.take m).map (·.toNat)).map iv) ∧ Below w.heap.size w wr) (fun _ kv _ => p - (intOf kv).toNat)
        case atStart => exact ⟨0, Nat.zero_le _, rfl, World.ownsRow_nil _ _ _ _, Below.refl _ _⟩
        case round =>
          obtain ⟨m, hm, rfl, ho, hbw⟩ := hrel
          obtain ⟨pv, rfl⟩ : ∃ pv, u4 = pv := ⟨_, rfl⟩
          have HB : Hid (Below w.heap.size w wr) := hbw
          have hsz := hbw.size
          by_cases hmp : m + 1 < p
          · have hms : m < s.size := by omega
            have HT : Hid (s.data.toList.take (m + 1) = s.data.toList.take m ++ [s[m]]) := take_snoc s m hms
            have HO : Hid (wr.ownsRow w.heap.size 3 1 u4 m (((s.data.toList.take m).map (·.toNat)).map iv)) := ho
            have HW : Hid (wrap64 ((s[m].toNat : Nat) : Int) = ((s[m].toNat : Nat) : Int)) := by have := s[m].toNat_lt; unfold Hid wrap64; omega
            have hone : ∀ u ∈ [Value.int .i64 (wrap64 ((s[m].toNat : Nat) : Int))], u.oneCell' = true := by intro u hu; simp at hu; subst hu; rfl
            clear ho hbw
            go_wp2_with (at_builtin; refine wpList_append_own _ rfl (.tmp 41) (.tmp 46) 31 rfl w.heap.size 3 i0 (.int .i64 0) 1 8 Tryz.underlying31 hi hz0 hz1 hz2 rfl (by decide) _ _ _ rfl (HO.out.alloc _) ⟨wr.heap.size, 0, none⟩ 1 1 [.int .i64 (wrap64 ((s[m].toNat : Nat) : Int))] rfl rfl (cell_one_new _ _ _) hone (by unfold maxLen; omega) (by omega) (by simp; omega) ?_)
            intro v1 w1 hown1 hgr1 hne1
            have HO1 : Hid (w1.ownsRow w.heap.size 3 1 v1 (m + 1) (((s.data.toList.take (m + 1)).map (·.toNat)).map iv)) := by
              unfold Hid; rw [HT.out, List.map_append, List.map_append]; rw [HW.out] at hown1; simpa [List.map_take, iv] using hown1
            have HB1 : Hid (Below w.heap.size w w1) := below_append hgr1 (HO.out.alloc _) (HB.out.alloc hsz _) (by simp; omega)
            clear hown1 hgr1 hne1 HO HB HT
            go_wp2
            go_roundw
            case rel => exact ⟨m + 1, by omega, by go_num, HO1.out, HB1.out⟩
            case measure => simp [intOf]; omega
          · have hmE : m = p - 1 := by omega
            subst hmE
            have hpl : (s.data.toList.take (p - 1)).length = p - 1 := by rw [List.length_take, Array.length_toList]; show min (p - 1) s.size = p - 1; omega
            obtain ⟨l0, hl0⟩ : ∃ l0 : List Nat, (s.data.toList.take (p - 1)).map (·.toNat) = l0 := ⟨_, rfl⟩
            have hl0l : l0.length = p - 1 := by rw [← hl0, List.length_map, hpl]
            have HSG : Hid (∀ n ∈ l0, Pm.sign n = true) := by unfold Hid; rw [← hl0]; exact asc_signs (ascB_take HA2.out _)
            have HV2 : Hid (Pm.dec (s.size - p + 1) (Pm.St.first l0) (s.data.toList.drop p) = ANS) := by unfold Hid; rw [← hl0]; exact HV.out
            rw [hl0, ← hl0l] at ho
            have hbeg := begin_any u4 l0 w.heap.size wr ho hsz
            clear ho hl0 HV HA2 HP hbw hpl
            go_wp2_with (go_at_call 65; refine hbeg.mono ?_; rintro e w2 ⟨X, rfl, hR, hb2⟩)
            have hsz2 := hb2.size
            have HB2 : Hid (Below w.heap.size w w2) := HB.out.trans hb2
            have HR : Hid (RefAt w2 X w.heap.size (Pm.St.first l0)) := hR
            clear hR hb2 hbeg HB
            go_loopg [5] (s.size - p + 1) (fun gk av wx => ∃ (A : Nat) (x : Pm.St), av = .int .i64 A ∧ A ≤ s.size ∧ s.size - A < gk ∧ Below w.heap.size w wx ∧ RefAt wx X w.heap.size x ∧ x.ok ∧ x.bias ≤ 1099511627776 ∧ x.L.length + (s.size - A) ≤ 1000 ∧ (∀ n ∈ x.L, Pm.sign n = true) ∧ Pm.dec gk x (s.data.toList.drop A) = ANS)
            case atStart => exact ⟨p, Pm.St.first l0, rfl, hlk, by omega, HB2.out, HR.out, first_ok _, by simp [Pm.St.first], by show l0.length + (s.size - p) ≤ 1000; omega, HSG.out, HV2.out⟩
            case round =>
              obtain ⟨A, x, rfl, hA, hg, hbw, hR, hx, hb, hl, hsg, hv⟩ := hrel
              clear HR HB2 HSG HV2 hl0l
              obtain ⟨gk', rfl⟩ : ∃ gk', gk = gk' + 1 := ⟨gk - 1, by omega⟩
              have HV : Hid (Pm.dec (gk' + 1) x (s.data.toList.drop A) = ANS) := hv
              have HSG : Hid (∀ n ∈ x.L, Pm.sign n = true) := hsg
              have HBW : Hid (Below w.heap.size w wr) := hbw
              clear hv hsg hbw
              have hR1 := hR
              obtain ⟨v, hX, ho, hBX⟩ := hR1
              have c3 : wr.cell? ⟨X, 3, none⟩ = some (.int .i64 x.bias) := by rw [cell_of_row wr X 3 _ 106 (0, 0) hX]; rfl
              have c2 : wr.cell? ⟨X, 2, none⟩ = some v := by rw [cell_of_row wr X 2 _ 106 (0, 0) hX]; rfl
              by_cases hlt : A < s.size
              · have hlen : x.L.length ≤ 1000 := by omega
                have hrd := refRead_any X s A x.bias wr c3 hs hA hb
                have hxi := hx.i
                have hxn := hx.n2
                have hst := fun q hq => refStep_st X w.heap.size x q wr hR hxn (by omega) hlen hq
                have HX0 : Hid x.ok := hx
                have HNE : Hid (s.data.toList.drop A ≠ []) := drop_ne hlt
                clear hX ho c2 c3 hR hx
                go_wp2_with fail
                refine hrd.mono ?_
                rintro e w' ⟨hre, hw'⟩
                rw [hw']; clear hw' hrd
                rcases hre with ⟨q, r, hq1, hq2, rfl⟩ | ⟨hno, rfl⟩
                · obtain ⟨hr1, hr2, hr3⟩ := rest_drop hA hq1
                  have HRD : Hid (Pm.rd x.bias 1 0 1 (s.data.toList.drop A) = some (q, r)) := hq1
                  have HR1 : Hid (r = s.data.toList.drop (s.size - r.length)) := hr1
                  obtain ⟨nx, hnx⟩ : ∃ nx, s.size - r.length = nx := ⟨_, rfl⟩
                  rw [hnx] at hr2
                  rw [hnx]
                  have HNX : Hid (s.size - r.length = nx) := hnx
                  have hnz : ¬ (nx : Int) = 0 := by omega
                  have hns : nx ≤ s.size := by omega
                  have hst2 := hst q hq2
                  clear hq1 hr1 hst hnx
                  go_wp2_with fail
                  refine hst2.mono ?_
                  rintro e w3 ⟨rfl, hR3, hb3⟩
                  clear hst2
                  have HB3 : Hid (Below w.heap.size w w3) := HBW.out.trans hb3
                  have hsx := hb3.size
                  clear hb3
                  have hR4 := hR3
                  obtain ⟨v3, hX3, ho3, _⟩ := hR4
                  have d0 : w3.cell? ⟨X, 0, none⟩ = some (.int .i64 ((x.step q).n : Nat)) := by rw [cell_of_row w3 X 0 _ 106 (0, 0) hX3]; rfl
                  clear hX3 ho3
                  have hsgn := refSign_any (x.step q).n w3
                  obtain ⟨bb, hbb⟩ : ∃ bb, Pm.sign (x.step q).n = bb := ⟨_, rfl⟩
                  rw [hbb] at hsgn
                  cases bb with
                  | false =>
                    have HN : Hid (ANS = none) := by unfold Hid; rw [← HV.out, dec_bad HNE.out HRD.out hbb]
                    clear hbb hR3
                    go_wp2_with (go_at_call 68; refine hsgn.mono ?_; rintro e w4 ⟨rfl, hw'⟩; rw [hw']; clear hw')
                    go_ret2
                    exact ⟨by rw [HN.out]; rfl, HB3.out⟩
                  | true =>
                    have hn2 := sign_le hbb
                    have hsi := Pm.step_i (x := x) q
                    have hsl : (x.step q).L.length ≤ 1000 := hlen
                    have hin := refInsert_st X w.heap.size (x.step q) q w3 hR3 hsi hsl hq2
                    have HBB : Hid (Pm.sign (x.step q).n = true) := hbb
                    clear hbb hR3
                    go_wp2_with (first | (go_at_call 68; refine hsgn.mono ?_; rintro e w4 ⟨rfl, hw'⟩; rw [hw']; clear hw') | (go_at_call 69; refine hin.mono ?_; rintro e w5 ⟨rfl, hR5, hb5⟩))
                    go_roundg gk'
                    case measure => omega
                    case rel =>
                      have hmost := (Pm.step_le HX0.out q).1 hn2
                      have hml := Pm.most_le HX0.out hlen
                      refine ⟨nx, (x.step q).insert q, rfl, hns, by omega, HB3.out.trans hb5, hR5, Pm.ok_next HX0.out q hn2, ?_, ?_, insert_signs (x := x.step q) HSG.out HBB.out, ?_⟩
                      · have := Pm.biasN_le q (x.L.length + 1) (!x.later)
                        show Pm.biasN q (x.L.length + 1) (!x.later) ≤ _
                        omega
                      · rw [Pm.insert_len (x.step q) q hsi]
                        show x.L.length + 1 + (s.size - nx) ≤ 1000
                        omega
                      · rw [← HV.out, dec_go HNE.out HRD.out HBB.out, ← HNX.out, ← HR1.out]
                · have hml := Pm.most_le HX0.out hlen
                  have HN : Hid (ANS = none) := by unfold Hid; rw [← HV.out, dec_none HX0.out HNE.out (fun q r h => by have := hno q r h; omega)]
                  clear hno hst hml
                  go_wp2
                  go_ret2
                  exact ⟨by rw [HN.out]; rfl, HBW.out⟩
              · have hAs : s.data.toList.drop A = [] := List.drop_eq_nil_of_le (by rw [Array.length_toList]; show s.size ≤ A; omega)
                have HN : Hid (ANS = some x.L) := by unfold Hid; rw [← HV.out, hAs, dec_nil]
                have HO : Hid (wr.ownsRow w.heap.size 3 1 v x.L.length (x.L.map iv)) := ho
                clear hAs hX ho hR hx c3
                go_wp2
                go_ret2
                exact ⟨by rw [HN.out]; exact ⟨v, rfl, HO.out, HSG.out, by omega⟩, HBW.out⟩
end Go.Proofs.YtkaaldhejpaiiaaGreatDoor

/- ASCII texts: their forms, and back. -/
namespace Go.Proofs.YtkaaldhejpaiiaaGreatDoor
open Go.RowKit

theorem decodeL_asc {c : UInt8} {l : List UInt8} (h : c.toNat < 128) : Lib.decodeL (c :: l) = (c.toNat, 1) := by
  unfold Lib.decodeL
  rw [decode_ascii ⟨(c :: l).toArray⟩ 0 (by simp [ByteArray.size]) (by simpa [ByteArray.getElem_eq_getElem_data] using h)]
  simp [ByteArray.getElem_eq_getElem_data]
theorem valid_asc : ∀ (n : Nat) (l : List UInt8), ascB l = true → Lib.validGoD n l = true
  | 0, _, _ => rfl
  | n + 1, [], _ => by simp [Lib.validGoD]
  | n + 1, c :: l, h => by
    have hc : c.toNat < 128 := by have := List.all_eq_true.1 h c (by simp); simpa using this
    have hl : ascB l = true := List.all_eq_true.2 fun x hx => List.all_eq_true.1 h x (by simp [hx])
    unfold Lib.validGoD
    rw [decodeL_asc hc]
    simp only [List.drop_succ_cons, List.drop_zero]
    rw [if_neg (by simp), if_neg (by omega)]
    exact valid_asc n l hl
theorem validD_asc {l : List UInt8} (h : ascB l = true) : Lib.validD l = true := valid_asc _ _ h
theorem oth_asc {l : List UInt8} (h : ascB l = true) : oth (l.map (·.toNat)) = [] := by
  unfold oth
  rw [List.filter_eq_nil_iff]
  intro m hm
  obtain ⟨c, hc, rfl⟩ := List.mem_map.1 hm
  have := List.all_eq_true.1 h c hc
  simpa using this
theorem ascF_asc {l : List UInt8} (h : ascB l = true) : ascF (l.map (·.toNat)) = l := by
  unfold ascF
  rw [List.filter_eq_self.2 (fun m hm => by obtain ⟨c, hc, rfl⟩ := List.mem_map.1 hm; exact List.all_eq_true.1 h c hc), List.map_map]
  conv => rhs; rw [← List.map_id l]
  apply List.map_congr_left
  intro c _
  simp
theorem encS_asc {s : ByteArray} (h : ascB s.data.toList = true) (hne : s.data.toList ≠ []) : encS (runes s) [] = s.data.toList ++ [45] := by
  rw [runes_asc h]
  unfold encS eachAll firstEs bytesN
  simp only [ascF_asc h, if_neg hne]
theorem encode_asc {n : Nat} (h : n < 128) : Utf8.encode (n : Int) = ⟨#[UInt8.ofNat n]⟩ := by
  unfold Utf8.encode
  have hv : Utf8.valid (n : Int) = true := by simp [Utf8.valid]; omega
  simp only [hv, if_true, Int.toNat_natCast, h]
theorem append_bytes (a b : ByteArray) : (a ++ b).data.toList = a.data.toList ++ b.data.toList := by simp
theorem fold_asc : ∀ (l : List UInt8) (s : ByteArray), ascB l = true → ((l.map (fun c => (c.toNat : Int))).foldl (fun r n => r ++ Utf8.encode n) s) = ⟨(s.data.toList ++ l).toArray⟩
  | [], s, _ => by cases s; simp
  | c :: l, s, h => by
    have hc : c.toNat < 128 := by have := List.all_eq_true.1 h c (by simp); simpa using this
    have hl : ascB l = true := List.all_eq_true.2 fun x hx => List.all_eq_true.1 h x (by simp [hx])
    simp only [List.map_cons, List.foldl_cons]
    rw [fold_asc l _ hl, encode_asc hc, append_bytes]
    simp
theorem runesBytes_asc {l : List UInt8} (h : ascB l = true) : runesBytes ((l.map (·.toNat)).map (fun (n : Nat) => (n : Int))) = ⟨l.toArray⟩ := by
  unfold runesBytes
  rw [List.map_map]
  exact (fold_asc l ByteArray.empty h).trans (by simp)
/-- A form without numbers. -/
theorem decodeS_plain {s : ByteArray} (l : List UInt8) (hs : s.data.toList = l ++ [45]) (hl : l ≠ []) (ha : ascB l = true) (hz : s.size ≤ 1000) : decodeS s = some (l.map (·.toNat)) := by
  have hsz : s.size = l.length + 1 := by have := congrArg List.length hs; rw [Array.length_toList] at this; simpa using this
  have hll : 1 ≤ l.length := by cases l with | nil => exact absurd rfl hl | cons a b => simp
  have hget : (s.get! l.length).toNat = 45 := by
    rw [get!_at s l.length (by omega), ByteArray.getElem_eq_getElem_data]
    have : s.data.toList[l.length]? = some 45 := by rw [hs]; simp
    rw [Array.getElem?_toList] at this
    obtain ⟨h1, h2⟩ := Array.getElem?_eq_some_iff.1 this
    rw [h2]; rfl
  have hp : lastP s s.size = s.size := by
    rw [hsz]; unfold lastP; rw [if_pos hget]
  have hasc : ascB s.data.toList = true := by rw [hs]; unfold ascB; rw [List.all_append]; simp; exact fun x hx => by have := List.all_eq_true.1 ha x hx; simpa using this
  unfold decodeS
  rw [if_neg (by rw [hp, hasc]; simp; omega), hp, hsz]
  rw [hs, List.drop_eq_nil_of_le (by simp), show l.length + 1 - 1 = l.length by omega, List.take_left]
  rw [show l.length + 1 - (l.length + 1) + 1 = 0 + 1 by omega, dec_nil]
  rfl
end Go.Proofs.YtkaaldhejpaiiaaGreatDoor

/- The walk of the law Plain. -/
namespace Go.Proofs.YtkaaldhejpaiiaaGreatDoor
open Go.RowKit

set_option maxHeartbeats 1000000 in
theorem pick_any (c : Int) (w : World) (h1 : -9223372036854775808 ≤ c) (h2 : c ≤ 9223372036854775807) :
    Calls Tryz.prog 15 #[.int .i64 c, .int .i64 128] w fun e w' => (∃ p : Nat, p < 128 ∧ e = .returned (.int .i64 (p : Int))) ∧ w' = w := by
  by_cases hc : c < 0
  · have hn : 0 ≤ -(c + 1) := by omega
    go_enter Tryz.func15, Tryz.ntmps15
    go_wp2
    go_ret
    refine ⟨⟨((-(c + 1)) % 128).toNat, by omega, ret_int ?_⟩, rfl⟩
    rw [← Int.neg_tmod, Int.tmod_eq_emod_of_nonneg hn]
    omega
  · go_enter Tryz.func15, Tryz.ntmps15
    go_wp2
    go_ret
    refine ⟨⟨(c % 128).toNat, by omega, ret_int ?_⟩, rfl⟩
    first | omega | (rw [Int.tmod_eq_emod_of_nonneg (by omega)]; omega)
theorem run_oneString (W : World) (p : Nat) (hp : p < 128) :
    (convert 30 9 (.slice (some ⟨W.heap.size, 0, none⟩) 1 1)).run Tryz.prog (W.alloc (.cells #[.int .u8 (p : Int)] 5)) = .ok (.string ⟨#[UInt8.ofNat p]⟩) (W.alloc (.cells #[.int .u8 (p : Int)] 5)) := by
  have ho : (W.alloc (.cells #[.int .u8 (p : Int)] 5)).ownsRow 0 5 1 (.slice (some ⟨W.heap.size, 0, none⟩) 1 1) 1 ([UInt8.ofNat p].map bv) := by
    refine ⟨rfl, .inr ⟨W.heap.size, 1, _, rfl, Nat.zero_le _, Go.heap_alloc_new W _, Nat.le_refl _, by unfold maxLen; omega, rfl, ?_⟩⟩
    simp [bv]
    omega
  exact run_formString _ 0 1 _ [UInt8.ofNat p] rfl ho

def oneA : ByteArray := { data := #[97] }
def oneAH : ByteArray := { data := #[97, 45] }
end Go.Proofs.YtkaaldhejpaiiaaGreatDoor

