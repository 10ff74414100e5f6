import Derived.Test.YtkaaldhejpaiiaaGreatDoorBu11
import Derived.Laws.AppendOwnNone
import Derived.Deep.RegionLaw
/- The document's step and insert, at long labels. -/
namespace Go.Proofs.YtkaaldhejpaiiaaGreatDoor
open Go.RowKit

set_option maxHeartbeats 400000 in
theorem refBoundB (X k bias : Nat) (w : World) (hc : w.cell? ⟨X, 3, none⟩ = some (.int .i64 bias)) (hk : k ≤ 2000) (hb : bias ≤ 1400000000000) :
    Calls Tryz.prog 106 #[.pointer (some ⟨X, 0, none⟩), .int .i64 k] w fun e w' => e = .returned (.int .i64 (Pm.bnd k bias : Nat)) ∧ w' = w := by
  go_enter Tryz.func106, Tryz.ntmps106
  go_wp2
  all_goals
    go_ret
    exact ⟨ret_int (by simp [Pm.bnd]; omega), rfl⟩

set_option maxRecDepth 100000 in
set_option maxHeartbeats 2000000 in
theorem refStepB (X n i bias len c : Nat) (a : Option Addr) (b : Bool) (q : Nat) (w : World) (h : w.heap[X]? = some (.cells (sCells n i (.slice a len c) bias b) 106 (0, 0))) (h1 : n ≤ 1114111) (h2 : i ≤ 1100000) (h3 : len ≤ 1100000) (h4 : q ≤ 1400000000000) :
    Calls Tryz.prog 67 #[.pointer (some ⟨X, 0, none⟩), .int .i64 q] w fun e w' => e = .returned (.tuple #[]) ∧ w'.heap[X]? = some (.cells (sCells (n + (i + q) / (len + 1)) ((i + q) % (len + 1)) (.slice a len c) bias b) 106 (0, 0)) ∧ w.grownBy w' (some X) := by
  have c0 : w.cell? ⟨X, 0, none⟩ = some (.int .i64 n) := by rw [cell_of_row w X 0 _ 106 (0, 0) h]; rfl
  have c1 : w.cell? ⟨X, 1, none⟩ = some (.int .i64 i) := by rw [cell_of_row w X 1 _ 106 (0, 0) h]; rfl
  have c2 : w.cell? ⟨X, 2, none⟩ = some (.slice a len c) := by rw [cell_of_row w X 2 _ 106 (0, 0) h]; rfl
  have f0 := unfrozen h 0; have f1 := unfrozen h 1
  have H : Hid (w.heap[X]? = some (.cells (sCells n i (.slice a len c) bias b) 106 (0, 0))) := h
  have hz : ¬ (len : Int) + 1 = 0 := by omega
  have hq1 : 0 ≤ ((i : Int) + q) / ((len : Int) + 1) := Int.ediv_nonneg (by omega) (by omega)
  have hq2 : ((i : Int) + q) / ((len : Int) + 1) ≤ 1400002000000 := Int.ediv_le_of_le_mul (by omega) (by
    have : (1400002000000 : Int) * 1 ≤ 1400002000000 * ((len : Int) + 1) := Int.mul_le_mul_of_nonneg_left (by omega) (by omega)
    omega)
  have HE : Hid (((n + (i + q) / (len + 1) : Nat) : Int) = (n : Int) + ((i : Int) + q) / ((len : Int) + 1)) := by
    unfold Hid; simp
  have HF : Hid ((((i + q) % (len + 1) : Nat) : Int) = ((i : Int) + q) % ((len : Int) + 1)) := by
    unfold Hid; simp
  clear h
  go_enter Tryz.func67, Tryz.ntmps67
  go_wp2
  go_region
  all_goals
    go_wp2
    go_end0
    refine ⟨rfl, ?_, grown_drewN (grown_setCell (grown_setCell (World.grownBy.refl w (some X)) 0 (.int .i64 ((n : Int) + ((i : Int) + q) / ((len : Int) + 1)))) 1 (.int .i64 (((i : Int) + q) % ((len : Int) + 1)))) 1⟩
    unfold sCells
    rw [HE.out, HF.out]
    exact setCell_row (setCell_row H.out 0 _) 1 _
set_option maxRecDepth 100000 in
set_option maxHeartbeats 4000000 in
theorem refInsertB (X B n i bias g c : Nat) (b : Bool) (L : List Nat) (q : Nat) (w : World) (h : w.heap[X]? = some (.cells (sCells n i (.slice (some ⟨g, 0, none⟩) L.length c) bias b) 106 (0, 0))) (ho : w.ownsRow B 3 1 (.slice (some ⟨g, 0, none⟩) L.length c) L.length (L.map iv)) (hBX : B ≤ X) (h2 : i ≤ L.length) (h3 : L.length ≤ 1100000) (h4 : q ≤ 1400000000000) :
    Calls Tryz.prog 69 #[.pointer (some ⟨X, 0, none⟩), .int .i64 q] w fun e w' => e = .returned (.tuple #[]) ∧ ∃ g' c', w'.heap[X]? = some (.cells (sCells n (i + 1) (.slice (some ⟨g', 0, none⟩) (L.length + 1) c') (Pm.biasN q (L.length + 1) (!b)) true) 106 (0, 0)) ∧ w'.ownsRow w.heap.size 3 1 (.slice (some ⟨g', 0, none⟩) (L.length + 1) c') (L.length + 1) ((L.take i ++ n :: L.drop i).map iv) ∧ Below B w w' := by
  obtain ⟨i0, hi, hz0, hz1, hz2⟩ := info_parts info3
  have c1 : w.cell? ⟨X, 1, none⟩ = some (.int .i64 i) := by rw [cell_of_row w X 1 _ 106 (0, 0) h]; rfl
  have c2 : w.cell? ⟨X, 2, none⟩ = some (.slice (some ⟨g, 0, none⟩) L.length c) := by rw [cell_of_row w X 2 _ 106 (0, 0) h]; rfl
  have hXl := (Array.getElem?_eq_some_iff.1 h).1
  have n1 := World.new_ne w ⟨X, 1, none⟩ c1
  have HO : Hid (w.ownsRow B 3 1 (.slice (some ⟨g, 0, none⟩) L.length c) L.length (L.map iv)) := ho
  have HX : Hid (w.heap[X]? = some (.cells (sCells n i (.slice (some ⟨g, 0, none⟩) L.length c) bias b) 106 (0, 0))) := h
  obtain ⟨hBg, hgl, _, _, _, hLc, _⟩ := own_any ho
  have k1 : (0 : Int) ≤ (i : Int) := by omega
  have k2 : (i : Int) ≤ (L.length : Int) := by omega
  have k3 : (L.length : Int) ≤ (c : Int) := by omega
  have k4 : (i : Int) ≤ (c : Int) := by omega
  clear h ho
  go_enter Tryz.func69, Tryz.ntmps69
  go_wp2
  go_region_held3 (fun W => W.cell? ⟨X, 1, none⟩ = some (.int .i64 i) ∧ W.cell? ⟨X, 2, none⟩ = some (.slice (some ⟨g, 0, none⟩) L.length c)) (first | go_keep | (go_split_ands; exact ⟨hgr.cell (by assumption) (by simp [Value.ownBlock]; omega), hgr.cell (by assumption) (by simp [Value.ownBlock]; omega)⟩)) ((refine step_append_own (by rfl) _ _ _ (by rfl) w.heap.size 3 i0 (.int .i64 0) 1 8 Tryz.underlying31 hi hz0 hz1 hz2 rfl (by decide) (.slice (some ⟨w.heap.size, 0, none⟩) 0 0) 0 [] (by rfl) (World.ownsRow_made w #[] 0 (Nat.le_refl _) (by decide) rfl) ⟨g, 0, none⟩ i c (((L.drop 0).take i).map iv) (by rfl) (src_len (by omega)) (src_cells HO.out (heap_alloc_lt hgl _) 0 i) (one_iv _) (by unfold maxLen; omega) (by omega) (by simp) ?_; intro v1 w1 hown1 hgr hne; obtain ⟨g1, cc1, rfl⟩ := own_notnil hown1 (by rw [Ne, hne]; simp)))
  have hb1 : Below w.heap.size w w1 := ((Below.refl _ _).alloc (Nat.le_refl _) (.cells #[] 3)).drew.trans (below_of_grown hgr (Nat.le_refl _) (by simp))
  have hX1 : w1.heap[X]? = some (.cells (sCells n i (.slice (some ⟨g, 0, none⟩) L.length c) bias b) 106 (0, 0)) := (hb1.block X hXl).trans HX.out
  have d0 : w1.cell? ⟨X, 0, none⟩ = some (.int .i64 n) := by rw [cell_of_row w1 X 0 _ 106 (0, 0) hX1]; rfl
  have HB1 : Hid (Below w.heap.size w w1) := hb1
  have HX1 : Hid (w1.heap[X]? = some (.cells (sCells n i (.slice (some ⟨g, 0, none⟩) L.length c) bias b) 106 (0, 0))) := hX1
  have hs1 := hb1.size
  have HO1 : Hid (w1.ownsRow w.heap.size 3 1 (.slice (some ⟨g1, 0, none⟩) i cc1) i (((L.drop 0).take i).map iv)) := by
    have := hown1; rw [Nat.zero_add, List.nil_append] at this; exact this
  clear hown1 hgr hne hb1 hX1 c1 c2 n1
  go_wp2_with (at_builtin; refine wpList_append_own _ rfl (.tmp 17) (.tmp 22) 31 rfl w.heap.size 3 i0 (.int .i64 0) 1 8 Tryz.underlying31 hi hz0 hz1 hz2 rfl (by decide) _ _ _ rfl (HO1.out.alloc _) ⟨w1.heap.size, 0, none⟩ 1 1 [.int .i64 (n : Int)] rfl rfl (cell_one_new _ _ _) (one_iv [n]) (by unfold maxLen; omega) (by omega) (by simp; omega) ?_)
  intro v2 w2 hown2 hgr2 hne2
  obtain ⟨g2, cc2, rfl⟩ := own_notnil hown2 hne2
  have hb2 : Below w.heap.size w w2 := (HB1.out.alloc hs1 _).trans (below_of_grown hgr2 (own_any HO1.out).1 (by simp; omega))
  have hX2 : w2.heap[X]? = some (.cells (sCells n i (.slice (some ⟨g, 0, none⟩) L.length c) bias b) 106 (0, 0)) := (hb2.block X hXl).trans HX.out
  have d1 : w2.cell? ⟨X, 1, none⟩ = some (.int .i64 i) := by rw [cell_of_row w2 X 1 _ 106 (0, 0) hX2]; rfl
  have d2 : w2.cell? ⟨X, 2, none⟩ = some (.slice (some ⟨g, 0, none⟩) L.length c) := by rw [cell_of_row w2 X 2 _ 106 (0, 0) hX2]; rfl
  have HB2 : Hid (Below w.heap.size w w2) := hb2
  have HX2 : Hid (w2.heap[X]? = some (.cells (sCells n i (.slice (some ⟨g, 0, none⟩) L.length c) bias b) 106 (0, 0))) := hX2
  have hs2 := hb2.size
  have HG2 : Hid (w2.heap[g]? = w.heap[g]?) := hb2.block g hgl
  have HO2 : Hid (w2.ownsRow w.heap.size 3 1 (.slice (some ⟨g2, 0, none⟩) (i + 1) cc2) (i + 1) (((L.drop 0).take i ++ [n]).map iv)) := by
    have := hown2; unfold Hid; rw [List.map_append, List.drop_zero, List.map_take]; exact this
  have f2 : w2.frozen? ⟨X, 2, none⟩ = false := unfrozen HX2.out 2
  clear hown2 hgr2 hne2 hb2 hX2 d0 HO1 HB1 HX1 hs1
  go_wp2
  go_region_law ((refine step_append_own (by rfl) _ _ _ (by rfl) w.heap.size 3 i0 (.int .i64 0) 1 8 Tryz.underlying31 hi hz0 hz1 hz2 rfl (by decide) (.slice (some ⟨g2, 0, none⟩) (i + 1) cc2) (i + 1) (((L.drop 0).take i ++ [n]).map iv) (by rfl) HO2.out (if c = i then (⟨g, 0, none⟩ : Addr) else ⟨g, i, none⟩) (L.length - i) (c - i) (((L.drop i).take (L.length - i)).map iv) (by exact slice_if _ _ _ _ _) (src_len (by omega)) (src_cells_end HO.out HG2.out i hLc) (one_iv _) (by unfold maxLen; omega) (by omega) hs2 ?_; intro v3 w3 hown3 hgr3 hne3; rw [show i + 1 + (L.length - i) = L.length + 1 by omega] at hown3; obtain ⟨g3, cc3, rfl⟩ := own_notnil hown3 (by rw [Ne, hne3]; simp); have hb3 : Below w.heap.size w w3 := HB2.out.drew.trans (below_of_grown hgr3 (own_any HO2.out).1 hs2); have hX3 : w3.heap[X]? = some (.cells (sCells n i (.slice (some ⟨g, 0, none⟩) L.length c) bias b) 106 (0, 0)) := (hb3.block X hXl).trans HX.out; have f3 : w3.frozen? ⟨X, 2, none⟩ = false := unfrozen hX3 2; have s3 : w3.cell? ⟨X, 2, none⟩ = some (.slice (some ⟨g, 0, none⟩) L.length c) := by rw [cell_of_row _ X 2 _ 106 (0, 0) hX3]; rfl))
  all_goals
    obtain ⟨w4, hw4⟩ : ∃ w4, w4 = w3.setCell ⟨X, 2, none⟩ (.slice (some ⟨g3, 0, none⟩) (L.length + 1) cc3) := ⟨_, rfl⟩
    have hX4 : w4.heap[X]? = some (.cells (sCells n i (.slice (some ⟨g3, 0, none⟩) (L.length + 1) cc3) bias b) 106 (0, 0)) := by rw [hw4]; exact setCell_row hX3 2 _
    have hgs : w3.grownBy w4 (some X) := by rw [hw4]; exact grown_setCell (World.grownBy.refl _ _) _ _
    have hg3 := own_any hown3
    have HO4 : Hid (w4.ownsRow w.heap.size 3 1 (.slice (some ⟨g3, 0, none⟩) (L.length + 1) cc3) (L.length + 1) ((L.take i ++ n :: L.drop i).map iv)) := by
      have := hown3.kept hgs (Or.inr (by simp [Value.ownBlock]; omega))
      rw [List.drop_zero, List.take_of_length_le (by simp : (L.drop i).length ≤ L.length - i), ← List.map_append, List.append_assoc] at this
      exact this
    have HB4 : Hid (Below B w w4) := (hb3.mono (by omega)).trans (below_of_grown hgs hBX (by omega))
    rw [← hw4]
    generalize (if c = i then some (⟨g, 0, none⟩ : Addr) else some ⟨g, i, none⟩) = oo
    have HX4 : Hid (w4.heap[X]? = some (.cells (sCells n i (.slice (some ⟨g3, 0, none⟩) (L.length + 1) cc3) bias b) 106 (0, 0))) := hX4
    have d3 : w4.cell? ⟨X, 3, none⟩ = some (.int .i64 bias) := by rw [cell_of_row w4 X 3 _ 106 (0, 0) hX4]; rfl
    have d4 : w4.cell? ⟨X, 4, none⟩ = some (.bool b) := by rw [cell_of_row w4 X 4 _ 106 (0, 0) hX4]; rfl
    have d5 : w4.cell? ⟨X, 2, none⟩ = some (.slice (some ⟨g3, 0, none⟩) (L.length + 1) cc3) := by rw [cell_of_row w4 X 2 _ 106 (0, 0) hX4]; rfl
    have f4 : w4.frozen? ⟨X, 4, none⟩ = false := unfrozen hX4 4
    have f5 : w4.frozen? ⟨X, 3, none⟩ = false := unfrozen hX4 3
    clear hw4 hX4 hgs hg3 hown3 hgr3 hne3 hb3 hX3 f3 s3 f2 d1 d2 HO2 HG2 HX2 HB2 hs2
    have hlz : ¬ ((L.length + 1 : Nat) : Int) = 0 := by omega
    have hlz' : ¬ (L.length : Int) + 1 = 0 := by omega
    clear hLc k1 k2 k3 k4 hBg hgl
    cases b
    · have HD : Hid ((Pm.damp q (L.length + 1) true : Nat) = (q : Int) / 700 + (q : Int) / 700 / ((L.length : Int) + 1)) := by unfold Hid Pm.damp; simp
      have hdm := Pm.damp_le q (L.length + 1) true
      have b2 : (q : Int) / 700 / ((L.length : Int) + 1) ≤ 1400000000000 := by
        have := Nat.div_le_self (q / 700) (L.length + 1)
        have e : (((q / 700) / (L.length + 1) : Nat) : Int) = (q : Int) / 700 / ((L.length : Int) + 1) := by simp
        omega
      have b2' : 0 ≤ (q : Int) / 700 / ((L.length : Int) + 1) := Int.ediv_nonneg (by omega) (by omega)
      go_wp2
      go_loopw [5] (fun d wr => ∃ D Y : Nat, d = .int .i64 D ∧ wr.heap[X]? = some (.cells (sCells n i (.slice (some ⟨g3, 0, none⟩) (L.length + 1) cc3) Y true) 106 (0, 0)) ∧ w4.grownBy wr (some X) ∧ D ≤ 1400000000000 ∧ Y + D ≤ 1400000000000 ∧ Pm.shr (Pm.damp q (L.length + 1) true) 0 = Pm.shr D Y) (fun d _ => (intOf d).toNat)
      case atStart => exact ⟨Pm.damp q (L.length + 1) true, 0, by rw [HD.out], setCell_row (setCell_row HX4.out 4 _) 3 _, grown_setCell (grown_setCell (World.grownBy.refl _ _) _ _) _ _, by omega, by omega, rfl⟩
      case round =>
        obtain ⟨D, Y, rfl, hXr, hgr, hD, hY, hsh⟩ := hrel
        have HS : Hid (Pm.shr (Pm.damp q (L.length + 1) true) 0 = Pm.shr D Y) := hsh
        have HXr : Hid (wr.heap[X]? = some (.cells (sCells n i (.slice (some ⟨g3, 0, none⟩) (L.length + 1) cc3) Y true) 106 (0, 0))) := hXr
        have HGr : Hid (w4.grownBy wr (some X)) := hgr
        have e3 : wr.cell? ⟨X, 3, none⟩ = some (.int .i64 Y) := by rw [cell_of_row wr X 3 _ 106 (0, 0) hXr]; rfl
        have e1 : wr.cell? ⟨X, 1, none⟩ = some (.int .i64 i) := by rw [cell_of_row wr X 1 _ 106 (0, 0) hXr]; rfl
        have f6 : wr.frozen? ⟨X, 3, none⟩ = false := unfrozen hXr 3
        have f7 : wr.frozen? ⟨X, 1, none⟩ = false := unfrozen hXr 1
        clear hsh hXr hgr b2 b2' hdm d3 d4 d5 f4 f5
        by_cases hbig : 455 < D
        · go_wp2
          go_roundw
          case rel => exact ⟨D / 35, Y + 36, by go_num, setCell_row HXr.out 3 _, grown_setCell HGr.out _ _, by omega, by omega, by rw [HS.out, Pm.shr_big hbig]⟩
          case measure => simp [intOf]; omega
        · have hz : ¬ (D : Int) + 38 = 0 := by omega
          have hq1 : 0 ≤ 36 * (D : Int) / ((D : Int) + 38) := Int.ediv_nonneg (by omega) (by omega)
          have hq2 : 36 * (D : Int) / ((D : Int) + 38) ≤ 36 := Int.ediv_le_of_le_mul (by omega) (by omega)
          have HBN : Hid (((Pm.biasN q (L.length + 1) true : Nat) : Int) = (Y : Int) + 36 * (D : Int) / ((D : Int) + 38)) := by
            unfold Hid Pm.biasN; rw [HS.out, Pm.shr_small hbig]; simp
          go_wp2
          go_region
          all_goals
            go_wp2
            go_end0
            have hg5 : wr.grownBy ((wr.setCell ⟨X, 3, none⟩ (.int .i64 ((Y : Int) + 36 * (D : Int) / ((D : Int) + 38)))).setCell ⟨X, 1, none⟩ (.int .i64 ((i : Int) + 1))).drew (some X) := grown_drewN (grown_setCell (grown_setCell (World.grownBy.refl _ _) _ _) _ _) 1
            refine ⟨rfl, g3, cc3, ?_, ?_, ?_⟩
            · unfold sCells
              simp only [Bool.not_false]
              rw [HBN.out]
              exact setCell_row (setCell_row HXr.out 3 _) 1 _
            · exact (HO4.out.kept HGr.out (Or.inr (by have := (own_any HO4.out).1; simp [Value.ownBlock]; omega))).kept hg5 (Or.inr (by have := (own_any HO4.out).1; simp [Value.ownBlock]; omega))
            · exact HB4.out.trans ((below_of_grown HGr.out hBX (by have := HB4.out.size; omega)).trans (below_of_grown hg5 hBX (by have := HB4.out.size; have := HGr.out.size; omega)))
    · have HD : Hid ((Pm.damp q (L.length + 1) false : Nat) = (q : Int) / 2 + (q : Int) / 2 / ((L.length : Int) + 1)) := by unfold Hid Pm.damp; simp
      have hdm := Pm.damp_le q (L.length + 1) false
      have b2 : (q : Int) / 2 / ((L.length : Int) + 1) ≤ 1400000000000 := by
        have := Nat.div_le_self (q / 2) (L.length + 1)
        have e : (((q / 2) / (L.length + 1) : Nat) : Int) = (q : Int) / 2 / ((L.length : Int) + 1) := by simp
        omega
      have b2' : 0 ≤ (q : Int) / 2 / ((L.length : Int) + 1) := Int.ediv_nonneg (by omega) (by omega)
      go_wp2
      go_loopw [5] (fun d wr => ∃ D Y : Nat, d = .int .i64 D ∧ wr.heap[X]? = some (.cells (sCells n i (.slice (some ⟨g3, 0, none⟩) (L.length + 1) cc3) Y true) 106 (0, 0)) ∧ w4.grownBy wr (some X) ∧ D ≤ 1400000000000 ∧ Y + D ≤ 1400000000000 ∧ Pm.shr (Pm.damp q (L.length + 1) false) 0 = Pm.shr D Y) (fun d _ => (intOf d).toNat)
      case atStart => exact ⟨Pm.damp q (L.length + 1) false, 0, by rw [HD.out], setCell_row (setCell_row HX4.out 4 _) 3 _, grown_setCell (grown_setCell (World.grownBy.refl _ _) _ _) _ _, by omega, by omega, rfl⟩
      case round =>
        obtain ⟨D, Y, rfl, hXr, hgr, hD, hY, hsh⟩ := hrel
        have HS : Hid (Pm.shr (Pm.damp q (L.length + 1) false) 0 = Pm.shr D Y) := hsh
        have HXr : Hid (wr.heap[X]? = some (.cells (sCells n i (.slice (some ⟨g3, 0, none⟩) (L.length + 1) cc3) Y true) 106 (0, 0))) := hXr
        have HGr : Hid (w4.grownBy wr (some X)) := hgr
        have e3 : wr.cell? ⟨X, 3, none⟩ = some (.int .i64 Y) := by rw [cell_of_row wr X 3 _ 106 (0, 0) hXr]; rfl
        have e1 : wr.cell? ⟨X, 1, none⟩ = some (.int .i64 i) := by rw [cell_of_row wr X 1 _ 106 (0, 0) hXr]; rfl
        have f6 : wr.frozen? ⟨X, 3, none⟩ = false := unfrozen hXr 3
        have f7 : wr.frozen? ⟨X, 1, none⟩ = false := unfrozen hXr 1
        clear hsh hXr hgr b2 b2' hdm d3 d4 d5 f4 f5
        by_cases hbig : 455 < D
        · go_wp2
          go_roundw
          case rel => exact ⟨D / 35, Y + 36, by go_num, setCell_row HXr.out 3 _, grown_setCell HGr.out _ _, by omega, by omega, by rw [HS.out, Pm.shr_big hbig]⟩
          case measure => simp [intOf]; omega
        · have hz : ¬ (D : Int) + 38 = 0 := by omega
          have hq1 : 0 ≤ 36 * (D : Int) / ((D : Int) + 38) := Int.ediv_nonneg (by omega) (by omega)
          have hq2 : 36 * (D : Int) / ((D : Int) + 38) ≤ 36 := Int.ediv_le_of_le_mul (by omega) (by omega)
          have HBN : Hid (((Pm.biasN q (L.length + 1) false : Nat) : Int) = (Y : Int) + 36 * (D : Int) / ((D : Int) + 38)) := by
            unfold Hid Pm.biasN; rw [HS.out, Pm.shr_small hbig]; simp
          go_wp2
          go_region
          all_goals
            go_wp2
            go_end0
            have hg5 : wr.grownBy ((wr.setCell ⟨X, 3, none⟩ (.int .i64 ((Y : Int) + 36 * (D : Int) / ((D : Int) + 38)))).setCell ⟨X, 1, none⟩ (.int .i64 ((i : Int) + 1))).drew (some X) := grown_drewN (grown_setCell (grown_setCell (World.grownBy.refl _ _) _ _) _ _) 1
            refine ⟨rfl, g3, cc3, ?_, ?_, ?_⟩
            · unfold sCells
              simp only [Bool.not_true]
              rw [HBN.out]
              exact setCell_row (setCell_row HXr.out 3 _) 1 _
            · exact (HO4.out.kept HGr.out (Or.inr (by have := (own_any HO4.out).1; simp [Value.ownBlock]; omega))).kept hg5 (Or.inr (by have := (own_any HO4.out).1; simp [Value.ownBlock]; omega))
            · exact HB4.out.trans ((below_of_grown HGr.out hBX (by have := HB4.out.size; omega)).trans (below_of_grown hg5 hBX (by have := HB4.out.size; have := HGr.out.size; omega)))
set_option maxRecDepth 100000 in
set_option maxHeartbeats 4000000 in
theorem refInsertNilB (X B n bias : Nat) (b : Bool) (q : Nat) (w : World) (h : w.heap[X]? = some (.cells (sCells n 0 (.slice none 0 0) bias b) 106 (0, 0))) (hBX : B ≤ X) (h4 : q ≤ 1400000000000) :
    Calls Tryz.prog 69 #[.pointer (some ⟨X, 0, none⟩), .int .i64 q] w fun e w' => e = .returned (.tuple #[]) ∧ ∃ g' c', w'.heap[X]? = some (.cells (sCells n 1 (.slice (some ⟨g', 0, none⟩) 1 c') (Pm.biasN q 1 (!b)) true) 106 (0, 0)) ∧ w'.ownsRow w.heap.size 3 1 (.slice (some ⟨g', 0, none⟩) 1 c') 1 [iv n] ∧ Below B w w' := by
  obtain ⟨i0, hi, hz0, hz1, hz2⟩ := info_parts info3
  have c1 : w.cell? ⟨X, 1, none⟩ = some (.int .i64 (0 : Nat)) := by rw [cell_of_row w X 1 _ 106 (0, 0) h]; rfl
  have c1' : w.cell? ⟨X, 1, none⟩ = some (.int .i64 0) := c1
  have c2 : w.cell? ⟨X, 2, none⟩ = some (.slice none 0 0) := by rw [cell_of_row w X 2 _ 106 (0, 0) h]; rfl
  have hXl := (Array.getElem?_eq_some_iff.1 h).1
  have n1 := World.new_ne w ⟨X, 1, none⟩ c1
  have HX : Hid (w.heap[X]? = some (.cells (sCells n 0 (.slice none 0 0) bias b) 106 (0, 0))) := h
  clear h c1
  go_enter Tryz.func69, Tryz.ntmps69
  go_wp2
  go_region_held3 (fun W => W.cell? ⟨X, 1, none⟩ = some (.int .i64 0) ∧ W.cell? ⟨X, 2, none⟩ = some (.slice none 0 0)) (go_keep) ((refine step_append_own_none (by rfl) _ _ _ (by rfl) w.heap.size 3 i0 1 Tryz.underlying31 hi (.slice (some ⟨w.heap.size, 0, none⟩) 0 0) 0 [] (by rfl) (World.ownsRow_made w #[] 0 (Nat.le_refl _) (by decide) rfl) (by rfl) ?_))
  obtain ⟨w1, hw1⟩ : ∃ w1, w1 = (w.alloc (.cells #[] 3)).drew := ⟨_, rfl⟩
  rw [← hw1]
  have hb1 : Below w.heap.size w w1 := by rw [hw1]; exact ((Below.refl _ _).alloc (Nat.le_refl _) _).drew
  have HO1 : Hid (w1.ownsRow w.heap.size 3 1 (.slice (some ⟨w.heap.size, 0, none⟩) 0 0) 0 []) := by unfold Hid; rw [hw1]; exact World.ownsRow_made w #[] 0 (Nat.le_refl _) (by decide) rfl
  have hX1 : w1.heap[X]? = some (.cells (sCells n 0 (.slice none 0 0) bias b) 106 (0, 0)) := (hb1.block X hXl).trans HX.out
  have d0 : w1.cell? ⟨X, 0, none⟩ = some (.int .i64 n) := by rw [cell_of_row w1 X 0 _ 106 (0, 0) hX1]; rfl
  have HB1 : Hid (Below w.heap.size w w1) := hb1
  have hs1 := hb1.size
  clear hb1 hX1 c1' c2 n1 hw1
  go_wp2_with (at_builtin; refine wpList_append_own _ rfl (.tmp 17) (.tmp 22) 31 rfl w.heap.size 3 i0 (.int .i64 0) 1 8 Tryz.underlying31 hi hz0 hz1 hz2 rfl (by decide) _ _ _ rfl (HO1.out.alloc _) ⟨w1.heap.size, 0, none⟩ 1 1 [.int .i64 (n : Int)] rfl rfl (cell_one_new _ _ _) (one_iv [n]) (by unfold maxLen; omega) (by omega) (by simp; omega) ?_)
  intro v2 w2 hown2 hgr2 hne2
  obtain ⟨g2, cc2, rfl⟩ := own_notnil hown2 (by first | exact hne2 | simp [hne2])
  have hb2 : Below w.heap.size w w2 := (HB1.out.alloc hs1 _).trans (below_of_grown hgr2 (own_any HO1.out).1 (by simp; omega))
  have hX2 : w2.heap[X]? = some (.cells (sCells n 0 (.slice none 0 0) bias b) 106 (0, 0)) := (hb2.block X hXl).trans HX.out
  have d1 : w2.cell? ⟨X, 1, none⟩ = some (.int .i64 0) := by rw [cell_of_row w2 X 1 _ 106 (0, 0) hX2]; rfl
  have d2 : w2.cell? ⟨X, 2, none⟩ = some (.slice none 0 0) := by rw [cell_of_row w2 X 2 _ 106 (0, 0) hX2]; rfl
  have HB2 : Hid (Below w.heap.size w w2) := hb2
  have HX2 : Hid (w2.heap[X]? = some (.cells (sCells n 0 (.slice none 0 0) bias b) 106 (0, 0))) := hX2
  have hs2 := hb2.size
  have HO2 : Hid (w2.ownsRow w.heap.size 3 1 (.slice (some ⟨g2, 0, none⟩) 1 cc2) 1 [iv n]) := hown2
  have f2 : w2.frozen? ⟨X, 2, none⟩ = false := unfrozen hX2 2
  clear hown2 hgr2 hne2 hb2 hX2 d0 HO1 HB1 hs1
  go_wp2
  go_region_law (refine step_append_own_none (by rfl) _ _ _ (by rfl) w.heap.size 3 i0 1 Tryz.underlying31 hi (.slice (some ⟨g2, 0, none⟩) 1 cc2) 1 [iv n] (by rfl) HO2.out (by rfl) ?_)
  all_goals
    obtain ⟨w4, hw4⟩ : ∃ w4, w4 = (w2.setCell ⟨X, 2, none⟩ (.slice (some ⟨g2, 0, none⟩) 1 cc2)).drew := ⟨_, rfl⟩
    have hX4 : w4.heap[X]? = some (.cells (sCells n 0 (.slice (some ⟨g2, 0, none⟩) 1 cc2) bias b) 106 (0, 0)) := by rw [hw4]; exact setCell_row HX2.out 2 _
    have hgs : w2.grownBy w4 (some X) := by rw [hw4]; exact grown_drewN (grown_setCell (World.grownBy.refl _ _) _ _) 1
    have hg3 := own_any HO2.out
    have HO4 : Hid (w4.ownsRow w.heap.size 3 1 (.slice (some ⟨g2, 0, none⟩) 1 cc2) 1 [iv n]) := HO2.out.kept hgs (Or.inr (by simp [Value.ownBlock]; omega))
    have HB4 : Hid (Below B w w4) := (HB2.out.mono (by omega)).trans (below_of_grown hgs hBX (by omega))
    rw [← hw4]
    have HX4 : Hid (w4.heap[X]? = some (.cells (sCells n 0 (.slice (some ⟨g2, 0, none⟩) 1 cc2) bias b) 106 (0, 0))) := hX4
    have d3 : w4.cell? ⟨X, 3, none⟩ = some (.int .i64 bias) := by rw [cell_of_row w4 X 3 _ 106 (0, 0) hX4]; rfl
    have d4 : w4.cell? ⟨X, 4, none⟩ = some (.bool b) := by rw [cell_of_row w4 X 4 _ 106 (0, 0) hX4]; rfl
    have d5 : w4.cell? ⟨X, 2, none⟩ = some (.slice (some ⟨g2, 0, none⟩) 1 cc2) := by rw [cell_of_row w4 X 2 _ 106 (0, 0) hX4]; rfl
    have f4 : w4.frozen? ⟨X, 4, none⟩ = false := unfrozen hX4 4
    have f5 : w4.frozen? ⟨X, 3, none⟩ = false := unfrozen hX4 3
    clear hw4 hX4 hgs hg3 f2 d1 d2 HO2 HX2 HB2 hs2
    cases b
    · have HD : Hid ((Pm.damp q 1 true : Nat) = (q : Int) / 700 + (q : Int) / 700) := by unfold Hid Pm.damp; simp
      have hdm := Pm.damp_le q 1 true
      go_wp2
      go_loopw [5] (fun d wr => ∃ D Y : Nat, d = .int .i64 D ∧ wr.heap[X]? = some (.cells (sCells n 0 (.slice (some ⟨g2, 0, none⟩) 1 cc2) Y true) 106 (0, 0)) ∧ w4.grownBy wr (some X) ∧ D ≤ 1400000000000 ∧ Y + D ≤ 1400000000000 ∧ Pm.shr (Pm.damp q 1 true) 0 = Pm.shr D Y) (fun d _ => (intOf d).toNat)
      case atStart => exact ⟨Pm.damp q 1 true, 0, by rw [HD.out], setCell_row (setCell_row HX4.out 4 _) 3 _, grown_setCell (grown_setCell (World.grownBy.refl _ _) _ _) _ _, by omega, by omega, rfl⟩
      case round =>
        obtain ⟨D, Y, rfl, hXr, hgr, hD, hY, hsh⟩ := hrel
        have HS : Hid (Pm.shr (Pm.damp q 1 true) 0 = Pm.shr D Y) := hsh
        have HXr : Hid (wr.heap[X]? = some (.cells (sCells n 0 (.slice (some ⟨g2, 0, none⟩) 1 cc2) Y true) 106 (0, 0))) := hXr
        have HGr : Hid (w4.grownBy wr (some X)) := hgr
        have e3 : wr.cell? ⟨X, 3, none⟩ = some (.int .i64 Y) := by rw [cell_of_row wr X 3 _ 106 (0, 0) hXr]; rfl
        have e1 : wr.cell? ⟨X, 1, none⟩ = some (.int .i64 (0 : Nat)) := by rw [cell_of_row wr X 1 _ 106 (0, 0) hXr]; rfl
        have f6 : wr.frozen? ⟨X, 3, none⟩ = false := unfrozen hXr 3
        have f7 : wr.frozen? ⟨X, 1, none⟩ = false := unfrozen hXr 1
        clear hsh hXr hgr hdm d3 d4 d5 f4 f5
        by_cases hbig : 455 < D
        · go_wp2
          go_roundw
          case rel => exact ⟨D / 35, Y + 36, by go_num, setCell_row HXr.out 3 _, grown_setCell HGr.out _ _, by omega, by omega, by rw [HS.out, Pm.shr_big hbig]⟩
          case measure => simp [intOf]; omega
        · have hz : ¬ (D : Int) + 38 = 0 := by omega
          have hq1 : 0 ≤ 36 * (D : Int) / ((D : Int) + 38) := Int.ediv_nonneg (by omega) (by omega)
          have hq2 : 36 * (D : Int) / ((D : Int) + 38) ≤ 36 := Int.ediv_le_of_le_mul (by omega) (by omega)
          have HBN : Hid (((Pm.biasN q 1 true : Nat) : Int) = (Y : Int) + 36 * (D : Int) / ((D : Int) + 38)) := by
            unfold Hid Pm.biasN; rw [HS.out, Pm.shr_small hbig]; simp
          go_wp2
          go_region
          all_goals
            go_wp2
            go_end0
            have hg5 : wr.grownBy ((wr.setCell ⟨X, 3, none⟩ (.int .i64 ((Y : Int) + 36 * (D : Int) / ((D : Int) + 38)))).setCell ⟨X, 1, none⟩ (.int .i64 1)).drew (some X) := grown_drewN (grown_setCell (grown_setCell (World.grownBy.refl _ _) _ _) _ _) 1
            refine ⟨rfl, g2, cc2, ?_, ?_, ?_⟩
            · unfold sCells
              simp only [Bool.not_false]
              rw [HBN.out]
              exact setCell_row (setCell_row HXr.out 3 _) 1 _
            · exact (HO4.out.kept HGr.out (Or.inr (by have := (own_any HO4.out).1; simp [Value.ownBlock]; omega))).kept hg5 (Or.inr (by have := (own_any HO4.out).1; simp [Value.ownBlock]; omega))
            · exact HB4.out.trans ((below_of_grown HGr.out hBX (by have := HB4.out.size; omega)).trans (below_of_grown hg5 hBX (by have := HB4.out.size; have := HGr.out.size; omega)))
    · have HD : Hid ((Pm.damp q 1 false : Nat) = (q : Int) / 2 + (q : Int) / 2) := by unfold Hid Pm.damp; simp
      have hdm := Pm.damp_le q 1 false
      go_wp2
      go_loopw [5] (fun d wr => ∃ D Y : Nat, d = .int .i64 D ∧ wr.heap[X]? = some (.cells (sCells n 0 (.slice (some ⟨g2, 0, none⟩) 1 cc2) Y true) 106 (0, 0)) ∧ w4.grownBy wr (some X) ∧ D ≤ 1400000000000 ∧ Y + D ≤ 1400000000000 ∧ Pm.shr (Pm.damp q 1 false) 0 = Pm.shr D Y) (fun d _ => (intOf d).toNat)
      case atStart => exact ⟨Pm.damp q 1 false, 0, by rw [HD.out], setCell_row (setCell_row HX4.out 4 _) 3 _, grown_setCell (grown_setCell (World.grownBy.refl _ _) _ _) _ _, by omega, by omega, rfl⟩
      case round =>
        obtain ⟨D, Y, rfl, hXr, hgr, hD, hY, hsh⟩ := hrel
        have HS : Hid (Pm.shr (Pm.damp q 1 false) 0 = Pm.shr D Y) := hsh
        have HXr : Hid (wr.heap[X]? = some (.cells (sCells n 0 (.slice (some ⟨g2, 0, none⟩) 1 cc2) Y true) 106 (0, 0))) := hXr
        have HGr : Hid (w4.grownBy wr (some X)) := hgr
        have e3 : wr.cell? ⟨X, 3, none⟩ = some (.int .i64 Y) := by rw [cell_of_row wr X 3 _ 106 (0, 0) hXr]; rfl
        have e1 : wr.cell? ⟨X, 1, none⟩ = some (.int .i64 (0 : Nat)) := by rw [cell_of_row wr X 1 _ 106 (0, 0) hXr]; rfl
        have f6 : wr.frozen? ⟨X, 3, none⟩ = false := unfrozen hXr 3
        have f7 : wr.frozen? ⟨X, 1, none⟩ = false := unfrozen hXr 1
        clear hsh hXr hgr hdm d3 d4 d5 f4 f5
        by_cases hbig : 455 < D
        · go_wp2
          go_roundw
          case rel => exact ⟨D / 35, Y + 36, by go_num, setCell_row HXr.out 3 _, grown_setCell HGr.out _ _, by omega, by omega, by rw [HS.out, Pm.shr_big hbig]⟩
          case measure => simp [intOf]; omega
        · have hz : ¬ (D : Int) + 38 = 0 := by omega
          have hq1 : 0 ≤ 36 * (D : Int) / ((D : Int) + 38) := Int.ediv_nonneg (by omega) (by omega)
          have hq2 : 36 * (D : Int) / ((D : Int) + 38) ≤ 36 := Int.ediv_le_of_le_mul (by omega) (by omega)
          have HBN : Hid (((Pm.biasN q 1 false : Nat) : Int) = (Y : Int) + 36 * (D : Int) / ((D : Int) + 38)) := by
            unfold Hid Pm.biasN; rw [HS.out, Pm.shr_small hbig]; simp
          go_wp2
          go_region
          all_goals
            go_wp2
            go_end0
            have hg5 : wr.grownBy ((wr.setCell ⟨X, 3, none⟩ (.int .i64 ((Y : Int) + 36 * (D : Int) / ((D : Int) + 38)))).setCell ⟨X, 1, none⟩ (.int .i64 1)).drew (some X) := grown_drewN (grown_setCell (grown_setCell (World.grownBy.refl _ _) _ _) _ _) 1
            refine ⟨rfl, g2, cc2, ?_, ?_, ?_⟩
            · unfold sCells
              simp only [Bool.not_true]
              rw [HBN.out]
              exact setCell_row (setCell_row HXr.out 3 _) 1 _
            · exact (HO4.out.kept HGr.out (Or.inr (by have := (own_any HO4.out).1; simp [Value.ownBlock]; omega))).kept hg5 (Or.inr (by have := (own_any HO4.out).1; simp [Value.ownBlock]; omega))
            · exact HB4.out.trans ((below_of_grown HGr.out hBX (by have := HB4.out.size; omega)).trans (below_of_grown hg5 hBX (by have := HB4.out.size; have := HGr.out.size; omega)))
theorem refStepStB (X B : Nat) (x : Pm.St) (q : Nat) (w : World) (h : RefAt w X B x) (h1 : x.n ≤ 1114111) (h2 : x.i ≤ 1100000) (h3 : x.L.length ≤ 1100000) (h4 : q ≤ 1400000000000) :
    Calls Tryz.prog 67 #[.pointer (some ⟨X, 0, none⟩), .int .i64 q] w fun e w' => e = .returned (.tuple #[]) ∧ RefAt w' X B (x.step q) ∧ Below B w w' := by
  obtain ⟨v, hX, ho, hB⟩ := h
  have hv : ∃ a c, v = .slice a x.L.length c := by
    rcases ho.2 with ⟨rfl, e⟩ | ⟨g, cap, cur, rfl, _⟩
    · exact ⟨none, 0, by rw [e]⟩
    · exact ⟨_, _, rfl⟩
  obtain ⟨a, c, rfl⟩ := hv
  refine (refStepB X x.n x.i x.bias x.L.length c a x.later q w hX h1 h2 h3 h4).mono ?_
  rintro e w' ⟨rfl, hX', hg⟩
  exact ⟨rfl, ⟨_, hX', owns_apart ho hX hg, hB⟩, below_of_grown hg hB (Nat.le_trans hB (Nat.le_of_lt (Array.getElem?_eq_some_iff.1 hX).1))⟩

theorem refInsertStB (X B : Nat) (x : Pm.St) (q : Nat) (w : World) (h : RefAt w X B x) (h2 : x.i ≤ x.L.length) (h3 : x.L.length ≤ 1100000) (h4 : q ≤ 1400000000000) :
    Calls Tryz.prog 69 #[.pointer (some ⟨X, 0, none⟩), .int .i64 q] w fun e w' => e = .returned (.tuple #[]) ∧ RefAt w' X B (x.insert q) ∧ Below B w w' := by
  obtain ⟨v, hX, ho, hB⟩ := h
  have hBs : B ≤ w.heap.size := Nat.le_trans hB (Nat.le_of_lt (Array.getElem?_eq_some_iff.1 hX).1)
  have hl := Pm.insert_len x q h2
  rcases ho.2 with ⟨rfl, e⟩ | ⟨g, c, cur, rfl, _⟩
  · have hL : x.L = [] := List.eq_nil_of_length_eq_zero e
    have hi : x.i = 0 := by omega
    rw [hi] at hX
    refine (refInsertNilB X B x.n x.bias x.later q w hX hB h4).mono ?_
    rintro e w' ⟨rfl, g', c', hX', ho', hb⟩
    refine ⟨rfl, ⟨.slice (some ⟨g', 0, none⟩) 1 c', ?_, ?_, hB⟩, hb⟩
    · rw [show x.insert q = { n := x.n, i := 1, L := [x.n], bias := Pm.biasN q 1 (!x.later), later := true } by simp [Pm.St.insert, hL, hi]]
      exact hX'
    · rw [show x.insert q = { n := x.n, i := 1, L := [x.n], bias := Pm.biasN q 1 (!x.later), later := true } by simp [Pm.St.insert, hL, hi]]
      exact owns_mono ho' hBs
  · refine (refInsertB X B x.n x.i x.bias g c x.later x.L q w hX ho hB h2 h3 h4).mono ?_
    rintro e w' ⟨rfl, g', c', hX', ho', hb⟩
    refine ⟨rfl, ⟨.slice (some ⟨g', 0, none⟩) (x.L.length + 1) c', hX', ?_, hB⟩, hb⟩
    rw [hl]
    exact owns_mono ho' hBs

end Go.Proofs.YtkaaldhejpaiiaaGreatDoor

