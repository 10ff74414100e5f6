/- The document's answer: insert. -/
import Derived.Test.YtkaaldhejpaiiaaGreatDoorSb
import Derived.Laws.AppendOwnNone
import Derived.Deep.RegionLaw
namespace Go.Proofs.YtkaaldhejpaiiaaGreatDoor
open Go.RowKit

def iv (n : Nat) : Value := .int .i64 (n : Int)
theorem info3 : (Tryz.prog.info? 3).map (fun i => (i.zero, i.size, i.bytes)) = some (some (.int .i64 0), 1, 8) := by kernel_rfl

/-- append as one step of a region that draws. -/
theorem step_append_own {P : Program} {w : World} {ops : Array Oper} {o : Oper} {a : Act} {K : Act → World → Prop} {Q : Exit → Act → World → Prop} {E : Prop} (hgd : o.guard = none) (s x : Operand) (t : TypeId)
    (ho : o.op = .call { callee := .builtin .append, args := #[s, x], argTypes := #[t, t] })
    (base : Nat) (e : TypeId) (i : TypeInfo) (z : Value) (size bytes : Nat) (ht : P.underlying t = some (.slice e)) (hi : P.info? e = some i) (hz : i.zero = some z)
    (hsize : i.size = size) (hby : i.bytes = bytes) (hzs : z.cells.size = size) (hsz : 0 < size)
    (v : Value) (n : Nat) (xs : List Value) (hs : a.eval s = v) (hown : w.ownsRow base e size v n xs)
    (ad : Addr) (m c : Nat) (news : List Value) (hx : a.eval x = .slice (some ad) m c) (hl : news.length = m * size) (hnews : ∀ j u, news[j]? = some u → w.cell? (ad.add j) = some u) (h1 : ∀ u ∈ news, u.oneCell' = true)
    (h63 : n + m ≤ maxLen) (hbytes : (n + m) * bytes ≤ 140737488355328) (hbase : base ≤ w.heap.size)
    (h : ∀ v' w', w'.ownsRow base e size v' (n + m) (xs ++ news) → w.grownBy w' v.ownBlock → (v' = .slice none 0 0 ↔ v = .slice none 0 0 ∧ m = 0) → K (a.put o.dst v') w') : if Region.wanted o (yielded ops a.tmps) = true then Oper.wp P o a w K Q else E := by
  rw [if_pos (by simp [Region.wanted, hgd])]
  exact wp_append_own w s x t ho base e i z size bytes ht hi hz hsize hby hzs hsz v n xs hs hown ad m c news hx hl hnews h1 h63 hbytes hbase h

theorem one_iv (l : List Nat) : ∀ u ∈ l.map iv, u.oneCell' = true := by intro u hu; obtain ⟨x, _, rfl⟩ := List.mem_map.1 hu; rfl

theorem own_any {w : World} {base g n c : Nat} {e : TypeId} {xs : List Value} (h : w.ownsRow base e 1 (.slice (some ⟨g, 0, none⟩) n c) n xs) : base ≤ g ∧ g < w.heap.size ∧ xs.length = n ∧ ∃ cur, w.heap[g]? = some (.cells cur e (0, 0)) ∧ n ≤ c ∧ c ≤ maxLen ∧ cur.size = c ∧ cur.toList.take n = xs := by
  obtain ⟨h1, h2⟩ := h
  rcases h2 with ⟨h2, _⟩ | ⟨g', cap, cur, hv, hb, hg, hn, hm, hs, ht⟩
  · cases h2
  · simp only [Value.slice.injEq, Option.some.injEq, Addr.mk.injEq, and_true, true_and] at hv
    obtain ⟨rfl, rfl⟩ := hv
    exact ⟨hb, (Array.getElem?_eq_some_iff.1 hg).1, by omega, cur, hg, hn, hm, by omega, by simpa using ht⟩

theorem own_notnil {w : World} {base n : Nat} {e : TypeId} {v : Value} {xs : List Value} (h : w.ownsRow base e 1 v n xs) (hv : v ≠ .slice none 0 0) : ∃ g c, v = .slice (some ⟨g, 0, none⟩) n c := by
  rcases h.2 with ⟨h2, _⟩ | ⟨g', cap, cur, e1, _⟩
  · exact absurd h2 hv
  · exact ⟨g', cap, e1⟩
theorem src_cells {w W : World} {B g n c : Nat} {L : List Nat} (ho : w.ownsRow B 3 1 (.slice (some ⟨g, 0, none⟩) n c) n (L.map iv)) (hW : W.heap[g]? = w.heap[g]?) (a m : Nat) : ∀ j u, (((L.drop a).take m).map iv)[j]? = some u → W.cell? ((⟨g, a, none⟩ : Addr).add j) = some u := by
  intro j u hu
  rw [Addr.add_lit, World.cell?_of_block (w := w) (a := ⟨g, a + j, none⟩) hW]
  rw [List.getElem?_map, List.getElem?_take] at hu
  split at hu
  · rw [List.getElem?_drop, ← List.getElem?_map] at hu
    have := ho.cells (g := g) rfl (a + j) u hu
    rwa [Addr.add_lit, Nat.zero_add] at this
  · simp at hu
theorem slice_if (p : Prop) [Decidable p] (a b : Addr) (n c : Nat) : Value.slice (if p then some a else some b) n c = .slice (some (if p then a else b)) n c := by split <;> rfl
theorem src_cells_end {w W : World} {B g n c : Nat} {L : List Nat} (ho : w.ownsRow B 3 1 (.slice (some ⟨g, 0, none⟩) n c) n (L.map iv)) (hW : W.heap[g]? = w.heap[g]?) (a : Nat) (hc : L.length ≤ c) : ∀ j u, (((L.drop a).take (L.length - a)).map iv)[j]? = some u → W.cell? ((if c = a then (⟨g, 0, none⟩ : Addr) else ⟨g, a, none⟩).add j) = some u := by
  intro j u hu
  by_cases h : c = a
  · rw [List.getElem?_eq_none] at hu
    · simp at hu
    · rw [List.length_map, List.length_take]; omega
  · rw [if_neg h]; exact src_cells ho hW a _ j u hu
theorem src_len {L : List Nat} {a m : Nat} (h : a + m ≤ L.length) : (((L.drop a).take m).map iv).length = m * 1 := by
  rw [List.length_map, List.length_take, List.length_drop]; omega
theorem heap_alloc_lt {w : World} {g : Nat} (h : g < w.heap.size) (o : Obj) : (w.alloc o).heap[g]? = w.heap[g]? := ((Below.refl w.heap.size w).alloc (Nat.le_refl _) o).block g h

set_option maxRecDepth 100000 in
set_option maxHeartbeats 4000000 in
theorem refInsert_some (X B n i bias g c : Nat) (b : Bool) (L : List Nat) (q : Nat) (w : World) (h : w.heap[X]? = some (.cells (sCells n i (.slice (some ⟨g, 0, none⟩) L.length c) bias b) 106 (0, 0))) (ho : w.ownsRow B 3 1 (.slice (some ⟨g, 0, none⟩) L.length c) L.length (L.map iv)) (hBX : B ≤ X) (h2 : i ≤ L.length) (h3 : L.length ≤ 1000) (h4 : q ≤ 1099511627776) :
    Calls Tryz.prog 69 #[.pointer (some ⟨X, 0, none⟩), .int .i64 q] w fun e w' => e = .returned (.tuple #[]) ∧ ∃ g' c', w'.heap[X]? = some (.cells (sCells n (i + 1) (.slice (some ⟨g', 0, none⟩) (L.length + 1) c') (Pm.biasN q (L.length + 1) (!b)) true) 106 (0, 0)) ∧ w'.ownsRow w.heap.size 3 1 (.slice (some ⟨g', 0, none⟩) (L.length + 1) c') (L.length + 1) ((L.take i ++ n :: L.drop i).map iv) ∧ Below B w w' := by
  obtain ⟨i0, hi, hz0, hz1, hz2⟩ := info_parts info3
  have c1 : w.cell? ⟨X, 1, none⟩ = some (.int .i64 i) := by rw [cell_of_row w X 1 _ 106 (0, 0) h]; rfl
  have c2 : w.cell? ⟨X, 2, none⟩ = some (.slice (some ⟨g, 0, none⟩) L.length c) := by rw [cell_of_row w X 2 _ 106 (0, 0) h]; rfl
  have hXl := (Array.getElem?_eq_some_iff.1 h).1
  have n1 := World.new_ne w ⟨X, 1, none⟩ c1
  have HO : Hid (w.ownsRow B 3 1 (.slice (some ⟨g, 0, none⟩) L.length c) L.length (L.map iv)) := ho
  have HX : Hid (w.heap[X]? = some (.cells (sCells n i (.slice (some ⟨g, 0, none⟩) L.length c) bias b) 106 (0, 0))) := h
  obtain ⟨hBg, hgl, _, _, _, hLc, _⟩ := own_any ho
  have k1 : (0 : Int) ≤ (i : Int) := by omega
  have k2 : (i : Int) ≤ (L.length : Int) := by omega
  have k3 : (L.length : Int) ≤ (c : Int) := by omega
  have k4 : (i : Int) ≤ (c : Int) := by omega
  clear h ho
  go_enter Tryz.func69, Tryz.ntmps69
  go_wp2
  go_region_held3 (fun W => W.cell? ⟨X, 1, none⟩ = some (.int .i64 i) ∧ W.cell? ⟨X, 2, none⟩ = some (.slice (some ⟨g, 0, none⟩) L.length c)) (first | go_keep | (go_split_ands; exact ⟨hgr.cell (by assumption) (by simp [Value.ownBlock]; omega), hgr.cell (by assumption) (by simp [Value.ownBlock]; omega)⟩)) ((refine step_append_own (by rfl) _ _ _ (by rfl) w.heap.size 3 i0 (.int .i64 0) 1 8 Tryz.underlying31 hi hz0 hz1 hz2 rfl (by decide) (.slice (some ⟨w.heap.size, 0, none⟩) 0 0) 0 [] (by rfl) (World.ownsRow_made w #[] 0 (Nat.le_refl _) (by decide) rfl) ⟨g, 0, none⟩ i c (((L.drop 0).take i).map iv) (by rfl) (src_len (by omega)) (src_cells HO.out (heap_alloc_lt hgl _) 0 i) (one_iv _) (by unfold maxLen; omega) (by omega) (by simp) ?_; intro v1 w1 hown1 hgr hne; obtain ⟨g1, cc1, rfl⟩ := own_notnil hown1 (by rw [Ne, hne]; simp)))
  have hb1 : Below w.heap.size w w1 := ((Below.refl _ _).alloc (Nat.le_refl _) (.cells #[] 3)).drew.trans (below_of_grown hgr (Nat.le_refl _) (by simp))
  have hX1 : w1.heap[X]? = some (.cells (sCells n i (.slice (some ⟨g, 0, none⟩) L.length c) bias b) 106 (0, 0)) := (hb1.block X hXl).trans HX.out
  have d0 : w1.cell? ⟨X, 0, none⟩ = some (.int .i64 n) := by rw [cell_of_row w1 X 0 _ 106 (0, 0) hX1]; rfl
  have HB1 : Hid (Below w.heap.size w w1) := hb1
  have HX1 : Hid (w1.heap[X]? = some (.cells (sCells n i (.slice (some ⟨g, 0, none⟩) L.length c) bias b) 106 (0, 0))) := hX1
  have hs1 := hb1.size
  have HO1 : Hid (w1.ownsRow w.heap.size 3 1 (.slice (some ⟨g1, 0, none⟩) i cc1) i (((L.drop 0).take i).map iv)) := by
    have := hown1; rw [Nat.zero_add, List.nil_append] at this; exact this
  clear hown1 hgr hne hb1 hX1 c1 c2 n1
  go_wp2_with (at_builtin; refine wpList_append_own _ rfl (.tmp 17) (.tmp 22) 31 rfl w.heap.size 3 i0 (.int .i64 0) 1 8 Tryz.underlying31 hi hz0 hz1 hz2 rfl (by decide) _ _ _ rfl (HO1.out.alloc _) ⟨w1.heap.size, 0, none⟩ 1 1 [.int .i64 (n : Int)] rfl rfl (cell_one_new _ _ _) (one_iv [n]) (by unfold maxLen; omega) (by omega) (by simp; omega) ?_)
  intro v2 w2 hown2 hgr2 hne2
  obtain ⟨g2, cc2, rfl⟩ := own_notnil hown2 hne2
  have hb2 : Below w.heap.size w w2 := (HB1.out.alloc hs1 _).trans (below_of_grown hgr2 (own_any HO1.out).1 (by simp; omega))
  have hX2 : w2.heap[X]? = some (.cells (sCells n i (.slice (some ⟨g, 0, none⟩) L.length c) bias b) 106 (0, 0)) := (hb2.block X hXl).trans HX.out
  have d1 : w2.cell? ⟨X, 1, none⟩ = some (.int .i64 i) := by rw [cell_of_row w2 X 1 _ 106 (0, 0) hX2]; rfl
  have d2 : w2.cell? ⟨X, 2, none⟩ = some (.slice (some ⟨g, 0, none⟩) L.length c) := by rw [cell_of_row w2 X 2 _ 106 (0, 0) hX2]; rfl
  have HB2 : Hid (Below w.heap.size w w2) := hb2
  have HX2 : Hid (w2.heap[X]? = some (.cells (sCells n i (.slice (some ⟨g, 0, none⟩) L.length c) bias b) 106 (0, 0))) := hX2
  have hs2 := hb2.size
  have HG2 : Hid (w2.heap[g]? = w.heap[g]?) := hb2.block g hgl
  have HO2 : Hid (w2.ownsRow w.heap.size 3 1 (.slice (some ⟨g2, 0, none⟩) (i + 1) cc2) (i + 1) (((L.drop 0).take i ++ [n]).map iv)) := by
    have := hown2; unfold Hid; rw [List.map_append, List.drop_zero, List.map_take]; exact this
  have f2 : w2.frozen? ⟨X, 2, none⟩ = false := unfrozen HX2.out 2
  clear hown2 hgr2 hne2 hb2 hX2 d0 HO1 HB1 HX1 hs1
  go_wp2
  go_region_law ((refine step_append_own (by rfl) _ _ _ (by rfl) w.heap.size 3 i0 (.int .i64 0) 1 8 Tryz.underlying31 hi hz0 hz1 hz2 rfl (by decide) (.slice (some ⟨g2, 0, none⟩) (i + 1) cc2) (i + 1) (((L.drop 0).take i ++ [n]).map iv) (by rfl) HO2.out (if c = i then (⟨g, 0, none⟩ : Addr) else ⟨g, i, none⟩) (L.length - i) (c - i) (((L.drop i).take (L.length - i)).map iv) (by exact slice_if _ _ _ _ _) (src_len (by omega)) (src_cells_end HO.out HG2.out i hLc) (one_iv _) (by unfold maxLen; omega) (by omega) hs2 ?_; intro v3 w3 hown3 hgr3 hne3; rw [show i + 1 + (L.length - i) = L.length + 1 by omega] at hown3; obtain ⟨g3, cc3, rfl⟩ := own_notnil hown3 (by rw [Ne, hne3]; simp); have hb3 : Below w.heap.size w w3 := HB2.out.drew.trans (below_of_grown hgr3 (own_any HO2.out).1 hs2); have hX3 : w3.heap[X]? = some (.cells (sCells n i (.slice (some ⟨g, 0, none⟩) L.length c) bias b) 106 (0, 0)) := (hb3.block X hXl).trans HX.out; have f3 : w3.frozen? ⟨X, 2, none⟩ = false := unfrozen hX3 2; have s3 : w3.cell? ⟨X, 2, none⟩ = some (.slice (some ⟨g, 0, none⟩) L.length c) := by rw [cell_of_row _ X 2 _ 106 (0, 0) hX3]; rfl))
  all_goals
    obtain ⟨w4, hw4⟩ : ∃ w4, w4 = w3.setCell ⟨X, 2, none⟩ (.slice (some ⟨g3, 0, none⟩) (L.length + 1) cc3) := ⟨_, rfl⟩
    have hX4 : w4.heap[X]? = some (.cells (sCells n i (.slice (some ⟨g3, 0, none⟩) (L.length + 1) cc3) bias b) 106 (0, 0)) := by rw [hw4]; exact setCell_row hX3 2 _
    have hgs : w3.grownBy w4 (some X) := by rw [hw4]; exact grown_setCell (World.grownBy.refl _ _) _ _
    have hg3 := own_any hown3
    have HO4 : Hid (w4.ownsRow w.heap.size 3 1 (.slice (some ⟨g3, 0, none⟩) (L.length + 1) cc3) (L.length + 1) ((L.take i ++ n :: L.drop i).map iv)) := by
      have := hown3.kept hgs (Or.inr (by simp [Value.ownBlock]; omega))
      rw [List.drop_zero, List.take_of_length_le (by simp : (L.drop i).length ≤ L.length - i), ← List.map_append, List.append_assoc] at this
      exact this
    have HB4 : Hid (Below B w w4) := (hb3.mono (by omega)).trans (below_of_grown hgs hBX (by omega))
    rw [← hw4]
    generalize (if c = i then some (⟨g, 0, none⟩ : Addr) else some ⟨g, i, none⟩) = oo
    have HX4 : Hid (w4.heap[X]? = some (.cells (sCells n i (.slice (some ⟨g3, 0, none⟩) (L.length + 1) cc3) bias b) 106 (0, 0))) := hX4
    have d3 : w4.cell? ⟨X, 3, none⟩ = some (.int .i64 bias) := by rw [cell_of_row w4 X 3 _ 106 (0, 0) hX4]; rfl
    have d4 : w4.cell? ⟨X, 4, none⟩ = some (.bool b) := by rw [cell_of_row w4 X 4 _ 106 (0, 0) hX4]; rfl
    have d5 : w4.cell? ⟨X, 2, none⟩ = some (.slice (some ⟨g3, 0, none⟩) (L.length + 1) cc3) := by rw [cell_of_row w4 X 2 _ 106 (0, 0) hX4]; rfl
    have f4 : w4.frozen? ⟨X, 4, none⟩ = false := unfrozen hX4 4
    have f5 : w4.frozen? ⟨X, 3, none⟩ = false := unfrozen hX4 3
    clear hw4 hX4 hgs hg3 hown3 hgr3 hne3 hb3 hX3 f3 s3 f2 d1 d2 HO2 HG2 HX2 HB2 hs2
    have hlz : ¬ ((L.length + 1 : Nat) : Int) = 0 := by omega
    have hlz' : ¬ (L.length : Int) + 1 = 0 := by omega
    clear hLc k1 k2 k3 k4 hBg hgl
    cases b
    · have HD : Hid ((Pm.damp q (L.length + 1) true : Nat) = (q : Int) / 700 + (q : Int) / 700 / ((L.length : Int) + 1)) := by unfold Hid Pm.damp; simp
      have hdm := Pm.damp_le q (L.length + 1) true
      have b2 : (q : Int) / 700 / ((L.length : Int) + 1) ≤ 1099511627776 := by
        have := Nat.div_le_self (q / 700) (L.length + 1)
        have e : (((q / 700) / (L.length + 1) : Nat) : Int) = (q : Int) / 700 / ((L.length : Int) + 1) := by simp
        omega
      have b2' : 0 ≤ (q : Int) / 700 / ((L.length : Int) + 1) := Int.ediv_nonneg (by omega) (by omega)
      go_wp2
      go_loopw [5] (fun d wr => ∃ D Y : Nat, d = .int .i64 D ∧ wr.heap[X]? = some (.cells (sCells n i (.slice (some ⟨g3, 0, none⟩) (L.length + 1) cc3) Y true) 106 (0, 0)) ∧ w4.grownBy wr (some X) ∧ D ≤ 1099511627776 ∧ Y + D ≤ 1099511627776 ∧ Pm.shr (Pm.damp q (L.length + 1) true) 0 = Pm.shr D Y) (fun d _ => (intOf d).toNat)
      case atStart => exact ⟨Pm.damp q (L.length + 1) true, 0, by rw [HD.out], setCell_row (setCell_row HX4.out 4 _) 3 _, grown_setCell (grown_setCell (World.grownBy.refl _ _) _ _) _ _, by omega, by omega, rfl⟩
      case round =>
        obtain ⟨D, Y, rfl, hXr, hgr, hD, hY, hsh⟩ := hrel
        have HS : Hid (Pm.shr (Pm.damp q (L.length + 1) true) 0 = Pm.shr D Y) := hsh
        have HXr : Hid (wr.heap[X]? = some (.cells (sCells n i (.slice (some ⟨g3, 0, none⟩) (L.length + 1) cc3) Y true) 106 (0, 0))) := hXr
        have HGr : Hid (w4.grownBy wr (some X)) := hgr
        have e3 : wr.cell? ⟨X, 3, none⟩ = some (.int .i64 Y) := by rw [cell_of_row wr X 3 _ 106 (0, 0) hXr]; rfl
        have e1 : wr.cell? ⟨X, 1, none⟩ = some (.int .i64 i) := by rw [cell_of_row wr X 1 _ 106 (0, 0) hXr]; rfl
        have f6 : wr.frozen? ⟨X, 3, none⟩ = false := unfrozen hXr 3
        have f7 : wr.frozen? ⟨X, 1, none⟩ = false := unfrozen hXr 1
        clear hsh hXr hgr b2 b2' hdm d3 d4 d5 f4 f5
        by_cases hbig : 455 < D
        · go_wp2
          go_roundw
          case rel => exact ⟨D / 35, Y + 36, by go_num, setCell_row HXr.out 3 _, grown_setCell HGr.out _ _, by omega, by omega, by rw [HS.out, Pm.shr_big hbig]⟩
          case measure => simp [intOf]; omega
        · have hz : ¬ (D : Int) + 38 = 0 := by omega
          have hq1 : 0 ≤ 36 * (D : Int) / ((D : Int) + 38) := Int.ediv_nonneg (by omega) (by omega)
          have hq2 : 36 * (D : Int) / ((D : Int) + 38) ≤ 36 := Int.ediv_le_of_le_mul (by omega) (by omega)
          have HBN : Hid (((Pm.biasN q (L.length + 1) true : Nat) : Int) = (Y : Int) + 36 * (D : Int) / ((D : Int) + 38)) := by
            unfold Hid Pm.biasN; rw [HS.out, Pm.shr_small hbig]; simp
          go_wp2
          go_region
          all_goals
            go_wp2
            go_end0
            have hg5 : wr.grownBy ((wr.setCell ⟨X, 3, none⟩ (.int .i64 ((Y : Int) + 36 * (D : Int) / ((D : Int) + 38)))).setCell ⟨X, 1, none⟩ (.int .i64 ((i : Int) + 1))).drew (some X) := grown_drewN (grown_setCell (grown_setCell (World.grownBy.refl _ _) _ _) _ _) 1
            refine ⟨rfl, g3, cc3, ?_, ?_, ?_⟩
            · unfold sCells
              simp only [Bool.not_false]
              rw [HBN.out]
              exact setCell_row (setCell_row HXr.out 3 _) 1 _
            · exact (HO4.out.kept HGr.out (Or.inr (by have := (own_any HO4.out).1; simp [Value.ownBlock]; omega))).kept hg5 (Or.inr (by have := (own_any HO4.out).1; simp [Value.ownBlock]; omega))
            · exact HB4.out.trans ((below_of_grown HGr.out hBX (by have := HB4.out.size; omega)).trans (below_of_grown hg5 hBX (by have := HB4.out.size; have := HGr.out.size; omega)))
    · have HD : Hid ((Pm.damp q (L.length + 1) false : Nat) = (q : Int) / 2 + (q : Int) / 2 / ((L.length : Int) + 1)) := by unfold Hid Pm.damp; simp
      have hdm := Pm.damp_le q (L.length + 1) false
      have b2 : (q : Int) / 2 / ((L.length : Int) + 1) ≤ 1099511627776 := by
        have := Nat.div_le_self (q / 2) (L.length + 1)
        have e : (((q / 2) / (L.length + 1) : Nat) : Int) = (q : Int) / 2 / ((L.length : Int) + 1) := by simp
        omega
      have b2' : 0 ≤ (q : Int) / 2 / ((L.length : Int) + 1) := Int.ediv_nonneg (by omega) (by omega)
      go_wp2
      go_loopw [5] (fun d wr => ∃ D Y : Nat, d = .int .i64 D ∧ wr.heap[X]? = some (.cells (sCells n i (.slice (some ⟨g3, 0, none⟩) (L.length + 1) cc3) Y true) 106 (0, 0)) ∧ w4.grownBy wr (some X) ∧ D ≤ 1099511627776 ∧ Y + D ≤ 1099511627776 ∧ Pm.shr (Pm.damp q (L.length + 1) false) 0 = Pm.shr D Y) (fun d _ => (intOf d).toNat)
      case atStart => exact ⟨Pm.damp q (L.length + 1) false, 0, by rw [HD.out], setCell_row (setCell_row HX4.out 4 _) 3 _, grown_setCell (grown_setCell (World.grownBy.refl _ _) _ _) _ _, by omega, by omega, rfl⟩
      case round =>
        obtain ⟨D, Y, rfl, hXr, hgr, hD, hY, hsh⟩ := hrel
        have HS : Hid (Pm.shr (Pm.damp q (L.length + 1) false) 0 = Pm.shr D Y) := hsh
        have HXr : Hid (wr.heap[X]? = some (.cells (sCells n i (.slice (some ⟨g3, 0, none⟩) (L.length + 1) cc3) Y true) 106 (0, 0))) := hXr
        have HGr : Hid (w4.grownBy wr (some X)) := hgr
        have e3 : wr.cell? ⟨X, 3, none⟩ = some (.int .i64 Y) := by rw [cell_of_row wr X 3 _ 106 (0, 0) hXr]; rfl
        have e1 : wr.cell? ⟨X, 1, none⟩ = some (.int .i64 i) := by rw [cell_of_row wr X 1 _ 106 (0, 0) hXr]; rfl
        have f6 : wr.frozen? ⟨X, 3, none⟩ = false := unfrozen hXr 3
        have f7 : wr.frozen? ⟨X, 1, none⟩ = false := unfrozen hXr 1
        clear hsh hXr hgr b2 b2' hdm d3 d4 d5 f4 f5
        by_cases hbig : 455 < D
        · go_wp2
          go_roundw
          case rel => exact ⟨D / 35, Y + 36, by go_num, setCell_row HXr.out 3 _, grown_setCell HGr.out _ _, by omega, by omega, by rw [HS.out, Pm.shr_big hbig]⟩
          case measure => simp [intOf]; omega
        · have hz : ¬ (D : Int) + 38 = 0 := by omega
          have hq1 : 0 ≤ 36 * (D : Int) / ((D : Int) + 38) := Int.ediv_nonneg (by omega) (by omega)
          have hq2 : 36 * (D : Int) / ((D : Int) + 38) ≤ 36 := Int.ediv_le_of_le_mul (by omega) (by omega)
          have HBN : Hid (((Pm.biasN q (L.length + 1) false : Nat) : Int) = (Y : Int) + 36 * (D : Int) / ((D : Int) + 38)) := by
            unfold Hid Pm.biasN; rw [HS.out, Pm.shr_small hbig]; simp
          go_wp2
          go_region
          all_goals
            go_wp2
            go_end0
            have hg5 : wr.grownBy ((wr.setCell ⟨X, 3, none⟩ (.int .i64 ((Y : Int) + 36 * (D : Int) / ((D : Int) + 38)))).setCell ⟨X, 1, none⟩ (.int .i64 ((i : Int) + 1))).drew (some X) := grown_drewN (grown_setCell (grown_setCell (World.grownBy.refl _ _) _ _) _ _) 1
            refine ⟨rfl, g3, cc3, ?_, ?_, ?_⟩
            · unfold sCells
              simp only [Bool.not_true]
              rw [HBN.out]
              exact setCell_row (setCell_row HXr.out 3 _) 1 _
            · exact (HO4.out.kept HGr.out (Or.inr (by have := (own_any HO4.out).1; simp [Value.ownBlock]; omega))).kept hg5 (Or.inr (by have := (own_any HO4.out).1; simp [Value.ownBlock]; omega))
            · exact HB4.out.trans ((below_of_grown HGr.out hBX (by have := HB4.out.size; omega)).trans (below_of_grown hg5 hBX (by have := HB4.out.size; have := HGr.out.size; omega)))
end Go.Proofs.YtkaaldhejpaiiaaGreatDoor
