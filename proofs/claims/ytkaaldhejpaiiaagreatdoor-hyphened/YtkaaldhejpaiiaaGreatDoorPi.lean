/- The decoder: what lies in its block; Text.Insert; insertNext. -/
import Derived.Test.YtkaaldhejpaiiaaGreatDoorPh
namespace Go.Proofs.YtkaaldhejpaiiaaGreatDoor
open Go.RowKit

theorem readNumber_yes (s : ByteArray) (bias most : Nat) (w : World) (hs : s.size ≤ 1000) (hb : bias ≤ 1099511627776) (hm : most ≤ 1115226111) (q : Nat) (l : List UInt8) (h : Pm.rd bias 1 0 1 s.data.toList = some (q, l)) (hq : q ≤ most) :
    Calls Tryz.prog 181 #[.string s, .int .i64 bias, .int .i64 most] w fun e w' => e = .returned (.tuple #[.int .i64 q, .string ⟨l.toArray⟩, .bool true]) ∧ ∃ n, w' = w.drewN n := by
  refine (readNumber_any s bias most w hs hb hm).mono ?_
  rintro e w' ⟨hr, hw⟩
  refine ⟨?_, hw⟩
  rcases hr with ⟨q', r, h1, _, _, rfl⟩ | ⟨h1, _⟩
  · rw [h] at h1
    simp only [Option.some.injEq, Prod.mk.injEq] at h1
    obtain ⟨rfl, rfl⟩ := h1
    cases r
    simp
  · exact absurd (h1 q l h) (by omega)
theorem readNumber_no (s : ByteArray) (bias most : Nat) (w : World) (hs : s.size ≤ 1000) (hb : bias ≤ 1099511627776) (hm : most ≤ 1115226111) (h : ∀ q l, Pm.rd bias 1 0 1 s.data.toList = some (q, l) → most < q) :
    Calls Tryz.prog 181 #[.string s, .int .i64 bias, .int .i64 most] w fun e w' => e = .returned (.tuple #[.int .i64 0, .string { data := #[] }, .bool false]) ∧ ∃ n, w' = w.drewN n := by
  refine (readNumber_any s bias most w hs hb hm).mono ?_
  rintro e w' ⟨hr, hw⟩
  refine ⟨?_, hw⟩
  rcases hr with ⟨q', r, h1, h2, _, rfl⟩ | ⟨_, rfl⟩
  · exact absurd (h _ _ h1) (by omega)
  · rfl

theorem setCell_row {w : World} {E : Nat} {cs : Array Value} {t : TypeId} {fr : Nat × Nat} (h : w.heap[E]? = some (.cells cs t fr)) (j : Nat) (v : Value) : (w.setCell ⟨E, j, none⟩ v).heap[E]? = some (.cells (cs.setIfInBounds j v) t fr) := by
  simp [World.setCell, Array.getElem?_modify, h]

/-- What a coder's block holds: the row's value, the state's five, one thing more. -/
def dCells (v : Value) (n i len bias : Nat) (b : Bool) (u : Value) : Array Value := #[v, .int .i64 n, .int .i64 i, .int .i64 len, .int .i64 bias, .bool b, u]
theorem stAt_of {w : World} {E : Nat} {v u : Value} {n i len bias : Nat} {b : Bool} {t : TypeId} (h : w.heap[E]? = some (.cells (dCells v n i len bias b u) t (0, 0))) : StAt w E 1 n i len bias b :=
  ⟨by rw [cell_of_row w E 1 _ t (0, 0) h]; rfl, by rw [cell_of_row w E 2 _ t (0, 0) h]; rfl, by rw [cell_of_row w E 3 _ t (0, 0) h]; rfl, by rw [cell_of_row w E 4 _ t (0, 0) h]; rfl, by rw [cell_of_row w E 5 _ t (0, 0) h]; rfl⟩
theorem unfrozen {w : World} {E : Nat} {cs : Array Value} {t : TypeId} (h : w.heap[E]? = some (.cells cs t (0, 0))) (o : Nat) : w.frozen? ⟨E, o, none⟩ = false := by simp [World.frozen?, h]
theorem grown_drewN {w w' : World} {r : Option Nat} (h : w.grownBy w' r) (k : Nat) : w.grownBy (w'.drewN k) r := ⟨h.os, h.tape, h.output, h.size, h.block⟩
theorem grown_setCell {w w' : World} {E : Nat} (h : w.grownBy w' (some E)) (o : Nat) (v : Value) : w.grownBy (w'.setCell ⟨E, o, none⟩ v) (some E) :=
  ⟨h.os, h.tape, h.output, by simpa [World.setCell] using h.size, fun k hk hne => (Below.heap_setCell w' ⟨E, o, none⟩ v k (fun e => hne (by rw [e]))).trans (h.block k hk hne)⟩
theorem grown_trans {w w1 w2 : World} {r : Option Nat} (h : w.grownBy w1 r) (k : w1.grownBy w2 r) : w.grownBy w2 r :=
  ⟨k.os.trans h.os, k.tape.trans h.tape, k.output.trans h.output, Nat.le_trans h.size k.size, fun i hi hne => (k.block i (Nat.lt_of_lt_of_le hi h.size) hne).trans (h.block i hi hne)⟩

theorem walkD_any (E n i len bias : Nat) (b : Bool) (q : Nat) (v u : Value) (t : TypeId) (w : World) (h : w.heap[E]? = some (.cells (dCells v n i len bias b u) t (0, 0))) (h1 : n ≤ 1114111) (h2 : i ≤ 1000) (h3 : len ≤ 1000) (h4 : q ≤ 1115226111) :
    Calls Tryz.prog 182 #[.pointer (some ⟨E, 1, none⟩), .int .i64 q] w fun e w' => e = .returned (.tuple #[]) ∧ w'.heap[E]? = some (.cells (dCells v (n + (i + q) / (len + 1)) ((i + q) % (len + 1)) len bias b u) t (0, 0)) ∧ w.grownBy w' (some E) := by
  refine (walk_any E 1 n i len bias b q w (stAt_of h) (unfrozen h _) (unfrozen h _) h1 h2 h3 h4).mono ?_
  rintro e w' ⟨rfl, k, rfl⟩
  refine ⟨rfl, setCell_row (setCell_row h 1 _) 2 _, ?_⟩
  exact grown_drewN (grown_setCell (grown_setCell (World.grownBy.refl _ _) _ _) _ _) _
theorem settleD_any (E n i len bias : Nat) (b : Bool) (q : Nat) (v u : Value) (t : TypeId) (w : World) (h : w.heap[E]? = some (.cells (dCells v n i len bias b u) t (0, 0))) (h2 : i ≤ 1000) (h3 : len ≤ 1000) (h4 : q ≤ 1115226111) :
    Calls Tryz.prog 185 #[.pointer (some ⟨E, 1, none⟩), .int .i64 q] w fun e w' => e = .returned (.tuple #[]) ∧ w'.heap[E]? = some (.cells (dCells v n (i + 1) (len + 1) (Pm.biasN q (len + 1) (!b)) true u) t (0, 0)) ∧ w.grownBy w' (some E) := by
  refine (settle_any E 1 n i len bias b q w (stAt_of h) (unfrozen h _) (unfrozen h _) (unfrozen h _) (unfrozen h _) h2 h3 h4).mono ?_
  rintro e w' ⟨rfl, k, rfl⟩
  refine ⟨rfl, setCell_row (setCell_row (setCell_row (setCell_row h 3 _) 2 _) 4 _) 5 _, ?_⟩
  exact grown_drewN (grown_setCell (grown_setCell (grown_setCell (grown_setCell (World.grownBy.refl _ _) _ _) _ _) _ _) _ _) _

/-- A decoder at work: its row is its own. -/
def DecAt (w : World) (E B : Nat) (x : Pm.St) (num : ByteArray) : Prop :=
  ∃ g c, w.heap[E]? = some (.cells (dCells (.slice (some ⟨g, 0, none⟩) x.L.length c) x.n x.i x.L.length x.bias x.later (.string num)) 190 (0, 0)) ∧
    w.ownsRow B 21 1 (.slice (some ⟨g, 0, none⟩) x.L.length c) x.L.length (x.L.map rv) ∧ g ≠ E ∧ B ≤ E ∧ E < w.heap.size

set_option maxRecDepth 100000 in
set_option maxHeartbeats 2000000 in
theorem textInsert_any (E o g n c i r B : Nat) (ns : List Nat) (w : World) (cs : Array Value) (tE : TypeId) (htE : tE ≠ 21) (hE : w.heap[E]? = some (.cells cs tE (0, 0))) (hco : cs[o]? = some (.slice (some ⟨g, 0, none⟩) n c))
    (hown : w.ownsRow B 21 1 (.slice (some ⟨g, 0, none⟩) n c) n (ns.map rv)) (hge : g ≠ E) (hn : n ≤ 2000) (hi : i ≤ n) (hbe : B ≤ E) :
    Calls Tryz.prog 184 #[.pointer (some ⟨E, o, none⟩), .int .i64 i, rv r] w fun e w' => e = .returned (.tuple #[]) ∧ ∃ g' c' w1, w' = w1.setCell ⟨E, o, none⟩ (.slice (some ⟨g', 0, none⟩) (n + 1) c') ∧
      w1.ownsRow B 21 1 (.slice (some ⟨g', 0, none⟩) (n + 1) c') (n + 1) ((ns.take i ++ r :: ns.drop i).map rv) ∧ w.grownBy w1 (some g) ∧ g' ≠ E := by
  obtain ⟨hB, hglt, hl, cur, hg, hnc, hcm, hcs, htk⟩ := own_some hown
  have hc : w.cell? ⟨E, o, none⟩ = some (.slice (some ⟨g, 0, none⟩) n c) := by rw [cell_of_row w E o cs tE (0, 0) hE]; exact hco
  have hf : w.frozen? ⟨E, o, none⟩ = false := by simp [World.frozen?, hE]
  have hElt : E < w.heap.size := World.block_lt_of_cell? w ⟨E, o, none⟩ hc
  have HE : Hid (w.heap[E]? = some (.cells cs tE (0, 0))) := hE
  clear hE hco
  have hown1 : ∀ ob, (w.alloc ob).ownsRow B 21 1 (.slice (some ⟨g, 0, none⟩) n c) n (ns.map rv) := fun ob => hown.alloc ob
  have hins := insertS_any B g n c i w.heap.size r (ns.map rv) (w.alloc (.cells #[rv r] 21)) (hown1 _) (one_of_map rfl) (Go.heap_alloc_new w _) (by omega) hn hi (by simp; omega)
  unfold rv at hins ⊢
  have HO : Hid (w.ownsRow B 21 1 (.slice (some ⟨g, 0, none⟩) n c) n (ns.map rv)) := hown
  clear hown hown1 htk hcs hg hcm hnc hl
  go_enter Tryz.func184, Tryz.ntmps184
  go_wp2_with fail
  refine hins.mono ?_
  rintro e w1 ⟨g', c', rfl, hown', hgr⟩
  have hblk : w1.heap[E]? = w.heap[E]? := by
    rw [hgr.block E (by simp; omega) (by intro e; exact hge (Option.some.inj e).symm)]
    exact Below.heap_alloc w _ E hElt
  have hc1 : w1.cell? ⟨E, o, none⟩ = some (.slice (some ⟨g, 0, none⟩) n c) := by rw [World.cell?_of_block (w := w) hblk]; exact hc
  have hf1 : w1.frozen? ⟨E, o, none⟩ = false := by rw [World.frozen?_of_block (w := w) hblk]; exact hf
  have HW : Hid (w1.ownsRow B 21 1 (.slice (some ⟨g', 0, none⟩) (n + 1) c') (n + 1) ((ns.map rv).take i ++ rv r :: (ns.map rv).drop i)) := hown'
  have HG : Hid ((w.alloc (.cells #[.int .i32 (r : Int)] 21)).grownBy w1 (some g)) := hgr
  have HB : Hid (w1.heap[E]? = w.heap[E]?) := hblk
  clear hown' hgr hblk hins hc hf
  go_wp2
  go_end0
  refine ⟨rfl, g', c', w1, rfl, ?_, ?_, ?_⟩
  · show w1.ownsRow B 21 1 (.slice (some ⟨g', 0, none⟩) (n + 1) c') (n + 1) ((ns.take i ++ r :: ns.drop i).map rv)
    rw [List.map_append, List.map_cons, List.map_take, List.map_drop]
    exact HW.out
  · have h := HG.out
    exact ⟨h.os, h.tape, h.output, Nat.le_trans (by simp) h.size, fun k hk hne => (h.block k (by simp; omega) hne).trans (Below.heap_alloc w _ k hk)⟩
  · intro he
    obtain ⟨_, _, _, cur', hg', _⟩ := own_some HW.out
    rw [he, HB.out, HE.out] at hg'
    simp only [Option.some.injEq, Obj.cells.injEq] at hg'
    exact htE hg'.2.1
end Go.Proofs.YtkaaldhejpaiiaaGreatDoor
