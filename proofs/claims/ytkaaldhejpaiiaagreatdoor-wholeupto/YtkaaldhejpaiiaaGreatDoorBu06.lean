import Derived.Test.YtkaaldhejpaiiaaGreatDoorBu05
import Derived.Deep.LoopGhost
import Derived.Deep.RegionHeld3
/- The decoder: what lies in its block; Text.Insert; insertNext. -/
namespace Go.Proofs.YtkaaldhejpaiiaaGreatDoor
open Go.RowKit

theorem readNumber_yes (s : ByteArray) (bias most : Nat) (w : World) (hs : s.size ≤ 1000) (hb : bias ≤ 1099511627776) (hm : most ≤ 1115226111) (q : Nat) (l : List UInt8) (h : Pm.rd bias 1 0 1 s.data.toList = some (q, l)) (hq : q ≤ most) :
    Calls Tryz.prog 181 #[.string s, .int .i64 bias, .int .i64 most] w fun e w' => e = .returned (.tuple #[.int .i64 q, .string ⟨l.toArray⟩, .bool true]) ∧ ∃ n, w' = w.drewN n := by
  refine (readNumber_any s bias most w hs hb hm).mono ?_
  rintro e w' ⟨hr, hw⟩
  refine ⟨?_, hw⟩
  rcases hr with ⟨q', r, h1, _, _, rfl⟩ | ⟨h1, _⟩
  · rw [h] at h1
    simp only [Option.some.injEq, Prod.mk.injEq] at h1
    obtain ⟨rfl, rfl⟩ := h1
    cases r
    simp
  · exact absurd (h1 q l h) (by omega)
theorem readNumber_no (s : ByteArray) (bias most : Nat) (w : World) (hs : s.size ≤ 1000) (hb : bias ≤ 1099511627776) (hm : most ≤ 1115226111) (h : ∀ q l, Pm.rd bias 1 0 1 s.data.toList = some (q, l) → most < q) :
    Calls Tryz.prog 181 #[.string s, .int .i64 bias, .int .i64 most] w fun e w' => e = .returned (.tuple #[.int .i64 0, .string { data := #[] }, .bool false]) ∧ ∃ n, w' = w.drewN n := by
  refine (readNumber_any s bias most w hs hb hm).mono ?_
  rintro e w' ⟨hr, hw⟩
  refine ⟨?_, hw⟩
  rcases hr with ⟨q', r, h1, h2, _, rfl⟩ | ⟨_, rfl⟩
  · exact absurd (h _ _ h1) (by omega)
  · rfl

theorem setCell_row {w : World} {E : Nat} {cs : Array Value} {t : TypeId} {fr : Nat × Nat} (h : w.heap[E]? = some (.cells cs t fr)) (j : Nat) (v : Value) : (w.setCell ⟨E, j, none⟩ v).heap[E]? = some (.cells (cs.setIfInBounds j v) t fr) := by
  simp [World.setCell, Array.getElem?_modify, h]

/-- What a coder's block holds: the row's value, the state's five, one thing more. -/
def dCells (v : Value) (n i len bias : Nat) (b : Bool) (u : Value) : Array Value := #[v, .int .i64 n, .int .i64 i, .int .i64 len, .int .i64 bias, .bool b, u]
theorem stAt_of {w : World} {E : Nat} {v u : Value} {n i len bias : Nat} {b : Bool} {t : TypeId} (h : w.heap[E]? = some (.cells (dCells v n i len bias b u) t (0, 0))) : StAt w E 1 n i len bias b :=
  ⟨by rw [cell_of_row w E 1 _ t (0, 0) h]; rfl, by rw [cell_of_row w E 2 _ t (0, 0) h]; rfl, by rw [cell_of_row w E 3 _ t (0, 0) h]; rfl, by rw [cell_of_row w E 4 _ t (0, 0) h]; rfl, by rw [cell_of_row w E 5 _ t (0, 0) h]; rfl⟩
theorem unfrozen {w : World} {E : Nat} {cs : Array Value} {t : TypeId} (h : w.heap[E]? = some (.cells cs t (0, 0))) (o : Nat) : w.frozen? ⟨E, o, none⟩ = false := by simp [World.frozen?, h]
theorem grown_drewN {w w' : World} {r : Option Nat} (h : w.grownBy w' r) (k : Nat) : w.grownBy (w'.drewN k) r := ⟨h.os, h.tape, h.output, h.size, h.block⟩
theorem grown_setCell {w w' : World} {E : Nat} (h : w.grownBy w' (some E)) (o : Nat) (v : Value) : w.grownBy (w'.setCell ⟨E, o, none⟩ v) (some E) :=
  ⟨h.os, h.tape, h.output, by simpa [World.setCell] using h.size, fun k hk hne => (Below.heap_setCell w' ⟨E, o, none⟩ v k (fun e => hne (by rw [e]))).trans (h.block k hk hne)⟩
theorem grown_trans {w w1 w2 : World} {r : Option Nat} (h : w.grownBy w1 r) (k : w1.grownBy w2 r) : w.grownBy w2 r :=
  ⟨k.os.trans h.os, k.tape.trans h.tape, k.output.trans h.output, Nat.le_trans h.size k.size, fun i hi hne => (k.block i (Nat.lt_of_lt_of_le hi h.size) hne).trans (h.block i hi hne)⟩

theorem walkD_any (E n i len bias : Nat) (b : Bool) (q : Nat) (v u : Value) (t : TypeId) (w : World) (h : w.heap[E]? = some (.cells (dCells v n i len bias b u) t (0, 0))) (h1 : n ≤ 1114111) (h2 : i ≤ 1000) (h3 : len ≤ 1000) (h4 : q ≤ 1115226111) :
    Calls Tryz.prog 182 #[.pointer (some ⟨E, 1, none⟩), .int .i64 q] w fun e w' => e = .returned (.tuple #[]) ∧ w'.heap[E]? = some (.cells (dCells v (n + (i + q) / (len + 1)) ((i + q) % (len + 1)) len bias b u) t (0, 0)) ∧ w.grownBy w' (some E) := by
  refine (walk_any E 1 n i len bias b q w (stAt_of h) (unfrozen h _) (unfrozen h _) h1 h2 h3 h4).mono ?_
  rintro e w' ⟨rfl, k, rfl⟩
  refine ⟨rfl, setCell_row (setCell_row h 1 _) 2 _, ?_⟩
  exact grown_drewN (grown_setCell (grown_setCell (World.grownBy.refl _ _) _ _) _ _) _
theorem settleD_any (E n i len bias : Nat) (b : Bool) (q : Nat) (v u : Value) (t : TypeId) (w : World) (h : w.heap[E]? = some (.cells (dCells v n i len bias b u) t (0, 0))) (h2 : i ≤ 1000) (h3 : len ≤ 1000) (h4 : q ≤ 1115226111) :
    Calls Tryz.prog 185 #[.pointer (some ⟨E, 1, none⟩), .int .i64 q] w fun e w' => e = .returned (.tuple #[]) ∧ w'.heap[E]? = some (.cells (dCells v n (i + 1) (len + 1) (Pm.biasN q (len + 1) (!b)) true u) t (0, 0)) ∧ w.grownBy w' (some E) := by
  refine (settle_any E 1 n i len bias b q w (stAt_of h) (unfrozen h _) (unfrozen h _) (unfrozen h _) (unfrozen h _) h2 h3 h4).mono ?_
  rintro e w' ⟨rfl, k, rfl⟩
  refine ⟨rfl, setCell_row (setCell_row (setCell_row (setCell_row h 3 _) 2 _) 4 _) 5 _, ?_⟩
  exact grown_drewN (grown_setCell (grown_setCell (grown_setCell (grown_setCell (World.grownBy.refl _ _) _ _) _ _) _ _) _ _) _

/-- A decoder at work: its row is its own. -/
def DecAt (w : World) (E B : Nat) (x : Pm.St) (num : ByteArray) : Prop :=
  ∃ g c, w.heap[E]? = some (.cells (dCells (.slice (some ⟨g, 0, none⟩) x.L.length c) x.n x.i x.L.length x.bias x.later (.string num)) 190 (0, 0)) ∧
    w.ownsRow B 21 1 (.slice (some ⟨g, 0, none⟩) x.L.length c) x.L.length (x.L.map rv) ∧ g ≠ E ∧ B ≤ E ∧ E < w.heap.size

set_option maxRecDepth 100000 in
set_option maxHeartbeats 2000000 in
theorem textInsert_any (E o g n c i r B : Nat) (ns : List Nat) (w : World) (cs : Array Value) (tE : TypeId) (htE : tE ≠ 21) (hE : w.heap[E]? = some (.cells cs tE (0, 0))) (hco : cs[o]? = some (.slice (some ⟨g, 0, none⟩) n c))
    (hown : w.ownsRow B 21 1 (.slice (some ⟨g, 0, none⟩) n c) n (ns.map rv)) (hge : g ≠ E) (hn : n ≤ 2000) (hi : i ≤ n) (hbe : B ≤ E) :
    Calls Tryz.prog 184 #[.pointer (some ⟨E, o, none⟩), .int .i64 i, rv r] w fun e w' => e = .returned (.tuple #[]) ∧ ∃ g' c' w1, w' = w1.setCell ⟨E, o, none⟩ (.slice (some ⟨g', 0, none⟩) (n + 1) c') ∧
      w1.ownsRow B 21 1 (.slice (some ⟨g', 0, none⟩) (n + 1) c') (n + 1) ((ns.take i ++ r :: ns.drop i).map rv) ∧ w.grownBy w1 (some g) ∧ g' ≠ E := by
  obtain ⟨hB, hglt, hl, cur, hg, hnc, hcm, hcs, htk⟩ := own_some hown
  have hc : w.cell? ⟨E, o, none⟩ = some (.slice (some ⟨g, 0, none⟩) n c) := by rw [cell_of_row w E o cs tE (0, 0) hE]; exact hco
  have hf : w.frozen? ⟨E, o, none⟩ = false := by simp [World.frozen?, hE]
  have hElt : E < w.heap.size := World.block_lt_of_cell? w ⟨E, o, none⟩ hc
  have HE : Hid (w.heap[E]? = some (.cells cs tE (0, 0))) := hE
  clear hE hco
  have hown1 : ∀ ob, (w.alloc ob).ownsRow B 21 1 (.slice (some ⟨g, 0, none⟩) n c) n (ns.map rv) := fun ob => hown.alloc ob
  have hins := insertS_any B g n c i w.heap.size r (ns.map rv) (w.alloc (.cells #[rv r] 21)) (hown1 _) (one_of_map rfl) (Go.heap_alloc_new w _) (by omega) hn hi (by simp; omega)
  unfold rv at hins ⊢
  have HO : Hid (w.ownsRow B 21 1 (.slice (some ⟨g, 0, none⟩) n c) n (ns.map rv)) := hown
  clear hown hown1 htk hcs hg hcm hnc hl
  go_enter Tryz.func184, Tryz.ntmps184
  go_wp2_with fail
  refine hins.mono ?_
  rintro e w1 ⟨g', c', rfl, hown', hgr⟩
  have hblk : w1.heap[E]? = w.heap[E]? := by
    rw [hgr.block E (by simp; omega) (by intro e; exact hge (Option.some.inj e).symm)]
    exact Below.heap_alloc w _ E hElt
  have hc1 : w1.cell? ⟨E, o, none⟩ = some (.slice (some ⟨g, 0, none⟩) n c) := by rw [World.cell?_of_block (w := w) hblk]; exact hc
  have hf1 : w1.frozen? ⟨E, o, none⟩ = false := by rw [World.frozen?_of_block (w := w) hblk]; exact hf
  have HW : Hid (w1.ownsRow B 21 1 (.slice (some ⟨g', 0, none⟩) (n + 1) c') (n + 1) ((ns.map rv).take i ++ rv r :: (ns.map rv).drop i)) := hown'
  have HG : Hid ((w.alloc (.cells #[.int .i32 (r : Int)] 21)).grownBy w1 (some g)) := hgr
  have HB : Hid (w1.heap[E]? = w.heap[E]?) := hblk
  clear hown' hgr hblk hins hc hf
  go_wp2
  go_end0
  refine ⟨rfl, g', c', w1, rfl, ?_, ?_, ?_⟩
  · show w1.ownsRow B 21 1 (.slice (some ⟨g', 0, none⟩) (n + 1) c') (n + 1) ((ns.take i ++ r :: ns.drop i).map rv)
    rw [List.map_append, List.map_cons, List.map_take, List.map_drop]
    exact HW.out
  · have h := HG.out
    exact ⟨h.os, h.tape, h.output, Nat.le_trans (by simp) h.size, fun k hk hne => (h.block k (by simp; omega) hne).trans (Below.heap_alloc w _ k hk)⟩
  · intro he
    obtain ⟨_, _, _, cur', hg', _⟩ := own_some HW.out
    rw [he, HB.out, HE.out] at hg'
    simp only [Option.some.injEq, Obj.cells.injEq] at hg'
    exact htE hg'.2.1
end Go.Proofs.YtkaaldhejpaiiaaGreatDoor

/- Writing numbers: the mathematics, and appendNumber. -/
namespace Go.Proofs.YtkaaldhejpaiiaaGreatDoor
open Go.RowKit

/-- A digit as a byte. -/
def dchar (d : Nat) : UInt8 := if d < 26 then UInt8.ofNat (97 + d) else UInt8.ofNat (48 + (d - 26))
/-- A number, written. -/
def wnum (bias : Nat) : Nat → Nat → Nat → List UInt8
  | 0, _, _ => []
  | f + 1, k, q => if q < Pm.bnd k bias then [dchar q] else dchar (Pm.bnd k bias + (q - Pm.bnd k bias) % (36 - Pm.bnd k bias)) :: wnum bias f (k + 1) ((q - Pm.bnd k bias) / (36 - Pm.bnd k bias))
theorem wnum_fuel (bias : Nat) : ∀ (f g k q : Nat), q < f → q < g → wnum bias f k q = wnum bias g k q
  | 0, _, _, _, h, _ => absurd h (by omega)
  | f + 1, 0, _, _, _, h => absurd h (by omega)
  | f + 1, g + 1, k, q, h1, h2 => by
    unfold wnum
    split
    · rfl
    · rename_i hq
      have hb1 := Pm.bnd_pos k bias
      have hb2 := Pm.bnd_le k bias
      have h3 : (q - Pm.bnd k bias) / (36 - Pm.bnd k bias) ≤ q - Pm.bnd k bias := Nat.div_le_self _ _
      rw [wnum_fuel bias f g (k + 1) _ (by omega) (by omega)]
def bv (c : UInt8) : Value := .int .u8 (c.toNat : Int)
theorem index_dig (w : World) : ∀ d : Nat, d < 36 → (Instr.index 9 (.string { data := #[97, 98, 99, 100, 101, 102, 103, 104, 105, 106, 107, 108, 109, 110, 111, 112, 113, 114, 115, 116, 117, 118, 119, 120, 121, 122, 48, 49, 50, 51, 52, 53, 54, 55, 56, 57] }) (.int .i64 d)).run Tryz.prog w = .ok (bv (dchar d)) w
  | 0, _ => by kernel_rfl
  | 1, _ => by kernel_rfl
  | 2, _ => by kernel_rfl
  | 3, _ => by kernel_rfl
  | 4, _ => by kernel_rfl
  | 5, _ => by kernel_rfl
  | 6, _ => by kernel_rfl
  | 7, _ => by kernel_rfl
  | 8, _ => by kernel_rfl
  | 9, _ => by kernel_rfl
  | 10, _ => by kernel_rfl
  | 11, _ => by kernel_rfl
  | 12, _ => by kernel_rfl
  | 13, _ => by kernel_rfl
  | 14, _ => by kernel_rfl
  | 15, _ => by kernel_rfl
  | 16, _ => by kernel_rfl
  | 17, _ => by kernel_rfl
  | 18, _ => by kernel_rfl
  | 19, _ => by kernel_rfl
  | 20, _ => by kernel_rfl
  | 21, _ => by kernel_rfl
  | 22, _ => by kernel_rfl
  | 23, _ => by kernel_rfl
  | 24, _ => by kernel_rfl
  | 25, _ => by kernel_rfl
  | 26, _ => by kernel_rfl
  | 27, _ => by kernel_rfl
  | 28, _ => by kernel_rfl
  | 29, _ => by kernel_rfl
  | 30, _ => by kernel_rfl
  | 31, _ => by kernel_rfl
  | 32, _ => by kernel_rfl
  | 33, _ => by kernel_rfl
  | 34, _ => by kernel_rfl
  | 35, _ => by kernel_rfl
  | d + 36, h => absurd h (by omega)
theorem wpList_indexEq {P : Program} {w : World} {ops : Array Oper} {rest : List Oper} {o : Oper} {a : Act} {Q : Exit → Act → World → Prop} (hgd : o.guard = none) (t : TypeId) (x ix : Operand) (ho : o.op = .index t x ix) (vx vi v : Value) (hx : a.eval x = vx) (hi : a.eval ix = vi)
    (hr : (Instr.index t vx vi).run P w = .ok v w) (h : wpList P ops Q rest (a.put o.dst v) w) : wpList P ops Q (o :: rest) a w := by
  refine wpList_plain hgd fun K hK => ?_
  unfold Oper.wp execOp
  simp only [ho, hx, hi, Sem.run_bind, hr, Result.andThen_ok]
  exact hK _ _ h
theorem info5 : (Tryz.prog.info? 5).map (fun i => (i.zero, i.size, i.bytes)) = some (some (.int .u8 0), 1, 1) := by kernel_rfl

/-- Blocks that are no rows of bytes and no encoder's stay; what lies below B stays. -/
structure KT (B : Nat) (w w' : World) : Prop where
  os : w'.os = w.os
  tape : w'.tape = w.tape
  output : w'.output = w.output
  size : w.heap.size ≤ w'.heap.size
  low : ∀ k, k < B → w'.heap[k]? = w.heap[k]?
  typ : ∀ (k : Nat) (cs : Array Value) (t : TypeId) (fr : Nat × Nat), w.heap[k]? = some (Obj.cells cs t fr) → t ≠ 5 → t ≠ 176 → w'.heap[k]? = some (Obj.cells cs t fr)
/-- The same, encoders' blocks too. -/
structure K5 (B : Nat) (w w' : World) : Prop where
  os : w'.os = w.os
  tape : w'.tape = w.tape
  output : w'.output = w.output
  size : w.heap.size ≤ w'.heap.size
  low : ∀ k, k < B → w'.heap[k]? = w.heap[k]?
  typ : ∀ (k : Nat) (cs : Array Value) (t : TypeId) (fr : Nat × Nat), w.heap[k]? = some (Obj.cells cs t fr) → t ≠ 5 → w'.heap[k]? = some (Obj.cells cs t fr)
theorem K5.refl (B : Nat) (w : World) : K5 B w w := ⟨rfl, rfl, rfl, Nat.le_refl _, fun _ _ => rfl, fun _ _ _ _ h _ => h⟩
theorem K5.trans {B : Nat} {a b c : World} (h : K5 B a b) (k : K5 B b c) : K5 B a c :=
  ⟨k.os.trans h.os, k.tape.trans h.tape, k.output.trans h.output, Nat.le_trans h.size k.size, fun i hi => (k.low i hi).trans (h.low i hi), fun i cs t fr e ht => k.typ i cs t fr (h.typ i cs t fr e ht) ht⟩
theorem KT.refl (B : Nat) (w : World) : KT B w w := ⟨rfl, rfl, rfl, Nat.le_refl _, fun _ _ => rfl, fun _ _ _ _ h _ _ => h⟩
theorem KT.trans {B : Nat} {a b c : World} (h : KT B a b) (k : KT B b c) : KT B a c :=
  ⟨k.os.trans h.os, k.tape.trans h.tape, k.output.trans h.output, Nat.le_trans h.size k.size, fun i hi => (k.low i hi).trans (h.low i hi), fun i cs t fr e ht h6 => k.typ i cs t fr (h.typ i cs t fr e ht h6) ht h6⟩
theorem K5.kt {B : Nat} {a b : World} (h : K5 B a b) : KT B a b := ⟨h.os, h.tape, h.output, h.size, h.low, fun i cs t fr e ht _ => h.typ i cs t fr e ht⟩
theorem K5.alloc {B : Nat} {a b : World} (h : K5 B a b) (hB : B ≤ b.heap.size) (o : Obj) : K5 B a (b.alloc o) :=
  h.trans ⟨rfl, rfl, rfl, by simp, fun k hk => Below.heap_alloc _ _ _ (by omega), fun k cs t fr e _ => (Below.heap_alloc _ _ _ (Array.getElem?_eq_some_iff.1 e).1).trans e⟩
/-- An append to a row of bytes. -/
theorem K5.grown {B n : Nat} {a w w' : World} {v : Value} {xs : List Value} (h : K5 B a w) (ho : w.ownsRow B 5 1 v n xs) (hg : w.grownBy w' v.ownBlock) (hB : B ≤ w.heap.size) : K5 B a w' := by
  refine h.trans ⟨hg.os, hg.tape, hg.output, hg.size, fun k hk => hg.block k (by omega) (fun e => ?_), fun k cs t fr e ht => (hg.block k (Array.getElem?_eq_some_iff.1 e).1 (fun e2 => ?_)).trans e⟩
  · have := (ho.lt k e.symm).1; omega
  · rcases ho.2 with ⟨rfl, _⟩ | ⟨g, cap, cur, rfl, hb, hgg, _⟩
    · simp [Value.ownBlock] at e2
    · simp only [Value.ownBlock, Option.some.injEq] at e2
      subst e2
      rw [hgg] at e
      simp only [Option.some.injEq, Obj.cells.injEq] at e
      exact ht e.2.1.symm
/-- A row that is none of bytes stays. -/
theorem K5.owns {B B' n : Nat} {w w' : World} {v : Value} {xs : List Value} {t : TypeId} (h : K5 B' w w') (ho : w.ownsRow B t 1 v n xs) (ht : t ≠ 5) : w'.ownsRow B t 1 v n xs := by
  refine ⟨ho.1, ?_⟩
  rcases ho.2 with hn | ⟨g, cap, cur, hv, hb, hg, r⟩
  · exact Or.inl hn
  · exact Or.inr ⟨g, cap, cur, hv, hb, h.typ g cur t (0, 0) hg ht, r⟩
theorem KT.owns {B B' n : Nat} {w w' : World} {v : Value} {xs : List Value} {t : TypeId} (h : KT B' w w') (ho : w.ownsRow B t 1 v n xs) (ht : t ≠ 5) (h6 : t ≠ 176) : w'.ownsRow B t 1 v n xs := by
  refine ⟨ho.1, ?_⟩
  rcases ho.2 with hn | ⟨g, cap, cur, hv, hb, hg, r⟩
  · exact Or.inl hn
  · exact Or.inr ⟨g, cap, cur, hv, hb, h.typ g cur t (0, 0) hg ht h6, r⟩

theorem one_bv (c : UInt8) : ∀ u ∈ [bv c], u.oneCell' = true := by intro u hu; simp at hu; subst hu; rfl

set_option maxRecDepth 100000 in
set_option maxHeartbeats 2000000 in
theorem appendNumber_any (B : Nat) (fv : Value) (form : List UInt8) (q bias : Nat) (w : World) (hown : w.ownsRow B 5 1 fv form.length (form.map bv)) (hB : B ≤ w.heap.size) (hq : q ≤ 1115226111) (hb : bias ≤ 1099511627776) (hf : form.length ≤ 1000000) :
    Calls Tryz.prog 193 #[fv, .int .i64 q, .int .i64 bias] w fun e w' => ∃ fv', e = .returned fv' ∧ w'.ownsRow B 5 1 fv' (form ++ wnum bias (q + 1) 1 q).length ((form ++ wnum bias (q + 1) 1 q).map bv) ∧ K5 B w w' := by
  obtain ⟨i0, hi, hz0, hz1, hz2⟩ := info_parts info5
  obtain ⟨ANS, hANS⟩ : ∃ ANS, form ++ wnum bias (q + 1) 1 q = ANS := ⟨_, rfl⟩
  rw [hANS]
  have hkz : q < 2 ^ 32 := by omega
  go_enter Tryz.func193, Tryz.ntmps193
  go_wp2
  go_loopg [0, 1, 7] 40 (fun gk f0 q0 k0 wx => ∃ (F : List UInt8) (Q K : Nat), q0 = .int .i64 Q ∧ k0 = .int .i64 K ∧ wx.ownsRow B 5 1 f0 F.length (F.map bv) ∧ K5 B w wx ∧ K + gk = 41 ∧ 1 ≤ K ∧ 1 ≤ gk ∧ Q < 2 ^ (gk - 1) ∧ F.length + gk ≤ 1000040 ∧ F ++ wnum bias (Q + 1) K Q = ANS)
  case atStart => exact ⟨form, q, 1, rfl, rfl, hown, K5.refl _ _, by omega, by omega, by omega, by show q < 2 ^ 39; omega, by omega, hANS⟩
  case round =>
    clear hANS hown
    obtain ⟨F, Q, K, rfl, rfl, ho, hk5, hKg, hK1, hg1, hQ, hF, hv⟩ := hrel
    obtain ⟨gk', rfl⟩ : ∃ gk', gk = gk' + 1 := ⟨gk - 1, by omega⟩
    have hbn := fun w => bound_any K bias w (by omega) hb
    have hb1 := Pm.bnd_pos K bias
    have hb2 := Pm.bnd_le K bias
    obtain ⟨b, hbb⟩ : ∃ b, Pm.bnd K bias = b := ⟨_, rfl⟩
    have HB : Hid (Pm.bnd K bias = b) := hbb
    rw [hbb] at hbn hb1 hb2
    clear hbb
    have HV : Hid (F ++ wnum bias (Q + 1) K Q = ANS) := hv
    clear hv
    have hQ2 : Q < 2 ^ 39 := Nat.lt_of_lt_of_le hQ (Nat.pow_le_pow_right (by omega) (by omega))
    have hQ3 : Q ≤ 549755813888 := by omega
    have HQ : Hid (Q < 2 ^ gk') := hQ
    have HKG : Hid (K + (gk' + 1) = 41) := hKg
    have hK2 : K ≤ 40 := by omega
    have HF : Hid (F.length + (gk' + 1) ≤ 1000040) := hF
    have hF2 : F.length ≤ 1000040 := by omega
    clear hQ hQ2 hKg hF hkz
    by_cases hlt : (Q : Int) < (b : Int)
    · have hix := fun w => index_dig w Q (by omega)
      have h63 : F.length + 1 ≤ maxLen := by unfold maxLen; omega
      have h47 : (F.length + 1) * 1 ≤ 140737488355328 := by omega
      have hBr : B ≤ (wr.alloc (.cells #[.int .u8 ((dchar Q).toNat : Int)] 5)).heap.size := by have := hk5.size; simp; omega
      have HX : Hid (∀ w, (Instr.index 9 (.string { data := #[97, 98, 99, 100, 101, 102, 103, 104, 105, 106, 107, 108, 109, 110, 111, 112, 113, 114, 115, 116, 117, 118, 119, 120, 121, 122, 48, 49, 50, 51, 52, 53, 54, 55, 56, 57] }) (.int .i64 Q)).run Tryz.prog w = .ok (.int .u8 ((dchar Q).toNat : Int)) w) := hix
      clear hix
      go_wp2_with (first | (go_at_call 196; refine (hbn _).mono ?_; rintro e w' ⟨rfl, hw'⟩; rw [hw']; clear hw') | (refine wpList_indexEq rfl 9 _ (.tmp 18) rfl _ _ _ rfl rfl (HX.out _) ?_) | (at_builtin; refine wpList_append_own _ rfl (.tmp 17) (.tmp 20) 30 rfl B 5 i0 (.int .u8 0) 1 1 Tryz.underlying30 hi hz0 hz1 hz2 rfl (by decide) _ _ _ rfl (ho.alloc _) ⟨wr.heap.size, 0, none⟩ 1 1 [.int .u8 ((dchar Q).toNat : Int)] rfl rfl (cell_one_new _ _ _) (one_bv (dchar Q)) h63 h47 hBr ?_))
      intro v' w1 ho1 hgr _
      have HO1 : Hid (w1.ownsRow B 5 1 v' (F.length + 1) (F.map bv ++ [bv (dchar Q)])) := ho1
      have HK : Hid (K5 B w w1) := (hk5.alloc (by have := hk5.size; omega) _).grown (ho.alloc _) hgr hBr
      clear ho1 hgr ho hk5
      go_wp2
      go_ret
      have e : ANS = F ++ [dchar Q] := by rw [← HV.out, wnum, if_pos (by rw [HB.out]; omega)]
      refine ⟨v', rfl, ?_, HK.out⟩
      rw [e, List.length_append, List.map_append]
      exact HO1.out
    · have hz : ¬ (36 : Int) - (b : Int) = 0 := by omega
      have hr0 : 0 ≤ ((Q : Int) - b) % (36 - (b : Int)) := Int.emod_nonneg _ hz
      have hr1 : ((Q : Int) - b) % (36 - (b : Int)) < 36 - (b : Int) := Int.emod_lt_of_pos _ (by omega)
      have hq0 : 0 ≤ ((Q : Int) - b) / (36 - (b : Int)) := Int.ediv_nonneg (by omega) (by omega)
      have hq1 : ((Q : Int) - b) / (36 - (b : Int)) ≤ (Q : Int) := Int.ediv_le_of_le_mul (by omega) (by
        have : (Q : Int) * 1 ≤ (Q : Int) * (36 - (b : Int)) := Int.mul_le_mul_of_nonneg_left (by omega) (by omega)
        omega)
      have HM : Hid ((((b + (Q - b) % (36 - b) : Nat)) : Int) = (b : Int) + ((Q : Int) - b) % (36 - (b : Int))) := by
        unfold Hid; rw [Int.natCast_add, Int.natCast_emod, Int.natCast_sub (by omega), Int.natCast_sub (by omega)]; rfl
      have HDV : Hid ((((Q - b) / (36 - b) : Nat) : Int) = ((Q : Int) - b) / (36 - (b : Int))) := by
        unfold Hid; rw [Int.natCast_ediv, Int.natCast_sub (by omega), Int.natCast_sub (by omega)]; rfl
      obtain ⟨d, hd⟩ : ∃ d, b + (Q - b) % (36 - b) = d := ⟨_, rfl⟩
      have hd36 : d < 36 := by have := HM.out; rw [hd] at this; omega
      have hix := fun w => index_dig w d hd36
      rw [← hd, HM.out, hd] at hix
      have HX : Hid (∀ w, (Instr.index 9 (.string { data := #[97, 98, 99, 100, 101, 102, 103, 104, 105, 106, 107, 108, 109, 110, 111, 112, 113, 114, 115, 116, 117, 118, 119, 120, 121, 122, 48, 49, 50, 51, 52, 53, 54, 55, 56, 57] }) (.int .i64 ((b : Int) + ((Q : Int) - b) % (36 - (b : Int))))).run Tryz.prog w = .ok (.int .u8 ((dchar d).toNat : Int)) w) := hix
      have HD : Hid (b + (Q - b) % (36 - b) = d) := hd
      clear hix hd hd36
      have h63 : F.length + 1 ≤ maxLen := by unfold maxLen; omega
      have h47 : (F.length + 1) * 1 ≤ 140737488355328 := by omega
      have hBr : B ≤ (wr.alloc (.cells #[.int .u8 ((dchar d).toNat : Int)] 5)).heap.size := by have := hk5.size; simp; omega
      go_wp2_with (first | (go_at_call 196; refine (hbn _).mono ?_; rintro e w' ⟨rfl, hw'⟩; rw [hw']; clear hw') | (refine wpList_indexEq rfl 9 _ (.tmp 31) rfl _ _ _ rfl rfl (HX.out _) ?_) | (at_builtin; refine wpList_append_own _ rfl (.tmp 25) (.tmp 33) 30 rfl B 5 i0 (.int .u8 0) 1 1 Tryz.underlying30 hi hz0 hz1 hz2 rfl (by decide) _ _ _ rfl (ho.alloc _) ⟨wr.heap.size, 0, none⟩ 1 1 [.int .u8 ((dchar d).toNat : Int)] rfl rfl (cell_one_new _ _ _) (one_bv (dchar d)) h63 h47 hBr ?_))
      intro v' w1 ho1 hgr _
      have HO1 : Hid (w1.ownsRow B 5 1 v' (F.length + 1) (F.map bv ++ [bv (dchar d)])) := ho1
      have HK : Hid (K5 B w w1) := (hk5.alloc (by have := hk5.size; omega) _).grown (ho.alloc _) hgr hBr
      clear ho1 hgr ho hk5
      go_wp2
      go_roundg gk'
      case measure => omega
      case rel =>
        have hgp : 1 ≤ gk' := by
          rcases Nat.eq_zero_or_pos gk' with h0 | h0
          · have := HQ.out; rw [h0] at this; omega
          · exact h0
        have hQb : (Q - b) / (36 - b) < 2 ^ (gk' - 1) := by
          have h1 := HQ.out
          rw [show gk' = (gk' - 1) + 1 by omega, Nat.pow_succ] at h1
          have h2 : (Q - b) / (36 - b) ≤ Q / 10 := Nat.le_trans (Nat.div_le_div_right (Nat.sub_le _ _)) (Nat.div_le_div_left (by omega) (by omega))
          omega
        have hfu : wnum bias Q (K + 1) ((Q - b) / (36 - b)) = wnum bias ((Q - b) / (36 - b) + 1) (K + 1) ((Q - b) / (36 - b)) := wnum_fuel bias _ _ _ _ (by
          have h2 : (Q - b) / (36 - b) ≤ Q / 10 := Nat.le_trans (Nat.div_le_div_right (Nat.sub_le _ _)) (Nat.div_le_div_left (by omega) (by omega))
          omega) (by omega)
        refine ⟨F ++ [dchar d], (Q - b) / (36 - b), K + 1, by rw [HDV.out], by go_num, ?_, HK.out, by have := HKG.out; omega, by omega, hgp, hQb, by have := HF.out; rw [List.length_append]; simp; omega, ?_⟩
        · rw [List.length_append, List.map_append]; exact HO1.out
        · have e2 : wnum bias (Q + 1) K Q = dchar d :: wnum bias Q (K + 1) ((Q - b) / (36 - b)) := by rw [wnum, if_neg (by rw [HB.out]; omega), HB.out, HD.out]
          rw [← HV.out, e2, hfu, List.append_assoc]; rfl
end Go.Proofs.YtkaaldhejpaiiaaGreatDoor

/- writeNumber, writeEach. -/
namespace Go.Proofs.YtkaaldhejpaiiaaGreatDoor
open Go.RowKit

/-- An encoder at work. -/
def EncAt (w : World) (E B n i len bias : Nat) (b : Bool) (L : List Nat) (form : List UInt8) : Prop :=
  ∃ g c fv, w.heap[E]? = some (.cells (dCells (.slice (some ⟨g, 0, none⟩) L.length c) n i len bias b fv) 176 (0, 0)) ∧
    w.ownsRow B 21 1 (.slice (some ⟨g, 0, none⟩) L.length c) L.length (L.map rv) ∧ w.ownsRow B 5 1 fv form.length (form.map bv) ∧ B ≤ E ∧ E < w.heap.size

theorem kt_of_grown {B E : Nat} {w w' : World} {cs : Array Value} (hg : w.grownBy w' (some E)) (hE : w.heap[E]? = some (.cells cs 176 (0, 0))) (hB : B ≤ E) : KT B w w' := by
  have hEl := (Array.getElem?_eq_some_iff.1 hE).1
  refine ⟨hg.os, hg.tape, hg.output, hg.size, fun k hk => hg.block k (by omega) (fun e => by have := Option.some.inj e; omega), fun k cs' t fr e _ h6 => (hg.block k (Array.getElem?_eq_some_iff.1 e).1 (fun e2 => ?_)).trans e⟩
  have := Option.some.inj e2
  subst this
  rw [hE] at e
  simp only [Option.some.injEq, Obj.cells.injEq] at e
  exact h6 e.2.1.symm
/-- A row of bytes stays while an encoder's block is written. -/
theorem owns5_grown {B E n : Nat} {w w' : World} {cs : Array Value} {v : Value} {xs : List Value} (ho : w.ownsRow B 5 1 v n xs) (hE : w.heap[E]? = some (.cells cs 176 (0, 0))) (hg : w.grownBy w' (some E)) : w'.ownsRow B 5 1 v n xs := by
  refine ho.kept hg ?_
  rcases ho.2 with ⟨rfl, _⟩ | ⟨g, cap, cur, rfl, _, hgg, _⟩
  · exact Or.inl rfl
  · refine Or.inr (fun e => ?_)
    simp only [Value.ownBlock, Option.some.injEq] at e
    subst e
    rw [hE] at hgg
    simp at hgg

theorem wnum_pos (bias f k q : Nat) : 1 ≤ (wnum bias (f + 1) k q).length := by unfold wnum; split <;> simp
theorem own5_some {w : World} {B m : Nat} {v : Value} {xs : List Value} (h : w.ownsRow B 5 1 v m xs) (hm : 1 ≤ m) : ∃ g c, v = .slice (some ⟨g, 0, none⟩) m c := by
  rcases h.2 with ⟨_, h0⟩ | ⟨g, cap, cur, hv, _⟩
  · omega
  · exact ⟨g, cap, hv⟩

set_option maxRecDepth 100000 in
set_option maxHeartbeats 4000000 in
theorem writeNumber_any (E B n i len bias : Nat) (b : Bool) (L : List Nat) (form : List UInt8) (q : Nat) (w : World) (hD : EncAt w E B n i len bias b L form) (h1 : n ≤ 1114111) (h2 : i ≤ 1000) (h3 : len ≤ 1000) (hi' : (i + q) % (len + 1) ≤ 1000) (hq : q ≤ 1115226111) (hb : bias ≤ 1099511627776) (hf : form.length ≤ 1000000) :
    Calls Tryz.prog 170 #[.pointer (some ⟨E, 0, none⟩), .int .i64 q] w fun e w' => e = .returned (.tuple #[]) ∧
      EncAt w' E B (n + (i + q) / (len + 1)) ((i + q) % (len + 1) + 1) (len + 1) (Pm.biasN q (len + 1) (!b)) true L (form ++ wnum bias (q + 1) 1 q) ∧ KT B w w' := by
  obtain ⟨g, c, fv, hE, ho, hof, hBE, hEl⟩ := hD
  have hap := fun W (hW : W.heap = w.heap) => appendNumber_any B fv form q bias W (by obtain ⟨a1, a2⟩ := hof; exact ⟨a1, by rw [hW]; exact a2⟩) (by rw [hW]; omega) hq hb hf
  obtain ⟨R, hR⟩ : ∃ R, form ++ wnum bias (q + 1) 1 q = R := ⟨_, rfl⟩
  have hRl : 1 ≤ R.length := by rw [← hR, List.length_append]; have := wnum_pos bias q 1 q; omega
  rw [hR] at hap ⊢
  clear hR
  have hap2 : Calls Tryz.prog 193 #[fv, .int .i64 q, .int .i64 bias] w.drew fun e w' => ∃ g' c', e = .returned (.slice (some ⟨g', 0, none⟩) R.length c') ∧ w'.cell? ⟨E, 6, none⟩ = some fv ∧ w'.frozen? ⟨E, 6, none⟩ = false ∧ Hid (w'.ownsRow B 5 1 (.slice (some ⟨g', 0, none⟩) R.length c') R.length (R.map bv)) ∧ Hid (K5 B w w') := by
    refine (hap w.drew rfl).mono ?_
    rintro e w' ⟨fv', rfl, ho', hk⟩
    have hE' : w'.heap[E]? = _ := hk.typ E _ 176 (0, 0) hE (by decide)
    obtain ⟨g', c', rfl⟩ := own5_some ho' hRl
    refine ⟨g', c', rfl, by rw [cell_of_row w' E 6 _ 176 (0, 0) hE']; rfl, unfrozen hE' 6, ho', ⟨hk.os, hk.tape, hk.output, hk.size, hk.low, hk.typ⟩⟩
  have c6 : w.cell? ⟨E, 6, none⟩ = some fv := by rw [cell_of_row w E 6 _ 176 (0, 0) hE]; rfl
  have c4 : w.cell? ⟨E, 4, none⟩ = some (.int .i64 bias) := by rw [cell_of_row w E 4 _ 176 (0, 0) hE]; rfl
  have HE : Hid (w.heap[E]? = some (.cells (dCells (.slice (some ⟨g, 0, none⟩) L.length c) n i len bias b fv) 176 (0, 0))) := hE
  have HO : Hid (w.ownsRow B 21 1 (.slice (some ⟨g, 0, none⟩) L.length c) L.length (L.map rv)) := ho
  clear hap hE ho hof
  go_enter Tryz.func170, Tryz.ntmps170
  go_wp2
  go_region_with (go_at_call 193; refine hap2.mono ?_; rintro e w1 ⟨g', c', rfl, k6, kf, ho1, hk1⟩)
  all_goals
    have hE1 : w1.heap[E]? = some (.cells (dCells (.slice (some ⟨g, 0, none⟩) L.length c) n i len bias b fv) 176 (0, 0)) := hk1.out.typ E _ 176 (0, 0) HE.out (by decide)
    have HE2 : Hid ((w1.setCell ⟨E, 6, none⟩ (.slice (some ⟨g', 0, none⟩) R.length c')).heap[E]? = some (.cells (dCells (.slice (some ⟨g, 0, none⟩) L.length c) n i len bias b (.slice (some ⟨g', 0, none⟩) R.length c')) 176 (0, 0))) := setCell_row hE1 6 _
    have HG2 : Hid (w1.grownBy (w1.setCell ⟨E, 6, none⟩ (.slice (some ⟨g', 0, none⟩) R.length c')) (some E)) := grown_setCell (World.grownBy.refl _ _) _ _
    have HK2 : Hid (KT B w w1) := hk1.out.kt
    have HF2 : Hid (w1.ownsRow B 5 1 (.slice (some ⟨g', 0, none⟩) R.length c') R.length (R.map bv)) := ho1.out
    have HE1 : Hid (w1.heap[E]? = some (.cells (dCells (.slice (some ⟨g, 0, none⟩) L.length c) n i len bias b fv) 176 (0, 0))) := hE1
    clear hE1 k6 kf c6 c4 hap2
    go_wp2_with fail
    refine (walkD_any E n i len bias b q _ _ 176 _ HE2.out h1 h2 h3 hq).mono ?_
    rintro e w3 ⟨rfl, hE3, hg3⟩
    have HE3 : Hid (w3.heap[E]? = some (.cells (dCells (.slice (some ⟨g, 0, none⟩) L.length c) (n + (i + q) / (len + 1)) ((i + q) % (len + 1)) len bias b (.slice (some ⟨g', 0, none⟩) R.length c')) 176 (0, 0))) := hE3
    have HG3 : Hid (w1.grownBy w3 (some E)) := grown_trans HG2.out hg3
    clear hE3 hg3
    go_wp2_with fail
    refine (settleD_any E _ _ len bias b q _ _ 176 _ HE3.out hi' h3 hq).mono ?_
    rintro e w4 ⟨rfl, hE4, hg4⟩
    have HE4 : Hid (w4.heap[E]? = some (.cells (dCells (.slice (some ⟨g, 0, none⟩) L.length c) (n + (i + q) / (len + 1)) ((i + q) % (len + 1) + 1) (len + 1) (Pm.biasN q (len + 1) (!b)) true (.slice (some ⟨g', 0, none⟩) R.length c')) 176 (0, 0))) := hE4
    have HG4 : Hid (w1.grownBy w4 (some E)) := grown_trans HG3.out hg4
    clear hE4 hg4
    go_wp2
    go_end0
    have hkt : KT B w w4 := HK2.out.trans (kt_of_grown HG4.out HE1.out hBE)
    exact ⟨rfl, ⟨g, c, .slice (some ⟨g', 0, none⟩) R.length c', HE4.out, hkt.owns HO.out (by decide) (by decide), owns5_grown HF2.out HE1.out HG4.out, hBE, (Array.getElem?_eq_some_iff.1 HE4.out).1⟩, hkt⟩
end Go.Proofs.YtkaaldhejpaiiaaGreatDoor

/- writeEach. -/
namespace Go.Proofs.YtkaaldhejpaiiaaGreatDoor
open Go.RowKit

/-- Where the encoder is, and what it has written. -/
structure Es where
  n : Nat
  i : Nat
  len : Nat
  bias : Nat
  b : Bool
  form : List UInt8
def Es.steps (x : Es) (sgn place : Nat) : Nat := (sgn - x.n) * (x.len + 1) + place - x.i
def Es.put (x : Es) (q : Nat) : Es := { n := x.n + (x.i + q) / (x.len + 1), i := (x.i + q) % (x.len + 1) + 1, len := x.len + 1, bias := Pm.biasN q (x.len + 1) (!x.b), b := true, form := x.form ++ wnum x.bias (q + 1) 1 q }
/-- All places of one sign. -/
def each (sgn : Nat) : List Nat → Nat → Es → Es
  | [], _, x => x
  | h :: r, k, x => each sgn r (if h ≤ sgn then k + 1 else k) (if h = sgn then x.put (x.steps sgn k) else x)
structure Es.good (x : Es) (sgn k : Nat) : Prop where
  n0 : 128 ≤ x.n
  n : x.n ≤ sgn
  i : x.i ≤ 1000
  len : x.len ≤ 1000
  st : x.i ≤ (sgn - x.n) * (x.len + 1) + k
  bias : x.bias ≤ 1099511627776
  form : x.form.length ≤ 1000000
def eachOk (sgn : Nat) : List Nat → Nat → Es → Prop
  | [], _, _ => True
  | h :: r, k, x => (h = sgn → x.good sgn k) ∧ eachOk sgn r (if h ≤ sgn then k + 1 else k) (if h = sgn then x.put (x.steps sgn k) else x)
def EncX (w : World) (E B : Nat) (x : Es) (L : List Nat) : Prop := EncAt w E B x.n x.i x.len x.bias x.b L x.form

theorem steps_le {x : Es} {sgn k : Nat} (h : x.good sgn k) (hs : sgn ≤ 1114111) (hk : k ≤ 1000) : x.steps sgn k ≤ 1115226111 := by
  unfold Es.steps
  have h1 := h.n0; have h2 := h.len
  have : (sgn - x.n) * (x.len + 1) ≤ 1113983 * 1001 := Nat.mul_le_mul (by omega) (by omega)
  omega
theorem drop_cons_nat {L : List Nat} {k : Nat} (h : k < L.length) : L.drop k = L[k] :: L.drop (k + 1) := List.drop_eq_getElem_cons h

set_option maxRecDepth 100000 in
set_option maxHeartbeats 4000000 in
theorem writeEach_any (E B : Nat) (x0 : Es) (L : List Nat) (sgn : Nat) (w : World) (hD0 : EncX w E B x0 L) (hs : sgn ≤ 1114111) (hL : L.length ≤ 1000) (hM : ∀ m ∈ L, m ≤ 1114111) (hok0 : eachOk sgn L 0 x0) :
    Calls Tryz.prog 146 #[.pointer (some ⟨E, 0, none⟩), rv sgn] w fun e w' => e = .returned (.tuple #[]) ∧ EncX w' E B (each sgn L 0 x0) L ∧ KT B w w' := by
  obtain ⟨ANS, hANS⟩ : ∃ ANS, each sgn L 0 x0 = ANS := ⟨_, rfl⟩
  rw [hANS]
  have c0 : ∃ g c, w.cell? ⟨E, 0, none⟩ = some (.slice (some ⟨g, 0, none⟩) L.length c) := by
    obtain ⟨g, c, fv, hE, _⟩ := hD0
    exact ⟨g, c, by rw [cell_of_row w E 0 _ 176 (0, 0) hE]; rfl⟩
  obtain ⟨g0, c0', hc0⟩ := c0
  have hcnt := count_any E 0 _ _ _ w hc0
  unfold rv
  go_enter Tryz.func146, Tryz.ntmps146
  go_wp2_with (go_at_call 94; refine hcnt.mono ?_; rintro e w' ⟨rfl, hw'⟩; rw [hw']; clear hw')
  go_loopw [4, 11] (fun st pl wr => ∃ (k s : Nat) (x : Es), k ≤ L.length ∧ s ≤ k ∧ st = .int .i64 s ∧ pl = .int .i64 k ∧ EncX wr E B x L ∧ KT B w wr ∧ eachOk sgn (L.drop k) s x ∧ each sgn (L.drop k) s x = ANS) (fun _ pl _ => L.length - (intOf pl).toNat)
  case atStart => exact ⟨0, 0, x0, by omega, by omega, rfl, rfl, hD0, KT.refl _ _, by simpa using hok0, by simpa using hANS⟩
  case round =>
    obtain ⟨k, s, x, hk, hsk, rfl, rfl, hD, hkt, hok, hv⟩ := hrel
    have HD : Hid (EncX wr E B x L) := hD
    have HOK : Hid (eachOk sgn (L.drop k) s x) := hok
    have HV : Hid (each sgn (L.drop k) s x = ANS) := hv
    have HKT : Hid (KT B w wr) := hkt
    clear hANS hD0 hok0 hcnt hD hok hv hkt hc0
    by_cases hlt : k < L.length
    · have hgm := hM L[k] (List.getElem_mem hlt)
      have HC : Hid (L.drop k = L[k] :: L.drop (k + 1)) := drop_cons_nat hlt
      obtain ⟨m, hm⟩ : ∃ m, L[k] = m := ⟨_, rfl⟩
      rw [hm] at hgm
      have HC2 : Hid (L.drop k = m :: L.drop (k + 1)) := by unfold Hid; rw [HC.out, hm]
      obtain ⟨g, c, fv, hE, ho, hof, hBE, hEl⟩ := HD.out
      have hcell : wr.cell? ⟨g, k, none⟩ = some (rv m) := by
        have := ho.cells (g := g) rfl k (rv m) (by rw [List.getElem?_map, List.getElem?_eq_getElem hlt, hm]; rfl)
        rwa [Addr.add_lit, Nat.zero_add] at this
      have hc0 : wr.cell? ⟨E, 0, none⟩ = some (.slice (some ⟨g, 0, none⟩) L.length c) := by rw [cell_of_row wr E 0 _ 176 (0, 0) hE]; rfl
      have hat := at_any E 0 g L.length c k m wr hc0 hlt hcell
      unfold rv at hat
      have HST : Hid (StAt wr E 1 x.n x.i x.len x.bias x.b) := stAt_of hE
      clear hE ho hof hcell hc0 hm HC hM hBE hEl
      by_cases hms : (m : Int) = (sgn : Int)
      · have hms2 : m = sgn := by omega
        subst hms2
        have hok := HOK.out
        rw [HC2.out] at hok
        have hgd := hok.1 rfl
        have hok2 : eachOk m (L.drop (k + 1)) (s + 1) (x.put (x.steps m s)) := by have := hok.2; simpa using this
        have hv2 : each m (L.drop (k + 1)) (s + 1) (x.put (x.steps m s)) = ANS := by have h := HV.out; rw [HC2.out] at h; simpa [each] using h
        have hsl := steps_le hgd hs (by omega)
        have hst := fun j => stepsTo_any E 1 x.n x.i x.len x.bias x.b m s (wr.drewN j) (by obtain ⟨a0, a1, a2, a3, a4⟩ := HST.out; exact ⟨a0, a1, a2, a3, a4⟩) hgd.n hs hgd.len (by omega) hgd.st
        have hst0 := hst 0
        rw [show (m - x.n) * (x.len + 1) + s - x.i = x.steps m s from rfl] at hst0
        have hmod : (x.i + x.steps m s) % (x.len + 1) ≤ 1000 := by have := Nat.mod_lt (x.i + x.steps m s) (show 0 < x.len + 1 by omega); have := hgd.len; omega
        have hwn := fun (W : World) (hW : W.heap = wr.heap) => writeNumber_any E B x.n x.i x.len x.bias x.b L x.form (x.steps m s) W (by
          obtain ⟨g, c, fv, hE, ho, hof, hBE, hEl⟩ := HD.out
          exact ⟨g, c, fv, by rw [hW]; exact hE, ⟨ho.1, by rw [hW]; exact ho.2⟩, ⟨hof.1, by rw [hW]; exact hof.2⟩, hBE, by rw [hW]; exact hEl⟩) (by have := hgd.n; omega) hgd.i hgd.len hmod hsl hgd.bias hgd.form
        have HOK2 : Hid (eachOk m (L.drop (k + 1)) (s + 1) (x.put (x.steps m s))) := hok2
        have HV2 : Hid (each m (L.drop (k + 1)) (s + 1) (x.put (x.steps m s)) = ANS) := hv2
        clear hok hgd hok2 hv2 hst HST hmod
        obtain ⟨Q, hQ⟩ : ∃ Q, x.steps m s = Q := ⟨_, rfl⟩
        have HQ : Hid (x.steps m s = Q) := hQ
        rw [hQ] at hst0 hwn hsl
        clear hQ
        go_wp2_with fail
        refine hat.mono ?_
        rintro e w' ⟨rfl, hw'⟩; rw [hw']; clear hw'
        go_wp2_with fail
        refine hst0.mono ?_
        rintro e w2 ⟨rfl, j, hw2⟩
        have hW2 : w2.heap = wr.heap := by rw [hw2]; rfl
        have HKT2 : Hid (KT B wr w2) := by rw [hw2]; exact ⟨rfl, rfl, rfl, Nat.le_refl _, fun _ _ => rfl, fun _ _ _ _ h _ _ => h⟩
        clear hw2
        have hwn2 := hwn w2 hW2
        clear hwn hW2 hst0 hat
        go_wp2_with fail
        refine hwn2.mono ?_
        rintro e w3 ⟨rfl, hD3, hk3⟩
        have HD3 : Hid (EncX w3 E B (x.put (x.steps m s)) L) := by unfold Hid EncX Es.put; rw [HQ.out]; exact hD3
        have HK3 : Hid (KT B w w3) := (HKT.out.trans HKT2.out).trans hk3
        clear hD3 hk3 hwn2
        go_wp2
        go_roundw
        case rel => exact ⟨k + 1, s + 1, x.put (x.steps m s), by omega, by omega, by go_num, by go_num, HD3.out, HK3.out, HOK2.out, HV2.out⟩
        case measure => simp [intOf]; omega
      · have hne : m ≠ sgn := by omega
        have hok2 : eachOk sgn (L.drop (k + 1)) (if m ≤ sgn then s + 1 else s) x := by have h := HOK.out; rw [HC2.out] at h; have := h.2; rwa [if_neg hne] at this
        have hv2 : each sgn (L.drop (k + 1)) (if m ≤ sgn then s + 1 else s) x = ANS := by have h := HV.out; rw [HC2.out, each, if_neg hne] at h; exact h
        by_cases hle : (m : Int) ≤ (sgn : Int)
        · rw [if_pos (by omega)] at hok2 hv2
          have HOK2 : Hid (eachOk sgn (L.drop (k + 1)) (s + 1) x) := hok2
          have HV2 : Hid (each sgn (L.drop (k + 1)) (s + 1) x = ANS) := hv2
          clear hok2 hv2 hne
          go_wp2_with fail
          refine hat.mono ?_
          rintro e w' ⟨rfl, hw'⟩; rw [hw']; clear hw'
          go_wp2
          go_roundw
          case rel => exact ⟨k + 1, s + 1, x, by omega, by omega, by go_num, by go_num, HD.out, HKT.out, HOK2.out, HV2.out⟩
          case measure => simp [intOf]; omega
        · rw [if_neg (by omega)] at hok2 hv2
          have HOK2 : Hid (eachOk sgn (L.drop (k + 1)) s x) := hok2
          have HV2 : Hid (each sgn (L.drop (k + 1)) s x = ANS) := hv2
          clear hok2 hv2 hne
          go_wp2_with fail
          refine hat.mono ?_
          rintro e w' ⟨rfl, hw'⟩; rw [hw']; clear hw'
          go_wp2
          go_roundw
          case rel => exact ⟨k + 1, s, x, by omega, by omega, rfl, by go_num, HD.out, HKT.out, HOK2.out, HV2.out⟩
          case measure => simp [intOf]; omega
    · have hv2 : x = ANS := by have h := HV.out; rw [List.drop_eq_nil_of_le (by omega)] at h; exact h
      have HV2 : Hid (x = ANS) := hv2
      clear hv2
      go_wp2
      go_end0
      exact ⟨rfl, by rw [← HV2.out]; exact HD.out, HKT.out⟩
end Go.Proofs.YtkaaldhejpaiiaaGreatDoor

