/- A label in memory; what it asks of a place. -/
import Derived.Test.YtkaaldhejpaiiaaGreatDoorKd
import Derived.Test.YtkaaldhejpaiiaaGreatDoorLa
import Derived.Test.YtkaaldhejpaiiaaGreatDoorPe
namespace Go.Proofs.YtkaaldhejpaiiaaGreatDoor
open Go.RowKit

/-- A label lies at b, its signs in row r; the table lies where it should. -/
structure Lab (w : World) (b r : Nat) (L : List Nat) : Prop where
  at0 : ∃ c, w.heap[b]? = some (.cells #[.slice (some ⟨r, 0, none⟩) L.length c] 52 (0, 0))
  row : ∃ cs, w.heap[r]? = some (.cells cs 21 (0, 0)) ∧ ∀ i (_ : i < L.length), cs[i]? = some (rv L[i])
  tab : ∃ tt fr, w.heap[0]? = some (.cells aggK tt fr)
  len : L.length ≤ 9223372036854775807
  sgn : ∀ x ∈ L, x ≤ 1114111

theorem lt_heap {w : World} {k : Nat} {o : Obj} (h : w.heap[k]? = some o) : k < w.heap.size := (Array.getElem?_eq_some_iff.1 h).1
theorem Lab.keep {w w' : World} {b r : Nat} {L : List Nat} (h : Lab w b r L) (hb : Below w.heap.size w w') : Lab w' b r L := by
  obtain ⟨⟨c, h1⟩, ⟨cs, h2, h3⟩, ⟨tt, fr, h4⟩, h5, h6⟩ := h
  exact ⟨⟨c, (hb.block b (lt_heap h1)).trans h1⟩, ⟨cs, (hb.block r (lt_heap h2)).trans h2, h3⟩, ⟨tt, fr, (hb.block 0 (lt_heap h4)).trans h4⟩, h5, h6⟩
theorem Lab.alloc {w : World} {b r : Nat} {L : List Nat} (h : Lab w b r L) (o : Obj) : Lab (w.alloc o) b r L := h.keep ((Below.refl _ _).alloc (Nat.le_refl _) _)
theorem Lab.drew {w : World} {b r : Nat} {L : List Nat} (h : Lab w b r L) : Lab w.drew b r L := h.keep (Below.refl _ _).drew
theorem Lab.cell {w : World} {b r : Nat} {L : List Nat} (h : Lab w b r L) : ∃ c, w.cell? ⟨b, 0, none⟩ = some (.slice (some ⟨r, 0, none⟩) L.length c) := by
  obtain ⟨c, h1⟩ := h.at0
  exact ⟨c, by rw [cell_of_row _ _ _ _ 52 (0, 0) h1]; rfl⟩
theorem Lab.sign {w : World} {b r : Nat} {L : List Nat} (h : Lab w b r L) (i : Nat) (hi : i < L.length) : w.cell? ⟨r, i, none⟩ = some (rv L[i]) := by
  obtain ⟨cs, h2, h3⟩ := h.row
  rw [cell_of_row _ _ _ _ 21 (0, 0) h2]; exact h3 i hi
theorem Lab.lt {w : World} {b r : Nat} {L : List Nat} (h : Lab w b r L) : b < w.heap.size ∧ r < w.heap.size := by
  obtain ⟨c, h1⟩ := h.at0
  obtain ⟨cs, h2, _⟩ := h.row
  exact ⟨lt_heap h1, lt_heap h2⟩
theorem Below.andThen {w w1 w2 : World} (h : Below w.heap.size w w1) (k : Below w1.heap.size w1 w2) : Below w.heap.size w w2 := h.trans (k.mono h.size)
theorem Below.newly {w w1 : World} {o : Obj} (k : Below (w.alloc o).heap.size (w.alloc o) w1) : Below w.heap.size w w1 := Below.andThen ((Below.refl _ _).alloc (Nat.le_refl _) _) k
theorem below_one (w : World) (o : Obj) : Below w.heap.size w (w.alloc o) := (Below.refl _ _).alloc (Nat.le_refl _) _

/-- The sign at a place; the number of its row (33: none). -/
def pkAt (L : List Nat) (p : Int) : Nat := if 0 ≤ p ∧ p < (L.length : Int) then pk ((L.getD p.toNat 0 : Nat) : Int) else 33
theorem pkAt_nat (L : List Nat) (i : Nat) (hi : i < L.length) : pkAt L (i : Int) = pk ((L[i] : Nat) : Int) := by
  unfold pkAt
  rw [if_pos (by omega)]
  simp [List.getD, hi]

set_option maxHeartbeats 1000000 in
theorem has_any {w : World} {b r : Nat} {L : List Nat} (hL : Lab w b r L) (p : Int) :
    Calls Tryz.prog 133 #[.pointer (some ⟨b, 0, none⟩), .int .i64 p] w fun e w' => e = .returned (.bool (decide (0 ≤ p ∧ p < (L.length : Int)))) ∧ w' = w := by
  obtain ⟨c, hc⟩ := hL.cell
  clear hL
  by_cases h0 : 0 ≤ p
  · by_cases h1 : p < (L.length : Int)
    · go_enter Tryz.func133, Tryz.ntmps133
      go_wp2
      go_ret
      exact ⟨by simp [h0, h1], rfl⟩
    · go_enter Tryz.func133, Tryz.ntmps133
      go_wp2
      go_ret
      exact ⟨by simp [h1], rfl⟩
  · go_enter Tryz.func133, Tryz.ntmps133
    go_wp2
    go_ret
    exact ⟨by simp; omega, rfl⟩

theorem fat_any {w : World} {b r : Nat} {L : List Nat} (hL : Lab w b r L) (i : Nat) (hi : i < L.length) :
    Calls Tryz.prog 97 #[.pointer (some ⟨b, 0, none⟩), .int .i64 i] w fun e w' => e = .returned (.int .i32 ((L[i] : Nat) : Int)) ∧ w' = w := by
  obtain ⟨c, hc⟩ := hL.cell
  exact at_any b 0 r L.length c i L[i] w hc hi (hL.sign i hi)
theorem fcount_any {w : World} {b r : Nat} {L : List Nat} (hL : Lab w b r L) :
    Calls Tryz.prog 94 #[.pointer (some ⟨b, 0, none⟩)] w fun e w' => e = .returned (.int .i64 (L.length : Int)) ∧ w' = w := by
  obtain ⟨c, hc⟩ := hL.cell
  exact count_any b 0 _ _ c w hc

set_option maxHeartbeats 1000000 in
theorem stands_any {w : World} {b r : Nat} {L : List Nat} (hL : Lab w b r L) (p : Int) (x : Int) :
    Calls Tryz.prog 140 #[.pointer (some ⟨b, 0, none⟩), .int .i64 p, .int .i32 x] w fun e w' => e = .returned (.bool (decide (0 ≤ p ∧ p < (L.length : Int)) && decide (((L.getD p.toNat 0 : Nat) : Int) = x))) ∧ w' = w := by
  have hh := has_any hL p
  obtain ⟨c, hc⟩ := hL.cell
  by_cases h : 0 ≤ p ∧ p < (L.length : Int)
  · obtain ⟨i, rfl⟩ : ∃ i : Nat, p = (i : Int) := ⟨p.toNat, by omega⟩
    have hi : i < L.length := by omega
    have hs := hL.sign i hi
    unfold rv at hs
    have e1 : L.getD (i : Int).toNat 0 = L[i] := by simp [List.getD, hi]
    rw [e1]
    rw [decide_eq_true h] at hh ⊢
    generalize L[i] = y at *
    have hil : (i : Int) < (L.length : Int) := h.2
    clear hL
    go_enter Tryz.func140, Tryz.ntmps140
    go_wp2_with (go_at_call 133; refine hh.mono ?_; rintro e w' ⟨rfl, hw'⟩; rw [hw']; clear hw')
    go_ret
    refine ⟨?_, rfl⟩
    by_cases hxy : (y : Int) = x <;> simp [hxy]
  · rw [decide_eq_false h] at hh ⊢
    clear hL
    go_enter Tryz.func140, Tryz.ntmps140
    go_wp2_with (go_at_call 133; refine hh.mono ?_; rintro e w' ⟨rfl, hw'⟩; rw [hw']; clear hw')
    go_ret
    exact ⟨by simp, rfl⟩

set_option maxRecDepth 100000 in
set_option maxHeartbeats 1000000 in
theorem rowAt_any {w : World} {b r : Nat} {L : List Nat} (hL : Lab w b r L) (p : Int) (K : Nat) (hK : pkAt L p = K) :
    Calls Tryz.prog 96 #[.pointer (some ⟨b, 0, none⟩), .int .i64 p] w fun e w' => e = .returned (.agg #[.int .i32 (rA K), .int .i32 (rB K), .int .u8 (rC K), .int .u8 (rS K), .int .u8 (rD K), .int .u8 (rE K)]) ∧ Below w.heap.size w w' := by
  have hh := has_any (hL.alloc (.cells #[.int .i32 0, .int .i32 0, .int .u8 0, .int .u8 0, .int .u8 0, .int .u8 0] 61)) p
  by_cases h : 0 ≤ p ∧ p < (L.length : Int)
  · obtain ⟨i, rfl⟩ : ∃ i : Nat, p = (i : Int) := ⟨p.toNat, by omega⟩
    have hi : i < L.length := by omega
    rw [pkAt_nat L i hi] at hK
    have hat := fat_any (hL.alloc (.cells #[.int .i32 0, .int .i32 0, .int .u8 0, .int .u8 0, .int .u8 0, .int .u8 0] 61)) i hi
    obtain ⟨tt, fr, hg⟩ := (hL.alloc (.cells #[.int .i32 0, .int .i32 0, .int .u8 0, .int .u8 0, .int .u8 0, .int .u8 0] 61)).tab
    have hro := rowOf_any ((L[i] : Nat) : Int) _ tt fr hg
    rw [rowVal_idx, hK] at hro
    have hsg : L[i] ≤ 1114111 := hL.sgn _ (List.getElem_mem hi)
    rw [decide_eq_true h] at hh
    generalize L[i] = y at *
    clear hL hg
    go_enter Tryz.func96, Tryz.ntmps96
    go_wp2_with (first | (go_at_call 133; refine hh.mono ?_; rintro e w' ⟨rfl, hw'⟩; rw [hw']; clear hw') | (go_at_call 97; refine hat.mono ?_; rintro e w' ⟨rfl, hw'⟩; rw [hw']; clear hw') | (go_at_call 27; refine hro.mono ?_; rintro e w2 ⟨rfl, hb2⟩; have hr2 : w2.heap[w.heap.size]? = some (.cells #[.int .i32 0, .int .i32 0, .int .u8 0, .int .u8 0, .int .u8 0, .int .u8 0] 61 (0, 0)) := (hb2.block w.heap.size (by simp)).trans (Go.heap_alloc_new w _); have HB2 : Hid (Below w.heap.size w w2) := Below.newly hb2; clear hb2 hro hat hh; obtain ⟨r0, r1, r2, r3, r4, r5⟩ := six hr2; have f0 : ∀ j, w2.frozen? ⟨w.heap.size, j, none⟩ = false := fun j => unfrozen hr2 j))
    have q5 := set6 hr2 (.int .i32 (rA K)) (.int .i32 (rB K)) (.int .u8 (rC K)) (.int .u8 (rS K)) (.int .u8 (rD K)) (.int .u8 (rE K))
    have HB5 : Hid (Below w.heap.size w _) := below6 HB2.out w.heap.size (Nat.le_refl _) (.int .i32 (rA K)) (.int .i32 (rB K)) (.int .u8 (rC K)) (.int .u8 (rS K)) (.int .u8 (rD K)) (.int .u8 (rE K))
    revert q5 HB5
    generalize (((((w2.setCell ⟨w.heap.size, 0, none⟩ (.int .i32 (rA K))).setCell ⟨w.heap.size, 1, none⟩ (.int .i32 (rB K))).setCell ⟨w.heap.size, 2, none⟩ (.int .u8 (rC K))).setCell ⟨w.heap.size, 3, none⟩ (.int .u8 (rS K))).setCell ⟨w.heap.size, 4, none⟩ (.int .u8 (rD K))).setCell ⟨w.heap.size, 5, none⟩ (.int .u8 (rE K)) = w5
    intro q5 HB5
    obtain ⟨s0, s1, s2, s3, s4, s5⟩ := six q5
    exact bodyPost_ret (v := .agg #[.int .i32 (rA K), .int .i32 (rB K), .int .u8 (rC K), .int .u8 (rS K), .int .u8 (rD K), .int .u8 (rE K)]) (by simp [results, Tryz.results96, go_sem, s0, s1, s2, s3, s4, s5]) rfl ⟨rfl, HB5.out⟩
  · rw [decide_eq_false h] at hh
    have hK3 : K = 33 := by rw [← hK]; unfold pkAt; rw [if_neg h]
    subst hK3
    clear hL
    go_enter Tryz.func96, Tryz.ntmps96
    go_wp2_with (go_at_call 133; refine hh.mono ?_; rintro e w' ⟨rfl, hw'⟩; rw [hw']; clear hw')
    exact bodyPost_ret (v := .agg #[.int .i32 0, .int .i32 0, .int .u8 0, .int .u8 0, .int .u8 0, .int .u8 0]) (by simp [results, Tryz.results96, go_sem]) rfl ⟨rfl, below_one _ _⟩
end Go.Proofs.YtkaaldhejpaiiaaGreatDoor
