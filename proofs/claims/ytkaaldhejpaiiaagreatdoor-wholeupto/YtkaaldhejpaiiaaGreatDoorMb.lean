import Derived.Test.YtkaaldhejpaiiaaGreatDoorBu18
import Derived.Test.YtkaaldhejpaiiaaGreatDoorBu16
/- The document's at, some, joined. -/
namespace Go.Proofs.YtkaaldhejpaiiaaGreatDoor
open Go.RowKit

/-- A row of signs, as the document's answer keeps them. -/
structure Ints (w : World) (g : Nat) (L : List Nat) : Prop where
  lt : g < w.heap.size
  cell : ∀ i (_ : i < L.length), w.cell? ⟨g, i, none⟩ = some (.int .i64 ((L[i] : Nat) : Int))
  len : L.length ≤ 9223372036854775807
  sgn : ∀ x ∈ L, x ≤ 1114111
theorem Ints.keep {w w' : World} {g : Nat} {L : List Nat} (h : Ints w g L) (hb : Below w.heap.size w w') : Ints w' g L :=
  ⟨Nat.lt_of_lt_of_le h.lt hb.size, fun i hi => (hb.cell (p := ⟨g, i, none⟩) h.lt).trans (h.cell i hi), h.len, h.sgn⟩
theorem Ints.alloc {w : World} {g : Nat} {L : List Nat} (h : Ints w g L) (o : Obj) : Ints (w.alloc o) g L := h.keep (below_one w o)

/-- The number of the document's row at a place (33: none). -/
def dkAt (L : List Nat) (p : Int) : Nat := if 0 ≤ p ∧ p < (L.length : Int) then dk ((L.getD p.toNat 0 : Nat) : Int) else 33
theorem same_at (L : List Nat) (p : Int) : sameRow (pkAt L p) (dkAt L p) = true := by
  unfold pkAt dkAt
  split
  · exact same_rows _
  · exact none_same
theorem dkAt_nat (L : List Nat) (i : Nat) (hi : i < L.length) : dkAt L (i : Int) = dk ((L[i] : Nat) : Int) := by
  unfold dkAt
  rw [if_pos (by omega)]
  simp [List.getD, hi]
theorem bytes_beq (s : ByteArray) (l : List UInt8) : (s.toList == l) = decide (s.data.toList = l) := by
  rw [ByteArray.toList_eq, Bool.eq_iff_iff, beq_iff_eq, decide_eq_true_eq]
theorem joinEq : ∀ k : Fin 4, ∀ j : Fin 4, (joinName.getD k [1] = joinName.getD j [1]) ↔ k = j := by decide
theorem scriptEq : ∀ k : Fin 9, ∀ j : Fin 9, (scriptName.getD k [1] = scriptName.getD j [1]) ↔ k = j := by decide
theorem sideEq : ∀ k : Fin 8, ∀ j : Fin 8, (sideName.getD k [1] = sideName.getD j [1]) ↔ k = j := by decide
theorem join_is (L : List Nat) (p : Int) (j : Nat) (hj : j < 4) : ((rowJ (dkAt L p)).toList == joinName.getD j [1]) = decide (rE (pkAt L p) = (j : Int)) := by
  have h := same_at L p
  simp only [sameRow, Bool.and_eq_true, decide_eq_true_eq] at h
  rw [bytes_beq, ← h.1.1.1.1.2]
  have e := joinEq ⟨(rE (pkAt L p)).toNat, by omega⟩ ⟨j, hj⟩
  simp only [Fin.mk.injEq] at e
  rw [Bool.eq_iff_iff, decide_eq_true_eq, decide_eq_true_eq, e]
  omega
theorem script_is (L : List Nat) (p : Int) (j : Nat) (hj : j < 9) : ((rowT (dkAt L p)).toList == scriptName.getD j [1]) = decide (rD (pkAt L p) = (j : Int)) := by
  have h := same_at L p
  simp only [sameRow, Bool.and_eq_true, decide_eq_true_eq] at h
  rw [bytes_beq, ← h.1.1.1.1.1.2]
  have e := scriptEq ⟨(rD (pkAt L p)).toNat, by omega⟩ ⟨j, hj⟩
  simp only [Fin.mk.injEq] at e
  rw [Bool.eq_iff_iff, decide_eq_true_eq, decide_eq_true_eq, e]
  omega
theorem side_is (L : List Nat) (p : Int) (j : Nat) (hj : j < 8) : ((rowS (dkAt L p)).toList == sideName.getD j [1]) = decide (rS (pkAt L p) = (j : Int)) := by
  have h := same_at L p
  simp only [sameRow, Bool.and_eq_true, decide_eq_true_eq] at h
  rw [bytes_beq, ← h.1.1.1.1.1.1.1.1.2]
  have e := sideEq ⟨(rS (pkAt L p)).toNat, by omega⟩ ⟨j, hj⟩
  simp only [Fin.mk.injEq] at e
  rw [Bool.eq_iff_iff, decide_eq_true_eq, decide_eq_true_eq, e]
  omega
theorem kindD_is (L : List Nat) (p : Int) : Km.rowC Km.ref (dkAt L p) = rC (pkAt L p) := by
  have h := same_at L p
  simp only [sameRow, Bool.and_eq_true, decide_eq_true_eq] at h
  exact h.1.1.1.1.1.1.1.1.1.symm

set_option maxRecDepth 100000 in
set_option maxHeartbeats 1000000 in
theorem at_any' {w : World} {g : Nat} {L : List Nat} (hI : Ints w g L) (c : Nat) (p : Int) (K : Nat) (hK : dkAt L p = K) :
    Calls Tryz.prog 34 #[.slice (some ⟨g, 0, none⟩) L.length c, .int .i64 p] w fun e w' => e = .returned (.agg #[.int .i64 (Km.rowA Km.ref K), .int .i64 (Km.rowB Km.ref K), .int .i64 (Km.rowC Km.ref K), .string (rowS K), .string (rowT K), .string (rowJ K)]) ∧ Below w.heap.size w w' := by
  by_cases h0 : 0 ≤ p
  · by_cases h1 : p < (L.length : Int)
    · obtain ⟨i, rfl⟩ : ∃ i : Nat, p = (i : Int) := ⟨p.toNat, by omega⟩
      have hi : i < L.length := by omega
      rw [dkAt_nat L i hi] at hK
      have hc := (hI.alloc (.cells #[.int .i64 0, .int .i64 0, .int .i64 0, .string { data := #[] }, .string { data := #[] }, .string { data := #[] }] 72)).cell i hi
      have hro := row_any ((L[i] : Nat) : Int) (w.alloc (.cells #[.int .i64 0, .int .i64 0, .int .i64 0, .string { data := #[] }, .string { data := #[] }, .string { data := #[] }] 72))
      unfold rowV at hro
      rw [show Km.idx Km.ref ((L[i] : Nat) : Int) = K from hK] at hro
      generalize L[i] = y at *
      clear hI
      go_enter Tryz.func34, Tryz.ntmps34
      go_wp2_with (go_at_call 51; refine hro.mono ?_; rintro e w2 ⟨rfl, hb2⟩; have hr2 : w2.heap[w.heap.size]? = some (.cells #[.int .i64 0, .int .i64 0, .int .i64 0, .string { data := #[] }, .string { data := #[] }, .string { data := #[] }] 72 (0, 0)) := (hb2.block w.heap.size (by simp)).trans (Go.heap_alloc_new w _); have HB2 : Hid (Below w.heap.size w w2) := Below.newly hb2; clear hb2 hro; obtain ⟨r0, r1, r2, r3, r4, r5⟩ := six hr2; have f0 : ∀ j, w2.frozen? ⟨w.heap.size, j, none⟩ = false := fun j => unfrozen hr2 j)
      have q5 := set6 hr2 (.int .i64 (Km.rowA Km.ref K)) (.int .i64 (Km.rowB Km.ref K)) (.int .i64 (Km.rowC Km.ref K)) (.string (rowS K)) (.string (rowT K)) (.string (rowJ K))
      have HB5 : Hid (Below w.heap.size w _) := below6 HB2.out w.heap.size (Nat.le_refl _) (.int .i64 (Km.rowA Km.ref K)) (.int .i64 (Km.rowB Km.ref K)) (.int .i64 (Km.rowC Km.ref K)) (.string (rowS K)) (.string (rowT K)) (.string (rowJ K))
      revert q5 HB5
      generalize (((((w2.setCell ⟨w.heap.size, 0, none⟩ (.int .i64 (Km.rowA Km.ref K))).setCell ⟨w.heap.size, 1, none⟩ (.int .i64 (Km.rowB Km.ref K))).setCell ⟨w.heap.size, 2, none⟩ (.int .i64 (Km.rowC Km.ref K))).setCell ⟨w.heap.size, 3, none⟩ (.string (rowS K))).setCell ⟨w.heap.size, 4, none⟩ (.string (rowT K))).setCell ⟨w.heap.size, 5, none⟩ (.string (rowJ K)) = w5
      intro q5 HB5
      obtain ⟨s0, s1, s2, s3, s4, s5⟩ := six q5
      exact bodyPost_ret (v := .agg #[.int .i64 (Km.rowA Km.ref K), .int .i64 (Km.rowB Km.ref K), .int .i64 (Km.rowC Km.ref K), .string (rowS K), .string (rowT K), .string (rowJ K)]) (by simp [results, Tryz.results34, go_sem, s0, s1, s2, s3, s4, s5]) rfl ⟨rfl, HB5.out⟩
    · have hK3 : K = 33 := by rw [← hK]; unfold dkAt; rw [if_neg (by omega)]
      subst hK3
      clear hI
      go_enter Tryz.func34, Tryz.ntmps34
      go_wp2
      exact bodyPost_ret (v := .agg #[.int .i64 0, .int .i64 0, .int .i64 0, .string { data := #[] }, .string { data := #[] }, .string { data := #[] }]) (by simp [results, Tryz.results34, go_sem]) rfl ⟨rfl, below_one _ _⟩
  · have hK3 : K = 33 := by rw [← hK]; unfold dkAt; rw [if_neg (by omega)]
    subst hK3
    clear hI
    go_enter Tryz.func34, Tryz.ntmps34
    go_wp2
    exact bodyPost_ret (v := .agg #[.int .i64 0, .int .i64 0, .int .i64 0, .string { data := #[] }, .string { data := #[] }, .string { data := #[] }]) (by simp [results, Tryz.results34, go_sem]) rfl ⟨rfl, below_one _ _⟩

set_option maxHeartbeats 1000000 in
theorem some_any {w : World} {g : Nat} {L : List Nat} (hI : Ints w g L) (c : Nat) (lo hi : Int) :
    Calls Tryz.prog 109 #[.slice (some ⟨g, 0, none⟩) L.length c, .int .i64 lo, .int .i64 hi] w fun e w' => e = .returned (.bool (anyIn lo hi L)) ∧ w' = w := by
  have hlen := hI.len
  have HI : Hid (Ints w g L) := hI
  obtain ⟨n, hn⟩ : ∃ n, L.length = n := ⟨_, rfl⟩
  have HN : Hid (L.length = n) := hn
  rw [hn] at hlen ⊢
  clear hI hn
  go_enter Tryz.func109, Tryz.ntmps109
  go_wp2
  go_loop [7] (fun i => ∃ k : Nat, k ≤ n ∧ i = .int .i64 k ∧ ∀ j x, j < k → L[j]? = some x → inRange lo hi (x : Int) = false) (fun i => n - (intOf i).toNat)
  case atStart => exact ⟨0, by omega, rfl, fun j x hj => absurd hj (by omega)⟩
  case round =>
    obtain ⟨k, hk, rfl, hno⟩ := hrel
    have HO : Hid (∀ j x, j < k → L[j]? = some x → inRange lo hi (x : Int) = false) := hno
    clear hno
    by_cases hlt : k < n
    · have hkL : k < L.length := by rw [HN.out]; exact hlt
      have hlt' : (k : Int) < (n : Int) := by omega
      have hc := HI.out.cell k hkL
      have hx : L[k]? = some L[k] := List.getElem?_eq_getElem hkL
      generalize L[k] = x at *
      by_cases hr : lo ≤ (x : Int) ∧ (x : Int) ≤ hi
      · have hf := from_t (x : Int) lo hi w hr
        clear hkL
        go_wp2_with (go_at_call 108; refine hf.mono ?_; rintro e w' ⟨rfl, hw'⟩; rw [hw']; clear hw')
        go_ret
        refine ⟨?_, rfl⟩
        rw [show anyIn lo hi L = true from List.any_eq_true.2 ⟨x, List.mem_of_getElem? hx, decide_eq_true hr⟩]
        rfl
      · have hf := from_f (x : Int) lo hi w hr
        clear hkL
        go_wp2_with (go_at_call 108; refine hf.mono ?_; rintro e w' ⟨rfl, hw'⟩; rw [hw']; clear hw')
        go_round
        case rel => exact ⟨k + 1, by omega, by go_num, fun j y hj hy => by
            rcases Nat.lt_succ_iff_lt_or_eq.1 hj with h | rfl
            · exact HO.out j y h hy
            · rw [hx] at hy
              obtain rfl := Option.some.inj hy
              exact decide_eq_false hr⟩
        case measure => simp [intOf]; omega
    · have hlt' : ¬ (k : Int) < (n : Int) := by omega
      go_wp2
      go_ret
      refine ⟨?_, rfl⟩
      rw [show anyIn lo hi L = false from List.any_eq_false.2 fun x hx => by
        obtain ⟨j, hj⟩ := List.getElem?_of_mem hx
        have := (List.getElem?_eq_some_iff.1 hj).1
        rw [HO.out j x (by rw [HN.out] at this; omega) hj]
        simp]
      rfl
end Go.Proofs.YtkaaldhejpaiiaaGreatDoor

