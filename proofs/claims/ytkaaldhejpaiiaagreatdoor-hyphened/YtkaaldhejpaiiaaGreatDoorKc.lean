/- Kind. -/
import Derived.Test.YtkaaldhejpaiiaaGreatDoorKb
import Derived.Test.YtkaaldhejpaiiaaGreatDoorKmath
namespace Go.Proofs.YtkaaldhejpaiiaaGreatDoor
open Go.RowKit

theorem count_mono (p : Nat → Bool) : ∀ N : Nat, (∀ a b, a ≤ b → b < N → p a = true → p b = true) →
    (∀ i, i < (List.range N).countP (fun i => !p i) → p i = false) ∧ (∀ i, (List.range N).countP (fun i => !p i) ≤ i → i < N → p i = true) ∧ (List.range N).countP (fun i => !p i) ≤ N
  | 0, _ => ⟨fun i h => by simp at h, fun i _ h => by omega, by simp⟩
  | N + 1, hm => by
    obtain ⟨h1, h2, h3⟩ := count_mono p N (fun a b hab hb => hm a b hab (by omega))
    rw [List.range_succ, List.countP_append, List.countP_singleton]
    cases hp : p N with
    | true =>
      simp only [Bool.not_true, Bool.false_eq_true, if_false, Nat.add_zero]
      refine ⟨h1, fun i hi hN => ?_, by omega⟩
      by_cases e : i = N
      · rw [e]; exact hp
      · exact h2 i hi (by omega)
    | false =>
      simp only [Bool.not_false, if_true]
      have hall : ∀ i, i < N → p i = false := fun i hi => by
        cases hq : p i with
        | false => rfl
        | true => have := hm i N (by omega) (by omega) hq; rw [hp] at this; cases this
      have hc : (List.range N).countP (fun i => !p i) = N := by
        rcases Nat.lt_or_ge ((List.range N).countP (fun i => !p i)) N with h | h
        · have := h2 _ (Nat.le_refl _) h
          rw [hall _ h] at this; cases this
        · omega
      rw [hc]
      refine ⟨fun i hi => ?_, fun i hi hN => by omega, by omega⟩
      by_cases e : i = N
      · rw [e]; exact hp
      · exact hall i (by omega)

theorem rows_same : ∀ k : Fin 33, Km.rowA Km.tab k = rA k ∧ Km.rowB Km.tab k = rB k ∧ Km.rowC Km.tab k = rC k := by decide +kernel
theorem rA_up : ∀ a b : Fin 33, a < b → rB a < rA b := by decide +kernel
theorem rAB : ∀ a : Fin 33, rA a ≤ rB a := by decide +kernel
theorem kind_look (n : Int) : (if idxK n = 33 ∨ n < rA (idxK n) then 0 else rC (idxK n)) = Km.look Km.tab n := by
  obtain ⟨h1, h2, h3⟩ := count_mono (fun i => decide (n ≤ rB i)) 33 (fun a b hab hb h => by
    have := rB_up ⟨a, by omega⟩ ⟨b, hb⟩ hab
    simp only [decide_eq_true_eq] at h ⊢
    simp only at this
    omega)
  change ∀ i, i < idxK n → _ at h1
  change ∀ i, idxK n ≤ i → _ at h2
  change idxK n ≤ 33 at h3
  generalize idxK n = K at *
  have lo : ∀ j, j < K → ¬ (Km.rowA Km.tab j ≤ n ∧ n ≤ Km.rowB Km.tab j) := fun j hj h => by
    have e := rows_same ⟨j, by omega⟩
    have h4 := h1 j hj
    simp only [decide_eq_false_iff_not] at h4
    simp only at e
    rw [e.2.1] at h
    exact h4 h.2
  by_cases hK : K = 33
  · rw [if_pos (Or.inl hK), Km.look_miss Km.tab n K (by subst hK; decide) lo]
  · have e := rows_same ⟨K, by omega⟩
    simp only at e
    have h5 := h2 K (Nat.le_refl _) (by omega)
    simp only [decide_eq_true_eq] at h5
    by_cases hA : n < rA K
    · rw [if_pos (Or.inr hA), Km.look_miss Km.tab n 33 (by decide)]
      intro j hj h
      by_cases hjK : j < K
      · exact lo j hjK h
      · have ej := rows_same ⟨j, hj⟩
        simp only at ej
        rw [ej.1] at h
        by_cases hje : j = K
        · subst hje; omega
        · have q1 := rA_up ⟨K, by omega⟩ ⟨j, hj⟩ (by show K < j; omega)
          have q2 := rAB ⟨K, by omega⟩
          simp only at q1 q2
          omega
    · rw [if_neg (by omega), Km.look_hit Km.tab n K (by show K < 33; omega) lo (by rw [e.1, e.2.1]; omega), e.2.2]

theorem look_low (n : Int) : 0 ≤ Km.look Km.tab n ∧ Km.look Km.tab n ≤ 5 := by
  rw [← kind_look]
  split
  · omega
  · obtain ⟨h1, h2, _⟩ := rC_low ⟨idxK n, Nat.lt_succ_of_le (idxK_le n)⟩
    exact ⟨h1, h2⟩
theorem field_row (a b c s d e : Value) (w : World) : Sem.run Tryz.prog (Instr.field 61 (.agg #[a, b, c, s, d, e]) 2) w = .ok c w ∧ Sem.run Tryz.prog (Instr.field 61 (.agg #[a, b, c, s, d, e]) 3) w = .ok s w ∧
    Sem.run Tryz.prog (Instr.field 61 (.agg #[a, b, c, s, d, e]) 4) w = .ok d w ∧ Sem.run Tryz.prog (Instr.field 61 (.agg #[a, b, c, s, d, e]) 5) w = .ok e w := ⟨by kernel_rfl, by kernel_rfl, by kernel_rfl, by kernel_rfl⟩
set_option maxRecDepth 100000 in
set_option maxHeartbeats 400000 in
theorem kind_any (n : Int) (w : World) (tt : TypeId) (fr : Nat × Nat) (hg : w.heap[0]? = some (.cells aggK tt fr)) :
    Calls Tryz.prog 17 #[.int .i64 n] w fun e w' => e = .returned (.int .i64 (Km.look Km.tab n)) ∧ Below w.heap.size w w' := by
  have hr := rowOf_any n w tt fr hg
  obtain ⟨hl, hu⟩ := look_low n
  obtain ⟨a, b, s, d, e, hv⟩ : ∃ a b s d e : Value, rowVal n = .agg #[a, b, .int .u8 (Km.look Km.tab n), s, d, e] := by
    rw [← kind_look]
    unfold rowVal
    by_cases h : idxK n = 33 ∨ n < rA (idxK n)
    · exact ⟨_, _, _, _, _, by rw [if_pos h, if_pos h]⟩
    · exact ⟨_, _, _, _, _, by rw [if_neg h, if_neg h]⟩
  rw [hv] at hr
  clear hv hg
  generalize Km.look Km.tab n = c at *
  have hfl := fun w => (field_row a b (.int .u8 c) s d e w).1
  go_enter Tryz.func17, Tryz.ntmps17
  go_wp2_with (go_at_call 27; refine hr.mono ?_; rintro e w' ⟨rfl, hb⟩)
  go_ret
  exact ⟨rfl, hb⟩
end Go.Proofs.YtkaaldhejpaiiaaGreatDoor
