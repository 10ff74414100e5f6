/- A text has one form: two forms that are decoded alike are alike. -/
import Derived.Test.YtgkepdjgopoljaaDoorTe
namespace Go.Proofs.YtgkepdjgopoljaaDoor
open Go.RowKit

structure StJ (x : Pm.St) : Prop where
  i : x.i ≤ x.L.length
  le : ∀ h ∈ x.L, h ≤ x.n
  lt : ∀ h ∈ x.L.drop x.i, h < x.n

theorem step_lex (x : Pm.St) (q : Nat) : x.n < (x.step q).n ∨ x.n = (x.step q).n ∧ x.i ≤ (x.step q).i := by
  unfold Pm.St.step
  simp only
  by_cases h : x.i + q < x.L.length + 1
  · right
    rw [Nat.div_eq_of_lt h, Nat.mod_eq_of_lt h]
    omega
  · left
    have : 1 ≤ (x.i + q) / (x.L.length + 1) := (Nat.one_le_div_iff (by omega)).2 (by omega)
    omega
theorem step_J {x : Pm.St} (h : StJ x) (q : Nat) : StJ (x.step q) := by
  refine ⟨Pm.step_i q, fun z hz => ?_, fun z hz => ?_⟩
  · have h1 := h.le z hz
    rcases step_lex x q with h2 | ⟨h2, _⟩ <;> omega
  · rcases step_lex x q with h2 | ⟨h2, h3⟩
    · have h1 := h.le z (List.mem_of_mem_drop hz)
      omega
    · have h4 : z ∈ x.L.drop x.i := by
        have e : x.L.drop (x.step q).i = (x.L.drop x.i).drop ((x.step q).i - x.i) := by rw [List.drop_drop]; congr 1; omega
        have hz2 : z ∈ x.L.drop (x.step q).i := hz
        rw [e] at hz2
        exact List.mem_of_mem_drop hz2
      have := h.lt z h4
      omega
theorem insert_J {x : Pm.St} (h : StJ x) (q : Nat) : StJ (x.insert q) := by
  have hi := h.i
  refine ⟨by rw [Pm.insert_len x q hi]; show x.i + 1 ≤ _; omega, fun z hz => ?_, fun z hz => ?_⟩
  · simp only [Pm.St.insert, List.mem_append, List.mem_cons] at hz
    show z ≤ x.n
    rcases hz with hz | rfl | hz
    · exact h.le z (List.mem_of_mem_take hz)
    · exact Nat.le_refl _
    · exact h.le z (List.mem_of_mem_drop hz)
  · have e : (x.insert q).L.drop (x.insert q).i = x.L.drop x.i := by
      show (x.L.take x.i ++ x.n :: x.L.drop x.i).drop (x.i + 1) = _
      rw [List.drop_append, List.length_take, Nat.min_eq_left hi, List.drop_eq_nil_of_le (by rw [List.length_take]; omega), show x.i + 1 - x.i = 1 by omega]
      rfl
    rw [e] at hz
    exact h.lt z hz

theorem dec_some {f : Nat} {x : Pm.St} {l : List UInt8} {L : List Nat} (h : Pm.dec f x l = some L) : (l = [] ∧ L = x.L) ∨ ∃ g q r, f = g + 1 ∧ l ≠ [] ∧ Pm.rd x.bias 1 0 1 l = some (q, r) ∧ Pm.dec g ((x.step q).insert q) r = some L := by
  cases f with
  | zero => simp [Pm.dec] at h
  | succ g =>
    unfold Pm.dec at h
    by_cases hl : l = []
    · rw [if_pos hl] at h; left; exact ⟨hl, (Option.some.inj h).symm⟩
    · rw [if_neg hl] at h
      right
      split at h
      · simp at h
      · rename_i q r hr
        split at h
        · exact ⟨g, q, r, rfl, hl, hr, h⟩
        · simp at h

theorem stay2 : ∀ (f : Nat) (x : Pm.St) (l : List UInt8) (L : List Nat) (m : Nat), Pm.dec f x l = some L → StJ x → m < x.n → L.filter (fun h => decide (h ≤ m)) = x.L.filter (fun h => decide (h ≤ m))
  | f, x, l, L, m, h, hJ, hm => by
    rcases dec_some h with ⟨_, rfl⟩ | ⟨g, q, r, rfl, _, _, hd⟩
    · rfl
    · have hn : m < (x.step q).n := by rcases step_lex x q with h2 | ⟨h2, _⟩ <;> omega
      rw [stay2 g _ r L m hd (insert_J (step_J hJ q) q) hn]
      show ((x.L.take (x.step q).i) ++ (x.step q).n :: (x.L.drop (x.step q).i)).filter _ = _
      rw [List.filter_append, List.filter_cons_of_neg (by simpa using hn), ← List.filter_append, List.take_append_drop]
termination_by f => f

theorem stay : ∀ (f : Nat) (x : Pm.St) (l : List UInt8) (L : List Nat), Pm.dec f x l = some L → StJ x → (L.filter (fun h => decide (h ≤ x.n))).take x.i = x.L.take x.i
  | f, x, l, L, h, hJ => by
    have hall : x.L.filter (fun h => decide (h ≤ x.n)) = x.L := List.filter_eq_self.2 fun z hz => by simpa using hJ.le z hz
    rcases dec_some h with ⟨_, rfl⟩ | ⟨g, q, r, rfl, _, _, hd⟩
    · rw [hall]
    · have hJ1 := step_J hJ q
      have hJ2 := insert_J hJ1 q
      rcases step_lex x q with h2 | ⟨h2, h3⟩
      · rw [stay2 g _ r L x.n hd hJ2 h2]
        show (((x.L.take (x.step q).i) ++ (x.step q).n :: (x.L.drop (x.step q).i)).filter _).take _ = _
        rw [List.filter_append, List.filter_cons_of_neg (by simpa using h2), ← List.filter_append, List.take_append_drop, hall]
      · have ih := stay g _ r L hd hJ2
        have e : (((x.step q).insert q).L).take ((x.step q).i + 1) = x.L.take (x.step q).i ++ [(x.step q).n] := by
          show (x.L.take (x.step q).i ++ (x.step q).n :: x.L.drop (x.step q).i).take ((x.step q).i + 1) = _
          have hi2 : (x.step q).i ≤ x.L.length := Pm.step_i q
          rw [List.take_append, List.length_take, Nat.min_eq_left hi2, List.take_of_length_le (by rw [List.length_take]; omega), show (x.step q).i + 1 - (x.step q).i = 1 by omega]
          rfl
        have ih2 : (L.filter (fun h => decide (h ≤ x.n))).take ((x.step q).i + 1) = x.L.take (x.step q).i ++ [(x.step q).n] := by
          rw [← e, h2]; exact ih
        have ih3 := congrArg (List.take x.i) ih2
        rw [List.take_take, Nat.min_eq_left (by omega)] at ih3
        rw [ih3, List.take_append_of_le_length (by rw [List.length_take]; have := Pm.step_i (x := x) q; have h4 : (x.step q).L.length = x.L.length := rfl; omega), List.take_take, Nat.min_eq_left h3]
termination_by f => f

theorem dec_grow : ∀ (f : Nat) (x : Pm.St) (l : List UInt8) (L : List Nat), Pm.dec f x l = some L → x.L.length ≤ L.length ∧ (l ≠ [] → x.L.length + 1 ≤ L.length)
  | f, x, l, L, h => by
    rcases dec_some h with ⟨h1, rfl⟩ | ⟨g, q, r, rfl, _, _, hd⟩
    · exact ⟨Nat.le_refl _, fun h2 => absurd h1 h2⟩
    · have := (dec_grow g _ r L hd).1
      rw [Pm.insert_len (x.step q) q (Pm.step_i q)] at this
      have e : (x.step q).L.length = x.L.length := rfl
      exact ⟨by omega, fun _ => by omega⟩
termination_by f => f

theorem step_lt (x : Pm.St) {q q' : Nat} (h : q < q') : (x.step q).n < (x.step q').n ∨ (x.step q).n = (x.step q').n ∧ (x.step q).i < (x.step q').i := by
  unfold Pm.St.step
  simp only
  have h1 : (x.i + q) / (x.L.length + 1) ≤ (x.i + q') / (x.L.length + 1) := Nat.div_le_div_right (by omega)
  by_cases e : (x.i + q) / (x.L.length + 1) = (x.i + q') / (x.L.length + 1)
  · right
    have h2 := Nat.div_add_mod (x.i + q) (x.L.length + 1)
    have h3 := Nat.div_add_mod (x.i + q') (x.L.length + 1)
    rw [e] at h2
    exact ⟨by rw [e], by omega⟩
  · left; omega

theorem insert_take (x : Pm.St) (q : Nat) (hi : x.i ≤ x.L.length) : (x.insert q).L.take (x.i + 1) = x.L.take x.i ++ [x.n] := by
  show (x.L.take x.i ++ x.n :: x.L.drop x.i).take (x.i + 1) = _
  rw [List.take_append, List.length_take, Nat.min_eq_left hi, List.take_of_length_le (by rw [List.length_take]; omega), show x.i + 1 - x.i = 1 by omega]
  rfl

theorem no_lt {x : Pm.St} (hJ : StJ x) {q q' g g' : Nat} (hq : q < q') {r r' : List UInt8} {L : List Nat} (h1 : Pm.dec g ((x.step q).insert q) r = some L) (h2 : Pm.dec g' ((x.step q').insert q') r' = some L) : False := by
  have hJ1 := step_J hJ q
  have hJ2 := step_J hJ q'
  have hi1 : (x.step q).i ≤ x.L.length := Pm.step_i q
  have hi2 : (x.step q').i ≤ x.L.length := Pm.step_i q'
  have e1 : (L.filter (fun h => decide (h ≤ (x.step q).n))).take ((x.step q).i + 1) = x.L.take (x.step q).i ++ [(x.step q).n] :=
    (stay g _ r L h1 (insert_J hJ1 q)).trans (insert_take (x.step q) q hi1)
  have e2 : (L.filter (fun h => decide (h ≤ (x.step q).n))).take ((x.step q).i + 1) = x.L.take ((x.step q).i + 1) := by
    rcases step_lt x hq with h3 | ⟨h3, h4⟩
    · rw [stay2 g' _ r' L (x.step q).n h2 (insert_J hJ2 q') h3]
      show (((x.L.take (x.step q').i) ++ (x.step q').n :: (x.L.drop (x.step q').i)).filter _).take _ = _
      rw [List.filter_append, List.filter_cons_of_neg (by simpa using h3), ← List.filter_append, List.take_append_drop, List.filter_eq_self.2 fun z hz => by simpa using hJ1.le z hz]
    · have ih : (L.filter (fun h => decide (h ≤ (x.step q').n))).take ((x.step q').i + 1) = x.L.take (x.step q').i ++ [(x.step q').n] :=
        (stay g' _ r' L h2 (insert_J hJ2 q')).trans (insert_take (x.step q') q' hi2)
      have ih3 := congrArg (List.take ((x.step q).i + 1)) ih
      rw [List.take_take, Nat.min_eq_left (by omega)] at ih3
      rw [h3, ih3, List.take_append_of_le_length (by rw [List.length_take]; omega), List.take_take, Nat.min_eq_left (by omega)]
  rw [e1] at e2
  by_cases hlt : (x.step q).i < x.L.length
  · rw [List.take_succ_eq_append_getElem hlt] at e2
    have e3 := (List.append_inj' e2 rfl).2
    have e4 : (x.step q).n = x.L[(x.step q).i] := by simpa using e3
    have hm : x.L[(x.step q).i] ∈ x.L.drop (x.step q).i := by rw [List.drop_eq_getElem_cons hlt]; exact List.mem_cons_self
    have := hJ1.lt _ hm
    omega
  · have e5 := congrArg List.length e2
    rw [List.length_append, List.length_take, List.length_take] at e5
    simp at e5
    omega

/-- Two forms that are decoded alike are alike. -/
theorem dec_inj : ∀ (f f' : Nat) (x : Pm.St) (l l' : List UInt8) (L : List Nat), Pm.dec f x l = some L → Pm.dec f' x l' = some L → StJ x → l = l'
  | f, f', x, l, l', L, h, h', hJ => by
    rcases dec_some h with ⟨rfl, e⟩ | ⟨g, q, r, rfl, hl, hr, hd⟩
    · by_cases hl' : l' = []
      · rw [hl']
      · have := (dec_grow f' x l' L h').2 hl'
        rw [e] at this
        omega
    · rcases dec_some h' with ⟨rfl, e⟩ | ⟨g', q', r', rfl, hl', hr', hd'⟩
      · have := (dec_grow (g + 1) x l L h).2 hl
        rw [e] at this
        omega
      · rcases Nat.lt_trichotomy q q' with hq | rfl | hq
        · exact (no_lt hJ hq hd hd').elim
        · have ih := dec_inj g g' _ r r' L hd hd' (insert_J (step_J hJ q) q)
          obtain ⟨p, hp, hw⟩ := wnum_rd _ _ _ _ _ _ _ hr
          obtain ⟨p', hp', hw'⟩ := wnum_rd _ _ _ _ _ _ _ hr'
          have e1 : p = q := by omega
          have e2 : p' = q := by omega
          subst e1
          rw [hw (p + 1) (by omega), hw' (p + 1) (by omega), e2, ih]
        · exact (no_lt hJ hq hd' hd).elim
termination_by f => f
end Go.Proofs.YtgkepdjgopoljaaDoor
