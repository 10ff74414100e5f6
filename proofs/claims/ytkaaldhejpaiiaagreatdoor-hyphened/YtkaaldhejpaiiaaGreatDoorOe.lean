/- Labels of letters; Hyphened's labels. No walk in this text. -/
import Derived.Test.YtkaaldhejpaiiaaGreatDoorOd
namespace Go.Proofs.YtkaaldhejpaiiaaGreatDoor
open Go.RowKit

def nine : List Nat := [97, 98, 122, 48, 55, 252, 233, 945, 28450]
theorem nine_common : ∀ n ∈ nine, Common n := by unfold Common; decide +kernel
theorem nine_far : ∀ n ∈ nine, n ≠ 45 ∧ (128 ≤ n → n ∈ [233, 252, 945, 28450]) := by decide +kernel
theorem let9_mem (k : Nat) (h : k < 9) : let9 k ∈ nine := by
  rcases (by omega : k = 0 ∨ k = 1 ∨ k = 2 ∨ k = 3 ∨ k = 4 ∨ k = 5 ∨ k = 6 ∨ k = 7 ∨ k = 8) with rfl | rfl | rfl | rfl | rfl | rfl | rfl | rfl | rfl <;> decide
def tailL (zs : List Int) : List Nat := (zs.take 12).map fun c => let9 (pickM c 9)
theorem lettersM_eq (zs : List Int) : lettersM zs = 113 :: tailL zs := rfl
theorem tailL_mem (zs : List Int) : ∀ n ∈ tailL zs, n ∈ nine := by
  intro n hn
  obtain ⟨c, _, rfl⟩ := List.mem_map.1 hn
  exact let9_mem _ (pickM_lt c 9 (by omega))
theorem tailL_len (zs : List Int) : (tailL zs).length ≤ 12 := by unfold tailL; simp; omega
theorem common_113 : Common 113 := Or.inl rfl
theorem letters_common (zs : List Int) : ∀ n ∈ lettersM zs, Common n := by
  intro n hn
  rcases List.mem_cons.1 hn with rfl | hn
  · exact common_113
  · exact nine_common n (tailL_mem zs n hn)
theorem letters_ne45 (zs : List Int) : ∀ n ∈ lettersM zs, n ≠ 45 := by
  intro n hn
  rcases List.mem_cons.1 hn with rfl | hn
  · decide
  · exact (nine_far n (tailL_mem zs n hn)).1
theorem oth_append (A B : List Nat) : oth (A ++ B) = oth A ++ oth B := by unfold oth; rw [List.filter_append]

/-- How long the form of signs ahead of letters is at most. -/
theorem form_letters {A Q E : List Nat} (hA : ∀ n ∈ A, Common n) (hQ : ∀ n ∈ Q, n ∈ nine) (hq : Q.length ≤ 12) (hl : A.length ≤ 12) (hE : ∀ n ∈ A, 128 ≤ n → n ∈ E) :
    (formB (A ++ Q)).size ≤ A.length + Q.length + 5 + ((oth A).length + Q.length) + 5 * (E.length + 4) := by
  have hc : ∀ n ∈ A ++ Q, Common n := fun n hn => by
    rcases List.mem_append.1 hn with h | h
    · exact hA n h
    · exact nine_common n (hQ n h)
  have hs : signsL (A ++ Q) := fun n hn => kind_sign (common_ne (hc n hn)).1
  have hz : (A ++ Q).length ≤ 24 := by rw [List.length_append]; omega
  have h := formB_dig hs (by omega) 5 (fun y hy => by
    have h1 := (kind_range (common_ne (hc y hy)).1).1
    have h2 : (y - 128) * ((A ++ Q).length + 1) ≤ 40831 * 25 := Nat.mul_le_mul (by omega) (by omega)
    omega) (E ++ [233, 252, 945, 28450]).length (few_of _ _ (ysOf_ys _).up fun y hy => by
      have h1 := ((ysOf_ys _).all y).1 hy
      rcases List.mem_append.1 h1.1 with h | h
      · exact List.mem_append.2 (Or.inl (hE y h h1.2))
      · exact List.mem_append.2 (Or.inr ((nine_far y (hQ y h)).2 h1.2)))
  rw [oth_append] at h
  have := oth_len Q
  simp only [List.length_append, List.length_cons, List.length_nil] at h
  omega

theorem rC_at (L : List Nat) (i : Nat) : decide (rC (pkAt L (i : Int)) = 3) = decide (L[i]? = some 45) := by
  rcases Nat.lt_or_ge i L.length with h | h
  · rw [pkAt_nat L i h, List.getElem?_eq_getElem h]
    by_cases e : L[i] = 45
    · rw [e]; rfl
    · rw [decide_eq_false (fun hh => e (by have := rC_hyphen hh; omega)), decide_eq_false (by simpa using e)]
  · rw [List.getElem?_eq_none h]
    unfold pkAt
    rw [if_neg (by omega)]
    rfl
theorem hyphM_eq {L : List Nat} (h : L ≠ []) : hyphM L = (decide (L[0]? = some 45) || decide (L.getLast? = some 45) || (decide (L[2]? = some 45) && decide (L[3]? = some 45))) := by
  have hl := List.length_pos_iff.2 h
  unfold hyphM
  rw [show ((L.length : Int) - 1) = ((L.length - 1 : Nat) : Int) by omega, show (0 : Int) = ((0 : Nat) : Int) from rfl, show (2 : Int) = ((2 : Nat) : Int) from rfl]
  rw [rC_at, rC_at, rC_at, show (3 : Int) = ((3 : Nat) : Int) from rfl]
  have h3 := rC_at L 3
  rw [List.getLast?_eq_getElem?]
  rw [← h3]
  rfl
theorem labelV_hyph {L : List Nat} (h : ∀ n ∈ L, Common n) (hne : L ≠ []) (hx : L[0]? ≠ some 120) (hh : hyphM L = true) :
    labelV (textOf L) = .tuple #[.string { data := #[] }, .string { data := #[] }, .int .i64 5] := by
  have hs : signsL L := fun n hn => kind_sign (common_ne (h n hn)).1
  have hp := plain_text hs hne fun _ => ⟨fun n hn => (kind_range (common_ne (h n hn)).1).2, fun e => hx (by
    have := congrArg (fun l => l[0]?) e
    simp only [List.getElem?_take] at this
    simpa using this)⟩
  unfold labelV labelM
  rw [hp]
  simp only
  rw [fault_common h, if_pos hh]
  rfl
theorem labelV_ok {L : List Nat} (h : ∀ n ∈ L, Common n) (hne : L ≠ []) (hx : L[0]? ≠ some 120) (hh : hyphM L = false) (hz : (formB L).size ≤ 63) :
    labelV (textOf L) = .tuple #[.string (textOf L), .string (formB L), .int .i64 0] := by
  rw [labelV_common h hne (fun e => hx (by
    have := congrArg (fun l => l[0]?) e
    simp only [List.getElem?_take] at this
    simpa using this)) hz, hh]
  rfl
theorem label_ok {L : List Nat} (h : ∀ n ∈ L, Common n) (hne : L ≠ []) (hx : L[0]? ≠ some 120) (hh : hyphM L = false) (hz : (formB L).size ≤ 63) :
    labelM (textOf L) = (0, L, formB L) := by
  rw [label_common h hne (fun e => hx (by
    have := congrArg (fun l => l[0]?) e
    simp only [List.getElem?_take] at this
    simpa using this)) hz, hh]
  rfl

/-- Hyphened's two labels. -/
def leadL (p : Nat) : List Nat := [97, 98, 99, 100, 101, 102].take p
def hypL (m : Nat) : List Nat := List.replicate (m + 1) 45
theorem last_letters (A : List Nat) (zs : List Int) : (A ++ lettersM zs).getLast? ≠ some 45 := by
  intro h
  rw [List.getLast?_append] at h
  have : (lettersM zs).getLast? = some ((lettersM zs).getLast (by simp [lettersM])) := List.getLast?_eq_some_getLast _
  rw [this] at h
  simp only [Option.some_or, Option.some.injEq] at h
  exact letters_ne45 zs _ (List.getLast_mem _) h
theorem lead_common (p m : Nat) : ∀ n ∈ leadL p ++ hypL m, Common n := by
  intro n hn
  rcases List.mem_append.1 hn with h | h
  · have : n ∈ [97, 98, 99, 100, 101, 102] := List.mem_of_mem_take h
    have k : ∀ n ∈ [97, 98, 99, 100, 101, 102], Common n := by unfold Common; decide +kernel
    exact k n this
  · rw [List.eq_of_mem_replicate h]
    exact Or.inr (Or.inr rfl)
theorem hyph1 (p m : Nat) (hp : p < 7) (hm : m < 4) (zs : List Int) : hyphM (leadL p ++ hypL m ++ lettersM zs) = decide (p = 0 ∨ p ≤ 2 ∧ 4 ≤ p + (m + 1)) := by
  rw [hyphM_eq (by simp [lettersM]), decide_eq_false (last_letters _ zs), lettersM_eq]
  generalize tailL zs = Q
  rcases (by omega : p = 0 ∨ p = 1 ∨ p = 2 ∨ p = 3 ∨ p = 4 ∨ p = 5 ∨ p = 6) with rfl | rfl | rfl | rfl | rfl | rfl | rfl <;>
  rcases (by omega : m = 0 ∨ m = 1 ∨ m = 2 ∨ m = 3) with rfl | rfl | rfl | rfl <;> simp [leadL, hypL, List.replicate]
theorem hyph2 (m : Nat) (zs : List Int) : hyphM (lettersM zs ++ hypL m) = true := by
  rw [hyphM_eq (by simp [lettersM])]
  have : (lettersM zs ++ hypL m).getLast? = some 45 := by unfold hypL; rw [List.getLast?_append]; simp [List.getLast?_replicate]
  rw [this]
  simp
theorem hyphened1 (p m : Nat) (hp : p < 7) (hm : m < 4) (zs : List Int) : labelV (textOf (leadL p ++ hypL m ++ lettersM zs)) =
    if p = 0 ∨ p ≤ 2 ∧ 4 ≤ p + (m + 1) then .tuple #[.string { data := #[] }, .string { data := #[] }, .int .i64 5]
    else .tuple #[.string (textOf (leadL p ++ hypL m ++ lettersM zs)), .string (formB (leadL p ++ hypL m ++ lettersM zs)), .int .i64 0] := by
  have hc : ∀ n ∈ leadL p ++ hypL m ++ lettersM zs, Common n := fun n hn => by
    rcases List.mem_append.1 hn with h | h
    · exact lead_common p m n h
    · exact letters_common zs n h
  have hx : (leadL p ++ hypL m ++ lettersM zs)[0]? ≠ some 120 := by
    rw [lettersM_eq]
    generalize tailL zs = Q
    rcases (by omega : p = 0 ∨ p = 1 ∨ p = 2 ∨ p = 3 ∨ p = 4 ∨ p = 5 ∨ p = 6) with rfl | rfl | rfl | rfl | rfl | rfl | rfl <;> simp [leadL, hypL, List.replicate]
  have hh := hyph1 p m hp hm zs
  by_cases hb : p = 0 ∨ p ≤ 2 ∧ 4 ≤ p + (m + 1)
  · rw [if_pos hb]
    exact labelV_hyph hc (by simp [lettersM]) hx (by rw [hh]; exact decide_eq_true hb)
  · rw [if_neg hb]
    refine labelV_ok hc (by simp [lettersM]) hx (by rw [hh]; exact decide_eq_false hb) ?_
    have e : leadL p ++ hypL m ++ lettersM zs = (leadL p ++ hypL m ++ [113]) ++ tailL zs := by rw [lettersM_eq]; simp
    have hA : ∀ n ∈ leadL p ++ hypL m ++ [113], Common n ∧ n < 128 := fun n hn => by
      rcases List.mem_append.1 hn with h | h
      · refine ⟨lead_common p m n h, ?_⟩
        rcases List.mem_append.1 h with h | h
        · have : n ∈ [97, 98, 99, 100, 101, 102] := List.mem_of_mem_take h
          have k : ∀ n ∈ [97, 98, 99, 100, 101, 102], n < 128 := by decide
          exact k n this
        · rw [List.eq_of_mem_replicate h]; decide
      · rw [List.mem_singleton.1 h]; exact ⟨common_113, by decide⟩
    have hlen : (leadL p ++ hypL m ++ [113]).length ≤ 11 := by simp [leadL, hypL]; omega
    have ho : oth (leadL p ++ hypL m ++ [113]) = [] := by
      unfold oth
      rw [List.filter_eq_nil_iff]
      intro n hn
      simp [(hA n hn).2]
    rw [e]
    have h := form_letters (E := []) (fun n hn => (hA n hn).1) (tailL_mem zs) (tailL_len zs) (by omega) (fun n hn h => by have := (hA n hn).2; omega)
    rw [ho] at h
    have hq := tailL_len zs
    simp only [List.length_nil] at h
    omega
theorem hyphened2 (m : Nat) (zs : List Int) : labelV (textOf (lettersM zs ++ hypL m)) = .tuple #[.string { data := #[] }, .string { data := #[] }, .int .i64 5] := by
  refine labelV_hyph (fun n hn => ?_) (by simp [lettersM]) (by simp [lettersM]) (hyph2 m zs)
  rcases List.mem_append.1 hn with h | h
  · exact letters_common zs n h
  · exact lead_common 0 m n (List.mem_append.2 (Or.inr h))
/-- A label of letters is good. -/
theorem letters_form (zs : List Int) : (formB (lettersM zs)).size ≤ 50 := by
  have h := form_letters (A := [113]) (E := []) (fun n hn => by rw [List.mem_singleton.1 hn]; exact common_113) (tailL_mem zs) (tailL_len zs) (by decide) (fun n hn h => by rw [List.mem_singleton.1 hn] at h; omega)
  have ho : oth [113] = [] := rfl
  have hq := tailL_len zs
  rw [ho] at h
  have e : lettersM zs = [113] ++ tailL zs := rfl
  rw [e]
  simp only [List.length_cons, List.length_nil] at h
  omega
theorem letters_hyph (zs : List Int) : hyphM (lettersM zs) = false := by
  rw [hyphM_eq (by simp [lettersM])]
  have h1 : (lettersM zs).getLast? ≠ some 45 := last_letters [] zs
  have h2 : (lettersM zs)[2]? ≠ some 45 := fun h => letters_ne45 zs 45 (List.mem_of_getElem? h) rfl
  have h0 : (lettersM zs)[0]? ≠ some 45 := fun h => letters_ne45 zs 45 (List.mem_of_getElem? h) rfl
  rw [decide_eq_false h2, decide_eq_false h0, decide_eq_false h1]
  rfl
theorem letters_label (zs : List Int) : labelM (textOf (lettersM zs)) = (0, lettersM zs, formB (lettersM zs)) :=
  label_ok (letters_common zs) (by simp [lettersM]) (by simp [lettersM]) (letters_hyph zs) (Nat.le_trans (letters_form zs) (by decide))
theorem letters_labelV (zs : List Int) : labelV (textOf (lettersM zs)) = .tuple #[.string (textOf (lettersM zs)), .string (formB (lettersM zs)), .int .i64 0] := by
  unfold labelV
  rw [letters_label]
  rfl
end Go.Proofs.YtkaaldhejpaiiaaGreatDoor
