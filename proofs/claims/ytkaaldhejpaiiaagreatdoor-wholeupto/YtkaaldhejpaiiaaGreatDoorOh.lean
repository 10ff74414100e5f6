import Derived.Test.YtkaaldhejpaiiaaGreatDoorBu24
/- Strange's labels. No walk in this text. -/
namespace Go.Proofs.YtkaaldhejpaiiaaGreatDoor
open Go.RowKit

def lowN (n : Nat) : Nat := if 65 ≤ n ∧ n ≤ 90 then n + 32 else n
theorem lowN_of {n : Nat} (h : ¬ (65 ≤ n ∧ n ≤ 90)) : lowN n = n := if_neg h
theorem low_back {L : List Nat} (ha : allLow L = true) : (L.map UInt8.ofNat).map (·.toNat) = L ∧ ascB (L.map UInt8.ofNat) = true ∧ (textOf L).data.toList = L.map UInt8.ofNat := by
  have hlt : ∀ n ∈ L, n < 128 := fun n hn => by simpa using List.all_eq_true.1 ha n hn
  have e : (L.map UInt8.ofNat).map (·.toNat) = L := by
    rw [List.map_map]
    have : ∀ n ∈ L, ((fun (b : UInt8) => b.toNat) ∘ UInt8.ofNat) n = id n := fun n hn => by
      have h1 := hlt n hn
      simp; omega
    rw [List.map_congr_left this, List.map_id]
  have hasc : ascB (L.map UInt8.ofNat) = true := by
    unfold ascB
    rw [List.all_map, List.all_eq_true]
    intro n hn
    have h1 := hlt n hn
    simp; omega
  refine ⟨e, hasc, ?_⟩
  have := textOf_map _ hasc
  rw [e] at this
  rw [this]
theorem lowerA_map {L : List Nat} (ha : allLow L = true) : Lib.toLowerA (L.map UInt8.ofNat) = (L.map lowN).map UInt8.ofNat := by
  have hlt : ∀ n ∈ L, n < 128 := fun n hn => by simpa using List.all_eq_true.1 ha n hn
  unfold Lib.toLowerA
  rw [List.map_map, List.map_map]
  apply List.map_congr_left
  intro n hn
  have h1 := hlt n hn
  have hu : ((UInt8.ofNat n).toNat : Int) = n := u8_of n (by omega)
  show Lib.lowerB (UInt8.ofNat n) = UInt8.ofNat (lowN n)
  by_cases hc : 65 ≤ n ∧ n ≤ 90
  · unfold lowN
    rw [if_pos hc]
    unfold Lib.lowerB
    rw [if_pos (by rw [Lib.isUpperB_int, hu]; simp; omega)]
    apply UInt8.toNat_inj.1
    rw [UInt8.toNat_add, UInt8.toNat_ofNat', UInt8.toNat_ofNat']
    have h4 : (32 : UInt8).toNat = 32 := rfl
    omega
  · rw [lowN_of hc]
    apply Lib.lowerB_of_not
    rw [Lib.isUpperB_int, hu]
    simp
    omega
theorem allLow_low {L : List Nat} (ha : allLow L = true) : allLow (L.map lowN) = true := by
  unfold allLow at *
  rw [List.all_map, List.all_eq_true]
  intro n hn
  have h1 := List.all_eq_true.1 ha n hn
  simp only [decide_eq_true_eq] at h1
  simp only [Function.comp, decide_eq_true_eq]
  unfold lowN
  split <;> omega
/-- ASCII signs, in capitals or not. -/
theorem plain_low {L : List Nat} (ha : allLow L = true) (hne : L ≠ []) (hx : (L.map lowN).take 4 ≠ [120, 110, 45, 45]) : plainM (textOf L) = (0, L.map lowN) := by
  obtain ⟨e, hasc, ht⟩ := low_back ha
  obtain ⟨e2, hasc2, _⟩ := low_back (allLow_low ha)
  have hz : (textOf L).size ≠ 0 := by
    have h1 : (textOf L).data.toList.length = L.length := by rw [ht, List.length_map]
    have := List.length_pos_iff.2 hne
    rw [Array.length_toList] at h1
    show (textOf L).data.size ≠ 0
    omega
  unfold plainM
  rw [ht, validD_asc hasc, if_neg (by decide), if_neg hz, hasc, lowerA_map ha, e2, if_neg (by decide)]
  have hp : Lib.hasPrefix ((L.map lowN).map UInt8.ofNat) xn = false := by
    cases hh : Lib.hasPrefix ((L.map lowN).map UInt8.ofNat) xn with
    | false => rfl
    | true =>
      refine absurd ?_ hx
      obtain ⟨t, ht⟩ := List.isPrefixOf_iff_prefix.1 hh
      rw [← e2, ← ht]
      rfl
  rw [hp, if_neg (by decide)]
theorem labelM_of_plain {s : ByteArray} {P : List Nat} (h : plainM s = (0, P)) :
    labelM s = if faultM P ≠ 0 then (faultM P, [], ⟨#[]⟩) else if 63 < (formB P).size then (9, [], ⟨#[]⟩) else (0, P, formB P) := by
  unfold labelM
  rw [h]
  simp only
  rw [if_neg (by simp)]
theorem labelV_err (s : ByteArray) : ∃ a b, labelV s = .tuple #[.string a, .string b, .int .i64 ((labelM s).1 : Nat)] := by
  unfold labelV
  split
  · rename_i h; rw [h]; exact ⟨_, _, rfl⟩
  · exact ⟨_, _, rfl⟩
theorem fault_le (P : List Nat) : faultM P ≤ 8 := by
  unfold faultM
  repeat (first | (split; omega) | omega)
theorem err_le {s : ByteArray} {P : List Nat} (h : plainM s = (0, P)) : (labelM s).1 ≤ 9 := by
  rw [labelM_of_plain h]
  have := fault_le P
  split
  · show faultM P ≤ 9; omega
  · split
    · exact Nat.le_refl _
    · exact Nat.zero_le _

theorem rows5 : ∀ r ∈ Km.tab, r.2.2 = 1 ∨ r.2.2 = 2 ∨ r.2.2 = 3 ∨ r.2.2 = 4 ∨ r.2.2 = 5 := by decide +kernel
theorem rC_range (n : Int) : rC (pk n) = 0 ∨ rC (pk n) = 1 ∨ rC (pk n) = 2 ∨ rC (pk n) = 3 ∨ rC (pk n) = 4 ∨ rC (pk n) = 5 := by
  by_cases h : rC (pk n) = 0
  · exact Or.inl h
  · obtain ⟨r, hr, _, _, h3⟩ := rC_mem h
    rw [← h3]
    exact Or.inr (rows5 r hr)
theorem small_common : ∀ i : Fin 26, rC (pk ((65 + i.val + 32 : Nat) : Int)) = 1 := by decide +kernel

def strangeL (n : Nat) (zs : List Int) : List Nat := 109 :: n :: lettersM zs
theorem strange_hyph (n : Nat) (zs : List Int) : hyphM (strangeL n zs) = false := by
  rw [hyphM_eq (by simp [strangeL])]
  have h1 : (strangeL n zs).getLast? ≠ some 45 := last_letters [109, n] zs
  rw [decide_eq_false h1]
  simp [strangeL, lettersM]
theorem strange_fault {n : Nat} (zs : List Int) (h : rC (pk (n : Int)) ≠ 0) : faultM (strangeL n zs) ≠ 4 := by
  have hk : noKind (strangeL n zs) = false := by
    rw [noKind_iff, List.any_eq_false]
    intro m hm
    rcases List.mem_cons.1 hm with rfl | hm
    · simpa using (common_ne (Or.inl rfl : Common 109)).1
    · rcases List.mem_cons.1 hm with rfl | hm
      · simpa using h
      · simpa using (common_ne (letters_common zs m hm)).1
  unfold faultM
  rw [hk, if_neg (by decide)]
  repeat (first | (split; omega) | omega)
theorem strange_none {n : Nat} (zs : List Int) (h : rC (pk (n : Int)) = 0) : faultM (strangeL n zs) = 4 := by
  have hk : noKind (strangeL n zs) = true := by
    rw [noKind_iff, List.any_eq_true]
    exact ⟨n, by simp [strangeL], by simpa using h⟩
  unfold faultM
  rw [hk, if_pos rfl]
theorem strange_all {n : Nat} (zs : List Int) (h : Common n) : ∀ m ∈ strangeL n zs, Common m := by
  intro m hm
  rcases List.mem_cons.1 hm with rfl | hm
  · exact Or.inl rfl
  · rcases List.mem_cons.1 hm with rfl | hm
    · exact h
    · exact letters_common zs m hm
theorem strange_form {n : Nat} (zs : List Int) (h : Common n) : (formB (strangeL n zs)).size ≤ 63 := by
  have hA : ∀ m ∈ [109, n, 113], Common m := fun m hm => by
    simp only [List.mem_cons, List.not_mem_nil, or_false] at hm
    rcases hm with rfl | rfl | rfl
    · exact Or.inl rfl
    · exact h
    · exact common_113
  have g := form_letters (A := [109, n, 113]) (E := [n]) hA (tailL_mem zs) (tailL_len zs) (by simp) (fun m hm hlt => by
    simp only [List.mem_cons, List.not_mem_nil, or_false] at hm ⊢
    omega)
  have e : strangeL n zs = [109, n, 113] ++ tailL zs := rfl
  have ho : (oth [109, n, 113]).length ≤ 1 := by
    unfold oth
    by_cases hn : n < 128 <;> simp [hn]
  have hq := tailL_len zs
  rw [e]
  simp only [List.length_cons, List.length_nil] at g
  omega
/-- What the signs come to that are looked through, in the end. -/
theorem strange_end {s : ByteArray} {n : Nat} {zs : List Int} (h : plainM s = (0, strangeL n zs)) :
    (rC (pk (n : Int)) = 0 → (labelM s).1 = 4) ∧ (Common n → (labelM s).1 = 0) ∧ (rC (pk (n : Int)) ≠ 0 → (labelM s).1 ≠ 4) := by
  rw [labelM_of_plain h]
  refine ⟨fun h0 => ?_, fun hc => ?_, fun h0 => ?_⟩
  · rw [strange_none zs h0]; rfl
  · have hf : faultM (strangeL n zs) = 0 := by rw [fault_common (strange_all zs hc), strange_hyph]; rfl
    have hz := strange_form zs hc
    rw [hf, if_neg (by simp), if_neg (by omega)]
  · have := strange_fault zs h0
    split
    · exact this
    · split
      · show (9 : Nat) ≠ 4; decide
      · show (0 : Nat) ≠ 4; decide
theorem letters_nocap (zs : List Int) : (lettersM zs).map lowN = lettersM zs := by
  have : ∀ n ∈ lettersM zs, lowN n = id n := fun n hn => lowN_of (kind_range (common_ne (letters_common zs n hn)).1).2
  rw [List.map_congr_left this, List.map_id]
theorem strange_plain {n : Nat} (zs : List Int) (hs : Pm.sign n = true) : plainM (textOf (strangeL n zs)) = (0, strangeL (if allLow (strangeL n zs) = true then lowN n else n) zs) := by
  cases ha : allLow (strangeL n zs) with
  | true =>
    rw [if_pos rfl]
    have e : (strangeL n zs).map lowN = strangeL (lowN n) zs := by
      unfold strangeL
      rw [List.map_cons, List.map_cons, letters_nocap]
      rfl
    rw [plain_low ha (by simp [strangeL]) (by rw [e]; simp [strangeL]), e]
  | false =>
    rw [if_neg (by decide)]
    refine plain_text (fun m hm => ?_) (by simp [strangeL]) (fun h => by rw [ha] at h; cases h)
    rcases List.mem_cons.1 hm with rfl | hm
    · decide +kernel
    · rcases List.mem_cons.1 hm with rfl | hm
      · exact hs
      · exact kind_sign (common_ne (letters_common zs m hm)).1
/-- Strange's label: a capital. -/
theorem strange_cap {n : Nat} (zs : List Int) (h : 65 ≤ n ∧ n ≤ 90) : (labelM (textOf (strangeL n zs))).1 = if allLow (lettersM zs) = true then 0 else 4 := by
  have hs : Pm.sign n = true := sign_low (by omega)
  have hp := strange_plain zs hs
  have ea : allLow (strangeL n zs) = allLow (lettersM zs) := by
    unfold strangeL allLow
    rw [List.all_cons, List.all_cons, decide_eq_true (show n < 128 by omega)]
    rfl
  rw [ea] at hp
  cases ha : allLow (lettersM zs) with
  | true =>
    rw [ha, if_pos rfl] at hp
    rw [if_pos rfl]
    refine (strange_end hp).2.1 (Or.inl ?_)
    have := small_common ⟨n - 65, by omega⟩
    simp only at this
    unfold lowN
    rw [if_pos h]
    rw [show 65 + (n - 65) + 32 = n + 32 by omega] at this
    exact this
  | false =>
    rw [ha, if_neg (by decide)] at hp
    rw [if_neg (by decide)]
    refine (strange_end hp).1 ?_
    rcases Decidable.em (rC (pk (n : Int)) = 0) with h0 | h0
    · exact h0
    · exact absurd h (kind_range h0).2
/-- Strange's label: another sign. -/
theorem strange_other {n : Nat} (zs : List Int) (hs : Pm.sign n = true) (h : ¬ (65 ≤ n ∧ n ≤ 90)) :
    (rC (pk (n : Int)) = 0 → (labelM (textOf (strangeL n zs))).1 = 4) ∧ (Common n → (labelM (textOf (strangeL n zs))).1 = 0) ∧ (rC (pk (n : Int)) ≠ 0 → (labelM (textOf (strangeL n zs))).1 ≠ 4) := by
  have hp := strange_plain zs hs
  rw [lowN_of h, ite_self] at hp
  exact strange_end hp
theorem strange_le {n : Nat} (zs : List Int) (hs : Pm.sign n = true) : (labelM (textOf (strangeL n zs))).1 ≤ 9 := err_le (strange_plain zs hs)

theorem bad255 (r : List UInt8) : Lib.validD (109 :: 255 :: r) = false := by
  rw [Lib.validD_cons _ _ (by decide), Lib.validD_lead _ (by simp) (by simp)]
  have : ∀ n b1 b2 b3 lo hi, Lib.checkN n b1 b2 b3 (Lib.firstT 255 % 8) lo hi = none := by
    intro n b1 b2 b3 lo hi
    have e : Lib.firstT 255 % 8 = 1 := by decide +kernel
    rw [e]
    rfl
  have e0 : ((255 :: r : List UInt8).getD 0 0).toNat = 255 := rfl
  rw [e0, this]
theorem strange_utf (t : ByteArray) : labelV (⟨#[109, 255]⟩ ++ t) = .tuple #[.string { data := #[] }, .string { data := #[] }, .int .i64 1] := by
  have e : ((⟨#[109, 255]⟩ : ByteArray) ++ t).data.toList = 109 :: 255 :: t.data.toList := by
    rw [ByteArray.data_append]; simp
  have hp : plainM (⟨#[109, 255]⟩ ++ t) = (1, []) := by
    unfold plainM
    rw [e, bad255, if_pos rfl]
  unfold labelV labelM
  rw [hp]
  rfl
end Go.Proofs.YtkaaldhejpaiiaaGreatDoor

