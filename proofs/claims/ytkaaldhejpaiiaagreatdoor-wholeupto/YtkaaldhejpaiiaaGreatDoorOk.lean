import Derived.Test.YtkaaldhejpaiiaaGreatDoorOh
/- A good label's two forms are good, and come out as themselves. No walk in this text. -/
namespace Go.Proofs.YtkaaldhejpaiiaaGreatDoor
open Go.RowKit

/-- What signs are that make a good label. -/
structure GoodL (L : List Nat) : Prop where
  signs : signsL L
  ne : L ≠ []
  kinds : ∀ n ∈ L, rC (pk (n : Int)) ≠ 0
  hyph : hyphM L = false
  fault : faultM L = 0
  size : (formB L).size ≤ 63
theorem fault_zero {L : List Nat} (h : faultM L = 0) : (∀ n ∈ L, rC (pk (n : Int)) ≠ 0) ∧ hyphM L = false := by
  unfold faultM at h
  cases hk : noKind L with
  | true => rw [hk, if_pos rfl] at h; cases h
  | false =>
    cases hh : hyphM L with
    | true => rw [hk, hh, if_neg (by decide), if_pos rfl] at h; cases h
    | false =>
      refine ⟨fun n hn => ?_, rfl⟩
      rw [noKind_iff, List.any_eq_false] at hk
      simpa using hk n hn
theorem goodL_of {s : ByteArray} (h : (labelM s).1 = 0) : GoodL (labelM s).2.1 ∧ (labelM s).2.2 = formB (labelM s).2.1 ∧ plainM s = (0, (labelM s).2.1) := by
  by_cases h1 : (plainM s).1 = 0
  · obtain ⟨k1, _, k3⟩ := plain_facts s h1
    have e : plainM s = (0, (plainM s).2) := by rw [← h1]
    have hl := labelM_of_plain e
    by_cases h2 : faultM (plainM s).2 = 0
    · rw [if_neg (by simpa using h2)] at hl
      by_cases h3 : 63 < (formB (plainM s).2).size
      · rw [if_pos h3] at hl
        rw [hl] at h
        cases h
      · rw [if_neg h3] at hl
        obtain ⟨f1, f2⟩ := fault_zero h2
        rw [hl]
        exact ⟨⟨k1, k3, f1, f2, h2, Nat.le_of_not_lt h3⟩, rfl, e⟩
    · rw [if_pos (by simpa using h2)] at hl
      rw [hl] at h
      exact absurd h h2
  · exfalso
    unfold labelM at h
    rw [if_pos (by simpa using h1)] at h
    exact h1 h
theorem label_good {s : ByteArray} {L : List Nat} (hL : GoodL L) (hp : plainM s = (0, L)) : labelM s = (0, L, formB L) := by
  rw [labelM_of_plain hp, hL.fault, if_neg (by simp), if_neg (by have := hL.size; omega)]
theorem good_xn {L : List Nat} (hL : GoodL L) : L.take 4 ≠ [120, 110, 45, 45] := by
  intro e
  have h := hL.hyph
  rw [hyphM_eq hL.ne] at h
  have h2 : L[2]? = some 45 := by
    have := congrArg (fun l => l[2]?) e
    simp only [List.getElem?_take] at this
    simpa using this
  have h3 : L[3]? = some 45 := by
    have := congrArg (fun l => l[3]?) e
    simp only [List.getElem?_take] at this
    simpa using this
  rw [h2, h3] at h
  simp at h
/-- As signs. -/
theorem label_text {L : List Nat} (hL : GoodL L) : labelM (textOf L) = (0, L, formB L) :=
  label_good hL (plain_text hL.signs hL.ne fun _ => ⟨fun n hn => (kind_range (hL.kinds n hn)).2, good_xn hL⟩)

def okB (b : UInt8) : Prop := b.toNat = 45 ∨ (48 ≤ b.toNat ∧ b.toNat ≤ 57) ∨ (97 ≤ b.toNat ∧ b.toNat ≤ 122)
theorem rowsLow : ∀ r ∈ Km.tab, 128 ≤ r.1 ∨ (r.1 = 45 ∧ r.2.1 = 45) ∨ (r.1 = 48 ∧ r.2.1 = 57) ∨ (r.1 = 97 ∧ r.2.1 = 122) := by decide +kernel
theorem kind_okB {n : Nat} (hn : n < 128) (h : rC (pk (n : Int)) ≠ 0) : okB (UInt8.ofNat n) := by
  obtain ⟨r, hr, h1, h2, _⟩ := rC_mem h
  have h3 := rowsLow r hr
  have e : (UInt8.ofNat n).toNat = n := by simp; omega
  unfold okB
  rw [e]
  omega
theorem digit_okB {b : UInt8} (h : isD b) : okB b := by
  obtain ⟨d, h⟩ := h
  unfold Pm.dig at h
  unfold okB
  split at h
  · omega
  · split at h
    · omega
    · cases h
theorem formB_list (L : List Nat) : (formB L).data.toList = if allLow L = true then L.map UInt8.ofNat else xn ++ encS L (ysOf L) := by
  unfold formB
  cases ha : allLow L with
  | true => rw [if_pos rfl, if_pos rfl]; exact (low_back ha).2.2
  | false => rw [if_neg (by decide), if_neg (by decide)]
theorem size_list (a : ByteArray) : a.size = a.data.toList.length := by rw [Array.length_toList]; rfl
theorem good_len {L : List Nat} (hL : GoodL L) : L.length ≤ 63 := by
  have h := hL.size
  rw [size_list, formB_list] at h
  split at h
  · rwa [List.length_map] at h
  · have := encS_len L
    rw [List.length_append] at h
    omega
theorem form_okB {L : List Nat} (hL : GoodL L) : ∀ b ∈ (formB L).data.toList, okB b := by
  intro b hb
  rw [formB_list] at hb
  split at hb
  · rename_i ha
    obtain ⟨n, hn, rfl⟩ := List.mem_map.1 hb
    exact kind_okB (by simpa using List.all_eq_true.1 ha n hn) (hL.kinds n hn)
  · rcases List.mem_append.1 hb with hb | hb
    · have k : ∀ b ∈ xn, okB b := by unfold okB; decide
      exact k b hb
    · have hl := good_len hL
      obtain ⟨_, bytes, m, e, _, hd, _⟩ := enc_parts (ysOf_ys L) hL.signs (by omega)
      rw [e, List.mem_append] at hb
      rcases hb with hb | hb
      · unfold firstEs at hb
        simp only at hb
        split at hb
        · simp at hb
        · rcases List.mem_append.1 hb with hb | hb
          · unfold ascF at hb
            obtain ⟨n, hn, rfl⟩ := List.mem_map.1 hb
            obtain ⟨h1, h2⟩ := List.mem_filter.1 hn
            exact kind_okB (by simpa using h2) (hL.kinds n h1)
          · obtain rfl : b = 45 := by simpa using hb
            exact Or.inl rfl
      · exact digit_okB (hd b hb)
theorem form_pos {L : List Nat} (hL : GoodL L) : 0 < (formB L).size := by
  rw [size_list, formB_list]
  split
  · rw [List.length_map]; exact List.length_pos_iff.2 hL.ne
  · rw [List.length_append]; simp [xn]; omega
/-- Whatever comes out as the form in small letters. -/
theorem label_lower {t : ByteArray} {L : List Nat} (hL : GoodL L) (ha : ascB t.data.toList = true) (hl : Lib.toLowerA t.data.toList = (formB L).data.toList) : labelM t = (0, L, formB L) := by
  refine label_good hL ?_
  have hz : t.size ≠ 0 := by
    have h1 := form_pos hL
    rw [size_list] at h1
    have h2 := congrArg List.length hl
    unfold Lib.toLowerA at h2
    rw [List.length_map] at h2
    rw [size_list]
    omega
  unfold plainM
  rw [validD_asc ha, if_neg (by decide), if_neg hz, ha, if_neg (by decide), hl, formB_list]
  cases hal : allLow L with
  | true =>
    simp only [if_true]
    obtain ⟨e, _, _⟩ := low_back hal
    have hp : Lib.hasPrefix (L.map UInt8.ofNat) xn = false := by
      cases hh : Lib.hasPrefix (L.map UInt8.ofNat) xn with
      | false => rfl
      | true =>
        refine absurd ?_ (good_xn hL)
        obtain ⟨t, ht⟩ := List.isPrefixOf_iff_prefix.1 hh
        rw [← e, ← ht]
        rfl
    rw [hp, if_neg (by decide), e]
  | false =>
    simp only [Bool.false_eq_true, if_false]
    have hp : Lib.hasPrefix (xn ++ encS L (ysOf L)) xn = true := by
      unfold Lib.hasPrefix
      exact List.isPrefixOf_iff_prefix.2 (List.prefix_append _ _)
    rw [hp, if_pos rfl]
    have ed : (xn ++ encS L (ysOf L)).drop 4 = encS L (ysOf L) := by simp [xn]
    rw [ed]
    unfold decM
    have hlen := good_len hL
    have hs := hL.size
    rw [size_list, formB_list, hal, if_neg (by decide), List.length_append] at hs
    rw [decodeS_enc (ysOf_ys L) hL.signs (by omega) ⟨(encS L (ysOf L)).toArray⟩ (by simp) (by rw [size_list]; simp; omega)]
    simp only
    rw [hal, if_neg (by decide)]
theorem okB_asc {l : List UInt8} (h : ∀ b ∈ l, okB b) : ascB l = true := by
  unfold ascB
  rw [List.all_eq_true]
  intro b hb
  have := h b hb
  unfold okB at this
  simp; omega
theorem okB_lower {l : List UInt8} (h : ∀ b ∈ l, okB b) : Lib.toLowerA l = l := by
  unfold Lib.toLowerA
  have : ∀ b ∈ l, Lib.lowerB b = id b := fun b hb => by
    have := h b hb
    unfold okB at this
    apply Lib.lowerB_of_not
    rw [Lib.isUpperB_int]
    simp; omega
  rw [List.map_congr_left this, List.map_id]
/-- As a form. -/
theorem label_form {L : List Nat} (hL : GoodL L) : labelM (formB L) = (0, L, formB L) := label_lower hL (okB_asc (form_okB hL)) (okB_lower (form_okB hL))
/-- In capitals. -/
def upB (b : UInt8) : UInt8 := if 97 ≤ b.toNat ∧ b.toNat ≤ 122 then UInt8.ofNat (b.toNat - 32) else b
def upA (a : ByteArray) : ByteArray := ⟨(a.data.toList.map upB).toArray⟩
theorem upB_lower {b : UInt8} (h : okB b) : Lib.lowerB (upB b) = b ∧ (upB b).toNat < 128 := by
  unfold okB at h
  unfold upB
  split
  · rename_i hb
    have e : (UInt8.ofNat (b.toNat - 32)).toNat = b.toNat - 32 := by simp; omega
    refine ⟨?_, by omega⟩
    unfold Lib.lowerB
    rw [if_pos (by rw [Lib.isUpperB_int, e]; simp; omega)]
    apply UInt8.toNat_inj.1
    rw [UInt8.toNat_add, e]
    have h4 : (32 : UInt8).toNat = 32 := rfl
    omega
  · rename_i hb
    refine ⟨Lib.lowerB_of_not _ ?_, by omega⟩
    rw [Lib.isUpperB_int]
    simp; omega
theorem label_upper {L : List Nat} (hL : GoodL L) : labelM (upA (formB L)) = (0, L, formB L) := by
  have h := form_okB hL
  refine label_lower hL ?_ ?_
  · show ascB ((formB L).data.toList.map upB).toArray.toList = true
    rw [List.toList_toArray]
    unfold ascB
    rw [List.all_map, List.all_eq_true]
    intro b hb
    simpa using (upB_lower (h b hb)).2
  · show Lib.toLowerA ((formB L).data.toList.map upB).toArray.toList = _
    rw [List.toList_toArray]
    unfold Lib.toLowerA
    rw [List.map_map]
    have : ∀ b ∈ (formB L).data.toList, (Lib.lowerB ∘ upB) b = id b := fun b hb => (upB_lower (h b hb)).1
    rw [List.map_congr_left this, List.map_id]
theorem labelV_of {s : ByteArray} {L : List Nat} {A : ByteArray} (h : labelM s = (0, L, A)) : labelV s = .tuple #[.string (textOf L), .string A, .int .i64 0] := by
  unfold labelV
  rw [h]
  rfl
end Go.Proofs.YtkaaldhejpaiiaaGreatDoor

