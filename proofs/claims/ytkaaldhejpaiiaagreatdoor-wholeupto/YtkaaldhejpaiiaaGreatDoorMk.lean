import Derived.Test.YtkaaldhejpaiiaaGreatDoorOj
import Derived.Test.YtkaaldhejpaiiaaGreatDoorZd
/- The document's split. -/
namespace Go.Proofs.YtkaaldhejpaiiaaGreatDoor
open Go.RowKit

/-- A text at its dots. -/
def splitL : List UInt8 → List (List UInt8)
  | [] => [[]]
  | c :: r => if c = 46 then [] :: splitL r else match splitL r with
    | [] => [[c]]
    | h :: t => (c :: h) :: t
theorem splitL_ne : ∀ l, splitL l ≠ []
  | [] => by simp [splitL]
  | c :: r => by
    unfold splitL
    split
    · simp
    · split <;> simp
theorem splitL_nodot : ∀ l, ∀ x ∈ splitL l, 46 ∉ x
  | [], x, hx => by simp [splitL] at hx; subst hx; simp
  | c :: r, x, hx => by
    have ih := splitL_nodot r
    have hne := splitL_ne r
    unfold splitL at hx
    split at hx
    · rcases List.mem_cons.1 hx with rfl | hx
      · simp
      · exact ih x hx
    · rename_i hc
      split at hx
      · rename_i h0
        exact absurd h0 hne
      · rename_i h t h0
        rw [h0] at ih
        rcases List.mem_cons.1 hx with rfl | hx
        · intro hm
          rcases List.mem_cons.1 hm with e | hm
          · exact hc e.symm
          · exact ih h (by simp) hm
        · exact ih x (by simp [hx])
theorem join_splitL : ∀ l, Lib.join (splitL l) [46] = l
  | [] => by simp [splitL, Lib.join, List.intercalate]
  | c :: r => by
    have ih := join_splitL r
    have hne := splitL_ne r
    unfold splitL
    split
    · rename_i hc
      obtain ⟨h, t, h0⟩ := List.exists_cons_of_ne_nil hne
      rw [h0, join_two, ← h0, ih, hc]
      rfl
    · split
      · rename_i h0
        exact absurd h0 hne
      · rename_i h t h0
        rw [h0] at ih
        cases t with
        | nil =>
          simp [Lib.join, List.intercalate] at ih ⊢
          exact ih
        | cons y u =>
          rw [join_two] at ih ⊢
          rw [List.cons_append, ih]
theorem splitL_snoc (c : UInt8) : ∀ (a : List UInt8) (O : List (List UInt8)) (p : List UInt8), splitL a = O ++ [p] → splitL (a ++ [c]) = if c = 46 then O ++ [p, []] else O ++ [p ++ [c]]
  | [], O, p, h => by
    have h1 : O = [] ∧ p = [] := by
      have h2 : [[]] = O ++ [p] := h
      cases O with
      | nil => simp at h2; exact ⟨rfl, h2⟩
      | cons x r => simp at h2
    obtain ⟨rfl, rfl⟩ := h1
    show splitL [c] = _
    unfold splitL
    split
    · rfl
    · rfl
  | b :: r, O, p, h => by
    have hne := splitL_ne r
    obtain ⟨O2, p2, h2⟩ : ∃ O2 p2, splitL r = O2 ++ [p2] := ⟨(splitL r).dropLast, (splitL r).getLast hne, (List.dropLast_concat_getLast hne).symm⟩
    have ih := splitL_snoc c r O2 p2 h2
    rw [List.cons_append]
    unfold splitL at h ⊢
    by_cases hb : b = 46
    · rw [if_pos hb] at h ⊢
      rw [h2] at h
      have h3 : O = [] :: O2 ∧ p = p2 := by
        have h4 : ([] :: O2) ++ [p2] = O ++ [p] := h
        have := List.append_inj' h4 rfl
        exact ⟨this.1.symm, by simpa using this.2.symm⟩
      obtain ⟨rfl, rfl⟩ := h3
      rw [ih]
      split <;> rfl
    · rw [if_neg hb] at h ⊢
      rw [h2] at h
      rw [ih]
      cases O2 with
      | nil =>
        have h3 : O = [] ∧ p = b :: p2 := by
          have h4 : [b :: p2] = O ++ [p] := h
          cases O with
          | nil => simp at h4; exact ⟨rfl, h4.symm⟩
          | cons x q => simp at h4
        obtain ⟨rfl, rfl⟩ := h3
        by_cases hc : c = 46
        · rw [if_pos hc, if_pos hc]; rfl
        · rw [if_neg hc, if_neg hc]; rfl
      | cons x q =>
        have h3 : O = (b :: x) :: q ∧ p = p2 := by
          have h4 : ((b :: x) :: q) ++ [p2] = O ++ [p] := h
          have := List.append_inj' h4 rfl
          exact ⟨this.1.symm, by simpa using this.2.symm⟩
        obtain ⟨rfl, rfl⟩ := h3
        by_cases hc : c = 46
        · rw [if_pos hc, if_pos hc]; rfl
        · rw [if_neg hc, if_neg hc]; rfl
theorem parts_list (s : ByteArray) : (partsM s).map (·.data.toList) = splitL (bodyM s).data.toList := by
  unfold partsM
  rw [Lib.splitB_data]
  have h := split_join (splitL (bodyM s).data.toList) (splitL_ne _) (splitL_nodot _)
  rw [join_splitL] at h
  exact h
/-- What the document's split makes, out of the last part and those ahead of it. -/
theorem split_end {s : ByteArray} {O : List ByteArray} {p : List UInt8} (h : splitL s.data.toList = O.map (·.data.toList) ++ [p]) :
    (p = [] ∧ O ≠ [] → partsM s = O ∧ endedM s = true) ∧ (¬ (p = [] ∧ O ≠ []) → partsM s = O ++ [⟨p.toArray⟩] ∧ endedM s = false) := by
  have hen : endedM s = decide (s.data.toList.getLast? = some 46) := suffix_last _
  have key : ∀ (a : List UInt8) (c : UInt8), s.data.toList = a ++ [c] → (c = 46 ↔ p = [] ∧ O ≠ []) ∧ (c = 46 → splitL a = O.map (·.data.toList)) := fun a c e => by
    have hne := splitL_ne a
    obtain ⟨O2, p2, h2⟩ : ∃ O2 p2, splitL a = O2 ++ [p2] := ⟨(splitL a).dropLast, (splitL a).getLast hne, (List.dropLast_concat_getLast hne).symm⟩
    have h3 := splitL_snoc c a O2 p2 h2
    rw [← e, h] at h3
    by_cases hc : c = 46
    · rw [if_pos hc] at h3
      have h4 : O.map (·.data.toList) ++ [p] = (O2 ++ [p2]) ++ [[]] := by rw [h3]; simp
      have h5 := List.append_inj' h4 rfl
      have hO : O ≠ [] := fun e0 => by
        have := h5.1
        rw [e0] at this
        simp at this
      exact ⟨⟨fun _ => ⟨by simpa using h5.2, hO⟩, fun _ => hc⟩, fun _ => by rw [h2, h5.1]⟩
    · rw [if_neg hc] at h3
      have h5 := List.append_inj' h3 rfl
      have hp : p ≠ [] := by
        have : p = p2 ++ [c] := by simpa using h5.2
        rw [this]; simp
      exact ⟨⟨fun e0 => absurd e0 hc, fun e0 => absurd e0.1 hp⟩, fun e0 => absurd e0 hc⟩
  rcases List.eq_nil_or_concat s.data.toList with h0 | ⟨a, c, e⟩
  · have hO : O = [] ∧ p = [] := by
      rw [h0] at h
      have h2 : [[]] = O.map (·.data.toList) ++ [p] := h
      cases O with
      | nil => simp at h2; exact ⟨rfl, h2⟩
      | cons x r => simp at h2
    obtain ⟨rfl, rfl⟩ := hO
    refine ⟨fun h1 => absurd rfl h1.2, fun _ => ⟨?_, by rw [hen, h0]; rfl⟩⟩
    apply of_lists
    rw [parts_list]
    have hb : (bodyM s).data.toList = [] := by
      unfold bodyM
      rw [h0]
      rfl
    rw [hb]
    rfl
  · rw [List.concat_eq_append] at e
    obtain ⟨k1, k2⟩ := key a c e
    have hl : s.data.toList.getLast? = some c := by rw [e]; simp
    refine ⟨fun h1 => ?_, fun h1 => ?_⟩
    · have hc := k1.2 h1
      have he : endedM s = true := by rw [hen, hl, hc]; rfl
      refine ⟨?_, he⟩
      apply of_lists
      rw [parts_list, ← k2 hc]
      congr 1
      unfold bodyM Lib.trimSuffix
      have : Lib.hasSuffix s.data.toList [46] = true := he
      rw [this, if_pos rfl, e]
      simp
    · have hc : c ≠ 46 := fun hc => h1 (k1.1 hc)
      have he : endedM s = false := by rw [hen, hl]; exact decide_eq_false (fun h2 => hc (Option.some.inj h2))
      refine ⟨?_, he⟩
      apply of_lists
      rw [parts_list]
      have hb : (bodyM s).data.toList = s.data.toList := by
        unfold bodyM Lib.trimSuffix
        have : Lib.hasSuffix s.data.toList [46] = false := he
        rw [this, if_neg (by decide)]
      rw [hb, h]
      simp
theorem ext_list (s : ByteArray) (a b : Nat) : (s.extract a b).data.toList = (s.data.toList.take b).drop a := by
  rw [ByteArray.data_extract, Array.toList_extract, List.extract_eq_take_drop, List.drop_take]
theorem take_drop_snoc (s : ByteArray) (b i : Nat) (hb : b ≤ i) (hi : i < s.size) : (s.data.toList.take (i + 1)).drop b = (s.data.toList.take i).drop b ++ [s[i]] := by
  rw [take_snoc s i hi, List.drop_append_of_le_length]
  rw [List.length_take, ← size_list]
  omega
end Go.Proofs.YtkaaldhejpaiiaaGreatDoor

