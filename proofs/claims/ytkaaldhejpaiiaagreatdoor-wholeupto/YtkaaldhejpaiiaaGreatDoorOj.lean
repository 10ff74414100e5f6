import Derived.Test.YtkaaldhejpaiiaaGreatDoorOk
/- Names of labels with dots between: how they are cut. No walk in this text. -/
namespace Go.Proofs.YtkaaldhejpaiiaaGreatDoor
open Go.RowKit

theorem index_none : ∀ x : List UInt8, 46 ∉ x → Lib.index x [46] = -1
  | [], _ => by simp [Lib.index]
  | b :: l, h => by
    have hb : (46 : UInt8) ≠ b := fun e => h (by simp [e])
    have hp : ([46] : List UInt8).isPrefixOf (b :: l) = false := by simp [List.isPrefixOf, hb]
    rw [Lib.index, hp, index_none l (fun hm => h (by simp [hm]))]
    simp
theorem index_dot (r : List UInt8) : ∀ x : List UInt8, 46 ∉ x → Lib.index (x ++ 46 :: r) [46] = (x.length : Int)
  | [], _ => by simp [Lib.index, List.isPrefixOf]
  | b :: l, h => by
    have hb : (46 : UInt8) ≠ b := fun e => h (by simp [e])
    have hp : ([46] : List UInt8).isPrefixOf (b :: (l ++ 46 :: r)) = false := by simp [List.isPrefixOf, hb]
    have ih := index_dot r l (fun hm => h (by simp [hm]))
    rw [List.cons_append, Lib.index, hp, ih]
    simp
theorem join_two (x y : List UInt8) (r : List (List UInt8)) : Lib.join (x :: y :: r) [46] = x ++ 46 :: Lib.join (y :: r) [46] := by
  unfold Lib.join
  rw [List.intercalate_cons_cons]
  simp
theorem split_join : ∀ xs : List (List UInt8), xs ≠ [] → (∀ x ∈ xs, 46 ∉ x) → Lib.splitK [46] 0 (Lib.count (Lib.join xs [46]) [46]) (Lib.join xs [46]) = xs
  | [], h, _ => absurd rfl h
  | [x], _, h => by
    have e : Lib.join [x] [46] = x := by simp [Lib.join, List.intercalate]
    rw [e, Lib.count_miss (index_none x (h x (by simp)))]
    rfl
  | x :: y :: r, _, h => by
    have ih := split_join (y :: r) (by simp) fun z hz => h z (by simp only [List.mem_cons] at hz ⊢; exact Or.inr hz)
    have hi := index_dot (Lib.join (y :: r) [46]) x (h x (by simp))
    have ed : (x ++ 46 :: Lib.join (y :: r) [46]).drop (x.length + ([46] : List UInt8).length) = Lib.join (y :: r) [46] := by
      rw [List.drop_append, List.drop_eq_nil_of_le (by simp)]
      simp
    rw [join_two, Lib.count_hit (by simp) hi, ed, Nat.add_comm 1]
    unfold Lib.splitK
    rw [hi, if_neg (by simp), Int.toNat_natCast, ed, ih]
    simp
theorem join_last : ∀ xs : List (List UInt8), xs ≠ [] → (∀ x ∈ xs, x ≠ [] ∧ 46 ∉ x) → Lib.join xs [46] ≠ [] ∧ (Lib.join xs [46]).getLast? ≠ some 46
  | [], h, _ => absurd rfl h
  | [x], _, h => by
    have e : Lib.join [x] [46] = x := by simp [Lib.join, List.intercalate]
    obtain ⟨h1, h2⟩ := h x (by simp)
    rw [e]
    exact ⟨h1, fun hm => h2 (List.mem_of_getLast? hm)⟩
  | x :: y :: r, _, h => by
    obtain ⟨i1, i2⟩ := join_last (y :: r) (by simp) fun z hz => h z (by simp only [List.mem_cons] at hz ⊢; exact Or.inr hz)
    rw [join_two]
    refine ⟨by simp, ?_⟩
    rw [List.getLast?_append, List.getLast?_cons]
    obtain ⟨z, hz⟩ : ∃ z, (Lib.join (y :: r) [46]).getLast? = some z := ⟨_, List.getLast?_eq_some_getLast i1⟩
    rw [hz] at i2 ⊢
    simpa using i2
theorem suffix_last (l : List UInt8) : Lib.hasSuffix l [46] = decide (l.getLast? = some 46) := by
  unfold Lib.hasSuffix
  rw [Bool.eq_iff_iff, List.isSuffixOf_iff_suffix, decide_eq_true_eq]
  constructor
  · rintro ⟨t, rfl⟩
    simp
  · intro h
    obtain ⟨ys, hys⟩ := List.getLast?_eq_some_iff.1 h
    exact ⟨ys, hys.symm⟩
def eB (dot : Bool) : ByteArray := if dot = true then { data := #[46] } else { data := #[] }
theorem dotted_list (xs : List ByteArray) : (dotted xs).data.toList = Lib.join (xs.map (·.data.toList)) [46] := by simp [dotted]
theorem app_list (a b : ByteArray) : (a ++ b).data.toList = a.data.toList ++ b.data.toList := by rw [ByteArray.data_append]; simp
theorem of_lists {ps : List ByteArray} {xs : List ByteArray} (h : ps.map (·.data.toList) = xs.map (·.data.toList)) : ps = xs := by
  exact (List.map_inj_right (fun a b e => bytes_ext e)).1 h
/-- A name of labels that have no dot, and of a dot at the end, or none. -/
theorem parts_dotted (xs : List ByteArray) (hne : xs ≠ []) (h : ∀ x ∈ xs, x.data.toList ≠ [] ∧ 46 ∉ x.data.toList) (dot : Bool) :
    partsM (dotted xs ++ eB dot) = xs ∧ endB (dotted xs ++ eB dot) = eB dot := by
  have hm : ∀ l ∈ xs.map (·.data.toList), l ≠ [] ∧ 46 ∉ l := fun l hl => by
    obtain ⟨x, hx, rfl⟩ := List.mem_map.1 hl
    exact h x hx
  have hne2 : xs.map (·.data.toList) ≠ [] := by simpa using hne
  obtain ⟨j1, j2⟩ := join_last _ hne2 hm
  have hen : endedM (dotted xs ++ eB dot) = dot := by
    unfold endedM
    rw [suffix_last, app_list, dotted_list]
    cases dot with
    | true => simp [eB]
    | false => simpa [eB] using j2
  have hbo : bodyM (dotted xs ++ eB dot) = dotted xs := by
    apply bytes_ext
    unfold bodyM
    rw [List.toList_toArray]
    unfold Lib.trimSuffix
    have : Lib.hasSuffix (dotted xs ++ eB dot).data.toList [46] = dot := hen
    rw [this, app_list]
    cases dot with
    | true => simp [eB]
    | false => simp [eB]
  refine ⟨?_, by unfold endB; rw [hen]; rfl⟩
  apply of_lists
  unfold partsM
  rw [Lib.splitB_data, hbo]
  show Lib.splitK [46] 0 (Lib.count (dotted xs).data.toList [46]) (dotted xs).data.toList = _
  rw [dotted_list]
  exact split_join _ hne2 fun x hx => (hm x hx).2
theorem nameV_dotted (xs : List ByteArray) (hne : xs ≠ []) (h : ∀ x ∈ xs, x.data.toList ≠ [] ∧ 46 ∉ x.data.toList) (dot : Bool) :
    nameV (dotted xs ++ eB dot) = if (goodM xs).2 = 0 then .tuple #[.string (dotted ((signsOf xs).map textOf) ++ eB dot), .string (dotted (formsOf xs) ++ eB dot), .int .i64 0, .int .i64 0]
      else .tuple #[.string { data := #[] }, .string { data := #[] }, .int .i64 (goodM xs).1, .int .i64 ((goodM xs).2 : Nat)] := by
  obtain ⟨h1, h2⟩ := parts_dotted xs hne h dot
  unfold nameV nameTextM nameFormM
  rw [h1, h2]
theorem enc_high (n : Nat) (h : ¬ n < 128) (b : UInt8) (hb : b ∈ (Utf8.encode (n : Int)).data.toList) : 128 ≤ b.toNat := by
  unfold Utf8.encode at hb
  have hc : ¬ (if Utf8.valid (n : Int) = true then ((n : Int)).toNat else Utf8.runeError) < 0x80 := by
    split
    · rw [Int.toNat_natCast]; omega
    · decide
  simp only at hb
  rw [if_neg hc] at hb
  have hle : (if Utf8.valid (n : Int) = true then ((n : Int)).toNat else Utf8.runeError) ≤ 1114111 := by
    split
    · rename_i hv
      unfold Utf8.valid at hv
      simp at hv
      omega
    · decide
  generalize (if Utf8.valid (n : Int) = true then ((n : Int)).toNat else Utf8.runeError) = m at hb hc hle
  split at hb
  · simp at hb
    rcases hb with rfl | rfl <;> simp <;> omega
  · split at hb
    · simp at hb
      rcases hb with rfl | rfl | rfl <;> simp <;> omega
    · simp at hb
      rcases hb with rfl | rfl | rfl | rfl <;> simp <;> omega
/-- Signs that are no dot, as a label's text; a form. -/
theorem nodot_text {L : List Nat} (h : ∀ n ∈ L, rC (pk (n : Int)) ≠ 0) (hne : L ≠ []) : (textOf L).data.toList ≠ [] ∧ 46 ∉ (textOf L).data.toList := by
  have hs : signsL L := fun n hn => kind_sign (h n hn)
  refine ⟨fun e => ?_, fun hm => ?_⟩
  · have h1 := runes_len (textOf L)
    have h2 : runes (textOf L) = L := (runes_bytes hs).1
    rw [h2, size_list, e] at h1
    have := List.length_pos_iff.2 hne
    simp at h1
    exact hne h1
  · rw [text_list] at hm
    have : ∀ l : List Nat, (∀ n ∈ l, rC (pk (n : Int)) ≠ 0) → 46 ∉ bytesOf l := by
      intro l
      induction l with
      | nil => intro _ h; simp [bytesOf] at h
      | cons n l ih =>
        intro hl hm
        unfold bytesOf at hm
        rcases List.mem_append.1 hm with hm | hm
        · have hk := hl n (by simp)
          by_cases hlow : n < 128
          · rw [encode_asc hlow] at hm
            have h46 : UInt8.ofNat n = 46 := by simpa using (show (46 : UInt8) = UInt8.ofNat n by simpa using hm).symm
            have ho := kind_okB hlow hk
            rw [h46] at ho
            unfold okB at ho
            revert ho
            decide
          · have ha := enc_high n hlow 46 hm
            simp at ha
        · exact ih (fun m hm => hl m (by simp [hm])) hm
    exact this L h hm
theorem nodot_form {L : List Nat} (hL : GoodL L) : (formB L).data.toList ≠ [] ∧ 46 ∉ (formB L).data.toList := by
  refine ⟨fun e => ?_, fun hm => ?_⟩
  · have := form_pos hL
    rw [size_list, e] at this
    simp at this
  · have ho := form_okB hL 46 hm
    unfold okB at ho
    revert ho
    decide
end Go.Proofs.YtkaaldhejpaiiaaGreatDoor

