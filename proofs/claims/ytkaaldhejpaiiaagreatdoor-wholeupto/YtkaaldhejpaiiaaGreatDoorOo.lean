import Derived.Test.YtkaaldhejpaiiaaGreatDoorOl
/- Joined's names. No walk in this text. -/
namespace Go.Proofs.YtkaaldhejpaiiaaGreatDoor
open Go.RowKit

def rowsL (rs : List (List Int)) : List (List Nat) := (rs.take 4).map lettersM
theorem rowsL_len (rs : List (List Int)) : (rowsL rs).length = min 4 rs.length := by unfold rowsL; simp
theorem rowsL_at (rs : List (List Int)) (k : Nat) (h : k < (rowsL rs).length) (h2 : k < rs.length) : (rowsL rs)[k] = lettersM rs[k] := by
  simp [rowsL]
theorem rowsL_mem (rs : List (List Int)) : ∀ L ∈ rowsL rs, ∃ zs, L = lettersM zs := fun L hL => by
  obtain ⟨zs, _, rfl⟩ := List.mem_map.1 hL
  exact ⟨zs, rfl⟩
theorem first_none : ∀ Ls : List (List Nat), (∀ L ∈ Ls, sidedM L = true) → firstS (fun L => !sidedM L) Ls = -1
  | [], _ => rfl
  | L :: r, h => by
    rw [firstS, h L (by simp), first_none r fun M hM => h M (by simp [hM])]
    rfl
theorem together_letters (rs : List (List Int)) : togetherS (rowsL rs) ((rowsL rs).map formB) = (0, 0) := by
  have h1 : firstS (fun L => !sidedM L) (rowsL rs) = -1 := first_none _ fun L hL => by
    obtain ⟨zs, rfl⟩ := rowsL_mem rs L hL
    exact (letters_sided zs).1
  have h2 := dotted_len 50 ((rowsL rs).map formB) fun x hx => by
    obtain ⟨L, hL, rfl⟩ := List.mem_map.1 hx
    obtain ⟨zs, rfl⟩ := rowsL_mem rs L hL
    exact letters_form zs
  rw [List.length_map, rowsL_len] at h2
  have h3 : min 4 rs.length * 51 ≤ 4 * 51 := Nat.mul_le_mul_right _ (Nat.min_le_left _ _)
  unfold togetherS
  rw [h1, if_neg (by omega), if_neg (by omega)]
theorem joined1 (rs : List (List Int)) (hne : rowsL rs ≠ []) (dot : Bool) : nameV (dotted ((rowsL rs).map textOf) ++ eB dot) =
    .tuple #[.string (dotted ((rowsL rs).map textOf) ++ eB dot), .string (dotted ((rowsL rs).map formB) ++ eB dot), .int .i64 0, .int .i64 0] := by
  have hL : ∀ L ∈ rowsL rs, GoodL L := fun L h => by obtain ⟨zs, rfl⟩ := rowsL_mem rs L h; exact letters_good zs
  rw [name_good (rowsL rs) hne textOf (fun L h => label_text (hL L h)) (fun L h => nodot_text (hL L h).kinds (hL L h).ne) dot, together_letters]
  rfl
theorem joined2 (rs : List (List Int)) (hne : rowsL rs ≠ []) (dot : Bool) : nameV (dotted ((rowsL rs).map formB) ++ eB dot) =
    .tuple #[.string (dotted ((rowsL rs).map textOf) ++ eB dot), .string (dotted ((rowsL rs).map formB) ++ eB dot), .int .i64 0, .int .i64 0] := by
  have hL : ∀ L ∈ rowsL rs, GoodL L := fun L h => by obtain ⟨zs, rfl⟩ := rowsL_mem rs L h; exact letters_good zs
  rw [name_good (rowsL rs) hne formB (fun L h => label_form (hL L h)) (fun L h => nodot_form (hL L h)) dot, together_letters]
  rfl
def dashB : ByteArray := { data := #[45] }
theorem label_dash : (labelM dashB).1 = 5 := by decide +kernel
def brokenL (rs : List (List Int)) (p : Nat) : List ByteArray := ((rowsL rs).map textOf).insertIdx p dashB
theorem broken_len (rs : List (List Int)) (p : Nat) (hp : p ≤ (rowsL rs).length) : (brokenL rs p).length = (rowsL rs).length + 1 := by
  unfold brokenL
  rw [List.length_insertIdx_of_le_length (by simpa using hp), List.length_map]
theorem broken_at (rs : List (List Int)) (p j : Nat) (hj : j < (brokenL rs p).length) (hp : p ≤ (rowsL rs).length) :
    (brokenL rs p)[j] = if j = p then dashB else textOf ((rowsL rs).getD (j - (if p < j then 1 else 0)) []) := by
  have hl := broken_len rs p hp
  have hj' : j < (((rowsL rs).map textOf).insertIdx p dashB).length := hj
  have e : (brokenL rs p)[j] = (((rowsL rs).map textOf).insertIdx p dashB)[j]'hj' := rfl
  refine e.trans ?_
  rw [List.getElem_insertIdx]
  by_cases h1 : j < p
  · rw [dif_pos h1, if_neg (by omega), if_neg (by omega), List.getElem_map, List.getD_eq_getElem?_getD, List.getElem?_eq_getElem (by omega)]
    rfl
  · rw [dif_neg h1]
    by_cases h2 : j = p
    · rw [dif_pos h2, if_pos h2]
    · rw [dif_neg h2, if_neg h2, if_pos (by omega), List.getElem_map, List.getD_eq_getElem?_getD, List.getElem?_eq_getElem (by omega)]
      rfl
theorem joined3 (rs : List (List Int)) (p : Nat) (hp : p ≤ (rowsL rs).length) (dot : Bool) : nameV (dotted (brokenL rs p) ++ eB dot) =
    .tuple #[.string { data := #[] }, .string { data := #[] }, .int .i64 (p : Int), .int .i64 5] := by
  have hL : ∀ L ∈ rowsL rs, GoodL L := fun L h => by obtain ⟨zs, rfl⟩ := rowsL_mem rs L h; exact letters_good zs
  have hl := broken_len rs p hp
  have hmem : ∀ x ∈ brokenL rs p, x = dashB ∨ ∃ L ∈ rowsL rs, x = textOf L := fun x hx => by
    rcases (List.mem_insertIdx (by simpa using hp)).1 hx with h | h
    · exact Or.inl h
    · obtain ⟨L, hL, rfl⟩ := List.mem_map.1 h
      exact Or.inr ⟨L, hL, rfl⟩
  have hd : ∀ x ∈ brokenL rs p, x.data.toList ≠ [] ∧ 46 ∉ x.data.toList := fun x hx => by
    rcases hmem x hx with rfl | ⟨L, h, rfl⟩
    · exact ⟨by decide, by decide⟩
    · exact nodot_text (hL L h).kinds (hL L h).ne
  have hb : badM (brokenL rs p) 0 = some (0 + p, (labelM (brokenL rs p)[p]).1) := by
    refine badM_hit _ p 0 (by omega) (fun j hj hjp => ?_) ?_
    · rw [broken_at rs p j hj hp, if_neg (by omega), if_neg (by omega), List.getD_eq_getElem?_getD, List.getElem?_eq_getElem (by omega)]
      show (labelM (textOf (rowsL rs)[j])).1 = 0
      rw [label_text (hL _ (List.getElem_mem _))]
    · rw [broken_at rs p p (by omega) hp, if_pos rfl, label_dash]; decide
  rw [broken_at rs p p (by omega) hp, if_pos rfl, label_dash, Nat.zero_add] at hb
  have hg : goodM (brokenL rs p) = ((p : Int), 5) := by
    unfold goodM
    rw [hb]
  rw [nameV_dotted _ (fun e => by rw [e] at hl; simp at hl) hd dot, hg]
  rfl
theorem name_empty : nameV { data := #[] } = .tuple #[.string { data := #[] }, .string { data := #[] }, .int .i64 0, .int .i64 2] := by kernel_rfl

/-- Names that grow label by label. -/
def dotK (xs : List ByteArray) (k : Nat) : ByteArray := dotted (xs.take k)
theorem dotK_zero (xs : List ByteArray) : dotK xs 0 = { data := #[] } := rfl
theorem dotK_one (xs : List ByteArray) (h : 0 < xs.length) : dotK xs 1 = xs[0] := by
  unfold dotK
  cases xs with
  | nil => simp at h
  | cons x r => exact dotted_one x
theorem dotK_succ (xs : List ByteArray) (k : Nat) (h1 : 1 ≤ k) (h : k < xs.length) : dotK xs (k + 1) = dotK xs k ++ ⟨#[46]⟩ ++ xs[k] := by
  unfold dotK
  rw [List.take_succ_eq_append_getElem h]
  refine dotted_snoc _ _ (fun e => ?_)
  have h2 := congrArg List.length e
  rw [List.length_take, List.length_nil, Nat.min_eq_left (by omega)] at h2
  omega
theorem dotK_all (xs : List ByteArray) (k : Nat) (h : xs.length ≤ k) : dotK xs k = dotted xs := by
  unfold dotK
  rw [List.take_of_length_le h]
theorem dotK_size (xs : List ByteArray) (k : Nat) (hk : k ≤ 5) (h : ∀ x ∈ xs, x.size ≤ 63) : (dotK xs k).size ≤ 320 := by
  have h1 := dotted_len 63 (xs.take k) fun x hx => h x (List.mem_of_mem_take hx)
  rw [List.length_take] at h1
  have h2 : min k xs.length * 64 ≤ 5 * 64 := Nat.mul_le_mul_right _ (Nat.le_trans (Nat.min_le_left _ _) hk)
  unfold dotK
  omega
end Go.Proofs.YtkaaldhejpaiiaaGreatDoor

