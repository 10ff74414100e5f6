import Derived.Test.YtkaaldhejpaiiaaGreatDoorOj
/- Names of good labels; Sided's labels. No walk in this text. -/
namespace Go.Proofs.YtkaaldhejpaiiaaGreatDoor
open Go.RowKit

theorem goodM_good (Ls : List (List Nat)) (g : List Nat → ByteArray) (hg : ∀ L ∈ Ls, labelM (g L) = (0, L, formB L)) :
    goodM (Ls.map g) = togetherS Ls (Ls.map formB) ∧ signsOf (Ls.map g) = Ls ∧ formsOf (Ls.map g) = Ls.map formB := by
  have h1 : signsOf (Ls.map g) = Ls := by
    unfold signsOf
    rw [List.map_map]
    have : ∀ L ∈ Ls, ((fun p => (labelM p).2.1) ∘ g) L = id L := fun L hL => by show (labelM (g L)).2.1 = L; rw [hg L hL]
    rw [List.map_congr_left this, List.map_id]
  have h2 : formsOf (Ls.map g) = Ls.map formB := by
    unfold formsOf
    rw [List.map_map]
    exact List.map_congr_left fun L hL => by show (labelM (g L)).2.2 = formB L; rw [hg L hL]
  have h3 : badM (Ls.map g) 0 = none := badM_none _ _ fun j hj => by
    rw [List.length_map] at hj
    rw [List.getElem_map, hg _ (List.getElem_mem hj)]
  refine ⟨?_, h1, h2⟩
  unfold goodM
  rw [h3, h1, h2]
theorem name_good (Ls : List (List Nat)) (hne : Ls ≠ []) (g : List Nat → ByteArray) (hg : ∀ L ∈ Ls, labelM (g L) = (0, L, formB L)) (hd : ∀ L ∈ Ls, (g L).data.toList ≠ [] ∧ 46 ∉ (g L).data.toList) (dot : Bool) :
    nameV (dotted (Ls.map g) ++ eB dot) = if (togetherS Ls (Ls.map formB)).2 = 0 then .tuple #[.string (dotted (Ls.map textOf) ++ eB dot), .string (dotted (Ls.map formB) ++ eB dot), .int .i64 0, .int .i64 0]
      else .tuple #[.string { data := #[] }, .string { data := #[] }, .int .i64 (togetherS Ls (Ls.map formB)).1, .int .i64 ((togetherS Ls (Ls.map formB)).2 : Nat)] := by
  obtain ⟨h1, h2, h3⟩ := goodM_good Ls g hg
  rw [nameV_dotted (Ls.map g) (by simpa using hne) (fun x hx => by obtain ⟨L, hL, rfl⟩ := List.mem_map.1 hx; exact hd L hL) dot, h1, h2, h3]
theorem dotted_one (a : ByteArray) : dotted [a] = a := by
  apply bytes_ext
  rw [dotted_list]
  simp [Lib.join, List.intercalate]
theorem dotted_snoc (b : ByteArray) : ∀ xs : List ByteArray, xs ≠ [] → dotted (xs ++ [b]) = dotted xs ++ ⟨#[46]⟩ ++ b
  | [], h => absurd rfl h
  | [a], _ => by
    rw [dotted_one]
    apply bytes_ext
    rw [dotted_list, app_list, app_list]
    show Lib.join [a.data.toList, b.data.toList] [46] = _
    rw [join_two]
    simp [Lib.join, List.intercalate]
  | a :: c :: r, _ => by
    have ih : (dotted (c :: r ++ [b])).data.toList = (dotted (c :: r) ++ ⟨#[46]⟩ ++ b).data.toList := congrArg (fun x => x.data.toList) (dotted_snoc b (c :: r) (by simp))
    rw [dotted_list, app_list, app_list, dotted_list] at ih
    apply bytes_ext
    rw [dotted_list, app_list, app_list, dotted_list]
    rw [List.cons_append, List.cons_append, List.map_cons, List.map_cons, List.map_cons, List.map_cons, join_two, join_two]
    rw [List.cons_append, List.map_cons, List.map_cons] at ih
    rw [ih]
    simp
theorem dotted_two (a b : ByteArray) : dotted [a, b] = a ++ ⟨#[46]⟩ ++ b := by
  have := dotted_snoc b [a] (by simp)
  rwa [dotted_one] at this
theorem eB_false (a : ByteArray) : a ++ eB false = a := by
  apply bytes_ext
  rw [app_list]
  simp [eB]
theorem dotted_forms : ∀ Ls : List (List Nat), (∀ L ∈ Ls, (formB L).size ≤ 63) → (dotted (Ls.map formB)).size ≤ Ls.length * 64 := by
  intro Ls h
  have := dotted_len 63 (Ls.map formB) (fun x hx => by obtain ⟨L, hL, rfl⟩ := List.mem_map.1 hx; exact h L hL)
  rwa [List.length_map] at this
theorem name_two (A B : List Nat) (hA : GoodL A) (hB : GoodL B) : nameV (textOf A ++ ⟨#[46]⟩ ++ textOf B) =
    if (!sidedM A || !sidedM B) = true ∧ (asksM A || asksM B) = true then .tuple #[.string { data := #[] }, .string { data := #[] }, .int .i64 (if sidedM A = true then 1 else 0), .int .i64 10]
    else .tuple #[.string (textOf A ++ ⟨#[46]⟩ ++ textOf B), .string (formB A ++ ⟨#[46]⟩ ++ formB B), .int .i64 0, .int .i64 0] := by
  have hL : ∀ L ∈ [A, B], GoodL L := fun L h => by
    simp only [List.mem_cons, List.not_mem_nil, or_false] at h
    rcases h with rfl | rfl
    · exact hA
    · exact hB
  have h := name_good [A, B] (by simp) textOf (fun L h => label_text (hL L h)) (fun L h => nodot_text (hL L h).kinds (hL L h).ne) false
  have hz := dotted_forms [A, B] fun L h => (hL L h).size
  simp only [List.map_cons, List.map_nil] at h hz
  simp only [eB_false] at h
  have e : togetherS [A, B] [formB A, formB B] = if (!sidedM A || !sidedM B) = true ∧ (asksM A || asksM B) = true then (if sidedM A = true then 1 else 0, 10) else (0, 0) := by
    unfold togetherS
    simp only [List.length_cons, List.length_nil] at hz
    have hsz : (253 < (dotted [formB A, formB B]).size) = False := by simp only [eq_iff_iff, iff_false]; omega
    simp only [hsz, if_false]
    cases ha : sidedM A <;> cases hb : sidedM B <;> cases hc : asksM A <;> cases hd : asksM B <;> simp [firstS, ha, hb, hc, hd]
  rw [dotted_two, dotted_two] at h
  rw [h, e]
  by_cases hb : (!sidedM A || !sidedM B) = true ∧ (asksM A || asksM B) = true
  · rw [if_pos hb, if_pos hb]
    rfl
  · rw [if_neg hb, if_neg hb, if_pos rfl]
theorem name_one (A : List Nat) (hA : GoodL A) : nameV (textOf A) =
    if (!sidedM A) = true ∧ asksM A = true then .tuple #[.string { data := #[] }, .string { data := #[] }, .int .i64 0, .int .i64 10]
    else .tuple #[.string (textOf A), .string (formB A), .int .i64 0, .int .i64 0] := by
  have hL : ∀ L ∈ [A], GoodL L := fun L h => by
    rw [List.mem_singleton.1 h]
    exact hA
  have h := name_good [A] (by simp) textOf (fun L h => label_text (hL L h)) (fun L h => nodot_text (hL L h).kinds (hL L h).ne) false
  have hz := hA.size
  simp only [List.map_cons, List.map_nil] at h
  simp only [eB_false] at h
  rw [dotted_one, dotted_one] at h
  rw [h]
  unfold togetherS
  rw [dotted_one]
  cases ha : sidedM A <;> cases hc : asksM A <;> simp [firstS, ha, hc, show ¬ 253 < (formB A).size by omega]

/-- Sides, sign by sign. -/
theorem hasSide_iff (L : List Nat) (ks : List Int) : hasSideM L ks = L.any fun n => ks.any fun y => rS (pk (n : Int)) == y := by
  unfold hasSideM
  rw [Bool.eq_iff_iff, List.any_eq_true, List.any_eq_true]
  constructor
  · rintro ⟨i, hi, h⟩
    have hl := List.mem_range.1 hi
    rw [pkAt_nat L i hl] at h
    exact ⟨L[i], List.getElem_mem hl, h⟩
  · rintro ⟨n, hn, h⟩
    obtain ⟨i, hi⟩ := List.getElem?_of_mem hn
    obtain ⟨hl, rfl⟩ := List.getElem?_eq_some_iff.1 hi
    exact ⟨i, List.mem_range.2 hl, by rw [pkAt_nat L i hl]; exact h⟩
theorem only_iff (L : List Nat) (ks : List Int) : onlyM L ks = L.all fun n => ks.any fun y => rS (pk (n : Int)) == y := by
  unfold onlyM
  rw [Bool.eq_iff_iff, Bool.not_eq_true', List.any_eq_false, List.all_eq_true]
  constructor
  · intro h n hn
    obtain ⟨i, hi⟩ := List.getElem?_of_mem hn
    obtain ⟨hl, rfl⟩ := List.getElem?_eq_some_iff.1 hi
    have := h i (List.mem_range.2 hl)
    rw [pkAt_nat L i hl] at this
    simpa using this
  · intro h i hi
    have hl := List.mem_range.1 hi
    rw [pkAt_nat L i hl]
    have := h L[i] (List.getElem_mem hl)
    simpa using this
theorem pkAt_zero (n : Nat) (L : List Nat) : pkAt (n :: L) 0 = pk (n : Int) := by
  have := pkAt_nat (n :: L) 0 (by simp)
  exact this
theorem ends_last {L : List Nat} (hne : L ≠ []) (h : ∀ n ∈ L, rS (pk (n : Int)) ≠ 7) (ks : List Int) : endsM L ks = ks.any fun y => rS (pk ((L.getLast hne : Nat) : Int)) == y := by
  obtain ⟨k, hk⟩ : ∃ k, L.length = k + 1 := ⟨L.length - 1, by have := List.length_pos_iff.2 hne; omega⟩
  have e : rS (pkAt L (k : Int)) = rS (pk ((L.getLast hne : Nat) : Int)) := by
    rw [pkAt_nat L k (by omega), List.getLast_eq_getElem]
    simp only [hk, Nat.add_sub_cancel]
  unfold endsM
  rw [hk, endN, if_neg (by rw [e]; exact h _ (List.getLast_mem hne)), e]
theorem sided_left (n : Nat) (L : List Nat) (h0 : rS (pk (n : Int)) = 1) (h : ∀ m ∈ n :: L, rS (pk (m : Int)) = 1 ∨ rS (pk (m : Int)) = 4) : sidedM (n :: L) = true := by
  unfold sidedM
  rw [pkAt_zero, h0, if_pos (by decide), only_iff, ends_last (by simp) (fun m hm => by rcases h m hm with e | e <;> rw [e] <;> decide), Bool.and_eq_true, List.all_eq_true]
  refine ⟨fun m hm => ?_, ?_⟩
  · rcases h m hm with e | e <;> rw [e] <;> decide
  · rcases h _ (List.getLast_mem (l := n :: L) (by simp)) with e | e <;> rw [e] <;> decide
theorem asks_left {L : List Nat} (h : ∀ m ∈ L, rS (pk (m : Int)) = 1 ∨ rS (pk (m : Int)) = 4) : asksM L = false := by
  unfold asksM
  rw [hasSide_iff, List.any_eq_false]
  intro m hm
  rcases h m hm with e | e <;> rw [e] <;> decide
theorem sided_right (n : Nat) (L : List Nat) (h : ∀ m ∈ n :: L, rS (pk (m : Int)) = 2) : sidedM (n :: L) = true ∧ asksM (n :: L) = true := by
  have h0 := h n (by simp)
  constructor
  · unfold sidedM
    rw [pkAt_zero, h0, if_neg (by decide), if_pos (by decide), only_iff, ends_last (by simp) (fun m hm => by rw [h m hm]; decide), h _ (List.getLast_mem (l := n :: L) (by simp)), hasSide_iff, hasSide_iff]
    have e1 : ((n :: L).all fun n => [2, 3, 5, 4, 6, 7, 0].any fun y => rS (pk (n : Int)) == y) = true := List.all_eq_true.2 fun m hm => by rw [h m hm]; decide
    have e2 : ((n :: L).any fun n => [4].any fun y => rS (pk (n : Int)) == y) = false := List.any_eq_false.2 fun m hm => by rw [h m hm]; decide
    rw [e1, e2]
    rfl
  · unfold asksM
    rw [hasSide_iff, List.any_eq_true]
    exact ⟨n, by simp, by rw [h0]; decide⟩
theorem sided_digit (n : Nat) (L : List Nat) (h0 : rS (pk (n : Int)) = 4) : sidedM (n :: L) = false := by
  unfold sidedM
  rw [pkAt_zero, h0]
  rfl
theorem sided_mixed (n : Nat) (L : List Nat) (h0 : rS (pk (n : Int)) = 2) (h : ∃ m ∈ L, rS (pk (m : Int)) = 1) : sidedM (n :: L) = false ∧ asksM (n :: L) = true := by
  obtain ⟨m, hm, h1⟩ := h
  constructor
  · unfold sidedM
    rw [pkAt_zero, h0, if_neg (by decide), if_pos (by decide), only_iff]
    have e1 : ((n :: L).all fun n => [2, 3, 5, 4, 6, 7, 0].any fun y => rS (pk (n : Int)) == y) = false := List.all_eq_false.2 ⟨m, by simp [hm], by rw [h1]; decide⟩
    rw [e1]
    rfl
  · unfold asksM
    rw [hasSide_iff, List.any_eq_true]
    exact ⟨n, by simp, by rw [h0]; decide⟩

theorem good_common {L : List Nat} (h : ∀ n ∈ L, Common n) (hne : L ≠ []) (hh : hyphM L = false) (hz : (formB L).size ≤ 63) : GoodL L :=
  ⟨fun n hn => kind_sign (common_ne (h n hn)).1, hne, fun n hn => (common_ne (h n hn)).1, hh, by rw [fault_common h, hh]; rfl, hz⟩
theorem hyph_none {L : List Nat} (hne : L ≠ []) (h : ∀ n ∈ L, n ≠ 45) : hyphM L = false := by
  rw [hyphM_eq hne]
  have h0 : L[0]? ≠ some 45 := fun e => h 45 (List.mem_of_getElem? e) rfl
  have h1 : L.getLast? ≠ some 45 := fun e => h 45 (List.mem_of_getLast? e) rfl
  have h2 : L[2]? ≠ some 45 := fun e => h 45 (List.mem_of_getElem? e) rfl
  rw [decide_eq_false h0, decide_eq_false h1, decide_eq_false h2]
  rfl
theorem letters_good (zs : List Int) : GoodL (lettersM zs) := good_common (letters_common zs) (by simp [lettersM]) (letters_hyph zs) (Nat.le_trans (letters_form zs) (by decide))
theorem nine_side : ∀ n ∈ nine, rS (pk (n : Int)) = 1 ∨ rS (pk (n : Int)) = 4 := by decide +kernel
theorem letters_side (zs : List Int) : ∀ n ∈ lettersM zs, rS (pk (n : Int)) = 1 ∨ rS (pk (n : Int)) = 4 := by
  intro n hn
  rcases List.mem_cons.1 hn with rfl | hn
  · exact Or.inl rfl
  · exact nine_side n (tailL_mem zs n hn)
theorem letters_sided (zs : List Int) : sidedM (lettersM zs) = true ∧ asksM (lettersM zs) = false := ⟨sided_left 113 (tailL zs) rfl (letters_side zs), asks_left (letters_side zs)⟩

/-- A digit ahead of letters. -/
def digL (zs : List Int) : List Nat := 49 :: lettersM zs
theorem common_49 : Common 49 := Or.inr (Or.inl rfl)
theorem dig_good (zs : List Int) : GoodL (digL zs) := by
  refine good_common (fun n hn => ?_) (by simp [digL]) (hyph_none (by simp [digL]) fun n hn => ?_) ?_
  · rcases List.mem_cons.1 hn with rfl | hn
    · exact common_49
    · exact letters_common zs n hn
  · rcases List.mem_cons.1 hn with rfl | hn
    · decide
    · exact letters_ne45 zs n hn
  · have hA : ∀ m ∈ [49, 113], Common m := fun m hm => by
      simp only [List.mem_cons, List.not_mem_nil, or_false] at hm
      rcases hm with rfl | rfl
      · exact common_49
      · exact common_113
    have g := form_letters (A := [49, 113]) (E := []) hA (tailL_mem zs) (tailL_len zs) (by simp) (fun m hm hlt => by
      simp only [List.mem_cons, List.not_mem_nil, or_false] at hm
      omega)
    have ho : oth [49, 113] = [] := rfl
    have hq := tailL_len zs
    have e : digL zs = [49, 113] ++ tailL zs := rfl
    rw [ho] at g
    rw [e]
    simp only [List.length_cons, List.length_nil] at g
    omega
theorem dig_sided (zs : List Int) : sidedM (digL zs) = false ∧ asksM (digL zs) = false := by
  refine ⟨sided_digit 49 (lettersM zs) rfl, asks_left fun n hn => ?_⟩
  rcases List.mem_cons.1 hn with rfl | hn
  · exact Or.inr rfl
  · exact letters_side zs n hn

/-- Hebrew letters. -/
def hebP (hs : List Int) (k : Nat) : List Nat := (hs.take k).map fun c => 1488 + pickM c 27
def hebL (hs : List Int) : List Nat := hebP hs 10 ++ [1488]
theorem heb_row : ∀ i : Fin 27, rC (pk ((1488 + i.val : Nat) : Int)) = 1 ∧ rS (pk ((1488 + i.val : Nat) : Int)) = 2 := by decide +kernel
theorem heb_mem (hs : List Int) : ∀ n ∈ hebL hs, rC (pk (n : Int)) = 1 ∧ rS (pk (n : Int)) = 2 ∧ n ≠ 45 ∧ 128 ≤ n ∧ n ≤ 1514 := by
  intro n hn
  rcases List.mem_append.1 hn with h | h
  · obtain ⟨c, _, rfl⟩ := List.mem_map.1 h
    have hp := pickM_lt c 27 (by omega)
    have := heb_row ⟨pickM c 27, hp⟩
    exact ⟨this.1, this.2, by omega, by omega, by omega⟩
  · rw [List.mem_singleton.1 h]
    exact ⟨rfl, rfl, by decide, by decide, by decide⟩
theorem heb_len (hs : List Int) : (hebL hs).length ≤ 11 := by unfold hebL hebP; simp; omega
theorem heb_ne (hs : List Int) : hebL hs ≠ [] := by unfold hebL; simp
theorem ys_le (L : List Nat) : (ysOf L).length ≤ (oth L).length := by
  refine few_of _ _ (ysOf_ys L).up fun y hy => ?_
  have := ((ysOf_ys L).all y).1 hy
  unfold oth
  rw [List.mem_filter]
  exact ⟨this.1, by simp; omega⟩
theorem heb_form {L : List Nat} (hL : L.length ≤ 12) (ho : (oth L).length ≤ 11) (hc : ∀ n ∈ L, Common n) (hn : ∀ n ∈ L, n ≤ 1514) : (formB L).size ≤ 63 := by
  have hy := ys_le L
  have h := formB_dig (fun n hn => kind_sign (common_ne (hc n hn)).1) (by omega) 3 (fun y hy => by
    have h1 := hn y hy
    have h2 : (y - 128) * (L.length + 1) ≤ 1386 * 13 := Nat.mul_le_mul (by omega) (by omega)
    omega) 11 (by omega)
  omega
theorem heb_good (hs : List Int) : GoodL (hebL hs) := by
  have hc : ∀ n ∈ hebL hs, Common n := fun n hn => Or.inl (heb_mem hs n hn).1
  have hl := heb_len hs
  exact good_common hc (heb_ne hs) (hyph_none (heb_ne hs) fun n hn => (heb_mem hs n hn).2.2.1) (heb_form (by omega) (by have := oth_len (hebL hs); omega) hc fun n hn => (heb_mem hs n hn).2.2.2.2)
theorem heb_sided (hs : List Int) : sidedM (hebL hs) = true ∧ asksM (hebL hs) = true := by
  obtain ⟨n, r, e⟩ := List.exists_cons_of_ne_nil (heb_ne hs)
  have h : ∀ m ∈ n :: r, rS (pk (m : Int)) = 2 := fun m hm => by rw [← e] at hm; exact (heb_mem hs m hm).2.1
  rw [e]
  exact sided_right n r h
def mixL (hs : List Int) : List Nat := hebL hs ++ [97]
theorem mix_mem (hs : List Int) : ∀ n ∈ mixL hs, Common n ∧ n ≠ 45 ∧ n ≤ 1514 := by
  intro n hn
  rcases List.mem_append.1 hn with h | h
  · have := heb_mem hs n h
    exact ⟨Or.inl this.1, this.2.2.1, this.2.2.2.2⟩
  · rw [List.mem_singleton.1 h]
    exact ⟨Or.inl rfl, by decide, by decide⟩
theorem mix_good (hs : List Int) : GoodL (mixL hs) := by
  have hne : mixL hs ≠ [] := by unfold mixL; simp
  have hl := heb_len hs
  refine good_common (fun n hn => (mix_mem hs n hn).1) hne (hyph_none hne fun n hn => (mix_mem hs n hn).2.1) (heb_form (by unfold mixL; simp; omega) ?_ (fun n hn => (mix_mem hs n hn).1) fun n hn => (mix_mem hs n hn).2.2)
  unfold mixL
  rw [oth_append, show oth [97] = [] from rfl, List.append_nil]
  have := oth_len (hebL hs)
  omega
theorem mix_sided (hs : List Int) : sidedM (mixL hs) = false ∧ asksM (mixL hs) = true := by
  obtain ⟨n, r, e⟩ := List.exists_cons_of_ne_nil (heb_ne hs)
  have h0 : rS (pk (n : Int)) = 2 := (heb_mem hs n (by rw [e]; simp)).2.1
  have h1 : rS (pk ((97 : Nat) : Int)) = 1 := rfl
  unfold mixL
  rw [e, List.cons_append]
  exact sided_mixed n (r ++ [97]) h0 ⟨97, by simp, h1⟩

/-- Sided's names. -/
theorem sided1 (zs hs : List Int) : nameV (textOf (lettersM zs) ++ ⟨#[46]⟩ ++ textOf (hebL hs)) = .tuple #[.string (textOf (lettersM zs) ++ ⟨#[46]⟩ ++ textOf (hebL hs)), .string (formB (lettersM zs) ++ ⟨#[46]⟩ ++ formB (hebL hs)), .int .i64 0, .int .i64 0] := by
  rw [name_two _ _ (letters_good zs) (heb_good hs), (letters_sided zs).1, (heb_sided hs).1]
  rfl
theorem sided2 (zs hs : List Int) : nameV (textOf (hebL hs) ++ ⟨#[46]⟩ ++ textOf (lettersM zs)) = .tuple #[.string (textOf (hebL hs) ++ ⟨#[46]⟩ ++ textOf (lettersM zs)), .string (formB (hebL hs) ++ ⟨#[46]⟩ ++ formB (lettersM zs)), .int .i64 0, .int .i64 0] := by
  rw [name_two _ _ (heb_good hs) (letters_good zs), (letters_sided zs).1, (heb_sided hs).1]
  rfl
theorem sided3 (zs hs : List Int) : nameV (textOf (digL zs) ++ ⟨#[46]⟩ ++ textOf (hebL hs)) = .tuple #[.string { data := #[] }, .string { data := #[] }, .int .i64 0, .int .i64 10] := by
  rw [name_two _ _ (dig_good zs) (heb_good hs), (dig_sided zs).1, (heb_sided hs).2, (dig_sided zs).2]
  rfl
theorem sided4 (zs hs : List Int) : nameV (textOf (hebL hs) ++ ⟨#[46]⟩ ++ textOf (digL zs)) = .tuple #[.string { data := #[] }, .string { data := #[] }, .int .i64 1, .int .i64 10] := by
  rw [name_two _ _ (heb_good hs) (dig_good zs), (dig_sided zs).1, (heb_sided hs).2, (heb_sided hs).1]
  rfl
theorem sided5 (zs : List Int) : nameV (textOf (digL zs) ++ ⟨#[46]⟩ ++ textOf (lettersM zs)) = .tuple #[.string (textOf (digL zs) ++ ⟨#[46]⟩ ++ textOf (lettersM zs)), .string (formB (digL zs) ++ ⟨#[46]⟩ ++ formB (lettersM zs)), .int .i64 0, .int .i64 0] := by
  rw [name_two _ _ (dig_good zs) (letters_good zs), (dig_sided zs).2, (letters_sided zs).2]
  simp
theorem sided6 (hs : List Int) : nameV (textOf (mixL hs)) = .tuple #[.string { data := #[] }, .string { data := #[] }, .int .i64 0, .int .i64 10] := by
  rw [name_one _ (mix_good hs), (mix_sided hs).1, (mix_sided hs).2]
  rfl
end Go.Proofs.YtkaaldhejpaiiaaGreatDoor

