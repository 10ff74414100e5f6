/- What a label comes to: the signs that are looked through, both forms, or the error. No walk in this text. -/
import Derived.Test.YtkaaldhejpaiiaaGreatDoorYa
import Derived.Test.YtkaaldhejpaiiaaGreatDoorLl
import Derived.Lib.Case
import Derived.Test.YtkaaldhejpaiiaaGreatDoorZu
namespace Go.Proofs.YtkaaldhejpaiiaaGreatDoor
open Go.RowKit

def xn : List UInt8 := [120, 110, 45, 45]
def allLow (L : List Nat) : Bool := L.all fun n => decide (n < 128)
/-- What is decoded: 3, if it is no form, or of ASCII signs alone. -/
def decM (t : ByteArray) : Nat × List Nat :=
  match decodeS t with
  | none => (3, [])
  | some L => if allLow L = true then (3, []) else (0, L)
/-- The signs that are looked through for a label, behind 0; or the error. -/
def plainM (s : ByteArray) : Nat × List Nat :=
  if Lib.validD s.data.toList = false then (1, [])
  else if s.size = 0 then (2, [])
  else if ascB s.data.toList = false then (0, runes s)
  else if Lib.hasPrefix (Lib.toLowerA s.data.toList) xn = true then decM ⟨((Lib.toLowerA s.data.toList).drop 4).toArray⟩
  else (0, (Lib.toLowerA s.data.toList).map (·.toNat))
def textOf (L : List Nat) : ByteArray := runesBytes (lI L)
/-- The ASCII form of a label. -/
def formB (L : List Nat) : ByteArray := if allLow L = true then textOf L else ⟨(xn ++ encS L (ysOf L)).toArray⟩
/-- Label: the error, the signs, the form. -/
def labelM (s : ByteArray) : Nat × List Nat × ByteArray :=
  if (plainM s).1 ≠ 0 then ((plainM s).1, [], ⟨#[]⟩)
  else if faultM (plainM s).2 ≠ 0 then (faultM (plainM s).2, [], ⟨#[]⟩)
  else if 63 < (formB (plainM s).2).size then (9, [], ⟨#[]⟩)
  else (0, (plainM s).2, formB (plainM s).2)
def signsL (L : List Nat) : Prop := ∀ n ∈ L, Pm.sign n = true

theorem enc_low (n : Nat) : ((Utf8.encode (n : Int)).data.toList.all fun c => decide (c.toNat < 128)) = decide (n < 128) := by
  by_cases h : n < 128
  · rw [encode_asc h, decide_eq_true h]
    have : n % 256 = n := by omega
    simp [UInt8.toNat_ofNat', this, h]
  · rw [decide_eq_false h]
    unfold Utf8.encode
    have hc : ¬ (if Utf8.valid (n : Int) = true then ((n : Int)).toNat else Utf8.runeError) < 0x80 := by
      split
      · rw [Int.toNat_natCast]; omega
      · decide
    simp only
    rw [if_neg hc]
    generalize (if Utf8.valid (n : Int) = true then ((n : Int)).toNat else Utf8.runeError) = m at hc
    split
    · simp; omega
    · split
      · simp; omega
      · simp; omega
theorem bytesOf_low : ∀ L : List Nat, ascB (bytesOf L) = allLow L
  | [] => rfl
  | n :: L => by
    unfold ascB allLow bytesOf
    rw [List.all_append, List.all_cons, enc_low n]
    have := bytesOf_low L
    unfold ascB allLow at this
    rw [this]
theorem textOf_low (L : List Nat) : ascB (textOf L).data.toList = allLow L := by rw [textOf, runesBytes_list, bytesOf_low]
theorem textOf_map (l : List UInt8) (h : ascB l = true) : textOf (l.map (·.toNat)) = ⟨l.toArray⟩ := runesBytes_asc h
theorem lower_asc (l : List UInt8) (h : ascB l = true) : ascB (Lib.toLowerA l) = true := by
  unfold ascB Lib.toLowerA at *
  rw [List.all_map]
  rw [List.all_eq_true] at h ⊢
  intro c hc
  have h1 := h c hc
  simp only [decide_eq_true_eq, Function.comp] at h1 ⊢
  unfold Lib.lowerB
  split
  · rename_i h2
    rw [UInt8.toNat_add]
    have h3 : c.toNat ≤ 90 := by
      unfold Lib.isUpperB at h2
      simp at h2
      exact UInt8.le_iff_toNat_le.1 h2.2
    have h4 : (32 : UInt8).toNat = 32 := rfl
    omega
  · exact h1
theorem sign_low {n : Nat} (h : n < 128) : Pm.sign n = true := by rw [sign_iff]; omega

/-- Each sign takes a place of the form at least. -/
theorem each_form (sgn : Nat) : ∀ (l : List Nat) (k : Nat) (x : Es), x.form.length + (l.filter (fun m => decide (m = sgn))).length ≤ (each sgn l k x).form.length
  | [], _, _ => by simp [each]
  | m :: r, k, x => by
    unfold each
    have ih := each_form sgn r (if m ≤ sgn then k + 1 else k) (if m = sgn then x.put (x.steps sgn k) else x)
    by_cases h : m = sgn
    · rw [if_pos h] at ih ⊢
      rw [List.filter_cons_of_pos (by simpa using h), List.length_cons]
      have h1 : x.form.length + 1 ≤ (x.put (x.steps sgn k)).form.length := by
        show _ ≤ (x.form ++ wnum x.bias (x.steps sgn k + 1) 1 (x.steps sgn k)).length
        have := List.length_pos_iff.2 (wnum_ne x.bias 1 (x.steps sgn k))
        rw [List.length_append]; omega
      omega
    · rw [if_neg h] at ih ⊢
      rw [List.filter_cons_of_neg (by simpa using h)]
      exact ih
theorem eachAll_form (L : List Nat) : ∀ (ys : List Nat) (x : Es), x.form.length + (L.filter (fun m => decide (m ∈ ys))).length ≤ (eachAll L ys x).form.length
  | [], x => by
    have : L.filter (fun m => decide (m ∈ ([] : List Nat))) = [] := by rw [List.filter_eq_nil_iff]; simp
    rw [this]; simp [eachAll]
  | y :: r, x => by
    unfold eachAll
    have h1 := each_form y L 0 x
    have h2 := eachAll_form L r (each y L 0 x)
    have h3 : ∀ l : List Nat, (l.filter (fun m => decide (m ∈ y :: r))).length ≤ (l.filter (fun m => decide (m = y))).length + (l.filter (fun m => decide (m ∈ r))).length := by
      intro l
      induction l with
      | nil => simp
      | cons a l ih =>
        by_cases ha : a = y
        · rw [List.filter_cons_of_pos (by simp [ha]), List.filter_cons_of_pos (by simpa using ha)]
          have := List.filter_cons (x := a) (xs := l) (p := fun m => decide (m ∈ r))
          rw [this]
          split <;> simp only [List.length_cons] <;> omega
        · by_cases hr : a ∈ r
          · rw [List.filter_cons_of_pos (by simp [hr]), List.filter_cons_of_neg (by simpa using ha), List.filter_cons_of_pos (by simpa using hr)]
            simp only [List.length_cons]; omega
          · rw [List.filter_cons_of_neg (by simp [ha, hr]), List.filter_cons_of_neg (by simpa using ha), List.filter_cons_of_neg (by simpa using hr)]
            exact ih
    have h4 := h3 L
    omega
theorem encS_len (L : List Nat) : L.length ≤ (encS L (ysOf L)).length := by
  unfold encS
  have h := eachAll_form L (ysOf L) (firstEs L)
  have hy := (ysOf_ys L).all
  have h1 : (firstEs L).form.length ≥ (L.filter (fun m => decide (m < 128))).length := by
    show (if ascF L = [] then [] else ascF L ++ [45] : List UInt8).length ≥ _
    have e : (ascF L).length = (L.filter (fun m => decide (m < 128))).length := by unfold ascF; rw [List.length_map]
    split
    · rename_i h0; rw [h0] at e; rw [← e]; exact Nat.le_refl _
    · rw [List.length_append]; omega
  have h2 : ∀ l : List Nat, (∀ m ∈ l, m ∈ L) → l.length ≤ (l.filter (fun m => decide (m < 128))).length + (l.filter (fun m => decide (m ∈ ysOf L))).length := by
    intro l
    induction l with
    | nil => intro _; simp
    | cons a l ih =>
      intro hl
      have ih := ih fun m hm => hl m (by simp [hm])
      by_cases ha : a < 128
      · rw [List.filter_cons_of_pos (by simpa using ha)]
        have := List.filter_cons (x := a) (xs := l) (p := fun m => decide (m ∈ ysOf L))
        rw [this]
        split <;> simp only [List.length_cons] <;> omega
      · have hm : a ∈ ysOf L := (hy a).2 ⟨hl a (by simp), by omega⟩
        rw [List.filter_cons_of_neg (by simpa using ha), List.filter_cons_of_pos (by simpa using hm)]
        simp only [List.length_cons]; omega
  have h3 := h2 L fun m hm => hm
  omega
theorem bytesOf_len : ∀ L : List Nat, (bytesOf L).length ≤ 4 * L.length
  | [] => by simp [bytesOf]
  | n :: L => by
    unfold bytesOf
    rw [List.length_append, List.length_cons]
    have ih := bytesOf_len L
    have h : (Utf8.encode (n : Int)).data.toList.length ≤ 4 := by
      unfold Utf8.encode
      simp only
      generalize (if Utf8.valid (n : Int) = true then ((n : Int)).toNat else Utf8.runeError) = m
      split
      · simp
      · split
        · simp
        · split <;> simp
    omega
theorem textOf_len (L : List Nat) : (textOf L).size ≤ 4 * L.length := by
  have h := bytesOf_len L
  rw [← runesBytes_list] at h
  rw [Array.length_toList] at h
  exact h
end Go.Proofs.YtkaaldhejpaiiaaGreatDoor
