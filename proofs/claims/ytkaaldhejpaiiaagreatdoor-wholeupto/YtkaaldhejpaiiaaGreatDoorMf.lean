import Derived.Test.YtkaaldhejpaiiaaGreatDoorMe
import Derived.Test.YtkaaldhejpaiiaaGreatDoorOk
import Derived.Test.YtkaaldhejpaiiaaGreatDoorBu11
/- The document's label: rows of signs; what the project's answer is in its terms. No walk in this text. -/
namespace Go.Proofs.YtkaaldhejpaiiaaGreatDoor
open Go.RowKit

/-- A row of signs of one's own. -/
structure RowI (w : World) (B g : Nat) (L : List Nat) : Prop where
  own : B ≤ g
  row : ∃ cur, w.heap[g]? = some (.cells cur 3 (0, 0)) ∧ L.length ≤ cur.size ∧ cur.toList.take L.length = L.map iv
  sgn : signsL L
  len : L.length ≤ 1100000
theorem RowI.lt {w : World} {B g : Nat} {L : List Nat} (h : RowI w B g L) : g < w.heap.size := by
  obtain ⟨cur, h1, _⟩ := h.row
  exact (Array.getElem?_eq_some_iff.1 h1).1
theorem RowI.cell {w : World} {B g : Nat} {L : List Nat} (h : RowI w B g L) (i : Nat) (hi : i < L.length) : w.cell? ⟨g, i, none⟩ = some (.int .i64 ((L[i] : Nat) : Int)) := by
  obtain ⟨cur, h1, h2, h3⟩ := h.row
  rw [cell_of_row w g i cur 3 (0, 0) h1]
  have h4 : (cur.toList.take L.length)[i]? = (L.map iv)[i]? := by rw [h3]
  rw [List.getElem?_take, if_pos hi, List.getElem?_map, List.getElem?_eq_getElem hi] at h4
  simpa [iv] using h4
theorem RowI.ints {w : World} {B g : Nat} {L : List Nat} (h : RowI w B g L) : Ints w g L :=
  ⟨h.lt, fun i hi => h.cell i hi, by have := h.len; omega, fun x hx => sign_le (h.sgn x hx)⟩
theorem RowI.keep {w w' : World} {B g : Nat} {L : List Nat} (h : RowI w B g L) (hb : Below w.heap.size w w') : RowI w' B g L := by
  obtain ⟨cur, h1, h2, h3⟩ := h.row
  exact ⟨h.own, ⟨cur, (hb.block g h.lt).trans h1, h2, h3⟩, h.sgn, h.len⟩
theorem RowI.froz {w : World} {B g : Nat} {L : List Nat} (h : RowI w B g L) (i : Nat) : w.frozen? ⟨g, i, none⟩ = false := by
  obtain ⟨cur, h1, _⟩ := h.row
  exact unfrozen h1 i
theorem RowI.set {w : World} {B g : Nat} {L : List Nat} (h : RowI w B g L) (i n : Nat) (hn : Pm.sign n = true) : RowI (w.setCell ⟨g, i, none⟩ (.int .i64 (n : Int))) B g (L.set i n) := by
  obtain ⟨cur, h1, h2, h3⟩ := h.row
  refine ⟨h.own, ⟨cur.setIfInBounds i (.int .i64 (n : Int)), setCell_row h1 i _, by simpa using h2, ?_⟩, fun x hx => ?_, by simpa using h.len⟩
  · rw [List.length_set, Array.toList_setIfInBounds, List.take_set, h3, List.map_set]
    rfl
  · rcases List.mem_or_eq_of_mem_set hx with hx | rfl
    · exact h.sgn x hx
    · exact hn
theorem row_of {w : World} {B n : Nat} {v : Value} {L : List Nat} (h : w.ownsRow B 3 1 v L.length (L.map iv)) (hne : L ≠ []) (hs : signsL L) (hl : L.length ≤ 1100000) (hn : L.length = n) : ∃ g c, v = .slice (some ⟨g, 0, none⟩) n c ∧ n ≤ c ∧ RowI w B g L := by
  have h0 := List.length_pos_iff.2 hne
  rcases h.2 with ⟨_, h2⟩ | ⟨g, cap, cur, rfl, hb, hg, hc, _, hsz, ht⟩
  · omega
  · refine ⟨g, cap, by rw [hn], by omega, hb, ⟨cur, hg, by omega, by simpa using ht⟩, hs, hl⟩

/-- Small letters, up to a place. -/
def lowTo (L : List Nat) (k : Nat) : List Nat := (L.take k).map lowN ++ L.drop k
theorem lowTo_zero (L : List Nat) : lowTo L 0 = L := by simp [lowTo]
theorem lowTo_all (L : List Nat) (k : Nat) (h : L.length ≤ k) : lowTo L k = L.map lowN := by
  unfold lowTo
  rw [List.take_of_length_le h, List.drop_eq_nil_of_le h, List.append_nil]
theorem lowTo_len (L : List Nat) (k : Nat) : (lowTo L k).length = L.length := by
  unfold lowTo
  simp
  omega
theorem lowTo_at (L : List Nat) (k : Nat) (h : k < L.length) : (lowTo L k)[k]? = some L[k] := by
  unfold lowTo
  rw [List.getElem?_append_right (by simp; exact Nat.min_le_left _ _), List.length_map, List.length_take, Nat.min_eq_left (by omega), Nat.sub_self, List.getElem?_drop]
  simp [h]
theorem lowTo_succ (L : List Nat) (k : Nat) (h : k < L.length) : lowTo L (k + 1) = (lowTo L k).set k (lowN L[k]) := by
  unfold lowTo
  rw [List.set_append_right _ _ (by simp; exact Nat.min_le_left _ _), List.length_map, List.length_take, Nat.min_eq_left (by omega), Nat.sub_self, List.drop_eq_getElem_cons h, List.set_cons_zero, List.take_succ_eq_append_getElem h, List.map_append]
  simp
theorem lowTo_same (L : List Nat) (k : Nat) (h : k < L.length) (hc : ¬ (65 ≤ L[k] ∧ L[k] ≤ 90)) : lowTo L (k + 1) = lowTo L k := by
  rw [lowTo_succ L k h, lowN_of hc]
  apply List.ext_getElem?
  intro j
  rw [List.getElem?_set]
  split
  · rename_i e
    subst e
    rw [lowTo_at L k h, if_pos (by rw [lowTo_len]; exact h)]
  · rfl
theorem allLow_take (L : List Nat) (k : Nat) (h : k < L.length) : allLow (L.take (k + 1)) = (allLow (L.take k) && decide (L[k] < 128)) := by
  unfold allLow
  rw [List.take_succ_eq_append_getElem h, List.all_append]
  simp

/-- What a text's signs are, and what plainM makes of them. -/
theorem valid_text {s : ByteArray} (h : Lib.validD s.data.toList = true) : signsL (runes s) ∧ textOf (runes s) = s := bytes_of_valid h
theorem runes_nil {s : ByteArray} (h : Lib.validD s.data.toList = true) : runes s = [] ↔ s.size = 0 := by
  obtain ⟨_, e⟩ := valid_text h
  constructor
  · intro h0
    rw [← e, h0]
    rfl
  · intro h0
    have := runes_len s
    exact List.length_eq_zero_iff.1 (by omega)
theorem runes_low {s : ByteArray} (h : Lib.validD s.data.toList = true) : allLow (runes s) = ascB s.data.toList := by
  obtain ⟨_, e⟩ := valid_text h
  conv => rhs; rw [← e]
  rw [textOf_low]
theorem plain_bad {s : ByteArray} (h : Lib.validD s.data.toList = false) : plainM s = (1, []) := by
  unfold plainM
  rw [h, if_pos rfl]
theorem plain_nil {s : ByteArray} (h : Lib.validD s.data.toList = true) (h0 : runes s = []) : plainM s = (2, []) := by
  unfold plainM
  rw [h, if_neg (by decide), if_pos ((runes_nil h).1 h0)]
theorem plain_high {s : ByteArray} (h : Lib.validD s.data.toList = true) (h0 : runes s ≠ []) (ha : allLow (runes s) = false) : plainM s = (0, runes s) := by
  rw [runes_low h] at ha
  unfold plainM
  rw [h, if_neg (by decide), if_neg (fun e => h0 ((runes_nil h).2 e)), ha, if_pos rfl]
theorem low_bytes_list {s : ByteArray} (h : Lib.validD s.data.toList = true) (ha : allLow (runes s) = true) : Lib.toLowerA s.data.toList = (textOf ((runes s).map lowN)).data.toList := by
  obtain ⟨_, e⟩ := valid_text h
  have h1 := (low_back ha).2.2
  rw [e] at h1
  rw [h1, lowerA_map ha, (low_back (allLow_low ha)).2.2]
theorem plain_lower {s : ByteArray} (h : Lib.validD s.data.toList = true) (h0 : runes s ≠ []) (ha : allLow (runes s) = true) :
    plainM s = if Lib.hasPrefix (textOf ((runes s).map lowN)).data.toList xn = true then decM ⟨((textOf ((runes s).map lowN)).data.toList.drop 4).toArray⟩ else (0, (runes s).map lowN) := by
  have e := low_bytes_list h ha
  have hb := runes_low h
  rw [ha] at hb
  unfold plainM
  rw [h, if_neg (by decide), if_neg (fun e => h0 ((runes_nil h).2 e)), ← hb, if_neg (by decide), e]
  split
  · rfl
  · have := (low_back (allLow_low ha))
    rw [this.2.2, this.1]
theorem prefix_take (l : List UInt8) : Lib.hasPrefix l xn = decide (l.take 4 = xn) := by
  unfold Lib.hasPrefix
  rw [Bool.eq_iff_iff, List.isPrefixOf_iff_prefix, decide_eq_true_eq]
  constructor
  · rintro ⟨t, rfl⟩
    rfl
  · intro h
    exact ⟨l.drop 4, by rw [← h]; exact List.take_append_drop 4 l⟩
theorem label_err {s : ByteArray} {e : Nat} {P : List Nat} (h : plainM s = (e, P)) (he : e ≠ 0) : (labelM s).1 = e := by
  unfold labelM
  rw [h, if_pos he]
theorem refDec_all (t : ByteArray) (w : World) (ht : t.size ≤ 9223372036854775807) : Calls Tryz.prog 41 #[.string t] w fun e w' => RefDec (decodeS t) w.heap.size e w' ∧ Below w.heap.size w w' := by
  by_cases h : t.size ≤ 1000
  · exact refDec_small t w h _ rfl
  · have : decodeS t = none := by unfold decodeS; rw [if_pos (Or.inl (by omega))]
    rw [this]
    exact refDec_big t w (by omega) ht
/-- The answer's row: signs of a good label, with base B. -/
def DocL (s : ByteArray) (w : World) (e : Ending) (w' : World) : Prop :=
  (((labelM s).1 ≠ 0 ∧ e = .returned (.tuple #[.slice none 0 0, .string { data := #[] }, .int .i64 ((labelM s).1 : Nat)])) ∨
   ((labelM s).1 = 0 ∧ ∃ g c, e = .returned (.tuple #[.slice (some ⟨g, 0, none⟩) (labelM s).2.1.length c, .string (labelM s).2.2, .int .i64 0]) ∧ RowI w' w.heap.size g (labelM s).2.1)) ∧ Below w.heap.size w w'
theorem doc_err {s : ByteArray} {w w' : World} {c : Nat} (h : (labelM s).1 = c) (hc : c ≠ 0) (hb : Below w.heap.size w w') : DocL s w (.returned (.tuple #[.slice none 0 0, .string { data := #[] }, .int .i64 (c : Int)])) w' :=
  ⟨Or.inl ⟨by rw [h]; exact hc, by rw [h]⟩, hb⟩
theorem doc_good {s : ByteArray} {w w' : World} {g c n : Nat} {L : List Nat} {A : ByteArray} (h : labelM s = (0, L, A)) (hn : L.length = n) (hR : RowI w' w.heap.size g L) (hb : Below w.heap.size w w') : DocL s w (.returned (.tuple #[.slice (some ⟨g, 0, none⟩) n c, .string A, .int .i64 0])) w' :=
  ⟨Or.inr ⟨by rw [h], g, c, by rw [h, hn], by rw [h]; exact hR⟩, hb⟩
end Go.Proofs.YtkaaldhejpaiiaaGreatDoor

