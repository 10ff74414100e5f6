/- Encode at every text. -/
import Derived.Test.YtkaaldhejpaiiaaGreatDoorXo
import Derived.Test.YtkaaldhejpaiiaaGreatDoorQg
import Derived.Test.YtkaaldhejpaiiaaGreatDoorTm
import Derived.Test.YtkaaldhejpaiiaaGreatDoorTh
namespace Go.Proofs.YtkaaldhejpaiiaaGreatDoor
open Go.RowKit

/-- The form of a text. -/
def formOf (s : ByteArray) : ByteArray := ⟨(encS (runes s) (ysOf (runes s))).toArray⟩
inductive EncR (s : ByteArray) : Value → Prop where
  | bad (h : Lib.validD s.data.toList = false) : EncR s (.tuple #[.string { data := #[] }, .int .i64 1])
  | long (h : Lib.validD s.data.toList = true) (hl : 1000 < s.size) : EncR s (.tuple #[.string { data := #[] }, .int .i64 9])
  | ok (h : Lib.validD s.data.toList = true) (hl : s.size ≤ 1000) : EncR s (.tuple #[.string (formOf s), .int .i64 0])

theorem Encode_any (s : ByteArray) (w : World) (hs : s.size ≤ 9223372036854775807) (hT : Lib.Utf8Tabs 1 2 w) :
    Calls Tryz.prog 63 #[.string s] w fun e w' => (∃ v, e = .returned v ∧ EncR s v) ∧ Below w.heap.size w w' := by
  cases hv : Lib.validD s.data.toList with
  | false => exact (Encode_bad s w hs hT hv).mono (by rintro e w' ⟨rfl, hb⟩; exact ⟨⟨_, rfl, .bad hv⟩, hb⟩)
  | true =>
    by_cases hl : 1000 < s.size
    · exact (Encode_long s w hs hT hv hl).mono (by rintro e w' ⟨rfl, hb⟩; exact ⟨⟨_, rfl, .long hv hl⟩, hb⟩)
    · have hrl := runes_len s
      have hsg := (bytes_of_valid hv).1
      have hol := oth_len (runes s)
      have hsl := (sorted_perm (oth (runes s))).length_eq
      have hql := squash_len (sorted (oth (runes s)))
      refine (Encode_ok s w (sorted (oth (runes s))) (ysOf (runes s)) hT hv (by omega) (sortOk_any _ (by omega)) (compOk_any _ (by omega)) (enc_parts (ysOf_ys _) hsg (by omega)).1 (by unfold ysOf; omega)).mono ?_
      rintro e w' ⟨rfl, hb⟩
      exact ⟨⟨_, rfl, .ok hv (by omega)⟩, hb⟩

theorem each_len (sgn : Nat) : ∀ (l : List Nat) (k : Nat) (x : Es), (each sgn l k x).len ≤ x.len + l.length
  | [], _, _ => by simp [each]
  | m :: r, k, x => by
    unfold each
    have := each_len sgn r (if m ≤ sgn then k + 1 else k) (if m = sgn then x.put (x.steps sgn k) else x)
    have h2 : (if m = sgn then x.put (x.steps sgn k) else x).len ≤ x.len + 1 := by split <;> simp [Es.put]
    simp only [List.length_cons]
    omega
theorem eachAll_len (L : List Nat) : ∀ (ys : List Nat) (x : Es), (eachAll L ys x).len ≤ x.len + ys.length * L.length
  | [], _ => by simp [eachAll]
  | y :: r, x => by
    have h1 := each_len y L 0 x
    have h2 := eachAll_len L r (each y L 0 x)
    simp only [eachAll, List.length_cons]
    rw [Nat.add_mul]
    omega
theorem form_list (s : ByteArray) : (formOf s).data.toList = encS (runes s) (ysOf (runes s)) := by simp [formOf]
/-- All of a form is ASCII. -/
theorem form_asc {s : ByteArray} (hv : Lib.validD s.data.toList = true) (hl : s.size ≤ 1000) (b : UInt8) (hb : b ∈ (formOf s).data.toList) : b.toNat < 128 := by
  have hrl := runes_len s
  obtain ⟨_, bytes, m, e, _, hd, _⟩ := enc_parts (ysOf_ys (runes s)) (bytes_of_valid hv).1 (by omega)
  rw [form_list, e, List.mem_append] at hb
  rcases hb with hb | hb
  · unfold firstEs at hb
    simp only at hb
    split at hb
    · simp at hb
    · rcases List.mem_append.1 hb with hb | hb
      · exact ascF_asc2 _ b hb
      · obtain rfl : b = 45 := by simpa using hb
        decide
  · exact (isD_asc (hd b hb)).1
theorem form_size {s : ByteArray} (hv : Lib.validD s.data.toList = true) (hl : s.size ≤ 1000) : (formOf s).size ≤ 100000000 := by
  have hrl := runes_len s
  have h := ysOf_ys (runes s)
  have hs := (bytes_of_valid hv).1
  have hlen := ascF_len_eq (runes s)
  have hal := ascF_len (runes s)
  have hform : (firstEs (runes s)).form.length ≤ 1001 := by unfold firstEs; simp only; split <;> simp; omega
  obtain ⟨_, k, _⟩ := eachAll_dec (L := runes s) (by omega) (ysOf (runes s)) (firstEs (runes s)) (ys_come h hs) ⟨Nat.le_refl _, by simp [firstEs], by omega⟩ (fun y hy => ⟨((h.all y).1 hy).2, fun _ => rfl⟩) (Nat.zero_le _) (by rw [ys_filter h]; exact hlen)
  have hk := k.form
  have he := eachAll_len (runes s) (ysOf (runes s)) (firstEs (runes s))
  have hol := oth_len (runes s)
  have hsl := (sorted_perm (oth (runes s))).length_eq
  have hql : (ysOf (runes s)).length ≤ 1000 := by have := squash_len (sorted (oth (runes s))); unfold ysOf; omega
  have hm : (ysOf (runes s)).length * (runes s).length ≤ 1000 * 1000 := Nat.mul_le_mul hql (by omega)
  have hf : (firstEs (runes s)).len ≤ 1000 := by unfold firstEs; simp only; omega
  have hsz : (formOf s).size = (encS (runes s) (ysOf (runes s))).length := by rw [← form_list, Array.length_toList]; rfl
  rw [hsz]
  unfold encS
  omega
/-- Forms go back. -/
theorem form_back {s : ByteArray} (hv : Lib.validD s.data.toList = true) (hl : s.size ≤ 1000) (hf : (formOf s).size ≤ 1000) : decodeV (decodeS (formOf s)) = .tuple #[.string s, .int .i64 0] := by
  have hrl := runes_len s
  have hB := bytes_of_valid hv
  rw [decodeS_enc (ysOf_ys (runes s)) hB.1 (by omega) (formOf s) (form_list s) hf, decodeV]
  have := hB.2
  unfold lI at this
  rw [this]
/-- Whatever is decoded has this very form. -/
theorem back_form {t : ByteArray} {L : List Nat} (h : decodeS t = some L) : Lib.validD (runesBytes (L.map (fun (n : Nat) => (n : Int)))).data.toList = true ∧ formOf (runesBytes (L.map (fun (n : Nat) => (n : Int)))) = t := by
  obtain ⟨_, hs, _, hf⟩ := decoded h
  have hr := runes_bytes hs
  unfold lI at hr
  refine ⟨hr.2, ?_⟩
  unfold formOf
  rw [hr.1, hf _ (ysOf_ys L)]

end Go.Proofs.YtkaaldhejpaiiaaGreatDoor
