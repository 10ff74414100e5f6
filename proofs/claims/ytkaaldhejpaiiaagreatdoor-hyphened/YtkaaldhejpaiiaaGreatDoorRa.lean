/- ASCII texts: their forms, and back. -/
import Derived.Test.YtkaaldhejpaiiaaGreatDoorQg
namespace Go.Proofs.YtkaaldhejpaiiaaGreatDoor
open Go.RowKit

theorem decodeL_asc {c : UInt8} {l : List UInt8} (h : c.toNat < 128) : Lib.decodeL (c :: l) = (c.toNat, 1) := by
  unfold Lib.decodeL
  rw [decode_ascii ⟨(c :: l).toArray⟩ 0 (by simp [ByteArray.size]) (by simpa [ByteArray.getElem_eq_getElem_data] using h)]
  simp [ByteArray.getElem_eq_getElem_data]
theorem valid_asc : ∀ (n : Nat) (l : List UInt8), ascB l = true → Lib.validGoD n l = true
  | 0, _, _ => rfl
  | n + 1, [], _ => by simp [Lib.validGoD]
  | n + 1, c :: l, h => by
    have hc : c.toNat < 128 := by have := List.all_eq_true.1 h c (by simp); simpa using this
    have hl : ascB l = true := List.all_eq_true.2 fun x hx => List.all_eq_true.1 h x (by simp [hx])
    unfold Lib.validGoD
    rw [decodeL_asc hc]
    simp only [List.drop_succ_cons, List.drop_zero]
    rw [if_neg (by simp), if_neg (by omega)]
    exact valid_asc n l hl
theorem validD_asc {l : List UInt8} (h : ascB l = true) : Lib.validD l = true := valid_asc _ _ h
theorem oth_asc {l : List UInt8} (h : ascB l = true) : oth (l.map (·.toNat)) = [] := by
  unfold oth
  rw [List.filter_eq_nil_iff]
  intro m hm
  obtain ⟨c, hc, rfl⟩ := List.mem_map.1 hm
  have := List.all_eq_true.1 h c hc
  simpa using this
theorem ascF_asc {l : List UInt8} (h : ascB l = true) : ascF (l.map (·.toNat)) = l := by
  unfold ascF
  rw [List.filter_eq_self.2 (fun m hm => by obtain ⟨c, hc, rfl⟩ := List.mem_map.1 hm; exact List.all_eq_true.1 h c hc), List.map_map]
  conv => rhs; rw [← List.map_id l]
  apply List.map_congr_left
  intro c _
  simp
theorem encS_asc {s : ByteArray} (h : ascB s.data.toList = true) (hne : s.data.toList ≠ []) : encS (runes s) [] = s.data.toList ++ [45] := by
  rw [runes_asc h]
  unfold encS eachAll firstEs bytesN
  simp only [ascF_asc h, if_neg hne]
theorem encode_asc {n : Nat} (h : n < 128) : Utf8.encode (n : Int) = ⟨#[UInt8.ofNat n]⟩ := by
  unfold Utf8.encode
  have hv : Utf8.valid (n : Int) = true := by simp [Utf8.valid]; omega
  simp only [hv, if_true, Int.toNat_natCast, h]
theorem append_bytes (a b : ByteArray) : (a ++ b).data.toList = a.data.toList ++ b.data.toList := by simp
theorem fold_asc : ∀ (l : List UInt8) (s : ByteArray), ascB l = true → ((l.map (fun c => (c.toNat : Int))).foldl (fun r n => r ++ Utf8.encode n) s) = ⟨(s.data.toList ++ l).toArray⟩
  | [], s, _ => by cases s; simp
  | c :: l, s, h => by
    have hc : c.toNat < 128 := by have := List.all_eq_true.1 h c (by simp); simpa using this
    have hl : ascB l = true := List.all_eq_true.2 fun x hx => List.all_eq_true.1 h x (by simp [hx])
    simp only [List.map_cons, List.foldl_cons]
    rw [fold_asc l _ hl, encode_asc hc, append_bytes]
    simp
theorem runesBytes_asc {l : List UInt8} (h : ascB l = true) : runesBytes ((l.map (·.toNat)).map (fun (n : Nat) => (n : Int))) = ⟨l.toArray⟩ := by
  unfold runesBytes
  rw [List.map_map]
  exact (fold_asc l ByteArray.empty h).trans (by simp)
/-- A form without numbers. -/
theorem decodeS_plain {s : ByteArray} (l : List UInt8) (hs : s.data.toList = l ++ [45]) (hl : l ≠ []) (ha : ascB l = true) (hz : s.size ≤ 1000) : decodeS s = some (l.map (·.toNat)) := by
  have hsz : s.size = l.length + 1 := by have := congrArg List.length hs; rw [Array.length_toList] at this; simpa using this
  have hll : 1 ≤ l.length := by cases l with | nil => exact absurd rfl hl | cons a b => simp
  have hget : (s.get! l.length).toNat = 45 := by
    rw [get!_at s l.length (by omega), ByteArray.getElem_eq_getElem_data]
    have : s.data.toList[l.length]? = some 45 := by rw [hs]; simp
    rw [Array.getElem?_toList] at this
    obtain ⟨h1, h2⟩ := Array.getElem?_eq_some_iff.1 this
    rw [h2]; rfl
  have hp : lastP s s.size = s.size := by
    rw [hsz]; unfold lastP; rw [if_pos hget]
  have hasc : ascB s.data.toList = true := by rw [hs]; unfold ascB; rw [List.all_append]; simp; exact fun x hx => by have := List.all_eq_true.1 ha x hx; simpa using this
  unfold decodeS
  rw [if_neg (by rw [hp, hasc]; simp; omega), hp, hsz]
  rw [hs, List.drop_eq_nil_of_le (by simp), show l.length + 1 - 1 = l.length by omega, List.take_left]
  rw [show l.length + 1 - (l.length + 1) + 1 = 0 + 1 by omega, dec_nil]
  rfl
end Go.Proofs.YtkaaldhejpaiiaaGreatDoor
