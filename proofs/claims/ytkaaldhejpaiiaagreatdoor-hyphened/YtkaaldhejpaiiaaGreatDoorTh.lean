/- UTF-8, there and back. -/
import Derived.Test.YtkaaldhejpaiiaaGreatDoorSg
import Derived.Test.YtkaaldhejpaiiaaGreatDoorQg
import Derived.Lib.MapLaws
import Derived.Lib.TrimUEq
import Derived.Lib.ValidLaws
namespace Go.Proofs.YtkaaldhejpaiiaaGreatDoor
open Go.RowKit

def runesD : Nat → List UInt8 → List Nat
  | 0, _ => []
  | b + 1, l => if l = [] then [] else (Lib.decodeL l).1 :: runesD b (l.drop (Lib.decodeL l).2)
theorem runesN_D (s : ByteArray) : ∀ b i, runesN s b i = runesD b (s.data.toList.drop i)
  | 0, _ => rfl
  | b + 1, i => by
    unfold runesN runesD
    by_cases h : i < s.size
    · rw [if_pos h, if_neg (drop_ne h), Lib.decodeL_drop, runesN_D s b, List.drop_drop]
    · rw [if_neg h, if_pos (List.drop_eq_nil_of_le (by rw [Array.length_toList]; show s.size ≤ i; omega))]
theorem runes_D (s : ByteArray) : runes s = runesD s.data.toList.length s.data.toList := by
  unfold runes; rw [runesN_D, List.drop_zero, Array.length_toList]; rfl

theorem toU (k : Nat) : k.toUInt8 = UInt8.ofNat k := rfl
set_option maxRecDepth 100000 in
theorem encode_list {n : Nat} (h : Pm.sign n = true) : (Utf8.encode (n : Int)).data.toList = Lib.encodeRune (n : Int) := by
  have hv := valid_sign h
  have hle := sign_le h
  have hsg : n < 55296 ∨ 57343 < n := by unfold Pm.sign at h; simp at h; omega
  unfold Lib.encodeRune
  by_cases h1 : n < 128
  · rw [encode_asc h1, Lib.encodeRuneZ_one (by omega) (by omega)]
    simp
  · by_cases h2 : n < 2048
    · unfold Utf8.encode
      rw [if_pos hv]
      simp only [Int.toNat_natCast]
      rw [if_neg (by omega), if_pos (by omega), Lib.encodeRuneZ_two (by omega) (by omega)]
      simp only [List.map_cons, List.map_nil, toU]
      rw [show (192 + (n : Int) / 64).toNat = 192 + n / 64 by omega, show (128 + (n : Int) % 64).toNat = 128 + n % 64 by omega]
    · by_cases h3 : n < 65536
      · unfold Utf8.encode
        rw [if_pos hv]
        simp only [Int.toNat_natCast]
        rw [if_neg (by omega), if_neg (by omega), if_pos (by omega), Lib.encodeRuneZ_three (by omega)]
        simp only [List.map_cons, List.map_nil, toU]
        rw [show (224 + (n : Int) / 4096).toNat = 224 + n / 4096 by omega, show (128 + (n : Int) / 64 % 64).toNat = 128 + n / 64 % 64 by omega, show (128 + (n : Int) % 64).toNat = 128 + n % 64 by omega]
      · unfold Utf8.encode
        rw [if_pos hv]
        simp only [Int.toNat_natCast]
        rw [if_neg (by omega), if_neg (by omega), if_neg (by omega), Lib.encodeRuneZ_four (by omega) (by omega)]
        simp only [List.map_cons, List.map_nil, toU]
        rw [show (240 + (n : Int) / 262144).toNat = 240 + n / 262144 by omega, show (128 + (n : Int) / 4096 % 64).toNat = 128 + n / 4096 % 64 by omega, show (128 + (n : Int) / 64 % 64).toNat = 128 + n / 64 % 64 by omega, show (128 + (n : Int) % 64).toNat = 128 + n % 64 by omega]
def bytesOf : List Nat → List UInt8
  | [] => []
  | n :: L => (Utf8.encode (n : Int)).data.toList ++ bytesOf L
theorem fold_bytes : ∀ (L : List Nat) (s : ByteArray), ((lI L).foldl (fun r n => r ++ Utf8.encode n) s).data.toList = s.data.toList ++ bytesOf L
  | [], s => by simp [lI, bytesOf]
  | n :: L, s => by
    show (((lI L).foldl (fun r n => r ++ Utf8.encode n) (s ++ Utf8.encode (n : Int)))).data.toList = _
    rw [fold_bytes L _, append_bytes, bytesOf, List.append_assoc]
theorem runesBytes_list (L : List Nat) : (runesBytes (lI L)).data.toList = bytesOf L := by
  unfold runesBytes; rw [fold_bytes]; simp

theorem decode_sign (l : List UInt8) : Pm.sign (Lib.decodeL l).1 = true := by
  rw [Lib.decodeL_N]
  generalize (l.getD 0 0).toNat = b0
  generalize (l.getD 1 0).toNat = b1
  generalize (l.getD 2 0).toNat = b2
  generalize (l.getD 3 0).toNat = b3
  unfold Lib.decodeN
  split
  · exact sign_t (by dsimp only; omega) (by dsimp only; omega)
  · split
    · split
      · exact sign_t (by dsimp only; omega) (by dsimp only; omega)
      · rfl
    · split
      · split
        · exact sign_t (by dsimp only; omega) (by dsimp only; omega)
        · rfl
      · split
        · split
          · exact sign_t (by dsimp only; omega) (by dsimp only; omega)
          · rfl
        · rfl
theorem valid_runes : ∀ (b : Nat) (l : List UInt8), l.length ≤ b → Lib.validD l = true → (∀ n ∈ runesD b l, Pm.sign n = true) ∧ bytesOf (runesD b l) = l
  | 0, l, hb, _ => by
    have : l = [] := List.eq_nil_of_length_eq_zero (by omega)
    subst this
    exact ⟨by simp [runesD], rfl⟩
  | b + 1, l, hb, hv => by
    unfold runesD
    by_cases h : l = []
    · rw [if_pos h]; exact ⟨by simp, by rw [h]; rfl⟩
    · rw [if_neg h]
      rw [Lib.validD_step l h] at hv
      split at hv
      · simp at hv
      · rename_i hg
        have hw := Lib.decodeL_width l
        have hpos : 1 ≤ l.length := List.length_pos_iff.2 h
        have ih := valid_runes b (l.drop (Lib.decodeL l).2) (by rw [List.length_drop]; omega) hv
        have hs := decode_sign l
        refine ⟨fun n hn => ?_, ?_⟩
        · rcases List.mem_cons.1 hn with rfl | hn
          · exact hs
          · exact ih.1 n hn
        · rw [bytesOf, ih.2, encode_list hs, Lib.encode_decode l h hg, List.take_append_drop]

set_option maxRecDepth 100000 in
set_option maxHeartbeats 1000000 in
theorem decode_enc {n : Nat} (h : Pm.sign n = true) (r : List UInt8) : Lib.decodeL ((Utf8.encode (n : Int)).data.toList ++ r) = (n, (Utf8.encode (n : Int)).data.toList.length) ∧ 1 ≤ (Utf8.encode (n : Int)).data.toList.length := by
  have hv := valid_sign h
  have hle := sign_le h
  have hsg : n < 55296 ∨ 57343 < n := by unfold Pm.sign at h; simp at h; omega
  have eb : ∀ k, k < 256 → (UInt8.ofNat k).toNat = k := fun k hk => by simp; omega
  unfold Utf8.encode
  rw [if_pos hv]
  simp only [Int.toNat_natCast]
  by_cases h1 : n < 128
  · rw [if_pos h1]
    refine ⟨?_, by simp⟩
    rw [Lib.decodeL_N]
    simp only [List.cons_append, List.nil_append, List.getD_cons_zero, List.length_cons, List.length_nil]
    rw [eb _ (by omega)]
    unfold Lib.decodeN
    rw [if_pos h1]
  · by_cases h2 : n < 2048
    · rw [if_neg h1, if_pos h2]
      refine ⟨?_, by simp⟩
      rw [Lib.decodeL_N]
      simp only [List.cons_append, List.nil_append, List.getD_cons_zero, List.getD_cons_succ, List.length_cons, List.length_nil]
      rw [eb _ (by omega), eb _ (by omega)]
      unfold Lib.decodeN
      have e : (192 + n / 64) % 32 * 64 + (128 + n % 64) % 64 = n := by omega
      rw [if_neg (by omega), if_pos ⟨by omega, by omega, by omega⟩, e, if_pos (by omega)]
    · by_cases h3 : n < 65536
      · rw [if_neg h1, if_neg h2, if_pos h3]
        refine ⟨?_, by simp⟩
        rw [Lib.decodeL_N]
        simp only [List.cons_append, List.nil_append, List.getD_cons_zero, List.getD_cons_succ, List.length_cons, List.length_nil]
        rw [eb _ (by omega), eb _ (by omega), eb _ (by omega)]
        unfold Lib.decodeN
        have e : (224 + n / 4096) % 16 * 4096 + (128 + n / 64 % 64) % 64 * 64 + (128 + n % 64) % 64 = n := by omega
        rw [if_neg (by omega), if_neg (by omega), if_pos ⟨by omega, ⟨by omega, by omega⟩, by omega, by omega⟩, e, if_pos (by omega)]
      · rw [if_neg h1, if_neg h2, if_neg h3]
        refine ⟨?_, by simp⟩
        rw [Lib.decodeL_N]
        simp only [List.cons_append, List.nil_append, List.getD_cons_zero, List.getD_cons_succ, List.length_cons, List.length_nil]
        rw [eb _ (by omega), eb _ (by omega), eb _ (by omega), eb _ (by omega)]
        unfold Lib.decodeN
        have e : (240 + n / 262144) % 8 * 262144 + (128 + n / 4096 % 64) % 64 * 4096 + (128 + n / 64 % 64) % 64 * 64 + (128 + n % 64) % 64 = n := by omega
        rw [if_neg (by omega), if_neg (by omega), if_neg (by omega), if_pos ⟨by omega, ⟨by omega, by omega⟩, ⟨by omega, by omega⟩, by omega, by omega⟩, e, if_pos (by omega)]
theorem bytes_runes : ∀ (L : List Nat), (∀ n ∈ L, Pm.sign n = true) → Lib.validD (bytesOf L) = true ∧ ∀ b, (bytesOf L).length ≤ b → runesD b (bytesOf L) = L
  | [], _ => ⟨rfl, fun b _ => by cases b <;> simp [runesD, bytesOf]⟩
  | n :: L, h => by
    have hs := h n (by simp)
    obtain ⟨h1, h2⟩ := decode_enc hs (bytesOf L)
    obtain ⟨ih1, ih2⟩ := bytes_runes L fun m hm => h m (by simp [hm])
    have hne : bytesOf (n :: L) ≠ [] := by
      rw [bytesOf]; intro e; have := (List.append_eq_nil_iff.1 e).1; rw [this] at h2; simp at h2
    have hgood : ¬ (n = 65533 ∧ (Utf8.encode (n : Int)).data.toList.length = 1) := by
      rintro ⟨rfl, e⟩
      exact absurd e (by decide)
    refine ⟨?_, fun b hb => ?_⟩
    · rw [Lib.validD_step _ hne, bytesOf, h1, if_neg hgood, List.drop_left]
      exact ih1
    · cases b with
      | zero => exact absurd (List.eq_nil_of_length_eq_zero (by omega)) hne
      | succ b =>
        unfold runesD
        rw [if_neg hne, bytesOf, h1, List.drop_left, ih2 b (by rw [bytesOf, List.length_append] at hb; omega)]
/-- A text of signs is read as they, and is UTF-8. -/
theorem runes_bytes {L : List Nat} (h : ∀ n ∈ L, Pm.sign n = true) : runes (runesBytes (lI L)) = L ∧ Lib.validD (runesBytes (lI L)).data.toList = true := by
  obtain ⟨h1, h2⟩ := bytes_runes L h
  rw [runes_D, runesBytes_list]
  exact ⟨h2 _ (Nat.le_refl _), h1⟩
/-- What is UTF-8 is the text of its signs. -/
theorem bytes_of_valid {s : ByteArray} (h : Lib.validD s.data.toList = true) : (∀ n ∈ runes s, Pm.sign n = true) ∧ runesBytes (lI (runes s)) = s := by
  obtain ⟨h1, h2⟩ := valid_runes s.data.toList.length s.data.toList (Nat.le_refl _) h
  rw [← runes_D] at h1 h2
  refine ⟨h1, ?_⟩
  have e := runesBytes_list (runes s)
  rw [h2] at e
  cases hs : runesBytes (lI (runes s)) with
  | mk d =>
    rw [hs] at e
    cases s with
    | mk d2 => congr 1; exact Array.toList_inj.1 e
end Go.Proofs.YtkaaldhejpaiiaaGreatDoor
