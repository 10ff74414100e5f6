/- pick, letters, sign, less. -/
import Derived.Test.YtkaaldhejpaiiaaGreatDoorOc
namespace Go.Proofs.YtkaaldhejpaiiaaGreatDoor
open Go.RowKit

def pickM (c : Int) (n : Nat) : Nat := ((if c < 0 then -(c + 1) else c) % (n : Int)).toNat
theorem pickM_lt (c : Int) (n : Nat) (h : 0 < n) : pickM c n < n := by
  unfold pickM
  have h1 := Int.emod_lt_of_pos (if c < 0 then -(c + 1) else c) (show (0 : Int) < (n : Int) by omega)
  have h2 := Int.emod_nonneg (if c < 0 then -(c + 1) else c) (show (n : Int) ≠ 0 by omega)
  omega
theorem pickM_int (c : Int) (n : Nat) (h : 0 < n) : ((pickM c n : Nat) : Int) = (if c < 0 then -(c + 1) else c) % (n : Int) := by
  unfold pickM
  have h2 := Int.emod_nonneg (if c < 0 then -(c + 1) else c) (show (n : Int) ≠ 0 by omega)
  omega
set_option maxHeartbeats 1000000 in
theorem pick_gen (c : Int) (n : Nat) (w : World) (h1 : -9223372036854775808 ≤ c) (h2 : c ≤ 9223372036854775807) (h0 : 0 < n) (hn : n ≤ 2000000) :
    Calls Tryz.prog 15 #[.int .i64 c, .int .i64 (n : Int)] w fun e w' => e = .returned (.int .i64 (pickM c n : Nat)) ∧ w' = w := by
  have hp := pickM_int c n h0
  have hn0 : (n : Int) ≠ 0 := by omega
  by_cases hc : c < 0
  · have hn : 0 ≤ -(c + 1) := by omega
    rw [if_pos hc] at hp
    have hb : Int.tmod (-(c + 1)) (n : Int) = (pickM c n : Nat) := by rw [Int.tmod_eq_emod_of_nonneg hn]; exact hp.symm
    go_enter Tryz.func15, Tryz.ntmps15
    go_wp2
    go_ret
    refine ⟨ret_int ?_, rfl⟩
    first | exact hb | (rw [← hb, ← Int.neg_tmod]) | omega
  · rw [if_neg hc] at hp
    have hb : Int.tmod c (n : Int) = (pickM c n : Nat) := by rw [Int.tmod_eq_emod_of_nonneg (by omega)]; exact hp.symm
    go_enter Tryz.func15, Tryz.ntmps15
    go_wp2
    go_ret
    refine ⟨ret_int ?_, rfl⟩
    first | exact hb | omega
theorem less_any (a b : Int) (w : World) : Calls Tryz.prog 22 #[.int .i64 a, .int .i64 b] w fun e w' => e = .returned (.int .i64 (if a < b then 1 else 0)) ∧ w' = w := by
  by_cases h : a < b
  · rw [if_pos h]
    go_enter Tryz.func22, Tryz.ntmps22
    go_wp2
    go_ret
    exact ⟨rfl, rfl⟩
  · rw [if_neg h]
    go_enter Tryz.func22, Tryz.ntmps22
    go_wp2
    go_ret
    exact ⟨rfl, rfl⟩

theorem bytesOf_append : ∀ A B : List Nat, bytesOf (A ++ B) = bytesOf A ++ bytesOf B
  | [], B => rfl
  | n :: A, B => by simp [bytesOf, bytesOf_append A B]
theorem text_list (L : List Nat) : (textOf L).data.toList = bytesOf L := runesBytes_list L
theorem bytes_ext {a b : ByteArray} (h : a.data.toList = b.data.toList) : a = b := ByteArray.ext (Array.toList_inj.1 h)
theorem textOf_append (A B : List Nat) : textOf (A ++ B) = textOf A ++ textOf B := by
  apply bytes_ext
  rw [text_list, append_bytes', text_list, text_list, bytesOf_append]
where append_bytes' {a b : ByteArray} : (a ++ b).data.toList = a.data.toList ++ b.data.toList := by rw [ByteArray.data_append]; simp
theorem textOf_one (n : Nat) : textOf [n] = Utf8.encode (n : Int) := by
  apply bytes_ext
  rw [text_list]
  simp [bytesOf]

/-- Raw numbers that lie in a slice. -/
structure Raw (w : World) (a : Option Addr) (zs : List Int) : Prop where
  len : zs.length ≤ 9223372036854775807
  cell : ∀ i (hi : i < zs.length), ∃ b off, a = some ⟨b, off, none⟩ ∧ b < w.heap.size ∧ w.cell? ⟨b, off + i, none⟩ = some (.int .i64 zs[i]) ∧ -9223372036854775808 ≤ zs[i] ∧ zs[i] ≤ 9223372036854775807
theorem Raw.keep {w w' : World} {a : Option Addr} {zs : List Int} (h : Raw w a zs) (hb : Below w.heap.size w w') : Raw w' a zs :=
  ⟨h.len, fun i hi => by
    obtain ⟨b, off, h1, h2, h3, h4⟩ := h.cell i hi
    exact ⟨b, off, h1, Nat.lt_of_lt_of_le h2 hb.size, (hb.cell (p := ⟨b, off + i, none⟩) h2).trans h3, h4⟩⟩

def let9 (k : Nat) : Nat := [97, 98, 122, 48, 55, 252, 233, 945, 28450].getD k 97
def lettersM (zs : List Int) : List Nat := 113 :: (zs.take 12).map fun c => let9 (pickM c 9)
def partL (zs : List Int) (k : Nat) : List Nat := 113 :: (zs.take k).map fun c => let9 (pickM c 9)
theorem partL_snoc (zs : List Int) (k : Nat) (h : k < zs.length) : partL zs (k + 1) = partL zs k ++ [let9 (pickM zs[k] 9)] := by
  unfold partL
  rw [List.take_succ_eq_append_getElem h, List.map_append]
  rfl
theorem partL_size (zs : List Int) (k : Nat) (h : k ≤ 12) : (textOf (partL zs k)).size ≤ 52 := by
  have h1 := textOf_len (partL zs k)
  have h2 : (partL zs k).length ≤ 13 := by unfold partL; simp; omega
  omega
set_option maxRecDepth 100000 in
set_option maxHeartbeats 4000000 in
theorem letters_any (a : Option Addr) (cap : Nat) (zs : List Int) (w : World) (hR : Raw w a zs) :
    Calls Tryz.prog 16 #[.slice a zs.length cap] w fun e w' => e = .returned (.string (textOf (lettersM zs))) ∧ Below w.heap.size w w' := by
  have hlen := hR.len
  go_enter Tryz.func16, Tryz.ntmps16
  go_wp2
  go_loopw [3, 4] (fun sv iv wr => ∃ k : Nat, k ≤ zs.length ∧ k ≤ 12 ∧ iv = .int .i64 k ∧ sv = .string (textOf (partL zs k)) ∧ Below w.heap.size w wr) (fun _ iv _ => zs.length - (intOf iv).toNat)
  case atStart => exact ⟨0, by omega, by omega, rfl, by congr 1, Below.refl _ _⟩
  case round =>
    obtain ⟨k, hk, hk12, rfl, rfl, hbw⟩ := hrel
    have hsz := partL_size zs k hk12
    obtain ⟨S, hS⟩ : ∃ S, textOf (partL zs k) = S := ⟨_, rfl⟩
    rw [hS] at hsz
    rw [hS]
    have HS : Hid (textOf (partL zs k) = S) := hS
    clear hS
    by_cases hlt : k < zs.length ∧ k < 12
    · obtain ⟨hl1, hl2⟩ := hlt
      obtain ⟨b, off, rfl, hbl, hc, hz1, hz2⟩ := hR.cell k hl1
      have HT : Hid (textOf (partL zs (k + 1)) = S ++ Utf8.encode (let9 (pickM zs[k] 9) : Int)) := by unfold Hid; rw [partL_snoc zs k hl1, textOf_append, HS.out, textOf_one]
      obtain ⟨z, hz⟩ : ∃ z, zs[k] = z := ⟨_, rfl⟩
      rw [hz] at hc hz1 hz2 HT
      have hc1 : wr.cell? ⟨b, off + k, none⟩ = some (.int .i64 z) := (hbw.cell (p := ⟨b, off + k, none⟩) hbl).trans hc
      have hpk := pick_gen z 9 wr hz1 hz2 (by omega) (by omega)
      have hp9 := pickM_lt z 9 (by omega)
      clear hc hR hz
      generalize pickM z 9 = p at hpk hp9 HT
      go_wp2_with fail
      refine hpk.mono ?_
      rintro e w' ⟨rfl, hw'⟩; rw [hw']; clear hw' hpk
      have HB : Hid (Below w.heap.size w wr) := hbw
      have hsw := hbw.size
      clear hbw
      rcases (by omega : p = 0 ∨ p = 1 ∨ p = 2 ∨ p = 3 ∨ p = 4 ∨ p = 5 ∨ p = 6 ∨ p = 7 ∨ p = 8) with rfl | rfl | rfl | rfl | rfl | rfl | rfl | rfl | rfl
      all_goals
        go_wp2
        go_roundw
        case rel => exact ⟨k + 1, by omega, by omega, by go_num, by rw [HT.out]; rfl, HB.out.alloc hsw _⟩
        case measure => simp [intOf]; omega
    · have e : partL zs k = lettersM zs := by
        unfold partL lettersM
        by_cases h12 : k = 12
        · rw [h12]
        · rw [List.take_of_length_le (show zs.length ≤ k by omega), List.take_of_length_le (show zs.length ≤ 12 by omega)]
      have HE : Hid (S = textOf (lettersM zs)) := by unfold Hid; rw [← HS.out, e]
      clear e hR
      by_cases hkl : (k : Int) < (zs.length : Int)
      all_goals
        go_wp2
        go_ret
        exact ⟨by rw [← HE.out]; rfl, hbw⟩

set_option maxRecDepth 100000 in
set_option maxHeartbeats 4000000 in
theorem sign_any (n : Nat) (w : World) (hs : Pm.sign n = true) :
    Calls Tryz.prog 18 #[.int .i64 (n : Int)] w fun e w' => e = .returned (.string (textOf [n])) ∧ Below w.heap.size w w' := by
  rw [textOf_one]
  have hle := sign_le hs
  have HV : Hid (Utf8.valid (n : Int) = true) := valid_sign hs
  clear hs
  by_cases h1 : (n : Int) < 128
  · have HE : Hid (Utf8.encode (n : Int) = ⟨[UInt8.ofNat n].toArray⟩) := by unfold Hid Utf8.encode; rw [if_pos HV.out]; simp; omega
    have hwr : IntKind.u8.wrap (n : Int) = n := by rw [IntKind.wrap_u8]; omega
    have hcv := run_oneString w n (by omega)
    go_enter Tryz.func18, Tryz.ntmps18
    go_wp2
    go_ret
    exact ⟨by rw [HE.out]; rfl, below_one _ _⟩
  · by_cases h2 : (n : Int) < 2048
    · have HE : Hid (Utf8.encode (n : Int) = ⟨[UInt8.ofNat (192 + n / 64), UInt8.ofNat (128 + n % 64)].toArray⟩) := by
        unfold Hid Utf8.encode; rw [if_pos HV.out]; simp only [Int.toNat_natCast]; rw [if_neg (by omega), if_pos (by omega)]
      have hw0 : IntKind.u8.wrap (192 + (n : Int) / 64) = 192 + (n : Int) / 64 := by rw [IntKind.wrap_u8]; omega
      have hw1 : IntKind.u8.wrap (128 + (n : Int) % 64) = 128 + (n : Int) % 64 := by rw [IntKind.wrap_u8]; omega
      have hcv := run_fresh w [UInt8.ofNat (192 + n / 64), UInt8.ofNat (128 + n % 64)] 2 rfl (by omega)
      simp only [List.map_cons, List.map_nil, bv] at hcv
      rw [u8_of _ (by omega), u8_of _ (by omega)] at hcv
      simp only [Int.natCast_add, Int.natCast_ediv, Int.natCast_emod, Int.cast_ofNat_Int] at hcv
      obtain ⟨b0, hb0⟩ : ∃ b0, UInt8.ofNat (192 + n / 64) = b0 := ⟨_, rfl⟩
      obtain ⟨b1, hb1⟩ : ∃ b1, UInt8.ofNat (128 + n % 64) = b1 := ⟨_, rfl⟩
      rw [hb0, hb1] at hcv HE
      clear hb0 hb1
      go_enter Tryz.func18, Tryz.ntmps18
      go_wp2
      go_ret
      exact ⟨by rw [HE.out]; rfl, below_one _ _⟩
    · by_cases h3 : (n : Int) < 65536
      · have HE : Hid (Utf8.encode (n : Int) = ⟨[UInt8.ofNat (224 + n / 4096), UInt8.ofNat (128 + n / 64 % 64), UInt8.ofNat (128 + n % 64)].toArray⟩) := by
          unfold Hid Utf8.encode; rw [if_pos HV.out]; simp only [Int.toNat_natCast]; rw [if_neg (by omega), if_neg (by omega), if_pos (by omega)]
        have hw0 : IntKind.u8.wrap (224 + (n : Int) / 4096) = 224 + (n : Int) / 4096 := by rw [IntKind.wrap_u8]; omega
        have hw1 : IntKind.u8.wrap (128 + (n : Int) / 64 % 64) = 128 + (n : Int) / 64 % 64 := by rw [IntKind.wrap_u8]; omega
        have hw2 : IntKind.u8.wrap (128 + (n : Int) % 64) = 128 + (n : Int) % 64 := by rw [IntKind.wrap_u8]; omega
        have hcv := run_fresh w [UInt8.ofNat (224 + n / 4096), UInt8.ofNat (128 + n / 64 % 64), UInt8.ofNat (128 + n % 64)] 3 rfl (by omega)
        simp only [List.map_cons, List.map_nil, bv] at hcv
        rw [u8_of _ (by omega), u8_of _ (by omega), u8_of _ (by omega)] at hcv
        simp only [Int.natCast_add, Int.natCast_ediv, Int.natCast_emod, Int.cast_ofNat_Int] at hcv
        obtain ⟨b0, hb0⟩ : ∃ b0, UInt8.ofNat (224 + n / 4096) = b0 := ⟨_, rfl⟩
        obtain ⟨b1, hb1⟩ : ∃ b1, UInt8.ofNat (128 + n / 64 % 64) = b1 := ⟨_, rfl⟩
        obtain ⟨b2, hb2⟩ : ∃ b2, UInt8.ofNat (128 + n % 64) = b2 := ⟨_, rfl⟩
        rw [hb0, hb1, hb2] at hcv HE
        clear hb0 hb1 hb2
        go_enter Tryz.func18, Tryz.ntmps18
        go_wp2
        go_ret
        exact ⟨by rw [HE.out]; rfl, below_one _ _⟩
      · have HE : Hid (Utf8.encode (n : Int) = ⟨[UInt8.ofNat (240 + n / 262144), UInt8.ofNat (128 + n / 4096 % 64), UInt8.ofNat (128 + n / 64 % 64), UInt8.ofNat (128 + n % 64)].toArray⟩) := by
          unfold Hid Utf8.encode; rw [if_pos HV.out]; simp only [Int.toNat_natCast]; rw [if_neg (by omega), if_neg (by omega), if_neg (by omega)]
        have hw0 : IntKind.u8.wrap (240 + (n : Int) / 262144) = 240 + (n : Int) / 262144 := by rw [IntKind.wrap_u8]; omega
        have hw1 : IntKind.u8.wrap (128 + (n : Int) / 4096 % 64) = 128 + (n : Int) / 4096 % 64 := by rw [IntKind.wrap_u8]; omega
        have hw2 : IntKind.u8.wrap (128 + (n : Int) / 64 % 64) = 128 + (n : Int) / 64 % 64 := by rw [IntKind.wrap_u8]; omega
        have hw3 : IntKind.u8.wrap (128 + (n : Int) % 64) = 128 + (n : Int) % 64 := by rw [IntKind.wrap_u8]; omega
        have hcv := run_fresh w [UInt8.ofNat (240 + n / 262144), UInt8.ofNat (128 + n / 4096 % 64), UInt8.ofNat (128 + n / 64 % 64), UInt8.ofNat (128 + n % 64)] 4 rfl (by omega)
        simp only [List.map_cons, List.map_nil, bv] at hcv
        rw [u8_of _ (by omega), u8_of _ (by omega), u8_of _ (by omega), u8_of _ (by omega)] at hcv
        simp only [Int.natCast_add, Int.natCast_ediv, Int.natCast_emod, Int.cast_ofNat_Int] at hcv
        obtain ⟨b0, hb0⟩ : ∃ b0, UInt8.ofNat (240 + n / 262144) = b0 := ⟨_, rfl⟩
        obtain ⟨b1, hb1⟩ : ∃ b1, UInt8.ofNat (128 + n / 4096 % 64) = b1 := ⟨_, rfl⟩
        obtain ⟨b2, hb2⟩ : ∃ b2, UInt8.ofNat (128 + n / 64 % 64) = b2 := ⟨_, rfl⟩
        obtain ⟨b3, hb3⟩ : ∃ b3, UInt8.ofNat (128 + n % 64) = b3 := ⟨_, rfl⟩
        rw [hb0, hb1, hb2, hb3] at hcv HE
        clear hb0 hb1 hb2 hb3
        go_enter Tryz.func18, Tryz.ntmps18
        go_wp2
        go_ret
        exact ⟨by rw [HE.out]; rfl, below_one _ _⟩
end Go.Proofs.YtkaaldhejpaiiaaGreatDoor
