import Derived.Test.YtkaaldhejpaiiaaGreatDoorBu12
/- The document's text, at long labels. -/
namespace Go.Proofs.YtkaaldhejpaiiaaGreatDoor
open Go.RowKit

set_option maxRecDepth 100000 in
set_option maxHeartbeats 4000000 in
theorem textB (a : Option Addr) (c : Nat) (L : List Nat) (w : World) (hlen : L.length ≤ 1100000) (hsg : ∀ n ∈ L, Pm.sign n = true)
    (hcell : ∀ i (hi : i < L.length), ∃ g, a = some ⟨g, 0, none⟩ ∧ g < w.heap.size ∧ w.cell? ⟨g, i, none⟩ = some (iv L[i])) :
    Calls Tryz.prog 26 #[.slice a L.length c] w fun e w' => e = .returned (.string (runesBytes (lI L))) ∧ Below w.heap.size w w' := by
  go_enter Tryz.func26, Tryz.ntmps26
  go_wp2
  go_loopw [3, 4] (fun sv kv wr => ∃ k : Nat, k ≤ L.length ∧ kv = .int .i64 k ∧ sv = .string (runesBytes (lI (L.take k))) ∧ Below w.heap.size w wr) (fun _ kv _ => L.length - (intOf kv).toNat)
  case atStart => exact ⟨0, Nat.zero_le _, rfl, rfl, Below.refl _ _⟩
  case round =>
    obtain ⟨k, hk, rfl, rfl, hbw⟩ := hrel
    have hsize := runesBytes_size_le (lI (L.take k))
    rw [lI_len, List.length_take] at hsize
    obtain ⟨S, hS⟩ : ∃ S, runesBytes (lI (L.take k)) = S := ⟨_, rfl⟩
    rw [hS] at hsize
    rw [hS]
    have hsize : S.size ≤ 4400000 := by omega
    have HS : Hid (runesBytes (lI (L.take k)) = S) := hS
    clear hS
    by_cases hlt : k < L.length
    · obtain ⟨g, rfl, hg, hc⟩ := hcell k hlt
      have hsn := hsg L[k] (List.getElem_mem hlt)
      have hle := sign_le hsn
      have HT : Hid (runesBytes (lI (L.take (k + 1))) = S ++ Utf8.encode (L[k] : Int)) := by unfold Hid; rw [take_snoc_nat hlt, runesBytes_snoc, HS.out]
      have HV : Hid (Utf8.valid (L[k] : Int) = true) := valid_sign hsn
      obtain ⟨n, hn⟩ : ∃ n, L[k] = n := ⟨_, rfl⟩
      rw [hn] at hc hle HT HV
      have hcr : wr.cell? ⟨g, k, none⟩ = some (.int .i64 n) := (hbw.cell (p := ⟨g, k, none⟩) hg).trans hc
      have HB : Hid (Below w.heap.size w wr) := hbw
      have hsw := hbw.size
      clear hc hcell hsg hsn hbw hn
      by_cases h1 : (n : Int) < 128
      · have HE : Hid (Utf8.encode (n : Int) = ⟨[UInt8.ofNat n].toArray⟩) := by unfold Hid Utf8.encode; rw [if_pos HV.out]; simp; omega
        have hwr : IntKind.u8.wrap (n : Int) = n := by rw [IntKind.wrap_u8]; omega
        have hcv := run_oneString wr n (by omega)
        go_wp2
        go_roundw
        case rel => exact ⟨k + 1, by omega, by go_num, by rw [HT.out, HE.out], HB.out.alloc hsw _⟩
        case measure => simp [intOf]; omega
      · by_cases h2 : (n : Int) < 2048
        · have HE : Hid (Utf8.encode (n : Int) = ⟨[UInt8.ofNat (192 + n / 64), UInt8.ofNat (128 + n % 64)].toArray⟩) := by
            unfold Hid Utf8.encode; rw [if_pos HV.out]; simp only [Int.toNat_natCast]; rw [if_neg (by omega), if_pos (by omega)]
          have hw0 : IntKind.u8.wrap (192 + (n : Int) / 64) = 192 + (n : Int) / 64 := by rw [IntKind.wrap_u8]; omega
          have hw1 : IntKind.u8.wrap (128 + (n : Int) % 64) = 128 + (n : Int) % 64 := by rw [IntKind.wrap_u8]; omega
          have hcv := run_fresh wr [UInt8.ofNat (192 + n / 64), UInt8.ofNat (128 + n % 64)] 2 rfl (by omega)
          simp only [List.map_cons, List.map_nil, bv] at hcv
          rw [u8_of _ (by omega), u8_of _ (by omega)] at hcv
          simp only [Int.natCast_add, Int.natCast_ediv, Int.natCast_emod, Int.cast_ofNat_Int] at hcv
          obtain ⟨b0, hb0⟩ : ∃ b0, UInt8.ofNat (192 + n / 64) = b0 := ⟨_, rfl⟩
          obtain ⟨b1, hb1⟩ : ∃ b1, UInt8.ofNat (128 + n % 64) = b1 := ⟨_, rfl⟩
          rw [hb0, hb1] at hcv HE
          clear hb0 hb1
          go_wp2
          go_roundw
          case rel => exact ⟨k + 1, by omega, by go_num, by rw [HT.out, HE.out], HB.out.alloc hsw _⟩
          case measure => simp [intOf]; omega
        · by_cases h3 : (n : Int) < 65536
          · have HE : Hid (Utf8.encode (n : Int) = ⟨[UInt8.ofNat (224 + n / 4096), UInt8.ofNat (128 + n / 64 % 64), UInt8.ofNat (128 + n % 64)].toArray⟩) := by
              unfold Hid Utf8.encode; rw [if_pos HV.out]; simp only [Int.toNat_natCast]; rw [if_neg (by omega), if_neg (by omega), if_pos (by omega)]
            have hw0 : IntKind.u8.wrap (224 + (n : Int) / 4096) = 224 + (n : Int) / 4096 := by rw [IntKind.wrap_u8]; omega
            have hw1 : IntKind.u8.wrap (128 + (n : Int) / 64 % 64) = 128 + (n : Int) / 64 % 64 := by rw [IntKind.wrap_u8]; omega
            have hw2 : IntKind.u8.wrap (128 + (n : Int) % 64) = 128 + (n : Int) % 64 := by rw [IntKind.wrap_u8]; omega
            have hcv := run_fresh wr [UInt8.ofNat (224 + n / 4096), UInt8.ofNat (128 + n / 64 % 64), UInt8.ofNat (128 + n % 64)] 3 rfl (by omega)
            simp only [List.map_cons, List.map_nil, bv] at hcv
            rw [u8_of _ (by omega), u8_of _ (by omega), u8_of _ (by omega)] at hcv
            simp only [Int.natCast_add, Int.natCast_ediv, Int.natCast_emod, Int.cast_ofNat_Int] at hcv
            obtain ⟨b0, hb0⟩ : ∃ b0, UInt8.ofNat (224 + n / 4096) = b0 := ⟨_, rfl⟩
            obtain ⟨b1, hb1⟩ : ∃ b1, UInt8.ofNat (128 + n / 64 % 64) = b1 := ⟨_, rfl⟩
            obtain ⟨b2, hb2⟩ : ∃ b2, UInt8.ofNat (128 + n % 64) = b2 := ⟨_, rfl⟩
            rw [hb0, hb1, hb2] at hcv HE
            clear hb0 hb1 hb2
            go_wp2
            go_roundw
            case rel => exact ⟨k + 1, by omega, by go_num, by rw [HT.out, HE.out], HB.out.alloc hsw _⟩
            case measure => simp [intOf]; omega
          · have HE : Hid (Utf8.encode (n : Int) = ⟨[UInt8.ofNat (240 + n / 262144), UInt8.ofNat (128 + n / 4096 % 64), UInt8.ofNat (128 + n / 64 % 64), UInt8.ofNat (128 + n % 64)].toArray⟩) := by
              unfold Hid Utf8.encode; rw [if_pos HV.out]; simp only [Int.toNat_natCast]; rw [if_neg (by omega), if_neg (by omega), if_neg (by omega)]
            have hw0 : IntKind.u8.wrap (240 + (n : Int) / 262144) = 240 + (n : Int) / 262144 := by rw [IntKind.wrap_u8]; omega
            have hw1 : IntKind.u8.wrap (128 + (n : Int) / 4096 % 64) = 128 + (n : Int) / 4096 % 64 := by rw [IntKind.wrap_u8]; omega
            have hw2 : IntKind.u8.wrap (128 + (n : Int) / 64 % 64) = 128 + (n : Int) / 64 % 64 := by rw [IntKind.wrap_u8]; omega
            have hw3 : IntKind.u8.wrap (128 + (n : Int) % 64) = 128 + (n : Int) % 64 := by rw [IntKind.wrap_u8]; omega
            have hcv := run_fresh wr [UInt8.ofNat (240 + n / 262144), UInt8.ofNat (128 + n / 4096 % 64), UInt8.ofNat (128 + n / 64 % 64), UInt8.ofNat (128 + n % 64)] 4 rfl (by omega)
            simp only [List.map_cons, List.map_nil, bv] at hcv
            rw [u8_of _ (by omega), u8_of _ (by omega), u8_of _ (by omega), u8_of _ (by omega)] at hcv
            simp only [Int.natCast_add, Int.natCast_ediv, Int.natCast_emod, Int.cast_ofNat_Int] at hcv
            obtain ⟨b0, hb0⟩ : ∃ b0, UInt8.ofNat (240 + n / 262144) = b0 := ⟨_, rfl⟩
            obtain ⟨b1, hb1⟩ : ∃ b1, UInt8.ofNat (128 + n / 4096 % 64) = b1 := ⟨_, rfl⟩
            obtain ⟨b2, hb2⟩ : ∃ b2, UInt8.ofNat (128 + n / 64 % 64) = b2 := ⟨_, rfl⟩
            obtain ⟨b3, hb3⟩ : ∃ b3, UInt8.ofNat (128 + n % 64) = b3 := ⟨_, rfl⟩
            rw [hb0, hb1, hb2, hb3] at hcv HE
            clear hb0 hb1 hb2 hb3
            go_wp2
            go_roundw
            case rel => exact ⟨k + 1, by omega, by go_num, by rw [HT.out, HE.out], HB.out.alloc hsw _⟩
            case measure => simp [intOf]; omega
    · have e : L.take k = L := List.take_of_length_le (by omega)
      have HE : Hid (S = runesBytes (lI L)) := by unfold Hid; rw [← HS.out, e]
      clear e
      go_wp2
      go_ret
      exact ⟨by rw [← HE.out]; rfl, hbw⟩
end Go.Proofs.YtkaaldhejpaiiaaGreatDoor

