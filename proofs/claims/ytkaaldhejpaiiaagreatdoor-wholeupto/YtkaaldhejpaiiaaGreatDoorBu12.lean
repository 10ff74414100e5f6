import Derived.Test.YtkaaldhejpaiiaaGreatDoorBu11
import Derived.Test.YtkaaldhejpaiiaaGreatDoorBu10
import Derived.Lib.MapLaws
import Derived.Lib.TrimUEq
import Derived.Lib.ValidLaws
import Derived.Test.YtkaaldhejpaiiaaGreatDoorBu09
/- The document's answer: Text. -/
namespace Go.Proofs.YtkaaldhejpaiiaaGreatDoor
open Go.RowKit

def lI (L : List Nat) : List Int := L.map (fun (n : Nat) => (n : Int))
theorem runesBytes_snoc (L : List Nat) (n : Nat) : runesBytes (lI (L ++ [n])) = runesBytes (lI L) ++ Utf8.encode (n : Int) := by
  unfold runesBytes lI; rw [List.map_append, List.foldl_append]; rfl
theorem lI_len (L : List Nat) : (lI L).length = L.length := by simp [lI]
theorem valid_sign {n : Nat} (h : Pm.sign n = true) : Utf8.valid (n : Int) = true := by
  unfold Pm.sign at h
  unfold Utf8.valid
  simp at h ⊢
  omega
theorem run_fresh (W : World) (bs : List UInt8) (m : Nat) (hm : bs.length = m) (hm2 : m ≤ 4) :
    (convert 30 9 (.slice (some ⟨W.heap.size, 0, none⟩) m m)).run Tryz.prog (W.alloc (.cells (bs.map bv).toArray 5)) = .ok (.string ⟨bs.toArray⟩) (W.alloc (.cells (bs.map bv).toArray 5)) := by
  have ho : (W.alloc (.cells (bs.map bv).toArray 5)).ownsRow 0 5 1 (.slice (some ⟨W.heap.size, 0, none⟩) m m) m (bs.map bv) := by
    refine ⟨by simp [hm], .inr ⟨W.heap.size, m, _, rfl, Nat.zero_le _, Go.heap_alloc_new W _, Nat.le_refl _, by unfold maxLen; omega, by simp [hm], ?_⟩⟩
    rw [Nat.mul_one, ← hm, List.take_of_length_le (by simp)]
  exact run_formString _ 0 m _ bs hm ho
theorem u8_of (k : Nat) (h : k < 256) : ((UInt8.ofNat k).toNat : Int) = (k : Int) := by simp; omega

set_option maxRecDepth 100000 in
set_option maxHeartbeats 4000000 in
theorem text_any (a : Option Addr) (c : Nat) (L : List Nat) (w : World) (hlen : L.length ≤ 1000) (hsg : ∀ n ∈ L, Pm.sign n = true)
    (hcell : ∀ i (hi : i < L.length), ∃ g, a = some ⟨g, 0, none⟩ ∧ g < w.heap.size ∧ w.cell? ⟨g, i, none⟩ = some (iv L[i])) :
    Calls Tryz.prog 26 #[.slice a L.length c] w fun e w' => e = .returned (.string (runesBytes (lI L))) ∧ Below w.heap.size w w' := by
  go_enter Tryz.func26, Tryz.ntmps26
  go_wp2
  go_loopw [3, 4] (fun sv kv wr => ∃ k : Nat, k ≤ L.length ∧ kv = .int .i64 k ∧ sv = .string (runesBytes (lI (L.take k))) ∧ Below w.heap.size w wr) (fun _ kv _ => L.length - (intOf kv).toNat)
  case atStart => exact ⟨0, Nat.zero_le _, rfl, rfl, Below.refl _ _⟩
  case round =>
    obtain ⟨k, hk, rfl, rfl, hbw⟩ := hrel
    have hsize := runesBytes_size_le (lI (L.take k))
    rw [lI_len, List.length_take] at hsize
    obtain ⟨S, hS⟩ : ∃ S, runesBytes (lI (L.take k)) = S := ⟨_, rfl⟩
    rw [hS] at hsize
    rw [hS]
    have hsize : S.size ≤ 4000 := by omega
    have HS : Hid (runesBytes (lI (L.take k)) = S) := hS
    clear hS
    by_cases hlt : k < L.length
    · obtain ⟨g, rfl, hg, hc⟩ := hcell k hlt
      have hsn := hsg L[k] (List.getElem_mem hlt)
      have hle := sign_le hsn
      have HT : Hid (runesBytes (lI (L.take (k + 1))) = S ++ Utf8.encode (L[k] : Int)) := by unfold Hid; rw [take_snoc_nat hlt, runesBytes_snoc, HS.out]
      have HV : Hid (Utf8.valid (L[k] : Int) = true) := valid_sign hsn
      obtain ⟨n, hn⟩ : ∃ n, L[k] = n := ⟨_, rfl⟩
      rw [hn] at hc hle HT HV
      have hcr : wr.cell? ⟨g, k, none⟩ = some (.int .i64 n) := (hbw.cell (p := ⟨g, k, none⟩) hg).trans hc
      have HB : Hid (Below w.heap.size w wr) := hbw
      have hsw := hbw.size
      clear hc hcell hsg hsn hbw hn
      by_cases h1 : (n : Int) < 128
      · have HE : Hid (Utf8.encode (n : Int) = ⟨[UInt8.ofNat n].toArray⟩) := by unfold Hid Utf8.encode; rw [if_pos HV.out]; simp; omega
        have hwr : IntKind.u8.wrap (n : Int) = n := by rw [IntKind.wrap_u8]; omega
        have hcv := run_oneString wr n (by omega)
        go_wp2
        go_roundw
        case rel => exact ⟨k + 1, by omega, by go_num, by rw [HT.out, HE.out], HB.out.alloc hsw _⟩
        case measure => simp [intOf]; omega
      · by_cases h2 : (n : Int) < 2048
        · have HE : Hid (Utf8.encode (n : Int) = ⟨[UInt8.ofNat (192 + n / 64), UInt8.ofNat (128 + n % 64)].toArray⟩) := by
            unfold Hid Utf8.encode; rw [if_pos HV.out]; simp only [Int.toNat_natCast]; rw [if_neg (by omega), if_pos (by omega)]
          have hw0 : IntKind.u8.wrap (192 + (n : Int) / 64) = 192 + (n : Int) / 64 := by rw [IntKind.wrap_u8]; omega
          have hw1 : IntKind.u8.wrap (128 + (n : Int) % 64) = 128 + (n : Int) % 64 := by rw [IntKind.wrap_u8]; omega
          have hcv := run_fresh wr [UInt8.ofNat (192 + n / 64), UInt8.ofNat (128 + n % 64)] 2 rfl (by omega)
          simp only [List.map_cons, List.map_nil, bv] at hcv
          rw [u8_of _ (by omega), u8_of _ (by omega)] at hcv
          simp only [Int.natCast_add, Int.natCast_ediv, Int.natCast_emod, Int.cast_ofNat_Int] at hcv
          obtain ⟨b0, hb0⟩ : ∃ b0, UInt8.ofNat (192 + n / 64) = b0 := ⟨_, rfl⟩
          obtain ⟨b1, hb1⟩ : ∃ b1, UInt8.ofNat (128 + n % 64) = b1 := ⟨_, rfl⟩
          rw [hb0, hb1] at hcv HE
          clear hb0 hb1
          go_wp2
          go_roundw
          case rel => exact ⟨k + 1, by omega, by go_num, by rw [HT.out, HE.out], HB.out.alloc hsw _⟩
          case measure => simp [intOf]; omega
        · by_cases h3 : (n : Int) < 65536
          · have HE : Hid (Utf8.encode (n : Int) = ⟨[UInt8.ofNat (224 + n / 4096), UInt8.ofNat (128 + n / 64 % 64), UInt8.ofNat (128 + n % 64)].toArray⟩) := by
              unfold Hid Utf8.encode; rw [if_pos HV.out]; simp only [Int.toNat_natCast]; rw [if_neg (by omega), if_neg (by omega), if_pos (by omega)]
            have hw0 : IntKind.u8.wrap (224 + (n : Int) / 4096) = 224 + (n : Int) / 4096 := by rw [IntKind.wrap_u8]; omega
            have hw1 : IntKind.u8.wrap (128 + (n : Int) / 64 % 64) = 128 + (n : Int) / 64 % 64 := by rw [IntKind.wrap_u8]; omega
            have hw2 : IntKind.u8.wrap (128 + (n : Int) % 64) = 128 + (n : Int) % 64 := by rw [IntKind.wrap_u8]; omega
            have hcv := run_fresh wr [UInt8.ofNat (224 + n / 4096), UInt8.ofNat (128 + n / 64 % 64), UInt8.ofNat (128 + n % 64)] 3 rfl (by omega)
            simp only [List.map_cons, List.map_nil, bv] at hcv
            rw [u8_of _ (by omega), u8_of _ (by omega), u8_of _ (by omega)] at hcv
            simp only [Int.natCast_add, Int.natCast_ediv, Int.natCast_emod, Int.cast_ofNat_Int] at hcv
            obtain ⟨b0, hb0⟩ : ∃ b0, UInt8.ofNat (224 + n / 4096) = b0 := ⟨_, rfl⟩
            obtain ⟨b1, hb1⟩ : ∃ b1, UInt8.ofNat (128 + n / 64 % 64) = b1 := ⟨_, rfl⟩
            obtain ⟨b2, hb2⟩ : ∃ b2, UInt8.ofNat (128 + n % 64) = b2 := ⟨_, rfl⟩
            rw [hb0, hb1, hb2] at hcv HE
            clear hb0 hb1 hb2
            go_wp2
            go_roundw
            case rel => exact ⟨k + 1, by omega, by go_num, by rw [HT.out, HE.out], HB.out.alloc hsw _⟩
            case measure => simp [intOf]; omega
          · have HE : Hid (Utf8.encode (n : Int) = ⟨[UInt8.ofNat (240 + n / 262144), UInt8.ofNat (128 + n / 4096 % 64), UInt8.ofNat (128 + n / 64 % 64), UInt8.ofNat (128 + n % 64)].toArray⟩) := by
              unfold Hid Utf8.encode; rw [if_pos HV.out]; simp only [Int.toNat_natCast]; rw [if_neg (by omega), if_neg (by omega), if_neg (by omega)]
            have hw0 : IntKind.u8.wrap (240 + (n : Int) / 262144) = 240 + (n : Int) / 262144 := by rw [IntKind.wrap_u8]; omega
            have hw1 : IntKind.u8.wrap (128 + (n : Int) / 4096 % 64) = 128 + (n : Int) / 4096 % 64 := by rw [IntKind.wrap_u8]; omega
            have hw2 : IntKind.u8.wrap (128 + (n : Int) / 64 % 64) = 128 + (n : Int) / 64 % 64 := by rw [IntKind.wrap_u8]; omega
            have hw3 : IntKind.u8.wrap (128 + (n : Int) % 64) = 128 + (n : Int) % 64 := by rw [IntKind.wrap_u8]; omega
            have hcv := run_fresh wr [UInt8.ofNat (240 + n / 262144), UInt8.ofNat (128 + n / 4096 % 64), UInt8.ofNat (128 + n / 64 % 64), UInt8.ofNat (128 + n % 64)] 4 rfl (by omega)
            simp only [List.map_cons, List.map_nil, bv] at hcv
            rw [u8_of _ (by omega), u8_of _ (by omega), u8_of _ (by omega), u8_of _ (by omega)] at hcv
            simp only [Int.natCast_add, Int.natCast_ediv, Int.natCast_emod, Int.cast_ofNat_Int] at hcv
            obtain ⟨b0, hb0⟩ : ∃ b0, UInt8.ofNat (240 + n / 262144) = b0 := ⟨_, rfl⟩
            obtain ⟨b1, hb1⟩ : ∃ b1, UInt8.ofNat (128 + n / 4096 % 64) = b1 := ⟨_, rfl⟩
            obtain ⟨b2, hb2⟩ : ∃ b2, UInt8.ofNat (128 + n / 64 % 64) = b2 := ⟨_, rfl⟩
            obtain ⟨b3, hb3⟩ : ∃ b3, UInt8.ofNat (128 + n % 64) = b3 := ⟨_, rfl⟩
            rw [hb0, hb1, hb2, hb3] at hcv HE
            clear hb0 hb1 hb2 hb3
            go_wp2
            go_roundw
            case rel => exact ⟨k + 1, by omega, by go_num, by rw [HT.out, HE.out], HB.out.alloc hsw _⟩
            case measure => simp [intOf]; omega
    · have e : L.take k = L := List.take_of_length_le (by omega)
      have HE : Hid (S = runesBytes (lI L)) := by unfold Hid; rw [← HS.out, e]
      clear e
      go_wp2
      go_ret
      exact ⟨by rw [← HE.out]; rfl, hbw⟩
end Go.Proofs.YtkaaldhejpaiiaaGreatDoor

/- UTF-8, there and back. -/
namespace Go.Proofs.YtkaaldhejpaiiaaGreatDoor
open Go.RowKit

def runesD : Nat → List UInt8 → List Nat
  | 0, _ => []
  | b + 1, l => if l = [] then [] else (Lib.decodeL l).1 :: runesD b (l.drop (Lib.decodeL l).2)
theorem runesN_D (s : ByteArray) : ∀ b i, runesN s b i = runesD b (s.data.toList.drop i)
  | 0, _ => rfl
  | b + 1, i => by
    unfold runesN runesD
    by_cases h : i < s.size
    · rw [if_pos h, if_neg (drop_ne h), Lib.decodeL_drop, runesN_D s b, List.drop_drop]
    · rw [if_neg h, if_pos (List.drop_eq_nil_of_le (by rw [Array.length_toList]; show s.size ≤ i; omega))]
theorem runes_D (s : ByteArray) : runes s = runesD s.data.toList.length s.data.toList := by
  unfold runes; rw [runesN_D, List.drop_zero, Array.length_toList]; rfl

theorem toU (k : Nat) : k.toUInt8 = UInt8.ofNat k := rfl
set_option maxRecDepth 100000 in
theorem encode_list {n : Nat} (h : Pm.sign n = true) : (Utf8.encode (n : Int)).data.toList = Lib.encodeRune (n : Int) := by
  have hv := valid_sign h
  have hle := sign_le h
  have hsg : n < 55296 ∨ 57343 < n := by unfold Pm.sign at h; simp at h; omega
  unfold Lib.encodeRune
  by_cases h1 : n < 128
  · rw [encode_asc h1, Lib.encodeRuneZ_one (by omega) (by omega)]
    simp
  · by_cases h2 : n < 2048
    · unfold Utf8.encode
      rw [if_pos hv]
      simp only [Int.toNat_natCast]
      rw [if_neg (by omega), if_pos (by omega), Lib.encodeRuneZ_two (by omega) (by omega)]
      simp only [List.map_cons, List.map_nil, toU]
      rw [show (192 + (n : Int) / 64).toNat = 192 + n / 64 by omega, show (128 + (n : Int) % 64).toNat = 128 + n % 64 by omega]
    · by_cases h3 : n < 65536
      · unfold Utf8.encode
        rw [if_pos hv]
        simp only [Int.toNat_natCast]
        rw [if_neg (by omega), if_neg (by omega), if_pos (by omega), Lib.encodeRuneZ_three (by omega)]
        simp only [List.map_cons, List.map_nil, toU]
        rw [show (224 + (n : Int) / 4096).toNat = 224 + n / 4096 by omega, show (128 + (n : Int) / 64 % 64).toNat = 128 + n / 64 % 64 by omega, show (128 + (n : Int) % 64).toNat = 128 + n % 64 by omega]
      · unfold Utf8.encode
        rw [if_pos hv]
        simp only [Int.toNat_natCast]
        rw [if_neg (by omega), if_neg (by omega), if_neg (by omega), Lib.encodeRuneZ_four (by omega) (by omega)]
        simp only [List.map_cons, List.map_nil, toU]
        rw [show (240 + (n : Int) / 262144).toNat = 240 + n / 262144 by omega, show (128 + (n : Int) / 4096 % 64).toNat = 128 + n / 4096 % 64 by omega, show (128 + (n : Int) / 64 % 64).toNat = 128 + n / 64 % 64 by omega, show (128 + (n : Int) % 64).toNat = 128 + n % 64 by omega]
def bytesOf : List Nat → List UInt8
  | [] => []
  | n :: L => (Utf8.encode (n : Int)).data.toList ++ bytesOf L
theorem fold_bytes : ∀ (L : List Nat) (s : ByteArray), ((lI L).foldl (fun r n => r ++ Utf8.encode n) s).data.toList = s.data.toList ++ bytesOf L
  | [], s => by simp [lI, bytesOf]
  | n :: L, s => by
    show (((lI L).foldl (fun r n => r ++ Utf8.encode n) (s ++ Utf8.encode (n : Int)))).data.toList = _
    rw [fold_bytes L _, append_bytes, bytesOf, List.append_assoc]
theorem runesBytes_list (L : List Nat) : (runesBytes (lI L)).data.toList = bytesOf L := by
  unfold runesBytes; rw [fold_bytes]; simp

theorem decode_sign (l : List UInt8) : Pm.sign (Lib.decodeL l).1 = true := by
  rw [Lib.decodeL_N]
  generalize (l.getD 0 0).toNat = b0
  generalize (l.getD 1 0).toNat = b1
  generalize (l.getD 2 0).toNat = b2
  generalize (l.getD 3 0).toNat = b3
  unfold Lib.decodeN
  split
  · exact sign_t (by dsimp only; omega) (by dsimp only; omega)
  · split
    · split
      · exact sign_t (by dsimp only; omega) (by dsimp only; omega)
      · rfl
    · split
      · split
        · exact sign_t (by dsimp only; omega) (by dsimp only; omega)
        · rfl
      · split
        · split
          · exact sign_t (by dsimp only; omega) (by dsimp only; omega)
          · rfl
        · rfl
theorem valid_runes : ∀ (b : Nat) (l : List UInt8), l.length ≤ b → Lib.validD l = true → (∀ n ∈ runesD b l, Pm.sign n = true) ∧ bytesOf (runesD b l) = l
  | 0, l, hb, _ => by
    have : l = [] := List.eq_nil_of_length_eq_zero (by omega)
    subst this
    exact ⟨by simp [runesD], rfl⟩
  | b + 1, l, hb, hv => by
    unfold runesD
    by_cases h : l = []
    · rw [if_pos h]; exact ⟨by simp, by rw [h]; rfl⟩
    · rw [if_neg h]
      rw [Lib.validD_step l h] at hv
      split at hv
      · simp at hv
      · rename_i hg
        have hw := Lib.decodeL_width l
        have hpos : 1 ≤ l.length := List.length_pos_iff.2 h
        have ih := valid_runes b (l.drop (Lib.decodeL l).2) (by rw [List.length_drop]; omega) hv
        have hs := decode_sign l
        refine ⟨fun n hn => ?_, ?_⟩
        · rcases List.mem_cons.1 hn with rfl | hn
          · exact hs
          · exact ih.1 n hn
        · rw [bytesOf, ih.2, encode_list hs, Lib.encode_decode l h hg, List.take_append_drop]

set_option maxRecDepth 100000 in
set_option maxHeartbeats 1000000 in
theorem decode_enc {n : Nat} (h : Pm.sign n = true) (r : List UInt8) : Lib.decodeL ((Utf8.encode (n : Int)).data.toList ++ r) = (n, (Utf8.encode (n : Int)).data.toList.length) ∧ 1 ≤ (Utf8.encode (n : Int)).data.toList.length := by
  have hv := valid_sign h
  have hle := sign_le h
  have hsg : n < 55296 ∨ 57343 < n := by unfold Pm.sign at h; simp at h; omega
  have eb : ∀ k, k < 256 → (UInt8.ofNat k).toNat = k := fun k hk => by simp; omega
  unfold Utf8.encode
  rw [if_pos hv]
  simp only [Int.toNat_natCast]
  by_cases h1 : n < 128
  · rw [if_pos h1]
    refine ⟨?_, by simp⟩
    rw [Lib.decodeL_N]
    simp only [List.cons_append, List.nil_append, List.getD_cons_zero, List.length_cons, List.length_nil]
    rw [eb _ (by omega)]
    unfold Lib.decodeN
    rw [if_pos h1]
  · by_cases h2 : n < 2048
    · rw [if_neg h1, if_pos h2]
      refine ⟨?_, by simp⟩
      rw [Lib.decodeL_N]
      simp only [List.cons_append, List.nil_append, List.getD_cons_zero, List.getD_cons_succ, List.length_cons, List.length_nil]
      rw [eb _ (by omega), eb _ (by omega)]
      unfold Lib.decodeN
      have e : (192 + n / 64) % 32 * 64 + (128 + n % 64) % 64 = n := by omega
      rw [if_neg (by omega), if_pos ⟨by omega, by omega, by omega⟩, e, if_pos (by omega)]
    · by_cases h3 : n < 65536
      · rw [if_neg h1, if_neg h2, if_pos h3]
        refine ⟨?_, by simp⟩
        rw [Lib.decodeL_N]
        simp only [List.cons_append, List.nil_append, List.getD_cons_zero, List.getD_cons_succ, List.length_cons, List.length_nil]
        rw [eb _ (by omega), eb _ (by omega), eb _ (by omega)]
        unfold Lib.decodeN
        have e : (224 + n / 4096) % 16 * 4096 + (128 + n / 64 % 64) % 64 * 64 + (128 + n % 64) % 64 = n := by omega
        rw [if_neg (by omega), if_neg (by omega), if_pos ⟨by omega, ⟨by omega, by omega⟩, by omega, by omega⟩, e, if_pos (by omega)]
      · rw [if_neg h1, if_neg h2, if_neg h3]
        refine ⟨?_, by simp⟩
        rw [Lib.decodeL_N]
        simp only [List.cons_append, List.nil_append, List.getD_cons_zero, List.getD_cons_succ, List.length_cons, List.length_nil]
        rw [eb _ (by omega), eb _ (by omega), eb _ (by omega), eb _ (by omega)]
        unfold Lib.decodeN
        have e : (240 + n / 262144) % 8 * 262144 + (128 + n / 4096 % 64) % 64 * 4096 + (128 + n / 64 % 64) % 64 * 64 + (128 + n % 64) % 64 = n := by omega
        rw [if_neg (by omega), if_neg (by omega), if_neg (by omega), if_pos ⟨by omega, ⟨by omega, by omega⟩, ⟨by omega, by omega⟩, by omega, by omega⟩, e, if_pos (by omega)]
theorem bytes_runes : ∀ (L : List Nat), (∀ n ∈ L, Pm.sign n = true) → Lib.validD (bytesOf L) = true ∧ ∀ b, (bytesOf L).length ≤ b → runesD b (bytesOf L) = L
  | [], _ => ⟨rfl, fun b _ => by cases b <;> simp [runesD, bytesOf]⟩
  | n :: L, h => by
    have hs := h n (by simp)
    obtain ⟨h1, h2⟩ := decode_enc hs (bytesOf L)
    obtain ⟨ih1, ih2⟩ := bytes_runes L fun m hm => h m (by simp [hm])
    have hne : bytesOf (n :: L) ≠ [] := by
      rw [bytesOf]; intro e; have := (List.append_eq_nil_iff.1 e).1; rw [this] at h2; simp at h2
    have hgood : ¬ (n = 65533 ∧ (Utf8.encode (n : Int)).data.toList.length = 1) := by
      rintro ⟨rfl, e⟩
      exact absurd e (by decide)
    refine ⟨?_, fun b hb => ?_⟩
    · rw [Lib.validD_step _ hne, bytesOf, h1, if_neg hgood, List.drop_left]
      exact ih1
    · cases b with
      | zero => exact absurd (List.eq_nil_of_length_eq_zero (by omega)) hne
      | succ b =>
        unfold runesD
        rw [if_neg hne, bytesOf, h1, List.drop_left, ih2 b (by rw [bytesOf, List.length_append] at hb; omega)]
/-- A text of signs is read as they, and is UTF-8. -/
theorem runes_bytes {L : List Nat} (h : ∀ n ∈ L, Pm.sign n = true) : runes (runesBytes (lI L)) = L ∧ Lib.validD (runesBytes (lI L)).data.toList = true := by
  obtain ⟨h1, h2⟩ := bytes_runes L h
  rw [runes_D, runesBytes_list]
  exact ⟨h2 _ (Nat.le_refl _), h1⟩
/-- What is UTF-8 is the text of its signs. -/
theorem bytes_of_valid {s : ByteArray} (h : Lib.validD s.data.toList = true) : (∀ n ∈ runes s, Pm.sign n = true) ∧ runesBytes (lI (runes s)) = s := by
  obtain ⟨h1, h2⟩ := valid_runes s.data.toList.length s.data.toList (Nat.le_refl _) h
  rw [← runes_D] at h1 h2
  refine ⟨h1, ?_⟩
  have e := runesBytes_list (runes s)
  rw [h2] at e
  cases hs : runesBytes (lI (runes s)) with
  | mk d =>
    rw [hs] at e
    cases s with
    | mk d2 => congr 1; exact Array.toList_inj.1 e
end Go.Proofs.YtkaaldhejpaiiaaGreatDoor

/- Encode at every text. -/
namespace Go.Proofs.YtkaaldhejpaiiaaGreatDoor
open Go.RowKit

/-- The form of a text. -/
def formOf (s : ByteArray) : ByteArray := ⟨(encS (runes s) (ysOf (runes s))).toArray⟩
inductive EncR (s : ByteArray) : Value → Prop where
  | bad (h : Lib.validD s.data.toList = false) : EncR s (.tuple #[.string { data := #[] }, .int .i64 1])
  | long (h : Lib.validD s.data.toList = true) (hl : 1000 < s.size) : EncR s (.tuple #[.string { data := #[] }, .int .i64 9])
  | ok (h : Lib.validD s.data.toList = true) (hl : s.size ≤ 1000) : EncR s (.tuple #[.string (formOf s), .int .i64 0])

theorem Encode_any (s : ByteArray) (w : World) (hs : s.size ≤ 9223372036854775807) (hT : Lib.Utf8Tabs 1 2 w) :
    Calls Tryz.prog 63 #[.string s] w fun e w' => (∃ v, e = .returned v ∧ EncR s v) ∧ Below w.heap.size w w' := by
  cases hv : Lib.validD s.data.toList with
  | false => exact (Encode_bad s w hs hT hv).mono (by rintro e w' ⟨rfl, hb⟩; exact ⟨⟨_, rfl, .bad hv⟩, hb⟩)
  | true =>
    by_cases hl : 1000 < s.size
    · exact (Encode_long s w hs hT hv hl).mono (by rintro e w' ⟨rfl, hb⟩; exact ⟨⟨_, rfl, .long hv hl⟩, hb⟩)
    · have hrl := runes_len s
      have hsg := (bytes_of_valid hv).1
      have hol := oth_len (runes s)
      have hsl := (sorted_perm (oth (runes s))).length_eq
      have hql := squash_len (sorted (oth (runes s)))
      refine (Encode_ok s w (sorted (oth (runes s))) (ysOf (runes s)) hT hv (by omega) (sortOk_any _ (by omega)) (compOk_any _ (by omega)) (enc_parts (ysOf_ys _) hsg (by omega)).1 (by unfold ysOf; omega)).mono ?_
      rintro e w' ⟨rfl, hb⟩
      exact ⟨⟨_, rfl, .ok hv (by omega)⟩, hb⟩

theorem each_len (sgn : Nat) : ∀ (l : List Nat) (k : Nat) (x : Es), (each sgn l k x).len ≤ x.len + l.length
  | [], _, _ => by simp [each]
  | m :: r, k, x => by
    unfold each
    have := each_len sgn r (if m ≤ sgn then k + 1 else k) (if m = sgn then x.put (x.steps sgn k) else x)
    have h2 : (if m = sgn then x.put (x.steps sgn k) else x).len ≤ x.len + 1 := by split <;> simp [Es.put]
    simp only [List.length_cons]
    omega
theorem eachAll_len (L : List Nat) : ∀ (ys : List Nat) (x : Es), (eachAll L ys x).len ≤ x.len + ys.length * L.length
  | [], _ => by simp [eachAll]
  | y :: r, x => by
    have h1 := each_len y L 0 x
    have h2 := eachAll_len L r (each y L 0 x)
    simp only [eachAll, List.length_cons]
    rw [Nat.add_mul]
    omega
theorem form_list (s : ByteArray) : (formOf s).data.toList = encS (runes s) (ysOf (runes s)) := by simp [formOf]
/-- All of a form is ASCII. -/
theorem form_asc {s : ByteArray} (hv : Lib.validD s.data.toList = true) (hl : s.size ≤ 1000) (b : UInt8) (hb : b ∈ (formOf s).data.toList) : b.toNat < 128 := by
  have hrl := runes_len s
  obtain ⟨_, bytes, m, e, _, hd, _⟩ := enc_parts (ysOf_ys (runes s)) (bytes_of_valid hv).1 (by omega)
  rw [form_list, e, List.mem_append] at hb
  rcases hb with hb | hb
  · unfold firstEs at hb
    simp only at hb
    split at hb
    · simp at hb
    · rcases List.mem_append.1 hb with hb | hb
      · exact ascF_asc2 _ b hb
      · obtain rfl : b = 45 := by simpa using hb
        decide
  · exact (isD_asc (hd b hb)).1
theorem form_size {s : ByteArray} (hv : Lib.validD s.data.toList = true) (hl : s.size ≤ 1000) : (formOf s).size ≤ 100000000 := by
  have hrl := runes_len s
  have h := ysOf_ys (runes s)
  have hs := (bytes_of_valid hv).1
  have hlen := ascF_len_eq (runes s)
  have hal := ascF_len (runes s)
  have hform : (firstEs (runes s)).form.length ≤ 1001 := by unfold firstEs; simp only; split <;> simp; omega
  obtain ⟨_, k, _⟩ := eachAll_dec (L := runes s) (by omega) (ysOf (runes s)) (firstEs (runes s)) (ys_come h hs) ⟨Nat.le_refl _, by simp [firstEs], by omega⟩ (fun y hy => ⟨((h.all y).1 hy).2, fun _ => rfl⟩) (Nat.zero_le _) (by rw [ys_filter h]; exact hlen)
  have hk := k.form
  have he := eachAll_len (runes s) (ysOf (runes s)) (firstEs (runes s))
  have hol := oth_len (runes s)
  have hsl := (sorted_perm (oth (runes s))).length_eq
  have hql : (ysOf (runes s)).length ≤ 1000 := by have := squash_len (sorted (oth (runes s))); unfold ysOf; omega
  have hm : (ysOf (runes s)).length * (runes s).length ≤ 1000 * 1000 := Nat.mul_le_mul hql (by omega)
  have hf : (firstEs (runes s)).len ≤ 1000 := by unfold firstEs; simp only; omega
  have hsz : (formOf s).size = (encS (runes s) (ysOf (runes s))).length := by rw [← form_list, Array.length_toList]; rfl
  rw [hsz]
  unfold encS
  omega
/-- Forms go back. -/
theorem form_back {s : ByteArray} (hv : Lib.validD s.data.toList = true) (hl : s.size ≤ 1000) (hf : (formOf s).size ≤ 1000) : decodeV (decodeS (formOf s)) = .tuple #[.string s, .int .i64 0] := by
  have hrl := runes_len s
  have hB := bytes_of_valid hv
  rw [decodeS_enc (ysOf_ys (runes s)) hB.1 (by omega) (formOf s) (form_list s) hf, decodeV]
  have := hB.2
  unfold lI at this
  rw [this]
/-- Whatever is decoded has this very form. -/
theorem back_form {t : ByteArray} {L : List Nat} (h : decodeS t = some L) : Lib.validD (runesBytes (L.map (fun (n : Nat) => (n : Int)))).data.toList = true ∧ formOf (runesBytes (L.map (fun (n : Nat) => (n : Int)))) = t := by
  obtain ⟨_, hs, _, hf⟩ := decoded h
  have hr := runes_bytes hs
  unfold lI at hr
  refine ⟨hr.2, ?_⟩
  unfold formOf
  rw [hr.1, hf _ (ysOf_ys L)]

end Go.Proofs.YtkaaldhejpaiiaaGreatDoor

