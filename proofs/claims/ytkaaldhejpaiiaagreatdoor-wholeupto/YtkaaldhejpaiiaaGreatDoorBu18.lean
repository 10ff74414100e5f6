import Derived.Test.YtkaaldhejpaiiaaGreatDoorBu13
import Derived.Test.YtkaaldhejpaiiaaGreatDoorBu05
import Derived.Test.YtkaaldhejpaiiaaGreatDoorBu17
import Derived.Lib.IndexAny
import Derived.Test.YtkaaldhejpaiiaaGreatDoorBu09
/- Heights and pairs: the document's. -/
namespace Go.Proofs.YtkaaldhejpaiiaaGreatDoor
open Go.RowKit

theorem from_t (n a b : Int) (w : World) (h : a ≤ n ∧ n ≤ b) : Calls Tryz.prog 108 #[.int .i64 n, .int .i64 a, .int .i64 b] w fun e w' => e = .returned (.bool true) ∧ w' = w := by
  obtain ⟨h1, h2⟩ := h
  go_enter Tryz.func108, Tryz.ntmps108
  go_wp2
  go_ret
  exact ⟨rfl, rfl⟩
theorem from_f (n a b : Int) (w : World) (h : ¬ (a ≤ n ∧ n ≤ b)) : Calls Tryz.prog 108 #[.int .i64 n, .int .i64 a, .int .i64 b] w fun e w' => e = .returned (.bool false) ∧ w' = w := by
  by_cases h1 : a ≤ n
  · have h2 : ¬ n ≤ b := fun h2 => h ⟨h1, h2⟩
    go_enter Tryz.func108, Tryz.ntmps108
    go_wp2
    go_ret
    exact ⟨rfl, rfl⟩
  · go_enter Tryz.func108, Tryz.ntmps108
    go_wp2
    go_ret
    exact ⟨rfl, rfl⟩
set_option maxHeartbeats 8000000 in
theorem heightD_any (n : Nat) (w : World) (hn : n ≤ 1114111) : Calls Tryz.prog 72 #[.int .i64 (n : Int)] w fun e w' => e = .returned (.int .i64 (Lm.height n : Nat)) ∧ w' = w := by
  by_cases h0 : n = 2381
  · have HH : Hid (Lm.height n = 9) := by unfold Hid Lm.height; rw [if_pos h0]
    rw [HH.out]
    go_enter Tryz.func72, Tryz.ntmps72
    go_wp2_with (go_at_call 108; first | (refine (from_t _ _ _ _ (by omega)).mono ?_; rintro e w' ⟨rfl, hw'⟩; rw [hw']; clear hw') | (refine (from_f _ _ _ _ (by omega)).mono ?_; rintro e w' ⟨rfl, hw'⟩; rw [hw']; clear hw'))
    go_ret
    exact ⟨rfl, rfl⟩
  by_cases h1 : 1611 ≤ n ∧ n ≤ 1618
  · have HH : Hid (Lm.height n = n - 1611 + 27) := by unfold Hid Lm.height; rw [if_neg h0, if_pos h1]
    rw [HH.out]
    go_enter Tryz.func72, Tryz.ntmps72
    go_wp2_with (go_at_call 108; first | (refine (from_t _ _ _ _ (by omega)).mono ?_; rintro e w' ⟨rfl, hw'⟩; rw [hw']; clear hw') | (refine (from_f _ _ _ _ (by omega)).mono ?_; rintro e w' ⟨rfl, hw'⟩; rw [hw']; clear hw'))
    go_ret
    exact ⟨ret_int (by omega), rfl⟩
  by_cases h2 : n = 807
  · have HH : Hid (Lm.height n = 202) := by unfold Hid Lm.height; rw [if_neg h0, if_neg h1, if_pos h2]
    rw [HH.out]
    go_enter Tryz.func72, Tryz.ntmps72
    go_wp2_with (go_at_call 108; first | (refine (from_t _ _ _ _ (by omega)).mono ?_; rintro e w' ⟨rfl, hw'⟩; rw [hw']; clear hw') | (refine (from_f _ _ _ _ (by omega)).mono ?_; rintro e w' ⟨rfl, hw'⟩; rw [hw']; clear hw'))
    go_ret
    exact ⟨rfl, rfl⟩
  by_cases h3 : n = 808
  · have HH : Hid (Lm.height n = 202) := by unfold Hid Lm.height; rw [if_neg h0, if_neg h1, if_neg h2, if_pos h3]
    rw [HH.out]
    go_enter Tryz.func72, Tryz.ntmps72
    go_wp2_with (go_at_call 108; first | (refine (from_t _ _ _ _ (by omega)).mono ?_; rintro e w' ⟨rfl, hw'⟩; rw [hw']; clear hw') | (refine (from_f _ _ _ _ (by omega)).mono ?_; rintro e w' ⟨rfl, hw'⟩; rw [hw']; clear hw'))
    go_ret
    exact ⟨rfl, rfl⟩
  by_cases h4 : 790 ≤ n ∧ n ≤ 793
  · have HH : Hid (Lm.height n = 220) := by unfold Hid Lm.height; rw [if_neg h0, if_neg h1, if_neg h2, if_neg h3, if_pos h4]
    rw [HH.out]
    go_enter Tryz.func72, Tryz.ntmps72
    go_wp2_with (go_at_call 108; first | (refine (from_t _ _ _ _ (by omega)).mono ?_; rintro e w' ⟨rfl, hw'⟩; rw [hw']; clear hw') | (refine (from_f _ _ _ _ (by omega)).mono ?_; rintro e w' ⟨rfl, hw'⟩; rw [hw']; clear hw'))
    go_ret
    exact ⟨rfl, rfl⟩
  by_cases h5 : 796 ≤ n ∧ n ≤ 800
  · have HH : Hid (Lm.height n = 220) := by unfold Hid Lm.height; rw [if_neg h0, if_neg h1, if_neg h2, if_neg h3, if_neg h4, if_pos h5]
    rw [HH.out]
    go_enter Tryz.func72, Tryz.ntmps72
    go_wp2_with (go_at_call 108; first | (refine (from_t _ _ _ _ (by omega)).mono ?_; rintro e w' ⟨rfl, hw'⟩; rw [hw']; clear hw') | (refine (from_f _ _ _ _ (by omega)).mono ?_; rintro e w' ⟨rfl, hw'⟩; rw [hw']; clear hw'))
    go_ret
    exact ⟨rfl, rfl⟩
  by_cases h6 : 803 ≤ n ∧ n ≤ 806
  · have HH : Hid (Lm.height n = 220) := by unfold Hid Lm.height; rw [if_neg h0, if_neg h1, if_neg h2, if_neg h3, if_neg h4, if_neg h5, if_pos h6]
    rw [HH.out]
    go_enter Tryz.func72, Tryz.ntmps72
    go_wp2_with (go_at_call 108; first | (refine (from_t _ _ _ _ (by omega)).mono ?_; rintro e w' ⟨rfl, hw'⟩; rw [hw']; clear hw') | (refine (from_f _ _ _ _ (by omega)).mono ?_; rintro e w' ⟨rfl, hw'⟩; rw [hw']; clear hw'))
    go_ret
    exact ⟨rfl, rfl⟩
  by_cases h7 : 809 ≤ n ∧ n ≤ 819
  · have HH : Hid (Lm.height n = 220) := by unfold Hid Lm.height; rw [if_neg h0, if_neg h1, if_neg h2, if_neg h3, if_neg h4, if_neg h5, if_neg h6, if_pos h7]
    rw [HH.out]
    go_enter Tryz.func72, Tryz.ntmps72
    go_wp2_with (go_at_call 108; first | (refine (from_t _ _ _ _ (by omega)).mono ?_; rintro e w' ⟨rfl, hw'⟩; rw [hw']; clear hw') | (refine (from_f _ _ _ _ (by omega)).mono ?_; rintro e w' ⟨rfl, hw'⟩; rw [hw']; clear hw'))
    go_ret
    exact ⟨rfl, rfl⟩
  have HH : Hid (Lm.height n = 230) := by unfold Hid Lm.height; rw [if_neg h0, if_neg h1, if_neg h2, if_neg h3, if_neg h4, if_neg h5, if_neg h6, if_neg h7]
  rw [HH.out]
  go_enter Tryz.func72, Tryz.ntmps72
  go_wp2_with (go_at_call 108; first | (refine (from_t _ _ _ _ (by omega)).mono ?_; rintro e w' ⟨rfl, hw'⟩; rw [hw']; clear hw') | (refine (from_f _ _ _ _ (by omega)).mono ?_; rintro e w' ⟨rfl, hw'⟩; rw [hw']; clear hw'))
  go_ret
  exact ⟨rfl, rfl⟩

theorem byte_at (s : ByteArray) (k : Nat) (h : k < s.size) : s.data.toList[k]? = some s[k] := by
  rw [List.getElem?_eq_getElem (by rw [Array.length_toList]; exact h)]
  rfl
theorem byte_wrap (s : ByteArray) (k : Nat) (h : k < s.size) : wrap64 ((s[k]).toNat : Int) = ((s[k]).toNat : Int) := by
  have := (s[k]).toNat_lt
  unfold wrap64
  omega
set_option maxHeartbeats 1000000 in
theorem in_any (a : Nat) (s : ByteArray) (w : World) (hs : s.size ≤ 1000) : Calls Tryz.prog 107 #[.int .i64 (a : Int), .string s] w fun e w' => e = .returned (.bool (Lm.inS s.data.toList a)) ∧ w' = w := by
  go_enter Tryz.func107, Tryz.ntmps107
  go_wp2
  go_loop [5] (fun i => ∃ k : Nat, k ≤ s.size ∧ i = .int .i64 k ∧ ∀ j b, j < k → s.data.toList[j]? = some b → b.toNat ≠ a) (fun i => s.size - (intOf i).toNat)
  case atStart => exact ⟨0, by omega, rfl, fun j b hj => absurd hj (by omega)⟩
  case round =>
    obtain ⟨k, hk, rfl, hno⟩ := hrel
    have HN : Hid (∀ j b, j < k → s.data.toList[j]? = some b → b.toNat ≠ a) := hno
    clear hno
    by_cases hlt : k < s.size
    · have hlt' : (k : Int) < (s.size : Int) := by omega
      cases he : (wrap64 ((s[k]).toNat : Int) == (a : Int)) with
      | true =>
        go_wp2
        go_ret
        refine ⟨?_, rfl⟩
        rw [byte_wrap s k hlt] at he
        have he' : (s[k]).toNat = a := by have := eq_of_beq he; omega
        have : Lm.inS s.data.toList a = true := List.any_eq_true.2 ⟨s[k], List.mem_of_getElem? (byte_at s k hlt), by simp [he']⟩
        rw [this]
        rfl
      | false =>
        go_wp2
        go_round
        case rel =>
          rw [byte_wrap s k hlt] at he
          have he' : ¬ (s[k]).toNat = a := fun h => by rw [h] at he; simp at he
          exact ⟨k + 1, by omega, by go_num, fun j b hj hb => by
            rcases Nat.lt_succ_iff_lt_or_eq.1 hj with h | rfl
            · exact HN.out j b h hb
            · rw [byte_at s j hlt] at hb
              obtain rfl := Option.some.inj hb
              exact he'⟩
        case measure => simp [intOf]; omega
    · have hlt' : ¬ (k : Int) < (s.size : Int) := by omega
      go_wp2
      go_ret
      refine ⟨?_, rfl⟩
      have : Lm.inS s.data.toList a = false := List.any_eq_false.2 fun b hb => by
        obtain ⟨j, hj⟩ := List.getElem?_of_mem hb
        have hl := (List.getElem?_eq_some_iff.1 hj).1
        rw [Array.length_toList] at hl
        have hl' : j < s.size := hl
        simpa using HN.out j b (by omega) hj
      rw [this]
      rfl

def sAeiou : ByteArray := { data := #[97, 101, 105, 111, 117] }
def sAeiouy : ByteArray := { data := #[97, 101, 105, 111, 117, 121] }
def sAno : ByteArray := { data := #[97, 110, 111] }
set_option maxHeartbeats 8000000 in
theorem pairD_any (a b : Nat) (w : World) : Calls Tryz.prog 71 #[.int .i64 (a : Int), .int .i64 (b : Int)] w fun e w' => e = .returned (.bool (Lm.pair a b)) ∧ w' = w := by
  have i1 := in_any a sAeiou w (by decide)
  have i2 := in_any a sAeiouy w (by decide)
  have i3 := in_any a sAno w (by decide)
  rw [show Lm.inS sAeiou.data.toList a = Lm.inS Lm.aeiou a from rfl] at i1
  rw [show Lm.inS sAeiouy.data.toList a = Lm.inS Lm.aeiouy a from rfl] at i2
  rw [show Lm.inS sAno.data.toList a = Lm.inS Lm.ano a from rfl] at i3
  unfold sAeiou at i1
  unfold sAeiouy at i2
  unfold sAno at i3
  by_cases h0 : b = 769
  · subst h0
    rw [show Lm.pair a 769 = (Lm.inS Lm.aeiouy a) from rfl]
    generalize Lm.inS Lm.aeiouy a = v at *
    go_enter Tryz.func71, Tryz.ntmps71
    go_wp2_with (go_at_call 107; refine i2.mono ?_; rintro e w' ⟨rfl, hw'⟩; rw [hw']; clear hw')
    go_ret
    exact ⟨rfl, rfl⟩
  by_cases h1 : b = 776
  · subst h1
    rw [show Lm.pair a 776 = (Lm.inS Lm.aeiouy a) from rfl]
    generalize Lm.inS Lm.aeiouy a = v at *
    go_enter Tryz.func71, Tryz.ntmps71
    go_wp2_with (go_at_call 107; refine i2.mono ?_; rintro e w' ⟨rfl, hw'⟩; rw [hw']; clear hw')
    go_ret
    exact ⟨rfl, rfl⟩
  by_cases h2 : b = 768
  · subst h2
    rw [show Lm.pair a 768 = (Lm.inS Lm.aeiou a) from rfl]
    generalize Lm.inS Lm.aeiou a = v at *
    go_enter Tryz.func71, Tryz.ntmps71
    go_wp2_with (go_at_call 107; refine i1.mono ?_; rintro e w' ⟨rfl, hw'⟩; rw [hw']; clear hw')
    go_ret
    exact ⟨rfl, rfl⟩
  by_cases h3 : b = 770
  · subst h3
    rw [show Lm.pair a 770 = (Lm.inS Lm.aeiou a) from rfl]
    generalize Lm.inS Lm.aeiou a = v at *
    go_enter Tryz.func71, Tryz.ntmps71
    go_wp2_with (go_at_call 107; refine i1.mono ?_; rintro e w' ⟨rfl, hw'⟩; rw [hw']; clear hw')
    go_ret
    exact ⟨rfl, rfl⟩
  by_cases h4 : b = 771
  · subst h4
    rw [show Lm.pair a 771 = (Lm.inS Lm.ano a) from rfl]
    generalize Lm.inS Lm.ano a = v at *
    go_enter Tryz.func71, Tryz.ntmps71
    go_wp2_with (go_at_call 107; refine i3.mono ?_; rintro e w' ⟨rfl, hw'⟩; rw [hw']; clear hw')
    go_ret
    exact ⟨rfl, rfl⟩
  by_cases h5 : b = 807
  · subst h5
    rw [show Lm.pair a 807 = (decide (a = 99)) from rfl]
    by_cases ha : a = 99
    · subst ha
      go_enter Tryz.func71, Tryz.ntmps71
      go_wp2
      go_ret
      exact ⟨rfl, rfl⟩
    · go_enter Tryz.func71, Tryz.ntmps71
      go_wp2
      go_ret
      exact ⟨ret_bool (by rw [decide_eq_false ha]; simp; omega), rfl⟩
  by_cases h6 : b = 778
  · subst h6
    rw [show Lm.pair a 778 = (decide (a = 97)) from rfl]
    by_cases ha : a = 97
    · subst ha
      go_enter Tryz.func71, Tryz.ntmps71
      go_wp2
      go_ret
      exact ⟨rfl, rfl⟩
    · go_enter Tryz.func71, Tryz.ntmps71
      go_wp2
      go_ret
      exact ⟨ret_bool (by rw [decide_eq_false ha]; simp; omega), rfl⟩
  rw [show Lm.pair a b = false by unfold Lm.pair; rw [if_neg h0, if_neg h1, if_neg h2, if_neg h3, if_neg h4, if_neg h5, if_neg h6]]
  have n1 : ¬ (b : Int) = 769 := by omega
  have n2 : ¬ (b : Int) = 776 := by omega
  have n3 : ¬ (b : Int) = 768 := by omega
  have n4 : ¬ (b : Int) = 770 := by omega
  have n5 : ¬ (b : Int) = 771 := by omega
  have n6 : ¬ (b : Int) = 807 := by omega
  have n7 : ¬ (b : Int) = 778 := by omega
  clear i1 i2 i3
  go_enter Tryz.func71, Tryz.ntmps71
  go_wp2
  go_ret
  exact ⟨rfl, rfl⟩
end Go.Proofs.YtkaaldhejpaiiaaGreatDoor

/- strings.ContainsRune in texts of ASCII; the project's isPair. -/
namespace Go.Proofs.YtkaaldhejpaiiaaGreatDoor
open Go.RowKit

theorem ib_none (l : List UInt8) (c : UInt8) (h : ∀ b ∈ l, b ≠ c) : Lib.indexByte l c = -1 := by
  have h1 := Lib.contains_iff_indexByte l c
  have h2 := Lib.indexByte_ge l c
  have h3 : l.contains c = false := by
    rw [Bool.eq_false_iff]
    intro h4
    exact h c (by simpa using h4) rfl
  rw [h3] at h1
  have h4 := of_decide_eq_false h1.symm
  omega
theorem enc_two (a : Nat) (h1 : 128 ≤ a) (h2 : a < 2048) : Utf8.encode (a : Int) = ⟨#[UInt8.ofNat (0xC0 + a / 64), UInt8.ofNat (0x80 + a % 64)]⟩ := by
  unfold Utf8.encode
  have hv : Utf8.valid (a : Int) = true := by unfold Utf8.valid; simp; omega
  simp only [hv, if_true, Int.toNat_natCast]
  rw [if_neg (by omega), if_pos (by omega)]
theorem enc_three (a : Nat) (h1 : 2048 ≤ a) (h2 : a ≤ 40959) : Utf8.encode (a : Int) = ⟨#[UInt8.ofNat (0xE0 + a / 4096), UInt8.ofNat (0x80 + a / 64 % 64), UInt8.ofNat (0x80 + a % 64)]⟩ := by
  unfold Utf8.encode
  have hv : Utf8.valid (a : Int) = true := by unfold Utf8.valid; simp; omega
  simp only [hv, if_true, Int.toNat_natCast]
  rw [if_neg (by omega), if_neg (by omega), if_pos (by omega)]
theorem mem_byte (s : ByteArray) (k : Nat) (h : k < s.size) : s[k] ∈ s.data.toList := List.mem_of_getElem? (byte_at s k h)
theorem ext_mem {s : ByteArray} {a b : Nat} {x : UInt8} (h : x ∈ (s.extract a b).data.toList) : x ∈ s.data.toList := by
  rw [ByteArray.data_extract, Array.toList_extract] at h
  exact List.mem_of_mem_drop (List.mem_of_mem_take h)
theorem last_high (a : Nat) : 128 ≤ (UInt8.ofNat (0x80 + a % 64)).toNat := by
  rw [UInt8.toNat_ofNat']
  have : (0x80 + a % 64) % 256 = 0x80 + a % 64 := by omega
  omega
theorem indexRune_far (s : ByteArray) (a : Nat) (w : World) (h1 : 128 ≤ a) (h2 : a ≤ 40959) (hs3 : 3 ≤ s.size) (hs9 : s.size ≤ 100) (hasc : ∀ b ∈ s.data.toList, b.toNat < 128) :
    Calls Tryz.prog 162 #[.string s, .int .i32 (a : Int)] w fun e w' => e = .returned (.int .i64 (-1)) ∧ Below w.heap.size w w' := by
  have key : ∀ (t : ByteArray) (l : Nat) (hl : l < s.size) (hlt : l < t.size), 128 ≤ (t[l]).toNat → (((s[l]).toNat : Int) != ((t[l]).toNat : Int)) = true ∧ ∀ m, Lib.indexByte (s.extract m s.size).data.toList (((t[l]).toNat : Int)).toNat.toUInt8 = -1 := by
    intro t l hl hlt hb
    have h := hasc _ (mem_byte s l hl)
    refine ⟨by rw [bne_iff_ne]; omega, fun m => ib_none _ _ fun b hb' he => ?_⟩
    have h3 := hasc b (ext_mem hb')
    rw [he] at h3
    simp at h3
    omega
  by_cases h3 : a < 2048
  · have he := enc_two a h1 h3
    have hk := key _ 1 (by omega) (show 1 < (⟨#[UInt8.ofNat (0xC0 + a / 64), UInt8.ofNat (0x80 + a % 64)]⟩ : ByteArray).size from Nat.lt_succ_self 1) (last_high a)
    exact indexRune_1 s _ a w h1 h2 he rfl hs9 (by omega) (Nat.lt_succ_self 1) hk.1 (hk.2 2)
  · have he := enc_three a (by omega) h2
    have hk := key _ 2 (by omega) (show 2 < (⟨#[UInt8.ofNat (0xE0 + a / 4096), UInt8.ofNat (0x80 + a / 64 % 64), UInt8.ofNat (0x80 + a % 64)]⟩ : ByteArray).size from Nat.lt_succ_self 2) (last_high a)
    exact indexRune_2 s _ a w h1 h2 he rfl hs9 (by omega) (Nat.lt_succ_self 2) hk.1 (hk.2 3)
theorem inS_far (l : List UInt8) (a : Nat) (h : 128 ≤ a) (hasc : ∀ b ∈ l, b.toNat < 128) : Lm.inS l a = false := by
  unfold Lm.inS
  rw [List.any_eq_false]
  intro b hb
  have := hasc b hb
  simp
  omega
set_option maxHeartbeats 1000000 in
theorem cr_any (s : ByteArray) (a : Nat) (w : World) (h2 : a ≤ 40959) (hs3 : 3 ≤ s.size) (hs9 : s.size ≤ 100) (hasc : ∀ b ∈ s.data.toList, b.toNat < 128)
    (hlow : ∀ a : Fin 128, decide (0 ≤ Lib.indexByte s.data.toList ((a.val : Int)).toNat.toUInt8) = Lm.inS s.data.toList a.val) :
    Calls Tryz.prog 134 #[.string s, .int .i32 (a : Int)] w fun e w' => e = .returned (.bool (Lm.inS s.data.toList a)) ∧ Below w.heap.size w w' := by
  by_cases h1 : a < 128
  · have h := Tryz.strings_ContainsRune_ascii s (a : Int) w (by omega) (by omega)
    have hl := hlow ⟨a, h1⟩
    simp only at hl
    rw [hl] at h
    exact h.mono fun _ _ ⟨he, hw⟩ => ⟨he, by rw [hw]; exact Below.refl _ _⟩
  · rw [inS_far _ a (by omega) hasc]
    have h := indexRune_far s a w (by omega) h2 hs3 hs9 hasc
    clear hlow hasc
    go_enter Tryz.func134, Tryz.ntmps134
    go_wp2_with (go_at_call 162; refine h.mono ?_; rintro e w1 ⟨rfl, hb1⟩)
    go_ret
    exact ⟨rfl, hb1⟩
theorem low1 : ∀ a : Fin 128, decide (0 ≤ Lib.indexByte sAeiou.data.toList ((a.val : Int)).toNat.toUInt8) = Lm.inS sAeiou.data.toList a.val := by decide +kernel
theorem low2 : ∀ a : Fin 128, decide (0 ≤ Lib.indexByte sAeiouy.data.toList ((a.val : Int)).toNat.toUInt8) = Lm.inS sAeiouy.data.toList a.val := by decide +kernel
theorem low3 : ∀ a : Fin 128, decide (0 ≤ Lib.indexByte sAno.data.toList ((a.val : Int)).toNat.toUInt8) = Lm.inS sAno.data.toList a.val := by decide +kernel
set_option maxHeartbeats 8000000 in
theorem isPair_any (a b : Nat) (w : World) (ha2 : a ≤ 40959) : Calls Tryz.prog 98 #[.int .i32 (a : Int), .int .i32 (b : Int)] w fun e w' => e = .returned (.bool (Lm.pair a b)) ∧ Below w.heap.size w w' := by
  have i1 := cr_any sAeiou a w ha2 (by decide) (by decide) (by decide) low1
  have i2 := cr_any sAeiouy a w ha2 (by decide) (by decide) (by decide) low2
  have i3 := cr_any sAno a w ha2 (by decide) (by decide) (by decide) low3
  rw [show Lm.inS sAeiou.data.toList a = Lm.inS Lm.aeiou a from rfl] at i1
  rw [show Lm.inS sAeiouy.data.toList a = Lm.inS Lm.aeiouy a from rfl] at i2
  rw [show Lm.inS sAno.data.toList a = Lm.inS Lm.ano a from rfl] at i3
  unfold sAeiou at i1
  unfold sAeiouy at i2
  unfold sAno at i3
  by_cases h0 : b = 769
  · subst h0
    rw [show Lm.pair a 769 = (Lm.inS Lm.aeiouy a) from rfl]
    generalize Lm.inS Lm.aeiouy a = v at *
    go_enter Tryz.func98, Tryz.ntmps98
    go_wp2_with (go_at_call 134; refine i2.mono ?_; rintro e w1 ⟨rfl, hb1⟩)
    go_ret
    exact ⟨rfl, hb1⟩
  by_cases h1 : b = 776
  · subst h1
    rw [show Lm.pair a 776 = (Lm.inS Lm.aeiouy a) from rfl]
    generalize Lm.inS Lm.aeiouy a = v at *
    go_enter Tryz.func98, Tryz.ntmps98
    go_wp2_with (go_at_call 134; refine i2.mono ?_; rintro e w1 ⟨rfl, hb1⟩)
    go_ret
    exact ⟨rfl, hb1⟩
  by_cases h2 : b = 768
  · subst h2
    rw [show Lm.pair a 768 = (Lm.inS Lm.aeiou a) from rfl]
    generalize Lm.inS Lm.aeiou a = v at *
    go_enter Tryz.func98, Tryz.ntmps98
    go_wp2_with (go_at_call 134; refine i1.mono ?_; rintro e w1 ⟨rfl, hb1⟩)
    go_ret
    exact ⟨rfl, hb1⟩
  by_cases h3 : b = 770
  · subst h3
    rw [show Lm.pair a 770 = (Lm.inS Lm.aeiou a) from rfl]
    generalize Lm.inS Lm.aeiou a = v at *
    go_enter Tryz.func98, Tryz.ntmps98
    go_wp2_with (go_at_call 134; refine i1.mono ?_; rintro e w1 ⟨rfl, hb1⟩)
    go_ret
    exact ⟨rfl, hb1⟩
  by_cases h4 : b = 771
  · subst h4
    rw [show Lm.pair a 771 = (Lm.inS Lm.ano a) from rfl]
    generalize Lm.inS Lm.ano a = v at *
    go_enter Tryz.func98, Tryz.ntmps98
    go_wp2_with (go_at_call 134; refine i3.mono ?_; rintro e w1 ⟨rfl, hb1⟩)
    go_ret
    exact ⟨rfl, hb1⟩
  by_cases h5 : b = 807
  · subst h5
    rw [show Lm.pair a 807 = (decide (a = 99)) from rfl]
    by_cases ha : a = 99
    · subst ha
      go_enter Tryz.func98, Tryz.ntmps98
      go_wp2
      go_ret
      exact ⟨rfl, Below.refl _ _⟩
    · go_enter Tryz.func98, Tryz.ntmps98
      go_wp2
      go_ret
      exact ⟨ret_bool (by rw [decide_eq_false ha]; simp; omega), Below.refl _ _⟩
  by_cases h6 : b = 778
  · subst h6
    rw [show Lm.pair a 778 = (decide (a = 97)) from rfl]
    by_cases ha : a = 97
    · subst ha
      go_enter Tryz.func98, Tryz.ntmps98
      go_wp2
      go_ret
      exact ⟨rfl, Below.refl _ _⟩
    · go_enter Tryz.func98, Tryz.ntmps98
      go_wp2
      go_ret
      exact ⟨ret_bool (by rw [decide_eq_false ha]; simp; omega), Below.refl _ _⟩
  rw [show Lm.pair a b = false by unfold Lm.pair; rw [if_neg h0, if_neg h1, if_neg h2, if_neg h3, if_neg h4, if_neg h5, if_neg h6]]
  have n1 : ¬ (b : Int) = 769 := by omega
  have n2 : ¬ (b : Int) = 776 := by omega
  have n3 : ¬ (b : Int) = 768 := by omega
  have n4 : ¬ (b : Int) = 770 := by omega
  have n5 : ¬ (b : Int) = 771 := by omega
  have n6 : ¬ (b : Int) = 807 := by omega
  have n7 : ¬ (b : Int) = 778 := by omega
  clear i1 i2 i3
  go_enter Tryz.func98, Tryz.ntmps98
  go_wp2
  go_ret
  exact ⟨rfl, Below.refl _ _⟩
end Go.Proofs.YtkaaldhejpaiiaaGreatDoor

/- fault. -/
namespace Go.Proofs.YtkaaldhejpaiiaaGreatDoor
open Go.RowKit

def noKind (L : List Nat) : Bool := (List.range L.length).any fun (i : Nat) => decide (rC (pkAt L (i : Int)) = 0)
def ctxBad (L : List Nat) : Bool := (List.range L.length).any fun i => !ctxM L (kataM L) (mixedM L) (L.getD i 0) i
/-- The first rule that signs break, but for their length. -/
def faultM (L : List Nat) : Nat :=
  if noKind L = true then 4 else if hyphM L = true then 5 else if decide (rC (pkAt L 0) = 4) = true then 6 else if formBad L = true then 7 else if ctxBad L = true then 8 else 0
theorem pk_far (n : Int) (h : 40959 < n) : pk n = 33 := idx_out n Km.tab fun r hr => by have := Km.tab_low r hr; omega
theorem known_of (L : List Nat) (h : noKind L = false) : known L := by
  intro x hx
  obtain ⟨i, hi⟩ := List.getElem?_of_mem hx
  obtain ⟨hl, rfl⟩ := List.getElem?_eq_some_iff.1 hi
  unfold noKind at h
  rw [List.any_eq_false] at h
  have h1 := h i (List.mem_range.2 hl)
  rw [pkAt_nat L i hl] at h1
  rcases Nat.lt_or_ge 40959 L[i] with h2 | h2
  · rw [pk_far _ (by omega)] at h1
    exact absurd (show rC 33 = 0 from rfl) (by simpa using h1)
  · exact h2
theorem noKind_lit {w : World} {b r : Nat} {L : List Nat} (hL : Lab w b r L) :
    Calls Tryz.prog 58 #[.pointer (some ⟨b, 0, none⟩), .slice (some ⟨w.heap.size, 0, none⟩) 1 1] (w.alloc (.cells #[.int .u8 0] 56)) fun e w' => e = .returned (.bool (noKind L)) ∧ Below w.heap.size w w' := by
  have h := hasKind_lit hL [0] #[.int .u8 0] 1 1 rfl rfl (by decide)
  rw [show ((List.range L.length).any fun (i : Nat) => [0].any fun y => rC (pkAt L (i : Int)) == y) = noKind L by
    unfold noKind
    congr 1
    funext i
    simp only [List.any_cons, List.any_nil, Bool.or_false]
    rfl] at h
  exact h
set_option maxHeartbeats 4000000 in
theorem fault_any {w : World} {b r : Nat} {L : List Nat} (hL : Lab w b r L) :
    Calls Tryz.prog 38 #[.pointer (some ⟨b, 0, none⟩)] w fun e w' => e = .returned (.int .i64 (faultM L : Nat)) ∧ Below w.heap.size w w' := by
  have h0 := noKind_lit hL
  have HL : Hid (Lab w b r L) := hL
  clear hL
  cases hv0 : noKind L with
  | true =>
    rw [hv0] at h0
    go_enter Tryz.func38, Tryz.ntmps38
    go_wp2_with fail
    refine h0.mono ?_
    rintro e w1 ⟨rfl, hb1⟩
    go_wp2_with fail
    go_ret
    exact ⟨by unfold faultM; rw [hv0]; rfl, hb1⟩
  | false =>
    have KN : Hid (known L) := known_of L hv0
    rw [hv0] at h0
    cases hv1 : hyphM L with
    | true =>
      go_enter Tryz.func38, Tryz.ntmps38
      go_wp2_with fail
      refine h0.mono ?_
      rintro e w1 ⟨rfl, hb1⟩
      have h1 := hasWrongHyphen_any (HL.out.keep hb1)
      rw [hv1] at h1
      clear h0
      go_wp2_with fail
      refine h1.mono ?_
      rintro e w2 ⟨rfl, hb2⟩
      go_wp2_with fail
      go_ret
      exact ⟨by unfold faultM; rw [hv0, hv1]; rfl, (Below.andThen hb1 hb2)⟩
    | false =>
      cases hv2 : decide (rC (pkAt L 0) = 4) with
      | true =>
        go_enter Tryz.func38, Tryz.ntmps38
        go_wp2_with fail
        refine h0.mono ?_
        rintro e w1 ⟨rfl, hb1⟩
        have h1 := hasWrongHyphen_any (HL.out.keep hb1)
        rw [hv1] at h1
        clear h0
        go_wp2_with fail
        refine h1.mono ?_
        rintro e w2 ⟨rfl, hb2⟩
        have h2 := kind_lit ((HL.out.keep hb1).keep hb2) 0 4 true hv2
        clear h1
        go_wp2_with fail
        refine h2.mono ?_
        rintro e w3 ⟨rfl, hb3⟩
        go_wp2_with fail
        go_ret
        exact ⟨by unfold faultM; rw [hv0, hv1, hv2]; rfl, (Below.andThen (Below.andThen hb1 hb2) hb3)⟩
      | false =>
        cases hv3 : formBad L with
        | true =>
          go_enter Tryz.func38, Tryz.ntmps38
          go_wp2_with fail
          refine h0.mono ?_
          rintro e w1 ⟨rfl, hb1⟩
          have h1 := hasWrongHyphen_any (HL.out.keep hb1)
          rw [hv1] at h1
          clear h0
          go_wp2_with fail
          refine h1.mono ?_
          rintro e w2 ⟨rfl, hb2⟩
          have h2 := kind_lit ((HL.out.keep hb1).keep hb2) 0 4 false hv2
          clear h1
          go_wp2_with fail
          refine h2.mono ?_
          rintro e w3 ⟨rfl, hb3⟩
          have h3 := hasWrongForm_any (((HL.out.keep hb1).keep hb2).keep hb3) KN.out (fun a b W ha => isPair_any a b W ha)
          rw [hv3] at h3
          clear h2
          go_wp2_with fail
          refine h3.mono ?_
          rintro e w4 ⟨rfl, hb4⟩
          go_wp2_with fail
          go_ret
          exact ⟨by unfold faultM; rw [hv0, hv1, hv2, hv3]; rfl, (Below.andThen (Below.andThen (Below.andThen hb1 hb2) hb3) hb4)⟩
        | false =>
          cases hv4 : ctxBad L with
          | true =>
            go_enter Tryz.func38, Tryz.ntmps38
            go_wp2_with fail
            refine h0.mono ?_
            rintro e w1 ⟨rfl, hb1⟩
            have h1 := hasWrongHyphen_any (HL.out.keep hb1)
            rw [hv1] at h1
            clear h0
            go_wp2_with fail
            refine h1.mono ?_
            rintro e w2 ⟨rfl, hb2⟩
            have h2 := kind_lit ((HL.out.keep hb1).keep hb2) 0 4 false hv2
            clear h1
            go_wp2_with fail
            refine h2.mono ?_
            rintro e w3 ⟨rfl, hb3⟩
            have h3 := hasWrongForm_any (((HL.out.keep hb1).keep hb2).keep hb3) KN.out (fun a b W ha => isPair_any a b W ha)
            rw [hv3] at h3
            clear h2
            go_wp2_with fail
            refine h3.mono ?_
            rintro e w4 ⟨rfl, hb4⟩
            have h4 := hasWrongContext_any ((((HL.out.keep hb1).keep hb2).keep hb3).keep hb4)
            rw [show ((List.range L.length).any fun i => !ctxM L (kataM L) (mixedM L) (L.getD i 0) i) = ctxBad L from rfl, hv4] at h4
            clear h3
            go_wp2_with fail
            refine h4.mono ?_
            rintro e w5 ⟨rfl, hb5⟩
            go_wp2_with fail
            go_ret
            exact ⟨by unfold faultM; rw [hv0, hv1, hv2, hv3, hv4]; rfl, (Below.andThen (Below.andThen (Below.andThen (Below.andThen hb1 hb2) hb3) hb4) hb5)⟩
          | false =>
            go_enter Tryz.func38, Tryz.ntmps38
            go_wp2_with fail
            refine h0.mono ?_
            rintro e w1 ⟨rfl, hb1⟩
            have h1 := hasWrongHyphen_any (HL.out.keep hb1)
            rw [hv1] at h1
            clear h0
            go_wp2_with fail
            refine h1.mono ?_
            rintro e w2 ⟨rfl, hb2⟩
            have h2 := kind_lit ((HL.out.keep hb1).keep hb2) 0 4 false hv2
            clear h1
            go_wp2_with fail
            refine h2.mono ?_
            rintro e w3 ⟨rfl, hb3⟩
            have h3 := hasWrongForm_any (((HL.out.keep hb1).keep hb2).keep hb3) KN.out (fun a b W ha => isPair_any a b W ha)
            rw [hv3] at h3
            clear h2
            go_wp2_with fail
            refine h3.mono ?_
            rintro e w4 ⟨rfl, hb4⟩
            have h4 := hasWrongContext_any ((((HL.out.keep hb1).keep hb2).keep hb3).keep hb4)
            rw [show ((List.range L.length).any fun i => !ctxM L (kataM L) (mixedM L) (L.getD i 0) i) = ctxBad L from rfl, hv4] at h4
            clear h3
            go_wp2_with fail
            refine h4.mono ?_
            rintro e w5 ⟨rfl, hb5⟩
            go_wp2_with fail
            go_ret
            exact ⟨by unfold faultM; rw [hv0, hv1, hv2, hv3, hv4]; rfl, (Below.andThen (Below.andThen (Below.andThen (Below.andThen hb1 hb2) hb3) hb4) hb5)⟩
end Go.Proofs.YtkaaldhejpaiiaaGreatDoor

/- The document's encode: which sign comes next; its states are the encoder's. No walk in this text. -/
namespace Go.Proofs.YtkaaldhejpaiiaaGreatDoor

/-- The next sign y, at place p: the least that is not there yet, the first of these. -/
structure Nxt (L : List Nat) (x : Es) (y p : Nat) : Prop where
  hp : p < L.length
  eq : L[p]'hp = y
  big : 128 ≤ y
  top : y ≤ 1114111
  new : x.n < y ∨ (y = x.n ∧ x.i ≤ cnt L y p)
  least : ∀ j (hj : j < L.length), 128 ≤ L[j] → (x.n < L[j] ∨ (L[j] = x.n ∧ x.i ≤ cnt L L[j] j)) → y ≤ L[j]
  first : ∀ j (hj : j < L.length), j < p → L[j] = y → ¬ (x.n < y ∨ x.i ≤ cnt L y j)
  good : x.good y (cnt L y p)
  ilen : x.i ≤ x.len
  lt : x.len < L.length

inductive Road (L : List Nat) : Es → Es → Prop where
  | done (x : Es) (h : x.len = L.length) : Road L x x
  | step (x z : Es) (y p : Nat) (h : Nxt L x y p) (r : Road L (x.put (x.steps y (cnt L y p))) z) : Road L x z

def Done (L : List Nat) (x : Es) (y p : Nat) : Prop := ∀ j (hj : j < L.length), 128 ≤ L[j] → (L[j] < y ∨ (L[j] = y ∧ j < p)) → ¬ (x.n < L[j] ∨ (L[j] = x.n ∧ x.i ≤ cnt L L[j] j))

theorem cnt_mono (L : List Nat) (y : Nat) {j p : Nat} (h : j ≤ p) : cnt L y j ≤ cnt L y p := by
  unfold cnt
  have : L.take j = (L.take p).take j := by rw [List.take_take, Nat.min_eq_left h]
  rw [this]
  exact ((List.take_sublist j (L.take p)).filter _).length_le

theorem each_road {L : List Nat} {y : Nat} (hs : Pm.sign y = true) (hL : L.length ≤ 1000) (hy : y ≤ 1114111) (h128 : 128 ≤ y) : ∀ (r : List Nat) (p : Nat) (x : Es), r = L.drop p → p ≤ L.length → EsRel L y p x → EsOk x → Done L x y p →
    Done L (each y r (cnt L y p) x) y L.length ∧ ∀ z, Road L (each y r (cnt L y p) x) z → Road L x z
  | [], p, x, hr, hp, _, _, hd => by
    have e : p = L.length := by have := congrArg List.length hr; rw [List.length_drop] at this; simp at this; omega
    subst e
    exact ⟨hd, fun z h => h⟩
  | a :: r, p, x, hr, hp, h, ho, hd => by
    have hlt : p < L.length := by have := congrArg List.length hr; rw [List.length_drop] at this; simp at this; omega
    rw [List.drop_eq_getElem_cons hlt] at hr
    obtain ⟨rfl, rfl⟩ := List.cons.inj hr
    unfold each
    rw [← cnt_snoc hlt]
    by_cases he : L[p] = y
    · rw [if_pos he]
      obtain ⟨h2, _⟩ := put_dec h hlt he hs
      have ho2 := put_ok h ho hL hy
      have hpe := put_eq h
      have hd2 : Done L (x.put (x.steps y (cnt L y p))) y (p + 1) := by
        intro j hj hb hc
        rw [hpe]
        simp only
        rcases hc with hc | ⟨hc, hjp⟩
        · omega
        · rw [hc]
          have := cnt_mono L y (show j ≤ p by omega)
          omega
      obtain ⟨k1, k2⟩ := each_road hs hL hy h128 (L.drop (p + 1)) (p + 1) _ rfl hlt h2 ho2 hd2
      refine ⟨k1, fun z hz => Road.step x z y p ⟨hlt, he, h128, hy, ?_, ?_, ?_, good_of h ho hL, h.i, ?_⟩ (k2 z hz)⟩
      · rcases Nat.lt_or_ge x.n y with h1 | h1
        · exact Or.inl h1
        · have h3 := h.n
          have h4 : x.n = y := by omega
          exact Or.inr ⟨h4.symm, h.at_n h4⟩
      · intro j hj hb hn
        rcases Nat.lt_or_ge (L[j]) y with h1 | h1
        · exact absurd hn (hd j hj hb (Or.inl h1))
        · exact h1
      · intro j hj hjp hjy hn
        refine hd j hj (by omega) (Or.inr ⟨hjy, hjp⟩) ?_
        rw [hjy]
        rcases hn with h1 | h1
        · exact Or.inl h1
        · have h3 := h.n
          rcases Nat.lt_or_ge x.n y with h4 | h4
          · exact Or.inl h4
          · exact Or.inr ⟨by omega, h1⟩
      · have h5 := sub_len_le L y (p + 1)
        rw [sub_same hlt y he, List.length_append, List.length_cons, List.length_take, List.length_drop] at h5
        have h6 := cnt_le_sub L y p
        have h7 := h.len
        omega
    · rw [if_neg he]
      have h2 : EsRel L y (p + 1) x := ⟨h.n, fun e => by rw [cnt_snoc hlt]; have := h.at_n e; split <;> omega, h.i, by rw [sub_other hlt y he]; exact h.len⟩
      refine each_road hs hL hy h128 (L.drop (p + 1)) (p + 1) x rfl hlt h2 ho ?_
      intro j hj hb hc
      refine hd j hj hb ?_
      rcases hc with hc | ⟨hc, hjp⟩
      · exact Or.inl hc
      · rcases Nat.lt_or_ge j p with h1 | h1
        · exact Or.inr ⟨hc, h1⟩
        · have : j = p := by omega
          subst this
          exact absurd hc he

theorem eachAll_road {L : List Nat} (hL : L.length ≤ 1000) : ∀ (ys : List Nat) (x : Es), Come L ys → EsOk x → (∀ y ∈ ys, x.n ≤ y ∧ (x.n = y → x.i = 0)) → x.i ≤ x.len → x.len = (L.filter (fun h => decide (h ∉ ys))).length →
    (∀ y ∈ ys, 128 ≤ y) → (∀ j (hj : j < L.length), 128 ≤ L[j] → L[j] ∉ ys → ¬ (x.n < L[j] ∨ (L[j] = x.n ∧ x.i ≤ cnt L L[j] j))) → Road L x (eachAll L ys x)
  | [], x, _, _, _, _, hl, _, _ => by
    have e : L.filter (fun h => decide (h ∉ ([] : List Nat))) = L := by simp
    rw [e] at hl
    exact Road.done x hl
  | y :: r, x, hc, ho, hn, hi, hl, hbig, hdone => by
    obtain ⟨hup, hsg, hlow⟩ := hc
    obtain ⟨hyr, hr⟩ := List.pairwise_cons.1 hup
    have hs := hsg y (by simp)
    have hy : y ≤ 1114111 := by unfold Pm.sign at hs; simp at hs; omega
    have e1 : L.filter (fun h => decide (h ∉ y :: r)) = sub L y 0 := by
      rw [sub_zero]
      apply List.filter_congr
      intro h hh
      congr 1
      apply propext
      constructor
      · intro hm; exact hlow h hh hm y (by simp)
      · intro hlt hm
        rcases List.mem_cons.1 hm with rfl | hm
        · omega
        · have := hyr h hm; omega
    have e2 : sub L y L.length = L.filter (fun h => decide (h ∉ r)) := by
      rw [sub_all]
      apply List.filter_congr
      intro h hh
      congr 1
      apply propext
      constructor
      · intro hle hm; have := hyr h hm; omega
      · intro hm
        by_cases he : h = y
        · omega
        · exact Nat.le_of_lt (hlow h hh (by simp [he, hm]) y (by simp))
    have hc2 : Come L r := ⟨hr, fun z hz => hsg z (by simp [hz]), fun h hh hm z hz => by
      have hyz := hyr z hz
      by_cases he : h = y
      · omega
      · have := hlow h hh (by simp [he, hm]) y (by simp); omega⟩
    have hrel : EsRel L y 0 x := ⟨(hn y (by simp)).1, fun e => by rw [cnt_zero, (hn y (by simp)).2 e]; exact Nat.le_refl _, hi, by rw [← e1]; exact hl⟩
    obtain ⟨_, k2, k3, _⟩ := each_dec hs hL hy L 0 x (by simp) (Nat.zero_le _) hrel ho
    have hd0 : Done L x y 0 := by
      intro j hj hb hcc
      rcases hcc with hcc | ⟨_, h0⟩
      · refine hdone j hj hb ?_
        intro hm
        rcases List.mem_cons.1 hm with h1 | h1
        · omega
        · have := hyr _ h1; omega
      · omega
    obtain ⟨d1, d2⟩ := each_road hs hL hy (hbig y (by simp)) L 0 x (by simp) (Nat.zero_le _) hrel ho hd0
    rw [cnt_zero] at k2 k3 d1 d2
    refine d2 _ ?_
    refine eachAll_road hL r (each y L 0 x) hc2 k3 (fun z hz => by have h1 := hyr z hz; have h2 := k2.n; exact ⟨by omega, fun e => by omega⟩) k2.i (by rw [k2.len, e2]) (fun z hz => hbig z (by simp [hz])) ?_
    intro j hj hb hm
    refine d1 j hj hb ?_
    by_cases he : L[j] = y
    · exact Or.inr ⟨he, hj⟩
    · exact Or.inl (hlow _ (List.getElem_mem hj) (by simp [he, hm]) y (by simp))

/-- All the way. -/
theorem road_all {L ys : List Nat} (h : Ys L ys) (hs : ∀ n ∈ L, Pm.sign n = true) (hL : L.length ≤ 1000) : Road L (firstEs L) (eachAll L ys (firstEs L)) := by
  have hlen := ascF_len_eq L
  have hal := ascF_len L
  have hform : (firstEs L).form.length ≤ 1001 := by unfold firstEs; simp only; split <;> simp; omega
  refine eachAll_road hL ys (firstEs L) (ys_come h hs) ⟨Nat.le_refl _, by simp [firstEs], by omega⟩ (fun y hy => ⟨((h.all y).1 hy).2, fun _ => rfl⟩) (Nat.zero_le _) (by rw [ys_filter h]; exact hlen) (fun y hy => ((h.all y).1 hy).2) ?_
  intro j hj hb hm
  exact absurd ((h.all _).2 ⟨List.getElem_mem hj, hb⟩) hm

/-- The sign at place j may be the next one. -/
def Cand (L : List Nat) (x : Es) (j : Nat) (hj : j < L.length) : Prop := 128 ≤ L[j] ∧ (x.n < L[j] ∨ (L[j] = x.n ∧ x.i ≤ cnt L L[j] j))
/-- The least one that may, among the first i places. -/
structure Least (L : List Nat) (x : Es) (i nx : Nat) : Prop where
  le : ∀ j (hj : j < L.length), j < i → Cand L x j hj → nx ≤ L[j]
  is : nx = 1114112 ∨ ∃ j, ∃ hj : j < L.length, j < i ∧ Cand L x j hj ∧ L[j] = nx
theorem Least.zero (L : List Nat) (x : Es) : Least L x 0 1114112 := ⟨fun j _ h => by omega, Or.inl rfl⟩
theorem Least.take {L : List Nat} {x : Es} {i nx : Nat} (h : Least L x i nx) (hi : i < L.length) (hc : Cand L x i hi) (hl : L[i] < nx) : Least L x (i + 1) L[i] :=
  ⟨fun j hj hji hcj => by
    by_cases e : j = i
    · subst e; exact Nat.le_refl _
    · have := h.le j hj (by omega) hcj; omega, Or.inr ⟨i, hi, by omega, hc, rfl⟩⟩
theorem Least.skip {L : List Nat} {x : Es} {i nx : Nat} (h : Least L x i nx) (hi : i < L.length) (hc : ¬ (Cand L x i hi ∧ L[i] < nx)) : Least L x (i + 1) nx :=
  ⟨fun j hj hji hcj => by
    by_cases e : j = i
    · subst e
      exact Nat.le_of_not_lt fun h2 => hc ⟨hcj, h2⟩
    · exact h.le j hj (by omega) hcj, by
    rcases h.is with e | ⟨j, hj, hji, hcj, e⟩
    · exact Or.inl e
    · exact Or.inr ⟨j, hj, by omega, hcj, e⟩⟩
theorem Least.all {L : List Nat} {x : Es} {nx y p : Nat} (h : Least L x L.length nx) (hN : Nxt L x y p) : nx = y := by
  have hp := hN.hp
  have he := hN.eq
  have h1 := h.le p hp hp ⟨by rw [he]; exact hN.big, by rw [he]; exact hN.new⟩
  rw [he] at h1
  have ht := hN.top
  rcases h.is with e | ⟨j, hj, _, hcj, e⟩
  · omega
  · have := hN.least j hj hcj.1 hcj.2
    omega

end Go.Proofs.YtkaaldhejpaiiaaGreatDoor

