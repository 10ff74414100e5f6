/- strings.ContainsRune in texts of ASCII; the project's isPair. -/
import Derived.Test.YtkaaldhejpaiiaaGreatDoorLd
import Derived.Test.YtkaaldhejpaiiaaGreatDoorLj
import Derived.Test.YtkaaldhejpaiiaaGreatDoorMa
import Derived.Lib.IndexAny
namespace Go.Proofs.YtkaaldhejpaiiaaGreatDoor
open Go.RowKit

theorem ib_none (l : List UInt8) (c : UInt8) (h : ∀ b ∈ l, b ≠ c) : Lib.indexByte l c = -1 := by
  have h1 := Lib.contains_iff_indexByte l c
  have h2 := Lib.indexByte_ge l c
  have h3 : l.contains c = false := by
    rw [Bool.eq_false_iff]
    intro h4
    exact h c (by simpa using h4) rfl
  rw [h3] at h1
  have h4 := of_decide_eq_false h1.symm
  omega
theorem enc_two (a : Nat) (h1 : 128 ≤ a) (h2 : a < 2048) : Utf8.encode (a : Int) = ⟨#[UInt8.ofNat (0xC0 + a / 64), UInt8.ofNat (0x80 + a % 64)]⟩ := by
  unfold Utf8.encode
  have hv : Utf8.valid (a : Int) = true := by unfold Utf8.valid; simp; omega
  simp only [hv, if_true, Int.toNat_natCast]
  rw [if_neg (by omega), if_pos (by omega)]
theorem enc_three (a : Nat) (h1 : 2048 ≤ a) (h2 : a ≤ 40959) : Utf8.encode (a : Int) = ⟨#[UInt8.ofNat (0xE0 + a / 4096), UInt8.ofNat (0x80 + a / 64 % 64), UInt8.ofNat (0x80 + a % 64)]⟩ := by
  unfold Utf8.encode
  have hv : Utf8.valid (a : Int) = true := by unfold Utf8.valid; simp; omega
  simp only [hv, if_true, Int.toNat_natCast]
  rw [if_neg (by omega), if_neg (by omega), if_pos (by omega)]
theorem mem_byte (s : ByteArray) (k : Nat) (h : k < s.size) : s[k] ∈ s.data.toList := List.mem_of_getElem? (byte_at s k h)
theorem ext_mem {s : ByteArray} {a b : Nat} {x : UInt8} (h : x ∈ (s.extract a b).data.toList) : x ∈ s.data.toList := by
  rw [ByteArray.data_extract, Array.toList_extract] at h
  exact List.mem_of_mem_drop (List.mem_of_mem_take h)
theorem last_high (a : Nat) : 128 ≤ (UInt8.ofNat (0x80 + a % 64)).toNat := by
  rw [UInt8.toNat_ofNat']
  have : (0x80 + a % 64) % 256 = 0x80 + a % 64 := by omega
  omega
theorem indexRune_far (s : ByteArray) (a : Nat) (w : World) (h1 : 128 ≤ a) (h2 : a ≤ 40959) (hs3 : 3 ≤ s.size) (hs9 : s.size ≤ 100) (hasc : ∀ b ∈ s.data.toList, b.toNat < 128) :
    Calls Tryz.prog 162 #[.string s, .int .i32 (a : Int)] w fun e w' => e = .returned (.int .i64 (-1)) ∧ Below w.heap.size w w' := by
  have key : ∀ (t : ByteArray) (l : Nat) (hl : l < s.size) (hlt : l < t.size), 128 ≤ (t[l]).toNat → (((s[l]).toNat : Int) != ((t[l]).toNat : Int)) = true ∧ ∀ m, Lib.indexByte (s.extract m s.size).data.toList (((t[l]).toNat : Int)).toNat.toUInt8 = -1 := by
    intro t l hl hlt hb
    have h := hasc _ (mem_byte s l hl)
    refine ⟨by rw [bne_iff_ne]; omega, fun m => ib_none _ _ fun b hb' he => ?_⟩
    have h3 := hasc b (ext_mem hb')
    rw [he] at h3
    simp at h3
    omega
  by_cases h3 : a < 2048
  · have he := enc_two a h1 h3
    have hk := key _ 1 (by omega) (show 1 < (⟨#[UInt8.ofNat (0xC0 + a / 64), UInt8.ofNat (0x80 + a % 64)]⟩ : ByteArray).size from Nat.lt_succ_self 1) (last_high a)
    exact indexRune_1 s _ a w h1 h2 he rfl hs9 (by omega) (Nat.lt_succ_self 1) hk.1 (hk.2 2)
  · have he := enc_three a (by omega) h2
    have hk := key _ 2 (by omega) (show 2 < (⟨#[UInt8.ofNat (0xE0 + a / 4096), UInt8.ofNat (0x80 + a / 64 % 64), UInt8.ofNat (0x80 + a % 64)]⟩ : ByteArray).size from Nat.lt_succ_self 2) (last_high a)
    exact indexRune_2 s _ a w h1 h2 he rfl hs9 (by omega) (Nat.lt_succ_self 2) hk.1 (hk.2 3)
theorem inS_far (l : List UInt8) (a : Nat) (h : 128 ≤ a) (hasc : ∀ b ∈ l, b.toNat < 128) : Lm.inS l a = false := by
  unfold Lm.inS
  rw [List.any_eq_false]
  intro b hb
  have := hasc b hb
  simp
  omega
set_option maxHeartbeats 1000000 in
theorem cr_any (s : ByteArray) (a : Nat) (w : World) (h2 : a ≤ 40959) (hs3 : 3 ≤ s.size) (hs9 : s.size ≤ 100) (hasc : ∀ b ∈ s.data.toList, b.toNat < 128)
    (hlow : ∀ a : Fin 128, decide (0 ≤ Lib.indexByte s.data.toList ((a.val : Int)).toNat.toUInt8) = Lm.inS s.data.toList a.val) :
    Calls Tryz.prog 134 #[.string s, .int .i32 (a : Int)] w fun e w' => e = .returned (.bool (Lm.inS s.data.toList a)) ∧ Below w.heap.size w w' := by
  by_cases h1 : a < 128
  · have h := Tryz.strings_ContainsRune_ascii s (a : Int) w (by omega) (by omega)
    have hl := hlow ⟨a, h1⟩
    simp only at hl
    rw [hl] at h
    exact h.mono fun _ _ ⟨he, hw⟩ => ⟨he, by rw [hw]; exact Below.refl _ _⟩
  · rw [inS_far _ a (by omega) hasc]
    have h := indexRune_far s a w (by omega) h2 hs3 hs9 hasc
    clear hlow hasc
    go_enter Tryz.func134, Tryz.ntmps134
    go_wp2_with (go_at_call 162; refine h.mono ?_; rintro e w1 ⟨rfl, hb1⟩)
    go_ret
    exact ⟨rfl, hb1⟩
theorem low1 : ∀ a : Fin 128, decide (0 ≤ Lib.indexByte sAeiou.data.toList ((a.val : Int)).toNat.toUInt8) = Lm.inS sAeiou.data.toList a.val := by decide +kernel
theorem low2 : ∀ a : Fin 128, decide (0 ≤ Lib.indexByte sAeiouy.data.toList ((a.val : Int)).toNat.toUInt8) = Lm.inS sAeiouy.data.toList a.val := by decide +kernel
theorem low3 : ∀ a : Fin 128, decide (0 ≤ Lib.indexByte sAno.data.toList ((a.val : Int)).toNat.toUInt8) = Lm.inS sAno.data.toList a.val := by decide +kernel
set_option maxHeartbeats 8000000 in
theorem isPair_any (a b : Nat) (w : World) (ha2 : a ≤ 40959) : Calls Tryz.prog 98 #[.int .i32 (a : Int), .int .i32 (b : Int)] w fun e w' => e = .returned (.bool (Lm.pair a b)) ∧ Below w.heap.size w w' := by
  have i1 := cr_any sAeiou a w ha2 (by decide) (by decide) (by decide) low1
  have i2 := cr_any sAeiouy a w ha2 (by decide) (by decide) (by decide) low2
  have i3 := cr_any sAno a w ha2 (by decide) (by decide) (by decide) low3
  rw [show Lm.inS sAeiou.data.toList a = Lm.inS Lm.aeiou a from rfl] at i1
  rw [show Lm.inS sAeiouy.data.toList a = Lm.inS Lm.aeiouy a from rfl] at i2
  rw [show Lm.inS sAno.data.toList a = Lm.inS Lm.ano a from rfl] at i3
  unfold sAeiou at i1
  unfold sAeiouy at i2
  unfold sAno at i3
  by_cases h0 : b = 769
  · subst h0
    rw [show Lm.pair a 769 = (Lm.inS Lm.aeiouy a) from rfl]
    generalize Lm.inS Lm.aeiouy a = v at *
    go_enter Tryz.func98, Tryz.ntmps98
    go_wp2_with (go_at_call 134; refine i2.mono ?_; rintro e w1 ⟨rfl, hb1⟩)
    go_ret
    exact ⟨rfl, hb1⟩
  by_cases h1 : b = 776
  · subst h1
    rw [show Lm.pair a 776 = (Lm.inS Lm.aeiouy a) from rfl]
    generalize Lm.inS Lm.aeiouy a = v at *
    go_enter Tryz.func98, Tryz.ntmps98
    go_wp2_with (go_at_call 134; refine i2.mono ?_; rintro e w1 ⟨rfl, hb1⟩)
    go_ret
    exact ⟨rfl, hb1⟩
  by_cases h2 : b = 768
  · subst h2
    rw [show Lm.pair a 768 = (Lm.inS Lm.aeiou a) from rfl]
    generalize Lm.inS Lm.aeiou a = v at *
    go_enter Tryz.func98, Tryz.ntmps98
    go_wp2_with (go_at_call 134; refine i1.mono ?_; rintro e w1 ⟨rfl, hb1⟩)
    go_ret
    exact ⟨rfl, hb1⟩
  by_cases h3 : b = 770
  · subst h3
    rw [show Lm.pair a 770 = (Lm.inS Lm.aeiou a) from rfl]
    generalize Lm.inS Lm.aeiou a = v at *
    go_enter Tryz.func98, Tryz.ntmps98
    go_wp2_with (go_at_call 134; refine i1.mono ?_; rintro e w1 ⟨rfl, hb1⟩)
    go_ret
    exact ⟨rfl, hb1⟩
  by_cases h4 : b = 771
  · subst h4
    rw [show Lm.pair a 771 = (Lm.inS Lm.ano a) from rfl]
    generalize Lm.inS Lm.ano a = v at *
    go_enter Tryz.func98, Tryz.ntmps98
    go_wp2_with (go_at_call 134; refine i3.mono ?_; rintro e w1 ⟨rfl, hb1⟩)
    go_ret
    exact ⟨rfl, hb1⟩
  by_cases h5 : b = 807
  · subst h5
    rw [show Lm.pair a 807 = (decide (a = 99)) from rfl]
    by_cases ha : a = 99
    · subst ha
      go_enter Tryz.func98, Tryz.ntmps98
      go_wp2
      go_ret
      exact ⟨rfl, Below.refl _ _⟩
    · go_enter Tryz.func98, Tryz.ntmps98
      go_wp2
      go_ret
      exact ⟨ret_bool (by rw [decide_eq_false ha]; simp; omega), Below.refl _ _⟩
  by_cases h6 : b = 778
  · subst h6
    rw [show Lm.pair a 778 = (decide (a = 97)) from rfl]
    by_cases ha : a = 97
    · subst ha
      go_enter Tryz.func98, Tryz.ntmps98
      go_wp2
      go_ret
      exact ⟨rfl, Below.refl _ _⟩
    · go_enter Tryz.func98, Tryz.ntmps98
      go_wp2
      go_ret
      exact ⟨ret_bool (by rw [decide_eq_false ha]; simp; omega), Below.refl _ _⟩
  rw [show Lm.pair a b = false by unfold Lm.pair; rw [if_neg h0, if_neg h1, if_neg h2, if_neg h3, if_neg h4, if_neg h5, if_neg h6]]
  have n1 : ¬ (b : Int) = 769 := by omega
  have n2 : ¬ (b : Int) = 776 := by omega
  have n3 : ¬ (b : Int) = 768 := by omega
  have n4 : ¬ (b : Int) = 770 := by omega
  have n5 : ¬ (b : Int) = 771 := by omega
  have n6 : ¬ (b : Int) = 807 := by omega
  have n7 : ¬ (b : Int) = 778 := by omega
  clear i1 i2 i3
  go_enter Tryz.func98, Tryz.ntmps98
  go_wp2
  go_ret
  exact ⟨rfl, Below.refl _ _⟩
end Go.Proofs.YtkaaldhejpaiiaaGreatDoor
