/- Heights and pairs: the document's. -/
import Derived.Test.YtkaaldhejpaiiaaGreatDoorLm
import Derived.Test.YtkaaldhejpaiiaaGreatDoorPe
namespace Go.Proofs.YtkaaldhejpaiiaaGreatDoor
open Go.RowKit

theorem from_t (n a b : Int) (w : World) (h : a ≤ n ∧ n ≤ b) : Calls Tryz.prog 108 #[.int .i64 n, .int .i64 a, .int .i64 b] w fun e w' => e = .returned (.bool true) ∧ w' = w := by
  obtain ⟨h1, h2⟩ := h
  go_enter Tryz.func108, Tryz.ntmps108
  go_wp2
  go_ret
  exact ⟨rfl, rfl⟩
theorem from_f (n a b : Int) (w : World) (h : ¬ (a ≤ n ∧ n ≤ b)) : Calls Tryz.prog 108 #[.int .i64 n, .int .i64 a, .int .i64 b] w fun e w' => e = .returned (.bool false) ∧ w' = w := by
  by_cases h1 : a ≤ n
  · have h2 : ¬ n ≤ b := fun h2 => h ⟨h1, h2⟩
    go_enter Tryz.func108, Tryz.ntmps108
    go_wp2
    go_ret
    exact ⟨rfl, rfl⟩
  · go_enter Tryz.func108, Tryz.ntmps108
    go_wp2
    go_ret
    exact ⟨rfl, rfl⟩
set_option maxHeartbeats 8000000 in
theorem heightD_any (n : Nat) (w : World) (hn : n ≤ 1114111) : Calls Tryz.prog 72 #[.int .i64 (n : Int)] w fun e w' => e = .returned (.int .i64 (Lm.height n : Nat)) ∧ w' = w := by
  by_cases h0 : n = 2381
  · have HH : Hid (Lm.height n = 9) := by unfold Hid Lm.height; rw [if_pos h0]
    rw [HH.out]
    go_enter Tryz.func72, Tryz.ntmps72
    go_wp2_with (go_at_call 108; first | (refine (from_t _ _ _ _ (by omega)).mono ?_; rintro e w' ⟨rfl, hw'⟩; rw [hw']; clear hw') | (refine (from_f _ _ _ _ (by omega)).mono ?_; rintro e w' ⟨rfl, hw'⟩; rw [hw']; clear hw'))
    go_ret
    exact ⟨rfl, rfl⟩
  by_cases h1 : 1611 ≤ n ∧ n ≤ 1618
  · have HH : Hid (Lm.height n = n - 1611 + 27) := by unfold Hid Lm.height; rw [if_neg h0, if_pos h1]
    rw [HH.out]
    go_enter Tryz.func72, Tryz.ntmps72
    go_wp2_with (go_at_call 108; first | (refine (from_t _ _ _ _ (by omega)).mono ?_; rintro e w' ⟨rfl, hw'⟩; rw [hw']; clear hw') | (refine (from_f _ _ _ _ (by omega)).mono ?_; rintro e w' ⟨rfl, hw'⟩; rw [hw']; clear hw'))
    go_ret
    exact ⟨ret_int (by omega), rfl⟩
  by_cases h2 : n = 807
  · have HH : Hid (Lm.height n = 202) := by unfold Hid Lm.height; rw [if_neg h0, if_neg h1, if_pos h2]
    rw [HH.out]
    go_enter Tryz.func72, Tryz.ntmps72
    go_wp2_with (go_at_call 108; first | (refine (from_t _ _ _ _ (by omega)).mono ?_; rintro e w' ⟨rfl, hw'⟩; rw [hw']; clear hw') | (refine (from_f _ _ _ _ (by omega)).mono ?_; rintro e w' ⟨rfl, hw'⟩; rw [hw']; clear hw'))
    go_ret
    exact ⟨rfl, rfl⟩
  by_cases h3 : n = 808
  · have HH : Hid (Lm.height n = 202) := by unfold Hid Lm.height; rw [if_neg h0, if_neg h1, if_neg h2, if_pos h3]
    rw [HH.out]
    go_enter Tryz.func72, Tryz.ntmps72
    go_wp2_with (go_at_call 108; first | (refine (from_t _ _ _ _ (by omega)).mono ?_; rintro e w' ⟨rfl, hw'⟩; rw [hw']; clear hw') | (refine (from_f _ _ _ _ (by omega)).mono ?_; rintro e w' ⟨rfl, hw'⟩; rw [hw']; clear hw'))
    go_ret
    exact ⟨rfl, rfl⟩
  by_cases h4 : 790 ≤ n ∧ n ≤ 793
  · have HH : Hid (Lm.height n = 220) := by unfold Hid Lm.height; rw [if_neg h0, if_neg h1, if_neg h2, if_neg h3, if_pos h4]
    rw [HH.out]
    go_enter Tryz.func72, Tryz.ntmps72
    go_wp2_with (go_at_call 108; first | (refine (from_t _ _ _ _ (by omega)).mono ?_; rintro e w' ⟨rfl, hw'⟩; rw [hw']; clear hw') | (refine (from_f _ _ _ _ (by omega)).mono ?_; rintro e w' ⟨rfl, hw'⟩; rw [hw']; clear hw'))
    go_ret
    exact ⟨rfl, rfl⟩
  by_cases h5 : 796 ≤ n ∧ n ≤ 800
  · have HH : Hid (Lm.height n = 220) := by unfold Hid Lm.height; rw [if_neg h0, if_neg h1, if_neg h2, if_neg h3, if_neg h4, if_pos h5]
    rw [HH.out]
    go_enter Tryz.func72, Tryz.ntmps72
    go_wp2_with (go_at_call 108; first | (refine (from_t _ _ _ _ (by omega)).mono ?_; rintro e w' ⟨rfl, hw'⟩; rw [hw']; clear hw') | (refine (from_f _ _ _ _ (by omega)).mono ?_; rintro e w' ⟨rfl, hw'⟩; rw [hw']; clear hw'))
    go_ret
    exact ⟨rfl, rfl⟩
  by_cases h6 : 803 ≤ n ∧ n ≤ 806
  · have HH : Hid (Lm.height n = 220) := by unfold Hid Lm.height; rw [if_neg h0, if_neg h1, if_neg h2, if_neg h3, if_neg h4, if_neg h5, if_pos h6]
    rw [HH.out]
    go_enter Tryz.func72, Tryz.ntmps72
    go_wp2_with (go_at_call 108; first | (refine (from_t _ _ _ _ (by omega)).mono ?_; rintro e w' ⟨rfl, hw'⟩; rw [hw']; clear hw') | (refine (from_f _ _ _ _ (by omega)).mono ?_; rintro e w' ⟨rfl, hw'⟩; rw [hw']; clear hw'))
    go_ret
    exact ⟨rfl, rfl⟩
  by_cases h7 : 809 ≤ n ∧ n ≤ 819
  · have HH : Hid (Lm.height n = 220) := by unfold Hid Lm.height; rw [if_neg h0, if_neg h1, if_neg h2, if_neg h3, if_neg h4, if_neg h5, if_neg h6, if_pos h7]
    rw [HH.out]
    go_enter Tryz.func72, Tryz.ntmps72
    go_wp2_with (go_at_call 108; first | (refine (from_t _ _ _ _ (by omega)).mono ?_; rintro e w' ⟨rfl, hw'⟩; rw [hw']; clear hw') | (refine (from_f _ _ _ _ (by omega)).mono ?_; rintro e w' ⟨rfl, hw'⟩; rw [hw']; clear hw'))
    go_ret
    exact ⟨rfl, rfl⟩
  have HH : Hid (Lm.height n = 230) := by unfold Hid Lm.height; rw [if_neg h0, if_neg h1, if_neg h2, if_neg h3, if_neg h4, if_neg h5, if_neg h6, if_neg h7]
  rw [HH.out]
  go_enter Tryz.func72, Tryz.ntmps72
  go_wp2_with (go_at_call 108; first | (refine (from_t _ _ _ _ (by omega)).mono ?_; rintro e w' ⟨rfl, hw'⟩; rw [hw']; clear hw') | (refine (from_f _ _ _ _ (by omega)).mono ?_; rintro e w' ⟨rfl, hw'⟩; rw [hw']; clear hw'))
  go_ret
  exact ⟨rfl, rfl⟩

theorem byte_at (s : ByteArray) (k : Nat) (h : k < s.size) : s.data.toList[k]? = some s[k] := by
  rw [List.getElem?_eq_getElem (by rw [Array.length_toList]; exact h)]
  rfl
theorem byte_wrap (s : ByteArray) (k : Nat) (h : k < s.size) : wrap64 ((s[k]).toNat : Int) = ((s[k]).toNat : Int) := by
  have := (s[k]).toNat_lt
  unfold wrap64
  omega
set_option maxHeartbeats 1000000 in
theorem in_any (a : Nat) (s : ByteArray) (w : World) (hs : s.size ≤ 1000) : Calls Tryz.prog 107 #[.int .i64 (a : Int), .string s] w fun e w' => e = .returned (.bool (Lm.inS s.data.toList a)) ∧ w' = w := by
  go_enter Tryz.func107, Tryz.ntmps107
  go_wp2
  go_loop [5] (fun i => ∃ k : Nat, k ≤ s.size ∧ i = .int .i64 k ∧ ∀ j b, j < k → s.data.toList[j]? = some b → b.toNat ≠ a) (fun i => s.size - (intOf i).toNat)
  case atStart => exact ⟨0, by omega, rfl, fun j b hj => absurd hj (by omega)⟩
  case round =>
    obtain ⟨k, hk, rfl, hno⟩ := hrel
    have HN : Hid (∀ j b, j < k → s.data.toList[j]? = some b → b.toNat ≠ a) := hno
    clear hno
    by_cases hlt : k < s.size
    · have hlt' : (k : Int) < (s.size : Int) := by omega
      cases he : (wrap64 ((s[k]).toNat : Int) == (a : Int)) with
      | true =>
        go_wp2
        go_ret
        refine ⟨?_, rfl⟩
        rw [byte_wrap s k hlt] at he
        have he' : (s[k]).toNat = a := by have := eq_of_beq he; omega
        have : Lm.inS s.data.toList a = true := List.any_eq_true.2 ⟨s[k], List.mem_of_getElem? (byte_at s k hlt), by simp [he']⟩
        rw [this]
        rfl
      | false =>
        go_wp2
        go_round
        case rel =>
          rw [byte_wrap s k hlt] at he
          have he' : ¬ (s[k]).toNat = a := fun h => by rw [h] at he; simp at he
          exact ⟨k + 1, by omega, by go_num, fun j b hj hb => by
            rcases Nat.lt_succ_iff_lt_or_eq.1 hj with h | rfl
            · exact HN.out j b h hb
            · rw [byte_at s j hlt] at hb
              obtain rfl := Option.some.inj hb
              exact he'⟩
        case measure => simp [intOf]; omega
    · have hlt' : ¬ (k : Int) < (s.size : Int) := by omega
      go_wp2
      go_ret
      refine ⟨?_, rfl⟩
      have : Lm.inS s.data.toList a = false := List.any_eq_false.2 fun b hb => by
        obtain ⟨j, hj⟩ := List.getElem?_of_mem hb
        have hl := (List.getElem?_eq_some_iff.1 hj).1
        rw [Array.length_toList] at hl
        have hl' : j < s.size := hl
        simpa using HN.out j b (by omega) hj
      rw [this]
      rfl

def sAeiou : ByteArray := { data := #[97, 101, 105, 111, 117] }
def sAeiouy : ByteArray := { data := #[97, 101, 105, 111, 117, 121] }
def sAno : ByteArray := { data := #[97, 110, 111] }
set_option maxHeartbeats 8000000 in
theorem pairD_any (a b : Nat) (w : World) : Calls Tryz.prog 71 #[.int .i64 (a : Int), .int .i64 (b : Int)] w fun e w' => e = .returned (.bool (Lm.pair a b)) ∧ w' = w := by
  have i1 := in_any a sAeiou w (by decide)
  have i2 := in_any a sAeiouy w (by decide)
  have i3 := in_any a sAno w (by decide)
  rw [show Lm.inS sAeiou.data.toList a = Lm.inS Lm.aeiou a from rfl] at i1
  rw [show Lm.inS sAeiouy.data.toList a = Lm.inS Lm.aeiouy a from rfl] at i2
  rw [show Lm.inS sAno.data.toList a = Lm.inS Lm.ano a from rfl] at i3
  unfold sAeiou at i1
  unfold sAeiouy at i2
  unfold sAno at i3
  by_cases h0 : b = 769
  · subst h0
    rw [show Lm.pair a 769 = (Lm.inS Lm.aeiouy a) from rfl]
    generalize Lm.inS Lm.aeiouy a = v at *
    go_enter Tryz.func71, Tryz.ntmps71
    go_wp2_with (go_at_call 107; refine i2.mono ?_; rintro e w' ⟨rfl, hw'⟩; rw [hw']; clear hw')
    go_ret
    exact ⟨rfl, rfl⟩
  by_cases h1 : b = 776
  · subst h1
    rw [show Lm.pair a 776 = (Lm.inS Lm.aeiouy a) from rfl]
    generalize Lm.inS Lm.aeiouy a = v at *
    go_enter Tryz.func71, Tryz.ntmps71
    go_wp2_with (go_at_call 107; refine i2.mono ?_; rintro e w' ⟨rfl, hw'⟩; rw [hw']; clear hw')
    go_ret
    exact ⟨rfl, rfl⟩
  by_cases h2 : b = 768
  · subst h2
    rw [show Lm.pair a 768 = (Lm.inS Lm.aeiou a) from rfl]
    generalize Lm.inS Lm.aeiou a = v at *
    go_enter Tryz.func71, Tryz.ntmps71
    go_wp2_with (go_at_call 107; refine i1.mono ?_; rintro e w' ⟨rfl, hw'⟩; rw [hw']; clear hw')
    go_ret
    exact ⟨rfl, rfl⟩
  by_cases h3 : b = 770
  · subst h3
    rw [show Lm.pair a 770 = (Lm.inS Lm.aeiou a) from rfl]
    generalize Lm.inS Lm.aeiou a = v at *
    go_enter Tryz.func71, Tryz.ntmps71
    go_wp2_with (go_at_call 107; refine i1.mono ?_; rintro e w' ⟨rfl, hw'⟩; rw [hw']; clear hw')
    go_ret
    exact ⟨rfl, rfl⟩
  by_cases h4 : b = 771
  · subst h4
    rw [show Lm.pair a 771 = (Lm.inS Lm.ano a) from rfl]
    generalize Lm.inS Lm.ano a = v at *
    go_enter Tryz.func71, Tryz.ntmps71
    go_wp2_with (go_at_call 107; refine i3.mono ?_; rintro e w' ⟨rfl, hw'⟩; rw [hw']; clear hw')
    go_ret
    exact ⟨rfl, rfl⟩
  by_cases h5 : b = 807
  · subst h5
    rw [show Lm.pair a 807 = (decide (a = 99)) from rfl]
    by_cases ha : a = 99
    · subst ha
      go_enter Tryz.func71, Tryz.ntmps71
      go_wp2
      go_ret
      exact ⟨rfl, rfl⟩
    · go_enter Tryz.func71, Tryz.ntmps71
      go_wp2
      go_ret
      exact ⟨ret_bool (by rw [decide_eq_false ha]; simp; omega), rfl⟩
  by_cases h6 : b = 778
  · subst h6
    rw [show Lm.pair a 778 = (decide (a = 97)) from rfl]
    by_cases ha : a = 97
    · subst ha
      go_enter Tryz.func71, Tryz.ntmps71
      go_wp2
      go_ret
      exact ⟨rfl, rfl⟩
    · go_enter Tryz.func71, Tryz.ntmps71
      go_wp2
      go_ret
      exact ⟨ret_bool (by rw [decide_eq_false ha]; simp; omega), rfl⟩
  rw [show Lm.pair a b = false by unfold Lm.pair; rw [if_neg h0, if_neg h1, if_neg h2, if_neg h3, if_neg h4, if_neg h5, if_neg h6]]
  have n1 : ¬ (b : Int) = 769 := by omega
  have n2 : ¬ (b : Int) = 776 := by omega
  have n3 : ¬ (b : Int) = 768 := by omega
  have n4 : ¬ (b : Int) = 770 := by omega
  have n5 : ¬ (b : Int) = 771 := by omega
  have n6 : ¬ (b : Int) = 807 := by omega
  have n7 : ¬ (b : Int) = 778 := by omega
  clear i1 i2 i3
  go_enter Tryz.func71, Tryz.ntmps71
  go_wp2
  go_ret
  exact ⟨rfl, rfl⟩
end Go.Proofs.YtkaaldhejpaiiaaGreatDoor
