/- decoded, plainText, newLabel, form, goodLabel, Label. -/
import Derived.Test.YtkaaldhejpaiiaaGreatDoorLn
namespace Go.Proofs.YtkaaldhejpaiiaaGreatDoor
open Go.RowKit

set_option maxRecDepth 100000 in
set_option maxHeartbeats 1000000 in
theorem isASCII_big (s : ByteArray) (w : World) (hs : s.size ≤ 2000000000) :
    Calls Tryz.prog 53 #[.string s] w fun e w' => e = .returned (.bool (ascB s.data.toList)) ∧ w' = w := by
  go_enter Tryz.func53, Tryz.ntmps53
  go_wp2
  go_loop [6] (fun i => ∃ k : Nat, k ≤ s.size ∧ i = .int .i64 k ∧ ascB (s.data.toList.take k) = true) (fun i => s.size - (intOf i).toNat)
  case atStart => exact ⟨0, Nat.zero_le _, rfl, rfl⟩
  case round =>
    obtain ⟨k, hk, rfl, ha⟩ := hrel
    have HA : Hid (ascB (s.data.toList.take k) = true) := ha
    clear ha
    by_cases hlt : k < s.size
    · go_wp2
      · go_ret
        exact ⟨ret_bool (by rw [ascB_no s k hlt (by omega)]), rfl⟩
      · go_round
        case rel => exact ⟨k + 1, by omega, by go_num, by rw [take_snoc s k hlt, ascB_snoc, HA.out]; simp; omega⟩
        case measure => simp [intOf]; omega
    · go_wp2
      go_ret
      have e : s.data.toList.take k = s.data.toList := List.take_of_length_le (by simp; omega)
      exact ⟨ret_bool (by have := HA.out; rw [e] at this; rw [this]), rfl⟩

def plainV (p : Nat × List Nat) : Value := if p.1 = 0 then .tuple #[.string (textOf p.2), .int .i64 0] else .tuple #[.string { data := #[] }, .int .i64 (p.1 : Nat)]
theorem dec_len {t : ByteArray} {L : List Nat} (h : decodeS t = some L) : L.length ≤ 1000 := (decoded h).2.2.1
set_option maxHeartbeats 1000000 in
theorem decoded_any (t : ByteArray) (w : World) (ht : t.size ≤ 9223372036854775807) :
    Calls Tryz.prog 56 #[.string t] w fun e w' => e = .returned (plainV (decM t)) ∧ Below w.heap.size w w' := by
  have hd := Decode_any t w ht
  unfold decM
  cases hv : decodeS t with
  | none =>
    rw [hv] at hd
    unfold decodeV at hd
    go_enter Tryz.func56, Tryz.ntmps56
    go_wp2_with (go_at_call 91; refine hd.mono ?_; rintro e w1 ⟨rfl, hb1⟩)
    go_ret2
    exact ⟨rfl, hb1⟩
  | some L =>
    rw [hv] at hd
    have hl := dec_len hv
    replace hd : Calls Tryz.prog 91 #[.string t] w fun e w' => e = .returned (.tuple #[.string (textOf L), .int .i64 0]) ∧ Below w.heap.size w w' := hd
    have hA := fun W => isASCII_big (textOf L) W (by have := textOf_len L; omega)
    rw [textOf_low] at hA
    show Calls Tryz.prog 56 #[.string t] w fun e w' => e = .returned (plainV (if allLow L = true then (3, []) else (0, L))) ∧ Below w.heap.size w w'
    cases ha : allLow L with
    | true =>
      rw [ha] at hA
      generalize textOf L = tx at *
      clear hv hl
      go_enter Tryz.func56, Tryz.ntmps56
      go_wp2_with (first | (go_at_call 91; refine hd.mono ?_; rintro e w1 ⟨rfl, hb1⟩) | (go_at_call 53; refine (hA _).mono ?_; rintro e w' ⟨rfl, hw'⟩; rw [hw']; clear hw'))
      go_ret2
      exact ⟨rfl, hb1⟩
    | false =>
      rw [ha] at hA
      have HT : Hid (plainV (0, L) = .tuple #[.string (textOf L), .int .i64 0]) := rfl
      generalize textOf L = tx at *
      clear hv hl
      go_enter Tryz.func56, Tryz.ntmps56
      go_wp2_with (first | (go_at_call 91; refine hd.mono ?_; rintro e w1 ⟨rfl, hb1⟩) | (go_at_call 53; refine (hA _).mono ?_; rintro e w' ⟨rfl, hw'⟩; rw [hw']; clear hw'))
      go_ret2
      exact ⟨by rw [HT.out]; rfl, hb1⟩

theorem empty_beq (s : ByteArray) : (s.toList == []) = decide (s.size = 0) := by
  rw [ByteArray.toList_eq, Bool.eq_iff_iff, beq_iff_eq, decide_eq_true_eq]
  constructor
  · intro h
    have : s.data.toList.length = 0 := by rw [h]; rfl
    rwa [Array.length_toList] at this
  · intro h
    exact List.eq_nil_of_length_eq_zero (by rw [Array.length_toList]; exact h)
theorem asc_each {l : List UInt8} (h : ascB l = true) : ∀ (j : Nat) (b : UInt8), l[j]? = some b → b.toNat < 128 := fun j b hb => by
  have := List.all_eq_true.1 h b (List.mem_of_getElem? hb)
  simpa using this
set_option maxHeartbeats 4000000 in
theorem plainText_any (s : ByteArray) (w : World) (hs : s.size ≤ 2000000000) (hT : Lib.Utf8Tabs 1 2 w) :
    Calls Tryz.prog 36 #[.string s] w fun e w' => e = .returned (plainV (plainM s)) ∧ Below w.heap.size w w' := by
  have hV := valid_any s w (by omega) hT
  have hE := empty_beq s
  have hA := fun W => isASCII_big s W hs
  have HP : Hid (plainM s = plainM s) := rfl
  unfold plainM at HP ⊢
  clear hT HP
  cases hv : Lib.validD s.data.toList with
  | false =>
    rw [hv] at hV
    rw [if_pos rfl]
    clear hA hE
    go_enter Tryz.func36, Tryz.ntmps36
    go_wp2_with (go_at_call 52; refine hV.mono ?_; rintro e w1 ⟨rfl, hb1⟩)
    go_ret2
    exact ⟨rfl, hb1⟩
  | true =>
    rw [hv] at hV
    rw [if_neg (by decide)]
    by_cases h0 : s.size = 0
    · rw [decide_eq_true h0] at hE
      rw [if_pos h0]
      clear hA h0 hs
      go_enter Tryz.func36, Tryz.ntmps36
      go_wp2_with (go_at_call 52; refine hV.mono ?_; rintro e w1 ⟨rfl, hb1⟩)
      go_ret2
      exact ⟨rfl, hb1⟩
    · rw [decide_eq_false h0] at hE
      rw [if_neg h0]
      cases ha : ascB s.data.toList with
      | false =>
        simp only [ha] at hA
        rw [if_pos rfl]
        have HT : Hid (plainV (0, runes s) = .tuple #[.string s, .int .i64 0]) := by
          unfold Hid plainV textOf
          rw [if_pos rfl, (bytes_of_valid hv).2]
        clear h0 hs ha
        go_enter Tryz.func36, Tryz.ntmps36
        go_wp2_with (first | (go_at_call 52; refine hV.mono ?_; rintro e w1 ⟨rfl, hb1⟩) | (go_at_call 53; refine (hA _).mono ?_; rintro e w' ⟨rfl, hw'⟩; rw [hw']; clear hw'))
        go_ret2
        exact ⟨by rw [HT.out]; rfl, hb1⟩
      | true =>
        simp only [ha] at hA
        rw [if_neg (by decide)]
        have hlo := fun W => Tryz.strings_ToLower_ascii s W (by omega) (asc_each ha)
        have hasc := lower_asc _ ha
        have hcp : ∀ W, Calls Tryz.prog 55 #[.string ⟨(Lib.toLowerA s.data.toList).toArray⟩, .string { data := #[120, 110, 45, 45] }] W fun e w' => e = .returned (.tuple #[.string ⟨(Lib.trimPrefix (Lib.toLowerA s.data.toList) xn).toArray⟩, .bool (Lib.hasPrefix (Lib.toLowerA s.data.toList) xn)]) ∧ w' = W :=
          fun W => Tryz.strings_CutPrefix ⟨(Lib.toLowerA s.data.toList).toArray⟩ { data := #[120, 110, 45, 45] } W
        have hlz : (Lib.toLowerA s.data.toList).length = s.size := by unfold Lib.toLowerA; rw [List.length_map, Array.length_toList]; rfl
        cases hp : Lib.hasPrefix (Lib.toLowerA s.data.toList) xn with
        | true =>
          simp only [hp, Lib.trimPrefix, if_true] at hcp
          rw [if_pos rfl]
          have hde := fun W => decoded_any ⟨((Lib.toLowerA s.data.toList).drop 4).toArray⟩ W (by
            show ((Lib.toLowerA s.data.toList).drop 4).toArray.size ≤ _
            rw [List.size_toArray, List.length_drop]; omega)
          simp only [show xn.length = 4 from rfl] at hcp
          have HV : Hid (∃ t e, plainV (decM ⟨((Lib.toLowerA s.data.toList).drop 4).toArray⟩) = .tuple #[.string t, .int .i64 e]) := by
            unfold Hid plainV
            split
            · exact ⟨_, _, rfl⟩
            · exact ⟨_, _, rfl⟩
          generalize plainV (decM ⟨((Lib.toLowerA s.data.toList).drop 4).toArray⟩) = V at *
          obtain ⟨t, er, rfl⟩ := HV.out
          generalize (Lib.toLowerA s.data.toList).drop 4 = d at *
          generalize Lib.toLowerA s.data.toList = lo at *
          clear h0 hs ha hasc hlz HV
          go_enter Tryz.func36, Tryz.ntmps36
          go_wp2_with (first | (go_at_call 52; refine hV.mono ?_; rintro e w1 ⟨rfl, hb1⟩) | (go_at_call 53; refine (hA _).mono ?_; rintro e w' ⟨rfl, hw'⟩; rw [hw']; clear hw') | (go_at_call 54; refine (hlo _).mono ?_; rintro e w2 ⟨rfl, hb2⟩) | (go_at_call 55; refine (hcp _).mono ?_; rintro e w' ⟨rfl, hw'⟩; rw [hw']; clear hw') | (go_at_call 56; refine (hde _).mono ?_; rintro e w3 ⟨rfl, hb3⟩))
          go_ret2
          exact ⟨rfl, Below.andThen (Below.andThen hb1 hb2) hb3⟩
        | false =>
          simp only [hp, Lib.trimPrefix, Bool.false_eq_true, if_false] at hcp
          rw [if_neg (by decide)]
          have HT : Hid (plainV (0, (Lib.toLowerA s.data.toList).map (·.toNat)) = .tuple #[.string ⟨(Lib.toLowerA s.data.toList).toArray⟩, .int .i64 0]) := by
            unfold Hid plainV
            rw [if_pos rfl, textOf_map _ hasc]
          generalize Lib.toLowerA s.data.toList = lo at *
          clear h0 hs ha hasc hlz
          go_enter Tryz.func36, Tryz.ntmps36
          go_wp2_with (first | (go_at_call 52; refine hV.mono ?_; rintro e w1 ⟨rfl, hb1⟩) | (go_at_call 53; refine (hA _).mono ?_; rintro e w' ⟨rfl, hw'⟩; rw [hw']; clear hw') | (go_at_call 54; refine (hlo _).mono ?_; rintro e w2 ⟨rfl, hb2⟩) | (go_at_call 55; refine (hcp _).mono ?_; rintro e w' ⟨rfl, hw'⟩; rw [hw']; clear hw'))
          go_ret2
          exact ⟨by rw [HT.out]; rfl, Below.andThen hb1 hb2⟩
end Go.Proofs.YtkaaldhejpaiiaaGreatDoor
