/- The examples; the law Decodes. -/
import Derived.Test.YtgkepdjgopoljaaDoorSh
namespace Go.Proofs.YtgkepdjgopoljaaDoor
open Go.RowKit

theorem ok_bue : eachAllOk [98, 252, 99, 104, 101, 114] [252] (firstEs [98, 252, 99, 104, 101, 114]) :=
  ⟨by omega, ⟨fun h => absurd h (by decide), fun _ => ⟨of_decide_eq_true (by kernel_rfl), of_decide_eq_true (by kernel_rfl), of_decide_eq_true (by kernel_rfl), of_decide_eq_true (by kernel_rfl), of_decide_eq_true (by kernel_rfl), of_decide_eq_true (by kernel_rfl), of_decide_eq_true (by kernel_rfl)⟩,
    fun h => absurd h (by decide), fun h => absurd h (by decide), fun h => absurd h (by decide), fun h => absurd h (by decide), trivial⟩, trivial⟩
theorem oth_bue : oth [98, 252, 99, 104, 101, 114] = [252] := by kernel_rfl
theorem enc_a : (⟨(encS [97] []).toArray⟩ : ByteArray) = oneAH := by kernel_rfl
theorem runes_a : runes oneA = [97] := by kernel_rfl

theorem encode_bue (w : World) (hT : Lib.Utf8Tabs 0 1 w) : Calls Tryd.prog 9 #[.string bue] w fun e w' => e = .returned (.tuple #[.string bcher, .int .i64 0]) ∧ Below w.heap.size w w' := by
  have h := Encode_ok bue w [252] [252] hT valid_bue (by decide) (by rw [runes_bue, oth_bue]; exact sortOk_few [252] (by decide)) (compOk_few [252] (by decide)) (by rw [runes_bue]; exact ok_bue) (by decide)
  rw [runes_bue, enc_bue] at h
  exact h
theorem encode_a (w : World) (hT : Lib.Utf8Tabs 0 1 w) : Calls Tryd.prog 9 #[.string oneA] w fun e w' => e = .returned (.tuple #[.string oneAH, .int .i64 0]) ∧ Below w.heap.size w w' := by
  have h := Encode_ok oneA w [] [] hT (by kernel_rfl) (by decide) (by rw [runes_a]; exact sortOk_few [] (by decide)) (compOk_few [] (by decide)) (by rw [runes_a]; exact trivial) (by decide)
  rw [runes_a, enc_a] at h
  exact h
theorem decode_bcher (w : World) : Calls Tryd.prog 12 #[.string bcher] w fun e w' => e = .returned (.tuple #[.string bue, .int .i64 0]) ∧ Below w.heap.size w w' := by
  have h := Decode_any bcher w (by decide)
  rw [dec_bcher, decodeV, bytes_bue] at h
  exact h

set_option maxRecDepth 100000 in
set_option maxHeartbeats 1000000 in
theorem coded_any (w : World) (hT : Lib.Utf8Tabs 0 1 w) :
    Calls Tryd.prog 8 #[] w fun e w' => e = .returned (.bool true) ∧ Below w.heap.size w w' := by
  have h1 := encode_bue w hT
  unfold bue bcher at h1
  go_enter Tryd.func8, Tryd.ntmps8
  go_wp2_with fail
  refine h1.mono ?_
  rintro e w1 ⟨rfl, hb1⟩
  have h2 := decode_bcher w1
  unfold bue bcher at h2
  clear h1
  go_wp2_with fail
  refine h2.mono ?_
  rintro e w2 ⟨rfl, hb2⟩
  have hb12 := hb1.trans (hb2.mono hb1.size)
  have h3 := encode_a w2 (Utf8Tabs_below hT hb12)
  unfold oneA oneAH at h3
  clear h2 hT
  go_wp2_with (go_at_call 9; refine h3.mono ?_; rintro e w3 ⟨rfl, hb3⟩)
  go_ret
  exact ⟨rfl, hb12.trans (hb3.mono hb12.size)⟩

set_option maxRecDepth 100000 in
set_option maxHeartbeats 1000000 in
theorem decodes_any (s : ByteArray) (w : World) (hT : Lib.Utf8Tabs 0 1 w) (hs0 : s.size ≤ 9223372036854775807) :
    Calls Tryd.prog 4 #[.string s] w fun e w' => e = .returned (.bool true) ∧ Below w.heap.size w w' := by
  have hco := coded_any w hT
  have hd := fun W => Decode_any s W hs0
  have hr := fun W => refDecode_any s W hs0
  clear hT
  generalize decodeS s = R at hd hr
  cases R with
  | none =>
    simp only [decodeV] at hd hr
    go_enter Tryd.func4, Tryd.ntmps4
    go_wp2_with (first | (go_at_call 8; refine hco.mono ?_; rintro e w1 ⟨rfl, hb1⟩) | (go_at_call 12; refine (hd _).mono ?_; rintro e w2 ⟨rfl, hb2⟩) | (go_at_call 13; refine (hr _).mono ?_; rintro e w3 ⟨rfl, hb3⟩) | (go_at_call 11; refine (num_any _ _).mono ?_; rintro e w4 ⟨rfl, hw'⟩; rw [hw']; clear hw'))
    go_ret
    exact ⟨rfl, (hb1.trans (hb2.mono hb1.size)).trans (hb3.mono (Nat.le_trans hb1.size hb2.size))⟩
  | some L =>
    simp only [decodeV] at hd hr
    generalize runesBytes (L.map (fun (n : Nat) => (n : Int))) = S at hd hr
    go_enter Tryd.func4, Tryd.ntmps4
    go_wp2_with (first | (go_at_call 8; refine hco.mono ?_; rintro e w1 ⟨rfl, hb1⟩) | (go_at_call 12; refine (hd _).mono ?_; rintro e w2 ⟨rfl, hb2⟩) | (go_at_call 13; refine (hr _).mono ?_; rintro e w3 ⟨rfl, hb3⟩) | (go_at_call 11; refine (num_any _ _).mono ?_; rintro e w4 ⟨rfl, hw'⟩; rw [hw']; clear hw'))
    go_ret
    exact ⟨rfl, (hb1.trans (hb2.mono hb1.size)).trans (hb3.mono (Nat.le_trans hb1.size hb2.size))⟩
end Go.Proofs.YtgkepdjgopoljaaDoor
