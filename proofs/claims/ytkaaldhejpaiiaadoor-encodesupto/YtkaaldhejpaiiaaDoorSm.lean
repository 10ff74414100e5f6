/- Sh Si, in one. -/
import Derived.Test.YtkaaldhejpaiiaaDoorSg
/- The document's Decode; the examples; the law Decodes. -/
namespace Go.Proofs.YtkaaldhejpaiiaaDoor
open Go.RowKit

set_option maxRecDepth 100000 in
set_option maxHeartbeats 1000000 in
theorem refDecode_any (s : ByteArray) (w : World) (hs0 : s.size ≤ 9223372036854775807) :
    Calls Tryd.prog 13 #[.string s] w fun e w' => e = .returned (decodeV (decodeS s)) ∧ Below w.heap.size w w' := by
  have hdec : Calls Tryd.prog 26 #[.string s] w fun e w' => RefDec (decodeS s) w.heap.size e w' ∧ Below w.heap.size w w' := by
    by_cases hs : 1000 < s.size
    · rw [show decodeS s = none by rw [decodeS, if_pos (Or.inl hs)]]
      exact refDec_big s w hs hs0
    · exact refDec_small s w (by omega) _ rfl
  generalize decodeS s = R at hdec ⊢
  cases R with
  | none =>
    unfold RefDec at hdec
    go_enter Tryd.func13, Tryd.ntmps13
    go_wp2_with (go_at_call 26; refine hdec.mono ?_; rintro e w1 ⟨rfl, hb1⟩)
    go_ret2
    exact ⟨rfl, hb1⟩
  | some L =>
    unfold RefDec at hdec
    go_enter Tryd.func13, Tryd.ntmps13
    go_wp2_with fail
    refine hdec.mono ?_
    rintro e w1 ⟨⟨v, rfl, ho, hsg, hl⟩, hb1⟩
    have hv : ∃ a c, v = .slice a L.length c ∧ ∀ i (_ : i < L.length), ∃ g, a = some ⟨g, 0, none⟩ ∧ g < w1.heap.size ∧ w1.cell? ⟨g, i, none⟩ = some (iv L[i]) := by
      rcases ho.2 with ⟨rfl, e⟩ | ⟨g, cap, cur, rfl, _, hg, _⟩
      · exact ⟨none, 0, by rw [e], fun i hi => absurd hi (by omega)⟩
      · refine ⟨_, _, rfl, fun i hi => ⟨g, rfl, (Array.getElem?_eq_some_iff.1 hg).1, ?_⟩⟩
        have := ho.cells (g := g) rfl i (iv L[i]) (by rw [List.getElem?_map, List.getElem?_eq_getElem hi]; rfl)
        rwa [Addr.add_lit, Nat.zero_add] at this
    obtain ⟨a, c, rfl, hcell⟩ := hv
    have htx := text_any a c L w1 hl hsg hcell
    clear hdec ho hcell hsg
    go_wp2_with (go_at_call 27; refine htx.mono ?_; rintro e w2 ⟨rfl, hb2⟩)
    go_ret2
    exact ⟨rfl, hb1.trans (hb2.mono hb1.size)⟩

theorem num_any (n : Int) (w : World) : Calls Tryd.prog 11 #[.int .i64 n] w fun e w' => e = .returned (.int .i64 n) ∧ w' = w := by
  go_enter Tryd.func11, Tryd.ntmps11
  go_wp2
  go_ret
  exact ⟨rfl, rfl⟩

def bue : ByteArray := { data := #[98, 195, 188, 99, 104, 101, 114] }
def bcher : ByteArray := { data := #[98, 99, 104, 101, 114, 45, 107, 118, 97] }
theorem runes_bue : runes bue = [98, 252, 99, 104, 101, 114] := by kernel_rfl
theorem valid_bue : Lib.validD bue.data.toList = true := by kernel_rfl
theorem dec_bcher : decodeS bcher = some [98, 252, 99, 104, 101, 114] := by kernel_rfl
theorem bytes_bue : runesBytes ([98, 252, 99, 104, 101, 114].map (fun (n : Nat) => (n : Int))) = bue := by kernel_rfl
theorem enc_bue : (⟨(encS [98, 252, 99, 104, 101, 114] [252]).toArray⟩ : ByteArray) = bcher := by kernel_rfl
end Go.Proofs.YtkaaldhejpaiiaaDoor

/- The examples; the law Decodes. -/
namespace Go.Proofs.YtkaaldhejpaiiaaDoor
open Go.RowKit

theorem ok_bue : eachAllOk [98, 252, 99, 104, 101, 114] [252] (firstEs [98, 252, 99, 104, 101, 114]) :=
  ⟨by omega, ⟨fun h => absurd h (by decide), fun _ => ⟨of_decide_eq_true (by kernel_rfl), of_decide_eq_true (by kernel_rfl), of_decide_eq_true (by kernel_rfl), of_decide_eq_true (by kernel_rfl), of_decide_eq_true (by kernel_rfl), of_decide_eq_true (by kernel_rfl), of_decide_eq_true (by kernel_rfl)⟩,
    fun h => absurd h (by decide), fun h => absurd h (by decide), fun h => absurd h (by decide), fun h => absurd h (by decide), trivial⟩, trivial⟩
theorem oth_bue : oth [98, 252, 99, 104, 101, 114] = [252] := by kernel_rfl
theorem enc_a : (⟨(encS [97] []).toArray⟩ : ByteArray) = oneAH := by kernel_rfl
theorem runes_a : runes oneA = [97] := by kernel_rfl

theorem encode_bue (w : World) (hT : Lib.Utf8Tabs 0 1 w) : Calls Tryd.prog 9 #[.string bue] w fun e w' => e = .returned (.tuple #[.string bcher, .int .i64 0]) ∧ Below w.heap.size w w' := by
  have h := Encode_ok bue w [252] [252] hT valid_bue (by decide) (by rw [runes_bue, oth_bue]; exact sortOk_few [252] (by decide)) (compOk_few [252] (by decide)) (by rw [runes_bue]; exact ok_bue) (by decide)
  rw [runes_bue, enc_bue] at h
  exact h
theorem encode_a (w : World) (hT : Lib.Utf8Tabs 0 1 w) : Calls Tryd.prog 9 #[.string oneA] w fun e w' => e = .returned (.tuple #[.string oneAH, .int .i64 0]) ∧ Below w.heap.size w w' := by
  have h := Encode_ok oneA w [] [] hT (by kernel_rfl) (by decide) (by rw [runes_a]; exact sortOk_few [] (by decide)) (compOk_few [] (by decide)) (by rw [runes_a]; exact trivial) (by decide)
  rw [runes_a, enc_a] at h
  exact h
theorem decode_bcher (w : World) : Calls Tryd.prog 12 #[.string bcher] w fun e w' => e = .returned (.tuple #[.string bue, .int .i64 0]) ∧ Below w.heap.size w w' := by
  have h := Decode_any bcher w (by decide)
  rw [dec_bcher, decodeV, bytes_bue] at h
  exact h

set_option maxRecDepth 100000 in
set_option maxHeartbeats 1000000 in
theorem coded_any (w : World) (hT : Lib.Utf8Tabs 0 1 w) :
    Calls Tryd.prog 8 #[] w fun e w' => e = .returned (.bool true) ∧ Below w.heap.size w w' := by
  have h1 := encode_bue w hT
  unfold bue bcher at h1
  go_enter Tryd.func8, Tryd.ntmps8
  go_wp2_with fail
  refine h1.mono ?_
  rintro e w1 ⟨rfl, hb1⟩
  have h2 := decode_bcher w1
  unfold bue bcher at h2
  clear h1
  go_wp2_with fail
  refine h2.mono ?_
  rintro e w2 ⟨rfl, hb2⟩
  have hb12 := hb1.trans (hb2.mono hb1.size)
  have h3 := encode_a w2 (Utf8Tabs_below hT hb12)
  unfold oneA oneAH at h3
  clear h2 hT
  go_wp2_with (go_at_call 9; refine h3.mono ?_; rintro e w3 ⟨rfl, hb3⟩)
  go_ret
  exact ⟨rfl, hb12.trans (hb3.mono hb12.size)⟩

set_option maxRecDepth 100000 in
set_option maxHeartbeats 1000000 in
theorem decodes_any (s : ByteArray) (w : World) (hT : Lib.Utf8Tabs 0 1 w) (hs0 : s.size ≤ 9223372036854775807) :
    Calls Tryd.prog 4 #[.string s] w fun e w' => e = .returned (.bool true) ∧ Below w.heap.size w w' := by
  have hco := coded_any w hT
  have hd := fun W => Decode_any s W hs0
  have hr := fun W => refDecode_any s W hs0
  clear hT
  generalize decodeS s = R at hd hr
  cases R with
  | none =>
    simp only [decodeV] at hd hr
    go_enter Tryd.func4, Tryd.ntmps4
    go_wp2_with (first | (go_at_call 8; refine hco.mono ?_; rintro e w1 ⟨rfl, hb1⟩) | (go_at_call 12; refine (hd _).mono ?_; rintro e w2 ⟨rfl, hb2⟩) | (go_at_call 13; refine (hr _).mono ?_; rintro e w3 ⟨rfl, hb3⟩) | (go_at_call 11; refine (num_any _ _).mono ?_; rintro e w4 ⟨rfl, hw'⟩; rw [hw']; clear hw'))
    go_ret
    exact ⟨rfl, (hb1.trans (hb2.mono hb1.size)).trans (hb3.mono (Nat.le_trans hb1.size hb2.size))⟩
  | some L =>
    simp only [decodeV] at hd hr
    generalize runesBytes (L.map (fun (n : Nat) => (n : Int))) = S at hd hr
    go_enter Tryd.func4, Tryd.ntmps4
    go_wp2_with (first | (go_at_call 8; refine hco.mono ?_; rintro e w1 ⟨rfl, hb1⟩) | (go_at_call 12; refine (hd _).mono ?_; rintro e w2 ⟨rfl, hb2⟩) | (go_at_call 13; refine (hr _).mono ?_; rintro e w3 ⟨rfl, hb3⟩) | (go_at_call 11; refine (num_any _ _).mono ?_; rintro e w4 ⟨rfl, hw'⟩; rw [hw']; clear hw'))
    go_ret
    exact ⟨rfl, (hb1.trans (hb2.mono hb1.size)).trans (hb3.mono (Nat.le_trans hb1.size hb2.size))⟩
end Go.Proofs.YtkaaldhejpaiiaaDoor

