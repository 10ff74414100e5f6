/- The document's Decode; the examples; the law Decodes. -/
import Derived.Test.YtgkepdjgopoljaaDoorSg
namespace Go.Proofs.YtgkepdjgopoljaaDoor
open Go.RowKit

set_option maxRecDepth 100000 in
set_option maxHeartbeats 1000000 in
theorem refDecode_any (s : ByteArray) (w : World) (hs0 : s.size ≤ 9223372036854775807) :
    Calls Tryd.prog 13 #[.string s] w fun e w' => e = .returned (decodeV (decodeS s)) ∧ Below w.heap.size w w' := by
  have hdec : Calls Tryd.prog 26 #[.string s] w fun e w' => RefDec (decodeS s) w.heap.size e w' ∧ Below w.heap.size w w' := by
    by_cases hs : 1000 < s.size
    · rw [show decodeS s = none by rw [decodeS, if_pos (Or.inl hs)]]
      exact refDec_big s w hs hs0
    · exact refDec_small s w (by omega) _ rfl
  generalize decodeS s = R at hdec ⊢
  cases R with
  | none =>
    unfold RefDec at hdec
    go_enter Tryd.func13, Tryd.ntmps13
    go_wp2_with (go_at_call 26; refine hdec.mono ?_; rintro e w1 ⟨rfl, hb1⟩)
    go_ret2
    exact ⟨rfl, hb1⟩
  | some L =>
    unfold RefDec at hdec
    go_enter Tryd.func13, Tryd.ntmps13
    go_wp2_with fail
    refine hdec.mono ?_
    rintro e w1 ⟨⟨v, rfl, ho, hsg, hl⟩, hb1⟩
    have hv : ∃ a c, v = .slice a L.length c ∧ ∀ i (_ : i < L.length), ∃ g, a = some ⟨g, 0, none⟩ ∧ g < w1.heap.size ∧ w1.cell? ⟨g, i, none⟩ = some (iv L[i]) := by
      rcases ho.2 with ⟨rfl, e⟩ | ⟨g, cap, cur, rfl, _, hg, _⟩
      · exact ⟨none, 0, by rw [e], fun i hi => absurd hi (by omega)⟩
      · refine ⟨_, _, rfl, fun i hi => ⟨g, rfl, (Array.getElem?_eq_some_iff.1 hg).1, ?_⟩⟩
        have := ho.cells (g := g) rfl i (iv L[i]) (by rw [List.getElem?_map, List.getElem?_eq_getElem hi]; rfl)
        rwa [Addr.add_lit, Nat.zero_add] at this
    obtain ⟨a, c, rfl, hcell⟩ := hv
    have htx := text_any a c L w1 hl hsg hcell
    clear hdec ho hcell hsg
    go_wp2_with (go_at_call 27; refine htx.mono ?_; rintro e w2 ⟨rfl, hb2⟩)
    go_ret2
    exact ⟨rfl, hb1.trans (hb2.mono hb1.size)⟩

theorem num_any (n : Int) (w : World) : Calls Tryd.prog 11 #[.int .i64 n] w fun e w' => e = .returned (.int .i64 n) ∧ w' = w := by
  go_enter Tryd.func11, Tryd.ntmps11
  go_wp2
  go_ret
  exact ⟨rfl, rfl⟩

def bue : ByteArray := { data := #[98, 195, 188, 99, 104, 101, 114] }
def bcher : ByteArray := { data := #[98, 99, 104, 101, 114, 45, 107, 118, 97] }
theorem runes_bue : runes bue = [98, 252, 99, 104, 101, 114] := by kernel_rfl
theorem valid_bue : Lib.validD bue.data.toList = true := by kernel_rfl
theorem dec_bcher : decodeS bcher = some [98, 252, 99, 104, 101, 114] := by kernel_rfl
theorem bytes_bue : runesBytes ([98, 252, 99, 104, 101, 114].map (fun (n : Nat) => (n : Int))) = bue := by kernel_rfl
theorem enc_bue : (⟨(encS [98, 252, 99, 104, 101, 114] [252]).toArray⟩ : ByteArray) = bcher := by kernel_rfl
end Go.Proofs.YtgkepdjgopoljaaDoor
