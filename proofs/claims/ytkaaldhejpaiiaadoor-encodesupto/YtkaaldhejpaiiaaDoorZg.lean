/- The document's Encode; the law Encodes. -/
import Derived.Test.YtkaaldhejpaiiaaDoorZd
import Derived.Test.YtkaaldhejpaiiaaDoorZu
import Derived.Test.YtkaaldhejpaiiaaDoorYa
import Derived.Test.YtkaaldhejpaiiaaDoorSm
namespace Go.Proofs.YtkaaldhejpaiiaaDoor
open Go.RowKit

/-- What Encode answers. -/
def encW (s : ByteArray) : ByteArray × Nat := if Lib.validD s.data.toList = true then (if s.size ≤ 1000 then (formOf s, 0) else ({ data := #[] }, 9)) else ({ data := #[] }, 1)
theorem Encode_w (s : ByteArray) (w : World) (hs : s.size ≤ 9223372036854775807) (hT : Lib.Utf8Tabs 0 1 w) :
    Calls Tryd.prog 9 #[.string s] w fun e w' => e = .returned (.tuple #[.string (encW s).1, .int .i64 ((encW s).2 : Nat)]) ∧ Below w.heap.size w w' :=
  (Encode_any s w hs hT).mono (by
    rintro e w' ⟨⟨v, rfl, hv⟩, hb⟩
    unfold encW
    cases hv with
    | bad h => rw [if_neg (by rw [h]; decide)]; exact ⟨rfl, hb⟩
    | long h hl => rw [if_pos h, if_neg (by omega)]; exact ⟨rfl, hb⟩
    | ok h hl => rw [if_pos h, if_pos hl]; exact ⟨rfl, hb⟩)

set_option maxRecDepth 100000 in
set_option maxHeartbeats 1000000 in
theorem refEncode_nil (w : World) : Calls Tryd.prog 21 #[.slice none 0 0] w fun e w' => e = .returned (.string { data := #[] }) ∧ Below w.heap.size w w' := by
  have hbeg := begin_any (.slice none 0 0) [] w.heap.size w (World.ownsRow_nil _ _ _ _) (Nat.le_refl _)
  go_enter Tryd.func21, Tryd.ntmps21
  go_wp2
  refine wp_loop_once ?_
  go_wp2_with (go_at_call 37; refine hbeg.mono ?_; rintro e w2 ⟨X, rfl, hR, hb2⟩)
  obtain ⟨v, hX, hov, hBX⟩ := hR
  have hv : ∃ a c, v = .slice a 0 c := by
    rcases hov.2 with ⟨rfl, _⟩ | ⟨g, cap, cur, rfl, _⟩
    · exact ⟨none, 0, rfl⟩
    · exact ⟨_, _, rfl⟩
  obtain ⟨va, vc, rfl⟩ := hv
  have c2 : w2.cell? ⟨X, 2, none⟩ = some (.slice va 0 vc) := by rw [cell_of_row w2 X 2 _ 81 (0, 0) hX]; rfl
  clear hX hov hbeg
  refine wp_loop_once ?_
  go_wp2
  go_ret
  exact ⟨rfl, hb2⟩

theorem form_nil {s : ByteArray} (h : runes s = []) : formOf s = { data := #[] } := by
  have hy : ysOf [] = [] := List.eq_nil_iff_forall_not_mem.2 fun y hy => by
    have := ((ysOf_ys []).all y).1 hy
    simp at this
  unfold formOf
  rw [h, hy]
  rfl

set_option maxRecDepth 100000 in
set_option maxHeartbeats 1000000 in
theorem refEncode_w (s : ByteArray) (w : World) (hs : s.size ≤ 2000000) :
    Calls Tryd.prog 10 #[.string s] w fun e w' => e = .returned (.tuple #[.string (encW s).1, .int .i64 ((encW s).2 : Nat)]) ∧ Below w.heap.size w w' := by
  have hsg := Signs_any s w hs
  by_cases hv : Lib.validD s.data.toList = true
  · have hsg2 : Calls Tryd.prog 20 #[.string s] w fun e w' => ∃ v, (e = .returned (.tuple #[v, .bool true]) ∧ w'.ownsRow w.heap.size 3 1 v (runes s).length ((runes s).map iv)) ∧ Below w.heap.size w w' := hsg.mono (by
      rintro e w' ⟨⟨_, v, he, ho⟩ | ⟨h, _⟩, hb⟩
      · exact ⟨v, ⟨he, ho⟩, hb⟩
      · rw [hv] at h; cases h)
    by_cases hl : s.size ≤ 1000
    · have e : encW s = (formOf s, 0) := by unfold encW; rw [if_pos hv, if_pos hl]
      rw [e]
      have hsgn := (bytes_of_valid hv).1
      have hrl := runes_len s
      have hl' : ¬ (1000 : Int) < (s.size : Int) := by omega
      have HE : Hid (∀ (v : Value) (W : World), W.ownsRow w.heap.size 3 1 v (runes s).length ((runes s).map iv) → Calls Tryd.prog 21 #[v] W fun e w' => e = .returned (.string (formOf s)) ∧ Below W.heap.size W w') := fun v W ho => by
        rcases ho.2 with ⟨rfl, h0⟩ | ⟨g, cap, cur, rfl, _, hg, _⟩
        · rw [form_nil (List.length_eq_zero_iff.1 h0)]
          exact refEncode_nil W
        · refine refEncode_some g cap (runes s) (ysOf (runes s)) W (by omega) hsgn (ysOf_ys _) (Array.getElem?_eq_some_iff.1 hg).1 (fun j hj => ?_)
          have := ho.cells (g := g) rfl j (iv (runes s)[j]) (by rw [List.getElem?_map, List.getElem?_eq_getElem hj]; rfl)
          rwa [Addr.add_lit, Nat.zero_add] at this
      clear hsg hsgn hrl e
      generalize formOf s = F at *
      go_enter Tryd.func10, Tryd.ntmps10
      go_wp2_with (go_at_call 20; refine hsg2.mono ?_; rintro e w1 ⟨v, ⟨rfl, ho⟩, hb1⟩)
      have hen := HE.out v w1 ho
      clear hsg2 ho
      go_wp2_with (go_at_call 21; refine hen.mono ?_; rintro e w2 ⟨rfl, hb2⟩)
      go_ret2
      exact ⟨rfl, hb1.trans (hb2.mono hb1.size)⟩
    · have e : encW s = ({ data := #[] }, 9) := by unfold encW; rw [if_pos hv, if_neg hl]
      rw [e]
      have hl' : (1000 : Int) < (s.size : Int) := by omega
      clear e hsg
      go_enter Tryd.func10, Tryd.ntmps10
      go_wp2_with (go_at_call 20; refine hsg2.mono ?_; rintro e w1 ⟨v, ⟨rfl, ho⟩, hb1⟩)
      go_ret2
      exact ⟨rfl, hb1⟩
  · have hvf : Lib.validD s.data.toList = false := by simpa using hv
    have hsg2 : Calls Tryd.prog 20 #[.string s] w fun e w' => e = .returned (.tuple #[.slice none 0 0, .bool false]) ∧ Below w.heap.size w w' := hsg.mono (by
      rintro e w' ⟨⟨h, _⟩ | ⟨_, he⟩, hb⟩
      · rw [hvf] at h; cases h
      · exact ⟨he, hb⟩)
    have e : encW s = ({ data := #[] }, 1) := by unfold encW; rw [if_neg hv]
    rw [e]
    clear e hsg
    go_enter Tryd.func10, Tryd.ntmps10
    go_wp2_with (go_at_call 20; refine hsg2.mono ?_; rintro e w1 ⟨rfl, hb1⟩)
    go_ret2
    exact ⟨rfl, hb1⟩

set_option maxRecDepth 100000 in
set_option maxHeartbeats 1000000 in
theorem encodes_any (s : ByteArray) (w : World) (hT : Lib.Utf8Tabs 0 1 w) (hs : s.size ≤ 2000000) :
    Calls Tryd.prog 3 #[.string s] w fun e w' => e = .returned (.bool true) ∧ Below w.heap.size w w' := by
  have hco := coded_any w hT
  have HT : Hid (Lib.Utf8Tabs 0 1 w) := hT
  have hE := fun W (hW : Below w.heap.size w W) => Encode_w s W (by omega) (Utf8Tabs_below HT.out hW)
  have hR := fun W => refEncode_w s W hs
  clear hT
  generalize (encW s).1 = F at *
  generalize (encW s).2 = E at *
  go_enter Tryd.func3, Tryd.ntmps3
  go_wp2_with (first | (go_at_call 8; refine hco.mono ?_; rintro e w1 ⟨rfl, hb1⟩) | (go_at_call 9; refine (hE _ hb1).mono ?_; rintro e w2 ⟨rfl, hb2⟩) | (go_at_call 10; refine (hR _).mono ?_; rintro e w3 ⟨rfl, hb3⟩) | (go_at_call 11; refine (num_any _ _).mono ?_; rintro e w4 ⟨rfl, hw'⟩; rw [hw']; clear hw'))
  go_ret
  exact ⟨rfl, (hb1.trans (hb2.mono hb1.size)).trans (hb3.mono (Nat.le_trans hb1.size hb2.size))⟩

end Go.Proofs.YtkaaldhejpaiiaaDoor
