/- The document's examples, by the project's answers. -/
import Derived.Test.YtkaaldhejpaiiaaGreatDoorNe
namespace Go.Proofs.YtkaaldhejpaiiaaGreatDoor
open Go.RowKit

def sBue : ByteArray := { data := #[98, 195, 188, 99, 104, 101, 114] }
def sXn : ByteArray := { data := #[120, 110, 45, 45, 98, 99, 104, 101, 114, 45, 107, 118, 97] }
def sDash : ByteArray := { data := #[45, 97] }
def sWww : ByteArray := { data := #[119, 119, 119, 46, 98, 195, 188, 99, 104, 101, 114, 46] }
def sWwwX : ByteArray := { data := #[119, 119, 119, 46, 120, 110, 45, 45, 98, 99, 104, 101, 114, 45, 107, 118, 97, 46] }
theorem lab_bue : labelV sBue = .tuple #[.string sBue, .string sXn, .int .i64 0] := by kernel_rfl
theorem lab_dash : labelV sDash = .tuple #[.string { data := #[] }, .string { data := #[] }, .int .i64 5] := by kernel_rfl
theorem nam_www : nameV sWww = .tuple #[.string sWww, .string sWwwX, .int .i64 0, .int .i64 0] := by kernel_rfl
/-- What a call finds: the library's tables, the project's, a number. -/
def Ground (w : World) : Prop := Lib.Utf8Tabs 1 2 w ∧ Tab w ∧ ∃ m, 3 < w.heap.size ∧ w.cell? ⟨3, 0, none⟩ = some (.int .i64 m)
theorem Ground.keep {w w' : World} (h : Ground w) (hb : Below w.heap.size w w') : Ground w' := by
  obtain ⟨h1, h2, m, h3, h4⟩ := h
  exact ⟨tabs_keep h1 hb, h2.keep hb, m, Nat.lt_of_lt_of_le h3 hb.size, (hb.cell (p := ⟨3, 0, none⟩) h3).trans h4⟩
theorem Label_at (s : ByteArray) (w : World) (hs : s.size ≤ 400000000) (h : Ground w) : Calls Tryz.prog 11 #[.string s] w fun e w' => e = .returned (labelV s) ∧ Below w.heap.size w w' := Label_any s w hs h.1 h.2.1
theorem Name_at (s : ByteArray) (w : World) (hs : s.size ≤ 300000000) (h : Ground w) : Calls Tryz.prog 20 #[.string s] w fun e w' => e = .returned (nameV s) ∧ Below w.heap.size w w' := by
  obtain ⟨h1, h2, m, _, h3⟩ := h
  exact Name_any s w m hs h3 h1 h2
set_option maxHeartbeats 1000000 in
theorem looks_any (w : World) (h : Ground w) : Calls Tryz.prog 14 #[] w fun e w' => e = .returned (.bool true) ∧ Below w.heap.size w w' := by
  have HG : Hid (Ground w) := h
  have h1 := Label_at sBue w (by decide) h
  rw [lab_bue] at h1
  have H2 : Hid (∀ W, Ground W → Calls Tryz.prog 11 #[.string sDash] W fun e w' => e = .returned (.tuple #[.string { data := #[] }, .string { data := #[] }, .int .i64 5]) ∧ Below W.heap.size W w') := fun W hW => by rw [← lab_dash]; exact Label_at sDash W (by decide) hW
  have H3 : Hid (∀ W, Ground W → Calls Tryz.prog 20 #[.string sWww] W fun e w' => e = .returned (.tuple #[.string sWww, .string sWwwX, .int .i64 0, .int .i64 0]) ∧ Below W.heap.size W w') := fun W hW => by rw [← nam_www]; exact Name_at sWww W (by decide) hW
  unfold sBue sXn at h1
  unfold sDash at H2
  unfold sWww sWwwX at H3
  clear h
  go_enter Tryz.func14, Tryz.ntmps14
  go_wp2_with fail
  refine h1.mono ?_
  rintro e w1 ⟨rfl, hb1⟩
  clear h1
  have h2 := H2.out w1 (HG.out.keep hb1)
  go_wp2_with fail
  refine h2.mono ?_
  rintro e w2 ⟨rfl, hb2⟩
  clear h2
  have h3 := H3.out w2 ((HG.out.keep hb1).keep hb2)
  go_wp2_with fail
  refine h3.mono ?_
  rintro e w3 ⟨rfl, hb3⟩
  clear h3
  go_wp2_with fail
  go_ret
  exact ⟨by simp, Below.andThen (Below.andThen hb1 hb2) hb3⟩
end Go.Proofs.YtkaaldhejpaiiaaGreatDoor
