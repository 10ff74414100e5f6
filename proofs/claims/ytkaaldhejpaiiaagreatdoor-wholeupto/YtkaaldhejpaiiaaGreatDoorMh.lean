import Derived.Test.YtkaaldhejpaiiaaGreatDoorMg
import Derived.Test.YtkaaldhejpaiiaaGreatDoorBu23
/- The document's Label; Labels, at every text of its second form. -/
namespace Go.Proofs.YtkaaldhejpaiiaaGreatDoor
open Go.RowKit

set_option maxRecDepth 100000 in
set_option maxHeartbeats 4000000 in
theorem LabelD_any (s : ByteArray) (w : World) (hs : s.size ≤ 1048576) : Calls Tryz.prog 12 #[.string s] w fun e w' => e = .returned (labelV s) ∧ Below w.heap.size w w' := by
  have hd := label_doc s w hs
  have HV : Hid (labelV s = if (labelM s).1 = 0 then .tuple #[.string (textOf (labelM s).2.1), .string (labelM s).2.2, .int .i64 0] else .tuple #[.string { data := #[] }, .string { data := #[] }, .int .i64 ((labelM s).1 : Nat)]) := rfl
  go_enter Tryz.func12, Tryz.ntmps12
  go_wp2_with fail
  refine hd.mono ?_
  rintro e w1 ⟨hcase, hb1⟩
  clear hd
  have HB1 : Hid (Below w.heap.size w w1) := hb1
  clear hb1
  rcases hcase with ⟨h0, rfl⟩ | ⟨h0, g, c, rfl, hR⟩
  · have hv := HV.out
    rw [if_neg h0] at hv
    have HV2 : Hid (labelV s = .tuple #[.string { data := #[] }, .string { data := #[] }, .int .i64 ((labelM s).1 : Nat)]) := hv
    clear hv HV
    generalize (labelM s).1 = k at *
    have hk : ((k : Int) == 0) = false := beq_eq_false_iff_ne.2 (by omega)
    go_wp2_with fail
    go_ret3
    exact ⟨by rw [HV2.out]; rfl, HB1.out⟩
  · have hv := HV.out
    rw [if_pos h0] at hv
    have HV2 : Hid (labelV s = .tuple #[.string (textOf (labelM s).2.1), .string (labelM s).2.2, .int .i64 0]) := hv
    clear hv HV h0
    have hte := textB (some ⟨g, 0, none⟩) c (labelM s).2.1 w1 hR.len hR.sgn (fun i hi => ⟨g, rfl, hR.lt, hR.cell i hi⟩)
    clear hR
    rw [show runesBytes (lI (labelM s).2.1) = textOf (labelM s).2.1 from rfl] at hte
    generalize textOf (labelM s).2.1 = T at *
    generalize (labelM s).2.1.length = n at *
    generalize (labelM s).2.2 = A at *
    go_wp2_with fail
    refine hte.mono ?_
    rintro e w2 ⟨rfl, hb2⟩
    clear hte
    go_wp2_with fail
    go_ret3
    exact ⟨by rw [HV2.out]; rfl, Below.andThen HB1.out hb2⟩
def sXN : ByteArray := { data := #[88, 78, 45, 45, 66, 67, 72, 69, 82, 45, 75, 86, 65] }
def sLdl : ByteArray := { data := #[108, 194, 183, 108] }
def sAdl : ByteArray := { data := #[97, 194, 183, 108] }
def sLdlX : ByteArray := (labelM sLdl).2.2
theorem lab_xn : labelV sXN = .tuple #[.string sBue, .string sXn, .int .i64 0] := by kernel_rfl
theorem lab_ldl : labelV sLdl = .tuple #[.string sLdl, .string sLdlX, .int .i64 0] := by kernel_rfl
theorem lab_adl : labelV sAdl = .tuple #[.string { data := #[] }, .string { data := #[] }, .int .i64 8] := by kernel_rfl
theorem ldl_size : 4 < sLdlX.size := by decide +kernel
set_option maxHeartbeats 1000000 in
theorem good_any (w : World) (h : Ground w) : Calls Tryz.prog 10 #[] w fun e w' => e = .returned (.bool true) ∧ Below w.heap.size w w' := by
  have HG : Hid (Ground w) := h
  have h1 := Label_at sXN w (by decide) h
  rw [lab_xn] at h1
  have H2 : Hid (∀ W, Ground W → Calls Tryz.prog 11 #[.string sLdl] W fun e w' => e = .returned (.tuple #[.string sLdl, .string sLdlX, .int .i64 0]) ∧ Below W.heap.size W w') := fun W hW => by rw [← lab_ldl]; exact Label_at sLdl W (by decide) hW
  have H3 : Hid (∀ W, Ground W → Calls Tryz.prog 11 #[.string sAdl] W fun e w' => e = .returned (.tuple #[.string { data := #[] }, .string { data := #[] }, .int .i64 8]) ∧ Below W.heap.size W w') := fun W hW => by rw [← lab_adl]; exact Label_at sAdl W (by decide) hW
  have h4 : (4 : Int) < (sLdlX.size : Int) := by have := ldl_size; omega
  generalize sLdlX = X at *
  unfold sXN sBue sXn at h1
  unfold sLdl at H2
  unfold sAdl at H3
  clear h
  go_enter Tryz.func10, Tryz.ntmps10
  go_wp2_with fail
  refine h1.mono ?_
  rintro e w1 ⟨rfl, hb1⟩
  clear h1
  have h2 := H2.out w1 (HG.out.keep hb1)
  go_wp2_with fail
  refine h2.mono ?_
  rintro e w2 ⟨rfl, hb2⟩
  clear h2
  have h3 := H3.out w2 ((HG.out.keep hb1).keep hb2)
  go_wp2_with fail
  refine h3.mono ?_
  rintro e w3 ⟨rfl, hb3⟩
  clear h3
  go_wp2_with fail
  go_ret
  exact ⟨by simp, Below.andThen (Below.andThen hb1 hb2) hb3⟩
theorem num_any (k : Nat) (w : World) : Calls Tryz.prog 13 #[.int .i64 (k : Int)] w fun e w' => e = .returned (.int .i64 (k : Int)) ∧ w' = w := by
  go_enter Tryz.func13, Tryz.ntmps13
  go_wp2
  go_ret
  exact ⟨rfl, rfl⟩
theorem labelV_form (s : ByteArray) : ∃ (a b : ByteArray) (k : Nat), labelV s = .tuple #[.string a, .string b, .int .i64 (k : Int)] := by
  obtain ⟨a, b, h⟩ := labelV_err s
  exact ⟨a, b, _, h⟩
set_option maxRecDepth 100000 in
set_option maxHeartbeats 4000000 in
theorem labels_any (s : ByteArray) (w : World) (hs : s.size ≤ 1048576) (hG : Ground w) : Calls Tryz.prog 3 #[.string s] w fun e w' => e = .returned (.bool true) ∧ Below w.heap.size w w' := by
  have hgd := good_any w hG
  have HG : Hid (∀ W, Below w.heap.size w W → Ground W) := fun W hW => hG.keep hW
  obtain ⟨a, b, k, hv⟩ := labelV_form s
  have HL : Hid (∀ W, Ground W → Calls Tryz.prog 11 #[.string s] W fun e w' => e = .returned (.tuple #[.string a, .string b, .int .i64 (k : Int)]) ∧ Below W.heap.size W w') := fun W hW => by rw [← hv]; exact Label_at s W (by omega) hW
  have HD : Hid (∀ W, Calls Tryz.prog 12 #[.string s] W fun e w' => e = .returned (.tuple #[.string a, .string b, .int .i64 (k : Int)]) ∧ Below W.heap.size W w') := fun W => by rw [← hv]; exact LabelD_any s W hs
  have hnm := fun W => num_any k W
  clear hG hv
  go_enter Tryz.func3, Tryz.ntmps3
  go_wp2_with fail
  refine hgd.mono ?_
  rintro e w1 ⟨rfl, hb1⟩
  clear hgd
  have c1 := HL.out w1 (HG.out w1 hb1)
  go_wp2_with fail
  refine c1.mono ?_
  rintro e w2 ⟨rfl, hb2⟩
  clear c1
  have c2 := HD.out w2
  go_wp2_with fail
  refine c2.mono ?_
  rintro e w3 ⟨rfl, hb3⟩
  clear c2
  have c3 := hnm w3
  go_wp2_with fail
  refine c3.mono ?_
  rintro e w' ⟨rfl, hw'⟩; rw [hw']; clear hw' c3
  go_wp2_with fail
  go_ret
  exact ⟨by simp, Below.andThen (Below.andThen hb1 hb2) hb3⟩
end Go.Proofs.YtkaaldhejpaiiaaGreatDoor

