import Derived.Test.YtkaaldhejpaiiaaGreatDoorMn
import Derived.Test.YtkaaldhejpaiiaaGreatDoorMh
/- Whole, at every text of its second form. -/
namespace Go.Proofs.YtkaaldhejpaiiaaGreatDoor
open Go.RowKit

def sAdd : ByteArray := { data := #[97, 46, 46, 98] }
theorem nam_add : nameV sAdd = .tuple #[.string { data := #[] }, .string { data := #[] }, .int .i64 1, .int .i64 2] := by kernel_rfl
set_option maxHeartbeats 1000000 in
theorem named_any (w : World) (h : Ground w) : Calls Tryz.prog 19 #[] w fun e w' => e = .returned (.bool true) ∧ Below w.heap.size w w' := by
  have HG : Hid (Ground w) := h
  have h1 := Name_at sWww w (by decide) h
  rw [nam_www] at h1
  have H2 : Hid (∀ W, Ground W → Calls Tryz.prog 20 #[.string sAdd] W fun e w' => e = .returned (.tuple #[.string { data := #[] }, .string { data := #[] }, .int .i64 1, .int .i64 2]) ∧ Below W.heap.size W w') := fun W hW => by rw [← nam_add]; exact Name_at sAdd W (by decide) hW
  unfold sWww sWwwX at h1
  unfold sAdd at H2
  clear h
  go_enter Tryz.func19, Tryz.ntmps19
  go_wp2_with fail
  refine h1.mono ?_
  rintro e w1 ⟨rfl, hb1⟩
  clear h1
  have h2 := H2.out w1 (HG.out.keep hb1)
  go_wp2_with fail
  refine h2.mono ?_
  rintro e w2 ⟨rfl, hb2⟩
  clear h2
  go_wp2_with fail
  go_ret
  exact ⟨by simp, Below.andThen hb1 hb2⟩
theorem together_nat (SL : List (List Nat)) (Fs : List ByteArray) : ∃ k : Nat, (togetherS SL Fs).1 = (k : Int) := by
  unfold togetherS
  split
  · rename_i h
    exact ⟨(firstS (fun L => !sidedM L) SL).toNat, by simp only; omega⟩
  · split <;> exact ⟨0, rfl⟩
theorem good_nat (ps : List ByteArray) : ∃ k : Nat, (goodM ps).1 = (k : Int) := by
  unfold goodM
  split
  · exact ⟨_, rfl⟩
  · exact together_nat _ _
theorem nameV_form (s : ByteArray) : ∃ (a b : ByteArray) (n k : Nat), nameV s = .tuple #[.string a, .string b, .int .i64 (n : Int), .int .i64 (k : Int)] := by
  unfold nameV
  split
  · exact ⟨_, _, 0, 0, rfl⟩
  · obtain ⟨n, hn⟩ := good_nat (partsM s)
    rw [hn]
    exact ⟨_, _, n, _, rfl⟩
set_option maxRecDepth 100000 in
set_option maxHeartbeats 4000000 in
theorem wholeLaw_any (s : ByteArray) (w : World) (hs : s.size ≤ 1048576) (hG : Ground w) : Calls Tryz.prog 7 #[.string s] w fun e w' => e = .returned (.bool true) ∧ Below w.heap.size w w' := by
  have hgd := named_any w hG
  have HG : Hid (∀ W, Below w.heap.size w W → Ground W) := fun W hW => hG.keep hW
  obtain ⟨a, b, n, k, hv⟩ := nameV_form s
  have HL : Hid (∀ W, Ground W → Calls Tryz.prog 20 #[.string s] W fun e w' => e = .returned (.tuple #[.string a, .string b, .int .i64 (n : Int), .int .i64 (k : Int)]) ∧ Below W.heap.size W w') := fun W hW => by rw [← hv]; exact Name_at s W (by omega) hW
  have HD : Hid (∀ W, Calls Tryz.prog 21 #[.string s] W fun e w' => e = .returned (.tuple #[.string a, .string b, .int .i64 (n : Int), .int .i64 (k : Int)]) ∧ Below W.heap.size W w') := fun W => by rw [← hv]; exact NameD_any s W hs
  have hnm := fun W => num_any k W
  clear hG hv
  go_enter Tryz.func7, Tryz.ntmps7
  go_wp2_with fail
  refine hgd.mono ?_
  rintro e w1 ⟨rfl, hb1⟩
  clear hgd
  have c1 := HL.out w1 (HG.out w1 hb1)
  go_wp2_with fail
  refine c1.mono ?_
  rintro e w2 ⟨rfl, hb2⟩
  clear c1
  have c2 := HD.out w2
  go_wp2_with fail
  refine c2.mono ?_
  rintro e w3 ⟨rfl, hb3⟩
  clear c2
  have c3 := hnm w3
  go_wp2_with fail
  refine c3.mono ?_
  rintro e w' ⟨rfl, hw'⟩; rw [hw']; clear hw' c3
  go_wp2_with fail
  go_ret
  exact ⟨by simp, Below.andThen (Below.andThen hb1 hb2) hb3⟩
end Go.Proofs.YtkaaldhejpaiiaaGreatDoor

