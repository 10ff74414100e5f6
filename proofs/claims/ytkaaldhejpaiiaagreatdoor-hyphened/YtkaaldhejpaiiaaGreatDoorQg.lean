/- Encode. -/
import Derived.Test.YtkaaldhejpaiiaaGreatDoorQh
import Derived.Lib.TrimU
namespace Go.Proofs.YtkaaldhejpaiiaaGreatDoor
open Go.RowKit

theorem runesN_le (s : ByteArray) : ∀ b i, ∀ m ∈ runesN s b i, m ≤ 1114111
  | 0, _, m, h => by simp [runesN] at h
  | b + 1, i, m, h => by
    unfold runesN at h
    split at h
    · rcases List.mem_cons.1 h with rfl | h
      · exact Lib.rune_le s i
      · exact runesN_le s b _ m h
    · simp at h

set_option maxRecDepth 100000 in
set_option maxHeartbeats 1000000 in
theorem Encode_bad (s : ByteArray) (w : World) (hs : s.size ≤ 9223372036854775807) (hT : Lib.Utf8Tabs 1 2 w) (hv : Lib.validD s.data.toList = false) :
    Calls Tryz.prog 63 #[.string s] w fun e w' => e = .returned (.tuple #[.string { data := #[] }, .int .i64 1]) ∧ Below w.heap.size w w' := by
  have hva := valid_any s w hs hT
  rw [hv] at hva
  clear hv hT
  go_enter Tryz.func63, Tryz.ntmps63
  go_wp2_with (go_at_call 52; refine hva.mono ?_; rintro e w1 ⟨rfl, hb1⟩)
  go_ret2
  exact ⟨rfl, hb1⟩
set_option maxRecDepth 100000 in
set_option maxHeartbeats 1000000 in
theorem Encode_long (s : ByteArray) (w : World) (hs : s.size ≤ 9223372036854775807) (hT : Lib.Utf8Tabs 1 2 w) (hv : Lib.validD s.data.toList = true) (hl : 1000 < s.size) :
    Calls Tryz.prog 63 #[.string s] w fun e w' => e = .returned (.tuple #[.string { data := #[] }, .int .i64 9]) ∧ Below w.heap.size w w' := by
  have hva := valid_any s w hs hT
  rw [hv] at hva
  clear hv hT
  go_enter Tryz.func63, Tryz.ntmps63
  go_wp2_with (go_at_call 52; refine hva.mono ?_; rintro e w1 ⟨rfl, hb1⟩)
  go_ret2
  exact ⟨rfl, hb1⟩
set_option maxRecDepth 100000 in
set_option maxHeartbeats 1000000 in
theorem Encode_ok (s : ByteArray) (w : World) (ms ys : List Nat) (hT : Lib.Utf8Tabs 1 2 w) (hv : Lib.validD s.data.toList = true) (hl : s.size ≤ 1000) (hS : SortOk (oth (runes s)) ms) (hC : CompOk ms ys) (hok : eachAllOk (runes s) ys (firstEs (runes s))) (hy : ys.length ≤ 1000) :
    Calls Tryz.prog 63 #[.string s] w fun e w' => e = .returned (.tuple #[.string ⟨(encS (runes s) ys).toArray⟩, .int .i64 0]) ∧ Below w.heap.size w w' := by
  have hva := valid_any s w (by omega) hT
  rw [hv] at hva
  have hne := fun W => newEncoder_any s W hl
  have hen := fun E B W h => encode_any E B (runes s) ms ys W h (by have := runes_len s; omega) (runesN_le s _ _) hS hC hok hy
  clear hv hT hS hC hok
  go_enter Tryz.func63, Tryz.ntmps63
  go_wp2_with (first | (go_at_call 52; refine hva.mono ?_; rintro e w1 ⟨rfl, hb1⟩) | (go_at_call 102; refine (hne _).mono ?_; rintro e w2 ⟨E, rfl, hX, hb2⟩) | (go_at_call 103; refine (hen _ _ _ hX).mono ?_; rintro e w3 ⟨rfl, hb3⟩))
  go_ret2
  exact ⟨rfl, (hb1.trans (hb2.mono hb1.size)).trans (hb3.mono hb1.size)⟩
end Go.Proofs.YtkaaldhejpaiiaaGreatDoor
