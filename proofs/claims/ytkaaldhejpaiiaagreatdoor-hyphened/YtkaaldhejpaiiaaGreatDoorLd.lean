/- strings.IndexRune at a sign that is not ASCII, in a text that is. -/
import Derived.Test.YtkaaldhejpaiiaaGreatDoorPe
import Derived.Test.YtkaaldhejpaiiaaGreatDoorShelf
import Derived.Laws.Runes
import Derived.BigQuiet
import Derived.WalkMore
import Derived.Deep.QuietTactic
import Derived.Shelf.SlicesE.IndexFunc
namespace Go.Proofs.YtkaaldhejpaiiaaGreatDoor
open Go.RowKit

set_option maxHeartbeats 4000000 in
set_option maxRecDepth 1000000 in
theorem indexRune_1 (s t : ByteArray) (a : Nat) (w : World) (h1 : 128 ≤ a) (h2 : a ≤ 40959) (ht : Utf8.encode (a : Int) = t) (hm : t.size = 2) (hs9 : s.size ≤ 100) (hls : 1 < s.size) (hlt : 1 < t.size)
    (hne : (((s[1]).toNat : Int) != ((t[1]).toNat : Int)) = true) (hib : Lib.indexByte (s.extract 2 s.size).data.toList (((t[1]).toNat : Int)).toNat.toUInt8 = -1) :
    Calls Tryz.prog 162 #[.string s, .int .i32 (a : Int)] w fun e w' => e = .returned (.int .i64 (-1)) ∧ Below w.heap.size w w' := by
  have hIB := fun w => Tryz.strings_IndexByte (s.extract 2 s.size) ((t[1]).toNat : Int) w
  rw [hib] at hIB
  clear hib
  go_enter Tryz.func162, Tryz.ntmps162
  go_wp2
  go_step3
  go_wp2
  go_loop [9] (fun i => i = .int .i64 1) (fun _ => 0)
  case atStart => rfl
  case round =>
    subst hrel
    have hl1 : (1 : Int) < (s.size : Int) := by omega
    have hl2 : (1 : Int) < (t.size : Int) := by omega
    have hls1 : (2 : Int) ≤ (s.size : Int) := by omega
    have hw2 : IntKind.i64.wrap 2 = 2 := by decide
    clear ht hm
    go_wp2
    go_step3
    go_wp2
    go_quiet (fail)
    have HQ : Hid (Below w.heap.size w (w.drewN nq)) := below_drewN' (Below.refl _ _) nq
    revert HQ
    generalize w.drewN nq = w2
    intro HQ
    go_wp2
    go_quiet (first | (go_at_call 186; refine Calls.quiet_of_same (hIB _)))
    go_wp2
    rw [Exit.noGoto_ret]
    change bodyPost Tryz.prog Tryz.f162 (fun e w' => e = Ending.returned (Value.int IntKind.i64 (-1)) ∧ Below w.heap.size w w') Exit.ret _ _
    go_ret
    exact ⟨rfl, below_drewN' HQ.out nq⟩
set_option maxHeartbeats 4000000 in
set_option maxRecDepth 1000000 in
theorem indexRune_2 (s t : ByteArray) (a : Nat) (w : World) (h1 : 128 ≤ a) (h2 : a ≤ 40959) (ht : Utf8.encode (a : Int) = t) (hm : t.size = 3) (hs9 : s.size ≤ 100) (hls : 2 < s.size) (hlt : 2 < t.size)
    (hne : (((s[2]).toNat : Int) != ((t[2]).toNat : Int)) = true) (hib : Lib.indexByte (s.extract 3 s.size).data.toList (((t[2]).toNat : Int)).toNat.toUInt8 = -1) :
    Calls Tryz.prog 162 #[.string s, .int .i32 (a : Int)] w fun e w' => e = .returned (.int .i64 (-1)) ∧ Below w.heap.size w w' := by
  have hIB := fun w => Tryz.strings_IndexByte (s.extract 3 s.size) ((t[2]).toNat : Int) w
  rw [hib] at hIB
  clear hib
  go_enter Tryz.func162, Tryz.ntmps162
  go_wp2
  go_step3
  go_wp2
  go_loop [9] (fun i => i = .int .i64 2) (fun _ => 0)
  case atStart => rfl
  case round =>
    subst hrel
    have hl1 : (2 : Int) < (s.size : Int) := by omega
    have hl2 : (2 : Int) < (t.size : Int) := by omega
    have hls1 : (3 : Int) ≤ (s.size : Int) := by omega
    have hw2 : IntKind.i64.wrap 3 = 3 := by decide
    clear ht hm
    go_wp2
    go_step3
    go_wp2
    go_quiet (fail)
    have HQ : Hid (Below w.heap.size w (w.drewN nq)) := below_drewN' (Below.refl _ _) nq
    revert HQ
    generalize w.drewN nq = w2
    intro HQ
    go_wp2
    go_quiet (first | (go_at_call 186; refine Calls.quiet_of_same (hIB _)))
    go_wp2
    rw [Exit.noGoto_ret]
    change bodyPost Tryz.prog Tryz.f162 (fun e w' => e = Ending.returned (Value.int IntKind.i64 (-1)) ∧ Below w.heap.size w w') Exit.ret _ _
    go_ret
    exact ⟨rfl, below_drewN' HQ.out nq⟩
end Go.Proofs.YtkaaldhejpaiiaaGreatDoor
