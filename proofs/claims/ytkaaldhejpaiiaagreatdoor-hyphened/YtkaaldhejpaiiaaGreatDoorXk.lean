/- The library's sort at runes: order2Ordered, medianOrdered, medianAdjacentOrdered, choosePivotOrdered. -/
import Derived.Test.YtkaaldhejpaiiaaGreatDoorXj
namespace Go.Proofs.YtkaaldhejpaiiaaGreatDoor
open Go.RowKit Go.Sort

/-- The row, and a counter in a block of its own. -/
structure C32 (w : World) (blk off sb : Nat) (d : Array Int) (k : Nat) (wr : World) : Prop where
  row : S32 w blk off d wr
  new : w.heap.size ≤ sb
  cnt : ∃ c : Nat, c ≤ k ∧ wr.cell? ⟨sb, 0, none⟩ = some (.int .i64 (c : Int))
  free : wr.frozen? ⟨sb, 0, none⟩ = false

theorem C32.ahead {w wr : World} {blk off sb k : Nat} {d : Array Int} (h : C32 w blk off sb d k wr) (q : Nat) : C32 w blk off sb d k (wr.drewN q) := ⟨h.row.ahead q, h.new, h.cnt, h.free⟩
theorem C32.mono {w wr : World} {blk off sb k k' : Nat} {d : Array Int} (h : C32 w blk off sb d k wr) (hk : k ≤ k') : C32 w blk off sb d k' wr := by
  obtain ⟨c, hc, e⟩ := h.cnt
  exact ⟨h.row, h.new, ⟨c, by omega, e⟩, h.free⟩
theorem C32.count {w wr : World} {blk off sb k c : Nat} {d : Array Int} (h : C32 w blk off sb d k wr) (hc : c ≤ k + 1) : C32 w blk off sb d (k + 1) (wr.setCell ⟨sb, 0, none⟩ (.int .i64 (c : Int))) := by
  obtain ⟨c0, _, e⟩ := h.cnt
  have hs := set_same (v := .int .i64 (c : Int)) e h.free
  exact ⟨h.row.set _ _ h.new, h.new, ⟨c, hc, hs.1⟩, hs.2⟩

set_option maxHeartbeats 4000000 in
set_option maxRecDepth 100000 in
theorem ord32 (blk off n cap sb k x y : Nat) (d : Array Int) (w w0 : World) (hn : d.size = n) (hC : C32 w0 blk off sb d k w) (hk : k ≤ 1000) (hx : x < n) (hy : y < n) (_hsz : n ≤ 1000000) :
    Calls Tryz.prog 220 #[.slice (some ⟨blk, off, none⟩) n cap, .int .i64 x, .int .i64 y, .pointer (some ⟨sb, 0, none⟩)] w fun e w' =>
      ∃ (u v : Nat), e = .returned (.tuple #[.int .i64 u, .int .i64 v]) ∧ (u = x ∧ v = y ∨ u = y ∧ v = x) ∧ C32 w0 blk off sb d (k + 1) w' := by
  obtain ⟨G, hG⟩ := fam d
  obtain ⟨hc, hz⟩ := hC.row.cells hn G hG
  have HC : Hid (C32 w0 blk off sb d k w) := hC
  obtain ⟨c, hck, hcc⟩ := hC.cnt
  have hfr := hC.free
  clear hC hG
  go_enter Tryz.func220, Tryz.ntmps220
  go_wp2
  go_quiet (first | (go_at_call 206; refine Calls.quiet_of_same (less32 _ _ _)))
  have hcc' : (w.drewN nq).cell? ⟨sb, 0, none⟩ = some (.int .i64 (c : Int)) := hcc
  have hfr' : (w.drewN nq).frozen? ⟨sb, 0, none⟩ = false := hfr
  have HC' : Hid (C32 w0 blk off sb d k (w.drewN nq)) := HC.out.ahead _
  clear HC hcc hfr hc hz
  generalize w.drewN nq = w1 at *
  go_wp2
  · go_ret2
    exact ⟨y, x, rfl, Or.inr ⟨rfl, rfl⟩, HC'.out.count (c := c + 1) (by omega)⟩
  · go_ret2
    exact ⟨x, y, rfl, Or.inl ⟨rfl, rfl⟩, HC'.out.mono (by omega)⟩

set_option maxHeartbeats 4000000 in
set_option maxRecDepth 100000 in
theorem med32 (blk off n cap sb k x y z : Nat) (d : Array Int) (w w0 : World) (hn : d.size = n) (hC : C32 w0 blk off sb d k w) (hk : k ≤ 900) (hx : x < n) (hy : y < n) (hz : z < n) (hsz : n ≤ 1000000) :
    Calls Tryz.prog 217 #[.slice (some ⟨blk, off, none⟩) n cap, .int .i64 x, .int .i64 y, .int .i64 z, .pointer (some ⟨sb, 0, none⟩)] w fun e w' =>
      ∃ u : Nat, e = .returned (.int .i64 u) ∧ (u = x ∨ u = y ∨ u = z) ∧ C32 w0 blk off sb d (k + 3) w' := by
  have h1 := ord32 blk off n cap sb k x y d w w0 hn hC (by omega) hx hy hsz
  go_enter Tryz.func217, Tryz.ntmps217
  go_upto_region 2 with (go_at_call 220; refine h1.mono ?_; rintro e w1 ⟨u1, v1, rfl, huv1, hC1⟩)
  have h2 := ord32 blk off n cap sb (k + 1) v1 z d w1 w0 hn hC1 (by omega) (by omega) hz hsz
  clear h1 hC1
  go_upto_region 3 with (go_at_call 220; refine h2.mono ?_; rintro e w2 ⟨u2, v2, rfl, huv2, hC2⟩)
  have h3 := ord32 blk off n cap sb (k + 2) u1 u2 d w2 w0 hn hC2 (by omega) (by omega) (by omega) hsz
  clear h2 hC2
  go_wp2_with (go_at_call 220; refine h3.mono ?_; rintro e w3 ⟨u3, v3, rfl, huv3, hC3⟩)
  go_ret
  exact ⟨v3, rfl, by omega, hC3⟩

set_option maxHeartbeats 4000000 in
set_option maxRecDepth 100000 in
theorem medadj32 (blk off n cap sb k x : Nat) (d : Array Int) (w w0 : World) (hn : d.size = n) (hC : C32 w0 blk off sb d k w) (hk : k ≤ 900) (hx0 : 1 ≤ x) (hx : x + 1 < n) (hsz : n ≤ 1000000) :
    Calls Tryz.prog 216 #[.slice (some ⟨blk, off, none⟩) n cap, .int .i64 x, .pointer (some ⟨sb, 0, none⟩)] w fun e w' =>
      ∃ u : Nat, e = .returned (.int .i64 u) ∧ (u = x - 1 ∨ u = x ∨ u = x + 1) ∧ C32 w0 blk off sb d (k + 3) w' := by
  have h1 := med32 blk off n cap sb k (x - 1) x (x + 1) d w w0 hn hC (by omega) (by omega) (by omega) (by omega) hsz
  have e1 : ((x - 1 : Nat) : Int) = (x : Int) - 1 := by omega
  have e2 : ((x + 1 : Nat) : Int) = (x : Int) + 1 := by omega
  rw [e1, e2] at h1
  clear e1 e2
  go_enter Tryz.func216, Tryz.ntmps216
  go_wp2_with (go_at_call 217; refine h1.mono ?_; rintro e w1 ⟨u, rfl, hu, hC1⟩)
  go_ret
  exact ⟨u, rfl, hu, hC1⟩

set_option maxHeartbeats 8000000 in
set_option maxRecDepth 100000 in
theorem pivot32 (blk off n cap a L : Nat) (d : Array Int) (w : World) (hn : d.size = n) (hH : Holds (Value.int .i32) w blk off d) (hblk : blk < w.heap.size) (hL : 1 ≤ L) (hb : a + L ≤ n) (hsz : n ≤ 1000000) :
    Calls Tryz.prog 203 #[.slice (some ⟨blk, off, none⟩) n cap, .int .i64 a, .int .i64 ((a + L : Nat) : Int)] w fun e w' =>
      ∃ pv h : Nat, e = .returned (.tuple #[.int .i64 pv, .int .i64 h]) ∧ a ≤ pv ∧ pv < a + L ∧ h ≤ 2 ∧ S32 w blk off d w' := by
  have HC : Hid (C32 w blk off w.heap.size d 0 (w.alloc (Obj.cells #[.int .i64 0] 3))) :=
    ⟨(S32.refl hH hblk).alloc _, Nat.le_refl _, ⟨0, Nat.le_refl _, (new_cell _ _ _).1⟩, (new_cell _ _ _).2⟩
  obtain ⟨q, hq⟩ : ∃ q : Nat, L / 4 = q := ⟨_, rfl⟩
  have hqI : (L : Int) / 4 = (q : Int) := by omega
  have hq1 : 4 * q ≤ L := by omega
  have hq2 : L ≤ 4 * q + 3 := by omega
  have hLI : (a : Int) + (L : Int) - (a : Int) = (L : Int) := by omega
  clear hH hq
  go_enter Tryz.func203, Tryz.ntmps203
  go_upto_if 32 with fail
  generalize w.alloc (Obj.cells #[.int .i64 0] 3) = w1 at *
  go_cut [10, 11, 12] from 13 (fun x y z wc => ∃ pv : Nat, y = .int .i64 pv ∧ a ≤ pv ∧ pv < a + L ∧ C32 w blk off w.heap.size d 12 wc)
  case first =>
    by_cases h8 : (8 : Int) ≤ (L : Int)
    · go_upto_if 34 with fail
      go_cut [10, 11, 12] from 13 (fun x y z wc => ∃ i j k : Nat, x = .int .i64 i ∧ y = .int .i64 j ∧ z = .int .i64 k ∧ a ≤ i ∧ i < a + L ∧ a ≤ j ∧ j < a + L ∧ a ≤ k ∧ k < a + L ∧ C32 w blk off w.heap.size d 9 wc)
      case first =>
        by_cases h50 : (50 : Int) ≤ (L : Int)
        · have m1 := medadj32 blk off n cap w.heap.size 0 (a + q) d w1 w hn HC.out (by omega) (by omega) (by omega) hsz
          have e1 : ((a + q : Nat) : Int) = (a : Int) + (q : Int) := by omega
          rw [e1] at m1
          clear e1
          go_upto_region 9 with (go_at_call 216; refine m1.mono ?_; rintro e w2 ⟨i, rfl, hi, hC2⟩)
          have m2 := medadj32 blk off n cap w.heap.size 3 (a + q * 2) d w2 w hn hC2 (by omega) (by omega) (by omega) hsz
          have e2 : ((a + q * 2 : Nat) : Int) = (a : Int) + (q : Int) * 2 := by omega
          rw [e2] at m2
          clear e2 m1 hC2
          go_upto_region 10 with (go_at_call 216; refine m2.mono ?_; rintro e w3 ⟨j, rfl, hj, hC3⟩)
          have m3 := medadj32 blk off n cap w.heap.size 6 (a + q * 3) d w3 w hn hC3 (by omega) (by omega) (by omega) hsz
          have e3 : ((a + q * 3 : Nat) : Int) = (a : Int) + (q : Int) * 3 := by omega
          rw [e3] at m3
          clear e3 m2 hC3
          go_wp2_with (go_at_call 216; refine m3.mono ?_; rintro e w4 ⟨k, rfl, hk, hC4⟩)
          go_meet
          case rel => exact ⟨i, j, k, rfl, rfl, rfl, by omega, by omega, by omega, by omega, by omega, by omega, hC4⟩
        · go_wp2
          go_meet
          case rel => exact ⟨a + q, a + q * 2, a + q * 3, by congr 1, by congr 1, by congr 1, by omega, by omega, by omega, by omega, by omega, by omega, HC.out.mono (by omega)⟩
      case rest =>
        obtain ⟨i, j, k, rfl, rfl, rfl, h1, h2, h3, h4, h5, h6, hC9⟩ := hcut
        have m := med32 blk off n cap w.heap.size 9 i j k d wc w hn hC9 (by omega) (by omega) (by omega) (by omega) hsz
        clear hC9
        go_wp2_with (go_at_call 217; refine m.mono ?_; rintro e w5 ⟨u, rfl, hu, hC5⟩)
        go_meet
        case rel => exact ⟨u, rfl, by omega, by omega, hC5⟩
    · go_wp2
      go_meet
      case rel => exact ⟨a + q * 2, by congr 1, by omega, by omega, HC.out.mono (by omega)⟩
  case rest =>
    obtain ⟨pv, rfl, hp1, hp2, hC⟩ := hcut
    obtain ⟨c, hc12, hcell⟩ := hC.cnt
    have HR : Hid (S32 w blk off d wc) := hC.row
    clear hC
    by_cases hc0 : c = 0
    · subst hc0
      go_wp2
      go_ret2
      exact ⟨pv, 1, rfl, hp1, hp2, by omega, HR.out⟩
    · by_cases hc1 : c = 12
      · subst hc1
        go_wp2
        go_ret2
        exact ⟨pv, 2, rfl, hp1, hp2, by omega, HR.out⟩
      · have n0 : ((c : Int) == 0) = false := by simp; omega
        have n1 : ((c : Int) == 12) = false := by simp; omega
        go_wp2
        go_ret2
        exact ⟨pv, 0, rfl, hp1, hp2, by omega, HR.out⟩

end Go.Proofs.YtkaaldhejpaiiaaGreatDoor
