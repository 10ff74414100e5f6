/- hasWrongHyphen, hasWrongContext. -/
import Derived.Test.YtkaaldhejpaiiaaGreatDoorLg
import Derived.Test.YtkaaldhejpaiiaaGreatDoorLh
namespace Go.Proofs.YtkaaldhejpaiiaaGreatDoor
open Go.RowKit

def hyphM (L : List Nat) : Bool := decide (rC (pkAt L 0) = 3) || decide (rC (pkAt L ((L.length : Int) - 1)) = 3) || (decide (rC (pkAt L 2) = 3) && decide (rC (pkAt L 3) = 3))
theorem kind_lit {w : World} {b r : Nat} {L : List Nat} (hL : Lab w b r L) (p : Int) (x : Int) (v : Bool) (hv : decide (rC (pkAt L p) = x) = v) :
    Calls Tryz.prog 60 #[.pointer (some ⟨b, 0, none⟩), .int .i64 p, .slice (some ⟨w.heap.size, 0, none⟩) 1 1] (w.alloc (.cells #[.int .u8 x] 56)) fun e w' => e = .returned (.bool v) ∧ Below w.heap.size w w' := by
  have h := isKind_lit hL p [x] #[.int .u8 x] 1 1 rfl rfl (by simp)
  rw [show ([x].any fun y => rC (pkAt L p) == y) = decide (rC (pkAt L p) = x) by simp only [List.any_cons, List.any_nil, Bool.or_false]; rfl, hv] at h
  exact h
set_option maxHeartbeats 4000000 in
theorem hasWrongHyphen_any {w : World} {b r : Nat} {L : List Nat} (hL : Lab w b r L) :
    Calls Tryz.prog 59 #[.pointer (some ⟨b, 0, none⟩)] w fun e w' => e = .returned (.bool (hyphM L)) ∧ Below w.heap.size w w' := by
  have HL : Hid (Lab w b r L) := hL
  have hlen := hL.len
  unfold hyphM
  cases hv0 : decide (rC (pkAt L 0) = 3) with
  | true =>
    have k0 := kind_lit hL 0 3 true hv0
    clear hL
    go_enter Tryz.func59, Tryz.ntmps59
    go_wp2_with (go_at_call 60; refine k0.mono ?_; rintro e w1 ⟨rfl, hb1⟩)
    go_ret
    exact ⟨by simp, hb1⟩
  | false =>
    have k0 := kind_lit hL 0 3 false hv0
    cases hv1 : decide (rC (pkAt L ((L.length : Int) - 1)) = 3) with
    | true =>
      clear hL
      go_enter Tryz.func59, Tryz.ntmps59
      go_wp2_with (go_at_call 60; refine k0.mono ?_; rintro e w1 ⟨rfl, hb1⟩; clear k0; have hc := fcount_any (HL.out.keep hb1))
      refine hc.mono ?_
      rintro e w' ⟨rfl, hw'⟩; rw [hw']; clear hw' hc
      have k1 := kind_lit (HL.out.keep hb1) _ 3 true hv1
      go_wp2_with (go_at_call 60; refine k1.mono ?_; rintro e w2 ⟨rfl, hb2⟩)
      go_ret
      exact ⟨by simp, Below.andThen hb1 hb2⟩
    | false =>
      cases hv2 : decide (rC (pkAt L 2) = 3) with
      | false =>
        clear hL
        go_enter Tryz.func59, Tryz.ntmps59
        go_wp2_with (go_at_call 60; refine k0.mono ?_; rintro e w1 ⟨rfl, hb1⟩; clear k0; have hc := fcount_any (HL.out.keep hb1))
        refine hc.mono ?_
        rintro e w' ⟨rfl, hw'⟩; rw [hw']; clear hw' hc
        have k1 := kind_lit (HL.out.keep hb1) _ 3 false hv1
        go_wp2_with fail
        refine k1.mono ?_
        rintro e w2 ⟨rfl, hb2⟩
        clear k1
        have k2 := kind_lit ((HL.out.keep hb1).keep hb2) 2 3 false hv2
        go_wp2_with fail
        refine k2.mono ?_
        rintro e w3 ⟨rfl, hb3⟩
        clear k2
        go_wp2_with fail
        go_ret
        exact ⟨by simp, Below.andThen (Below.andThen hb1 hb2) hb3⟩
      | true =>
        obtain ⟨v3, hv3⟩ : ∃ v3, decide (rC (pkAt L 3) = 3) = v3 := ⟨_, rfl⟩
        rw [hv3]
        clear hL
        go_enter Tryz.func59, Tryz.ntmps59
        go_wp2_with (go_at_call 60; refine k0.mono ?_; rintro e w1 ⟨rfl, hb1⟩; clear k0; have hc := fcount_any (HL.out.keep hb1))
        refine hc.mono ?_
        rintro e w' ⟨rfl, hw'⟩; rw [hw']; clear hw' hc
        have k1 := kind_lit (HL.out.keep hb1) _ 3 false hv1
        go_wp2_with fail
        refine k1.mono ?_
        rintro e w2 ⟨rfl, hb2⟩
        clear k1
        have k2 := kind_lit ((HL.out.keep hb1).keep hb2) 2 3 true hv2
        go_wp2_with fail
        refine k2.mono ?_
        rintro e w3 ⟨rfl, hb3⟩
        clear k2
        have k3 := kind_lit (((HL.out.keep hb1).keep hb2).keep hb3) 3 3 v3 hv3
        go_wp2_with fail
        refine k3.mono ?_
        rintro e w4 ⟨rfl, hb4⟩
        clear k3
        go_wp2_with fail
        go_ret
        exact ⟨by simp, Below.andThen (Below.andThen (Below.andThen hb1 hb2) hb3) hb4⟩
set_option maxHeartbeats 4000000 in
theorem hasWrongContext_any {w : World} {b r : Nat} {L : List Nat} (hL : Lab w b r L) :
    Calls Tryz.prog 62 #[.pointer (some ⟨b, 0, none⟩)] w fun e w' => e = .returned (.bool ((List.range L.length).any fun i => !ctxM L (kataM L) (mixedM L) (L.getD i 0) i)) ∧ Below w.heap.size w w' := by
  have hw := whole_any hL
  have HL : Hid (Lab w b r L) := hL
  have hlen := hL.len
  generalize kataM L = kata at *
  generalize mixedM L = mixed at *
  obtain ⟨n, hn⟩ : ∃ n, L.length = n := ⟨_, rfl⟩
  have HN : Hid (L.length = n) := hn
  rw [hn] at hlen ⊢
  clear hL hn
  go_enter Tryz.func62, Tryz.ntmps62
  go_wp2_with (go_at_call 100; refine hw.mono ?_; rintro e w1 ⟨rfl, hb1⟩; clear hw; have hc := fcount_any ((HL.out.keep hb1).alloc (.cells #[.bool kata, .bool mixed] 139)); rw [HN.out] at hc)
  refine hc.mono ?_
  rintro e w' ⟨rfl, hw'⟩; rw [hw']; clear hw' hc
  have HL1 : Hid (Lab (w1.alloc (.cells #[.bool kata, .bool mixed] 139)) b r L) := (HL.out.keep hb1).alloc _
  have HB1 : Hid (Below w.heap.size w (w1.alloc (.cells #[.bool kata, .bool mixed] 139))) := Below.andThen hb1 (below_one _ _)
  obtain ⟨z0, z1, _⟩ := two_cells (Go.heap_alloc_new w1 (.cells #[.bool kata, .bool mixed] 139))
  have hsz : w1.heap.size < (w1.alloc (.cells #[.bool kata, .bool mixed] 139)).heap.size := by simp
  obtain ⟨W1, hW1⟩ : ∃ W1, W1 = w1.alloc (.cells #[.bool kata, .bool mixed] 139) := ⟨_, rfl⟩
  rw [← hW1] at z0 z1 hsz HL1 HB1 ⊢
  have HZ : Hid (W1.cell? ⟨w1.heap.size, 0, none⟩ = some (.bool kata) ∧ W1.cell? ⟨w1.heap.size, 1, none⟩ = some (.bool mixed) ∧ w1.heap.size < W1.heap.size) := ⟨z0, z1, hsz⟩
  clear hW1 z0 z1 hsz hb1 HL
  go_wp2_with fail
  go_loopw [11] (fun iv wr => ∃ k : Nat, k ≤ n ∧ iv = .int .i64 k ∧ (∀ j, j < k → (!ctxM L kata mixed (L.getD j 0) j) = false) ∧ Below W1.heap.size W1 wr) (fun iv _ => n - (intOf iv).toNat)
  case atStart => exact ⟨0, by omega, rfl, fun j hj => absurd hj (by omega), Below.refl _ _⟩
  case round =>
    obtain ⟨k, hk, rfl, hno, hbw⟩ := hrel
    have HO : Hid (∀ j, j < k → (!ctxM L kata mixed (L.getD j 0) j) = false) := hno
    have HBW : Hid (Below W1.heap.size W1 wr) := hbw
    clear hno
    by_cases hlt : k < n
    · have hkL : k < L.length := by rw [HN.out]; exact hlt
      have hctx := isInContext_any (HL1.out.keep hbw) k hkL kata mixed
      have hg : L.getD k 0 = L[k] := by simp [List.getD, hkL]
      have c0 : wr.cell? ⟨w1.heap.size, 0, none⟩ = some (.bool kata) := (hbw.cell (p := ⟨w1.heap.size, 0, none⟩) HZ.out.2.2).trans HZ.out.1
      have c1 : wr.cell? ⟨w1.heap.size, 1, none⟩ = some (.bool mixed) := (hbw.cell (p := ⟨w1.heap.size, 1, none⟩) HZ.out.2.2).trans HZ.out.2.1
      rw [← hg] at hctx
      have hlt' : (k : Int) < (n : Int) := by omega
      clear hbw hkL hg
      cases hv : ctxM L kata mixed (L.getD k 0) k with
      | false =>
        rw [hv] at hctx
        go_wp2_with (go_at_call 101; refine hctx.mono ?_; rintro e w2 ⟨rfl, hb2⟩)
        go_ret
        refine ⟨?_, Below.andThen (Below.andThen HB1.out HBW.out) hb2⟩
        rw [List.any_eq_true.2 ⟨k, List.mem_range.2 hlt, by rw [hv]; rfl⟩]
        rfl
      | true =>
        rw [hv] at hctx
        go_wp2_with (go_at_call 101; refine hctx.mono ?_; rintro e w2 ⟨rfl, hb2⟩)
        go_roundw
        case rel => exact ⟨k + 1, by omega, by go_num, fun j hj => by
            rcases Nat.lt_succ_iff_lt_or_eq.1 hj with h | rfl
            · exact HO.out j h
            · rw [hv]; rfl, Below.andThen HBW.out hb2⟩
        case measure => simp [intOf]; omega
    · have hlt' : ¬ (k : Int) < (n : Int) := by omega
      clear hbw
      go_wp2
      go_ret
      refine ⟨?_, Below.andThen HB1.out HBW.out⟩
      rw [List.any_eq_false.2 fun j hj => by
        have h := HO.out j (by have := List.mem_range.1 hj; omega)
        simp only [List.getD_eq_getElem?_getD] at h
        rw [h]
        simp]
      rfl
end Go.Proofs.YtkaaldhejpaiiaaGreatDoor
