/- Sides: hasOnlySides, endsOnSide, isSided, asksForSides. -/
import Derived.Test.YtkaaldhejpaiiaaGreatDoorLp
namespace Go.Proofs.YtkaaldhejpaiiaaGreatDoor
open Go.RowKit

def hasSideM (L : List Nat) (ks : List Int) : Bool := (List.range L.length).any fun (i : Nat) => ks.any fun y => rS (pkAt L (i : Int)) == y
def onlyM (L : List Nat) (ks : List Int) : Bool := !((List.range L.length).any fun (i : Nat) => !(ks.any fun y => rS (pkAt L (i : Int)) == y))
def endN (L : List Nat) : Nat → Int
  | 0 => -1
  | k + 1 => if rS (pkAt L (k : Int)) = 7 then endN L k else (k : Int)
def endsM (L : List Nat) (ks : List Int) : Bool := ks.any fun y => rS (pkAt L (endN L L.length)) == y
/-- Sided (P6). -/
def sidedM (L : List Nat) : Bool :=
  if ([1].any fun y => rS (pkAt L 0) == y) = true then onlyM L [1, 4, 6, 7, 0] && endsM L [1, 4]
  else if ([2, 3].any fun y => rS (pkAt L 0) == y) = true then onlyM L [2, 3, 5, 4, 6, 7, 0] && endsM L [2, 3, 4, 5] && !(hasSideM L [4] && hasSideM L [5])
  else false
def asksM (L : List Nat) : Bool := hasSideM L [2, 3, 5]
theorem rS_out (L : List Nat) (p : Int) (h : ¬ (0 ≤ p ∧ p < (L.length : Int))) : rS (pkAt L p) = 0 := by
  unfold pkAt
  rw [if_neg h]
  rfl

set_option maxHeartbeats 1000000 in
theorem onlyF_any {w : World} {b r : Nat} {L : List Nat} (hL : Lab w b r L) (i : Nat) (k c p1 p2 : Nat) (ks : List Int) (hk : Lits w k ks) (h1 : w.cell? ⟨p1, 0, none⟩ = some (.pointer (some ⟨b, 0, none⟩))) (h2 : w.cell? ⟨p2, 0, none⟩ = some (.slice (some ⟨k, 0, none⟩) ks.length c)) :
    Calls Tryz.prog 173 #[.int .i64 (i : Int), .pointer (some ⟨p1, 0, none⟩), .pointer (some ⟨p2, 0, none⟩)] w fun e w' => e = .returned (.bool (!(ks.any fun y => rS (pkAt L (i : Int)) == y))) ∧ Below w.heap.size w w' := by
  have his := isSide_any hL (i : Int) k c ks hk
  generalize (ks.any fun y => rS (pkAt L (i : Int)) == y) = v at *
  clear hL hk
  go_enter Tryz.func173, Tryz.ntmps173
  go_wp2_with (go_at_call 147; refine his.mono ?_; rintro e w1 ⟨rfl, hb1⟩)
  go_ret
  exact ⟨rfl, hb1⟩
set_option maxHeartbeats 1000000 in
theorem hasOnlySides_any {w : World} {b r : Nat} {L : List Nat} (hL : Lab w b r L) (k c : Nat) (ks : List Int) (hk : Lits w k ks) :
    Calls Tryz.prog 148 #[.pointer (some ⟨b, 0, none⟩), .slice (some ⟨k, 0, none⟩) ks.length c] w fun e w' => e = .returned (.bool (onlyM L ks)) ∧ Below w.heap.size w w' := by
  have hB0 : Below w.heap.size w ((w.alloc (.cells #[.pointer (some ⟨b, 0, none⟩)] 44)).alloc (.cells #[.slice (some ⟨k, 0, none⟩) ks.length c] 198)) := ((Below.refl _ w).alloc (Nat.le_refl _) _).alloc (by simp) _
  have e1 : ((w.alloc (.cells #[.pointer (some ⟨b, 0, none⟩)] 44)).alloc (.cells #[.slice (some ⟨k, 0, none⟩) ks.length c] 198)).heap[w.heap.size]? = some (.cells #[.pointer (some ⟨b, 0, none⟩)] 44 (0, 0)) :=
    (((Below.refl (w.alloc (.cells #[.pointer (some ⟨b, 0, none⟩)] 44)).heap.size _).alloc (Nat.le_refl _) _).block w.heap.size (by simp)).trans (Go.heap_alloc_new w _)
  have e2 : ((w.alloc (.cells #[.pointer (some ⟨b, 0, none⟩)] 44)).alloc (.cells #[.slice (some ⟨k, 0, none⟩) ks.length c] 198)).heap[w.heap.size + 1]? = some (.cells #[.slice (some ⟨k, 0, none⟩) ks.length c] 198 (0, 0)) := by
    have h := Go.heap_alloc_new (w.alloc (.cells #[.pointer (some ⟨b, 0, none⟩)] 44)) (.cells #[.slice (some ⟨k, 0, none⟩) ks.length c] 198)
    rwa [World.size_alloc] at h
  have eg : ∀ args w, (callFunc 173 args).run Tryz.prog w = .ok (.enter 173 args) w := enters_of Tryz.func173 (by kernel_rfl) rfl
  have hs := somewhere_any (hL.keep hB0) 173 #[.pointer (some ⟨w.heap.size, 0, none⟩), .pointer (some ⟨w.heap.size + 1, 0, none⟩)] (fun i => !(ks.any fun y => rS (pkAt L (i : Int)) == y)) eg
    (fun W hW i hi => onlyF_any ((hL.keep hB0).keep hW) i k c w.heap.size (w.heap.size + 1) ks ((hk.keep hB0).keep hW)
      (by rw [cell_of_row _ _ _ _ 44 (0, 0) ((hW.block _ (lt_heap e1)).trans e1)]; rfl)
      (by rw [cell_of_row _ _ _ _ 198 (0, 0) ((hW.block _ (lt_heap e2)).trans e2)]; rfl))
  have hmf : ∀ (fn : Fn) (first cap : Array Value) (w : World), (Instr.makeFunc fn first cap).run Tryz.prog w = .ok (.func fn first cap) w := fun _ _ _ _ => rfl
  have HB0 : Hid (Below w.heap.size w ((w.alloc (.cells #[.pointer (some ⟨b, 0, none⟩)] 44)).alloc (.cells #[.slice (some ⟨k, 0, none⟩) ks.length c] 198))) := hB0
  unfold onlyM
  generalize ((List.range L.length).any fun (i : Nat) => !(ks.any fun y => rS (pkAt L (i : Int)) == y)) = v at *
  clear hL hk e1 e2 eg hB0
  go_enter Tryz.func148, Tryz.ntmps148
  go_wp2_with (go_at_call 92; refine hs.mono ?_; rintro e w1 ⟨rfl, hb1⟩)
  go_ret
  exact ⟨rfl, Below.andThen HB0.out hb1⟩
set_option maxHeartbeats 1000000 in
theorem endsOnSide_any {w : World} {b r : Nat} {L : List Nat} (hL : Lab w b r L) (k c : Nat) (ks : List Int) (hk : Lits w k ks) :
    Calls Tryz.prog 149 #[.pointer (some ⟨b, 0, none⟩), .slice (some ⟨k, 0, none⟩) ks.length c] w fun e w' => e = .returned (.bool (endsM L ks)) ∧ Below w.heap.size w w' := by
  have hct := fcount_any hL
  have hlen := hL.len
  have HL : Hid (Lab w b r L) := hL
  have HK : Hid (Lits w k ks) := hk
  obtain ⟨n, hn⟩ : ∃ n, L.length = n := ⟨_, rfl⟩
  have HN : Hid (L.length = n) := hn
  have HE : Hid (endsM L ks = ks.any fun y => rS (pkAt L (endN L n)) == y) := by unfold Hid endsM; rw [hn]
  rw [HE.out]
  rw [hn] at hct hlen
  clear hL hk hn HE
  go_enter Tryz.func149, Tryz.ntmps149
  go_wp2_with (go_at_call 94; refine hct.mono ?_; rintro e w' ⟨rfl, hw'⟩; rw [hw']; clear hw')
  clear hct
  go_loopw [5] (fun pv wr => ∃ k : Nat, k ≤ n ∧ pv = .int .i64 ((k : Int) - 1) ∧ endN L n = endN L k ∧ Below w.heap.size w wr) (fun pv _ => (intOf pv + 1).toNat)
  case atStart => exact ⟨n, by omega, by go_num, rfl, Below.refl _ _⟩
  case round =>
    obtain ⟨m, hm, rfl, hbk, hbw⟩ := hrel
    have HB : Hid (endN L n = endN L m) := hbk
    have HBW : Hid (Below w.heap.size w wr) := hbw
    have his := isSide_lit (HL.out.keep hbw) ((m : Int) - 1) [7] #[.int .u8 7] 1 1 rfl rfl (by decide)
    rw [show ([7].any fun y => rS (pkAt L ((m : Int) - 1)) == y) = decide (rS (pkAt L ((m : Int) - 1)) = 7) by simp only [List.any_cons, List.any_nil, Bool.or_false]; rfl] at his
    clear hbk hbw
    by_cases h7 : rS (pkAt L ((m : Int) - 1)) = 7
    · rw [decide_eq_true h7] at his
      have hm1 : 1 ≤ m := by
        rcases Nat.eq_zero_or_pos m with rfl | h
        · rw [rS_out L _ (by omega)] at h7; omega
        · exact h
      go_wp2_with (go_at_call 147; refine his.mono ?_; rintro e w1 ⟨rfl, hb1⟩)
      go_roundw
      case rel =>
        obtain ⟨j, rfl⟩ : ∃ j, m = j + 1 := ⟨m - 1, by omega⟩
        refine ⟨j, by omega, by go_num, ?_, Below.andThen HBW.out hb1⟩
        rw [HB.out, endN, if_pos (by rw [show ((j : Nat) : Int) = ((j + 1 : Nat) : Int) - 1 by omega]; exact h7)]
      case measure => simp [intOf]; omega
    · rw [decide_eq_false h7] at his
      have hen : endN L n = (m : Int) - 1 := by
        rw [HB.out]
        rcases Nat.eq_zero_or_pos m with rfl | h
        · rfl
        · obtain ⟨j, rfl⟩ : ∃ j, m = j + 1 := ⟨m - 1, by omega⟩
          rw [endN, if_neg (by rw [show ((j : Nat) : Int) = ((j + 1 : Nat) : Int) - 1 by omega]; exact h7)]
          omega
      have HEN : Hid (endN L n = (m : Int) - 1) := hen
      clear hen
      go_wp2_with fail
      refine his.mono ?_
      rintro e w1 ⟨rfl, hb1⟩
      clear his
      have hi2 := isSide_any ((HL.out.keep HBW.out).keep hb1) ((m : Int) - 1) k c ks ((HK.out.keep HBW.out).keep hb1)
      go_wp2_with fail
      refine hi2.mono ?_
      rintro e w2 ⟨rfl, hb2⟩
      clear hi2
      go_wp2_with fail
      go_ret
      exact ⟨by rw [HEN.out]; rfl, Below.andThen (Below.andThen HBW.out hb1) hb2⟩
theorem hasOnlySides_lit {w : World} {b r : Nat} {L : List Nat} (hL : Lab w b r L) (ks : List Int) (cs : Array Value) (n c : Nat) (v : Bool) (hv : onlyM L ks = v) (hcs : cs = (ks.map (Value.int .u8)).toArray) (hn : n = ks.length) (hl : ks.length ≤ 100) :
    Calls Tryz.prog 148 #[.pointer (some ⟨b, 0, none⟩), .slice (some ⟨w.heap.size, 0, none⟩) n c] (w.alloc (.cells cs 57)) fun e w' => e = .returned (.bool v) ∧ Below w.heap.size w w' := by
  subst hcs hn hv
  refine (hasOnlySides_any (hL.alloc _) w.heap.size c ks (lits_new w ks 57 hl)).mono ?_
  rintro e w' ⟨rfl, hb⟩
  exact ⟨rfl, Below.newly hb⟩
theorem endsOnSide_lit {w : World} {b r : Nat} {L : List Nat} (hL : Lab w b r L) (ks : List Int) (cs : Array Value) (n c : Nat) (v : Bool) (hv : endsM L ks = v) (hcs : cs = (ks.map (Value.int .u8)).toArray) (hn : n = ks.length) (hl : ks.length ≤ 100) :
    Calls Tryz.prog 149 #[.pointer (some ⟨b, 0, none⟩), .slice (some ⟨w.heap.size, 0, none⟩) n c] (w.alloc (.cells cs 57)) fun e w' => e = .returned (.bool v) ∧ Below w.heap.size w w' := by
  subst hcs hn hv
  refine (endsOnSide_any (hL.alloc _) w.heap.size c ks (lits_new w ks 57 hl)).mono ?_
  rintro e w' ⟨rfl, hb⟩
  exact ⟨rfl, Below.newly hb⟩
theorem hasSide_is {w : World} {b r : Nat} {L : List Nat} (hL : Lab w b r L) (ks : List Int) (cs : Array Value) (n c : Nat) (v : Bool) (hv : hasSideM L ks = v) (hcs : cs = (ks.map (Value.int .u8)).toArray) (hn : n = ks.length) (hl : ks.length ≤ 100) :
    Calls Tryz.prog 150 #[.pointer (some ⟨b, 0, none⟩), .slice (some ⟨w.heap.size, 0, none⟩) n c] (w.alloc (.cells cs 57)) fun e w' => e = .returned (.bool v) ∧ Below w.heap.size w w' := by
  subst hv
  exact hasSide_lit hL ks cs n c hcs hn hl
theorem isSide_is {w : World} {b r : Nat} {L : List Nat} (hL : Lab w b r L) (p : Int) (ks : List Int) (cs : Array Value) (n c : Nat) (v : Bool) (hv : (ks.any fun y => rS (pkAt L p) == y) = v) (hcs : cs = (ks.map (Value.int .u8)).toArray) (hn : n = ks.length) (hl : ks.length ≤ 100) :
    Calls Tryz.prog 147 #[.pointer (some ⟨b, 0, none⟩), .int .i64 p, .slice (some ⟨w.heap.size, 0, none⟩) n c] (w.alloc (.cells cs 57)) fun e w' => e = .returned (.bool v) ∧ Below w.heap.size w w' := by
  subst hv
  exact isSide_lit hL p ks cs n c hcs hn hl
set_option maxHeartbeats 1000000 in
theorem asks_any {w : World} {b r : Nat} {L : List Nat} (hL : Lab w b r L) :
    Calls Tryz.prog 117 #[.pointer (some ⟨b, 0, none⟩)] w fun e w' => e = .returned (.bool (asksM L)) ∧ Below w.heap.size w w' := by
  have h := hasSide_is hL [2, 3, 5] #[.int .u8 2, .int .u8 3, .int .u8 5] 3 3 _ rfl rfl rfl (by decide)
  rw [show hasSideM L [2, 3, 5] = asksM L from rfl] at h
  generalize asksM L = v at *
  clear hL
  go_enter Tryz.func117, Tryz.ntmps117
  go_wp2_with (go_at_call 150; refine h.mono ?_; rintro e w1 ⟨rfl, hb1⟩)
  go_ret
  exact ⟨rfl, hb1⟩

set_option maxHeartbeats 4000000 in
theorem isSided_any {w : World} {b r : Nat} {L : List Nat} (hL : Lab w b r L) :
    Calls Tryz.prog 114 #[.pointer (some ⟨b, 0, none⟩)] w fun e w' => e = .returned (.bool (sidedM L)) ∧ Below w.heap.size w w' := by
  have HL : Hid (Lab w b r L) := hL
  clear hL
  unfold sidedM
  cases h1 : [1].any fun y => rS (pkAt L 0) == y with
  | true =>
    rw [if_pos rfl]
    obtain ⟨v3, h3⟩ : ∃ v, endsM L [1, 4] = v := ⟨_, rfl⟩
    rw [h3]
    cases h2 : onlyM L [1, 4, 6, 7, 0] with
    | true =>
      go_enter Tryz.func114, Tryz.ntmps114
      have k1 := isSide_is HL.out 0 [1] #[.int .u8 1] 1 1 true h1 rfl rfl (by decide)
      go_wp2_with fail
      refine k1.mono ?_
      rintro e w1 ⟨rfl, hb1⟩
      clear k1
      have k2 := hasOnlySides_lit (HL.out.keep hb1) [1, 4, 6, 7, 0] #[.int .u8 1, .int .u8 4, .int .u8 6, .int .u8 7, .int .u8 0] 5 5 true h2 rfl rfl (by decide)
      go_wp2_with fail
      refine k2.mono ?_
      rintro e w2 ⟨rfl, hb2⟩
      clear k2
      have k3 := endsOnSide_lit ((HL.out.keep hb1).keep hb2) [1, 4] #[.int .u8 1, .int .u8 4] 2 2 v3 h3 rfl rfl (by decide)
      go_wp2_with fail
      refine k3.mono ?_
      rintro e w3 ⟨rfl, hb3⟩
      clear k3
      go_wp2_with fail
      go_ret
      exact ⟨by simp, Below.andThen (Below.andThen hb1 hb2) hb3⟩
    | false =>
      go_enter Tryz.func114, Tryz.ntmps114
      have k1 := isSide_is HL.out 0 [1] #[.int .u8 1] 1 1 true h1 rfl rfl (by decide)
      go_wp2_with fail
      refine k1.mono ?_
      rintro e w1 ⟨rfl, hb1⟩
      clear k1
      have k2 := hasOnlySides_lit (HL.out.keep hb1) [1, 4, 6, 7, 0] #[.int .u8 1, .int .u8 4, .int .u8 6, .int .u8 7, .int .u8 0] 5 5 false h2 rfl rfl (by decide)
      go_wp2_with fail
      refine k2.mono ?_
      rintro e w2 ⟨rfl, hb2⟩
      clear k2
      go_wp2_with fail
      go_ret
      exact ⟨by simp, Below.andThen hb1 hb2⟩
  | false =>
    rw [if_neg (by decide)]
    cases h2 : [2, 3].any fun y => rS (pkAt L 0) == y with
    | false =>
      rw [if_neg (by decide)]
      go_enter Tryz.func114, Tryz.ntmps114
      have k1 := isSide_is HL.out 0 [1] #[.int .u8 1] 1 1 false h1 rfl rfl (by decide)
      go_wp2_with fail
      refine k1.mono ?_
      rintro e w1 ⟨rfl, hb1⟩
      clear k1
      have k2 := isSide_is (HL.out.keep hb1) 0 [2, 3] #[.int .u8 2, .int .u8 3] 2 2 false h2 rfl rfl (by decide)
      go_wp2_with fail
      refine k2.mono ?_
      rintro e w2 ⟨rfl, hb2⟩
      clear k2
      go_wp2_with fail
      go_ret
      exact ⟨by simp, Below.andThen hb1 hb2⟩
    | true =>
      rw [if_pos rfl]
      cases h3 : onlyM L [2, 3, 5, 4, 6, 7, 0] with
      | false =>
        go_enter Tryz.func114, Tryz.ntmps114
        have k1 := isSide_is HL.out 0 [1] #[.int .u8 1] 1 1 false h1 rfl rfl (by decide)
        go_wp2_with fail
        refine k1.mono ?_
        rintro e w1 ⟨rfl, hb1⟩
        clear k1
        have k2 := isSide_is (HL.out.keep hb1) 0 [2, 3] #[.int .u8 2, .int .u8 3] 2 2 true h2 rfl rfl (by decide)
        go_wp2_with fail
        refine k2.mono ?_
        rintro e w2 ⟨rfl, hb2⟩
        clear k2
        have k3 := hasOnlySides_lit ((HL.out.keep hb1).keep hb2) [2, 3, 5, 4, 6, 7, 0] #[.int .u8 2, .int .u8 3, .int .u8 5, .int .u8 4, .int .u8 6, .int .u8 7, .int .u8 0] 7 7 false h3 rfl rfl (by decide)
        go_wp2_with fail
        refine k3.mono ?_
        rintro e w3 ⟨rfl, hb3⟩
        clear k3
        go_wp2_with fail
        go_ret
        exact ⟨by simp, Below.andThen (Below.andThen hb1 hb2) hb3⟩
      | true =>
        cases h4 : endsM L [2, 3, 4, 5] with
        | false =>
          go_enter Tryz.func114, Tryz.ntmps114
          have k1 := isSide_is HL.out 0 [1] #[.int .u8 1] 1 1 false h1 rfl rfl (by decide)
          go_wp2_with fail
          refine k1.mono ?_
          rintro e w1 ⟨rfl, hb1⟩
          clear k1
          have k2 := isSide_is (HL.out.keep hb1) 0 [2, 3] #[.int .u8 2, .int .u8 3] 2 2 true h2 rfl rfl (by decide)
          go_wp2_with fail
          refine k2.mono ?_
          rintro e w2 ⟨rfl, hb2⟩
          clear k2
          have k3 := hasOnlySides_lit ((HL.out.keep hb1).keep hb2) [2, 3, 5, 4, 6, 7, 0] #[.int .u8 2, .int .u8 3, .int .u8 5, .int .u8 4, .int .u8 6, .int .u8 7, .int .u8 0] 7 7 true h3 rfl rfl (by decide)
          go_wp2_with fail
          refine k3.mono ?_
          rintro e w3 ⟨rfl, hb3⟩
          clear k3
          have k4 := endsOnSide_lit (((HL.out.keep hb1).keep hb2).keep hb3) [2, 3, 4, 5] #[.int .u8 2, .int .u8 3, .int .u8 4, .int .u8 5] 4 4 false h4 rfl rfl (by decide)
          go_wp2_with fail
          refine k4.mono ?_
          rintro e w4 ⟨rfl, hb4⟩
          clear k4
          go_wp2_with fail
          go_ret
          exact ⟨by simp, Below.andThen (Below.andThen (Below.andThen hb1 hb2) hb3) hb4⟩
        | true =>
          cases h5 : hasSideM L [4] with
          | false =>
            go_enter Tryz.func114, Tryz.ntmps114
            have k1 := isSide_is HL.out 0 [1] #[.int .u8 1] 1 1 false h1 rfl rfl (by decide)
            go_wp2_with fail
            refine k1.mono ?_
            rintro e w1 ⟨rfl, hb1⟩
            clear k1
            have k2 := isSide_is (HL.out.keep hb1) 0 [2, 3] #[.int .u8 2, .int .u8 3] 2 2 true h2 rfl rfl (by decide)
            go_wp2_with fail
            refine k2.mono ?_
            rintro e w2 ⟨rfl, hb2⟩
            clear k2
            have k3 := hasOnlySides_lit ((HL.out.keep hb1).keep hb2) [2, 3, 5, 4, 6, 7, 0] #[.int .u8 2, .int .u8 3, .int .u8 5, .int .u8 4, .int .u8 6, .int .u8 7, .int .u8 0] 7 7 true h3 rfl rfl (by decide)
            go_wp2_with fail
            refine k3.mono ?_
            rintro e w3 ⟨rfl, hb3⟩
            clear k3
            have k4 := endsOnSide_lit (((HL.out.keep hb1).keep hb2).keep hb3) [2, 3, 4, 5] #[.int .u8 2, .int .u8 3, .int .u8 4, .int .u8 5] 4 4 true h4 rfl rfl (by decide)
            go_wp2_with fail
            refine k4.mono ?_
            rintro e w4 ⟨rfl, hb4⟩
            clear k4
            have k5 := hasSide_is ((((HL.out.keep hb1).keep hb2).keep hb3).keep hb4) [4] #[.int .u8 4] 1 1 false h5 rfl rfl (by decide)
            go_wp2_with fail
            refine k5.mono ?_
            rintro e w5 ⟨rfl, hb5⟩
            clear k5
            go_wp2_with fail
            go_ret
            exact ⟨by simp, Below.andThen (Below.andThen (Below.andThen (Below.andThen hb1 hb2) hb3) hb4) hb5⟩
          | true =>
            obtain ⟨v6, h6⟩ : ∃ v, hasSideM L [5] = v := ⟨_, rfl⟩
            rw [h6]
            go_enter Tryz.func114, Tryz.ntmps114
            have k1 := isSide_is HL.out 0 [1] #[.int .u8 1] 1 1 false h1 rfl rfl (by decide)
            go_wp2_with fail
            refine k1.mono ?_
            rintro e w1 ⟨rfl, hb1⟩
            clear k1
            have k2 := isSide_is (HL.out.keep hb1) 0 [2, 3] #[.int .u8 2, .int .u8 3] 2 2 true h2 rfl rfl (by decide)
            go_wp2_with fail
            refine k2.mono ?_
            rintro e w2 ⟨rfl, hb2⟩
            clear k2
            have k3 := hasOnlySides_lit ((HL.out.keep hb1).keep hb2) [2, 3, 5, 4, 6, 7, 0] #[.int .u8 2, .int .u8 3, .int .u8 5, .int .u8 4, .int .u8 6, .int .u8 7, .int .u8 0] 7 7 true h3 rfl rfl (by decide)
            go_wp2_with fail
            refine k3.mono ?_
            rintro e w3 ⟨rfl, hb3⟩
            clear k3
            have k4 := endsOnSide_lit (((HL.out.keep hb1).keep hb2).keep hb3) [2, 3, 4, 5] #[.int .u8 2, .int .u8 3, .int .u8 4, .int .u8 5] 4 4 true h4 rfl rfl (by decide)
            go_wp2_with fail
            refine k4.mono ?_
            rintro e w4 ⟨rfl, hb4⟩
            clear k4
            have k5 := hasSide_is ((((HL.out.keep hb1).keep hb2).keep hb3).keep hb4) [4] #[.int .u8 4] 1 1 true h5 rfl rfl (by decide)
            go_wp2_with fail
            refine k5.mono ?_
            rintro e w5 ⟨rfl, hb5⟩
            clear k5
            have k6 := hasSide_is (((((HL.out.keep hb1).keep hb2).keep hb3).keep hb4).keep hb5) [5] #[.int .u8 5] 1 1 v6 h6 rfl rfl (by decide)
            go_wp2_with fail
            refine k6.mono ?_
            rintro e w6 ⟨rfl, hb6⟩
            clear k6
            go_wp2_with fail
            go_ret
            exact ⟨by simp, Below.andThen (Below.andThen (Below.andThen (Below.andThen (Below.andThen hb1 hb2) hb3) hb4) hb5) hb6⟩
end Go.Proofs.YtkaaldhejpaiiaaGreatDoor
