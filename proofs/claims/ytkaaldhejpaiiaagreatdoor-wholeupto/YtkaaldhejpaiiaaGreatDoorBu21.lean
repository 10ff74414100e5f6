import Derived.Test.YtkaaldhejpaiiaaGreatDoorBu20
import Derived.Deep.AppendLies
import Derived.Deep.RegionLaw
/- Sides: hasOnlySides, endsOnSide, isSided, asksForSides. -/
namespace Go.Proofs.YtkaaldhejpaiiaaGreatDoor
open Go.RowKit

def hasSideM (L : List Nat) (ks : List Int) : Bool := (List.range L.length).any fun (i : Nat) => ks.any fun y => rS (pkAt L (i : Int)) == y
def onlyM (L : List Nat) (ks : List Int) : Bool := !((List.range L.length).any fun (i : Nat) => !(ks.any fun y => rS (pkAt L (i : Int)) == y))
def endN (L : List Nat) : Nat → Int
  | 0 => -1
  | k + 1 => if rS (pkAt L (k : Int)) = 7 then endN L k else (k : Int)
def endsM (L : List Nat) (ks : List Int) : Bool := ks.any fun y => rS (pkAt L (endN L L.length)) == y
/-- Sided (P6). -/
def sidedM (L : List Nat) : Bool :=
  if ([1].any fun y => rS (pkAt L 0) == y) = true then onlyM L [1, 4, 6, 7, 0] && endsM L [1, 4]
  else if ([2, 3].any fun y => rS (pkAt L 0) == y) = true then onlyM L [2, 3, 5, 4, 6, 7, 0] && endsM L [2, 3, 4, 5] && !(hasSideM L [4] && hasSideM L [5])
  else false
def asksM (L : List Nat) : Bool := hasSideM L [2, 3, 5]
theorem rS_out (L : List Nat) (p : Int) (h : ¬ (0 ≤ p ∧ p < (L.length : Int))) : rS (pkAt L p) = 0 := by
  unfold pkAt
  rw [if_neg h]
  rfl

set_option maxHeartbeats 1000000 in
theorem onlyF_any {w : World} {b r : Nat} {L : List Nat} (hL : Lab w b r L) (i : Nat) (k c p1 p2 : Nat) (ks : List Int) (hk : Lits w k ks) (h1 : w.cell? ⟨p1, 0, none⟩ = some (.pointer (some ⟨b, 0, none⟩))) (h2 : w.cell? ⟨p2, 0, none⟩ = some (.slice (some ⟨k, 0, none⟩) ks.length c)) :
    Calls Tryz.prog 173 #[.int .i64 (i : Int), .pointer (some ⟨p1, 0, none⟩), .pointer (some ⟨p2, 0, none⟩)] w fun e w' => e = .returned (.bool (!(ks.any fun y => rS (pkAt L (i : Int)) == y))) ∧ Below w.heap.size w w' := by
  have his := isSide_any hL (i : Int) k c ks hk
  generalize (ks.any fun y => rS (pkAt L (i : Int)) == y) = v at *
  clear hL hk
  go_enter Tryz.func173, Tryz.ntmps173
  go_wp2_with (go_at_call 147; refine his.mono ?_; rintro e w1 ⟨rfl, hb1⟩)
  go_ret
  exact ⟨rfl, hb1⟩
set_option maxHeartbeats 1000000 in
theorem hasOnlySides_any {w : World} {b r : Nat} {L : List Nat} (hL : Lab w b r L) (k c : Nat) (ks : List Int) (hk : Lits w k ks) :
    Calls Tryz.prog 148 #[.pointer (some ⟨b, 0, none⟩), .slice (some ⟨k, 0, none⟩) ks.length c] w fun e w' => e = .returned (.bool (onlyM L ks)) ∧ Below w.heap.size w w' := by
  have hB0 : Below w.heap.size w ((w.alloc (.cells #[.pointer (some ⟨b, 0, none⟩)] 44)).alloc (.cells #[.slice (some ⟨k, 0, none⟩) ks.length c] 198)) := ((Below.refl _ w).alloc (Nat.le_refl _) _).alloc (by simp) _
  have e1 : ((w.alloc (.cells #[.pointer (some ⟨b, 0, none⟩)] 44)).alloc (.cells #[.slice (some ⟨k, 0, none⟩) ks.length c] 198)).heap[w.heap.size]? = some (.cells #[.pointer (some ⟨b, 0, none⟩)] 44 (0, 0)) :=
    (((Below.refl (w.alloc (.cells #[.pointer (some ⟨b, 0, none⟩)] 44)).heap.size _).alloc (Nat.le_refl _) _).block w.heap.size (by simp)).trans (Go.heap_alloc_new w _)
  have e2 : ((w.alloc (.cells #[.pointer (some ⟨b, 0, none⟩)] 44)).alloc (.cells #[.slice (some ⟨k, 0, none⟩) ks.length c] 198)).heap[w.heap.size + 1]? = some (.cells #[.slice (some ⟨k, 0, none⟩) ks.length c] 198 (0, 0)) := by
    have h := Go.heap_alloc_new (w.alloc (.cells #[.pointer (some ⟨b, 0, none⟩)] 44)) (.cells #[.slice (some ⟨k, 0, none⟩) ks.length c] 198)
    rwa [World.size_alloc] at h
  have eg : ∀ args w, (callFunc 173 args).run Tryz.prog w = .ok (.enter 173 args) w := enters_of Tryz.func173 (by kernel_rfl) rfl
  have hs := somewhere_any (hL.keep hB0) 173 #[.pointer (some ⟨w.heap.size, 0, none⟩), .pointer (some ⟨w.heap.size + 1, 0, none⟩)] (fun i => !(ks.any fun y => rS (pkAt L (i : Int)) == y)) eg
    (fun W hW i hi => onlyF_any ((hL.keep hB0).keep hW) i k c w.heap.size (w.heap.size + 1) ks ((hk.keep hB0).keep hW)
      (by rw [cell_of_row _ _ _ _ 44 (0, 0) ((hW.block _ (lt_heap e1)).trans e1)]; rfl)
      (by rw [cell_of_row _ _ _ _ 198 (0, 0) ((hW.block _ (lt_heap e2)).trans e2)]; rfl))
  have hmf : ∀ (fn : Fn) (first cap : Array Value) (w : World), (Instr.makeFunc fn first cap).run Tryz.prog w = .ok (.func fn first cap) w := fun _ _ _ _ => rfl
  have HB0 : Hid (Below w.heap.size w ((w.alloc (.cells #[.pointer (some ⟨b, 0, none⟩)] 44)).alloc (.cells #[.slice (some ⟨k, 0, none⟩) ks.length c] 198))) := hB0
  unfold onlyM
  generalize ((List.range L.length).any fun (i : Nat) => !(ks.any fun y => rS (pkAt L (i : Int)) == y)) = v at *
  clear hL hk e1 e2 eg hB0
  go_enter Tryz.func148, Tryz.ntmps148
  go_wp2_with (go_at_call 92; refine hs.mono ?_; rintro e w1 ⟨rfl, hb1⟩)
  go_ret
  exact ⟨rfl, Below.andThen HB0.out hb1⟩
set_option maxHeartbeats 1000000 in
theorem endsOnSide_any {w : World} {b r : Nat} {L : List Nat} (hL : Lab w b r L) (k c : Nat) (ks : List Int) (hk : Lits w k ks) :
    Calls Tryz.prog 149 #[.pointer (some ⟨b, 0, none⟩), .slice (some ⟨k, 0, none⟩) ks.length c] w fun e w' => e = .returned (.bool (endsM L ks)) ∧ Below w.heap.size w w' := by
  have hct := fcount_any hL
  have hlen := hL.len
  have HL : Hid (Lab w b r L) := hL
  have HK : Hid (Lits w k ks) := hk
  obtain ⟨n, hn⟩ : ∃ n, L.length = n := ⟨_, rfl⟩
  have HN : Hid (L.length = n) := hn
  have HE : Hid (endsM L ks = ks.any fun y => rS (pkAt L (endN L n)) == y) := by unfold Hid endsM; rw [hn]
  rw [HE.out]
  rw [hn] at hct hlen
  clear hL hk hn HE
  go_enter Tryz.func149, Tryz.ntmps149
  go_wp2_with (go_at_call 94; refine hct.mono ?_; rintro e w' ⟨rfl, hw'⟩; rw [hw']; clear hw')
  clear hct
  go_loopw [5] (fun pv wr => ∃ k : Nat, k ≤ n ∧ pv = .int .i64 ((k : Int) - 1) ∧ endN L n = endN L k ∧ Below w.heap.size w wr) (fun pv _ => (intOf pv + 1).toNat)
  case atStart => exact ⟨n, by omega, by go_num, rfl, Below.refl _ _⟩
  case round =>
    obtain ⟨m, hm, rfl, hbk, hbw⟩ := hrel
    have HB : Hid (endN L n = endN L m) := hbk
    have HBW : Hid (Below w.heap.size w wr) := hbw
    have his := isSide_lit (HL.out.keep hbw) ((m : Int) - 1) [7] #[.int .u8 7] 1 1 rfl rfl (by decide)
    rw [show ([7].any fun y => rS (pkAt L ((m : Int) - 1)) == y) = decide (rS (pkAt L ((m : Int) - 1)) = 7) by simp only [List.any_cons, List.any_nil, Bool.or_false]; rfl] at his
    clear hbk hbw
    by_cases h7 : rS (pkAt L ((m : Int) - 1)) = 7
    · rw [decide_eq_true h7] at his
      have hm1 : 1 ≤ m := by
        rcases Nat.eq_zero_or_pos m with rfl | h
        · rw [rS_out L _ (by omega)] at h7; omega
        · exact h
      go_wp2_with (go_at_call 147; refine his.mono ?_; rintro e w1 ⟨rfl, hb1⟩)
      go_roundw
      case rel =>
        obtain ⟨j, rfl⟩ : ∃ j, m = j + 1 := ⟨m - 1, by omega⟩
        refine ⟨j, by omega, by go_num, ?_, Below.andThen HBW.out hb1⟩
        rw [HB.out, endN, if_pos (by rw [show ((j : Nat) : Int) = ((j + 1 : Nat) : Int) - 1 by omega]; exact h7)]
      case measure => simp [intOf]; omega
    · rw [decide_eq_false h7] at his
      have hen : endN L n = (m : Int) - 1 := by
        rw [HB.out]
        rcases Nat.eq_zero_or_pos m with rfl | h
        · rfl
        · obtain ⟨j, rfl⟩ : ∃ j, m = j + 1 := ⟨m - 1, by omega⟩
          rw [endN, if_neg (by rw [show ((j : Nat) : Int) = ((j + 1 : Nat) : Int) - 1 by omega]; exact h7)]
          omega
      have HEN : Hid (endN L n = (m : Int) - 1) := hen
      clear hen
      go_wp2_with fail
      refine his.mono ?_
      rintro e w1 ⟨rfl, hb1⟩
      clear his
      have hi2 := isSide_any ((HL.out.keep HBW.out).keep hb1) ((m : Int) - 1) k c ks ((HK.out.keep HBW.out).keep hb1)
      go_wp2_with fail
      refine hi2.mono ?_
      rintro e w2 ⟨rfl, hb2⟩
      clear hi2
      go_wp2_with fail
      go_ret
      exact ⟨by rw [HEN.out]; rfl, Below.andThen (Below.andThen HBW.out hb1) hb2⟩
theorem hasOnlySides_lit {w : World} {b r : Nat} {L : List Nat} (hL : Lab w b r L) (ks : List Int) (cs : Array Value) (n c : Nat) (v : Bool) (hv : onlyM L ks = v) (hcs : cs = (ks.map (Value.int .u8)).toArray) (hn : n = ks.length) (hl : ks.length ≤ 100) :
    Calls Tryz.prog 148 #[.pointer (some ⟨b, 0, none⟩), .slice (some ⟨w.heap.size, 0, none⟩) n c] (w.alloc (.cells cs 57)) fun e w' => e = .returned (.bool v) ∧ Below w.heap.size w w' := by
  subst hcs hn hv
  refine (hasOnlySides_any (hL.alloc _) w.heap.size c ks (lits_new w ks 57 hl)).mono ?_
  rintro e w' ⟨rfl, hb⟩
  exact ⟨rfl, Below.newly hb⟩
theorem endsOnSide_lit {w : World} {b r : Nat} {L : List Nat} (hL : Lab w b r L) (ks : List Int) (cs : Array Value) (n c : Nat) (v : Bool) (hv : endsM L ks = v) (hcs : cs = (ks.map (Value.int .u8)).toArray) (hn : n = ks.length) (hl : ks.length ≤ 100) :
    Calls Tryz.prog 149 #[.pointer (some ⟨b, 0, none⟩), .slice (some ⟨w.heap.size, 0, none⟩) n c] (w.alloc (.cells cs 57)) fun e w' => e = .returned (.bool v) ∧ Below w.heap.size w w' := by
  subst hcs hn hv
  refine (endsOnSide_any (hL.alloc _) w.heap.size c ks (lits_new w ks 57 hl)).mono ?_
  rintro e w' ⟨rfl, hb⟩
  exact ⟨rfl, Below.newly hb⟩
theorem hasSide_is {w : World} {b r : Nat} {L : List Nat} (hL : Lab w b r L) (ks : List Int) (cs : Array Value) (n c : Nat) (v : Bool) (hv : hasSideM L ks = v) (hcs : cs = (ks.map (Value.int .u8)).toArray) (hn : n = ks.length) (hl : ks.length ≤ 100) :
    Calls Tryz.prog 150 #[.pointer (some ⟨b, 0, none⟩), .slice (some ⟨w.heap.size, 0, none⟩) n c] (w.alloc (.cells cs 57)) fun e w' => e = .returned (.bool v) ∧ Below w.heap.size w w' := by
  subst hv
  exact hasSide_lit hL ks cs n c hcs hn hl
theorem isSide_is {w : World} {b r : Nat} {L : List Nat} (hL : Lab w b r L) (p : Int) (ks : List Int) (cs : Array Value) (n c : Nat) (v : Bool) (hv : (ks.any fun y => rS (pkAt L p) == y) = v) (hcs : cs = (ks.map (Value.int .u8)).toArray) (hn : n = ks.length) (hl : ks.length ≤ 100) :
    Calls Tryz.prog 147 #[.pointer (some ⟨b, 0, none⟩), .int .i64 p, .slice (some ⟨w.heap.size, 0, none⟩) n c] (w.alloc (.cells cs 57)) fun e w' => e = .returned (.bool v) ∧ Below w.heap.size w w' := by
  subst hv
  exact isSide_lit hL p ks cs n c hcs hn hl
set_option maxHeartbeats 1000000 in
theorem asks_any {w : World} {b r : Nat} {L : List Nat} (hL : Lab w b r L) :
    Calls Tryz.prog 117 #[.pointer (some ⟨b, 0, none⟩)] w fun e w' => e = .returned (.bool (asksM L)) ∧ Below w.heap.size w w' := by
  have h := hasSide_is hL [2, 3, 5] #[.int .u8 2, .int .u8 3, .int .u8 5] 3 3 _ rfl rfl rfl (by decide)
  rw [show hasSideM L [2, 3, 5] = asksM L from rfl] at h
  generalize asksM L = v at *
  clear hL
  go_enter Tryz.func117, Tryz.ntmps117
  go_wp2_with (go_at_call 150; refine h.mono ?_; rintro e w1 ⟨rfl, hb1⟩)
  go_ret
  exact ⟨rfl, hb1⟩

set_option maxHeartbeats 4000000 in
theorem isSided_any {w : World} {b r : Nat} {L : List Nat} (hL : Lab w b r L) :
    Calls Tryz.prog 114 #[.pointer (some ⟨b, 0, none⟩)] w fun e w' => e = .returned (.bool (sidedM L)) ∧ Below w.heap.size w w' := by
  have HL : Hid (Lab w b r L) := hL
  clear hL
  unfold sidedM
  cases h1 : [1].any fun y => rS (pkAt L 0) == y with
  | true =>
    rw [if_pos rfl]
    obtain ⟨v3, h3⟩ : ∃ v, endsM L [1, 4] = v := ⟨_, rfl⟩
    rw [h3]
    cases h2 : onlyM L [1, 4, 6, 7, 0] with
    | true =>
      go_enter Tryz.func114, Tryz.ntmps114
      have k1 := isSide_is HL.out 0 [1] #[.int .u8 1] 1 1 true h1 rfl rfl (by decide)
      go_wp2_with fail
      refine k1.mono ?_
      rintro e w1 ⟨rfl, hb1⟩
      clear k1
      have k2 := hasOnlySides_lit (HL.out.keep hb1) [1, 4, 6, 7, 0] #[.int .u8 1, .int .u8 4, .int .u8 6, .int .u8 7, .int .u8 0] 5 5 true h2 rfl rfl (by decide)
      go_wp2_with fail
      refine k2.mono ?_
      rintro e w2 ⟨rfl, hb2⟩
      clear k2
      have k3 := endsOnSide_lit ((HL.out.keep hb1).keep hb2) [1, 4] #[.int .u8 1, .int .u8 4] 2 2 v3 h3 rfl rfl (by decide)
      go_wp2_with fail
      refine k3.mono ?_
      rintro e w3 ⟨rfl, hb3⟩
      clear k3
      go_wp2_with fail
      go_ret
      exact ⟨by simp, Below.andThen (Below.andThen hb1 hb2) hb3⟩
    | false =>
      go_enter Tryz.func114, Tryz.ntmps114
      have k1 := isSide_is HL.out 0 [1] #[.int .u8 1] 1 1 true h1 rfl rfl (by decide)
      go_wp2_with fail
      refine k1.mono ?_
      rintro e w1 ⟨rfl, hb1⟩
      clear k1
      have k2 := hasOnlySides_lit (HL.out.keep hb1) [1, 4, 6, 7, 0] #[.int .u8 1, .int .u8 4, .int .u8 6, .int .u8 7, .int .u8 0] 5 5 false h2 rfl rfl (by decide)
      go_wp2_with fail
      refine k2.mono ?_
      rintro e w2 ⟨rfl, hb2⟩
      clear k2
      go_wp2_with fail
      go_ret
      exact ⟨by simp, Below.andThen hb1 hb2⟩
  | false =>
    rw [if_neg (by decide)]
    cases h2 : [2, 3].any fun y => rS (pkAt L 0) == y with
    | false =>
      rw [if_neg (by decide)]
      go_enter Tryz.func114, Tryz.ntmps114
      have k1 := isSide_is HL.out 0 [1] #[.int .u8 1] 1 1 false h1 rfl rfl (by decide)
      go_wp2_with fail
      refine k1.mono ?_
      rintro e w1 ⟨rfl, hb1⟩
      clear k1
      have k2 := isSide_is (HL.out.keep hb1) 0 [2, 3] #[.int .u8 2, .int .u8 3] 2 2 false h2 rfl rfl (by decide)
      go_wp2_with fail
      refine k2.mono ?_
      rintro e w2 ⟨rfl, hb2⟩
      clear k2
      go_wp2_with fail
      go_ret
      exact ⟨by simp, Below.andThen hb1 hb2⟩
    | true =>
      rw [if_pos rfl]
      cases h3 : onlyM L [2, 3, 5, 4, 6, 7, 0] with
      | false =>
        go_enter Tryz.func114, Tryz.ntmps114
        have k1 := isSide_is HL.out 0 [1] #[.int .u8 1] 1 1 false h1 rfl rfl (by decide)
        go_wp2_with fail
        refine k1.mono ?_
        rintro e w1 ⟨rfl, hb1⟩
        clear k1
        have k2 := isSide_is (HL.out.keep hb1) 0 [2, 3] #[.int .u8 2, .int .u8 3] 2 2 true h2 rfl rfl (by decide)
        go_wp2_with fail
        refine k2.mono ?_
        rintro e w2 ⟨rfl, hb2⟩
        clear k2
        have k3 := hasOnlySides_lit ((HL.out.keep hb1).keep hb2) [2, 3, 5, 4, 6, 7, 0] #[.int .u8 2, .int .u8 3, .int .u8 5, .int .u8 4, .int .u8 6, .int .u8 7, .int .u8 0] 7 7 false h3 rfl rfl (by decide)
        go_wp2_with fail
        refine k3.mono ?_
        rintro e w3 ⟨rfl, hb3⟩
        clear k3
        go_wp2_with fail
        go_ret
        exact ⟨by simp, Below.andThen (Below.andThen hb1 hb2) hb3⟩
      | true =>
        cases h4 : endsM L [2, 3, 4, 5] with
        | false =>
          go_enter Tryz.func114, Tryz.ntmps114
          have k1 := isSide_is HL.out 0 [1] #[.int .u8 1] 1 1 false h1 rfl rfl (by decide)
          go_wp2_with fail
          refine k1.mono ?_
          rintro e w1 ⟨rfl, hb1⟩
          clear k1
          have k2 := isSide_is (HL.out.keep hb1) 0 [2, 3] #[.int .u8 2, .int .u8 3] 2 2 true h2 rfl rfl (by decide)
          go_wp2_with fail
          refine k2.mono ?_
          rintro e w2 ⟨rfl, hb2⟩
          clear k2
          have k3 := hasOnlySides_lit ((HL.out.keep hb1).keep hb2) [2, 3, 5, 4, 6, 7, 0] #[.int .u8 2, .int .u8 3, .int .u8 5, .int .u8 4, .int .u8 6, .int .u8 7, .int .u8 0] 7 7 true h3 rfl rfl (by decide)
          go_wp2_with fail
          refine k3.mono ?_
          rintro e w3 ⟨rfl, hb3⟩
          clear k3
          have k4 := endsOnSide_lit (((HL.out.keep hb1).keep hb2).keep hb3) [2, 3, 4, 5] #[.int .u8 2, .int .u8 3, .int .u8 4, .int .u8 5] 4 4 false h4 rfl rfl (by decide)
          go_wp2_with fail
          refine k4.mono ?_
          rintro e w4 ⟨rfl, hb4⟩
          clear k4
          go_wp2_with fail
          go_ret
          exact ⟨by simp, Below.andThen (Below.andThen (Below.andThen hb1 hb2) hb3) hb4⟩
        | true =>
          cases h5 : hasSideM L [4] with
          | false =>
            go_enter Tryz.func114, Tryz.ntmps114
            have k1 := isSide_is HL.out 0 [1] #[.int .u8 1] 1 1 false h1 rfl rfl (by decide)
            go_wp2_with fail
            refine k1.mono ?_
            rintro e w1 ⟨rfl, hb1⟩
            clear k1
            have k2 := isSide_is (HL.out.keep hb1) 0 [2, 3] #[.int .u8 2, .int .u8 3] 2 2 true h2 rfl rfl (by decide)
            go_wp2_with fail
            refine k2.mono ?_
            rintro e w2 ⟨rfl, hb2⟩
            clear k2
            have k3 := hasOnlySides_lit ((HL.out.keep hb1).keep hb2) [2, 3, 5, 4, 6, 7, 0] #[.int .u8 2, .int .u8 3, .int .u8 5, .int .u8 4, .int .u8 6, .int .u8 7, .int .u8 0] 7 7 true h3 rfl rfl (by decide)
            go_wp2_with fail
            refine k3.mono ?_
            rintro e w3 ⟨rfl, hb3⟩
            clear k3
            have k4 := endsOnSide_lit (((HL.out.keep hb1).keep hb2).keep hb3) [2, 3, 4, 5] #[.int .u8 2, .int .u8 3, .int .u8 4, .int .u8 5] 4 4 true h4 rfl rfl (by decide)
            go_wp2_with fail
            refine k4.mono ?_
            rintro e w4 ⟨rfl, hb4⟩
            clear k4
            have k5 := hasSide_is ((((HL.out.keep hb1).keep hb2).keep hb3).keep hb4) [4] #[.int .u8 4] 1 1 false h5 rfl rfl (by decide)
            go_wp2_with fail
            refine k5.mono ?_
            rintro e w5 ⟨rfl, hb5⟩
            clear k5
            go_wp2_with fail
            go_ret
            exact ⟨by simp, Below.andThen (Below.andThen (Below.andThen (Below.andThen hb1 hb2) hb3) hb4) hb5⟩
          | true =>
            obtain ⟨v6, h6⟩ : ∃ v, hasSideM L [5] = v := ⟨_, rfl⟩
            rw [h6]
            go_enter Tryz.func114, Tryz.ntmps114
            have k1 := isSide_is HL.out 0 [1] #[.int .u8 1] 1 1 false h1 rfl rfl (by decide)
            go_wp2_with fail
            refine k1.mono ?_
            rintro e w1 ⟨rfl, hb1⟩
            clear k1
            have k2 := isSide_is (HL.out.keep hb1) 0 [2, 3] #[.int .u8 2, .int .u8 3] 2 2 true h2 rfl rfl (by decide)
            go_wp2_with fail
            refine k2.mono ?_
            rintro e w2 ⟨rfl, hb2⟩
            clear k2
            have k3 := hasOnlySides_lit ((HL.out.keep hb1).keep hb2) [2, 3, 5, 4, 6, 7, 0] #[.int .u8 2, .int .u8 3, .int .u8 5, .int .u8 4, .int .u8 6, .int .u8 7, .int .u8 0] 7 7 true h3 rfl rfl (by decide)
            go_wp2_with fail
            refine k3.mono ?_
            rintro e w3 ⟨rfl, hb3⟩
            clear k3
            have k4 := endsOnSide_lit (((HL.out.keep hb1).keep hb2).keep hb3) [2, 3, 4, 5] #[.int .u8 2, .int .u8 3, .int .u8 4, .int .u8 5] 4 4 true h4 rfl rfl (by decide)
            go_wp2_with fail
            refine k4.mono ?_
            rintro e w4 ⟨rfl, hb4⟩
            clear k4
            have k5 := hasSide_is ((((HL.out.keep hb1).keep hb2).keep hb3).keep hb4) [4] #[.int .u8 4] 1 1 true h5 rfl rfl (by decide)
            go_wp2_with fail
            refine k5.mono ?_
            rintro e w5 ⟨rfl, hb5⟩
            clear k5
            have k6 := hasSide_is (((((HL.out.keep hb1).keep hb2).keep hb3).keep hb4).keep hb5) [5] #[.int .u8 5] 1 1 v6 h6 rfl rfl (by decide)
            go_wp2_with fail
            refine k6.mono ?_
            rintro e w6 ⟨rfl, hb6⟩
            clear k6
            go_wp2_with fail
            go_ret
            exact ⟨by simp, Below.andThen (Below.andThen (Below.andThen (Below.andThen (Below.andThen hb1 hb2) hb3) hb4) hb5) hb6⟩
end Go.Proofs.YtkaaldhejpaiiaaGreatDoor

/- A name in memory; add. -/
namespace Go.Proofs.YtkaaldhejpaiiaaGreatDoor
open Go.RowKit

theorem info44 : (Tryz.prog.info? 44).map (fun i => (i.zero, i.size, i.bytes)) = some (some (.pointer none), 1, 8) := by kernel_rfl
theorem info9 : (Tryz.prog.info? 9).map (fun i => (i.zero, i.size, i.bytes)) = some (some (.string { data := #[] }), 1, 16) := by kernel_rfl
/-- A label: its block, its row, its signs. -/
abbrev Lb := Nat × Nat × List Nat
def ptrs (Ls : List Lb) : List Value := Ls.map fun x => .pointer (some ⟨x.1, 0, none⟩)
def texts (Ls : List Lb) : List Value := Ls.map fun x => .string (textOf x.2.2)
structure NameAt (w : World) (b B : Nat) (Ls : List Lb) (n0 n1 n2 : Nat) (ps ts fs : List Value) (v0 v1 v2 : Value) : Prop where
  blk : w.heap[b]? = some (.cells #[v0, v1, v2] 89 (0, 0))
  low : 1 ≤ B ∧ B ≤ b
  r0 : w.ownsRow B 44 1 v0 n0 ps
  r1 : w.ownsRow B 9 1 v1 n1 ts
  r2 : w.ownsRow B 9 1 v2 n2 fs
  apart : ∀ g, v1.ownBlock = some g → v2.ownBlock = some g → False
  labs : ∀ x ∈ Ls, Lab w x.1 x.2.1 x.2.2
theorem own_block {w : World} {B : Nat} {e : TypeId} {v : Value} {n : Nat} {xs : List Value} (h : w.ownsRow B e 1 v n xs) (g : Nat) (hg : v.ownBlock = some g) : B ≤ g ∧ ∃ cur, w.heap[g]? = some (.cells cur e (0, 0)) := by
  rcases h.2 with ⟨rfl, _⟩ | ⟨g', cap, cur, rfl, hb, hc, _⟩
  · cases hg
  · obtain rfl := Option.some.inj hg
    exact ⟨hb, cur, hc⟩
/-- Blocks of another type than the one that was turned stay. -/
theorem typed_kept {w w' : World} {row : Option Nat} {k : Nat} {cs : Array Value} {t e : TypeId} {fr : Nat × Nat} (hg : w.grownBy w' row) (hr : ∀ g, row = some g → ∃ cur, w.heap[g]? = some (.cells cur e (0, 0))) (hk : w.heap[k]? = some (.cells cs t fr)) (hne : t ≠ e) : w'.heap[k]? = some (.cells cs t fr) := by
  rw [hg.block k (lt_heap hk) (fun e1 => by
    obtain ⟨cur, hc⟩ := hr k e1.symm
    rw [hk] at hc
    simp only [Option.some.injEq, Obj.cells.injEq] at hc
    exact hne hc.2.1)]
  exact hk
theorem Lab.grown {w w' : World} {row : Option Nat} {b r : Nat} {L : List Nat} {e : TypeId} (h : Lab w b r L) (hg : w.grownBy w' row) (hr : ∀ g, row = some g → 1 ≤ g ∧ ∃ cur, w.heap[g]? = some (.cells cur e (0, 0))) (h1 : e ≠ 52) (h2 : e ≠ 21) : Lab w' b r L := by
  have hr2 := fun g hg => (hr g hg).2
  obtain ⟨⟨c, h3⟩, ⟨cs, h4, h5⟩, ⟨tt, fr, h6⟩, h7, h8⟩ := h
  exact ⟨⟨c, typed_kept hg hr2 h3 (Ne.symm h1)⟩, ⟨cs, typed_kept hg hr2 h4 (Ne.symm h2), h5⟩, ⟨tt, fr, by
    rw [hg.block 0 (lt_heap h6) (fun e1 => by have := (hr 0 e1.symm).1; omega)]
    exact h6⟩, h7, h8⟩
theorem below_grown_at {B : Nat} {w w' : World} {row : Option Nat} (hg : w.grownBy w' row) (hr : ∀ g, row = some g → B ≤ g) (hB : B ≤ w.heap.size) : Below B w w' :=
  ⟨hg.os, hg.tape, hg.output, hg.size, fun k hk => hg.block k (by omega) (fun e => by have := hr k e.symm; omega)⟩

variable {w W w1 : World} {b B : Nat} {Ls : List Lb} {n0 n1 n2 : Nat} {ps ts fs : List Value} {v0 v1 v2 : Value}
theorem NameAt.same (h : NameAt w b B Ls n0 n1 n2 ps ts fs v0 v1 v2) (he : w1.heap = w.heap) : NameAt w1 b B Ls n0 n1 n2 ps ts fs v0 v1 v2 := by
  obtain ⟨h1, h2, h3, h4, h5, h6, h7⟩ := h
  refine ⟨by rw [he]; exact h1, h2, ?_, ?_, ?_, h6, fun x hx => ?_⟩
  · unfold World.ownsRow at h3 ⊢; rw [he]; exact h3
  · unfold World.ownsRow at h4 ⊢; rw [he]; exact h4
  · unfold World.ownsRow at h5 ⊢; rw [he]; exact h5
  · obtain ⟨a1, a2, a3, a4, a5⟩ := h7 x hx
    exact ⟨by rw [he]; exact a1, by rw [he]; exact a2, by rw [he]; exact a3, a4, a5⟩
theorem NameAt.alloc (h : NameAt w b B Ls n0 n1 n2 ps ts fs v0 v1 v2) (o : Obj) : NameAt (w.alloc o) b B Ls n0 n1 n2 ps ts fs v0 v1 v2 :=
  ⟨((below_one w o).block b (lt_heap h.blk)).trans h.blk, h.low, h.r0.alloc o, h.r1.alloc o, h.r2.alloc o, h.apart, fun x hx => (h.labs x hx).alloc o⟩
theorem NameAt.mid {row : Option Nat} {e : TypeId} (h : NameAt W b B Ls n0 n1 n2 ps ts fs v0 v1 v2) (hg : W.grownBy w1 row) (hr : ∀ g, row = some g → B ≤ g ∧ ∃ cur, W.heap[g]? = some (.cells cur e (0, 0))) (he : e ≠ 89) : w1.heap[b]? = some (.cells #[v0, v1, v2] 89 (0, 0)) :=
  typed_kept hg (fun g hg => (hr g hg).2) h.blk (Ne.symm he)
theorem own_other {e e' : TypeId} {u v : Value} {n m : Nat} {xs ys : List Value} (h : W.ownsRow B e 1 u n xs) (k : W.ownsRow B e' 1 v m ys) (hne : e ≠ e') : u.ownBlock = none ∨ u.ownBlock ≠ v.ownBlock := by
  cases hu : u.ownBlock with
  | none => exact Or.inl rfl
  | some g =>
    refine Or.inr fun hv => ?_
    obtain ⟨_, c1, h1⟩ := own_block h g hu
    obtain ⟨_, c2, h2⟩ := own_block k g hv.symm
    rw [h1] at h2
    simp only [Option.some.injEq, Obj.cells.injEq] at h2
    exact hne h2.2.1
/-- What a store into the name's own block leaves. -/
theorem own_set {e : TypeId} {v u : Value} {n : Nat} {xs : List Value} {cs : Array Value} (h : w1.ownsRow B e 1 v n xs) (hb : w1.heap[b]? = some (.cells cs 89 (0, 0))) (he : e ≠ 89) (j : Nat) : (w1.setCell ⟨b, j, none⟩ u).ownsRow B e 1 v n xs := by
  refine h.kept (grown_setCell (World.grownBy.refl _ _) j u) ?_
  cases hu : v.ownBlock with
  | none => exact Or.inl rfl
  | some g =>
    refine Or.inr fun hv => ?_
    obtain ⟨_, c1, h1⟩ := own_block h g hu
    obtain rfl := Option.some.inj hv
    rw [h1] at hb
    simp only [Option.some.injEq, Obj.cells.injEq] at hb
    exact he hb.2.1
theorem lab_set {lb lr : Nat} {L : List Nat} {u : Value} {cs : Array Value} (h : Lab w1 lb lr L) (hb : w1.heap[b]? = some (.cells cs 89 (0, 0))) (h1 : 1 ≤ b) (j : Nat) : Lab (w1.setCell ⟨b, j, none⟩ u) lb lr L :=
  h.grown (grown_setCell (World.grownBy.refl _ _) j u) (e := 89) (fun g hg => by obtain rfl := Option.some.inj hg; exact ⟨h1, cs, hb⟩) (by decide) (by decide)
theorem below_set {u : Value} (j : Nat) (hB : B ≤ b) (hs : b < w1.heap.size) : Below B w1 (w1.setCell ⟨b, j, none⟩ u) :=
  below_grown_at (grown_setCell (World.grownBy.refl _ _) j u) (fun g hg => by obtain rfl := Option.some.inj hg; exact hB) (by omega)
theorem NameAt.push0 {m : Nat} {xs : List Value} {u : Value} (h : NameAt W b B Ls n0 n1 n2 ps ts fs v0 v1 v2) (hg : W.grownBy w1 v0.ownBlock) (ho : w1.ownsRow B 44 1 u m xs) :
    NameAt (w1.setCell ⟨b, 0, none⟩ u) b B Ls m n1 n2 xs ts fs u v1 v2 ∧ Below B W (w1.setCell ⟨b, 0, none⟩ u) := by
  have hr := own_block h.r0
  have hmid := h.mid hg hr (by decide)
  have hbl := lt_heap h.blk
  refine ⟨⟨setCell_row hmid 0 u, h.low, own_set ho hmid (by decide) 0, own_set (h.r1.kept hg (own_other h.r1 h.r0 (by decide))) hmid (by decide) 0, own_set (h.r2.kept hg (own_other h.r2 h.r0 (by decide))) hmid (by decide) 0, h.apart, fun x hx => ?_⟩, ?_⟩
  · exact lab_set ((h.labs x hx).grown hg (fun g hg => ⟨Nat.le_trans h.low.1 (hr g hg).1, (hr g hg).2⟩) (by decide) (by decide)) hmid (by have := h.low; omega) 0
  · exact (below_grown_at hg (fun g hg => (hr g hg).1) (by have := h.low; omega)).trans (below_set 0 h.low.2 (lt_heap hmid))
theorem NameAt.push1 {m g c : Nat} {xs : List Value} (h : NameAt W b B Ls n0 n1 n2 ps ts fs v0 v1 v2) (hg : W.grownBy w1 v1.ownBlock) (ho : w1.ownsRow B 9 1 (.slice (some ⟨g, 0, none⟩) m c) m xs) (hat : v1.ownBlock = some g ∨ g = W.heap.size) :
    NameAt (w1.setCell ⟨b, 1, none⟩ (.slice (some ⟨g, 0, none⟩) m c)) b B Ls n0 m n2 ps xs fs v0 (.slice (some ⟨g, 0, none⟩) m c) v2 ∧ Below B W (w1.setCell ⟨b, 1, none⟩ (.slice (some ⟨g, 0, none⟩) m c)) := by
  have hr := own_block h.r1
  have hmid := h.mid hg hr (by decide)
  have hbl := lt_heap h.blk
  have h2 : v2.ownBlock = none ∨ v2.ownBlock ≠ v1.ownBlock := by
    cases hu : v2.ownBlock with
    | none => exact Or.inl rfl
    | some k => exact Or.inr fun e => h.apart k e.symm hu
  refine ⟨⟨setCell_row hmid 1 _, h.low, own_set (h.r0.kept hg (own_other h.r0 h.r1 (by decide))) hmid (by decide) 1, own_set ho hmid (by decide) 1, own_set (h.r2.kept hg h2) hmid (by decide) 1, fun k hk hk2 => ?_, fun x hx => ?_⟩, ?_⟩
  · obtain rfl := Option.some.inj hk
    rcases hat with hat | rfl
    · exact h.apart g hat hk2
    · obtain ⟨_, cur, hc⟩ := own_block h.r2 _ hk2
      exact absurd (lt_heap hc) (Nat.lt_irrefl _)
  · exact lab_set ((h.labs x hx).grown hg (fun g hg => ⟨Nat.le_trans h.low.1 (hr g hg).1, (hr g hg).2⟩) (by decide) (by decide)) hmid (by have := h.low; omega) 1
  · exact (below_grown_at hg (fun g hg => (hr g hg).1) (by have := h.low; omega)).trans (below_set 1 h.low.2 (lt_heap hmid))
theorem NameAt.push2 {m g c : Nat} {xs : List Value} (h : NameAt W b B Ls n0 n1 n2 ps ts fs v0 v1 v2) (hg : W.grownBy w1 v2.ownBlock) (ho : w1.ownsRow B 9 1 (.slice (some ⟨g, 0, none⟩) m c) m xs) (hat : v2.ownBlock = some g ∨ g = W.heap.size) :
    NameAt (w1.setCell ⟨b, 2, none⟩ (.slice (some ⟨g, 0, none⟩) m c)) b B Ls n0 n1 m ps ts xs v0 v1 (.slice (some ⟨g, 0, none⟩) m c) ∧ Below B W (w1.setCell ⟨b, 2, none⟩ (.slice (some ⟨g, 0, none⟩) m c)) := by
  have hr := own_block h.r2
  have hmid := h.mid hg hr (by decide)
  have hbl := lt_heap h.blk
  have h2 : v1.ownBlock = none ∨ v1.ownBlock ≠ v2.ownBlock := by
    cases hu : v1.ownBlock with
    | none => exact Or.inl rfl
    | some k => exact Or.inr fun e => h.apart k hu e.symm
  refine ⟨⟨setCell_row hmid 2 _, h.low, own_set (h.r0.kept hg (own_other h.r0 h.r2 (by decide))) hmid (by decide) 2, own_set (h.r1.kept hg h2) hmid (by decide) 2, own_set ho hmid (by decide) 2, fun k hk hk2 => ?_, fun x hx => ?_⟩, ?_⟩
  · obtain rfl := Option.some.inj hk2
    rcases hat with hat | rfl
    · exact h.apart g hk hat
    · obtain ⟨_, cur, hc⟩ := own_block h.r1 _ hk
      exact absurd (lt_heap hc) (Nat.lt_irrefl _)
  · exact lab_set ((h.labs x hx).grown hg (fun g hg => ⟨Nat.le_trans h.low.1 (hr g hg).1, (hr g hg).2⟩) (by decide) (by decide)) hmid (by have := h.low; omega) 2
  · exact (below_grown_at hg (fun g hg => (hr g hg).1) (by have := h.low; omega)).trans (below_set 2 h.low.2 (lt_heap hmid))
theorem name_cells (hb : w1.heap[b]? = some (.cells #[v0, v1, v2] 89 (0, 0))) : w1.cell? ⟨b, 0, none⟩ = some v0 ∧ w1.cell? ⟨b, 1, none⟩ = some v1 ∧ w1.cell? ⟨b, 2, none⟩ = some v2 ∧ ∀ j, w1.frozen? ⟨b, j, none⟩ = false := by
  refine ⟨?_, ?_, ?_, fun j => unfrozen hb j⟩ <;> (rw [cell_of_row _ _ _ _ 89 (0, 0) hb]; rfl)

theorem lab_convert {w : World} {b r : Nat} {L : List Nat} (hL : Lab w b r L) (c : Nat) : (convert 48 9 (.slice (some ⟨r, 0, none⟩) L.length c)).run Tryz.prog w = .ok (.string (textOf L)) w := by
  rw [run_convert_runes_string w 48 9 21 _ _ _ Tryz.underlying48 Tryz.underlying21 Tryz.underlying9]
  refine run_runesToString w _ _ _ _ ?_
  have := run_loadCells_list (P := Tryz.prog) w ⟨r, 0, none⟩ (L.map rv) (fun j v hv => by
    rw [List.getElem?_map] at hv
    cases hj : L[j]? with
    | none => rw [hj] at hv; cases hv
    | some x =>
      rw [hj] at hv
      obtain ⟨hl, rfl⟩ := List.getElem?_eq_some_iff.1 hj
      have h := hL.sign j hl
      rw [Addr.add_lit, Nat.zero_add, h]
      simpa using hv)
  rw [List.length_map] at this
  rw [this]
  congr 2
  simp [rv, lI]

/-- A call of a Go function of one argument, as a step of a region that draws. -/
theorem step_go {ops : Array Oper} {o : Oper} {a : Act} {w : World} {K : Act → World → Prop} {Q : Exit → Act → World → Prop} {E : Prop} (hgd : o.guard = none) (f : FuncId) (x : Operand) (ty : Array TypeId)
    (ho : o.op = .call { callee := .value (.func f), args := #[x], argTypes := ty }) (v u : Value) (hx : a.eval x = u) (he : (callFunc f #[u]).run Tryz.prog w = .ok (.enter f #[u]) w)
    (hc : Calls Tryz.prog f #[u] w fun e w' => e = .returned v ∧ w' = w) (h : K (a.put o.dst v) w) : if Region.wanted o (yielded ops a.tmps) = true then Oper.wp Tryz.prog o a w K Q else E := by
  rw [if_pos (by simp [Region.wanted, hgd])]
  have e1 : (execOp a.eval o).run Tryz.prog w = .ok (.enter f #[u]) w := by
    unfold execOp
    simp only [ho, resolve, invoke, Sem.run_bind, List.map_toArray, List.map_cons, List.map_nil, hx]
    rw [show (Deferred.ofValue (a.eval (Operand.func f)) #[u]).run Tryz.prog w = .ok { target := .fn (.func f) #[], args := #[u] } w from rfl]
    simp only [Result.andThen_ok, Array.append_empty]
    exact he
  unfold Oper.wp
  rw [e1, Oper.upon_enter]
  refine hc.mono ?_
  rintro e w' ⟨rfl, rfl⟩
  exact h

set_option maxRecDepth 100000 in
set_option maxHeartbeats 4000000 in
theorem add_any (w : World) (b B : Nat) (Ls : List Lb) (n : Nat) (ps ts fs : List Value) (v0 v1 v2 : Value) (h0 : NameAt w b B Ls n n n ps ts fs v0 v1 v2) (lb lr : Nat) (L : List Nat) (hL : Lab w lb lr L) (f : ByteArray) (hn : n ≤ 2000000000) :
    Calls Tryz.prog 47 #[.pointer (some ⟨b, 0, none⟩), .pointer (some ⟨lb, 0, none⟩), .string f] w fun e w' => e = .returned (.tuple #[]) ∧ (∃ u0 u1 u2, NameAt w' b B (Ls ++ [(lb, lr, L)]) (n + 1) (n + 1) (n + 1) (ps ++ [.pointer (some ⟨lb, 0, none⟩)]) (ts ++ [.string (textOf L)]) (fs ++ [.string f]) u0 u1 u2) ∧ Below B w w' := by
  obtain ⟨i44, hi, hz0, hz1, hz2⟩ := info_parts info44
  obtain ⟨i9, gi, gz0, gz1, gz2⟩ := info_parts info9
  have h : NameAt w b B (Ls ++ [(lb, lr, L)]) n n n ps ts fs v0 v1 v2 := ⟨h0.blk, h0.low, h0.r0, h0.r1, h0.r2, h0.apart, fun x hx => by
    rcases List.mem_append.1 hx with hx | hx
    · exact h0.labs x hx
    · simp at hx; subst hx; exact hL⟩
  have hbl := lt_heap h.blk
  have hlow := h.low
  have hlin : (lb, lr, L) ∈ Ls ++ [(lb, lr, L)] := by simp
  have h63 : n + 1 ≤ maxLen := by unfold maxLen; omega
  have h47 : (n + 1) * 8 ≤ 140737488355328 := by omega
  have h48 : (n + 1) * 16 ≤ 140737488355328 := by omega
  generalize Ls ++ [(lb, lr, L)] = Ks at *
  obtain ⟨c0, _, _, f0⟩ := name_cells h.blk
  have hBr : B ≤ (w.alloc (.cells #[.pointer (some ⟨lb, 0, none⟩)] 44)).heap.size := by simp; omega
  have hone : ∀ v : Value, v.oneCell' = true → ∀ u ∈ [v], u.oneCell' = true := by intro v hv u hu; simp at hu; subst hu; exact hv
  have HNC : Hid ((w.alloc (.cells #[.pointer (some ⟨lb, 0, none⟩)] 44)).cell? ⟨w.heap.size, 0, none⟩ = some (.pointer (some ⟨lb, 0, none⟩))) := by unfold Hid; rw [cell_of_row _ w.heap.size 0 _ 44 (0, 0) (Go.heap_alloc_new w _)]; rfl
  have H : Hid (NameAt w b B Ks n n n ps ts fs v0 v1 v2) := h
  clear h0 hL h
  go_enter Tryz.func47, Tryz.ntmps47
  go_wp2_with (at_builtin; refine wpList_append_lies _ rfl (.tmp 10) (.tmp 12) 87 rfl B 44 i44 (.pointer none) 1 8 Tryz.underlying87 hi hz0 hz1 hz2 rfl (by decide) _ _ _ rfl (H.out.r0.alloc _) ⟨w.heap.size, 0, none⟩ 1 1 [.pointer (some ⟨lb, 0, none⟩)] rfl rfl (cell_one HNC.out) (hone _ rfl) (by decide) h63 h47 hBr _ rfl ?_)
  intro g0 cap0 w1 hown0 hgr0 _ _
  have hm1 := (H.out.alloc _).mid hgr0 (own_block (H.out.alloc _).r0) (by decide)
  obtain ⟨d0, _, _, e0⟩ := name_cells hm1
  have P1 := (H.out.alloc _).push0 hgr0 hown0
  have HN1 : Hid (NameAt (w1.setCell ⟨b, 0, none⟩ (.slice (some ⟨g0, 0, none⟩) (n + 1) cap0)) b B Ks (n + 1) n n (ps ++ [.pointer (some ⟨lb, 0, none⟩)]) ts fs (.slice (some ⟨g0, 0, none⟩) (n + 1) cap0) v1 v2) := P1.1
  have HB1 : Hid (Below B w (w1.setCell ⟨b, 0, none⟩ (.slice (some ⟨g0, 0, none⟩) (n + 1) cap0))) := (Below.mono (below_one w _) (Nat.le_of_lt (Nat.lt_of_le_of_lt hlow.2 hbl))).trans P1.2
  clear hown0 hgr0 hm1 P1 c0 f0 HNC H
  go_wp2_with fail
  generalize w1.setCell ⟨b, 0, none⟩ (.slice (some ⟨g0, 0, none⟩) (n + 1) cap0) = w2 at *
  clear d0 e0
  obtain ⟨_, c1, _, f1⟩ := name_cells HN1.out.blk
  have hal : ∀ o, (w2.alloc o).cell? ⟨b, 1, none⟩ = some v1 := fun o => ((below_one w2 o).cell (p := ⟨b, 1, none⟩) (lt_heap HN1.out.blk)).trans c1
  have hLw := HN1.out.labs _ hlin
  obtain ⟨cl, hcl⟩ := hLw.cell
  have e24 : ∀ args w, (callFunc 24 args).run Tryz.prog w = .ok (.enter 24 args) w := enters_of Tryz.func24 (by kernel_rfl) rfl
  have hst1 := labString_any hLw.drew
  have hB2 : B ≤ (w2.alloc (.cells #[.string (textOf L)] 9)).heap.size := by have := lt_heap HN1.out.blk; simp; omega
  have HNC2 : Hid ((w2.alloc (.cells #[.string (textOf L)] 9)).drew.cell? ⟨w2.heap.size, 0, none⟩ = some (.string (textOf L))) := by
    unfold Hid
    show (w2.alloc (.cells #[.string (textOf L)] 9)).cell? ⟨w2.heap.size, 0, none⟩ = _
    rw [cell_of_row _ w2.heap.size 0 _ 9 (0, 0) (Go.heap_alloc_new w2 _)]; rfl
  have HNA : Hid (NameAt (w2.alloc (.cells #[.string (textOf L)] 9)).drew b B Ks (n + 1) n n (ps ++ [.pointer (some ⟨lb, 0, none⟩)]) ts fs (.slice (some ⟨g0, 0, none⟩) (n + 1) cap0) v1 v2) := (HN1.out.alloc _).same rfl
  have HT : Hid (∃ t, t = textOf L) := ⟨_, rfl⟩
  have HLT : Hid (textOf L = textOf L) := rfl
  obtain ⟨t, ht⟩ : ∃ t, textOf L = t := ⟨_, rfl⟩
  have HTE : Hid (textOf L = t) := ht
  rw [ht] at hst1 hB2 HNC2 HNA
  clear hLw ht HT HLT
  go_region_law (first | (refine step_go (by rfl) 24 (.tmp 23) #[50] (by rfl) (.string t) (.pointer (some ⟨lb, 0, none⟩)) (by rfl) (e24 _ _) hst1 ?_) | (refine step_append_lies _ (by rfl) (.tmp 20) (.tmp 25) 55 (by rfl) B 9 i9 (.string { data := #[] }) 1 16 Tryz.underlying55 gi gz0 gz1 gz2 rfl (by decide) v1 n ts (by rfl) HNA.out.r1 ⟨w2.heap.size, 0, none⟩ 1 1 [.string t] (by rfl) rfl (cell_one HNC2.out) (hone _ rfl) (by decide) h63 h48 hB2 _ rfl ?_; intro g1 cap1 w3 hown1 hgr1 hat1 hlt1; have hm3 := HNA.out.mid hgr1 (own_block HNA.out.r1) (by decide); obtain ⟨d0, d1, d2, e1⟩ := name_cells hm3))
  all_goals
    have P2 := HNA.out.push1 hgr1 hown1 hat1
    have HN2 : Hid (NameAt (w3.setCell ⟨b, 1, none⟩ (.slice (some ⟨g1, 0, none⟩) (n + 1) cap1)) b B Ks (n + 1) (n + 1) n (ps ++ [.pointer (some ⟨lb, 0, none⟩)]) (ts ++ [.string t]) fs (.slice (some ⟨g0, 0, none⟩) (n + 1) cap0) (.slice (some ⟨g1, 0, none⟩) (n + 1) cap1) v2) := P2.1
    have HB2 : Hid (Below B w (w3.setCell ⟨b, 1, none⟩ (.slice (some ⟨g1, 0, none⟩) (n + 1) cap1))) := HB1.out.trans ((Below.mono (below_one w2 (.cells #[.string t] 9)) (by have := lt_heap HN1.out.blk; omega)).drew.trans P2.2)
    clear hown1 hgr1 hat1 hlt1 hm3 P2 d0 d1 d2 e1 HNA HNC2 hal c1 f1 hst1 e24 HN1 HB1 hB2 hcl
    generalize w3.setCell ⟨b, 1, none⟩ (.slice (some ⟨g1, 0, none⟩) (n + 1) cap1) = w4 at *
    obtain ⟨_, _, c2, f2⟩ := name_cells HN2.out.blk
    have hB4 : B ≤ (w4.alloc (.cells #[.string f] 9)).heap.size := by have := lt_heap HN2.out.blk; simp; omega
    have HNC4 : Hid ((w4.alloc (.cells #[.string f] 9)).cell? ⟨w4.heap.size, 0, none⟩ = some (.string f)) := by
      unfold Hid
      rw [cell_of_row _ w4.heap.size 0 _ 9 (0, 0) (Go.heap_alloc_new w4 _)]; rfl
    go_wp2_with (at_builtin; refine wpList_append_lies _ rfl (.tmp 33) (.tmp 35) 55 rfl B 9 i9 (.string { data := #[] }) 1 16 Tryz.underlying55 gi gz0 gz1 gz2 rfl (by decide) _ _ _ rfl (HN2.out.r2.alloc _) ⟨w4.heap.size, 0, none⟩ 1 1 [.string f] rfl rfl (cell_one HNC4.out) (hone _ rfl) (by decide) h63 h48 hB4 _ rfl ?_)
    intro g2 cap2 w5 hown2 hgr2 hat2 _
    have hm5 := (HN2.out.alloc _).mid hgr2 (own_block (HN2.out.alloc _).r2) (by decide)
    obtain ⟨_, _, d2, e2⟩ := name_cells hm5
    have P3 := (HN2.out.alloc _).push2 hgr2 hown2 (by rw [World.size_alloc]; exact hat2)
    have HN3 : Hid (NameAt (w5.setCell ⟨b, 2, none⟩ (.slice (some ⟨g2, 0, none⟩) (n + 1) cap2)) b B Ks (n + 1) (n + 1) (n + 1) (ps ++ [.pointer (some ⟨lb, 0, none⟩)]) (ts ++ [.string t]) (fs ++ [.string f]) (.slice (some ⟨g0, 0, none⟩) (n + 1) cap0) (.slice (some ⟨g1, 0, none⟩) (n + 1) cap1) (.slice (some ⟨g2, 0, none⟩) (n + 1) cap2)) := P3.1
    have HB3 : Hid (Below B w (w5.setCell ⟨b, 2, none⟩ (.slice (some ⟨g2, 0, none⟩) (n + 1) cap2))) := HB2.out.trans ((Below.mono (below_one w4 (.cells #[.string f] 9)) (by have := lt_heap HN2.out.blk; omega)).trans P3.2)
    clear hown2 hgr2 hat2 hm5 P3 HNC4
    go_wp2_with fail
    go_end0
    exact ⟨rfl, ⟨_, _, _, by rw [HTE.out]; exact HN3.out⟩, HB3.out⟩
end Go.Proofs.YtkaaldhejpaiiaaGreatDoor

