/- isKind, isSide, isScript, isJoining; somewhere; hasKind, hasScript, hasSide. -/
import Derived.Test.YtkaaldhejpaiiaaGreatDoorLb
namespace Go.Proofs.YtkaaldhejpaiiaaGreatDoor
open Go.RowKit

/-- A row of small numbers that somebody has just laid. -/
def Lits (w : World) (k : Nat) (ks : List Int) : Prop := k < w.heap.size ∧ ks.length ≤ 100 ∧ ∀ j, j < ks.length → w.cell? ⟨k, j, none⟩ = some (.int .u8 ks[j]!)
theorem Lits.keep {w w' : World} {k : Nat} {ks : List Int} (h : Lits w k ks) (hb : Below w.heap.size w w') : Lits w' k ks :=
  ⟨Nat.lt_of_lt_of_le h.1 hb.size, h.2.1, fun j hj => (hb.cell (p := ⟨k, j, none⟩) h.1).trans (h.2.2 j hj)⟩
theorem lits_new (w : World) (ks : List Int) (t : TypeId) (hn : ks.length ≤ 100) : Lits (w.alloc (.cells (ks.map (Value.int .u8)).toArray t)) w.heap.size ks := by
  refine ⟨by simp, hn, fun j hj => ?_⟩
  rw [cell_of_row _ _ _ _ t (0, 0) (Go.heap_alloc_new w _)]
  simp [hj]

set_option maxHeartbeats 1000000 in
theorem isKind_any {w : World} {b r : Nat} {L : List Nat} (hL : Lab w b r L) (p : Int) (k c : Nat) (ks : List Int) (hk : Lits w k ks) :
    Calls Tryz.prog 60 #[.pointer (some ⟨b, 0, none⟩), .int .i64 p, .slice (some ⟨k, 0, none⟩) ks.length c] w fun e w' => e = .returned (.bool (ks.any fun y => rC (pkAt L p) == y)) ∧ Below w.heap.size w w' := by
  obtain ⟨K, hK⟩ : ∃ K, pkAt L p = K := ⟨_, rfl⟩
  have hro := rowAt_any hL p K hK
  have hfl := fun w => (field_row (.int .i32 (rA K)) (.int .i32 (rB K)) (.int .u8 (rC K)) (.int .u8 (rS K)) (.int .u8 (rD K)) (.int .u8 (rE K)) w).1
  rw [hK]
  clear hL hK
  have HK : Hid (Lits w k ks) := hk
  clear hk
  go_enter Tryz.func60, Tryz.ntmps60
  go_wp2_with (first | (go_at_call 96; refine hro.mono ?_; rintro e w1 ⟨rfl, hb1⟩; have hco := containsKind k c ks (rC K) w1 HK.out.2.1 (HK.out.keep hb1).2.2) | (go_at_call 95; refine hco.mono ?_; rintro e w' ⟨rfl, hw'⟩; rw [hw']; clear hw'))
  go_ret
  exact ⟨rfl, hb1⟩
theorem isKind_lit {w : World} {b r : Nat} {L : List Nat} (hL : Lab w b r L) (p : Int) (ks : List Int) (cs : Array Value) (n c : Nat) (hcs : cs = (ks.map (Value.int .u8)).toArray) (hn : n = ks.length) (hl : ks.length ≤ 100) :
    Calls Tryz.prog 60 #[.pointer (some ⟨b, 0, none⟩), .int .i64 p, .slice (some ⟨w.heap.size, 0, none⟩) n c] (w.alloc (.cells cs 56)) fun e w' => e = .returned (.bool (ks.any fun y => rC (pkAt L p) == y)) ∧ Below w.heap.size w w' := by
  subst hcs hn
  refine (isKind_any (hL.alloc _) p w.heap.size c ks (lits_new w ks 56 hl)).mono ?_
  rintro e w' ⟨rfl, hb⟩
  exact ⟨rfl, Below.newly hb⟩

set_option maxHeartbeats 1000000 in
theorem isSide_any {w : World} {b r : Nat} {L : List Nat} (hL : Lab w b r L) (p : Int) (k c : Nat) (ks : List Int) (hk : Lits w k ks) :
    Calls Tryz.prog 147 #[.pointer (some ⟨b, 0, none⟩), .int .i64 p, .slice (some ⟨k, 0, none⟩) ks.length c] w fun e w' => e = .returned (.bool (ks.any fun y => rS (pkAt L p) == y)) ∧ Below w.heap.size w w' := by
  obtain ⟨K, hK⟩ : ∃ K, pkAt L p = K := ⟨_, rfl⟩
  have hro := rowAt_any hL p K hK
  have hfl := fun w => (field_row (.int .i32 (rA K)) (.int .i32 (rB K)) (.int .u8 (rC K)) (.int .u8 (rS K)) (.int .u8 (rD K)) (.int .u8 (rE K)) w).2.1
  rw [hK]
  clear hL hK
  have HK : Hid (Lits w k ks) := hk
  clear hk
  go_enter Tryz.func147, Tryz.ntmps147
  go_wp2_with (first | (go_at_call 96; refine hro.mono ?_; rintro e w1 ⟨rfl, hb1⟩; have hco := containsSide k c ks (rS K) w1 HK.out.2.1 (HK.out.keep hb1).2.2) | (go_at_call 172; refine hco.mono ?_; rintro e w' ⟨rfl, hw'⟩; rw [hw']; clear hw'))
  go_ret
  exact ⟨rfl, hb1⟩
theorem isSide_lit {w : World} {b r : Nat} {L : List Nat} (hL : Lab w b r L) (p : Int) (ks : List Int) (cs : Array Value) (n c : Nat) (hcs : cs = (ks.map (Value.int .u8)).toArray) (hn : n = ks.length) (hl : ks.length ≤ 100) :
    Calls Tryz.prog 147 #[.pointer (some ⟨b, 0, none⟩), .int .i64 p, .slice (some ⟨w.heap.size, 0, none⟩) n c] (w.alloc (.cells cs 57)) fun e w' => e = .returned (.bool (ks.any fun y => rS (pkAt L p) == y)) ∧ Below w.heap.size w w' := by
  subst hcs hn
  refine (isSide_any (hL.alloc _) p w.heap.size c ks (lits_new w ks 57 hl)).mono ?_
  rintro e w' ⟨rfl, hb⟩
  exact ⟨rfl, Below.newly hb⟩

set_option maxHeartbeats 1000000 in
theorem isScript_any {w : World} {b r : Nat} {L : List Nat} (hL : Lab w b r L) (p : Int) (k c : Nat) (ks : List Int) (hk : Lits w k ks) :
    Calls Tryz.prog 141 #[.pointer (some ⟨b, 0, none⟩), .int .i64 p, .slice (some ⟨k, 0, none⟩) ks.length c] w fun e w' => e = .returned (.bool (ks.any fun y => rD (pkAt L p) == y)) ∧ Below w.heap.size w w' := by
  obtain ⟨K, hK⟩ : ∃ K, pkAt L p = K := ⟨_, rfl⟩
  have hro := rowAt_any hL p K hK
  have hfl := fun w => (field_row (.int .i32 (rA K)) (.int .i32 (rB K)) (.int .u8 (rC K)) (.int .u8 (rS K)) (.int .u8 (rD K)) (.int .u8 (rE K)) w).2.2.1
  rw [hK]
  clear hL hK
  have HK : Hid (Lits w k ks) := hk
  clear hk
  go_enter Tryz.func141, Tryz.ntmps141
  go_wp2_with (first | (go_at_call 96; refine hro.mono ?_; rintro e w1 ⟨rfl, hb1⟩; have hco := containsScript k c ks (rD K) w1 HK.out.2.1 (HK.out.keep hb1).2.2) | (go_at_call 165; refine hco.mono ?_; rintro e w' ⟨rfl, hw'⟩; rw [hw']; clear hw'))
  go_ret
  exact ⟨rfl, hb1⟩
theorem isScript_lit {w : World} {b r : Nat} {L : List Nat} (hL : Lab w b r L) (p : Int) (ks : List Int) (cs : Array Value) (n c : Nat) (hcs : cs = (ks.map (Value.int .u8)).toArray) (hn : n = ks.length) (hl : ks.length ≤ 100) :
    Calls Tryz.prog 141 #[.pointer (some ⟨b, 0, none⟩), .int .i64 p, .slice (some ⟨w.heap.size, 0, none⟩) n c] (w.alloc (.cells cs 58)) fun e w' => e = .returned (.bool (ks.any fun y => rD (pkAt L p) == y)) ∧ Below w.heap.size w w' := by
  subst hcs hn
  refine (isScript_any (hL.alloc _) p w.heap.size c ks (lits_new w ks 58 hl)).mono ?_
  rintro e w' ⟨rfl, hb⟩
  exact ⟨rfl, Below.newly hb⟩

set_option maxHeartbeats 1000000 in
theorem isJoining_any {w : World} {b r : Nat} {L : List Nat} (hL : Lab w b r L) (p : Int) (k c : Nat) (ks : List Int) (hk : Lits w k ks) :
    Calls Tryz.prog 166 #[.pointer (some ⟨b, 0, none⟩), .int .i64 p, .slice (some ⟨k, 0, none⟩) ks.length c] w fun e w' => e = .returned (.bool (ks.any fun y => rE (pkAt L p) == y)) ∧ Below w.heap.size w w' := by
  obtain ⟨K, hK⟩ : ∃ K, pkAt L p = K := ⟨_, rfl⟩
  have hro := rowAt_any hL p K hK
  have hfl := fun w => (field_row (.int .i32 (rA K)) (.int .i32 (rB K)) (.int .u8 (rC K)) (.int .u8 (rS K)) (.int .u8 (rD K)) (.int .u8 (rE K)) w).2.2.2
  rw [hK]
  clear hL hK
  have HK : Hid (Lits w k ks) := hk
  clear hk
  go_enter Tryz.func166, Tryz.ntmps166
  go_wp2_with (first | (go_at_call 96; refine hro.mono ?_; rintro e w1 ⟨rfl, hb1⟩; have hco := containsJoining k c ks (rE K) w1 HK.out.2.1 (HK.out.keep hb1).2.2) | (go_at_call 190; refine hco.mono ?_; rintro e w' ⟨rfl, hw'⟩; rw [hw']; clear hw'))
  go_ret
  exact ⟨rfl, hb1⟩
theorem isJoining_lit {w : World} {b r : Nat} {L : List Nat} (hL : Lab w b r L) (p : Int) (ks : List Int) (cs : Array Value) (n c : Nat) (hcs : cs = (ks.map (Value.int .u8)).toArray) (hn : n = ks.length) (hl : ks.length ≤ 100) :
    Calls Tryz.prog 166 #[.pointer (some ⟨b, 0, none⟩), .int .i64 p, .slice (some ⟨w.heap.size, 0, none⟩) n c] (w.alloc (.cells cs 59)) fun e w' => e = .returned (.bool (ks.any fun y => rE (pkAt L p) == y)) ∧ Below w.heap.size w w' := by
  subst hcs hn
  refine (isJoining_any (hL.alloc _) p w.heap.size c ks (lits_new w ks 59 hl)).mono ?_
  rintro e w' ⟨rfl, hb⟩
  exact ⟨rfl, Below.newly hb⟩

set_option maxHeartbeats 1000000 in
theorem somewhere_any {w : World} {b r : Nat} {L : List Nat} (hL : Lab w b r L) (g : Nat) (caps : Array Value) (p : Nat → Bool)
    (eg : ∀ args w, (callFunc g args).run Tryz.prog w = .ok (.enter g args) w)
    (hp : ∀ W, Below w.heap.size w W → ∀ i, i < L.length → Calls Tryz.prog g (#[.int .i64 (i : Int)] ++ caps) W fun e w' => e = .returned (.bool (p i)) ∧ Below W.heap.size W w') :
    Calls Tryz.prog 92 #[.pointer (some ⟨b, 0, none⟩), .func (.func g) #[] caps] w fun e w' => e = .returned (.bool ((List.range L.length).any p)) ∧ Below w.heap.size w w' := by
  have hct := fcount_any hL
  have hlen := hL.len
  obtain ⟨n, hn⟩ : ∃ n, L.length = n := ⟨_, rfl⟩
  rw [hn] at hct hp hlen ⊢
  clear hL hn
  go_enter Tryz.func92, Tryz.ntmps92
  go_wp2_with (go_at_call 94; refine hct.mono ?_; rintro e w' ⟨rfl, hw'⟩; rw [hw']; clear hw')
  clear hct
  go_loopw [10] (fun iv wr => ∃ k : Nat, k ≤ n ∧ iv = .int .i64 k ∧ (∀ j, j < k → p j = false) ∧ Below w.heap.size w wr) (fun iv _ => n - (intOf iv).toNat)
  case atStart => exact ⟨0, by omega, rfl, fun j hj => absurd hj (by omega), Below.refl _ _⟩
  case round =>
    obtain ⟨k, hk, rfl, hno, hbw⟩ := hrel
    have HN : Hid (∀ j, j < k → p j = false) := hno
    clear hno
    by_cases hlt : k < n
    · have hpk := hp wr hbw k hlt
      have hlt' : (k : Int) < (n : Int) := by omega
      clear hp
      cases hpv : p k with
      | true =>
        rw [hpv] at hpk
        go_wp2_with (go_at_fn g; refine hpk.mono ?_; rintro e w1 ⟨rfl, hb1⟩)
        go_ret
        refine ⟨?_, Below.andThen hbw hb1⟩
        rw [List.any_eq_true.2 ⟨k, List.mem_range.2 hlt, hpv⟩]
        rfl
      | false =>
        rw [hpv] at hpk
        go_wp2_with (go_at_fn g; refine hpk.mono ?_; rintro e w1 ⟨rfl, hb1⟩)
        go_roundw
        case rel => exact ⟨k + 1, by omega, by go_num, fun j hj => by
            rcases Nat.lt_succ_iff_lt_or_eq.1 hj with h | rfl
            · exact HN.out j h
            · exact hpv, Below.andThen hbw hb1⟩
        case measure => simp [intOf]; omega
    · have hlt' : ¬ (k : Int) < (n : Int) := by omega
      clear hp
      go_wp2
      go_ret
      refine ⟨?_, hbw⟩
      rw [List.any_eq_false.2 fun j hj => by rw [HN.out j (by have := List.mem_range.1 hj; omega)]; simp]
      rfl

set_option maxHeartbeats 1000000 in
theorem hasKindF_any {w : World} {b r : Nat} {L : List Nat} (hL : Lab w b r L) (i : Nat) (k c p1 p2 : Nat) (ks : List Int) (hk : Lits w k ks) (h1 : w.cell? ⟨p1, 0, none⟩ = some (.pointer (some ⟨b, 0, none⟩))) (h2 : w.cell? ⟨p2, 0, none⟩ = some (.slice (some ⟨k, 0, none⟩) ks.length c)) :
    Calls Tryz.prog 93 #[.int .i64 (i : Int), .pointer (some ⟨p1, 0, none⟩), .pointer (some ⟨p2, 0, none⟩)] w fun e w' => e = .returned (.bool (ks.any fun y => rC (pkAt L (i : Int)) == y)) ∧ Below w.heap.size w w' := by
  have his := isKind_any hL (i : Int) k c ks hk
  clear hL hk
  go_enter Tryz.func93, Tryz.ntmps93
  go_wp2_with (go_at_call 60; refine his.mono ?_; rintro e w1 ⟨rfl, hb1⟩)
  go_ret
  exact ⟨rfl, hb1⟩
set_option maxHeartbeats 1000000 in
theorem hasKind_any {w : World} {b r : Nat} {L : List Nat} (hL : Lab w b r L) (k c : Nat) (ks : List Int) (hk : Lits w k ks) :
    Calls Tryz.prog 58 #[.pointer (some ⟨b, 0, none⟩), .slice (some ⟨k, 0, none⟩) ks.length c] w fun e w' => e = .returned (.bool ((List.range L.length).any fun (i : Nat) => ks.any fun y => rC (pkAt L (i : Int)) == y)) ∧ Below w.heap.size w w' := by
  have hB0 : Below w.heap.size w ((w.alloc (.cells #[.pointer (some ⟨b, 0, none⟩)] 44)).alloc (.cells #[.slice (some ⟨k, 0, none⟩) ks.length c] 132)) := ((Below.refl _ w).alloc (Nat.le_refl _) _).alloc (by simp) _
  have e1 : ((w.alloc (.cells #[.pointer (some ⟨b, 0, none⟩)] 44)).alloc (.cells #[.slice (some ⟨k, 0, none⟩) ks.length c] 132)).heap[w.heap.size]? = some (.cells #[.pointer (some ⟨b, 0, none⟩)] 44 (0, 0)) :=
    (((Below.refl (w.alloc (.cells #[.pointer (some ⟨b, 0, none⟩)] 44)).heap.size _).alloc (Nat.le_refl _) _).block w.heap.size (by simp)).trans (Go.heap_alloc_new w _)
  have e2 : ((w.alloc (.cells #[.pointer (some ⟨b, 0, none⟩)] 44)).alloc (.cells #[.slice (some ⟨k, 0, none⟩) ks.length c] 132)).heap[w.heap.size + 1]? = some (.cells #[.slice (some ⟨k, 0, none⟩) ks.length c] 132 (0, 0)) := by
    have h := Go.heap_alloc_new (w.alloc (.cells #[.pointer (some ⟨b, 0, none⟩)] 44)) (.cells #[.slice (some ⟨k, 0, none⟩) ks.length c] 132)
    rwa [World.size_alloc] at h
  have eg : ∀ args w, (callFunc 93 args).run Tryz.prog w = .ok (.enter 93 args) w := enters_of Tryz.func93 (by kernel_rfl) rfl
  have hs := somewhere_any (hL.keep hB0) 93 #[.pointer (some ⟨w.heap.size, 0, none⟩), .pointer (some ⟨w.heap.size + 1, 0, none⟩)] (fun i => ks.any fun y => rC (pkAt L (i : Int)) == y) eg
    (fun W hW i hi => hasKindF_any ((hL.keep hB0).keep hW) i k c w.heap.size (w.heap.size + 1) ks ((hk.keep hB0).keep hW)
      (by rw [cell_of_row _ _ _ _ 44 (0, 0) ((hW.block _ (lt_heap e1)).trans e1)]; rfl)
      (by rw [cell_of_row _ _ _ _ 132 (0, 0) ((hW.block _ (lt_heap e2)).trans e2)]; rfl))
  have hmf : ∀ (fn : Fn) (first cap : Array Value) (w : World), (Instr.makeFunc fn first cap).run Tryz.prog w = .ok (.func fn first cap) w := fun _ _ _ _ => rfl
  have HB0 : Hid (Below w.heap.size w ((w.alloc (.cells #[.pointer (some ⟨b, 0, none⟩)] 44)).alloc (.cells #[.slice (some ⟨k, 0, none⟩) ks.length c] 132))) := hB0
  clear hL hk e1 e2 eg hB0
  go_enter Tryz.func58, Tryz.ntmps58
  go_wp2_with (go_at_call 92; refine hs.mono ?_; rintro e w1 ⟨rfl, hb1⟩)
  go_ret
  exact ⟨rfl, Below.andThen HB0.out hb1⟩
theorem hasKind_lit {w : World} {b r : Nat} {L : List Nat} (hL : Lab w b r L) (ks : List Int) (cs : Array Value) (n c : Nat) (hcs : cs = (ks.map (Value.int .u8)).toArray) (hn : n = ks.length) (hl : ks.length ≤ 100) :
    Calls Tryz.prog 58 #[.pointer (some ⟨b, 0, none⟩), .slice (some ⟨w.heap.size, 0, none⟩) n c] (w.alloc (.cells cs 56)) fun e w' => e = .returned (.bool ((List.range L.length).any fun (i : Nat) => ks.any fun y => rC (pkAt L (i : Int)) == y)) ∧ Below w.heap.size w w' := by
  subst hcs hn
  refine (hasKind_any (hL.alloc _) w.heap.size c ks (lits_new w ks 56 hl)).mono ?_
  rintro e w' ⟨rfl, hb⟩
  exact ⟨rfl, Below.newly hb⟩

set_option maxHeartbeats 1000000 in
theorem hasScriptF_any {w : World} {b r : Nat} {L : List Nat} (hL : Lab w b r L) (i : Nat) (k c p1 p2 : Nat) (ks : List Int) (hk : Lits w k ks) (h1 : w.cell? ⟨p1, 0, none⟩ = some (.pointer (some ⟨b, 0, none⟩))) (h2 : w.cell? ⟨p2, 0, none⟩ = some (.slice (some ⟨k, 0, none⟩) ks.length c)) :
    Calls Tryz.prog 163 #[.int .i64 (i : Int), .pointer (some ⟨p1, 0, none⟩), .pointer (some ⟨p2, 0, none⟩)] w fun e w' => e = .returned (.bool (ks.any fun y => rD (pkAt L (i : Int)) == y)) ∧ Below w.heap.size w w' := by
  have his := isScript_any hL (i : Int) k c ks hk
  clear hL hk
  go_enter Tryz.func163, Tryz.ntmps163
  go_wp2_with (go_at_call 141; refine his.mono ?_; rintro e w1 ⟨rfl, hb1⟩)
  go_ret
  exact ⟨rfl, hb1⟩
set_option maxHeartbeats 1000000 in
theorem hasScript_any {w : World} {b r : Nat} {L : List Nat} (hL : Lab w b r L) (k c : Nat) (ks : List Int) (hk : Lits w k ks) :
    Calls Tryz.prog 136 #[.pointer (some ⟨b, 0, none⟩), .slice (some ⟨k, 0, none⟩) ks.length c] w fun e w' => e = .returned (.bool ((List.range L.length).any fun (i : Nat) => ks.any fun y => rD (pkAt L (i : Int)) == y)) ∧ Below w.heap.size w w' := by
  have hB0 : Below w.heap.size w ((w.alloc (.cells #[.pointer (some ⟨b, 0, none⟩)] 44)).alloc (.cells #[.slice (some ⟨k, 0, none⟩) ks.length c] 192)) := ((Below.refl _ w).alloc (Nat.le_refl _) _).alloc (by simp) _
  have e1 : ((w.alloc (.cells #[.pointer (some ⟨b, 0, none⟩)] 44)).alloc (.cells #[.slice (some ⟨k, 0, none⟩) ks.length c] 192)).heap[w.heap.size]? = some (.cells #[.pointer (some ⟨b, 0, none⟩)] 44 (0, 0)) :=
    (((Below.refl (w.alloc (.cells #[.pointer (some ⟨b, 0, none⟩)] 44)).heap.size _).alloc (Nat.le_refl _) _).block w.heap.size (by simp)).trans (Go.heap_alloc_new w _)
  have e2 : ((w.alloc (.cells #[.pointer (some ⟨b, 0, none⟩)] 44)).alloc (.cells #[.slice (some ⟨k, 0, none⟩) ks.length c] 192)).heap[w.heap.size + 1]? = some (.cells #[.slice (some ⟨k, 0, none⟩) ks.length c] 192 (0, 0)) := by
    have h := Go.heap_alloc_new (w.alloc (.cells #[.pointer (some ⟨b, 0, none⟩)] 44)) (.cells #[.slice (some ⟨k, 0, none⟩) ks.length c] 192)
    rwa [World.size_alloc] at h
  have eg : ∀ args w, (callFunc 163 args).run Tryz.prog w = .ok (.enter 163 args) w := enters_of Tryz.func163 (by kernel_rfl) rfl
  have hs := somewhere_any (hL.keep hB0) 163 #[.pointer (some ⟨w.heap.size, 0, none⟩), .pointer (some ⟨w.heap.size + 1, 0, none⟩)] (fun i => ks.any fun y => rD (pkAt L (i : Int)) == y) eg
    (fun W hW i hi => hasScriptF_any ((hL.keep hB0).keep hW) i k c w.heap.size (w.heap.size + 1) ks ((hk.keep hB0).keep hW)
      (by rw [cell_of_row _ _ _ _ 44 (0, 0) ((hW.block _ (lt_heap e1)).trans e1)]; rfl)
      (by rw [cell_of_row _ _ _ _ 192 (0, 0) ((hW.block _ (lt_heap e2)).trans e2)]; rfl))
  have hmf : ∀ (fn : Fn) (first cap : Array Value) (w : World), (Instr.makeFunc fn first cap).run Tryz.prog w = .ok (.func fn first cap) w := fun _ _ _ _ => rfl
  have HB0 : Hid (Below w.heap.size w ((w.alloc (.cells #[.pointer (some ⟨b, 0, none⟩)] 44)).alloc (.cells #[.slice (some ⟨k, 0, none⟩) ks.length c] 192))) := hB0
  clear hL hk e1 e2 eg hB0
  go_enter Tryz.func136, Tryz.ntmps136
  go_wp2_with (go_at_call 92; refine hs.mono ?_; rintro e w1 ⟨rfl, hb1⟩)
  go_ret
  exact ⟨rfl, Below.andThen HB0.out hb1⟩
theorem hasScript_lit {w : World} {b r : Nat} {L : List Nat} (hL : Lab w b r L) (ks : List Int) (cs : Array Value) (n c : Nat) (hcs : cs = (ks.map (Value.int .u8)).toArray) (hn : n = ks.length) (hl : ks.length ≤ 100) :
    Calls Tryz.prog 136 #[.pointer (some ⟨b, 0, none⟩), .slice (some ⟨w.heap.size, 0, none⟩) n c] (w.alloc (.cells cs 58)) fun e w' => e = .returned (.bool ((List.range L.length).any fun (i : Nat) => ks.any fun y => rD (pkAt L (i : Int)) == y)) ∧ Below w.heap.size w w' := by
  subst hcs hn
  refine (hasScript_any (hL.alloc _) w.heap.size c ks (lits_new w ks 58 hl)).mono ?_
  rintro e w' ⟨rfl, hb⟩
  exact ⟨rfl, Below.newly hb⟩

set_option maxHeartbeats 1000000 in
theorem hasSideF_any {w : World} {b r : Nat} {L : List Nat} (hL : Lab w b r L) (i : Nat) (k c p1 p2 : Nat) (ks : List Int) (hk : Lits w k ks) (h1 : w.cell? ⟨p1, 0, none⟩ = some (.pointer (some ⟨b, 0, none⟩))) (h2 : w.cell? ⟨p2, 0, none⟩ = some (.slice (some ⟨k, 0, none⟩) ks.length c)) :
    Calls Tryz.prog 174 #[.int .i64 (i : Int), .pointer (some ⟨p1, 0, none⟩), .pointer (some ⟨p2, 0, none⟩)] w fun e w' => e = .returned (.bool (ks.any fun y => rS (pkAt L (i : Int)) == y)) ∧ Below w.heap.size w w' := by
  have his := isSide_any hL (i : Int) k c ks hk
  clear hL hk
  go_enter Tryz.func174, Tryz.ntmps174
  go_wp2_with (go_at_call 147; refine his.mono ?_; rintro e w1 ⟨rfl, hb1⟩)
  go_ret
  exact ⟨rfl, hb1⟩
set_option maxHeartbeats 1000000 in
theorem hasSide_any {w : World} {b r : Nat} {L : List Nat} (hL : Lab w b r L) (k c : Nat) (ks : List Int) (hk : Lits w k ks) :
    Calls Tryz.prog 150 #[.pointer (some ⟨b, 0, none⟩), .slice (some ⟨k, 0, none⟩) ks.length c] w fun e w' => e = .returned (.bool ((List.range L.length).any fun (i : Nat) => ks.any fun y => rS (pkAt L (i : Int)) == y)) ∧ Below w.heap.size w w' := by
  have hB0 : Below w.heap.size w ((w.alloc (.cells #[.pointer (some ⟨b, 0, none⟩)] 44)).alloc (.cells #[.slice (some ⟨k, 0, none⟩) ks.length c] 198)) := ((Below.refl _ w).alloc (Nat.le_refl _) _).alloc (by simp) _
  have e1 : ((w.alloc (.cells #[.pointer (some ⟨b, 0, none⟩)] 44)).alloc (.cells #[.slice (some ⟨k, 0, none⟩) ks.length c] 198)).heap[w.heap.size]? = some (.cells #[.pointer (some ⟨b, 0, none⟩)] 44 (0, 0)) :=
    (((Below.refl (w.alloc (.cells #[.pointer (some ⟨b, 0, none⟩)] 44)).heap.size _).alloc (Nat.le_refl _) _).block w.heap.size (by simp)).trans (Go.heap_alloc_new w _)
  have e2 : ((w.alloc (.cells #[.pointer (some ⟨b, 0, none⟩)] 44)).alloc (.cells #[.slice (some ⟨k, 0, none⟩) ks.length c] 198)).heap[w.heap.size + 1]? = some (.cells #[.slice (some ⟨k, 0, none⟩) ks.length c] 198 (0, 0)) := by
    have h := Go.heap_alloc_new (w.alloc (.cells #[.pointer (some ⟨b, 0, none⟩)] 44)) (.cells #[.slice (some ⟨k, 0, none⟩) ks.length c] 198)
    rwa [World.size_alloc] at h
  have eg : ∀ args w, (callFunc 174 args).run Tryz.prog w = .ok (.enter 174 args) w := enters_of Tryz.func174 (by kernel_rfl) rfl
  have hs := somewhere_any (hL.keep hB0) 174 #[.pointer (some ⟨w.heap.size, 0, none⟩), .pointer (some ⟨w.heap.size + 1, 0, none⟩)] (fun i => ks.any fun y => rS (pkAt L (i : Int)) == y) eg
    (fun W hW i hi => hasSideF_any ((hL.keep hB0).keep hW) i k c w.heap.size (w.heap.size + 1) ks ((hk.keep hB0).keep hW)
      (by rw [cell_of_row _ _ _ _ 44 (0, 0) ((hW.block _ (lt_heap e1)).trans e1)]; rfl)
      (by rw [cell_of_row _ _ _ _ 198 (0, 0) ((hW.block _ (lt_heap e2)).trans e2)]; rfl))
  have hmf : ∀ (fn : Fn) (first cap : Array Value) (w : World), (Instr.makeFunc fn first cap).run Tryz.prog w = .ok (.func fn first cap) w := fun _ _ _ _ => rfl
  have HB0 : Hid (Below w.heap.size w ((w.alloc (.cells #[.pointer (some ⟨b, 0, none⟩)] 44)).alloc (.cells #[.slice (some ⟨k, 0, none⟩) ks.length c] 198))) := hB0
  clear hL hk e1 e2 eg hB0
  go_enter Tryz.func150, Tryz.ntmps150
  go_wp2_with (go_at_call 92; refine hs.mono ?_; rintro e w1 ⟨rfl, hb1⟩)
  go_ret
  exact ⟨rfl, Below.andThen HB0.out hb1⟩
theorem hasSide_lit {w : World} {b r : Nat} {L : List Nat} (hL : Lab w b r L) (ks : List Int) (cs : Array Value) (n c : Nat) (hcs : cs = (ks.map (Value.int .u8)).toArray) (hn : n = ks.length) (hl : ks.length ≤ 100) :
    Calls Tryz.prog 150 #[.pointer (some ⟨b, 0, none⟩), .slice (some ⟨w.heap.size, 0, none⟩) n c] (w.alloc (.cells cs 57)) fun e w' => e = .returned (.bool ((List.range L.length).any fun (i : Nat) => ks.any fun y => rS (pkAt L (i : Int)) == y)) ∧ Below w.heap.size w w' := by
  subst hcs hn
  refine (hasSide_any (hL.alloc _) w.heap.size c ks (lits_new w ks 57 hl)).mono ?_
  rintro e w' ⟨rfl, hb⟩
  exact ⟨rfl, Below.newly hb⟩
end Go.Proofs.YtkaaldhejpaiiaaGreatDoor
