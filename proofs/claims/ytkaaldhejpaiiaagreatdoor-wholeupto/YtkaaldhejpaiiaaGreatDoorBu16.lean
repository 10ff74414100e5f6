import Derived.Test.YtkaaldhejpaiiaaGreatDoorBu15
import Derived.Test.YtkaaldhejpaiiaaGreatDoorBu13
import Derived.Shelf.SlicesE.IndexFunc
/- isKind, isSide, isScript, isJoining; somewhere; hasKind, hasScript, hasSide. -/
namespace Go.Proofs.YtkaaldhejpaiiaaGreatDoor
open Go.RowKit

/-- A row of small numbers that somebody has just laid. -/
def Lits (w : World) (k : Nat) (ks : List Int) : Prop := k < w.heap.size ∧ ks.length ≤ 100 ∧ ∀ j, j < ks.length → w.cell? ⟨k, j, none⟩ = some (.int .u8 ks[j]!)
theorem Lits.keep {w w' : World} {k : Nat} {ks : List Int} (h : Lits w k ks) (hb : Below w.heap.size w w') : Lits w' k ks :=
  ⟨Nat.lt_of_lt_of_le h.1 hb.size, h.2.1, fun j hj => (hb.cell (p := ⟨k, j, none⟩) h.1).trans (h.2.2 j hj)⟩
theorem lits_new (w : World) (ks : List Int) (t : TypeId) (hn : ks.length ≤ 100) : Lits (w.alloc (.cells (ks.map (Value.int .u8)).toArray t)) w.heap.size ks := by
  refine ⟨by simp, hn, fun j hj => ?_⟩
  rw [cell_of_row _ _ _ _ t (0, 0) (Go.heap_alloc_new w _)]
  simp [hj]

set_option maxHeartbeats 1000000 in
theorem isKind_any {w : World} {b r : Nat} {L : List Nat} (hL : Lab w b r L) (p : Int) (k c : Nat) (ks : List Int) (hk : Lits w k ks) :
    Calls Tryz.prog 60 #[.pointer (some ⟨b, 0, none⟩), .int .i64 p, .slice (some ⟨k, 0, none⟩) ks.length c] w fun e w' => e = .returned (.bool (ks.any fun y => rC (pkAt L p) == y)) ∧ Below w.heap.size w w' := by
  obtain ⟨K, hK⟩ : ∃ K, pkAt L p = K := ⟨_, rfl⟩
  have hro := rowAt_any hL p K hK
  have hfl := fun w => (field_row (.int .i32 (rA K)) (.int .i32 (rB K)) (.int .u8 (rC K)) (.int .u8 (rS K)) (.int .u8 (rD K)) (.int .u8 (rE K)) w).1
  rw [hK]
  clear hL hK
  have HK : Hid (Lits w k ks) := hk
  clear hk
  go_enter Tryz.func60, Tryz.ntmps60
  go_wp2_with (first | (go_at_call 96; refine hro.mono ?_; rintro e w1 ⟨rfl, hb1⟩; have hco := containsKind k c ks (rC K) w1 HK.out.2.1 (HK.out.keep hb1).2.2) | (go_at_call 95; refine hco.mono ?_; rintro e w' ⟨rfl, hw'⟩; rw [hw']; clear hw'))
  go_ret
  exact ⟨rfl, hb1⟩
theorem isKind_lit {w : World} {b r : Nat} {L : List Nat} (hL : Lab w b r L) (p : Int) (ks : List Int) (cs : Array Value) (n c : Nat) (hcs : cs = (ks.map (Value.int .u8)).toArray) (hn : n = ks.length) (hl : ks.length ≤ 100) :
    Calls Tryz.prog 60 #[.pointer (some ⟨b, 0, none⟩), .int .i64 p, .slice (some ⟨w.heap.size, 0, none⟩) n c] (w.alloc (.cells cs 56)) fun e w' => e = .returned (.bool (ks.any fun y => rC (pkAt L p) == y)) ∧ Below w.heap.size w w' := by
  subst hcs hn
  refine (isKind_any (hL.alloc _) p w.heap.size c ks (lits_new w ks 56 hl)).mono ?_
  rintro e w' ⟨rfl, hb⟩
  exact ⟨rfl, Below.newly hb⟩

set_option maxHeartbeats 1000000 in
theorem isSide_any {w : World} {b r : Nat} {L : List Nat} (hL : Lab w b r L) (p : Int) (k c : Nat) (ks : List Int) (hk : Lits w k ks) :
    Calls Tryz.prog 147 #[.pointer (some ⟨b, 0, none⟩), .int .i64 p, .slice (some ⟨k, 0, none⟩) ks.length c] w fun e w' => e = .returned (.bool (ks.any fun y => rS (pkAt L p) == y)) ∧ Below w.heap.size w w' := by
  obtain ⟨K, hK⟩ : ∃ K, pkAt L p = K := ⟨_, rfl⟩
  have hro := rowAt_any hL p K hK
  have hfl := fun w => (field_row (.int .i32 (rA K)) (.int .i32 (rB K)) (.int .u8 (rC K)) (.int .u8 (rS K)) (.int .u8 (rD K)) (.int .u8 (rE K)) w).2.1
  rw [hK]
  clear hL hK
  have HK : Hid (Lits w k ks) := hk
  clear hk
  go_enter Tryz.func147, Tryz.ntmps147
  go_wp2_with (first | (go_at_call 96; refine hro.mono ?_; rintro e w1 ⟨rfl, hb1⟩; have hco := containsSide k c ks (rS K) w1 HK.out.2.1 (HK.out.keep hb1).2.2) | (go_at_call 172; refine hco.mono ?_; rintro e w' ⟨rfl, hw'⟩; rw [hw']; clear hw'))
  go_ret
  exact ⟨rfl, hb1⟩
theorem isSide_lit {w : World} {b r : Nat} {L : List Nat} (hL : Lab w b r L) (p : Int) (ks : List Int) (cs : Array Value) (n c : Nat) (hcs : cs = (ks.map (Value.int .u8)).toArray) (hn : n = ks.length) (hl : ks.length ≤ 100) :
    Calls Tryz.prog 147 #[.pointer (some ⟨b, 0, none⟩), .int .i64 p, .slice (some ⟨w.heap.size, 0, none⟩) n c] (w.alloc (.cells cs 57)) fun e w' => e = .returned (.bool (ks.any fun y => rS (pkAt L p) == y)) ∧ Below w.heap.size w w' := by
  subst hcs hn
  refine (isSide_any (hL.alloc _) p w.heap.size c ks (lits_new w ks 57 hl)).mono ?_
  rintro e w' ⟨rfl, hb⟩
  exact ⟨rfl, Below.newly hb⟩

set_option maxHeartbeats 1000000 in
theorem isScript_any {w : World} {b r : Nat} {L : List Nat} (hL : Lab w b r L) (p : Int) (k c : Nat) (ks : List Int) (hk : Lits w k ks) :
    Calls Tryz.prog 141 #[.pointer (some ⟨b, 0, none⟩), .int .i64 p, .slice (some ⟨k, 0, none⟩) ks.length c] w fun e w' => e = .returned (.bool (ks.any fun y => rD (pkAt L p) == y)) ∧ Below w.heap.size w w' := by
  obtain ⟨K, hK⟩ : ∃ K, pkAt L p = K := ⟨_, rfl⟩
  have hro := rowAt_any hL p K hK
  have hfl := fun w => (field_row (.int .i32 (rA K)) (.int .i32 (rB K)) (.int .u8 (rC K)) (.int .u8 (rS K)) (.int .u8 (rD K)) (.int .u8 (rE K)) w).2.2.1
  rw [hK]
  clear hL hK
  have HK : Hid (Lits w k ks) := hk
  clear hk
  go_enter Tryz.func141, Tryz.ntmps141
  go_wp2_with (first | (go_at_call 96; refine hro.mono ?_; rintro e w1 ⟨rfl, hb1⟩; have hco := containsScript k c ks (rD K) w1 HK.out.2.1 (HK.out.keep hb1).2.2) | (go_at_call 165; refine hco.mono ?_; rintro e w' ⟨rfl, hw'⟩; rw [hw']; clear hw'))
  go_ret
  exact ⟨rfl, hb1⟩
theorem isScript_lit {w : World} {b r : Nat} {L : List Nat} (hL : Lab w b r L) (p : Int) (ks : List Int) (cs : Array Value) (n c : Nat) (hcs : cs = (ks.map (Value.int .u8)).toArray) (hn : n = ks.length) (hl : ks.length ≤ 100) :
    Calls Tryz.prog 141 #[.pointer (some ⟨b, 0, none⟩), .int .i64 p, .slice (some ⟨w.heap.size, 0, none⟩) n c] (w.alloc (.cells cs 58)) fun e w' => e = .returned (.bool (ks.any fun y => rD (pkAt L p) == y)) ∧ Below w.heap.size w w' := by
  subst hcs hn
  refine (isScript_any (hL.alloc _) p w.heap.size c ks (lits_new w ks 58 hl)).mono ?_
  rintro e w' ⟨rfl, hb⟩
  exact ⟨rfl, Below.newly hb⟩

set_option maxHeartbeats 1000000 in
theorem isJoining_any {w : World} {b r : Nat} {L : List Nat} (hL : Lab w b r L) (p : Int) (k c : Nat) (ks : List Int) (hk : Lits w k ks) :
    Calls Tryz.prog 166 #[.pointer (some ⟨b, 0, none⟩), .int .i64 p, .slice (some ⟨k, 0, none⟩) ks.length c] w fun e w' => e = .returned (.bool (ks.any fun y => rE (pkAt L p) == y)) ∧ Below w.heap.size w w' := by
  obtain ⟨K, hK⟩ : ∃ K, pkAt L p = K := ⟨_, rfl⟩
  have hro := rowAt_any hL p K hK
  have hfl := fun w => (field_row (.int .i32 (rA K)) (.int .i32 (rB K)) (.int .u8 (rC K)) (.int .u8 (rS K)) (.int .u8 (rD K)) (.int .u8 (rE K)) w).2.2.2
  rw [hK]
  clear hL hK
  have HK : Hid (Lits w k ks) := hk
  clear hk
  go_enter Tryz.func166, Tryz.ntmps166
  go_wp2_with (first | (go_at_call 96; refine hro.mono ?_; rintro e w1 ⟨rfl, hb1⟩; have hco := containsJoining k c ks (rE K) w1 HK.out.2.1 (HK.out.keep hb1).2.2) | (go_at_call 190; refine hco.mono ?_; rintro e w' ⟨rfl, hw'⟩; rw [hw']; clear hw'))
  go_ret
  exact ⟨rfl, hb1⟩
theorem isJoining_lit {w : World} {b r : Nat} {L : List Nat} (hL : Lab w b r L) (p : Int) (ks : List Int) (cs : Array Value) (n c : Nat) (hcs : cs = (ks.map (Value.int .u8)).toArray) (hn : n = ks.length) (hl : ks.length ≤ 100) :
    Calls Tryz.prog 166 #[.pointer (some ⟨b, 0, none⟩), .int .i64 p, .slice (some ⟨w.heap.size, 0, none⟩) n c] (w.alloc (.cells cs 59)) fun e w' => e = .returned (.bool (ks.any fun y => rE (pkAt L p) == y)) ∧ Below w.heap.size w w' := by
  subst hcs hn
  refine (isJoining_any (hL.alloc _) p w.heap.size c ks (lits_new w ks 59 hl)).mono ?_
  rintro e w' ⟨rfl, hb⟩
  exact ⟨rfl, Below.newly hb⟩

set_option maxHeartbeats 1000000 in
theorem somewhere_any {w : World} {b r : Nat} {L : List Nat} (hL : Lab w b r L) (g : Nat) (caps : Array Value) (p : Nat → Bool)
    (eg : ∀ args w, (callFunc g args).run Tryz.prog w = .ok (.enter g args) w)
    (hp : ∀ W, Below w.heap.size w W → ∀ i, i < L.length → Calls Tryz.prog g (#[.int .i64 (i : Int)] ++ caps) W fun e w' => e = .returned (.bool (p i)) ∧ Below W.heap.size W w') :
    Calls Tryz.prog 92 #[.pointer (some ⟨b, 0, none⟩), .func (.func g) #[] caps] w fun e w' => e = .returned (.bool ((List.range L.length).any p)) ∧ Below w.heap.size w w' := by
  have hct := fcount_any hL
  have hlen := hL.len
  obtain ⟨n, hn⟩ : ∃ n, L.length = n := ⟨_, rfl⟩
  rw [hn] at hct hp hlen ⊢
  clear hL hn
  go_enter Tryz.func92, Tryz.ntmps92
  go_wp2_with (go_at_call 94; refine hct.mono ?_; rintro e w' ⟨rfl, hw'⟩; rw [hw']; clear hw')
  clear hct
  go_loopw [10] (fun iv wr => ∃ k : Nat, k ≤ n ∧ iv = .int .i64 k ∧ (∀ j, j < k → p j = false) ∧ Below w.heap.size w wr) (fun iv _ => n - (intOf iv).toNat)
  case atStart => exact ⟨0, by omega, rfl, fun j hj => absurd hj (by omega), Below.refl _ _⟩
  case round =>
    obtain ⟨k, hk, rfl, hno, hbw⟩ := hrel
    have HN : Hid (∀ j, j < k → p j = false) := hno
    clear hno
    by_cases hlt : k < n
    · have hpk := hp wr hbw k hlt
      have hlt' : (k : Int) < (n : Int) := by omega
      clear hp
      cases hpv : p k with
      | true =>
        rw [hpv] at hpk
        go_wp2_with (go_at_fn g; refine hpk.mono ?_; rintro e w1 ⟨rfl, hb1⟩)
        go_ret
        refine ⟨?_, Below.andThen hbw hb1⟩
        rw [List.any_eq_true.2 ⟨k, List.mem_range.2 hlt, hpv⟩]
        rfl
      | false =>
        rw [hpv] at hpk
        go_wp2_with (go_at_fn g; refine hpk.mono ?_; rintro e w1 ⟨rfl, hb1⟩)
        go_roundw
        case rel => exact ⟨k + 1, by omega, by go_num, fun j hj => by
            rcases Nat.lt_succ_iff_lt_or_eq.1 hj with h | rfl
            · exact HN.out j h
            · exact hpv, Below.andThen hbw hb1⟩
        case measure => simp [intOf]; omega
    · have hlt' : ¬ (k : Int) < (n : Int) := by omega
      clear hp
      go_wp2
      go_ret
      refine ⟨?_, hbw⟩
      rw [List.any_eq_false.2 fun j hj => by rw [HN.out j (by have := List.mem_range.1 hj; omega)]; simp]
      rfl

set_option maxHeartbeats 1000000 in
theorem hasKindF_any {w : World} {b r : Nat} {L : List Nat} (hL : Lab w b r L) (i : Nat) (k c p1 p2 : Nat) (ks : List Int) (hk : Lits w k ks) (h1 : w.cell? ⟨p1, 0, none⟩ = some (.pointer (some ⟨b, 0, none⟩))) (h2 : w.cell? ⟨p2, 0, none⟩ = some (.slice (some ⟨k, 0, none⟩) ks.length c)) :
    Calls Tryz.prog 93 #[.int .i64 (i : Int), .pointer (some ⟨p1, 0, none⟩), .pointer (some ⟨p2, 0, none⟩)] w fun e w' => e = .returned (.bool (ks.any fun y => rC (pkAt L (i : Int)) == y)) ∧ Below w.heap.size w w' := by
  have his := isKind_any hL (i : Int) k c ks hk
  clear hL hk
  go_enter Tryz.func93, Tryz.ntmps93
  go_wp2_with (go_at_call 60; refine his.mono ?_; rintro e w1 ⟨rfl, hb1⟩)
  go_ret
  exact ⟨rfl, hb1⟩
set_option maxHeartbeats 1000000 in
theorem hasKind_any {w : World} {b r : Nat} {L : List Nat} (hL : Lab w b r L) (k c : Nat) (ks : List Int) (hk : Lits w k ks) :
    Calls Tryz.prog 58 #[.pointer (some ⟨b, 0, none⟩), .slice (some ⟨k, 0, none⟩) ks.length c] w fun e w' => e = .returned (.bool ((List.range L.length).any fun (i : Nat) => ks.any fun y => rC (pkAt L (i : Int)) == y)) ∧ Below w.heap.size w w' := by
  have hB0 : Below w.heap.size w ((w.alloc (.cells #[.pointer (some ⟨b, 0, none⟩)] 44)).alloc (.cells #[.slice (some ⟨k, 0, none⟩) ks.length c] 132)) := ((Below.refl _ w).alloc (Nat.le_refl _) _).alloc (by simp) _
  have e1 : ((w.alloc (.cells #[.pointer (some ⟨b, 0, none⟩)] 44)).alloc (.cells #[.slice (some ⟨k, 0, none⟩) ks.length c] 132)).heap[w.heap.size]? = some (.cells #[.pointer (some ⟨b, 0, none⟩)] 44 (0, 0)) :=
    (((Below.refl (w.alloc (.cells #[.pointer (some ⟨b, 0, none⟩)] 44)).heap.size _).alloc (Nat.le_refl _) _).block w.heap.size (by simp)).trans (Go.heap_alloc_new w _)
  have e2 : ((w.alloc (.cells #[.pointer (some ⟨b, 0, none⟩)] 44)).alloc (.cells #[.slice (some ⟨k, 0, none⟩) ks.length c] 132)).heap[w.heap.size + 1]? = some (.cells #[.slice (some ⟨k, 0, none⟩) ks.length c] 132 (0, 0)) := by
    have h := Go.heap_alloc_new (w.alloc (.cells #[.pointer (some ⟨b, 0, none⟩)] 44)) (.cells #[.slice (some ⟨k, 0, none⟩) ks.length c] 132)
    rwa [World.size_alloc] at h
  have eg : ∀ args w, (callFunc 93 args).run Tryz.prog w = .ok (.enter 93 args) w := enters_of Tryz.func93 (by kernel_rfl) rfl
  have hs := somewhere_any (hL.keep hB0) 93 #[.pointer (some ⟨w.heap.size, 0, none⟩), .pointer (some ⟨w.heap.size + 1, 0, none⟩)] (fun i => ks.any fun y => rC (pkAt L (i : Int)) == y) eg
    (fun W hW i hi => hasKindF_any ((hL.keep hB0).keep hW) i k c w.heap.size (w.heap.size + 1) ks ((hk.keep hB0).keep hW)
      (by rw [cell_of_row _ _ _ _ 44 (0, 0) ((hW.block _ (lt_heap e1)).trans e1)]; rfl)
      (by rw [cell_of_row _ _ _ _ 132 (0, 0) ((hW.block _ (lt_heap e2)).trans e2)]; rfl))
  have hmf : ∀ (fn : Fn) (first cap : Array Value) (w : World), (Instr.makeFunc fn first cap).run Tryz.prog w = .ok (.func fn first cap) w := fun _ _ _ _ => rfl
  have HB0 : Hid (Below w.heap.size w ((w.alloc (.cells #[.pointer (some ⟨b, 0, none⟩)] 44)).alloc (.cells #[.slice (some ⟨k, 0, none⟩) ks.length c] 132))) := hB0
  clear hL hk e1 e2 eg hB0
  go_enter Tryz.func58, Tryz.ntmps58
  go_wp2_with (go_at_call 92; refine hs.mono ?_; rintro e w1 ⟨rfl, hb1⟩)
  go_ret
  exact ⟨rfl, Below.andThen HB0.out hb1⟩
theorem hasKind_lit {w : World} {b r : Nat} {L : List Nat} (hL : Lab w b r L) (ks : List Int) (cs : Array Value) (n c : Nat) (hcs : cs = (ks.map (Value.int .u8)).toArray) (hn : n = ks.length) (hl : ks.length ≤ 100) :
    Calls Tryz.prog 58 #[.pointer (some ⟨b, 0, none⟩), .slice (some ⟨w.heap.size, 0, none⟩) n c] (w.alloc (.cells cs 56)) fun e w' => e = .returned (.bool ((List.range L.length).any fun (i : Nat) => ks.any fun y => rC (pkAt L (i : Int)) == y)) ∧ Below w.heap.size w w' := by
  subst hcs hn
  refine (hasKind_any (hL.alloc _) w.heap.size c ks (lits_new w ks 56 hl)).mono ?_
  rintro e w' ⟨rfl, hb⟩
  exact ⟨rfl, Below.newly hb⟩

set_option maxHeartbeats 1000000 in
theorem hasScriptF_any {w : World} {b r : Nat} {L : List Nat} (hL : Lab w b r L) (i : Nat) (k c p1 p2 : Nat) (ks : List Int) (hk : Lits w k ks) (h1 : w.cell? ⟨p1, 0, none⟩ = some (.pointer (some ⟨b, 0, none⟩))) (h2 : w.cell? ⟨p2, 0, none⟩ = some (.slice (some ⟨k, 0, none⟩) ks.length c)) :
    Calls Tryz.prog 163 #[.int .i64 (i : Int), .pointer (some ⟨p1, 0, none⟩), .pointer (some ⟨p2, 0, none⟩)] w fun e w' => e = .returned (.bool (ks.any fun y => rD (pkAt L (i : Int)) == y)) ∧ Below w.heap.size w w' := by
  have his := isScript_any hL (i : Int) k c ks hk
  clear hL hk
  go_enter Tryz.func163, Tryz.ntmps163
  go_wp2_with (go_at_call 141; refine his.mono ?_; rintro e w1 ⟨rfl, hb1⟩)
  go_ret
  exact ⟨rfl, hb1⟩
set_option maxHeartbeats 1000000 in
theorem hasScript_any {w : World} {b r : Nat} {L : List Nat} (hL : Lab w b r L) (k c : Nat) (ks : List Int) (hk : Lits w k ks) :
    Calls Tryz.prog 136 #[.pointer (some ⟨b, 0, none⟩), .slice (some ⟨k, 0, none⟩) ks.length c] w fun e w' => e = .returned (.bool ((List.range L.length).any fun (i : Nat) => ks.any fun y => rD (pkAt L (i : Int)) == y)) ∧ Below w.heap.size w w' := by
  have hB0 : Below w.heap.size w ((w.alloc (.cells #[.pointer (some ⟨b, 0, none⟩)] 44)).alloc (.cells #[.slice (some ⟨k, 0, none⟩) ks.length c] 192)) := ((Below.refl _ w).alloc (Nat.le_refl _) _).alloc (by simp) _
  have e1 : ((w.alloc (.cells #[.pointer (some ⟨b, 0, none⟩)] 44)).alloc (.cells #[.slice (some ⟨k, 0, none⟩) ks.length c] 192)).heap[w.heap.size]? = some (.cells #[.pointer (some ⟨b, 0, none⟩)] 44 (0, 0)) :=
    (((Below.refl (w.alloc (.cells #[.pointer (some ⟨b, 0, none⟩)] 44)).heap.size _).alloc (Nat.le_refl _) _).block w.heap.size (by simp)).trans (Go.heap_alloc_new w _)
  have e2 : ((w.alloc (.cells #[.pointer (some ⟨b, 0, none⟩)] 44)).alloc (.cells #[.slice (some ⟨k, 0, none⟩) ks.length c] 192)).heap[w.heap.size + 1]? = some (.cells #[.slice (some ⟨k, 0, none⟩) ks.length c] 192 (0, 0)) := by
    have h := Go.heap_alloc_new (w.alloc (.cells #[.pointer (some ⟨b, 0, none⟩)] 44)) (.cells #[.slice (some ⟨k, 0, none⟩) ks.length c] 192)
    rwa [World.size_alloc] at h
  have eg : ∀ args w, (callFunc 163 args).run Tryz.prog w = .ok (.enter 163 args) w := enters_of Tryz.func163 (by kernel_rfl) rfl
  have hs := somewhere_any (hL.keep hB0) 163 #[.pointer (some ⟨w.heap.size, 0, none⟩), .pointer (some ⟨w.heap.size + 1, 0, none⟩)] (fun i => ks.any fun y => rD (pkAt L (i : Int)) == y) eg
    (fun W hW i hi => hasScriptF_any ((hL.keep hB0).keep hW) i k c w.heap.size (w.heap.size + 1) ks ((hk.keep hB0).keep hW)
      (by rw [cell_of_row _ _ _ _ 44 (0, 0) ((hW.block _ (lt_heap e1)).trans e1)]; rfl)
      (by rw [cell_of_row _ _ _ _ 192 (0, 0) ((hW.block _ (lt_heap e2)).trans e2)]; rfl))
  have hmf : ∀ (fn : Fn) (first cap : Array Value) (w : World), (Instr.makeFunc fn first cap).run Tryz.prog w = .ok (.func fn first cap) w := fun _ _ _ _ => rfl
  have HB0 : Hid (Below w.heap.size w ((w.alloc (.cells #[.pointer (some ⟨b, 0, none⟩)] 44)).alloc (.cells #[.slice (some ⟨k, 0, none⟩) ks.length c] 192))) := hB0
  clear hL hk e1 e2 eg hB0
  go_enter Tryz.func136, Tryz.ntmps136
  go_wp2_with (go_at_call 92; refine hs.mono ?_; rintro e w1 ⟨rfl, hb1⟩)
  go_ret
  exact ⟨rfl, Below.andThen HB0.out hb1⟩
theorem hasScript_lit {w : World} {b r : Nat} {L : List Nat} (hL : Lab w b r L) (ks : List Int) (cs : Array Value) (n c : Nat) (hcs : cs = (ks.map (Value.int .u8)).toArray) (hn : n = ks.length) (hl : ks.length ≤ 100) :
    Calls Tryz.prog 136 #[.pointer (some ⟨b, 0, none⟩), .slice (some ⟨w.heap.size, 0, none⟩) n c] (w.alloc (.cells cs 58)) fun e w' => e = .returned (.bool ((List.range L.length).any fun (i : Nat) => ks.any fun y => rD (pkAt L (i : Int)) == y)) ∧ Below w.heap.size w w' := by
  subst hcs hn
  refine (hasScript_any (hL.alloc _) w.heap.size c ks (lits_new w ks 58 hl)).mono ?_
  rintro e w' ⟨rfl, hb⟩
  exact ⟨rfl, Below.newly hb⟩

set_option maxHeartbeats 1000000 in
theorem hasSideF_any {w : World} {b r : Nat} {L : List Nat} (hL : Lab w b r L) (i : Nat) (k c p1 p2 : Nat) (ks : List Int) (hk : Lits w k ks) (h1 : w.cell? ⟨p1, 0, none⟩ = some (.pointer (some ⟨b, 0, none⟩))) (h2 : w.cell? ⟨p2, 0, none⟩ = some (.slice (some ⟨k, 0, none⟩) ks.length c)) :
    Calls Tryz.prog 174 #[.int .i64 (i : Int), .pointer (some ⟨p1, 0, none⟩), .pointer (some ⟨p2, 0, none⟩)] w fun e w' => e = .returned (.bool (ks.any fun y => rS (pkAt L (i : Int)) == y)) ∧ Below w.heap.size w w' := by
  have his := isSide_any hL (i : Int) k c ks hk
  clear hL hk
  go_enter Tryz.func174, Tryz.ntmps174
  go_wp2_with (go_at_call 147; refine his.mono ?_; rintro e w1 ⟨rfl, hb1⟩)
  go_ret
  exact ⟨rfl, hb1⟩
set_option maxHeartbeats 1000000 in
theorem hasSide_any {w : World} {b r : Nat} {L : List Nat} (hL : Lab w b r L) (k c : Nat) (ks : List Int) (hk : Lits w k ks) :
    Calls Tryz.prog 150 #[.pointer (some ⟨b, 0, none⟩), .slice (some ⟨k, 0, none⟩) ks.length c] w fun e w' => e = .returned (.bool ((List.range L.length).any fun (i : Nat) => ks.any fun y => rS (pkAt L (i : Int)) == y)) ∧ Below w.heap.size w w' := by
  have hB0 : Below w.heap.size w ((w.alloc (.cells #[.pointer (some ⟨b, 0, none⟩)] 44)).alloc (.cells #[.slice (some ⟨k, 0, none⟩) ks.length c] 198)) := ((Below.refl _ w).alloc (Nat.le_refl _) _).alloc (by simp) _
  have e1 : ((w.alloc (.cells #[.pointer (some ⟨b, 0, none⟩)] 44)).alloc (.cells #[.slice (some ⟨k, 0, none⟩) ks.length c] 198)).heap[w.heap.size]? = some (.cells #[.pointer (some ⟨b, 0, none⟩)] 44 (0, 0)) :=
    (((Below.refl (w.alloc (.cells #[.pointer (some ⟨b, 0, none⟩)] 44)).heap.size _).alloc (Nat.le_refl _) _).block w.heap.size (by simp)).trans (Go.heap_alloc_new w _)
  have e2 : ((w.alloc (.cells #[.pointer (some ⟨b, 0, none⟩)] 44)).alloc (.cells #[.slice (some ⟨k, 0, none⟩) ks.length c] 198)).heap[w.heap.size + 1]? = some (.cells #[.slice (some ⟨k, 0, none⟩) ks.length c] 198 (0, 0)) := by
    have h := Go.heap_alloc_new (w.alloc (.cells #[.pointer (some ⟨b, 0, none⟩)] 44)) (.cells #[.slice (some ⟨k, 0, none⟩) ks.length c] 198)
    rwa [World.size_alloc] at h
  have eg : ∀ args w, (callFunc 174 args).run Tryz.prog w = .ok (.enter 174 args) w := enters_of Tryz.func174 (by kernel_rfl) rfl
  have hs := somewhere_any (hL.keep hB0) 174 #[.pointer (some ⟨w.heap.size, 0, none⟩), .pointer (some ⟨w.heap.size + 1, 0, none⟩)] (fun i => ks.any fun y => rS (pkAt L (i : Int)) == y) eg
    (fun W hW i hi => hasSideF_any ((hL.keep hB0).keep hW) i k c w.heap.size (w.heap.size + 1) ks ((hk.keep hB0).keep hW)
      (by rw [cell_of_row _ _ _ _ 44 (0, 0) ((hW.block _ (lt_heap e1)).trans e1)]; rfl)
      (by rw [cell_of_row _ _ _ _ 198 (0, 0) ((hW.block _ (lt_heap e2)).trans e2)]; rfl))
  have hmf : ∀ (fn : Fn) (first cap : Array Value) (w : World), (Instr.makeFunc fn first cap).run Tryz.prog w = .ok (.func fn first cap) w := fun _ _ _ _ => rfl
  have HB0 : Hid (Below w.heap.size w ((w.alloc (.cells #[.pointer (some ⟨b, 0, none⟩)] 44)).alloc (.cells #[.slice (some ⟨k, 0, none⟩) ks.length c] 198))) := hB0
  clear hL hk e1 e2 eg hB0
  go_enter Tryz.func150, Tryz.ntmps150
  go_wp2_with (go_at_call 92; refine hs.mono ?_; rintro e w1 ⟨rfl, hb1⟩)
  go_ret
  exact ⟨rfl, Below.andThen HB0.out hb1⟩
theorem hasSide_lit {w : World} {b r : Nat} {L : List Nat} (hL : Lab w b r L) (ks : List Int) (cs : Array Value) (n c : Nat) (hcs : cs = (ks.map (Value.int .u8)).toArray) (hn : n = ks.length) (hl : ks.length ≤ 100) :
    Calls Tryz.prog 150 #[.pointer (some ⟨b, 0, none⟩), .slice (some ⟨w.heap.size, 0, none⟩) n c] (w.alloc (.cells cs 57)) fun e w' => e = .returned (.bool ((List.range L.length).any fun (i : Nat) => ks.any fun y => rS (pkAt L (i : Int)) == y)) ∧ Below w.heap.size w w' := by
  subst hcs hn
  refine (hasSide_any (hL.alloc _) w.heap.size c ks (lits_new w ks 57 hl)).mono ?_
  rintro e w' ⟨rfl, hb⟩
  exact ⟨rfl, Below.newly hb⟩
end Go.Proofs.YtkaaldhejpaiiaaGreatDoor

/- Heights: the project's. -/
namespace Go.Proofs.YtkaaldhejpaiiaaGreatDoor
open Go.RowKit

theorem isB_t (n a b : Int) (w : World) (h : a ≤ n ∧ n ≤ b) : Calls Tryz.prog 135 #[.int .i32 n, .int .i32 a, .int .i32 b] w fun e w' => e = .returned (.bool true) ∧ w' = w := by
  obtain ⟨h1, h2⟩ := h
  go_enter Tryz.func135, Tryz.ntmps135
  go_wp2
  go_ret
  exact ⟨rfl, rfl⟩
theorem isB_f (n a b : Int) (w : World) (h : ¬ (a ≤ n ∧ n ≤ b)) : Calls Tryz.prog 135 #[.int .i32 n, .int .i32 a, .int .i32 b] w fun e w' => e = .returned (.bool false) ∧ w' = w := by
  by_cases h1 : a ≤ n
  · have h2 : ¬ n ≤ b := fun h2 => h ⟨h1, h2⟩
    go_enter Tryz.func135, Tryz.ntmps135
    go_wp2
    go_ret
    exact ⟨rfl, rfl⟩
  · go_enter Tryz.func135, Tryz.ntmps135
    go_wp2
    go_ret
    exact ⟨rfl, rfl⟩
set_option maxHeartbeats 4000000 in
theorem heightC_any (n : Nat) (w : World) (hn : n ≤ 1114111) : Calls Tryz.prog 99 #[.int .i32 (n : Int)] w fun e w' => e = .returned (.int .i64 (Lm.height n : Nat)) ∧ w' = w := by
  by_cases h0 : n = 2381
  · have HH : Hid (Lm.height n = 9) := by unfold Hid Lm.height; rw [if_pos h0]
    rw [HH.out]
    go_enter Tryz.func99, Tryz.ntmps99
    go_wp2_with (go_at_call 135; first | (refine (isB_t _ _ _ _ (by omega)).mono ?_; rintro e w' ⟨rfl, hw'⟩; rw [hw']; clear hw') | (refine (isB_f _ _ _ _ (by omega)).mono ?_; rintro e w' ⟨rfl, hw'⟩; rw [hw']; clear hw'))
    go_ret
    exact ⟨rfl, rfl⟩
  by_cases h1 : 1611 ≤ n ∧ n ≤ 1618
  · have HH : Hid (Lm.height n = n - 1611 + 27) := by unfold Hid Lm.height; rw [if_neg h0, if_pos h1]
    rw [HH.out]
    go_enter Tryz.func99, Tryz.ntmps99
    go_wp2_with (go_at_call 135; first | (refine (isB_t _ _ _ _ (by omega)).mono ?_; rintro e w' ⟨rfl, hw'⟩; rw [hw']; clear hw') | (refine (isB_f _ _ _ _ (by omega)).mono ?_; rintro e w' ⟨rfl, hw'⟩; rw [hw']; clear hw'))
    go_ret
    exact ⟨ret_int (by omega), rfl⟩
  by_cases h2 : n = 807
  · have HH : Hid (Lm.height n = 202) := by unfold Hid Lm.height; rw [if_neg h0, if_neg h1, if_pos h2]
    rw [HH.out]
    go_enter Tryz.func99, Tryz.ntmps99
    go_wp2_with (go_at_call 135; first | (refine (isB_t _ _ _ _ (by omega)).mono ?_; rintro e w' ⟨rfl, hw'⟩; rw [hw']; clear hw') | (refine (isB_f _ _ _ _ (by omega)).mono ?_; rintro e w' ⟨rfl, hw'⟩; rw [hw']; clear hw'))
    go_ret
    exact ⟨rfl, rfl⟩
  by_cases h3 : n = 808
  · have HH : Hid (Lm.height n = 202) := by unfold Hid Lm.height; rw [if_neg h0, if_neg h1, if_neg h2, if_pos h3]
    rw [HH.out]
    go_enter Tryz.func99, Tryz.ntmps99
    go_wp2_with (go_at_call 135; first | (refine (isB_t _ _ _ _ (by omega)).mono ?_; rintro e w' ⟨rfl, hw'⟩; rw [hw']; clear hw') | (refine (isB_f _ _ _ _ (by omega)).mono ?_; rintro e w' ⟨rfl, hw'⟩; rw [hw']; clear hw'))
    go_ret
    exact ⟨rfl, rfl⟩
  by_cases h4 : 790 ≤ n ∧ n ≤ 793
  · have HH : Hid (Lm.height n = 220) := by unfold Hid Lm.height; rw [if_neg h0, if_neg h1, if_neg h2, if_neg h3, if_pos h4]
    rw [HH.out]
    go_enter Tryz.func99, Tryz.ntmps99
    go_wp2_with (go_at_call 135; first | (refine (isB_t _ _ _ _ (by omega)).mono ?_; rintro e w' ⟨rfl, hw'⟩; rw [hw']; clear hw') | (refine (isB_f _ _ _ _ (by omega)).mono ?_; rintro e w' ⟨rfl, hw'⟩; rw [hw']; clear hw'))
    go_ret
    exact ⟨rfl, rfl⟩
  by_cases h5 : 796 ≤ n ∧ n ≤ 800
  · have HH : Hid (Lm.height n = 220) := by unfold Hid Lm.height; rw [if_neg h0, if_neg h1, if_neg h2, if_neg h3, if_neg h4, if_pos h5]
    rw [HH.out]
    go_enter Tryz.func99, Tryz.ntmps99
    go_wp2_with (go_at_call 135; first | (refine (isB_t _ _ _ _ (by omega)).mono ?_; rintro e w' ⟨rfl, hw'⟩; rw [hw']; clear hw') | (refine (isB_f _ _ _ _ (by omega)).mono ?_; rintro e w' ⟨rfl, hw'⟩; rw [hw']; clear hw'))
    go_ret
    exact ⟨rfl, rfl⟩
  by_cases h6 : 803 ≤ n ∧ n ≤ 806
  · have HH : Hid (Lm.height n = 220) := by unfold Hid Lm.height; rw [if_neg h0, if_neg h1, if_neg h2, if_neg h3, if_neg h4, if_neg h5, if_pos h6]
    rw [HH.out]
    go_enter Tryz.func99, Tryz.ntmps99
    go_wp2_with (go_at_call 135; first | (refine (isB_t _ _ _ _ (by omega)).mono ?_; rintro e w' ⟨rfl, hw'⟩; rw [hw']; clear hw') | (refine (isB_f _ _ _ _ (by omega)).mono ?_; rintro e w' ⟨rfl, hw'⟩; rw [hw']; clear hw'))
    go_ret
    exact ⟨rfl, rfl⟩
  by_cases h7 : 809 ≤ n ∧ n ≤ 819
  · have HH : Hid (Lm.height n = 220) := by unfold Hid Lm.height; rw [if_neg h0, if_neg h1, if_neg h2, if_neg h3, if_neg h4, if_neg h5, if_neg h6, if_pos h7]
    rw [HH.out]
    go_enter Tryz.func99, Tryz.ntmps99
    go_wp2_with (go_at_call 135; first | (refine (isB_t _ _ _ _ (by omega)).mono ?_; rintro e w' ⟨rfl, hw'⟩; rw [hw']; clear hw') | (refine (isB_f _ _ _ _ (by omega)).mono ?_; rintro e w' ⟨rfl, hw'⟩; rw [hw']; clear hw'))
    go_ret
    exact ⟨rfl, rfl⟩
  have HH : Hid (Lm.height n = 230) := by unfold Hid Lm.height; rw [if_neg h0, if_neg h1, if_neg h2, if_neg h3, if_neg h4, if_neg h5, if_neg h6, if_neg h7]
  rw [HH.out]
  go_enter Tryz.func99, Tryz.ntmps99
  go_wp2_with (go_at_call 135; first | (refine (isB_t _ _ _ _ (by omega)).mono ?_; rintro e w' ⟨rfl, hw'⟩; rw [hw']; clear hw') | (refine (isB_f _ _ _ _ (by omega)).mono ?_; rintro e w' ⟨rfl, hw'⟩; rw [hw']; clear hw'))
  go_ret
  exact ⟨rfl, rfl⟩
end Go.Proofs.YtkaaldhejpaiiaaGreatDoor

/- Text.Any; pastMarks, isBetweenJoined. -/
namespace Go.Proofs.YtkaaldhejpaiiaaGreatDoor
open Go.RowKit Go.Shelf Go.Lib

def renAny : Go.Shelf.Ren := ⟨fun | 6 => 188 | 8 => 164 | n => n, fun | 22 => 48 | 23 => 21 | 25 => 170 | n => n, fun n => n⟩
theorem laysAny : SlLaysH.n8 Tryz.prog renAny := {
  mixed := by kernel_rfl
  f6 := ⟨Tryz.f188.name, by decide, Tryz.func188.trans (congrArg some (by kernel_rfl))⟩
  f8 := ⟨Tryz.f164.name, by decide, Tryz.func164.trans (congrArg some (by kernel_rfl))⟩
  t0 := Tryz.underlying0
  a0 := Tryz.isAgg0
  z0 := Tryz.sizeOf0
  v0 := Tryz.zeroValue0
  t3 := Tryz.underlying3
  a3 := Tryz.isAgg3
  z3 := Tryz.sizeOf3
  v3 := Tryz.zeroValue3
  t4 := Tryz.underlying4
  a4 := Tryz.isAgg4
  z4 := Tryz.sizeOf4
  v4 := Tryz.zeroValue4
  t22 := Tryz.underlying48
  a22 := Tryz.isAgg48
  z22 := Tryz.sizeOf48
  v22 := Tryz.zeroValue48
  t25 := Tryz.underlying170
  a25 := Tryz.isAgg170
  z25 := Tryz.sizeOf170
  v25 := Tryz.zeroValue170
  a23 := Tryz.isAgg21
  z23 := Tryz.sizeOf21 }
/-- Numbers from lo to hi. -/
def inRange (lo hi : Int) (x : Int) : Bool := decide (lo ≤ x ∧ x ≤ hi)
theorem isRange_any (g : Nat) (lo hi : Int) (hg : (g = 138 ∧ lo = 1632 ∧ hi = 1641) ∨ (g = 139 ∧ lo = 1776 ∧ hi = 1785)) (x : Int) (w : World) :
    Calls Tryz.prog g #[.int .i32 x] w fun e w' => e = .returned (.bool (inRange lo hi x)) ∧ w' = w := by
  have h : Calls Tryz.prog 135 #[.int .i32 x, .int .i32 lo, .int .i32 hi] w fun e w' => e = .returned (.bool (inRange lo hi x)) ∧ w' = w := by
    unfold inRange
    by_cases h : lo ≤ x ∧ x ≤ hi
    · rw [decide_eq_true h]; exact isB_t x lo hi w h
    · rw [decide_eq_false h]; exact isB_f x lo hi w h
  generalize inRange lo hi x = v at *
  rcases hg with ⟨rfl, rfl, rfl⟩ | ⟨rfl, rfl, rfl⟩
  · go_enter Tryz.func138, Tryz.ntmps138
    go_wp2_with (go_at_call 135; refine h.mono ?_; rintro e w' ⟨rfl, hw'⟩; rw [hw']; clear hw')
    go_ret
    exact ⟨rfl, rfl⟩
  · go_enter Tryz.func139, Tryz.ntmps139
    go_wp2_with (go_at_call 135; refine h.mono ?_; rintro e w' ⟨rfl, hw'⟩; rw [hw']; clear hw')
    go_ret
    exact ⟨rfl, rfl⟩
def anyIn (lo hi : Int) (L : List Nat) : Bool := L.any fun x => inRange lo hi (x : Int)
set_option maxHeartbeats 1000000 in
theorem any_any {w : World} {b r : Nat} {L : List Nat} (hL : Lab w b r L) (g : Nat) (lo hi : Int) (hg : (g = 138 ∧ lo = 1632 ∧ hi = 1641) ∨ (g = 139 ∧ lo = 1776 ∧ hi = 1785)) :
    Calls Tryz.prog 137 #[.pointer (some ⟨b, 0, none⟩), .func (.func g) #[] #[]] w fun e w' => e = .returned (.bool (anyIn lo hi L)) ∧ ∃ q, w' = w.drewN q := by
  obtain ⟨c, hc⟩ := hL.cell
  have eg : ∀ args w, (callFunc g args).run Tryz.prog w = .ok (.enter g args) w := by
    rcases hg with ⟨rfl, _⟩ | ⟨rfl, _⟩
    · exact enters_of Tryz.func138 (by kernel_rfl) rfl
    · exact enters_of Tryz.func139 (by kernel_rfl) rfl
  have h := AnyE.slices_ContainsFunc laysAny (Value.int .i32) (inRange lo hi) g #[] eg r 0 L.length c (L.map fun (x : Nat) => (x : Int)) w
    (fun W x hW => (isRange_any g lo hi hg x W).mono fun _ _ ⟨he, hw⟩ => ⟨he, 0, hw⟩) (by simp) hL.len (fun j hj => by
      have hj' : j < L.length := by simpa using hj
      rw [Nat.zero_add, hL.sign j hj']
      simp [rv, hj'])
  have e : ((L.map fun (x : Nat) => (x : Int)).take L.length).any (inRange lo hi) = anyIn lo hi L := by
    rw [List.take_of_length_le (by simp), List.any_map]
    rfl
  rw [e] at h
  have e164 : renAny.f 8 = 164 := rfl
  rw [e164] at h
  generalize anyIn lo hi L = v at *
  clear hL eg e164 e
  go_enter Tryz.func137, Tryz.ntmps137
  go_wp2_with (go_at_call 164; refine h.mono ?_; rintro e w' ⟨rfl, q, hw'⟩; rw [hw']; clear hw')
  go_ret
  exact ⟨rfl, q, rfl⟩

/-- The next place ahead, and behind, whose sign is not of joining T. -/
def backN (L : List Nat) : Nat → Int
  | 0 => -1
  | k + 1 => if rE (pkAt L (k : Int)) = 3 then backN L k else (k : Int)
def fwdN (L : List Nat) : Nat → Nat → Nat
  | 0, p => p
  | f + 1, p => if rE (pkAt L (p : Int)) = 3 then fwdN L f (p + 1) else p
theorem one_eq (x : Int) : ([3].any fun y => x == y) = decide (x = 3) := by simp only [List.any_cons, List.any_nil, Bool.or_false]; rfl
theorem rE_out (L : List Nat) (p : Int) (h : ¬ (0 ≤ p ∧ p < (L.length : Int))) : rE (pkAt L p) = 0 := by
  unfold pkAt
  rw [if_neg h]
  rfl
set_option maxHeartbeats 1000000 in
theorem pastBack_any {w : World} {b r : Nat} {L : List Nat} (hL : Lab w b r L) (i : Nat) (hi : i < L.length) :
    Calls Tryz.prog 167 #[.pointer (some ⟨b, 0, none⟩), .int .i64 (i : Int), .int .i64 (-1)] w fun e w' => e = .returned (.int .i64 (backN L i)) ∧ Below w.heap.size w w' := by
  have hlen := hL.len
  have HL : Hid (Lab w b r L) := hL
  clear hL
  go_enter Tryz.func167, Tryz.ntmps167
  go_wp2
  go_loopw [1] (fun pv wr => ∃ k : Nat, k ≤ i ∧ pv = .int .i64 ((k : Int) - 1) ∧ backN L i = backN L k ∧ Below w.heap.size w wr) (fun pv _ => (intOf pv + 1).toNat)
  case atStart => exact ⟨i, by omega, by go_num, rfl, Below.refl _ _⟩
  case round =>
    obtain ⟨k, hk, rfl, hbk, hbw⟩ := hrel
    have HB : Hid (backN L i = backN L k) := hbk
    have his := isJoining_lit (HL.out.keep hbw) ((k : Int) - 1) [3] #[.int .u8 3] 1 1 rfl rfl (by decide)
    rw [one_eq] at his
    clear hbk
    by_cases h3 : rE (pkAt L ((k : Int) - 1)) = 3
    · rw [decide_eq_true h3] at his
      have hk1 : 1 ≤ k := by
        rcases Nat.eq_zero_or_pos k with rfl | h
        · rw [rE_out L _ (by omega)] at h3; omega
        · exact h
      go_wp2_with (go_at_call 166; refine his.mono ?_; rintro e w1 ⟨rfl, hb1⟩)
      go_roundw
      case rel =>
        obtain ⟨m, rfl⟩ : ∃ m, k = m + 1 := ⟨k - 1, by omega⟩
        refine ⟨m, by omega, by go_num, ?_, Below.andThen hbw hb1⟩
        rw [HB.out, backN, if_pos (by rw [show ((m : Nat) : Int) = ((m + 1 : Nat) : Int) - 1 by omega]; exact h3)]
      case measure => simp [intOf]; omega
    · rw [decide_eq_false h3] at his
      go_wp2_with (go_at_call 166; refine his.mono ?_; rintro e w1 ⟨rfl, hb1⟩)
      go_ret
      refine ⟨ret_int ?_, Below.andThen hbw hb1⟩
      rw [HB.out]
      rcases Nat.eq_zero_or_pos k with rfl | h
      · rfl
      · obtain ⟨m, rfl⟩ : ∃ m, k = m + 1 := ⟨k - 1, by omega⟩
        rw [backN, if_neg (by rw [show ((m : Nat) : Int) = ((m + 1 : Nat) : Int) - 1 by omega]; exact h3)]
        omega
set_option maxHeartbeats 1000000 in
theorem pastFwd_any {w : World} {b r : Nat} {L : List Nat} (hL : Lab w b r L) (i : Nat) (hi : i < L.length) :
    Calls Tryz.prog 167 #[.pointer (some ⟨b, 0, none⟩), .int .i64 (i : Int), .int .i64 1] w fun e w' => e = .returned (.int .i64 (fwdN L (L.length - (i + 1)) (i + 1) : Nat)) ∧ Below w.heap.size w w' := by
  have hlen := hL.len
  have HL : Hid (Lab w b r L) := hL
  obtain ⟨n, hn⟩ : ∃ n, L.length = n := ⟨_, rfl⟩
  rw [hn] at hi hlen ⊢
  clear hL
  go_enter Tryz.func167, Tryz.ntmps167
  go_wp2
  go_loopw [1] (fun pv wr => ∃ k : Nat, k ≤ n ∧ pv = .int .i64 (k : Int) ∧ fwdN L (n - (i + 1)) (i + 1) = fwdN L (n - k) k ∧ Below w.heap.size w wr) (fun pv _ => n - (intOf pv).toNat)
  case atStart => exact ⟨i + 1, by omega, by go_num, rfl, Below.refl _ _⟩
  case round =>
    obtain ⟨k, hk, rfl, hbk, hbw⟩ := hrel
    have HB : Hid (fwdN L (n - (i + 1)) (i + 1) = fwdN L (n - k) k) := hbk
    have his := isJoining_lit (HL.out.keep hbw) (k : Int) [3] #[.int .u8 3] 1 1 rfl rfl (by decide)
    rw [one_eq] at his
    clear hbk
    by_cases h3 : rE (pkAt L (k : Int)) = 3
    · rw [decide_eq_true h3] at his
      have hk1 : k < n := by
        rcases Nat.lt_or_ge k n with h | h
        · exact h
        · rw [rE_out L _ (by omega)] at h3; omega
      go_wp2_with (go_at_call 166; refine his.mono ?_; rintro e w1 ⟨rfl, hb1⟩)
      go_roundw
      case rel =>
        refine ⟨k + 1, by omega, by go_num, ?_, Below.andThen hbw hb1⟩
        rw [HB.out, show n - k = (n - (k + 1)) + 1 by omega, fwdN, if_pos h3]
      case measure => simp [intOf]; omega
    · rw [decide_eq_false h3] at his
      go_wp2_with (go_at_call 166; refine his.mono ?_; rintro e w1 ⟨rfl, hb1⟩)
      go_ret
      refine ⟨ret_int ?_, Below.andThen hbw hb1⟩
      rw [HB.out]
      rcases Nat.lt_or_ge k n with h | h
      · rw [show n - k = (n - (k + 1)) + 1 by omega, fwdN, if_neg h3]
      · rw [show n - k = 0 by omega]
        rfl
def joinedM (L : List Nat) (i : Nat) : Bool := decide (rE (pkAt L (backN L i)) = 2) && (decide (rE (pkAt L (fwdN L (L.length - (i + 1)) (i + 1) : Nat)) = 2) || decide (rE (pkAt L (fwdN L (L.length - (i + 1)) (i + 1) : Nat)) = 1))
set_option maxHeartbeats 1000000 in
theorem isBetweenJoined_any {w : World} {b r : Nat} {L : List Nat} (hL : Lab w b r L) (i : Nat) (hi : i < L.length) :
    Calls Tryz.prog 142 #[.pointer (some ⟨b, 0, none⟩), .int .i64 (i : Int)] w fun e w' => e = .returned (.bool (joinedM L i)) ∧ Below w.heap.size w w' := by
  have hp1 := pastBack_any hL i hi
  have HL : Hid (Lab w b r L) := hL
  have hp2 := fun W (hW : Lab W b r L) => pastFwd_any hW i hi
  have hj1 := fun W (hW : Lab W b r L) => isJoining_lit hW (backN L i) [2] #[.int .u8 2] 1 1 rfl rfl (by decide)
  have hj2 := fun W (hW : Lab W b r L) => isJoining_lit hW (fwdN L (L.length - (i + 1)) (i + 1) : Nat) [2, 1] #[.int .u8 2, .int .u8 1] 2 2 rfl rfl (by decide)
  unfold joinedM
  generalize backN L i = p1 at *
  generalize fwdN L (L.length - (i + 1)) (i + 1) = p2 at *
  have f1 : ([2].any fun y => rE (pkAt L p1) == y) = decide (rE (pkAt L p1) = 2) := by simp only [List.any_cons, List.any_nil, Bool.or_false]; rfl
  have f2 : ([2, 1].any fun y => rE (pkAt L (p2 : Int)) == y) = (decide (rE (pkAt L (p2 : Int)) = 2) || decide (rE (pkAt L (p2 : Int)) = 1)) := by
    simp only [List.any_cons, List.any_nil, Bool.or_false]
    rfl
  simp only [f1] at hj1
  simp only [f2] at hj2
  clear hL f1 f2
  generalize (decide (rE (pkAt L (p2 : Int)) = 2) || decide (rE (pkAt L (p2 : Int)) = 1)) = v2 at *
  cases hv : decide (rE (pkAt L p1) = 2) with
  | true =>
    simp only [hv] at hj1
    go_enter Tryz.func142, Tryz.ntmps142
    go_wp2_with fail
    refine hp1.mono ?_
    rintro e w1 ⟨rfl, hb1⟩
    have hj1' := hj1 w1 (HL.out.keep hb1)
    clear hj1 hp1
    go_wp2_with fail
    refine hj1'.mono ?_
    rintro e w2 ⟨rfl, hb2⟩
    have hp2' := hp2 w2 ((HL.out.keep hb1).keep hb2)
    clear hp2 hj1'
    go_wp2_with fail
    refine hp2'.mono ?_
    rintro e w3 ⟨rfl, hb3⟩
    have hj2' := hj2 w3 (((HL.out.keep hb1).keep hb2).keep hb3)
    clear hj2 hp2'
    go_wp2_with fail
    refine hj2'.mono ?_
    rintro e w4 ⟨rfl, hb4⟩
    clear hj2'
    go_wp2_with fail
    go_ret
    exact ⟨by simp, Below.andThen (Below.andThen (Below.andThen hb1 hb2) hb3) hb4⟩
  | false =>
    simp only [hv] at hj1
    go_enter Tryz.func142, Tryz.ntmps142
    go_wp2_with fail
    refine hp1.mono ?_
    rintro e w1 ⟨rfl, hb1⟩
    have hj1' := hj1 w1 (HL.out.keep hb1)
    clear hj1 hp1 hp2 hj2
    go_wp2_with fail
    refine hj1'.mono ?_
    rintro e w2 ⟨rfl, hb2⟩
    clear hj1'
    go_wp2_with fail
    go_ret
    exact ⟨by simp, Below.andThen hb1 hb2⟩
end Go.Proofs.YtkaaldhejpaiiaaGreatDoor

