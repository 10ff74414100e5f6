/- Text.Any; pastMarks, isBetweenJoined. -/
import Derived.Test.YtkaaldhejpaiiaaGreatDoorLe
import Derived.Shelf.SlicesE.IndexFunc
namespace Go.Proofs.YtkaaldhejpaiiaaGreatDoor
open Go.RowKit Go.Shelf Go.Lib

def renAny : Go.Shelf.Ren := ⟨fun | 6 => 188 | 8 => 164 | n => n, fun | 22 => 48 | 23 => 21 | 25 => 170 | n => n, fun n => n⟩
theorem laysAny : SlLaysH.n8 Tryz.prog renAny := {
  mixed := by kernel_rfl
  f6 := ⟨Tryz.f188.name, by decide, Tryz.func188.trans (congrArg some (by kernel_rfl))⟩
  f8 := ⟨Tryz.f164.name, by decide, Tryz.func164.trans (congrArg some (by kernel_rfl))⟩
  t0 := Tryz.underlying0
  a0 := Tryz.isAgg0
  z0 := Tryz.sizeOf0
  v0 := Tryz.zeroValue0
  t3 := Tryz.underlying3
  a3 := Tryz.isAgg3
  z3 := Tryz.sizeOf3
  v3 := Tryz.zeroValue3
  t4 := Tryz.underlying4
  a4 := Tryz.isAgg4
  z4 := Tryz.sizeOf4
  v4 := Tryz.zeroValue4
  t22 := Tryz.underlying48
  a22 := Tryz.isAgg48
  z22 := Tryz.sizeOf48
  v22 := Tryz.zeroValue48
  t25 := Tryz.underlying170
  a25 := Tryz.isAgg170
  z25 := Tryz.sizeOf170
  v25 := Tryz.zeroValue170
  a23 := Tryz.isAgg21
  z23 := Tryz.sizeOf21 }
/-- Numbers from lo to hi. -/
def inRange (lo hi : Int) (x : Int) : Bool := decide (lo ≤ x ∧ x ≤ hi)
theorem isRange_any (g : Nat) (lo hi : Int) (hg : (g = 138 ∧ lo = 1632 ∧ hi = 1641) ∨ (g = 139 ∧ lo = 1776 ∧ hi = 1785)) (x : Int) (w : World) :
    Calls Tryz.prog g #[.int .i32 x] w fun e w' => e = .returned (.bool (inRange lo hi x)) ∧ w' = w := by
  have h : Calls Tryz.prog 135 #[.int .i32 x, .int .i32 lo, .int .i32 hi] w fun e w' => e = .returned (.bool (inRange lo hi x)) ∧ w' = w := by
    unfold inRange
    by_cases h : lo ≤ x ∧ x ≤ hi
    · rw [decide_eq_true h]; exact isB_t x lo hi w h
    · rw [decide_eq_false h]; exact isB_f x lo hi w h
  generalize inRange lo hi x = v at *
  rcases hg with ⟨rfl, rfl, rfl⟩ | ⟨rfl, rfl, rfl⟩
  · go_enter Tryz.func138, Tryz.ntmps138
    go_wp2_with (go_at_call 135; refine h.mono ?_; rintro e w' ⟨rfl, hw'⟩; rw [hw']; clear hw')
    go_ret
    exact ⟨rfl, rfl⟩
  · go_enter Tryz.func139, Tryz.ntmps139
    go_wp2_with (go_at_call 135; refine h.mono ?_; rintro e w' ⟨rfl, hw'⟩; rw [hw']; clear hw')
    go_ret
    exact ⟨rfl, rfl⟩
def anyIn (lo hi : Int) (L : List Nat) : Bool := L.any fun x => inRange lo hi (x : Int)
set_option maxHeartbeats 1000000 in
theorem any_any {w : World} {b r : Nat} {L : List Nat} (hL : Lab w b r L) (g : Nat) (lo hi : Int) (hg : (g = 138 ∧ lo = 1632 ∧ hi = 1641) ∨ (g = 139 ∧ lo = 1776 ∧ hi = 1785)) :
    Calls Tryz.prog 137 #[.pointer (some ⟨b, 0, none⟩), .func (.func g) #[] #[]] w fun e w' => e = .returned (.bool (anyIn lo hi L)) ∧ ∃ q, w' = w.drewN q := by
  obtain ⟨c, hc⟩ := hL.cell
  have eg : ∀ args w, (callFunc g args).run Tryz.prog w = .ok (.enter g args) w := by
    rcases hg with ⟨rfl, _⟩ | ⟨rfl, _⟩
    · exact enters_of Tryz.func138 (by kernel_rfl) rfl
    · exact enters_of Tryz.func139 (by kernel_rfl) rfl
  have h := AnyE.slices_ContainsFunc laysAny (Value.int .i32) (inRange lo hi) g #[] eg r 0 L.length c (L.map fun (x : Nat) => (x : Int)) w
    (fun W x hW => (isRange_any g lo hi hg x W).mono fun _ _ ⟨he, hw⟩ => ⟨he, 0, hw⟩) (by simp) hL.len (fun j hj => by
      have hj' : j < L.length := by simpa using hj
      rw [Nat.zero_add, hL.sign j hj']
      simp [rv, hj'])
  have e : ((L.map fun (x : Nat) => (x : Int)).take L.length).any (inRange lo hi) = anyIn lo hi L := by
    rw [List.take_of_length_le (by simp), List.any_map]
    rfl
  rw [e] at h
  have e164 : renAny.f 8 = 164 := rfl
  rw [e164] at h
  generalize anyIn lo hi L = v at *
  clear hL eg e164 e
  go_enter Tryz.func137, Tryz.ntmps137
  go_wp2_with (go_at_call 164; refine h.mono ?_; rintro e w' ⟨rfl, q, hw'⟩; rw [hw']; clear hw')
  go_ret
  exact ⟨rfl, q, rfl⟩

/-- The next place ahead, and behind, whose sign is not of joining T. -/
def backN (L : List Nat) : Nat → Int
  | 0 => -1
  | k + 1 => if rE (pkAt L (k : Int)) = 3 then backN L k else (k : Int)
def fwdN (L : List Nat) : Nat → Nat → Nat
  | 0, p => p
  | f + 1, p => if rE (pkAt L (p : Int)) = 3 then fwdN L f (p + 1) else p
theorem one_eq (x : Int) : ([3].any fun y => x == y) = decide (x = 3) := by simp only [List.any_cons, List.any_nil, Bool.or_false]; rfl
theorem rE_out (L : List Nat) (p : Int) (h : ¬ (0 ≤ p ∧ p < (L.length : Int))) : rE (pkAt L p) = 0 := by
  unfold pkAt
  rw [if_neg h]
  rfl
set_option maxHeartbeats 1000000 in
theorem pastBack_any {w : World} {b r : Nat} {L : List Nat} (hL : Lab w b r L) (i : Nat) (hi : i < L.length) :
    Calls Tryz.prog 167 #[.pointer (some ⟨b, 0, none⟩), .int .i64 (i : Int), .int .i64 (-1)] w fun e w' => e = .returned (.int .i64 (backN L i)) ∧ Below w.heap.size w w' := by
  have hlen := hL.len
  have HL : Hid (Lab w b r L) := hL
  clear hL
  go_enter Tryz.func167, Tryz.ntmps167
  go_wp2
  go_loopw [1] (fun pv wr => ∃ k : Nat, k ≤ i ∧ pv = .int .i64 ((k : Int) - 1) ∧ backN L i = backN L k ∧ Below w.heap.size w wr) (fun pv _ => (intOf pv + 1).toNat)
  case atStart => exact ⟨i, by omega, by go_num, rfl, Below.refl _ _⟩
  case round =>
    obtain ⟨k, hk, rfl, hbk, hbw⟩ := hrel
    have HB : Hid (backN L i = backN L k) := hbk
    have his := isJoining_lit (HL.out.keep hbw) ((k : Int) - 1) [3] #[.int .u8 3] 1 1 rfl rfl (by decide)
    rw [one_eq] at his
    clear hbk
    by_cases h3 : rE (pkAt L ((k : Int) - 1)) = 3
    · rw [decide_eq_true h3] at his
      have hk1 : 1 ≤ k := by
        rcases Nat.eq_zero_or_pos k with rfl | h
        · rw [rE_out L _ (by omega)] at h3; omega
        · exact h
      go_wp2_with (go_at_call 166; refine his.mono ?_; rintro e w1 ⟨rfl, hb1⟩)
      go_roundw
      case rel =>
        obtain ⟨m, rfl⟩ : ∃ m, k = m + 1 := ⟨k - 1, by omega⟩
        refine ⟨m, by omega, by go_num, ?_, Below.andThen hbw hb1⟩
        rw [HB.out, backN, if_pos (by rw [show ((m : Nat) : Int) = ((m + 1 : Nat) : Int) - 1 by omega]; exact h3)]
      case measure => simp [intOf]; omega
    · rw [decide_eq_false h3] at his
      go_wp2_with (go_at_call 166; refine his.mono ?_; rintro e w1 ⟨rfl, hb1⟩)
      go_ret
      refine ⟨ret_int ?_, Below.andThen hbw hb1⟩
      rw [HB.out]
      rcases Nat.eq_zero_or_pos k with rfl | h
      · rfl
      · obtain ⟨m, rfl⟩ : ∃ m, k = m + 1 := ⟨k - 1, by omega⟩
        rw [backN, if_neg (by rw [show ((m : Nat) : Int) = ((m + 1 : Nat) : Int) - 1 by omega]; exact h3)]
        omega
set_option maxHeartbeats 1000000 in
theorem pastFwd_any {w : World} {b r : Nat} {L : List Nat} (hL : Lab w b r L) (i : Nat) (hi : i < L.length) :
    Calls Tryz.prog 167 #[.pointer (some ⟨b, 0, none⟩), .int .i64 (i : Int), .int .i64 1] w fun e w' => e = .returned (.int .i64 (fwdN L (L.length - (i + 1)) (i + 1) : Nat)) ∧ Below w.heap.size w w' := by
  have hlen := hL.len
  have HL : Hid (Lab w b r L) := hL
  obtain ⟨n, hn⟩ : ∃ n, L.length = n := ⟨_, rfl⟩
  rw [hn] at hi hlen ⊢
  clear hL
  go_enter Tryz.func167, Tryz.ntmps167
  go_wp2
  go_loopw [1] (fun pv wr => ∃ k : Nat, k ≤ n ∧ pv = .int .i64 (k : Int) ∧ fwdN L (n - (i + 1)) (i + 1) = fwdN L (n - k) k ∧ Below w.heap.size w wr) (fun pv _ => n - (intOf pv).toNat)
  case atStart => exact ⟨i + 1, by omega, by go_num, rfl, Below.refl _ _⟩
  case round =>
    obtain ⟨k, hk, rfl, hbk, hbw⟩ := hrel
    have HB : Hid (fwdN L (n - (i + 1)) (i + 1) = fwdN L (n - k) k) := hbk
    have his := isJoining_lit (HL.out.keep hbw) (k : Int) [3] #[.int .u8 3] 1 1 rfl rfl (by decide)
    rw [one_eq] at his
    clear hbk
    by_cases h3 : rE (pkAt L (k : Int)) = 3
    · rw [decide_eq_true h3] at his
      have hk1 : k < n := by
        rcases Nat.lt_or_ge k n with h | h
        · exact h
        · rw [rE_out L _ (by omega)] at h3; omega
      go_wp2_with (go_at_call 166; refine his.mono ?_; rintro e w1 ⟨rfl, hb1⟩)
      go_roundw
      case rel =>
        refine ⟨k + 1, by omega, by go_num, ?_, Below.andThen hbw hb1⟩
        rw [HB.out, show n - k = (n - (k + 1)) + 1 by omega, fwdN, if_pos h3]
      case measure => simp [intOf]; omega
    · rw [decide_eq_false h3] at his
      go_wp2_with (go_at_call 166; refine his.mono ?_; rintro e w1 ⟨rfl, hb1⟩)
      go_ret
      refine ⟨ret_int ?_, Below.andThen hbw hb1⟩
      rw [HB.out]
      rcases Nat.lt_or_ge k n with h | h
      · rw [show n - k = (n - (k + 1)) + 1 by omega, fwdN, if_neg h3]
      · rw [show n - k = 0 by omega]
        rfl
def joinedM (L : List Nat) (i : Nat) : Bool := decide (rE (pkAt L (backN L i)) = 2) && (decide (rE (pkAt L (fwdN L (L.length - (i + 1)) (i + 1) : Nat)) = 2) || decide (rE (pkAt L (fwdN L (L.length - (i + 1)) (i + 1) : Nat)) = 1))
set_option maxHeartbeats 1000000 in
theorem isBetweenJoined_any {w : World} {b r : Nat} {L : List Nat} (hL : Lab w b r L) (i : Nat) (hi : i < L.length) :
    Calls Tryz.prog 142 #[.pointer (some ⟨b, 0, none⟩), .int .i64 (i : Int)] w fun e w' => e = .returned (.bool (joinedM L i)) ∧ Below w.heap.size w w' := by
  have hp1 := pastBack_any hL i hi
  have HL : Hid (Lab w b r L) := hL
  have hp2 := fun W (hW : Lab W b r L) => pastFwd_any hW i hi
  have hj1 := fun W (hW : Lab W b r L) => isJoining_lit hW (backN L i) [2] #[.int .u8 2] 1 1 rfl rfl (by decide)
  have hj2 := fun W (hW : Lab W b r L) => isJoining_lit hW (fwdN L (L.length - (i + 1)) (i + 1) : Nat) [2, 1] #[.int .u8 2, .int .u8 1] 2 2 rfl rfl (by decide)
  unfold joinedM
  generalize backN L i = p1 at *
  generalize fwdN L (L.length - (i + 1)) (i + 1) = p2 at *
  have f1 : ([2].any fun y => rE (pkAt L p1) == y) = decide (rE (pkAt L p1) = 2) := by simp only [List.any_cons, List.any_nil, Bool.or_false]; rfl
  have f2 : ([2, 1].any fun y => rE (pkAt L (p2 : Int)) == y) = (decide (rE (pkAt L (p2 : Int)) = 2) || decide (rE (pkAt L (p2 : Int)) = 1)) := by
    simp only [List.any_cons, List.any_nil, Bool.or_false]
    rfl
  simp only [f1] at hj1
  simp only [f2] at hj2
  clear hL f1 f2
  generalize (decide (rE (pkAt L (p2 : Int)) = 2) || decide (rE (pkAt L (p2 : Int)) = 1)) = v2 at *
  cases hv : decide (rE (pkAt L p1) = 2) with
  | true =>
    simp only [hv] at hj1
    go_enter Tryz.func142, Tryz.ntmps142
    go_wp2_with fail
    refine hp1.mono ?_
    rintro e w1 ⟨rfl, hb1⟩
    have hj1' := hj1 w1 (HL.out.keep hb1)
    clear hj1 hp1
    go_wp2_with fail
    refine hj1'.mono ?_
    rintro e w2 ⟨rfl, hb2⟩
    have hp2' := hp2 w2 ((HL.out.keep hb1).keep hb2)
    clear hp2 hj1'
    go_wp2_with fail
    refine hp2'.mono ?_
    rintro e w3 ⟨rfl, hb3⟩
    have hj2' := hj2 w3 (((HL.out.keep hb1).keep hb2).keep hb3)
    clear hj2 hp2'
    go_wp2_with fail
    refine hj2'.mono ?_
    rintro e w4 ⟨rfl, hb4⟩
    clear hj2'
    go_wp2_with fail
    go_ret
    exact ⟨by simp, Below.andThen (Below.andThen (Below.andThen hb1 hb2) hb3) hb4⟩
  | false =>
    simp only [hv] at hj1
    go_enter Tryz.func142, Tryz.ntmps142
    go_wp2_with fail
    refine hp1.mono ?_
    rintro e w1 ⟨rfl, hb1⟩
    have hj1' := hj1 w1 (HL.out.keep hb1)
    clear hj1 hp1 hp2 hj2
    go_wp2_with fail
    refine hj1'.mono ?_
    rintro e w2 ⟨rfl, hb2⟩
    clear hj1'
    go_wp2_with fail
    go_ret
    exact ⟨by simp, Below.andThen hb1 hb2⟩
end Go.Proofs.YtkaaldhejpaiiaaGreatDoor
