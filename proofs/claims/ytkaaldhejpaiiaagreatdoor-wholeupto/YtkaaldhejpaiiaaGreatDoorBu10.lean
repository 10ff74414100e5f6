import Derived.Test.YtkaaldhejpaiiaaGreatDoorBu08
import Derived.Test.YtkaaldhejpaiiaaGreatDoorBu09
import Derived.Shelf.SlicesE.Compact
import Derived.Lib.TrimU
import Derived.Test.YtkaaldhejpaiiaaGreatDoorBu06
import Derived.Test.YtkaaldhejpaiiaaGreatDoorBu07
import Derived.Laws.AppendOwnNone
import Derived.Deep.RegionLaw
/- slices.Compact at runes: the shelf's contract, laid; what becomes of a row by size; the signs of a text in their order. -/
namespace Go.Proofs.YtkaaldhejpaiiaaGreatDoor
open Go.RowKit Go.Sort Go.Shelf Go.Lib

def renC : Go.Shelf.Ren := ⟨fun | 43 => 169 | n => n, fun | 22 => 48 | 23 => 21 | n => n, fun n => n⟩
theorem laysC : SlLaysE.n43 Tryz.prog renC := {
  mixed := by kernel_rfl
  f43 := ⟨Tryz.f169.name, by decide, Tryz.func169.trans (congrArg some (by kernel_rfl))⟩
  t0 := Tryz.underlying0
  a0 := Tryz.isAgg0
  z0 := Tryz.sizeOf0
  v0 := Tryz.zeroValue0
  t3 := Tryz.underlying3
  a3 := Tryz.isAgg3
  z3 := Tryz.sizeOf3
  v3 := Tryz.zeroValue3
  t4 := Tryz.underlying4
  a4 := Tryz.isAgg4
  z4 := Tryz.sizeOf4
  v4 := Tryz.zeroValue4
  t22 := Tryz.underlying48
  a22 := Tryz.isAgg48
  z22 := Tryz.sizeOf48
  v22 := Tryz.zeroValue48
  a23 := Tryz.isAgg21
  z23 := Tryz.sizeOf21 }

theorem comp32 (blk cap : Nat) (d : Array Int) (w : World) (hH : Holds (Value.int .i32) w blk 0 d) (hblk : blk < w.heap.size) (hsz : d.size ≤ 1000000) (hcap : d.size ≤ cap) :
    Calls Tryz.prog 169 #[.slice (some ⟨blk, 0, none⟩) d.size cap] w fun e w' => e = .returned (.slice (some ⟨blk, 0, none⟩) (compactUpTo d d.size).length cap) ∧
      S32 w blk 0 (compactUpTo d d.size ++ List.replicate (d.size - (compactUpTo d d.size).length) 0).toArray w' := by
  refine (AnyE.slices_Compact laysC (Value.int .i32) (fun _ => rfl) (EqlAt.intD _ _ _) (NeqAt.intD _ _ _) 0 Tryz.zeroValue21 blk 0 cap d w hH (by omega) hcap).mono ?_
  rintro e w' ⟨rfl, q, rfl⟩
  have hl : (compactUpTo d d.size).length ≤ d.size := by
    unfold compactUpTo
    rw [List.length_map]
    exact Nat.le_trans (List.length_filter_le _ _) (by simp)
  refine ⟨rfl, ⟨q, #[], (grow_empty _).symm⟩, ?_, by simpa using hblk, hblk⟩
  exact holds_putRow _ _ _ _ d _ (holds_ahead _ _ _ _ _ _ hH) (by simp; omega)

theorem comp_facts (d : Array Int) : ∀ m : Nat, (∀ i j, i ≤ j → j < m → d[i]! ≤ d[j]!) → (compactUpTo d m).Pairwise (· < ·) ∧ ∀ x, x ∈ compactUpTo d m ↔ ∃ j, j < m ∧ d[j]! = x
  | 0, _ => ⟨by simp [compactUpTo], fun x => by simp [compactUpTo]⟩
  | m + 1, hs => by
    obtain ⟨ih1, ih2⟩ := comp_facts d m (fun i j h1 h2 => hs i j h1 (by omega))
    rw [compactUpTo_succ]
    by_cases hk : keeps d m = true
    · rw [if_pos hk]
      constructor
      · rw [List.pairwise_append]
        refine ⟨ih1, by simp, fun x hx y hy => ?_⟩
        obtain rfl : y = d[m]! := by simpa using hy
        obtain ⟨j, hj, rfl⟩ := (ih2 x).1 hx
        have h1 := hs j (m - 1) (by omega) (by omega)
        have h2 := hs (m - 1) m (by omega) (by omega)
        have h3 : d[m]! ≠ d[m - 1]! := by
          simp only [keeps, decide_eq_true_eq] at hk
          rcases hk with h | h
          · omega
          · exact h
        omega
      · intro x
        rw [List.mem_append, ih2]
        constructor
        · rintro (⟨j, hj, rfl⟩ | h)
          · exact ⟨j, by omega, rfl⟩
          · exact ⟨m, by omega, (List.mem_singleton.1 h).symm⟩
        · rintro ⟨j, hj, rfl⟩
          by_cases e : j = m
          · right; simp [e]
          · left; exact ⟨j, by omega, rfl⟩
    · rw [if_neg hk, List.append_nil]
      refine ⟨ih1, fun x => ?_⟩
      rw [ih2]
      have hm : 0 < m ∧ d[m]! = d[m - 1]! := by
        simp only [keeps, decide_eq_true_eq] at hk
        have h1 : ¬ m = 0 := fun h => hk (Or.inl h)
        have h2 : d[m]! = d[m - 1]! := Classical.byContradiction fun h => hk (Or.inr h)
        exact ⟨by omega, h2⟩
      constructor
      · rintro ⟨j, hj, rfl⟩; exact ⟨j, by omega, rfl⟩
      · rintro ⟨j, hj, rfl⟩
        by_cases e : j = m
        · exact ⟨m - 1, by omega, by rw [e, hm.2]⟩
        · exact ⟨j, by omega, rfl⟩

def castA (ms : List Nat) : Array Int := (ms.map (fun (n : Nat) => (n : Int))).toArray
theorem castA_size (ms : List Nat) : (castA ms).size = ms.length := by simp [castA]
theorem castA_get (ms : List Nat) (j : Nat) (h : j < ms.length) : (castA ms)[j]! = ((ms[j] : Nat) : Int) := by
  rw [getElem!_pos _ j (by rw [castA_size]; exact h)]
  simp [castA]
def squash (ms : List Nat) : List Nat := (compactUpTo (castA ms) (castA ms).size).map Int.toNat
theorem squash_cast (ms : List Nat) : (squash ms).map (fun (n : Nat) => (n : Int)) = compactUpTo (castA ms) (castA ms).size := by
  refine cast_back _ fun x hx => ?_
  unfold compactUpTo at hx
  obtain ⟨j, hj, rfl⟩ := List.mem_map.1 hx
  have := List.mem_range.1 (List.mem_filter.1 hj).1
  rw [castA_size] at this
  rw [castA_get ms j this]
  omega
theorem squash_facts {ms : List Nat} (hs : ms.Pairwise (· ≤ ·)) : (squash ms).Pairwise (· < ·) ∧ ∀ x, x ∈ squash ms ↔ x ∈ ms := by
  have h := comp_facts (castA ms) (castA ms).size (fun i j h1 h2 => by
    rw [castA_size] at h2
    rw [castA_get ms i (by omega), castA_get ms j h2]
    rcases Nat.lt_or_ge i j with h | h
    · have := List.pairwise_iff_getElem.1 hs i j (by omega) h2 h
      omega
    · obtain rfl : i = j := by omega
      exact Int.le_refl _)
  rw [← squash_cast] at h
  refine ⟨(List.pairwise_map.1 h.1).imp (fun {a b} hab => by omega), fun x => ?_⟩
  have h2 := h.2 (x : Int)
  rw [List.mem_map] at h2
  constructor
  · intro hx
    obtain ⟨j, hj, e⟩ := h2.1 ⟨x, hx, rfl⟩
    rw [castA_size] at hj
    rw [castA_get ms j hj] at e
    have : ms[j] = x := by omega
    rw [← this]; exact List.getElem_mem hj
  · intro hx
    obtain ⟨j, hj, e⟩ := List.getElem_of_mem hx
    obtain ⟨y, hy, e2⟩ := h2.2 ⟨j, by rw [castA_size]; exact hj, by rw [castA_get ms j hj, e]⟩
    have : y = x := by omega
    rw [← this]; exact hy

theorem squash_len (ms : List Nat) : (squash ms).length ≤ ms.length := by
  unfold squash compactUpTo
  rw [List.length_map, List.length_map]
  exact Nat.le_trans (List.length_filter_le _ _) (by simp [castA])
theorem compOk_any (ms : List Nat) (hm : ms.length ≤ 1000) : CompOk ms (squash ms) := by
  intro B w v ho hB
  rcases ho.2 with ⟨rfl, h0⟩ | ⟨g, cap, cur, rfl, hBg, hb, h1, h2, h3, h4⟩
  · obtain rfl : ms = [] := List.length_eq_zero_iff.1 h0
    have := compOk_few [] (by simp) B w _ ho hB
    simpa [squash, compactUpTo, castA] using this
  · have hg : g < w.heap.size := (Array.getElem?_eq_some_iff.1 hb).1
    have hH : Holds (Value.int .i32) w g 0 (castA ms) := holds_own hb h4
    have hc := comp32 g cap (castA ms) w hH hg (by rw [castA_size]; omega) (by rw [castA_size]; exact h1)
    rw [← squash_cast, List.length_map, castA_size] at hc
    refine hc.mono ?_
    rintro e w' ⟨rfl, hS⟩
    have hl := squash_len ms
    refine ⟨_, rfl, ?_, hS.below hBg⟩
    exact hS.owns hb hBg (by omega) h2 h3 (by simp) (by simp)

/-- The other signs of a text, sorted, each once. -/
def ysOf (L : List Nat) : List Nat := squash (sorted (oth L))
theorem ysOf_ys (L : List Nat) : Ys L (ysOf L) := by
  have h := squash_facts (sorted_up (oth L))
  refine ⟨h.1, fun y => ?_⟩
  rw [show ysOf L = squash (sorted (oth L)) from rfl, h.2, (sorted_perm (oth L)).mem_iff]
  unfold oth
  rw [List.mem_filter]
  simp only [Bool.not_eq_true', decide_eq_false_iff_not, Nat.not_lt]

end Go.Proofs.YtkaaldhejpaiiaaGreatDoor

/- Encode. -/
namespace Go.Proofs.YtkaaldhejpaiiaaGreatDoor
open Go.RowKit

theorem runesN_le (s : ByteArray) : ∀ b i, ∀ m ∈ runesN s b i, m ≤ 1114111
  | 0, _, m, h => by simp [runesN] at h
  | b + 1, i, m, h => by
    unfold runesN at h
    split at h
    · rcases List.mem_cons.1 h with rfl | h
      · exact Lib.rune_le s i
      · exact runesN_le s b _ m h
    · simp at h

set_option maxRecDepth 100000 in
set_option maxHeartbeats 1000000 in
theorem Encode_bad (s : ByteArray) (w : World) (hs : s.size ≤ 9223372036854775807) (hT : Lib.Utf8Tabs 1 2 w) (hv : Lib.validD s.data.toList = false) :
    Calls Tryz.prog 63 #[.string s] w fun e w' => e = .returned (.tuple #[.string { data := #[] }, .int .i64 1]) ∧ Below w.heap.size w w' := by
  have hva := valid_any s w hs hT
  rw [hv] at hva
  clear hv hT
  go_enter Tryz.func63, Tryz.ntmps63
  go_wp2_with (go_at_call 52; refine hva.mono ?_; rintro e w1 ⟨rfl, hb1⟩)
  go_ret2
  exact ⟨rfl, hb1⟩
set_option maxRecDepth 100000 in
set_option maxHeartbeats 1000000 in
theorem Encode_long (s : ByteArray) (w : World) (hs : s.size ≤ 9223372036854775807) (hT : Lib.Utf8Tabs 1 2 w) (hv : Lib.validD s.data.toList = true) (hl : 1000 < s.size) :
    Calls Tryz.prog 63 #[.string s] w fun e w' => e = .returned (.tuple #[.string { data := #[] }, .int .i64 9]) ∧ Below w.heap.size w w' := by
  have hva := valid_any s w hs hT
  rw [hv] at hva
  clear hv hT
  go_enter Tryz.func63, Tryz.ntmps63
  go_wp2_with (go_at_call 52; refine hva.mono ?_; rintro e w1 ⟨rfl, hb1⟩)
  go_ret2
  exact ⟨rfl, hb1⟩
set_option maxRecDepth 100000 in
set_option maxHeartbeats 1000000 in
theorem Encode_ok (s : ByteArray) (w : World) (ms ys : List Nat) (hT : Lib.Utf8Tabs 1 2 w) (hv : Lib.validD s.data.toList = true) (hl : s.size ≤ 1000) (hS : SortOk (oth (runes s)) ms) (hC : CompOk ms ys) (hok : eachAllOk (runes s) ys (firstEs (runes s))) (hy : ys.length ≤ 1000) :
    Calls Tryz.prog 63 #[.string s] w fun e w' => e = .returned (.tuple #[.string ⟨(encS (runes s) ys).toArray⟩, .int .i64 0]) ∧ Below w.heap.size w w' := by
  have hva := valid_any s w (by omega) hT
  rw [hv] at hva
  have hne := fun W => newEncoder_any s W hl
  have hen := fun E B W h => encode_any E B (runes s) ms ys W h (by have := runes_len s; omega) (runesN_le s _ _) hS hC hok hy
  clear hv hT hS hC hok
  go_enter Tryz.func63, Tryz.ntmps63
  go_wp2_with (first | (go_at_call 52; refine hva.mono ?_; rintro e w1 ⟨rfl, hb1⟩) | (go_at_call 102; refine (hne _).mono ?_; rintro e w2 ⟨E, rfl, hX, hb2⟩) | (go_at_call 103; refine (hen _ _ _ hX).mono ?_; rintro e w3 ⟨rfl, hb3⟩))
  go_ret2
  exact ⟨rfl, (hb1.trans (hb2.mono hb1.size)).trans (hb3.mono hb1.size)⟩
end Go.Proofs.YtkaaldhejpaiiaaGreatDoor

/- The document's answer: value, bound, isSign, read, step. -/
namespace Go.Proofs.YtkaaldhejpaiiaaGreatDoor
open Go.RowKit

/-- What a State's block holds. -/
def sCells (n i : Nat) (v : Value) (bias : Nat) (b : Bool) : Array Value := #[.int .i64 n, .int .i64 i, v, .int .i64 bias, .bool b]

def refDig (c : Nat) : Int := match Pm.dig c with | some d => (d : Int) | none => -1
set_option maxHeartbeats 400000 in
theorem value_any (c : UInt8) (w : World) :
    Calls Tryz.prog 105 #[.int .u8 c.toNat] w fun e w' => e = .returned (.int .i64 (refDig c.toNat)) ∧ w' = w := by
  have hc : c.toNat < 256 := c.toNat_lt
  go_enter Tryz.func105, Tryz.ntmps105
  go_wp2
  · go_ret
    exact ⟨ret_int (by unfold refDig; rw [dig_a ‹_› ‹_›]; simp; omega), rfl⟩
  · go_ret
    exact ⟨ret_int (by unfold refDig; rw [dig_n (by omega) (by omega)]), rfl⟩
  · go_ret
    exact ⟨ret_int (by unfold refDig; rw [dig_0 ‹_› ‹_›]; simp; omega), rfl⟩
  · go_ret
    exact ⟨ret_int (by unfold refDig; rw [dig_n (by omega) (by omega)]), rfl⟩
  · go_ret
    exact ⟨ret_int (by unfold refDig; rw [dig_n (by omega) (by omega)]), rfl⟩

set_option maxHeartbeats 400000 in
theorem refBound_any (X k bias : Nat) (w : World) (hc : w.cell? ⟨X, 3, none⟩ = some (.int .i64 bias)) (hk : k ≤ 2000) (hb : bias ≤ 1099511627776) :
    Calls Tryz.prog 106 #[.pointer (some ⟨X, 0, none⟩), .int .i64 k] w fun e w' => e = .returned (.int .i64 (Pm.bnd k bias : Nat)) ∧ w' = w := by
  go_enter Tryz.func106, Tryz.ntmps106
  go_wp2
  all_goals
    go_ret
    exact ⟨ret_int (by simp [Pm.bnd]; omega), rfl⟩

set_option maxRecDepth 100000 in
set_option maxHeartbeats 400000 in
theorem refSign_any (n : Nat) (w : World) :
    Calls Tryz.prog 68 #[.int .i64 n] w fun e w' => e = .returned (.bool (Pm.sign n)) ∧ w' = w := by
  have h0 : (0 : Int) ≤ (n : Int) := by omega
  by_cases h1 : (n : Int) ≤ 1114111
  · by_cases h2 : (n : Int) < 55296
    · rw [sign_t (by omega) (by omega)]
      go_enter Tryz.func68, Tryz.ntmps68
      go_wp2
      go_ret
      exact ⟨rfl, rfl⟩
    · by_cases h3 : (57343 : Int) < n
      · rw [sign_t (by omega) (by omega)]
        go_enter Tryz.func68, Tryz.ntmps68
        go_wp2
        go_ret
        exact ⟨rfl, rfl⟩
      · rw [sign_f (by omega)]
        go_enter Tryz.func68, Tryz.ntmps68
        go_wp2
        go_ret
        exact ⟨rfl, rfl⟩
  · rw [sign_f (by omega)]
    go_enter Tryz.func68, Tryz.ntmps68
    go_wp2
    go_ret
    exact ⟨rfl, rfl⟩

set_option maxRecDepth 100000 in
set_option maxHeartbeats 2000000 in
theorem refStep_any (X n i bias len c : Nat) (a : Option Addr) (b : Bool) (q : Nat) (w : World) (h : w.heap[X]? = some (.cells (sCells n i (.slice a len c) bias b) 106 (0, 0))) (h1 : n ≤ 1114111) (h2 : i ≤ 1000) (h3 : len ≤ 1000) (h4 : q ≤ 1099511627776) :
    Calls Tryz.prog 67 #[.pointer (some ⟨X, 0, none⟩), .int .i64 q] w fun e w' => e = .returned (.tuple #[]) ∧ w'.heap[X]? = some (.cells (sCells (n + (i + q) / (len + 1)) ((i + q) % (len + 1)) (.slice a len c) bias b) 106 (0, 0)) ∧ w.grownBy w' (some X) := by
  have c0 : w.cell? ⟨X, 0, none⟩ = some (.int .i64 n) := by rw [cell_of_row w X 0 _ 106 (0, 0) h]; rfl
  have c1 : w.cell? ⟨X, 1, none⟩ = some (.int .i64 i) := by rw [cell_of_row w X 1 _ 106 (0, 0) h]; rfl
  have c2 : w.cell? ⟨X, 2, none⟩ = some (.slice a len c) := by rw [cell_of_row w X 2 _ 106 (0, 0) h]; rfl
  have f0 := unfrozen h 0; have f1 := unfrozen h 1
  have H : Hid (w.heap[X]? = some (.cells (sCells n i (.slice a len c) bias b) 106 (0, 0))) := h
  have hz : ¬ (len : Int) + 1 = 0 := by omega
  have hq1 : 0 ≤ ((i : Int) + q) / ((len : Int) + 1) := Int.ediv_nonneg (by omega) (by omega)
  have hq2 : ((i : Int) + q) / ((len : Int) + 1) ≤ 1099511628776 := Int.ediv_le_of_le_mul (by omega) (by
    have : (1099511628776 : Int) * 1 ≤ 1099511628776 * ((len : Int) + 1) := Int.mul_le_mul_of_nonneg_left (by omega) (by omega)
    omega)
  have HE : Hid (((n + (i + q) / (len + 1) : Nat) : Int) = (n : Int) + ((i : Int) + q) / ((len : Int) + 1)) := by
    unfold Hid; simp
  have HF : Hid ((((i + q) % (len + 1) : Nat) : Int) = ((i : Int) + q) % ((len : Int) + 1)) := by
    unfold Hid; simp
  clear h
  go_enter Tryz.func67, Tryz.ntmps67
  go_wp2
  go_region
  all_goals
    go_wp2
    go_end0
    refine ⟨rfl, ?_, grown_drewN (grown_setCell (grown_setCell (World.grownBy.refl w (some X)) 0 (.int .i64 ((n : Int) + ((i : Int) + q) / ((len : Int) + 1)))) 1 (.int .i64 (((i : Int) + q) % ((len : Int) + 1)))) 1⟩
    unfold sCells
    rw [HE.out, HF.out]
    exact setCell_row (setCell_row H.out 0 _) 1 _
end Go.Proofs.YtkaaldhejpaiiaaGreatDoor

/- The document's answer: read. -/
namespace Go.Proofs.YtkaaldhejpaiiaaGreatDoor
open Go.RowKit

def RefRd (s : ByteArray) (at0 bias : Nat) (e : Ending) : Prop :=
  (∃ (q : Nat) (r : List UInt8), Pm.rd bias 1 0 1 (s.data.toList.drop at0) = some (q, r) ∧ q ≤ 1099511627776 ∧ e = .returned (.tuple #[.int .i64 q, .int .i64 ((s.size - r.length : Nat) : Int)])) ∨
  ((∀ q r, Pm.rd bias 1 0 1 (s.data.toList.drop at0) = some (q, r) → 1099511627776 < q) ∧ e = .returned (.tuple #[.int .i64 0, .int .i64 0]))

set_option maxRecDepth 100000 in
set_option maxHeartbeats 4000000 in
theorem refRead_any (X : Nat) (s : ByteArray) (at0 bias : Nat) (w : World) (hc : w.cell? ⟨X, 3, none⟩ = some (.int .i64 bias)) (hs : s.size ≤ 1000) (ha : at0 ≤ s.size) (hb : bias ≤ 1099511627776) :
    Calls Tryz.prog 66 #[.pointer (some ⟨X, 0, none⟩), .string s, .int .i64 at0] w fun e w' => RefRd s at0 bias e ∧ w' = w := by
  go_enter Tryz.func66, Tryz.ntmps66
  go_wp2
  go_loop [2, 8, 9, 10] (fun av qv uv kv => ∃ A S U K : Nat, A ≤ s.size ∧ K ≤ A + 1 ∧ av = .int .i64 A ∧ qv = .int .i64 S ∧ uv = .int .i64 U ∧ kv = .int .i64 K ∧ S ≤ 1099511627776 ∧ U ≤ 38482906972160 ∧ Pm.rd bias 1 0 1 (s.data.toList.drop at0) = Pm.rd bias K S U (s.data.toList.drop A)) (fun av _ _ _ => s.size - (intOf av).toNat)
  case atStart => exact ⟨at0, 0, 1, 1, ha, by omega, rfl, rfl, rfl, rfl, by omega, by omega, rfl⟩
  case round =>
    obtain ⟨A, S, U, K, hA, hKA, rfl, rfl, rfl, rfl, hS, hU, hrd⟩ := hrel
    have HR : Hid (Pm.rd bias 1 0 1 (s.data.toList.drop at0) = Pm.rd bias K S U (s.data.toList.drop A)) := hrd
    clear hrd ha
    by_cases hlt : A < s.size
    · have HC : Hid (s.data.toList.drop A = s[A] :: s.data.toList.drop (A + 1)) := drop_cons s A hlt
      have hcall := fun w => value_any s[A] w
      cases hdg : Pm.dig (s[A]).toNat with
      | none =>
        have HD : Hid (Pm.dig (s[A]).toNat = none) := hdg
        simp only [refDig, hdg] at hcall
        clear hdg
        go_wp2_with (go_at_call 105; refine (hcall _).mono ?_; rintro e w' ⟨rfl, rfl⟩)
        go_ret2
        exact ⟨Or.inr ⟨by rw [HR.out, HC.out, rd_bad HD.out]; simp, rfl⟩, rfl⟩
      | some d =>
        have HD : Hid (Pm.dig (s[A]).toNat = some d) := hdg
        have hd35 := Pm.dig_le hdg
        simp only [refDig, hdg] at hcall
        clear hdg
        have hbn := fun w h => refBound_any X K bias w h (by omega) hb
        have hb1 := Pm.bnd_pos K bias
        have hb2 := Pm.bnd_le K bias
        obtain ⟨B, hB⟩ : ∃ B, Pm.bnd K bias = B := ⟨_, rfl⟩
        have HB : Hid (Pm.bnd K bias = B) := hB
        simp only [hB] at hbn hb1 hb2
        clear hB
        have hz1 : 0 ≤ (d : Int) * (U : Int) := Int.mul_nonneg (by omega) (by omega)
        have hz2 : (d : Int) * (U : Int) ≤ 1346901744025600 := by
          have h1 : d * U ≤ 35 * 38482906972160 := Nat.mul_le_mul hd35 hU
          have e : (d : Int) * (U : Int) = ((d * U : Nat) : Int) := by simp
          omega
        have HE : Hid (((S + d * U : Nat) : Int) = (S : Int) + (d : Int) * (U : Int)) := by unfold Hid; simp
        have HM : Hid (((d * U : Nat) : Int) = (d : Int) * (U : Int)) := by unfold Hid; simp
        have hdn : ¬ (d : Int) < 0 := by omega
        by_cases hbig : (1099511627776 : Int) < (S : Int) + (d : Int) * (U : Int)
        · have HBG : Hid (∀ q r, Pm.rd bias 1 0 1 (s.data.toList.drop at0) = some (q, r) → 1099511627776 < q) := by
            unfold Hid; rw [HR.out, HC.out]; exact rd_much HD.out (by have := HE.out; omega)
          by_cases hd0 : (0 : Int) < (d : Int)
          · by_cases hu : (1099511627776 : Int) < (U : Int)
            · go_wp2_with (first | (go_at_call 105; refine (hcall _).mono ?_; rintro e w' ⟨rfl, hw'⟩; rw [hw']; clear hw') | (go_at_call 106; refine (hbn _ hc).mono ?_; rintro e w' ⟨rfl, hw'⟩; rw [hw']; clear hw'))
              go_ret2
              exact ⟨Or.inr ⟨HBG.out, rfl⟩, rfl⟩
            · by_cases hm : (1099511627776 : Int) < (d : Int) * (U : Int)
              · go_wp2_with (first | (go_at_call 105; refine (hcall _).mono ?_; rintro e w' ⟨rfl, hw'⟩; rw [hw']; clear hw') | (go_at_call 106; refine (hbn _ hc).mono ?_; rintro e w' ⟨rfl, hw'⟩; rw [hw']; clear hw'))
                go_ret2
                exact ⟨Or.inr ⟨HBG.out, rfl⟩, rfl⟩
              · go_wp2_with (first | (go_at_call 105; refine (hcall _).mono ?_; rintro e w' ⟨rfl, hw'⟩; rw [hw']; clear hw') | (go_at_call 106; refine (hbn _ hc).mono ?_; rintro e w' ⟨rfl, hw'⟩; rw [hw']; clear hw'))
                go_ret2
                exact ⟨Or.inr ⟨HBG.out, rfl⟩, rfl⟩
          · exfalso
            have : d = 0 := by omega
            subst this
            simp at hbig
            omega
        · by_cases hlast : (d : Int) < (B : Int)
          · have HL : Hid (Pm.rd bias 1 0 1 (s.data.toList.drop at0) = some (S + d * U, s.data.toList.drop (A + 1))) := by
              unfold Hid; rw [HR.out, HC.out, rd_last HD.out (by rw [HB.out]; omega)]
            have HN : Hid ((s.size - (s.data.toList.drop (A + 1)).length : Nat) = A + 1) := by
              unfold Hid; rw [List.length_drop, Array.length_toList]; show s.size - (s.size - (A + 1)) = A + 1; omega
            by_cases hd0 : (0 : Int) < (d : Int)
            · have hu : ¬ (1099511627776 : Int) < (U : Int) := by
                intro hu
                have h1 : U * 1 ≤ U * d := Nat.mul_le_mul_left U (by omega)
                have h2 := HM.out
                rw [Nat.mul_comm] at h1
                rw [Nat.mul_comm U d] at h1
                omega
              have hm : ¬ (1099511627776 : Int) < (d : Int) * (U : Int) := by omega
              go_wp2_with (first | (go_at_call 105; refine (hcall _).mono ?_; rintro e w' ⟨rfl, hw'⟩; rw [hw']; clear hw') | (go_at_call 106; refine (hbn _ hc).mono ?_; rintro e w' ⟨rfl, hw'⟩; rw [hw']; clear hw'))
              go_ret2
              exact ⟨Or.inl ⟨S + d * U, _, HL.out, by have := HE.out; omega, by rw [HE.out, HN.out]; rfl⟩, rfl⟩
            · have hd1 : d = 0 := by omega
              subst hd1
              by_cases hu : (1099511627776 : Int) < (U : Int)
              all_goals
                go_wp2_with (first | (go_at_call 105; refine (hcall _).mono ?_; rintro e w' ⟨rfl, hw'⟩; rw [hw']; clear hw') | (go_at_call 106; refine (hbn _ hc).mono ?_; rintro e w' ⟨rfl, hw'⟩; rw [hw']; clear hw'))
                go_ret2
                exact ⟨Or.inl ⟨S + 0 * U, _, HL.out, by have := HE.out; omega, by rw [HN.out]; simp⟩, rfl⟩
          · have hd0 : (0 : Int) < (d : Int) := by omega
            have hu : ¬ (1099511627776 : Int) < (U : Int) := by
              intro hu
              have h1 : U * 1 ≤ U * d := Nat.mul_le_mul_left U (by omega)
              have h2 := HM.out
              rw [Nat.mul_comm U d] at h1
              omega
            have hm : ¬ (1099511627776 : Int) < (d : Int) * (U : Int) := by omega
            have hu1 : 0 ≤ (U : Int) * (36 - (B : Int)) := Int.mul_nonneg (by omega) (by omega)
            have HUE : Hid (((U * (36 - B) : Nat) : Int) = (U : Int) * (36 - (B : Int))) := by unfold Hid; rw [Int.natCast_mul, Int.natCast_sub (by omega)]; rfl
            have HU2 : Hid (U * (36 - B) ≤ 38482906972160) := by
              have h3 : U * (36 - B) ≤ 1099511627776 * 35 := Nat.mul_le_mul (by omega) (by omega)
              unfold Hid; omega
            have hu2 : (U : Int) * (36 - (B : Int)) ≤ 38482906972160 := by have h1 := HU2.out; have h2 := HUE.out; omega
            go_wp2_with (first | (go_at_call 105; refine (hcall _).mono ?_; rintro e w' ⟨rfl, hw'⟩; rw [hw']; clear hw') | (go_at_call 106; refine (hbn _ hc).mono ?_; rintro e w' ⟨rfl, hw'⟩; rw [hw']; clear hw'))
            go_round
            case rel => exact ⟨A + 1, S + d * U, U * (36 - B), K + 1, by omega, by omega, by go_num, by rw [HE.out], by rw [HUE.out], by go_num, by have := HE.out; omega, HU2.out, by rw [HR.out, HC.out, rd_more HD.out (by rw [HB.out]; omega), HB.out]⟩
            case measure => simp [intOf]; omega
    · go_wp2
      go_ret2
      exact ⟨Or.inr ⟨by rw [HR.out, List.drop_eq_nil_of_le (by rw [Array.length_toList]; show s.size ≤ A; omega), rd_nil]; simp, rfl⟩, rfl⟩
end Go.Proofs.YtkaaldhejpaiiaaGreatDoor

/- The document's answer: insert. -/
namespace Go.Proofs.YtkaaldhejpaiiaaGreatDoor
open Go.RowKit

def iv (n : Nat) : Value := .int .i64 (n : Int)
theorem info3 : (Tryz.prog.info? 3).map (fun i => (i.zero, i.size, i.bytes)) = some (some (.int .i64 0), 1, 8) := by kernel_rfl

/-- append as one step of a region that draws. -/
theorem step_append_own {P : Program} {w : World} {ops : Array Oper} {o : Oper} {a : Act} {K : Act → World → Prop} {Q : Exit → Act → World → Prop} {E : Prop} (hgd : o.guard = none) (s x : Operand) (t : TypeId)
    (ho : o.op = .call { callee := .builtin .append, args := #[s, x], argTypes := #[t, t] })
    (base : Nat) (e : TypeId) (i : TypeInfo) (z : Value) (size bytes : Nat) (ht : P.underlying t = some (.slice e)) (hi : P.info? e = some i) (hz : i.zero = some z)
    (hsize : i.size = size) (hby : i.bytes = bytes) (hzs : z.cells.size = size) (hsz : 0 < size)
    (v : Value) (n : Nat) (xs : List Value) (hs : a.eval s = v) (hown : w.ownsRow base e size v n xs)
    (ad : Addr) (m c : Nat) (news : List Value) (hx : a.eval x = .slice (some ad) m c) (hl : news.length = m * size) (hnews : ∀ j u, news[j]? = some u → w.cell? (ad.add j) = some u) (h1 : ∀ u ∈ news, u.oneCell' = true)
    (h63 : n + m ≤ maxLen) (hbytes : (n + m) * bytes ≤ 140737488355328) (hbase : base ≤ w.heap.size)
    (h : ∀ v' w', w'.ownsRow base e size v' (n + m) (xs ++ news) → w.grownBy w' v.ownBlock → (v' = .slice none 0 0 ↔ v = .slice none 0 0 ∧ m = 0) → K (a.put o.dst v') w') : if Region.wanted o (yielded ops a.tmps) = true then Oper.wp P o a w K Q else E := by
  rw [if_pos (by simp [Region.wanted, hgd])]
  exact wp_append_own w s x t ho base e i z size bytes ht hi hz hsize hby hzs hsz v n xs hs hown ad m c news hx hl hnews h1 h63 hbytes hbase h

theorem one_iv (l : List Nat) : ∀ u ∈ l.map iv, u.oneCell' = true := by intro u hu; obtain ⟨x, _, rfl⟩ := List.mem_map.1 hu; rfl

theorem own_any {w : World} {base g n c : Nat} {e : TypeId} {xs : List Value} (h : w.ownsRow base e 1 (.slice (some ⟨g, 0, none⟩) n c) n xs) : base ≤ g ∧ g < w.heap.size ∧ xs.length = n ∧ ∃ cur, w.heap[g]? = some (.cells cur e (0, 0)) ∧ n ≤ c ∧ c ≤ maxLen ∧ cur.size = c ∧ cur.toList.take n = xs := by
  obtain ⟨h1, h2⟩ := h
  rcases h2 with ⟨h2, _⟩ | ⟨g', cap, cur, hv, hb, hg, hn, hm, hs, ht⟩
  · cases h2
  · simp only [Value.slice.injEq, Option.some.injEq, Addr.mk.injEq, and_true, true_and] at hv
    obtain ⟨rfl, rfl⟩ := hv
    exact ⟨hb, (Array.getElem?_eq_some_iff.1 hg).1, by omega, cur, hg, hn, hm, by omega, by simpa using ht⟩

theorem own_notnil {w : World} {base n : Nat} {e : TypeId} {v : Value} {xs : List Value} (h : w.ownsRow base e 1 v n xs) (hv : v ≠ .slice none 0 0) : ∃ g c, v = .slice (some ⟨g, 0, none⟩) n c := by
  rcases h.2 with ⟨h2, _⟩ | ⟨g', cap, cur, e1, _⟩
  · exact absurd h2 hv
  · exact ⟨g', cap, e1⟩
theorem src_cells {w W : World} {B g n c : Nat} {L : List Nat} (ho : w.ownsRow B 3 1 (.slice (some ⟨g, 0, none⟩) n c) n (L.map iv)) (hW : W.heap[g]? = w.heap[g]?) (a m : Nat) : ∀ j u, (((L.drop a).take m).map iv)[j]? = some u → W.cell? ((⟨g, a, none⟩ : Addr).add j) = some u := by
  intro j u hu
  rw [Addr.add_lit, World.cell?_of_block (w := w) (a := ⟨g, a + j, none⟩) hW]
  rw [List.getElem?_map, List.getElem?_take] at hu
  split at hu
  · rw [List.getElem?_drop, ← List.getElem?_map] at hu
    have := ho.cells (g := g) rfl (a + j) u hu
    rwa [Addr.add_lit, Nat.zero_add] at this
  · simp at hu
theorem slice_if (p : Prop) [Decidable p] (a b : Addr) (n c : Nat) : Value.slice (if p then some a else some b) n c = .slice (some (if p then a else b)) n c := by split <;> rfl
theorem src_cells_end {w W : World} {B g n c : Nat} {L : List Nat} (ho : w.ownsRow B 3 1 (.slice (some ⟨g, 0, none⟩) n c) n (L.map iv)) (hW : W.heap[g]? = w.heap[g]?) (a : Nat) (hc : L.length ≤ c) : ∀ j u, (((L.drop a).take (L.length - a)).map iv)[j]? = some u → W.cell? ((if c = a then (⟨g, 0, none⟩ : Addr) else ⟨g, a, none⟩).add j) = some u := by
  intro j u hu
  by_cases h : c = a
  · rw [List.getElem?_eq_none] at hu
    · simp at hu
    · rw [List.length_map, List.length_take]; omega
  · rw [if_neg h]; exact src_cells ho hW a _ j u hu
theorem src_len {L : List Nat} {a m : Nat} (h : a + m ≤ L.length) : (((L.drop a).take m).map iv).length = m * 1 := by
  rw [List.length_map, List.length_take, List.length_drop]; omega
theorem heap_alloc_lt {w : World} {g : Nat} (h : g < w.heap.size) (o : Obj) : (w.alloc o).heap[g]? = w.heap[g]? := ((Below.refl w.heap.size w).alloc (Nat.le_refl _) o).block g h

set_option maxRecDepth 100000 in
set_option maxHeartbeats 4000000 in
theorem refInsert_some (X B n i bias g c : Nat) (b : Bool) (L : List Nat) (q : Nat) (w : World) (h : w.heap[X]? = some (.cells (sCells n i (.slice (some ⟨g, 0, none⟩) L.length c) bias b) 106 (0, 0))) (ho : w.ownsRow B 3 1 (.slice (some ⟨g, 0, none⟩) L.length c) L.length (L.map iv)) (hBX : B ≤ X) (h2 : i ≤ L.length) (h3 : L.length ≤ 1000) (h4 : q ≤ 1099511627776) :
    Calls Tryz.prog 69 #[.pointer (some ⟨X, 0, none⟩), .int .i64 q] w fun e w' => e = .returned (.tuple #[]) ∧ ∃ g' c', w'.heap[X]? = some (.cells (sCells n (i + 1) (.slice (some ⟨g', 0, none⟩) (L.length + 1) c') (Pm.biasN q (L.length + 1) (!b)) true) 106 (0, 0)) ∧ w'.ownsRow w.heap.size 3 1 (.slice (some ⟨g', 0, none⟩) (L.length + 1) c') (L.length + 1) ((L.take i ++ n :: L.drop i).map iv) ∧ Below B w w' := by
  obtain ⟨i0, hi, hz0, hz1, hz2⟩ := info_parts info3
  have c1 : w.cell? ⟨X, 1, none⟩ = some (.int .i64 i) := by rw [cell_of_row w X 1 _ 106 (0, 0) h]; rfl
  have c2 : w.cell? ⟨X, 2, none⟩ = some (.slice (some ⟨g, 0, none⟩) L.length c) := by rw [cell_of_row w X 2 _ 106 (0, 0) h]; rfl
  have hXl := (Array.getElem?_eq_some_iff.1 h).1
  have n1 := World.new_ne w ⟨X, 1, none⟩ c1
  have HO : Hid (w.ownsRow B 3 1 (.slice (some ⟨g, 0, none⟩) L.length c) L.length (L.map iv)) := ho
  have HX : Hid (w.heap[X]? = some (.cells (sCells n i (.slice (some ⟨g, 0, none⟩) L.length c) bias b) 106 (0, 0))) := h
  obtain ⟨hBg, hgl, _, _, _, hLc, _⟩ := own_any ho
  have k1 : (0 : Int) ≤ (i : Int) := by omega
  have k2 : (i : Int) ≤ (L.length : Int) := by omega
  have k3 : (L.length : Int) ≤ (c : Int) := by omega
  have k4 : (i : Int) ≤ (c : Int) := by omega
  clear h ho
  go_enter Tryz.func69, Tryz.ntmps69
  go_wp2
  go_region_held3 (fun W => W.cell? ⟨X, 1, none⟩ = some (.int .i64 i) ∧ W.cell? ⟨X, 2, none⟩ = some (.slice (some ⟨g, 0, none⟩) L.length c)) (first | go_keep | (go_split_ands; exact ⟨hgr.cell (by assumption) (by simp [Value.ownBlock]; omega), hgr.cell (by assumption) (by simp [Value.ownBlock]; omega)⟩)) ((refine step_append_own (by rfl) _ _ _ (by rfl) w.heap.size 3 i0 (.int .i64 0) 1 8 Tryz.underlying31 hi hz0 hz1 hz2 rfl (by decide) (.slice (some ⟨w.heap.size, 0, none⟩) 0 0) 0 [] (by rfl) (World.ownsRow_made w #[] 0 (Nat.le_refl _) (by decide) rfl) ⟨g, 0, none⟩ i c (((L.drop 0).take i).map iv) (by rfl) (src_len (by omega)) (src_cells HO.out (heap_alloc_lt hgl _) 0 i) (one_iv _) (by unfold maxLen; omega) (by omega) (by simp) ?_; intro v1 w1 hown1 hgr hne; obtain ⟨g1, cc1, rfl⟩ := own_notnil hown1 (by rw [Ne, hne]; simp)))
  have hb1 : Below w.heap.size w w1 := ((Below.refl _ _).alloc (Nat.le_refl _) (.cells #[] 3)).drew.trans (below_of_grown hgr (Nat.le_refl _) (by simp))
  have hX1 : w1.heap[X]? = some (.cells (sCells n i (.slice (some ⟨g, 0, none⟩) L.length c) bias b) 106 (0, 0)) := (hb1.block X hXl).trans HX.out
  have d0 : w1.cell? ⟨X, 0, none⟩ = some (.int .i64 n) := by rw [cell_of_row w1 X 0 _ 106 (0, 0) hX1]; rfl
  have HB1 : Hid (Below w.heap.size w w1) := hb1
  have HX1 : Hid (w1.heap[X]? = some (.cells (sCells n i (.slice (some ⟨g, 0, none⟩) L.length c) bias b) 106 (0, 0))) := hX1
  have hs1 := hb1.size
  have HO1 : Hid (w1.ownsRow w.heap.size 3 1 (.slice (some ⟨g1, 0, none⟩) i cc1) i (((L.drop 0).take i).map iv)) := by
    have := hown1; rw [Nat.zero_add, List.nil_append] at this; exact this
  clear hown1 hgr hne hb1 hX1 c1 c2 n1
  go_wp2_with (at_builtin; refine wpList_append_own _ rfl (.tmp 17) (.tmp 22) 31 rfl w.heap.size 3 i0 (.int .i64 0) 1 8 Tryz.underlying31 hi hz0 hz1 hz2 rfl (by decide) _ _ _ rfl (HO1.out.alloc _) ⟨w1.heap.size, 0, none⟩ 1 1 [.int .i64 (n : Int)] rfl rfl (cell_one_new _ _ _) (one_iv [n]) (by unfold maxLen; omega) (by omega) (by simp; omega) ?_)
  intro v2 w2 hown2 hgr2 hne2
  obtain ⟨g2, cc2, rfl⟩ := own_notnil hown2 hne2
  have hb2 : Below w.heap.size w w2 := (HB1.out.alloc hs1 _).trans (below_of_grown hgr2 (own_any HO1.out).1 (by simp; omega))
  have hX2 : w2.heap[X]? = some (.cells (sCells n i (.slice (some ⟨g, 0, none⟩) L.length c) bias b) 106 (0, 0)) := (hb2.block X hXl).trans HX.out
  have d1 : w2.cell? ⟨X, 1, none⟩ = some (.int .i64 i) := by rw [cell_of_row w2 X 1 _ 106 (0, 0) hX2]; rfl
  have d2 : w2.cell? ⟨X, 2, none⟩ = some (.slice (some ⟨g, 0, none⟩) L.length c) := by rw [cell_of_row w2 X 2 _ 106 (0, 0) hX2]; rfl
  have HB2 : Hid (Below w.heap.size w w2) := hb2
  have HX2 : Hid (w2.heap[X]? = some (.cells (sCells n i (.slice (some ⟨g, 0, none⟩) L.length c) bias b) 106 (0, 0))) := hX2
  have hs2 := hb2.size
  have HG2 : Hid (w2.heap[g]? = w.heap[g]?) := hb2.block g hgl
  have HO2 : Hid (w2.ownsRow w.heap.size 3 1 (.slice (some ⟨g2, 0, none⟩) (i + 1) cc2) (i + 1) (((L.drop 0).take i ++ [n]).map iv)) := by
    have := hown2; unfold Hid; rw [List.map_append, List.drop_zero, List.map_take]; exact this
  have f2 : w2.frozen? ⟨X, 2, none⟩ = false := unfrozen HX2.out 2
  clear hown2 hgr2 hne2 hb2 hX2 d0 HO1 HB1 HX1 hs1
  go_wp2
  go_region_law ((refine step_append_own (by rfl) _ _ _ (by rfl) w.heap.size 3 i0 (.int .i64 0) 1 8 Tryz.underlying31 hi hz0 hz1 hz2 rfl (by decide) (.slice (some ⟨g2, 0, none⟩) (i + 1) cc2) (i + 1) (((L.drop 0).take i ++ [n]).map iv) (by rfl) HO2.out (if c = i then (⟨g, 0, none⟩ : Addr) else ⟨g, i, none⟩) (L.length - i) (c - i) (((L.drop i).take (L.length - i)).map iv) (by exact slice_if _ _ _ _ _) (src_len (by omega)) (src_cells_end HO.out HG2.out i hLc) (one_iv _) (by unfold maxLen; omega) (by omega) hs2 ?_; intro v3 w3 hown3 hgr3 hne3; rw [show i + 1 + (L.length - i) = L.length + 1 by omega] at hown3; obtain ⟨g3, cc3, rfl⟩ := own_notnil hown3 (by rw [Ne, hne3]; simp); have hb3 : Below w.heap.size w w3 := HB2.out.drew.trans (below_of_grown hgr3 (own_any HO2.out).1 hs2); have hX3 : w3.heap[X]? = some (.cells (sCells n i (.slice (some ⟨g, 0, none⟩) L.length c) bias b) 106 (0, 0)) := (hb3.block X hXl).trans HX.out; have f3 : w3.frozen? ⟨X, 2, none⟩ = false := unfrozen hX3 2; have s3 : w3.cell? ⟨X, 2, none⟩ = some (.slice (some ⟨g, 0, none⟩) L.length c) := by rw [cell_of_row _ X 2 _ 106 (0, 0) hX3]; rfl))
  all_goals
    obtain ⟨w4, hw4⟩ : ∃ w4, w4 = w3.setCell ⟨X, 2, none⟩ (.slice (some ⟨g3, 0, none⟩) (L.length + 1) cc3) := ⟨_, rfl⟩
    have hX4 : w4.heap[X]? = some (.cells (sCells n i (.slice (some ⟨g3, 0, none⟩) (L.length + 1) cc3) bias b) 106 (0, 0)) := by rw [hw4]; exact setCell_row hX3 2 _
    have hgs : w3.grownBy w4 (some X) := by rw [hw4]; exact grown_setCell (World.grownBy.refl _ _) _ _
    have hg3 := own_any hown3
    have HO4 : Hid (w4.ownsRow w.heap.size 3 1 (.slice (some ⟨g3, 0, none⟩) (L.length + 1) cc3) (L.length + 1) ((L.take i ++ n :: L.drop i).map iv)) := by
      have := hown3.kept hgs (Or.inr (by simp [Value.ownBlock]; omega))
      rw [List.drop_zero, List.take_of_length_le (by simp : (L.drop i).length ≤ L.length - i), ← List.map_append, List.append_assoc] at this
      exact this
    have HB4 : Hid (Below B w w4) := (hb3.mono (by omega)).trans (below_of_grown hgs hBX (by omega))
    rw [← hw4]
    generalize (if c = i then some (⟨g, 0, none⟩ : Addr) else some ⟨g, i, none⟩) = oo
    have HX4 : Hid (w4.heap[X]? = some (.cells (sCells n i (.slice (some ⟨g3, 0, none⟩) (L.length + 1) cc3) bias b) 106 (0, 0))) := hX4
    have d3 : w4.cell? ⟨X, 3, none⟩ = some (.int .i64 bias) := by rw [cell_of_row w4 X 3 _ 106 (0, 0) hX4]; rfl
    have d4 : w4.cell? ⟨X, 4, none⟩ = some (.bool b) := by rw [cell_of_row w4 X 4 _ 106 (0, 0) hX4]; rfl
    have d5 : w4.cell? ⟨X, 2, none⟩ = some (.slice (some ⟨g3, 0, none⟩) (L.length + 1) cc3) := by rw [cell_of_row w4 X 2 _ 106 (0, 0) hX4]; rfl
    have f4 : w4.frozen? ⟨X, 4, none⟩ = false := unfrozen hX4 4
    have f5 : w4.frozen? ⟨X, 3, none⟩ = false := unfrozen hX4 3
    clear hw4 hX4 hgs hg3 hown3 hgr3 hne3 hb3 hX3 f3 s3 f2 d1 d2 HO2 HG2 HX2 HB2 hs2
    have hlz : ¬ ((L.length + 1 : Nat) : Int) = 0 := by omega
    have hlz' : ¬ (L.length : Int) + 1 = 0 := by omega
    clear hLc k1 k2 k3 k4 hBg hgl
    cases b
    · have HD : Hid ((Pm.damp q (L.length + 1) true : Nat) = (q : Int) / 700 + (q : Int) / 700 / ((L.length : Int) + 1)) := by unfold Hid Pm.damp; simp
      have hdm := Pm.damp_le q (L.length + 1) true
      have b2 : (q : Int) / 700 / ((L.length : Int) + 1) ≤ 1099511627776 := by
        have := Nat.div_le_self (q / 700) (L.length + 1)
        have e : (((q / 700) / (L.length + 1) : Nat) : Int) = (q : Int) / 700 / ((L.length : Int) + 1) := by simp
        omega
      have b2' : 0 ≤ (q : Int) / 700 / ((L.length : Int) + 1) := Int.ediv_nonneg (by omega) (by omega)
      go_wp2
      go_loopw [5] (fun d wr => ∃ D Y : Nat, d = .int .i64 D ∧ wr.heap[X]? = some (.cells (sCells n i (.slice (some ⟨g3, 0, none⟩) (L.length + 1) cc3) Y true) 106 (0, 0)) ∧ w4.grownBy wr (some X) ∧ D ≤ 1099511627776 ∧ Y + D ≤ 1099511627776 ∧ Pm.shr (Pm.damp q (L.length + 1) true) 0 = Pm.shr D Y) (fun d _ => (intOf d).toNat)
      case atStart => exact ⟨Pm.damp q (L.length + 1) true, 0, by rw [HD.out], setCell_row (setCell_row HX4.out 4 _) 3 _, grown_setCell (grown_setCell (World.grownBy.refl _ _) _ _) _ _, by omega, by omega, rfl⟩
      case round =>
        obtain ⟨D, Y, rfl, hXr, hgr, hD, hY, hsh⟩ := hrel
        have HS : Hid (Pm.shr (Pm.damp q (L.length + 1) true) 0 = Pm.shr D Y) := hsh
        have HXr : Hid (wr.heap[X]? = some (.cells (sCells n i (.slice (some ⟨g3, 0, none⟩) (L.length + 1) cc3) Y true) 106 (0, 0))) := hXr
        have HGr : Hid (w4.grownBy wr (some X)) := hgr
        have e3 : wr.cell? ⟨X, 3, none⟩ = some (.int .i64 Y) := by rw [cell_of_row wr X 3 _ 106 (0, 0) hXr]; rfl
        have e1 : wr.cell? ⟨X, 1, none⟩ = some (.int .i64 i) := by rw [cell_of_row wr X 1 _ 106 (0, 0) hXr]; rfl
        have f6 : wr.frozen? ⟨X, 3, none⟩ = false := unfrozen hXr 3
        have f7 : wr.frozen? ⟨X, 1, none⟩ = false := unfrozen hXr 1
        clear hsh hXr hgr b2 b2' hdm d3 d4 d5 f4 f5
        by_cases hbig : 455 < D
        · go_wp2
          go_roundw
          case rel => exact ⟨D / 35, Y + 36, by go_num, setCell_row HXr.out 3 _, grown_setCell HGr.out _ _, by omega, by omega, by rw [HS.out, Pm.shr_big hbig]⟩
          case measure => simp [intOf]; omega
        · have hz : ¬ (D : Int) + 38 = 0 := by omega
          have hq1 : 0 ≤ 36 * (D : Int) / ((D : Int) + 38) := Int.ediv_nonneg (by omega) (by omega)
          have hq2 : 36 * (D : Int) / ((D : Int) + 38) ≤ 36 := Int.ediv_le_of_le_mul (by omega) (by omega)
          have HBN : Hid (((Pm.biasN q (L.length + 1) true : Nat) : Int) = (Y : Int) + 36 * (D : Int) / ((D : Int) + 38)) := by
            unfold Hid Pm.biasN; rw [HS.out, Pm.shr_small hbig]; simp
          go_wp2
          go_region
          all_goals
            go_wp2
            go_end0
            have hg5 : wr.grownBy ((wr.setCell ⟨X, 3, none⟩ (.int .i64 ((Y : Int) + 36 * (D : Int) / ((D : Int) + 38)))).setCell ⟨X, 1, none⟩ (.int .i64 ((i : Int) + 1))).drew (some X) := grown_drewN (grown_setCell (grown_setCell (World.grownBy.refl _ _) _ _) _ _) 1
            refine ⟨rfl, g3, cc3, ?_, ?_, ?_⟩
            · unfold sCells
              simp only [Bool.not_false]
              rw [HBN.out]
              exact setCell_row (setCell_row HXr.out 3 _) 1 _
            · exact (HO4.out.kept HGr.out (Or.inr (by have := (own_any HO4.out).1; simp [Value.ownBlock]; omega))).kept hg5 (Or.inr (by have := (own_any HO4.out).1; simp [Value.ownBlock]; omega))
            · exact HB4.out.trans ((below_of_grown HGr.out hBX (by have := HB4.out.size; omega)).trans (below_of_grown hg5 hBX (by have := HB4.out.size; have := HGr.out.size; omega)))
    · have HD : Hid ((Pm.damp q (L.length + 1) false : Nat) = (q : Int) / 2 + (q : Int) / 2 / ((L.length : Int) + 1)) := by unfold Hid Pm.damp; simp
      have hdm := Pm.damp_le q (L.length + 1) false
      have b2 : (q : Int) / 2 / ((L.length : Int) + 1) ≤ 1099511627776 := by
        have := Nat.div_le_self (q / 2) (L.length + 1)
        have e : (((q / 2) / (L.length + 1) : Nat) : Int) = (q : Int) / 2 / ((L.length : Int) + 1) := by simp
        omega
      have b2' : 0 ≤ (q : Int) / 2 / ((L.length : Int) + 1) := Int.ediv_nonneg (by omega) (by omega)
      go_wp2
      go_loopw [5] (fun d wr => ∃ D Y : Nat, d = .int .i64 D ∧ wr.heap[X]? = some (.cells (sCells n i (.slice (some ⟨g3, 0, none⟩) (L.length + 1) cc3) Y true) 106 (0, 0)) ∧ w4.grownBy wr (some X) ∧ D ≤ 1099511627776 ∧ Y + D ≤ 1099511627776 ∧ Pm.shr (Pm.damp q (L.length + 1) false) 0 = Pm.shr D Y) (fun d _ => (intOf d).toNat)
      case atStart => exact ⟨Pm.damp q (L.length + 1) false, 0, by rw [HD.out], setCell_row (setCell_row HX4.out 4 _) 3 _, grown_setCell (grown_setCell (World.grownBy.refl _ _) _ _) _ _, by omega, by omega, rfl⟩
      case round =>
        obtain ⟨D, Y, rfl, hXr, hgr, hD, hY, hsh⟩ := hrel
        have HS : Hid (Pm.shr (Pm.damp q (L.length + 1) false) 0 = Pm.shr D Y) := hsh
        have HXr : Hid (wr.heap[X]? = some (.cells (sCells n i (.slice (some ⟨g3, 0, none⟩) (L.length + 1) cc3) Y true) 106 (0, 0))) := hXr
        have HGr : Hid (w4.grownBy wr (some X)) := hgr
        have e3 : wr.cell? ⟨X, 3, none⟩ = some (.int .i64 Y) := by rw [cell_of_row wr X 3 _ 106 (0, 0) hXr]; rfl
        have e1 : wr.cell? ⟨X, 1, none⟩ = some (.int .i64 i) := by rw [cell_of_row wr X 1 _ 106 (0, 0) hXr]; rfl
        have f6 : wr.frozen? ⟨X, 3, none⟩ = false := unfrozen hXr 3
        have f7 : wr.frozen? ⟨X, 1, none⟩ = false := unfrozen hXr 1
        clear hsh hXr hgr b2 b2' hdm d3 d4 d5 f4 f5
        by_cases hbig : 455 < D
        · go_wp2
          go_roundw
          case rel => exact ⟨D / 35, Y + 36, by go_num, setCell_row HXr.out 3 _, grown_setCell HGr.out _ _, by omega, by omega, by rw [HS.out, Pm.shr_big hbig]⟩
          case measure => simp [intOf]; omega
        · have hz : ¬ (D : Int) + 38 = 0 := by omega
          have hq1 : 0 ≤ 36 * (D : Int) / ((D : Int) + 38) := Int.ediv_nonneg (by omega) (by omega)
          have hq2 : 36 * (D : Int) / ((D : Int) + 38) ≤ 36 := Int.ediv_le_of_le_mul (by omega) (by omega)
          have HBN : Hid (((Pm.biasN q (L.length + 1) false : Nat) : Int) = (Y : Int) + 36 * (D : Int) / ((D : Int) + 38)) := by
            unfold Hid Pm.biasN; rw [HS.out, Pm.shr_small hbig]; simp
          go_wp2
          go_region
          all_goals
            go_wp2
            go_end0
            have hg5 : wr.grownBy ((wr.setCell ⟨X, 3, none⟩ (.int .i64 ((Y : Int) + 36 * (D : Int) / ((D : Int) + 38)))).setCell ⟨X, 1, none⟩ (.int .i64 ((i : Int) + 1))).drew (some X) := grown_drewN (grown_setCell (grown_setCell (World.grownBy.refl _ _) _ _) _ _) 1
            refine ⟨rfl, g3, cc3, ?_, ?_, ?_⟩
            · unfold sCells
              simp only [Bool.not_true]
              rw [HBN.out]
              exact setCell_row (setCell_row HXr.out 3 _) 1 _
            · exact (HO4.out.kept HGr.out (Or.inr (by have := (own_any HO4.out).1; simp [Value.ownBlock]; omega))).kept hg5 (Or.inr (by have := (own_any HO4.out).1; simp [Value.ownBlock]; omega))
            · exact HB4.out.trans ((below_of_grown HGr.out hBX (by have := HB4.out.size; omega)).trans (below_of_grown hg5 hBX (by have := HB4.out.size; have := HGr.out.size; omega)))
end Go.Proofs.YtkaaldhejpaiiaaGreatDoor

