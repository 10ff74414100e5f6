/- slices.Compact at runes: the shelf's contract, laid; what becomes of a row by size; the signs of a text in their order. -/
import Derived.Test.YtkaaldhejpaiiaaGreatDoorXn
import Derived.Test.YtkaaldhejpaiiaaGreatDoorTm
import Derived.Shelf.SlicesE.Compact
namespace Go.Proofs.YtkaaldhejpaiiaaGreatDoor
open Go.RowKit Go.Sort Go.Shelf Go.Lib

def renC : Go.Shelf.Ren := ⟨fun | 43 => 169 | n => n, fun | 22 => 48 | 23 => 21 | n => n, fun n => n⟩
theorem laysC : SlLaysE.n43 Tryz.prog renC := {
  mixed := by kernel_rfl
  f43 := ⟨Tryz.f169.name, by decide, Tryz.func169.trans (congrArg some (by kernel_rfl))⟩
  t0 := Tryz.underlying0
  a0 := Tryz.isAgg0
  z0 := Tryz.sizeOf0
  v0 := Tryz.zeroValue0
  t3 := Tryz.underlying3
  a3 := Tryz.isAgg3
  z3 := Tryz.sizeOf3
  v3 := Tryz.zeroValue3
  t4 := Tryz.underlying4
  a4 := Tryz.isAgg4
  z4 := Tryz.sizeOf4
  v4 := Tryz.zeroValue4
  t22 := Tryz.underlying48
  a22 := Tryz.isAgg48
  z22 := Tryz.sizeOf48
  v22 := Tryz.zeroValue48
  a23 := Tryz.isAgg21
  z23 := Tryz.sizeOf21 }

theorem comp32 (blk cap : Nat) (d : Array Int) (w : World) (hH : Holds (Value.int .i32) w blk 0 d) (hblk : blk < w.heap.size) (hsz : d.size ≤ 1000000) (hcap : d.size ≤ cap) :
    Calls Tryz.prog 169 #[.slice (some ⟨blk, 0, none⟩) d.size cap] w fun e w' => e = .returned (.slice (some ⟨blk, 0, none⟩) (compactUpTo d d.size).length cap) ∧
      S32 w blk 0 (compactUpTo d d.size ++ List.replicate (d.size - (compactUpTo d d.size).length) 0).toArray w' := by
  refine (AnyE.slices_Compact laysC (Value.int .i32) (fun _ => rfl) (EqlAt.intD _ _ _) (NeqAt.intD _ _ _) 0 Tryz.zeroValue21 blk 0 cap d w hH (by omega) hcap).mono ?_
  rintro e w' ⟨rfl, q, rfl⟩
  have hl : (compactUpTo d d.size).length ≤ d.size := by
    unfold compactUpTo
    rw [List.length_map]
    exact Nat.le_trans (List.length_filter_le _ _) (by simp)
  refine ⟨rfl, ⟨q, #[], (grow_empty _).symm⟩, ?_, by simpa using hblk, hblk⟩
  exact holds_putRow _ _ _ _ d _ (holds_ahead _ _ _ _ _ _ hH) (by simp; omega)

theorem comp_facts (d : Array Int) : ∀ m : Nat, (∀ i j, i ≤ j → j < m → d[i]! ≤ d[j]!) → (compactUpTo d m).Pairwise (· < ·) ∧ ∀ x, x ∈ compactUpTo d m ↔ ∃ j, j < m ∧ d[j]! = x
  | 0, _ => ⟨by simp [compactUpTo], fun x => by simp [compactUpTo]⟩
  | m + 1, hs => by
    obtain ⟨ih1, ih2⟩ := comp_facts d m (fun i j h1 h2 => hs i j h1 (by omega))
    rw [compactUpTo_succ]
    by_cases hk : keeps d m = true
    · rw [if_pos hk]
      constructor
      · rw [List.pairwise_append]
        refine ⟨ih1, by simp, fun x hx y hy => ?_⟩
        obtain rfl : y = d[m]! := by simpa using hy
        obtain ⟨j, hj, rfl⟩ := (ih2 x).1 hx
        have h1 := hs j (m - 1) (by omega) (by omega)
        have h2 := hs (m - 1) m (by omega) (by omega)
        have h3 : d[m]! ≠ d[m - 1]! := by
          simp only [keeps, decide_eq_true_eq] at hk
          rcases hk with h | h
          · omega
          · exact h
        omega
      · intro x
        rw [List.mem_append, ih2]
        constructor
        · rintro (⟨j, hj, rfl⟩ | h)
          · exact ⟨j, by omega, rfl⟩
          · exact ⟨m, by omega, (List.mem_singleton.1 h).symm⟩
        · rintro ⟨j, hj, rfl⟩
          by_cases e : j = m
          · right; simp [e]
          · left; exact ⟨j, by omega, rfl⟩
    · rw [if_neg hk, List.append_nil]
      refine ⟨ih1, fun x => ?_⟩
      rw [ih2]
      have hm : 0 < m ∧ d[m]! = d[m - 1]! := by
        simp only [keeps, decide_eq_true_eq] at hk
        have h1 : ¬ m = 0 := fun h => hk (Or.inl h)
        have h2 : d[m]! = d[m - 1]! := Classical.byContradiction fun h => hk (Or.inr h)
        exact ⟨by omega, h2⟩
      constructor
      · rintro ⟨j, hj, rfl⟩; exact ⟨j, by omega, rfl⟩
      · rintro ⟨j, hj, rfl⟩
        by_cases e : j = m
        · exact ⟨m - 1, by omega, by rw [e, hm.2]⟩
        · exact ⟨j, by omega, rfl⟩

def castA (ms : List Nat) : Array Int := (ms.map (fun (n : Nat) => (n : Int))).toArray
theorem castA_size (ms : List Nat) : (castA ms).size = ms.length := by simp [castA]
theorem castA_get (ms : List Nat) (j : Nat) (h : j < ms.length) : (castA ms)[j]! = ((ms[j] : Nat) : Int) := by
  rw [getElem!_pos _ j (by rw [castA_size]; exact h)]
  simp [castA]
def squash (ms : List Nat) : List Nat := (compactUpTo (castA ms) (castA ms).size).map Int.toNat
theorem squash_cast (ms : List Nat) : (squash ms).map (fun (n : Nat) => (n : Int)) = compactUpTo (castA ms) (castA ms).size := by
  refine cast_back _ fun x hx => ?_
  unfold compactUpTo at hx
  obtain ⟨j, hj, rfl⟩ := List.mem_map.1 hx
  have := List.mem_range.1 (List.mem_filter.1 hj).1
  rw [castA_size] at this
  rw [castA_get ms j this]
  omega
theorem squash_facts {ms : List Nat} (hs : ms.Pairwise (· ≤ ·)) : (squash ms).Pairwise (· < ·) ∧ ∀ x, x ∈ squash ms ↔ x ∈ ms := by
  have h := comp_facts (castA ms) (castA ms).size (fun i j h1 h2 => by
    rw [castA_size] at h2
    rw [castA_get ms i (by omega), castA_get ms j h2]
    rcases Nat.lt_or_ge i j with h | h
    · have := List.pairwise_iff_getElem.1 hs i j (by omega) h2 h
      omega
    · obtain rfl : i = j := by omega
      exact Int.le_refl _)
  rw [← squash_cast] at h
  refine ⟨(List.pairwise_map.1 h.1).imp (fun {a b} hab => by omega), fun x => ?_⟩
  have h2 := h.2 (x : Int)
  rw [List.mem_map] at h2
  constructor
  · intro hx
    obtain ⟨j, hj, e⟩ := h2.1 ⟨x, hx, rfl⟩
    rw [castA_size] at hj
    rw [castA_get ms j hj] at e
    have : ms[j] = x := by omega
    rw [← this]; exact List.getElem_mem hj
  · intro hx
    obtain ⟨j, hj, e⟩ := List.getElem_of_mem hx
    obtain ⟨y, hy, e2⟩ := h2.2 ⟨j, by rw [castA_size]; exact hj, by rw [castA_get ms j hj, e]⟩
    have : y = x := by omega
    rw [← this]; exact hy

theorem squash_len (ms : List Nat) : (squash ms).length ≤ ms.length := by
  unfold squash compactUpTo
  rw [List.length_map, List.length_map]
  exact Nat.le_trans (List.length_filter_le _ _) (by simp [castA])
theorem compOk_any (ms : List Nat) (hm : ms.length ≤ 1000) : CompOk ms (squash ms) := by
  intro B w v ho hB
  rcases ho.2 with ⟨rfl, h0⟩ | ⟨g, cap, cur, rfl, hBg, hb, h1, h2, h3, h4⟩
  · obtain rfl : ms = [] := List.length_eq_zero_iff.1 h0
    have := compOk_few [] (by simp) B w _ ho hB
    simpa [squash, compactUpTo, castA] using this
  · have hg : g < w.heap.size := (Array.getElem?_eq_some_iff.1 hb).1
    have hH : Holds (Value.int .i32) w g 0 (castA ms) := holds_own hb h4
    have hc := comp32 g cap (castA ms) w hH hg (by rw [castA_size]; omega) (by rw [castA_size]; exact h1)
    rw [← squash_cast, List.length_map, castA_size] at hc
    refine hc.mono ?_
    rintro e w' ⟨rfl, hS⟩
    have hl := squash_len ms
    refine ⟨_, rfl, ?_, hS.below hBg⟩
    exact hS.owns hb hBg (by omega) h2 h3 (by simp) (by simp)

/-- The other signs of a text, sorted, each once. -/
def ysOf (L : List Nat) : List Nat := squash (sorted (oth L))
theorem ysOf_ys (L : List Nat) : Ys L (ysOf L) := by
  have h := squash_facts (sorted_up (oth L))
  refine ⟨h.1, fun y => ?_⟩
  rw [show ysOf L = squash (sorted (oth L)) from rfl, h.2, (sorted_perm (oth L)).mem_iff]
  unfold oth
  rw [List.mem_filter]
  simp only [Bool.not_eq_true', decide_eq_false_iff_not, Nat.not_lt]

end Go.Proofs.YtkaaldhejpaiiaaGreatDoor
