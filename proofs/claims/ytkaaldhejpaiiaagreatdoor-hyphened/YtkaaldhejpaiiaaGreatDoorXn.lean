/- The library's sort at runes: slices.Sort of a row that the call owns. -/
import Derived.Test.YtkaaldhejpaiiaaGreatDoorXz
import Derived.Test.YtkaaldhejpaiiaaGreatDoorQh
namespace Go.Proofs.YtkaaldhejpaiiaaGreatDoor
open Go.RowKit Go.Sort

set_option maxHeartbeats 4000000 in
set_option maxRecDepth 100000 in
theorem sort32 (blk n cap : Nat) (d : Array Int) (w : World) (hn : d.size = n) (hH : Holds (Value.int .i32) w blk 0 d) (hblk : blk < w.heap.size) (hsz : n ≤ 1000000) :
    Calls Tryz.prog 168 #[.slice (some ⟨blk, 0, none⟩) n cap] w fun e w' => e = .returned (.tuple #[]) ∧ ∃ d', S32 w blk 0 d' w' ∧ PermIn 0 n d d' ∧ SortedIn ltInt 0 n d' := by
  have hl := fun W => len_any (n : Int) W (by omega) (by omega)
  have h21 := len_small hsz
  have hp := fun l (hl : l ≤ 1000) => pdq32 (n + 1) blk 0 n cap 0 n l d w (by omega) hn hH hblk (by omega) (Nat.le_refl _) hsz hl (Or.inl rfl)
  simp only [Int.toNat_natCast] at hl
  have hp2 := hp (bitsLen n) (by omega)
  clear hp hH
  go_enter Tryz.func168, Tryz.ntmps168
  go_wp2_with (first | (go_at_call 192; refine (hl _).mono ?_; rintro e w' ⟨rfl, hw'⟩; rw [hw']; clear hw') | (go_at_call 191; refine hp2.mono ?_; rintro e w' ⟨rfl, hd'⟩))
  go_end0
  exact ⟨rfl, hd'⟩

/-- The numbers of zs, by size. -/
def sorted (zs : List Nat) : List Nat := ((zs.map (fun (n : Nat) => (n : Int))).mergeSort (fun x y => !ltInt y x)).map Int.toNat
theorem cast_back (l : List Int) (h : ∀ x ∈ l, 0 ≤ x) : (l.map Int.toNat).map (fun (n : Nat) => (n : Int)) = l := by
  rw [List.map_map]
  conv => rhs; rw [← List.map_id l]
  apply List.map_congr_left
  intro x hx
  have := h x hx
  simp only [Function.comp_apply, id]
  omega
theorem sorted_cast (zs : List Nat) : (sorted zs).map (fun (n : Nat) => (n : Int)) = (zs.map (fun (n : Nat) => (n : Int))).mergeSort (fun x y => !ltInt y x) := by
  unfold sorted
  refine cast_back _ fun x hx => ?_
  have := (List.mergeSort_perm _ _).mem_iff.1 hx
  obtain ⟨n, _, rfl⟩ := List.mem_map.1 this
  omega
theorem sorted_perm (zs : List Nat) : (sorted zs).Perm zs := by
  have h := (List.mergeSort_perm (zs.map (fun (n : Nat) => (n : Int))) (fun x y => !ltInt y x)).map Int.toNat
  unfold sorted
  refine h.trans ?_
  rw [List.map_map]
  have : (Int.toNat ∘ fun (n : Nat) => (n : Int)) = id := by funext n; simp
  rw [this, List.map_id]
theorem sorted_up (zs : List Nat) : (sorted zs).Pairwise (· ≤ ·) := by
  have h : ((zs.map (fun (n : Nat) => (n : Int))).mergeSort (fun x y => !ltInt y x)).Pairwise (fun x y => (!ltInt y x) = true) :=
    List.pairwise_mergeSort (fun x y z h1 h2 => by simp [ltInt] at h1 h2 ⊢; omega) (fun x y => by simp [ltInt]; omega) _
  rw [← sorted_cast, List.pairwise_map] at h
  refine h.imp ?_
  intro x y hxy
  simp [ltInt] at hxy
  exact hxy

/-- What the row's block is behind it. -/
theorem S32.block {w w' : World} {g : Nat} {d : Array Int} {cur : Array Value} {e : TypeId} {fr : Nat × Nat} (h : S32 w g 0 d w') (hb : w.heap[g]? = some (.cells cur e fr)) : ∃ cur', w'.heap[g]? = some (.cells cur' e fr) ∧ cur'.size = cur.size := by
  obtain ⟨n, os, rfl⟩ := h.at'
  have hg := h.lt0
  rw [heap_grow_old _ _ (by simpa using hg)]
  exact ⟨putCells (Value.int .i32) 0 d cur, by simp [putRow, mapBlock, Sort.ahead, Array.getElem?_modify, hb, onCells], by simp [putCells]⟩
theorem S32.below {w w' : World} {g B : Nat} {d : Array Int} (h : S32 w g 0 d w') (hB : B ≤ g) : Go.RowKit.Below B w w' := by
  obtain ⟨n, os, rfl⟩ := h.at'
  have hg := h.lt0
  refine ⟨rfl, rfl, rfl, by simp, fun k hk => ?_⟩
  rw [heap_grow_old _ _ (by simp; omega)]
  simp [putRow, mapBlock, Sort.ahead, Array.getElem?_modify, show g ≠ k by omega]
theorem S32.owns {w w' : World} {g B n cap : Nat} {d : Array Int} {cur : Array Value} {ms : List Nat} (h : S32 w g 0 d w') (hb : w.heap[g]? = some (.cells cur 21 (0, 0))) (hB : B ≤ g) (h1 : n ≤ cap) (h2 : cap ≤ maxLen) (h3 : cur.size = cap * 1)
    (hd : d.toList.take n = ms.map (fun (m : Nat) => (m : Int))) (hnd : n ≤ d.size) : w'.ownsRow B 21 1 (.slice (some ⟨g, 0, none⟩) n cap) n (ms.map rv) := by
  obtain ⟨cur', hb', hs'⟩ := h.block hb
  have hn : ms.length = n := by
    have := congrArg List.length hd
    rw [List.length_take, List.length_map, Array.length_toList] at this
    omega
  refine ⟨by rw [List.length_map, hn, Nat.mul_one], .inr ⟨g, cap, cur', rfl, hB, hb', h1, h2, by rw [hs', h3], ?_⟩⟩
  apply List.ext_getElem?
  intro j
  by_cases hj : j < n
  · rw [List.getElem?_take_of_lt (by omega), Array.getElem?_toList]
    have hc := (h.holds j (by omega)).1
    simp only [World.cell?, hb', Nat.zero_add] at hc
    simp only [Option.isSome_none, Bool.false_eq_true, if_false] at hc
    rw [hc, List.getElem?_map, List.getElem?_eq_getElem (by omega)]
    have e1 : d.toList[j]? = some ((ms[j]'(by omega) : Nat) : Int) := by
      have : (d.toList.take n)[j]? = (ms.map (fun (m : Nat) => (m : Int)))[j]? := by rw [hd]
      rw [List.getElem?_take_of_lt hj, List.getElem?_map, List.getElem?_eq_getElem (l := ms) (by omega)] at this
      exact this
    have e2 : d[j]! = ((ms[j]'(by omega) : Nat) : Int) := by
      rw [Array.getElem?_toList, Array.getElem?_eq_getElem (by omega)] at e1
      rw [getElem!_pos d j (by omega)]
      exact Option.some.inj e1
    rw [e2]
    rfl
  · rw [List.getElem?_take_eq_none (by omega), List.getElem?_eq_none (by rw [List.length_map]; omega)]

theorem holds_own {w : World} {g : Nat} {cur : Array Value} {zs : List Nat} (hb : w.heap[g]? = some (.cells cur 21 (0, 0))) (ht : cur.toList.take (zs.length * 1) = zs.map rv) : Holds (Value.int .i32) w g 0 (zs.map (fun (n : Nat) => (n : Int))).toArray := by
  intro j hj
  have hj' : j < zs.length := by simpa using hj
  refine ⟨?_, by simp [World.frozen?, hb]⟩
  have h1 : (cur.toList.take (zs.length * 1))[j]? = (zs.map rv)[j]? := by rw [ht]
  rw [List.getElem?_take_of_lt (by omega)] at h1
  simp only [World.cell?, hb, Nat.zero_add]
  simp only [Option.isSome_none, Bool.false_eq_true, if_false]
  rw [← Array.getElem?_toList, h1]
  simp [hj', rv]

theorem sortOk_any (zs : List Nat) (hz : zs.length ≤ 1000) : SortOk zs (sorted zs) := by
  intro B w v ho hB
  have hlen := (sorted_perm zs).length_eq
  rcases ho.2 with ⟨rfl, h0⟩ | ⟨g, cap, cur, rfl, hBg, hb, h1, h2, h3, h4⟩
  · obtain rfl : zs = [] := List.length_eq_zero_iff.1 h0
    have := sortOk_few [] (by simp) B w _ ho hB
    simpa [sorted] using this
  · have hg : g < w.heap.size := (Array.getElem?_eq_some_iff.1 hb).1
    have hH := holds_own hb h4
    refine (sort32 g zs.length cap _ w (by simp) hH hg (by omega)).mono ?_
    rintro e w' ⟨rfl, d', hS, hP, hs⟩
    have hu := sorted_unique_holds (lt := ltInt) swo_ltInt (fun x y a b => by simp [ltInt] at a b; omega) (zs.map (fun (n : Nat) => (n : Int))).toArray d' (by simpa using hP) (by simpa using hs)
    rw [List.toList_toArray, ← sorted_cast] at hu
    refine ⟨rfl, ?_, hS.below hBg⟩
    rw [hlen]
    have hds : d'.size = zs.length := by rw [hP.1]; simp
    exact hS.owns hb hBg h1 h2 h3 (by rw [List.take_of_length_le (by rw [Array.length_toList]; omega)]; exact hu) (by omega)

end Go.Proofs.YtkaaldhejpaiiaaGreatDoor
