/- slices.Insert of one rune where the row must grow; Text.Insert. -/
import Derived.Test.YtkaaldhejpaiiaaGreatDoorPg
namespace Go.Proofs.YtkaaldhejpaiiaaGreatDoor
open Go.RowKit

set_option maxRecDepth 100000 in
theorem run_append_zeros (w : World) (ty : TypeId) (g i c m : Nat) (olds : List Value) (hl : olds.length = i) (holds : ∀ j v, olds[j]? = some v → w.cell? ((⟨g, 0, none⟩ : Addr).add j) = some v) (hm : 0 < m) (hc : c < i + m) (hs : i + m ≤ 3000) :
    ∃ Z : List Value, (Builtin.append_ #[48, 3] ty #[.slice (some ⟨g, 0, none⟩) i c, .int .i64 m]).run Tryz.prog w = .ok (.slice (some ⟨w.heap.size, 0, none⟩) (i + m) (grownCap w (i + m) c 21)) (w.drew.alloc (.cells (olds ++ Z).toArray 21)) ∧ (olds ++ Z).length = grownCap w (i + m) c 21 := by
  obtain ⟨i0, hi, hz0, hz1, hz2⟩ := info_parts info21
  have hn : ¬ (i + m ≤ c) := by omega
  have hw : IntKind.i64.wrap (m : Int) = m := by rw [IntKind.wrap_i64]; omega
  have h63 : ¬ (9223372036854775807 < ((i : Int) + (m : Int))) := by omega
  have h48 : ¬ (281474976710656 < Builtin.nextslicecap (i + m) c * i0.bytes) := by
    have := growslice_fits (need := i + m) (old := c) (bytes := 4) (by omega) (by omega)
    rw [hz2]; omega
  have h48i : ¬ (281474976710656 < (m : Int) * (i0.bytes : Int)) := by rw [hz2]; omega
  have hneg : ¬ ((m : Int) < 0) := by omega
  have hm0 : m ≠ 0 := by omega
  have hfo := run_firstCells_some (P := Tryz.prog) w.drew 1 i ⟨g, 0, none⟩ i c olds (by omega) (by simpa using holds)
  have hge := grownCap_ge w (i + m) c 21
  refine ⟨(Builtin.zeroCells #[.int .i32 0] m).toList ++ (Builtin.zeroCells #[.int .i32 0] (grownCap w (i + m) c 21 - (i + m))).toList, ?_, ?_⟩
  · simp [Builtin.append_, run_underlying Tryz.underlying48, run_underlying Tryz.underlying3, sizeOf, typeInfo, zeroValue, hi, hz0, hz1, asInt, asIntOf, hw, hn, hneg, hm0, h63, h48, h48i, Question.forced, hfo, newRow, grownCap]
    congr 2
    apply Array.ext'
    simp [Value.cells]
  · have z1 := size_zeroCells #[.int .i32 0] m
    have z2 := size_zeroCells #[.int .i32 0] (grownCap w (i + m) c 21 - (i + m))
    simp only [List.length_append, Array.length_toList, z1, z2, hl, List.size_toArray, List.length_singleton]
    omega

theorem spread (L xs : List Value) (v : Value) (n i : Nat) (hxl : xs.length = n) (hi : i < n) (e0 : L.take i = xs.take i) (hz : n + 1 ≤ L.length) :
    let C1 := L.take i ++ [v] ++ L.drop (i + 1)
    let C2 := C1.take (i + 1) ++ xs.drop i ++ C1.drop (i + 1 + (xs.drop i).length)
    C1.length = L.length ∧ C2.length = L.length ∧ C2.take (n + 1) = xs.take i ++ v :: xs.drop i := by
  intro C1 C2
  have l1 : C1.length = L.length := by simp only [C1, List.length_append, List.length_take, List.length_drop, List.length_singleton]; omega
  have e1 : C1.take (i + 1) = xs.take i ++ [v] := by
    simp only [C1]
    rw [e0, List.take_append_of_le_length (by simp [hxl]; omega), List.take_of_length_le (by simp [hxl]; omega)]
  have e3 : C2 = (xs.take i ++ v :: xs.drop i) ++ C1.drop (i + 1 + (xs.drop i).length) := by
    simp only [C2, e1]; simp
  have l3 : (xs.take i ++ v :: xs.drop i).length = n + 1 := by simp [hxl]; omega
  refine ⟨l1, ?_, ?_⟩
  · rw [e3, List.length_append, l3, List.length_drop, List.length_drop, l1, hxl]; omega
  · rw [e3, List.take_append_of_le_length (by omega), List.take_of_length_le (by omega)]

set_option maxRecDepth 100000 in
set_option maxHeartbeats 2000000 in
theorem insert_grow (base g n c i b r : Nat) (xs : List Value) (w : World) (hown : w.ownsRow base 21 1 (.slice (some ⟨g, 0, none⟩) n c) n xs) (h1x : ∀ v ∈ xs, v.oneCell' = true) (hb : w.heap[b]? = some (.cells #[rv r] 21 (0, 0))) (hn : n ≤ 2000) (hi : i < n) (hroom : ¬ n < c) (hbase : base ≤ w.heap.size) :
    Calls Tryz.prog 197 #[.slice (some ⟨g, 0, none⟩) n c, .int .i64 i, .slice (some ⟨b, 0, none⟩) 1 1] w fun e w' => InsOk base n i r xs g w e w' := by
  obtain ⟨hbg0, hglt, hl, cur, hg, hnc, hcm, hcs, htk⟩ := own_some hown
  have hcells := hown.cells (g := g) rfl
  have hblt : b < w.heap.size := (Array.getElem?_eq_some_iff.1 hb).1
  have hm1 : ((n + 1 - i : Nat) : Int) = (n : Int) + 1 - i := by omega
  obtain ⟨Z, hrun, hZ⟩ := run_append_zeros w 48 g i c (n + 1 - i) (xs.take i) (by rw [List.length_take]; omega) (fun j v hj => hcells j v (by rw [List.getElem?_take] at hj; split at hj; exact hj; cases hj)) (by omega) (by omega) (by omega)
  rw [show i + (n + 1 - i) = n + 1 by omega] at hrun hZ
  rw [hm1] at hrun
  clear hm1
  have hge := grownCap_ge w (n + 1) c 21
  have hle := grownCap_le_maxLen w (n + 1) c 21 (by unfold maxLen; omega)
  obtain ⟨c', hc'⟩ : ∃ c', grownCap w (n + 1) c 21 = c' := ⟨_, rfl⟩
  rw [hc'] at hrun hZ hge hle
  clear hc'
  have S := spread (xs.take i ++ Z) xs (rv r) n i hl hi (by rw [List.take_append_of_le_length (by rw [List.length_take]; omega), List.take_take, Nat.min_self]) (by omega)
  obtain ⟨C0, hC0⟩ : ∃ C0, C0 = xs.take i ++ Z := ⟨_, rfl⟩
  rw [← hC0] at hrun hZ
  simp only [← hC0] at S
  obtain ⟨C1, hC1⟩ : ∃ C1, C1 = C0.take i ++ [rv r] ++ C0.drop (i + 1) := ⟨_, rfl⟩
  obtain ⟨C2, hC2⟩ : ∃ C2, C2 = C1.take (i + 1) ++ xs.drop i ++ C1.drop (i + 1 + (xs.drop i).length) := ⟨_, rfl⟩
  simp only [← hC1, ← hC2] at S
  obtain ⟨G, hG⟩ : ∃ G, G = w.heap.size := ⟨_, rfl⟩
  have hnew : ∀ o : Obj, (w.alloc o).heap[G]? = some o := fun o => by rw [hG]; exact Go.heap_alloc_new w o
  have hold : ∀ (o : Obj) (k : Nat), k < G → (w.alloc o).heap[k]? = w.heap[k]? := fun o k hk => Below.heap_alloc w o k (by omega)
  have hcp1 : ∀ ty dc, (Builtin.copy_ #[48, 48] ty #[.slice (some ⟨G, i, none⟩) (n + 1 - i) dc, .slice (some ⟨b, 0, none⟩) 1 1]).run Tryz.prog (w.alloc (.cells C0.toArray 21)).drew = .ok (goInt 1) ((w.alloc (.cells C0.toArray 21)).drew.setRow G C1.toArray) := fun ty dc => by
    rw [run_copy_row Tryz.prog (w.alloc (.cells C0.toArray 21)).drew 48 48 ty 21 G i (n + 1 - i) dc ⟨b, 0, none⟩ 1 1 C0.toArray 21 [rv r] Tryz.underlying48 size21 (hnew _) (by simp only [Nat.min_def, List.length_singleton]; split <;> omega)
      (cell_one (by rw [cell_of_row _ b 0 #[rv r] 21 (0, 0) (by rw [show (w.alloc (.cells C0.toArray 21)).drew.heap = (w.alloc (.cells C0.toArray 21)).heap from rfl, hold _ b (by omega)]; exact hb)]; rfl))
      (by simp only [List.length_singleton, List.size_toArray, hZ]; omega) (one_rv r), hC1]
    rfl
  have hcp2 : ∀ ty dc sc, (Builtin.copy_ #[48, 48] ty #[.slice (some ⟨G, i + 1, none⟩) (n - i) dc, .slice (some ⟨g, i, none⟩) (n - i) sc]).run Tryz.prog ((w.alloc (.cells C0.toArray 21)).drew.setRow G C1.toArray).drew = .ok (goInt (xs.drop i).length) (((w.alloc (.cells C0.toArray 21)).drew.setRow G C1.toArray).drew.setRow G C2.toArray) := fun ty dc sc => by
    rw [run_copy_row Tryz.prog ((w.alloc (.cells C0.toArray 21)).drew.setRow G C1.toArray).drew 48 48 ty 21 G (i + 1) (n - i) dc ⟨g, i, none⟩ (n - i) sc C1.toArray 21 (xs.drop i) Tryz.underlying48 size21 (setRow_heap _ G C0.toArray _ 21 _ (hnew _)) (by rw [List.length_drop, hl]; simp only [Nat.min_def]; split <;> omega)
      (fun j v hj => by
        rw [Addr.add_lit, cell_of_row _ g (i + j) cur 21 (0, 0) (by
          rw [show ((w.alloc (.cells C0.toArray 21)).drew.setRow G C1.toArray).drew.heap = ((w.alloc (.cells C0.toArray 21)).drew.setRow G C1.toArray).heap from rfl, setRow_other _ G g _ (by omega), show (w.alloc (.cells C0.toArray 21)).drew.heap = (w.alloc (.cells C0.toArray 21)).heap from rfl, hold _ g (by omega)]
          exact hg)]
        rw [List.getElem?_drop, ← htk, List.getElem?_take] at hj
        split at hj
        · simpa using hj
        · cases hj)
      (by rw [List.length_drop, hl, List.size_toArray, S.1, hZ]; omega) (fun v hv => h1x v (List.mem_of_mem_drop hv)), hC2]
  unfold InsOk
  unfold maxLen at hcm hle
  have hz2 : ¬ ((i : Int) = (n : Int)) := by omega
  have hb2 : ¬ (c = i + 1) ∨ True := Or.inr trivial
  have hb4 : ¬ (c = i) := by omega
  have hb5 : ¬ (c' = i) := by omega
  have hb6 : ¬ (c' = i + 1) := by omega
  have hw1 : IntKind.i64.wrap ((i : Int) + 1) = (i : Int) + 1 := by rw [IntKind.wrap_i64]; omega
  have hw2 : (0 : Int) ≤ (i : Int) + 1 := by omega
  have hw3 : (i : Int) ≤ (n : Int) + 1 := by omega
  have hw4 : (i : Int) + 1 ≤ (n : Int) + 1 := by omega
  have hw5 : ((i : Int) + 1).toNat = i + 1 := by omega
  have hw6 : i ≤ n := by omega
  have hw7 : i ≤ c := by omega
  have HS : Hid (C1.length = C0.length ∧ C2.length = C0.length ∧ C2.take (n + 1) = xs.take i ++ rv r :: xs.drop i) := S
  have HZ : Hid (C0.length = c') := hZ
  have HG : Hid (G = w.heap.size) := hG
  have HH : Hid (∀ o : Obj, (w.alloc o).heap[G]? = some o) := hnew
  have HO : Hid (∀ (o : Obj) (k : Nat), k < G → (w.alloc o).heap[k]? = w.heap[k]?) := hold
  rw [← hG] at hrun
  clear hg hcs hb hown hC0 hC1 hC2 S hl h1x hZ hnew hold htk hnc hcells hb2 hG
  go_enter Tryz.func197, Tryz.ntmps197
  go_wp2_with (at_builtin; refine Lib.wpList_append_run _ rfl (.tmp 34) (.tmp 39) 48 3 rfl _ _ rfl rfl _ _ hrun ?_)
  go_region
  go_wp2
  go_ret
  refine ⟨G, c', rfl, ⟨?_, .inr ⟨G, c', C2.toArray, rfl, by rw [HG.out]; exact hbase, ?_, by omega, by unfold maxLen; omega, ?_, ?_⟩⟩, ?_⟩
  · have := HS.out.2.2
    rw [← this, List.length_take, HS.out.2.1, HZ.out]; omega
  · exact setRow_heap _ G C1.toArray _ 21 (0, 0) (setRow_heap _ G C0.toArray _ 21 (0, 0) (HH.out (.cells C0.toArray 21)))
  · rw [List.size_toArray, HS.out.2.1, HZ.out]; omega
  · rw [Nat.mul_one]; exact HS.out.2.2
  · have hsz : w.heap.size = G := HG.out.symm
    exact ⟨rfl, rfl, rfl, by simp, fun k hk _ => by
      have hkg : k ≠ G := by omega
      rw [setRow_other _ G k C2.toArray hkg]
      exact (setRow_other (w.alloc (.cells C0.toArray 21)).drew G k C1.toArray hkg).trans (HO.out (.cells C0.toArray 21) k (by omega))⟩

theorem insertS_any (base g n c i b r : Nat) (xs : List Value) (w : World) (hown : w.ownsRow base 21 1 (.slice (some ⟨g, 0, none⟩) n c) n xs) (h1x : ∀ v ∈ xs, v.oneCell' = true) (hb : w.heap[b]? = some (.cells #[rv r] 21 (0, 0))) (hbg : b ≠ g) (hn : n ≤ 2000) (hi : i ≤ n) (hbase : base ≤ w.heap.size) :
    Calls Tryz.prog 197 #[.slice (some ⟨g, 0, none⟩) n c, .int .i64 i, .slice (some ⟨b, 0, none⟩) 1 1] w fun e w' => InsOk base n i r xs g w e w' := by
  by_cases h : i = n
  · subst h
    exact insert_end base g i c b r xs w hown (by rw [cell_of_row w b 0 #[rv r] 21 (0, 0) hb]; rfl) hn hbase
  · by_cases hr : n < c
    · exact insert_room base g n c i b r xs w hown h1x hb hbg hn (by omega) hr
    · exact insert_grow base g n c i b r xs w hown h1x hb hn (by omega) hr hbase
end Go.Proofs.YtkaaldhejpaiiaaGreatDoor
