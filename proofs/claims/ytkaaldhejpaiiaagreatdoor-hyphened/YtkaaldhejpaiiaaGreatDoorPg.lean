/- slices.Insert of one rune; Text.Insert. -/
import Derived.Test.YtkaaldhejpaiiaaGreatDoorPf
import Derived.Deep.RegionLaw
import Derived.Laws.CopyOwn
import Derived.Lib.Overlaps
import Derived.Lib.AppendZeros
namespace Go.Proofs.YtkaaldhejpaiiaaGreatDoor
open Go.RowKit

theorem info21 : (Tryz.prog.info? 21).map (fun i => (i.zero, i.size, i.bytes)) = some (some (.int .i32 0), 1, 4) := by kernel_rfl
theorem size21 : (Tryz.prog.info? 21).map (·.size) = some 1 := by kernel_rfl

/-- A copy whose run is known, in a plain region and in one that draws. -/
theorem wpList_copyEq {P : Program} (w : World) {ops : Array Oper} {rest : List Oper} {o : Oper} {a : Act} {Q : Exit → Act → World → Prop} (hgd : o.guard = none) (d s : Operand) (t t' : TypeId)
    (ho : o.op = .call { callee := .builtin .copy, args := #[d, s], argTypes := #[t, t'] }) (v u : Value) (hd : a.eval d = v) (hs : a.eval s = u) {v' : Value} {w' : World}
    (hr : (Builtin.copy_ #[t, t'] o.type #[v, u]).run P w = .ok v' w') (h : wpList P ops Q rest (a.put o.dst v') w') : wpList P ops Q (o :: rest) a w := by
  refine wpList_plain hgd fun K hK => ?_
  unfold Oper.wp
  simp [execOp, ho, resolve, invoke, builtin, hd, hs, hr, Result.andThen]
  exact hK _ _ h
theorem step_copyEq {P : Program} {ops : Array Oper} {o : Oper} {a : Act} {w : World} {K : Act → World → Prop} {Q : Exit → Act → World → Prop} {E : Prop} (hgd : o.guard = none) (d s : Operand) (t t' : TypeId)
    (ho : o.op = .call { callee := .builtin .copy, args := #[d, s], argTypes := #[t, t'] }) (v u : Value) (hd : a.eval d = v) (hs : a.eval s = u) {v' : Value} {w' : World}
    (hr : (Builtin.copy_ #[t, t'] o.type #[v, u]).run P w = .ok v' w') (h : K (a.put o.dst v') w') : if Region.wanted o (yielded ops a.tmps) = true then Oper.wp P o a w K Q else E := by
  rw [if_pos (by simp [Region.wanted, hgd])]
  unfold Oper.wp
  simp [execOp, ho, resolve, invoke, builtin, hd, hs, hr, Result.andThen]
  exact h

def InsOk (base n i r : Nat) (xs : List Value) (g : Nat) (w : World) (e : Ending) (w' : World) : Prop :=
  ∃ g' c', e = .returned (.slice (some ⟨g', 0, none⟩) (n + 1) c') ∧ w'.ownsRow base 21 1 (.slice (some ⟨g', 0, none⟩) (n + 1) c') (n + 1) (xs.take i ++ rv r :: xs.drop i) ∧ w.grownBy w' (some g)

theorem own_some {w : World} {base g n c : Nat} {xs : List Value} (h : w.ownsRow base 21 1 (.slice (some ⟨g, 0, none⟩) n c) n xs) : base ≤ g ∧ g < w.heap.size ∧ xs.length = n ∧ ∃ cur, w.heap[g]? = some (.cells cur 21 (0, 0)) ∧ n ≤ c ∧ c ≤ maxLen ∧ cur.size = c ∧ cur.toList.take n = xs := by
  obtain ⟨h1, h2⟩ := h
  rcases h2 with ⟨h2, _⟩ | ⟨g', cap, cur, hv, hb, hg, hn, hm, hs, ht⟩
  · cases h2
  · simp only [Value.slice.injEq, Option.some.injEq, Addr.mk.injEq, and_true, true_and] at hv
    obtain ⟨rfl, rfl⟩ := hv
    exact ⟨hb, (Array.getElem?_eq_some_iff.1 hg).1, by omega, cur, hg, hn, hm, by omega, by simpa using ht⟩

theorem cell_one {w : World} {b : Nat} {v : Value} (hb : w.cell? ⟨b, 0, none⟩ = some v) : ∀ j u, [v][j]? = some u → w.cell? ((⟨b, 0, none⟩ : Addr).add j) = some u := by
  intro j u hj
  match j, hj with
  | 0, hj => simp at hj; subst hj; simpa [Addr.add] using hb
theorem one_rv (r : Nat) : ∀ u ∈ [rv r], u.oneCell' = true := by intro u hu; simp at hu; subst hu; rfl
theorem grown_some {base m : Nat} {w' : World} {v' : Value} {xs : List Value} (h : w'.ownsRow base 21 1 v' m xs) (hne : ¬ v' = .slice none 0 0) : ∃ g' c', v' = .slice (some ⟨g', 0, none⟩) m c' := by
  rcases h.2 with ⟨h2, _⟩ | ⟨g', cap, cur, hv, _⟩
  · exact absurd h2 hne
  · exact ⟨g', cap, hv⟩

set_option maxRecDepth 100000 in
set_option maxHeartbeats 2000000 in
theorem insert_end (base g n c b r : Nat) (xs : List Value) (w : World) (hown : w.ownsRow base 21 1 (.slice (some ⟨g, 0, none⟩) n c) n xs) (hb : w.cell? ⟨b, 0, none⟩ = some (rv r)) (hn : n ≤ 2000) (hbase : base ≤ w.heap.size) :
    Calls Tryz.prog 197 #[.slice (some ⟨g, 0, none⟩) n c, .int .i64 n, .slice (some ⟨b, 0, none⟩) 1 1] w fun e w' => InsOk base n n r xs g w e w' := by
  obtain ⟨_, _, hl, cur, hg, hnc, hcm, hcs, htk⟩ := own_some hown
  clear htk hcs hg
  obtain ⟨i0, hi, hz0, hz1, hz2⟩ := info_parts info21
  have h63 : n + 1 ≤ maxLen := by unfold maxLen; omega
  have h47 : (n + 1) * 4 ≤ 140737488355328 := by omega
  have e1 : xs.take n ++ rv r :: xs.drop n = xs ++ [rv r] := by rw [List.take_of_length_le (by omega), List.drop_eq_nil_of_le (by omega)]
  unfold InsOk
  rw [e1]
  clear e1 hl
  unfold maxLen at hcm
  go_enter Tryz.func197, Tryz.ntmps197
  go_wp2_with (at_builtin; refine wpList_append_own _ rfl (.tmp 23) (.tmp 24) 48 rfl base 21 i0 (.int .i32 0) 1 4 Tryz.underlying48 hi hz0 hz1 hz2 rfl (by decide) _ _ _ rfl hown ⟨b, 0, none⟩ 1 1 [rv r] rfl rfl (cell_one hb) (one_rv r) h63 h47 hbase ?_)
  all_goals
    intro v' w' ho hgr hne
    obtain ⟨g', c', rfl⟩ := grown_some ho hne
    go_wp2
    go_ret
    exact ⟨g', c', rfl, ho, hgr⟩

/-- A row into whose middle a copy went twice. -/
theorem shifted (L xs : List Value) (v : Value) (n i : Nat) (hx : L.take n = xs) (hi : i < n) (hn : n < L.length) :
    let A1 := L.take (i + 1) ++ xs.drop i ++ L.drop (i + 1 + (xs.drop i).length)
    let A2 := A1.take i ++ [v] ++ A1.drop (i + 1)
    A1.length = L.length ∧ A2.length = L.length ∧ A2.take (n + 1) = xs.take i ++ v :: xs.drop i := by
  intro A1 A2
  have hxl : xs.length = n := by rw [← hx, List.length_take]; omega
  have l1 : A1.length = L.length := by simp only [A1, List.length_append, List.length_take, List.length_drop, hxl]; omega
  have e1 : A1.take i = xs.take i := by
    simp only [A1]
    rw [List.append_assoc, List.take_append_of_le_length (by rw [List.length_take]; omega), List.take_take, ← hx, List.take_take]
    congr 1; omega
  have e2 : A1.drop (i + 1) = xs.drop i ++ L.drop (i + 1 + (xs.drop i).length) := by
    simp only [A1]
    rw [List.append_assoc, List.drop_append]
    rw [List.drop_eq_nil_of_le (by rw [List.length_take]; omega), List.length_take, show i + 1 - min (i + 1) L.length = 0 by omega]
    simp
  have e3 : A2 = (xs.take i ++ v :: xs.drop i) ++ L.drop (i + 1 + (xs.drop i).length) := by
    simp only [A2, e1, e2]; simp
  have l3 : (xs.take i ++ v :: xs.drop i).length = n + 1 := by simp [hxl]; omega
  refine ⟨l1, ?_, ?_⟩
  · simp only [A2, List.length_append, List.length_take, List.length_drop, l1, List.length_cons, List.length_nil]; omega
  · rw [e3, List.take_append_of_le_length (by omega), List.take_of_length_le (by omega)]

theorem one_of_map {xs : List Value} {ns : List Nat} (h : xs = ns.map rv) : ∀ v ∈ xs, v.oneCell' = true := by
  intro v hv; rw [h] at hv; obtain ⟨x, _, rfl⟩ := List.mem_map.1 hv; rfl

set_option maxRecDepth 100000 in
set_option maxHeartbeats 2000000 in
theorem insert_room (base g n c i b r : Nat) (xs : List Value) (w : World) (hown : w.ownsRow base 21 1 (.slice (some ⟨g, 0, none⟩) n c) n xs) (h1x : ∀ v ∈ xs, v.oneCell' = true) (hb : w.heap[b]? = some (.cells #[rv r] 21 (0, 0))) (hbg : b ≠ g) (hn : n ≤ 2000) (hi : i < n) (hroom : n < c) :
    Calls Tryz.prog 197 #[.slice (some ⟨g, 0, none⟩) n c, .int .i64 i, .slice (some ⟨b, 0, none⟩) 1 1] w fun e w' => InsOk base n i r xs g w e w' := by
  obtain ⟨hbg0, hglt, hl, cur, hg, hnc, hcm, hcs, htk⟩ := own_some hown
  have S := shifted cur.toList xs (rv r) n i htk hi (by rw [Array.length_toList]; omega)
  obtain ⟨A1, hA1⟩ : ∃ A1, A1 = cur.toList.take (i + 1) ++ xs.drop i ++ cur.toList.drop (i + 1 + (xs.drop i).length) := ⟨_, rfl⟩
  obtain ⟨A2, hA2⟩ : ∃ A2, A2 = A1.take i ++ [rv r] ++ A1.drop (i + 1) := ⟨_, rfl⟩
  simp only [← hA1, ← hA2] at S
  have hcp1 : ∀ W : World, W.heap = w.heap → ∀ ty dl dc sl sc, dl = n - i → sl = n + 1 - i → (Builtin.copy_ #[48, 48] ty #[.slice (some ⟨g, i + 1, none⟩) dl dc, .slice (some ⟨g, i, none⟩) sl sc]).run Tryz.prog W = .ok (goInt (xs.drop i).length) (W.setRow g A1.toArray) := fun W hW ty dl dc sl sc hdl hsl => by
    subst hdl hsl
    rw [run_copy_row Tryz.prog W 48 48 ty 21 g (i + 1) (n - i) dc ⟨g, i, none⟩ (n + 1 - i) sc cur 21 (xs.drop i) Tryz.underlying48 size21 (by rw [hW]; exact hg) (by rw [List.length_drop, hl]; simp only [Nat.min_def]; split <;> omega)
      (fun j v hj => by
        rw [Addr.add_lit, cell_of_row W g (i + j) cur 21 (0, 0) (by rw [hW]; exact hg)]
        rw [List.getElem?_drop, ← htk, List.getElem?_take] at hj
        split at hj
        · simpa using hj
        · cases hj)
      (by rw [List.length_drop, hl]; omega) (fun v hv => h1x v (List.mem_of_mem_drop hv)), hA1]
  have hcp2 : ∀ W : World, W.heap = (w.setRow g A1.toArray).heap → ∀ ty dl dc, dl = n + 1 - i → (Builtin.copy_ #[48, 48] ty #[.slice (some ⟨g, i, none⟩) dl dc, .slice (some ⟨b, 0, none⟩) 1 1]).run Tryz.prog W = .ok (goInt 1) (W.setRow g A2.toArray) := fun W hW ty dl dc hdl => by
    subst hdl
    rw [run_copy_row Tryz.prog W 48 48 ty 21 g i (n + 1 - i) dc ⟨b, 0, none⟩ 1 1 A1.toArray 21 [rv r] Tryz.underlying48 size21 (by rw [hW]; exact setRow_heap w g cur _ 21 _ hg) (by simp only [Nat.min_def, List.length_singleton]; split <;> omega)
      (cell_one (by rw [cell_of_row W b 0 #[rv r] 21 (0, 0) (by rw [hW, setRow_other w g b _ hbg]; exact hb)]; rfl))
      (by simp only [List.length_singleton, List.size_toArray, S.1, Array.length_toList]; omega) (one_rv r), hA2]
    rfl
  clear htk hnc
  unfold InsOk
  unfold maxLen at hcm
  have hz2 : ¬ ((i : Int) = (n : Int)) := by omega
  have hb2 : ¬ (c = i + 1) := by omega
  have hb4 : ¬ (c = i) := by omega
  have hw1 : IntKind.i64.wrap ((i : Int) + 1) = (i : Int) + 1 := by rw [IntKind.wrap_i64]; omega
  have hw2 : (0 : Int) ≤ (i : Int) + 1 := by omega
  have hw3 : (i : Int) ≤ (n : Int) + 1 := by omega
  have hw4 : (i : Int) + 1 ≤ (n : Int) + 1 := by omega
  have hw5 : ((i : Int) + 1).toNat = i + 1 := by omega
  have hw6 : i ≤ n := by omega
  have hov : ∀ lb cb, (callFunc 211 #[.slice (some ⟨b, 0, none⟩) 1 1, .slice (some ⟨g, i + 1, none⟩) lb cb]).run Tryz.prog w = .ok (.value (.bool false)) w := fun lb cb => by
    rw [run_callFunc_extern Tryz.func211 (by kernel_rfl) (by kernel_rfl) (by kernel_rfl) (e := Extern.SlicesOverlaps.overlaps #[48, 48] #[4]) (by kernel_rfl),
      Lib.run_overlaps_apart w 48 4 21 Tryz.underlying48 1 Tryz.sizeOf21 ⟨b, 0, none⟩ ⟨g, i + 1, none⟩ 1 1 lb cb hbg 21 21 1 c (by simp [World.shape?, hb]) (by simp [World.shape?, hg, hcs]) (by omega) (by simp [World.frozen?, hb]) (by simp [World.frozen?, hb])]
    rfl
  have HS : Hid (A1.length = cur.toList.length ∧ A2.length = cur.toList.length ∧ A2.take (n + 1) = xs.take i ++ rv r :: xs.drop i) := S
  have HG : Hid (w.heap[g]? = some (.cells cur 21 (0, 0))) := hg
  have HC : Hid (cur.size = c) := hcs
  have hc1 := fun ty dc sc => hcp1 w.drew rfl ty (n - i) dc (n + 1 - i) sc rfl rfl
  have hc2 := fun ty dc => hcp2 (w.drew.setRow g A1.toArray) rfl ty (n + 1 - i) dc rfl
  clear hg hcs hb hown hA1 hA2 S hl h1x hcp1 hcp2
  go_enter Tryz.func197, Tryz.ntmps197
  go_wp2_with (simp only [hov])
  go_region
  go_wp2
  go_ret
  refine ⟨g, c, rfl, ⟨?_, .inr ⟨g, c, A2.toArray, rfl, hbg0, ?_, by omega, by unfold maxLen; omega, ?_, ?_⟩⟩, ?_⟩
  · have := HS.out.2.2
    rw [← this, List.length_take, HS.out.2.1, Array.length_toList, HC.out]; omega
  · exact setRow_heap _ g _ _ 21 _ (setRow_heap w.drew g cur _ 21 _ HG.out)
  · rw [List.size_toArray, HS.out.2.1, Array.length_toList, HC.out]; omega
  · rw [Nat.mul_one]; exact HS.out.2.2
  · exact ⟨rfl, rfl, rfl, by simp, fun k hk hne => by
      have hkg : k ≠ g := fun e => hne (by rw [e])
      rw [setRow_other _ g k _ hkg, setRow_other _ g k _ hkg]; rfl⟩
end Go.Proofs.YtkaaldhejpaiiaaGreatDoor
