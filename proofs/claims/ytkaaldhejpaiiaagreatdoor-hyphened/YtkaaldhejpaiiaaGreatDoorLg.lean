/- whole. -/
import Derived.Test.YtkaaldhejpaiiaaGreatDoorLf
import Derived.Deep.RegionWith
namespace Go.Proofs.YtkaaldhejpaiiaaGreatDoor
open Go.RowKit Go.Sort

def kataM (L : List Nat) : Bool := (List.range L.length).any fun (i : Nat) => [6, 7, 8].any fun y => rD (pkAt L (i : Int)) == y
def mixedM (L : List Nat) : Bool := anyIn 1632 1641 L && anyIn 1776 1785 L
/-- All that lay in W0 lies unturned in W. -/
def BW (W0 W : World) : Prop := Below W0.heap.size W0 W
theorem BW.refl (W0 : World) : BW W0 W0 := Below.refl _ _
theorem BW.drew {W0 W : World} (h : BW W0 W) : BW W0 W.drew := Below.drew h
theorem BW.below {W0 W : World} (h : BW W0 W) : Below W0.heap.size W0 W := h
theorem BW.andThen {W0 W W' : World} (h : BW W0 W) (k : Below W.heap.size W W') : BW W0 W' := Below.andThen h k
theorem two_cells {W : World} {r : Nat} {a b : Value} {t : TypeId} (h : W.heap[r]? = some (.cells #[a, b] t (0, 0))) :
    W.cell? ⟨r, 0, none⟩ = some a ∧ W.cell? ⟨r, 1, none⟩ = some b ∧ ∀ j, W.frozen? ⟨r, j, none⟩ = false := by
  refine ⟨?_, ?_, fun j => unfrozen h j⟩ <;> (rw [cell_of_row _ _ _ _ t (0, 0) h]; rfl)
theorem two_set {W : World} {r : Nat} {x0 x1 : Value} {t : TypeId} (h : W.heap[r]? = some (.cells #[x0, x1] t (0, 0))) (a b : Value) :
    ((W.setCell ⟨r, 0, none⟩ a).setCell ⟨r, 1, none⟩ b).heap[r]? = some (.cells #[a, b] t (0, 0)) := by
  simp only [setCell_eq, mapBlock, Array.getElem?_modify, if_true, h, Option.map_some, onCells]
  rfl
set_option maxRecDepth 100000 in
set_option maxHeartbeats 4000000 in
theorem whole_any {w : World} {b r : Nat} {L : List Nat} (hL : Lab w b r L) :
    Calls Tryz.prog 100 #[.pointer (some ⟨b, 0, none⟩)] w fun e w' => e = .returned (.agg #[.bool (kataM L), .bool (mixedM L)]) ∧ Below w.heap.size w w' := by
  obtain ⟨W0, hW0⟩ : ∃ W0, W0 = (w.alloc (.cells #[.bool false, .bool false] 139)).alloc (.cells #[.int .u8 6, .int .u8 7, .int .u8 8] 58) := ⟨_, rfl⟩
  have hB0 : Below w.heap.size w W0 := by rw [hW0]; exact ((Below.refl _ w).alloc (Nat.le_refl _) _).alloc (by simp) _
  have hL0 : Lab W0 b r L := hL.keep hB0
  have hz : W0.heap[w.heap.size]? = some (.cells #[.bool false, .bool false] 139 (0, 0)) := by
    rw [hW0]
    exact (((Below.refl (w.alloc (.cells #[.bool false, .bool false] 139)).heap.size _).alloc (Nat.le_refl _) _).block w.heap.size (by simp)).trans (Go.heap_alloc_new w _)
  have hk : Lits W0 (w.heap.size + 1) [6, 7, 8] := by
    rw [hW0]
    have h := lits_new (w.alloc (.cells #[.bool false, .bool false] 139)) [6, 7, 8] 58 (by decide)
    rwa [World.size_alloc] at h
  have cells : ∀ W, BW W0 W → W.heap[w.heap.size]? = some (.cells #[.bool false, .bool false] 139 (0, 0)) := fun W h => (h.below.block _ (lt_heap hz)).trans hz
  have hs : ∀ W, BW W0 W → Calls Tryz.prog 136 #[.pointer (some ⟨b, 0, none⟩), .slice (some ⟨w.heap.size + 1, 0, none⟩) 3 3] W fun e w' => e = .returned (.bool (kataM L)) ∧ BW W0 w' :=
    fun W hW => (hasScript_any (hL0.keep hW) (w.heap.size + 1) 3 [6, 7, 8] (hk.keep hW)).mono fun _ _ ⟨he, hb⟩ => ⟨he, hW.andThen hb⟩
  have h1 : ∀ W, BW W0 W → Calls Tryz.prog 137 #[.pointer (some ⟨b, 0, none⟩), .func (.func 138) #[] #[]] W fun e w' => e = .returned (.bool (anyIn 1632 1641 L)) ∧ BW W0 w' :=
    fun W hW => (any_any (hL0.keep hW) 138 1632 1641 (Or.inl ⟨rfl, rfl, rfl⟩)).mono fun _ w' ⟨he, q, hq⟩ => ⟨he, hW.andThen (by rw [hq]; exact below_drewN' (Below.refl _ _) q)⟩
  have h2 : ∀ W, BW W0 W → Calls Tryz.prog 137 #[.pointer (some ⟨b, 0, none⟩), .func (.func 139) #[] #[]] W fun e w' => e = .returned (.bool (anyIn 1776 1785 L)) ∧ BW W0 w' :=
    fun W hW => (any_any (hL0.keep hW) 139 1776 1785 (Or.inr ⟨rfl, rfl, rfl⟩)).mono fun _ w' ⟨he, q, hq⟩ => ⟨he, hW.andThen (by rw [hq]; exact below_drewN' (Below.refl _ _) q)⟩
  unfold mixedM
  generalize kataM L = v0 at *
  generalize anyIn 1776 1785 L = v2 at *
  have HB0 : Hid (Below w.heap.size w W0) := hB0
  have fin : ∀ W v v', BW W0 W → ((W.setCell ⟨w.heap.size, 0, none⟩ (.bool v)).setCell ⟨w.heap.size, 1, none⟩ (.bool v')).cell? ⟨w.heap.size, 0, none⟩ = some (.bool v) ∧ ((W.setCell ⟨w.heap.size, 0, none⟩ (.bool v)).setCell ⟨w.heap.size, 1, none⟩ (.bool v')).cell? ⟨w.heap.size, 1, none⟩ = some (.bool v') ∧ Below w.heap.size w ((W.setCell ⟨w.heap.size, 0, none⟩ (.bool v)).setCell ⟨w.heap.size, 1, none⟩ (.bool v')) := by
    intro W v v' hW
    have h := two_cells (two_set (cells W hW) (.bool v) (.bool v'))
    exact ⟨h.1, h.2.1, ((Below.andThen HB0.out hW).setCell (p := ⟨w.heap.size, 0, none⟩) (Nat.le_refl _) _).setCell (p := ⟨w.heap.size, 1, none⟩) (Nat.le_refl _) _⟩
  have FIN : Hid (∀ W v v', BW W0 W → ((W.setCell ⟨w.heap.size, 0, none⟩ (.bool v)).setCell ⟨w.heap.size, 1, none⟩ (.bool v')).cell? ⟨w.heap.size, 0, none⟩ = some (.bool v) ∧ ((W.setCell ⟨w.heap.size, 0, none⟩ (.bool v)).setCell ⟨w.heap.size, 1, none⟩ (.bool v')).cell? ⟨w.heap.size, 1, none⟩ = some (.bool v') ∧ Below w.heap.size w ((W.setCell ⟨w.heap.size, 0, none⟩ (.bool v)).setCell ⟨w.heap.size, 1, none⟩ (.bool v'))) := fin
  have CE : Hid (∀ W, BW W0 W → W.heap[w.heap.size]? = some (.cells #[.bool false, .bool false] 139 (0, 0))) := cells
  clear hL hB0 hL0 hz hk cells fin
  cases hv : anyIn 1632 1641 L with
  | true =>
    simp only [hv] at h1
    go_enter Tryz.func100, Tryz.ntmps100
    go_wp2
    first | (go_region_with (first
      | (go_at_call 136; rw [← hW0]; refine (hs _ (by repeat (first | assumption | exact BW.refl _ | apply BW.drew))).mono ?_; rintro e w1 ⟨rfl, hb1⟩; obtain ⟨c10, c11, f1⟩ := two_cells (CE.out w1 hb1))
      | (go_at_call 136; refine (hs _ (by repeat (first | assumption | exact BW.refl _ | apply BW.drew))).mono ?_; rintro e w1 ⟨rfl, hb1⟩; obtain ⟨c10, c11, f1⟩ := two_cells (CE.out w1 hb1))
      | (go_at_call 137; rw [← hW0]; refine (h1 _ (by repeat (first | assumption | exact BW.refl _ | apply BW.drew))).mono ?_; rintro e w2 ⟨rfl, hb2⟩; obtain ⟨c20, c21, f2⟩ := two_cells (CE.out w2 hb2))
      | (go_at_call 137; refine (h1 _ (by repeat (first | assumption | exact BW.refl _ | apply BW.drew))).mono ?_; rintro e w2 ⟨rfl, hb2⟩; obtain ⟨c20, c21, f2⟩ := two_cells (CE.out w2 hb2))
      | (go_at_call 137; refine (h2 _ (by repeat (first | assumption | exact BW.refl _ | apply BW.drew))).mono ?_; rintro e w3 ⟨rfl, hb3⟩; obtain ⟨c30, c31, f3⟩ := two_cells (CE.out w3 hb3)))) | fail
    all_goals go_wp2
    all_goals first
      | (obtain ⟨s0, s1, hB⟩ := FIN.out w3 v0 v2 hb3; exact bodyPost_ret (v := .agg #[.bool v0, .bool v2]) (by simp [results, Tryz.results100, go_sem, s0, s1]) rfl ⟨rfl, hB⟩)
      | (obtain ⟨s0, s1, hB⟩ := FIN.out w1 v0 v2 hb1; exact bodyPost_ret (v := .agg #[.bool v0, .bool v2]) (by simp [results, Tryz.results100, go_sem, s0, s1]) rfl ⟨rfl, hB⟩)
  | false =>
    simp only [hv] at h1
    clear h2
    go_enter Tryz.func100, Tryz.ntmps100
    go_wp2
    first | (go_region_with (first
      | (go_at_call 136; rw [← hW0]; refine (hs _ (by repeat (first | assumption | exact BW.refl _ | apply BW.drew))).mono ?_; rintro e w1 ⟨rfl, hb1⟩; obtain ⟨c10, c11, f1⟩ := two_cells (CE.out w1 hb1))
      | (go_at_call 136; refine (hs _ (by repeat (first | assumption | exact BW.refl _ | apply BW.drew))).mono ?_; rintro e w1 ⟨rfl, hb1⟩; obtain ⟨c10, c11, f1⟩ := two_cells (CE.out w1 hb1))
      | (go_at_call 137; rw [← hW0]; refine (h1 _ (by repeat (first | assumption | exact BW.refl _ | apply BW.drew))).mono ?_; rintro e w2 ⟨rfl, hb2⟩; obtain ⟨c20, c21, f2⟩ := two_cells (CE.out w2 hb2))
      | (go_at_call 137; refine (h1 _ (by repeat (first | assumption | exact BW.refl _ | apply BW.drew))).mono ?_; rintro e w2 ⟨rfl, hb2⟩; obtain ⟨c20, c21, f2⟩ := two_cells (CE.out w2 hb2)))) | fail
    all_goals go_wp2
    all_goals first
      | (obtain ⟨s0, s1, hB⟩ := FIN.out w2 v0 false hb2; exact bodyPost_ret (v := .agg #[.bool v0, .bool false]) (by simp [results, Tryz.results100, go_sem, s0, s1]) rfl ⟨rfl, hB⟩)
      | (obtain ⟨s0, s1, hB⟩ := FIN.out w1 v0 false hb1; exact bodyPost_ret (v := .agg #[.bool v0, .bool false]) (by simp [results, Tryz.results100, go_sem, s0, s1]) rfl ⟨rfl, hB⟩)
end Go.Proofs.YtkaaldhejpaiiaaGreatDoor
