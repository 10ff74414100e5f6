/- writeNumber, writeEach. -/
import Derived.Test.YtkaaldhejpaiiaaGreatDoorQa
namespace Go.Proofs.YtkaaldhejpaiiaaGreatDoor
open Go.RowKit

/-- An encoder at work. -/
def EncAt (w : World) (E B n i len bias : Nat) (b : Bool) (L : List Nat) (form : List UInt8) : Prop :=
  ∃ g c fv, w.heap[E]? = some (.cells (dCells (.slice (some ⟨g, 0, none⟩) L.length c) n i len bias b fv) 176 (0, 0)) ∧
    w.ownsRow B 21 1 (.slice (some ⟨g, 0, none⟩) L.length c) L.length (L.map rv) ∧ w.ownsRow B 5 1 fv form.length (form.map bv) ∧ B ≤ E ∧ E < w.heap.size

theorem kt_of_grown {B E : Nat} {w w' : World} {cs : Array Value} (hg : w.grownBy w' (some E)) (hE : w.heap[E]? = some (.cells cs 176 (0, 0))) (hB : B ≤ E) : KT B w w' := by
  have hEl := (Array.getElem?_eq_some_iff.1 hE).1
  refine ⟨hg.os, hg.tape, hg.output, hg.size, fun k hk => hg.block k (by omega) (fun e => by have := Option.some.inj e; omega), fun k cs' t fr e _ h6 => (hg.block k (Array.getElem?_eq_some_iff.1 e).1 (fun e2 => ?_)).trans e⟩
  have := Option.some.inj e2
  subst this
  rw [hE] at e
  simp only [Option.some.injEq, Obj.cells.injEq] at e
  exact h6 e.2.1.symm
/-- A row of bytes stays while an encoder's block is written. -/
theorem owns5_grown {B E n : Nat} {w w' : World} {cs : Array Value} {v : Value} {xs : List Value} (ho : w.ownsRow B 5 1 v n xs) (hE : w.heap[E]? = some (.cells cs 176 (0, 0))) (hg : w.grownBy w' (some E)) : w'.ownsRow B 5 1 v n xs := by
  refine ho.kept hg ?_
  rcases ho.2 with ⟨rfl, _⟩ | ⟨g, cap, cur, rfl, _, hgg, _⟩
  · exact Or.inl rfl
  · refine Or.inr (fun e => ?_)
    simp only [Value.ownBlock, Option.some.injEq] at e
    subst e
    rw [hE] at hgg
    simp at hgg

theorem wnum_pos (bias f k q : Nat) : 1 ≤ (wnum bias (f + 1) k q).length := by unfold wnum; split <;> simp
theorem own5_some {w : World} {B m : Nat} {v : Value} {xs : List Value} (h : w.ownsRow B 5 1 v m xs) (hm : 1 ≤ m) : ∃ g c, v = .slice (some ⟨g, 0, none⟩) m c := by
  rcases h.2 with ⟨_, h0⟩ | ⟨g, cap, cur, hv, _⟩
  · omega
  · exact ⟨g, cap, hv⟩

set_option maxRecDepth 100000 in
set_option maxHeartbeats 4000000 in
theorem writeNumber_any (E B n i len bias : Nat) (b : Bool) (L : List Nat) (form : List UInt8) (q : Nat) (w : World) (hD : EncAt w E B n i len bias b L form) (h1 : n ≤ 1114111) (h2 : i ≤ 1000) (h3 : len ≤ 1000) (hi' : (i + q) % (len + 1) ≤ 1000) (hq : q ≤ 1115226111) (hb : bias ≤ 1099511627776) (hf : form.length ≤ 1000000) :
    Calls Tryz.prog 170 #[.pointer (some ⟨E, 0, none⟩), .int .i64 q] w fun e w' => e = .returned (.tuple #[]) ∧
      EncAt w' E B (n + (i + q) / (len + 1)) ((i + q) % (len + 1) + 1) (len + 1) (Pm.biasN q (len + 1) (!b)) true L (form ++ wnum bias (q + 1) 1 q) ∧ KT B w w' := by
  obtain ⟨g, c, fv, hE, ho, hof, hBE, hEl⟩ := hD
  have hap := fun W (hW : W.heap = w.heap) => appendNumber_any B fv form q bias W (by obtain ⟨a1, a2⟩ := hof; exact ⟨a1, by rw [hW]; exact a2⟩) (by rw [hW]; omega) hq hb hf
  obtain ⟨R, hR⟩ : ∃ R, form ++ wnum bias (q + 1) 1 q = R := ⟨_, rfl⟩
  have hRl : 1 ≤ R.length := by rw [← hR, List.length_append]; have := wnum_pos bias q 1 q; omega
  rw [hR] at hap ⊢
  clear hR
  have hap2 : Calls Tryz.prog 193 #[fv, .int .i64 q, .int .i64 bias] w.drew fun e w' => ∃ g' c', e = .returned (.slice (some ⟨g', 0, none⟩) R.length c') ∧ w'.cell? ⟨E, 6, none⟩ = some fv ∧ w'.frozen? ⟨E, 6, none⟩ = false ∧ Hid (w'.ownsRow B 5 1 (.slice (some ⟨g', 0, none⟩) R.length c') R.length (R.map bv)) ∧ Hid (K5 B w w') := by
    refine (hap w.drew rfl).mono ?_
    rintro e w' ⟨fv', rfl, ho', hk⟩
    have hE' : w'.heap[E]? = _ := hk.typ E _ 176 (0, 0) hE (by decide)
    obtain ⟨g', c', rfl⟩ := own5_some ho' hRl
    refine ⟨g', c', rfl, by rw [cell_of_row w' E 6 _ 176 (0, 0) hE']; rfl, unfrozen hE' 6, ho', ⟨hk.os, hk.tape, hk.output, hk.size, hk.low, hk.typ⟩⟩
  have c6 : w.cell? ⟨E, 6, none⟩ = some fv := by rw [cell_of_row w E 6 _ 176 (0, 0) hE]; rfl
  have c4 : w.cell? ⟨E, 4, none⟩ = some (.int .i64 bias) := by rw [cell_of_row w E 4 _ 176 (0, 0) hE]; rfl
  have HE : Hid (w.heap[E]? = some (.cells (dCells (.slice (some ⟨g, 0, none⟩) L.length c) n i len bias b fv) 176 (0, 0))) := hE
  have HO : Hid (w.ownsRow B 21 1 (.slice (some ⟨g, 0, none⟩) L.length c) L.length (L.map rv)) := ho
  clear hap hE ho hof
  go_enter Tryz.func170, Tryz.ntmps170
  go_wp2
  go_region_with (go_at_call 193; refine hap2.mono ?_; rintro e w1 ⟨g', c', rfl, k6, kf, ho1, hk1⟩)
  all_goals
    have hE1 : w1.heap[E]? = some (.cells (dCells (.slice (some ⟨g, 0, none⟩) L.length c) n i len bias b fv) 176 (0, 0)) := hk1.out.typ E _ 176 (0, 0) HE.out (by decide)
    have HE2 : Hid ((w1.setCell ⟨E, 6, none⟩ (.slice (some ⟨g', 0, none⟩) R.length c')).heap[E]? = some (.cells (dCells (.slice (some ⟨g, 0, none⟩) L.length c) n i len bias b (.slice (some ⟨g', 0, none⟩) R.length c')) 176 (0, 0))) := setCell_row hE1 6 _
    have HG2 : Hid (w1.grownBy (w1.setCell ⟨E, 6, none⟩ (.slice (some ⟨g', 0, none⟩) R.length c')) (some E)) := grown_setCell (World.grownBy.refl _ _) _ _
    have HK2 : Hid (KT B w w1) := hk1.out.kt
    have HF2 : Hid (w1.ownsRow B 5 1 (.slice (some ⟨g', 0, none⟩) R.length c') R.length (R.map bv)) := ho1.out
    have HE1 : Hid (w1.heap[E]? = some (.cells (dCells (.slice (some ⟨g, 0, none⟩) L.length c) n i len bias b fv) 176 (0, 0))) := hE1
    clear hE1 k6 kf c6 c4 hap2
    go_wp2_with fail
    refine (walkD_any E n i len bias b q _ _ 176 _ HE2.out h1 h2 h3 hq).mono ?_
    rintro e w3 ⟨rfl, hE3, hg3⟩
    have HE3 : Hid (w3.heap[E]? = some (.cells (dCells (.slice (some ⟨g, 0, none⟩) L.length c) (n + (i + q) / (len + 1)) ((i + q) % (len + 1)) len bias b (.slice (some ⟨g', 0, none⟩) R.length c')) 176 (0, 0))) := hE3
    have HG3 : Hid (w1.grownBy w3 (some E)) := grown_trans HG2.out hg3
    clear hE3 hg3
    go_wp2_with fail
    refine (settleD_any E _ _ len bias b q _ _ 176 _ HE3.out hi' h3 hq).mono ?_
    rintro e w4 ⟨rfl, hE4, hg4⟩
    have HE4 : Hid (w4.heap[E]? = some (.cells (dCells (.slice (some ⟨g, 0, none⟩) L.length c) (n + (i + q) / (len + 1)) ((i + q) % (len + 1) + 1) (len + 1) (Pm.biasN q (len + 1) (!b)) true (.slice (some ⟨g', 0, none⟩) R.length c')) 176 (0, 0))) := hE4
    have HG4 : Hid (w1.grownBy w4 (some E)) := grown_trans HG3.out hg4
    clear hE4 hg4
    go_wp2
    go_end0
    have hkt : KT B w w4 := HK2.out.trans (kt_of_grown HG4.out HE1.out hBE)
    exact ⟨rfl, ⟨g, c, .slice (some ⟨g', 0, none⟩) R.length c', HE4.out, hkt.owns HO.out (by decide) (by decide), owns5_grown HF2.out HE1.out HG4.out, hBE, (Array.getElem?_eq_some_iff.1 HE4.out).1⟩, hkt⟩
end Go.Proofs.YtkaaldhejpaiiaaGreatDoor
