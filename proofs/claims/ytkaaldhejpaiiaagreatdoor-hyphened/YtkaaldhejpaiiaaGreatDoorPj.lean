/- insertNext. -/
import Derived.Test.YtkaaldhejpaiiaaGreatDoorPi
import Derived.Deep.RegionHeld3
namespace Go.Proofs.YtkaaldhejpaiiaaGreatDoor
open Go.RowKit

theorem drewN_heap (w : World) (k : Nat) : (w.drewN k).heap = w.heap := rfl
theorem below_of_grown {B : Nat} {w w' : World} {r : Nat} (h : w.grownBy w' (some r)) (hB : B ≤ r) (hs : B ≤ w.heap.size) : Below B w w' :=
  ⟨h.os, h.tape, h.output, h.size, fun k hk => h.block k (by omega) (fun e => by have := Option.some.inj e; omega)⟩

set_option maxRecDepth 100000 in
set_option maxHeartbeats 2000000 in
theorem insertNext_no (E B : Nat) (x : Pm.St) (num : ByteArray) (w : World) (hD : DecAt w E B x num) (hx : x.ok) (hb : x.bias ≤ 1099511627776) (hl : x.L.length ≤ 1000) (hs : num.size ≤ 1000) (hno : ∀ q l, Pm.rd x.bias 1 0 1 num.data.toList = some (q, l) → x.most < q) :
    Calls Tryz.prog 161 #[.pointer (some ⟨E, 0, none⟩)] w fun e w' => e = .returned (.bool false) ∧ Below B w w' := by
  obtain ⟨g, c, hE, hown, hgE, hBE, hEl⟩ := hD
  have hn1 := hx.n1; have hn2 := hx.n2; have hxi := hx.i
  have hml := Pm.most_le hx hl
  have hst := fun k => stepsTo_any E 1 x.n x.i x.L.length x.bias x.later 1114111 x.L.length (w.drewN k) (stAt_of hE) hn2 (Nat.le_refl _) hl hl (by omega)
  have hrd := fun W => readNumber_no num x.bias x.most W hs hb hml hno
  rw [show (1114111 - x.n) * (x.L.length + 1) + x.L.length - x.i = x.most from rfl] at hst
  have hstAt := stAt_of hE
  obtain ⟨c0, c1, c2, c3, c4⟩ := hstAt
  have c6 : w.cell? ⟨E, 6, none⟩ = some (.string num) := by rw [cell_of_row w E 6 _ 190 (0, 0) hE]; rfl
  clear hE hown hno hx
  generalize x.most = M at *
  generalize x.L.length = len at *
  generalize x.bias = bias at *
  go_enter Tryz.func161, Tryz.ntmps161
  go_wp2
  go_quiet ((go_at_call 171; exact Calls.quiet_of (hst _)))
  go_wp2
  obtain ⟨W1, hW1⟩ : ∃ W1, W1 = w.drewN nq := ⟨_, rfl⟩
  rw [← hW1]
  have d3 : W1.cell? ⟨E, 1 + 3, none⟩ = some (.int .i64 bias) := by rw [hW1]; exact c3
  have d6 : W1.cell? ⟨E, 6, none⟩ = some (.string num) := by rw [hW1]; exact c6
  have hB1 : Below B w W1 := by rw [hW1]; exact below_drewN (Below.refl _ _) _
  clear hW1
  go_quiet ((go_at_call 181; exact Calls.quiet_of (hrd _)))
  go_wp2
  go_ret
  exact ⟨rfl, below_drewN hB1 _⟩

def NextOk (E B : Nat) (x : Pm.St) (q : Nat) (l : List UInt8) (w : World) (e : Ending) (w' : World) : Prop :=
  (Pm.sign (x.step q).n = false ∧ e = .returned (.bool false) ∧ Below B w w') ∨
  (Pm.sign (x.step q).n = true ∧ e = .returned (.bool true) ∧ Below B w w' ∧ DecAt w' E B ((x.step q).insert q) ⟨l.toArray⟩)

set_option maxRecDepth 100000 in
set_option maxHeartbeats 4000000 in
theorem insertNext_yes (E B : Nat) (x : Pm.St) (num : ByteArray) (w : World) (hD : DecAt w E B x num) (hx : x.ok) (hb : x.bias ≤ 1099511627776) (hl : x.L.length ≤ 1000) (hs : num.size ≤ 1000) (q : Nat) (l : List UInt8) (hrdq : Pm.rd x.bias 1 0 1 num.data.toList = some (q, l)) (hq : q ≤ x.most) :
    Calls Tryz.prog 161 #[.pointer (some ⟨E, 0, none⟩)] w fun e w' => NextOk E B x q l w e w' := by
  obtain ⟨g, c, hE, hown, hgE, hBE, hEl⟩ := hD
  have hn1 := hx.n1; have hn2 := hx.n2; have hxi := hx.i
  have hml := Pm.most_le hx hl
  have hn' := (Pm.step_le hx q).2 hq
  have hi' := Pm.step_i (x := x) q
  have hst := fun k => stepsTo_any E 1 x.n x.i x.L.length x.bias x.later 1114111 x.L.length (w.drewN k) (stAt_of hE) hn2 (Nat.le_refl _) hl hl (by omega)
  have hrd := fun W => readNumber_yes num x.bias x.most W hs hb hml q l hrdq hq
  rw [show (1114111 - x.n) * (x.L.length + 1) + x.L.length - x.i = x.most from rfl] at hst
  have hstAt := stAt_of hE
  obtain ⟨c0, c1, c2, c3, c4⟩ := hstAt
  have c6 : w.cell? ⟨E, 6, none⟩ = some (.string num) := by rw [cell_of_row w E 6 _ 190 (0, 0) hE]; rfl
  have hwk := fun (W : World) (u : Value) (h : W.heap[E]? = some (.cells (dCells (.slice (some ⟨g, 0, none⟩) x.L.length c) x.n x.i x.L.length x.bias x.later u) 190 (0, 0))) => walkD_any E x.n x.i x.L.length x.bias x.later q _ u 190 W h hn2 (by omega) hl (by omega)
  have en : x.n + (x.i + q) / (x.L.length + 1) = (x.step q).n := rfl
  have ei : (x.i + q) % (x.L.length + 1) = (x.step q).i := rfl
  rw [en, ei] at hwk
  obtain ⟨n', hnn⟩ : ∃ n', (x.step q).n = n' := ⟨_, rfl⟩
  obtain ⟨i', hii⟩ : ∃ i', (x.step q).i = i' := ⟨_, rfl⟩
  have HNN : Hid ((x.step q).n = n') := hnn
  have HII : Hid ((x.step q).i = i') := hii
  rw [hnn, hii] at hwk
  have hlen : (x.step q).L.length = x.L.length := rfl
  rw [hlen, hii] at hi'
  rw [hnn] at hn'
  obtain ⟨rest, hrest⟩ : ∃ rest : ByteArray, rest = ⟨l.toArray⟩ := ⟨_, rfl⟩
  rw [← hrest] at hrd
  have HRS : Hid (rest = ⟨l.toArray⟩) := hrest
  have HOW : Hid (w.ownsRow B 21 1 (.slice (some ⟨g, 0, none⟩) x.L.length c) x.L.length (x.L.map rv)) := hown
  have HEE : Hid (w.heap[E]? = some (.cells (dCells (.slice (some ⟨g, 0, none⟩) x.L.length c) x.n x.i x.L.length x.bias x.later (.string num)) 190 (0, 0))) := hE
  have hq2 : q ≤ 1115226111 := by omega
  have HB : Hid (B ≤ w.heap.size) := by unfold Hid; omega
  clear hE hown hx hrest hnn hii hlen hrdq hq en ei
  obtain ⟨M, hM⟩ : ∃ M, x.most = M := ⟨_, rfl⟩
  rw [hM] at hst hrd hml
  clear hM
  go_enter Tryz.func161, Tryz.ntmps161
  go_wp2
  go_quiet ((go_at_call 171; exact Calls.quiet_of (hst _)))
  go_wp2
  obtain ⟨W1, hW1⟩ : ∃ W1, W1 = w.drewN nq := ⟨_, rfl⟩
  rw [← hW1]
  have d3 : W1.cell? ⟨E, 1 + 3, none⟩ = some (.int .i64 x.bias) := by rw [hW1]; exact c3
  have d6 : W1.cell? ⟨E, 6, none⟩ = some (.string num) := by rw [hW1]; exact c6
  have HG1 : Hid (w.grownBy W1 (some E) ∧ W1.heap = w.heap) := by rw [hW1]; exact ⟨grown_drewN (World.grownBy.refl _ _) _, rfl⟩
  have f6 : W1.frozen? ⟨E, 6, none⟩ = false := by rw [hW1]; exact unfrozen HEE.out 6
  clear hW1 hst c0 c1 c2 c3 c4 c6
  go_quiet ((go_at_call 181; exact Calls.quiet_of (hrd _)))
  go_wp2_with fail
  refine (hwk _ (.string rest) (setCell_row (by rw [show (W1.drewN nq).heap = W1.heap from rfl, HG1.out.2]; exact HEE.out) 6 _)).mono ?_
  rintro e w3 ⟨rfl, hE3, hg3⟩
  obtain ⟨c0, c1, c2, c3, c4⟩ := stAt_of hE3
  have hgr : w.grownBy w3 (some E) := grown_trans (grown_trans HG1.out.1 (grown_setCell (grown_drewN (World.grownBy.refl _ _) _) _ _)) hg3
  have HE3 : Hid (w3.heap[E]? = some (.cells (dCells (.slice (some ⟨g, 0, none⟩) x.L.length c) n' i' x.L.length x.bias x.later (.string rest)) 190 (0, 0))) := hE3
  have HGR : Hid (w.grownBy w3 (some E)) := hgr
  have HO3 : Hid (w3.ownsRow B 21 1 (.slice (some ⟨g, 0, none⟩) x.L.length c) x.L.length (x.L.map rv)) := HOW.out.kept hgr (Or.inr (by simp [Value.ownBlock]; exact hgE))
  clear hE3 hg3 hgr hwk d3 d6 f6 HG1 HEE HOW
  have his := fun W => isSign_any n' W
  have HSS : Hid (Pm.sign (x.step q).n = Pm.sign n') := by unfold Hid; rw [HNN.out]
  obtain ⟨sg, hsg⟩ : ∃ sg, Pm.sign n' = sg := ⟨_, rfl⟩
  have HSG : Hid (Pm.sign n' = sg) := hsg
  rw [hsg] at his
  clear hsg
  cases sg with
  | false =>
    go_wp2_with (go_at_call 183; refine (his _).mono ?_; rintro e w' ⟨rfl, rfl⟩)
    go_ret
    exact Or.inl ⟨by rw [HSS.out, HSG.out], rfl, below_of_grown HGR.out hBE HB.out⟩
  | true =>
    have hti := fun W (hW : W.heap = w3.heap) => textInsert_any E 0 g x.L.length c i' n' B x.L W (dCells (.slice (some ⟨g, 0, none⟩) x.L.length c) n' i' x.L.length x.bias x.later (.string rest)) 190 (by decide) (by rw [hW]; exact HE3.out) rfl (by have h := HO3.out; exact ⟨h.1, by rw [hW]; exact h.2⟩) hgE (by omega) (by omega) hBE
    have hti2 : Calls Tryz.prog 184 #[.pointer (some ⟨E, 0, none⟩), .int .i64 i', .int .i32 n'] w3.drew fun e w' => e = .returned (.tuple #[]) ∧ w'.cell? ⟨E, 1, none⟩ = some (.int .i64 n') ∧ w'.cell? ⟨E, 2, none⟩ = some (.int .i64 i') ∧
        Hid (∃ g' c', w'.heap[E]? = some (.cells (dCells (.slice (some ⟨g', 0, none⟩) (x.L.length + 1) c') n' i' x.L.length x.bias x.later (.string rest)) 190 (0, 0)) ∧ w'.ownsRow B 21 1 (.slice (some ⟨g', 0, none⟩) (x.L.length + 1) c') (x.L.length + 1) ((x.L.take i' ++ n' :: x.L.drop i').map rv) ∧ g' ≠ E ∧ Below B w3 w') := by
      refine (hti w3.drew rfl).mono ?_
      rintro e w' ⟨rfl, g', c', w4, rfl, ho4, hg4, hg4E⟩
      have hblk : w4.heap[E]? = w3.heap[E]? := hg4.block E (Array.getElem?_eq_some_iff.1 HE3.out).1 (fun e => hgE (Option.some.inj e).symm)
      have hE5 := setCell_row (hblk.trans HE3.out) 0 (.slice (some ⟨g', 0, none⟩) (x.L.length + 1) c')
      have hgs : w4.grownBy (w4.setCell ⟨E, 0, none⟩ (.slice (some ⟨g', 0, none⟩) (x.L.length + 1) c')) (some E) := grown_setCell (World.grownBy.refl _ _) _ _
      have hBg := (own_some HO3.out).1
      refine ⟨rfl, by rw [cell_of_row _ E 1 _ 190 (0, 0) hE5]; rfl, by rw [cell_of_row _ E 2 _ 190 (0, 0) hE5]; rfl, g', c', hE5, ho4.kept hgs (Or.inr (by simp [Value.ownBlock]; exact hg4E)), hg4E, ?_⟩
      have hb4 : Below B w3 w4 := ⟨hg4.os, hg4.tape, hg4.output, hg4.size, fun k hk => hg4.block k (Nat.lt_of_lt_of_le hk (by have := (own_some HO3.out).2.1; show B ≤ w3.heap.size; omega)) (fun e => by have := Option.some.inj e; omega)⟩
      exact hb4.setCell (p := ⟨E, 0, none⟩) hBE _
    clear hti
    have c1' : w3.cell? ⟨E, 2, none⟩ = some (.int .i64 i') := c1
    clear c1 c2 c3 c4
    have hwr : IntKind.i32.wrap (n' : Int) = n' := by rw [IntKind.wrap_i32]; omega
    go_wp2_with (go_at_call 183; refine (his _).mono ?_; rintro e w' ⟨rfl, hw'⟩; rw [hw']; clear hw')
    go_region_held3 (fun W => W.cell? ⟨E, 1, none⟩ = some (.int .i64 n') ∧ W.cell? ⟨E, 2, none⟩ = some (.int .i64 i')) (go_keep) ((go_at_call 184; refine hti2.mono ?_; rintro e w5 ⟨rfl, k1, k2, h5⟩))
    clear hti2 c0 c1'
    obtain ⟨g', c', hE5, ho5, hg5E, hB5⟩ := h5.out
    have hse := fun W (hW : W.heap[E]? = _) => settleD_any E n' i' x.L.length x.bias x.later q (.slice (some ⟨g', 0, none⟩) (x.L.length + 1) c') (.string rest) 190 W hW (by omega) hl hq2
    have HE5 : Hid (w5.heap[E]? = some (.cells (dCells (.slice (some ⟨g', 0, none⟩) (x.L.length + 1) c') n' i' x.L.length x.bias x.later (.string rest)) 190 (0, 0))) := hE5
    have HO5 : Hid (w5.ownsRow B 21 1 (.slice (some ⟨g', 0, none⟩) (x.L.length + 1) c') (x.L.length + 1) ((x.L.take i' ++ n' :: x.L.drop i').map rv)) := ho5
    have HB5 : Hid (Below B w3 w5) := hB5
    clear hE5 ho5 hB5 h5
    go_wp2_with fail
    refine (hse _ HE5.out).mono ?_
    rintro e w6 ⟨rfl, hE6, hg6⟩
    have HE6 : Hid (w6.heap[E]? = some (.cells (dCells (.slice (some ⟨g', 0, none⟩) (x.L.length + 1) c') n' (i' + 1) (x.L.length + 1) (Pm.biasN q (x.L.length + 1) (!x.later)) true (.string rest)) 190 (0, 0))) := hE6
    have HG6 : Hid (w5.grownBy w6 (some E)) := hg6
    clear hE6 hg6 hse
    go_wp2
    go_ret
    have hb3 := below_of_grown HGR.out hBE HB.out
    have hs5 : B ≤ w5.heap.size := by have h1 := HB5.out.size; have h2 := hb3.size; have h3 := HB.out; omega
    have hb6 : Below B w w6 := (hb3.trans HB5.out).trans (below_of_grown HG6.out hBE hs5)
    refine Or.inr ⟨by rw [HSS.out, HSG.out], rfl, hb6, g', c', ?_, ?_, hg5E, hBE, ?_⟩
    · have eL : ((x.step q).insert q).L.length = x.L.length + 1 := Pm.insert_len (x.step q) q (Pm.step_i q)
      have e1 : ((x.step q).insert q).n = n' := HNN.out
      have e2 : ((x.step q).insert q).i = i' + 1 := by show (x.step q).i + 1 = _; rw [HII.out]
      have e3 : ((x.step q).insert q).bias = Pm.biasN q (x.L.length + 1) (!x.later) := rfl
      have e4 : ((x.step q).insert q).later = true := rfl
      rw [eL, e1, e2, e3, e4, ← HRS.out]
      exact HE6.out
    · have eL : ((x.step q).insert q).L.length = x.L.length + 1 := Pm.insert_len (x.step q) q (Pm.step_i q)
      have e1 : ((x.step q).insert q).L = x.L.take i' ++ n' :: x.L.drop i' := by show (x.step q).L.take (x.step q).i ++ (x.step q).n :: (x.step q).L.drop (x.step q).i = _; rw [HNN.out, HII.out]; rfl
      rw [eL, e1]
      exact HO5.out.kept HG6.out (Or.inr (by simp [Value.ownBlock]; exact hg5E))
    · have h1 := (Array.getElem?_eq_some_iff.1 HE6.out).1
      exact h1
end Go.Proofs.YtkaaldhejpaiiaaGreatDoor
