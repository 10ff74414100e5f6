/- writeASCII, others (under what Sort and Compact do), newEncoder. -/
import Derived.Test.YtkaaldhejpaiiaaGreatDoorQc
namespace Go.Proofs.YtkaaldhejpaiiaaGreatDoor
open Go.RowKit

def ascF (L : List Nat) : List UInt8 := (L.filter (· < 128)).map UInt8.ofNat
theorem ascF_snoc (l : List Nat) (m : Nat) : ascF (l ++ [m]) = if m < 128 then ascF l ++ [UInt8.ofNat m] else ascF l := by
  unfold ascF
  rw [List.filter_append]
  by_cases h : m < 128 <;> simp [h]
theorem ascF_len (l : List Nat) : (ascF l).length ≤ l.length := by unfold ascF; rw [List.length_map]; exact List.length_filter_le _ _
theorem take_snoc_nat {L : List Nat} {k : Nat} (h : k < L.length) : L.take (k + 1) = L.take k ++ [L[k]] := List.take_succ_eq_append_getElem h

set_option maxRecDepth 100000 in
set_option maxHeartbeats 4000000 in
theorem writeASCII_any (E B : Nat) (x : Es) (L : List Nat) (w : World) (hD0 : EncX w E B x L) (hx : x.form = []) (hL : L.length ≤ 1000) (hM : ∀ m ∈ L, m ≤ 1114111) :
    Calls Tryz.prog 143 #[.pointer (some ⟨E, 0, none⟩)] w fun e w' => e = .returned (.tuple #[]) ∧ EncX w' E B { x with form := ascF L } L ∧ KT B w w' := by
  obtain ⟨i0, hi, hz0, hz1, hz2⟩ := info_parts info5
  have c0 : ∃ g c, w.cell? ⟨E, 0, none⟩ = some (.slice (some ⟨g, 0, none⟩) L.length c) := by
    obtain ⟨g, c, fv, hE, _⟩ := hD0
    exact ⟨g, c, by rw [cell_of_row w E 0 _ 176 (0, 0) hE]; rfl⟩
  obtain ⟨g0, c0', hc0⟩ := c0
  have hcnt := count_any E 0 _ _ _ w hc0
  go_enter Tryz.func143, Tryz.ntmps143
  go_wp2_with (go_at_call 94; refine hcnt.mono ?_; rintro e w' ⟨rfl, hw'⟩; rw [hw']; clear hw')
  go_loopw [8] (fun pl wr => ∃ k : Nat, k ≤ L.length ∧ pl = .int .i64 k ∧ EncX wr E B { x with form := ascF (L.take k) } L ∧ KT B w wr) (fun pl _ => L.length - (intOf pl).toNat)
  case atStart => exact ⟨0, by omega, rfl, by rw [List.take_zero]; show EncX w E B { x with form := [] } L; rw [← hx]; exact hD0, KT.refl _ _⟩
  case round =>
    obtain ⟨k, hk, rfl, hD, hkt⟩ := hrel
    have HKT : Hid (KT B w wr) := hkt
    have HD : Hid (EncX wr E B { x with form := ascF (L.take k) } L) := hD
    clear hkt hD0 hcnt hc0 hD hx
    by_cases hlt : k < L.length
    · have hgm := hM L[k] (List.getElem_mem hlt)
      have HT : Hid (L.take (k + 1) = L.take k ++ [L[k]]) := take_snoc_nat hlt
      obtain ⟨m, hm⟩ : ∃ m, L[k] = m := ⟨_, rfl⟩
      rw [hm] at hgm
      have HT2 : Hid (L.take (k + 1) = L.take k ++ [m]) := by unfold Hid; rw [HT.out, hm]
      obtain ⟨g, c, fv, hE, ho, hof, hBE, hEl⟩ := HD.out
      have hcell : wr.cell? ⟨g, k, none⟩ = some (rv m) := by
        have := ho.cells (g := g) rfl k (rv m) (by rw [List.getElem?_map, List.getElem?_eq_getElem hlt, hm]; rfl)
        rwa [Addr.add_lit, Nat.zero_add] at this
      have hc0 : wr.cell? ⟨E, 0, none⟩ = some (.slice (some ⟨g, 0, none⟩) L.length c) := by rw [cell_of_row wr E 0 _ 176 (0, 0) hE]; rfl
      have hat := at_any E 0 g L.length c k m wr hc0 hlt hcell
      unfold rv at hat
      by_cases h128 : (m : Int) < 128
      · have c6 : wr.cell? ⟨E, 6, none⟩ = some fv := by rw [cell_of_row wr E 6 _ 176 (0, 0) hE]; rfl
        have hwr : IntKind.u8.wrap (m : Int) = m := by rw [IntKind.wrap_u8]; omega
        obtain ⟨F, hF⟩ : ∃ F, ascF (L.take k) = F := ⟨_, rfl⟩
        have hFl : F.length ≤ 1000 := by rw [← hF]; have := ascF_len (L.take k); rw [List.length_take] at this; omega
        simp only [hF] at hE hof
        have HF : Hid (ascF (L.take k) = F) := hF
        have h63 : F.length + 1 ≤ maxLen := by unfold maxLen; omega
        have h47 : (F.length + 1) * 1 ≤ 140737488355328 := by omega
        have hbm : ((UInt8.ofNat m).toNat : Int) = m := by
          have : (UInt8.ofNat m).toNat = m % 256 := by simp
          rw [this]; omega
        have hBr : B ≤ (wr.alloc (.cells #[.int .u8 (m : Int)] 5)).heap.size := by simp; omega
        have HE : Hid (wr.heap[E]? = some (.cells (dCells (.slice (some ⟨g, 0, none⟩) L.length c) x.n x.i x.len x.bias x.b fv) 176 (0, 0))) := hE
        have HO : Hid (wr.ownsRow B 21 1 (.slice (some ⟨g, 0, none⟩) L.length c) L.length (L.map rv)) := ho
        have HBM : Hid (((UInt8.ofNat m).toNat : Int) = m) := hbm
        have hone : ∀ u ∈ [Value.int .u8 (m : Int)], u.oneCell' = true := by intro u hu; simp at hu; subst hu; rfl
        clear hE ho hcell hc0 hm HT hM hbm hF HD
        go_wp2_with (first | (go_at_call 97; refine hat.mono ?_; rintro e w' ⟨rfl, hw'⟩; rw [hw']; clear hw') | (at_builtin; refine wpList_append_own _ rfl (.tmp 22) (.tmp 25) 30 rfl B 5 i0 (.int .u8 0) 1 1 Tryz.underlying30 hi hz0 hz1 hz2 rfl (by decide) _ _ _ rfl (hof.alloc _) ⟨wr.heap.size, 0, none⟩ 1 1 [.int .u8 (m : Int)] rfl rfl (cell_one_new _ _ _) hone h63 h47 hBr ?_))
        intro v' w1 ho1 hgr hne
        obtain ⟨g', c', rfl⟩ := own5_some ho1 (by omega)
        have hk1 : K5 B wr w1 := ((K5.refl B wr).alloc (by omega) _).grown (hof.alloc _) hgr hBr
        have hE1 : w1.heap[E]? = some (.cells (dCells (.slice (some ⟨g, 0, none⟩) L.length c) x.n x.i x.len x.bias x.b fv) 176 (0, 0)) := hk1.typ E _ 176 (0, 0) HE.out (by decide)
        have k6 : w1.cell? ⟨E, 6, none⟩ = some fv := by rw [cell_of_row w1 E 6 _ 176 (0, 0) hE1]; rfl
        have kf : w1.frozen? ⟨E, 6, none⟩ = false := unfrozen hE1 6
        have HE1 : Hid (w1.heap[E]? = some (.cells (dCells (.slice (some ⟨g, 0, none⟩) L.length c) x.n x.i x.len x.bias x.b fv) 176 (0, 0))) := hE1
        have HK1 : Hid (K5 B wr w1) := hk1
        have HO1 : Hid (w1.ownsRow B 5 1 (.slice (some ⟨g', 0, none⟩) (F.length + 1) c') (F.length + 1) (F.map bv ++ [.int .u8 (m : Int)])) := ho1
        clear ho1 hgr hof hk1 hE1 hne c6 hat
        go_wp2
        go_roundw
        case rel =>
          have hgs : w1.grownBy (w1.setCell ⟨E, 6, none⟩ (.slice (some ⟨g', 0, none⟩) (F.length + 1) c')) (some E) := grown_setCell (World.grownBy.refl _ _) _ _
          have hkt1 := kt_of_grown hgs HE1.out hBE
          have hE2 := setCell_row HE1.out 6 (.slice (some ⟨g', 0, none⟩) (F.length + 1) c')
          have ef : ascF (L.take (k + 1)) = F ++ [UInt8.ofNat m] := by rw [HT2.out, ascF_snoc, if_pos (by omega), HF.out]
          refine ⟨k + 1, by omega, by go_num, ?_, (HKT.out.trans HK1.out.kt).trans hkt1⟩
          rw [ef]
          refine ⟨g, c, .slice (some ⟨g', 0, none⟩) (F.length + 1) c', hE2, hkt1.owns (HK1.out.owns HO.out (by decide)) (by decide) (by decide), ?_, hBE, (Array.getElem?_eq_some_iff.1 hE2).1⟩
          have h5 := owns5_grown HO1.out HE1.out hgs
          rw [← HBM.out] at h5
          rw [List.length_append, List.map_append]
          exact h5
        case measure => simp [intOf]; omega
      · have ef : ascF (L.take (k + 1)) = ascF (L.take k) := by rw [HT2.out, ascF_snoc, if_neg (by omega)]
        have HEF : Hid (ascF (L.take (k + 1)) = ascF (L.take k)) := ef
        clear ef hE ho hof hcell hc0 hm HT hM
        go_wp2_with (go_at_call 97; refine hat.mono ?_; rintro e w' ⟨rfl, hw'⟩; rw [hw']; clear hw')
        go_roundw
        case rel => exact ⟨k + 1, by omega, by go_num, by rw [HEF.out]; exact HD.out, HKT.out⟩
        case measure => simp [intOf]; omega
    · have e : L.take k = L := List.take_of_length_le (by omega)
      have HE : Hid (L.take k = L) := e
      clear e
      go_wp2
      go_end0
      exact ⟨rfl, by have := HD.out; rw [HE.out] at this; exact this, HKT.out⟩
end Go.Proofs.YtkaaldhejpaiiaaGreatDoor
