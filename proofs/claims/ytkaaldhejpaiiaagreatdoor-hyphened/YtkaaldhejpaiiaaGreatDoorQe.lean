/- others (under what Sort and Compact do), newEncoder, encode, Encode. -/
import Derived.Test.YtkaaldhejpaiiaaGreatDoorQd
import Derived.Test.YtkaaldhejpaiiaaGreatDoorValid
import Derived.Test.YtkaaldhejpaiiaaGreatDoorPl
namespace Go.Proofs.YtkaaldhejpaiiaaGreatDoor
open Go.RowKit

def SortOk (zs ms : List Nat) : Prop := ∀ (B : Nat) (w : World) (v : Value), w.ownsRow B 21 1 v zs.length (zs.map rv) → B ≤ w.heap.size →
  Calls Tryz.prog 168 #[v] w fun e w' => e = .returned (.tuple #[]) ∧ w'.ownsRow B 21 1 v ms.length (ms.map rv) ∧ Below B w w'
def CompOk (ms ys : List Nat) : Prop := ∀ (B : Nat) (w : World) (v : Value), w.ownsRow B 21 1 v ms.length (ms.map rv) → B ≤ w.heap.size →
  Calls Tryz.prog 169 #[v] w fun e w' => ∃ v', e = .returned v' ∧ w'.ownsRow B 21 1 v' ys.length (ys.map rv) ∧ Below B w w'

def oth (L : List Nat) : List Nat := L.filter (fun m => !decide (m < 128))
theorem oth_snoc (l : List Nat) (m : Nat) : oth (l ++ [m]) = if m < 128 then oth l else oth l ++ [m] := by
  unfold oth
  rw [List.filter_append]
  by_cases h : m < 128 <;> simp [h]
theorem oth_len (l : List Nat) : (oth l).length ≤ l.length := List.length_filter_le _ _

set_option maxRecDepth 100000 in
set_option maxHeartbeats 4000000 in
theorem others_any (E B : Nat) (x : Es) (L ms ys : List Nat) (w : World) (hD : EncX w E B x L) (hL : L.length ≤ 1000) (hM : ∀ m ∈ L, m ≤ 1114111) (hS : SortOk (oth L) ms) (hC : CompOk ms ys) :
    Calls Tryz.prog 145 #[.pointer (some ⟨E, 0, none⟩)] w fun e w' => ∃ v', e = .returned v' ∧ w'.ownsRow w.heap.size 21 1 v' ys.length (ys.map rv) ∧ Below w.heap.size w w' := by
  obtain ⟨i0, hi, hz0, hz1, hz2⟩ := info_parts info21
  obtain ⟨g, c, fv, hE, ho, hof, hBE, hEl⟩ := hD
  obtain ⟨hBg, hgl, _⟩ := own_some ho
  have hc0 : w.cell? ⟨E, 0, none⟩ = some (.slice (some ⟨g, 0, none⟩) L.length c) := by rw [cell_of_row w E 0 _ 176 (0, 0) hE]; rfl
  have hcells : ∀ j m, L[j]? = some m → w.cell? ⟨g, j, none⟩ = some (rv m) := fun j m hj => by
    have := ho.cells (g := g) rfl j (rv m) (by rw [List.getElem?_map, hj]; rfl)
    rwa [Addr.add_lit, Nat.zero_add] at this
  have hcnt := count_any E 0 _ _ _ w hc0
  clear hE ho hof
  go_enter Tryz.func145, Tryz.ntmps145
  go_wp2_with (go_at_call 94; refine hcnt.mono ?_; rintro e w' ⟨rfl, hw'⟩; rw [hw']; clear hw')
  go_loopw [3, 10] (fun v pl wr => ∃ k : Nat, k ≤ L.length ∧ pl = .int .i64 k ∧ wr.ownsRow w.heap.size 21 1 v (oth (L.take k)).length ((oth (L.take k)).map rv) ∧ Below w.heap.size w wr) (fun _ pl _ => L.length - (intOf pl).toNat)
  case atStart => exact ⟨0, by omega, rfl, World.ownsRow_nil _ _ _ _, Below.refl _ _⟩
  case round =>
    obtain ⟨k, hk, rfl, hov, hbw⟩ := hrel
    by_cases hlt : k < L.length
    · have hgm := hM L[k] (List.getElem_mem hlt)
      have HT : Hid (L.take (k + 1) = L.take k ++ [L[k]]) := take_snoc_nat hlt
      obtain ⟨m, hm⟩ : ∃ m, L[k] = m := ⟨_, rfl⟩
      rw [hm] at hgm
      have HT2 : Hid (L.take (k + 1) = L.take k ++ [m]) := by unfold Hid; rw [HT.out, hm]
      have hcell : wr.cell? ⟨g, k, none⟩ = some (rv m) := (hbw.cell (p := ⟨g, k, none⟩) hgl).trans (hcells k m (by rw [List.getElem?_eq_getElem hlt, hm]))
      have hcr : wr.cell? ⟨E, 0, none⟩ = some (.slice (some ⟨g, 0, none⟩) L.length c) := (hbw.cell (p := ⟨E, 0, none⟩) hEl).trans hc0
      have hat := at_any E 0 g L.length c k m wr hcr hlt hcell
      unfold rv at hat
      have HW : Hid (Below w.heap.size w wr) := hbw
      clear hcell hcr hm HT hcells hcnt hc0
      by_cases h128 : (m : Int) < 128
      · have ef : oth (L.take (k + 1)) = oth (L.take k) := by rw [HT2.out, oth_snoc, if_pos (by omega)]
        have HEF : Hid (oth (L.take (k + 1)) = oth (L.take k)) := ef
        have HOV : Hid (wr.ownsRow w.heap.size 21 1 u3 (oth (L.take k)).length ((oth (L.take k)).map rv)) := hov
        clear ef hov hbw
        go_wp2_with (go_at_call 97; refine hat.mono ?_; rintro e w' ⟨rfl, hw'⟩; rw [hw']; clear hw')
        go_roundw
        case rel => exact ⟨k + 1, by omega, by go_num, by rw [HEF.out]; exact HOV.out, HW.out⟩
        case measure => simp [intOf]; omega
      · obtain ⟨F, hF⟩ : ∃ F, oth (L.take k) = F := ⟨_, rfl⟩
        have hFl : F.length ≤ 1000 := by rw [← hF]; have := oth_len (L.take k); rw [List.length_take] at this; omega
        rw [hF] at hov
        have HF : Hid (oth (L.take k) = F) := hF
        have h63 : F.length + 1 ≤ maxLen := by unfold maxLen; omega
        have h47 : (F.length + 1) * 4 ≤ 140737488355328 := by omega
        have hBr : w.heap.size ≤ (wr.alloc (.cells #[.int .i32 (m : Int)] 21)).heap.size := by have := hbw.size; simp; omega
        have hone : ∀ u ∈ [Value.int .i32 (m : Int)], u.oneCell' = true := by intro u hu; simp at hu; subst hu; rfl
        clear hF
        go_wp2_with (first | (go_at_call 97; refine hat.mono ?_; rintro e w' ⟨rfl, hw'⟩; rw [hw']; clear hw') | (at_builtin; refine wpList_append_own _ rfl (.tmp 20) (.tmp 22) 48 rfl w.heap.size 21 i0 (.int .i32 0) 1 4 Tryz.underlying48 hi hz0 hz1 hz2 rfl (by decide) _ _ _ rfl (hov.alloc _) ⟨wr.heap.size, 0, none⟩ 1 1 [.int .i32 (m : Int)] rfl rfl (cell_one_new _ _ _) hone h63 h47 hBr ?_))
        intro v' w1 ho1 hgr _
        have HO1 : Hid (w1.ownsRow w.heap.size 21 1 v' (F.length + 1) (F.map rv ++ [rv m])) := ho1
        have HW1 : Hid (Below w.heap.size w w1) := (hbw.alloc hbw.size _).grown hgr (by have := hbw.size; simp; omega) (fun j hj => (hov.lt j hj).1)
        clear ho1 hgr hov hbw hat
        go_wp2
        go_roundw
        case rel =>
          have ef : oth (L.take (k + 1)) = F ++ [m] := by rw [HT2.out, oth_snoc, if_neg (by omega), HF.out]
          refine ⟨k + 1, by omega, by go_num, ?_, HW1.out⟩
          rw [ef, List.length_append, List.map_append]
          exact HO1.out
        case measure => simp [intOf]; omega
    · have e : L.take k = L := List.take_of_length_le (by omega)
      rw [e] at hov
      have hs := hS w.heap.size wr u3 hov hbw.size
      have HW : Hid (Below w.heap.size w wr) := hbw
      clear e hov hcells hcnt hc0 hbw
      go_wp2_with fail
      refine hs.mono ?_
      rintro e w2 ⟨rfl, ho2, hb2⟩
      have hs2 : w.heap.size ≤ w2.heap.size := by have h1 := HW.out.size; have h2 := hb2.size; omega
      have hcp := hC w.heap.size w2 u3 ho2 hs2
      have HB2 : Hid (Below w.heap.size wr w2) := hb2
      clear ho2 hb2 hs
      go_wp2_with fail
      refine hcp.mono ?_
      rintro e w3 ⟨v', rfl, ho3, hb3⟩
      have HO3 : Hid (w3.ownsRow w.heap.size 21 1 v' ys.length (ys.map rv)) := ho3
      have HB3 : Hid (Below w.heap.size w2 w3) := hb3
      clear ho3 hb3 hcp
      go_wp2
      go_ret
      exact ⟨v', rfl, HO3.out, (HW.out.trans HB2.out).trans HB3.out⟩
end Go.Proofs.YtkaaldhejpaiiaaGreatDoor
