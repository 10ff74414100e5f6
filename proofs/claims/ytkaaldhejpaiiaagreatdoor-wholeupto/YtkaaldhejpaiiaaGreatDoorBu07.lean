import Derived.Test.YtkaaldhejpaiiaaGreatDoorBu06
import Derived.Shelf.Unicode.ValidAny
import Derived.Test.YtkaaldhejpaiiaaGreatDoorProg
import Derived.Deep.RegionHeld3
import Derived.Deep.LoopGhost
import Derived.Laws.RangeString
/- writeASCII, others (under what Sort and Compact do), newEncoder. -/
namespace Go.Proofs.YtkaaldhejpaiiaaGreatDoor
open Go.RowKit

def ascF (L : List Nat) : List UInt8 := (L.filter (· < 128)).map UInt8.ofNat
theorem ascF_snoc (l : List Nat) (m : Nat) : ascF (l ++ [m]) = if m < 128 then ascF l ++ [UInt8.ofNat m] else ascF l := by
  unfold ascF
  rw [List.filter_append]
  by_cases h : m < 128 <;> simp [h]
theorem ascF_len (l : List Nat) : (ascF l).length ≤ l.length := by unfold ascF; rw [List.length_map]; exact List.length_filter_le _ _
theorem take_snoc_nat {L : List Nat} {k : Nat} (h : k < L.length) : L.take (k + 1) = L.take k ++ [L[k]] := List.take_succ_eq_append_getElem h

set_option maxRecDepth 100000 in
set_option maxHeartbeats 4000000 in
theorem writeASCII_any (E B : Nat) (x : Es) (L : List Nat) (w : World) (hD0 : EncX w E B x L) (hx : x.form = []) (hL : L.length ≤ 1000) (hM : ∀ m ∈ L, m ≤ 1114111) :
    Calls Tryz.prog 143 #[.pointer (some ⟨E, 0, none⟩)] w fun e w' => e = .returned (.tuple #[]) ∧ EncX w' E B { x with form := ascF L } L ∧ KT B w w' := by
  obtain ⟨i0, hi, hz0, hz1, hz2⟩ := info_parts info5
  have c0 : ∃ g c, w.cell? ⟨E, 0, none⟩ = some (.slice (some ⟨g, 0, none⟩) L.length c) := by
    obtain ⟨g, c, fv, hE, _⟩ := hD0
    exact ⟨g, c, by rw [cell_of_row w E 0 _ 176 (0, 0) hE]; rfl⟩
  obtain ⟨g0, c0', hc0⟩ := c0
  have hcnt := count_any E 0 _ _ _ w hc0
  go_enter Tryz.func143, Tryz.ntmps143
  go_wp2_with (go_at_call 94; refine hcnt.mono ?_; rintro e w' ⟨rfl, hw'⟩; rw [hw']; clear hw')
  go_loopw [8] (fun pl wr => ∃ k : Nat, k ≤ L.length ∧ pl = .int .i64 k ∧ EncX wr E B { x with form := ascF (L.take k) } L ∧ KT B w wr) (fun pl _ => L.length - (intOf pl).toNat)
  case atStart => exact ⟨0, by omega, rfl, by rw [List.take_zero]; show EncX w E B { x with form := [] } L; rw [← hx]; exact hD0, KT.refl _ _⟩
  case round =>
    obtain ⟨k, hk, rfl, hD, hkt⟩ := hrel
    have HKT : Hid (KT B w wr) := hkt
    have HD : Hid (EncX wr E B { x with form := ascF (L.take k) } L) := hD
    clear hkt hD0 hcnt hc0 hD hx
    by_cases hlt : k < L.length
    · have hgm := hM L[k] (List.getElem_mem hlt)
      have HT : Hid (L.take (k + 1) = L.take k ++ [L[k]]) := take_snoc_nat hlt
      obtain ⟨m, hm⟩ : ∃ m, L[k] = m := ⟨_, rfl⟩
      rw [hm] at hgm
      have HT2 : Hid (L.take (k + 1) = L.take k ++ [m]) := by unfold Hid; rw [HT.out, hm]
      obtain ⟨g, c, fv, hE, ho, hof, hBE, hEl⟩ := HD.out
      have hcell : wr.cell? ⟨g, k, none⟩ = some (rv m) := by
        have := ho.cells (g := g) rfl k (rv m) (by rw [List.getElem?_map, List.getElem?_eq_getElem hlt, hm]; rfl)
        rwa [Addr.add_lit, Nat.zero_add] at this
      have hc0 : wr.cell? ⟨E, 0, none⟩ = some (.slice (some ⟨g, 0, none⟩) L.length c) := by rw [cell_of_row wr E 0 _ 176 (0, 0) hE]; rfl
      have hat := at_any E 0 g L.length c k m wr hc0 hlt hcell
      unfold rv at hat
      by_cases h128 : (m : Int) < 128
      · have c6 : wr.cell? ⟨E, 6, none⟩ = some fv := by rw [cell_of_row wr E 6 _ 176 (0, 0) hE]; rfl
        have hwr : IntKind.u8.wrap (m : Int) = m := by rw [IntKind.wrap_u8]; omega
        obtain ⟨F, hF⟩ : ∃ F, ascF (L.take k) = F := ⟨_, rfl⟩
        have hFl : F.length ≤ 1000 := by rw [← hF]; have := ascF_len (L.take k); rw [List.length_take] at this; omega
        simp only [hF] at hE hof
        have HF : Hid (ascF (L.take k) = F) := hF
        have h63 : F.length + 1 ≤ maxLen := by unfold maxLen; omega
        have h47 : (F.length + 1) * 1 ≤ 140737488355328 := by omega
        have hbm : ((UInt8.ofNat m).toNat : Int) = m := by
          have : (UInt8.ofNat m).toNat = m % 256 := by simp
          rw [this]; omega
        have hBr : B ≤ (wr.alloc (.cells #[.int .u8 (m : Int)] 5)).heap.size := by simp; omega
        have HE : Hid (wr.heap[E]? = some (.cells (dCells (.slice (some ⟨g, 0, none⟩) L.length c) x.n x.i x.len x.bias x.b fv) 176 (0, 0))) := hE
        have HO : Hid (wr.ownsRow B 21 1 (.slice (some ⟨g, 0, none⟩) L.length c) L.length (L.map rv)) := ho
        have HBM : Hid (((UInt8.ofNat m).toNat : Int) = m) := hbm
        have hone : ∀ u ∈ [Value.int .u8 (m : Int)], u.oneCell' = true := by intro u hu; simp at hu; subst hu; rfl
        clear hE ho hcell hc0 hm HT hM hbm hF HD
        go_wp2_with (first | (go_at_call 97; refine hat.mono ?_; rintro e w' ⟨rfl, hw'⟩; rw [hw']; clear hw') | (at_builtin; refine wpList_append_own _ rfl (.tmp 22) (.tmp 25) 30 rfl B 5 i0 (.int .u8 0) 1 1 Tryz.underlying30 hi hz0 hz1 hz2 rfl (by decide) _ _ _ rfl (hof.alloc _) ⟨wr.heap.size, 0, none⟩ 1 1 [.int .u8 (m : Int)] rfl rfl (cell_one_new _ _ _) hone h63 h47 hBr ?_))
        intro v' w1 ho1 hgr hne
        obtain ⟨g', c', rfl⟩ := own5_some ho1 (by omega)
        have hk1 : K5 B wr w1 := ((K5.refl B wr).alloc (by omega) _).grown (hof.alloc _) hgr hBr
        have hE1 : w1.heap[E]? = some (.cells (dCells (.slice (some ⟨g, 0, none⟩) L.length c) x.n x.i x.len x.bias x.b fv) 176 (0, 0)) := hk1.typ E _ 176 (0, 0) HE.out (by decide)
        have k6 : w1.cell? ⟨E, 6, none⟩ = some fv := by rw [cell_of_row w1 E 6 _ 176 (0, 0) hE1]; rfl
        have kf : w1.frozen? ⟨E, 6, none⟩ = false := unfrozen hE1 6
        have HE1 : Hid (w1.heap[E]? = some (.cells (dCells (.slice (some ⟨g, 0, none⟩) L.length c) x.n x.i x.len x.bias x.b fv) 176 (0, 0))) := hE1
        have HK1 : Hid (K5 B wr w1) := hk1
        have HO1 : Hid (w1.ownsRow B 5 1 (.slice (some ⟨g', 0, none⟩) (F.length + 1) c') (F.length + 1) (F.map bv ++ [.int .u8 (m : Int)])) := ho1
        clear ho1 hgr hof hk1 hE1 hne c6 hat
        go_wp2
        go_roundw
        case rel =>
          have hgs : w1.grownBy (w1.setCell ⟨E, 6, none⟩ (.slice (some ⟨g', 0, none⟩) (F.length + 1) c')) (some E) := grown_setCell (World.grownBy.refl _ _) _ _
          have hkt1 := kt_of_grown hgs HE1.out hBE
          have hE2 := setCell_row HE1.out 6 (.slice (some ⟨g', 0, none⟩) (F.length + 1) c')
          have ef : ascF (L.take (k + 1)) = F ++ [UInt8.ofNat m] := by rw [HT2.out, ascF_snoc, if_pos (by omega), HF.out]
          refine ⟨k + 1, by omega, by go_num, ?_, (HKT.out.trans HK1.out.kt).trans hkt1⟩
          rw [ef]
          refine ⟨g, c, .slice (some ⟨g', 0, none⟩) (F.length + 1) c', hE2, hkt1.owns (HK1.out.owns HO.out (by decide)) (by decide) (by decide), ?_, hBE, (Array.getElem?_eq_some_iff.1 hE2).1⟩
          have h5 := owns5_grown HO1.out HE1.out hgs
          rw [← HBM.out] at h5
          rw [List.length_append, List.map_append]
          exact h5
        case measure => simp [intOf]; omega
      · have ef : ascF (L.take (k + 1)) = ascF (L.take k) := by rw [HT2.out, ascF_snoc, if_neg (by omega)]
        have HEF : Hid (ascF (L.take (k + 1)) = ascF (L.take k)) := ef
        clear ef hE ho hof hcell hc0 hm HT hM
        go_wp2_with (go_at_call 97; refine hat.mono ?_; rintro e w' ⟨rfl, hw'⟩; rw [hw']; clear hw')
        go_roundw
        case rel => exact ⟨k + 1, by omega, by go_num, by rw [HEF.out]; exact HD.out, HKT.out⟩
        case measure => simp [intOf]; omega
    · have e : L.take k = L := List.take_of_length_le (by omega)
      have HE : Hid (L.take k = L) := e
      clear e
      go_wp2
      go_end0
      exact ⟨rfl, by have := HD.out; rw [HE.out] at this; exact this, HKT.out⟩
end Go.Proofs.YtkaaldhejpaiiaaGreatDoor

/- unicode/utf8.ValidString at this dump: the kit's contract, laid. -/
namespace Go.Proofs.YtkaaldhejpaiiaaGreatDoor
open Go.Shelf
def laysValid_ren : Go.Shelf.Ren := ⟨fun | 196 => 52 | 259 => 86 | n => n, fun | 9 => 9 | 4 => 4 | 3 => 3 | 5 => 5 | 12 => 12 | 119 => 125 | 0 => 0 | 46 => 110 | 139 => 128 | 138 => 127 | 53 => 157 | n => n, fun | 3 => 1 | 4 => 2 | n => n⟩
theorem laysValid : Go.Proofs.Lays.n196 Tryz.prog laysValid_ren := {
  mixed := by kernel_rfl
  f196 := Tryz.func52.trans (congrArg some (by kernel_rfl))
  f259 := Tryz.func86.trans (congrArg some (by kernel_rfl))
  t0 := Tryz.underlying0
  a0 := Tryz.isAgg0
  z0 := Tryz.sizeOf0
  v0 := Tryz.zeroValue0
  t3 := Tryz.underlying3
  a3 := Tryz.isAgg3
  z3 := Tryz.sizeOf3
  v3 := Tryz.zeroValue3
  t4 := Tryz.underlying4
  a4 := Tryz.isAgg4
  z4 := Tryz.sizeOf4
  v4 := Tryz.zeroValue4
  t5 := Tryz.underlying5
  a5 := Tryz.isAgg5
  z5 := Tryz.sizeOf5
  v5 := Tryz.zeroValue5
  t9 := Tryz.underlying9
  a9 := Tryz.isAgg9
  z9 := Tryz.sizeOf9
  v9 := Tryz.zeroValue9
  t12 := Tryz.underlying12
  a12 := Tryz.isAgg12
  z12 := Tryz.sizeOf12
  v12 := Tryz.zeroValue12
  t46 := Tryz.underlying110
  a46 := Tryz.isAgg110
  z46 := Tryz.sizeOf110
  v46 := Tryz.zeroValue110
  t53 := Tryz.underlying157
  a53 := Tryz.isAgg157
  z53 := Tryz.sizeOf157
  v53 := Tryz.zeroValue157
  t119 := Tryz.underlying125
  a119 := Tryz.isAgg125
  z119 := Tryz.sizeOf125
  t138 := Tryz.underlying127
  a138 := Tryz.isAgg127
  z138 := Tryz.sizeOf127
  v138 := Tryz.zeroValue127
  t139 := Tryz.underlying128
  a139 := Tryz.isAgg128
  z139 := Tryz.sizeOf128
  v139 := Tryz.zeroValue128
  g3 := by kernel_rfl
  g4 := by kernel_rfl }
theorem valid_any (s : ByteArray) (w : World) (hs : s.size ≤ 9223372036854775807) (hT : Lib.Utf8Tabs 1 2 w) :
    Calls Tryz.prog 52 #[.string s] w fun e w' => e = .returned (.bool (Lib.validD s.data.toList)) ∧ RowKit.Below w.heap.size w w' :=
  Any.utf8_ValidString laysValid s w hs hT
end Go.Proofs.YtkaaldhejpaiiaaGreatDoor

/- insertNext. -/
namespace Go.Proofs.YtkaaldhejpaiiaaGreatDoor
open Go.RowKit

theorem drewN_heap (w : World) (k : Nat) : (w.drewN k).heap = w.heap := rfl
theorem below_of_grown {B : Nat} {w w' : World} {r : Nat} (h : w.grownBy w' (some r)) (hB : B ≤ r) (hs : B ≤ w.heap.size) : Below B w w' :=
  ⟨h.os, h.tape, h.output, h.size, fun k hk => h.block k (by omega) (fun e => by have := Option.some.inj e; omega)⟩

set_option maxRecDepth 100000 in
set_option maxHeartbeats 2000000 in
theorem insertNext_no (E B : Nat) (x : Pm.St) (num : ByteArray) (w : World) (hD : DecAt w E B x num) (hx : x.ok) (hb : x.bias ≤ 1099511627776) (hl : x.L.length ≤ 1000) (hs : num.size ≤ 1000) (hno : ∀ q l, Pm.rd x.bias 1 0 1 num.data.toList = some (q, l) → x.most < q) :
    Calls Tryz.prog 161 #[.pointer (some ⟨E, 0, none⟩)] w fun e w' => e = .returned (.bool false) ∧ Below B w w' := by
  obtain ⟨g, c, hE, hown, hgE, hBE, hEl⟩ := hD
  have hn1 := hx.n1; have hn2 := hx.n2; have hxi := hx.i
  have hml := Pm.most_le hx hl
  have hst := fun k => stepsTo_any E 1 x.n x.i x.L.length x.bias x.later 1114111 x.L.length (w.drewN k) (stAt_of hE) hn2 (Nat.le_refl _) hl hl (by omega)
  have hrd := fun W => readNumber_no num x.bias x.most W hs hb hml hno
  rw [show (1114111 - x.n) * (x.L.length + 1) + x.L.length - x.i = x.most from rfl] at hst
  have hstAt := stAt_of hE
  obtain ⟨c0, c1, c2, c3, c4⟩ := hstAt
  have c6 : w.cell? ⟨E, 6, none⟩ = some (.string num) := by rw [cell_of_row w E 6 _ 190 (0, 0) hE]; rfl
  clear hE hown hno hx
  generalize x.most = M at *
  generalize x.L.length = len at *
  generalize x.bias = bias at *
  go_enter Tryz.func161, Tryz.ntmps161
  go_wp2
  go_quiet ((go_at_call 171; exact Calls.quiet_of (hst _)))
  go_wp2
  obtain ⟨W1, hW1⟩ : ∃ W1, W1 = w.drewN nq := ⟨_, rfl⟩
  rw [← hW1]
  have d3 : W1.cell? ⟨E, 1 + 3, none⟩ = some (.int .i64 bias) := by rw [hW1]; exact c3
  have d6 : W1.cell? ⟨E, 6, none⟩ = some (.string num) := by rw [hW1]; exact c6
  have hB1 : Below B w W1 := by rw [hW1]; exact below_drewN (Below.refl _ _) _
  clear hW1
  go_quiet ((go_at_call 181; exact Calls.quiet_of (hrd _)))
  go_wp2
  go_ret
  exact ⟨rfl, below_drewN hB1 _⟩

def NextOk (E B : Nat) (x : Pm.St) (q : Nat) (l : List UInt8) (w : World) (e : Ending) (w' : World) : Prop :=
  (Pm.sign (x.step q).n = false ∧ e = .returned (.bool false) ∧ Below B w w') ∨
  (Pm.sign (x.step q).n = true ∧ e = .returned (.bool true) ∧ Below B w w' ∧ DecAt w' E B ((x.step q).insert q) ⟨l.toArray⟩)

set_option maxRecDepth 100000 in
set_option maxHeartbeats 4000000 in
theorem insertNext_yes (E B : Nat) (x : Pm.St) (num : ByteArray) (w : World) (hD : DecAt w E B x num) (hx : x.ok) (hb : x.bias ≤ 1099511627776) (hl : x.L.length ≤ 1000) (hs : num.size ≤ 1000) (q : Nat) (l : List UInt8) (hrdq : Pm.rd x.bias 1 0 1 num.data.toList = some (q, l)) (hq : q ≤ x.most) :
    Calls Tryz.prog 161 #[.pointer (some ⟨E, 0, none⟩)] w fun e w' => NextOk E B x q l w e w' := by
  obtain ⟨g, c, hE, hown, hgE, hBE, hEl⟩ := hD
  have hn1 := hx.n1; have hn2 := hx.n2; have hxi := hx.i
  have hml := Pm.most_le hx hl
  have hn' := (Pm.step_le hx q).2 hq
  have hi' := Pm.step_i (x := x) q
  have hst := fun k => stepsTo_any E 1 x.n x.i x.L.length x.bias x.later 1114111 x.L.length (w.drewN k) (stAt_of hE) hn2 (Nat.le_refl _) hl hl (by omega)
  have hrd := fun W => readNumber_yes num x.bias x.most W hs hb hml q l hrdq hq
  rw [show (1114111 - x.n) * (x.L.length + 1) + x.L.length - x.i = x.most from rfl] at hst
  have hstAt := stAt_of hE
  obtain ⟨c0, c1, c2, c3, c4⟩ := hstAt
  have c6 : w.cell? ⟨E, 6, none⟩ = some (.string num) := by rw [cell_of_row w E 6 _ 190 (0, 0) hE]; rfl
  have hwk := fun (W : World) (u : Value) (h : W.heap[E]? = some (.cells (dCells (.slice (some ⟨g, 0, none⟩) x.L.length c) x.n x.i x.L.length x.bias x.later u) 190 (0, 0))) => walkD_any E x.n x.i x.L.length x.bias x.later q _ u 190 W h hn2 (by omega) hl (by omega)
  have en : x.n + (x.i + q) / (x.L.length + 1) = (x.step q).n := rfl
  have ei : (x.i + q) % (x.L.length + 1) = (x.step q).i := rfl
  rw [en, ei] at hwk
  obtain ⟨n', hnn⟩ : ∃ n', (x.step q).n = n' := ⟨_, rfl⟩
  obtain ⟨i', hii⟩ : ∃ i', (x.step q).i = i' := ⟨_, rfl⟩
  have HNN : Hid ((x.step q).n = n') := hnn
  have HII : Hid ((x.step q).i = i') := hii
  rw [hnn, hii] at hwk
  have hlen : (x.step q).L.length = x.L.length := rfl
  rw [hlen, hii] at hi'
  rw [hnn] at hn'
  obtain ⟨rest, hrest⟩ : ∃ rest : ByteArray, rest = ⟨l.toArray⟩ := ⟨_, rfl⟩
  rw [← hrest] at hrd
  have HRS : Hid (rest = ⟨l.toArray⟩) := hrest
  have HOW : Hid (w.ownsRow B 21 1 (.slice (some ⟨g, 0, none⟩) x.L.length c) x.L.length (x.L.map rv)) := hown
  have HEE : Hid (w.heap[E]? = some (.cells (dCells (.slice (some ⟨g, 0, none⟩) x.L.length c) x.n x.i x.L.length x.bias x.later (.string num)) 190 (0, 0))) := hE
  have hq2 : q ≤ 1115226111 := by omega
  have HB : Hid (B ≤ w.heap.size) := by unfold Hid; omega
  clear hE hown hx hrest hnn hii hlen hrdq hq en ei
  obtain ⟨M, hM⟩ : ∃ M, x.most = M := ⟨_, rfl⟩
  rw [hM] at hst hrd hml
  clear hM
  go_enter Tryz.func161, Tryz.ntmps161
  go_wp2
  go_quiet ((go_at_call 171; exact Calls.quiet_of (hst _)))
  go_wp2
  obtain ⟨W1, hW1⟩ : ∃ W1, W1 = w.drewN nq := ⟨_, rfl⟩
  rw [← hW1]
  have d3 : W1.cell? ⟨E, 1 + 3, none⟩ = some (.int .i64 x.bias) := by rw [hW1]; exact c3
  have d6 : W1.cell? ⟨E, 6, none⟩ = some (.string num) := by rw [hW1]; exact c6
  have HG1 : Hid (w.grownBy W1 (some E) ∧ W1.heap = w.heap) := by rw [hW1]; exact ⟨grown_drewN (World.grownBy.refl _ _) _, rfl⟩
  have f6 : W1.frozen? ⟨E, 6, none⟩ = false := by rw [hW1]; exact unfrozen HEE.out 6
  clear hW1 hst c0 c1 c2 c3 c4 c6
  go_quiet ((go_at_call 181; exact Calls.quiet_of (hrd _)))
  go_wp2_with fail
  refine (hwk _ (.string rest) (setCell_row (by rw [show (W1.drewN nq).heap = W1.heap from rfl, HG1.out.2]; exact HEE.out) 6 _)).mono ?_
  rintro e w3 ⟨rfl, hE3, hg3⟩
  obtain ⟨c0, c1, c2, c3, c4⟩ := stAt_of hE3
  have hgr : w.grownBy w3 (some E) := grown_trans (grown_trans HG1.out.1 (grown_setCell (grown_drewN (World.grownBy.refl _ _) _) _ _)) hg3
  have HE3 : Hid (w3.heap[E]? = some (.cells (dCells (.slice (some ⟨g, 0, none⟩) x.L.length c) n' i' x.L.length x.bias x.later (.string rest)) 190 (0, 0))) := hE3
  have HGR : Hid (w.grownBy w3 (some E)) := hgr
  have HO3 : Hid (w3.ownsRow B 21 1 (.slice (some ⟨g, 0, none⟩) x.L.length c) x.L.length (x.L.map rv)) := HOW.out.kept hgr (Or.inr (by simp [Value.ownBlock]; exact hgE))
  clear hE3 hg3 hgr hwk d3 d6 f6 HG1 HEE HOW
  have his := fun W => isSign_any n' W
  have HSS : Hid (Pm.sign (x.step q).n = Pm.sign n') := by unfold Hid; rw [HNN.out]
  obtain ⟨sg, hsg⟩ : ∃ sg, Pm.sign n' = sg := ⟨_, rfl⟩
  have HSG : Hid (Pm.sign n' = sg) := hsg
  rw [hsg] at his
  clear hsg
  cases sg with
  | false =>
    go_wp2_with (go_at_call 183; refine (his _).mono ?_; rintro e w' ⟨rfl, rfl⟩)
    go_ret
    exact Or.inl ⟨by rw [HSS.out, HSG.out], rfl, below_of_grown HGR.out hBE HB.out⟩
  | true =>
    have hti := fun W (hW : W.heap = w3.heap) => textInsert_any E 0 g x.L.length c i' n' B x.L W (dCells (.slice (some ⟨g, 0, none⟩) x.L.length c) n' i' x.L.length x.bias x.later (.string rest)) 190 (by decide) (by rw [hW]; exact HE3.out) rfl (by have h := HO3.out; exact ⟨h.1, by rw [hW]; exact h.2⟩) hgE (by omega) (by omega) hBE
    have hti2 : Calls Tryz.prog 184 #[.pointer (some ⟨E, 0, none⟩), .int .i64 i', .int .i32 n'] w3.drew fun e w' => e = .returned (.tuple #[]) ∧ w'.cell? ⟨E, 1, none⟩ = some (.int .i64 n') ∧ w'.cell? ⟨E, 2, none⟩ = some (.int .i64 i') ∧
        Hid (∃ g' c', w'.heap[E]? = some (.cells (dCells (.slice (some ⟨g', 0, none⟩) (x.L.length + 1) c') n' i' x.L.length x.bias x.later (.string rest)) 190 (0, 0)) ∧ w'.ownsRow B 21 1 (.slice (some ⟨g', 0, none⟩) (x.L.length + 1) c') (x.L.length + 1) ((x.L.take i' ++ n' :: x.L.drop i').map rv) ∧ g' ≠ E ∧ Below B w3 w') := by
      refine (hti w3.drew rfl).mono ?_
      rintro e w' ⟨rfl, g', c', w4, rfl, ho4, hg4, hg4E⟩
      have hblk : w4.heap[E]? = w3.heap[E]? := hg4.block E (Array.getElem?_eq_some_iff.1 HE3.out).1 (fun e => hgE (Option.some.inj e).symm)
      have hE5 := setCell_row (hblk.trans HE3.out) 0 (.slice (some ⟨g', 0, none⟩) (x.L.length + 1) c')
      have hgs : w4.grownBy (w4.setCell ⟨E, 0, none⟩ (.slice (some ⟨g', 0, none⟩) (x.L.length + 1) c')) (some E) := grown_setCell (World.grownBy.refl _ _) _ _
      have hBg := (own_some HO3.out).1
      refine ⟨rfl, by rw [cell_of_row _ E 1 _ 190 (0, 0) hE5]; rfl, by rw [cell_of_row _ E 2 _ 190 (0, 0) hE5]; rfl, g', c', hE5, ho4.kept hgs (Or.inr (by simp [Value.ownBlock]; exact hg4E)), hg4E, ?_⟩
      have hb4 : Below B w3 w4 := ⟨hg4.os, hg4.tape, hg4.output, hg4.size, fun k hk => hg4.block k (Nat.lt_of_lt_of_le hk (by have := (own_some HO3.out).2.1; show B ≤ w3.heap.size; omega)) (fun e => by have := Option.some.inj e; omega)⟩
      exact hb4.setCell (p := ⟨E, 0, none⟩) hBE _
    clear hti
    have c1' : w3.cell? ⟨E, 2, none⟩ = some (.int .i64 i') := c1
    clear c1 c2 c3 c4
    have hwr : IntKind.i32.wrap (n' : Int) = n' := by rw [IntKind.wrap_i32]; omega
    go_wp2_with (go_at_call 183; refine (his _).mono ?_; rintro e w' ⟨rfl, hw'⟩; rw [hw']; clear hw')
    go_region_held3 (fun W => W.cell? ⟨E, 1, none⟩ = some (.int .i64 n') ∧ W.cell? ⟨E, 2, none⟩ = some (.int .i64 i')) (go_keep) ((go_at_call 184; refine hti2.mono ?_; rintro e w5 ⟨rfl, k1, k2, h5⟩))
    clear hti2 c0 c1'
    obtain ⟨g', c', hE5, ho5, hg5E, hB5⟩ := h5.out
    have hse := fun W (hW : W.heap[E]? = _) => settleD_any E n' i' x.L.length x.bias x.later q (.slice (some ⟨g', 0, none⟩) (x.L.length + 1) c') (.string rest) 190 W hW (by omega) hl hq2
    have HE5 : Hid (w5.heap[E]? = some (.cells (dCells (.slice (some ⟨g', 0, none⟩) (x.L.length + 1) c') n' i' x.L.length x.bias x.later (.string rest)) 190 (0, 0))) := hE5
    have HO5 : Hid (w5.ownsRow B 21 1 (.slice (some ⟨g', 0, none⟩) (x.L.length + 1) c') (x.L.length + 1) ((x.L.take i' ++ n' :: x.L.drop i').map rv)) := ho5
    have HB5 : Hid (Below B w3 w5) := hB5
    clear hE5 ho5 hB5 h5
    go_wp2_with fail
    refine (hse _ HE5.out).mono ?_
    rintro e w6 ⟨rfl, hE6, hg6⟩
    have HE6 : Hid (w6.heap[E]? = some (.cells (dCells (.slice (some ⟨g', 0, none⟩) (x.L.length + 1) c') n' (i' + 1) (x.L.length + 1) (Pm.biasN q (x.L.length + 1) (!x.later)) true (.string rest)) 190 (0, 0))) := hE6
    have HG6 : Hid (w5.grownBy w6 (some E)) := hg6
    clear hE6 hg6 hse
    go_wp2
    go_ret
    have hb3 := below_of_grown HGR.out hBE HB.out
    have hs5 : B ≤ w5.heap.size := by have h1 := HB5.out.size; have h2 := hb3.size; have h3 := HB.out; omega
    have hb6 : Below B w w6 := (hb3.trans HB5.out).trans (below_of_grown HG6.out hBE hs5)
    refine Or.inr ⟨by rw [HSS.out, HSG.out], rfl, hb6, g', c', ?_, ?_, hg5E, hBE, ?_⟩
    · have eL : ((x.step q).insert q).L.length = x.L.length + 1 := Pm.insert_len (x.step q) q (Pm.step_i q)
      have e1 : ((x.step q).insert q).n = n' := HNN.out
      have e2 : ((x.step q).insert q).i = i' + 1 := by show (x.step q).i + 1 = _; rw [HII.out]
      have e3 : ((x.step q).insert q).bias = Pm.biasN q (x.L.length + 1) (!x.later) := rfl
      have e4 : ((x.step q).insert q).later = true := rfl
      rw [eL, e1, e2, e3, e4, ← HRS.out]
      exact HE6.out
    · have eL : ((x.step q).insert q).L.length = x.L.length + 1 := Pm.insert_len (x.step q) q (Pm.step_i q)
      have e1 : ((x.step q).insert q).L = x.L.take i' ++ n' :: x.L.drop i' := by show (x.step q).L.take (x.step q).i ++ (x.step q).n :: (x.step q).L.drop (x.step q).i = _; rw [HNN.out, HII.out]; rfl
      rw [eL, e1]
      exact HO5.out.kept HG6.out (Or.inr (by simp [Value.ownBlock]; exact hg5E))
    · have h1 := (Array.getElem?_eq_some_iff.1 HE6.out).1
      exact h1
end Go.Proofs.YtkaaldhejpaiiaaGreatDoor

/- The decoder's loop; newDecoder; Decode. -/
namespace Go.Proofs.YtkaaldhejpaiiaaGreatDoor
open Go.RowKit

theorem dec_nil (f : Nat) (x : Pm.St) : Pm.dec (f + 1) x [] = some x.L := by simp [Pm.dec]
theorem dec_none {f : Nat} {x : Pm.St} {l : List UInt8} (hx : x.ok) (hl : l ≠ []) (h : ∀ q r, Pm.rd x.bias 1 0 1 l = some (q, r) → x.most < q) : Pm.dec (f + 1) x l = none := by
  simp only [Pm.dec, if_neg hl]
  split
  · rfl
  · rename_i q r hr
    have h1 := h q r hr
    have h2 : ¬ (x.step q).n ≤ 1114111 := fun hn => by have := (Pm.step_le hx q).1 hn; omega
    rw [if_neg (by rw [sign_f (by omega)]; simp)]
theorem dec_bad {f : Nat} {x : Pm.St} {l r : List UInt8} {q : Nat} (hl : l ≠ []) (h : Pm.rd x.bias 1 0 1 l = some (q, r)) (hs : Pm.sign (x.step q).n = false) : Pm.dec (f + 1) x l = none := by
  simp only [Pm.dec, if_neg hl, h, hs]; simp
theorem dec_go {f : Nat} {x : Pm.St} {l r : List UInt8} {q : Nat} (hl : l ≠ []) (h : Pm.rd x.bias 1 0 1 l = some (q, r)) (hs : Pm.sign (x.step q).n = true) : Pm.dec (f + 1) x l = Pm.dec f ((x.step q).insert q) r := by
  simp only [Pm.dec, if_neg hl, h, hs]; simp

def decV : Option (List Nat) → Value
  | some L => .tuple #[.string (runesBytes (L.map (fun (n : Nat) => (n : Int)))), .bool true]
  | none => .tuple #[.string { data := #[] }, .bool false]

theorem toList_ne {s : ByteArray} (h : s.size ≠ 0) : s.data.toList ≠ [] := by
  intro e
  have : s.data.toList.length = 0 := by rw [e]; rfl
  rw [Array.length_toList] at this
  exact h this
theorem toList_nil {s : ByteArray} (h : s.size = 0) : s.data.toList = [] := List.eq_nil_of_length_eq_zero (by rw [Array.length_toList]; exact h)

set_option maxRecDepth 100000 in
set_option maxHeartbeats 4000000 in
theorem decode_any (E B : Nat) (x0 : Pm.St) (num0 : ByteArray) (w : World) (hD0 : DecAt w E B x0 num0) (hx0 : x0.ok) (hb0 : x0.bias ≤ 1099511627776) (hl0 : x0.L.length + num0.size ≤ 1000) :
    Calls Tryz.prog 131 #[.pointer (some ⟨E, 0, none⟩)] w fun e w' => e = .returned (decV (Pm.dec (num0.size + 1) x0 num0.data.toList)) ∧ Below B w w' := by
  obtain ⟨ANS, hANS⟩ : ∃ ANS, Pm.dec (num0.size + 1) x0 num0.data.toList = ANS := ⟨_, rfl⟩
  rw [hANS]
  go_enter Tryz.func131, Tryz.ntmps131
  go_wp2
  go_loopg [4] (num0.size + 1) (fun gk _ wx => Below B w wx ∧ ∃ (x : Pm.St) (num : ByteArray), DecAt wx E B x num ∧ x.ok ∧ x.bias ≤ 1099511627776 ∧ x.L.length + num.size ≤ 1000 ∧ num.size < gk ∧ Pm.dec gk x num.data.toList = ANS)
  case atStart => exact ⟨Below.refl _ _, x0, num0, hD0, hx0, hb0, hl0, by omega, hANS⟩
  case round =>
    obtain ⟨hbw, x, num, hD, hx, hb, hl, hg, hv⟩ := hrel
    clear hANS hD0 hx0 hb0 hl0
    obtain ⟨gk', rfl⟩ : ∃ gk', gk = gk' + 1 := ⟨gk - 1, by omega⟩
    have HV : Hid (Pm.dec (gk' + 1) x num.data.toList = ANS) := hv
    clear hv
    have hD2 := hD
    obtain ⟨g, c, hE, hown, hgE, hBE, hEl⟩ := hD2
    have c6 : wr.cell? ⟨E, 6, none⟩ = some (.string num) := by rw [cell_of_row wr E 6 _ 190 (0, 0) hE]; rfl
    have c0 : wr.cell? ⟨E, 0, none⟩ = some (.slice (some ⟨g, 0, none⟩) x.L.length c) := by rw [cell_of_row wr E 0 _ 190 (0, 0) hE]; rfl
    by_cases h0 : num.size = 0
    · have hemp : num.toList.isEmpty = true := by rw [ByteArray.toList_eq, toList_nil h0]; rfl
      have hstr := string_any E 0 g x.L.length c x.L B wr c0 hown
      have HR : Hid (ANS = some x.L) := by unfold Hid; rw [← HV.out, toList_nil h0, dec_nil]
      clear hE hown hD hx
      go_wp2_with (go_at_call 24; refine hstr.mono ?_; rintro e w' ⟨rfl, hw'⟩; rw [hw']; clear hw')
      go_ret2
      exact ⟨by rw [HR.out]; rfl, hbw⟩
    · have hemp : num.toList.isEmpty = false := by
        rw [ByteArray.toList_eq]
        cases hq : num.data.toList with
        | nil => exact absurd hq (toList_ne h0)
        | cons a l => rfl
      have hne := toList_ne h0
      have hnum : num.size ≤ 1000 := by omega
      have hlen : x.L.length ≤ 1000 := by omega
      clear hE hown c0
      by_cases hex : ∃ q l, Pm.rd x.bias 1 0 1 num.data.toList = some (q, l) ∧ q ≤ x.most
      · obtain ⟨q, l, hrd, hq⟩ := hex
        have hyes := insertNext_yes E B x num wr hD hx hb hlen hnum q l hrd hq
        have hnx := Pm.ok_next hx q ((Pm.step_le hx q).2 hq)
        have hml := Pm.most_le hx hlen
        have hrl := Pm.rd_len _ _ _ _ _ _ _ hrd
        rw [Array.length_toList] at hrl
        have hrl2 : l.length < num.size := hrl
        have hL : ((x.step q).insert q).L.length = x.L.length + 1 := Pm.insert_len (x.step q) q (Pm.step_i q)
        have hbi : ((x.step q).insert q).bias ≤ 1099511627776 := by
          have := Pm.biasN_le q (x.L.length + 1) (!x.later)
          show Pm.biasN q (x.L.length + 1) (!x.later) ≤ _
          omega
        have HRD : Hid (Pm.rd x.bias 1 0 1 num.data.toList = some (q, l)) := hrd
        have HNX : Hid (((x.step q).insert q).ok) := hnx
        have HLL : Hid (((x.step q).insert q).L.length = x.L.length + 1) := hL
        have HBI : Hid (((x.step q).insert q).bias ≤ 1099511627776) := hbi
        have HNE : Hid (num.data.toList ≠ []) := hne
        clear hrd hnx hL hbi hne hx hD hrl hml hq
        go_wp2_with fail
        refine hyes.mono ?_
        rintro e w2 (⟨hs, rfl, hb2⟩ | ⟨hs, rfl, hb2, hD2⟩)
        · have HS : Hid (Pm.sign (x.step q).n = false) := hs
          clear hs hyes
          go_wp2
          go_ret2
          exact ⟨by rw [← HV.out, dec_bad HNE.out HRD.out HS.out]; rfl, hbw.trans hb2⟩
        · have HS : Hid (Pm.sign (x.step q).n = true) := hs
          clear hs hyes
          go_wp2
          go_roundg gk'
          case measure => omega
          case rel => exact ⟨hbw.trans hb2, _, _, hD2, HNX.out, HBI.out, by rw [HLL.out]; show x.L.length + 1 + l.length ≤ 1000; omega, by show l.length < gk'; omega, by rw [← HV.out, dec_go HNE.out HRD.out HS.out]⟩
      · have hno : ∀ q l, Pm.rd x.bias 1 0 1 num.data.toList = some (q, l) → x.most < q := fun q l h => Nat.lt_of_not_le fun hq => hex ⟨q, l, h, hq⟩
        have hcall := insertNext_no E B x num wr hD hx hb hlen hnum hno
        have HR : Hid (ANS = none) := by unfold Hid; rw [← HV.out, dec_none hx hne hno]
        clear hD hx hno hex hne
        go_wp2_with (go_at_call 161; refine hcall.mono ?_; rintro e w2 ⟨rfl, hb2⟩)
        go_ret2
        exact ⟨by rw [HR.out]; rfl, hbw.trans hb2⟩
end Go.Proofs.YtkaaldhejpaiiaaGreatDoor

/- newDecoder; Decode. -/
namespace Go.Proofs.YtkaaldhejpaiiaaGreatDoor
open Go.RowKit

def bytesN (s : ByteArray) : List Nat := s.data.toList.map (·.toNat)
theorem asc_at {s : ByteArray} (h : ascB s.data.toList = true) (k : Nat) (hk : k < s.size) : (s[k]).toNat < 128 := by
  have := List.all_eq_true.1 h s[k] (by rw [ByteArray.getElem_eq_getElem_data]; exact Array.getElem_mem_toList (xs := s.data) hk)
  simpa using this
theorem runesN_asc {s : ByteArray} (h : ascB s.data.toList = true) : ∀ (b i : Nat), s.size ≤ i + b → runesN s b i = (s.data.toList.drop i).map (·.toNat)
  | 0, i, hb => by rw [runesN, List.drop_eq_nil_of_le (by rw [Array.length_toList]; show s.size ≤ i; omega)]; rfl
  | b + 1, i, hb => by
    unfold runesN
    by_cases hi : i < s.size
    · rw [if_pos hi, decode_ascii s i hi (asc_at h i hi), drop_cons s i hi]
      simp only [List.map_cons]
      rw [runesN_asc h b (i + 1) (by omega)]
    · rw [if_neg hi, List.drop_eq_nil_of_le (by rw [Array.length_toList]; show s.size ≤ i; omega)]; rfl
theorem runes_asc {s : ByteArray} (h : ascB s.data.toList = true) : runes s = bytesN s := by
  unfold runes; rw [runesN_asc h s.size 0 (by omega), List.drop_zero]; rfl
theorem bytesN_len (s : ByteArray) : (bytesN s).length = s.size := by simp [bytesN]

set_option maxHeartbeats 400000 in
theorem firstState_any (n : Nat) (w : World) :
    Calls Tryz.prog 144 #[.int .i64 n] w fun e w' => e = .returned (.agg #[.int .i64 128, .int .i64 0, .int .i64 n, .int .i64 72, .bool false]) ∧ Below w.heap.size w w' := by
  go_enter Tryz.func144, Tryz.ntmps144
  go_wp2
  refine bodyPost_ret (v := .agg #[.int .i64 128, .int .i64 0, .int .i64 n, .int .i64 72, .bool false]) (by simp [results, Tryz.results144, go_sem]) rfl ⟨rfl, ?_⟩
  exact (Below.refl _ _).alloc (Nat.le_refl _) _

theorem first_ok (l : List Nat) : (Pm.St.first l).ok := ⟨by simp [Pm.St.first], by simp [Pm.St.first], by simp [Pm.St.first]⟩

set_option maxRecDepth 100000 in
set_option maxHeartbeats 2000000 in
theorem newDecoder_any (plain num : ByteArray) (w : World) (hp : plain.size ≤ 1000) (ha : ascB plain.data.toList = true) :
    Calls Tryz.prog 130 #[.string plain, .string num] w fun e w' => ∃ E, e = .returned (.pointer (some ⟨E, 0, none⟩)) ∧ DecAt w' E w.heap.size (Pm.St.first (bytesN plain)) num ∧ Below w.heap.size w w' := by
  have hr := runes_asc ha
  have hof := of_any plain w hp
  have hlen := bytesN_len plain
  rw [hr, hlen] at hof
  clear hr
  go_enter Tryz.func130, Tryz.ntmps130
  go_wp2_with fail
  refine hof.mono ?_
  rintro e w1 ⟨g, c, rfl, ho, hb1⟩
  have HO : Hid (w1.ownsRow (w.heap.size + 1) 21 1 (.slice (some ⟨g, 0, none⟩) plain.size c) plain.size ((bytesN plain).map rv)) := ho
  clear ho hof
  go_wp2_with (go_at_call 144; refine (firstState_any _ _).mono ?_; rintro e w2 ⟨rfl, hb2⟩)
  go_ret
  obtain ⟨hBg, hg1, _⟩ := own_some HO.out
  have hs1 := hb1.size; have hs2 := hb2.size
  have ho2 : w2.ownsRow (w.heap.size + 1) 21 1 (.slice (some ⟨g, 0, none⟩) plain.size c) plain.size ((bytesN plain).map rv) :=
    HO.out.kept (row := none) ⟨hb2.os, hb2.tape, hb2.output, hb2.size, fun k hk _ => hb2.block k hk⟩ (Or.inr (by simp [Value.ownBlock]))
  refine ⟨w2.heap.size, rfl, ⟨g, c, ?_, ?_, by omega, by omega, by simp⟩, ?_⟩
  · rw [show (Pm.St.first (bytesN plain)).L.length = plain.size from hlen]
    exact Go.heap_alloc_new w2 _
  · rw [show (Pm.St.first (bytesN plain)).L.length = plain.size from hlen]
    have h3 := ho2.alloc (.cells (dCells (.slice (some ⟨g, 0, none⟩) plain.size c) 128 0 plain.size 72 false (.string num)) 190)
    obtain ⟨a1, a2⟩ := h3
    refine ⟨a1, ?_⟩
    rcases a2 with a2 | ⟨g0, cap, cur, e1, e2, e3⟩
    · exact Or.inl a2
    · exact Or.inr ⟨g0, cap, cur, e1, by omega, e3⟩
  · exact (hb1.trans (hb2.mono hs1)).alloc (by omega) _

/-- Decode's two results, as the program reckons them. -/
def decodeS (s : ByteArray) : Option (List Nat) :=
  if 1000 < s.size ∨ ascB s.data.toList = false ∨ lastP s s.size = 1 then none
  else Pm.dec (s.size - lastP s s.size + 1) (Pm.St.first ((s.data.toList.take (lastP s s.size - 1)).map (·.toNat))) (s.data.toList.drop (lastP s s.size))
def decodeV : Option (List Nat) → Value
  | some L => .tuple #[.string (runesBytes (L.map (fun (n : Nat) => (n : Int)))), .int .i64 0]
  | none => .tuple #[.string { data := #[] }, .int .i64 3]

theorem ascB_take {l : List UInt8} (h : ascB l = true) (k : Nat) : ascB (l.take k) = true := List.all_eq_true.2 fun x hx => List.all_eq_true.1 h x (List.mem_of_mem_take hx)
theorem toList_extract0 (s : ByteArray) (k : Nat) : (s.extract 0 k).data.toList = s.data.toList.take k := by
  simp only [ByteArray.data_extract, Array.toList_extract, List.extract_eq_take_drop]
  simp

set_option maxRecDepth 100000 in
set_option maxHeartbeats 2000000 in
theorem Decode_any (s : ByteArray) (w : World) (hs0 : s.size ≤ 9223372036854775807) :
    Calls Tryz.prog 91 #[.string s] w fun e w' => e = .returned (decodeV (decodeS s)) ∧ Below w.heap.size w w' := by
  by_cases hs : 1000 < s.size
  · have hr : decodeS s = none := by rw [decodeS, if_pos (Or.inl hs)]
    rw [hr]
    go_enter Tryz.func91, Tryz.ntmps91
    go_wp2
    go_ret2
    exact ⟨rfl, Below.refl _ _⟩
  · have hs1 : s.size ≤ 1000 := by omega
    have hasc := fun W => isASCII_any s W hs1
    obtain ⟨a, ha⟩ : ∃ a, ascB s.data.toList = a := ⟨_, rfl⟩
    rw [ha] at hasc
    cases a with
    | false =>
      have hr : decodeS s = none := by rw [decodeS, if_pos (Or.inr (Or.inl ha))]
      rw [hr]
      clear ha
      go_enter Tryz.func91, Tryz.ntmps91
      go_wp2_with (go_at_call 53; refine (hasc _).mono ?_; rintro e w' ⟨rfl, hw'⟩; rw [hw']; clear hw')
      go_ret2
      exact ⟨rfl, Below.refl _ _⟩
    | true =>
      have hsp := fun W => split_any s W hs1
      have hle := lastP_le s s.size
      obtain ⟨p, hp⟩ : ∃ p, lastP s s.size = p := ⟨_, rfl⟩
      rw [hp] at hle
      by_cases h1 : p = 1
      · have hr : decodeS s = none := by rw [decodeS, if_pos (Or.inr (Or.inr (by rw [hp, h1])))]
        have hv : splitV s = .tuple #[.string (s.extract 0 0), .string (s.extract 1 s.size), .bool false] := by rw [splitV, hp, h1]; rfl
        rw [hr]
        rw [hv] at hsp
        clear ha hp hv hr
        go_enter Tryz.func91, Tryz.ntmps91
        go_wp2_with (first | (go_at_call 53; refine (hasc _).mono ?_; rintro e w' ⟨rfl, hw'⟩; rw [hw']; clear hw') | (go_at_call 129; refine (hsp _).mono ?_; rintro e w' ⟨rfl, k, hw'⟩; rw [hw']; clear hw'))
        go_ret2
        exact ⟨rfl, below_drewN (Below.refl _ _) _⟩
      · have hpl : ∃ plain num : ByteArray, splitV s = .tuple #[.string plain, .string num, .bool true] ∧ plain.data.toList = s.data.toList.take (p - 1) ∧ num.data.toList = s.data.toList.drop p ∧ plain.size + num.size ≤ 1000 ∧ num.size = s.size - p := by
          by_cases h0 : p = 0
          · refine ⟨noBytes, s, by rw [splitV, if_pos (by rw [hp, h0])], by rw [h0]; rfl, by rw [h0]; rfl, ?_, by omega⟩
            show 0 + s.size ≤ 1000
            omega
          · refine ⟨s.extract 0 (p - 1), s.extract p s.size, by rw [splitV, if_neg (by omega), hp, decide_eq_true (by omega)], toList_extract0 s _, toList_extract_end s p, ?_, ?_⟩
            · simp only [ByteArray.size_extract]; omega
            · simp only [ByteArray.size_extract]; omega
        obtain ⟨plain, num, hv, hpd, hnd, hsz, hnz⟩ := hpl
        rw [hv] at hsp
        have hpa : ascB plain.data.toList = true := by rw [hpd]; exact ascB_take ha _
        have hr : decodeS s = Pm.dec (num.size + 1) (Pm.St.first (bytesN plain)) num.data.toList := by
          rw [decodeS, if_neg (by rw [ha, hp]; simp; omega), hp, hnd, hnz, bytesN, hpd]
        rw [hr]
        have hbl := bytesN_len plain
        have hnew := fun W => newDecoder_any plain num W (by omega) hpa
        have hdec := fun E B W h => decode_any E B (Pm.St.first (bytesN plain)) num W h (first_ok _) (by simp [Pm.St.first]) (by show (bytesN plain).length + num.size ≤ 1000; omega)
        clear ha hp hv hr hpd hnd hpa hbl hnz
        generalize Pm.dec (num.size + 1) (Pm.St.first (bytesN plain)) num.data.toList = R at hdec ⊢
        cases R with
        | none =>
          simp only [decV] at hdec
          go_enter Tryz.func91, Tryz.ntmps91
          go_wp2_with (first | (go_at_call 53; refine (hasc _).mono ?_; rintro e w' ⟨rfl, hw'⟩; rw [hw']; clear hw') | (go_at_call 129; refine (hsp _).mono ?_; rintro e w' ⟨rfl, k, hw'⟩; rw [hw']; clear hw') | (go_at_call 130; refine (hnew _).mono ?_; rintro e w2 ⟨E, rfl, hD, hb2⟩) | (go_at_call 131; refine (hdec _ _ _ hD).mono ?_; rintro e w3 ⟨rfl, hb3⟩))
          go_ret2
          exact ⟨rfl, ((below_drewN (Below.refl _ _) _).trans hb2).trans hb3⟩
        | some L =>
          simp only [decV] at hdec
          go_enter Tryz.func91, Tryz.ntmps91
          go_wp2_with (first | (go_at_call 53; refine (hasc _).mono ?_; rintro e w' ⟨rfl, hw'⟩; rw [hw']; clear hw') | (go_at_call 129; refine (hsp _).mono ?_; rintro e w' ⟨rfl, k, hw'⟩; rw [hw']; clear hw') | (go_at_call 130; refine (hnew _).mono ?_; rintro e w2 ⟨E, rfl, hD, hb2⟩) | (go_at_call 131; refine (hdec _ _ _ hD).mono ?_; rintro e w3 ⟨rfl, hb3⟩))
          go_ret2
          exact ⟨rfl, ((below_drewN (Below.refl _ _) _).trans hb2).trans hb3⟩
end Go.Proofs.YtkaaldhejpaiiaaGreatDoor

/- others (under what Sort and Compact do), newEncoder, encode, Encode. -/
namespace Go.Proofs.YtkaaldhejpaiiaaGreatDoor
open Go.RowKit

def SortOk (zs ms : List Nat) : Prop := ∀ (B : Nat) (w : World) (v : Value), w.ownsRow B 21 1 v zs.length (zs.map rv) → B ≤ w.heap.size →
  Calls Tryz.prog 168 #[v] w fun e w' => e = .returned (.tuple #[]) ∧ w'.ownsRow B 21 1 v ms.length (ms.map rv) ∧ Below B w w'
def CompOk (ms ys : List Nat) : Prop := ∀ (B : Nat) (w : World) (v : Value), w.ownsRow B 21 1 v ms.length (ms.map rv) → B ≤ w.heap.size →
  Calls Tryz.prog 169 #[v] w fun e w' => ∃ v', e = .returned v' ∧ w'.ownsRow B 21 1 v' ys.length (ys.map rv) ∧ Below B w w'

def oth (L : List Nat) : List Nat := L.filter (fun m => !decide (m < 128))
theorem oth_snoc (l : List Nat) (m : Nat) : oth (l ++ [m]) = if m < 128 then oth l else oth l ++ [m] := by
  unfold oth
  rw [List.filter_append]
  by_cases h : m < 128 <;> simp [h]
theorem oth_len (l : List Nat) : (oth l).length ≤ l.length := List.length_filter_le _ _

set_option maxRecDepth 100000 in
set_option maxHeartbeats 4000000 in
theorem others_any (E B : Nat) (x : Es) (L ms ys : List Nat) (w : World) (hD : EncX w E B x L) (hL : L.length ≤ 1000) (hM : ∀ m ∈ L, m ≤ 1114111) (hS : SortOk (oth L) ms) (hC : CompOk ms ys) :
    Calls Tryz.prog 145 #[.pointer (some ⟨E, 0, none⟩)] w fun e w' => ∃ v', e = .returned v' ∧ w'.ownsRow w.heap.size 21 1 v' ys.length (ys.map rv) ∧ Below w.heap.size w w' := by
  obtain ⟨i0, hi, hz0, hz1, hz2⟩ := info_parts info21
  obtain ⟨g, c, fv, hE, ho, hof, hBE, hEl⟩ := hD
  obtain ⟨hBg, hgl, _⟩ := own_some ho
  have hc0 : w.cell? ⟨E, 0, none⟩ = some (.slice (some ⟨g, 0, none⟩) L.length c) := by rw [cell_of_row w E 0 _ 176 (0, 0) hE]; rfl
  have hcells : ∀ j m, L[j]? = some m → w.cell? ⟨g, j, none⟩ = some (rv m) := fun j m hj => by
    have := ho.cells (g := g) rfl j (rv m) (by rw [List.getElem?_map, hj]; rfl)
    rwa [Addr.add_lit, Nat.zero_add] at this
  have hcnt := count_any E 0 _ _ _ w hc0
  clear hE ho hof
  go_enter Tryz.func145, Tryz.ntmps145
  go_wp2_with (go_at_call 94; refine hcnt.mono ?_; rintro e w' ⟨rfl, hw'⟩; rw [hw']; clear hw')
  go_loopw [3, 10] (fun v pl wr => ∃ k : Nat, k ≤ L.length ∧ pl = .int .i64 k ∧ wr.ownsRow w.heap.size 21 1 v (oth (L.take k)).length ((oth (L.take k)).map rv) ∧ Below w.heap.size w wr) (fun _ pl _ => L.length - (intOf pl).toNat)
  case atStart => exact ⟨0, by omega, rfl, World.ownsRow_nil _ _ _ _, Below.refl _ _⟩
  case round =>
    obtain ⟨k, hk, rfl, hov, hbw⟩ := hrel
    by_cases hlt : k < L.length
    · have hgm := hM L[k] (List.getElem_mem hlt)
      have HT : Hid (L.take (k + 1) = L.take k ++ [L[k]]) := take_snoc_nat hlt
      obtain ⟨m, hm⟩ : ∃ m, L[k] = m := ⟨_, rfl⟩
      rw [hm] at hgm
      have HT2 : Hid (L.take (k + 1) = L.take k ++ [m]) := by unfold Hid; rw [HT.out, hm]
      have hcell : wr.cell? ⟨g, k, none⟩ = some (rv m) := (hbw.cell (p := ⟨g, k, none⟩) hgl).trans (hcells k m (by rw [List.getElem?_eq_getElem hlt, hm]))
      have hcr : wr.cell? ⟨E, 0, none⟩ = some (.slice (some ⟨g, 0, none⟩) L.length c) := (hbw.cell (p := ⟨E, 0, none⟩) hEl).trans hc0
      have hat := at_any E 0 g L.length c k m wr hcr hlt hcell
      unfold rv at hat
      have HW : Hid (Below w.heap.size w wr) := hbw
      clear hcell hcr hm HT hcells hcnt hc0
      by_cases h128 : (m : Int) < 128
      · have ef : oth (L.take (k + 1)) = oth (L.take k) := by rw [HT2.out, oth_snoc, if_pos (by omega)]
        have HEF : Hid (oth (L.take (k + 1)) = oth (L.take k)) := ef
        have HOV : Hid (wr.ownsRow w.heap.size 21 1 u3 (oth (L.take k)).length ((oth (L.take k)).map rv)) := hov
        clear ef hov hbw
        go_wp2_with (go_at_call 97; refine hat.mono ?_; rintro e w' ⟨rfl, hw'⟩; rw [hw']; clear hw')
        go_roundw
        case rel => exact ⟨k + 1, by omega, by go_num, by rw [HEF.out]; exact HOV.out, HW.out⟩
        case measure => simp [intOf]; omega
      · obtain ⟨F, hF⟩ : ∃ F, oth (L.take k) = F := ⟨_, rfl⟩
        have hFl : F.length ≤ 1000 := by rw [← hF]; have := oth_len (L.take k); rw [List.length_take] at this; omega
        rw [hF] at hov
        have HF : Hid (oth (L.take k) = F) := hF
        have h63 : F.length + 1 ≤ maxLen := by unfold maxLen; omega
        have h47 : (F.length + 1) * 4 ≤ 140737488355328 := by omega
        have hBr : w.heap.size ≤ (wr.alloc (.cells #[.int .i32 (m : Int)] 21)).heap.size := by have := hbw.size; simp; omega
        have hone : ∀ u ∈ [Value.int .i32 (m : Int)], u.oneCell' = true := by intro u hu; simp at hu; subst hu; rfl
        clear hF
        go_wp2_with (first | (go_at_call 97; refine hat.mono ?_; rintro e w' ⟨rfl, hw'⟩; rw [hw']; clear hw') | (at_builtin; refine wpList_append_own _ rfl (.tmp 20) (.tmp 22) 48 rfl w.heap.size 21 i0 (.int .i32 0) 1 4 Tryz.underlying48 hi hz0 hz1 hz2 rfl (by decide) _ _ _ rfl (hov.alloc _) ⟨wr.heap.size, 0, none⟩ 1 1 [.int .i32 (m : Int)] rfl rfl (cell_one_new _ _ _) hone h63 h47 hBr ?_))
        intro v' w1 ho1 hgr _
        have HO1 : Hid (w1.ownsRow w.heap.size 21 1 v' (F.length + 1) (F.map rv ++ [rv m])) := ho1
        have HW1 : Hid (Below w.heap.size w w1) := (hbw.alloc hbw.size _).grown hgr (by have := hbw.size; simp; omega) (fun j hj => (hov.lt j hj).1)
        clear ho1 hgr hov hbw hat
        go_wp2
        go_roundw
        case rel =>
          have ef : oth (L.take (k + 1)) = F ++ [m] := by rw [HT2.out, oth_snoc, if_neg (by omega), HF.out]
          refine ⟨k + 1, by omega, by go_num, ?_, HW1.out⟩
          rw [ef, List.length_append, List.map_append]
          exact HO1.out
        case measure => simp [intOf]; omega
    · have e : L.take k = L := List.take_of_length_le (by omega)
      rw [e] at hov
      have hs := hS w.heap.size wr u3 hov hbw.size
      have HW : Hid (Below w.heap.size w wr) := hbw
      clear e hov hcells hcnt hc0 hbw
      go_wp2_with fail
      refine hs.mono ?_
      rintro e w2 ⟨rfl, ho2, hb2⟩
      have hs2 : w.heap.size ≤ w2.heap.size := by have h1 := HW.out.size; have h2 := hb2.size; omega
      have hcp := hC w.heap.size w2 u3 ho2 hs2
      have HB2 : Hid (Below w.heap.size wr w2) := hb2
      clear ho2 hb2 hs
      go_wp2_with fail
      refine hcp.mono ?_
      rintro e w3 ⟨v', rfl, ho3, hb3⟩
      have HO3 : Hid (w3.ownsRow w.heap.size 21 1 v' ys.length (ys.map rv)) := ho3
      have HB3 : Hid (Below w.heap.size w2 w3) := hb3
      clear ho3 hb3 hcp
      go_wp2
      go_ret
      exact ⟨v', rfl, HO3.out, (HW.out.trans HB2.out).trans HB3.out⟩
end Go.Proofs.YtkaaldhejpaiiaaGreatDoor

