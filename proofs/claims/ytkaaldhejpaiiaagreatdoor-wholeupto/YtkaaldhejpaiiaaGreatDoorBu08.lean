import Derived.Test.YtkaaldhejpaiiaaGreatDoorBu07
import Derived.Laws.BytesString
import Derived.Test.YtkaaldhejpaiiaaGreatDoorBu04
/- newEncoder, encode. -/
namespace Go.Proofs.YtkaaldhejpaiiaaGreatDoor
open Go.RowKit

theorem own5_form {w : World} {B m : Nat} {v : Value} {xs : List Value} (h : w.ownsRow B 5 1 v m xs) : ∃ a c, v = .slice a m c := by
  rcases h.2 with ⟨h1, h0⟩ | ⟨g, cap, cur, hv, _⟩
  · exact ⟨none, 0, by rw [h1, h0]⟩
  · exact ⟨_, cap, hv⟩
theorem push_fold (l : List UInt8) : ∀ s : ByteArray, (l.map (fun c => (c.toNat : Int))).foldl (fun r n => r.push (UInt8.ofNat n.toNat)) s = ⟨(s.data.toList ++ l).toArray⟩ := by
  induction l with
  | nil => intro s; cases s; simp
  | cons c l ih =>
    intro s
    simp only [List.map_cons, List.foldl_cons]
    rw [ih]
    cases s
    simp [ByteArray.push]
theorem run_formString (w : World) (B m : Nat) (v : Value) (form : List UInt8) (hm : form.length = m) (h : w.ownsRow B 5 1 v m (form.map bv)) :
    (convert 30 9 v).run Tryz.prog w = .ok (.string ⟨form.toArray⟩) w := by
  rcases h.2 with ⟨rfl, h0⟩ | ⟨g, cap, cur, rfl, hb, hg, hn, hm2, hs, ht⟩
  · have : form = [] := List.eq_nil_of_length_eq_zero (by omega)
    subst this
    rw [run_convert_bytes_string w 30 9 5 _ _ _ Tryz.underlying30 Tryz.underlying5 Tryz.underlying9]
    simp [Conv.bytesToString]
    rfl
  · rw [run_convert_bytes_string w 30 9 5 _ _ _ Tryz.underlying30 Tryz.underlying5 Tryz.underlying9]
    have hl := run_loadCells_list (P := Tryz.prog) w ⟨g, 0, none⟩ (form.map bv) (fun j u hu => h.cells (g := g) rfl j u hu)
    rw [List.length_map, hm] at hl
    have := run_bytesToString (P := Tryz.prog) w ⟨g, 0, none⟩ m cap (form.map (fun c => (c.toNat : Int))) (by rw [hl]; congr 2; simp [bv])
    rw [this, push_fold]
    rfl

set_option maxRecDepth 100000 in
set_option maxHeartbeats 2000000 in
theorem newEncoder_any (s : ByteArray) (w : World) (hs : s.size ≤ 1000) :
    Calls Tryz.prog 102 #[.string s] w fun e w' => ∃ E, e = .returned (.pointer (some ⟨E, 0, none⟩)) ∧ EncX w' E w.heap.size { n := 0, i := 0, len := 0, bias := 0, b := false, form := [] } (runes s) ∧ Below w.heap.size w w' := by
  have hof := of_any s w hs
  go_enter Tryz.func102, Tryz.ntmps102
  go_wp2_with fail
  refine hof.mono ?_
  rintro e w1 ⟨g, c, rfl, ho, hb1⟩
  have HO : Hid (w1.ownsRow (w.heap.size + 1) 21 1 (.slice (some ⟨g, 0, none⟩) (runes s).length c) (runes s).length ((runes s).map rv)) := ho
  clear ho hof
  go_wp2
  go_ret
  have hs1 := hb1.size
  refine ⟨w1.heap.size, rfl, ⟨g, c, .slice none 0 0, Go.heap_alloc_new w1 _, ?_, World.ownsRow_nil _ _ _ _, by omega, by simp⟩, hb1.alloc hs1 _⟩
  obtain ⟨a1, a2⟩ := HO.out.alloc (.cells (dCells (.slice (some ⟨g, 0, none⟩) (runes s).length c) 0 0 0 0 false (.slice none 0 0)) 176)
  refine ⟨a1, ?_⟩
  rcases a2 with a2 | ⟨g0, cap, cur, e1, e2, e3⟩
  · exact Or.inl a2
  · exact Or.inr ⟨g0, cap, cur, e1, by omega, e3⟩

/-- All the signs that are not ASCII, one behind the other. -/
def eachAll (L : List Nat) : List Nat → Es → Es
  | [], x => x
  | y :: r, x => eachAll L r (each y L 0 x)
def eachAllOk (L : List Nat) : List Nat → Es → Prop
  | [], _ => True
  | y :: r, x => y ≤ 1114111 ∧ eachOk y L 0 x ∧ eachAllOk L r (each y L 0 x)
def firstEs (L : List Nat) : Es := { n := 128, i := 0, len := (ascF L).length, bias := 72, b := false, form := if ascF L = [] then [] else ascF L ++ [45] }
def encS (L ys : List Nat) : List UInt8 := (eachAll L ys (firstEs L)).form

/-- The walk stands here. -/
structure Stand (p : Prop) : Prop where
  out : p
theorem own21_form {w : World} {B m : Nat} {v : Value} {xs : List Value} (h : w.ownsRow B 21 1 v m xs) : ∃ a c, v = .slice a m c := by
  rcases h.2 with ⟨h1, h0⟩ | ⟨g, cap, cur, hv, _⟩
  · exact ⟨none, 0, by rw [h1, h0]⟩
  · exact ⟨_, cap, hv⟩
theorem own21_addr {w : World} {B m c : Nat} {a : Option Addr} {xs : List Value} (h : w.ownsRow B 21 1 (.slice a m c) m xs) (hm : 1 ≤ m) : ∃ g, a = some ⟨g, 0, none⟩ := by
  rcases h.2 with ⟨_, h0⟩ | ⟨g, cap, cur, hv, _⟩
  · omega
  · simp only [Value.slice.injEq] at hv
    exact ⟨g, hv.1⟩
theorem below_of_kt {B : Nat} {w w' : World} (h : KT B w w') : Below B w w' := ⟨h.os, h.tape, h.output, h.size, h.low⟩
theorem kt_of_below {B : Nat} {w w' : World} (h : Below w.heap.size w w') (hB : B ≤ w.heap.size) : KT B w w' :=
  ⟨h.os, h.tape, h.output, h.size, fun k hk => h.block k (by omega), fun k cs t fr e _ _ => (h.block k (Array.getElem?_eq_some_iff.1 e).1).trans e⟩
theorem owns_below {w w' : World} {B n : Nat} {t : TypeId} {v : Value} {xs : List Value} (h : Below w.heap.size w w') (ho : w.ownsRow B t 1 v n xs) : w'.ownsRow B t 1 v n xs :=
  ho.kept (row := none) ⟨h.os, h.tape, h.output, h.size, fun k hk _ => h.block k hk⟩ (by cases hv : v.ownBlock <;> simp)
theorem encX_below {w w' : World} {E B : Nat} {x : Es} {L : List Nat} (h : EncX w E B x L) (hb : Below w.heap.size w w') : EncX w' E B x L := by
  obtain ⟨g, c, fv, hE, ho, hof, hBE, hEl⟩ := h
  exact ⟨g, c, fv, (hb.block E hEl).trans hE, owns_below hb ho, owns_below hb hof, hBE, Nat.lt_of_lt_of_le hEl hb.size⟩

set_option maxRecDepth 100000 in
set_option maxHeartbeats 4000000 in
theorem encode_any (E B : Nat) (L ms ys : List Nat) (w : World) (hD : EncX w E B { n := 0, i := 0, len := 0, bias := 0, b := false, form := [] } L) (hL : L.length ≤ 1000) (hM : ∀ m ∈ L, m ≤ 1114111) (hS : SortOk (oth L) ms) (hC : CompOk ms ys) (hok : eachAllOk L ys (firstEs L)) (hy : ys.length ≤ 1000) :
    Calls Tryz.prog 103 #[.pointer (some ⟨E, 0, none⟩)] w fun e w' => e = .returned (.string ⟨(encS L ys).toArray⟩) ∧ Below B w w' := by
  have hwa := writeASCII_any E B _ L w hD rfl hL hM
  obtain ⟨ANS, hANS⟩ : ∃ ANS, encS L ys = ANS := ⟨_, rfl⟩
  rw [hANS]
  clear hD
  go_enter Tryz.func103, Tryz.ntmps103
  go_wp2_with fail
  refine hwa.mono ?_
  rintro e w1 ⟨rfl, hD1, hk1⟩
  obtain ⟨g, c, fv, hE, ho, hof, hBE, hEl⟩ := hD1
  obtain ⟨fa, fc, rfl⟩ := own5_form hof
  have c6 : w1.cell? ⟨E, 6, none⟩ = some (.slice fa (ascF L).length fc) := by rw [cell_of_row w1 E 6 _ 176 (0, 0) hE]; rfl
  have hfs := fun n W => firstState_any n W
  clear hwa
  by_cases h0 : (ascF L).length = 0
  · go_wp2_with fail
    refine (hfs _ _).mono ?_
    rintro e w2 ⟨rfl, hb2⟩
    have hE2 : w2.heap[E]? = _ := (hb2.block E hEl).trans hE
    have d1 : w2.cell? ⟨E, 1, none⟩ = some (.int .i64 (0 : Nat)) := by rw [cell_of_row w2 E 1 _ 176 (0, 0) hE2]; rfl
    have d2 : w2.cell? ⟨E, 2, none⟩ = some (.int .i64 (0 : Nat)) := by rw [cell_of_row w2 E 2 _ 176 (0, 0) hE2]; rfl
    have d3 : w2.cell? ⟨E, 3, none⟩ = some (.int .i64 (0 : Nat)) := by rw [cell_of_row w2 E 3 _ 176 (0, 0) hE2]; rfl
    have d4 : w2.cell? ⟨E, 4, none⟩ = some (.int .i64 (0 : Nat)) := by rw [cell_of_row w2 E 4 _ 176 (0, 0) hE2]; rfl
    have d5 : w2.cell? ⟨E, 5, none⟩ = some (.bool false) := by rw [cell_of_row w2 E 5 _ 176 (0, 0) hE2]; rfl
    have d6 : w2.cell? ⟨E, 6, none⟩ = some (.slice fa (ascF L).length fc) := by rw [cell_of_row w2 E 6 _ 176 (0, 0) hE2]; rfl
    have f1 := unfrozen hE2 1; have f2 := unfrozen hE2 2; have f3 := unfrozen hE2 3; have f4 := unfrozen hE2 4; have f5 := unfrozen hE2 5; have f6 := unfrozen hE2 6
    have hE3 : (((((w2.setCell ⟨E, 1, none⟩ (.int .i64 128)).setCell ⟨E, 2, none⟩ (.int .i64 0)).setCell ⟨E, 3, none⟩ (.int .i64 0)).setCell ⟨E, 4, none⟩ (.int .i64 72)).setCell ⟨E, 5, none⟩ (.bool false)).heap[E]? = some (.cells (dCells (.slice (some ⟨g, 0, none⟩) L.length c) 128 0 0 72 false (.slice fa (ascF L).length fc)) 176 (0, 0)) := setCell_row (setCell_row (setCell_row (setCell_row (setCell_row hE2 1 _) 2 _) 3 _) 4 _) 5 _
    have hg3 : w2.grownBy (((((w2.setCell ⟨E, 1, none⟩ (.int .i64 128)).setCell ⟨E, 2, none⟩ (.int .i64 0)).setCell ⟨E, 3, none⟩ (.int .i64 0)).setCell ⟨E, 4, none⟩ (.int .i64 72)).setCell ⟨E, 5, none⟩ (.bool false)) (some E) := grown_setCell (grown_setCell (grown_setCell (grown_setCell (grown_setCell (World.grownBy.refl _ _) _ _) _ _) _ _) _ _) _ _
    have HE3 : Hid ((((((w2.setCell ⟨E, 1, none⟩ (.int .i64 128)).setCell ⟨E, 2, none⟩ (.int .i64 0)).setCell ⟨E, 3, none⟩ (.int .i64 0)).setCell ⟨E, 4, none⟩ (.int .i64 72)).setCell ⟨E, 5, none⟩ (.bool false)).heap[E]? = some (.cells (dCells (.slice (some ⟨g, 0, none⟩) L.length c) 128 0 0 72 false (.slice fa (ascF L).length fc)) 176 (0, 0))) := hE3
    have HG3 : Hid (w2.grownBy (((((w2.setCell ⟨E, 1, none⟩ (.int .i64 128)).setCell ⟨E, 2, none⟩ (.int .i64 0)).setCell ⟨E, 3, none⟩ (.int .i64 0)).setCell ⟨E, 4, none⟩ (.int .i64 72)).setCell ⟨E, 5, none⟩ (.bool false)) (some E)) := hg3
    have HE2 : Hid (w2.heap[E]? = some (.cells (dCells (.slice (some ⟨g, 0, none⟩) L.length c) 0 0 0 0 false (.slice fa (ascF L).length fc)) 176 (0, 0))) := hE2
    have HO2 : Hid (w2.ownsRow B 21 1 (.slice (some ⟨g, 0, none⟩) L.length c) L.length (L.map rv)) := owns_below hb2 ho
    have HF2 : Hid (w2.ownsRow B 5 1 (.slice fa (ascF L).length fc) (ascF L).length ((ascF L).map bv)) := owns_below hb2 hof
    have HK2 : Hid (KT B w w2) := hk1.trans (kt_of_below hb2 (by omega))
    have HL0 : Hid (ascF L = []) := List.eq_nil_of_length_eq_zero h0
    clear c6 hE3 hg3 hE2 ho hof hk1 hE hfs hb2
    go_wp2_with fail
    obtain ⟨W3, hW3⟩ : ∃ W3, W3 = (((((w2.setCell ⟨E, 1, none⟩ (.int .i64 128)).setCell ⟨E, 2, none⟩ (.int .i64 0)).setCell ⟨E, 3, none⟩ (.int .i64 0)).setCell ⟨E, 4, none⟩ (.int .i64 72)).setCell ⟨E, 5, none⟩ (.bool false)) := ⟨_, rfl⟩
    rw [← hW3]
    have hX : EncX W3 E B (firstEs L) L := by
      rw [hW3]
      have hkt := kt_of_grown HG3.out HE2.out hBE
      have hfo := owns5_grown HF2.out HE2.out HG3.out
      have eL : firstEs L = { n := 128, i := 0, len := 0, bias := 72, b := false, form := [] } := by unfold firstEs; rw [HL0.out]; rfl
      rw [eL]
      rw [HL0.out] at hfo
      exact ⟨g, c, _, by have := HE3.out; rw [HL0.out] at this; exact this, hkt.owns HO2.out (by decide) (by decide), hfo, hBE, (Array.getElem?_eq_some_iff.1 HE3.out).1⟩
    have hk3 : KT B w W3 := by rw [hW3]; exact HK2.out.trans (kt_of_grown HG3.out HE2.out hBE)
    have hoc := others_any E B (firstEs L) L ms ys W3 hX hL hM hS hC
    have HX : Hid (EncX W3 E B (firstEs L) L) := hX
    have HK : Hid (KT B w W3) := hk3
    clear hX hk3 hW3 d1 d2 d3 d4 d5 d6 f1 f2 f3 f4 f5 f6 HE3 HG3 HE2 HO2 HF2 HK2
    refine hoc.mono ?_
    rintro e w4 ⟨v', rfl, ho4, hb4⟩
    obtain ⟨va, vc, rfl⟩ := own21_form ho4
    have hX4 : EncX w4 E B (firstEs L) L := encX_below HX.out hb4
    have hk4 : KT B w w4 := HK.out.trans (kt_of_below hb4 (by obtain ⟨_, _, _, _, _, _, h1, h2⟩ := HX.out; omega))
    have HO4 : Hid (w4.ownsRow W3.heap.size 21 1 (.slice va ys.length vc) ys.length (ys.map rv)) := ho4
    have HX4 : Hid (EncX w4 E B (firstEs L) L) := hX4
    have HK4 : Hid (KT B w w4) := hk4
    have HOK : Hid (eachAllOk L ys (firstEs L)) := hok
    have HAN : Hid ((eachAll L ys (firstEs L)).form = ANS) := hANS
    clear hX4 hk4 hb4 ho4 hoc hok hANS
    go_wp2
    go_loopw [34] (fun pl wr => ∃ (j : Nat) (x : Es), j ≤ ys.length ∧ pl = .int .i64 j ∧ EncX wr E B x L ∧ KT B w wr ∧ wr.ownsRow W3.heap.size 21 1 (.slice va ys.length vc) ys.length (ys.map rv) ∧ eachAllOk L (ys.drop j) x ∧ (eachAll L (ys.drop j) x).form = ANS) (fun pl _ => ys.length - (intOf pl).toNat)
    case atStart => exact ⟨0, firstEs L, by omega, rfl, HX4.out, HK4.out, HO4.out, by simpa using HOK.out, by simpa using HAN.out⟩
    case round =>
      obtain ⟨j, x, hj, rfl, hXr, hkr, hor, hokr, hanr⟩ := hrel
      clear HX4 HK4 HO4 HOK HAN HX
      by_cases hlt : j < ys.length
      · obtain ⟨gf, rfl⟩ : ∃ gf, va = some ⟨gf, 0, none⟩ := own21_addr hor (by omega)
        have HC : Hid (ys.drop j = ys[j] :: ys.drop (j + 1)) := drop_cons_nat hlt
        obtain ⟨y, hy1⟩ : ∃ y, ys[j] = y := ⟨_, rfl⟩
        have hcell : wr.cell? ⟨gf, j, none⟩ = some (.int .i32 (y : Int)) := by
          have := hor.cells (g := gf) rfl j (rv y) (by rw [List.getElem?_map, List.getElem?_eq_getElem hlt, hy1]; rfl)
          rwa [Addr.add_lit, Nat.zero_add] at this
        rw [HC.out, hy1] at hokr hanr
        obtain ⟨hy2, hok1, hok2⟩ := hokr
        have hwe := writeEach_any E B x L y wr hXr hy2 hL hM hok1
        unfold rv at hwe
        have HKR : Hid (KT B w wr) := hkr
        have HOR : Hid (wr.ownsRow W3.heap.size 21 1 (.slice (some ⟨gf, 0, none⟩) ys.length vc) ys.length (ys.map rv)) := hor
        have HOK2 : Hid (eachAllOk L (ys.drop (j + 1)) (each y L 0 x)) := hok2
        have HAN2 : Hid ((eachAll L (ys.drop (j + 1)) (each y L 0 x)).form = ANS) := hanr
        clear hXr hkr hor hok1 hok2 hanr HC hy1
        go_wp2_with fail
        refine hwe.mono ?_
        rintro e w6 ⟨rfl, hX6, hk6⟩
        have HX6 : Hid (EncX w6 E B (each y L 0 x) L) := hX6
        have HK6 : Hid (KT B wr w6) := hk6
        clear hX6 hk6 hwe
        go_wp2
        go_roundw
        case rel => exact ⟨j + 1, each y L 0 x, by omega, by go_num, HX6.out, HKR.out.trans HK6.out, HK6.out.owns HOR.out (by decide) (by decide), HOK2.out, HAN2.out⟩
        case measure => simp [intOf]; omega
      · have han2 : x.form = ANS := by rw [List.drop_eq_nil_of_le (by omega)] at hanr; exact hanr
        obtain ⟨g6, c6', fv6, hE6, ho6, hof6, _, _⟩ := hXr
        obtain ⟨fa6, fc6, rfl⟩ := own5_form hof6
        have hcv := run_formString wr B x.form.length _ x.form rfl hof6
        have k6 : wr.cell? ⟨E, 6, none⟩ = some (.slice fa6 x.form.length fc6) := by rw [cell_of_row wr E 6 _ 176 (0, 0) hE6]; rfl
        have HKR : Hid (KT B w wr) := hkr
        have HAN2 : Hid (x.form = ANS) := han2
        clear hE6 ho6 hof6 hkr hor hokr hanr han2
        go_wp2
        go_ret
        exact ⟨by rw [← HAN2.out]; rfl, below_of_kt HKR.out⟩
  · have hal := ascF_len L
    obtain ⟨gF, rfl⟩ : ∃ gF, fa = some ⟨gF, 0, none⟩ := by
      obtain ⟨gF, cF, hfv⟩ := own5_some hof (show 1 ≤ (ascF L).length by omega)
      simp only [Value.slice.injEq] at hfv
      exact ⟨gF, hfv.1⟩
    have h0i : (0 : Int) < ((ascF L).length : Int) := by omega
    have h63 : (ascF L).length + 1 ≤ maxLen := by unfold maxLen; omega
    have h47 : ((ascF L).length + 1) * 1 ≤ 140737488355328 := by omega
    obtain ⟨i0, hi, hz0, hz1, hz2⟩ := info_parts info5
    have hone : ∀ u ∈ [Value.int .u8 (45 : Int)], u.oneCell' = true := by intro u hu; simp at hu; subst hu; rfl
    go_wp2_with fail
    refine (hfs _ _).mono ?_
    rintro e w2 ⟨rfl, hb2⟩
    have hE2 : w2.heap[E]? = _ := (hb2.block E hEl).trans hE
    have d1 : w2.cell? ⟨E, 1, none⟩ = some (.int .i64 (0 : Nat)) := by rw [cell_of_row w2 E 1 _ 176 (0, 0) hE2]; rfl
    have d2 : w2.cell? ⟨E, 2, none⟩ = some (.int .i64 (0 : Nat)) := by rw [cell_of_row w2 E 2 _ 176 (0, 0) hE2]; rfl
    have d3 : w2.cell? ⟨E, 3, none⟩ = some (.int .i64 (0 : Nat)) := by rw [cell_of_row w2 E 3 _ 176 (0, 0) hE2]; rfl
    have d4 : w2.cell? ⟨E, 4, none⟩ = some (.int .i64 (0 : Nat)) := by rw [cell_of_row w2 E 4 _ 176 (0, 0) hE2]; rfl
    have d5 : w2.cell? ⟨E, 5, none⟩ = some (.bool false) := by rw [cell_of_row w2 E 5 _ 176 (0, 0) hE2]; rfl
    have d6 : w2.cell? ⟨E, 6, none⟩ = some (.slice (some ⟨gF, 0, none⟩) (ascF L).length fc) := by rw [cell_of_row w2 E 6 _ 176 (0, 0) hE2]; rfl
    have f1 := unfrozen hE2 1; have f2 := unfrozen hE2 2; have f3 := unfrozen hE2 3; have f4 := unfrozen hE2 4; have f5 := unfrozen hE2 5; have f6 := unfrozen hE2 6
    have HE2 : Hid (w2.heap[E]? = some (.cells (dCells (.slice (some ⟨g, 0, none⟩) L.length c) 0 0 0 0 false (.slice (some ⟨gF, 0, none⟩) (ascF L).length fc)) 176 (0, 0))) := hE2
    have HO2 : Hid (w2.ownsRow B 21 1 (.slice (some ⟨g, 0, none⟩) L.length c) L.length (L.map rv)) := owns_below hb2 ho
    have HF2 : Hid (w2.ownsRow B 5 1 (.slice (some ⟨gF, 0, none⟩) (ascF L).length fc) (ascF L).length ((ascF L).map bv)) := owns_below hb2 hof
    have HK2 : Hid (KT B w w2) := hk1.trans (kt_of_below hb2 (by omega))
    have HL0 : Hid (¬ ascF L = []) := fun e => h0 (by rw [e]; rfl)
    clear c6 hE2 ho hof hk1 hE hfs hb2
    go_wp2_with (at_builtin; refine Stand.out ?_)
    obtain ⟨WA, hWA⟩ : ∃ WA, WA = (((((w2.setCell ⟨E, 1, none⟩ (.int .i64 128)).setCell ⟨E, 2, none⟩ (.int .i64 0)).setCell ⟨E, 3, none⟩ (.int .i64 (ascF L).length)).setCell ⟨E, 4, none⟩ (.int .i64 72)).setCell ⟨E, 5, none⟩ (.bool false)) := ⟨_, rfl⟩
    rw [← hWA]
    have hEA : WA.heap[E]? = some (.cells (dCells (.slice (some ⟨g, 0, none⟩) L.length c) 128 0 (ascF L).length 72 false (.slice (some ⟨gF, 0, none⟩) (ascF L).length fc)) 176 (0, 0)) := by rw [hWA]; exact setCell_row (setCell_row (setCell_row (setCell_row (setCell_row HE2.out 1 _) 2 _) 3 _) 4 _) 5 _
    have hgA : w2.grownBy WA (some E) := by rw [hWA]; exact grown_setCell (grown_setCell (grown_setCell (grown_setCell (grown_setCell (World.grownBy.refl _ _) _ _) _ _) _ _) _ _) _ _
    have hktA := kt_of_grown hgA HE2.out hBE
    have hofA : WA.ownsRow B 5 1 (.slice (some ⟨gF, 0, none⟩) (ascF L).length fc) (ascF L).length ((ascF L).map bv) := owns5_grown HF2.out HE2.out hgA
    have HOA : Hid (WA.ownsRow B 21 1 (.slice (some ⟨g, 0, none⟩) L.length c) L.length (L.map rv)) := hktA.owns HO2.out (by decide) (by decide)
    have HKA : Hid (KT B w WA) := HK2.out.trans hktA
    have hElA := (Array.getElem?_eq_some_iff.1 hEA).1
    have hsz : WA.heap.size = w2.heap.size := by rw [hWA]; simp [World.setCell]
    have hnc : (WA.alloc (.cells #[.int .u8 (45 : Int)] 5)).cell? ⟨w2.heap.size, 0, none⟩ = some (.int .u8 (45 : Int)) := by rw [← hsz, cell_of_row _ WA.heap.size 0 _ 5 (0, 0) (Go.heap_alloc_new WA _)]; rfl
    have HNC : Hid ((WA.alloc (.cells #[.int .u8 (45 : Int)] 5)).cell? ⟨w2.heap.size, 0, none⟩ = some (.int .u8 (45 : Int))) := hnc
    clear hsz hnc
    have hBr : B ≤ (WA.alloc (.cells #[.int .u8 (45 : Int)] 5)).heap.size := by simp; omega
    have e6 : WA.cell? ⟨E, 6, none⟩ = some (.slice (some ⟨gF, 0, none⟩) (ascF L).length fc) := by rw [cell_of_row WA E 6 _ 176 (0, 0) hEA]; rfl
    have HEA : Hid (WA.heap[E]? = some (.cells (dCells (.slice (some ⟨g, 0, none⟩) L.length c) 128 0 (ascF L).length 72 false (.slice (some ⟨gF, 0, none⟩) (ascF L).length fc)) 176 (0, 0))) := hEA
    clear hWA hEA hgA hktA HE2 HO2 HF2 HK2 d1 d2 d3 d4 d5 d6 f1 f2 f3 f4 f5 f6
    refine ⟨?_⟩
    go_wp2_with (at_builtin; refine wpList_append_own _ rfl (.tmp 26) (.tmp 27) 30 rfl B 5 i0 (.int .u8 0) 1 1 Tryz.underlying30 hi hz0 hz1 hz2 rfl (by decide) _ _ _ rfl (hofA.alloc _) ⟨w2.heap.size, 0, none⟩ 1 1 [.int .u8 (45 : Int)] rfl rfl (cell_one HNC.out) hone h63 h47 hBr ?_)
    intro v' w5 ho5 hgr _
    obtain ⟨g', c', rfl⟩ := own5_some ho5 (by omega)
    have hk5 : K5 B WA w5 := ((K5.refl B WA).alloc (by omega) _).grown (hofA.alloc _) hgr hBr
    have hE5 : w5.heap[E]? = some (.cells (dCells (.slice (some ⟨g, 0, none⟩) L.length c) 128 0 (ascF L).length 72 false (.slice (some ⟨gF, 0, none⟩) (ascF L).length fc)) 176 (0, 0)) := hk5.typ E _ 176 (0, 0) HEA.out (by decide)
    have k6 : w5.cell? ⟨E, 6, none⟩ = some (.slice (some ⟨gF, 0, none⟩) (ascF L).length fc) := by rw [cell_of_row w5 E 6 _ 176 (0, 0) hE5]; rfl
    have kf : w5.frozen? ⟨E, 6, none⟩ = false := unfrozen hE5 6
    have HE5 : Hid (w5.heap[E]? = some (.cells (dCells (.slice (some ⟨g, 0, none⟩) L.length c) 128 0 (ascF L).length 72 false (.slice (some ⟨gF, 0, none⟩) (ascF L).length fc)) 176 (0, 0))) := hE5
    have HO5 : Hid (w5.ownsRow B 5 1 (.slice (some ⟨g', 0, none⟩) ((ascF L).length + 1) c') ((ascF L).length + 1) ((ascF L).map bv ++ [.int .u8 (45 : Int)])) := ho5
    have HK5 : Hid (K5 B WA w5) := hk5
    clear ho5 hgr hofA hk5 hE5 e6
    go_wp2_with fail
    obtain ⟨W3, hW3⟩ : ∃ W3, W3 = w5.setCell ⟨E, 6, none⟩ (.slice (some ⟨g', 0, none⟩) ((ascF L).length + 1) c') := ⟨_, rfl⟩
    rw [← hW3]
    have hgs : w5.grownBy W3 (some E) := by rw [hW3]; exact grown_setCell (World.grownBy.refl _ _) _ _
    have hE6 : W3.heap[E]? = some (.cells (dCells (.slice (some ⟨g, 0, none⟩) L.length c) 128 0 (ascF L).length 72 false (.slice (some ⟨g', 0, none⟩) ((ascF L).length + 1) c')) 176 (0, 0)) := by rw [hW3]; exact setCell_row HE5.out 6 _
    have hX : EncX W3 E B (firstEs L) L := by
      have hkt := kt_of_grown hgs HE5.out hBE
      have hfo := owns5_grown HO5.out HE5.out hgs
      have eL : firstEs L = { n := 128, i := 0, len := (ascF L).length, bias := 72, b := false, form := ascF L ++ [45] } := by unfold firstEs; rw [if_neg HL0.out]
      rw [eL]
      refine ⟨g, c, _, hE6, hkt.owns (HK5.out.owns HOA.out (by decide)) (by decide) (by decide), ?_, hBE, (Array.getElem?_eq_some_iff.1 hE6).1⟩
      show W3.ownsRow B 5 1 _ (ascF L ++ [45]).length ((ascF L ++ [45]).map bv)
      rw [List.length_append, List.map_append]
      exact hfo
    have hk3 : KT B w W3 := (HKA.out.trans HK5.out.kt).trans (kt_of_grown hgs HE5.out hBE)
    have hoc := others_any E B (firstEs L) L ms ys W3 hX hL hM hS hC
    have HX : Hid (EncX W3 E B (firstEs L) L) := hX
    have HK : Hid (KT B w W3) := hk3
    clear hX hk3 hW3 hgs hE6 k6 kf HE5 HO5 HK5 HOA HKA HEA
    refine hoc.mono ?_
    rintro e w4 ⟨v', rfl, ho4, hb4⟩
    obtain ⟨va, vc, rfl⟩ := own21_form ho4
    have hX4 : EncX w4 E B (firstEs L) L := encX_below HX.out hb4
    have hk4 : KT B w w4 := HK.out.trans (kt_of_below hb4 (by obtain ⟨_, _, _, _, _, _, h1, h2⟩ := HX.out; omega))
    have HO4 : Hid (w4.ownsRow W3.heap.size 21 1 (.slice va ys.length vc) ys.length (ys.map rv)) := ho4
    have HX4 : Hid (EncX w4 E B (firstEs L) L) := hX4
    have HK4 : Hid (KT B w w4) := hk4
    have HOK : Hid (eachAllOk L ys (firstEs L)) := hok
    have HAN : Hid ((eachAll L ys (firstEs L)).form = ANS) := hANS
    clear hX4 hk4 hb4 ho4 hoc hok hANS
    go_wp2
    go_loopw [34] (fun pl wr => ∃ (j : Nat) (x : Es), j ≤ ys.length ∧ pl = .int .i64 j ∧ EncX wr E B x L ∧ KT B w wr ∧ wr.ownsRow W3.heap.size 21 1 (.slice va ys.length vc) ys.length (ys.map rv) ∧ eachAllOk L (ys.drop j) x ∧ (eachAll L (ys.drop j) x).form = ANS) (fun pl _ => ys.length - (intOf pl).toNat)
    case atStart => exact ⟨0, firstEs L, by omega, rfl, HX4.out, HK4.out, HO4.out, by simpa using HOK.out, by simpa using HAN.out⟩
    case round =>
      obtain ⟨j, x, hj, rfl, hXr, hkr, hor, hokr, hanr⟩ := hrel
      clear HX4 HK4 HO4 HOK HAN HX
      by_cases hlt : j < ys.length
      · obtain ⟨gf, rfl⟩ : ∃ gf, va = some ⟨gf, 0, none⟩ := own21_addr hor (by omega)
        have HC : Hid (ys.drop j = ys[j] :: ys.drop (j + 1)) := drop_cons_nat hlt
        obtain ⟨y, hy1⟩ : ∃ y, ys[j] = y := ⟨_, rfl⟩
        have hcell : wr.cell? ⟨gf, j, none⟩ = some (.int .i32 (y : Int)) := by
          have := hor.cells (g := gf) rfl j (rv y) (by rw [List.getElem?_map, List.getElem?_eq_getElem hlt, hy1]; rfl)
          rwa [Addr.add_lit, Nat.zero_add] at this
        rw [HC.out, hy1] at hokr hanr
        obtain ⟨hy2, hok1, hok2⟩ := hokr
        have hwe := writeEach_any E B x L y wr hXr hy2 hL hM hok1
        unfold rv at hwe
        have HKR : Hid (KT B w wr) := hkr
        have HOR : Hid (wr.ownsRow W3.heap.size 21 1 (.slice (some ⟨gf, 0, none⟩) ys.length vc) ys.length (ys.map rv)) := hor
        have HOK2 : Hid (eachAllOk L (ys.drop (j + 1)) (each y L 0 x)) := hok2
        have HAN2 : Hid ((eachAll L (ys.drop (j + 1)) (each y L 0 x)).form = ANS) := hanr
        clear hXr hkr hor hok1 hok2 hanr HC hy1
        go_wp2_with fail
        refine hwe.mono ?_
        rintro e w6 ⟨rfl, hX6, hk6⟩
        have HX6 : Hid (EncX w6 E B (each y L 0 x) L) := hX6
        have HK6 : Hid (KT B wr w6) := hk6
        clear hX6 hk6 hwe
        go_wp2
        go_roundw
        case rel => exact ⟨j + 1, each y L 0 x, by omega, by go_num, HX6.out, HKR.out.trans HK6.out, HK6.out.owns HOR.out (by decide) (by decide), HOK2.out, HAN2.out⟩
        case measure => simp [intOf]; omega
      · have han2 : x.form = ANS := by rw [List.drop_eq_nil_of_le (by omega)] at hanr; exact hanr
        obtain ⟨g6, c6', fv6, hE6, ho6, hof6, _, _⟩ := hXr
        obtain ⟨fa6, fc6, rfl⟩ := own5_form hof6
        have hcv := run_formString wr B x.form.length _ x.form rfl hof6
        have k6 : wr.cell? ⟨E, 6, none⟩ = some (.slice fa6 x.form.length fc6) := by rw [cell_of_row wr E 6 _ 176 (0, 0) hE6]; rfl
        have HKR : Hid (KT B w wr) := hkr
        have HAN2 : Hid (x.form = ANS) := han2
        clear hE6 ho6 hof6 hkr hor hokr hanr han2
        go_wp2
        go_ret
        exact ⟨by rw [← HAN2.out]; rfl, below_of_kt HKR.out⟩
end Go.Proofs.YtkaaldhejpaiiaaGreatDoor

/- pdqsort at none and at one. -/
namespace Go.Proofs.YtkaaldhejpaiiaaGreatDoor
open Go.RowKit
set_option maxRecDepth 100000 in
set_option maxHeartbeats 1000000 in
theorem ins0 (a : Option Addr) (n c b : Nat) (hb : b ≤ 1) (w : World) : Calls Tryz.prog 200 #[.slice a n c, .int .i64 0, .int .i64 b] w fun e w' => e = .returned (.tuple #[]) ∧ w' = w := by
  go_enter Tryz.func200, Tryz.ntmps200
  go_wp2
  go_loop [6] (fun i => i = .int .i64 1) (fun _ => 0)
  case atStart => rfl
  case round =>
    obtain rfl := hrel
    go_wp2
    go_end0
    exact ⟨rfl, rfl⟩

set_option maxRecDepth 100000 in
set_option maxHeartbeats 1000000 in
theorem len0 (w : World) : Calls Tryz.prog 192 #[.int .u64 0] w fun e w' => (∃ l : Int, e = .returned (.int .i64 l)) ∧ w' = w := by
  go_enter Tryz.func192, Tryz.ntmps192
  go_wp2
  go_ret
  exact ⟨⟨_, rfl⟩, rfl⟩
set_option maxRecDepth 100000 in
set_option maxHeartbeats 1000000 in
theorem len1 (w : World) : Calls Tryz.prog 192 #[.int .u64 1] w fun e w' => (∃ l : Int, e = .returned (.int .i64 l)) ∧ w' = w := by
  go_enter Tryz.func192, Tryz.ntmps192
  go_wp2
  go_ret
  exact ⟨⟨_, rfl⟩, rfl⟩
set_option maxRecDepth 100000 in
set_option maxHeartbeats 1000000 in
theorem pdq0 (a : Option Addr) (n c b : Nat) (l : Int) (hb : b ≤ 1) (w : World) : Calls Tryz.prog 191 #[.slice a n c, .int .i64 0, .int .i64 b, .int .i64 l] w fun e w' => e = .returned (.tuple #[]) ∧ w' = w := by
  go_enter Tryz.func191, Tryz.ntmps191
  go_wp2
  refine wp_loop_once ?_
  go_wp2_with (go_at_call 200; refine (ins0 a n c b hb _).mono ?_; rintro e w' ⟨rfl, hw'⟩; rw [hw']; clear hw')
  refine bodyPost_ret (results_none rfl _ _ _) rfl ?_
  exact ⟨rfl, rfl⟩
set_option maxRecDepth 100000 in
set_option maxHeartbeats 1000000 in
theorem sort_few (a : Option Addr) (n c : Nat) (hn : n ≤ 1) (w : World) : Calls Tryz.prog 168 #[.slice a n c] w fun e w' => e = .returned (.tuple #[]) ∧ w' = w := by
  rcases Nat.le_one_iff_eq_zero_or_eq_one.1 hn with rfl | rfl
  · go_enter Tryz.func168, Tryz.ntmps168
    go_wp2_with (first | (go_at_call 192; refine (len0 _).mono ?_; rintro e w' ⟨⟨l, rfl⟩, hw'⟩; rw [hw']; clear hw') | (go_at_call 191; refine (pdq0 a 0 c 0 l (by omega) _).mono ?_; rintro e w' ⟨rfl, hw'⟩; rw [hw']; clear hw'))
    go_end0
    exact ⟨rfl, rfl⟩
  · go_enter Tryz.func168, Tryz.ntmps168
    go_wp2_with (first | (go_at_call 192; refine (len1 _).mono ?_; rintro e w' ⟨⟨l, rfl⟩, hw'⟩; rw [hw']; clear hw') | (go_at_call 191; refine (pdq0 a 1 c 1 l (by omega) _).mono ?_; rintro e w' ⟨rfl, hw'⟩; rw [hw']; clear hw'))
    go_end0
    exact ⟨rfl, rfl⟩
set_option maxRecDepth 100000 in
set_option maxHeartbeats 1000000 in
theorem compact_few (a : Option Addr) (n c : Nat) (hn : n ≤ 1) (w : World) : Calls Tryz.prog 169 #[.slice a n c] w fun e w' => e = .returned (.slice a n c) ∧ w' = w := by
  go_enter Tryz.func169, Tryz.ntmps169
  go_wp2
  go_ret
  exact ⟨rfl, rfl⟩
theorem sortOk_few (zs : List Nat) (h : zs.length ≤ 1) : SortOk zs zs := by
  intro B w v ho _
  obtain ⟨a, c, rfl⟩ := own21_form ho
  refine (sort_few a zs.length c h w).mono ?_
  rintro e w' ⟨rfl, rfl⟩
  exact ⟨rfl, ho, Below.refl _ _⟩
theorem compOk_few (zs : List Nat) (h : zs.length ≤ 1) : CompOk zs zs := by
  intro B w v ho _
  obtain ⟨a, c, rfl⟩ := own21_form ho
  refine (compact_few a zs.length c h w).mono ?_
  rintro e w' ⟨rfl, rfl⟩
  exact ⟨_, rfl, ho, Below.refl _ _⟩
end Go.Proofs.YtkaaldhejpaiiaaGreatDoor

/- The library's sort at runes: slices.Sort of a row that the call owns. -/
namespace Go.Proofs.YtkaaldhejpaiiaaGreatDoor
open Go.RowKit Go.Sort

set_option maxHeartbeats 4000000 in
set_option maxRecDepth 100000 in
theorem sort32 (blk n cap : Nat) (d : Array Int) (w : World) (hn : d.size = n) (hH : Holds (Value.int .i32) w blk 0 d) (hblk : blk < w.heap.size) (hsz : n ≤ 1000000) :
    Calls Tryz.prog 168 #[.slice (some ⟨blk, 0, none⟩) n cap] w fun e w' => e = .returned (.tuple #[]) ∧ ∃ d', S32 w blk 0 d' w' ∧ PermIn 0 n d d' ∧ SortedIn ltInt 0 n d' := by
  have hl := fun W => len_any (n : Int) W (by omega) (by omega)
  have h21 := len_small hsz
  have hp := fun l (hl : l ≤ 1000) => pdq32 (n + 1) blk 0 n cap 0 n l d w (by omega) hn hH hblk (by omega) (Nat.le_refl _) hsz hl (Or.inl rfl)
  simp only [Int.toNat_natCast] at hl
  have hp2 := hp (bitsLen n) (by omega)
  clear hp hH
  go_enter Tryz.func168, Tryz.ntmps168
  go_wp2_with (first | (go_at_call 192; refine (hl _).mono ?_; rintro e w' ⟨rfl, hw'⟩; rw [hw']; clear hw') | (go_at_call 191; refine hp2.mono ?_; rintro e w' ⟨rfl, hd'⟩))
  go_end0
  exact ⟨rfl, hd'⟩

/-- The numbers of zs, by size. -/
def sorted (zs : List Nat) : List Nat := ((zs.map (fun (n : Nat) => (n : Int))).mergeSort (fun x y => !ltInt y x)).map Int.toNat
theorem cast_back (l : List Int) (h : ∀ x ∈ l, 0 ≤ x) : (l.map Int.toNat).map (fun (n : Nat) => (n : Int)) = l := by
  rw [List.map_map]
  conv => rhs; rw [← List.map_id l]
  apply List.map_congr_left
  intro x hx
  have := h x hx
  simp only [Function.comp_apply, id]
  omega
theorem sorted_cast (zs : List Nat) : (sorted zs).map (fun (n : Nat) => (n : Int)) = (zs.map (fun (n : Nat) => (n : Int))).mergeSort (fun x y => !ltInt y x) := by
  unfold sorted
  refine cast_back _ fun x hx => ?_
  have := (List.mergeSort_perm _ _).mem_iff.1 hx
  obtain ⟨n, _, rfl⟩ := List.mem_map.1 this
  omega
theorem sorted_perm (zs : List Nat) : (sorted zs).Perm zs := by
  have h := (List.mergeSort_perm (zs.map (fun (n : Nat) => (n : Int))) (fun x y => !ltInt y x)).map Int.toNat
  unfold sorted
  refine h.trans ?_
  rw [List.map_map]
  have : (Int.toNat ∘ fun (n : Nat) => (n : Int)) = id := by funext n; simp
  rw [this, List.map_id]
theorem sorted_up (zs : List Nat) : (sorted zs).Pairwise (· ≤ ·) := by
  have h : ((zs.map (fun (n : Nat) => (n : Int))).mergeSort (fun x y => !ltInt y x)).Pairwise (fun x y => (!ltInt y x) = true) :=
    List.pairwise_mergeSort (fun x y z h1 h2 => by simp [ltInt] at h1 h2 ⊢; omega) (fun x y => by simp [ltInt]; omega) _
  rw [← sorted_cast, List.pairwise_map] at h
  refine h.imp ?_
  intro x y hxy
  simp [ltInt] at hxy
  exact hxy

/-- What the row's block is behind it. -/
theorem S32.block {w w' : World} {g : Nat} {d : Array Int} {cur : Array Value} {e : TypeId} {fr : Nat × Nat} (h : S32 w g 0 d w') (hb : w.heap[g]? = some (.cells cur e fr)) : ∃ cur', w'.heap[g]? = some (.cells cur' e fr) ∧ cur'.size = cur.size := by
  obtain ⟨n, os, rfl⟩ := h.at'
  have hg := h.lt0
  rw [heap_grow_old _ _ (by simpa using hg)]
  exact ⟨putCells (Value.int .i32) 0 d cur, by simp [putRow, mapBlock, Sort.ahead, Array.getElem?_modify, hb, onCells], by simp [putCells]⟩
theorem S32.below {w w' : World} {g B : Nat} {d : Array Int} (h : S32 w g 0 d w') (hB : B ≤ g) : Go.RowKit.Below B w w' := by
  obtain ⟨n, os, rfl⟩ := h.at'
  have hg := h.lt0
  refine ⟨rfl, rfl, rfl, by simp, fun k hk => ?_⟩
  rw [heap_grow_old _ _ (by simp; omega)]
  simp [putRow, mapBlock, Sort.ahead, Array.getElem?_modify, show g ≠ k by omega]
theorem S32.owns {w w' : World} {g B n cap : Nat} {d : Array Int} {cur : Array Value} {ms : List Nat} (h : S32 w g 0 d w') (hb : w.heap[g]? = some (.cells cur 21 (0, 0))) (hB : B ≤ g) (h1 : n ≤ cap) (h2 : cap ≤ maxLen) (h3 : cur.size = cap * 1)
    (hd : d.toList.take n = ms.map (fun (m : Nat) => (m : Int))) (hnd : n ≤ d.size) : w'.ownsRow B 21 1 (.slice (some ⟨g, 0, none⟩) n cap) n (ms.map rv) := by
  obtain ⟨cur', hb', hs'⟩ := h.block hb
  have hn : ms.length = n := by
    have := congrArg List.length hd
    rw [List.length_take, List.length_map, Array.length_toList] at this
    omega
  refine ⟨by rw [List.length_map, hn, Nat.mul_one], .inr ⟨g, cap, cur', rfl, hB, hb', h1, h2, by rw [hs', h3], ?_⟩⟩
  apply List.ext_getElem?
  intro j
  by_cases hj : j < n
  · rw [List.getElem?_take_of_lt (by omega), Array.getElem?_toList]
    have hc := (h.holds j (by omega)).1
    simp only [World.cell?, hb', Nat.zero_add] at hc
    simp only [Option.isSome_none, Bool.false_eq_true, if_false] at hc
    rw [hc, List.getElem?_map, List.getElem?_eq_getElem (by omega)]
    have e1 : d.toList[j]? = some ((ms[j]'(by omega) : Nat) : Int) := by
      have : (d.toList.take n)[j]? = (ms.map (fun (m : Nat) => (m : Int)))[j]? := by rw [hd]
      rw [List.getElem?_take_of_lt hj, List.getElem?_map, List.getElem?_eq_getElem (l := ms) (by omega)] at this
      exact this
    have e2 : d[j]! = ((ms[j]'(by omega) : Nat) : Int) := by
      rw [Array.getElem?_toList, Array.getElem?_eq_getElem (by omega)] at e1
      rw [getElem!_pos d j (by omega)]
      exact Option.some.inj e1
    rw [e2]
    rfl
  · rw [List.getElem?_take_eq_none (by omega), List.getElem?_eq_none (by rw [List.length_map]; omega)]

theorem holds_own {w : World} {g : Nat} {cur : Array Value} {zs : List Nat} (hb : w.heap[g]? = some (.cells cur 21 (0, 0))) (ht : cur.toList.take (zs.length * 1) = zs.map rv) : Holds (Value.int .i32) w g 0 (zs.map (fun (n : Nat) => (n : Int))).toArray := by
  intro j hj
  have hj' : j < zs.length := by simpa using hj
  refine ⟨?_, by simp [World.frozen?, hb]⟩
  have h1 : (cur.toList.take (zs.length * 1))[j]? = (zs.map rv)[j]? := by rw [ht]
  rw [List.getElem?_take_of_lt (by omega)] at h1
  simp only [World.cell?, hb, Nat.zero_add]
  simp only [Option.isSome_none, Bool.false_eq_true, if_false]
  rw [← Array.getElem?_toList, h1]
  simp [hj', rv]

theorem sortOk_any (zs : List Nat) (hz : zs.length ≤ 1000) : SortOk zs (sorted zs) := by
  intro B w v ho hB
  have hlen := (sorted_perm zs).length_eq
  rcases ho.2 with ⟨rfl, h0⟩ | ⟨g, cap, cur, rfl, hBg, hb, h1, h2, h3, h4⟩
  · obtain rfl : zs = [] := List.length_eq_zero_iff.1 h0
    have := sortOk_few [] (by simp) B w _ ho hB
    simpa [sorted] using this
  · have hg : g < w.heap.size := (Array.getElem?_eq_some_iff.1 hb).1
    have hH := holds_own hb h4
    refine (sort32 g zs.length cap _ w (by simp) hH hg (by omega)).mono ?_
    rintro e w' ⟨rfl, d', hS, hP, hs⟩
    have hu := sorted_unique_holds (lt := ltInt) swo_ltInt (fun x y a b => by simp [ltInt] at a b; omega) (zs.map (fun (n : Nat) => (n : Int))).toArray d' (by simpa using hP) (by simpa using hs)
    rw [List.toList_toArray, ← sorted_cast] at hu
    refine ⟨rfl, ?_, hS.below hBg⟩
    rw [hlen]
    have hds : d'.size = zs.length := by rw [hP.1]; simp
    exact hS.owns hb hBg h1 h2 h3 (by rw [List.take_of_length_le (by rw [Array.length_toList]; omega)]; exact hu) (by omega)

end Go.Proofs.YtkaaldhejpaiiaaGreatDoor

