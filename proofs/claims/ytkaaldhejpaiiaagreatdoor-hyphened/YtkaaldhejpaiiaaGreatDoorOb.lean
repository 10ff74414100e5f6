/- A world that lays the four tables; what the rows' condition gives. -/
import Derived.Test.YtkaaldhejpaiiaaGreatDoorRows
import Derived.Test.YtkaaldhejpaiiaaGreatDoorOa
import Derived.Lib.LaidCaseMet
import Derived.ProofKit
import Derived.LaidMore
import Derived.LaidHandle
import Derived.OpenShut
import Derived.Stop.Joined
import Derived.Lib.LaidU8T
import Derived.PinnedBridge
namespace Go.Proofs.YtkaaldhejpaiiaaGreatDoor
open Go.RowKit

theorem laidVars_split {P : Program} {w : World} : ∀ (l l' : List (String × DataW Unit)) (ps : List MemPlace), DataW.LaidVars P w (l ++ l') ps → ∃ p q, ps = p ++ q ∧ DataW.LaidVars P w l p ∧ DataW.LaidVars P w l' q
  | [], l', ps, h => ⟨[], ps, rfl, rfl, h⟩
  | (n, d) :: l, l', ps, h => by
    obtain ⟨g, t, cs, fuel, p, q, h1, h2, h3, h4, h5, rfl⟩ := h
    obtain ⟨p2, q2, rfl, h6, h7⟩ := laidVars_split l l' q h5
    exact ⟨MemPlace.row ⟨g, 0, none⟩ cs.size ++ p ++ p2, q2, by simp, ⟨g, t, cs, fuel, p, p2, h1, h2, h3, h4, h6, rfl⟩, h7⟩
theorem laidMet_swap {P : Program} {w : World} (l : List (String × DataW Unit)) (x y : String × DataW Unit) (h : laidMet P (l ++ [x, y]) w) : laidMet P (l ++ [y, x]) w := by
  obtain ⟨ps, h1, h2, h3⟩ := h
  obtain ⟨p, q, rfl, h4, h5⟩ := laidVars_split l [x, y] ps h1
  obtain ⟨q1, q2, rfl, h6, h7⟩ := laidVars_split [x] [y] q h5
  have hp : List.Perm (p ++ (q2 ++ q1)) (p ++ (q1 ++ q2)) := List.Perm.append_left p List.perm_append_comm
  refine ⟨p ++ (q2 ++ q1), ?_, hp.nodup_iff.2 h2, fun b off hm => h3 b off (hp.mem_iff.1 hm)⟩
  have := Go.Proofs.LaidVars_append h7 h6
  exact Go.Proofs.LaidVars_append h4 this

def firstCells : Array Value := (Lib.firstTab.map fun z => Value.int .u8 z).toArray
noncomputable def greatWorld (os : Os) : World :=
  let w0 := World.doorLaid Tryz.prog 50 os
  let put (h : Array Obj) (g : Nat) (cs : Array Value) : Array Obj := h.modify g fun
    | .cells _ t frozen => .cells cs t frozen
    | o => o
  let h1 := put w0.heap 1 firstCells
  let h2 := put h1 4 #[.slice (some ⟨w0.heap.size, 0, none⟩) 336 336]
  { w0 with heap := h2.push (.cells Lib.caseCells5 221 (0, 0)) }
theorem caseX : Go.Proofs.CaseExtra Tryz.prog Tryz.lays159_ren := ⟨by kernel_rfl, by kernel_rfl, by kernel_rfl, by kernel_rfl, by kernel_rfl, by kernel_rfl⟩
def threeLaid : List (String × DataW Unit) := [("unicode/utf8.acceptRanges", Rows.laid_unicode_utf8_acceptRanges), ("manor/manor.table", Rows.laid_manor_manor_table), ("unicode/utf8.first", Lib.firstData)]
theorem great_run (os : Os) (args : Array Value) : laidMet Tryz.prog (threeLaid ++ [("unicode.CaseRanges", Lib.caseData)]) ((greatWorld os).forCall (fun _ _ => 0) ⟨#[], args, []⟩).memory :=
  Go.Proofs.laidMet_with_case (ρ := Tryz.lays159_ren) { Tryz.lays159 with } Tryz.lays159.t206 caseX (l := threeLaid)
    8 (by kernel_rfl) (by kernel_rfl) (by kernel_rfl) (World.doorLaid Tryz.prog 50 default).heap.size 221 (of_decide_eq_true (by kernel_rfl)) (by kernel_rfl) (by kernel_rfl) (by kernel_rfl)

def fourLaid : List (String × DataW Unit) := [("unicode/utf8.acceptRanges", Rows.laid_unicode_utf8_acceptRanges), ("manor/manor.table", Rows.laid_manor_manor_table), ("unicode.CaseRanges", Rows.laid_unicode_CaseRanges), ("unicode/utf8.first", Rows.laid_unicode_utf8_first)]
theorem four_met (os : Os) (args : Array Value) : laidMet Tryz.prog fourLaid ((greatWorld os).forCall (fun _ _ => 0) ⟨#[], args, []⟩).memory := by
  have h := laidMet_swap [("unicode/utf8.acceptRanges", Rows.laid_unicode_utf8_acceptRanges), ("manor/manor.table", Rows.laid_manor_manor_table)] ("unicode/utf8.first", Lib.firstData) ("unicode.CaseRanges", Lib.caseData) (great_run os args)
  have e1 : Rows.laid_unicode_utf8_first = Lib.firstData := Pinned.utf8First_eq
  have e2 : Rows.laid_unicode_CaseRanges = Lib.caseData := Pinned.caseRanges_eq
  unfold fourLaid
  rw [e1, e2]
  exact h
theorem own : ownKnob Tryz.prog.godebug = none := by kernel_rfl
theorem laidOutU : laidOutB Tryz.prog = true := by kernel_rfl
theorem extraU : U8Extra Tryz.prog laysValid_ren := ⟨by kernel_rfl, by kernel_rfl, by kernel_rfl, by kernel_rfl, by kernel_rfl, by kernel_rfl, by kernel_rfl⟩
theorem accept_is : (Rows.laid_unicode_utf8_acceptRanges : DataW Unit) = Lib.acceptData := by kernel_rfl
theorem gTable : Tryz.prog.globalNamed "manor/manor.table" = some 0 := by kernel_rfl
theorem tTable : (Tryz.prog.globals[0]?).map (·.type) = some 85 := by kernel_rfl
theorem c21 : Tryz.prog.cellsOf 21 = 1 := by kernel_rfl
theorem cRow : Tryz.prog.cellsOf 61 = 6 := by kernel_rfl
theorem cKi : Tryz.prog.cellsOf 56 = 1 := by kernel_rfl
theorem cSi : Tryz.prog.cellsOf 57 = 1 := by kernel_rfl
theorem cSc : Tryz.prog.cellsOf 58 = 1 := by kernel_rfl
theorem cJo : Tryz.prog.cellsOf 59 = 1 := by kernel_rfl
theorem cTab : Tryz.prog.cellsOf 85 = 198 := by kernel_rfl
def cells3 (r : Int × Int × Int × Int × Int × Int) : List Value := [.int .i32 r.1, .int .i32 r.2.1, .int .u8 r.2.2.1, .int .u8 r.2.2.2.1, .int .u8 r.2.2.2.2.1, .int .u8 r.2.2.2.2.2]
theorem chunks : ∀ (rows : List (Int × Int × Int × Int × Int × Int)) (cs : List Value), cs.length = rows.length * 6 → (∀ i r, rows[i]? = some r → (cs.drop (i * 6)).take 6 = cells3 r) → cs = rows.flatMap cells3
  | [], cs, hl, _ => by simpa using hl
  | r :: rows, cs, hl, h => by
    have h0 := h 0 r rfl
    simp only [Nat.zero_mul, List.drop_zero] at h0
    have ih := chunks rows (cs.drop 6) (by simp at hl ⊢; omega) (fun i x hx => by
      have := h (i + 1) x (by simpa using hx)
      rw [List.drop_drop, Nat.add_comm 6]
      rwa [Nat.add_mul, Nat.one_mul] at this)
    rw [List.flatMap_cons, ← ih, ← h0, List.take_append_drop]
def dat3 {H : Type} (r : Int × Int × Int × Int × Int × Int) : DataW H := .agg [.lit (.int .i32 r.1), .lit (.int .i32 r.2.1), .lit (.int .u8 r.2.2.1), .lit (.int .u8 r.2.2.2.1), .lit (.int .u8 r.2.2.2.2.1), .lit (.int .u8 r.2.2.2.2.2)]
theorem laid_is : Rows.laid_manor_manor_table = (.agg (tabK.map dat3) : DataW Unit) := rfl
theorem agg_is : aggK.toList = tabK.flatMap cells3 := by kernel_rfl
theorem sixes {L : List Value} {a b c d e f : Value} (hl : L.length = 6) (a0 : (L.drop 0).take 1 = [a]) (a1 : (L.drop 1).take 1 = [b]) (a2 : (L.drop 2).take 1 = [c]) (a3 : (L.drop 3).take 1 = [d]) (a4 : (L.drop 4).take 1 = [e]) (a5 : (L.drop 5).take 1 = [f]) : L = [a, b, c, d, e, f] := by
  match L, hl with
  | [x, y, z, u, v, t], _ =>
    simp at a0 a1 a2 a3 a4 a5
    rw [a0, a1, a2, a3, a4, a5]
theorem trod_struct6 {H : Type} {enc : TypeId × Value → H} {P : Program} {w : World} {base : Nat} {spare : Nat → Bool} {held : Bool} {t : TypeId} {f0 f1 f2 f3 f4 f5 : Field} {fuel : Nat} {cs : List Value} {x : DataW H × List MemPlace} (ht : P.underlying t = some (.struct #[f0, f1, f2, f3, f4, f5])) (h : DataW.trod enc P w base spare held fuel t cs = some x) :
    ∃ y0 y1 y2 y3 y4 y5 n, x.1 = .agg [y0.1, y1.1, y2.1, y3.1, y4.1, y5.1] ∧ cs.length = P.cellsOf t ∧ DataW.trod enc P w base spare held n f0.type ((cs.drop f0.offset).take (P.cellsOf f0.type)) = some y0 ∧
      DataW.trod enc P w base spare held n f1.type ((cs.drop f1.offset).take (P.cellsOf f1.type)) = some y1 ∧ DataW.trod enc P w base spare held n f2.type ((cs.drop f2.offset).take (P.cellsOf f2.type)) = some y2 ∧
      DataW.trod enc P w base spare held n f3.type ((cs.drop f3.offset).take (P.cellsOf f3.type)) = some y3 ∧ DataW.trod enc P w base spare held n f4.type ((cs.drop f4.offset).take (P.cellsOf f4.type)) = some y4 ∧ DataW.trod enc P w base spare held n f5.type ((cs.drop f5.offset).take (P.cellsOf f5.type)) = some y5 := by
  obtain ⟨xs, n, _, rfl, hl, hlen, hf⟩ := DataW.trod_struct ht h
  match xs, hlen with
  | [y0, y1, y2, y3, y4, y5], _ => exact ⟨y0, y1, y2, y3, y4, y5, n, by simp, hl, by simpa using hf 0 f0 rfl, by simpa using hf 1 f1 rfl, by simpa using hf 2 f2 rfl, by simpa using hf 3 f3 rfl, by simpa using hf 4 f4 rfl, by simpa using hf 5 f5 rfl⟩

theorem ground_of {W : World} (h : laidMetH Tryz.prog fourLaid W) : Lib.Utf8Tabs 1 2 W ∧ Tab W := by
  rw [MakeChecks.laidMetH_plain _ _ _ (by kernel_rfl)] at h
  obtain ⟨ps, ⟨g0, t0, cs0, f0, p0, q0, hg0, ht0, hv0, hd0, ⟨g1, t1, cs1, f1, p1, q1, hg1, ht1, hv1, hd1, ⟨g2, t2, cs2, f2, p2, q2, hg2, ht2, hv2, hd2, ⟨g3, t3, cs3, f3, p3, q3, hg3, ht3, hv3, hd3, _, _⟩, _⟩, _⟩, _⟩, _, _⟩ := h
  constructor
  · rw [accept_is] at hd0
    have e1 : Rows.laid_unicode_utf8_first = Lib.firstData := Pinned.utf8First_eq
    rw [e1] at hd3
    exact utf8Tabs_of_readsT (U8Types.of196 laysValid) extraU ⟨g3, t3, cs3, f3, p3, hg3, ht3, hv3, hd3⟩ ⟨g0, t0, cs0, f0, p0, hg0, ht0, hv0, hd0⟩
  · obtain rfl := Option.some.inj (gTable.symm.trans hg1)
    obtain rfl := Option.some.inj (tTable.symm.trans ht1)
    obtain ⟨xs, m, rfl, hx, hlen, hn, hel⟩ := DataW.trod_array Tryz.underlying85 hd1
    rw [laid_is] at hx
    simp only [Prod.mk.injEq, DataW.agg.injEq] at hx
    have hcs : cs1.toList = tabK.flatMap cells3 := by
      refine chunks tabK cs1.toList (by rw [hlen, cTab]; rfl) fun i r hr => ?_
      have hi : i < 33 := (List.getElem?_eq_some_iff.1 hr).1
      have he := hel i hi
      rw [cRow] at he
      have hxi : (xs.map (·.1))[i]? = some (dat3 r) := by rw [← hx.1, List.getElem?_map, hr]; rfl
      rw [List.getElem?_map] at hxi
      cases hy : xs[i]? with
      | none => simp [hy] at hxi
      | some y =>
        rw [hy] at he hxi
        simp only [Option.map_some, Option.some.injEq] at hxi
        obtain ⟨y0, y1, y2, y3, y4, y5, n, ey, hl3, e0, e1, e2, e3, e4, e5⟩ := trod_struct6 Tryz.underlying61 he
        obtain ⟨k0, a0, rfl, _⟩ := DataW.trod_int Tryz.underlying21 e0
        obtain ⟨k1, a1, rfl, _⟩ := DataW.trod_int Tryz.underlying21 e1
        obtain ⟨k2, a2, rfl, _⟩ := DataW.trod_int Tryz.underlying56 e2
        obtain ⟨k3, a3, rfl, _⟩ := DataW.trod_int Tryz.underlying57 e3
        obtain ⟨k4, a4, rfl, _⟩ := DataW.trod_int Tryz.underlying58 e4
        obtain ⟨k5, a5, rfl, _⟩ := DataW.trod_int Tryz.underlying59 e5
        rw [ey] at hxi
        simp only [dat3, DataW.agg.injEq, List.cons.injEq, DataW.lit.injEq, Lit.int.injEq, true_and, and_true] at hxi
        obtain ⟨rfl, rfl, rfl, rfl, rfl, rfl⟩ := hxi
        rw [cRow] at hl3
        exact sixes hl3 (by rw [c21] at a0; exact a0) (by rw [c21] at a1; exact a1) (by rw [cKi] at a2; exact a2) (by rw [cSi] at a3; exact a3) (by rw [cSc] at a4; exact a4) (by rw [cJo] at a5; exact a5)
    have e : cs1 = aggK := by
      apply Array.toList_inj.1
      rw [hcs, agg_is]
    simp only [World.var?, hg1, Option.bind_some] at hv1
    split at hv1
    · rename_i cs t fr hh
      simp only [Option.some.injEq] at hv1
      exact ⟨t, fr, by rw [hh, hv1, e]⟩
    · cases hv1
end Go.Proofs.YtkaaldhejpaiiaaGreatDoor
