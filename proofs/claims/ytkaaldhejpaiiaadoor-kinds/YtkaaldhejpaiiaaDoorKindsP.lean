/- Kinds: the row, proved. -/
import Derived.Test.YtkaaldhejpaiiaaDoorRows
import Derived.Test.YtkaaldhejpaiiaaDoorKindsW
import Derived.ProofKit
import Derived.LaidMore
import Derived.LaidHandle
import Derived.OpenShut
import Derived.Deep.Strs
import Derived.Stop.Joined
namespace Go.Proofs.YtkaaldhejpaiiaaDoor
open Go.ChangeShapes Go.WideShapes Go.ChangeAt Go.RowKit

theorem own : ownKnob Tryd.prog.godebug = none := by kernel_rfl
theorem gTable : Tryd.prog.globalNamed "manor/manor.table" = some 2 := by kernel_rfl
theorem tTable : (Tryd.prog.globals[2]?).map (·.type) = some 89 := by kernel_rfl
theorem c21 : Tryd.prog.cellsOf 21 = 1 := by kernel_rfl
theorem cRow : Tryd.prog.cellsOf 54 = 6 := by kernel_rfl
theorem cKi : Tryd.prog.cellsOf 49 = 1 := by kernel_rfl
theorem cSi : Tryd.prog.cellsOf 50 = 1 := by kernel_rfl
theorem cSc : Tryd.prog.cellsOf 51 = 1 := by kernel_rfl
theorem cJo : Tryd.prog.cellsOf 52 = 1 := by kernel_rfl
theorem cTab : Tryd.prog.cellsOf 89 = 198 := by kernel_rfl

def cells3 (r : Int × Int × Int × Int × Int × Int) : List Value := [.int .i32 r.1, .int .i32 r.2.1, .int .u8 r.2.2.1, .int .u8 r.2.2.2.1, .int .u8 r.2.2.2.2.1, .int .u8 r.2.2.2.2.2]
theorem chunks : ∀ (rows : List (Int × Int × Int × Int × Int × Int)) (cs : List Value), cs.length = rows.length * 6 → (∀ i r, rows[i]? = some r → (cs.drop (i * 6)).take 6 = cells3 r) → cs = rows.flatMap cells3
  | [], cs, hl, _ => by simpa using hl
  | r :: rows, cs, hl, h => by
    have h0 := h 0 r rfl
    simp only [Nat.zero_mul, List.drop_zero] at h0
    have ih := chunks rows (cs.drop 6) (by simp at hl ⊢; omega) (fun i x hx => by
      have := h (i + 1) x (by simpa using hx)
      rw [List.drop_drop, Nat.add_comm 6]
      rwa [Nat.add_mul, Nat.one_mul] at this)
    rw [List.flatMap_cons, ← ih, ← h0, List.take_append_drop]
def dat3 {H : Type} (r : Int × Int × Int × Int × Int × Int) : DataW H := .agg [.lit (.int .i32 r.1), .lit (.int .i32 r.2.1), .lit (.int .u8 r.2.2.1), .lit (.int .u8 r.2.2.2.1), .lit (.int .u8 r.2.2.2.2.1), .lit (.int .u8 r.2.2.2.2.2)]
theorem laid_is : Rows.laid_manor_manor_table = (.agg (tabK.map dat3) : DataW Unit) := rfl
theorem agg_is : aggK.toList = tabK.flatMap cells3 := by kernel_rfl
theorem sixes {L : List Value} {a b c d e f : Value} (hl : L.length = 6) (a0 : (L.drop 0).take 1 = [a]) (a1 : (L.drop 1).take 1 = [b]) (a2 : (L.drop 2).take 1 = [c]) (a3 : (L.drop 3).take 1 = [d]) (a4 : (L.drop 4).take 1 = [e]) (a5 : (L.drop 5).take 1 = [f]) : L = [a, b, c, d, e, f] := by
  match L, hl with
  | [x, y, z, u, v, t], _ =>
    simp at a0 a1 a2 a3 a4 a5
    rw [a0, a1, a2, a3, a4, a5]
theorem trod_struct6 {H : Type} {enc : TypeId × Value → H} {P : Program} {w : World} {base : Nat} {spare : Nat → Bool} {held : Bool} {t : TypeId} {f0 f1 f2 f3 f4 f5 : Field} {fuel : Nat} {cs : List Value} {x : DataW H × List MemPlace} (ht : P.underlying t = some (.struct #[f0, f1, f2, f3, f4, f5])) (h : DataW.trod enc P w base spare held fuel t cs = some x) :
    ∃ y0 y1 y2 y3 y4 y5 n, x.1 = .agg [y0.1, y1.1, y2.1, y3.1, y4.1, y5.1] ∧ cs.length = P.cellsOf t ∧ DataW.trod enc P w base spare held n f0.type ((cs.drop f0.offset).take (P.cellsOf f0.type)) = some y0 ∧
      DataW.trod enc P w base spare held n f1.type ((cs.drop f1.offset).take (P.cellsOf f1.type)) = some y1 ∧ DataW.trod enc P w base spare held n f2.type ((cs.drop f2.offset).take (P.cellsOf f2.type)) = some y2 ∧
      DataW.trod enc P w base spare held n f3.type ((cs.drop f3.offset).take (P.cellsOf f3.type)) = some y3 ∧ DataW.trod enc P w base spare held n f4.type ((cs.drop f4.offset).take (P.cellsOf f4.type)) = some y4 ∧ DataW.trod enc P w base spare held n f5.type ((cs.drop f5.offset).take (P.cellsOf f5.type)) = some y5 := by
  obtain ⟨xs, n, _, rfl, hl, hlen, hf⟩ := DataW.trod_struct ht h
  match xs, hlen with
  | [y0, y1, y2, y3, y4, y5], _ => exact ⟨y0, y1, y2, y3, y4, y5, n, by simp, hl, by simpa using hf 0 f0 rfl, by simpa using hf 1 f1 rfl, by simpa using hf 2 f2 rfl, by simpa using hf 3 f3 rfl, by simpa using hf 4 f4 rfl, by simpa using hf 5 f5 rfl⟩

theorem of_laid {W : World} (h : laidMetH Tryd.prog Rows.kindsRow.laid W) : ∃ tt fr, W.heap[2]? = some (.cells aggK tt fr) := by
  rw [MakeChecks.laidMetH_plain _ _ _ (by kernel_rfl)] at h
  obtain ⟨ps, ⟨g0, t0, cs0, f0, p0, q0, hg0, ht0, hv0, hd0, _, _⟩, _, _⟩ := h
  obtain rfl := Option.some.inj (gTable.symm.trans hg0)
  obtain rfl := Option.some.inj (tTable.symm.trans ht0)
  obtain ⟨xs, m, rfl, hx, hlen, hn, hel⟩ := DataW.trod_array Tryd.underlying89 hd0
  rw [laid_is] at hx
  simp only [Prod.mk.injEq, DataW.agg.injEq] at hx
  have hcs : cs0.toList = tabK.flatMap cells3 := by
    refine chunks tabK cs0.toList (by rw [hlen, cTab]; rfl) fun i r hr => ?_
    have hi : i < 33 := (List.getElem?_eq_some_iff.1 hr).1
    have he := hel i hi
    rw [cRow] at he
    have hxi : (xs.map (·.1))[i]? = some (dat3 r) := by rw [← hx.1, List.getElem?_map, hr]; rfl
    rw [List.getElem?_map] at hxi
    cases hy : xs[i]? with
    | none => simp [hy] at hxi
    | some y =>
      rw [hy] at he hxi
      simp only [Option.map_some, Option.some.injEq] at hxi
      obtain ⟨y0, y1, y2, y3, y4, y5, n, ey, hl3, e0, e1, e2, e3, e4, e5⟩ := trod_struct6 Tryd.underlying54 he
      obtain ⟨k0, a0, rfl, _⟩ := DataW.trod_int Tryd.underlying21 e0
      obtain ⟨k1, a1, rfl, _⟩ := DataW.trod_int Tryd.underlying21 e1
      obtain ⟨k2, a2, rfl, _⟩ := DataW.trod_int Tryd.underlying49 e2
      obtain ⟨k3, a3, rfl, _⟩ := DataW.trod_int Tryd.underlying50 e3
      obtain ⟨k4, a4, rfl, _⟩ := DataW.trod_int Tryd.underlying51 e4
      obtain ⟨k5, a5, rfl, _⟩ := DataW.trod_int Tryd.underlying52 e5
      rw [ey] at hxi
      simp only [dat3, DataW.agg.injEq, List.cons.injEq, DataW.lit.injEq, Lit.int.injEq, true_and, and_true] at hxi
      obtain ⟨rfl, rfl, rfl, rfl, rfl, rfl⟩ := hxi
      rw [cRow] at hl3
      exact sixes hl3 (by rw [c21] at a0; exact a0) (by rw [c21] at a1; exact a1) (by rw [cKi] at a2; exact a2) (by rw [cSi] at a3; exact a3) (by rw [cSc] at a4; exact a4) (by rw [cJo] at a5; exact a5)
  have e : cs0 = aggK := by
    apply Array.toList_inj.1
    rw [hcs, agg_is]
  simp only [World.var?, hg0, Option.bind_some] at hv0
  split at hv0
  · rename_i cs t fr hh
    simp only [Option.some.injEq] at hv0
    exact ⟨t, fr, by rw [hh, hv0, e]⟩
  · cases hv0

theorem door_met (os : Os) (args : Array Value) : laidMetH Tryd.prog Rows.kindsRow.laid ((World.doorLaid Tryd.prog 50 os).forCall (fun _ _ => 0) ⟨#[], args, []⟩).memory :=
  laidMetH_of_parts3 (fuel := 8) (laidMet_of_run' 8 (by kernel_rfl) (by kernel_rfl)) (by kernel_rfl) (by kernel_rfl)

set_option maxRecDepth 100000 in
theorem kinds_lifted (os : Os) (started : os.Started) (H : Type) (enc : TypeId × Value → H) :
    ReturnsInHanded {} Tryd.checked os 7 .any (fun w args => (Rows.kindsSpec.pre enc Tryd.prog Tryd.f7 [] false w args ∧ laidMetH Tryd.prog Rows.kindsRow.laid w) ∧ sizedMet enc Tryd.prog Tryd.f7 (OpenSpec.ofChange Rows.kindsSpec) false w args)
      (Rows.kindsSpec.post enc Tryd.prog Tryd.f7 false true false false) := by
  refine returnsInHanded_of_change_and (C := Tryd.checked) (X := fun w _ => laidMetH Tryd.prog Rows.kindsRow.laid w) (fun _ _ _ hh h => h.of_heap hh) own started (by kernel_rfl) Tryd.func7
    (ChangeSpec.witness_shaped (enc := enc) (C := Tryd.checked) (os := os) (X := fun w _ => laidMetH Tryd.prog Rows.kindsRow.laid w) false (World.doorLaid Tryd.prog 50 os) #[.int .i64 0] 8 rfl (World.shaped_of_RefB (by kernel_rfl) (by kernel_rfl)) (by kernel_rfl) (by kernel_rfl) (by kernel_rfl) (door_met os _)) ?_
  intro W base args ds gs before hval0 hW _ _ hL _
  have hval : ∀ (j : Nat) t v, Tryd.f7.params[j]? = some t → args[j]? = some v → Value.okWide Tryd.prog W .any base t v := hval0
  have hW' := hW
  obtain ⟨p, q, hA0, hV, rfl, hfz, hnd⟩ := hW
  have hA : DataW.TrodAll enc Tryd.prog W 0 (fun _ => true) true Tryd.f7.params.toList args.toList ds p := hA0
  rw [Tryd.params7] at hA hval
  obtain ⟨v0, d0, rfl, rfl, h0⟩ := trodAll_one hA
  obtain ⟨rfl, rfl⟩ := trodVars_none hV
  obtain ⟨n, rfl, rfl, rfl, hwn⟩ := open_int Tryd.underlying3 (hval 0 3 v0 rfl rfl) h0
  obtain ⟨tt, fr, hg⟩ := of_laid hL
  clear hA0 hval0
  have e1 : Rows.kindsSpec.fn H ([.lit (.int .i64 n)] ++ []) = { results := [.lit (.bool true)], args := [.lit (.int .i64 n)] } := by simp [Rows.kindsSpec]
  refine (kinds_any n W tt fr hg).mono fun e W' ⟨he, hb⟩ => ?_
  subst he
  refine ⟨_, rfl, _, _, _, [], [], [], hW', ?_, ?_, ?_, hb.frame _, fun h => by cases h⟩
  · rw [e1]; exact trodAll_mk1 (shut_bool Tryd.underlying4 true)
  · rw [e1]; exact trodAll_mk1 (shut_int Tryd.underlying3 hwn)
  · rw [e1]; rfl

theorem kinds_holds : Rows.KindsSaid :=
  OpenClaim.holds_of_wide 7 Tryd.f7 rfl rfl rfl rfl rfl rfl rfl ⟨rfl, rfl, rfl, rfl, rfl⟩ rfl rfl rfl rfl rfl (by kernel_rfl) Tryd.func7 (by kernel_rfl)
    (of_decide_eq_true (by kernel_rfl)) (by unfold Func.isWrapper; first | (rw [if_pos (by decide +kernel)]; kernel_rfl) | (rw [if_neg (by decide +kernel)]; exact ⟨rfl, rfl⟩))
    (fun os started H enc _ => kinds_lifted os started H enc)
end Go.Proofs.YtkaaldhejpaiiaaDoor
