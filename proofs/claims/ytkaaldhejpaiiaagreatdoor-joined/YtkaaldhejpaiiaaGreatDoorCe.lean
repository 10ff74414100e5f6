import Derived.Test.YtkaaldhejpaiiaaGreatDoorBu24
import Derived.Test.YtkaaldhejpaiiaaGreatDoorOp
import Derived.Test.YtkaaldhejpaiiaaGreatDoorTie
import Derived.Deep.Matrix
import Derived.Test.YtkaaldhejpaiiaaGreatDoorCards
/- Joined: the row, proved; the card. -/
namespace Go.Proofs.YtkaaldhejpaiiaaGreatDoor
open Go.ChangeShapes Go.WideShapes Go.ChangeAt Go.RowKit

theorem raws_of {H : Type} {enc : TypeId × Value → H} {W : World} {base fuel len cap : Nat} {held : Bool} {a : Option Addr} {x : DataW H × List MemPlace}
    (h : DataW.trod enc Tryz.prog W base (fun _ => true) held fuel 41 [.slice a len cap] = some x) : ∃ rs : List (List Int), rs.length = len ∧ Raws W a rs := by
  rcases Go.Deep.open_int_rows Tryz.underlying41 Tryz.underlying31 Tryz.underlying3 (by kernel_rfl) (by kernel_rfl) h with ⟨hcs, _⟩ | ⟨y, l, c, A, L, C, Z, hcs, _, hl, hm, _, hcell⟩
  · simp at hcs
    obtain ⟨rfl, rfl, rfl⟩ := hcs
    exact ⟨[], rfl, ⟨by simp, fun i hi => absurd hi (by simp)⟩⟩
  · simp at hcs
    obtain ⟨rfl, rfl, rfl⟩ := hcs
    unfold maxLen at hm
    refine ⟨(List.range len).map fun r => (Z r).take (L r), by simp, ⟨by simp; omega, fun i hi => ?_⟩⟩
    have hil : i < len := by simpa using hi
    obtain ⟨g1, g2, g3, g4, g5, g6, g7⟩ := hcell i (by omega)
    have e : ((List.range len).map fun r => (Z r).take (L r))[i] = (Z i).take (L i) := by simp
    have el : ((Z i).take (L i)).length = L i := by rw [List.length_take]; omega
    have g0 := (hcell 0 (by omega)).1
    obtain ⟨kb, ko, spot⟩ := y
    have hspot : spot = none := by simpa [Addr.add] using World.cell?_spot g0
    subst hspot
    have g1' : W.cell? ⟨kb, ko + i, none⟩ = some (.slice (A i) (L i) (C i)) := by simpa [Addr.add_lit] using g1
    rw [e]
    refine ⟨kb, ko, A i, C i, rfl, World.block_lt_of_cell? W _ g1', by rw [el]; exact g1', ?_⟩
    unfold maxLen at g3
    refine ⟨by rw [el]; omega, fun j hj => ?_⟩
    rw [el] at hj
    have hjz : j < (Z i).length := by omega
    rw [List.getElem_take]
    cases hA : A i with
    | none => have := g6 hA; omega
    | some b =>
      obtain ⟨_, hc⟩ := g7 b hA
      have hci := hc j (by omega)
      have hc0 := hc 0 (by omega)
      obtain ⟨bb, bo, bs⟩ := b
      have hbs : bs = none := by simpa [Addr.add] using World.cell?_spot hc0
      subst hbs
      have e2 : (Z i).getD j 0 = (Z i)[j] := by rw [List.getD_eq_getElem?_getD, List.getElem?_eq_getElem hjz]; rfl
      rw [e2] at hci
      have hci' : W.cell? ⟨bb, bo + j, none⟩ = some (.int .i64 (Z i)[j]) := by simpa [Addr.add_lit] using hci
      have hbd := bounds_i64 (g5 (Z i)[j] (List.getElem_mem hjz))
      exact ⟨bb, bo, rfl, World.block_lt_of_cell? W _ hci', hci', hbd.1, hbd.2⟩
set_option maxRecDepth 100000 in
theorem joined_contract (H : Type) (enc : TypeId × Value → H) (W : World) (base : Nat) (args : Array Value) (ds gs : List (DataW H)) (before : List MemPlace)
    (hval0 : ∀ (j : Nat) t v, Tryz.f8.params[j]? = some t → args[j]? = some v → Value.okWide Tryz.prog W .any base t v)
    (hW : DataW.Whole enc Tryz.prog Tryz.f8.params.toList Rows.joinedSpec.vars false W args.toList ds gs before) (hL : laidMetH Tryz.prog Rows.joinedRow.laid W) (hsh : W.ShapedOpen Tryz.prog) :
    Calls Tryz.prog 8 args W fun e W' => ∃ v, e = .returned v ∧ Rows.joinedSpec.post enc Tryz.prog Tryz.f8 false true false false W args v W' := by
  have hval : ∀ (j : Nat) t v, Tryz.f8.params[j]? = some t → args[j]? = some v → Value.okWide Tryz.prog W .any base t v := hval0
  have hW' := hW
  obtain ⟨p, q, hA0, hV, rfl, hfz, hnd⟩ := hW
  have hA : DataW.TrodAll enc Tryz.prog W 0 (fun _ => true) true Tryz.f8.params.toList args.toList ds p := hA0
  rw [Tryz.params8] at hA hval
  obtain ⟨v0, vs0, d0, ds0, p0, q0, hargs, rfl, rfl, h0, r0⟩ := trodAll_cons hA
  obtain ⟨v1, vs1, d1, ds1, p1, q1, rfl, rfl, rfl, h1, r1⟩ := trodAll_cons r0
  obtain ⟨v2, vs2, d2, ds2, p2, q2, rfl, rfl, rfl, h2, r2⟩ := trodAll_cons r1
  obtain ⟨rfl, rfl, rfl⟩ := trodAll_nil r2
  obtain rfl : args = #[v0, v1, v2] := by cases args; simp_all
  obtain ⟨rfl, rfl⟩ := trodVars_none hV
  obtain ⟨a0, len0, cap0, rfl⟩ := okWide_slice Tryz.underlying41 (hval 0 41 v0 rfl rfl)
  obtain ⟨n1, rfl, rfl, rfl⟩ := open_bool Tryz.underlying4 (hval 1 4 v1 rfl rfl) h1
  obtain ⟨n2, rfl, rfl, rfl, wf2⟩ := open_int Tryz.underlying3 (hval 2 3 v2 rfl rfl) h2
  have k0 := h0
  have lt0 : ∀ x ∈ p0, x.block < W.heap.size := by obtain ⟨m, hm⟩ := k0; exact DataW.trod_lt m _ _ _ hm
  obtain ⟨rs, rfl, hR⟩ : ∃ rs : List (List Int), rs.length = len0 ∧ Raws W a0 rs := by
    obtain ⟨fuel, hf⟩ := h0
    exact raws_of hf
  have b2 := bounds_i64 wf2
  clear hA0 hval0
  refine (joined_any a0 cap0 rs n1 n2 W (ground_at hL hsh) hR b2.1 b2.2).mono fun e W' ⟨he, bel⟩ => ?_
  subst he
  exact ⟨_, rfl, _, _, _, [], _, [], hW', trodAll_mk1 (shut_bool Tryz.underlying4 _), (trodAll_cons_mk (Below.trod laidOutU (by kernel_rfl) (of_decide_eq_true (by kernel_rfl)) k0 bel lt0) (trodAll_cons_mk (shut_bool Tryz.underlying4 n1) (trodAll_cons_mk (shut_int Tryz.underlying3 wf2) trodAll_mk0))), rfl, bel.frame _, fun h => by cases h⟩

theorem joined_reads (os : Os) {H : Type} (enc : TypeId × Value → H) : ∃ places, DataW.whole enc Tryz.prog ((greatWorld os).forCall (fun _ _ => 0) ⟨#[], #[.slice none 0 0, .bool false, .int .i64 0], []⟩).memory Tryz.f8.params.toList Rows.joinedSpec.vars false #[Value.slice none 0 0, .bool false, .int .i64 0].toList 8 = some ([.nil, .lit (.bool false), .lit (.int .i64 0)], [], places) :=
  ⟨[], by kernel_rfl⟩

set_option maxRecDepth 100000 in
theorem joined_lifted (os : Os) (started : os.Started) (H : Type) (enc : TypeId × Value → H) (F : Stop.Interp) :
    ReturnsInHanded {} Tryz.checked os 8 .any ((OpenSpec.ofChange Rows.joinedSpec).preRow enc Tryz.prog Tryz.f8 Rows.joinedRow.domain false Rows.joinedRow.laid) (((OpenSpec.ofChange Rows.joinedSpec).at F).post enc Tryz.prog Tryz.f8 false true false false) := by
  obtain ⟨places, hx⟩ := joined_reads os enc
  refine returnsInHanded_of_row (C := Tryz.checked) (s := OpenSpec.ofChange Rows.joinedSpec) own started (by kernel_rfl) Tryz.func8
    (witness_row_atRef (enc := enc) (C := Tryz.checked) false (greatWorld os) #[.slice none 0 0, .bool false, .int .i64 0] rfl (by kernel_rfl) (by kernel_rfl) (by kernel_rfl)
      (OpenSpec.preRow_of_cond 8 hx (by kernel_rfl) (fun k hk => by cases hk) (by kernel_rfl) (four_metH os _))) ?_
  intro W base args ds gs before hval hW _ _ _ hL hsh _
  exact joined_contract H enc W base args ds gs before hval hW hL hsh

theorem joined_holds : Rows.JoinedSaid :=
  OpenClaim.holds_of_cond 8 Tryz.f8 rfl rfl rfl rfl rfl rfl rfl ⟨rfl, rfl, rfl, rfl, rfl⟩ rfl rfl rfl rfl rfl (by kernel_rfl) Tryz.func8 (by kernel_rfl)
    (of_decide_eq_true (by kernel_rfl)) (by unfold Func.isWrapper; first | (rw [if_pos (by decide +kernel)]; kernel_rfl) | (rw [if_neg (by decide +kernel)]; exact ⟨rfl, rfl⟩))
    (fun os started H enc _ F => by rw [OpenClaim.pre_eq_preRow]; exact joined_lifted os started H enc F)

theorem joinedCard_holds : Rows.JoinedCardSaid :=
  Claim7.holds_tied_plain_at .later [] [.data, .data, .pinned, .pinned] true (true, "4369fcc7aa2ac79c55864d32d89cc5f2002f28c820f8da33d7d2affac66195d2") false
    joined_holds (fun _ h => by cases h) (by kernel_rfl) (fun _ h => by cases h) joined_row_tie rfl ⟨rfl, rfl⟩ (by kernel_rfl) rfl
    (fun f fn hf hfn => by
      obtain rfl : f = 8 := Option.some.inj ((show Tryz.prog.funcNamed "manor/manorkeep.Joined" = some 8 by kernel_rfl).symm.trans hf) |>.symm
      obtain rfl : fn = Tryz.f8 := (Option.some.inj (Tryz.func8.symm.trans hfn)).symm
      exact ⟨by kernel_rfl, fun j t ht => by
        rw [Tryz.params8] at ht
        have hm : t ∈ [41, 4, 3] := by simpa using Array.mem_of_getElem? ht
        have hall : ([41, 4, 3].all fun u => !Tryz.prog.wantsStandIn u) = true := by kernel_rfl
        exact (show Tryz.prog.wantsStandIn t = false by simpa using List.all_eq_true.1 hall t hm)⟩)
    (by kernel_rfl)
#print axioms joinedCard_holds
end Go.Proofs.YtkaaldhejpaiiaaGreatDoor

