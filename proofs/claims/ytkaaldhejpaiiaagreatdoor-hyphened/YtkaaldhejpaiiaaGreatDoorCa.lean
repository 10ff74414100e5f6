/- What the cards share: the ground, raw numbers. -/
import Derived.Test.YtkaaldhejpaiiaaGreatDoorOb
import Derived.Test.YtkaaldhejpaiiaaGreatDoorOd
import Derived.ShutString
import Derived.ChangeOld
import Derived.SevenTiedAt
import Derived.Deep.DeepHandedRow
import Derived.Deep.DeepWitnessRowRef
namespace Go.Proofs.YtkaaldhejpaiiaaGreatDoor
open Go.ChangeShapes Go.WideShapes Go.ChangeAt Go.RowKit

theorem ground_at {W : World} (h : laidMetH Tryz.prog fourLaid W) (hs : W.ShapedOpen Tryz.prog) : Ground W := by
  obtain ⟨h1, h2⟩ := ground_of h
  obtain ⟨m, hm⟩ := Tryz.laysM146.s1_3 W hs
  have hm2 : W.cell? ⟨3, 0, none⟩ = some (.int .i64 m) := hm
  exact ⟨h1, h2, m, World.block_lt_of_cell? W _ hm2, hm2⟩
theorem four_metH (os : Os) (args : Array Value) : laidMetH Tryz.prog fourLaid ((greatWorld os).forCall (fun _ _ => 0) ⟨#[], args, []⟩).memory := by
  rw [MakeChecks.laidMetH_plain _ _ _ (by kernel_rfl)]
  exact four_met os args
theorem raw_of {H : Type} {enc : TypeId × Value → H} {W : World} {base fuel len cap : Nat} {held : Bool} {a : Option Addr} {x : DataW H × List MemPlace}
    (h : DataW.trod enc Tryz.prog W base (fun _ => true) held fuel 31 [.slice a len cap] = some x) : ∃ zs : List Int, zs.length = len ∧ Raw W a zs := by
  rcases open_ints Tryz.underlying31 Tryz.underlying3 (by kernel_rfl) h with ⟨hcs, _⟩ | ⟨y, l, c, zs, hcs, _, hl, hm, hz, _, hcell, hwz⟩
  · simp at hcs
    obtain ⟨rfl, rfl, rfl⟩ := hcs
    exact ⟨[], rfl, ⟨by simp, fun i hi => absurd hi (by simp)⟩⟩
  · simp at hcs
    obtain ⟨rfl, rfl, rfl⟩ := hcs
    unfold maxLen at hm
    have hz' : zs.length = cap := by simpa using hz
    refine ⟨zs.take len, by rw [List.length_take]; omega, ⟨by rw [List.length_take]; omega, fun i hi => ?_⟩⟩
    rw [List.length_take] at hi
    have hiz : i < zs.length := by omega
    obtain ⟨b, off, rfl, hc⟩ := ints_at hcell (by omega)
    have hci := hc i hiz
    have e : zs.getD i 0 = zs[i] := by rw [List.getD_eq_getElem?_getD, List.getElem?_eq_getElem hiz]; rfl
    rw [e] at hci
    have hbd := bounds_i64 (hwz zs[i] (List.getElem_mem hiz))
    rw [List.getElem_take]
    exact ⟨b, off, rfl, World.block_lt_of_cell? W _ hci, hci, hbd.1, hbd.2⟩
theorem greatB : ((greatWorld default).forCall (fun _ _ => 0) ⟨#[], #[], []⟩).variablesRefB Tryz.prog = true := by kernel_rfl
end Go.Proofs.YtkaaldhejpaiiaaGreatDoor
