/- A region of plain operations (no guard, no call), run by the kernel in one step. -/
import Derived.WalkKit
namespace Go.Proofs.YtkaaldhejpaiiaaGreatDoor
open Go

def runList (P : Program) : List Oper → Act → World → Option (Act × World)
  | [], a, w => some (a, w)
  | o :: rest, a, w =>
    match o.guard with
    | some _ => none
    | none =>
      match (execOp a.eval o).run P w with
      | .ok (.value v) w' => runList P rest (a.put o.dst v) w'
      | .ok .skip w' => runList P rest (a.put o.dst undef) w'
      | _ => none

theorem wpList_runList {P : Program} {ops : Array Oper} {Q : Exit → Act → World → Prop} :
    ∀ (l : List Oper) (a : Act) (w : World) (a' : Act) (w' : World), runList P l a w = some (a', w') → Q .normal a' w' → wpList P ops Q l a w
  | [], a, w, a', w', h, hq => by
    simp only [runList, Option.some.injEq, Prod.mk.injEq] at h
    obtain ⟨rfl, rfl⟩ := h
    exact wpList_nil hq
  | o :: rest, a, w, a', w', h, hq => by
    unfold runList at h
    cases hg : o.guard with
    | some x => simp [hg] at h
    | none =>
      simp only [hg] at h
      refine wpList_plain hg fun K hK => ?_
      unfold Oper.wp
      split at h
      · rename_i v w1 hr
        rw [hr, Oper.upon_value]
        exact hK _ _ (wpList_runList rest _ _ _ _ h hq)
      · rename_i w1 hr
        rw [hr, Oper.upon_skip]
        exact hK _ _ (wpList_runList rest _ _ _ _ h hq)
      · cases h

theorem wp_region_run {P : Program} {id : Nat} {l : List Oper} {Q : Exit → Act → World → Prop} {a : Act} {w : World} (a' : Act) (w' : World)
    (h : runList P l a w = some (a', w')) (hq : Q .normal a' w') : (Code.region id l.toArray false).wp P Q a w :=
  wp_region_lit (wpList_runList l a w a' w' h hq)
end Go.Proofs.YtkaaldhejpaiiaaGreatDoor
