import Derived.Test.YtkaaldhejpaiiaaGreatDoorMl
import Derived.Test.YtkaaldhejpaiiaaGreatDoorMg
import Derived.Test.YtkaaldhejpaiiaaGreatDoorMj
import Derived.Test.YtkaaldhejpaiiaaGreatDoorOo
/- The document's Name: rows of labels; the answers. No walk in this text. -/
namespace Go.Proofs.YtkaaldhejpaiiaaGreatDoor
open Go.RowKit

theorem info31 : (Tryz.prog.info? 31).map (fun i => (i.zero, i.size, i.bytes)) = some (some (.slice none 0 0), 1, 24) := by kernel_rfl
/-- A label's row: its block, its room, its signs. -/
abbrev Lr := Nat × Nat × List Nat
def rowL (x : Lr) : Value := .slice (some ⟨x.1, 0, none⟩) x.2.2.length x.2.1
structure AllAt (w : World) (B : Nat) (v : Value) (X : List Lr) : Prop where
  own : w.ownsRow B 31 1 v X.length (X.map rowL)
  rows : ∀ x ∈ X, RowI w B x.1 x.2.2
theorem AllAt.nil (w : World) (B : Nat) : AllAt w B (.slice none 0 0) [] := ⟨World.ownsRow_nil _ _ _ _, fun x hx => by cases hx⟩
theorem AllAt.keep {w w' : World} {B : Nat} {v : Value} {X : List Lr} (h : AllAt w B v X) (hb : Below w.heap.size w w') : AllAt w' B v X := ⟨owns_below hb h.own, fun x hx => (h.rows x hx).keep hb⟩
theorem RowI.mono {w : World} {B B' g : Nat} {L : List Nat} (h : RowI w B g L) (hB : B' ≤ B) : RowI w B' g L := ⟨Nat.le_trans hB h.own, h.row, h.sgn, h.len⟩
theorem RowI.grown {w w' : World} {row : Option Nat} {B g : Nat} {L : List Nat} (h : RowI w B g L) (hg : w.grownBy w' row) (hr : ∀ k, row = some k → ∃ cur, w.heap[k]? = some (.cells cur 31 (0, 0))) : RowI w' B g L := by
  obtain ⟨cur, h1, h2, h3⟩ := h.row
  exact ⟨h.own, ⟨cur, typed_kept hg hr h1 (by decide), h2, h3⟩, h.sgn, h.len⟩
/-- One row more. -/
theorem AllAt.push {W w1 : World} {B : Nat} {v v1 : Value} {X : List Lr} {x : Lr} (h : AllAt W B v X) (hx : RowI W B x.1 x.2.2) (ho : w1.ownsRow B 31 1 v1 (X.length + 1) (X.map rowL ++ [rowL x])) (hg : W.grownBy w1 v.ownBlock) : AllAt w1 B v1 (X ++ [x]) := by
  have hr : ∀ k, v.ownBlock = some k → ∃ cur, W.heap[k]? = some (.cells cur 31 (0, 0)) := fun k hk => (own_block h.own k hk).2
  refine ⟨?_, fun y hy => ?_⟩
  · rw [List.length_append, List.map_append]
    exact ho
  · rcases List.mem_append.1 hy with hy | hy
    · exact (h.rows y hy).grown hg hr
    · rw [List.mem_singleton.1 hy]
      exact hx.grown hg hr
theorem AllAt.cell {w : World} {B : Nat} {v : Value} {X : List Lr} (h : AllAt w B v X) (h1 : X ≠ []) : ∃ g cap, v = .slice (some ⟨g, 0, none⟩) X.length cap ∧ ∀ i (hi : i < X.length), w.cell? ⟨g, i, none⟩ = some (rowL X[i]) := by
  obtain ⟨g, cap, e, _, _, hc⟩ := row_cells h.own (List.length_pos_iff.2 h1)
  exact ⟨g, cap, e, fun i hi => hc i _ (by rw [List.getElem?_map, List.getElem?_eq_getElem hi]; rfl)⟩
/-- Some sign of a side that asks. -/
def asksTo (L : List Nat) (k : Nat) : Bool := (List.range k).any fun (i : Nat) => (decide (rS (pkAt L (i : Int)) = 2) || decide (rS (pkAt L (i : Int)) = 3) || decide (rS (pkAt L (i : Int)) = 5))
theorem asksTo_succ (L : List Nat) (k : Nat) : asksTo L (k + 1) = (asksTo L k || (decide (rS (pkAt L (k : Int)) = 2) || decide (rS (pkAt L (k : Int)) = 3) || decide (rS (pkAt L (k : Int)) = 5))) := by
  unfold asksTo
  rw [List.range_succ, List.any_append]
  simp
theorem asksTo_all (L : List Nat) : asksTo L L.length = asksM L := by
  unfold asksTo asksM hasSideM
  congr 1
  funext i
  simp only [List.any_cons, List.any_nil, Bool.or_false, Bool.or_assoc]
  rfl
theorem firstS_hit (p : List Nat → Bool) : ∀ (SL : List (List Nat)) (k : Nat) (hk : k < SL.length), (∀ j (hj : j < SL.length), j < k → p SL[j] = false) → p SL[k] = true → firstS p SL = (k : Int)
  | x :: r, 0, _, _, h => by simp only [firstS]; rw [if_pos (by simpa using h)]; rfl
  | x :: r, k + 1, hk, hn, h => by
    have h0 := hn 0 (by simp) (by omega)
    have ih := firstS_hit p r k (by simpa using hk) (fun j hj hjk => by have := hn (j + 1) (by simpa using hj) (by omega); simpa using this) (by simpa using h)
    simp only [firstS]
    rw [if_neg (by simpa using h0), ih, if_neg (by omega)]
    omega
theorem firstS_none (p : List Nat → Bool) : ∀ (SL : List (List Nat)), (∀ L ∈ SL, p L = false) → firstS p SL = -1
  | [], _ => rfl
  | x :: r, h => by
    rw [firstS, h x (by simp), firstS_none p r fun L hL => h L (by simp [hL])]
    rfl
/-- The names' answers. -/
theorem name_bad {s : ByteArray} {k e : Nat} (hk : k < (partsM s).length) (hb : ∀ j (hj : j < (partsM s).length), j < k → (labelM (partsM s)[j]).1 = 0) (he : (labelM (partsM s)[k]).1 = e) (h0 : e ≠ 0) :
    nameV s = .tuple #[.string { data := #[] }, .string { data := #[] }, .int .i64 (k : Int), .int .i64 (e : Int)] := by
  have h := badM_hit (partsM s) k 0 hk hb (by rw [he]; exact h0)
  rw [he, Nat.zero_add] at h
  have hg : goodM (partsM s) = ((k : Int), e) := by unfold goodM; rw [h]
  unfold nameV
  rw [hg, if_neg h0]
theorem name_all {s : ByteArray} (hb : ∀ j (hj : j < (partsM s).length), (labelM (partsM s)[j]).1 = 0) : goodM (partsM s) = togetherS (signsOf (partsM s)) (formsOf (partsM s)) := by
  have h := badM_none (partsM s) 0 hb
  unfold goodM
  rw [h]
theorem name_side {s : ByteArray} {k : Nat} (hb : ∀ j (hj : j < (partsM s).length), (labelM (partsM s)[j]).1 = 0) (ha : (signsOf (partsM s)).any asksM = true) (hk : k < (signsOf (partsM s)).length)
    (hn : ∀ j (hj : j < (signsOf (partsM s)).length), j < k → sidedM (signsOf (partsM s))[j] = true) (h : sidedM (signsOf (partsM s))[k] = false) :
    nameV s = .tuple #[.string { data := #[] }, .string { data := #[] }, .int .i64 (k : Int), .int .i64 10] := by
  have h1 := firstS_hit (fun L => !sidedM L) (signsOf (partsM s)) k hk (fun j hj hjk => by rw [hn j hj hjk]; rfl) (by rw [h]; rfl)
  have hg : goodM (partsM s) = ((k : Int), 10) := by
    rw [name_all hb]
    unfold togetherS
    rw [h1, if_pos ⟨by omega, ha⟩]
  unfold nameV
  rw [hg]
  rfl
theorem name_fine {s : ByteArray} (hb : ∀ j (hj : j < (partsM s).length), (labelM (partsM s)[j]).1 = 0) (ha : (signsOf (partsM s)).any asksM = true → ∀ L ∈ signsOf (partsM s), sidedM L = true) :
    nameV s = if 253 < (dotted (formsOf (partsM s))).size then .tuple #[.string { data := #[] }, .string { data := #[] }, .int .i64 0, .int .i64 11] else .tuple #[.string (dotted ((signsOf (partsM s)).map textOf) ++ eB (endedM s)), .string (dotted (formsOf (partsM s)) ++ eB (endedM s)), .int .i64 0, .int .i64 0] := by
  have hc : ¬ (0 ≤ firstS (fun L => !sidedM L) (signsOf (partsM s)) ∧ (signsOf (partsM s)).any asksM = true) := by
    rintro ⟨h1, h2⟩
    have h3 := ha h2
    rw [firstS_none _ _ (fun L hL => by rw [h3 L hL]; rfl)] at h1
    omega
  have hg : goodM (partsM s) = if 253 < (dotted (formsOf (partsM s))).size then (0, 11) else (0, 0) := by
    rw [name_all hb]
    unfold togetherS
    rw [if_neg hc]
  unfold nameV nameTextM nameFormM
  rw [hg]
  split
  · rfl
  · rfl
end Go.Proofs.YtkaaldhejpaiiaaGreatDoor

