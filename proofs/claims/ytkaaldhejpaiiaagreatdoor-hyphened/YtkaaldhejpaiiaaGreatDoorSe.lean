/- The document's answer: a state; begin. -/
import Derived.Test.YtkaaldhejpaiiaaGreatDoorSd
namespace Go.Proofs.YtkaaldhejpaiiaaGreatDoor
open Go.RowKit

def RefAt (w : World) (X B : Nat) (x : Pm.St) : Prop :=
  ∃ v, w.heap[X]? = some (.cells (sCells x.n x.i v x.bias x.later) 106 (0, 0)) ∧ w.ownsRow B 3 1 v x.L.length (x.L.map iv) ∧ B ≤ X

theorem owns_mono {w : World} {B B' n : Nat} {e : TypeId} {v : Value} {xs : List Value} (h : w.ownsRow B e 1 v n xs) (hB : B' ≤ B) : w.ownsRow B' e 1 v n xs := by
  obtain ⟨h1, h2⟩ := h
  refine ⟨h1, ?_⟩
  rcases h2 with h2 | ⟨g, cap, cur, e1, e2, e3⟩
  · exact Or.inl h2
  · exact Or.inr ⟨g, cap, cur, e1, by omega, e3⟩
theorem owns_apart {w w' : World} {B X n : Nat} {v : Value} {xs : List Value} {cs : Array Value} (h : w.ownsRow B 3 1 v n xs) (hX : w.heap[X]? = some (.cells cs 106 (0, 0))) (hg : w.grownBy w' (some X)) : w'.ownsRow B 3 1 v n xs := by
  refine h.kept hg ?_
  rcases h.2 with ⟨rfl, _⟩ | ⟨g, cap, cur, rfl, _, e3, _⟩
  · exact Or.inl rfl
  · refine Or.inr ?_
    intro e
    simp [Value.ownBlock] at e
    rw [e, hX] at e3
    simp at e3

theorem refStep_st (X B : Nat) (x : Pm.St) (q : Nat) (w : World) (h : RefAt w X B x) (h1 : x.n ≤ 1114111) (h2 : x.i ≤ 1000) (h3 : x.L.length ≤ 1000) (h4 : q ≤ 1099511627776) :
    Calls Tryz.prog 67 #[.pointer (some ⟨X, 0, none⟩), .int .i64 q] w fun e w' => e = .returned (.tuple #[]) ∧ RefAt w' X B (x.step q) ∧ Below B w w' := by
  obtain ⟨v, hX, ho, hB⟩ := h
  have hv : ∃ a c, v = .slice a x.L.length c := by
    rcases ho.2 with ⟨rfl, e⟩ | ⟨g, cap, cur, rfl, _⟩
    · exact ⟨none, 0, by rw [e]⟩
    · exact ⟨_, _, rfl⟩
  obtain ⟨a, c, rfl⟩ := hv
  refine (refStep_any X x.n x.i x.bias x.L.length c a x.later q w hX h1 h2 h3 h4).mono ?_
  rintro e w' ⟨rfl, hX', hg⟩
  exact ⟨rfl, ⟨_, hX', owns_apart ho hX hg, hB⟩, below_of_grown hg hB (Nat.le_trans hB (Nat.le_of_lt (Array.getElem?_eq_some_iff.1 hX).1))⟩

theorem refInsert_st (X B : Nat) (x : Pm.St) (q : Nat) (w : World) (h : RefAt w X B x) (h2 : x.i ≤ x.L.length) (h3 : x.L.length ≤ 1000) (h4 : q ≤ 1099511627776) :
    Calls Tryz.prog 69 #[.pointer (some ⟨X, 0, none⟩), .int .i64 q] w fun e w' => e = .returned (.tuple #[]) ∧ RefAt w' X B (x.insert q) ∧ Below B w w' := by
  obtain ⟨v, hX, ho, hB⟩ := h
  have hBs : B ≤ w.heap.size := Nat.le_trans hB (Nat.le_of_lt (Array.getElem?_eq_some_iff.1 hX).1)
  have hl := Pm.insert_len x q h2
  rcases ho.2 with ⟨rfl, e⟩ | ⟨g, c, cur, rfl, _⟩
  · have hL : x.L = [] := List.eq_nil_of_length_eq_zero e
    have hi : x.i = 0 := by omega
    rw [hi] at hX
    refine (refInsert_nil X B x.n x.bias x.later q w hX hB h4).mono ?_
    rintro e w' ⟨rfl, g', c', hX', ho', hb⟩
    refine ⟨rfl, ⟨.slice (some ⟨g', 0, none⟩) 1 c', ?_, ?_, hB⟩, hb⟩
    · rw [show x.insert q = { n := x.n, i := 1, L := [x.n], bias := Pm.biasN q 1 (!x.later), later := true } by simp [Pm.St.insert, hL, hi]]
      exact hX'
    · rw [show x.insert q = { n := x.n, i := 1, L := [x.n], bias := Pm.biasN q 1 (!x.later), later := true } by simp [Pm.St.insert, hL, hi]]
      exact owns_mono ho' hBs
  · refine (refInsert_some X B x.n x.i x.bias g c x.later x.L q w hX ho hB h2 h3 h4).mono ?_
    rintro e w' ⟨rfl, g', c', hX', ho', hb⟩
    refine ⟨rfl, ⟨.slice (some ⟨g', 0, none⟩) (x.L.length + 1) c', hX', ?_, hB⟩, hb⟩
    rw [hl]
    exact owns_mono ho' hBs

set_option maxHeartbeats 400000 in
theorem begin_any (v : Value) (l : List Nat) (B : Nat) (w : World) (ho : w.ownsRow B 3 1 v l.length (l.map iv)) (hB : B ≤ w.heap.size) :
    Calls Tryz.prog 65 #[v] w fun e w' => ∃ X, e = .returned (.pointer (some ⟨X, 0, none⟩)) ∧ RefAt w' X B (Pm.St.first l) ∧ Below B w w' := by
  have hv : ∃ a c, v = .slice a l.length c := by
    rcases ho.2 with ⟨rfl, e⟩ | ⟨g, cap, cur, rfl, _⟩
    · exact ⟨none, 0, by rw [e]⟩
    · exact ⟨_, _, rfl⟩
  obtain ⟨a, c, rfl⟩ := hv
  have HO : Hid (w.ownsRow B 3 1 (.slice a l.length c) l.length (l.map iv)) := ho
  clear ho
  go_enter Tryz.func65, Tryz.ntmps65
  go_wp2
  go_ret
  refine ⟨w.heap.size, rfl, ⟨.slice a l.length c, Go.heap_alloc_new w _, HO.out.alloc _, hB⟩, (Below.refl _ _).alloc hB _⟩
end Go.Proofs.YtkaaldhejpaiiaaGreatDoor
