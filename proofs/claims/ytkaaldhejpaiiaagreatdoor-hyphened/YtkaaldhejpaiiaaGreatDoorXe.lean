/- The library's sort at runes: what both partitions keep; partitionOrdered. -/
import Derived.Test.YtkaaldhejpaiiaaGreatDoorXb
namespace Go.Proofs.YtkaaldhejpaiiaaGreatDoor
open Go.RowKit Go.Sort

/-- Between the two ends of a partition: what was gone by on the left is so, on the right it isn't. -/
structure Pt (p : Int → Bool) (a b : Nat) (P : Int) (d : Array Int) (i j : Nat) (D : Array Int) : Prop where
  perm : PermIn a b d D
  ha : a < i
  hj : j < b
  hij : i ≤ j + 1
  hb : b ≤ D.size
  ata : D[a]! = P
  lo : ∀ t, a < t → t < i → p D[t]! = true
  hi : ∀ t, j < t → t < b → p D[t]! = false

theorem Pt.up {p : Int → Bool} {a b : Nat} {P : Int} {d : Array Int} {i j : Nat} {D : Array Int} (h : Pt p a b P d i j D) (hij : i ≤ j) (hp : p D[i]! = true) : Pt p a b P d (i + 1) j D :=
  ⟨h.perm, by have := h.ha; omega, h.hj, by omega, h.hb, h.ata, fun t h1 h2 => by
    by_cases e : t = i
    · rw [e]; exact hp
    · exact h.lo t h1 (by omega), h.hi⟩
theorem Pt.down {p : Int → Bool} {a b : Nat} {P : Int} {d : Array Int} {i j : Nat} {D : Array Int} (h : Pt p a b P d i j D) (hij : i ≤ j) (hp : p D[j]! = false) : Pt p a b P d i (j - 1) D :=
  ⟨h.perm, h.ha, by have := h.hj; omega, by have := h.ha; omega, h.hb, h.ata, h.lo, fun t h1 h2 => by
    by_cases e : t = j
    · rw [e]; exact hp
    · exact h.hi t (by omega) h2⟩
theorem Pt.ne {p : Int → Bool} {i j : Nat} {D : Array Int} (hij : i ≤ j) (h1 : p D[i]! = false) (h2 : p D[j]! = true) : i < j := by
  rcases Nat.lt_or_ge i j with h | h
  · exact h
  · obtain rfl : i = j := by omega
    rw [h1] at h2; cases h2
theorem Pt.swap {p : Int → Bool} {a b : Nat} {P : Int} {d : Array Int} {i j : Nat} {D : Array Int} (h : Pt p a b P d i j D) (hij : i < j) (h1 : p D[i]! = false) (h2 : p D[j]! = true) : Pt p a b P d (i + 1) (j - 1) (swp D i j) := by
  have hb := h.hb; have hj := h.hj; have ha := h.ha
  refine ⟨permIn_trans _ _ _ _ _ h.perm (swp_permIn D a b i j (by omega) (by omega) (by omega) hj hb), by omega, by omega, by omega, by rw [size_swp]; exact hb, ?_, ?_, ?_⟩
  · rw [swp_other D i j a (by omega) (by omega)]; exact h.ata
  · intro t ht1 ht2
    by_cases e : t = i
    · rw [e, swp_left D i j (by omega) (by omega)]; exact h2
    · rw [swp_other D i j t e (by omega)]; exact h.lo t ht1 (by omega)
  · intro t ht1 ht2
    by_cases e : t = j
    · rw [e, swp_right D i j (by omega)]; exact h1
    · rw [swp_other D i j t (by omega) e]; exact h.hi t (by omega) ht2
theorem Pt.start {p : Int → Bool} {a b pv : Nat} {d : Array Int} (h1 : a ≤ pv) (h2 : pv < b) (hb : b ≤ d.size) : Pt p a b d[pv]! d (a + 1) (b - 1) (swp d a pv) := by
  refine ⟨swp_permIn d a b a pv (Nat.le_refl _) (by omega) h1 h2 hb, by omega, by omega, by omega, by rw [size_swp]; exact hb, ?_, fun t _ _ => by omega, fun t _ _ => by omega⟩
  by_cases e : a = pv
  · subst e; rw [swp_right d a a (by omega)]
  · rw [swp_left d a pv (by omega) e]
/-- partitionOrdered's end. -/
theorem Pt.fin {a b : Nat} {P : Int} {d : Array Int} {i j : Nat} {D : Array Int} (h : Pt (fun x => ltInt x P) a b P d i j D) (hji : j < i) :
    a ≤ j ∧ j < b ∧ PermIn a b d (swp D j a) ∧ (∀ t, a ≤ t → t < j → ltInt (swp D j a)[t]! (swp D j a)[j]! = true) ∧ (∀ t, j < t → t < b → ltInt (swp D j a)[t]! (swp D j a)[j]! = false) := by
  have hb := h.hb; have hj := h.hj; have ha := h.ha; have hij := h.hij; have hP := h.ata
  have haj : a ≤ j := by omega
  have eqj : (swp D j a)[j]! = P := by
    by_cases e : j = a
    · subst e; rw [swp_right D j j (by omega)]; exact hP
    · rw [swp_left D j a (by omega) e]; exact hP
  refine ⟨haj, hj, permIn_trans _ _ _ _ _ h.perm (swp_permIn D a b j a haj hj (Nat.le_refl _) (by omega) hb), ?_, ?_⟩
  · intro t h1 h2
    rw [eqj]
    by_cases e : t = a
    · rw [e, swp_right D j a (by omega)]; exact h.lo j (by omega) (by omega)
    · rw [swp_other D j a t (by omega) e]; exact h.lo t (by omega) (by omega)
  · intro t h1 h2
    rw [eqj, swp_other D j a t (by omega) (by omega)]
    exact h.hi t h1 h2

end Go.Proofs.YtkaaldhejpaiiaaGreatDoor
