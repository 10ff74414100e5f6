/- The library's sort at runes: what a round of pdqsortOrdered leaves to be done. No walk in this text. -/
import Derived.Test.YtgkepdjgopoljaaDoorXe
import Derived.Sort.LotD2
import Derived.Sort.AssemblyPlain
namespace Go.Proofs.YtgkepdjgopoljaaDoor
open Go.RowKit Go.Sort

/-- Whatever sorts [x, y) of D sorts [a, b) of d. -/
def Todo (a b : Nat) (d : Array Int) (x y : Nat) (D : Array Int) : Prop := ∀ R, PermIn x y D R → SortedIn ltInt x y R → PermIn a b d R ∧ SortedIn ltInt a b R
theorem Todo.self (a b : Nat) (d : Array Int) : Todo a b d a b d := fun _ h1 h2 => ⟨h1, h2⟩
theorem Todo.perm {a b x y : Nat} {d D F : Array Int} (h : Todo a b d x y D) (hP : PermIn x y D F) : Todo a b d x y F := fun R h1 h2 => h R (permIn_trans _ _ _ _ _ hP h1) h2
theorem Todo.trans {a b x y x' y' : Nat} {d D F : Array Int} (h : Todo a b d x y D) (h2 : Todo x y D x' y' F) : Todo a b d x' y' F := fun R h3 h4 => h R (h2 R h3 h4).1 (h2 R h3 h4).2

theorem todo_eq {x y pv i : Nat} {D F : Array Int} (h0 : 0 < x) (hy : y ≤ D.size) (hB : Sort.Below ltInt x y D) (hl : ltInt D[x - 1]! D[pv]! = false)
    (h1 : x < i) (h2 : i ≤ y) (hP : PermIn x y D F) (hlo : ∀ t, x ≤ t → t < i → ltInt D[pv]! F[t]! = false) (hhi : ∀ t, i ≤ t → t < y → ltInt D[pv]! F[t]! = true) :
    Sort.Below ltInt i y F ∧ Todo x y D i y F := by
  have hF : y ≤ F.size := by rw [hP.1]; exact hy
  have low : ∀ t, x ≤ t → t < y → ltInt F[t]! D[pv]! = false := by
    refine permIn_all D F x y (fun z => ltInt z D[pv]! = false) hy hP fun t ht1 ht2 => ?_
    rcases hB with e | e
    · omega
    · exact swo_ltInt.ntrans _ _ _ (e t ht1 ht2) hl
  constructor
  · refine Or.inr fun t ht1 ht2 => ?_
    have p1 := hhi t ht1 ht2
    have p2 := hlo (i - 1) (by omega) (by omega)
    simp only [ltInt, decide_eq_true_eq, decide_eq_false_iff_not] at p1 p2 ⊢
    omega
  · intro R hR hs
    have hsame : ∀ t, t < i → R[t]! = F[t]! := fun t ht => hR.2.1 t (Or.inl ht)
    refine ⟨permIn_trans _ _ _ x y hP (permIn_mono _ _ i y x y (by omega) (Nat.le_refl _) hF hR), ?_⟩
    refine sorted_glue_eq swo_ltInt D[pv]! hs (fun t a1 a2 => ?_) (fun t a1 a2 => ?_) (permIn_all F R i y (fun z => ltInt D[pv]! z = true) hF hR hhi)
    · rw [hsame t a2]; exact hlo t a1 a2
    · rw [hsame t a2]; exact low t a1 (by omega)

section
variable {x y m : Nat} {D F : Array Int}
theorem todo_left (hy : y ≤ D.size) (h1 : x ≤ m) (h2 : m < y) (hP : PermIn x y D F) (hlo : ∀ t, x ≤ t → t < m → ltInt F[t]! F[m]! = true) (hhi : ∀ t, m < t → t < y → ltInt F[t]! F[m]! = false)
    {L : Array Int} (hL : PermIn x m F L) (sL : SortedIn ltInt x m L) : Sort.Below ltInt (m + 1) y L ∧ Todo x y D (m + 1) y L := by
  have hF : y ≤ F.size := by rw [hP.1]; exact hy
  have hLs : y ≤ L.size := by rw [hL.1]; exact hF
  have eL : ∀ t, m ≤ t → L[t]! = F[t]! := fun t ht => hL.2.1 t (Or.inr ht)
  have lo2 := permIn_all F L x m (fun z => ltInt z F[m]! = true) (by omega) hL hlo
  constructor
  · refine Or.inr fun t a1 a2 => ?_
    rw [Nat.add_sub_cancel, eL t (by omega), eL m (Nat.le_refl _)]
    exact hhi t (by omega) a2
  · intro R hR sR
    have eR : ∀ t, t ≤ m → R[t]! = L[t]! := fun t ht => hR.2.1 t (Or.inl (by omega))
    have hi2 := permIn_all L R (m + 1) y (fun z => ltInt z F[m]! = false) hLs hR fun t a1 a2 => by rw [eL t (by omega)]; exact hhi t (by omega) a2
    refine ⟨permIn_trans _ _ _ x y hP (permIn_trans _ _ _ x y (permIn_mono _ _ x m x y (Nat.le_refl _) (by omega) hF hL) (permIn_mono _ _ (m + 1) y x y (by omega) (Nat.le_refl _) hLs hR)), ?_⟩
    refine sorted_glue swo_ltInt (sL.congr fun t _ a2 => eR t (by omega)) sR (fun t a1 a2 => ?_) fun t a1 a2 => ?_
    · rw [eR t (by omega), eR m (Nat.le_refl _), eL m (Nat.le_refl _)]; exact lo2 t a1 a2
    · rw [eR m (Nat.le_refl _), eL m (Nat.le_refl _)]; exact hi2 t (by omega) a2
theorem todo_right (hy : y ≤ D.size) (h1 : x ≤ m) (h2 : m < y) (hB : Sort.Below ltInt x y D) (hP : PermIn x y D F) (hlo : ∀ t, x ≤ t → t < m → ltInt F[t]! F[m]! = true) (hhi : ∀ t, m < t → t < y → ltInt F[t]! F[m]! = false)
    {L : Array Int} (hL : PermIn (m + 1) y F L) (sL : SortedIn ltInt (m + 1) y L) : Sort.Below ltInt x m L ∧ Todo x y D x m L := by
  have hF : y ≤ F.size := by rw [hP.1]; exact hy
  have hLs : y ≤ L.size := by rw [hL.1]; exact hF
  have eL : ∀ t, t ≤ m → L[t]! = F[t]! := fun t ht => hL.2.1 t (Or.inl (by omega))
  have hi2 := permIn_all F L (m + 1) y (fun z => ltInt z F[m]! = false) hF hL fun t a1 a2 => hhi t (by omega) a2
  constructor
  · rcases (hB.perm hy hP).mono (show m ≤ y by omega) with e | e
    · exact Or.inl e
    · exact Or.inr fun t a1 a2 => by rw [eL t (by omega), eL (x - 1) (by omega)]; exact e t a1 a2
  · intro R hR sR
    have eR : ∀ t, m ≤ t → R[t]! = L[t]! := fun t ht => hR.2.1 t (Or.inr ht)
    have lo2 := permIn_all L R x m (fun z => ltInt z F[m]! = true) (by omega) hR fun t a1 a2 => by rw [eL t (by omega)]; exact hlo t a1 a2
    refine ⟨permIn_trans _ _ _ x y hP (permIn_trans _ _ _ x y (permIn_mono _ _ (m + 1) y x y (by omega) (Nat.le_refl _) hF hL) (permIn_mono _ _ x m x y (Nat.le_refl _) (by omega) hLs hR)), ?_⟩
    refine sorted_glue swo_ltInt sR (sL.congr fun t a1 _ => eR t (by omega)) (fun t a1 a2 => ?_) fun t a1 a2 => ?_
    · rw [eR m (Nat.le_refl _), eL m (Nat.le_refl _)]; exact lo2 t a1 a2
    · rw [eR t (by omega), eR m (Nat.le_refl _), eL m (Nat.le_refl _)]; exact hi2 t (by omega) a2
/-- The left part, as it lies behind the partition. -/
theorem below_left (hy : y ≤ D.size) (h2 : m < y) (hB : Sort.Below ltInt x y D) (hP : PermIn x y D F) : Sort.Below ltInt x m F := (hB.perm hy hP).mono (by omega)
theorem below_right (hhi : ∀ t, m < t → t < y → ltInt F[t]! F[m]! = false) : Sort.Below ltInt (m + 1) y F := Or.inr fun t a1 a2 => by rw [Nat.add_sub_cancel]; exact hhi t (by omega) a2
end

end Go.Proofs.YtgkepdjgopoljaaDoor
