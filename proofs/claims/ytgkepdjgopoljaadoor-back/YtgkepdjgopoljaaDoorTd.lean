/- All signs, one behind the other. -/
import Derived.Test.YtgkepdjgopoljaaDoorTc
import Derived.Test.YtgkepdjgopoljaaDoorQf
import Derived.Test.YtgkepdjgopoljaaDoorPl
namespace Go.Proofs.YtgkepdjgopoljaaDoor
open Go.RowKit

theorem sub_zero (L : List Nat) (y : Nat) : sub L y 0 = L.filter (fun h => decide (h < y)) := by simp [sub]
theorem sub_all (L : List Nat) (y : Nat) : sub L y L.length = L.filter (fun h => decide (h ≤ y)) := by simp [sub]
theorem cnt_zero (L : List Nat) (y : Nat) : cnt L y 0 = 0 := by simp [cnt]

/-- The signs that are still to come. -/
structure Come (L ys : List Nat) : Prop where
  up : ys.Pairwise (· < ·)
  sg : ∀ y ∈ ys, Pm.sign y = true
  low : ∀ h ∈ L, h ∉ ys → ∀ y ∈ ys, h < y

theorem eachAll_dec {L : List Nat} (hL : L.length ≤ 1000) : ∀ (ys : List Nat) (x : Es), Come L ys → EsOk x → (∀ y ∈ ys, x.n ≤ y ∧ (x.n = y → x.i = 0)) → x.i ≤ x.len → x.len = (L.filter (fun h => decide (h ∉ ys))).length →
    eachAllOk L ys x ∧ EsOk (eachAll L ys x) ∧
    ∃ bytes m, (eachAll L ys x).form = x.form ++ bytes ∧ m ≤ bytes.length ∧ (∀ b ∈ bytes, isD b) ∧ ∀ f tail, Pm.dec (f + m) (stOf x (L.filter (fun h => decide (h ∉ ys)))) (bytes ++ tail) = Pm.dec f (stOf (eachAll L ys x) L) tail
  | [], x, _, ho, _, _, _ => by
    have e : L.filter (fun h => decide (h ∉ ([] : List Nat))) = L := by simp
    rw [e]
    exact ⟨trivial, ho, [], 0, by simp [eachAll], by simp, by simp, fun f tail => by simp [eachAll]⟩
  | y :: r, x, hc, ho, hn, hi, hl => by
    obtain ⟨hup, hsg, hlow⟩ := hc
    obtain ⟨hyr, hr⟩ := List.pairwise_cons.1 hup
    have hs := hsg y (by simp)
    have hy : y ≤ 1114111 := by unfold Pm.sign at hs; simp at hs; omega
    have e1 : L.filter (fun h => decide (h ∉ y :: r)) = sub L y 0 := by
      rw [sub_zero]
      apply List.filter_congr
      intro h hh
      congr 1
      apply propext
      constructor
      · intro hm; exact hlow h hh hm y (by simp)
      · intro hlt hm
        rcases List.mem_cons.1 hm with rfl | hm
        · omega
        · have := hyr h hm; omega
    have e2 : sub L y L.length = L.filter (fun h => decide (h ∉ r)) := by
      rw [sub_all]
      apply List.filter_congr
      intro h hh
      congr 1
      apply propext
      constructor
      · intro hle hm; have := hyr h hm; omega
      · intro hm
        by_cases he : h = y
        · omega
        · exact Nat.le_of_lt (hlow h hh (by simp [he, hm]) y (by simp))
    have hc2 : Come L r := ⟨hr, fun z hz => hsg z (by simp [hz]), fun h hh hm z hz => by
      have hyz := hyr z hz
      by_cases he : h = y
      · omega
      · have := hlow h hh (by simp [he, hm]) y (by simp); omega⟩
    have hrel : EsRel L y 0 x := ⟨(hn y (by simp)).1, fun e => by rw [cnt_zero, (hn y (by simp)).2 e]; exact Nat.le_refl _, hi, by rw [← e1]; exact hl⟩
    obtain ⟨k1, k2, k3, bytes, m, k4, k5, k6, k7⟩ := each_dec hs hL hy L 0 x (by simp) (Nat.zero_le _) hrel ho
    rw [cnt_zero] at k1 k2 k3 k4 k7
    obtain ⟨j1, j3, bytes2, m2, j4, j5, j6, j7⟩ := eachAll_dec hL r (each y L 0 x) hc2 k3 (fun z hz => by have h1 := hyr z hz; have h2 := k2.n; exact ⟨by omega, fun e => by omega⟩) k2.i (by rw [k2.len, e2])
    refine ⟨⟨hy, k1, j1⟩, j3, bytes ++ bytes2, m2 + m, ?_, ?_, ?_, fun f tail => ?_⟩
    · show (eachAll L r (each y L 0 x)).form = _
      rw [j4, k4, List.append_assoc]
    · rw [List.length_append]; omega
    · intro b hb
      rcases List.mem_append.1 hb with hb | hb
      · exact k6 b hb
      · exact j6 b hb
    · rw [e1, ← Nat.add_assoc, List.append_assoc, k7, e2]
      exact j7 f tail

/-- Fuel enough is enough. -/
theorem dec_fuel : ∀ (f g : Nat) (x : Pm.St) (l : List UInt8), l.length < f → l.length < g → Pm.dec f x l = Pm.dec g x l
  | 0, _, _, _, h, _ => by omega
  | _, 0, _, _, _, h => by omega
  | f + 1, g + 1, x, l, h1, h2 => by
    unfold Pm.dec
    by_cases hl : l = []
    · rw [if_pos hl, if_pos hl]
    · rw [if_neg hl, if_neg hl]
      cases hr : Pm.rd x.bias 1 0 1 l with
      | none => rfl
      | some v =>
        obtain ⟨q, r⟩ := v
        have := Pm.rd_len _ _ _ _ _ _ _ hr
        simp only
        split
        · exact dec_fuel f g _ r (by omega) (by omega)
        · rfl
end Go.Proofs.YtgkepdjgopoljaaDoor
