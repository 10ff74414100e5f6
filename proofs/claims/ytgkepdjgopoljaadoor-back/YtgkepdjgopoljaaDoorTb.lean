/- The encoder's states are the decoder's. -/
import Derived.Test.YtgkepdjgopoljaaDoorTa
import Derived.Test.YtgkepdjgopoljaaDoorPk
namespace Go.Proofs.YtgkepdjgopoljaaDoor
open Go.RowKit

/-- What stands there when the signs below y are in, and those of y ahead of the place p. -/
def sub (L : List Nat) (y p : Nat) : List Nat := (L.take p).filter (fun h => decide (h ≤ y)) ++ (L.drop p).filter (fun h => decide (h < y))
def cnt (L : List Nat) (y p : Nat) : Nat := ((L.take p).filter (fun h => decide (h ≤ y))).length
def stOf (x : Es) (l : List Nat) : Pm.St := { n := x.n, i := x.i, L := l, bias := x.bias, later := x.b }
structure EsRel (L : List Nat) (y p : Nat) (x : Es) : Prop where
  n : x.n ≤ y
  at_n : x.n = y → x.i ≤ cnt L y p
  i : x.i ≤ x.len
  len : x.len = (sub L y p).length

theorem cnt_le_sub (L : List Nat) (y p : Nat) : cnt L y p ≤ (sub L y p).length := by unfold cnt sub; rw [List.length_append]; omega
theorem cnt_snoc {L : List Nat} {p : Nat} (h : p < L.length) (y : Nat) : cnt L y (p + 1) = if L[p] ≤ y then cnt L y p + 1 else cnt L y p := by
  unfold cnt
  rw [List.take_succ_eq_append_getElem h, List.filter_append]
  by_cases hy : L[p] ≤ y <;> simp [hy]
theorem sub_other {L : List Nat} {p : Nat} (h : p < L.length) (y : Nat) (hy : L[p] ≠ y) : sub L y (p + 1) = sub L y p := by
  unfold sub
  rw [List.take_succ_eq_append_getElem h, List.filter_append, List.append_assoc, List.drop_eq_getElem_cons h]
  congr 1
  by_cases hl : L[p] < y
  · rw [show [L[p]].filter (fun h => decide (h ≤ y)) = [L[p]] by simp; omega, List.filter_cons_of_pos (by simpa using hl)]
    rfl
  · rw [show [L[p]].filter (fun h => decide (h ≤ y)) = [] by simp; omega, List.filter_cons_of_neg (by simpa using hl)]
    rfl
theorem sub_same {L : List Nat} {p : Nat} (h : p < L.length) (y : Nat) (hy : L[p] = y) : sub L y (p + 1) = (sub L y p).take (cnt L y p) ++ y :: (sub L y p).drop (cnt L y p) := by
  unfold sub cnt
  rw [List.take_left, List.drop_left, List.take_succ_eq_append_getElem h, List.filter_append, List.drop_eq_getElem_cons h, List.filter_cons, List.append_assoc]
  simp [hy]

theorem steps_eq {L : List Nat} {y p : Nat} {x : Es} (h : EsRel L y p x) : x.i + x.steps y (cnt L y p) = (y - x.n) * (x.len + 1) + cnt L y p := by
  have hi := h.i
  have hn := h.n
  unfold Es.steps
  by_cases e : x.n = y
  · have := h.at_n e
    omega
  · have : 1 * (x.len + 1) ≤ (y - x.n) * (x.len + 1) := Nat.mul_le_mul_right _ (by omega)
    omega
theorem put_eq {L : List Nat} {y p : Nat} {x : Es} (h : EsRel L y p x) : x.put (x.steps y (cnt L y p)) = { n := y, i := cnt L y p + 1, len := x.len + 1, bias := Pm.biasN (x.steps y (cnt L y p)) (x.len + 1) (!x.b), b := true, form := x.form ++ wnum x.bias (x.steps y (cnt L y p) + 1) 1 (x.steps y (cnt L y p)) } := by
  have hs := steps_eq h
  have hn := h.n
  have hc := cnt_le_sub L y p
  have hl := h.len
  unfold Es.put
  rw [hs]
  have e1 : ((y - x.n) * (x.len + 1) + cnt L y p) / (x.len + 1) = y - x.n := by
    rw [Nat.add_comm, Nat.add_mul_div_right _ _ (by omega), Nat.div_eq_of_lt (by omega), Nat.zero_add]
  have e2 : ((y - x.n) * (x.len + 1) + cnt L y p) % (x.len + 1) = cnt L y p := by
    rw [Nat.add_comm, Nat.add_mul_mod_self_right]; exact Nat.mod_eq_of_lt (by omega)
  rw [e1, e2, show x.n + (y - x.n) = y by omega]
theorem step_eq {L : List Nat} {y p : Nat} {x : Es} (h : EsRel L y p x) : (stOf x (sub L y p)).step (x.steps y (cnt L y p)) = { n := y, i := cnt L y p, L := sub L y p, bias := x.bias, later := x.b } := by
  have hs := steps_eq h
  have hn := h.n
  have hc := cnt_le_sub L y p
  have hl := h.len
  unfold Pm.St.step stOf
  simp only
  rw [hs, hl]
  have e1 : ((y - x.n) * ((sub L y p).length + 1) + cnt L y p) / ((sub L y p).length + 1) = y - x.n := by
    rw [Nat.add_comm, Nat.add_mul_div_right _ _ (by omega), Nat.div_eq_of_lt (by omega), Nat.zero_add]
  have e2 : ((y - x.n) * ((sub L y p).length + 1) + cnt L y p) % ((sub L y p).length + 1) = cnt L y p := by
    rw [Nat.add_comm, Nat.add_mul_mod_self_right]; exact Nat.mod_eq_of_lt (by omega)
  rw [e1, e2, show x.n + (y - x.n) = y by omega]
theorem wnum_ne (bias k q : Nat) : wnum bias (q + 1) k q ≠ [] := by
  unfold wnum
  split <;> simp

/-- One sign: what is written of it leads the decoder on. -/
theorem put_dec {L : List Nat} {y p : Nat} {x : Es} (h : EsRel L y p x) (hp : p < L.length) (hy : L[p] = y) (hs : Pm.sign y = true) :
    EsRel L y (p + 1) (x.put (x.steps y (cnt L y p))) ∧ ∀ f tail, Pm.dec (f + 1) (stOf x (sub L y p)) (wnum x.bias (x.steps y (cnt L y p) + 1) 1 (x.steps y (cnt L y p)) ++ tail) = Pm.dec f (stOf (x.put (x.steps y (cnt L y p))) (sub L y (p + 1))) tail := by
  have hc := cnt_le_sub L y p
  have hl := h.len
  have hss := sub_same hp y hy
  have hcn : cnt L y (p + 1) = cnt L y p + 1 := by rw [cnt_snoc hp, if_pos (by omega)]
  rw [put_eq h]
  refine ⟨⟨Nat.le_refl _, fun _ => by rw [hcn]; exact Nat.le_refl _, ?_, ?_⟩, fun f tail => ?_⟩
  · show cnt L y p + 1 ≤ x.len + 1
    omega
  · show x.len + 1 = _
    rw [hss, List.length_append, List.length_cons, List.length_take, List.length_drop]
    omega
  · have hst := step_eq h
    rw [dec_go (q := x.steps y (cnt L y p)) (r := tail) (by intro e; exact wnum_ne _ _ _ (List.append_eq_nil_iff.1 e).1)
      (by show Pm.rd x.bias 1 0 1 _ = _; rw [rd_wnum _ _ _ _ _ _ _ (by omega), Nat.zero_add, Nat.mul_one]) (by rw [hst]; exact hs), hst]
    unfold Pm.St.insert stOf
    simp only
    rw [hss, hl]
end Go.Proofs.YtgkepdjgopoljaaDoor
