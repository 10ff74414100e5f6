/- All places of one sign; bounds on the way. -/
import Derived.Test.YtgkepdjgopoljaaDoorTb
namespace Go.Proofs.YtgkepdjgopoljaaDoor
open Go.RowKit

def isD (b : UInt8) : Prop := ∃ d, Pm.dig b.toNat = some d
theorem wnum_digits (bias : Nat) : ∀ (f k q : Nat), ∀ b ∈ wnum bias f k q, isD b
  | 0, _, _, b, h => by simp [wnum] at h
  | f + 1, k, q, b, h => by
    have hb1 := Pm.bnd_pos k bias
    have hb2 := Pm.bnd_le k bias
    unfold wnum at h
    split at h
    · simp at h; subst h; exact ⟨q, dig_dchar (by omega)⟩
    · have hm := Nat.mod_lt (q - Pm.bnd k bias) (show 0 < 36 - Pm.bnd k bias by omega)
      rcases List.mem_cons.1 h with rfl | h
      · exact ⟨_, dig_dchar (by omega)⟩
      · exact wnum_digits bias f _ _ b h
theorem wnum_len (bias : Nat) : ∀ (j f k q : Nat), q < 2 ^ j → (wnum bias f k q).length ≤ j + 1
  | _, 0, _, _, _ => by simp [wnum]
  | j, f + 1, k, q, h => by
    have hb1 := Pm.bnd_pos k bias
    have hb2 := Pm.bnd_le k bias
    unfold wnum
    split
    · simp
    · rename_i hq
      cases j with
      | zero => simp at h; omega
      | succ j =>
        have h1 : (q - Pm.bnd k bias) / (36 - Pm.bnd k bias) ≤ (q - Pm.bnd k bias) / 2 := Nat.div_le_div_left (by omega) (by omega)
        have h2 : q < 2 ^ j * 2 := by rw [← Nat.pow_succ]; exact h
        have := wnum_len bias j f (k + 1) ((q - Pm.bnd k bias) / (36 - Pm.bnd k bias)) (by omega)
        simp only [List.length_cons]
        omega

structure EsOk (x : Es) : Prop where
  n0 : 128 ≤ x.n
  bias : x.bias ≤ 1099511627776
  form : x.form.length ≤ 2000 + 32 * x.len

theorem sub_len_le (L : List Nat) (y p : Nat) : (sub L y p).length ≤ L.length := by
  unfold sub
  rw [List.length_append]
  have h1 := List.length_filter_le (fun h => decide (h ≤ y)) (L.take p)
  have h2 := List.length_filter_le (fun h => decide (h < y)) (L.drop p)
  rw [List.length_take] at h1
  rw [List.length_drop] at h2
  omega
theorem good_of {L : List Nat} {y p : Nat} {x : Es} (h : EsRel L y p x) (ho : EsOk x) (hL : L.length ≤ 1000) : x.good y (cnt L y p) := by
  have hs := sub_len_le L y p
  have hl := h.len
  have hi := h.i
  have hst := steps_eq h
  exact ⟨ho.n0, h.n, by omega, by omega, by omega, ho.bias, by have := ho.form; omega⟩
theorem put_ok {L : List Nat} {y p : Nat} {x : Es} (h : EsRel L y p x) (ho : EsOk x) (hL : L.length ≤ 1000) (hy : y ≤ 1114111) : EsOk (x.put (x.steps y (cnt L y p))) := by
  have hg := good_of h ho hL
  have hc : cnt L y p ≤ 1000 := Nat.le_trans (cnt_le_sub L y p) (Nat.le_trans (sub_len_le L y p) hL)
  have hq := steps_le hg hy hc
  rw [put_eq h]
  refine ⟨Nat.le_trans ho.n0 h.n, ?_, ?_⟩
  · have := Pm.biasN_le (x.steps y (cnt L y p)) (x.len + 1) (!x.b)
    show Pm.biasN _ _ _ ≤ _
    omega
  · show (x.form ++ _).length ≤ 2000 + 32 * (x.len + 1)
    have := wnum_len x.bias 31 (x.steps y (cnt L y p) + 1) 1 (x.steps y (cnt L y p)) (by omega)
    have := ho.form
    rw [List.length_append]
    omega

/-- All places of y, from the place p on. -/
theorem each_dec {L : List Nat} {y : Nat} (hs : Pm.sign y = true) (hL : L.length ≤ 1000) (hy : y ≤ 1114111) : ∀ (r : List Nat) (p : Nat) (x : Es), r = L.drop p → p ≤ L.length → EsRel L y p x → EsOk x →
    eachOk y r (cnt L y p) x ∧ EsRel L y L.length (each y r (cnt L y p) x) ∧ EsOk (each y r (cnt L y p) x) ∧
    ∃ bytes m, (each y r (cnt L y p) x).form = x.form ++ bytes ∧ m ≤ bytes.length ∧ (∀ b ∈ bytes, isD b) ∧ ∀ f tail, Pm.dec (f + m) (stOf x (sub L y p)) (bytes ++ tail) = Pm.dec f (stOf (each y r (cnt L y p) x) (sub L y L.length)) tail
  | [], p, x, hr, hp, h, ho => by
    have e : p = L.length := by have := congrArg List.length hr; rw [List.length_drop] at this; simp at this; omega
    subst e
    exact ⟨trivial, h, ho, [], 0, by simp [each], by simp, by simp, fun f tail => by simp [each]⟩
  | a :: r, p, x, hr, hp, h, ho => by
    have hlt : p < L.length := by have := congrArg List.length hr; rw [List.length_drop] at this; simp at this; omega
    rw [List.drop_eq_getElem_cons hlt] at hr
    obtain ⟨rfl, rfl⟩ := List.cons.inj hr
    unfold each eachOk
    rw [← cnt_snoc hlt]
    by_cases he : L[p] = y
    · rw [if_pos he]
      obtain ⟨h2, hd⟩ := put_dec h hlt he hs
      have ho2 := put_ok h ho hL hy
      obtain ⟨k1, k2, k3, bytes, m, k4, k5, k6, k7⟩ := each_dec hs hL hy (L.drop (p + 1)) (p + 1) _ rfl hlt h2 ho2
      refine ⟨⟨fun _ => good_of h ho hL, k1⟩, k2, k3, wnum x.bias (x.steps y (cnt L y p) + 1) 1 (x.steps y (cnt L y p)) ++ bytes, m + 1, ?_, ?_, ?_, fun f tail => ?_⟩
      · rw [k4, put_eq h, List.append_assoc]
      · have : 1 ≤ (wnum x.bias (x.steps y (cnt L y p) + 1) 1 (x.steps y (cnt L y p))).length := List.length_pos_iff.2 (wnum_ne _ _ _)
        rw [List.length_append]
        omega
      · intro b hb
        rcases List.mem_append.1 hb with hb | hb
        · exact wnum_digits _ _ _ _ b hb
        · exact k6 b hb
      · rw [← Nat.add_assoc, List.append_assoc, hd, k7]
    · rw [if_neg he]
      have h2 : EsRel L y (p + 1) x := ⟨h.n, fun e => by rw [cnt_snoc hlt]; have := h.at_n e; split <;> omega, h.i, by rw [sub_other hlt y he]; exact h.len⟩
      obtain ⟨k1, k2, k3, bytes, m, k4, k5, k6, k7⟩ := each_dec hs hL hy (L.drop (p + 1)) (p + 1) x rfl hlt h2 ho
      refine ⟨⟨fun e => absurd e he, k1⟩, k2, k3, bytes, m, k4, k5, k6, fun f tail => ?_⟩
      rw [← k7, sub_other hlt y he]
end Go.Proofs.YtgkepdjgopoljaaDoor
