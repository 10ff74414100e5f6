import Derived.Test.YtkaaldhejpaiiaaGreatDoorBu06
import Derived.Test.YtkaaldhejpaiiaaGreatDoorBu07
import Derived.Test.YtkaaldhejpaiiaaGreatDoorBu08
/- Ta Tb Tc Td Te Tf Tg, in one. -/
/- Numbers, written and read: the two are inverse. -/
namespace Go.Proofs.YtkaaldhejpaiiaaGreatDoor
open Go.RowKit

theorem dig_dchar {d : Nat} (h : d ≤ 35) : Pm.dig (dchar d).toNat = some d := by
  unfold dchar Pm.dig
  by_cases h26 : d < 26
  · rw [if_pos h26]
    have e : (UInt8.ofNat (97 + d)).toNat = 97 + d := by simp; omega
    rw [e, if_pos (by omega)]
    congr 1
    omega
  · rw [if_neg h26]
    have e : (UInt8.ofNat (48 + (d - 26))).toNat = 48 + (d - 26) := by simp; omega
    rw [e, if_neg (by omega), if_pos (by omega)]
    congr 1
    omega
theorem dchar_dig {c : UInt8} {d : Nat} (h : Pm.dig c.toNat = some d) : dchar d = c := by
  have hc := c.toNat_lt
  unfold Pm.dig at h
  split at h
  · simp at h
    unfold dchar
    rw [if_pos (by omega), show 97 + d = c.toNat by omega]
    simp
  · split at h
    · simp at h
      unfold dchar
      rw [if_neg (by omega), show 48 + (d - 26) = c.toNat by omega]
      simp
    · simp at h

/-- What is written is read. -/
theorem rd_wnum (bias : Nat) : ∀ (f k q s u : Nat) (r : List UInt8), q < f → Pm.rd bias k s u (wnum bias f k q ++ r) = some (s + q * u, r)
  | 0, _, _, _, _, _, h => by omega
  | f + 1, k, q, s, u, r, h => by
    have hb1 := Pm.bnd_pos k bias
    have hb2 := Pm.bnd_le k bias
    unfold wnum
    by_cases hq : q < Pm.bnd k bias
    · rw [if_pos hq]
      simp only [List.singleton_append, Pm.rd]
      rw [dig_dchar (by omega)]
      simp [hq]
    · rw [if_neg hq]
      obtain ⟨b, hb⟩ : ∃ b, Pm.bnd k bias = b := ⟨_, rfl⟩
      rw [hb] at hb1 hb2 hq ⊢
      have hm := Nat.mod_lt (q - b) (show 0 < 36 - b by omega)
      have hd := Nat.div_add_mod (q - b) (36 - b)
      have hle : (q - b) / (36 - b) ≤ q - b := Nat.div_le_self _ _
      simp only [List.cons_append]
      unfold Pm.rd
      rw [dig_dchar (by omega)]
      simp only
      rw [hb, if_neg (by omega), rd_wnum bias f (k + 1) _ _ _ r (by omega)]
      congr 2
      have e : q = (b + (q - b) % (36 - b)) + (q - b) / (36 - b) * (36 - b) := by rw [Nat.mul_comm] at hd; omega
      generalize (q - b) / (36 - b) = Q at e ⊢
      generalize (q - b) % (36 - b) = R at e ⊢
      rw [e, Nat.add_mul (b + R) (Q * (36 - b)) u, Nat.mul_assoc Q, Nat.mul_comm (36 - b) u, Nat.add_assoc s]

/-- What is read is what is written. -/
theorem wnum_rd (bias : Nat) : ∀ (l : List UInt8) (k s u q : Nat) (r : List UInt8), Pm.rd bias k s u l = some (q, r) → ∃ p, q = s + p * u ∧ ∀ f, p < f → l = wnum bias f k p ++ r
  | [], _, _, _, _, _, h => by simp [Pm.rd] at h
  | c :: l, k, s, u, q, r, h => by
    have hb1 := Pm.bnd_pos k bias
    have hb2 := Pm.bnd_le k bias
    obtain ⟨b, hb⟩ : ∃ b, Pm.bnd k bias = b := ⟨_, rfl⟩
    unfold Pm.rd at h
    split at h
    · simp at h
    · rename_i d hd
      have hd35 := Pm.dig_le hd
      have hc := dchar_dig hd
      rw [hb] at h hb1 hb2
      split at h
      · rename_i hlt
        simp at h
        refine ⟨d, h.1.symm, fun f hf => ?_⟩
        cases f with
        | zero => omega
        | succ f =>
          unfold wnum
          rw [hb, if_pos hlt, hc, ← h.2]
          rfl
      · rename_i hge
        obtain ⟨p', hp, hw⟩ := wnum_rd bias l (k + 1) (s + d * u) (u * (36 - b)) q r h
        have e1 : (d - b + p' * (36 - b)) % (36 - b) = d - b := by rw [Nat.add_mul_mod_self_right]; exact Nat.mod_eq_of_lt (by omega)
        have e2 : (d - b + p' * (36 - b)) / (36 - b) = p' := by rw [Nat.add_mul_div_right _ _ (by omega), Nat.div_eq_of_lt (by omega), Nat.zero_add]
        have hpm : p' ≤ p' * (36 - b) := Nat.le_mul_of_pos_right _ (by omega)
        refine ⟨d + p' * (36 - b), ?_, fun f hf => ?_⟩
        · rw [hp, Nat.add_mul, Nat.add_assoc, Nat.mul_assoc p', Nat.mul_comm (36 - b) u]
        · cases f with
          | zero => omega
          | succ f =>
            unfold wnum
            rw [hb, if_neg (by omega), show d + p' * (36 - b) - b = d - b + p' * (36 - b) by omega, e1, e2, show b + (d - b) = d by omega, hc, List.cons_append, ← hw f (by omega)]
end Go.Proofs.YtkaaldhejpaiiaaGreatDoor

/- The encoder's states are the decoder's. -/
namespace Go.Proofs.YtkaaldhejpaiiaaGreatDoor
open Go.RowKit

/-- What stands there when the signs below y are in, and those of y ahead of the place p. -/
def sub (L : List Nat) (y p : Nat) : List Nat := (L.take p).filter (fun h => decide (h ≤ y)) ++ (L.drop p).filter (fun h => decide (h < y))
def cnt (L : List Nat) (y p : Nat) : Nat := ((L.take p).filter (fun h => decide (h ≤ y))).length
def stOf (x : Es) (l : List Nat) : Pm.St := { n := x.n, i := x.i, L := l, bias := x.bias, later := x.b }
structure EsRel (L : List Nat) (y p : Nat) (x : Es) : Prop where
  n : x.n ≤ y
  at_n : x.n = y → x.i ≤ cnt L y p
  i : x.i ≤ x.len
  len : x.len = (sub L y p).length

theorem cnt_le_sub (L : List Nat) (y p : Nat) : cnt L y p ≤ (sub L y p).length := by unfold cnt sub; rw [List.length_append]; omega
theorem cnt_snoc {L : List Nat} {p : Nat} (h : p < L.length) (y : Nat) : cnt L y (p + 1) = if L[p] ≤ y then cnt L y p + 1 else cnt L y p := by
  unfold cnt
  rw [List.take_succ_eq_append_getElem h, List.filter_append]
  by_cases hy : L[p] ≤ y <;> simp [hy]
theorem sub_other {L : List Nat} {p : Nat} (h : p < L.length) (y : Nat) (hy : L[p] ≠ y) : sub L y (p + 1) = sub L y p := by
  unfold sub
  rw [List.take_succ_eq_append_getElem h, List.filter_append, List.append_assoc, List.drop_eq_getElem_cons h]
  congr 1
  by_cases hl : L[p] < y
  · rw [show [L[p]].filter (fun h => decide (h ≤ y)) = [L[p]] by simp; omega, List.filter_cons_of_pos (by simpa using hl)]
    rfl
  · rw [show [L[p]].filter (fun h => decide (h ≤ y)) = [] by simp; omega, List.filter_cons_of_neg (by simpa using hl)]
    rfl
theorem sub_same {L : List Nat} {p : Nat} (h : p < L.length) (y : Nat) (hy : L[p] = y) : sub L y (p + 1) = (sub L y p).take (cnt L y p) ++ y :: (sub L y p).drop (cnt L y p) := by
  unfold sub cnt
  rw [List.take_left, List.drop_left, List.take_succ_eq_append_getElem h, List.filter_append, List.drop_eq_getElem_cons h, List.filter_cons, List.append_assoc]
  simp [hy]

theorem steps_eq {L : List Nat} {y p : Nat} {x : Es} (h : EsRel L y p x) : x.i + x.steps y (cnt L y p) = (y - x.n) * (x.len + 1) + cnt L y p := by
  have hi := h.i
  have hn := h.n
  unfold Es.steps
  by_cases e : x.n = y
  · have := h.at_n e
    omega
  · have : 1 * (x.len + 1) ≤ (y - x.n) * (x.len + 1) := Nat.mul_le_mul_right _ (by omega)
    omega
theorem put_eq {L : List Nat} {y p : Nat} {x : Es} (h : EsRel L y p x) : x.put (x.steps y (cnt L y p)) = { n := y, i := cnt L y p + 1, len := x.len + 1, bias := Pm.biasN (x.steps y (cnt L y p)) (x.len + 1) (!x.b), b := true, form := x.form ++ wnum x.bias (x.steps y (cnt L y p) + 1) 1 (x.steps y (cnt L y p)) } := by
  have hs := steps_eq h
  have hn := h.n
  have hc := cnt_le_sub L y p
  have hl := h.len
  unfold Es.put
  rw [hs]
  have e1 : ((y - x.n) * (x.len + 1) + cnt L y p) / (x.len + 1) = y - x.n := by
    rw [Nat.add_comm, Nat.add_mul_div_right _ _ (by omega), Nat.div_eq_of_lt (by omega), Nat.zero_add]
  have e2 : ((y - x.n) * (x.len + 1) + cnt L y p) % (x.len + 1) = cnt L y p := by
    rw [Nat.add_comm, Nat.add_mul_mod_self_right]; exact Nat.mod_eq_of_lt (by omega)
  rw [e1, e2, show x.n + (y - x.n) = y by omega]
theorem step_eq {L : List Nat} {y p : Nat} {x : Es} (h : EsRel L y p x) : (stOf x (sub L y p)).step (x.steps y (cnt L y p)) = { n := y, i := cnt L y p, L := sub L y p, bias := x.bias, later := x.b } := by
  have hs := steps_eq h
  have hn := h.n
  have hc := cnt_le_sub L y p
  have hl := h.len
  unfold Pm.St.step stOf
  simp only
  rw [hs, hl]
  have e1 : ((y - x.n) * ((sub L y p).length + 1) + cnt L y p) / ((sub L y p).length + 1) = y - x.n := by
    rw [Nat.add_comm, Nat.add_mul_div_right _ _ (by omega), Nat.div_eq_of_lt (by omega), Nat.zero_add]
  have e2 : ((y - x.n) * ((sub L y p).length + 1) + cnt L y p) % ((sub L y p).length + 1) = cnt L y p := by
    rw [Nat.add_comm, Nat.add_mul_mod_self_right]; exact Nat.mod_eq_of_lt (by omega)
  rw [e1, e2, show x.n + (y - x.n) = y by omega]
theorem wnum_ne (bias k q : Nat) : wnum bias (q + 1) k q ≠ [] := by
  unfold wnum
  split <;> simp

/-- One sign: what is written of it leads the decoder on. -/
theorem put_dec {L : List Nat} {y p : Nat} {x : Es} (h : EsRel L y p x) (hp : p < L.length) (hy : L[p] = y) (hs : Pm.sign y = true) :
    EsRel L y (p + 1) (x.put (x.steps y (cnt L y p))) ∧ ∀ f tail, Pm.dec (f + 1) (stOf x (sub L y p)) (wnum x.bias (x.steps y (cnt L y p) + 1) 1 (x.steps y (cnt L y p)) ++ tail) = Pm.dec f (stOf (x.put (x.steps y (cnt L y p))) (sub L y (p + 1))) tail := by
  have hc := cnt_le_sub L y p
  have hl := h.len
  have hss := sub_same hp y hy
  have hcn : cnt L y (p + 1) = cnt L y p + 1 := by rw [cnt_snoc hp, if_pos (by omega)]
  rw [put_eq h]
  refine ⟨⟨Nat.le_refl _, fun _ => by rw [hcn]; exact Nat.le_refl _, ?_, ?_⟩, fun f tail => ?_⟩
  · show cnt L y p + 1 ≤ x.len + 1
    omega
  · show x.len + 1 = _
    rw [hss, List.length_append, List.length_cons, List.length_take, List.length_drop]
    omega
  · have hst := step_eq h
    rw [dec_go (q := x.steps y (cnt L y p)) (r := tail) (by intro e; exact wnum_ne _ _ _ (List.append_eq_nil_iff.1 e).1)
      (by show Pm.rd x.bias 1 0 1 _ = _; rw [rd_wnum _ _ _ _ _ _ _ (by omega), Nat.zero_add, Nat.mul_one]) (by rw [hst]; exact hs), hst]
    unfold Pm.St.insert stOf
    simp only
    rw [hss, hl]
end Go.Proofs.YtkaaldhejpaiiaaGreatDoor

/- All places of one sign; bounds on the way. -/
namespace Go.Proofs.YtkaaldhejpaiiaaGreatDoor
open Go.RowKit

def isD (b : UInt8) : Prop := ∃ d, Pm.dig b.toNat = some d
theorem wnum_digits (bias : Nat) : ∀ (f k q : Nat), ∀ b ∈ wnum bias f k q, isD b
  | 0, _, _, b, h => by simp [wnum] at h
  | f + 1, k, q, b, h => by
    have hb1 := Pm.bnd_pos k bias
    have hb2 := Pm.bnd_le k bias
    unfold wnum at h
    split at h
    · simp at h; subst h; exact ⟨q, dig_dchar (by omega)⟩
    · have hm := Nat.mod_lt (q - Pm.bnd k bias) (show 0 < 36 - Pm.bnd k bias by omega)
      rcases List.mem_cons.1 h with rfl | h
      · exact ⟨_, dig_dchar (by omega)⟩
      · exact wnum_digits bias f _ _ b h
theorem wnum_len (bias : Nat) : ∀ (j f k q : Nat), q < 2 ^ j → (wnum bias f k q).length ≤ j + 1
  | _, 0, _, _, _ => by simp [wnum]
  | j, f + 1, k, q, h => by
    have hb1 := Pm.bnd_pos k bias
    have hb2 := Pm.bnd_le k bias
    unfold wnum
    split
    · simp
    · rename_i hq
      cases j with
      | zero => simp at h; omega
      | succ j =>
        have h1 : (q - Pm.bnd k bias) / (36 - Pm.bnd k bias) ≤ (q - Pm.bnd k bias) / 2 := Nat.div_le_div_left (by omega) (by omega)
        have h2 : q < 2 ^ j * 2 := by rw [← Nat.pow_succ]; exact h
        have := wnum_len bias j f (k + 1) ((q - Pm.bnd k bias) / (36 - Pm.bnd k bias)) (by omega)
        simp only [List.length_cons]
        omega

structure EsOk (x : Es) : Prop where
  n0 : 128 ≤ x.n
  bias : x.bias ≤ 1099511627776
  form : x.form.length ≤ 2000 + 32 * x.len

theorem sub_len_le (L : List Nat) (y p : Nat) : (sub L y p).length ≤ L.length := by
  unfold sub
  rw [List.length_append]
  have h1 := List.length_filter_le (fun h => decide (h ≤ y)) (L.take p)
  have h2 := List.length_filter_le (fun h => decide (h < y)) (L.drop p)
  rw [List.length_take] at h1
  rw [List.length_drop] at h2
  omega
theorem good_of {L : List Nat} {y p : Nat} {x : Es} (h : EsRel L y p x) (ho : EsOk x) (hL : L.length ≤ 1000) : x.good y (cnt L y p) := by
  have hs := sub_len_le L y p
  have hl := h.len
  have hi := h.i
  have hst := steps_eq h
  exact ⟨ho.n0, h.n, by omega, by omega, by omega, ho.bias, by have := ho.form; omega⟩
theorem put_ok {L : List Nat} {y p : Nat} {x : Es} (h : EsRel L y p x) (ho : EsOk x) (hL : L.length ≤ 1000) (hy : y ≤ 1114111) : EsOk (x.put (x.steps y (cnt L y p))) := by
  have hg := good_of h ho hL
  have hc : cnt L y p ≤ 1000 := Nat.le_trans (cnt_le_sub L y p) (Nat.le_trans (sub_len_le L y p) hL)
  have hq := steps_le hg hy hc
  rw [put_eq h]
  refine ⟨Nat.le_trans ho.n0 h.n, ?_, ?_⟩
  · have := Pm.biasN_le (x.steps y (cnt L y p)) (x.len + 1) (!x.b)
    show Pm.biasN _ _ _ ≤ _
    omega
  · show (x.form ++ _).length ≤ 2000 + 32 * (x.len + 1)
    have := wnum_len x.bias 31 (x.steps y (cnt L y p) + 1) 1 (x.steps y (cnt L y p)) (by omega)
    have := ho.form
    rw [List.length_append]
    omega

/-- All places of y, from the place p on. -/
theorem each_dec {L : List Nat} {y : Nat} (hs : Pm.sign y = true) (hL : L.length ≤ 1000) (hy : y ≤ 1114111) : ∀ (r : List Nat) (p : Nat) (x : Es), r = L.drop p → p ≤ L.length → EsRel L y p x → EsOk x →
    eachOk y r (cnt L y p) x ∧ EsRel L y L.length (each y r (cnt L y p) x) ∧ EsOk (each y r (cnt L y p) x) ∧
    ∃ bytes m, (each y r (cnt L y p) x).form = x.form ++ bytes ∧ m ≤ bytes.length ∧ (∀ b ∈ bytes, isD b) ∧ ∀ f tail, Pm.dec (f + m) (stOf x (sub L y p)) (bytes ++ tail) = Pm.dec f (stOf (each y r (cnt L y p) x) (sub L y L.length)) tail
  | [], p, x, hr, hp, h, ho => by
    have e : p = L.length := by have := congrArg List.length hr; rw [List.length_drop] at this; simp at this; omega
    subst e
    exact ⟨trivial, h, ho, [], 0, by simp [each], by simp, by simp, fun f tail => by simp [each]⟩
  | a :: r, p, x, hr, hp, h, ho => by
    have hlt : p < L.length := by have := congrArg List.length hr; rw [List.length_drop] at this; simp at this; omega
    rw [List.drop_eq_getElem_cons hlt] at hr
    obtain ⟨rfl, rfl⟩ := List.cons.inj hr
    unfold each eachOk
    rw [← cnt_snoc hlt]
    by_cases he : L[p] = y
    · rw [if_pos he]
      obtain ⟨h2, hd⟩ := put_dec h hlt he hs
      have ho2 := put_ok h ho hL hy
      obtain ⟨k1, k2, k3, bytes, m, k4, k5, k6, k7⟩ := each_dec hs hL hy (L.drop (p + 1)) (p + 1) _ rfl hlt h2 ho2
      refine ⟨⟨fun _ => good_of h ho hL, k1⟩, k2, k3, wnum x.bias (x.steps y (cnt L y p) + 1) 1 (x.steps y (cnt L y p)) ++ bytes, m + 1, ?_, ?_, ?_, fun f tail => ?_⟩
      · rw [k4, put_eq h, List.append_assoc]
      · have : 1 ≤ (wnum x.bias (x.steps y (cnt L y p) + 1) 1 (x.steps y (cnt L y p))).length := List.length_pos_iff.2 (wnum_ne _ _ _)
        rw [List.length_append]
        omega
      · intro b hb
        rcases List.mem_append.1 hb with hb | hb
        · exact wnum_digits _ _ _ _ b hb
        · exact k6 b hb
      · rw [← Nat.add_assoc, List.append_assoc, hd, k7]
    · rw [if_neg he]
      have h2 : EsRel L y (p + 1) x := ⟨h.n, fun e => by rw [cnt_snoc hlt]; have := h.at_n e; split <;> omega, h.i, by rw [sub_other hlt y he]; exact h.len⟩
      obtain ⟨k1, k2, k3, bytes, m, k4, k5, k6, k7⟩ := each_dec hs hL hy (L.drop (p + 1)) (p + 1) x rfl hlt h2 ho
      refine ⟨⟨fun e => absurd e he, k1⟩, k2, k3, bytes, m, k4, k5, k6, fun f tail => ?_⟩
      rw [← k7, sub_other hlt y he]
end Go.Proofs.YtkaaldhejpaiiaaGreatDoor

/- All signs, one behind the other. -/
namespace Go.Proofs.YtkaaldhejpaiiaaGreatDoor
open Go.RowKit

theorem sub_zero (L : List Nat) (y : Nat) : sub L y 0 = L.filter (fun h => decide (h < y)) := by simp [sub]
theorem sub_all (L : List Nat) (y : Nat) : sub L y L.length = L.filter (fun h => decide (h ≤ y)) := by simp [sub]
theorem cnt_zero (L : List Nat) (y : Nat) : cnt L y 0 = 0 := by simp [cnt]

/-- The signs that are still to come. -/
structure Come (L ys : List Nat) : Prop where
  up : ys.Pairwise (· < ·)
  sg : ∀ y ∈ ys, Pm.sign y = true
  low : ∀ h ∈ L, h ∉ ys → ∀ y ∈ ys, h < y

theorem eachAll_dec {L : List Nat} (hL : L.length ≤ 1000) : ∀ (ys : List Nat) (x : Es), Come L ys → EsOk x → (∀ y ∈ ys, x.n ≤ y ∧ (x.n = y → x.i = 0)) → x.i ≤ x.len → x.len = (L.filter (fun h => decide (h ∉ ys))).length →
    eachAllOk L ys x ∧ EsOk (eachAll L ys x) ∧
    ∃ bytes m, (eachAll L ys x).form = x.form ++ bytes ∧ m ≤ bytes.length ∧ (∀ b ∈ bytes, isD b) ∧ ∀ f tail, Pm.dec (f + m) (stOf x (L.filter (fun h => decide (h ∉ ys)))) (bytes ++ tail) = Pm.dec f (stOf (eachAll L ys x) L) tail
  | [], x, _, ho, _, _, _ => by
    have e : L.filter (fun h => decide (h ∉ ([] : List Nat))) = L := by simp
    rw [e]
    exact ⟨trivial, ho, [], 0, by simp [eachAll], by simp, by simp, fun f tail => by simp [eachAll]⟩
  | y :: r, x, hc, ho, hn, hi, hl => by
    obtain ⟨hup, hsg, hlow⟩ := hc
    obtain ⟨hyr, hr⟩ := List.pairwise_cons.1 hup
    have hs := hsg y (by simp)
    have hy : y ≤ 1114111 := by unfold Pm.sign at hs; simp at hs; omega
    have e1 : L.filter (fun h => decide (h ∉ y :: r)) = sub L y 0 := by
      rw [sub_zero]
      apply List.filter_congr
      intro h hh
      congr 1
      apply propext
      constructor
      · intro hm; exact hlow h hh hm y (by simp)
      · intro hlt hm
        rcases List.mem_cons.1 hm with rfl | hm
        · omega
        · have := hyr h hm; omega
    have e2 : sub L y L.length = L.filter (fun h => decide (h ∉ r)) := by
      rw [sub_all]
      apply List.filter_congr
      intro h hh
      congr 1
      apply propext
      constructor
      · intro hle hm; have := hyr h hm; omega
      · intro hm
        by_cases he : h = y
        · omega
        · exact Nat.le_of_lt (hlow h hh (by simp [he, hm]) y (by simp))
    have hc2 : Come L r := ⟨hr, fun z hz => hsg z (by simp [hz]), fun h hh hm z hz => by
      have hyz := hyr z hz
      by_cases he : h = y
      · omega
      · have := hlow h hh (by simp [he, hm]) y (by simp); omega⟩
    have hrel : EsRel L y 0 x := ⟨(hn y (by simp)).1, fun e => by rw [cnt_zero, (hn y (by simp)).2 e]; exact Nat.le_refl _, hi, by rw [← e1]; exact hl⟩
    obtain ⟨k1, k2, k3, bytes, m, k4, k5, k6, k7⟩ := each_dec hs hL hy L 0 x (by simp) (Nat.zero_le _) hrel ho
    rw [cnt_zero] at k1 k2 k3 k4 k7
    obtain ⟨j1, j3, bytes2, m2, j4, j5, j6, j7⟩ := eachAll_dec hL r (each y L 0 x) hc2 k3 (fun z hz => by have h1 := hyr z hz; have h2 := k2.n; exact ⟨by omega, fun e => by omega⟩) k2.i (by rw [k2.len, e2])
    refine ⟨⟨hy, k1, j1⟩, j3, bytes ++ bytes2, m2 + m, ?_, ?_, ?_, fun f tail => ?_⟩
    · show (eachAll L r (each y L 0 x)).form = _
      rw [j4, k4, List.append_assoc]
    · rw [List.length_append]; omega
    · intro b hb
      rcases List.mem_append.1 hb with hb | hb
      · exact k6 b hb
      · exact j6 b hb
    · rw [e1, ← Nat.add_assoc, List.append_assoc, k7, e2]
      exact j7 f tail

/-- Fuel enough is enough. -/
theorem dec_fuel : ∀ (f g : Nat) (x : Pm.St) (l : List UInt8), l.length < f → l.length < g → Pm.dec f x l = Pm.dec g x l
  | 0, _, _, _, h, _ => by omega
  | _, 0, _, _, _, h => by omega
  | f + 1, g + 1, x, l, h1, h2 => by
    unfold Pm.dec
    by_cases hl : l = []
    · rw [if_pos hl, if_pos hl]
    · rw [if_neg hl, if_neg hl]
      cases hr : Pm.rd x.bias 1 0 1 l with
      | none => rfl
      | some v =>
        obtain ⟨q, r⟩ := v
        have := Pm.rd_len _ _ _ _ _ _ _ hr
        simp only
        split
        · exact dec_fuel f g _ r (by omega) (by omega)
        · rfl
end Go.Proofs.YtkaaldhejpaiiaaGreatDoor

/- Forms go back: decode behind encode. -/
namespace Go.Proofs.YtkaaldhejpaiiaaGreatDoor
open Go.RowKit

theorem lastP_at (s : ByteArray) (p : Nat) (h0 : p = 0 ∨ (s.get! (p - 1)).toNat = 45) : ∀ k, p ≤ k → (∀ j, p ≤ j → j < k → (s.get! j).toNat ≠ 45) → lastP s k = p
  | 0, hp, _ => by have : p = 0 := by omega
                   rw [this]; rfl
  | k + 1, hp, h => by
    unfold lastP
    by_cases e : p = k + 1
    · subst e
      rcases h0 with h0 | h0
      · omega
      · rw [Nat.add_sub_cancel] at h0; rw [if_pos h0]
    · rw [if_neg (h k (by omega) (by omega))]
      exact lastP_at s p h0 k (by omega) fun j h1 h2 => h j h1 (by omega)
theorem get!_list (s : ByteArray) (j : Nat) (h : j < s.data.toList.length) : s.get! j = s.data.toList[j] := by
  have hj : j < s.size := by rw [Array.length_toList] at h; exact h
  rw [get!_at s j hj, ByteArray.getElem_eq_getElem_data]
  simp
theorem isD_asc {b : UInt8} (h : isD b) : b.toNat < 128 ∧ b.toNat ≠ 45 := by
  obtain ⟨d, h⟩ := h
  unfold Pm.dig at h
  split at h
  · omega
  · split at h
    · omega
    · simp at h
theorem ascF_asc2 (L : List Nat) : ∀ b ∈ ascF L, b.toNat < 128 := by
  intro b hb
  unfold ascF at hb
  obtain ⟨m, hm, rfl⟩ := List.mem_map.1 hb
  have := (List.mem_filter.1 hm).2
  simp at this ⊢
  omega
theorem ascF_back (L : List Nat) : (ascF L).map (·.toNat) = L.filter (fun h => decide (h < 128)) := by
  unfold ascF
  rw [List.map_map]
  conv => rhs; rw [← List.map_id (L.filter (fun h => decide (h < 128)))]
  apply List.map_congr_left
  intro m hm
  have := (List.mem_filter.1 hm).2
  simp at this ⊢
  omega
theorem ascF_len_eq (L : List Nat) : (ascF L).length = (L.filter (fun h => decide (h < 128))).length := by rw [← ascF_back, List.length_map]

structure Ys (L ys : List Nat) : Prop where
  up : ys.Pairwise (· < ·)
  all : ∀ y, y ∈ ys ↔ y ∈ L ∧ 128 ≤ y

theorem ys_come {L ys : List Nat} (h : Ys L ys) (hs : ∀ n ∈ L, Pm.sign n = true) : Come L ys :=
  ⟨h.up, fun y hy => hs y ((h.all y).1 hy).1, fun z hz hn y hy => by
    have h1 := ((h.all y).1 hy).2
    have h2 : ¬ 128 ≤ z := fun h3 => hn ((h.all z).2 ⟨hz, h3⟩)
    omega⟩
theorem ys_filter {L ys : List Nat} (h : Ys L ys) : L.filter (fun z => decide (z ∉ ys)) = L.filter (fun z => decide (z < 128)) := by
  apply List.filter_congr
  intro z hz
  congr 1
  apply propext
  rw [h.all z]
  constructor
  · intro h1; exact Nat.lt_of_not_le fun h2 => h1 ⟨hz, h2⟩
  · intro h1 h2; omega

theorem enc_parts {L ys : List Nat} (h : Ys L ys) (hs : ∀ n ∈ L, Pm.sign n = true) (hL : L.length ≤ 1000) :
    eachAllOk L ys (firstEs L) ∧ ∃ bytes m, encS L ys = (firstEs L).form ++ bytes ∧ m ≤ bytes.length ∧ (∀ b ∈ bytes, isD b) ∧ ∀ f, Pm.dec (f + m) (Pm.St.first (L.filter (fun z => decide (z < 128)))) bytes = Pm.dec f (stOf (eachAll L ys (firstEs L)) L) [] := by
  have hf := ys_filter h
  have hlen := ascF_len_eq L
  have hal := ascF_len L
  have hform : (firstEs L).form.length ≤ 1001 := by unfold firstEs; simp only; split <;> simp; omega
  obtain ⟨k1, _, bytes, m, k2, k3, k4, k5⟩ := eachAll_dec hL ys (firstEs L) (ys_come h hs) ⟨Nat.le_refl _, by simp [firstEs], by omega⟩ (fun y hy => ⟨((h.all y).1 hy).2, fun _ => rfl⟩) (Nat.zero_le _) (by rw [hf]; exact hlen)
  refine ⟨k1, bytes, m, k2, k3, k4, fun f => ?_⟩
  have := k5 f []
  rw [List.append_nil, hf] at this
  exact this

/-- Forms go back. -/
theorem decodeS_enc {L ys : List Nat} (h : Ys L ys) (hs : ∀ n ∈ L, Pm.sign n = true) (hL : L.length ≤ 1000) (s : ByteArray) (he : s.data.toList = encS L ys) (hz : s.size ≤ 1000) : decodeS s = some L := by
  obtain ⟨_, bytes, m, k1, k2, k3, k4⟩ := enc_parts h hs hL
  rw [k1] at he
  have hsz : s.size = s.data.toList.length := by rw [Array.length_toList]; rfl
  obtain ⟨F, hF⟩ : ∃ F, (firstEs L).form = F := ⟨_, rfl⟩
  rw [hF] at he
  have hFa : ∀ b ∈ F, b.toNat < 128 := by
    rw [← hF]
    unfold firstEs
    simp only
    intro b hb
    split at hb
    · simp at hb
    · rcases List.mem_append.1 hb with hb | hb
      · exact ascF_asc2 L b hb
      · simp at hb; subst hb; decide
  have ha : ascB s.data.toList = true := by
    rw [he]
    apply List.all_eq_true.2
    intro b hb
    rcases List.mem_append.1 hb with hb | hb
    · simpa using hFa b hb
    · simpa using (isD_asc (k3 b hb)).1
  have hF2 : F.length = 0 ∧ ascF L = [] ∨ F = ascF L ++ [45] ∧ ascF L ≠ [] := by
    rw [← hF]
    unfold firstEs
    simp only
    split
    · left; exact ⟨rfl, by assumption⟩
    · right; exact ⟨rfl, by assumption⟩
  have hlist : s.data.toList.length = F.length + bytes.length := by rw [he, List.length_append]
  have hp : lastP s s.size = F.length := by
    refine lastP_at s F.length ?_ s.size (by omega) ?_
    · rcases hF2 with ⟨h1, _⟩ | ⟨h1, _⟩
      · exact Or.inl h1
      · right
        have hl : F.length = (ascF L).length + 1 := by rw [h1]; simp
        rw [get!_list s _ (by omega)]
        have e : s.data.toList[F.length - 1]'(by omega) = (45 : UInt8) := by
          simp only [he]
          rw [List.getElem_append_left (by omega)]
          simp [h1]
        rw [e]
        rfl
    · intro j h1 h2
      rw [get!_list s j (by omega)]
      have e : s.data.toList[j]'(by omega) ∈ bytes := by
        simp only [he]
        rw [List.getElem_append_right h1]
        exact List.getElem_mem _
      exact (isD_asc (k3 _ e)).2
  have hp1 : F.length ≠ 1 := by
    rcases hF2 with ⟨h1, _⟩ | ⟨h1, h2⟩
    · omega
    · have : 1 ≤ (ascF L).length := List.length_pos_iff.2 h2
      rw [h1]; simp; omega
  have htake : (s.data.toList.take (F.length - 1)).map (·.toNat) = L.filter (fun z => decide (z < 128)) := by
    rw [← ascF_back, he]
    congr 1
    rcases hF2 with ⟨h1, h2⟩ | ⟨h1, _⟩
    · rw [h1, h2]; rfl
    · rw [h1, List.length_append]; simp
  have hdrop : s.data.toList.drop F.length = bytes := by rw [he, List.drop_left]
  rw [decodeS, if_neg (by rw [ha, hp]; simp; omega), hp, htake, hdrop, show s.size - F.length + 1 = (bytes.length - m + 1) + m by omega, k4, dec_nil]
  rfl
end Go.Proofs.YtkaaldhejpaiiaaGreatDoor

/- A text has one form: two forms that are decoded alike are alike. -/
namespace Go.Proofs.YtkaaldhejpaiiaaGreatDoor
open Go.RowKit

structure StJ (x : Pm.St) : Prop where
  i : x.i ≤ x.L.length
  le : ∀ h ∈ x.L, h ≤ x.n
  lt : ∀ h ∈ x.L.drop x.i, h < x.n

theorem step_lex (x : Pm.St) (q : Nat) : x.n < (x.step q).n ∨ x.n = (x.step q).n ∧ x.i ≤ (x.step q).i := by
  unfold Pm.St.step
  simp only
  by_cases h : x.i + q < x.L.length + 1
  · right
    rw [Nat.div_eq_of_lt h, Nat.mod_eq_of_lt h]
    omega
  · left
    have : 1 ≤ (x.i + q) / (x.L.length + 1) := (Nat.one_le_div_iff (by omega)).2 (by omega)
    omega
theorem step_J {x : Pm.St} (h : StJ x) (q : Nat) : StJ (x.step q) := by
  refine ⟨Pm.step_i q, fun z hz => ?_, fun z hz => ?_⟩
  · have h1 := h.le z hz
    rcases step_lex x q with h2 | ⟨h2, _⟩ <;> omega
  · rcases step_lex x q with h2 | ⟨h2, h3⟩
    · have h1 := h.le z (List.mem_of_mem_drop hz)
      omega
    · have h4 : z ∈ x.L.drop x.i := by
        have e : x.L.drop (x.step q).i = (x.L.drop x.i).drop ((x.step q).i - x.i) := by rw [List.drop_drop]; congr 1; omega
        have hz2 : z ∈ x.L.drop (x.step q).i := hz
        rw [e] at hz2
        exact List.mem_of_mem_drop hz2
      have := h.lt z h4
      omega
theorem insert_J {x : Pm.St} (h : StJ x) (q : Nat) : StJ (x.insert q) := by
  have hi := h.i
  refine ⟨by rw [Pm.insert_len x q hi]; show x.i + 1 ≤ _; omega, fun z hz => ?_, fun z hz => ?_⟩
  · simp only [Pm.St.insert, List.mem_append, List.mem_cons] at hz
    show z ≤ x.n
    rcases hz with hz | rfl | hz
    · exact h.le z (List.mem_of_mem_take hz)
    · exact Nat.le_refl _
    · exact h.le z (List.mem_of_mem_drop hz)
  · have e : (x.insert q).L.drop (x.insert q).i = x.L.drop x.i := by
      show (x.L.take x.i ++ x.n :: x.L.drop x.i).drop (x.i + 1) = _
      rw [List.drop_append, List.length_take, Nat.min_eq_left hi, List.drop_eq_nil_of_le (by rw [List.length_take]; omega), show x.i + 1 - x.i = 1 by omega]
      rfl
    rw [e] at hz
    exact h.lt z hz

theorem dec_some {f : Nat} {x : Pm.St} {l : List UInt8} {L : List Nat} (h : Pm.dec f x l = some L) : (l = [] ∧ L = x.L) ∨ ∃ g q r, f = g + 1 ∧ l ≠ [] ∧ Pm.rd x.bias 1 0 1 l = some (q, r) ∧ Pm.dec g ((x.step q).insert q) r = some L := by
  cases f with
  | zero => simp [Pm.dec] at h
  | succ g =>
    unfold Pm.dec at h
    by_cases hl : l = []
    · rw [if_pos hl] at h; left; exact ⟨hl, (Option.some.inj h).symm⟩
    · rw [if_neg hl] at h
      right
      split at h
      · simp at h
      · rename_i q r hr
        split at h
        · exact ⟨g, q, r, rfl, hl, hr, h⟩
        · simp at h

theorem stay2 : ∀ (f : Nat) (x : Pm.St) (l : List UInt8) (L : List Nat) (m : Nat), Pm.dec f x l = some L → StJ x → m < x.n → L.filter (fun h => decide (h ≤ m)) = x.L.filter (fun h => decide (h ≤ m))
  | f, x, l, L, m, h, hJ, hm => by
    rcases dec_some h with ⟨_, rfl⟩ | ⟨g, q, r, rfl, _, _, hd⟩
    · rfl
    · have hn : m < (x.step q).n := by rcases step_lex x q with h2 | ⟨h2, _⟩ <;> omega
      rw [stay2 g _ r L m hd (insert_J (step_J hJ q) q) hn]
      show ((x.L.take (x.step q).i) ++ (x.step q).n :: (x.L.drop (x.step q).i)).filter _ = _
      rw [List.filter_append, List.filter_cons_of_neg (by simpa using hn), ← List.filter_append, List.take_append_drop]
termination_by f => f

theorem stay : ∀ (f : Nat) (x : Pm.St) (l : List UInt8) (L : List Nat), Pm.dec f x l = some L → StJ x → (L.filter (fun h => decide (h ≤ x.n))).take x.i = x.L.take x.i
  | f, x, l, L, h, hJ => by
    have hall : x.L.filter (fun h => decide (h ≤ x.n)) = x.L := List.filter_eq_self.2 fun z hz => by simpa using hJ.le z hz
    rcases dec_some h with ⟨_, rfl⟩ | ⟨g, q, r, rfl, _, _, hd⟩
    · rw [hall]
    · have hJ1 := step_J hJ q
      have hJ2 := insert_J hJ1 q
      rcases step_lex x q with h2 | ⟨h2, h3⟩
      · rw [stay2 g _ r L x.n hd hJ2 h2]
        show (((x.L.take (x.step q).i) ++ (x.step q).n :: (x.L.drop (x.step q).i)).filter _).take _ = _
        rw [List.filter_append, List.filter_cons_of_neg (by simpa using h2), ← List.filter_append, List.take_append_drop, hall]
      · have ih := stay g _ r L hd hJ2
        have e : (((x.step q).insert q).L).take ((x.step q).i + 1) = x.L.take (x.step q).i ++ [(x.step q).n] := by
          show (x.L.take (x.step q).i ++ (x.step q).n :: x.L.drop (x.step q).i).take ((x.step q).i + 1) = _
          have hi2 : (x.step q).i ≤ x.L.length := Pm.step_i q
          rw [List.take_append, List.length_take, Nat.min_eq_left hi2, List.take_of_length_le (by rw [List.length_take]; omega), show (x.step q).i + 1 - (x.step q).i = 1 by omega]
          rfl
        have ih2 : (L.filter (fun h => decide (h ≤ x.n))).take ((x.step q).i + 1) = x.L.take (x.step q).i ++ [(x.step q).n] := by
          rw [← e, h2]; exact ih
        have ih3 := congrArg (List.take x.i) ih2
        rw [List.take_take, Nat.min_eq_left (by omega)] at ih3
        rw [ih3, List.take_append_of_le_length (by rw [List.length_take]; have := Pm.step_i (x := x) q; have h4 : (x.step q).L.length = x.L.length := rfl; omega), List.take_take, Nat.min_eq_left h3]
termination_by f => f

theorem dec_grow : ∀ (f : Nat) (x : Pm.St) (l : List UInt8) (L : List Nat), Pm.dec f x l = some L → x.L.length ≤ L.length ∧ (l ≠ [] → x.L.length + 1 ≤ L.length)
  | f, x, l, L, h => by
    rcases dec_some h with ⟨h1, rfl⟩ | ⟨g, q, r, rfl, _, _, hd⟩
    · exact ⟨Nat.le_refl _, fun h2 => absurd h1 h2⟩
    · have := (dec_grow g _ r L hd).1
      rw [Pm.insert_len (x.step q) q (Pm.step_i q)] at this
      have e : (x.step q).L.length = x.L.length := rfl
      exact ⟨by omega, fun _ => by omega⟩
termination_by f => f

theorem step_lt (x : Pm.St) {q q' : Nat} (h : q < q') : (x.step q).n < (x.step q').n ∨ (x.step q).n = (x.step q').n ∧ (x.step q).i < (x.step q').i := by
  unfold Pm.St.step
  simp only
  have h1 : (x.i + q) / (x.L.length + 1) ≤ (x.i + q') / (x.L.length + 1) := Nat.div_le_div_right (by omega)
  by_cases e : (x.i + q) / (x.L.length + 1) = (x.i + q') / (x.L.length + 1)
  · right
    have h2 := Nat.div_add_mod (x.i + q) (x.L.length + 1)
    have h3 := Nat.div_add_mod (x.i + q') (x.L.length + 1)
    rw [e] at h2
    exact ⟨by rw [e], by omega⟩
  · left; omega

theorem insert_take (x : Pm.St) (q : Nat) (hi : x.i ≤ x.L.length) : (x.insert q).L.take (x.i + 1) = x.L.take x.i ++ [x.n] := by
  show (x.L.take x.i ++ x.n :: x.L.drop x.i).take (x.i + 1) = _
  rw [List.take_append, List.length_take, Nat.min_eq_left hi, List.take_of_length_le (by rw [List.length_take]; omega), show x.i + 1 - x.i = 1 by omega]
  rfl

theorem no_lt {x : Pm.St} (hJ : StJ x) {q q' g g' : Nat} (hq : q < q') {r r' : List UInt8} {L : List Nat} (h1 : Pm.dec g ((x.step q).insert q) r = some L) (h2 : Pm.dec g' ((x.step q').insert q') r' = some L) : False := by
  have hJ1 := step_J hJ q
  have hJ2 := step_J hJ q'
  have hi1 : (x.step q).i ≤ x.L.length := Pm.step_i q
  have hi2 : (x.step q').i ≤ x.L.length := Pm.step_i q'
  have e1 : (L.filter (fun h => decide (h ≤ (x.step q).n))).take ((x.step q).i + 1) = x.L.take (x.step q).i ++ [(x.step q).n] :=
    (stay g _ r L h1 (insert_J hJ1 q)).trans (insert_take (x.step q) q hi1)
  have e2 : (L.filter (fun h => decide (h ≤ (x.step q).n))).take ((x.step q).i + 1) = x.L.take ((x.step q).i + 1) := by
    rcases step_lt x hq with h3 | ⟨h3, h4⟩
    · rw [stay2 g' _ r' L (x.step q).n h2 (insert_J hJ2 q') h3]
      show (((x.L.take (x.step q').i) ++ (x.step q').n :: (x.L.drop (x.step q').i)).filter _).take _ = _
      rw [List.filter_append, List.filter_cons_of_neg (by simpa using h3), ← List.filter_append, List.take_append_drop, List.filter_eq_self.2 fun z hz => by simpa using hJ1.le z hz]
    · have ih : (L.filter (fun h => decide (h ≤ (x.step q').n))).take ((x.step q').i + 1) = x.L.take (x.step q').i ++ [(x.step q').n] :=
        (stay g' _ r' L h2 (insert_J hJ2 q')).trans (insert_take (x.step q') q' hi2)
      have ih3 := congrArg (List.take ((x.step q).i + 1)) ih
      rw [List.take_take, Nat.min_eq_left (by omega)] at ih3
      rw [h3, ih3, List.take_append_of_le_length (by rw [List.length_take]; omega), List.take_take, Nat.min_eq_left (by omega)]
  rw [e1] at e2
  by_cases hlt : (x.step q).i < x.L.length
  · rw [List.take_succ_eq_append_getElem hlt] at e2
    have e3 := (List.append_inj' e2 rfl).2
    have e4 : (x.step q).n = x.L[(x.step q).i] := by simpa using e3
    have hm : x.L[(x.step q).i] ∈ x.L.drop (x.step q).i := by rw [List.drop_eq_getElem_cons hlt]; exact List.mem_cons_self
    have := hJ1.lt _ hm
    omega
  · have e5 := congrArg List.length e2
    rw [List.length_append, List.length_take, List.length_take] at e5
    simp at e5
    omega

/-- Two forms that are decoded alike are alike. -/
theorem dec_inj : ∀ (f f' : Nat) (x : Pm.St) (l l' : List UInt8) (L : List Nat), Pm.dec f x l = some L → Pm.dec f' x l' = some L → StJ x → l = l'
  | f, f', x, l, l', L, h, h', hJ => by
    rcases dec_some h with ⟨rfl, e⟩ | ⟨g, q, r, rfl, hl, hr, hd⟩
    · by_cases hl' : l' = []
      · rw [hl']
      · have := (dec_grow f' x l' L h').2 hl'
        rw [e] at this
        omega
    · rcases dec_some h' with ⟨rfl, e⟩ | ⟨g', q', r', rfl, hl', hr', hd'⟩
      · have := (dec_grow (g + 1) x l L h).2 hl
        rw [e] at this
        omega
      · rcases Nat.lt_trichotomy q q' with hq | rfl | hq
        · exact (no_lt hJ hq hd hd').elim
        · have ih := dec_inj g g' _ r r' L hd hd' (insert_J (step_J hJ q) q)
          obtain ⟨p, hp, hw⟩ := wnum_rd _ _ _ _ _ _ _ hr
          obtain ⟨p', hp', hw'⟩ := wnum_rd _ _ _ _ _ _ _ hr'
          have e1 : p = q := by omega
          have e2 : p' = q := by omega
          subst e1
          rw [hw (p + 1) (by omega), hw' (p + 1) (by omega), e2, ih]
        · exact (no_lt hJ hq hd' hd).elim
termination_by f => f
end Go.Proofs.YtkaaldhejpaiiaaGreatDoor

/- Whatever is decoded has this very form. -/
namespace Go.Proofs.YtkaaldhejpaiiaaGreatDoor
open Go.RowKit

theorem dec_step {f : Nat} {x : Pm.St} {l : List UInt8} {L : List Nat} (h : Pm.dec f x l = some L) : (l = [] ∧ L = x.L) ∨ ∃ g q r, f = g + 1 ∧ r.length < l.length ∧ Pm.sign (x.step q).n = true ∧ Pm.dec g ((x.step q).insert q) r = some L := by
  cases f with
  | zero => simp [Pm.dec] at h
  | succ g =>
    unfold Pm.dec at h
    by_cases hl : l = []
    · rw [if_pos hl] at h; left; exact ⟨hl, (Option.some.inj h).symm⟩
    · rw [if_neg hl] at h
      right
      split at h
      · simp at h
      · rename_i q r hr
        split at h
        · rename_i hs; exact ⟨g, q, r, rfl, Pm.rd_len _ _ _ _ _ _ _ hr, hs, h⟩
        · simp at h
theorem dec_signs : ∀ (f : Nat) (x : Pm.St) (l : List UInt8) (L : List Nat), Pm.dec f x l = some L → (∀ n ∈ x.L, Pm.sign n = true) → (∀ n ∈ L, Pm.sign n = true) ∧ L.length ≤ x.L.length + l.length
  | f, x, l, L, h, hs => by
    rcases dec_step h with ⟨rfl, rfl⟩ | ⟨g, q, r, rfl, hr, hq, hd⟩
    · exact ⟨hs, by omega⟩
    · have ih := dec_signs g _ r L hd (by
        intro m hm
        simp only [Pm.St.insert, List.mem_append, List.mem_cons] at hm
        rcases hm with hm | rfl | hm
        · exact hs m (List.mem_of_mem_take hm)
        · exact hq
        · exact hs m (List.mem_of_mem_drop hm))
      rw [Pm.insert_len (x.step q) q (Pm.step_i q)] at ih
      have e : (x.step q).L.length = x.L.length := rfl
      exact ⟨ih.1, by omega⟩
termination_by f => f
theorem lastP_hyphen (s : ByteArray) : ∀ k p, lastP s k = p + 1 → (s.get! p).toNat = 45 ∧ p < k
  | 0, p, h => by simp [lastP] at h
  | k + 1, p, h => by
    unfold lastP at h
    split at h
    · rename_i hk
      have e : k = p := by omega
      subst e
      exact ⟨hk, by omega⟩
    · have := lastP_hyphen s k p h
      exact ⟨this.1, by omega⟩
theorem asc_F0 {l : List UInt8} (h : ascB l = true) : ∀ n ∈ l.map (·.toNat), n < 128 := by
  intro n hn
  obtain ⟨c, hc, rfl⟩ := List.mem_map.1 hn
  have := List.all_eq_true.1 h c hc
  simpa using this
theorem ofNat_back (l : List UInt8) : (l.map (·.toNat)).map UInt8.ofNat = l := by
  rw [List.map_map]
  conv => rhs; rw [← List.map_id l]
  apply List.map_congr_left
  intro c _
  simp

theorem decoded {s : ByteArray} {L : List Nat} (h : decodeS s = some L) : s.size ≤ 1000 ∧ (∀ n ∈ L, Pm.sign n = true) ∧ L.length ≤ 1000 ∧ ∀ ys, Ys L ys → encS L ys = s.data.toList := by
  unfold decodeS at h
  split at h
  · simp at h
  · rename_i hc
    have hz : s.size ≤ 1000 := by omega
    have ha : ascB s.data.toList = true := by
      cases e : ascB s.data.toList with
      | true => rfl
      | false => exact absurd (Or.inr (Or.inl e)) hc
    have hp1 : lastP s s.size ≠ 1 := fun e => hc (Or.inr (Or.inr e))
    have hple := lastP_le s s.size
    have hyp := lastP_hyphen s s.size
    obtain ⟨p, hp⟩ : ∃ p, lastP s s.size = p := ⟨_, rfl⟩
    rw [hp] at h hp1 hple hyp
    have hsz : s.data.toList.length = s.size := by rw [Array.length_toList]; rfl
    have hta := ascB_take ha (p - 1)
    have hF0 := asc_F0 hta
    obtain ⟨F0, hF⟩ : ∃ F0, (s.data.toList.take (p - 1)).map (·.toNat) = F0 := ⟨_, rfl⟩
    have hFl : F0.length = p - 1 := by rw [← hF, List.length_map, List.length_take]; omega
    have hFb : F0.map UInt8.ofNat = s.data.toList.take (p - 1) := by rw [← hF, ofNat_back]
    rw [hF] at h hF0
    have hsg := dec_signs _ _ _ _ h (fun n hn => sign_t (by have := hF0 n hn; omega) (by have := hF0 n hn; omega))
    have hJ : StJ (Pm.St.first F0) := ⟨Nat.zero_le _, fun z hz => by have := hF0 z hz; show z ≤ 128; omega, fun z hz => hF0 z hz⟩
    have hlen : L.length ≤ 1000 := by
      have h1 := hsg.2
      have h2 : (Pm.St.first F0).L.length = F0.length := rfl
      rw [List.length_drop] at h1
      omega
    refine ⟨hz, hsg.1, hlen, fun ys hys => ?_⟩
    have hfil : L.filter (fun z => decide (z < 128)) = F0 := by
      have e1 := stay2 _ _ _ _ 127 h hJ (by show 127 < 128; omega)
      have e2 : (fun z : Nat => decide (z ≤ 127)) = (fun z : Nat => decide (z < 128)) := by funext z; congr 1; apply propext; omega
      rw [e2] at e1
      rw [e1]
      exact List.filter_eq_self.2 fun z hz => by simpa using hF0 z hz
    obtain ⟨_, bytes, m, k1, k2, k3, k4⟩ := enc_parts hys hsg.1 hlen
    rw [hfil] at k4
    have hb : bytes = s.data.toList.drop p := dec_inj _ _ _ _ _ L (by rw [k4 1, dec_nil]; rfl) h hJ
    have hasc : ascF L = s.data.toList.take (p - 1) := by unfold ascF; rw [hfil, hFb]
    rw [k1, hb]
    unfold firstEs
    simp only
    rw [hasc]
    cases p with
    | zero => simp
    | succ p =>
      obtain ⟨h45, hpk⟩ := hyp p rfl
      have hpl : p < s.data.toList.length := by omega
      rw [get!_list s p hpl] at h45
      have e45 : s.data.toList[p] = (45 : UInt8) := UInt8.toNat_inj.1 (by rw [h45]; rfl)
      rw [Nat.add_sub_cancel, if_neg (by intro e; have := congrArg List.length e; rw [List.length_take, List.length_nil] at this; omega), ← e45, ← List.take_succ_eq_append_getElem hpl, List.take_append_drop]
end Go.Proofs.YtkaaldhejpaiiaaGreatDoor

