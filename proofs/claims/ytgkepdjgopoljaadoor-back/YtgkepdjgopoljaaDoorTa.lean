/- Numbers, written and read: the two are inverse. -/
import Derived.Test.YtgkepdjgopoljaaDoorQc
namespace Go.Proofs.YtgkepdjgopoljaaDoor
open Go.RowKit

theorem dig_dchar {d : Nat} (h : d ≤ 35) : Pm.dig (dchar d).toNat = some d := by
  unfold dchar Pm.dig
  by_cases h26 : d < 26
  · rw [if_pos h26]
    have e : (UInt8.ofNat (97 + d)).toNat = 97 + d := by simp; omega
    rw [e, if_pos (by omega)]
    congr 1
    omega
  · rw [if_neg h26]
    have e : (UInt8.ofNat (48 + (d - 26))).toNat = 48 + (d - 26) := by simp; omega
    rw [e, if_neg (by omega), if_pos (by omega)]
    congr 1
    omega
theorem dchar_dig {c : UInt8} {d : Nat} (h : Pm.dig c.toNat = some d) : dchar d = c := by
  have hc := c.toNat_lt
  unfold Pm.dig at h
  split at h
  · simp at h
    unfold dchar
    rw [if_pos (by omega), show 97 + d = c.toNat by omega]
    simp
  · split at h
    · simp at h
      unfold dchar
      rw [if_neg (by omega), show 48 + (d - 26) = c.toNat by omega]
      simp
    · simp at h

/-- What is written is read. -/
theorem rd_wnum (bias : Nat) : ∀ (f k q s u : Nat) (r : List UInt8), q < f → Pm.rd bias k s u (wnum bias f k q ++ r) = some (s + q * u, r)
  | 0, _, _, _, _, _, h => by omega
  | f + 1, k, q, s, u, r, h => by
    have hb1 := Pm.bnd_pos k bias
    have hb2 := Pm.bnd_le k bias
    unfold wnum
    by_cases hq : q < Pm.bnd k bias
    · rw [if_pos hq]
      simp only [List.singleton_append, Pm.rd]
      rw [dig_dchar (by omega)]
      simp [hq]
    · rw [if_neg hq]
      obtain ⟨b, hb⟩ : ∃ b, Pm.bnd k bias = b := ⟨_, rfl⟩
      rw [hb] at hb1 hb2 hq ⊢
      have hm := Nat.mod_lt (q - b) (show 0 < 36 - b by omega)
      have hd := Nat.div_add_mod (q - b) (36 - b)
      have hle : (q - b) / (36 - b) ≤ q - b := Nat.div_le_self _ _
      simp only [List.cons_append]
      unfold Pm.rd
      rw [dig_dchar (by omega)]
      simp only
      rw [hb, if_neg (by omega), rd_wnum bias f (k + 1) _ _ _ r (by omega)]
      congr 2
      have e : q = (b + (q - b) % (36 - b)) + (q - b) / (36 - b) * (36 - b) := by rw [Nat.mul_comm] at hd; omega
      generalize (q - b) / (36 - b) = Q at e ⊢
      generalize (q - b) % (36 - b) = R at e ⊢
      rw [e, Nat.add_mul (b + R) (Q * (36 - b)) u, Nat.mul_assoc Q, Nat.mul_comm (36 - b) u, Nat.add_assoc s]

/-- What is read is what is written. -/
theorem wnum_rd (bias : Nat) : ∀ (l : List UInt8) (k s u q : Nat) (r : List UInt8), Pm.rd bias k s u l = some (q, r) → ∃ p, q = s + p * u ∧ ∀ f, p < f → l = wnum bias f k p ++ r
  | [], _, _, _, _, _, h => by simp [Pm.rd] at h
  | c :: l, k, s, u, q, r, h => by
    have hb1 := Pm.bnd_pos k bias
    have hb2 := Pm.bnd_le k bias
    obtain ⟨b, hb⟩ : ∃ b, Pm.bnd k bias = b := ⟨_, rfl⟩
    unfold Pm.rd at h
    split at h
    · simp at h
    · rename_i d hd
      have hd35 := Pm.dig_le hd
      have hc := dchar_dig hd
      rw [hb] at h hb1 hb2
      split at h
      · rename_i hlt
        simp at h
        refine ⟨d, h.1.symm, fun f hf => ?_⟩
        cases f with
        | zero => omega
        | succ f =>
          unfold wnum
          rw [hb, if_pos hlt, hc, ← h.2]
          rfl
      · rename_i hge
        obtain ⟨p', hp, hw⟩ := wnum_rd bias l (k + 1) (s + d * u) (u * (36 - b)) q r h
        have e1 : (d - b + p' * (36 - b)) % (36 - b) = d - b := by rw [Nat.add_mul_mod_self_right]; exact Nat.mod_eq_of_lt (by omega)
        have e2 : (d - b + p' * (36 - b)) / (36 - b) = p' := by rw [Nat.add_mul_div_right _ _ (by omega), Nat.div_eq_of_lt (by omega), Nat.zero_add]
        have hpm : p' ≤ p' * (36 - b) := Nat.le_mul_of_pos_right _ (by omega)
        refine ⟨d + p' * (36 - b), ?_, fun f hf => ?_⟩
        · rw [hp, Nat.add_mul, Nat.add_assoc, Nat.mul_assoc p', Nat.mul_comm (36 - b) u]
        · cases f with
          | zero => omega
          | succ f =>
            unfold wnum
            rw [hb, if_neg (by omega), show d + p' * (36 - b) - b = d - b + p' * (36 - b) by omega, e1, e2, show b + (d - b) = d by omega, hc, List.cons_append, ← hw f (by omega)]
end Go.Proofs.YtgkepdjgopoljaaDoor
