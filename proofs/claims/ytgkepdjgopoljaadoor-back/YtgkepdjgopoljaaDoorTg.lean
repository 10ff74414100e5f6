/- Whatever is decoded has this very form. -/
import Derived.Test.YtgkepdjgopoljaaDoorTf
namespace Go.Proofs.YtgkepdjgopoljaaDoor
open Go.RowKit

theorem dec_step {f : Nat} {x : Pm.St} {l : List UInt8} {L : List Nat} (h : Pm.dec f x l = some L) : (l = [] ∧ L = x.L) ∨ ∃ g q r, f = g + 1 ∧ r.length < l.length ∧ Pm.sign (x.step q).n = true ∧ Pm.dec g ((x.step q).insert q) r = some L := by
  cases f with
  | zero => simp [Pm.dec] at h
  | succ g =>
    unfold Pm.dec at h
    by_cases hl : l = []
    · rw [if_pos hl] at h; left; exact ⟨hl, (Option.some.inj h).symm⟩
    · rw [if_neg hl] at h
      right
      split at h
      · simp at h
      · rename_i q r hr
        split at h
        · rename_i hs; exact ⟨g, q, r, rfl, Pm.rd_len _ _ _ _ _ _ _ hr, hs, h⟩
        · simp at h
theorem dec_signs : ∀ (f : Nat) (x : Pm.St) (l : List UInt8) (L : List Nat), Pm.dec f x l = some L → (∀ n ∈ x.L, Pm.sign n = true) → (∀ n ∈ L, Pm.sign n = true) ∧ L.length ≤ x.L.length + l.length
  | f, x, l, L, h, hs => by
    rcases dec_step h with ⟨rfl, rfl⟩ | ⟨g, q, r, rfl, hr, hq, hd⟩
    · exact ⟨hs, by omega⟩
    · have ih := dec_signs g _ r L hd (by
        intro m hm
        simp only [Pm.St.insert, List.mem_append, List.mem_cons] at hm
        rcases hm with hm | rfl | hm
        · exact hs m (List.mem_of_mem_take hm)
        · exact hq
        · exact hs m (List.mem_of_mem_drop hm))
      rw [Pm.insert_len (x.step q) q (Pm.step_i q)] at ih
      have e : (x.step q).L.length = x.L.length := rfl
      exact ⟨ih.1, by omega⟩
termination_by f => f
theorem lastP_hyphen (s : ByteArray) : ∀ k p, lastP s k = p + 1 → (s.get! p).toNat = 45 ∧ p < k
  | 0, p, h => by simp [lastP] at h
  | k + 1, p, h => by
    unfold lastP at h
    split at h
    · rename_i hk
      have e : k = p := by omega
      subst e
      exact ⟨hk, by omega⟩
    · have := lastP_hyphen s k p h
      exact ⟨this.1, by omega⟩
theorem asc_F0 {l : List UInt8} (h : ascB l = true) : ∀ n ∈ l.map (·.toNat), n < 128 := by
  intro n hn
  obtain ⟨c, hc, rfl⟩ := List.mem_map.1 hn
  have := List.all_eq_true.1 h c hc
  simpa using this
theorem ofNat_back (l : List UInt8) : (l.map (·.toNat)).map UInt8.ofNat = l := by
  rw [List.map_map]
  conv => rhs; rw [← List.map_id l]
  apply List.map_congr_left
  intro c _
  simp

theorem decoded {s : ByteArray} {L : List Nat} (h : decodeS s = some L) : s.size ≤ 1000 ∧ (∀ n ∈ L, Pm.sign n = true) ∧ L.length ≤ 1000 ∧ ∀ ys, Ys L ys → encS L ys = s.data.toList := by
  unfold decodeS at h
  split at h
  · simp at h
  · rename_i hc
    have hz : s.size ≤ 1000 := by omega
    have ha : ascB s.data.toList = true := by
      cases e : ascB s.data.toList with
      | true => rfl
      | false => exact absurd (Or.inr (Or.inl e)) hc
    have hp1 : lastP s s.size ≠ 1 := fun e => hc (Or.inr (Or.inr e))
    have hple := lastP_le s s.size
    have hyp := lastP_hyphen s s.size
    obtain ⟨p, hp⟩ : ∃ p, lastP s s.size = p := ⟨_, rfl⟩
    rw [hp] at h hp1 hple hyp
    have hsz : s.data.toList.length = s.size := by rw [Array.length_toList]; rfl
    have hta := ascB_take ha (p - 1)
    have hF0 := asc_F0 hta
    obtain ⟨F0, hF⟩ : ∃ F0, (s.data.toList.take (p - 1)).map (·.toNat) = F0 := ⟨_, rfl⟩
    have hFl : F0.length = p - 1 := by rw [← hF, List.length_map, List.length_take]; omega
    have hFb : F0.map UInt8.ofNat = s.data.toList.take (p - 1) := by rw [← hF, ofNat_back]
    rw [hF] at h hF0
    have hsg := dec_signs _ _ _ _ h (fun n hn => sign_t (by have := hF0 n hn; omega) (by have := hF0 n hn; omega))
    have hJ : StJ (Pm.St.first F0) := ⟨Nat.zero_le _, fun z hz => by have := hF0 z hz; show z ≤ 128; omega, fun z hz => hF0 z hz⟩
    have hlen : L.length ≤ 1000 := by
      have h1 := hsg.2
      have h2 : (Pm.St.first F0).L.length = F0.length := rfl
      rw [List.length_drop] at h1
      omega
    refine ⟨hz, hsg.1, hlen, fun ys hys => ?_⟩
    have hfil : L.filter (fun z => decide (z < 128)) = F0 := by
      have e1 := stay2 _ _ _ _ 127 h hJ (by show 127 < 128; omega)
      have e2 : (fun z : Nat => decide (z ≤ 127)) = (fun z : Nat => decide (z < 128)) := by funext z; congr 1; apply propext; omega
      rw [e2] at e1
      rw [e1]
      exact List.filter_eq_self.2 fun z hz => by simpa using hF0 z hz
    obtain ⟨_, bytes, m, k1, k2, k3, k4⟩ := enc_parts hys hsg.1 hlen
    rw [hfil] at k4
    have hb : bytes = s.data.toList.drop p := dec_inj _ _ _ _ _ L (by rw [k4 1, dec_nil]; rfl) h hJ
    have hasc : ascF L = s.data.toList.take (p - 1) := by unfold ascF; rw [hfil, hFb]
    rw [k1, hb]
    unfold firstEs
    simp only
    rw [hasc]
    cases p with
    | zero => simp
    | succ p =>
      obtain ⟨h45, hpk⟩ := hyp p rfl
      have hpl : p < s.data.toList.length := by omega
      rw [get!_list s p hpl] at h45
      have e45 : s.data.toList[p] = (45 : UInt8) := UInt8.toNat_inj.1 (by rw [h45]; rfl)
      rw [Nat.add_sub_cancel, if_neg (by intro e; have := congrArg List.length e; rw [List.length_take, List.length_nil] at this; omega), ← e45, ← List.take_succ_eq_append_getElem hpl, List.take_append_drop]
end Go.Proofs.YtgkepdjgopoljaaDoor
