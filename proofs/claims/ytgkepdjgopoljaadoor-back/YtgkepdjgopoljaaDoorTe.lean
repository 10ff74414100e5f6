/- Forms go back: decode behind encode. -/
import Derived.Test.YtgkepdjgopoljaaDoorTd
namespace Go.Proofs.YtgkepdjgopoljaaDoor
open Go.RowKit

theorem lastP_at (s : ByteArray) (p : Nat) (h0 : p = 0 ∨ (s.get! (p - 1)).toNat = 45) : ∀ k, p ≤ k → (∀ j, p ≤ j → j < k → (s.get! j).toNat ≠ 45) → lastP s k = p
  | 0, hp, _ => by have : p = 0 := by omega
                   rw [this]; rfl
  | k + 1, hp, h => by
    unfold lastP
    by_cases e : p = k + 1
    · subst e
      rcases h0 with h0 | h0
      · omega
      · rw [Nat.add_sub_cancel] at h0; rw [if_pos h0]
    · rw [if_neg (h k (by omega) (by omega))]
      exact lastP_at s p h0 k (by omega) fun j h1 h2 => h j h1 (by omega)
theorem get!_list (s : ByteArray) (j : Nat) (h : j < s.data.toList.length) : s.get! j = s.data.toList[j] := by
  have hj : j < s.size := by rw [Array.length_toList] at h; exact h
  rw [get!_at s j hj, ByteArray.getElem_eq_getElem_data]
  simp
theorem isD_asc {b : UInt8} (h : isD b) : b.toNat < 128 ∧ b.toNat ≠ 45 := by
  obtain ⟨d, h⟩ := h
  unfold Pm.dig at h
  split at h
  · omega
  · split at h
    · omega
    · simp at h
theorem ascF_asc2 (L : List Nat) : ∀ b ∈ ascF L, b.toNat < 128 := by
  intro b hb
  unfold ascF at hb
  obtain ⟨m, hm, rfl⟩ := List.mem_map.1 hb
  have := (List.mem_filter.1 hm).2
  simp at this ⊢
  omega
theorem ascF_back (L : List Nat) : (ascF L).map (·.toNat) = L.filter (fun h => decide (h < 128)) := by
  unfold ascF
  rw [List.map_map]
  conv => rhs; rw [← List.map_id (L.filter (fun h => decide (h < 128)))]
  apply List.map_congr_left
  intro m hm
  have := (List.mem_filter.1 hm).2
  simp at this ⊢
  omega
theorem ascF_len_eq (L : List Nat) : (ascF L).length = (L.filter (fun h => decide (h < 128))).length := by rw [← ascF_back, List.length_map]

structure Ys (L ys : List Nat) : Prop where
  up : ys.Pairwise (· < ·)
  all : ∀ y, y ∈ ys ↔ y ∈ L ∧ 128 ≤ y

theorem ys_come {L ys : List Nat} (h : Ys L ys) (hs : ∀ n ∈ L, Pm.sign n = true) : Come L ys :=
  ⟨h.up, fun y hy => hs y ((h.all y).1 hy).1, fun z hz hn y hy => by
    have h1 := ((h.all y).1 hy).2
    have h2 : ¬ 128 ≤ z := fun h3 => hn ((h.all z).2 ⟨hz, h3⟩)
    omega⟩
theorem ys_filter {L ys : List Nat} (h : Ys L ys) : L.filter (fun z => decide (z ∉ ys)) = L.filter (fun z => decide (z < 128)) := by
  apply List.filter_congr
  intro z hz
  congr 1
  apply propext
  rw [h.all z]
  constructor
  · intro h1; exact Nat.lt_of_not_le fun h2 => h1 ⟨hz, h2⟩
  · intro h1 h2; omega

theorem enc_parts {L ys : List Nat} (h : Ys L ys) (hs : ∀ n ∈ L, Pm.sign n = true) (hL : L.length ≤ 1000) :
    eachAllOk L ys (firstEs L) ∧ ∃ bytes m, encS L ys = (firstEs L).form ++ bytes ∧ m ≤ bytes.length ∧ (∀ b ∈ bytes, isD b) ∧ ∀ f, Pm.dec (f + m) (Pm.St.first (L.filter (fun z => decide (z < 128)))) bytes = Pm.dec f (stOf (eachAll L ys (firstEs L)) L) [] := by
  have hf := ys_filter h
  have hlen := ascF_len_eq L
  have hal := ascF_len L
  have hform : (firstEs L).form.length ≤ 1001 := by unfold firstEs; simp only; split <;> simp; omega
  obtain ⟨k1, _, bytes, m, k2, k3, k4, k5⟩ := eachAll_dec hL ys (firstEs L) (ys_come h hs) ⟨Nat.le_refl _, by simp [firstEs], by omega⟩ (fun y hy => ⟨((h.all y).1 hy).2, fun _ => rfl⟩) (Nat.zero_le _) (by rw [hf]; exact hlen)
  refine ⟨k1, bytes, m, k2, k3, k4, fun f => ?_⟩
  have := k5 f []
  rw [List.append_nil, hf] at this
  exact this

/-- Forms go back. -/
theorem decodeS_enc {L ys : List Nat} (h : Ys L ys) (hs : ∀ n ∈ L, Pm.sign n = true) (hL : L.length ≤ 1000) (s : ByteArray) (he : s.data.toList = encS L ys) (hz : s.size ≤ 1000) : decodeS s = some L := by
  obtain ⟨_, bytes, m, k1, k2, k3, k4⟩ := enc_parts h hs hL
  rw [k1] at he
  have hsz : s.size = s.data.toList.length := by rw [Array.length_toList]; rfl
  obtain ⟨F, hF⟩ : ∃ F, (firstEs L).form = F := ⟨_, rfl⟩
  rw [hF] at he
  have hFa : ∀ b ∈ F, b.toNat < 128 := by
    rw [← hF]
    unfold firstEs
    simp only
    intro b hb
    split at hb
    · simp at hb
    · rcases List.mem_append.1 hb with hb | hb
      · exact ascF_asc2 L b hb
      · simp at hb; subst hb; decide
  have ha : ascB s.data.toList = true := by
    rw [he]
    apply List.all_eq_true.2
    intro b hb
    rcases List.mem_append.1 hb with hb | hb
    · simpa using hFa b hb
    · simpa using (isD_asc (k3 b hb)).1
  have hF2 : F.length = 0 ∧ ascF L = [] ∨ F = ascF L ++ [45] ∧ ascF L ≠ [] := by
    rw [← hF]
    unfold firstEs
    simp only
    split
    · left; exact ⟨rfl, by assumption⟩
    · right; exact ⟨rfl, by assumption⟩
  have hlist : s.data.toList.length = F.length + bytes.length := by rw [he, List.length_append]
  have hp : lastP s s.size = F.length := by
    refine lastP_at s F.length ?_ s.size (by omega) ?_
    · rcases hF2 with ⟨h1, _⟩ | ⟨h1, _⟩
      · exact Or.inl h1
      · right
        have hl : F.length = (ascF L).length + 1 := by rw [h1]; simp
        rw [get!_list s _ (by omega)]
        have e : s.data.toList[F.length - 1]'(by omega) = (45 : UInt8) := by
          simp only [he]
          rw [List.getElem_append_left (by omega)]
          simp [h1]
        rw [e]
        rfl
    · intro j h1 h2
      rw [get!_list s j (by omega)]
      have e : s.data.toList[j]'(by omega) ∈ bytes := by
        simp only [he]
        rw [List.getElem_append_right h1]
        exact List.getElem_mem _
      exact (isD_asc (k3 _ e)).2
  have hp1 : F.length ≠ 1 := by
    rcases hF2 with ⟨h1, _⟩ | ⟨h1, h2⟩
    · omega
    · have : 1 ≤ (ascF L).length := List.length_pos_iff.2 h2
      rw [h1]; simp; omega
  have htake : (s.data.toList.take (F.length - 1)).map (·.toNat) = L.filter (fun z => decide (z < 128)) := by
    rw [← ascF_back, he]
    congr 1
    rcases hF2 with ⟨h1, h2⟩ | ⟨h1, _⟩
    · rw [h1, h2]; rfl
    · rw [h1, List.length_append]; simp
  have hdrop : s.data.toList.drop F.length = bytes := by rw [he, List.drop_left]
  rw [decodeS, if_neg (by rw [ha, hp]; simp; omega), hp, htake, hdrop, show s.size - F.length + 1 = (bytes.length - m + 1) + m by omega, k4, dec_nil]
  rfl
end Go.Proofs.YtgkepdjgopoljaaDoor
