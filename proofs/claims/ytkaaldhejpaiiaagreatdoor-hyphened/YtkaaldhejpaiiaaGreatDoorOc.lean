/- Short labels of common signs: what Label answers. No walk in this text. -/
import Derived.Test.YtkaaldhejpaiiaaGreatDoorOa
namespace Go.Proofs.YtkaaldhejpaiiaaGreatDoor
open Go.RowKit

theorem wnum_dgs (bias : Nat) : ∀ (d f k q : Nat), q < 36 * 10 ^ d → (wnum bias f k q).length ≤ 2 + d
  | _, 0, _, _, _ => by simp [wnum]
  | 0, f + 1, k, q, h => by
    have hb1 := Pm.bnd_pos k bias
    have hb2 := Pm.bnd_le k bias
    unfold wnum
    split
    · simp
    · rename_i hq
      have e : (q - Pm.bnd k bias) / (36 - Pm.bnd k bias) = 0 := Nat.div_eq_of_lt (by simp at h; omega)
      rw [e]
      cases f with
      | zero => simp [wnum]
      | succ f =>
        unfold wnum
        rw [if_pos (show 0 < Pm.bnd (k + 1) bias from Pm.bnd_pos _ _)]
        simp
  | d + 1, f + 1, k, q, h => by
    have hb1 := Pm.bnd_pos k bias
    have hb2 := Pm.bnd_le k bias
    unfold wnum
    split
    · simp; omega
    · rename_i hq
      have h1 : (q - Pm.bnd k bias) / (36 - Pm.bnd k bias) ≤ (q - Pm.bnd k bias) / 10 := Nat.div_le_div_left (by omega) (by omega)
      have h2 : q < 36 * 10 ^ d * 10 := by rw [Nat.mul_assoc, ← Nat.pow_succ]; exact h
      have := wnum_dgs bias d f (k + 1) ((q - Pm.bnd k bias) / (36 - Pm.bnd k bias)) (by omega)
      simp only [List.length_cons]
      omega
theorem each_dig {L : List Nat} {y : Nat} (hs : Pm.sign y = true) (hL : L.length ≤ 35) : ∀ (r : List Nat) (p d : Nat) (x : Es), r = L.drop p → p ≤ L.length → EsRel L y p x → (y - x.n) * (L.length + 1) + L.length < 36 * 10 ^ d →
    (each y r (cnt L y p) x).form.length ≤ x.form.length + 2 * (r.filter (fun m => decide (m = y))).length + d
  | [], p, d, x, _, _, _, _ => by simp [each]
  | a :: r, p, d, x, hr, hp, h, hd => by
    have hlt : p < L.length := by have := congrArg List.length hr; rw [List.length_drop] at this; simp at this; omega
    rw [List.drop_eq_getElem_cons hlt] at hr
    obtain ⟨rfl, rfl⟩ := List.cons.inj hr
    unfold each
    rw [← cnt_snoc hlt]
    by_cases he : L[p] = y
    · rw [if_pos he, List.filter_cons_of_pos (by simpa using he)]
      obtain ⟨h2, _⟩ := put_dec h hlt he hs
      have hx : (x.put (x.steps y (cnt L y p))).n = y := by rw [put_eq h]
      have ih := each_dig hs hL (L.drop (p + 1)) (p + 1) 0 _ rfl hlt h2 (by rw [hx]; simp; omega)
      have hst := steps_eq h
      have hc := cnt_le_sub L y p
      have hl := sub_len_le L y p
      have hm : (y - x.n) * (x.len + 1) ≤ (y - x.n) * (L.length + 1) := Nat.mul_le_mul_left _ (by have := h.len; omega)
      have hw := wnum_dgs x.bias d (x.steps y (cnt L y p) + 1) 1 (x.steps y (cnt L y p)) (by omega)
      have hf : (x.put (x.steps y (cnt L y p))).form.length = x.form.length + (wnum x.bias (x.steps y (cnt L y p) + 1) 1 (x.steps y (cnt L y p))).length := by rw [put_eq h, List.length_append]
      rw [hf] at ih
      simp only [List.length_cons]
      omega
    · rw [if_neg he, List.filter_cons_of_neg (by simpa using he)]
      have h2 : EsRel L y (p + 1) x := ⟨h.n, fun e => by rw [cnt_snoc hlt]; have := h.at_n e; split <;> omega, h.i, by rw [sub_other hlt y he]; exact h.len⟩
      exact each_dig hs hL (L.drop (p + 1)) (p + 1) d x rfl hlt h2 hd
theorem filter_in (y : Nat) (r : List Nat) (hy : y ∉ r) : ∀ l : List Nat, (l.filter (fun m => decide (m ∈ y :: r))).length = (l.filter (fun m => decide (m = y))).length + (l.filter (fun m => decide (m ∈ r))).length
  | [] => rfl
  | a :: l => by
    have ih := filter_in y r hy l
    by_cases ha : a = y
    · subst ha
      rw [List.filter_cons_of_pos (by simp), List.filter_cons_of_pos (by simp), List.filter_cons_of_neg (by simpa using hy)]
      simp only [List.length_cons]; omega
    · by_cases hr : a ∈ r
      · rw [List.filter_cons_of_pos (by simp [hr]), List.filter_cons_of_neg (by simpa using ha), List.filter_cons_of_pos (by simpa using hr)]
        simp only [List.length_cons]; omega
      · rw [List.filter_cons_of_neg (by simp [ha, hr]), List.filter_cons_of_neg (by simpa using ha), List.filter_cons_of_neg (by simpa using hr)]
        exact ih
theorem eachAll_dig {L : List Nat} (hL : L.length ≤ 35) (d : Nat) : ∀ (ys : List Nat) (x : Es), Come L ys → EsOk x → (∀ y ∈ ys, x.n ≤ y ∧ (x.n = y → x.i = 0)) → x.i ≤ x.len → x.len = (L.filter (fun h => decide (h ∉ ys))).length →
    (∀ y ∈ ys, (y - x.n) * (L.length + 1) + L.length < 36 * 10 ^ d) →
    (eachAll L ys x).form.length ≤ x.form.length + 2 * (L.filter (fun m => decide (m ∈ ys))).length + d * ys.length
  | [], x, _, _, _, _, _, _ => by
    have : L.filter (fun m => decide (m ∈ ([] : List Nat))) = [] := by rw [List.filter_eq_nil_iff]; simp
    rw [this]; simp [eachAll]
  | y :: r, x, hc, ho, hn, hi, hl, hd => by
    obtain ⟨hup, hsg, hlow⟩ := hc
    obtain ⟨hyr, hr⟩ := List.pairwise_cons.1 hup
    have hs := hsg y (by simp)
    have hy : y ≤ 1114111 := by unfold Pm.sign at hs; simp at hs; omega
    have e1 : L.filter (fun h => decide (h ∉ y :: r)) = sub L y 0 := by
      rw [sub_zero]
      apply List.filter_congr
      intro h hh
      congr 1
      apply propext
      constructor
      · intro hm; exact hlow h hh hm y (by simp)
      · intro hlt hm
        rcases List.mem_cons.1 hm with rfl | hm
        · omega
        · have := hyr h hm; omega
    have e2 : sub L y L.length = L.filter (fun h => decide (h ∉ r)) := by
      rw [sub_all]
      apply List.filter_congr
      intro h hh
      congr 1
      apply propext
      constructor
      · intro hle hm; have := hyr h hm; omega
      · intro hm
        by_cases he : h = y
        · omega
        · exact Nat.le_of_lt (hlow h hh (by simp [he, hm]) y (by simp))
    have hc2 : Come L r := ⟨hr, fun z hz => hsg z (by simp [hz]), fun h hh hm z hz => by
      have hyz := hyr z hz
      by_cases he : h = y
      · omega
      · have := hlow h hh (by simp [he, hm]) y (by simp); omega⟩
    have hrel : EsRel L y 0 x := ⟨(hn y (by simp)).1, fun e => by rw [cnt_zero, (hn y (by simp)).2 e]; exact Nat.le_refl _, hi, by rw [← e1]; exact hl⟩
    obtain ⟨_, k2, k3, bytes, m, k4, k5, k6, k7⟩ := each_dec hs (by omega) hy L 0 x (by simp) (Nat.zero_le _) hrel ho
    have g := each_dig hs hL L 0 d x (by simp) (Nat.zero_le _) hrel (hd y (by simp))
    rw [cnt_zero] at k2 k3 g
    have hyn : x.n ≤ (each y L 0 x).n := by
      have : ∀ (l : List Nat) (k : Nat) (x : Es), x.n ≤ (each y l k x).n := by
        intro l
        induction l with
        | nil => intro k x; exact Nat.le_refl _
        | cons a l ih =>
          intro k x
          unfold each
          refine Nat.le_trans ?_ (ih _ _)
          split
          · exact Nat.le_add_right _ _
          · exact Nat.le_refl _
      exact this L 0 x
    have ih := eachAll_dig hL d r (each y L 0 x) hc2 k3 (fun z hz => by have h1 := hyr z hz; have h2 := k2.n; exact ⟨by omega, fun e => by omega⟩) k2.i (by rw [k2.len, e2])
      (fun z hz => by
        have h1 := hd z (by simp [hz])
        have h2 : (z - (each y L 0 x).n) * (L.length + 1) ≤ (z - x.n) * (L.length + 1) := Nat.mul_le_mul_right _ (by omega)
        omega)
    rw [filter_in y r (fun hm => by have := hyr y hm; omega), List.length_cons, Nat.mul_succ d]
    unfold eachAll
    omega

/-- How long a form is at most. -/
theorem enc_dig {L : List Nat} (hs : signsL L) (hL : L.length ≤ 35) (d : Nat) (hd : ∀ y ∈ L, (y - 128) * (L.length + 1) + L.length < 36 * 10 ^ d) :
    (encS L (ysOf L)).length ≤ L.length + 1 + (oth L).length + d * (ysOf L).length := by
  have h := ysOf_ys L
  have hf := ys_filter h
  have hlen := ascF_len_eq L
  have hal := ascF_len L
  have hform : (firstEs L).form.length ≤ (ascF L).length + 1 := by unfold firstEs; simp only; split <;> simp
  have g := eachAll_dig hL d (ysOf L) (firstEs L) (ys_come h hs) ⟨Nat.le_refl _, by simp [firstEs], by omega⟩ (fun y hy => ⟨((h.all y).1 hy).2, fun _ => rfl⟩) (Nat.zero_le _) (by rw [hf]; exact hlen) (fun y hy => hd y ((h.all y).1 hy).1)
  have e : L.filter (fun m => decide (m ∈ ysOf L)) = oth L := by
    unfold oth
    apply List.filter_congr
    intro m hm
    have := h.all m
    by_cases h1 : m < 128
    · have : m ∉ ysOf L := fun hh => by have := (this.1 hh).2; omega
      simp [h1, this]
    · have : m ∈ ysOf L := this.2 ⟨hm, by omega⟩
      simp [h1, this]
  rw [e] at g
  have e2 : (ascF L).length + (oth L).length = L.length := by
    rw [hlen]
    unfold oth
    have : ∀ l : List Nat, (l.filter (fun m => decide (m < 128))).length + (l.filter (fun m => !decide (m < 128))).length = l.length := by
      intro l
      induction l with
      | nil => rfl
      | cons a l ih => by_cases ha : a < 128 <;> simp [ha] at ih ⊢ <;> omega
    exact this L
  unfold encS
  omega
theorem few_of : ∀ (ys S : List Nat), ys.Pairwise (· < ·) → (∀ y ∈ ys, y ∈ S) → ys.length ≤ S.length
  | [], _, _, _ => Nat.zero_le _
  | y :: r, S, hp, hS => by
    obtain ⟨hyr, hr⟩ := List.pairwise_cons.1 hp
    have hy := hS y (by simp)
    have ih := few_of r (S.erase y) hr fun z hz => (List.mem_erase_of_ne (by have := hyr z hz; omega)).2 (hS z (by simp [hz]))
    rw [List.length_erase_of_mem hy] at ih
    have := List.length_pos_of_mem hy
    simp only [List.length_cons]
    omega
theorem formB_dig {L : List Nat} (hs : signsL L) (hL : L.length ≤ 35) (d : Nat) (hd : ∀ y ∈ L, (y - 128) * (L.length + 1) + L.length < 36 * 10 ^ d) (m : Nat) (hm : (ysOf L).length ≤ m) :
    (formB L).size ≤ L.length + 5 + (oth L).length + d * m := by
  unfold formB
  split
  · rename_i hlow
    have : textOf L = ⟨(L.map UInt8.ofNat).toArray⟩ := by
      have e : L = (L.map UInt8.ofNat).map (·.toNat) := by
        rw [List.map_map]
        have : ∀ n ∈ L, ((fun (b : UInt8) => b.toNat) ∘ UInt8.ofNat) n = id n := fun n hn => by
          have h1 := List.all_eq_true.1 hlow n hn
          simp only [decide_eq_true_eq] at h1
          simp; omega
        rw [List.map_congr_left this, List.map_id]
      have hasc : ascB (L.map UInt8.ofNat) = true := by
        unfold ascB
        rw [List.all_map, List.all_eq_true]
        intro n hn
        have h1 := List.all_eq_true.1 hlow n hn
        simp only [decide_eq_true_eq] at h1
        simp; omega
      conv => lhs; rw [e]
      exact textOf_map _ hasc
    rw [this]
    show (L.map UInt8.ofNat).toArray.size ≤ _
    simp; omega
  · show (xn ++ encS L (ysOf L)).toArray.size ≤ _
    have h1 := enc_dig hs hL d hd
    have h2 : d * (ysOf L).length ≤ d * m := Nat.mul_le_mul_left _ hm
    simp [xn]
    omega

theorem idx_le (n : Int) : ∀ t : List (Int × Int × Int), Km.idx t n ≤ t.length
  | [] => Nat.le_refl _
  | (a, b, c) :: r => by
    have := idx_le n r
    simp only [Km.idx, List.length_cons]
    split <;> omega
theorem rC_look (n : Int) : rC (pk n) = Km.look Km.tab n := by
  rw [Km.look_idx]
  have h := idx_le n Km.tab
  have hl : Km.tab.length = 33 := rfl
  rw [hl] at h
  unfold pk
  rcases Nat.lt_or_ge (Km.idx Km.tab n) 33 with h1 | h1
  · exact (rows_same ⟨_, h1⟩).2.2.symm
  · rw [show Km.idx Km.tab n = 33 by omega]; rfl
theorem look_mem (n : Int) : ∀ t : List (Int × Int × Int), Km.look t n ≠ 0 → ∃ r ∈ t, r.1 ≤ n ∧ n ≤ r.2.1 ∧ r.2.2 = Km.look t n
  | [], h => absurd rfl h
  | (a, b, c) :: r, h => by
    unfold Km.look at h ⊢
    split
    · rename_i hh; exact ⟨(a, b, c), by simp, hh.1, hh.2, rfl⟩
    · rename_i hh
      rw [if_neg hh] at h
      obtain ⟨x, hx, h1⟩ := look_mem n r h
      exact ⟨x, by simp [hx], h1⟩
theorem rC_mem {n : Int} (h : rC (pk n) ≠ 0) : ∃ r ∈ Km.tab, r.1 ≤ n ∧ n ≤ r.2.1 ∧ r.2.2 = rC (pk n) := by
  rw [rC_look] at h ⊢
  exact look_mem n Km.tab h

/-- Letters, digits, hyphens. -/
def Common (n : Nat) : Prop := rC (pk (n : Int)) = 1 ∨ rC (pk (n : Int)) = 2 ∨ rC (pk (n : Int)) = 3
theorem rows3 : ∀ r ∈ Km.tab, r.2.2 = 3 → r.1 = 45 ∧ r.2.1 = 45 := by decide +kernel
theorem rowsCap : ∀ r ∈ Km.tab, r.2.1 < 65 ∨ 90 < r.1 := by decide +kernel
theorem rC_hyphen {n : Int} (h : rC (pk n) = 3) : n = 45 := by
  obtain ⟨r, hr, h1, h2, h3⟩ := rC_mem (n := n) (by rw [h]; decide)
  have := rows3 r hr (h3.trans h)
  omega
theorem common_ne {n : Nat} (h : Common n) : rC (pk (n : Int)) ≠ 0 ∧ rC (pk (n : Int)) ≠ 4 ∧ rC (pk (n : Int)) ≠ 5 := by
  rcases h with h | h | h <;> rw [h] <;> decide
theorem kind_range {n : Nat} (h : rC (pk (n : Int)) ≠ 0) : n ≤ 40959 ∧ ¬ (65 ≤ n ∧ n ≤ 90) := by
  obtain ⟨r, hr, h1, h2, _⟩ := rC_mem h
  have h3 := Km.tab_low r hr
  have h4 := rowsCap r hr
  omega
theorem kind_sign {n : Nat} (h : rC (pk (n : Int)) ≠ 0) : Pm.sign n = true := by
  rw [sign_iff]
  have := kind_range h
  omega
theorem five1 : ∀ i : Fin 10, rC (pk (1632 + (i.val : Int))) = 5 := by decide +kernel
theorem five2 : ∀ i : Fin 10, rC (pk (1776 + (i.val : Int))) = 5 := by decide +kernel
theorem ctx_common (L : List Nat) (kata mixed : Bool) (n i : Nat) (h : rC (pk (n : Int)) ≠ 5) : ctxM L kata mixed n i = true := by
  have k : ∀ m : Nat, rC (pk (m : Int)) = 5 → n ≠ m := fun m hm e => h (by rw [e]; exact hm)
  unfold ctxM
  rw [if_neg (k 183 rfl), if_neg (k 885 rfl), if_neg (by have := k 1523 rfl; have := k 1524 rfl; omega), if_neg (k 12539 rfl), if_neg ?_, if_neg (k 8204 rfl), if_neg (k 8205 rfl)]
  rintro (⟨h1, h2⟩ | ⟨h1, h2⟩)
  · have := five1 ⟨n - 1632, by omega⟩
    exact k n (by simp only at this; rw [show ((1632 : Int) + ((n - 1632 : Nat) : Int)) = (n : Int) by omega] at this; exact this) rfl
  · have := five2 ⟨n - 1776, by omega⟩
    exact k n (by simp only at this; rw [show ((1776 : Int) + ((n - 1776 : Nat) : Int)) = (n : Int) by omega] at this; exact this) rfl
theorem pair_common (a b : Nat) (h : rC (pk (b : Int)) ≠ 4) : Lm.pair a b = false := by
  have k : ∀ m : Nat, rC (pk (m : Int)) = 4 → b ≠ m := fun m hm e => h (by rw [e]; exact hm)
  unfold Lm.pair
  rw [if_neg (k 769 rfl), if_neg (k 776 rfl), if_neg (k 768 rfl), if_neg (k 770 rfl), if_neg (k 771 rfl), if_neg (k 807 rfl), if_neg (k 778 rfl)]
theorem noKind_iff (L : List Nat) : noKind L = L.any fun n => decide (rC (pk (n : Int)) = 0) := by
  unfold noKind
  rw [Bool.eq_iff_iff, List.any_eq_true, List.any_eq_true]
  constructor
  · rintro ⟨i, hi, h⟩
    have hl := List.mem_range.1 hi
    rw [pkAt_nat L i hl] at h
    exact ⟨L[i], List.getElem_mem hl, h⟩
  · rintro ⟨n, hn, h⟩
    obtain ⟨i, hi⟩ := List.getElem?_of_mem hn
    obtain ⟨hl, rfl⟩ := List.getElem?_eq_some_iff.1 hi
    exact ⟨i, List.mem_range.2 hl, by rw [pkAt_nat L i hl]; exact h⟩
theorem pkAt_common {L : List Nat} (h : ∀ n ∈ L, Common n) (p : Int) : rC (pkAt L p) ≠ 4 := by
  unfold pkAt
  split
  · rename_i hp
    have hl : p.toNat < L.length := by omega
    rw [List.getD_eq_getElem?_getD, List.getElem?_eq_getElem hl]
    exact (common_ne (h _ (List.getElem_mem hl))).2.1
  · decide
/-- Common signs break no rule but that of the hyphen. -/
theorem fault_common {L : List Nat} (h : ∀ n ∈ L, Common n) : faultM L = if hyphM L = true then 5 else 0 := by
  have h1 : noKind L = false := by
    rw [noKind_iff, List.any_eq_false]
    intro n hn
    simpa using (common_ne (h n hn)).1
  have h2 : decide (rC (pkAt L 0) = 4) = false := decide_eq_false (pkAt_common h 0)
  have h3 : formBad L = false := by
    unfold formBad
    rw [List.any_eq_false]
    intro i hi
    have hl := List.mem_range.1 hi
    unfold badAt
    have hb : L.getD (i + 1) 0 ∈ L := by
      rw [List.getD_eq_getElem?_getD, List.getElem?_eq_getElem (show i + 1 < L.length by omega)]
      exact List.getElem_mem _
    rw [pair_common _ _ (common_ne (h _ hb)).2.1, decide_eq_false (pkAt_common h (i : Int))]
    simp
  have h4 : ctxBad L = false := by
    unfold ctxBad
    rw [List.any_eq_false]
    intro i hi
    have hl := List.mem_range.1 hi
    have hb : L.getD i 0 ∈ L := by
      rw [List.getD_eq_getElem?_getD, List.getElem?_eq_getElem hl]
      exact List.getElem_mem _
    rw [ctx_common L _ _ _ i (common_ne (h _ hb)).2.2]
    simp
  unfold faultM
  rw [h1, h2, h3, h4]
  simp

/-- What is looked through for a text of signs. -/
theorem plain_text {L : List Nat} (hs : signsL L) (hne : L ≠ []) (hcap : allLow L = true → (∀ n ∈ L, ¬ (65 ≤ n ∧ n ≤ 90)) ∧ L.take 4 ≠ [120, 110, 45, 45]) : plainM (textOf L) = (0, L) := by
  have hr := runes_bytes hs
  have hr1 : runes (textOf L) = L := hr.1
  have hr2 : Lib.validD (textOf L).data.toList = true := hr.2
  have hz : (textOf L).size ≠ 0 := by
    have := runes_len (textOf L)
    rw [hr1] at this
    have := List.length_pos_iff.2 hne
    omega
  unfold plainM
  rw [hr2, if_neg (by decide), if_neg hz, textOf_low, hr1]
  cases ha : allLow L with
  | false => rw [if_pos rfl]
  | true =>
    obtain ⟨hc, hx⟩ := hcap ha
    have hlt : ∀ n ∈ L, n < 128 := fun n hn => by simpa using List.all_eq_true.1 ha n hn
    have e : (L.map UInt8.ofNat).map (·.toNat) = L := by
      rw [List.map_map]
      have : ∀ n ∈ L, ((fun (b : UInt8) => b.toNat) ∘ UInt8.ofNat) n = id n := fun n hn => by
        have h1 := hlt n hn
        simp; omega
      rw [List.map_congr_left this, List.map_id]
    have hasc : ascB (L.map UInt8.ofNat) = true := by
      unfold ascB
      rw [List.all_map, List.all_eq_true]
      intro n hn
      have h1 := hlt n hn
      simp; omega
    have ht : (textOf L).data.toList = L.map UInt8.ofNat := by
      have := textOf_map _ hasc
      rw [e] at this
      rw [this]
    have hlow : Lib.toLowerA (L.map UInt8.ofNat) = L.map UInt8.ofNat := by
      unfold Lib.toLowerA
      rw [List.map_map]
      apply List.map_congr_left
      intro n hn
      have h1 := hlt n hn
      have h2 := hc n hn
      apply Lib.lowerB_of_not
      rw [Lib.isUpperB_int]
      have : ((UInt8.ofNat n).toNat : Int) = n := u8_of n (by omega)
      rw [this]
      simp
      omega
    rw [ht, hlow, e, if_neg (by decide)]
    have hp : Lib.hasPrefix (L.map UInt8.ofNat) xn = false := by
      cases hh : Lib.hasPrefix (L.map UInt8.ofNat) xn with
      | false => rfl
      | true =>
        refine absurd ?_ hx
        obtain ⟨t, ht⟩ := List.isPrefixOf_iff_prefix.1 hh
        rw [← e, ← ht]
        rfl
    rw [hp, if_neg (by decide)]
theorem label_common {L : List Nat} (h : ∀ n ∈ L, Common n) (hne : L ≠ []) (hx : L.take 4 ≠ [120, 110, 45, 45]) (hz : (formB L).size ≤ 63) :
    labelM (textOf L) = if hyphM L = true then (5, [], ⟨#[]⟩) else (0, L, formB L) := by
  have hs : signsL L := fun n hn => kind_sign (common_ne (h n hn)).1
  have hp := plain_text hs hne fun _ => ⟨fun n hn => (kind_range (common_ne (h n hn)).1).2, hx⟩
  unfold labelM
  rw [hp]
  simp only
  rw [if_neg (by simp), fault_common h]
  by_cases hh : hyphM L = true
  · rw [if_pos hh, if_pos hh, if_pos (by decide)]
  · rw [if_neg hh, if_neg hh, if_neg (by simp), if_neg (by omega)]
theorem labelV_common {L : List Nat} (h : ∀ n ∈ L, Common n) (hne : L ≠ []) (hx : L.take 4 ≠ [120, 110, 45, 45]) (hz : (formB L).size ≤ 63) :
    labelV (textOf L) = if hyphM L = true then .tuple #[.string { data := #[] }, .string { data := #[] }, .int .i64 5] else .tuple #[.string (textOf L), .string (formB L), .int .i64 0] := by
  unfold labelV
  rw [label_common h hne hx hz]
  split <;> simp
end Go.Proofs.YtkaaldhejpaiiaaGreatDoor
