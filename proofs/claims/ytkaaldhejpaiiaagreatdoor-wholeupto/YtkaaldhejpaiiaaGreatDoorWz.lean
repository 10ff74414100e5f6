import Derived.Test.YtkaaldhejpaiiaaGreatDoorBu18
/- The encoder's states at long labels. No walk in this text. -/
namespace Go.Proofs.YtkaaldhejpaiiaaGreatDoor

structure Es.goodB (x : Es) (sgn k : Nat) : Prop where
  n0 : 128 ≤ x.n
  n : x.n ≤ sgn
  i : x.i ≤ 1100000
  len : x.len ≤ 1100000
  st : x.i ≤ (sgn - x.n) * (x.len + 1) + k
  bias : x.bias ≤ 1400000000000
  form : x.form.length ≤ 60000000
structure EsOkB (x : Es) : Prop where
  n0 : 128 ≤ x.n
  bias : x.bias ≤ 1400000000000
  form : x.form.length ≤ 2200000 + 42 * x.len
theorem steps_leB {x : Es} {sgn k : Nat} (h : x.goodB sgn k) (hs : sgn ≤ 1114111) (hk : k ≤ 1100000) : x.steps sgn k ≤ 1300000000000 := by
  unfold Es.steps
  have h1 := h.n0; have h2 := h.len
  have : (sgn - x.n) * (x.len + 1) ≤ 1113983 * 1100001 := Nat.mul_le_mul (by omega) (by omega)
  omega
theorem good_ofB {L : List Nat} {y p : Nat} {x : Es} (h : EsRel L y p x) (ho : EsOkB x) (hL : L.length ≤ 1100000) : x.goodB y (cnt L y p) := by
  have hs := sub_len_le L y p
  have hl := h.len
  have hi := h.i
  have hst := steps_eq h
  exact ⟨ho.n0, h.n, by omega, by omega, by omega, ho.bias, by have := ho.form; omega⟩
theorem put_okB {L : List Nat} {y p : Nat} {x : Es} (h : EsRel L y p x) (ho : EsOkB x) (hL : L.length ≤ 1100000) (hy : y ≤ 1114111) : EsOkB (x.put (x.steps y (cnt L y p))) := by
  have hg := good_ofB h ho hL
  have hc : cnt L y p ≤ 1100000 := Nat.le_trans (cnt_le_sub L y p) (Nat.le_trans (sub_len_le L y p) hL)
  have hq := steps_leB hg hy hc
  rw [put_eq h]
  refine ⟨Nat.le_trans ho.n0 h.n, ?_, ?_⟩
  · have := Pm.biasN_le (x.steps y (cnt L y p)) (x.len + 1) (!x.b)
    show Pm.biasN _ _ _ ≤ _
    omega
  · show (x.form ++ _).length ≤ 2200000 + 42 * (x.len + 1)
    have := wnum_len x.bias 41 (x.steps y (cnt L y p) + 1) 1 (x.steps y (cnt L y p)) (by omega)
    have := ho.form
    rw [List.length_append]
    omega
theorem each_relB {L : List Nat} {y : Nat} (hs : Pm.sign y = true) (hL : L.length ≤ 1100000) (hy : y ≤ 1114111) : ∀ (r : List Nat) (p : Nat) (x : Es), r = L.drop p → p ≤ L.length → EsRel L y p x → EsOkB x →
    EsRel L y L.length (each y r (cnt L y p) x) ∧ EsOkB (each y r (cnt L y p) x)
  | [], p, x, hr, hp, h, ho => by
    have e : p = L.length := by have := congrArg List.length hr; rw [List.length_drop] at this; simp at this; omega
    subst e
    exact ⟨h, ho⟩
  | a :: r, p, x, hr, hp, h, ho => by
    have hlt : p < L.length := by have := congrArg List.length hr; rw [List.length_drop] at this; simp at this; omega
    rw [List.drop_eq_getElem_cons hlt] at hr
    obtain ⟨rfl, rfl⟩ := List.cons.inj hr
    unfold each
    rw [← cnt_snoc hlt]
    by_cases he : L[p] = y
    · rw [if_pos he]
      obtain ⟨h2, _⟩ := put_dec h hlt he hs
      exact each_relB hs hL hy (L.drop (p + 1)) (p + 1) _ rfl hlt h2 (put_okB h ho hL hy)
    · rw [if_neg he]
      have h2 : EsRel L y (p + 1) x := ⟨h.n, fun e => by rw [cnt_snoc hlt]; have := h.at_n e; split <;> omega, h.i, by rw [sub_other hlt y he]; exact h.len⟩
      exact each_relB hs hL hy (L.drop (p + 1)) (p + 1) x rfl hlt h2 ho

/-- The next sign y, at place p: the least that is not there yet, the first of these. -/
structure NxtB (L : List Nat) (x : Es) (y p : Nat) : Prop where
  hp : p < L.length
  eq : L[p]'hp = y
  big : 128 ≤ y
  top : y ≤ 1114111
  new : x.n < y ∨ (y = x.n ∧ x.i ≤ cnt L y p)
  least : ∀ j (hj : j < L.length), 128 ≤ L[j] → (x.n < L[j] ∨ (L[j] = x.n ∧ x.i ≤ cnt L L[j] j)) → y ≤ L[j]
  first : ∀ j (hj : j < L.length), j < p → L[j] = y → ¬ (x.n < y ∨ x.i ≤ cnt L y j)
  good : x.goodB y (cnt L y p)
  ilen : x.i ≤ x.len
  lt : x.len < L.length

inductive RoadB (L : List Nat) : Es → Es → Prop where
  | done (x : Es) (h : x.len = L.length) : RoadB L x x
  | step (x z : Es) (y p : Nat) (h : NxtB L x y p) (r : RoadB L (x.put (x.steps y (cnt L y p))) z) : RoadB L x z

theorem each_roadB {L : List Nat} {y : Nat} (hs : Pm.sign y = true) (hL : L.length ≤ 1100000) (hy : y ≤ 1114111) (h128 : 128 ≤ y) : ∀ (r : List Nat) (p : Nat) (x : Es), r = L.drop p → p ≤ L.length → EsRel L y p x → EsOkB x → Done L x y p →
    Done L (each y r (cnt L y p) x) y L.length ∧ ∀ z, RoadB L (each y r (cnt L y p) x) z → RoadB L x z
  | [], p, x, hr, hp, _, _, hd => by
    have e : p = L.length := by have := congrArg List.length hr; rw [List.length_drop] at this; simp at this; omega
    subst e
    exact ⟨hd, fun z h => h⟩
  | a :: r, p, x, hr, hp, h, ho, hd => by
    have hlt : p < L.length := by have := congrArg List.length hr; rw [List.length_drop] at this; simp at this; omega
    rw [List.drop_eq_getElem_cons hlt] at hr
    obtain ⟨rfl, rfl⟩ := List.cons.inj hr
    unfold each
    rw [← cnt_snoc hlt]
    by_cases he : L[p] = y
    · rw [if_pos he]
      obtain ⟨h2, _⟩ := put_dec h hlt he hs
      have ho2 := put_okB h ho hL hy
      have hpe := put_eq h
      have hd2 : Done L (x.put (x.steps y (cnt L y p))) y (p + 1) := by
        intro j hj hb hc
        rw [hpe]
        simp only
        rcases hc with hc | ⟨hc, hjp⟩
        · omega
        · rw [hc]
          have := cnt_mono L y (show j ≤ p by omega)
          omega
      obtain ⟨k1, k2⟩ := each_roadB hs hL hy h128 (L.drop (p + 1)) (p + 1) _ rfl hlt h2 ho2 hd2
      refine ⟨k1, fun z hz => RoadB.step x z y p ⟨hlt, he, h128, hy, ?_, ?_, ?_, good_ofB h ho hL, h.i, ?_⟩ (k2 z hz)⟩
      · rcases Nat.lt_or_ge x.n y with h1 | h1
        · exact Or.inl h1
        · have h3 := h.n
          have h4 : x.n = y := by omega
          exact Or.inr ⟨h4.symm, h.at_n h4⟩
      · intro j hj hb hn
        rcases Nat.lt_or_ge (L[j]) y with h1 | h1
        · exact absurd hn (hd j hj hb (Or.inl h1))
        · exact h1
      · intro j hj hjp hjy hn
        refine hd j hj (by omega) (Or.inr ⟨hjy, hjp⟩) ?_
        rw [hjy]
        rcases hn with h1 | h1
        · exact Or.inl h1
        · have h3 := h.n
          rcases Nat.lt_or_ge x.n y with h4 | h4
          · exact Or.inl h4
          · exact Or.inr ⟨by omega, h1⟩
      · have h5 := sub_len_le L y (p + 1)
        rw [sub_same hlt y he, List.length_append, List.length_cons, List.length_take, List.length_drop] at h5
        have h6 := cnt_le_sub L y p
        have h7 := h.len
        omega
    · rw [if_neg he]
      have h2 : EsRel L y (p + 1) x := ⟨h.n, fun e => by rw [cnt_snoc hlt]; have := h.at_n e; split <;> omega, h.i, by rw [sub_other hlt y he]; exact h.len⟩
      refine each_roadB hs hL hy h128 (L.drop (p + 1)) (p + 1) x rfl hlt h2 ho ?_
      intro j hj hb hc
      refine hd j hj hb ?_
      rcases hc with hc | ⟨hc, hjp⟩
      · exact Or.inl hc
      · rcases Nat.lt_or_ge j p with h1 | h1
        · exact Or.inr ⟨hc, h1⟩
        · have : j = p := by omega
          subst this
          exact absurd hc he

theorem eachAll_roadB {L : List Nat} (hL : L.length ≤ 1100000) : ∀ (ys : List Nat) (x : Es), Come L ys → EsOkB x → (∀ y ∈ ys, x.n ≤ y ∧ (x.n = y → x.i = 0)) → x.i ≤ x.len → x.len = (L.filter (fun h => decide (h ∉ ys))).length →
    (∀ y ∈ ys, 128 ≤ y) → (∀ j (hj : j < L.length), 128 ≤ L[j] → L[j] ∉ ys → ¬ (x.n < L[j] ∨ (L[j] = x.n ∧ x.i ≤ cnt L L[j] j))) → RoadB L x (eachAll L ys x)
  | [], x, _, _, _, _, hl, _, _ => by
    have e : L.filter (fun h => decide (h ∉ ([] : List Nat))) = L := by simp
    rw [e] at hl
    exact RoadB.done x hl
  | y :: r, x, hc, ho, hn, hi, hl, hbig, hdone => by
    obtain ⟨hup, hsg, hlow⟩ := hc
    obtain ⟨hyr, hr⟩ := List.pairwise_cons.1 hup
    have hs := hsg y (by simp)
    have hy : y ≤ 1114111 := by unfold Pm.sign at hs; simp at hs; omega
    have e1 : L.filter (fun h => decide (h ∉ y :: r)) = sub L y 0 := by
      rw [sub_zero]
      apply List.filter_congr
      intro h hh
      congr 1
      apply propext
      constructor
      · intro hm; exact hlow h hh hm y (by simp)
      · intro hlt hm
        rcases List.mem_cons.1 hm with rfl | hm
        · omega
        · have := hyr h hm; omega
    have e2 : sub L y L.length = L.filter (fun h => decide (h ∉ r)) := by
      rw [sub_all]
      apply List.filter_congr
      intro h hh
      congr 1
      apply propext
      constructor
      · intro hle hm; have := hyr h hm; omega
      · intro hm
        by_cases he : h = y
        · omega
        · exact Nat.le_of_lt (hlow h hh (by simp [he, hm]) y (by simp))
    have hc2 : Come L r := ⟨hr, fun z hz => hsg z (by simp [hz]), fun h hh hm z hz => by
      have hyz := hyr z hz
      by_cases he : h = y
      · omega
      · have := hlow h hh (by simp [he, hm]) y (by simp); omega⟩
    have hrel : EsRel L y 0 x := ⟨(hn y (by simp)).1, fun e => by rw [cnt_zero, (hn y (by simp)).2 e]; exact Nat.le_refl _, hi, by rw [← e1]; exact hl⟩
    obtain ⟨k2, k3⟩ := each_relB hs hL hy L 0 x (by simp) (Nat.zero_le _) hrel ho
    have hd0 : Done L x y 0 := by
      intro j hj hb hcc
      rcases hcc with hcc | ⟨_, h0⟩
      · refine hdone j hj hb ?_
        intro hm
        rcases List.mem_cons.1 hm with h1 | h1
        · omega
        · have := hyr _ h1; omega
      · omega
    obtain ⟨d1, d2⟩ := each_roadB hs hL hy (hbig y (by simp)) L 0 x (by simp) (Nat.zero_le _) hrel ho hd0
    rw [cnt_zero] at k2 k3 d1 d2
    refine d2 _ ?_
    refine eachAll_roadB hL r (each y L 0 x) hc2 k3 (fun z hz => by have h1 := hyr z hz; have h2 := k2.n; exact ⟨by omega, fun e => by omega⟩) k2.i (by rw [k2.len, e2]) (fun z hz => hbig z (by simp [hz])) ?_
    intro j hj hb hm
    refine d1 j hj hb ?_
    by_cases he : L[j] = y
    · exact Or.inr ⟨he, hj⟩
    · exact Or.inl (hlow _ (List.getElem_mem hj) (by simp [he, hm]) y (by simp))

/-- All the way. -/
theorem road_allB {L ys : List Nat} (h : Ys L ys) (hs : ∀ n ∈ L, Pm.sign n = true) (hL : L.length ≤ 1100000) : RoadB L (firstEs L) (eachAll L ys (firstEs L)) := by
  have hlen := ascF_len_eq L
  have hal := ascF_len L
  have hform : (firstEs L).form.length ≤ 1100001 := by unfold firstEs; simp only; split <;> simp; omega
  refine eachAll_roadB hL ys (firstEs L) (ys_come h hs) ⟨Nat.le_refl _, by simp [firstEs], by omega⟩ (fun y hy => ⟨((h.all y).1 hy).2, fun _ => rfl⟩) (Nat.zero_le _) (by rw [ys_filter h]; exact hlen) (fun y hy => ((h.all y).1 hy).2) ?_
  intro j hj hb hm
  exact absurd ((h.all _).2 ⟨List.getElem_mem hj, hb⟩) hm

theorem Least.allB {L : List Nat} {x : Es} {nx y p : Nat} (h : Least L x L.length nx) (hN : NxtB L x y p) : nx = y := by
  have hp := hN.hp
  have he := hN.eq
  have h1 := h.le p hp hp ⟨by rw [he]; exact hN.big, by rw [he]; exact hN.new⟩
  rw [he] at h1
  have ht := hN.top
  rcases h.is with e | ⟨j, hj, _, hcj, e⟩
  · omega
  · have := hN.least j hj hcj.1 hcj.2
    omega

end Go.Proofs.YtkaaldhejpaiiaaGreatDoor

