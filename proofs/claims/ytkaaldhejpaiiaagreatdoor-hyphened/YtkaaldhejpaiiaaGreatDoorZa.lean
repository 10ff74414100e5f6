/- The document's encode: which sign comes next; its states are the encoder's. No walk in this text. -/
import Derived.Test.YtkaaldhejpaiiaaGreatDoorTm
namespace Go.Proofs.YtkaaldhejpaiiaaGreatDoor

/-- The next sign y, at place p: the least that is not there yet, the first of these. -/
structure Nxt (L : List Nat) (x : Es) (y p : Nat) : Prop where
  hp : p < L.length
  eq : L[p]'hp = y
  big : 128 ≤ y
  top : y ≤ 1114111
  new : x.n < y ∨ (y = x.n ∧ x.i ≤ cnt L y p)
  least : ∀ j (hj : j < L.length), 128 ≤ L[j] → (x.n < L[j] ∨ (L[j] = x.n ∧ x.i ≤ cnt L L[j] j)) → y ≤ L[j]
  first : ∀ j (hj : j < L.length), j < p → L[j] = y → ¬ (x.n < y ∨ x.i ≤ cnt L y j)
  good : x.good y (cnt L y p)
  ilen : x.i ≤ x.len
  lt : x.len < L.length

inductive Road (L : List Nat) : Es → Es → Prop where
  | done (x : Es) (h : x.len = L.length) : Road L x x
  | step (x z : Es) (y p : Nat) (h : Nxt L x y p) (r : Road L (x.put (x.steps y (cnt L y p))) z) : Road L x z

def Done (L : List Nat) (x : Es) (y p : Nat) : Prop := ∀ j (hj : j < L.length), 128 ≤ L[j] → (L[j] < y ∨ (L[j] = y ∧ j < p)) → ¬ (x.n < L[j] ∨ (L[j] = x.n ∧ x.i ≤ cnt L L[j] j))

theorem cnt_mono (L : List Nat) (y : Nat) {j p : Nat} (h : j ≤ p) : cnt L y j ≤ cnt L y p := by
  unfold cnt
  have : L.take j = (L.take p).take j := by rw [List.take_take, Nat.min_eq_left h]
  rw [this]
  exact ((List.take_sublist j (L.take p)).filter _).length_le

theorem each_road {L : List Nat} {y : Nat} (hs : Pm.sign y = true) (hL : L.length ≤ 1000) (hy : y ≤ 1114111) (h128 : 128 ≤ y) : ∀ (r : List Nat) (p : Nat) (x : Es), r = L.drop p → p ≤ L.length → EsRel L y p x → EsOk x → Done L x y p →
    Done L (each y r (cnt L y p) x) y L.length ∧ ∀ z, Road L (each y r (cnt L y p) x) z → Road L x z
  | [], p, x, hr, hp, _, _, hd => by
    have e : p = L.length := by have := congrArg List.length hr; rw [List.length_drop] at this; simp at this; omega
    subst e
    exact ⟨hd, fun z h => h⟩
  | a :: r, p, x, hr, hp, h, ho, hd => by
    have hlt : p < L.length := by have := congrArg List.length hr; rw [List.length_drop] at this; simp at this; omega
    rw [List.drop_eq_getElem_cons hlt] at hr
    obtain ⟨rfl, rfl⟩ := List.cons.inj hr
    unfold each
    rw [← cnt_snoc hlt]
    by_cases he : L[p] = y
    · rw [if_pos he]
      obtain ⟨h2, _⟩ := put_dec h hlt he hs
      have ho2 := put_ok h ho hL hy
      have hpe := put_eq h
      have hd2 : Done L (x.put (x.steps y (cnt L y p))) y (p + 1) := by
        intro j hj hb hc
        rw [hpe]
        simp only
        rcases hc with hc | ⟨hc, hjp⟩
        · omega
        · rw [hc]
          have := cnt_mono L y (show j ≤ p by omega)
          omega
      obtain ⟨k1, k2⟩ := each_road hs hL hy h128 (L.drop (p + 1)) (p + 1) _ rfl hlt h2 ho2 hd2
      refine ⟨k1, fun z hz => Road.step x z y p ⟨hlt, he, h128, hy, ?_, ?_, ?_, good_of h ho hL, h.i, ?_⟩ (k2 z hz)⟩
      · rcases Nat.lt_or_ge x.n y with h1 | h1
        · exact Or.inl h1
        · have h3 := h.n
          have h4 : x.n = y := by omega
          exact Or.inr ⟨h4.symm, h.at_n h4⟩
      · intro j hj hb hn
        rcases Nat.lt_or_ge (L[j]) y with h1 | h1
        · exact absurd hn (hd j hj hb (Or.inl h1))
        · exact h1
      · intro j hj hjp hjy hn
        refine hd j hj (by omega) (Or.inr ⟨hjy, hjp⟩) ?_
        rw [hjy]
        rcases hn with h1 | h1
        · exact Or.inl h1
        · have h3 := h.n
          rcases Nat.lt_or_ge x.n y with h4 | h4
          · exact Or.inl h4
          · exact Or.inr ⟨by omega, h1⟩
      · have h5 := sub_len_le L y (p + 1)
        rw [sub_same hlt y he, List.length_append, List.length_cons, List.length_take, List.length_drop] at h5
        have h6 := cnt_le_sub L y p
        have h7 := h.len
        omega
    · rw [if_neg he]
      have h2 : EsRel L y (p + 1) x := ⟨h.n, fun e => by rw [cnt_snoc hlt]; have := h.at_n e; split <;> omega, h.i, by rw [sub_other hlt y he]; exact h.len⟩
      refine each_road hs hL hy h128 (L.drop (p + 1)) (p + 1) x rfl hlt h2 ho ?_
      intro j hj hb hc
      refine hd j hj hb ?_
      rcases hc with hc | ⟨hc, hjp⟩
      · exact Or.inl hc
      · rcases Nat.lt_or_ge j p with h1 | h1
        · exact Or.inr ⟨hc, h1⟩
        · have : j = p := by omega
          subst this
          exact absurd hc he

theorem eachAll_road {L : List Nat} (hL : L.length ≤ 1000) : ∀ (ys : List Nat) (x : Es), Come L ys → EsOk x → (∀ y ∈ ys, x.n ≤ y ∧ (x.n = y → x.i = 0)) → x.i ≤ x.len → x.len = (L.filter (fun h => decide (h ∉ ys))).length →
    (∀ y ∈ ys, 128 ≤ y) → (∀ j (hj : j < L.length), 128 ≤ L[j] → L[j] ∉ ys → ¬ (x.n < L[j] ∨ (L[j] = x.n ∧ x.i ≤ cnt L L[j] j))) → Road L x (eachAll L ys x)
  | [], x, _, _, _, _, hl, _, _ => by
    have e : L.filter (fun h => decide (h ∉ ([] : List Nat))) = L := by simp
    rw [e] at hl
    exact Road.done x hl
  | y :: r, x, hc, ho, hn, hi, hl, hbig, hdone => by
    obtain ⟨hup, hsg, hlow⟩ := hc
    obtain ⟨hyr, hr⟩ := List.pairwise_cons.1 hup
    have hs := hsg y (by simp)
    have hy : y ≤ 1114111 := by unfold Pm.sign at hs; simp at hs; omega
    have e1 : L.filter (fun h => decide (h ∉ y :: r)) = sub L y 0 := by
      rw [sub_zero]
      apply List.filter_congr
      intro h hh
      congr 1
      apply propext
      constructor
      · intro hm; exact hlow h hh hm y (by simp)
      · intro hlt hm
        rcases List.mem_cons.1 hm with rfl | hm
        · omega
        · have := hyr h hm; omega
    have e2 : sub L y L.length = L.filter (fun h => decide (h ∉ r)) := by
      rw [sub_all]
      apply List.filter_congr
      intro h hh
      congr 1
      apply propext
      constructor
      · intro hle hm; have := hyr h hm; omega
      · intro hm
        by_cases he : h = y
        · omega
        · exact Nat.le_of_lt (hlow h hh (by simp [he, hm]) y (by simp))
    have hc2 : Come L r := ⟨hr, fun z hz => hsg z (by simp [hz]), fun h hh hm z hz => by
      have hyz := hyr z hz
      by_cases he : h = y
      · omega
      · have := hlow h hh (by simp [he, hm]) y (by simp); omega⟩
    have hrel : EsRel L y 0 x := ⟨(hn y (by simp)).1, fun e => by rw [cnt_zero, (hn y (by simp)).2 e]; exact Nat.le_refl _, hi, by rw [← e1]; exact hl⟩
    obtain ⟨_, k2, k3, _⟩ := each_dec hs hL hy L 0 x (by simp) (Nat.zero_le _) hrel ho
    have hd0 : Done L x y 0 := by
      intro j hj hb hcc
      rcases hcc with hcc | ⟨_, h0⟩
      · refine hdone j hj hb ?_
        intro hm
        rcases List.mem_cons.1 hm with h1 | h1
        · omega
        · have := hyr _ h1; omega
      · omega
    obtain ⟨d1, d2⟩ := each_road hs hL hy (hbig y (by simp)) L 0 x (by simp) (Nat.zero_le _) hrel ho hd0
    rw [cnt_zero] at k2 k3 d1 d2
    refine d2 _ ?_
    refine eachAll_road hL r (each y L 0 x) hc2 k3 (fun z hz => by have h1 := hyr z hz; have h2 := k2.n; exact ⟨by omega, fun e => by omega⟩) k2.i (by rw [k2.len, e2]) (fun z hz => hbig z (by simp [hz])) ?_
    intro j hj hb hm
    refine d1 j hj hb ?_
    by_cases he : L[j] = y
    · exact Or.inr ⟨he, hj⟩
    · exact Or.inl (hlow _ (List.getElem_mem hj) (by simp [he, hm]) y (by simp))

/-- All the way. -/
theorem road_all {L ys : List Nat} (h : Ys L ys) (hs : ∀ n ∈ L, Pm.sign n = true) (hL : L.length ≤ 1000) : Road L (firstEs L) (eachAll L ys (firstEs L)) := by
  have hlen := ascF_len_eq L
  have hal := ascF_len L
  have hform : (firstEs L).form.length ≤ 1001 := by unfold firstEs; simp only; split <;> simp; omega
  refine eachAll_road hL ys (firstEs L) (ys_come h hs) ⟨Nat.le_refl _, by simp [firstEs], by omega⟩ (fun y hy => ⟨((h.all y).1 hy).2, fun _ => rfl⟩) (Nat.zero_le _) (by rw [ys_filter h]; exact hlen) (fun y hy => ((h.all y).1 hy).2) ?_
  intro j hj hb hm
  exact absurd ((h.all _).2 ⟨List.getElem_mem hj, hb⟩) hm

/-- The sign at place j may be the next one. -/
def Cand (L : List Nat) (x : Es) (j : Nat) (hj : j < L.length) : Prop := 128 ≤ L[j] ∧ (x.n < L[j] ∨ (L[j] = x.n ∧ x.i ≤ cnt L L[j] j))
/-- The least one that may, among the first i places. -/
structure Least (L : List Nat) (x : Es) (i nx : Nat) : Prop where
  le : ∀ j (hj : j < L.length), j < i → Cand L x j hj → nx ≤ L[j]
  is : nx = 1114112 ∨ ∃ j, ∃ hj : j < L.length, j < i ∧ Cand L x j hj ∧ L[j] = nx
theorem Least.zero (L : List Nat) (x : Es) : Least L x 0 1114112 := ⟨fun j _ h => by omega, Or.inl rfl⟩
theorem Least.take {L : List Nat} {x : Es} {i nx : Nat} (h : Least L x i nx) (hi : i < L.length) (hc : Cand L x i hi) (hl : L[i] < nx) : Least L x (i + 1) L[i] :=
  ⟨fun j hj hji hcj => by
    by_cases e : j = i
    · subst e; exact Nat.le_refl _
    · have := h.le j hj (by omega) hcj; omega, Or.inr ⟨i, hi, by omega, hc, rfl⟩⟩
theorem Least.skip {L : List Nat} {x : Es} {i nx : Nat} (h : Least L x i nx) (hi : i < L.length) (hc : ¬ (Cand L x i hi ∧ L[i] < nx)) : Least L x (i + 1) nx :=
  ⟨fun j hj hji hcj => by
    by_cases e : j = i
    · subst e
      exact Nat.le_of_not_lt fun h2 => hc ⟨hcj, h2⟩
    · exact h.le j hj (by omega) hcj, by
    rcases h.is with e | ⟨j, hj, hji, hcj, e⟩
    · exact Or.inl e
    · exact Or.inr ⟨j, hj, by omega, hcj, e⟩⟩
theorem Least.all {L : List Nat} {x : Es} {nx y p : Nat} (h : Least L x L.length nx) (hN : Nxt L x y p) : nx = y := by
  have hp := hN.hp
  have he := hN.eq
  have h1 := h.le p hp hp ⟨by rw [he]; exact hN.big, by rw [he]; exact hN.new⟩
  rw [he] at h1
  have ht := hN.top
  rcases h.is with e | ⟨j, hj, _, hcj, e⟩
  · omega
  · have := hN.least j hj hcj.1 hcj.2
    omega

end Go.Proofs.YtkaaldhejpaiiaaGreatDoor
