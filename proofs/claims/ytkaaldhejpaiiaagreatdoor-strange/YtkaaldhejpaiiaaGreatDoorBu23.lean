import Derived.Test.YtkaaldhejpaiiaaGreatDoorBu22
/- The document's examples, by the project's answers. -/
namespace Go.Proofs.YtkaaldhejpaiiaaGreatDoor
open Go.RowKit

def sBue : ByteArray := { data := #[98, 195, 188, 99, 104, 101, 114] }
def sXn : ByteArray := { data := #[120, 110, 45, 45, 98, 99, 104, 101, 114, 45, 107, 118, 97] }
def sDash : ByteArray := { data := #[45, 97] }
def sWww : ByteArray := { data := #[119, 119, 119, 46, 98, 195, 188, 99, 104, 101, 114, 46] }
def sWwwX : ByteArray := { data := #[119, 119, 119, 46, 120, 110, 45, 45, 98, 99, 104, 101, 114, 45, 107, 118, 97, 46] }
theorem lab_bue : labelV sBue = .tuple #[.string sBue, .string sXn, .int .i64 0] := by kernel_rfl
theorem lab_dash : labelV sDash = .tuple #[.string { data := #[] }, .string { data := #[] }, .int .i64 5] := by kernel_rfl
theorem nam_www : nameV sWww = .tuple #[.string sWww, .string sWwwX, .int .i64 0, .int .i64 0] := by kernel_rfl
/-- What a call finds: the library's tables, the project's, a number. -/
def Ground (w : World) : Prop := Lib.Utf8Tabs 1 2 w ∧ Tab w ∧ ∃ m, 3 < w.heap.size ∧ w.cell? ⟨3, 0, none⟩ = some (.int .i64 m)
theorem Ground.keep {w w' : World} (h : Ground w) (hb : Below w.heap.size w w') : Ground w' := by
  obtain ⟨h1, h2, m, h3, h4⟩ := h
  exact ⟨tabs_keep h1 hb, h2.keep hb, m, Nat.lt_of_lt_of_le h3 hb.size, (hb.cell (p := ⟨3, 0, none⟩) h3).trans h4⟩
theorem Label_at (s : ByteArray) (w : World) (hs : s.size ≤ 400000000) (h : Ground w) : Calls Tryz.prog 11 #[.string s] w fun e w' => e = .returned (labelV s) ∧ Below w.heap.size w w' := Label_any s w hs h.1 h.2.1
theorem Name_at (s : ByteArray) (w : World) (hs : s.size ≤ 300000000) (h : Ground w) : Calls Tryz.prog 20 #[.string s] w fun e w' => e = .returned (nameV s) ∧ Below w.heap.size w w' := by
  obtain ⟨h1, h2, m, _, h3⟩ := h
  exact Name_any s w m hs h3 h1 h2
set_option maxHeartbeats 1000000 in
theorem looks_any (w : World) (h : Ground w) : Calls Tryz.prog 14 #[] w fun e w' => e = .returned (.bool true) ∧ Below w.heap.size w w' := by
  have HG : Hid (Ground w) := h
  have h1 := Label_at sBue w (by decide) h
  rw [lab_bue] at h1
  have H2 : Hid (∀ W, Ground W → Calls Tryz.prog 11 #[.string sDash] W fun e w' => e = .returned (.tuple #[.string { data := #[] }, .string { data := #[] }, .int .i64 5]) ∧ Below W.heap.size W w') := fun W hW => by rw [← lab_dash]; exact Label_at sDash W (by decide) hW
  have H3 : Hid (∀ W, Ground W → Calls Tryz.prog 20 #[.string sWww] W fun e w' => e = .returned (.tuple #[.string sWww, .string sWwwX, .int .i64 0, .int .i64 0]) ∧ Below W.heap.size W w') := fun W hW => by rw [← nam_www]; exact Name_at sWww W (by decide) hW
  unfold sBue sXn at h1
  unfold sDash at H2
  unfold sWww sWwwX at H3
  clear h
  go_enter Tryz.func14, Tryz.ntmps14
  go_wp2_with fail
  refine h1.mono ?_
  rintro e w1 ⟨rfl, hb1⟩
  clear h1
  have h2 := H2.out w1 (HG.out.keep hb1)
  go_wp2_with fail
  refine h2.mono ?_
  rintro e w2 ⟨rfl, hb2⟩
  clear h2
  have h3 := H3.out w2 ((HG.out.keep hb1).keep hb2)
  go_wp2_with fail
  refine h3.mono ?_
  rintro e w3 ⟨rfl, hb3⟩
  clear h3
  go_wp2_with fail
  go_ret
  exact ⟨by simp, Below.andThen (Below.andThen hb1 hb2) hb3⟩
end Go.Proofs.YtkaaldhejpaiiaaGreatDoor

/- Short labels of common signs: what Label answers. No walk in this text. -/
namespace Go.Proofs.YtkaaldhejpaiiaaGreatDoor
open Go.RowKit

theorem wnum_dgs (bias : Nat) : ∀ (d f k q : Nat), q < 36 * 10 ^ d → (wnum bias f k q).length ≤ 2 + d
  | _, 0, _, _, _ => by simp [wnum]
  | 0, f + 1, k, q, h => by
    have hb1 := Pm.bnd_pos k bias
    have hb2 := Pm.bnd_le k bias
    unfold wnum
    split
    · simp
    · rename_i hq
      have e : (q - Pm.bnd k bias) / (36 - Pm.bnd k bias) = 0 := Nat.div_eq_of_lt (by simp at h; omega)
      rw [e]
      cases f with
      | zero => simp [wnum]
      | succ f =>
        unfold wnum
        rw [if_pos (show 0 < Pm.bnd (k + 1) bias from Pm.bnd_pos _ _)]
        simp
  | d + 1, f + 1, k, q, h => by
    have hb1 := Pm.bnd_pos k bias
    have hb2 := Pm.bnd_le k bias
    unfold wnum
    split
    · simp; omega
    · rename_i hq
      have h1 : (q - Pm.bnd k bias) / (36 - Pm.bnd k bias) ≤ (q - Pm.bnd k bias) / 10 := Nat.div_le_div_left (by omega) (by omega)
      have h2 : q < 36 * 10 ^ d * 10 := by rw [Nat.mul_assoc, ← Nat.pow_succ]; exact h
      have := wnum_dgs bias d f (k + 1) ((q - Pm.bnd k bias) / (36 - Pm.bnd k bias)) (by omega)
      simp only [List.length_cons]
      omega
theorem each_dig {L : List Nat} {y : Nat} (hs : Pm.sign y = true) (hL : L.length ≤ 35) : ∀ (r : List Nat) (p d : Nat) (x : Es), r = L.drop p → p ≤ L.length → EsRel L y p x → (y - x.n) * (L.length + 1) + L.length < 36 * 10 ^ d →
    (each y r (cnt L y p) x).form.length ≤ x.form.length + 2 * (r.filter (fun m => decide (m = y))).length + d
  | [], p, d, x, _, _, _, _ => by simp [each]
  | a :: r, p, d, x, hr, hp, h, hd => by
    have hlt : p < L.length := by have := congrArg List.length hr; rw [List.length_drop] at this; simp at this; omega
    rw [List.drop_eq_getElem_cons hlt] at hr
    obtain ⟨rfl, rfl⟩ := List.cons.inj hr
    unfold each
    rw [← cnt_snoc hlt]
    by_cases he : L[p] = y
    · rw [if_pos he, List.filter_cons_of_pos (by simpa using he)]
      obtain ⟨h2, _⟩ := put_dec h hlt he hs
      have hx : (x.put (x.steps y (cnt L y p))).n = y := by rw [put_eq h]
      have ih := each_dig hs hL (L.drop (p + 1)) (p + 1) 0 _ rfl hlt h2 (by rw [hx]; simp; omega)
      have hst := steps_eq h
      have hc := cnt_le_sub L y p
      have hl := sub_len_le L y p
      have hm : (y - x.n) * (x.len + 1) ≤ (y - x.n) * (L.length + 1) := Nat.mul_le_mul_left _ (by have := h.len; omega)
      have hw := wnum_dgs x.bias d (x.steps y (cnt L y p) + 1) 1 (x.steps y (cnt L y p)) (by omega)
      have hf : (x.put (x.steps y (cnt L y p))).form.length = x.form.length + (wnum x.bias (x.steps y (cnt L y p) + 1) 1 (x.steps y (cnt L y p))).length := by rw [put_eq h, List.length_append]
      rw [hf] at ih
      simp only [List.length_cons]
      omega
    · rw [if_neg he, List.filter_cons_of_neg (by simpa using he)]
      have h2 : EsRel L y (p + 1) x := ⟨h.n, fun e => by rw [cnt_snoc hlt]; have := h.at_n e; split <;> omega, h.i, by rw [sub_other hlt y he]; exact h.len⟩
      exact each_dig hs hL (L.drop (p + 1)) (p + 1) d x rfl hlt h2 hd
theorem filter_in (y : Nat) (r : List Nat) (hy : y ∉ r) : ∀ l : List Nat, (l.filter (fun m => decide (m ∈ y :: r))).length = (l.filter (fun m => decide (m = y))).length + (l.filter (fun m => decide (m ∈ r))).length
  | [] => rfl
  | a :: l => by
    have ih := filter_in y r hy l
    by_cases ha : a = y
    · subst ha
      rw [List.filter_cons_of_pos (by simp), List.filter_cons_of_pos (by simp), List.filter_cons_of_neg (by simpa using hy)]
      simp only [List.length_cons]; omega
    · by_cases hr : a ∈ r
      · rw [List.filter_cons_of_pos (by simp [hr]), List.filter_cons_of_neg (by simpa using ha), List.filter_cons_of_pos (by simpa using hr)]
        simp only [List.length_cons]; omega
      · rw [List.filter_cons_of_neg (by simp [ha, hr]), List.filter_cons_of_neg (by simpa using ha), List.filter_cons_of_neg (by simpa using hr)]
        exact ih
theorem eachAll_dig {L : List Nat} (hL : L.length ≤ 35) (d : Nat) : ∀ (ys : List Nat) (x : Es), Come L ys → EsOk x → (∀ y ∈ ys, x.n ≤ y ∧ (x.n = y → x.i = 0)) → x.i ≤ x.len → x.len = (L.filter (fun h => decide (h ∉ ys))).length →
    (∀ y ∈ ys, (y - x.n) * (L.length + 1) + L.length < 36 * 10 ^ d) →
    (eachAll L ys x).form.length ≤ x.form.length + 2 * (L.filter (fun m => decide (m ∈ ys))).length + d * ys.length
  | [], x, _, _, _, _, _, _ => by
    have : L.filter (fun m => decide (m ∈ ([] : List Nat))) = [] := by rw [List.filter_eq_nil_iff]; simp
    rw [this]; simp [eachAll]
  | y :: r, x, hc, ho, hn, hi, hl, hd => by
    obtain ⟨hup, hsg, hlow⟩ := hc
    obtain ⟨hyr, hr⟩ := List.pairwise_cons.1 hup
    have hs := hsg y (by simp)
    have hy : y ≤ 1114111 := by unfold Pm.sign at hs; simp at hs; omega
    have e1 : L.filter (fun h => decide (h ∉ y :: r)) = sub L y 0 := by
      rw [sub_zero]
      apply List.filter_congr
      intro h hh
      congr 1
      apply propext
      constructor
      · intro hm; exact hlow h hh hm y (by simp)
      · intro hlt hm
        rcases List.mem_cons.1 hm with rfl | hm
        · omega
        · have := hyr h hm; omega
    have e2 : sub L y L.length = L.filter (fun h => decide (h ∉ r)) := by
      rw [sub_all]
      apply List.filter_congr
      intro h hh
      congr 1
      apply propext
      constructor
      · intro hle hm; have := hyr h hm; omega
      · intro hm
        by_cases he : h = y
        · omega
        · exact Nat.le_of_lt (hlow h hh (by simp [he, hm]) y (by simp))
    have hc2 : Come L r := ⟨hr, fun z hz => hsg z (by simp [hz]), fun h hh hm z hz => by
      have hyz := hyr z hz
      by_cases he : h = y
      · omega
      · have := hlow h hh (by simp [he, hm]) y (by simp); omega⟩
    have hrel : EsRel L y 0 x := ⟨(hn y (by simp)).1, fun e => by rw [cnt_zero, (hn y (by simp)).2 e]; exact Nat.le_refl _, hi, by rw [← e1]; exact hl⟩
    obtain ⟨_, k2, k3, bytes, m, k4, k5, k6, k7⟩ := each_dec hs (by omega) hy L 0 x (by simp) (Nat.zero_le _) hrel ho
    have g := each_dig hs hL L 0 d x (by simp) (Nat.zero_le _) hrel (hd y (by simp))
    rw [cnt_zero] at k2 k3 g
    have hyn : x.n ≤ (each y L 0 x).n := by
      have : ∀ (l : List Nat) (k : Nat) (x : Es), x.n ≤ (each y l k x).n := by
        intro l
        induction l with
        | nil => intro k x; exact Nat.le_refl _
        | cons a l ih =>
          intro k x
          unfold each
          refine Nat.le_trans ?_ (ih _ _)
          split
          · exact Nat.le_add_right _ _
          · exact Nat.le_refl _
      exact this L 0 x
    have ih := eachAll_dig hL d r (each y L 0 x) hc2 k3 (fun z hz => by have h1 := hyr z hz; have h2 := k2.n; exact ⟨by omega, fun e => by omega⟩) k2.i (by rw [k2.len, e2])
      (fun z hz => by
        have h1 := hd z (by simp [hz])
        have h2 : (z - (each y L 0 x).n) * (L.length + 1) ≤ (z - x.n) * (L.length + 1) := Nat.mul_le_mul_right _ (by omega)
        omega)
    rw [filter_in y r (fun hm => by have := hyr y hm; omega), List.length_cons, Nat.mul_succ d]
    unfold eachAll
    omega

/-- How long a form is at most. -/
theorem enc_dig {L : List Nat} (hs : signsL L) (hL : L.length ≤ 35) (d : Nat) (hd : ∀ y ∈ L, (y - 128) * (L.length + 1) + L.length < 36 * 10 ^ d) :
    (encS L (ysOf L)).length ≤ L.length + 1 + (oth L).length + d * (ysOf L).length := by
  have h := ysOf_ys L
  have hf := ys_filter h
  have hlen := ascF_len_eq L
  have hal := ascF_len L
  have hform : (firstEs L).form.length ≤ (ascF L).length + 1 := by unfold firstEs; simp only; split <;> simp
  have g := eachAll_dig hL d (ysOf L) (firstEs L) (ys_come h hs) ⟨Nat.le_refl _, by simp [firstEs], by omega⟩ (fun y hy => ⟨((h.all y).1 hy).2, fun _ => rfl⟩) (Nat.zero_le _) (by rw [hf]; exact hlen) (fun y hy => hd y ((h.all y).1 hy).1)
  have e : L.filter (fun m => decide (m ∈ ysOf L)) = oth L := by
    unfold oth
    apply List.filter_congr
    intro m hm
    have := h.all m
    by_cases h1 : m < 128
    · have : m ∉ ysOf L := fun hh => by have := (this.1 hh).2; omega
      simp [h1, this]
    · have : m ∈ ysOf L := this.2 ⟨hm, by omega⟩
      simp [h1, this]
  rw [e] at g
  have e2 : (ascF L).length + (oth L).length = L.length := by
    rw [hlen]
    unfold oth
    have : ∀ l : List Nat, (l.filter (fun m => decide (m < 128))).length + (l.filter (fun m => !decide (m < 128))).length = l.length := by
      intro l
      induction l with
      | nil => rfl
      | cons a l ih => by_cases ha : a < 128 <;> simp [ha] at ih ⊢ <;> omega
    exact this L
  unfold encS
  omega
theorem few_of : ∀ (ys S : List Nat), ys.Pairwise (· < ·) → (∀ y ∈ ys, y ∈ S) → ys.length ≤ S.length
  | [], _, _, _ => Nat.zero_le _
  | y :: r, S, hp, hS => by
    obtain ⟨hyr, hr⟩ := List.pairwise_cons.1 hp
    have hy := hS y (by simp)
    have ih := few_of r (S.erase y) hr fun z hz => (List.mem_erase_of_ne (by have := hyr z hz; omega)).2 (hS z (by simp [hz]))
    rw [List.length_erase_of_mem hy] at ih
    have := List.length_pos_of_mem hy
    simp only [List.length_cons]
    omega
theorem formB_dig {L : List Nat} (hs : signsL L) (hL : L.length ≤ 35) (d : Nat) (hd : ∀ y ∈ L, (y - 128) * (L.length + 1) + L.length < 36 * 10 ^ d) (m : Nat) (hm : (ysOf L).length ≤ m) :
    (formB L).size ≤ L.length + 5 + (oth L).length + d * m := by
  unfold formB
  split
  · rename_i hlow
    have : textOf L = ⟨(L.map UInt8.ofNat).toArray⟩ := by
      have e : L = (L.map UInt8.ofNat).map (·.toNat) := by
        rw [List.map_map]
        have : ∀ n ∈ L, ((fun (b : UInt8) => b.toNat) ∘ UInt8.ofNat) n = id n := fun n hn => by
          have h1 := List.all_eq_true.1 hlow n hn
          simp only [decide_eq_true_eq] at h1
          simp; omega
        rw [List.map_congr_left this, List.map_id]
      have hasc : ascB (L.map UInt8.ofNat) = true := by
        unfold ascB
        rw [List.all_map, List.all_eq_true]
        intro n hn
        have h1 := List.all_eq_true.1 hlow n hn
        simp only [decide_eq_true_eq] at h1
        simp; omega
      conv => lhs; rw [e]
      exact textOf_map _ hasc
    rw [this]
    show (L.map UInt8.ofNat).toArray.size ≤ _
    simp; omega
  · show (xn ++ encS L (ysOf L)).toArray.size ≤ _
    have h1 := enc_dig hs hL d hd
    have h2 : d * (ysOf L).length ≤ d * m := Nat.mul_le_mul_left _ hm
    simp [xn]
    omega

theorem idx_le (n : Int) : ∀ t : List (Int × Int × Int), Km.idx t n ≤ t.length
  | [] => Nat.le_refl _
  | (a, b, c) :: r => by
    have := idx_le n r
    simp only [Km.idx, List.length_cons]
    split <;> omega
theorem rC_look (n : Int) : rC (pk n) = Km.look Km.tab n := by
  rw [Km.look_idx]
  have h := idx_le n Km.tab
  have hl : Km.tab.length = 33 := rfl
  rw [hl] at h
  unfold pk
  rcases Nat.lt_or_ge (Km.idx Km.tab n) 33 with h1 | h1
  · exact (rows_same ⟨_, h1⟩).2.2.symm
  · rw [show Km.idx Km.tab n = 33 by omega]; rfl
theorem look_mem (n : Int) : ∀ t : List (Int × Int × Int), Km.look t n ≠ 0 → ∃ r ∈ t, r.1 ≤ n ∧ n ≤ r.2.1 ∧ r.2.2 = Km.look t n
  | [], h => absurd rfl h
  | (a, b, c) :: r, h => by
    unfold Km.look at h ⊢
    split
    · rename_i hh; exact ⟨(a, b, c), by simp, hh.1, hh.2, rfl⟩
    · rename_i hh
      rw [if_neg hh] at h
      obtain ⟨x, hx, h1⟩ := look_mem n r h
      exact ⟨x, by simp [hx], h1⟩
theorem rC_mem {n : Int} (h : rC (pk n) ≠ 0) : ∃ r ∈ Km.tab, r.1 ≤ n ∧ n ≤ r.2.1 ∧ r.2.2 = rC (pk n) := by
  rw [rC_look] at h ⊢
  exact look_mem n Km.tab h

/-- Letters, digits, hyphens. -/
def Common (n : Nat) : Prop := rC (pk (n : Int)) = 1 ∨ rC (pk (n : Int)) = 2 ∨ rC (pk (n : Int)) = 3
theorem rows3 : ∀ r ∈ Km.tab, r.2.2 = 3 → r.1 = 45 ∧ r.2.1 = 45 := by decide +kernel
theorem rowsCap : ∀ r ∈ Km.tab, r.2.1 < 65 ∨ 90 < r.1 := by decide +kernel
theorem rC_hyphen {n : Int} (h : rC (pk n) = 3) : n = 45 := by
  obtain ⟨r, hr, h1, h2, h3⟩ := rC_mem (n := n) (by rw [h]; decide)
  have := rows3 r hr (h3.trans h)
  omega
theorem common_ne {n : Nat} (h : Common n) : rC (pk (n : Int)) ≠ 0 ∧ rC (pk (n : Int)) ≠ 4 ∧ rC (pk (n : Int)) ≠ 5 := by
  rcases h with h | h | h <;> rw [h] <;> decide
theorem kind_range {n : Nat} (h : rC (pk (n : Int)) ≠ 0) : n ≤ 40959 ∧ ¬ (65 ≤ n ∧ n ≤ 90) := by
  obtain ⟨r, hr, h1, h2, _⟩ := rC_mem h
  have h3 := Km.tab_low r hr
  have h4 := rowsCap r hr
  omega
theorem kind_sign {n : Nat} (h : rC (pk (n : Int)) ≠ 0) : Pm.sign n = true := by
  rw [sign_iff]
  have := kind_range h
  omega
theorem five1 : ∀ i : Fin 10, rC (pk (1632 + (i.val : Int))) = 5 := by decide +kernel
theorem five2 : ∀ i : Fin 10, rC (pk (1776 + (i.val : Int))) = 5 := by decide +kernel
theorem ctx_common (L : List Nat) (kata mixed : Bool) (n i : Nat) (h : rC (pk (n : Int)) ≠ 5) : ctxM L kata mixed n i = true := by
  have k : ∀ m : Nat, rC (pk (m : Int)) = 5 → n ≠ m := fun m hm e => h (by rw [e]; exact hm)
  unfold ctxM
  rw [if_neg (k 183 rfl), if_neg (k 885 rfl), if_neg (by have := k 1523 rfl; have := k 1524 rfl; omega), if_neg (k 12539 rfl), if_neg ?_, if_neg (k 8204 rfl), if_neg (k 8205 rfl)]
  rintro (⟨h1, h2⟩ | ⟨h1, h2⟩)
  · have := five1 ⟨n - 1632, by omega⟩
    exact k n (by simp only at this; rw [show ((1632 : Int) + ((n - 1632 : Nat) : Int)) = (n : Int) by omega] at this; exact this) rfl
  · have := five2 ⟨n - 1776, by omega⟩
    exact k n (by simp only at this; rw [show ((1776 : Int) + ((n - 1776 : Nat) : Int)) = (n : Int) by omega] at this; exact this) rfl
theorem pair_common (a b : Nat) (h : rC (pk (b : Int)) ≠ 4) : Lm.pair a b = false := by
  have k : ∀ m : Nat, rC (pk (m : Int)) = 4 → b ≠ m := fun m hm e => h (by rw [e]; exact hm)
  unfold Lm.pair
  rw [if_neg (k 769 rfl), if_neg (k 776 rfl), if_neg (k 768 rfl), if_neg (k 770 rfl), if_neg (k 771 rfl), if_neg (k 807 rfl), if_neg (k 778 rfl)]
theorem noKind_iff (L : List Nat) : noKind L = L.any fun n => decide (rC (pk (n : Int)) = 0) := by
  unfold noKind
  rw [Bool.eq_iff_iff, List.any_eq_true, List.any_eq_true]
  constructor
  · rintro ⟨i, hi, h⟩
    have hl := List.mem_range.1 hi
    rw [pkAt_nat L i hl] at h
    exact ⟨L[i], List.getElem_mem hl, h⟩
  · rintro ⟨n, hn, h⟩
    obtain ⟨i, hi⟩ := List.getElem?_of_mem hn
    obtain ⟨hl, rfl⟩ := List.getElem?_eq_some_iff.1 hi
    exact ⟨i, List.mem_range.2 hl, by rw [pkAt_nat L i hl]; exact h⟩
theorem pkAt_common {L : List Nat} (h : ∀ n ∈ L, Common n) (p : Int) : rC (pkAt L p) ≠ 4 := by
  unfold pkAt
  split
  · rename_i hp
    have hl : p.toNat < L.length := by omega
    rw [List.getD_eq_getElem?_getD, List.getElem?_eq_getElem hl]
    exact (common_ne (h _ (List.getElem_mem hl))).2.1
  · decide
/-- Common signs break no rule but that of the hyphen. -/
theorem fault_common {L : List Nat} (h : ∀ n ∈ L, Common n) : faultM L = if hyphM L = true then 5 else 0 := by
  have h1 : noKind L = false := by
    rw [noKind_iff, List.any_eq_false]
    intro n hn
    simpa using (common_ne (h n hn)).1
  have h2 : decide (rC (pkAt L 0) = 4) = false := decide_eq_false (pkAt_common h 0)
  have h3 : formBad L = false := by
    unfold formBad
    rw [List.any_eq_false]
    intro i hi
    have hl := List.mem_range.1 hi
    unfold badAt
    have hb : L.getD (i + 1) 0 ∈ L := by
      rw [List.getD_eq_getElem?_getD, List.getElem?_eq_getElem (show i + 1 < L.length by omega)]
      exact List.getElem_mem _
    rw [pair_common _ _ (common_ne (h _ hb)).2.1, decide_eq_false (pkAt_common h (i : Int))]
    simp
  have h4 : ctxBad L = false := by
    unfold ctxBad
    rw [List.any_eq_false]
    intro i hi
    have hl := List.mem_range.1 hi
    have hb : L.getD i 0 ∈ L := by
      rw [List.getD_eq_getElem?_getD, List.getElem?_eq_getElem hl]
      exact List.getElem_mem _
    rw [ctx_common L _ _ _ i (common_ne (h _ hb)).2.2]
    simp
  unfold faultM
  rw [h1, h2, h3, h4]
  simp

/-- What is looked through for a text of signs. -/
theorem plain_text {L : List Nat} (hs : signsL L) (hne : L ≠ []) (hcap : allLow L = true → (∀ n ∈ L, ¬ (65 ≤ n ∧ n ≤ 90)) ∧ L.take 4 ≠ [120, 110, 45, 45]) : plainM (textOf L) = (0, L) := by
  have hr := runes_bytes hs
  have hr1 : runes (textOf L) = L := hr.1
  have hr2 : Lib.validD (textOf L).data.toList = true := hr.2
  have hz : (textOf L).size ≠ 0 := by
    have := runes_len (textOf L)
    rw [hr1] at this
    have := List.length_pos_iff.2 hne
    omega
  unfold plainM
  rw [hr2, if_neg (by decide), if_neg hz, textOf_low, hr1]
  cases ha : allLow L with
  | false => rw [if_pos rfl]
  | true =>
    obtain ⟨hc, hx⟩ := hcap ha
    have hlt : ∀ n ∈ L, n < 128 := fun n hn => by simpa using List.all_eq_true.1 ha n hn
    have e : (L.map UInt8.ofNat).map (·.toNat) = L := by
      rw [List.map_map]
      have : ∀ n ∈ L, ((fun (b : UInt8) => b.toNat) ∘ UInt8.ofNat) n = id n := fun n hn => by
        have h1 := hlt n hn
        simp; omega
      rw [List.map_congr_left this, List.map_id]
    have hasc : ascB (L.map UInt8.ofNat) = true := by
      unfold ascB
      rw [List.all_map, List.all_eq_true]
      intro n hn
      have h1 := hlt n hn
      simp; omega
    have ht : (textOf L).data.toList = L.map UInt8.ofNat := by
      have := textOf_map _ hasc
      rw [e] at this
      rw [this]
    have hlow : Lib.toLowerA (L.map UInt8.ofNat) = L.map UInt8.ofNat := by
      unfold Lib.toLowerA
      rw [List.map_map]
      apply List.map_congr_left
      intro n hn
      have h1 := hlt n hn
      have h2 := hc n hn
      apply Lib.lowerB_of_not
      rw [Lib.isUpperB_int]
      have : ((UInt8.ofNat n).toNat : Int) = n := u8_of n (by omega)
      rw [this]
      simp
      omega
    rw [ht, hlow, e, if_neg (by decide)]
    have hp : Lib.hasPrefix (L.map UInt8.ofNat) xn = false := by
      cases hh : Lib.hasPrefix (L.map UInt8.ofNat) xn with
      | false => rfl
      | true =>
        refine absurd ?_ hx
        obtain ⟨t, ht⟩ := List.isPrefixOf_iff_prefix.1 hh
        rw [← e, ← ht]
        rfl
    rw [hp, if_neg (by decide)]
theorem label_common {L : List Nat} (h : ∀ n ∈ L, Common n) (hne : L ≠ []) (hx : L.take 4 ≠ [120, 110, 45, 45]) (hz : (formB L).size ≤ 63) :
    labelM (textOf L) = if hyphM L = true then (5, [], ⟨#[]⟩) else (0, L, formB L) := by
  have hs : signsL L := fun n hn => kind_sign (common_ne (h n hn)).1
  have hp := plain_text hs hne fun _ => ⟨fun n hn => (kind_range (common_ne (h n hn)).1).2, hx⟩
  unfold labelM
  rw [hp]
  simp only
  rw [if_neg (by simp), fault_common h]
  by_cases hh : hyphM L = true
  · rw [if_pos hh, if_pos hh, if_pos (by decide)]
  · rw [if_neg hh, if_neg hh, if_neg (by simp), if_neg (by omega)]
theorem labelV_common {L : List Nat} (h : ∀ n ∈ L, Common n) (hne : L ≠ []) (hx : L.take 4 ≠ [120, 110, 45, 45]) (hz : (formB L).size ≤ 63) :
    labelV (textOf L) = if hyphM L = true then .tuple #[.string { data := #[] }, .string { data := #[] }, .int .i64 5] else .tuple #[.string (textOf L), .string (formB L), .int .i64 0] := by
  unfold labelV
  rw [label_common h hne hx hz]
  split <;> simp
end Go.Proofs.YtkaaldhejpaiiaaGreatDoor

/- pick, letters, sign, less. -/
namespace Go.Proofs.YtkaaldhejpaiiaaGreatDoor
open Go.RowKit

def pickM (c : Int) (n : Nat) : Nat := ((if c < 0 then -(c + 1) else c) % (n : Int)).toNat
theorem pickM_lt (c : Int) (n : Nat) (h : 0 < n) : pickM c n < n := by
  unfold pickM
  have h1 := Int.emod_lt_of_pos (if c < 0 then -(c + 1) else c) (show (0 : Int) < (n : Int) by omega)
  have h2 := Int.emod_nonneg (if c < 0 then -(c + 1) else c) (show (n : Int) ≠ 0 by omega)
  omega
theorem pickM_int (c : Int) (n : Nat) (h : 0 < n) : ((pickM c n : Nat) : Int) = (if c < 0 then -(c + 1) else c) % (n : Int) := by
  unfold pickM
  have h2 := Int.emod_nonneg (if c < 0 then -(c + 1) else c) (show (n : Int) ≠ 0 by omega)
  omega
set_option maxHeartbeats 1000000 in
theorem pick_gen (c : Int) (n : Nat) (w : World) (h1 : -9223372036854775808 ≤ c) (h2 : c ≤ 9223372036854775807) (h0 : 0 < n) (hn : n ≤ 2000000) :
    Calls Tryz.prog 15 #[.int .i64 c, .int .i64 (n : Int)] w fun e w' => e = .returned (.int .i64 (pickM c n : Nat)) ∧ w' = w := by
  have hp := pickM_int c n h0
  have hn0 : (n : Int) ≠ 0 := by omega
  by_cases hc : c < 0
  · have hn : 0 ≤ -(c + 1) := by omega
    rw [if_pos hc] at hp
    have hb : Int.tmod (-(c + 1)) (n : Int) = (pickM c n : Nat) := by rw [Int.tmod_eq_emod_of_nonneg hn]; exact hp.symm
    go_enter Tryz.func15, Tryz.ntmps15
    go_wp2
    go_ret
    refine ⟨ret_int ?_, rfl⟩
    first | exact hb | (rw [← hb, ← Int.neg_tmod]) | omega
  · rw [if_neg hc] at hp
    have hb : Int.tmod c (n : Int) = (pickM c n : Nat) := by rw [Int.tmod_eq_emod_of_nonneg (by omega)]; exact hp.symm
    go_enter Tryz.func15, Tryz.ntmps15
    go_wp2
    go_ret
    refine ⟨ret_int ?_, rfl⟩
    first | exact hb | omega
theorem less_any (a b : Int) (w : World) : Calls Tryz.prog 22 #[.int .i64 a, .int .i64 b] w fun e w' => e = .returned (.int .i64 (if a < b then 1 else 0)) ∧ w' = w := by
  by_cases h : a < b
  · rw [if_pos h]
    go_enter Tryz.func22, Tryz.ntmps22
    go_wp2
    go_ret
    exact ⟨rfl, rfl⟩
  · rw [if_neg h]
    go_enter Tryz.func22, Tryz.ntmps22
    go_wp2
    go_ret
    exact ⟨rfl, rfl⟩

theorem bytesOf_append : ∀ A B : List Nat, bytesOf (A ++ B) = bytesOf A ++ bytesOf B
  | [], B => rfl
  | n :: A, B => by simp [bytesOf, bytesOf_append A B]
theorem text_list (L : List Nat) : (textOf L).data.toList = bytesOf L := runesBytes_list L
theorem bytes_ext {a b : ByteArray} (h : a.data.toList = b.data.toList) : a = b := ByteArray.ext (Array.toList_inj.1 h)
theorem textOf_append (A B : List Nat) : textOf (A ++ B) = textOf A ++ textOf B := by
  apply bytes_ext
  rw [text_list, append_bytes', text_list, text_list, bytesOf_append]
  where append_bytes' {a b : ByteArray} : (a ++ b).data.toList = a.data.toList ++ b.data.toList := by rw [ByteArray.data_append]; simp
theorem textOf_one (n : Nat) : textOf [n] = Utf8.encode (n : Int) := by
  apply bytes_ext
  rw [text_list]
  simp [bytesOf]

/-- Raw numbers that lie in a slice. -/
structure Raw (w : World) (a : Option Addr) (zs : List Int) : Prop where
  len : zs.length ≤ 9223372036854775807
  cell : ∀ i (hi : i < zs.length), ∃ b off, a = some ⟨b, off, none⟩ ∧ b < w.heap.size ∧ w.cell? ⟨b, off + i, none⟩ = some (.int .i64 zs[i]) ∧ -9223372036854775808 ≤ zs[i] ∧ zs[i] ≤ 9223372036854775807
theorem Raw.keep {w w' : World} {a : Option Addr} {zs : List Int} (h : Raw w a zs) (hb : Below w.heap.size w w') : Raw w' a zs :=
  ⟨h.len, fun i hi => by
    obtain ⟨b, off, h1, h2, h3, h4⟩ := h.cell i hi
    exact ⟨b, off, h1, Nat.lt_of_lt_of_le h2 hb.size, (hb.cell (p := ⟨b, off + i, none⟩) h2).trans h3, h4⟩⟩

def let9 (k : Nat) : Nat := [97, 98, 122, 48, 55, 252, 233, 945, 28450].getD k 97
def lettersM (zs : List Int) : List Nat := 113 :: (zs.take 12).map fun c => let9 (pickM c 9)
def partL (zs : List Int) (k : Nat) : List Nat := 113 :: (zs.take k).map fun c => let9 (pickM c 9)
theorem partL_snoc (zs : List Int) (k : Nat) (h : k < zs.length) : partL zs (k + 1) = partL zs k ++ [let9 (pickM zs[k] 9)] := by
  unfold partL
  rw [List.take_succ_eq_append_getElem h, List.map_append]
  rfl
theorem partL_size (zs : List Int) (k : Nat) (h : k ≤ 12) : (textOf (partL zs k)).size ≤ 52 := by
  have h1 := textOf_len (partL zs k)
  have h2 : (partL zs k).length ≤ 13 := by unfold partL; simp; omega
  omega
set_option maxRecDepth 100000 in
set_option maxHeartbeats 4000000 in
theorem letters_any (a : Option Addr) (cap : Nat) (zs : List Int) (w : World) (hR : Raw w a zs) :
    Calls Tryz.prog 16 #[.slice a zs.length cap] w fun e w' => e = .returned (.string (textOf (lettersM zs))) ∧ Below w.heap.size w w' := by
  have hlen := hR.len
  go_enter Tryz.func16, Tryz.ntmps16
  go_wp2
  go_loopw [3, 4] (fun sv iv wr => ∃ k : Nat, k ≤ zs.length ∧ k ≤ 12 ∧ iv = .int .i64 k ∧ sv = .string (textOf (partL zs k)) ∧ Below w.heap.size w wr) (fun _ iv _ => zs.length - (intOf iv).toNat)
  case atStart => exact ⟨0, by omega, by omega, rfl, by congr 1, Below.refl _ _⟩
  case round =>
    obtain ⟨k, hk, hk12, rfl, rfl, hbw⟩ := hrel
    have hsz := partL_size zs k hk12
    obtain ⟨S, hS⟩ : ∃ S, textOf (partL zs k) = S := ⟨_, rfl⟩
    rw [hS] at hsz
    rw [hS]
    have HS : Hid (textOf (partL zs k) = S) := hS
    clear hS
    by_cases hlt : k < zs.length ∧ k < 12
    · obtain ⟨hl1, hl2⟩ := hlt
      obtain ⟨b, off, rfl, hbl, hc, hz1, hz2⟩ := hR.cell k hl1
      have HT : Hid (textOf (partL zs (k + 1)) = S ++ Utf8.encode (let9 (pickM zs[k] 9) : Int)) := by unfold Hid; rw [partL_snoc zs k hl1, textOf_append, HS.out, textOf_one]
      obtain ⟨z, hz⟩ : ∃ z, zs[k] = z := ⟨_, rfl⟩
      rw [hz] at hc hz1 hz2 HT
      have hc1 : wr.cell? ⟨b, off + k, none⟩ = some (.int .i64 z) := (hbw.cell (p := ⟨b, off + k, none⟩) hbl).trans hc
      have hpk := pick_gen z 9 wr hz1 hz2 (by omega) (by omega)
      have hp9 := pickM_lt z 9 (by omega)
      clear hc hR hz
      generalize pickM z 9 = p at hpk hp9 HT
      go_wp2_with fail
      refine hpk.mono ?_
      rintro e w' ⟨rfl, hw'⟩; rw [hw']; clear hw' hpk
      have HB : Hid (Below w.heap.size w wr) := hbw
      have hsw := hbw.size
      clear hbw
      rcases (by omega : p = 0 ∨ p = 1 ∨ p = 2 ∨ p = 3 ∨ p = 4 ∨ p = 5 ∨ p = 6 ∨ p = 7 ∨ p = 8) with rfl | rfl | rfl | rfl | rfl | rfl | rfl | rfl | rfl
      all_goals
        go_wp2
        go_roundw
        case rel => exact ⟨k + 1, by omega, by omega, by go_num, by rw [HT.out]; rfl, HB.out.alloc hsw _⟩
        case measure => simp [intOf]; omega
    · have e : partL zs k = lettersM zs := by
        unfold partL lettersM
        by_cases h12 : k = 12
        · rw [h12]
        · rw [List.take_of_length_le (show zs.length ≤ k by omega), List.take_of_length_le (show zs.length ≤ 12 by omega)]
      have HE : Hid (S = textOf (lettersM zs)) := by unfold Hid; rw [← HS.out, e]
      clear e hR
      by_cases hkl : (k : Int) < (zs.length : Int)
      all_goals
        go_wp2
        go_ret
        exact ⟨by rw [← HE.out]; rfl, hbw⟩

set_option maxRecDepth 100000 in
set_option maxHeartbeats 4000000 in
theorem sign_any (n : Nat) (w : World) (hs : Pm.sign n = true) :
    Calls Tryz.prog 18 #[.int .i64 (n : Int)] w fun e w' => e = .returned (.string (textOf [n])) ∧ Below w.heap.size w w' := by
  rw [textOf_one]
  have hle := sign_le hs
  have HV : Hid (Utf8.valid (n : Int) = true) := valid_sign hs
  clear hs
  by_cases h1 : (n : Int) < 128
  · have HE : Hid (Utf8.encode (n : Int) = ⟨[UInt8.ofNat n].toArray⟩) := by unfold Hid Utf8.encode; rw [if_pos HV.out]; simp; omega
    have hwr : IntKind.u8.wrap (n : Int) = n := by rw [IntKind.wrap_u8]; omega
    have hcv := run_oneString w n (by omega)
    go_enter Tryz.func18, Tryz.ntmps18
    go_wp2
    go_ret
    exact ⟨by rw [HE.out]; rfl, below_one _ _⟩
  · by_cases h2 : (n : Int) < 2048
    · have HE : Hid (Utf8.encode (n : Int) = ⟨[UInt8.ofNat (192 + n / 64), UInt8.ofNat (128 + n % 64)].toArray⟩) := by
        unfold Hid Utf8.encode; rw [if_pos HV.out]; simp only [Int.toNat_natCast]; rw [if_neg (by omega), if_pos (by omega)]
      have hw0 : IntKind.u8.wrap (192 + (n : Int) / 64) = 192 + (n : Int) / 64 := by rw [IntKind.wrap_u8]; omega
      have hw1 : IntKind.u8.wrap (128 + (n : Int) % 64) = 128 + (n : Int) % 64 := by rw [IntKind.wrap_u8]; omega
      have hcv := run_fresh w [UInt8.ofNat (192 + n / 64), UInt8.ofNat (128 + n % 64)] 2 rfl (by omega)
      simp only [List.map_cons, List.map_nil, bv] at hcv
      rw [u8_of _ (by omega), u8_of _ (by omega)] at hcv
      simp only [Int.natCast_add, Int.natCast_ediv, Int.natCast_emod, Int.cast_ofNat_Int] at hcv
      obtain ⟨b0, hb0⟩ : ∃ b0, UInt8.ofNat (192 + n / 64) = b0 := ⟨_, rfl⟩
      obtain ⟨b1, hb1⟩ : ∃ b1, UInt8.ofNat (128 + n % 64) = b1 := ⟨_, rfl⟩
      rw [hb0, hb1] at hcv HE
      clear hb0 hb1
      go_enter Tryz.func18, Tryz.ntmps18
      go_wp2
      go_ret
      exact ⟨by rw [HE.out]; rfl, below_one _ _⟩
    · by_cases h3 : (n : Int) < 65536
      · have HE : Hid (Utf8.encode (n : Int) = ⟨[UInt8.ofNat (224 + n / 4096), UInt8.ofNat (128 + n / 64 % 64), UInt8.ofNat (128 + n % 64)].toArray⟩) := by
          unfold Hid Utf8.encode; rw [if_pos HV.out]; simp only [Int.toNat_natCast]; rw [if_neg (by omega), if_neg (by omega), if_pos (by omega)]
        have hw0 : IntKind.u8.wrap (224 + (n : Int) / 4096) = 224 + (n : Int) / 4096 := by rw [IntKind.wrap_u8]; omega
        have hw1 : IntKind.u8.wrap (128 + (n : Int) / 64 % 64) = 128 + (n : Int) / 64 % 64 := by rw [IntKind.wrap_u8]; omega
        have hw2 : IntKind.u8.wrap (128 + (n : Int) % 64) = 128 + (n : Int) % 64 := by rw [IntKind.wrap_u8]; omega
        have hcv := run_fresh w [UInt8.ofNat (224 + n / 4096), UInt8.ofNat (128 + n / 64 % 64), UInt8.ofNat (128 + n % 64)] 3 rfl (by omega)
        simp only [List.map_cons, List.map_nil, bv] at hcv
        rw [u8_of _ (by omega), u8_of _ (by omega), u8_of _ (by omega)] at hcv
        simp only [Int.natCast_add, Int.natCast_ediv, Int.natCast_emod, Int.cast_ofNat_Int] at hcv
        obtain ⟨b0, hb0⟩ : ∃ b0, UInt8.ofNat (224 + n / 4096) = b0 := ⟨_, rfl⟩
        obtain ⟨b1, hb1⟩ : ∃ b1, UInt8.ofNat (128 + n / 64 % 64) = b1 := ⟨_, rfl⟩
        obtain ⟨b2, hb2⟩ : ∃ b2, UInt8.ofNat (128 + n % 64) = b2 := ⟨_, rfl⟩
        rw [hb0, hb1, hb2] at hcv HE
        clear hb0 hb1 hb2
        go_enter Tryz.func18, Tryz.ntmps18
        go_wp2
        go_ret
        exact ⟨by rw [HE.out]; rfl, below_one _ _⟩
      · have HE : Hid (Utf8.encode (n : Int) = ⟨[UInt8.ofNat (240 + n / 262144), UInt8.ofNat (128 + n / 4096 % 64), UInt8.ofNat (128 + n / 64 % 64), UInt8.ofNat (128 + n % 64)].toArray⟩) := by
          unfold Hid Utf8.encode; rw [if_pos HV.out]; simp only [Int.toNat_natCast]; rw [if_neg (by omega), if_neg (by omega), if_neg (by omega)]
        have hw0 : IntKind.u8.wrap (240 + (n : Int) / 262144) = 240 + (n : Int) / 262144 := by rw [IntKind.wrap_u8]; omega
        have hw1 : IntKind.u8.wrap (128 + (n : Int) / 4096 % 64) = 128 + (n : Int) / 4096 % 64 := by rw [IntKind.wrap_u8]; omega
        have hw2 : IntKind.u8.wrap (128 + (n : Int) / 64 % 64) = 128 + (n : Int) / 64 % 64 := by rw [IntKind.wrap_u8]; omega
        have hw3 : IntKind.u8.wrap (128 + (n : Int) % 64) = 128 + (n : Int) % 64 := by rw [IntKind.wrap_u8]; omega
        have hcv := run_fresh w [UInt8.ofNat (240 + n / 262144), UInt8.ofNat (128 + n / 4096 % 64), UInt8.ofNat (128 + n / 64 % 64), UInt8.ofNat (128 + n % 64)] 4 rfl (by omega)
        simp only [List.map_cons, List.map_nil, bv] at hcv
        rw [u8_of _ (by omega), u8_of _ (by omega), u8_of _ (by omega), u8_of _ (by omega)] at hcv
        simp only [Int.natCast_add, Int.natCast_ediv, Int.natCast_emod, Int.cast_ofNat_Int] at hcv
        obtain ⟨b0, hb0⟩ : ∃ b0, UInt8.ofNat (240 + n / 262144) = b0 := ⟨_, rfl⟩
        obtain ⟨b1, hb1⟩ : ∃ b1, UInt8.ofNat (128 + n / 4096 % 64) = b1 := ⟨_, rfl⟩
        obtain ⟨b2, hb2⟩ : ∃ b2, UInt8.ofNat (128 + n / 64 % 64) = b2 := ⟨_, rfl⟩
        obtain ⟨b3, hb3⟩ : ∃ b3, UInt8.ofNat (128 + n % 64) = b3 := ⟨_, rfl⟩
        rw [hb0, hb1, hb2, hb3] at hcv HE
        clear hb0 hb1 hb2 hb3
        go_enter Tryz.func18, Tryz.ntmps18
        go_wp2
        go_ret
        exact ⟨by rw [HE.out]; rfl, below_one _ _⟩
end Go.Proofs.YtkaaldhejpaiiaaGreatDoor

