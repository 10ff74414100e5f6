import Derived.Test.YtkaaldhejpaiiaaGreatDoorMc
import Derived.Test.YtkaaldhejpaiiaaGreatDoorBu23
/- The document's context. -/
namespace Go.Proofs.YtkaaldhejpaiiaaGreatDoor
open Go.RowKit

theorem rows5k : ∀ r ∈ Km.tab, r.2.2 = 5 → (r.1 = r.2.1 ∧ (r.1 = 183 ∨ r.1 = 885 ∨ r.1 = 12539)) ∨ (r.1 = 1523 ∧ r.2.1 = 1524) ∨ (r.1 = 1632 ∧ r.2.1 = 1641) ∨ (r.1 = 1776 ∧ r.2.1 = 1785) ∨ (r.1 = 8204 ∧ r.2.1 = 8205) := by decide +kernel
theorem five_cases {n : Nat} (h : rC (pk (n : Int)) = 5) : n = 183 ∨ n = 885 ∨ n = 12539 ∨ n = 1523 ∨ n = 1524 ∨ (1632 ≤ n ∧ n ≤ 1641) ∨ (1776 ≤ n ∧ n ≤ 1785) ∨ n = 8204 ∨ n = 8205 := by
  obtain ⟨r, hr, h1, h2, h3⟩ := rC_mem (n := (n : Int)) (by rw [h]; decide)
  have := rows5k r hr (h3.trans h)
  omega
theorem stands_in (L : List Nat) (p : Nat) (hp : p < L.length) (x : Int) : standsM L (p : Int) x = decide (((L[p] : Nat) : Int) = x) := by
  unfold standsM
  rw [decide_eq_true (show 0 ≤ (p : Int) ∧ (p : Int) < (L.length : Int) by omega), Int.toNat_natCast, List.getD_eq_getElem?_getD, List.getElem?_eq_getElem hp]
  rfl
theorem stands_out (L : List Nat) (p x : Int) (hp : ¬ (0 ≤ p ∧ p < (L.length : Int))) : standsM L p x = false := by
  unfold standsM
  rw [decide_eq_false hp]
  rfl
theorem at_script {w : World} {g : Nat} {L : List Nat} (hI : Ints w g L) (c : Nat) (p : Int) : ∃ (a b k : Int) (s j : ByteArray), ∀ T, rowT (dkAt L p) = T →
    Calls Tryz.prog 34 #[.slice (some ⟨g, 0, none⟩) L.length c, .int .i64 p] w fun e w' => e = .returned (.agg #[.int .i64 a, .int .i64 b, .int .i64 k, .string s, .string T, .string j]) ∧ Below w.heap.size w w' :=
  ⟨_, _, _, _, _, fun T hT => by subst hT; exact at_any' hI c p _ rfl⟩
theorem sG (L : List Nat) (p : Int) : ((rowT (dkAt L p)).toList == [71, 114, 101, 101, 107]) = decide (rD (pkAt L p) = 2) := script_is L p 2 (by decide)
theorem sH (L : List Nat) (p : Int) : ((rowT (dkAt L p)).toList == [72, 101, 98, 114, 101, 119]) = decide (rD (pkAt L p) = 3) := script_is L p 3 (by decide)
theorem sHi (L : List Nat) (p : Int) : ((rowT (dkAt L p)).toList == [72, 105, 114, 97, 103, 97, 110, 97]) = decide (rD (pkAt L p) = 6) := script_is L p 6 (by decide)
theorem sKa (L : List Nat) (p : Int) : ((rowT (dkAt L p)).toList == [75, 97, 116, 97, 107, 97, 110, 97]) = decide (rD (pkAt L p) = 7) := script_is L p 7 (by decide)
theorem sHan (L : List Nat) (p : Int) : ((rowT (dkAt L p)).toList == [72, 97, 110]) = decide (rD (pkAt L p) = 8) := script_is L p 8 (by decide)

set_option maxRecDepth 100000 in
set_option maxHeartbeats 4000000 in
theorem ctx_dot {w : World} {g : Nat} {L : List Nat} (hI : Ints w g L) (c : Nat) (i : Nat) (hi : i < L.length) (hn : L[i] = 183) :
    Calls Tryz.prog 73 #[.slice (some ⟨g, 0, none⟩) L.length c, .int .i64 (i : Int)] w fun e w' => e = .returned (.bool (standsM L ((i : Int) - 1) 108 && standsM L ((i : Int) + 1) 108)) ∧ Below w.heap.size w w' := by
  have hc := hI.cell i hi
  rw [hn] at hc
  have hlen := hI.len
  by_cases h0 : i = 0
  · rw [stands_out L ((i : Int) - 1) 108 (by omega)]
    subst h0
    clear hI
    go_enter Tryz.func73, Tryz.ntmps73
    go_wp2_with fail
    go_ret
    exact ⟨rfl, Below.refl _ _⟩
  · have hip : (0 : Int) < (i : Int) := by omega
    by_cases h1 : i + 1 < L.length
    · have ha := hI.cell (i - 1) (by omega)
      have hb := hI.cell (i + 1) h1
      have e1 := stands_in L (i - 1) (by omega) 108
      have e2 := stands_in L (i + 1) h1 108
      rw [show ((i - 1 : Nat) : Int) = (i : Int) - 1 by omega] at e1
      rw [show ((i + 1 : Nat) : Int) = (i : Int) + 1 by omega] at e2
      rw [e1, e2]
      have h1I : (i : Int) + 1 < (L.length : Int) := by omega
      have hsub : ((i : Int) - 1).toNat = i - 1 := by omega
      clear hI e1 e2 hn
      generalize L[i - 1] = x at *
      generalize L[i + 1] = y at *
      generalize L.length = n at *
      obtain ⟨j, rfl⟩ : ∃ j, i = j + 1 := ⟨i - 1, by omega⟩
      rw [Nat.add_sub_cancel] at ha
      by_cases hx : (x : Int) = 108
      · by_cases hy : (y : Int) = 108
        · rw [decide_eq_true hx, decide_eq_true hy]
          go_enter Tryz.func73, Tryz.ntmps73
          go_wp2_with fail
          go_ret
          exact ⟨by simp, Below.refl _ _⟩
        · have hy' : ((y : Int) == 108) = false := beq_eq_false_iff_ne.2 hy
          rw [decide_eq_true hx, decide_eq_false hy]
          clear hy
          go_enter Tryz.func73, Tryz.ntmps73
          go_wp2_with fail
          go_ret
          exact ⟨by simp, Below.refl _ _⟩
      · have hx' : ((x : Int) == 108) = false := beq_eq_false_iff_ne.2 hx
        rw [decide_eq_false hx]
        clear hx
        go_enter Tryz.func73, Tryz.ntmps73
        go_wp2_with fail
        go_ret
        exact ⟨by simp, Below.refl _ _⟩
    · rw [stands_out L ((i : Int) + 1) 108 (by omega), Bool.and_false]
      have h1I : ¬ (i : Int) + 1 < (L.length : Int) := by omega
      clear hI
      go_enter Tryz.func73, Tryz.ntmps73
      go_wp2_with fail
      go_ret
      exact ⟨rfl, Below.refl _ _⟩
set_option maxRecDepth 100000 in
set_option maxHeartbeats 4000000 in
theorem ctx_greek {w : World} {g : Nat} {L : List Nat} (hI : Ints w g L) (c : Nat) (i : Nat) (hi : i < L.length) (hn : L[i] = 885) :
    Calls Tryz.prog 73 #[.slice (some ⟨g, 0, none⟩) L.length c, .int .i64 (i : Int)] w fun e w' => e = .returned (.bool (decide (rD (pkAt L ((i : Int) + 1)) = 2))) ∧ Below w.heap.size w w' := by
  have hc := hI.cell i hi
  rw [hn] at hc
  have hlen := hI.len
  obtain ⟨ra, rb, rk, rs, rt, hat⟩ := at_script hI c ((i : Int) + 1)
  have hJ := sG L ((i : Int) + 1)
  generalize rowT (dkAt L ((i : Int) + 1)) = J at *
  replace hat := hat J rfl
  generalize (decide (rD (pkAt L ((i : Int) + 1)) = 2)) = v at *
  clear hI
  go_enter Tryz.func73, Tryz.ntmps73
  go_wp2_with fail
  refine hat.mono ?_
  rintro e w1 ⟨rfl, hb1⟩
  clear hat
  go_wp2_with fail
  go_ret
  exact ⟨by first | rfl | simp [hJ], hb1.alloc (by have := hb1.size; omega) _⟩
set_option maxRecDepth 100000 in
set_option maxHeartbeats 4000000 in
theorem ctx_hebrew {w : World} {g : Nat} {L : List Nat} (hI : Ints w g L) (c : Nat) (i : Nat) (hi : i < L.length) (hn : L[i] = 1523 ∨ L[i] = 1524) :
    Calls Tryz.prog 73 #[.slice (some ⟨g, 0, none⟩) L.length c, .int .i64 (i : Int)] w fun e w' => e = .returned (.bool (decide (rD (pkAt L ((i : Int) - 1)) = 3))) ∧ Below w.heap.size w w' := by
  have hc := hI.cell i hi
  have hlen := hI.len
  obtain ⟨ra, rb, rk, rs, rt, hat⟩ := at_script hI c ((i : Int) - 1)
  have hJ := sH L ((i : Int) - 1)
  generalize rowT (dkAt L ((i : Int) - 1)) = J at *
  replace hat := hat J rfl
  generalize (decide (rD (pkAt L ((i : Int) - 1)) = 3)) = v at *
  clear hI
  rcases hn with hn | hn
  all_goals
    rw [hn] at hc
    go_enter Tryz.func73, Tryz.ntmps73
    go_wp2_with fail
    refine hat.mono ?_
    rintro e w1 ⟨rfl, hb1⟩
    clear hat
    go_wp2_with fail
    go_ret
    exact ⟨by first | rfl | simp [hJ], hb1.alloc (by have := hb1.size; omega) _⟩
set_option maxRecDepth 100000 in
set_option maxHeartbeats 4000000 in
theorem ctx_digits {w : World} {g : Nat} {L : List Nat} (hI : Ints w g L) (c : Nat) (i : Nat) (hi : i < L.length) (hn : (1632 ≤ L[i] ∧ L[i] ≤ 1641) ∨ (1776 ≤ L[i] ∧ L[i] ≤ 1785)) :
    Calls Tryz.prog 73 #[.slice (some ⟨g, 0, none⟩) L.length c, .int .i64 (i : Int)] w fun e w' => e = .returned (.bool (!mixedM L)) ∧ Below w.heap.size w w' := by
  have hc := hI.cell i hi
  have hlen := hI.len
  have hin : ∀ lo hi2 : Int, lo ≤ (L[i] : Int) → (L[i] : Int) ≤ hi2 → anyIn lo hi2 L = true := fun lo hi2 h1 h2 => by
    unfold anyIn
    rw [List.any_eq_true]
    exact ⟨L[i], List.getElem_mem hi, by unfold inRange; exact decide_eq_true ⟨h1, h2⟩⟩
  rcases hn with hn | hn
  · have hsm := some_any hI c 1776 1785
    have e : mixedM L = anyIn 1776 1785 L := by unfold mixedM; rw [hin 1632 1641 (by omega) (by omega)]; rfl
    rw [e]
    generalize anyIn 1776 1785 L = v at *
    generalize L[i] = n at *
    have j1 : ((n : Int) == 183) = false := beq_eq_false_iff_ne.2 (by omega)
    have j2 : ((n : Int) == 885) = false := beq_eq_false_iff_ne.2 (by omega)
    have j3 : ((n : Int) == 1523) = false := beq_eq_false_iff_ne.2 (by omega)
    have j4 : ((n : Int) == 1524) = false := beq_eq_false_iff_ne.2 (by omega)
    have j5 : ((n : Int) == 12539) = false := beq_eq_false_iff_ne.2 (by omega)
    have j6 : (1632 : Int) ≤ (n : Int) := by omega
    have j7 : (n : Int) ≤ 1641 := by omega
    clear hI hin hn e
    go_enter Tryz.func73, Tryz.ntmps73
    go_wp2_with fail
    refine hsm.mono ?_
    rintro e w' ⟨rfl, hw'⟩; rw [hw']; clear hw' hsm
    go_wp2_with fail
    go_ret
    exact ⟨rfl, Below.refl _ _⟩
  · have hsm := some_any hI c 1632 1641
    have e : mixedM L = anyIn 1632 1641 L := by unfold mixedM; rw [hin 1776 1785 (by omega) (by omega)]; exact Bool.and_true _
    rw [e]
    generalize anyIn 1632 1641 L = v at *
    generalize L[i] = n at *
    have j1 : ((n : Int) == 183) = false := beq_eq_false_iff_ne.2 (by omega)
    have j2 : ((n : Int) == 885) = false := beq_eq_false_iff_ne.2 (by omega)
    have j3 : ((n : Int) == 1523) = false := beq_eq_false_iff_ne.2 (by omega)
    have j4 : ((n : Int) == 1524) = false := beq_eq_false_iff_ne.2 (by omega)
    have j5 : ((n : Int) == 12539) = false := beq_eq_false_iff_ne.2 (by omega)
    have j6 : (1632 : Int) ≤ (n : Int) := by omega
    have j7 : ¬ (n : Int) ≤ 1641 := by omega
    have j8 : (1776 : Int) ≤ (n : Int) := by omega
    have j9 : (n : Int) ≤ 1785 := by omega
    clear hI hin hn e
    go_enter Tryz.func73, Tryz.ntmps73
    go_wp2_with fail
    refine hsm.mono ?_
    rintro e w' ⟨rfl, hw'⟩; rw [hw']; clear hw' hsm
    go_wp2_with fail
    go_ret
    exact ⟨rfl, Below.refl _ _⟩
set_option maxRecDepth 100000 in
set_option maxHeartbeats 4000000 in
theorem ctx_join {w : World} {g : Nat} {L : List Nat} (hI : Ints w g L) (c : Nat) (i : Nat) (hi : i < L.length) (hn : L[i] = 8204 ∨ L[i] = 8205) :
    Calls Tryz.prog 73 #[.slice (some ⟨g, 0, none⟩) L.length c, .int .i64 (i : Int)] w fun e w' => e = .returned (.bool (if L[i] = 8204 then joinedM L i || standsM L ((i : Int) - 1) 2381 else standsM L ((i : Int) - 1) 2381)) ∧ Below w.heap.size w w' := by
  have hc := hI.cell i hi
  have hlen := hI.len
  have hj := joinedD_any hI c i hi
  by_cases h0 : i = 0
  · rw [stands_out L ((i : Int) - 1) 2381 (by omega)]
    clear hI
    rcases hn with hn | hn
    all_goals
      rw [hn] at hc ⊢
      subst h0
      generalize joinedM L 0 = v at *
      go_enter Tryz.func73, Tryz.ntmps73
      go_wp2_with fail
      refine hj.mono ?_
      rintro e w1 ⟨rfl, hb1⟩
      clear hj
      go_wp2_with fail
      go_ret
      exact ⟨by simp, hb1⟩
  · have hip : (0 : Int) < (i : Int) := by omega
    have ha := hI.cell (i - 1) (by omega)
    have e1 := stands_in L (i - 1) (by omega) 2381
    rw [show ((i - 1 : Nat) : Int) = (i : Int) - 1 by omega] at e1
    rw [e1]
    clear hI e1
    generalize L[i - 1] = x at *
    generalize hLn : L[i] = n at *
    clear hLn
    generalize joinedM L i = v at *
    generalize L.length = m at *
    obtain ⟨j, rfl⟩ : ∃ j, i = j + 1 := ⟨i - 1, by omega⟩
    rw [Nat.add_sub_cancel] at ha
    by_cases hx : (x : Int) = 2381
    · rcases hn with hn | hn
      all_goals
        subst hn
        clear hj
        go_enter Tryz.func73, Tryz.ntmps73
        go_wp2_with fail
        go_ret
        exact ⟨by simp, Below.refl _ _⟩
    · have hx' : ((x : Int) == 2381) = false := beq_eq_false_iff_ne.2 hx
      rcases hn with hn | hn
      all_goals
        subst hn
        go_enter Tryz.func73, Tryz.ntmps73
        go_wp2_with fail
        refine hj.mono ?_
        rintro e w1 ⟨rfl, hb1⟩
        clear hj
        go_wp2_with fail
        go_ret
        exact ⟨by simp, hb1⟩
theorem kata_iff (L : List Nat) : kataM L = (List.range L.length).any fun (i : Nat) => (decide (rD (pkAt L (i : Int)) = 6) || decide (rD (pkAt L (i : Int)) = 7) || decide (rD (pkAt L (i : Int)) = 8)) := by
  unfold kataM
  congr 1
  funext i
  simp only [List.any_cons, List.any_nil, Bool.or_false, Bool.or_assoc]
  rfl
set_option maxRecDepth 100000 in
set_option maxHeartbeats 4000000 in
theorem ctx_kata {w : World} {g : Nat} {L : List Nat} (hI : Ints w g L) (c : Nat) (i : Nat) (hi : i < L.length) (hn : L[i] = 12539) :
    Calls Tryz.prog 73 #[.slice (some ⟨g, 0, none⟩) L.length c, .int .i64 (i : Int)] w fun e w' => e = .returned (.bool (kataM L)) ∧ Below w.heap.size w w' := by
  have hc := hI.cell i hi
  rw [hn] at hc
  have hlen := hI.len
  have HI : Hid (Ints w g L) := hI
  have HK : Hid (kataM L = (List.range L.length).any fun (i : Nat) => (decide (rD (pkAt L (i : Int)) = 6) || decide (rD (pkAt L (i : Int)) = 7) || decide (rD (pkAt L (i : Int)) = 8))) := kata_iff L
  clear hI hn
  obtain ⟨n, hnn⟩ : ∃ n, L.length = n := ⟨_, rfl⟩
  have HN : Hid (L.length = n) := hnn
  rw [hnn] at hlen hi ⊢
  clear hnn
  go_enter Tryz.func73, Tryz.ntmps73
  go_wp2_with fail
  go_loopw [8] (fun pv wr => ∃ k : Nat, k ≤ n ∧ pv = .int .i64 (k : Int) ∧ (∀ j, j < k → (decide (rD (pkAt L (j : Int)) = 6) || decide (rD (pkAt L (j : Int)) = 7) || decide (rD (pkAt L (j : Int)) = 8)) = false) ∧ Below w.heap.size w wr) (fun pv _ => n - (intOf pv).toNat)
  case atStart => exact ⟨0, by omega, rfl, fun j hj => absurd hj (Nat.not_lt_zero _), Below.refl _ _⟩
  case round =>
    obtain ⟨k, hk, rfl, hno, hbw⟩ := hrel
    have HNO : Hid (∀ j, j < k → (decide (rD (pkAt L (j : Int)) = 6) || decide (rD (pkAt L (j : Int)) = 7) || decide (rD (pkAt L (j : Int)) = 8)) = false) := hno
    have HBW : Hid (Below w.heap.size w wr) := hbw
    have hbs := hbw.size
    obtain ⟨ra, rb, rk, rs, rt, hat⟩ := at_script (HI.out.keep hbw) c (k : Int)
    have h6 := sHi L (k : Int)
    have h7 := sKa L (k : Int)
    have h8 := sHan L (k : Int)
    generalize rowT (dkAt L (k : Int)) = J at *
    replace hat := hat J rfl
    rw [HN.out] at hat
    clear hno hbw
    by_cases hkn : k < n
    · have hkn' : (k : Int) < (n : Int) := by omega
      have HV : Hid (kataM L = true ∨ (decide (rD (pkAt L (k : Int)) = 6) || decide (rD (pkAt L (k : Int)) = 7) || decide (rD (pkAt L (k : Int)) = 8)) = false) := by
        unfold Hid
        cases hv : (decide (rD (pkAt L (k : Int)) = 6) || decide (rD (pkAt L (k : Int)) = 7) || decide (rD (pkAt L (k : Int)) = 8)) with
        | false => exact Or.inr rfl
        | true => left; rw [HK.out, List.any_eq_true]; exact ⟨k, List.mem_range.2 (by rw [HN.out]; exact hkn), hv⟩
      cases v6 : decide (rD (pkAt L (k : Int)) = 6)
      · cases v7 : decide (rD (pkAt L (k : Int)) = 7)
        · cases v8 : decide (rD (pkAt L (k : Int)) = 8)
          · rw [v6] at h6
            rw [v7] at h7
            rw [v8] at h8
            have HE : Hid ((decide (rD (pkAt L (k : Int)) = 6) || decide (rD (pkAt L (k : Int)) = 7) || decide (rD (pkAt L (k : Int)) = 8)) = false) := by unfold Hid; rw [v6, v7, v8]; rfl
            clear v6 v7 v8 HV HK
            go_wp2_with fail
            refine hat.mono ?_
            rintro e w1 ⟨rfl, hb1⟩
            clear hat
            go_wp2_with fail
            go_roundw
            case rel =>
              refine ⟨k + 1, by omega, by go_num, fun j hj => ?_, (Below.andThen HBW.out hb1).alloc (by have := hb1.size; omega) _⟩
              rcases Nat.lt_or_ge j k with h | h
              · exact HNO.out j h
              · obtain rfl : j = k := by omega
                exact HE.out
            case measure => simp [intOf]; omega
          · rw [v6] at h6
            rw [v7] at h7
            rw [v8] at h8
            rw [v6, v7, v8] at HV
            have HE : Hid (kataM L = true) := by rcases HV.out with h | h; exact h; cases h
            clear v6 v7 v8 HV HK
            go_wp2_with fail
            refine hat.mono ?_
            rintro e w1 ⟨rfl, hb1⟩
            clear hat
            go_wp2_with fail
            go_ret
            exact ⟨by rw [HE.out]; rfl, (Below.andThen HBW.out hb1).alloc (by have := hb1.size; omega) _⟩
        · rw [v6] at h6
          rw [v7] at h7
          rw [v6, v7] at HV
          have HE : Hid (kataM L = true) := by rcases HV.out with h | h; exact h; cases h
          clear v6 v7 HV HK
          go_wp2_with fail
          refine hat.mono ?_
          rintro e w1 ⟨rfl, hb1⟩
          clear hat
          go_wp2_with fail
          go_ret
          exact ⟨by rw [HE.out]; rfl, (Below.andThen HBW.out hb1).alloc (by have := hb1.size; omega) _⟩
      · rw [v6] at h6
        rw [v6] at HV
        have HE : Hid (kataM L = true) := by rcases HV.out with h | h; exact h; cases h
        clear v6 HV HK
        go_wp2_with fail
        refine hat.mono ?_
        rintro e w1 ⟨rfl, hb1⟩
        clear hat
        go_wp2_with fail
        go_ret
        exact ⟨by rw [HE.out]; rfl, (Below.andThen HBW.out hb1).alloc (by have := hb1.size; omega) _⟩
    · have hkn' : ¬ (k : Int) < (n : Int) := by omega
      have HE : Hid (kataM L = false) := by
        unfold Hid
        rw [HK.out, List.any_eq_false]
        intro j hj
        have hj2 := List.mem_range.1 hj
        rw [HN.out] at hj2
        rw [HNO.out j (by omega)]
        decide
      clear hat h6 h7 h8
      go_wp2_with fail
      go_ret
      exact ⟨by rw [HE.out]; rfl, HBW.out⟩
/-- The document's context is the project's, where it is asked. -/
theorem context_any {w : World} {g : Nat} {L : List Nat} (hI : Ints w g L) (c : Nat) (i : Nat) (hi : i < L.length) (h5 : rC (pk ((L[i] : Nat) : Int)) = 5) :
    Calls Tryz.prog 73 #[.slice (some ⟨g, 0, none⟩) L.length c, .int .i64 (i : Int)] w fun e w' => e = .returned (.bool (ctxM L (kataM L) (mixedM L) L[i] i)) ∧ Below w.heap.size w w' := by
  unfold ctxM
  rcases five_cases h5 with h | h | h | h | h | h | h | h | h
  · rw [if_pos h]
    exact ctx_dot hI c i hi h
  · rw [if_neg (by omega), if_pos h]
    exact ctx_greek hI c i hi h
  · rw [if_neg (by omega), if_neg (by omega), if_neg (by omega), if_pos h]
    exact ctx_kata hI c i hi h
  · rw [if_neg (by omega), if_neg (by omega), if_pos (by omega)]
    exact ctx_hebrew hI c i hi (Or.inl h)
  · rw [if_neg (by omega), if_neg (by omega), if_pos (by omega)]
    exact ctx_hebrew hI c i hi (Or.inr h)
  · rw [if_neg (by omega), if_neg (by omega), if_neg (by omega), if_neg (by omega), if_pos (by omega)]
    exact ctx_digits hI c i hi (Or.inl h)
  · rw [if_neg (by omega), if_neg (by omega), if_neg (by omega), if_neg (by omega), if_pos (by omega)]
    exact ctx_digits hI c i hi (Or.inr h)
  · rw [if_neg (by omega), if_neg (by omega), if_neg (by omega), if_neg (by omega), if_neg (by omega)]
    have := ctx_join hI c i hi (Or.inl h)
    rw [if_pos h] at this ⊢
    exact this
  · rw [if_neg (by omega), if_neg (by omega), if_neg (by omega), if_neg (by omega), if_neg (by omega)]
    have := ctx_join hI c i hi (Or.inr h)
    rw [if_neg (by omega)] at this ⊢
    rw [if_pos h]
    exact this
end Go.Proofs.YtkaaldhejpaiiaaGreatDoor

