import Derived.Test.YtkaaldhejpaiiaaGreatDoorOo
import Derived.Test.YtkaaldhejpaiiaaGreatDoorOn
/- Joined, at every input. -/
namespace Go.Proofs.YtkaaldhejpaiiaaGreatDoor
open Go.RowKit

/-- Rows of raw numbers that lie in a slice. -/
structure Raws (w : World) (a : Option Addr) (rs : List (List Int)) : Prop where
  len : rs.length ≤ 9223372036854775807
  cell : ∀ i (hi : i < rs.length), ∃ b off a' cap', a = some ⟨b, off, none⟩ ∧ b < w.heap.size ∧ w.cell? ⟨b, off + i, none⟩ = some (.slice a' rs[i].length cap') ∧ Raw w a' rs[i]
theorem Raws.keep {w w' : World} {a : Option Addr} {rs : List (List Int)} (h : Raws w a rs) (hb : Below w.heap.size w w') : Raws w' a rs :=
  ⟨h.len, fun i hi => by
    obtain ⟨b, off, a', cap', h1, h2, h3, h4⟩ := h.cell i hi
    exact ⟨b, off, a', cap', h1, Nat.lt_of_lt_of_le h2 hb.size, (hb.cell (p := ⟨b, off + i, none⟩) h2).trans h3, h4.keep hb⟩⟩
theorem texts_small (rs : List (List Int)) : ∀ x ∈ (rowsL rs).map textOf, x.size ≤ 63 := fun x hx => by
  obtain ⟨L, hL, rfl⟩ := List.mem_map.1 hx
  obtain ⟨zs, rfl⟩ := rowsL_mem rs L hL
  have := letters_size zs
  omega
theorem forms_small (rs : List (List Int)) : ∀ x ∈ (rowsL rs).map formB, x.size ≤ 63 := fun x hx => by
  obtain ⟨L, hL, rfl⟩ := List.mem_map.1 hx
  obtain ⟨zs, rfl⟩ := rowsL_mem rs L hL
  have := letters_form zs
  omega
theorem broken_small (rs : List (List Int)) (p : Nat) (hp : p ≤ (rowsL rs).length) : ∀ x ∈ brokenL rs p, x.size ≤ 63 := fun x hx => by
  rcases (List.mem_insertIdx (by simpa using hp)).1 hx with h | h
  · rw [h]; decide
  · exact texts_small rs x h
theorem nil_append (a : ByteArray) : (⟨#[]⟩ : ByteArray) ++ a = a := by
  apply bytes_ext
  rw [app_list]
  rfl
set_option maxRecDepth 100000 in
set_option maxHeartbeats 16000000 in
theorem joined_any (a : Option Addr) (cap : Nat) (rs : List (List Int)) (dot : Bool) (bad : Int) (w : World) (hG : Ground w) (hR : Raws w a rs)
    (hb1 : -9223372036854775808 ≤ bad) (hb2 : bad ≤ 9223372036854775807) :
    Calls Tryz.prog 8 #[.slice a rs.length cap, .bool dot, .int .i64 bad] w fun e w' => e = .returned (.bool true) ∧ Below w.heap.size w w' := by
  have hlk := looks_any w hG
  have HG : Hid (∀ W, Below w.heap.size w W → Ground W) := fun W hW => hG.keep hW
  have HR : Hid (∀ W, Below w.heap.size w W → Raws W a rs) := fun W hW => hR.keep hW
  have hlen := hR.len
  have hN := rowsL_len rs
  clear hG hR
  obtain ⟨N, hNe⟩ : ∃ N, (rowsL rs).length = N := ⟨_, rfl⟩
  rw [hNe] at hN
  have HTz : Hid (∀ k, k ≤ 5 → (dotK ((rowsL rs).map textOf) k).size ≤ 320) := fun k hk => dotK_size ((rowsL rs).map textOf) k hk (texts_small rs)
  have HFz : Hid (∀ k, k ≤ 5 → (dotK ((rowsL rs).map formB) k).size ≤ 320) := fun k hk => dotK_size ((rowsL rs).map formB) k hk (forms_small rs)
  have HN : Hid ((rowsL rs).length = N) := hNe
  clear hNe
  have hn4 : N ≤ 4 := by omega
  have hnr : N ≤ rs.length := by omega
  have HN4 : Hid (N < 4 → N = rs.length) := by unfold Hid; omega
  clear hN
  go_enter Tryz.func8, Tryz.ntmps8
  go_wp2_with fail
  refine hlk.mono ?_
  rintro e w1 ⟨rfl, hbw1⟩
  clear hlk
  go_wp2_with fail
  go_loopw [8, 9, 10, 11] (fun uv av nv iv wr => ∃ k : Nat, k ≤ N ∧ iv = .int .i64 k ∧ nv = .int .i64 k ∧ uv = .string (dotK ((rowsL rs).map textOf) k) ∧ av = .string (dotK ((rowsL rs).map formB) k) ∧ Below w.heap.size w wr) (fun _ _ _ iv _ => N - (intOf iv).toNat)
  case atStart => exact ⟨0, by omega, rfl, rfl, rfl, rfl, hbw1⟩
  case round =>
    obtain ⟨k, hk, rfl, rfl, rfl, rfl, hbw⟩ := hrel
    have hsT := HTz.out k (by omega)
    have hsF := HFz.out k (by omega)
    have HB : Hid (Below w.heap.size w wr) := hbw
    clear hbw
    by_cases hlt : k < N
    · have hkr : k < rs.length := by omega
      have hk4 : (k : Int) < 4 := by omega
      obtain ⟨b0, off, a', cap', rfl, hbl, hc, hraw⟩ := (HR.out wr HB.out).cell k hkr
      have hle := letters_any a' cap' rs[k] wr hraw
      have hlv := letters_labelV rs[k]
      have hza := letters_size rs[k]
      have hzf := letters_form rs[k]
      have HL : Hid (∀ W, Ground W → Calls Tryz.prog 11 #[.string (textOf (lettersM rs[k]))] W fun e w' => e = .returned (.tuple #[.string (textOf (lettersM rs[k])), .string (formB (lettersM rs[k])), .int .i64 0]) ∧ Below W.heap.size W w') := fun W hW => by rw [← hlv]; exact Label_at _ W (by omega) hW
      have lT : k < ((rowsL rs).map textOf).length := by rw [List.length_map, HN.out]; exact hlt
      have lF : k < ((rowsL rs).map formB).length := by rw [List.length_map, HN.out]; exact hlt
      have eT : ((rowsL rs).map textOf)[k] = textOf (lettersM rs[k]) := by rw [List.getElem_map, rowsL_at rs k (by rw [HN.out]; exact hlt) hkr]
      have eF : ((rowsL rs).map formB)[k] = formB (lettersM rs[k]) := by rw [List.getElem_map, rowsL_at rs k (by rw [HN.out]; exact hlt) hkr]
      clear hlv hraw
      have HT0 : Hid (k = 0 → dotK ((rowsL rs).map textOf) (k + 1) = textOf (lettersM rs[k]) ∧ dotK ((rowsL rs).map formB) (k + 1) = formB (lettersM rs[k])) := fun h0 => by
        subst h0
        exact ⟨(dotK_one _ lT).trans eT, (dotK_one _ lF).trans eF⟩
      have HT1 : Hid (1 ≤ k → dotK ((rowsL rs).map textOf) (k + 1) = dotK ((rowsL rs).map textOf) k ++ ⟨#[46]⟩ ++ textOf (lettersM rs[k]) ∧ dotK ((rowsL rs).map formB) (k + 1) = dotK ((rowsL rs).map formB) k ++ ⟨#[46]⟩ ++ formB (lettersM rs[k])) := fun h1 => by
        rw [dotK_succ _ k h1 lT, dotK_succ _ k h1 lF, eT, eF]
        exact ⟨rfl, rfl⟩
      clear lT lF eT eF
      obtain ⟨LL, hLL⟩ : ∃ LL, rs[k].length = LL := ⟨_, rfl⟩
      rw [hLL] at hc hle
      clear hLL
      generalize textOf (lettersM rs[k]) = t at *
      generalize formB (lettersM rs[k]) = f at *
      go_wp2_with fail
      refine hle.mono ?_
      rintro e w2 ⟨rfl, hb2⟩
      clear hle
      have hl2 := HL.out w2 (HG.out w2 (Below.andThen HB.out hb2))
      go_wp2_with fail
      refine hl2.mono ?_
      rintro e w3 ⟨rfl, hb3⟩
      clear hl2 HL
      have HB3 : Hid (Below w.heap.size w w3) := Below.andThen (Below.andThen HB.out hb2) hb3
      clear hb2 hb3
      by_cases hk0 : k = 0
      · obtain ⟨e1, e2⟩ := HT0.out hk0
        have HE : Hid (dotK ((rowsL rs).map textOf) (k + 1) = t ∧ dotK ((rowsL rs).map formB) (k + 1) = f) := ⟨e1, e2⟩
        clear HT0 HT1 e1 e2 hsT hsF
        subst hk0
        rw [dotK_zero, dotK_zero]
        go_wp2_with fail
        go_roundw
        case rel => exact ⟨1, by omega, by go_num, by go_num, by rw [HE.out.1, nil_append], by rw [HE.out.2, nil_append], HB3.out⟩
        case measure => simp [intOf]; omega
      · obtain ⟨e1, e2⟩ := HT1.out (by omega)
        have HE : Hid (dotK ((rowsL rs).map textOf) (k + 1) = dotK ((rowsL rs).map textOf) k ++ ⟨#[46]⟩ ++ t ∧ dotK ((rowsL rs).map formB) (k + 1) = dotK ((rowsL rs).map formB) k ++ ⟨#[46]⟩ ++ f) := ⟨e1, e2⟩
        have hkp : (0 : Int) < (k : Int) := by omega
        have y1 : (dotK ((rowsL rs).map textOf) k ++ ⟨#[46]⟩).size ≤ 321 := by rw [ByteArray.size_append]; exact Nat.add_le_add hsT (Nat.le_refl 1)
        have y2 : (dotK ((rowsL rs).map formB) k ++ ⟨#[46]⟩).size ≤ 321 := by rw [ByteArray.size_append]; exact Nat.add_le_add hsF (Nat.le_refl 1)
        clear HT0 HT1 e1 e2
        go_wp2_with fail
        go_roundw
        case rel => exact ⟨k + 1, by omega, by go_num, by go_num, by rw [HE.out.1], by rw [HE.out.2], HB3.out⟩
        case measure => simp [intOf]; omega
    · obtain rfl : k = N := by omega
      clear hlt HTz HFz
      by_cases hk0 : k = 0
      · have hl0 : ¬ (0 : Int) < (rs.length : Int) := by have := HN4.out (by omega); omega
        have hne : nameV { data := #[] } = _ := name_empty
        have hn0 : Calls Tryz.prog 20 #[.string { data := #[] }] wr fun e w' => e = .returned (.tuple #[.string { data := #[] }, .string { data := #[] }, .int .i64 0, .int .i64 2]) ∧ Below wr.heap.size wr w' := by rw [← hne]; exact Name_at _ wr (by decide) (HG.out wr HB.out)
        clear hne
        subst hk0
        go_wp2_with fail
        refine hn0.mono ?_
        rintro e w2 ⟨rfl, hb2⟩
        clear hn0
        go_wp2_with fail
        go_ret
        exact ⟨by simp, Below.andThen HB.out hb2⟩
      · have hkn : ((k : Int) == 0) = false := beq_eq_false_iff_ne.2 (by omega)
        have hrn : rowsL rs ≠ [] := fun e => by have := HN.out; rw [e] at this; simp at this; omega
        have eT := dotK_all ((rowsL rs).map textOf) k (by rw [List.length_map, HN.out]; exact Nat.le_refl _)
        have eF := dotK_all ((rowsL rs).map formB) k (by rw [List.length_map, HN.out]; exact Nat.le_refl _)
        have j1 := joined1 rs hrn dot
        have j2 := joined2 rs hrn dot
        rw [← eT, ← eF] at j1 j2
        have ez : (eB dot).size ≤ 1 := by cases dot <;> decide
        have HJ1 : Hid (∀ W, Ground W → Calls Tryz.prog 20 #[.string (dotK ((rowsL rs).map textOf) k ++ eB dot)] W fun e w' => e = .returned (.tuple #[.string (dotK ((rowsL rs).map textOf) k ++ eB dot), .string (dotK ((rowsL rs).map formB) k ++ eB dot), .int .i64 0, .int .i64 0]) ∧ Below W.heap.size W w') := fun W hW => by
          have h := Name_at (dotK ((rowsL rs).map textOf) k ++ eB dot) W (by rw [ByteArray.size_append]; omega) hW
          rwa [j1] at h
        have HJ2 : Hid (∀ W, Ground W → Calls Tryz.prog 20 #[.string (dotK ((rowsL rs).map formB) k ++ eB dot)] W fun e w' => e = .returned (.tuple #[.string (dotK ((rowsL rs).map textOf) k ++ eB dot), .string (dotK ((rowsL rs).map formB) k ++ eB dot), .int .i64 0, .int .i64 0]) ∧ Below W.heap.size W w') := fun W hW => by
          have h := Name_at (dotK ((rowsL rs).map formB) k ++ eB dot) W (by rw [ByteArray.size_append]; omega) hW
          rwa [j2] at h
        clear j1 j2 eT eF hrn
        have HPK : Hid (∀ W, Calls Tryz.prog 15 #[.int .i64 bad, .int .i64 ((k + 1 : Nat) : Int)] W fun e w' => e = .returned (.int .i64 (pickM bad (k + 1) : Nat)) ∧ w' = W) := fun W => pick_gen bad (k + 1) W hb1 hb2 (by omega) (by omega)
        have hpl := pickM_lt bad (k + 1) (by omega)
        generalize pickM bad (k + 1) = p at HPK hpl
        have hXl := broken_len rs p (by rw [HN.out]; omega)
        rw [HN.out] at hXl
        have HXz : Hid (∀ j, j ≤ 5 → (dotK (brokenL rs p) j).size ≤ 320) := fun j hj => dotK_size (brokenL rs p) j hj (broken_small rs p (by rw [HN.out]; omega))
        have HX : Hid (∀ j (hj : j < (brokenL rs p).length), (brokenL rs p)[j] = if j = p then dashB else textOf ((rowsL rs).getD (j - (if p < j then 1 else 0)) [])) := fun j hj => broken_at rs p j hj (by rw [HN.out]; omega)
        have HJ3 : Hid (∀ W, Ground W → Calls Tryz.prog 20 #[.string (dotK (brokenL rs p) (k + 1) ++ eB dot)] W fun e w' => e = .returned (.tuple #[.string { data := #[] }, .string { data := #[] }, .int .i64 (p : Int), .int .i64 5]) ∧ Below W.heap.size W w') := fun W hW => by
          have hall := dotK_all (brokenL rs p) (k + 1) (by rw [hXl]; exact Nat.le_refl _)
          have h := Name_at (dotK (brokenL rs p) (k + 1) ++ eB dot) W (by have := HXz.out (k + 1) (by omega); rw [ByteArray.size_append]; omega) hW
          rw [hall, joined3 rs p (by rw [HN.out]; omega) dot] at h
          rw [hall]
          exact h
        generalize hU : dotK ((rowsL rs).map textOf) k = U at *
        generalize hA : dotK ((rowsL rs).map formB) k = A at *
        clear hU hA
        have HRL : Hid (∀ j, j < k → ∃ z, (rowsL rs).getD j [] = lettersM z ∧ ∃ h : j < rs.length, z = rs[j]) := fun j hj => by
          refine ⟨rs[j], ?_, by omega, rfl⟩
          rw [List.getD_eq_getElem?_getD, List.getElem?_eq_getElem (by rw [HN.out]; exact hj)]
          exact rowsL_at rs j _ _
        generalize brokenL rs p = X at *
        cases dot
        all_goals
          simp only [eB, if_true, Bool.false_eq_true, if_false] at HJ1 HJ2 HJ3 ez
          rcases (show (¬ (k : Int) < (rs.length : Int)) ∨ ((k : Int) < (rs.length : Int) ∧ ¬ (k : Int) < 4) by
            rcases Nat.lt_or_ge k 4 with h | h
            · have := HN4.out h; omega
            · omega) with hkl | ⟨hkl, hk4⟩
          all_goals
            have c1 := HJ1.out wr (HG.out wr HB.out)
            go_wp2_with fail
            refine c1.mono ?_
            rintro e w2 ⟨rfl, hb2⟩
            clear c1
            have HB2 : Hid (Below w.heap.size w w2) := Below.andThen HB.out hb2
            clear hb2
            have c2 := HJ2.out w2 (HG.out w2 HB2.out)
            go_wp2_with fail
            refine c2.mono ?_
            rintro e w3 ⟨rfl, hb3⟩
            clear c2
            have HB3 : Hid (Below w.heap.size w w3) := Below.andThen HB2.out hb3
            clear hb3
            have c3 := HPK.out w3
            rw [show ((k + 1 : Nat) : Int) = (k : Int) + 1 by omega] at c3
            go_wp2_with fail
            refine c3.mono ?_
            rintro e w' ⟨rfl, hw'⟩; rw [hw']; clear hw' c3
            go_wp2_with fail
            go_loopw [31, 32] (fun sv iv wr => ∃ j : Nat, j ≤ k + 1 ∧ iv = .int .i64 j ∧ sv = .string (dotK X j) ∧ Below w.heap.size w wr) (fun _ iv _ => k + 1 - (intOf iv).toNat)
            case atStart => exact ⟨0, by omega, rfl, rfl, HB3.out⟩
            case round =>
              obtain ⟨j, hj, rfl, rfl, hbj⟩ := hrel
              have hsX := HXz.out j (by omega)
              have HBJ : Hid (Below w.heap.size w wr) := hbj
              clear hbj
              by_cases hjk : j < k + 1
              · have hjk2 : (j : Int) ≤ (k : Int) := by omega
                have lX : j < X.length := by omega
                have eX := HX.out j lX
                have HD0 : Hid (j = 0 → dotK X (j + 1) = X[j]) := fun h0 => by subst h0; exact dotK_one X lX
                have HD1 : Hid (1 ≤ j → dotK X (j + 1) = dotK X j ++ ⟨#[46]⟩ ++ X[j]) := fun h1 => dotK_succ X j h1 lX
                obtain ⟨xj, hxj⟩ : ∃ xj, X[j] = xj := ⟨_, rfl⟩
                rw [hxj] at eX HD0 HD1
                clear hxj
                have y1 : (dotK X j ++ ⟨#[46]⟩).size ≤ 321 := by rw [ByteArray.size_append]; exact Nat.add_le_add hsX (Nat.le_refl 1)
                by_cases hjp : j = p
                · rw [if_pos hjp] at eX
                  unfold dashB at eX
                  subst eX
                  subst hjp
                  by_cases hj0 : j = 0
                  · have e1 := HD0.out hj0
                    have HE : Hid (dotK X (j + 1) = ⟨#[45]⟩) := e1
                    clear e1 HD0 HD1 hsX y1 lX
                    subst hj0
                    rw [dotK_zero]
                    go_wp2_with fail
                    go_roundw
                    case rel => exact ⟨1, by omega, by go_num, by rw [HE.out]; rfl, HBJ.out⟩
                    case measure => first | (simp [intOf]; done) | (simp [intOf]; omega)
                  · have e1 := HD1.out (by omega)
                    have HE : Hid (dotK X (j + 1) = dotK X j ++ ⟨#[46]⟩ ++ ⟨#[45]⟩) := e1
                    have hjpos : (0 : Int) < (j : Int) := by omega
                    clear e1 HD0 HD1 lX
                    go_wp2_with fail
                    go_roundw
                    case rel => exact ⟨j + 1, by omega, by go_num, by rw [HE.out], HBJ.out⟩
                    case measure => simp [intOf]; omega
                · rw [if_neg hjp] at eX
                  have cjp : ((j : Int) == (p : Int)) = false := beq_eq_false_iff_ne.2 (by omega)
                  have hls := less_any (p : Int) (j : Int) wr
                  obtain ⟨m, hm⟩ : ∃ m, j - (if p < j then 1 else 0) = m := ⟨_, rfl⟩
                  have hmI : (j : Int) - (if (p : Int) < (j : Int) then 1 else 0) = (m : Int) := by
                    rw [← hm]
                    by_cases h : p < j
                    · rw [if_pos h, if_pos (by omega)]; omega
                    · rw [if_neg h, if_neg (by omega)]; omega
                  have hmk : m < k := by
                    rw [← hm]
                    by_cases h : p < j
                    · rw [if_pos h]; omega
                    · rw [if_neg h]; omega
                  have hmj : m ≤ j := by rw [← hm]; exact Nat.sub_le _ _
                  rw [hm] at eX
                  obtain ⟨z, ez, hmr, rfl⟩ := HRL.out m hmk
                  rw [ez] at eX
                  subst eX
                  obtain ⟨b0, off, a', cap', rfl, hbl, hc, hraw⟩ := (HR.out wr HBJ.out).cell m hmr
                  have hle := letters_any a' cap' rs[m] wr hraw
                  have hza := letters_size rs[m]
                  obtain ⟨LL, hLL⟩ : ∃ LL, rs[m].length = LL := ⟨_, rfl⟩
                  rw [hLL] at hc hle
                  clear hLL ez hraw hm
                  generalize textOf (lettersM rs[m]) = t at *
                  generalize (if (p : Int) < (j : Int) then (1 : Int) else 0) = le at hls hmI
                  have hmr2 : (m : Int) < (rs.length : Int) := by omega
                  by_cases hj0 : j = 0
                  · have e1 := HD0.out hj0
                    have HE : Hid (dotK X (j + 1) = t) := e1
                    clear e1 HD0 HD1 hsX y1
                    subst hj0
                    obtain rfl : m = 0 := by omega
                    obtain rfl : le = 0 := by omega
                    rw [Nat.add_zero] at hc
                    rw [dotK_zero]
                    go_wp2_with fail
                    refine hls.mono ?_
                    rintro e w' ⟨rfl, hw'⟩; rw [hw']; clear hw' hls
                    go_wp2_with fail
                    refine hle.mono ?_
                    rintro e w9 ⟨rfl, hb9⟩
                    clear hle
                    go_wp2_with fail
                    go_roundw
                    case rel => exact ⟨1, by omega, by go_num, by first | (rw [HE.out]; done) | (rw [HE.out, nil_append]; done), Below.andThen HBJ.out hb9⟩
                    case measure => first | (simp [intOf]; done) | (simp [intOf]; omega)
                  · have e1 := HD1.out (by omega)
                    have HE : Hid (dotK X (j + 1) = dotK X j ++ ⟨#[46]⟩ ++ t) := e1
                    have hjpos : (0 : Int) < (j : Int) := by omega
                    clear e1 HD0 HD1
                    go_wp2_with fail
                    refine hls.mono ?_
                    rintro e w' ⟨rfl, hw'⟩; rw [hw']; clear hw' hls
                    go_wp2_with fail
                    refine hle.mono ?_
                    rintro e w9 ⟨rfl, hb9⟩
                    clear hle
                    go_wp2_with fail
                    go_roundw
                    case rel => exact ⟨j + 1, by omega, by go_num, by rw [HE.out], Below.andThen HBJ.out hb9⟩
                    case measure => simp [intOf]; omega
              · obtain rfl : j = k + 1 := by omega
                have hjk2 : ¬ ((k + 1 : Nat) : Int) ≤ (k : Int) := by omega
                have c4 := HJ3.out wr (HG.out wr HBJ.out)
                go_wp2_with fail
                refine c4.mono ?_
                rintro e w9 ⟨rfl, hb9⟩
                clear c4
                go_wp2_with fail
                go_ret
                exact ⟨by simp, Below.andThen HBJ.out hb9⟩
end Go.Proofs.YtkaaldhejpaiiaaGreatDoor

