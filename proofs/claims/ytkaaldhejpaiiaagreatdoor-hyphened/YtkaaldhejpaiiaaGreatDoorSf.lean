/- The document's answer: decode. -/
import Derived.Test.YtkaaldhejpaiiaaGreatDoorSe
import Derived.Deep.LoopGhost
namespace Go.Proofs.YtkaaldhejpaiiaaGreatDoor
open Go.RowKit

def RefDec (A : Option (List Nat)) (B : Nat) (e : Ending) (w' : World) : Prop :=
  match A with
  | none => e = .returned (.tuple #[.slice none 0 0, .bool false])
  | some L => ∃ v, e = .returned (.tuple #[v, .bool true]) ∧ w'.ownsRow B 3 1 v L.length (L.map iv) ∧ (∀ n ∈ L, Pm.sign n = true) ∧ L.length ≤ 1000

theorem asc_signs {l : List UInt8} (h : ascB l = true) : ∀ n ∈ l.map (·.toNat), Pm.sign n = true := by
  intro n hn
  obtain ⟨c, hc, rfl⟩ := List.mem_map.1 hn
  have := List.all_eq_true.1 h c hc
  simp at this
  exact sign_t (by omega) (by omega)
theorem insert_signs {x : Pm.St} {q : Nat} (h : ∀ n ∈ x.L, Pm.sign n = true) (hn : Pm.sign x.n = true) : ∀ n ∈ (x.insert q).L, Pm.sign n = true := by
  intro m hm
  simp only [Pm.St.insert, List.mem_append, List.mem_cons] at hm
  rcases hm with hm | rfl | hm
  · exact h m (List.mem_of_mem_take hm)
  · exact hn
  · exact h m (List.mem_of_mem_drop hm)
theorem sign_le {n : Nat} (h : Pm.sign n = true) : n ≤ 1114111 := by unfold Pm.sign at h; simp at h; omega
theorem below_append {H n : Nat} {w W w1 : World} {e : TypeId} {v : Value} {xs : List Value} (hgr : W.grownBy w1 v.ownBlock) (ho : W.ownsRow H e 1 v n xs) (hb : Below H w W) (hs : H ≤ W.heap.size) : Below H w w1 := by
  refine hb.trans ?_
  rcases ho.2 with ⟨rfl, _⟩ | ⟨g, cap, cur, rfl, hg, _⟩
  · exact ⟨hgr.os, hgr.tape, hgr.output, hgr.size, fun k hk => hgr.block k (Nat.lt_of_lt_of_le hk hs) (by simp [Value.ownBlock])⟩
  · exact below_of_grown hgr hg hs
theorem drop_ne {s : ByteArray} {A : Nat} (h : A < s.size) : s.data.toList.drop A ≠ [] := by
  rw [drop_cons s A h]; simp
theorem rest_drop {s : ByteArray} {A bias q : Nat} {r : List UInt8} (hA : A ≤ s.size) (h : Pm.rd bias 1 0 1 (s.data.toList.drop A) = some (q, r)) : r = s.data.toList.drop (s.size - r.length) ∧ A < s.size - r.length ∧ r.length ≤ s.size := by
  have h1 := Pm.rd_suffix _ _ _ _ _ _ _ h
  have h2 := Pm.rd_len _ _ _ _ _ _ _ h
  have hs : s.data.toList.length = s.size := by rw [Array.length_toList]; rfl
  rw [List.length_drop, hs] at h2
  rw [List.length_drop, hs, List.drop_drop] at h1
  refine ⟨?_, by omega, by omega⟩
  rw [show s.size - r.length = A + (s.size - A - r.length) by omega]
  exact h1

set_option maxRecDepth 100000 in
set_option maxHeartbeats 4000000 in
theorem refDec_big (s : ByteArray) (w : World) (hs : 1000 < s.size) (hs0 : s.size ≤ 9223372036854775807) :
    Calls Tryz.prog 41 #[.string s] w fun e w' => RefDec none w.heap.size e w' ∧ Below w.heap.size w w' := by
  unfold RefDec
  have h0 : 0 < s.size := by omega
  go_enter Tryz.func41, Tryz.ntmps41
  go_wp2
  go_loop [5, 6] (fun av kv => av = .int .i64 0 ∧ kv = .int .i64 0) (fun _ _ => 0)
  case atStart => exact ⟨rfl, rfl⟩
  case round =>
    obtain ⟨rfl, rfl⟩ := hrel
    by_cases h128 : (128 : Int) ≤ ((s[0]).toNat : Int)
    all_goals
      go_wp2
      go_ret2
      exact ⟨rfl, Below.refl _ _⟩

set_option maxRecDepth 100000 in
set_option maxHeartbeats 4000000 in
theorem refDec_small (s : ByteArray) (w : World) (hs : s.size ≤ 1000) (ANS : Option (List Nat)) (hANS : decodeS s = ANS) :
    Calls Tryz.prog 41 #[.string s] w fun e w' => RefDec ANS w.heap.size e w' ∧ Below w.heap.size w w' := by
  obtain ⟨i0, hi, hz0, hz1, hz2⟩ := info_parts info3
  have HAN : Hid (decodeS s = ANS) := hANS
  clear hANS
  go_enter Tryz.func41, Tryz.ntmps41
  go_wp2
  go_loop [5, 6] (fun av kv => ∃ k : Nat, k ≤ s.size ∧ kv = .int .i64 k ∧ av = .int .i64 (lastP s k : Nat) ∧ ascB (s.data.toList.take k) = true) (fun _ kv => s.size - (intOf kv).toNat)
  case atStart => exact ⟨0, Nat.zero_le _, rfl, rfl, rfl⟩
  case round =>
    obtain ⟨k, hk, rfl, rfl, ha⟩ := hrel
    have HA : Hid (ascB (s.data.toList.take k) = true) := ha
    clear ha
    have hlk := lastP_le s k
    obtain ⟨p, hp⟩ : ∃ p, lastP s k = p := ⟨_, rfl⟩
    rw [hp] at hlk
    rw [hp]
    have HP : Hid (lastP s k = p) := hp
    clear hp
    by_cases hlt : k < s.size
    · by_cases hc : (s[k].toNat : Int) < 128
      · have HT : Hid (ascB (s.data.toList.take (k + 1)) = true) := by unfold Hid; rw [take_snoc s k hlt, ascB_snoc, HA.out]; simp; omega
        by_cases h45 : (s[k].toNat : Int) = 45
        · have HL : Hid (lastP s (k + 1) = k + 1) := by unfold Hid; rw [lastP, if_pos (by rw [get!_at s k hlt]; omega)]
          go_wp2
          go_round
          case rel => exact ⟨k + 1, by omega, by go_num, by rw [HL.out]; go_num, HT.out⟩
          case measure => simp [intOf]; omega
        · have HL : Hid (lastP s (k + 1) = p) := by unfold Hid; rw [lastP, if_neg (by rw [get!_at s k hlt]; omega), HP.out]
          go_wp2
          go_round
          case rel => exact ⟨k + 1, by omega, by go_num, by rw [HL.out], HT.out⟩
          case measure => simp [intOf]; omega
      · have HN : Hid (ANS = none) := by unfold Hid; rw [← HAN.out, decodeS, if_pos (Or.inr (Or.inl (ascB_no s k hlt (by omega))))]
        go_wp2
        go_ret2
        exact ⟨by rw [HN.out]; rfl, Below.refl _ _⟩
    · have hks : k = s.size := by omega
      subst hks
      have HA2 : Hid (ascB s.data.toList = true) := by
        have := HA.out
        rw [List.take_of_length_le (by rw [Array.length_toList]; exact Nat.le_refl _)] at this
        exact this
      by_cases h1 : p = 1
      · have HN : Hid (ANS = none) := by unfold Hid; rw [← HAN.out, decodeS, if_pos (Or.inr (Or.inr (by rw [HP.out, h1])))]
        subst h1
        go_wp2
        go_ret2
        exact ⟨by rw [HN.out]; rfl, Below.refl _ _⟩
      · have HV : Hid (Pm.dec (s.size - p + 1) (Pm.St.first ((s.data.toList.take (p - 1)).map (·.toNat))) (s.data.toList.drop p) = ANS) := by
          unfold Hid
          rw [← HAN.out, decodeS, if_neg (by rw [HA2.out, HP.out]; simp; omega), HP.out]
        have h1i : ¬ (p : Int) = 1 := by omega
        clear HAN HA hlt
        go_wp2
        go_loopw [4, 7] (fun pv kv wr => ∃ m : Nat, m ≤ p - 1 ∧ kv = .int .i64 m ∧ wr.ownsRow w.heap.size 3 1 pv m (((s.data.toList.take m).map (·.toNat)).map iv) ∧ Below w.heap.size w wr) (fun _ kv _ => p - (intOf kv).toNat)
        case atStart => exact ⟨0, Nat.zero_le _, rfl, World.ownsRow_nil _ _ _ _, Below.refl _ _⟩
        case round =>
          obtain ⟨m, hm, rfl, ho, hbw⟩ := hrel
          obtain ⟨pv, rfl⟩ : ∃ pv, u4 = pv := ⟨_, rfl⟩
          have HB : Hid (Below w.heap.size w wr) := hbw
          have hsz := hbw.size
          by_cases hmp : m + 1 < p
          · have hms : m < s.size := by omega
            have HT : Hid (s.data.toList.take (m + 1) = s.data.toList.take m ++ [s[m]]) := take_snoc s m hms
            have HO : Hid (wr.ownsRow w.heap.size 3 1 u4 m (((s.data.toList.take m).map (·.toNat)).map iv)) := ho
            have HW : Hid (wrap64 ((s[m].toNat : Nat) : Int) = ((s[m].toNat : Nat) : Int)) := by have := s[m].toNat_lt; unfold Hid wrap64; omega
            have hone : ∀ u ∈ [Value.int .i64 (wrap64 ((s[m].toNat : Nat) : Int))], u.oneCell' = true := by intro u hu; simp at hu; subst hu; rfl
            clear ho hbw
            go_wp2_with (at_builtin; refine wpList_append_own _ rfl (.tmp 41) (.tmp 46) 31 rfl w.heap.size 3 i0 (.int .i64 0) 1 8 Tryz.underlying31 hi hz0 hz1 hz2 rfl (by decide) _ _ _ rfl (HO.out.alloc _) ⟨wr.heap.size, 0, none⟩ 1 1 [.int .i64 (wrap64 ((s[m].toNat : Nat) : Int))] rfl rfl (cell_one_new _ _ _) hone (by unfold maxLen; omega) (by omega) (by simp; omega) ?_)
            intro v1 w1 hown1 hgr1 hne1
            have HO1 : Hid (w1.ownsRow w.heap.size 3 1 v1 (m + 1) (((s.data.toList.take (m + 1)).map (·.toNat)).map iv)) := by
              unfold Hid; rw [HT.out, List.map_append, List.map_append]; rw [HW.out] at hown1; simpa [List.map_take, iv] using hown1
            have HB1 : Hid (Below w.heap.size w w1) := below_append hgr1 (HO.out.alloc _) (HB.out.alloc hsz _) (by simp; omega)
            clear hown1 hgr1 hne1 HO HB HT
            go_wp2
            go_roundw
            case rel => exact ⟨m + 1, by omega, by go_num, HO1.out, HB1.out⟩
            case measure => simp [intOf]; omega
          · have hmE : m = p - 1 := by omega
            subst hmE
            have hpl : (s.data.toList.take (p - 1)).length = p - 1 := by rw [List.length_take, Array.length_toList]; show min (p - 1) s.size = p - 1; omega
            obtain ⟨l0, hl0⟩ : ∃ l0 : List Nat, (s.data.toList.take (p - 1)).map (·.toNat) = l0 := ⟨_, rfl⟩
            have hl0l : l0.length = p - 1 := by rw [← hl0, List.length_map, hpl]
            have HSG : Hid (∀ n ∈ l0, Pm.sign n = true) := by unfold Hid; rw [← hl0]; exact asc_signs (ascB_take HA2.out _)
            have HV2 : Hid (Pm.dec (s.size - p + 1) (Pm.St.first l0) (s.data.toList.drop p) = ANS) := by unfold Hid; rw [← hl0]; exact HV.out
            rw [hl0, ← hl0l] at ho
            have hbeg := begin_any u4 l0 w.heap.size wr ho hsz
            clear ho hl0 HV HA2 HP hbw hpl
            go_wp2_with (go_at_call 65; refine hbeg.mono ?_; rintro e w2 ⟨X, rfl, hR, hb2⟩)
            have hsz2 := hb2.size
            have HB2 : Hid (Below w.heap.size w w2) := HB.out.trans hb2
            have HR : Hid (RefAt w2 X w.heap.size (Pm.St.first l0)) := hR
            clear hR hb2 hbeg HB
            go_loopg [5] (s.size - p + 1) (fun gk av wx => ∃ (A : Nat) (x : Pm.St), av = .int .i64 A ∧ A ≤ s.size ∧ s.size - A < gk ∧ Below w.heap.size w wx ∧ RefAt wx X w.heap.size x ∧ x.ok ∧ x.bias ≤ 1099511627776 ∧ x.L.length + (s.size - A) ≤ 1000 ∧ (∀ n ∈ x.L, Pm.sign n = true) ∧ Pm.dec gk x (s.data.toList.drop A) = ANS)
            case atStart => exact ⟨p, Pm.St.first l0, rfl, hlk, by omega, HB2.out, HR.out, first_ok _, by simp [Pm.St.first], by show l0.length + (s.size - p) ≤ 1000; omega, HSG.out, HV2.out⟩
            case round =>
              obtain ⟨A, x, rfl, hA, hg, hbw, hR, hx, hb, hl, hsg, hv⟩ := hrel
              clear HR HB2 HSG HV2 hl0l
              obtain ⟨gk', rfl⟩ : ∃ gk', gk = gk' + 1 := ⟨gk - 1, by omega⟩
              have HV : Hid (Pm.dec (gk' + 1) x (s.data.toList.drop A) = ANS) := hv
              have HSG : Hid (∀ n ∈ x.L, Pm.sign n = true) := hsg
              have HBW : Hid (Below w.heap.size w wr) := hbw
              clear hv hsg hbw
              have hR1 := hR
              obtain ⟨v, hX, ho, hBX⟩ := hR1
              have c3 : wr.cell? ⟨X, 3, none⟩ = some (.int .i64 x.bias) := by rw [cell_of_row wr X 3 _ 106 (0, 0) hX]; rfl
              have c2 : wr.cell? ⟨X, 2, none⟩ = some v := by rw [cell_of_row wr X 2 _ 106 (0, 0) hX]; rfl
              by_cases hlt : A < s.size
              · have hlen : x.L.length ≤ 1000 := by omega
                have hrd := refRead_any X s A x.bias wr c3 hs hA hb
                have hxi := hx.i
                have hxn := hx.n2
                have hst := fun q hq => refStep_st X w.heap.size x q wr hR hxn (by omega) hlen hq
                have HX0 : Hid x.ok := hx
                have HNE : Hid (s.data.toList.drop A ≠ []) := drop_ne hlt
                clear hX ho c2 c3 hR hx
                go_wp2_with fail
                refine hrd.mono ?_
                rintro e w' ⟨hre, hw'⟩
                rw [hw']; clear hw' hrd
                rcases hre with ⟨q, r, hq1, hq2, rfl⟩ | ⟨hno, rfl⟩
                · obtain ⟨hr1, hr2, hr3⟩ := rest_drop hA hq1
                  have HRD : Hid (Pm.rd x.bias 1 0 1 (s.data.toList.drop A) = some (q, r)) := hq1
                  have HR1 : Hid (r = s.data.toList.drop (s.size - r.length)) := hr1
                  obtain ⟨nx, hnx⟩ : ∃ nx, s.size - r.length = nx := ⟨_, rfl⟩
                  rw [hnx] at hr2
                  rw [hnx]
                  have HNX : Hid (s.size - r.length = nx) := hnx
                  have hnz : ¬ (nx : Int) = 0 := by omega
                  have hns : nx ≤ s.size := by omega
                  have hst2 := hst q hq2
                  clear hq1 hr1 hst hnx
                  go_wp2_with fail
                  refine hst2.mono ?_
                  rintro e w3 ⟨rfl, hR3, hb3⟩
                  clear hst2
                  have HB3 : Hid (Below w.heap.size w w3) := HBW.out.trans hb3
                  have hsx := hb3.size
                  clear hb3
                  have hR4 := hR3
                  obtain ⟨v3, hX3, ho3, _⟩ := hR4
                  have d0 : w3.cell? ⟨X, 0, none⟩ = some (.int .i64 ((x.step q).n : Nat)) := by rw [cell_of_row w3 X 0 _ 106 (0, 0) hX3]; rfl
                  clear hX3 ho3
                  have hsgn := refSign_any (x.step q).n w3
                  obtain ⟨bb, hbb⟩ : ∃ bb, Pm.sign (x.step q).n = bb := ⟨_, rfl⟩
                  rw [hbb] at hsgn
                  cases bb with
                  | false =>
                    have HN : Hid (ANS = none) := by unfold Hid; rw [← HV.out, dec_bad HNE.out HRD.out hbb]
                    clear hbb hR3
                    go_wp2_with (go_at_call 68; refine hsgn.mono ?_; rintro e w4 ⟨rfl, hw'⟩; rw [hw']; clear hw')
                    go_ret2
                    exact ⟨by rw [HN.out]; rfl, HB3.out⟩
                  | true =>
                    have hn2 := sign_le hbb
                    have hsi := Pm.step_i (x := x) q
                    have hsl : (x.step q).L.length ≤ 1000 := hlen
                    have hin := refInsert_st X w.heap.size (x.step q) q w3 hR3 hsi hsl hq2
                    have HBB : Hid (Pm.sign (x.step q).n = true) := hbb
                    clear hbb hR3
                    go_wp2_with (first | (go_at_call 68; refine hsgn.mono ?_; rintro e w4 ⟨rfl, hw'⟩; rw [hw']; clear hw') | (go_at_call 69; refine hin.mono ?_; rintro e w5 ⟨rfl, hR5, hb5⟩))
                    go_roundg gk'
                    case measure => omega
                    case rel =>
                      have hmost := (Pm.step_le HX0.out q).1 hn2
                      have hml := Pm.most_le HX0.out hlen
                      refine ⟨nx, (x.step q).insert q, rfl, hns, by omega, HB3.out.trans hb5, hR5, Pm.ok_next HX0.out q hn2, ?_, ?_, insert_signs (x := x.step q) HSG.out HBB.out, ?_⟩
                      · have := Pm.biasN_le q (x.L.length + 1) (!x.later)
                        show Pm.biasN q (x.L.length + 1) (!x.later) ≤ _
                        omega
                      · rw [Pm.insert_len (x.step q) q hsi]
                        show x.L.length + 1 + (s.size - nx) ≤ 1000
                        omega
                      · rw [← HV.out, dec_go HNE.out HRD.out HBB.out, ← HNX.out, ← HR1.out]
                · have hml := Pm.most_le HX0.out hlen
                  have HN : Hid (ANS = none) := by unfold Hid; rw [← HV.out, dec_none HX0.out HNE.out (fun q r h => by have := hno q r h; omega)]
                  clear hno hst hml
                  go_wp2
                  go_ret2
                  exact ⟨by rw [HN.out]; rfl, HBW.out⟩
              · have hAs : s.data.toList.drop A = [] := List.drop_eq_nil_of_le (by rw [Array.length_toList]; show s.size ≤ A; omega)
                have HN : Hid (ANS = some x.L) := by unfold Hid; rw [← HV.out, hAs, dec_nil]
                have HO : Hid (wr.ownsRow w.heap.size 3 1 v x.L.length (x.L.map iv)) := ho
                clear hAs hX ho hR hx c3
                go_wp2
                go_ret2
                exact ⟨by rw [HN.out]; exact ⟨v, rfl, HO.out, HSG.out, by omega⟩, HBW.out⟩
end Go.Proofs.YtkaaldhejpaiiaaGreatDoor
