import Derived.Test.YtkaaldhejpaiiaaGreatDoorBu18
import Derived.Test.YtkaaldhejpaiiaaGreatDoorBu11
import Derived.CellFam
import Derived.Test.YtkaaldhejpaiiaaGreatDoorBu12
import Derived.Lib.Case
/- The document's digit, number, ahead. -/
namespace Go.Proofs.YtkaaldhejpaiiaaGreatDoor
open Go.RowKit

theorem dchar_lt {d : Nat} (h : d < 36) : (dchar d).toNat < 128 ∧ (dchar d).toNat = if d < 26 then 97 + d else 48 + (d - 26) := by
  unfold dchar
  by_cases h1 : d < 26
  · rw [if_pos h1, if_pos h1, UInt8.toNat_ofNat_of_lt' (show 97 + d < 256 by omega)]; omega
  · rw [if_neg h1, if_neg h1, UInt8.toNat_ofNat_of_lt' (show 48 + (d - 26) < 256 by omega)]; omega

set_option maxHeartbeats 1000000 in
theorem refDigit_any (d : Nat) (w : World) (h : d < 36) : Calls Tryz.prog 111 #[.int .i64 d] w fun e w' => e = .returned (.int .u8 (((dchar d).toNat : Nat) : Int)) ∧ w' = w := by
  have hd := (dchar_lt h).2
  rw [hd]
  clear hd
  by_cases h1 : (d : Int) < 26
  · rw [if_pos (by omega)]
    have hw : IntKind.u8.wrap (97 + (d : Int)) = 97 + (d : Int) := by rw [IntKind.wrap_u8]; omega
    go_enter Tryz.func111, Tryz.ntmps111
    go_wp2
    go_ret
    refine ⟨?_, rfl⟩
    congr 2
  · rw [if_neg (by omega)]
    have hw : IntKind.u8.wrap (48 + (d : Int) - 26) = 48 + (d : Int) - 26 := by rw [IntKind.wrap_u8]; omega
    go_enter Tryz.func111, Tryz.ntmps111
    go_wp2
    go_ret
    refine ⟨congrArg Ending.returned ?_, rfl⟩
    show Value.int IntKind.u8 (48 + (d : Int) - 26) = _
    congr 1
    push_cast
    omega

set_option maxRecDepth 100000 in
set_option maxHeartbeats 4000000 in
theorem refNumber_any (X q bias : Nat) (w : World) (hX : X < w.heap.size) (hc : w.cell? ⟨X, 3, none⟩ = some (.int .i64 bias)) (hq : q ≤ 2000000000) (hb : bias ≤ 1099511627776) :
    Calls Tryz.prog 75 #[.pointer (some ⟨X, 0, none⟩), .int .i64 q] w fun e w' => e = .returned (.string ⟨(wnum bias (q + 1) 1 q).toArray⟩) ∧ Below w.heap.size w w' := by
  obtain ⟨ANS, hANS⟩ : ∃ ANS, wnum bias (q + 1) 1 q = ANS := ⟨_, rfl⟩
  rw [hANS]
  have hkz : q < 2 ^ 32 := by omega
  go_enter Tryz.func75, Tryz.ntmps75
  go_wp2
  go_loopg [1, 5, 6] 40 (fun gk q0 s0 k0 wx => ∃ (S : ByteArray) (Q K : Nat), q0 = .int .i64 Q ∧ s0 = .string S ∧ k0 = .int .i64 K ∧ Below w.heap.size w wx ∧ K + gk = 41 ∧ 1 ≤ K ∧ 1 ≤ gk ∧ Q < 2 ^ (gk - 1) ∧ S.size + gk ≤ 40 ∧ S.data.toList ++ wnum bias (Q + 1) K Q = ANS)
  case atStart => exact ⟨{ data := #[] }, q, 1, rfl, rfl, rfl, Below.refl _ _, by omega, by omega, by omega, by show q < 2 ^ 39; omega, Nat.le_refl _, by simpa using hANS⟩
  case round =>
    clear hANS
    obtain ⟨S, Q, K, rfl, rfl, rfl, hbw, hKg, hK1, hg1, hQ, hF, hv⟩ := hrel
    obtain ⟨gk', rfl⟩ : ∃ gk', gk = gk' + 1 := ⟨gk - 1, by omega⟩
    have hcr : wr.cell? ⟨X, 3, none⟩ = some (.int .i64 bias) := (hbw.cell (p := ⟨X, 3, none⟩) hX).trans hc
    have hbn := refBound_any X K bias wr hcr (by omega) hb
    have hb1 := Pm.bnd_pos K bias
    have hb2 := Pm.bnd_le K bias
    obtain ⟨b, hbb⟩ : ∃ b, Pm.bnd K bias = b := ⟨_, rfl⟩
    have HB : Hid (Pm.bnd K bias = b) := hbb
    rw [hbb] at hbn hb1 hb2
    clear hbb
    have HV : Hid (S.data.toList ++ wnum bias (Q + 1) K Q = ANS) := hv
    clear hv hcr
    have hQ2 : Q < 2 ^ 39 := Nat.lt_of_lt_of_le hQ (Nat.pow_le_pow_right (by omega) (by omega))
    have hQ3 : Q ≤ 549755813888 := by omega
    have HQ : Hid (Q < 2 ^ gk') := hQ
    have HKG : Hid (K + (gk' + 1) = 41) := hKg
    have hK2 : K ≤ 40 := by omega
    have HF : Hid (S.size + (gk' + 1) ≤ 40) := hF
    have hsz : S.size + 1 ≤ 9223372036854775807 := by omega
    clear hQ hQ2 hKg hF hkz
    by_cases hlt : (Q : Int) < (b : Int)
    · have hdg := refDigit_any Q wr (by omega)
      have hcv := run_oneString wr (dchar Q).toNat (dchar_lt (by omega)).1
      go_wp2_with (first | (go_at_call 106; refine hbn.mono ?_; rintro e w' ⟨rfl, hw'⟩; rw [hw']; clear hw') | (go_at_call 111; refine hdg.mono ?_; rintro e w' ⟨rfl, hw'⟩; rw [hw']; clear hw'))
      go_ret
      refine ⟨?_, hbw.alloc hbw.size _⟩
      have hv := HV.out
      unfold wnum at hv
      rw [HB.out, if_pos (by omega)] at hv
      rw [← hv]
      refine congrArg Ending.returned ?_
      show Value.string (S ++ ⟨#[dchar Q]⟩) = _
      congr 1
    · have hd36 : b + (Q - b) % (36 - b) < 36 := by
        have := Nat.mod_lt (Q - b) (show 0 < 36 - b by omega)
        omega
      obtain ⟨D, hD⟩ : ∃ D, b + (Q - b) % (36 - b) = D := ⟨_, rfl⟩
      have hDI : (b : Int) + ((Q : Int) - (b : Int)) % (36 - (b : Int)) = (D : Int) := by
        rw [← hD, show (Q : Int) - (b : Int) = ((Q - b : Nat) : Int) by omega, show (36 : Int) - (b : Int) = ((36 - b : Nat) : Int) by omega]
        push_cast
        rfl
      obtain ⟨R, hR⟩ : ∃ R, (Q - b) / (36 - b) = R := ⟨_, rfl⟩
      have hRI : ((Q : Int) - (b : Int)) / (36 - (b : Int)) = (R : Int) := by
        rw [← hR, show (Q : Int) - (b : Int) = ((Q - b : Nat) : Int) by omega, show (36 : Int) - (b : Int) = ((36 - b : Nat) : Int) by omega]
        push_cast
        rfl
      have HRD : Hid (b + (Q - b) % (36 - b) = D ∧ (Q - b) / (36 - b) = R) := ⟨hD, hR⟩
      rw [hD] at hd36
      have hRQ : R < 2 ^ (gk' - 1) ∧ 1 ≤ gk' := by
        have h1 := HQ.out
        have h2 : 1 ≤ gk' := by
          rcases Nat.eq_zero_or_pos gk' with h0 | h0
          · rw [h0] at h1; omega
          · exact h0
        refine ⟨?_, h2⟩
        have h3 : (Q - b) / (36 - b) ≤ Q / 2 := by
          have e1 : (Q - b) / (36 - b) ≤ (Q - b) / 2 := Nat.div_le_div_left (by omega) (by omega)
          have e2 : (Q - b) / 2 ≤ Q / 2 := Nat.div_le_div_right (by omega)
          omega
        have h4 : 2 ^ gk' = 2 * 2 ^ (gk' - 1) := by rw [← Nat.pow_succ', show (gk' - 1).succ = gk' by omega]
        omega
      have hdg := refDigit_any D wr hd36
      have hcv := run_oneString wr (dchar D).toNat (dchar_lt hd36).1
      have hne : ((36 : Int) - (b : Int) == 0) = false := by simp; omega
      clear hD hR
      go_wp2_with (first | (go_at_call 106; refine hbn.mono ?_; rintro e w' ⟨rfl, hw'⟩; rw [hw']; clear hw') | (go_at_call 111; refine hdg.mono ?_; rintro e w' ⟨rfl, hw'⟩; rw [hw']; clear hw'))
      go_roundg gk'
      case measure => omega
      case rel =>
        refine ⟨S ++ ⟨#[dchar D]⟩, R, K + 1, by rw [hRI], ?_, by go_num, hbw.alloc hbw.size _, by have := HKG.out; omega, by omega, hRQ.2, hRQ.1, ?_, ?_⟩
        · simp
        · have := HF.out
          rw [ByteArray.size_append]
          show S.size + 1 + gk' ≤ 40
          omega
        · have hv := HV.out
          unfold wnum at hv
          rw [HB.out, if_neg (by omega), HRD.out.1, HRD.out.2] at hv
          rw [← hv, append_bytes, List.append_assoc]
          rw [wnum_fuel bias (R + 1) Q (K + 1) R (by omega) (by have := HRD.out.2; have h5 : (Q - b) / (36 - b) ≤ Q - b := Nat.div_le_self _ _; omega)]
          rfl

set_option maxRecDepth 100000 in
set_option maxHeartbeats 4000000 in
theorem ahead_any (g c p : Nat) (L : List Nat) (w : World) (hL : L.length ≤ 1000) (hp : p < L.length) (hc : ∀ j (hj : j < L.length), w.cell? ⟨g, j, none⟩ = some (.int .i64 (L[j] : Nat))) :
    Calls Tryz.prog 74 #[.slice (some ⟨g, 0, none⟩) L.length c, .int .i64 p] w fun e w' => e = .returned (.int .i64 (cnt L L[p] p)) ∧ ∃ q, w' = w.drewN q := by
  obtain ⟨n, hn⟩ : ∃ n, L.length = n := ⟨_, rfl⟩
  obtain ⟨y, hy⟩ : ∃ y, L[p] = y := ⟨_, rfl⟩
  have hcp := hc p hp
  rw [hy] at hcp ⊢
  have HC : Hid (∀ j (hj : j < L.length), w.cell? ⟨g, j, none⟩ = some (.int .i64 (L[j] : Nat))) := hc
  rw [hn] at hp hL ⊢
  clear hc
  go_enter Tryz.func74, Tryz.ntmps74
  go_wp2
  go_loopg [5, 6] p (fun k x z wr => ∃ i q : Nat, x = .int .i64 (cnt L y i) ∧ z = .int .i64 i ∧ i ≤ p ∧ p - i ≤ k ∧ wr = w.drewN q)
  case atStart => exact ⟨0, 0, by simp [cnt], rfl, by omega, by omega, rfl⟩
  case round =>
    obtain ⟨i, q, rfl, rfl, hi, hk, rfl⟩ := hrel
    by_cases hlt : i < p
    · have hci := HC.out i (by omega)
      obtain ⟨m, hm⟩ : ∃ m, L[i]'(by omega) = m := ⟨_, rfl⟩
      rw [hm] at hci
      have HS : Hid (cnt L y (i + 1) = if m ≤ y then cnt L y i + 1 else cnt L y i) := by unfold Hid; rw [cnt_snoc (by omega), hm]
      have hcl : cnt L y i ≤ 1000 := by have := cnt_le_sub L y i; have := sub_len_le L y i; omega
      clear hm
      generalize cnt L y i = C at *
      by_cases hle : (m : Int) ≤ (y : Int)
      · go_wp2
        go_quiet (fail)
        go_wp2
        go_roundg (p - (i + 1))
        case measure => omega
        case rel => exact ⟨i + 1, q + nq, by rw [HS.out, if_pos (by omega)]; go_num, by go_num, by omega, by omega, rfl⟩
      · go_wp2
        go_quiet (fail)
        go_wp2
        go_roundg (p - (i + 1))
        case measure => omega
        case rel => exact ⟨i + 1, q + nq, by rw [HS.out, if_neg (by omega)], by go_num, by omega, by omega, rfl⟩
    · have : i = p := by omega
      subst this
      go_wp2
      go_ret
      exact ⟨rfl, q, rfl⟩

end Go.Proofs.YtkaaldhejpaiiaaGreatDoor

/- Zc Ze Zf, in one. -/
/- The document's way to read UTF-8: tail, one. -/
namespace Go.Proofs.YtkaaldhejpaiiaaGreatDoor
open Go.RowKit

/-- The low bits of a byte that goes on. -/
def tl (s : ByteArray) (k : Nat) : Int := if k < s.size ∧ 128 ≤ (s.get! k).toNat ∧ (s.get! k).toNat ≤ 191 then ((s.get! k).toNat : Int) - 128 else -1
theorem get!_el (s : ByteArray) (k : Nat) (h : k < s.size) : s[k] = s.get! k := by
  rw [get!_list s k (by rw [Array.length_toList]; exact h)]
  rfl

set_option maxRecDepth 100000 in
set_option maxHeartbeats 1000000 in
theorem tail_any (s : ByteArray) (k : Nat) (w : World) :
    Calls Tryz.prog 104 #[.string s, .int .i64 k] w fun e w' => e = .returned (.int .i64 (tl s k)) ∧ w' = w := by
  by_cases h1 : k < s.size
  · have h1' : ¬ (s.size : Int) ≤ (k : Int) := by omega
    obtain ⟨c, hc⟩ : ∃ c, s[k].toNat = c := ⟨_, rfl⟩
    have hcl : c < 256 := by rw [← hc]; exact s[k].toNat_lt
    have e : tl s k = if 128 ≤ c ∧ c ≤ 191 then (c : Int) - 128 else -1 := by
      unfold tl
      rw [← get!_el s k h1, hc]
      by_cases h2 : 128 ≤ c ∧ c ≤ 191
      · rw [if_pos ⟨h1, h2⟩, if_pos h2]
      · rw [if_neg (fun h => h2 h.2), if_neg h2]
    rw [e]
    clear e
    by_cases h2 : (c : Int) < 128
    · rw [if_neg (by omega)]
      go_enter Tryz.func104, Tryz.ntmps104
      go_wp2
      go_ret
      exact ⟨rfl, rfl⟩
    · by_cases h3 : (191 : Int) < (c : Int)
      · rw [if_neg (by omega)]
        go_enter Tryz.func104, Tryz.ntmps104
        go_wp2
        go_ret
        exact ⟨rfl, rfl⟩
      · rw [if_pos (by omega)]
        have hw : IntKind.u8.wrap ((c : Int) - 128) = (c : Int) - 128 := by rw [IntKind.wrap_u8]; omega
        go_enter Tryz.func104, Tryz.ntmps104
        go_wp2
        go_ret
        exact ⟨rfl, rfl⟩
  · have h1' : (s.size : Int) ≤ (k : Int) := by omega
    have e : tl s k = -1 := by unfold tl; rw [if_neg (fun h => h1 h.1)]
    rw [e]
    go_enter Tryz.func104, Tryz.ntmps104
    go_wp2
    go_ret
    exact ⟨rfl, rfl⟩

/-- The sign, and how many bytes it has, of a byte and the low bits of those behind it. -/
def oneF (C A B D : Int) : Int × Int :=
  if C < 128 then (C, 1)
  else if 194 ≤ C ∧ C ≤ 223 ∧ 0 ≤ A then ((C - 192) * 64 + A, 2)
  else if 224 ≤ C ∧ C ≤ 239 ∧ 0 ≤ A ∧ 0 ≤ B then (if Pm.sign ((C - 224) * 4096 + A * 64 + B).toNat = true ∧ 2048 ≤ (C - 224) * 4096 + A * 64 + B then ((C - 224) * 4096 + A * 64 + B, 3) else (0, 0))
  else if 240 ≤ C ∧ C ≤ 244 ∧ 0 ≤ A ∧ 0 ≤ B ∧ 0 ≤ D then (if Pm.sign ((C - 240) * 262144 + A * 4096 + B * 64 + D).toNat = true ∧ 65536 ≤ (C - 240) * 262144 + A * 4096 + B * 64 + D then ((C - 240) * 262144 + A * 4096 + B * 64 + D, 4) else (0, 0))
  else (0, 0)

theorem tl_range (s : ByteArray) (k : Nat) : -1 ≤ tl s k ∧ tl s k ≤ 63 := by
  unfold tl
  split
  · omega
  · omega

set_option maxRecDepth 100000 in
set_option maxHeartbeats 4000000 in
theorem one_any (s : ByteArray) (i : Nat) (w : World) (hs : s.size ≤ 2000000) (hi : i < s.size) :
    Calls Tryz.prog 64 #[.string s, .int .i64 i] w fun e w' => e = .returned (.tuple #[.int .i64 (oneF (s[i].toNat : Nat) (tl s (i + 1)) (tl s (i + 2)) (tl s (i + 3))).1, .int .i64 (oneF (s[i].toNat : Nat) (tl s (i + 1)) (tl s (i + 2)) (tl s (i + 3))).2]) ∧ w' = w := by
  have t1 := tail_any s (i + 1) w
  have t2 := tail_any s (i + 2) w
  have t3 := tail_any s (i + 3) w
  have r1 := tl_range s (i + 1)
  have r2 := tl_range s (i + 2)
  have r3 := tl_range s (i + 3)
  rw [show ((i + 1 : Nat) : Int) = (i : Int) + 1 by omega] at t1
  rw [show ((i + 2 : Nat) : Int) = (i : Int) + 2 by omega] at t2
  rw [show ((i + 3 : Nat) : Int) = (i : Int) + 3 by omega] at t3
  obtain ⟨C, hC⟩ : ∃ C, s[i].toNat = C := ⟨_, rfl⟩
  have hCl : C < 256 := by rw [← hC]; exact s[i].toNat_lt
  have hw : wrap64 (C : Int) = (C : Int) := by unfold wrap64; omega
  generalize tl s (i + 1) = A at *
  generalize tl s (i + 2) = B at *
  generalize tl s (i + 3) = D at *
  rw [hC]
  have hiL : (i : Int) < (s.size : Int) := by omega
  obtain ⟨R, hR⟩ : ∃ R, oneF C A B D = R := ⟨_, rfl⟩
  rw [hR]
  have HR : Hid (oneF C A B D = R) := hR
  clear hR
  go_enter Tryz.func64, Tryz.ntmps64
  go_upto_region 3 with (go_at_call 104; refine t1.mono ?_; rintro e w' ⟨rfl, hw'⟩; rw [hw']; clear hw')
  go_upto_region 4 with (go_at_call 104; refine t2.mono ?_; rintro e w' ⟨rfl, hw'⟩; rw [hw']; clear hw')
  go_upto_region 5 with (go_at_call 104; refine t3.mono ?_; rintro e w' ⟨rfl, hw'⟩; rw [hw']; clear hw')
  clear t1 t2 t3
  by_cases h1 : (C : Int) < 128
  · have HE : Hid (oneF C A B D = ((C : Int), 1)) := by unfold Hid; unfold oneF; rw [if_pos h1]
    go_wp2
    go_ret2
    exact ⟨by rw [← HR.out, HE.out]; rfl, rfl⟩
  · by_cases q1 : (C : Int) < 194
    · have HE : Hid (oneF C A B D = (0, 0)) := by unfold Hid; unfold oneF; rw [if_neg h1, if_neg (by omega), if_neg (by omega), if_neg (by omega)]
      have f1 : decide ((194 : Int) ≤ (C : Int)) = false := decide_eq_false (by omega)
      have f2 : decide ((224 : Int) ≤ (C : Int)) = false := decide_eq_false (by omega)
      have f3 : decide ((240 : Int) ≤ (C : Int)) = false := decide_eq_false (by omega)
      go_wp2
      go_ret2
      exact ⟨by rw [← HR.out, HE.out]; rfl, rfl⟩
    · have p1 : (194 : Int) ≤ (C : Int) := by omega
      by_cases q2 : (C : Int) ≤ 223
      · by_cases qa : (0 : Int) ≤ A
        · have HE : Hid (oneF C A B D = (((C : Int) - 192) * 64 + A, 2)) := by unfold Hid; unfold oneF; rw [if_neg h1, if_pos (by omega)]
          go_wp2
          go_ret2
          exact ⟨by rw [← HR.out, HE.out]; rfl, rfl⟩
        · have HE : Hid (oneF C A B D = (0, 0)) := by unfold Hid; unfold oneF; rw [if_neg h1, if_neg (by omega), if_neg (by omega), if_neg (by omega)]
          have f0 : decide ((0 : Int) ≤ A) = false := decide_eq_false (by omega)
          have f2 : decide ((224 : Int) ≤ (C : Int)) = false := decide_eq_false (by omega)
          have f3 : decide ((240 : Int) ≤ (C : Int)) = false := decide_eq_false (by omega)
          go_wp2
          go_ret2
          exact ⟨by rw [← HR.out, HE.out]; rfl, rfl⟩
      · have p2 : decide ((C : Int) ≤ 223) = false := decide_eq_false (by omega)
        have p3 : (224 : Int) ≤ (C : Int) := by omega
        by_cases q3 : (C : Int) ≤ 239
        · have p4 : decide ((240 : Int) ≤ (C : Int)) = false := decide_eq_false (by omega)
          by_cases qa : (0 : Int) ≤ A
          · by_cases qb : (0 : Int) ≤ B
            · obtain ⟨N, hN⟩ : ∃ N : Nat, (N : Int) = ((C : Int) - 224) * 4096 + A * 64 + B := ⟨(((C : Int) - 224) * 4096 + A * 64 + B).toNat, by omega⟩
              have hNr : ((C : Int) - 224) * 4096 + A * 64 + B = (N : Int) := hN.symm
              have hsg := refSign_any N w
              obtain ⟨b, hb⟩ : ∃ b, Pm.sign N = b := ⟨_, rfl⟩
              rw [hb] at hsg
              have eN : (((C : Int) - 224) * 4096 + A * 64 + B).toNat = N := by omega
              by_cases hok : b = true ∧ 2048 ≤ N
              · obtain ⟨rfl, h20⟩ := hok
                have HE : Hid (oneF C A B D = ((N : Int), 3)) := by unfold Hid; unfold oneF; rw [if_neg h1, if_neg (by omega), if_pos (by omega), eN, hb, if_pos ⟨rfl, by omega⟩, hNr]
                clear hb hN eN
                have h20i : (2048 : Int) ≤ (N : Int) := by omega
                go_wp2_with (go_at_call 68; refine hsg.mono ?_; rintro e w' ⟨rfl, hw'⟩; rw [hw']; clear hw')
                go_ret2
                exact ⟨by rw [← HR.out, HE.out]; rfl, rfl⟩
              · have HE : Hid (oneF C A B D = (0, 0)) := by unfold Hid; unfold oneF; rw [if_neg h1, if_neg (by omega), if_pos (by omega), eN, hb, hNr, if_neg (fun h => hok ⟨h.1, by omega⟩)]
                clear hb hN eN
                cases b
                · go_wp2_with (go_at_call 68; refine hsg.mono ?_; rintro e w' ⟨rfl, hw'⟩; rw [hw']; clear hw')
                  go_ret2
                  exact ⟨by rw [← HR.out, HE.out]; rfl, rfl⟩
                · have h20 : decide ((2048 : Int) ≤ (N : Int)) = false := decide_eq_false (fun h => hok ⟨rfl, by omega⟩)
                  go_wp2_with (go_at_call 68; refine hsg.mono ?_; rintro e w' ⟨rfl, hw'⟩; rw [hw']; clear hw')
                  go_ret2
                  exact ⟨by rw [← HR.out, HE.out]; rfl, rfl⟩
            · have HE : Hid (oneF C A B D = (0, 0)) := by unfold Hid; unfold oneF; rw [if_neg h1, if_neg (by omega), if_neg (by omega), if_neg (by omega)]
              have f0 : decide ((0 : Int) ≤ B) = false := decide_eq_false (by omega)
              go_wp2
              go_ret2
              exact ⟨by rw [← HR.out, HE.out]; rfl, rfl⟩
          · have HE : Hid (oneF C A B D = (0, 0)) := by unfold Hid; unfold oneF; rw [if_neg h1, if_neg (by omega), if_neg (by omega), if_neg (by omega)]
            have f0 : decide ((0 : Int) ≤ A) = false := decide_eq_false (by omega)
            go_wp2
            go_ret2
            exact ⟨by rw [← HR.out, HE.out]; rfl, rfl⟩
        · have p5 : decide ((C : Int) ≤ 239) = false := decide_eq_false (by omega)
          have p6 : (240 : Int) ≤ (C : Int) := by omega
          by_cases q4 : (C : Int) ≤ 244
          · by_cases qa : (0 : Int) ≤ A
            · by_cases qb : (0 : Int) ≤ B
              · by_cases qd : (0 : Int) ≤ D
                · obtain ⟨N, hN⟩ : ∃ N : Nat, (N : Int) = ((C : Int) - 240) * 262144 + A * 4096 + B * 64 + D := ⟨(((C : Int) - 240) * 262144 + A * 4096 + B * 64 + D).toNat, by omega⟩
                  have hNr : ((C : Int) - 240) * 262144 + A * 4096 + B * 64 + D = (N : Int) := hN.symm
                  have hsg := refSign_any N w
                  obtain ⟨b, hb⟩ : ∃ b, Pm.sign N = b := ⟨_, rfl⟩
                  rw [hb] at hsg
                  have eN : (((C : Int) - 240) * 262144 + A * 4096 + B * 64 + D).toNat = N := by omega
                  by_cases hok : b = true ∧ 65536 ≤ N
                  · obtain ⟨rfl, h20⟩ := hok
                    have HE : Hid (oneF C A B D = ((N : Int), 4)) := by unfold Hid; unfold oneF; rw [if_neg h1, if_neg (by omega), if_neg (by omega), if_pos (by omega), eN, hb, if_pos ⟨rfl, by omega⟩, hNr]
                    clear hb hN eN
                    have h20i : (65536 : Int) ≤ (N : Int) := by omega
                    go_wp2_with (go_at_call 68; refine hsg.mono ?_; rintro e w' ⟨rfl, hw'⟩; rw [hw']; clear hw')
                    go_ret2
                    exact ⟨by rw [← HR.out, HE.out]; rfl, rfl⟩
                  · have HE : Hid (oneF C A B D = (0, 0)) := by unfold Hid; unfold oneF; rw [if_neg h1, if_neg (by omega), if_neg (by omega), if_pos (by omega), eN, hb, hNr, if_neg (fun h => hok ⟨h.1, by omega⟩)]
                    clear hb hN eN
                    cases b
                    · go_wp2_with (go_at_call 68; refine hsg.mono ?_; rintro e w' ⟨rfl, hw'⟩; rw [hw']; clear hw')
                      go_ret2
                      exact ⟨by rw [← HR.out, HE.out]; rfl, rfl⟩
                    · have h20 : decide ((65536 : Int) ≤ (N : Int)) = false := decide_eq_false (fun h => hok ⟨rfl, by omega⟩)
                      go_wp2_with (go_at_call 68; refine hsg.mono ?_; rintro e w' ⟨rfl, hw'⟩; rw [hw']; clear hw')
                      go_ret2
                      exact ⟨by rw [← HR.out, HE.out]; rfl, rfl⟩
                · have HE : Hid (oneF C A B D = (0, 0)) := by unfold Hid; unfold oneF; rw [if_neg h1, if_neg (by omega), if_neg (by omega), if_neg (by omega)]
                  have f0 : decide ((0 : Int) ≤ D) = false := decide_eq_false (by omega)
                  go_wp2
                  go_ret2
                  exact ⟨by rw [← HR.out, HE.out]; rfl, rfl⟩
              · have HE : Hid (oneF C A B D = (0, 0)) := by unfold Hid; unfold oneF; rw [if_neg h1, if_neg (by omega), if_neg (by omega), if_neg (by omega)]
                have f0 : decide ((0 : Int) ≤ B) = false := decide_eq_false (by omega)
                go_wp2
                go_ret2
                exact ⟨by rw [← HR.out, HE.out]; rfl, rfl⟩
            · have HE : Hid (oneF C A B D = (0, 0)) := by unfold Hid; unfold oneF; rw [if_neg h1, if_neg (by omega), if_neg (by omega), if_neg (by omega)]
              have f0 : decide ((0 : Int) ≤ A) = false := decide_eq_false (by omega)
              go_wp2
              go_ret2
              exact ⟨by rw [← HR.out, HE.out]; rfl, rfl⟩
          · have HE : Hid (oneF C A B D = (0, 0)) := by unfold Hid; unfold oneF; rw [if_neg h1, if_neg (by omega), if_neg (by omega), if_neg (by omega)]
            have f0 : decide ((C : Int) ≤ 244) = false := decide_eq_false (by omega)
            go_wp2
            go_ret2
            exact ⟨by rw [← HR.out, HE.out]; rfl, rfl⟩

end Go.Proofs.YtkaaldhejpaiiaaGreatDoor

/- The document's way to read UTF-8 is the model's. -/
namespace Go.Proofs.YtkaaldhejpaiiaaGreatDoor
open Go.RowKit

theorem sign_iff (n : Nat) : Pm.sign n = true ↔ n ≤ 1114111 ∧ (n < 55296 ∨ 57343 < n) := by
  unfold Pm.sign
  simp

theorem tl_two (s : ByteArray) (i k : Nat) (hi : i < s.size) (b : Nat) (hb : (s.get! (i + k)).toNat = b) : (tl s (i + k) = -1 ∧ ¬ (k < s.size - i ∧ b / 64 = 2)) ∨ (tl s (i + k) = ((b % 64 : Nat) : Int) ∧ k < s.size - i ∧ b / 64 = 2) := by
  unfold tl
  rw [hb]
  by_cases h : i + k < s.size ∧ 128 ≤ b ∧ b ≤ 191
  · rw [if_pos h]
    right
    omega
  · rw [if_neg h]
    left
    refine ⟨rfl, ?_⟩
    omega

set_option maxHeartbeats 4000000 in
theorem one_dec (n b0 b1 b2 b3 : Nat) (A B D : Int) (hn : 1 ≤ n) (h0 : b0 < 256) (h1 : b1 < 256) (h2 : b2 < 256) (h3 : b3 < 256)
    (hA : (A = -1 ∧ ¬ (1 < n ∧ b1 / 64 = 2)) ∨ (A = ((b1 % 64 : Nat) : Int) ∧ 1 < n ∧ b1 / 64 = 2)) (hB : (B = -1 ∧ ¬ (2 < n ∧ b2 / 64 = 2)) ∨ (B = ((b2 % 64 : Nat) : Int) ∧ 2 < n ∧ b2 / 64 = 2)) (hD : (D = -1 ∧ ¬ (3 < n ∧ b3 / 64 = 2)) ∨ (D = ((b3 % 64 : Nat) : Int) ∧ 3 < n ∧ b3 / 64 = 2)) :
    ((oneF b0 A B D).2 = 0 ∧ Lib.decodeN n b0 b1 b2 b3 = (65533, 1)) ∨ (∃ N Z : Nat, oneF b0 A B D = ((N : Int), (Z : Int)) ∧ 1 ≤ Z ∧ Z ≤ 4 ∧ Z ≤ n ∧ N ≤ 1114111 ∧ ¬ (N = 65533 ∧ Z = 1) ∧ Lib.decodeN n b0 b1 b2 b3 = (N, Z)) := by
  by_cases q1 : b0 < 128
  · right
    exact ⟨b0, 1, by unfold oneF; rw [if_pos (by omega)]; rfl, by omega, by omega, by omega, by omega, by omega, by unfold Lib.decodeN; rw [if_pos q1]⟩
  by_cases q2 : 194 ≤ b0 ∧ b0 ≤ 223 ∧ 0 ≤ A
  · right
    have hA' : A = ((b1 % 64 : Nat) : Int) ∧ 1 < n ∧ b1 / 64 = 2 := by omega
    refine ⟨b0 % 32 * 64 + b1 % 64, 2, ?_, by omega, by omega, by omega, by omega, by omega, ?_⟩
    · unfold oneF
      rw [if_neg (by omega), if_pos (by omega), hA'.1]
      congr 1
      omega
    · unfold Lib.decodeN
      rw [if_neg q1, if_pos (by omega), if_pos (by omega)]
  by_cases q3 : 224 ≤ b0 ∧ b0 ≤ 239 ∧ 0 ≤ A ∧ 0 ≤ B
  · have hA' : A = ((b1 % 64 : Nat) : Int) ∧ 1 < n ∧ b1 / 64 = 2 := by omega
    have hB' : B = ((b2 % 64 : Nat) : Int) ∧ 2 < n ∧ b2 / 64 = 2 := by omega
    obtain ⟨V, hV⟩ : ∃ V : Nat, b0 % 16 * 4096 + b1 % 64 * 64 + b2 % 64 = V := ⟨_, rfl⟩
    have hVI : ((b0 : Int) - 224) * 4096 + A * 64 + B = (V : Int) := by rw [hA'.1, hB'.1]; omega
    have e1 : oneF b0 A B D = if Pm.sign V = true ∧ (2048 : Int) ≤ V then ((V : Int), 3) else (0, 0) := by
      unfold oneF
      rw [if_neg (by omega), if_neg (by omega), if_pos (by omega), hVI, Int.toNat_natCast]
    have e2 : Lib.decodeN n b0 b1 b2 b3 = if V ≥ 2048 ∧ (V < 55296 ∨ (57344 ≤ V ∧ V ≤ 1114111)) then (V, 3) else (65533, 1) := by
      unfold Lib.decodeN
      rw [if_neg q1, if_neg (by omega), if_pos (by omega), hV]
    rw [e1, e2]
    simp only [sign_iff]
    by_cases q : V ≥ 2048 ∧ (V < 55296 ∨ (57344 ≤ V ∧ V ≤ 1114111))
    · right
      refine ⟨V, 3, ?_, by omega, by omega, by omega, by omega, by omega, ?_⟩
      · rw [if_pos (by omega)]; rfl
      · rw [if_pos q]
    · left
      constructor
      · rw [if_neg (by omega)]
      · rw [if_neg q]
  by_cases q4 : 240 ≤ b0 ∧ b0 ≤ 244 ∧ 0 ≤ A ∧ 0 ≤ B ∧ 0 ≤ D
  · have hA' : A = ((b1 % 64 : Nat) : Int) ∧ 1 < n ∧ b1 / 64 = 2 := by omega
    have hB' : B = ((b2 % 64 : Nat) : Int) ∧ 2 < n ∧ b2 / 64 = 2 := by omega
    have hD' : D = ((b3 % 64 : Nat) : Int) ∧ 3 < n ∧ b3 / 64 = 2 := by omega
    obtain ⟨V, hV⟩ : ∃ V : Nat, b0 % 8 * 262144 + b1 % 64 * 4096 + b2 % 64 * 64 + b3 % 64 = V := ⟨_, rfl⟩
    have hVI : ((b0 : Int) - 240) * 262144 + A * 4096 + B * 64 + D = (V : Int) := by rw [hA'.1, hB'.1, hD'.1]; omega
    have e1 : oneF b0 A B D = if Pm.sign V = true ∧ (65536 : Int) ≤ V then ((V : Int), 4) else (0, 0) := by
      unfold oneF
      rw [if_neg (by omega), if_neg (by omega), if_neg (by omega), if_pos (by omega), hVI, Int.toNat_natCast]
    have e2 : Lib.decodeN n b0 b1 b2 b3 = if V ≥ 65536 ∧ (V < 55296 ∨ (57344 ≤ V ∧ V ≤ 1114111)) then (V, 4) else (65533, 1) := by
      unfold Lib.decodeN
      rw [if_neg q1, if_neg (by omega), if_neg (by omega), if_pos (by omega), hV]
    rw [e1, e2]
    simp only [sign_iff]
    by_cases q : V ≥ 65536 ∧ (V < 55296 ∨ (57344 ≤ V ∧ V ≤ 1114111))
    · right
      refine ⟨V, 4, ?_, by omega, by omega, by omega, by omega, by omega, ?_⟩
      · rw [if_pos (by omega)]; rfl
      · rw [if_pos q]
    · left
      constructor
      · rw [if_neg (by omega)]
      · rw [if_neg q]
  left
  constructor
  · unfold oneF
    rw [if_neg (by omega), if_neg (by omega), if_neg (by omega), if_neg (by omega)]
  · unfold Lib.decodeN
    rw [if_neg q1]
    by_cases k2 : b0 / 32 = 6 ∧ (1 < n ∧ b1 / 64 = 2)
    · rw [if_pos k2, if_neg (by omega)]
    rw [if_neg k2]
    by_cases k3 : b0 / 16 = 14 ∧ (1 < n ∧ b1 / 64 = 2) ∧ (2 < n ∧ b2 / 64 = 2)
    · exfalso; omega
    rw [if_neg k3]
    by_cases k4 : b0 / 8 = 30 ∧ (1 < n ∧ b1 / 64 = 2) ∧ (2 < n ∧ b2 / 64 = 2) ∧ (3 < n ∧ b3 / 64 = 2)
    · rw [if_pos k4, if_neg (by omega)]
    rw [if_neg k4]

end Go.Proofs.YtkaaldhejpaiiaaGreatDoor

/- The document's Signs. -/
namespace Go.Proofs.YtkaaldhejpaiiaaGreatDoor
open Go.RowKit

theorem one_at (s : ByteArray) (i : Nat) (hi : i < s.size) :
    ((oneF (s[i].toNat : Nat) (tl s (i + 1)) (tl s (i + 2)) (tl s (i + 3))).2 = 0 ∧ Lib.decodeL (s.data.toList.drop i) = (65533, 1)) ∨
    (∃ N Z : Nat, oneF (s[i].toNat : Nat) (tl s (i + 1)) (tl s (i + 2)) (tl s (i + 3)) = ((N : Int), (Z : Int)) ∧ 1 ≤ Z ∧ Z ≤ 4 ∧ Z ≤ s.size - i ∧ N ≤ 1114111 ∧ ¬ (N = 65533 ∧ Z = 1) ∧ Lib.decodeL (s.data.toList.drop i) = (N, Z)) := by
  rw [Lib.decodeL_drop, Lib.decode_at, get!_el s i hi]
  exact one_dec (s.size - i) _ _ _ _ _ _ _ (by omega) (s.get! i).toNat_lt (s.get! (i + 1)).toNat_lt (s.get! (i + 2)).toNat_lt (s.get! (i + 3)).toNat_lt (tl_two s i 1 hi _ rfl) (tl_two s i 2 hi _ rfl) (tl_two s i 3 hi _ rfl)

set_option maxRecDepth 100000 in
set_option maxHeartbeats 4000000 in
theorem Signs_any (s : ByteArray) (w : World) (hs : s.size ≤ 2000000) :
    Calls Tryz.prog 40 #[.string s] w fun e w' => ((Lib.validD s.data.toList = true ∧ ∃ v, e = .returned (.tuple #[v, .bool true]) ∧ w'.ownsRow w.heap.size 3 1 v (runes s).length ((runes s).map iv)) ∨ (Lib.validD s.data.toList = false ∧ e = .returned (.tuple #[.slice none 0 0, .bool false]))) ∧ Below w.heap.size w w' := by
  obtain ⟨i0, hi, hz0, hz1, hz2⟩ := info_parts info3
  have hru0 : runes s = runesD s.size s.data.toList := by rw [runes_D, Array.length_toList (xs := s.data)]; rfl
  rw [hru0]
  clear hru0
  obtain ⟨l, hl⟩ : ∃ l, s.data.toList = l := ⟨_, rfl⟩
  have hll : l.length = s.size := by rw [← hl, Array.length_toList]; rfl
  have HL : Hid (s.data.toList = l) := hl
  rw [hl]
  clear hl
  go_enter Tryz.func40, Tryz.ntmps40
  go_wp2
  go_loopg [4, 5] s.size (fun k ov iv5 wr => ∃ (i : Nat) (O : List Nat), iv5 = .int .i64 i ∧ i ≤ s.size ∧ s.size - i ≤ k ∧ wr.ownsRow w.heap.size 3 1 ov O.length (O.map iv) ∧ Below w.heap.size w wr ∧ O.length ≤ i ∧ runesD s.size l = O ++ runesD (s.size - O.length) (l.drop i) ∧ Lib.validD l = Lib.validD (l.drop i))
  case atStart => exact ⟨0, [], rfl, by omega, by omega, World.ownsRow_nil _ _ _ _, Below.refl _ _, by simp, by simp, by simp⟩
  case round =>
    obtain ⟨i, O, rfl, his, hk, ho, hbw, hOi, hru, hva⟩ := hrel
    obtain ⟨pv, rfl⟩ : ∃ pv, u4 = pv := ⟨_, rfl⟩
    have HB : Hid (Below w.heap.size w wr) := hbw
    have hsz := hbw.size
    have HRu : Hid (runesD s.size l = O ++ runesD (s.size - O.length) (l.drop i)) := hru
    have HVa : Hid (Lib.validD l = Lib.validD (l.drop i)) := hva
    have HO : Hid (wr.ownsRow w.heap.size 3 1 u4 O.length (O.map iv)) := ho
    clear hbw hru hva ho
    by_cases hlt : i < s.size
    · have hne : l.drop i ≠ [] := by intro h; have := congrArg List.length h; rw [List.length_drop] at this; simp at this; omega
      have hone := one_any s i wr hs hlt
      have hat := one_at s i hlt
      rw [HL.out] at hat
      have HNe : Hid (l.drop i ≠ []) := hne
      generalize oneF (s[i].toNat : Nat) (tl s (i + 1)) (tl s (i + 2)) (tl s (i + 3)) = R at *
      clear hne
      rcases hat with ⟨hz, hd⟩ | ⟨N, Z, rfl, hZ1, hZ4, hZn, hN, hnb, hd⟩
      · have HV : Hid (Lib.validD l = false) := by unfold Hid; rw [HVa.out, Lib.validD_step _ HNe.out, hd]; simp
        rw [hz] at hone
        clear hd
        go_wp2_with (go_at_call 64; refine hone.mono ?_; rintro e w' ⟨rfl, hw'⟩; rw [hw']; clear hw')
        go_ret2
        exact ⟨Or.inr ⟨HV.out, rfl⟩, HB.out⟩
      · have HD : Hid (Lib.decodeL (l.drop i) = (N, Z)) := hd
        have HNb : Hid (¬ (N = 65533 ∧ Z = 1)) := hnb
        have hZne : ((Z : Int) == 0) = false := by simp; omega
        have hZs : i + Z ≤ s.size := by omega
        have hOl : O.length ≤ 2000000 := by omega
        have hcell : ∀ u ∈ [Value.int .i64 (N : Int)], u.oneCell' = true := by intro u hu; simp at hu; subst hu; rfl
        clear hd hnb
        go_wp2_with (first | (go_at_call 64; refine hone.mono ?_; rintro e w' ⟨rfl, hw'⟩; rw [hw']; clear hw') | (at_builtin; refine wpList_append_own _ rfl (.tmp 20) (.tmp 22) 31 rfl w.heap.size 3 i0 (.int .i64 0) 1 8 Tryz.underlying31 hi hz0 hz1 hz2 rfl (by decide) _ _ _ rfl (HO.out.alloc _) ⟨wr.heap.size, 0, none⟩ 1 1 [.int .i64 (N : Int)] rfl rfl (cell_one_new _ _ _) hcell (by unfold maxLen; omega) (by omega) (by simp; omega) ?_))
        intro v1 w1 hown1 hgr1 hne1
        have HO1 : Hid (w1.ownsRow w.heap.size 3 1 v1 (O ++ [N]).length ((O ++ [N]).map iv)) := by
          unfold Hid
          rw [List.length_append, List.map_append]
          exact hown1
        have HB1 : Hid (Below w.heap.size w w1) := below_append hgr1 (HO.out.alloc _) (HB.out.alloc hsz _) (by simp; omega)
        clear hown1 hgr1 hne1 HO HB hone
        go_wp2
        go_roundg (s.size - (i + Z))
        case measure => omega
        case rel =>
          refine ⟨i + Z, O ++ [N], by go_num, hZs, Nat.le_refl _, HO1.out, HB1.out, by simp; omega, ?_, ?_⟩
          · rw [HRu.out, List.append_assoc, List.length_append]
            congr 1
            obtain ⟨b, hb⟩ : ∃ b, s.size - O.length = b + 1 := ⟨s.size - O.length - 1, by omega⟩
            rw [hb]
            show runesD (b + 1) (l.drop i) = N :: runesD (s.size - (O.length + 1)) (l.drop (i + Z))
            rw [show s.size - (O.length + 1) = b by omega]
            conv => lhs; unfold runesD
            rw [if_neg HNe.out, HD.out, List.drop_drop]
          · rw [HVa.out, Lib.validD_step _ HNe.out, HD.out]
            simp only
            rw [if_neg HNb.out, List.drop_drop]
    · have hie : s.size = i := by omega
      have e : l.drop i = [] := List.drop_eq_nil_of_le (by omega)
      have HV : Hid (Lib.validD l = true) := by unfold Hid; rw [HVa.out, e]; rfl
      have HR2 : Hid (runesD s.size l = O) := by
        unfold Hid
        rw [HRu.out, e]
        cases s.size - O.length <;> simp [runesD]
      clear e
      go_wp2
      go_ret2
      exact ⟨Or.inl ⟨HV.out, u4, rfl, by rw [HR2.out]; exact HO.out⟩, HB.out⟩

end Go.Proofs.YtkaaldhejpaiiaaGreatDoor

/- What a label comes to: the signs that are looked through, both forms, or the error. No walk in this text. -/
namespace Go.Proofs.YtkaaldhejpaiiaaGreatDoor
open Go.RowKit

def xn : List UInt8 := [120, 110, 45, 45]
def allLow (L : List Nat) : Bool := L.all fun n => decide (n < 128)
/-- What is decoded: 3, if it is no form, or of ASCII signs alone. -/
def decM (t : ByteArray) : Nat × List Nat :=
  match decodeS t with
  | none => (3, [])
  | some L => if allLow L = true then (3, []) else (0, L)
/-- The signs that are looked through for a label, behind 0; or the error. -/
def plainM (s : ByteArray) : Nat × List Nat :=
  if Lib.validD s.data.toList = false then (1, [])
  else if s.size = 0 then (2, [])
  else if ascB s.data.toList = false then (0, runes s)
  else if Lib.hasPrefix (Lib.toLowerA s.data.toList) xn = true then decM ⟨((Lib.toLowerA s.data.toList).drop 4).toArray⟩
  else (0, (Lib.toLowerA s.data.toList).map (·.toNat))
def textOf (L : List Nat) : ByteArray := runesBytes (lI L)
/-- The ASCII form of a label. -/
def formB (L : List Nat) : ByteArray := if allLow L = true then textOf L else ⟨(xn ++ encS L (ysOf L)).toArray⟩
/-- Label: the error, the signs, the form. -/
def labelM (s : ByteArray) : Nat × List Nat × ByteArray :=
  if (plainM s).1 ≠ 0 then ((plainM s).1, [], ⟨#[]⟩)
  else if faultM (plainM s).2 ≠ 0 then (faultM (plainM s).2, [], ⟨#[]⟩)
  else if 63 < (formB (plainM s).2).size then (9, [], ⟨#[]⟩)
  else (0, (plainM s).2, formB (plainM s).2)
def signsL (L : List Nat) : Prop := ∀ n ∈ L, Pm.sign n = true

theorem enc_low (n : Nat) : ((Utf8.encode (n : Int)).data.toList.all fun c => decide (c.toNat < 128)) = decide (n < 128) := by
  by_cases h : n < 128
  · rw [encode_asc h, decide_eq_true h]
    have : n % 256 = n := by omega
    simp [UInt8.toNat_ofNat', this, h]
  · rw [decide_eq_false h]
    unfold Utf8.encode
    have hc : ¬ (if Utf8.valid (n : Int) = true then ((n : Int)).toNat else Utf8.runeError) < 0x80 := by
      split
      · rw [Int.toNat_natCast]; omega
      · decide
    simp only
    rw [if_neg hc]
    generalize (if Utf8.valid (n : Int) = true then ((n : Int)).toNat else Utf8.runeError) = m at hc
    split
    · simp; omega
    · split
      · simp; omega
      · simp; omega
theorem bytesOf_low : ∀ L : List Nat, ascB (bytesOf L) = allLow L
  | [] => rfl
  | n :: L => by
    unfold ascB allLow bytesOf
    rw [List.all_append, List.all_cons, enc_low n]
    have := bytesOf_low L
    unfold ascB allLow at this
    rw [this]
theorem textOf_low (L : List Nat) : ascB (textOf L).data.toList = allLow L := by rw [textOf, runesBytes_list, bytesOf_low]
theorem textOf_map (l : List UInt8) (h : ascB l = true) : textOf (l.map (·.toNat)) = ⟨l.toArray⟩ := runesBytes_asc h
theorem lower_asc (l : List UInt8) (h : ascB l = true) : ascB (Lib.toLowerA l) = true := by
  unfold ascB Lib.toLowerA at *
  rw [List.all_map]
  rw [List.all_eq_true] at h ⊢
  intro c hc
  have h1 := h c hc
  simp only [decide_eq_true_eq, Function.comp] at h1 ⊢
  unfold Lib.lowerB
  split
  · rename_i h2
    rw [UInt8.toNat_add]
    have h3 : c.toNat ≤ 90 := by
      unfold Lib.isUpperB at h2
      simp at h2
      exact UInt8.le_iff_toNat_le.1 h2.2
    have h4 : (32 : UInt8).toNat = 32 := rfl
    omega
  · exact h1
theorem sign_low {n : Nat} (h : n < 128) : Pm.sign n = true := by rw [sign_iff]; omega

/-- Each sign takes a place of the form at least. -/
theorem each_form (sgn : Nat) : ∀ (l : List Nat) (k : Nat) (x : Es), x.form.length + (l.filter (fun m => decide (m = sgn))).length ≤ (each sgn l k x).form.length
  | [], _, _ => by simp [each]
  | m :: r, k, x => by
    unfold each
    have ih := each_form sgn r (if m ≤ sgn then k + 1 else k) (if m = sgn then x.put (x.steps sgn k) else x)
    by_cases h : m = sgn
    · rw [if_pos h] at ih ⊢
      rw [List.filter_cons_of_pos (by simpa using h), List.length_cons]
      have h1 : x.form.length + 1 ≤ (x.put (x.steps sgn k)).form.length := by
        show _ ≤ (x.form ++ wnum x.bias (x.steps sgn k + 1) 1 (x.steps sgn k)).length
        have := List.length_pos_iff.2 (wnum_ne x.bias 1 (x.steps sgn k))
        rw [List.length_append]; omega
      omega
    · rw [if_neg h] at ih ⊢
      rw [List.filter_cons_of_neg (by simpa using h)]
      exact ih
theorem eachAll_form (L : List Nat) : ∀ (ys : List Nat) (x : Es), x.form.length + (L.filter (fun m => decide (m ∈ ys))).length ≤ (eachAll L ys x).form.length
  | [], x => by
    have : L.filter (fun m => decide (m ∈ ([] : List Nat))) = [] := by rw [List.filter_eq_nil_iff]; simp
    rw [this]; simp [eachAll]
  | y :: r, x => by
    unfold eachAll
    have h1 := each_form y L 0 x
    have h2 := eachAll_form L r (each y L 0 x)
    have h3 : ∀ l : List Nat, (l.filter (fun m => decide (m ∈ y :: r))).length ≤ (l.filter (fun m => decide (m = y))).length + (l.filter (fun m => decide (m ∈ r))).length := by
      intro l
      induction l with
      | nil => simp
      | cons a l ih =>
        by_cases ha : a = y
        · rw [List.filter_cons_of_pos (by simp [ha]), List.filter_cons_of_pos (by simpa using ha)]
          have := List.filter_cons (x := a) (xs := l) (p := fun m => decide (m ∈ r))
          rw [this]
          split <;> simp only [List.length_cons] <;> omega
        · by_cases hr : a ∈ r
          · rw [List.filter_cons_of_pos (by simp [hr]), List.filter_cons_of_neg (by simpa using ha), List.filter_cons_of_pos (by simpa using hr)]
            simp only [List.length_cons]; omega
          · rw [List.filter_cons_of_neg (by simp [ha, hr]), List.filter_cons_of_neg (by simpa using ha), List.filter_cons_of_neg (by simpa using hr)]
            exact ih
    have h4 := h3 L
    omega
theorem encS_len (L : List Nat) : L.length ≤ (encS L (ysOf L)).length := by
  unfold encS
  have h := eachAll_form L (ysOf L) (firstEs L)
  have hy := (ysOf_ys L).all
  have h1 : (firstEs L).form.length ≥ (L.filter (fun m => decide (m < 128))).length := by
    show (if ascF L = [] then [] else ascF L ++ [45] : List UInt8).length ≥ _
    have e : (ascF L).length = (L.filter (fun m => decide (m < 128))).length := by unfold ascF; rw [List.length_map]
    split
    · rename_i h0; rw [h0] at e; rw [← e]; exact Nat.le_refl _
    · rw [List.length_append]; omega
  have h2 : ∀ l : List Nat, (∀ m ∈ l, m ∈ L) → l.length ≤ (l.filter (fun m => decide (m < 128))).length + (l.filter (fun m => decide (m ∈ ysOf L))).length := by
    intro l
    induction l with
    | nil => intro _; simp
    | cons a l ih =>
      intro hl
      have ih := ih fun m hm => hl m (by simp [hm])
      by_cases ha : a < 128
      · rw [List.filter_cons_of_pos (by simpa using ha)]
        have := List.filter_cons (x := a) (xs := l) (p := fun m => decide (m ∈ ysOf L))
        rw [this]
        split <;> simp only [List.length_cons] <;> omega
      · have hm : a ∈ ysOf L := (hy a).2 ⟨hl a (by simp), by omega⟩
        rw [List.filter_cons_of_neg (by simpa using ha), List.filter_cons_of_pos (by simpa using hm)]
        simp only [List.length_cons]; omega
  have h3 := h2 L fun m hm => hm
  omega
theorem bytesOf_len : ∀ L : List Nat, (bytesOf L).length ≤ 4 * L.length
  | [] => by simp [bytesOf]
  | n :: L => by
    unfold bytesOf
    rw [List.length_append, List.length_cons]
    have ih := bytesOf_len L
    have h : (Utf8.encode (n : Int)).data.toList.length ≤ 4 := by
      unfold Utf8.encode
      simp only
      generalize (if Utf8.valid (n : Int) = true then ((n : Int)).toNat else Utf8.runeError) = m
      split
      · simp
      · split
        · simp
        · split <;> simp
    omega
theorem textOf_len (L : List Nat) : (textOf L).size ≤ 4 * L.length := by
  have h := bytesOf_len L
  rw [← runesBytes_list] at h
  rw [Array.length_toList] at h
  exact h
end Go.Proofs.YtkaaldhejpaiiaaGreatDoor

