/- writeEach. -/
import Derived.Test.YtkaaldhejpaiiaaGreatDoorQb
namespace Go.Proofs.YtkaaldhejpaiiaaGreatDoor
open Go.RowKit

/-- Where the encoder is, and what it has written. -/
structure Es where
  n : Nat
  i : Nat
  len : Nat
  bias : Nat
  b : Bool
  form : List UInt8
def Es.steps (x : Es) (sgn place : Nat) : Nat := (sgn - x.n) * (x.len + 1) + place - x.i
def Es.put (x : Es) (q : Nat) : Es := { n := x.n + (x.i + q) / (x.len + 1), i := (x.i + q) % (x.len + 1) + 1, len := x.len + 1, bias := Pm.biasN q (x.len + 1) (!x.b), b := true, form := x.form ++ wnum x.bias (q + 1) 1 q }
/-- All places of one sign. -/
def each (sgn : Nat) : List Nat → Nat → Es → Es
  | [], _, x => x
  | h :: r, k, x => each sgn r (if h ≤ sgn then k + 1 else k) (if h = sgn then x.put (x.steps sgn k) else x)
structure Es.good (x : Es) (sgn k : Nat) : Prop where
  n0 : 128 ≤ x.n
  n : x.n ≤ sgn
  i : x.i ≤ 1000
  len : x.len ≤ 1000
  st : x.i ≤ (sgn - x.n) * (x.len + 1) + k
  bias : x.bias ≤ 1099511627776
  form : x.form.length ≤ 1000000
def eachOk (sgn : Nat) : List Nat → Nat → Es → Prop
  | [], _, _ => True
  | h :: r, k, x => (h = sgn → x.good sgn k) ∧ eachOk sgn r (if h ≤ sgn then k + 1 else k) (if h = sgn then x.put (x.steps sgn k) else x)
def EncX (w : World) (E B : Nat) (x : Es) (L : List Nat) : Prop := EncAt w E B x.n x.i x.len x.bias x.b L x.form

theorem steps_le {x : Es} {sgn k : Nat} (h : x.good sgn k) (hs : sgn ≤ 1114111) (hk : k ≤ 1000) : x.steps sgn k ≤ 1115226111 := by
  unfold Es.steps
  have h1 := h.n0; have h2 := h.len
  have : (sgn - x.n) * (x.len + 1) ≤ 1113983 * 1001 := Nat.mul_le_mul (by omega) (by omega)
  omega
theorem drop_cons_nat {L : List Nat} {k : Nat} (h : k < L.length) : L.drop k = L[k] :: L.drop (k + 1) := List.drop_eq_getElem_cons h

set_option maxRecDepth 100000 in
set_option maxHeartbeats 4000000 in
theorem writeEach_any (E B : Nat) (x0 : Es) (L : List Nat) (sgn : Nat) (w : World) (hD0 : EncX w E B x0 L) (hs : sgn ≤ 1114111) (hL : L.length ≤ 1000) (hM : ∀ m ∈ L, m ≤ 1114111) (hok0 : eachOk sgn L 0 x0) :
    Calls Tryz.prog 146 #[.pointer (some ⟨E, 0, none⟩), rv sgn] w fun e w' => e = .returned (.tuple #[]) ∧ EncX w' E B (each sgn L 0 x0) L ∧ KT B w w' := by
  obtain ⟨ANS, hANS⟩ : ∃ ANS, each sgn L 0 x0 = ANS := ⟨_, rfl⟩
  rw [hANS]
  have c0 : ∃ g c, w.cell? ⟨E, 0, none⟩ = some (.slice (some ⟨g, 0, none⟩) L.length c) := by
    obtain ⟨g, c, fv, hE, _⟩ := hD0
    exact ⟨g, c, by rw [cell_of_row w E 0 _ 176 (0, 0) hE]; rfl⟩
  obtain ⟨g0, c0', hc0⟩ := c0
  have hcnt := count_any E 0 _ _ _ w hc0
  unfold rv
  go_enter Tryz.func146, Tryz.ntmps146
  go_wp2_with (go_at_call 94; refine hcnt.mono ?_; rintro e w' ⟨rfl, hw'⟩; rw [hw']; clear hw')
  go_loopw [4, 11] (fun st pl wr => ∃ (k s : Nat) (x : Es), k ≤ L.length ∧ s ≤ k ∧ st = .int .i64 s ∧ pl = .int .i64 k ∧ EncX wr E B x L ∧ KT B w wr ∧ eachOk sgn (L.drop k) s x ∧ each sgn (L.drop k) s x = ANS) (fun _ pl _ => L.length - (intOf pl).toNat)
  case atStart => exact ⟨0, 0, x0, by omega, by omega, rfl, rfl, hD0, KT.refl _ _, by simpa using hok0, by simpa using hANS⟩
  case round =>
    obtain ⟨k, s, x, hk, hsk, rfl, rfl, hD, hkt, hok, hv⟩ := hrel
    have HD : Hid (EncX wr E B x L) := hD
    have HOK : Hid (eachOk sgn (L.drop k) s x) := hok
    have HV : Hid (each sgn (L.drop k) s x = ANS) := hv
    have HKT : Hid (KT B w wr) := hkt
    clear hANS hD0 hok0 hcnt hD hok hv hkt hc0
    by_cases hlt : k < L.length
    · have hgm := hM L[k] (List.getElem_mem hlt)
      have HC : Hid (L.drop k = L[k] :: L.drop (k + 1)) := drop_cons_nat hlt
      obtain ⟨m, hm⟩ : ∃ m, L[k] = m := ⟨_, rfl⟩
      rw [hm] at hgm
      have HC2 : Hid (L.drop k = m :: L.drop (k + 1)) := by unfold Hid; rw [HC.out, hm]
      obtain ⟨g, c, fv, hE, ho, hof, hBE, hEl⟩ := HD.out
      have hcell : wr.cell? ⟨g, k, none⟩ = some (rv m) := by
        have := ho.cells (g := g) rfl k (rv m) (by rw [List.getElem?_map, List.getElem?_eq_getElem hlt, hm]; rfl)
        rwa [Addr.add_lit, Nat.zero_add] at this
      have hc0 : wr.cell? ⟨E, 0, none⟩ = some (.slice (some ⟨g, 0, none⟩) L.length c) := by rw [cell_of_row wr E 0 _ 176 (0, 0) hE]; rfl
      have hat := at_any E 0 g L.length c k m wr hc0 hlt hcell
      unfold rv at hat
      have HST : Hid (StAt wr E 1 x.n x.i x.len x.bias x.b) := stAt_of hE
      clear hE ho hof hcell hc0 hm HC hM hBE hEl
      by_cases hms : (m : Int) = (sgn : Int)
      · have hms2 : m = sgn := by omega
        subst hms2
        have hok := HOK.out
        rw [HC2.out] at hok
        have hgd := hok.1 rfl
        have hok2 : eachOk m (L.drop (k + 1)) (s + 1) (x.put (x.steps m s)) := by have := hok.2; simpa using this
        have hv2 : each m (L.drop (k + 1)) (s + 1) (x.put (x.steps m s)) = ANS := by have h := HV.out; rw [HC2.out] at h; simpa [each] using h
        have hsl := steps_le hgd hs (by omega)
        have hst := fun j => stepsTo_any E 1 x.n x.i x.len x.bias x.b m s (wr.drewN j) (by obtain ⟨a0, a1, a2, a3, a4⟩ := HST.out; exact ⟨a0, a1, a2, a3, a4⟩) hgd.n hs hgd.len (by omega) hgd.st
        have hst0 := hst 0
        rw [show (m - x.n) * (x.len + 1) + s - x.i = x.steps m s from rfl] at hst0
        have hmod : (x.i + x.steps m s) % (x.len + 1) ≤ 1000 := by have := Nat.mod_lt (x.i + x.steps m s) (show 0 < x.len + 1 by omega); have := hgd.len; omega
        have hwn := fun (W : World) (hW : W.heap = wr.heap) => writeNumber_any E B x.n x.i x.len x.bias x.b L x.form (x.steps m s) W (by
          obtain ⟨g, c, fv, hE, ho, hof, hBE, hEl⟩ := HD.out
          exact ⟨g, c, fv, by rw [hW]; exact hE, ⟨ho.1, by rw [hW]; exact ho.2⟩, ⟨hof.1, by rw [hW]; exact hof.2⟩, hBE, by rw [hW]; exact hEl⟩) (by have := hgd.n; omega) hgd.i hgd.len hmod hsl hgd.bias hgd.form
        have HOK2 : Hid (eachOk m (L.drop (k + 1)) (s + 1) (x.put (x.steps m s))) := hok2
        have HV2 : Hid (each m (L.drop (k + 1)) (s + 1) (x.put (x.steps m s)) = ANS) := hv2
        clear hok hgd hok2 hv2 hst HST hmod
        obtain ⟨Q, hQ⟩ : ∃ Q, x.steps m s = Q := ⟨_, rfl⟩
        have HQ : Hid (x.steps m s = Q) := hQ
        rw [hQ] at hst0 hwn hsl
        clear hQ
        go_wp2_with fail
        refine hat.mono ?_
        rintro e w' ⟨rfl, hw'⟩; rw [hw']; clear hw'
        go_wp2_with fail
        refine hst0.mono ?_
        rintro e w2 ⟨rfl, j, hw2⟩
        have hW2 : w2.heap = wr.heap := by rw [hw2]; rfl
        have HKT2 : Hid (KT B wr w2) := by rw [hw2]; exact ⟨rfl, rfl, rfl, Nat.le_refl _, fun _ _ => rfl, fun _ _ _ _ h _ _ => h⟩
        clear hw2
        have hwn2 := hwn w2 hW2
        clear hwn hW2 hst0 hat
        go_wp2_with fail
        refine hwn2.mono ?_
        rintro e w3 ⟨rfl, hD3, hk3⟩
        have HD3 : Hid (EncX w3 E B (x.put (x.steps m s)) L) := by unfold Hid EncX Es.put; rw [HQ.out]; exact hD3
        have HK3 : Hid (KT B w w3) := (HKT.out.trans HKT2.out).trans hk3
        clear hD3 hk3 hwn2
        go_wp2
        go_roundw
        case rel => exact ⟨k + 1, s + 1, x.put (x.steps m s), by omega, by omega, by go_num, by go_num, HD3.out, HK3.out, HOK2.out, HV2.out⟩
        case measure => simp [intOf]; omega
      · have hne : m ≠ sgn := by omega
        have hok2 : eachOk sgn (L.drop (k + 1)) (if m ≤ sgn then s + 1 else s) x := by have h := HOK.out; rw [HC2.out] at h; have := h.2; rwa [if_neg hne] at this
        have hv2 : each sgn (L.drop (k + 1)) (if m ≤ sgn then s + 1 else s) x = ANS := by have h := HV.out; rw [HC2.out, each, if_neg hne] at h; exact h
        by_cases hle : (m : Int) ≤ (sgn : Int)
        · rw [if_pos (by omega)] at hok2 hv2
          have HOK2 : Hid (eachOk sgn (L.drop (k + 1)) (s + 1) x) := hok2
          have HV2 : Hid (each sgn (L.drop (k + 1)) (s + 1) x = ANS) := hv2
          clear hok2 hv2 hne
          go_wp2_with fail
          refine hat.mono ?_
          rintro e w' ⟨rfl, hw'⟩; rw [hw']; clear hw'
          go_wp2
          go_roundw
          case rel => exact ⟨k + 1, s + 1, x, by omega, by omega, by go_num, by go_num, HD.out, HKT.out, HOK2.out, HV2.out⟩
          case measure => simp [intOf]; omega
        · rw [if_neg (by omega)] at hok2 hv2
          have HOK2 : Hid (eachOk sgn (L.drop (k + 1)) s x) := hok2
          have HV2 : Hid (each sgn (L.drop (k + 1)) s x = ANS) := hv2
          clear hok2 hv2 hne
          go_wp2_with fail
          refine hat.mono ?_
          rintro e w' ⟨rfl, hw'⟩; rw [hw']; clear hw'
          go_wp2
          go_roundw
          case rel => exact ⟨k + 1, s, x, by omega, by omega, rfl, by go_num, HD.out, HKT.out, HOK2.out, HV2.out⟩
          case measure => simp [intOf]; omega
    · have hv2 : x = ANS := by have h := HV.out; rw [List.drop_eq_nil_of_le (by omega)] at h; exact h
      have HV2 : Hid (x = ANS) := hv2
      clear hv2
      go_wp2
      go_end0
      exact ⟨rfl, by rw [← HV2.out]; exact HD.out, HKT.out⟩
end Go.Proofs.YtkaaldhejpaiiaaGreatDoor
