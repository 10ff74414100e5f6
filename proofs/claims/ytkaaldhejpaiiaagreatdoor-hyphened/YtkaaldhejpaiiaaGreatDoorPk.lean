/- The decoder's loop; newDecoder; Decode. -/
import Derived.Test.YtkaaldhejpaiiaaGreatDoorPj
import Derived.Deep.LoopGhost
import Derived.Laws.RangeString
namespace Go.Proofs.YtkaaldhejpaiiaaGreatDoor
open Go.RowKit

theorem dec_nil (f : Nat) (x : Pm.St) : Pm.dec (f + 1) x [] = some x.L := by simp [Pm.dec]
theorem dec_none {f : Nat} {x : Pm.St} {l : List UInt8} (hx : x.ok) (hl : l ≠ []) (h : ∀ q r, Pm.rd x.bias 1 0 1 l = some (q, r) → x.most < q) : Pm.dec (f + 1) x l = none := by
  simp only [Pm.dec, if_neg hl]
  split
  · rfl
  · rename_i q r hr
    have h1 := h q r hr
    have h2 : ¬ (x.step q).n ≤ 1114111 := fun hn => by have := (Pm.step_le hx q).1 hn; omega
    rw [if_neg (by rw [sign_f (by omega)]; simp)]
theorem dec_bad {f : Nat} {x : Pm.St} {l r : List UInt8} {q : Nat} (hl : l ≠ []) (h : Pm.rd x.bias 1 0 1 l = some (q, r)) (hs : Pm.sign (x.step q).n = false) : Pm.dec (f + 1) x l = none := by
  simp only [Pm.dec, if_neg hl, h, hs]; simp
theorem dec_go {f : Nat} {x : Pm.St} {l r : List UInt8} {q : Nat} (hl : l ≠ []) (h : Pm.rd x.bias 1 0 1 l = some (q, r)) (hs : Pm.sign (x.step q).n = true) : Pm.dec (f + 1) x l = Pm.dec f ((x.step q).insert q) r := by
  simp only [Pm.dec, if_neg hl, h, hs]; simp

def decV : Option (List Nat) → Value
  | some L => .tuple #[.string (runesBytes (L.map (fun (n : Nat) => (n : Int)))), .bool true]
  | none => .tuple #[.string { data := #[] }, .bool false]

theorem toList_ne {s : ByteArray} (h : s.size ≠ 0) : s.data.toList ≠ [] := by
  intro e
  have : s.data.toList.length = 0 := by rw [e]; rfl
  rw [Array.length_toList] at this
  exact h this
theorem toList_nil {s : ByteArray} (h : s.size = 0) : s.data.toList = [] := List.eq_nil_of_length_eq_zero (by rw [Array.length_toList]; exact h)

set_option maxRecDepth 100000 in
set_option maxHeartbeats 4000000 in
theorem decode_any (E B : Nat) (x0 : Pm.St) (num0 : ByteArray) (w : World) (hD0 : DecAt w E B x0 num0) (hx0 : x0.ok) (hb0 : x0.bias ≤ 1099511627776) (hl0 : x0.L.length + num0.size ≤ 1000) :
    Calls Tryz.prog 131 #[.pointer (some ⟨E, 0, none⟩)] w fun e w' => e = .returned (decV (Pm.dec (num0.size + 1) x0 num0.data.toList)) ∧ Below B w w' := by
  obtain ⟨ANS, hANS⟩ : ∃ ANS, Pm.dec (num0.size + 1) x0 num0.data.toList = ANS := ⟨_, rfl⟩
  rw [hANS]
  go_enter Tryz.func131, Tryz.ntmps131
  go_wp2
  go_loopg [4] (num0.size + 1) (fun gk _ wx => Below B w wx ∧ ∃ (x : Pm.St) (num : ByteArray), DecAt wx E B x num ∧ x.ok ∧ x.bias ≤ 1099511627776 ∧ x.L.length + num.size ≤ 1000 ∧ num.size < gk ∧ Pm.dec gk x num.data.toList = ANS)
  case atStart => exact ⟨Below.refl _ _, x0, num0, hD0, hx0, hb0, hl0, by omega, hANS⟩
  case round =>
    obtain ⟨hbw, x, num, hD, hx, hb, hl, hg, hv⟩ := hrel
    clear hANS hD0 hx0 hb0 hl0
    obtain ⟨gk', rfl⟩ : ∃ gk', gk = gk' + 1 := ⟨gk - 1, by omega⟩
    have HV : Hid (Pm.dec (gk' + 1) x num.data.toList = ANS) := hv
    clear hv
    have hD2 := hD
    obtain ⟨g, c, hE, hown, hgE, hBE, hEl⟩ := hD2
    have c6 : wr.cell? ⟨E, 6, none⟩ = some (.string num) := by rw [cell_of_row wr E 6 _ 190 (0, 0) hE]; rfl
    have c0 : wr.cell? ⟨E, 0, none⟩ = some (.slice (some ⟨g, 0, none⟩) x.L.length c) := by rw [cell_of_row wr E 0 _ 190 (0, 0) hE]; rfl
    by_cases h0 : num.size = 0
    · have hemp : num.toList.isEmpty = true := by rw [ByteArray.toList_eq, toList_nil h0]; rfl
      have hstr := string_any E 0 g x.L.length c x.L B wr c0 hown
      have HR : Hid (ANS = some x.L) := by unfold Hid; rw [← HV.out, toList_nil h0, dec_nil]
      clear hE hown hD hx
      go_wp2_with (go_at_call 24; refine hstr.mono ?_; rintro e w' ⟨rfl, hw'⟩; rw [hw']; clear hw')
      go_ret2
      exact ⟨by rw [HR.out]; rfl, hbw⟩
    · have hemp : num.toList.isEmpty = false := by
        rw [ByteArray.toList_eq]
        cases hq : num.data.toList with
        | nil => exact absurd hq (toList_ne h0)
        | cons a l => rfl
      have hne := toList_ne h0
      have hnum : num.size ≤ 1000 := by omega
      have hlen : x.L.length ≤ 1000 := by omega
      clear hE hown c0
      by_cases hex : ∃ q l, Pm.rd x.bias 1 0 1 num.data.toList = some (q, l) ∧ q ≤ x.most
      · obtain ⟨q, l, hrd, hq⟩ := hex
        have hyes := insertNext_yes E B x num wr hD hx hb hlen hnum q l hrd hq
        have hnx := Pm.ok_next hx q ((Pm.step_le hx q).2 hq)
        have hml := Pm.most_le hx hlen
        have hrl := Pm.rd_len _ _ _ _ _ _ _ hrd
        rw [Array.length_toList] at hrl
        have hrl2 : l.length < num.size := hrl
        have hL : ((x.step q).insert q).L.length = x.L.length + 1 := Pm.insert_len (x.step q) q (Pm.step_i q)
        have hbi : ((x.step q).insert q).bias ≤ 1099511627776 := by
          have := Pm.biasN_le q (x.L.length + 1) (!x.later)
          show Pm.biasN q (x.L.length + 1) (!x.later) ≤ _
          omega
        have HRD : Hid (Pm.rd x.bias 1 0 1 num.data.toList = some (q, l)) := hrd
        have HNX : Hid (((x.step q).insert q).ok) := hnx
        have HLL : Hid (((x.step q).insert q).L.length = x.L.length + 1) := hL
        have HBI : Hid (((x.step q).insert q).bias ≤ 1099511627776) := hbi
        have HNE : Hid (num.data.toList ≠ []) := hne
        clear hrd hnx hL hbi hne hx hD hrl hml hq
        go_wp2_with fail
        refine hyes.mono ?_
        rintro e w2 (⟨hs, rfl, hb2⟩ | ⟨hs, rfl, hb2, hD2⟩)
        · have HS : Hid (Pm.sign (x.step q).n = false) := hs
          clear hs hyes
          go_wp2
          go_ret2
          exact ⟨by rw [← HV.out, dec_bad HNE.out HRD.out HS.out]; rfl, hbw.trans hb2⟩
        · have HS : Hid (Pm.sign (x.step q).n = true) := hs
          clear hs hyes
          go_wp2
          go_roundg gk'
          case measure => omega
          case rel => exact ⟨hbw.trans hb2, _, _, hD2, HNX.out, HBI.out, by rw [HLL.out]; show x.L.length + 1 + l.length ≤ 1000; omega, by show l.length < gk'; omega, by rw [← HV.out, dec_go HNE.out HRD.out HS.out]⟩
      · have hno : ∀ q l, Pm.rd x.bias 1 0 1 num.data.toList = some (q, l) → x.most < q := fun q l h => Nat.lt_of_not_le fun hq => hex ⟨q, l, h, hq⟩
        have hcall := insertNext_no E B x num wr hD hx hb hlen hnum hno
        have HR : Hid (ANS = none) := by unfold Hid; rw [← HV.out, dec_none hx hne hno]
        clear hD hx hno hex hne
        go_wp2_with (go_at_call 161; refine hcall.mono ?_; rintro e w2 ⟨rfl, hb2⟩)
        go_ret2
        exact ⟨by rw [HR.out]; rfl, hbw.trans hb2⟩
end Go.Proofs.YtkaaldhejpaiiaaGreatDoor
