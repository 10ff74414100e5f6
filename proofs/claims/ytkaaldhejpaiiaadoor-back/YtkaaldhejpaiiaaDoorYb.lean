/- The law Back. -/
import Derived.Test.YtkaaldhejpaiiaaDoorYa
import Derived.Test.YtkaaldhejpaiiaaDoorRb
import Derived.Deep.LoopGhost
import Derived.Deep.CutRange
namespace Go.Proofs.YtkaaldhejpaiiaaDoor
open Go.RowKit

inductive EncF (s : ByteArray) : ByteArray → Nat → Prop where
  | bad (h : Lib.validD s.data.toList = false) : EncF s { data := #[] } 1
  | long (h : Lib.validD s.data.toList = true) (hl : 1000 < s.size) : EncF s { data := #[] } 9
  | ok (h : Lib.validD s.data.toList = true) (hl : s.size ≤ 1000) : EncF s (formOf s) 0
theorem Encode_two (s : ByteArray) (w : World) (hs : s.size ≤ 9223372036854775807) (hT : Lib.Utf8Tabs 0 1 w) :
    Calls Tryd.prog 9 #[.string s] w fun e w' => (∃ F E, e = .returned (.tuple #[.string F, .int .i64 ((E : Nat) : Int)]) ∧ EncF s F E) ∧ Below w.heap.size w w' :=
  (Encode_any s w hs hT).mono (by
    rintro e w' ⟨⟨v, rfl, hv⟩, hb⟩
    cases hv with
    | bad h => exact ⟨⟨_, _, rfl, .bad h⟩, hb⟩
    | long h hl => exact ⟨⟨_, _, rfl, .long h hl⟩, hb⟩
    | ok h hl => exact ⟨⟨_, _, rfl, .ok h hl⟩, hb⟩)

theorem Encode_back (s t : ByteArray) (w : World) (hs : s.size ≤ 9223372036854775807) (hT : Lib.Utf8Tabs 0 1 w) (hv : Lib.validD s.data.toList = true) (hf : formOf s = t) :
    Calls Tryd.prog 9 #[.string s] w fun e w' => e = .returned (if s.size ≤ 1000 then .tuple #[.string t, .int .i64 0] else .tuple #[.string { data := #[] }, .int .i64 9]) ∧ Below w.heap.size w w' :=
  (Encode_any s w hs hT).mono (by
    rintro e w' ⟨⟨v, rfl, hw⟩, hb⟩
    cases hw with
    | bad h => rw [hv] at h; cases h
    | long h hl => rw [if_neg (by omega)]; exact ⟨rfl, hb⟩
    | ok h hl => rw [if_pos hl, hf]; exact ⟨rfl, hb⟩)
theorem enc4 {n : Nat} (h : Pm.sign n = true) : (Utf8.encode (n : Int)).data.toList.length ≤ 4 := by
  rw [encode_list h]
  unfold Lib.encodeRune Lib.encodeRuneZ
  rw [List.length_map]
  repeat' split
  all_goals simp
theorem text_size {L : List Nat} (h : ∀ n ∈ L, Pm.sign n = true) : (runesBytes (L.map (fun (n : Nat) => (n : Int)))).size ≤ 4 * L.length := by
  have e := runesBytes_list L
  unfold lI at e
  have e2 : (runesBytes (L.map (fun (n : Nat) => (n : Int)))).size = (bytesOf L).length := by rw [← e, Array.length_toList]; rfl
  rw [e2]
  clear e e2
  induction L with
  | nil => simp [bytesOf]
  | cons n r ih =>
    have h1 := enc4 (h n (by simp))
    have h2 := ih (fun m hm => h m (List.mem_cons_of_mem _ hm))
    simp only [bytesOf, List.length_append, List.length_cons] at h1 h2 ⊢
    omega

def ueB : ByteArray := { data := #[195, 188] }
def tdaB : ByteArray := { data := #[116, 100, 97] }
theorem dec_tda : decodeS tdaB = some [252] := by kernel_rfl
theorem bytes_ue : runesBytes ([252].map (fun (n : Nat) => (n : Int))) = ueB := by kernel_rfl
theorem form_ue : formOf ueB = tdaB := by
  have := (back_form dec_tda).2
  rw [bytes_ue] at this
  exact this
theorem encode_ue (w : World) (hT : Lib.Utf8Tabs 0 1 w) : Calls Tryd.prog 9 #[.string ueB] w fun e w' => e = .returned (.tuple #[.string tdaB, .int .i64 0]) ∧ Below w.heap.size w w' :=
  (Encode_any ueB w (by decide) hT).mono (by
    rintro e w' ⟨⟨v, rfl, hv⟩, hb⟩
    have h1 : Lib.validD ueB.data.toList = true := by kernel_rfl
    cases hv with
    | bad h => rw [h1] at h; cases h
    | long h hl => exact absurd hl (by decide)
    | ok h hl => rw [form_ue]; exact ⟨rfl, hb⟩)
theorem decode_tda (w : World) : Calls Tryd.prog 12 #[.string tdaB] w fun e w' => e = .returned (.tuple #[.string ueB, .int .i64 0]) ∧ Below w.heap.size w w' := by
  have h := Decode_any tdaB w (by decide)
  rw [dec_tda, decodeV, bytes_ue] at h
  exact h

set_option maxRecDepth 100000 in
set_option maxHeartbeats 4000000 in
theorem back_any (s t : ByteArray) (w : World) (hT : Lib.Utf8Tabs 0 1 w) (hs0 : s.size ≤ 9223372036854775807) (ht0 : t.size ≤ 9223372036854775807) :
    Calls Tryd.prog 5 #[.string s, .string t] w fun e w' => e = .returned (.bool true) ∧ Below w.heap.size w w' := by
  have h1 := encode_ue w hT
  unfold ueB tdaB at h1
  have HT : Hid (Lib.Utf8Tabs 0 1 w) := hT
  clear hT
  go_enter Tryd.func5, Tryd.ntmps5
  go_upto_region 2 with (go_at_call 9; refine h1.mono ?_; rintro e w1 ⟨rfl, hb1⟩)
  have h2 := decode_tda w1
  unfold ueB tdaB at h2
  clear h1
  go_upto_region 5 with (go_at_call 12; refine h2.mono ?_; rintro e w2 ⟨rfl, hb2⟩)
  have hb12 := hb1.trans (hb2.mono hb1.size)
  have hE := Encode_two s w2 hs0 (Utf8Tabs_below HT.out hb12)
  clear h2 hb1 hb2
  go_upto_if 42 with (go_at_call 9; refine hE.mono ?_; rintro e w3 ⟨⟨F, E, rfl, hF⟩, hb3⟩)
  have hb13 := hb12.trans (hb3.mono hb12.size)
  have HB : Hid (Below w.heap.size w w3) := hb13
  clear hE hb12 hb3 hb13
  go_cut [10, 11, 12] from 14 (fun x y z wc => Below w.heap.size w wc)
  case first =>
    cases hF with
    | bad h =>
      go_wp2
      go_meet
      case rel => exact HB.out
    | long h hl =>
      go_wp2
      go_meet
      case rel => exact HB.out
    | ok h hl =>
      have hasc : ∀ i (hi : i < (formOf s).size), ((formOf s)[i]).toNat < 128 := fun i hi => form_asc h hl _ (by
        rw [show (formOf s)[i] = (formOf s).data.toList[i]'(by rw [Array.length_toList]; exact hi) by rfl]
        exact List.getElem_mem _)
      have hsz := form_size h hl
      have HBk : Hid ((formOf s).size ≤ 1000 → decodeV (decodeS (formOf s)) = .tuple #[.string s, .int .i64 0]) := form_back h hl
      have HBn : Hid (1000 < (formOf s).size → decodeV (decodeS (formOf s)) = .tuple #[.string { data := #[] }, .int .i64 3]) := fun hh => by rw [decodeS, if_pos (Or.inl hh)]; rfl
      have hD := Decode_any (formOf s) w3 (by omega)
      have HV : Hid (Lib.validD s.data.toList = true) := h
      clear h
      generalize formOf s = F at *
      go_wp2
      go_loopg [10] F.size (fun g x wr => wr = w3 ∧ ∃ i : Nat, x = .int .i64 i ∧ i ≤ F.size ∧ F.size - i ≤ g)
      case atStart => exact ⟨rfl, 0, rfl, by omega, by omega⟩
      case round =>
        obtain ⟨rfl, i, rfl, hi, hg⟩ := hrel
        by_cases hlt : i < F.size
        · have h128 := hasc i hlt
          go_wp2
          go_roundg (F.size - (i + 1))
          case measure => omega
          case rel => exact ⟨rfl, i + 1, by go_num, by omega, Nat.le_refl _⟩
        · by_cases hk : F.size ≤ 1000
          · rw [HBk.out hk] at hD
            go_wp2_with (go_at_call 12; refine hD.mono ?_; rintro e w4 ⟨rfl, hb4⟩)
            go_meet
            case rel => exact HB.out.trans (hb4.mono HB.out.size)
          · rw [HBn.out (by omega)] at hD
            go_wp2_with (go_at_call 12; refine hD.mono ?_; rintro e w4 ⟨rfl, hb4⟩)
            go_meet
            case rel => exact HB.out.trans (hb4.mono HB.out.size)
  case rest =>
    have HC : Hid (Below w.heap.size w wc) := hcut
    have hTc := Utf8Tabs_below HT.out hcut
    have hD := Decode_any t wc ht0
    clear hF HB hcut
    cases hR : decodeS t with
    | none =>
      rw [hR, decodeV] at hD
      go_wp2_with (go_at_call 12; refine hD.mono ?_; rintro e w4 ⟨rfl, hb4⟩)
      go_ret
      exact ⟨rfl, HC.out.trans (hb4.mono HC.out.size)⟩
    | some L =>
      rw [hR, decodeV] at hD
      have hbf := back_form hR
      have hX : (runesBytes (L.map (fun (n : Nat) => (n : Int)))).size ≤ 9223372036854775807 := by
        have := decoded hR
        have := text_size (L := L) this.2.1
        omega
      generalize runesBytes (L.map (fun (n : Nat) => (n : Int))) = X at *
      go_upto_region 20 with (go_at_call 12; refine hD.mono ?_; rintro e w4 ⟨rfl, hb4⟩)
      have hb4' := HC.out.trans (hb4.mono HC.out.size)
      have hE := Encode_back X t w4 hX (Utf8Tabs_below HT.out hb4') hbf.1 hbf.2
      have HB4 : Hid (Below w.heap.size w w4) := hb4'
      clear hbf hTc hD hR hb4' hb4
      by_cases hX1 : X.size ≤ 1000
      · rw [if_pos hX1] at hE
        go_wp2_with (go_at_call 9; refine hE.mono ?_; rintro e w5 ⟨rfl, hb5⟩)
        go_ret
        exact ⟨rfl, HB4.out.trans (hb5.mono HB4.out.size)⟩
      · rw [if_neg hX1] at hE
        have hX2 : (1000 : Int) < (X.size : Int) := by omega
        go_wp2_with (go_at_call 9; refine hE.mono ?_; rintro e w5 ⟨rfl, hb5⟩)
        go_ret
        exact ⟨rfl, HB4.out.trans (hb5.mono HB4.out.size)⟩

end Go.Proofs.YtkaaldhejpaiiaaDoor
