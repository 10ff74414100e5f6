import Derived.Test.YtkaaldhejpaiiaaGreatDoorOk
/- Twice, at every text. -/
namespace Go.Proofs.YtkaaldhejpaiiaaGreatDoor
open Go.RowKit

def upTo (a : ByteArray) (k : Nat) : ByteArray := ⟨((a.data.toList.take k).map upB).toArray⟩
theorem upTo_zero (a : ByteArray) : upTo a 0 = { data := #[] } := rfl
theorem upTo_all (a : ByteArray) (k : Nat) (h : a.size ≤ k) : upTo a k = upA a := by
  unfold upTo upA
  rw [List.take_of_length_le (by rw [← size_list]; exact h)]
theorem upTo_snoc (a : ByteArray) (k : Nat) (h : k < a.size) : upTo a (k + 1) = upTo a k ++ ⟨#[upB a[k]]⟩ := by
  apply bytes_ext
  unfold upTo
  rw [take_snoc a k h, List.map_append, ByteArray.data_append]
  simp
theorem upTo_size (a : ByteArray) (k : Nat) (h : k ≤ a.size) : (upTo a k).size = k := by
  rw [size_list]
  unfold upTo
  rw [List.toList_toArray, List.length_map, List.length_take, ← size_list]
  omega
theorem upB_nat (b : UInt8) : ((upB b).toNat : Int) = if 97 ≤ (b.toNat : Int) ∧ (b.toNat : Int) ≤ 122 then (b.toNat : Int) - 32 else (b.toNat : Int) := by
  unfold upB
  have hb := b.toNat_lt
  by_cases h : 97 ≤ b.toNat ∧ b.toNat ≤ 122
  · rw [if_pos h, if_pos (by omega)]
    simp
    omega
  · rw [if_neg h, if_neg (by omega)]
theorem run_byte (W : World) (b : UInt8) : (convert 30 9 (.slice (some ⟨W.heap.size, 0, none⟩) 1 1)).run Tryz.prog (W.alloc (.cells #[.int .u8 (b.toNat : Int)] 5)) = .ok (.string ⟨#[b]⟩) (W.alloc (.cells #[.int .u8 (b.toNat : Int)] 5)) := by
  have h := run_fresh W [b] 1 rfl (by omega)
  simpa [bv] using h
set_option maxRecDepth 100000 in
set_option maxHeartbeats 8000000 in
theorem twice_any (s : ByteArray) (w : World) (hs : s.size ≤ 400000000) (hG : Ground w) :
    Calls Tryz.prog 4 #[.string s] w fun e w' => e = .returned (.bool true) ∧ Below w.heap.size w w' := by
  have hlk := looks_any w hG
  have HG : Hid (∀ W, Below w.heap.size w W → Ground W) := fun W hW => hG.keep hW
  clear hG
  by_cases h0 : (labelM s).1 = 0
  · obtain ⟨gL, gA, gP⟩ := goodL_of h0
    clear gP
    have el : labelM s = (0, (labelM s).2.1, formB (labelM s).2.1) := by rw [← gA, ← h0]
    generalize (labelM s).2.1 = L at *
    have hz := gL.size
    have hpos := form_pos gL
    have HO : Hid (∀ b ∈ (formB L).data.toList, okB b) := form_okB gL
    have hu : (textOf L).size ≤ 252 := by have := textOf_len L; have := good_len gL; omega
    have HL1 : Hid (∀ W, Ground W → Calls Tryz.prog 11 #[.string s] W fun e w' => e = .returned (.tuple #[.string (textOf L), .string (formB L), .int .i64 0]) ∧ Below W.heap.size W w') := fun W hW => by rw [← labelV_of el]; exact Label_at s W hs hW
    have HL2 : Hid (∀ W, Ground W → Calls Tryz.prog 11 #[.string (textOf L)] W fun e w' => e = .returned (.tuple #[.string (textOf L), .string (formB L), .int .i64 0]) ∧ Below W.heap.size W w') := fun W hW => by rw [← labelV_of (label_text gL)]; exact Label_at _ W (by omega) hW
    have HL3 : Hid (∀ W, Ground W → Calls Tryz.prog 11 #[.string (formB L)] W fun e w' => e = .returned (.tuple #[.string (textOf L), .string (formB L), .int .i64 0]) ∧ Below W.heap.size W w') := fun W hW => by rw [← labelV_of (label_form gL)]; exact Label_at _ W (by omega) hW
    have HL4 : Hid (∀ W, Ground W → Calls Tryz.prog 11 #[.string (upA (formB L))] W fun e w' => e = .returned (.tuple #[.string (textOf L), .string (formB L), .int .i64 0]) ∧ Below W.heap.size W w') := fun W hW => by
      rw [← labelV_of (label_upper gL)]
      refine Label_at _ W ?_ hW
      rw [size_list]
      show ((formB L).data.toList.map upB).toArray.toList.length ≤ _
      rw [List.toList_toArray, List.length_map, ← size_list]
      omega
    clear el gA h0 gL
    generalize textOf L = U at *
    generalize formB L = A at *
    clear L
    go_enter Tryz.func4, Tryz.ntmps4
    go_wp2_with fail
    refine hlk.mono ?_
    rintro e w1 ⟨rfl, hb1⟩
    clear hlk
    have hl1 := HL1.out w1 (HG.out w1 hb1)
    go_wp2_with fail
    refine hl1.mono ?_
    rintro e w2 ⟨rfl, hb2⟩
    clear hl1 HL1
    have HB2 : Hid (Below w.heap.size w w2) := Below.andThen hb1 hb2
    clear hb1 hb2
    go_wp2_with fail
    go_loopw [7, 8] (fun uv iv wr => ∃ k : Nat, k ≤ A.size ∧ iv = .int .i64 k ∧ uv = .string (upTo A k) ∧ Below w.heap.size w wr) (fun _ iv _ => A.size - (intOf iv).toNat)
    case atStart => exact ⟨0, Nat.zero_le _, rfl, rfl, HB2.out⟩
    case round =>
      obtain ⟨k, hk, rfl, rfl, hbw⟩ := hrel
      have hsz := upTo_size A k hk
      have HBW : Hid (Below w.heap.size w wr) := hbw
      have hbs := hbw.size
      clear hbw
      by_cases hlt : k < A.size
      · have hT : upTo A (k + 1) = upTo A k ++ ⟨#[upB A[k]]⟩ := upTo_snoc A k hlt
        have ho : okB A[k] := HO.out _ (by rw [ByteArray.getElem_eq_getElem_data]; exact Array.getElem_mem_toList (xs := A.data) hlt)
        have hcv := run_byte wr (upB A[k])
        have hun := upB_nat A[k]
        generalize upTo A k = S at *
        have HT : Hid (upTo A (k + 1) = S ++ ⟨#[upB A[k]]⟩) := hT
        clear hT
        unfold okB at ho
        have hcl := A[k].toNat_lt
        rcases ho with ho | ho | ho
        · have hcu : upB A[k] = A[k] := by unfold upB; rw [if_neg (by omega)]
          rw [hcu] at hcv HT
          clear hun hcu
          have h45 : (A[k].toNat : Int) = 45 := by omega
          rw [h45] at hcv
          go_wp2
          go_roundw
          case rel => exact ⟨k + 1, by omega, by go_num, by rw [HT.out], HBW.out.alloc hbs _⟩
          case measure => simp [intOf]; omega
        · have hcu : upB A[k] = A[k] := by unfold upB; rw [if_neg (by omega)]
          rw [hcu] at hcv HT
          clear hun hcu
          have j1 : ¬ (A[k].toNat : Int) < 48 := by omega
          have j2 : ¬ 57 < (A[k].toNat : Int) := by omega
          have j3 : (A[k].toNat : Int) < 97 := by omega
          have j4 : ¬ 97 ≤ (A[k].toNat : Int) := by omega
          go_wp2
          go_roundw
          case rel => exact ⟨k + 1, by omega, by go_num, by rw [HT.out], HBW.out.alloc hbs _⟩
          case measure => simp [intOf]; omega
        · have hwr : IntKind.u8.wrap ((A[k].toNat : Int) - 32) = (A[k].toNat : Int) - 32 := by rw [IntKind.wrap_u8]; omega
          rw [if_pos (by omega)] at hun
          rw [hun] at hcv
          clear hun
          have j1 : ¬ (A[k].toNat : Int) < 97 := by omega
          have j2 : ¬ 122 < (A[k].toNat : Int) := by omega
          have j3 : (A[k].toNat : Int) ≤ 122 := by omega
          have j4 : 97 ≤ (A[k].toNat : Int) := by omega
          go_wp2
          go_roundw
          case rel => exact ⟨k + 1, by omega, by go_num, by rw [HT.out], HBW.out.alloc hbs _⟩
          case measure => simp [intOf]; omega
      · rw [upTo_all A k (by omega)]
        have hl2 := HL2.out wr (HG.out wr HBW.out)
        clear hsz
        go_wp2_with fail
        refine hl2.mono ?_
        rintro e w3 ⟨rfl, hb3⟩
        clear hl2
        have hl3 := HL3.out w3 (HG.out w3 (Below.andThen HBW.out hb3))
        go_wp2_with fail
        refine hl3.mono ?_
        rintro e w4 ⟨rfl, hb4⟩
        clear hl3
        have hl4 := HL4.out w4 (HG.out w4 (Below.andThen (Below.andThen HBW.out hb3) hb4))
        go_wp2_with fail
        refine hl4.mono ?_
        rintro e w5 ⟨rfl, hb5⟩
        clear hl4
        have k1 : (A.size : Int) ≤ 63 := by omega
        have k2 : (0 : Int) < (A.size : Int) := by omega
        go_wp2_with fail
        go_ret
        exact ⟨by simp, Below.andThen (Below.andThen (Below.andThen HBW.out hb3) hb4) hb5⟩
  · have e1 : labelV s = .tuple #[.string { data := #[] }, .string { data := #[] }, .int .i64 ((labelM s).1 : Nat)] := by unfold labelV; rw [if_neg h0]
    have HL1 : Hid (∀ W, Ground W → Calls Tryz.prog 11 #[.string s] W fun e w' => e = .returned (.tuple #[.string { data := #[] }, .string { data := #[] }, .int .i64 ((labelM s).1 : Nat)]) ∧ Below W.heap.size W w') := fun W hW => by rw [← e1]; exact Label_at s W hs hW
    clear e1
    generalize (labelM s).1 = c at *
    have hc : ((c : Int) == 0) = false := beq_eq_false_iff_ne.2 (by omega)
    go_enter Tryz.func4, Tryz.ntmps4
    go_wp2_with fail
    refine hlk.mono ?_
    rintro e w1 ⟨rfl, hb1⟩
    clear hlk
    have hl1 := HL1.out w1 (HG.out w1 hb1)
    go_wp2_with fail
    refine hl1.mono ?_
    rintro e w2 ⟨rfl, hb2⟩
    clear hl1 HL1
    go_wp2_with fail
    go_ret
    exact ⟨by simp, Below.andThen hb1 hb2⟩
end Go.Proofs.YtkaaldhejpaiiaaGreatDoor

