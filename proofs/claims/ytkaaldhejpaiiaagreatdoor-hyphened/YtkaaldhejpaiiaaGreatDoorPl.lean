/- newDecoder; Decode. -/
import Derived.Test.YtkaaldhejpaiiaaGreatDoorPk
namespace Go.Proofs.YtkaaldhejpaiiaaGreatDoor
open Go.RowKit

def bytesN (s : ByteArray) : List Nat := s.data.toList.map (·.toNat)
theorem asc_at {s : ByteArray} (h : ascB s.data.toList = true) (k : Nat) (hk : k < s.size) : (s[k]).toNat < 128 := by
  have := List.all_eq_true.1 h s[k] (by rw [ByteArray.getElem_eq_getElem_data]; exact Array.getElem_mem_toList (xs := s.data) hk)
  simpa using this
theorem runesN_asc {s : ByteArray} (h : ascB s.data.toList = true) : ∀ (b i : Nat), s.size ≤ i + b → runesN s b i = (s.data.toList.drop i).map (·.toNat)
  | 0, i, hb => by rw [runesN, List.drop_eq_nil_of_le (by rw [Array.length_toList]; show s.size ≤ i; omega)]; rfl
  | b + 1, i, hb => by
    unfold runesN
    by_cases hi : i < s.size
    · rw [if_pos hi, decode_ascii s i hi (asc_at h i hi), drop_cons s i hi]
      simp only [List.map_cons]
      rw [runesN_asc h b (i + 1) (by omega)]
    · rw [if_neg hi, List.drop_eq_nil_of_le (by rw [Array.length_toList]; show s.size ≤ i; omega)]; rfl
theorem runes_asc {s : ByteArray} (h : ascB s.data.toList = true) : runes s = bytesN s := by
  unfold runes; rw [runesN_asc h s.size 0 (by omega), List.drop_zero]; rfl
theorem bytesN_len (s : ByteArray) : (bytesN s).length = s.size := by simp [bytesN]

set_option maxHeartbeats 400000 in
theorem firstState_any (n : Nat) (w : World) :
    Calls Tryz.prog 144 #[.int .i64 n] w fun e w' => e = .returned (.agg #[.int .i64 128, .int .i64 0, .int .i64 n, .int .i64 72, .bool false]) ∧ Below w.heap.size w w' := by
  go_enter Tryz.func144, Tryz.ntmps144
  go_wp2
  refine bodyPost_ret (v := .agg #[.int .i64 128, .int .i64 0, .int .i64 n, .int .i64 72, .bool false]) (by simp [results, Tryz.results144, go_sem]) rfl ⟨rfl, ?_⟩
  exact (Below.refl _ _).alloc (Nat.le_refl _) _

theorem first_ok (l : List Nat) : (Pm.St.first l).ok := ⟨by simp [Pm.St.first], by simp [Pm.St.first], by simp [Pm.St.first]⟩

set_option maxRecDepth 100000 in
set_option maxHeartbeats 2000000 in
theorem newDecoder_any (plain num : ByteArray) (w : World) (hp : plain.size ≤ 1000) (ha : ascB plain.data.toList = true) :
    Calls Tryz.prog 130 #[.string plain, .string num] w fun e w' => ∃ E, e = .returned (.pointer (some ⟨E, 0, none⟩)) ∧ DecAt w' E w.heap.size (Pm.St.first (bytesN plain)) num ∧ Below w.heap.size w w' := by
  have hr := runes_asc ha
  have hof := of_any plain w hp
  have hlen := bytesN_len plain
  rw [hr, hlen] at hof
  clear hr
  go_enter Tryz.func130, Tryz.ntmps130
  go_wp2_with fail
  refine hof.mono ?_
  rintro e w1 ⟨g, c, rfl, ho, hb1⟩
  have HO : Hid (w1.ownsRow (w.heap.size + 1) 21 1 (.slice (some ⟨g, 0, none⟩) plain.size c) plain.size ((bytesN plain).map rv)) := ho
  clear ho hof
  go_wp2_with (go_at_call 144; refine (firstState_any _ _).mono ?_; rintro e w2 ⟨rfl, hb2⟩)
  go_ret
  obtain ⟨hBg, hg1, _⟩ := own_some HO.out
  have hs1 := hb1.size; have hs2 := hb2.size
  have ho2 : w2.ownsRow (w.heap.size + 1) 21 1 (.slice (some ⟨g, 0, none⟩) plain.size c) plain.size ((bytesN plain).map rv) :=
    HO.out.kept (row := none) ⟨hb2.os, hb2.tape, hb2.output, hb2.size, fun k hk _ => hb2.block k hk⟩ (Or.inr (by simp [Value.ownBlock]))
  refine ⟨w2.heap.size, rfl, ⟨g, c, ?_, ?_, by omega, by omega, by simp⟩, ?_⟩
  · rw [show (Pm.St.first (bytesN plain)).L.length = plain.size from hlen]
    exact Go.heap_alloc_new w2 _
  · rw [show (Pm.St.first (bytesN plain)).L.length = plain.size from hlen]
    have h3 := ho2.alloc (.cells (dCells (.slice (some ⟨g, 0, none⟩) plain.size c) 128 0 plain.size 72 false (.string num)) 190)
    obtain ⟨a1, a2⟩ := h3
    refine ⟨a1, ?_⟩
    rcases a2 with a2 | ⟨g0, cap, cur, e1, e2, e3⟩
    · exact Or.inl a2
    · exact Or.inr ⟨g0, cap, cur, e1, by omega, e3⟩
  · exact (hb1.trans (hb2.mono hs1)).alloc (by omega) _

/-- Decode's two results, as the program reckons them. -/
def decodeS (s : ByteArray) : Option (List Nat) :=
  if 1000 < s.size ∨ ascB s.data.toList = false ∨ lastP s s.size = 1 then none
  else Pm.dec (s.size - lastP s s.size + 1) (Pm.St.first ((s.data.toList.take (lastP s s.size - 1)).map (·.toNat))) (s.data.toList.drop (lastP s s.size))
def decodeV : Option (List Nat) → Value
  | some L => .tuple #[.string (runesBytes (L.map (fun (n : Nat) => (n : Int)))), .int .i64 0]
  | none => .tuple #[.string { data := #[] }, .int .i64 3]

theorem ascB_take {l : List UInt8} (h : ascB l = true) (k : Nat) : ascB (l.take k) = true := List.all_eq_true.2 fun x hx => List.all_eq_true.1 h x (List.mem_of_mem_take hx)
theorem toList_extract0 (s : ByteArray) (k : Nat) : (s.extract 0 k).data.toList = s.data.toList.take k := by
  simp only [ByteArray.data_extract, Array.toList_extract, List.extract_eq_take_drop]
  simp

set_option maxRecDepth 100000 in
set_option maxHeartbeats 2000000 in
theorem Decode_any (s : ByteArray) (w : World) (hs0 : s.size ≤ 9223372036854775807) :
    Calls Tryz.prog 91 #[.string s] w fun e w' => e = .returned (decodeV (decodeS s)) ∧ Below w.heap.size w w' := by
  by_cases hs : 1000 < s.size
  · have hr : decodeS s = none := by rw [decodeS, if_pos (Or.inl hs)]
    rw [hr]
    go_enter Tryz.func91, Tryz.ntmps91
    go_wp2
    go_ret2
    exact ⟨rfl, Below.refl _ _⟩
  · have hs1 : s.size ≤ 1000 := by omega
    have hasc := fun W => isASCII_any s W hs1
    obtain ⟨a, ha⟩ : ∃ a, ascB s.data.toList = a := ⟨_, rfl⟩
    rw [ha] at hasc
    cases a with
    | false =>
      have hr : decodeS s = none := by rw [decodeS, if_pos (Or.inr (Or.inl ha))]
      rw [hr]
      clear ha
      go_enter Tryz.func91, Tryz.ntmps91
      go_wp2_with (go_at_call 53; refine (hasc _).mono ?_; rintro e w' ⟨rfl, hw'⟩; rw [hw']; clear hw')
      go_ret2
      exact ⟨rfl, Below.refl _ _⟩
    | true =>
      have hsp := fun W => split_any s W hs1
      have hle := lastP_le s s.size
      obtain ⟨p, hp⟩ : ∃ p, lastP s s.size = p := ⟨_, rfl⟩
      rw [hp] at hle
      by_cases h1 : p = 1
      · have hr : decodeS s = none := by rw [decodeS, if_pos (Or.inr (Or.inr (by rw [hp, h1])))]
        have hv : splitV s = .tuple #[.string (s.extract 0 0), .string (s.extract 1 s.size), .bool false] := by rw [splitV, hp, h1]; rfl
        rw [hr]
        rw [hv] at hsp
        clear ha hp hv hr
        go_enter Tryz.func91, Tryz.ntmps91
        go_wp2_with (first | (go_at_call 53; refine (hasc _).mono ?_; rintro e w' ⟨rfl, hw'⟩; rw [hw']; clear hw') | (go_at_call 129; refine (hsp _).mono ?_; rintro e w' ⟨rfl, k, hw'⟩; rw [hw']; clear hw'))
        go_ret2
        exact ⟨rfl, below_drewN (Below.refl _ _) _⟩
      · have hpl : ∃ plain num : ByteArray, splitV s = .tuple #[.string plain, .string num, .bool true] ∧ plain.data.toList = s.data.toList.take (p - 1) ∧ num.data.toList = s.data.toList.drop p ∧ plain.size + num.size ≤ 1000 ∧ num.size = s.size - p := by
          by_cases h0 : p = 0
          · refine ⟨noBytes, s, by rw [splitV, if_pos (by rw [hp, h0])], by rw [h0]; rfl, by rw [h0]; rfl, ?_, by omega⟩
            show 0 + s.size ≤ 1000
            omega
          · refine ⟨s.extract 0 (p - 1), s.extract p s.size, by rw [splitV, if_neg (by omega), hp, decide_eq_true (by omega)], toList_extract0 s _, toList_extract_end s p, ?_, ?_⟩
            · simp only [ByteArray.size_extract]; omega
            · simp only [ByteArray.size_extract]; omega
        obtain ⟨plain, num, hv, hpd, hnd, hsz, hnz⟩ := hpl
        rw [hv] at hsp
        have hpa : ascB plain.data.toList = true := by rw [hpd]; exact ascB_take ha _
        have hr : decodeS s = Pm.dec (num.size + 1) (Pm.St.first (bytesN plain)) num.data.toList := by
          rw [decodeS, if_neg (by rw [ha, hp]; simp; omega), hp, hnd, hnz, bytesN, hpd]
        rw [hr]
        have hbl := bytesN_len plain
        have hnew := fun W => newDecoder_any plain num W (by omega) hpa
        have hdec := fun E B W h => decode_any E B (Pm.St.first (bytesN plain)) num W h (first_ok _) (by simp [Pm.St.first]) (by show (bytesN plain).length + num.size ≤ 1000; omega)
        clear ha hp hv hr hpd hnd hpa hbl hnz
        generalize Pm.dec (num.size + 1) (Pm.St.first (bytesN plain)) num.data.toList = R at hdec ⊢
        cases R with
        | none =>
          simp only [decV] at hdec
          go_enter Tryz.func91, Tryz.ntmps91
          go_wp2_with (first | (go_at_call 53; refine (hasc _).mono ?_; rintro e w' ⟨rfl, hw'⟩; rw [hw']; clear hw') | (go_at_call 129; refine (hsp _).mono ?_; rintro e w' ⟨rfl, k, hw'⟩; rw [hw']; clear hw') | (go_at_call 130; refine (hnew _).mono ?_; rintro e w2 ⟨E, rfl, hD, hb2⟩) | (go_at_call 131; refine (hdec _ _ _ hD).mono ?_; rintro e w3 ⟨rfl, hb3⟩))
          go_ret2
          exact ⟨rfl, ((below_drewN (Below.refl _ _) _).trans hb2).trans hb3⟩
        | some L =>
          simp only [decV] at hdec
          go_enter Tryz.func91, Tryz.ntmps91
          go_wp2_with (first | (go_at_call 53; refine (hasc _).mono ?_; rintro e w' ⟨rfl, hw'⟩; rw [hw']; clear hw') | (go_at_call 129; refine (hsp _).mono ?_; rintro e w' ⟨rfl, k, hw'⟩; rw [hw']; clear hw') | (go_at_call 130; refine (hnew _).mono ?_; rintro e w2 ⟨E, rfl, hD, hb2⟩) | (go_at_call 131; refine (hdec _ _ _ hD).mono ?_; rintro e w3 ⟨rfl, hb3⟩))
          go_ret2
          exact ⟨rfl, ((below_drewN (Below.refl _ _) _).trans hb2).trans hb3⟩
end Go.Proofs.YtkaaldhejpaiiaaGreatDoor
