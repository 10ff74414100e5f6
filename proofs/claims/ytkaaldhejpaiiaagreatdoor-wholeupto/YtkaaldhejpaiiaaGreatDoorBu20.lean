import Derived.Test.YtkaaldhejpaiiaaGreatDoorBu19
/- decoded, plainText, newLabel, form, goodLabel, Label. -/
namespace Go.Proofs.YtkaaldhejpaiiaaGreatDoor
open Go.RowKit

set_option maxRecDepth 100000 in
set_option maxHeartbeats 1000000 in
theorem isASCII_big (s : ByteArray) (w : World) (hs : s.size ≤ 2000000000) :
    Calls Tryz.prog 53 #[.string s] w fun e w' => e = .returned (.bool (ascB s.data.toList)) ∧ w' = w := by
  go_enter Tryz.func53, Tryz.ntmps53
  go_wp2
  go_loop [6] (fun i => ∃ k : Nat, k ≤ s.size ∧ i = .int .i64 k ∧ ascB (s.data.toList.take k) = true) (fun i => s.size - (intOf i).toNat)
  case atStart => exact ⟨0, Nat.zero_le _, rfl, rfl⟩
  case round =>
    obtain ⟨k, hk, rfl, ha⟩ := hrel
    have HA : Hid (ascB (s.data.toList.take k) = true) := ha
    clear ha
    by_cases hlt : k < s.size
    · go_wp2
      · go_ret
        exact ⟨ret_bool (by rw [ascB_no s k hlt (by omega)]), rfl⟩
      · go_round
        case rel => exact ⟨k + 1, by omega, by go_num, by rw [take_snoc s k hlt, ascB_snoc, HA.out]; simp; omega⟩
        case measure => simp [intOf]; omega
    · go_wp2
      go_ret
      have e : s.data.toList.take k = s.data.toList := List.take_of_length_le (by simp; omega)
      exact ⟨ret_bool (by have := HA.out; rw [e] at this; rw [this]), rfl⟩

def plainV (p : Nat × List Nat) : Value := if p.1 = 0 then .tuple #[.string (textOf p.2), .int .i64 0] else .tuple #[.string { data := #[] }, .int .i64 (p.1 : Nat)]
theorem dec_len {t : ByteArray} {L : List Nat} (h : decodeS t = some L) : L.length ≤ 1000 := (decoded h).2.2.1
set_option maxHeartbeats 1000000 in
theorem decoded_any (t : ByteArray) (w : World) (ht : t.size ≤ 9223372036854775807) :
    Calls Tryz.prog 56 #[.string t] w fun e w' => e = .returned (plainV (decM t)) ∧ Below w.heap.size w w' := by
  have hd := Decode_any t w ht
  unfold decM
  cases hv : decodeS t with
  | none =>
    rw [hv] at hd
    unfold decodeV at hd
    go_enter Tryz.func56, Tryz.ntmps56
    go_wp2_with (go_at_call 91; refine hd.mono ?_; rintro e w1 ⟨rfl, hb1⟩)
    go_ret2
    exact ⟨rfl, hb1⟩
  | some L =>
    rw [hv] at hd
    have hl := dec_len hv
    replace hd : Calls Tryz.prog 91 #[.string t] w fun e w' => e = .returned (.tuple #[.string (textOf L), .int .i64 0]) ∧ Below w.heap.size w w' := hd
    have hA := fun W => isASCII_big (textOf L) W (by have := textOf_len L; omega)
    rw [textOf_low] at hA
    show Calls Tryz.prog 56 #[.string t] w fun e w' => e = .returned (plainV (if allLow L = true then (3, []) else (0, L))) ∧ Below w.heap.size w w'
    cases ha : allLow L with
    | true =>
      rw [ha] at hA
      generalize textOf L = tx at *
      clear hv hl
      go_enter Tryz.func56, Tryz.ntmps56
      go_wp2_with (first | (go_at_call 91; refine hd.mono ?_; rintro e w1 ⟨rfl, hb1⟩) | (go_at_call 53; refine (hA _).mono ?_; rintro e w' ⟨rfl, hw'⟩; rw [hw']; clear hw'))
      go_ret2
      exact ⟨rfl, hb1⟩
    | false =>
      rw [ha] at hA
      have HT : Hid (plainV (0, L) = .tuple #[.string (textOf L), .int .i64 0]) := rfl
      generalize textOf L = tx at *
      clear hv hl
      go_enter Tryz.func56, Tryz.ntmps56
      go_wp2_with (first | (go_at_call 91; refine hd.mono ?_; rintro e w1 ⟨rfl, hb1⟩) | (go_at_call 53; refine (hA _).mono ?_; rintro e w' ⟨rfl, hw'⟩; rw [hw']; clear hw'))
      go_ret2
      exact ⟨by rw [HT.out]; rfl, hb1⟩

theorem empty_beq (s : ByteArray) : (s.toList == []) = decide (s.size = 0) := by
  rw [ByteArray.toList_eq, Bool.eq_iff_iff, beq_iff_eq, decide_eq_true_eq]
  constructor
  · intro h
    have : s.data.toList.length = 0 := by rw [h]; rfl
    rwa [Array.length_toList] at this
  · intro h
    exact List.eq_nil_of_length_eq_zero (by rw [Array.length_toList]; exact h)
theorem asc_each {l : List UInt8} (h : ascB l = true) : ∀ (j : Nat) (b : UInt8), l[j]? = some b → b.toNat < 128 := fun j b hb => by
  have := List.all_eq_true.1 h b (List.mem_of_getElem? hb)
  simpa using this
set_option maxHeartbeats 4000000 in
theorem plainText_any (s : ByteArray) (w : World) (hs : s.size ≤ 2000000000) (hT : Lib.Utf8Tabs 1 2 w) :
    Calls Tryz.prog 36 #[.string s] w fun e w' => e = .returned (plainV (plainM s)) ∧ Below w.heap.size w w' := by
  have hV := valid_any s w (by omega) hT
  have hE := empty_beq s
  have hA := fun W => isASCII_big s W hs
  have HP : Hid (plainM s = plainM s) := rfl
  unfold plainM at HP ⊢
  clear hT HP
  cases hv : Lib.validD s.data.toList with
  | false =>
    rw [hv] at hV
    rw [if_pos rfl]
    clear hA hE
    go_enter Tryz.func36, Tryz.ntmps36
    go_wp2_with (go_at_call 52; refine hV.mono ?_; rintro e w1 ⟨rfl, hb1⟩)
    go_ret2
    exact ⟨rfl, hb1⟩
  | true =>
    rw [hv] at hV
    rw [if_neg (by decide)]
    by_cases h0 : s.size = 0
    · rw [decide_eq_true h0] at hE
      rw [if_pos h0]
      clear hA h0 hs
      go_enter Tryz.func36, Tryz.ntmps36
      go_wp2_with (go_at_call 52; refine hV.mono ?_; rintro e w1 ⟨rfl, hb1⟩)
      go_ret2
      exact ⟨rfl, hb1⟩
    · rw [decide_eq_false h0] at hE
      rw [if_neg h0]
      cases ha : ascB s.data.toList with
      | false =>
        simp only [ha] at hA
        rw [if_pos rfl]
        have HT : Hid (plainV (0, runes s) = .tuple #[.string s, .int .i64 0]) := by
          unfold Hid plainV textOf
          rw [if_pos rfl, (bytes_of_valid hv).2]
        clear h0 hs ha
        go_enter Tryz.func36, Tryz.ntmps36
        go_wp2_with (first | (go_at_call 52; refine hV.mono ?_; rintro e w1 ⟨rfl, hb1⟩) | (go_at_call 53; refine (hA _).mono ?_; rintro e w' ⟨rfl, hw'⟩; rw [hw']; clear hw'))
        go_ret2
        exact ⟨by rw [HT.out]; rfl, hb1⟩
      | true =>
        simp only [ha] at hA
        rw [if_neg (by decide)]
        have hlo := fun W => Tryz.strings_ToLower_ascii s W (by omega) (asc_each ha)
        have hasc := lower_asc _ ha
        have hcp : ∀ W, Calls Tryz.prog 55 #[.string ⟨(Lib.toLowerA s.data.toList).toArray⟩, .string { data := #[120, 110, 45, 45] }] W fun e w' => e = .returned (.tuple #[.string ⟨(Lib.trimPrefix (Lib.toLowerA s.data.toList) xn).toArray⟩, .bool (Lib.hasPrefix (Lib.toLowerA s.data.toList) xn)]) ∧ w' = W :=
          fun W => Tryz.strings_CutPrefix ⟨(Lib.toLowerA s.data.toList).toArray⟩ { data := #[120, 110, 45, 45] } W
        have hlz : (Lib.toLowerA s.data.toList).length = s.size := by unfold Lib.toLowerA; rw [List.length_map, Array.length_toList]; rfl
        cases hp : Lib.hasPrefix (Lib.toLowerA s.data.toList) xn with
        | true =>
          simp only [hp, Lib.trimPrefix, if_true] at hcp
          rw [if_pos rfl]
          have hde := fun W => decoded_any ⟨((Lib.toLowerA s.data.toList).drop 4).toArray⟩ W (by
            show ((Lib.toLowerA s.data.toList).drop 4).toArray.size ≤ _
            rw [List.size_toArray, List.length_drop]; omega)
          simp only [show xn.length = 4 from rfl] at hcp
          have HV : Hid (∃ t e, plainV (decM ⟨((Lib.toLowerA s.data.toList).drop 4).toArray⟩) = .tuple #[.string t, .int .i64 e]) := by
            unfold Hid plainV
            split
            · exact ⟨_, _, rfl⟩
            · exact ⟨_, _, rfl⟩
          generalize plainV (decM ⟨((Lib.toLowerA s.data.toList).drop 4).toArray⟩) = V at *
          obtain ⟨t, er, rfl⟩ := HV.out
          generalize (Lib.toLowerA s.data.toList).drop 4 = d at *
          generalize Lib.toLowerA s.data.toList = lo at *
          clear h0 hs ha hasc hlz HV
          go_enter Tryz.func36, Tryz.ntmps36
          go_wp2_with (first | (go_at_call 52; refine hV.mono ?_; rintro e w1 ⟨rfl, hb1⟩) | (go_at_call 53; refine (hA _).mono ?_; rintro e w' ⟨rfl, hw'⟩; rw [hw']; clear hw') | (go_at_call 54; refine (hlo _).mono ?_; rintro e w2 ⟨rfl, hb2⟩) | (go_at_call 55; refine (hcp _).mono ?_; rintro e w' ⟨rfl, hw'⟩; rw [hw']; clear hw') | (go_at_call 56; refine (hde _).mono ?_; rintro e w3 ⟨rfl, hb3⟩))
          go_ret2
          exact ⟨rfl, Below.andThen (Below.andThen hb1 hb2) hb3⟩
        | false =>
          simp only [hp, Lib.trimPrefix, Bool.false_eq_true, if_false] at hcp
          rw [if_neg (by decide)]
          have HT : Hid (plainV (0, (Lib.toLowerA s.data.toList).map (·.toNat)) = .tuple #[.string ⟨(Lib.toLowerA s.data.toList).toArray⟩, .int .i64 0]) := by
            unfold Hid plainV
            rw [if_pos rfl, textOf_map _ hasc]
          generalize Lib.toLowerA s.data.toList = lo at *
          clear h0 hs ha hasc hlz
          go_enter Tryz.func36, Tryz.ntmps36
          go_wp2_with (first | (go_at_call 52; refine hV.mono ?_; rintro e w1 ⟨rfl, hb1⟩) | (go_at_call 53; refine (hA _).mono ?_; rintro e w' ⟨rfl, hw'⟩; rw [hw']; clear hw') | (go_at_call 54; refine (hlo _).mono ?_; rintro e w2 ⟨rfl, hb2⟩) | (go_at_call 55; refine (hcp _).mono ?_; rintro e w' ⟨rfl, hw'⟩; rw [hw']; clear hw'))
          go_ret2
          exact ⟨by rw [HT.out]; rfl, Below.andThen hb1 hb2⟩
end Go.Proofs.YtkaaldhejpaiiaaGreatDoor

/- newLabel, form, goodLabel, Label. -/
namespace Go.Proofs.YtkaaldhejpaiiaaGreatDoor
open Go.RowKit

/-- The table lies where it should. -/
def Tab (w : World) : Prop := ∃ tt fr, w.heap[0]? = some (.cells aggK tt fr)
theorem Tab.keep {w w' : World} (h : Tab w) (hb : Below w.heap.size w w') : Tab w' := by
  obtain ⟨tt, fr, h4⟩ := h
  exact ⟨tt, fr, (hb.block 0 (lt_heap h4)).trans h4⟩
theorem runeRow_at (w : World) (s : ByteArray) (i : Nat) (hi : i < (runes s).length) : (runeRow w s)[i]? = some (rv (runes s)[i]) := by
  unfold runeRow
  rw [Array.getElem?_append_left (by simpa using hi)]
  simp [hi]
set_option maxHeartbeats 1000000 in
theorem of_big (s : ByteArray) (w : World) :
    Calls Tryz.prog 57 #[.string s] w fun e w' => ∃ r c cs, e = .returned (.agg #[.slice (some ⟨r, 0, none⟩) (runes s).length c]) ∧ w'.heap[r]? = some (.cells cs 21 (0, 0)) ∧ (∀ i (_ : i < (runes s).length), cs[i]? = some (rv (runes s)[i])) ∧ Below w.heap.size w w' := by
  have hcv := fun w => run_toRunes s w
  go_enter Tryz.func57, Tryz.ntmps57
  go_wp2
  refine bodyPost_ret (v := .agg #[.slice (some ⟨w.heap.size + 1, 0, none⟩) (runes s).length _]) (by simp [results, Tryz.results57, go_sem]; rfl) rfl ⟨_, _, runeRow (w.alloc (.cells #[.slice none 0 0] 50)) s, rfl, ?_, fun i hi => runeRow_at _ s i hi, ?_⟩
  · have h := fun o => Go.heap_alloc_new (w.alloc o) (.cells (runeRow (w.alloc (.cells #[.slice none 0 0] 50)) s) 21)
    simp only [World.size_alloc] at h
    exact h _
  · exact below_drew_alloc2 _ _
set_option maxHeartbeats 1000000 in
theorem newLabel_any (L : List Nat) (w : World) (hs : signsL L) (hn : L.length ≤ 2000000000) (hT : Tab w) :
    Calls Tryz.prog 37 #[.string (textOf L)] w fun e w' => ∃ b r, e = .returned (.pointer (some ⟨b, 0, none⟩)) ∧ Lab w' b r L ∧ Below w.heap.size w w' := by
  have ho := of_big (textOf L) w
  have hr : runes (textOf L) = L := (runes_bytes hs).1
  rw [hr] at ho
  generalize textOf L = t at *
  clear hr
  go_enter Tryz.func37, Tryz.ntmps37
  go_wp2_with (go_at_call 57; refine ho.mono ?_; rintro e w1 ⟨r, c, cs, rfl, h1, h2, hb1⟩; have H : Hid (w1.heap[r]? = some (.cells cs 21 (0, 0)) ∧ (∀ i (_ : i < L.length), cs[i]? = some (rv L[i])) ∧ Below w.heap.size w w1) := ⟨h1, h2, hb1⟩; clear h1 h2 hb1 ho)
  go_ret
  obtain ⟨h1, h2, hb1⟩ := H.out
  have hb2 := below_one w1 (.cells #[.slice (some ⟨r, 0, none⟩) L.length c] 52)
  refine ⟨w1.heap.size, r, rfl, ⟨⟨c, Go.heap_alloc_new w1 _⟩, ⟨cs, (hb2.block r (lt_heap h1)).trans h1, h2⟩, (hT.keep hb1).keep hb2, by omega, fun x hx => ?_⟩, Below.andThen hb1 hb2⟩
  have := hs x hx
  rw [sign_iff] at this
  exact this.1
theorem labString_any {w : World} {b r : Nat} {L : List Nat} (hL : Lab w b r L) :
    Calls Tryz.prog 24 #[.pointer (some ⟨b, 0, none⟩)] w fun e w' => e = .returned (.string (textOf L)) ∧ w' = w := by
  obtain ⟨c, hc⟩ := hL.cell
  have hcv : (convert 48 9 (.slice (some ⟨r, 0, none⟩) L.length c)).run Tryz.prog w = .ok (.string (textOf L)) w := by
    rw [run_convert_runes_string w 48 9 21 _ _ _ Tryz.underlying48 Tryz.underlying21 Tryz.underlying9]
    refine run_runesToString w _ _ _ _ ?_
    have := run_loadCells_list (P := Tryz.prog) w ⟨r, 0, none⟩ (L.map rv) (fun j v hv => by
      rw [List.getElem?_map] at hv
      cases hj : L[j]? with
      | none => rw [hj] at hv; cases hv
      | some x =>
        rw [hj] at hv
        obtain ⟨hl, rfl⟩ := List.getElem?_eq_some_iff.1 hj
        have h := hL.sign j hl
        rw [Addr.add_lit, Nat.zero_add, h]
        simpa using hv)
    rw [List.length_map] at this
    rw [this]
    congr 2
    simp [rv, lI]
  clear hL
  go_enter Tryz.func24, Tryz.ntmps24
  go_wp2
  go_ret
  exact ⟨rfl, rfl⟩

theorem enc_bound {L : List Nat} (hs : signsL L) (hL : L.length ≤ 1000) : (encS L (ysOf L)).length ≤ 100000000 := by
  have h := ysOf_ys L
  have hf := ys_filter h
  have hlen := ascF_len_eq L
  have hal := ascF_len L
  have hform : (firstEs L).form.length ≤ 1001 := by unfold firstEs; simp only; split <;> simp; omega
  obtain ⟨_, hok, _⟩ := eachAll_dec hL (ysOf L) (firstEs L) (ys_come h hs) ⟨Nat.le_refl _, by simp [firstEs], by omega⟩ (fun y hy => ⟨((h.all y).1 hy).2, fun _ => rfl⟩) (Nat.zero_le _) (by rw [hf]; exact hlen)
  have h1 := hok.form
  have h2 := eachAll_len L (ysOf L) (firstEs L)
  have h3 : (ysOf L).length ≤ 1000 := by
    have hol := oth_len L
    have hsl := (sorted_perm (oth L)).length_eq
    have hql := squash_len (sorted (oth L))
    unfold ysOf; omega
  have h4 : (ysOf L).length * L.length ≤ 1000 * 1000 := Nat.mul_le_mul h3 hL
  have h5 : (firstEs L).len = (ascF L).length := rfl
  unfold encS
  omega
def formV (L : List Nat) : Value := if 63 < (formB L).size then .tuple #[.string { data := #[] }, .int .i64 9] else .tuple #[.string (formB L), .int .i64 0]
theorem xn_append (t : ByteArray) : (⟨#[120, 110, 45, 45]⟩ : ByteArray) ++ t = ⟨(xn ++ t.data.toList).toArray⟩ := by
  apply ByteArray.ext
  rw [ByteArray.data_append]
  apply Array.toList_inj.1
  simp [xn]
set_option maxRecDepth 100000 in
set_option maxHeartbeats 4000000 in
theorem form_any {w : World} {b r : Nat} {L : List Nat} (hL : Lab w b r L) (hs : signsL L) (hn : L.length ≤ 400000000) (hT : Lib.Utf8Tabs 1 2 w) :
    Calls Tryz.prog 39 #[.pointer (some ⟨b, 0, none⟩)] w fun e w' => e = .returned (formV L) ∧ Below w.heap.size w w' := by
  have hst := labString_any hL
  have htl := textOf_len L
  have hA := isASCII_big (textOf L) w (by omega)
  rw [textOf_low] at hA
  obtain ⟨hr, hv⟩ := runes_bytes hs
  rw [show runesBytes (lI L) = textOf L from rfl] at hr hv
  unfold formV formB
  cases ha : allLow L with
  | true =>
    rw [ha] at hA
    simp only [if_true]
    have htz : (textOf L).size ≤ 2000000000 := by omega
    generalize textOf L = t at *
    clear hL hn htl hr hv hT hs
    by_cases h63 : 63 < t.size
    · rw [if_pos h63]
      have h63' : (63 : Int) < (t.size : Int) := by omega
      clear htz
      go_enter Tryz.func39, Tryz.ntmps39
      go_wp2_with (first | (go_at_call 24; refine hst.mono ?_; rintro e w' ⟨rfl, hw'⟩; rw [hw']; clear hw') | (go_at_call 53; refine hA.mono ?_; rintro e w' ⟨rfl, hw'⟩; rw [hw']; clear hw'))
      go_ret2
      exact ⟨rfl, Below.refl _ _⟩
    · rw [if_neg h63]
      have h63' : ¬ (63 : Int) < (t.size : Int) := by omega
      clear htz
      go_enter Tryz.func39, Tryz.ntmps39
      go_wp2_with (first | (go_at_call 24; refine hst.mono ?_; rintro e w' ⟨rfl, hw'⟩; rw [hw']; clear hw') | (go_at_call 53; refine hA.mono ?_; rintro e w' ⟨rfl, hw'⟩; rw [hw']; clear hw'))
      go_ret2
      exact ⟨rfl, Below.refl _ _⟩
  | false =>
    rw [ha] at hA
    simp only [Bool.false_eq_true, if_false]
    have hen := Encode_any (textOf L) w (by omega) hT
    have hel := encS_len L
    have hfo : formOf (textOf L) = ⟨(encS L (ysOf L)).toArray⟩ := by unfold formOf; rw [hr]
    have hz : (⟨(xn ++ encS L (ysOf L)).toArray⟩ : ByteArray).size = 4 + (encS L (ysOf L)).length := by
      show (xn ++ encS L (ysOf L)).toArray.size = _
      rw [List.size_toArray, List.length_append]; rfl
    by_cases hl : 1000 < (textOf L).size
    · have h63 : 63 < (⟨(xn ++ encS L (ysOf L)).toArray⟩ : ByteArray).size := by omega
      rw [if_pos h63]
      have hen2 : Calls Tryz.prog 63 #[.string (textOf L)] w fun e w' => e = .returned (.tuple #[.string { data := #[] }, .int .i64 9]) ∧ Below w.heap.size w w' := hen.mono (by
        rintro e w' ⟨⟨v, rfl, hR⟩, hb⟩
        cases hR with
        | bad h => rw [hv] at h; cases h
        | long _ _ => exact ⟨rfl, hb⟩
        | ok _ h => omega)
      generalize textOf L = t at *
      clear hL hn htl hr hv hT hen hel hfo hz h63 hl hs
      go_enter Tryz.func39, Tryz.ntmps39
      go_wp2_with (first | (go_at_call 24; refine hst.mono ?_; rintro e w' ⟨rfl, hw'⟩; rw [hw']; clear hw') | (go_at_call 53; refine hA.mono ?_; rintro e w' ⟨rfl, hw'⟩; rw [hw']; clear hw') | (go_at_call 63; refine hen2.mono ?_; rintro e w1 ⟨rfl, hb1⟩))
      go_ret2
      exact ⟨rfl, hb1⟩
    · have hen2 : Calls Tryz.prog 63 #[.string (textOf L)] w fun e w' => e = .returned (.tuple #[.string (formOf (textOf L)), .int .i64 0]) ∧ Below w.heap.size w w' := hen.mono (by
        rintro e w' ⟨⟨v, rfl, hR⟩, hb⟩
        cases hR with
        | bad h => rw [hv] at h; cases h
        | long _ h => omega
        | ok _ h => exact ⟨rfl, hb⟩)
      have hxa := xn_append (formOf (textOf L))
      have hfb : (formOf (textOf L)).size ≤ 9223372036854775800 := by
        have := enc_bound hs (L := L) (by
          have h1 := runes_len (textOf L)
          rw [hr] at h1; omega)
        rw [hfo]
        show (encS L (ysOf L)).toArray.size ≤ _
        rw [List.size_toArray]; omega
      rw [show (formOf (textOf L)).data.toList = encS L (ysOf L) by rw [hfo]] at hxa
      generalize formOf (textOf L) = f at *
      generalize (⟨(xn ++ encS L (ysOf L)).toArray⟩ : ByteArray) = F at *
      generalize textOf L = t at *
      clear hL hn htl hr hv hT hen hel hfo hz hl hs
      have hFz : F.size = 4 + f.size := by rw [← hxa, ByteArray.size_append]; rfl
      by_cases h63 : 63 < F.size
      · rw [if_pos h63]
        have h63' : (63 : Int) < 4 + (f.size : Int) := by omega
        have HX : Hid ((⟨#[120, 110, 45, 45]⟩ : ByteArray) ++ f = F) := hxa
        clear hxa h63 hFz
        go_enter Tryz.func39, Tryz.ntmps39
        go_wp2_with (first | (go_at_call 24; refine hst.mono ?_; rintro e w' ⟨rfl, hw'⟩; rw [hw']; clear hw') | (go_at_call 53; refine hA.mono ?_; rintro e w' ⟨rfl, hw'⟩; rw [hw']; clear hw') | (go_at_call 63; refine hen2.mono ?_; rintro e w1 ⟨rfl, hb1⟩))
        go_ret2
        exact ⟨rfl, hb1⟩
      · rw [if_neg h63]
        have h63' : ¬ (63 : Int) < 4 + (f.size : Int) := by omega
        have HX : Hid ((⟨#[120, 110, 45, 45]⟩ : ByteArray) ++ f = F) := hxa
        clear hxa h63 hFz
        go_enter Tryz.func39, Tryz.ntmps39
        go_wp2_with (first | (go_at_call 24; refine hst.mono ?_; rintro e w' ⟨rfl, hw'⟩; rw [hw']; clear hw') | (go_at_call 53; refine hA.mono ?_; rintro e w' ⟨rfl, hw'⟩; rw [hw']; clear hw') | (go_at_call 63; refine hen2.mono ?_; rintro e w1 ⟨rfl, hb1⟩))
        go_ret2
        exact ⟨by rw [← HX.out]; rfl, hb1⟩
theorem plain_facts (s : ByteArray) (h : (plainM s).1 = 0) : signsL (plainM s).2 ∧ ((plainM s).2.length ≤ s.size ∨ (plainM s).2.length ≤ 1000) ∧ (plainM s).2 ≠ [] := by
  unfold plainM at h ⊢
  cases hv : Lib.validD s.data.toList with
  | false => rw [hv] at h; simp at h
  | true =>
    rw [hv] at h
    rw [if_neg (by decide)] at h ⊢
    by_cases h0 : s.size = 0
    · rw [if_pos h0] at h; simp at h
    · rw [if_neg h0] at h ⊢
      have hne : s.data.toList ≠ [] := fun e => h0 (by have := congrArg List.length e; rwa [Array.length_toList] at this)
      cases ha : ascB s.data.toList with
      | false =>
        rw [if_pos rfl]
        refine ⟨(bytes_of_valid hv).1, Or.inl (runes_len s), fun e => hne ?_⟩
        have h2 := (bytes_of_valid hv).2
        simp only at e
        rw [e] at h2
        rw [← h2]
        rfl
      | true =>
        rw [ha] at h
        rw [if_neg (by decide)] at h ⊢
        cases hp : Lib.hasPrefix (Lib.toLowerA s.data.toList) xn with
        | true =>
          rw [hp, if_pos rfl] at h
          rw [if_pos rfl]
          unfold decM at h ⊢
          cases hd : decodeS ⟨((Lib.toLowerA s.data.toList).drop 4).toArray⟩ with
          | none => rw [hd] at h; simp at h
          | some L =>
            rw [hd] at h
            simp only at h ⊢
            cases hal : allLow L with
            | true => rw [hal] at h; simp at h
            | false =>
              simp only [Bool.false_eq_true, if_false]
              exact ⟨(decoded hd).2.1, Or.inr (dec_len hd), fun e => by rw [e] at hal; cases hal⟩
        | false =>
          rw [if_neg (by decide)]
          have hlz : (Lib.toLowerA s.data.toList).length = s.size := by unfold Lib.toLowerA; rw [List.length_map, Array.length_toList]; rfl
          refine ⟨fun n hn => ?_, Or.inl (by rw [List.length_map, hlz]; exact Nat.le_refl _), fun e => h0 ?_⟩
          · obtain ⟨c, hc, rfl⟩ := List.mem_map.1 hn
            have := List.all_eq_true.1 (lower_asc _ ha) c hc
            exact sign_low (by simpa using this)
          · have := congrArg List.length e
            rw [List.length_map, hlz] at this
            exact this
/-- What goodLabel answers. -/
def GoodR (s : ByteArray) (e : Ending) (w' : World) : Prop :=
  ((labelM s).1 = 0 ∧ ∃ b r, e = .returned (.tuple #[.pointer (some ⟨b, 0, none⟩), .string (labelM s).2.2, .int .i64 0]) ∧ Lab w' b r (labelM s).2.1) ∨
  ((labelM s).1 ≠ 0 ∧ e = .returned (.tuple #[.pointer none, .string { data := #[] }, .int .i64 ((labelM s).1 : Nat)]))
theorem tabs_keep {w w' : World} (h : Lib.Utf8Tabs 1 2 w) (hb : Below w.heap.size w w') : Lib.Utf8Tabs 1 2 w' := Utf8Tabs_below h hb
set_option maxHeartbeats 4000000 in
theorem goodLabel_any (s : ByteArray) (w : World) (hs : s.size ≤ 400000000) (hU : Lib.Utf8Tabs 1 2 w) (hT : Tab w) :
    Calls Tryz.prog 23 #[.string s] w fun e w' => GoodR s e w' ∧ Below w.heap.size w w' := by
  have hp := plainText_any s w (by omega) hU
  have hf := plain_facts s
  have HU : Hid (Lib.Utf8Tabs 1 2 w) := hU
  have HT : Hid (Tab w) := hT
  have hM : labelM s = if (plainM s).1 ≠ 0 then ((plainM s).1, [], ⟨#[]⟩) else if faultM (plainM s).2 ≠ 0 then (faultM (plainM s).2, [], ⟨#[]⟩) else if 63 < (formB (plainM s).2).size then (9, [], ⟨#[]⟩) else (0, (plainM s).2, formB (plainM s).2) := rfl
  unfold GoodR
  generalize labelM s = M at *
  generalize plainM s = P at *
  obtain ⟨e0, L⟩ := P
  simp only at hf hM
  clear hU hT
  by_cases h0 : e0 = 0
  · subst h0
    rw [if_neg (by simp)] at hM
    obtain ⟨hsg, hlen, hne⟩ := hf rfl
    have hp2 : Calls Tryz.prog 36 #[.string s] w fun e w' => e = .returned (.tuple #[.string (textOf L), .int .i64 0]) ∧ Below w.heap.size w w' := hp
    have hnl := fun W (hW : Tab W) => newLabel_any L W hsg (by omega) hW
    have hfm := fun W b r (hW : Lab W b r L) (hU : Lib.Utf8Tabs 1 2 W) => form_any hW hsg (by omega) hU
    generalize textOf L = t at *
    have HNL : Hid (∀ W, Tab W → Calls Tryz.prog 37 #[.string t] W fun e w' => ∃ b r, e = .returned (.pointer (some ⟨b, 0, none⟩)) ∧ Lab w' b r L ∧ Below W.heap.size W w') := hnl
    have HFM : Hid (∀ W b r, Lab W b r L → Lib.Utf8Tabs 1 2 W → Calls Tryz.prog 39 #[.pointer (some ⟨b, 0, none⟩)] W fun e w' => e = .returned (formV L) ∧ Below W.heap.size W w') := hfm
    clear hp hf hnl hfm hsg hlen hne hs
    by_cases hfa : faultM L = 0
    · rw [if_neg (by simp [hfa])] at hM
      by_cases h63 : 63 < (formB L).size
      · rw [if_pos h63] at hM
        subst hM
        have h : Calls Tryz.prog 23 #[.string s] w fun e w' => e = .returned (.tuple #[.pointer none, .string { data := #[] }, .int .i64 9]) ∧ Below w.heap.size w w' := by
          go_enter Tryz.func23, Tryz.ntmps23
          go_wp2_with fail
          refine hp2.mono ?_
          rintro e w1 ⟨rfl, hb1⟩
          clear hp2
          have h2 := HNL.out w1 (HT.out.keep hb1)
          go_wp2_with fail
          refine h2.mono ?_
          rintro e w2 ⟨b, r, rfl, hL2, hb2⟩
          clear h2
          have HL2 : Hid (Lab w2 b r L) := hL2
          have h3 := fault_any hL2
          rw [hfa] at h3
          clear hL2
          have HB2 : Hid (Below w.heap.size w w2) := Below.andThen hb1 hb2
          clear hb1 hb2
          go_wp2_with fail
          refine h3.mono ?_
          rintro e w3 ⟨rfl, hb3⟩
          clear h3
          have h4 := HFM.out w3 b r (HL2.out.keep hb3) (tabs_keep HU.out (Below.andThen HB2.out hb3))
          unfold formV at h4
          rw [if_pos h63] at h4
          clear h63 hfa
          go_wp2_with fail
          refine h4.mono ?_
          rintro e w4 ⟨rfl, hb4⟩
          clear h4
          go_wp2_with fail
          go_ret3
          exact ⟨rfl, Below.andThen (Below.andThen HB2.out hb3) hb4⟩
        exact h.mono fun _ _ ⟨he, hb⟩ => ⟨Or.inr ⟨by simp, he⟩, hb⟩
      · rw [if_neg h63] at hM
        subst hM
        have h : Calls Tryz.prog 23 #[.string s] w fun e w' => (∃ b r, e = .returned (.tuple #[.pointer (some ⟨b, 0, none⟩), .string (formB L), .int .i64 0]) ∧ Lab w' b r L) ∧ Below w.heap.size w w' := by
          go_enter Tryz.func23, Tryz.ntmps23
          go_wp2_with fail
          refine hp2.mono ?_
          rintro e w1 ⟨rfl, hb1⟩
          clear hp2
          have h2 := HNL.out w1 (HT.out.keep hb1)
          go_wp2_with fail
          refine h2.mono ?_
          rintro e w2 ⟨b, r, rfl, hL2, hb2⟩
          clear h2
          have HL2 : Hid (Lab w2 b r L) := hL2
          have h3 := fault_any hL2
          rw [hfa] at h3
          clear hL2
          have HB2 : Hid (Below w.heap.size w w2) := Below.andThen hb1 hb2
          clear hb1 hb2
          go_wp2_with fail
          refine h3.mono ?_
          rintro e w3 ⟨rfl, hb3⟩
          clear h3
          have h4 := HFM.out w3 b r (HL2.out.keep hb3) (tabs_keep HU.out (Below.andThen HB2.out hb3))
          unfold formV at h4
          rw [if_neg h63] at h4
          clear h63 hfa
          go_wp2_with fail
          refine h4.mono ?_
          rintro e w4 ⟨rfl, hb4⟩
          clear h4
          go_wp2_with fail
          go_ret3
          exact ⟨⟨b, r, rfl, (HL2.out.keep hb3).keep hb4⟩, Below.andThen (Below.andThen HB2.out hb3) hb4⟩
        exact h.mono fun _ _ ⟨he, hb⟩ => ⟨Or.inl ⟨rfl, he⟩, hb⟩
    · rw [if_pos hfa] at hM
      subst hM
      obtain ⟨fa, hfe⟩ : ∃ fa, faultM L = fa := ⟨_, rfl⟩
      have h : Calls Tryz.prog 23 #[.string s] w fun e w' => e = .returned (.tuple #[.pointer none, .string { data := #[] }, .int .i64 (fa : Nat)]) ∧ Below w.heap.size w w' := by
        rw [hfe] at hfa
        have hfaI : ¬ (fa : Int) = 0 := by omega
        go_enter Tryz.func23, Tryz.ntmps23
        go_wp2_with fail
        refine hp2.mono ?_
        rintro e w1 ⟨rfl, hb1⟩
        clear hp2
        have h2 := HNL.out w1 (HT.out.keep hb1)
        go_wp2_with fail
        refine h2.mono ?_
        rintro e w2 ⟨b, r, rfl, hL2, hb2⟩
        clear h2
        have HL2 : Hid (Lab w2 b r L) := hL2
        have h3 := fault_any hL2
        rw [hfe] at h3
        clear hL2
        have HB2 : Hid (Below w.heap.size w w2) := Below.andThen hb1 hb2
        clear hb1 hb2
        go_wp2_with fail
        refine h3.mono ?_
        rintro e w3 ⟨rfl, hb3⟩
        clear h3
        go_wp2_with fail
        go_ret3
        exact ⟨rfl, Below.andThen HB2.out hb3⟩
      rw [← hfe] at h
      exact h.mono fun _ _ ⟨he, hb⟩ => ⟨Or.inr ⟨hfa, he⟩, hb⟩
  · rw [if_pos h0] at hM
    subst hM
    have hp2 : Calls Tryz.prog 36 #[.string s] w fun e w' => e = .returned (.tuple #[.string { data := #[] }, .int .i64 (e0 : Nat)]) ∧ Below w.heap.size w w' := by
      unfold plainV at hp
      rwa [if_neg h0] at hp
    have h0I : ¬ (e0 : Int) = 0 := by omega
    have h : Calls Tryz.prog 23 #[.string s] w fun e w' => e = .returned (.tuple #[.pointer none, .string { data := #[] }, .int .i64 (e0 : Nat)]) ∧ Below w.heap.size w w' := by
      clear hp hf hs h0
      go_enter Tryz.func23, Tryz.ntmps23
      go_wp2_with (go_at_call 36; refine hp2.mono ?_; rintro e w1 ⟨rfl, hb1⟩)
      go_ret3
      exact ⟨rfl, hb1⟩
    exact h.mono fun _ _ ⟨he, hb⟩ => ⟨Or.inr ⟨h0, he⟩, hb⟩
def labelV (s : ByteArray) : Value := if (labelM s).1 = 0 then .tuple #[.string (textOf (labelM s).2.1), .string (labelM s).2.2, .int .i64 0] else .tuple #[.string { data := #[] }, .string { data := #[] }, .int .i64 ((labelM s).1 : Nat)]
set_option maxHeartbeats 4000000 in
theorem Label_any (s : ByteArray) (w : World) (hs : s.size ≤ 400000000) (hU : Lib.Utf8Tabs 1 2 w) (hT : Tab w) :
    Calls Tryz.prog 11 #[.string s] w fun e w' => e = .returned (labelV s) ∧ Below w.heap.size w w' := by
  have hg := goodLabel_any s w hs hU hT
  unfold GoodR at hg
  unfold labelV
  generalize labelM s = M at *
  obtain ⟨er, L, F⟩ := M
  simp only at hg ⊢
  clear hU hT hs
  by_cases h0 : er = 0
  · subst h0
    rw [if_pos rfl]
    go_enter Tryz.func11, Tryz.ntmps11
    go_wp2_with fail
    refine hg.mono ?_
    rintro e w1 ⟨⟨_, b, r, rfl, hL⟩ | ⟨h, _⟩, hb1⟩
    · have hst := labString_any hL
      clear hL hg
      go_wp2_with (go_at_call 24; refine hst.mono ?_; rintro e w' ⟨rfl, hw'⟩; rw [hw']; clear hw')
      go_ret3
      exact ⟨rfl, hb1⟩
    · exact absurd rfl h
  · rw [if_neg h0]
    have h0I : ¬ (er : Int) = 0 := by omega
    go_enter Tryz.func11, Tryz.ntmps11
    go_wp2_with fail
    refine hg.mono ?_
    rintro e w1 ⟨⟨h, _⟩ | ⟨_, rfl⟩, hb1⟩
    · exact absurd h h0
    · clear hg
      go_wp2_with fail
      go_ret3
      exact ⟨rfl, hb1⟩
end Go.Proofs.YtkaaldhejpaiiaaGreatDoor

