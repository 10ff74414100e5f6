/- goodName. -/
import Derived.Test.YtkaaldhejpaiiaaGreatDoorNc
namespace Go.Proofs.YtkaaldhejpaiiaaGreatDoor
open Go.RowKit

theorem NameAt.keep {w w' : World} {b B : Nat} {Ls : List Lb} {n0 n1 n2 : Nat} {ps ts fs : List Value} {v0 v1 v2 : Value} (h : NameAt w b B Ls n0 n1 n2 ps ts fs v0 v1 v2) (hb : Below w.heap.size w w') : NameAt w' b B Ls n0 n1 n2 ps ts fs v0 v1 v2 := by
  obtain ⟨h1, h2, h3, h4, h5, h6, h7⟩ := h
  have hg : w.grownBy w' none := ⟨hb.os, hb.tape, hb.output, hb.size, fun k hk _ => hb.block k hk⟩
  have hno : ∀ v : Value, v.ownBlock = none ∨ v.ownBlock ≠ none := fun v => by cases v.ownBlock <;> simp
  exact ⟨(hb.block b (lt_heap h1)).trans h1, h2, h3.kept hg (hno _), h4.kept hg (hno _), h5.kept hg (hno _), h6, fun x hx => (h7 x hx).keep hb⟩
/-- The first label that is not good: its number, the error. -/
def badM : List ByteArray → Nat → Option (Nat × Nat)
  | [], _ => none
  | p :: r, i => if (labelM p).1 ≠ 0 then some (i, (labelM p).1) else badM r (i + 1)
def signsOf (ps : List ByteArray) : List (List Nat) := ps.map fun p => (labelM p).2.1
def formsOf (ps : List ByteArray) : List ByteArray := ps.map fun p => (labelM p).2.2
def firstS (p : List Nat → Bool) : List (List Nat) → Int
  | [] => -1
  | x :: r => if p x = true then 0 else (if firstS p r = -1 then -1 else firstS p r + 1)
theorem firstL_S (p : List Nat → Bool) : ∀ Ls : List Lb, firstL p Ls = firstS p (Ls.map (·.2.2))
  | [] => rfl
  | x :: r => by simp only [firstL, firstS, List.map_cons, firstL_S p r]
def togetherS (SL : List (List Nat)) (Fs : List ByteArray) : Int × Nat :=
  if 0 ≤ firstS (fun L => !sidedM L) SL ∧ (SL.any asksM) = true then (firstS (fun L => !sidedM L) SL, 10)
  else if 253 < (dotted Fs).size then (0, 11) else (0, 0)
theorem together_S (Ls : List Lb) (Fs : List ByteArray) : togetherM Ls Fs = togetherS (Ls.map (·.2.2)) Fs := by
  unfold togetherM togetherS
  rw [firstL_S, List.any_map]
  rfl
/-- What labels come to: the number, the error (0: none). -/
def goodM (ps : List ByteArray) : Int × Nat :=
  match badM ps 0 with
  | some (i, e) => ((i : Int), e)
  | none => togetherS (signsOf ps) (formsOf ps)
theorem badM_hit : ∀ (ps : List ByteArray) (k i : Nat) (hk : k < ps.length), (∀ j (hj : j < ps.length), j < k → (labelM ps[j]).1 = 0) → (labelM ps[k]).1 ≠ 0 → badM ps i = some (i + k, (labelM ps[k]).1)
  | p :: r, 0, i, _, _, h => by simp only [badM]; rw [if_pos (by simpa using h)]; rfl
  | p :: r, k + 1, i, hk, hn, h => by
    have h0 := hn 0 (by simp) (by omega)
    have ih := badM_hit r k (i + 1) (by simpa using hk) (fun j hj hjk => by have := hn (j + 1) (by simpa using hj) (by omega); simpa using this) (by simpa using h)
    simp only [badM]
    rw [if_neg (by simpa using h0), ih]
    simp
    omega
theorem badM_none : ∀ (ps : List ByteArray) (i : Nat), (∀ j (hj : j < ps.length), (labelM ps[j]).1 = 0) → badM ps i = none
  | [], _, _ => rfl
  | p :: r, i, hn => by
    have h0 := hn 0 (by simp)
    have ih := badM_none r (i + 1) (fun j hj => by have := hn (j + 1) (by simpa using hj); simpa using this)
    simp only [badM]
    rw [if_neg (by simpa using h0), ih]
theorem label_small (s : ByteArray) (h : (labelM s).1 = 0) : (labelM s).2.2.size ≤ 63 ∧ (labelM s).2.1.length ≤ 63 := by
  unfold labelM at h ⊢
  by_cases h1 : (plainM s).1 ≠ 0
  · rw [if_pos h1] at h; exact absurd h h1
  · rw [if_neg h1] at h ⊢
    by_cases h2 : faultM (plainM s).2 ≠ 0
    · rw [if_pos h2] at h; exact absurd h h2
    · rw [if_neg h2] at h ⊢
      by_cases h3 : 63 < (formB (plainM s).2).size
      · rw [if_pos h3] at h; simp at h
      · rw [if_neg h3]
        refine ⟨by simpa using h3, ?_⟩
        have h4 : (plainM s).2.length ≤ (formB (plainM s).2).size := by
          unfold formB
          generalize (plainM s).2 = L
          split
          · have : ∀ L : List Nat, L.length ≤ (bytesOf L).length := by
              intro L
              induction L with
              | nil => simp
              | cons n L ih =>
                unfold bytesOf
                rw [List.length_append, List.length_cons]
                have h : 1 ≤ (Utf8.encode (n : Int)).data.toList.length := by
                  unfold Utf8.encode
                  simp only
                  generalize (if Utf8.valid (n : Int) = true then ((n : Int)).toNat else Utf8.runeError) = m
                  split
                  · simp
                  · split
                    · simp
                    · split <;> simp
                omega
            have h5 := this L
            rw [← runesBytes_list, Array.length_toList] at h5
            exact h5
          · have := encS_len L
            show _ ≤ (xn ++ encS L (ysOf L)).toArray.size
            rw [List.size_toArray, List.length_append]
            omega
        simp only
        omega
theorem join_len (c : Nat) : ∀ xs : List (List UInt8), (∀ x ∈ xs, x.length ≤ c) → (Lib.join xs [46]).length ≤ xs.length * (c + 1)
  | [], _ => by simp [Lib.join]
  | [x], h => by have := h x (by simp); simp [Lib.join]; omega
  | x :: y :: r, h => by
    have h1 := h x (by simp)
    have ih := join_len c (y :: r) fun z hz => h z (by simp [hz])
    have e : Lib.join (x :: y :: r) [46] = x ++ [46] ++ Lib.join (y :: r) [46] := by simp [Lib.join, List.intercalate]
    rw [e, List.length_append, List.length_append, List.length_singleton, List.length_cons, Nat.add_mul]
    omega
theorem dotted_len (c : Nat) (xs : List ByteArray) (h : ∀ x ∈ xs, x.size ≤ c) : (dotted xs).size ≤ xs.length * (c + 1) := by
  have := join_len c (xs.map (·.data.toList)) fun x hx => by
    obtain ⟨y, hy, rfl⟩ := List.mem_map.1 hx
    rw [Array.length_toList]; exact h y hy
  rw [List.length_map] at this
  exact this

/-- Texts in a row. -/
def TextsAt (w : World) (g : Nat) (ps : List ByteArray) : Prop := g < w.heap.size ∧ ∀ i (_ : i < ps.length), w.cell? ⟨g, i, none⟩ = some (.string ps[i])
/-- What goodName answers. -/
def GoodN (ps : List ByteArray) (e : Ending) (w' : World) : Prop :=
  ((goodM ps).2 = 0 ∧ ∃ b Ls, e = .returned (.tuple #[.pointer (some ⟨b, 0, none⟩), .int .i64 0, .int .i64 0]) ∧ NameR w' b Ls (formsOf ps) ∧ Ls.map (·.2.2) = signsOf ps) ∨
  ((goodM ps).2 ≠ 0 ∧ e = .returned (.tuple #[.pointer none, .int .i64 (goodM ps).1, .int .i64 ((goodM ps).2 : Nat)]))
theorem zero_name (w : World) (hT : Tab w) : NameAt (w.alloc (.cells #[.slice none 0 0, .slice none 0 0, .slice none 0 0] 89)) w.heap.size w.heap.size [] 0 0 0 [] [] [] (.slice none 0 0) (.slice none 0 0) (.slice none 0 0) := by
  obtain ⟨tt, fr, h⟩ := hT
  exact ⟨Go.heap_alloc_new w _, ⟨lt_heap h, Nat.le_refl _⟩, ⟨rfl, Or.inl ⟨rfl, rfl⟩⟩, ⟨rfl, Or.inl ⟨rfl, rfl⟩⟩, ⟨rfl, Or.inl ⟨rfl, rfl⟩⟩, fun g hg => (by cases hg), fun x hx => (by cases hx)⟩
set_option maxHeartbeats 4000000 in
theorem goodName_any (ps : List ByteArray) (g c : Nat) (w : World) (hP : TextsAt w g ps) (h1 : 1 ≤ ps.length) (hn : ps.length ≤ 400000000) (hs : ∀ p ∈ ps, p.size ≤ 400000000) (hU : Lib.Utf8Tabs 1 2 w) (hT : Tab w) :
    Calls Tryz.prog 29 #[.slice (some ⟨g, 0, none⟩) ps.length c] w fun e w' => GoodN ps e w' ∧ Below w.heap.size w w' := by
  have HP : Hid (TextsAt w g ps ∧ (∀ p ∈ ps, p.size ≤ 400000000) ∧ Lib.Utf8Tabs 1 2 w ∧ Tab w) := ⟨hP, hs, hU, hT⟩
  have HZ : Hid (NameAt (w.alloc (.cells #[.slice none 0 0, .slice none 0 0, .slice none 0 0] 89)) w.heap.size w.heap.size [] 0 0 0 [] [] [] (.slice none 0 0) (.slice none 0 0) (.slice none 0 0)) := zero_name w hT
  obtain ⟨n, hnn⟩ : ∃ n, ps.length = n := ⟨_, rfl⟩
  have HN : Hid (ps.length = n) := hnn
  rw [hnn] at hn h1 ⊢
  clear hP hs hU hT hnn
  go_enter Tryz.func29, Tryz.ntmps29
  go_wp2
  go_loopw [17] (fun iv wr => ∃ (k : Nat) (Ls : List Lb) (v0 v1 v2 : Value), k ≤ n ∧ iv = .int .i64 k ∧ Ls.length = k ∧ NameAt wr w.heap.size w.heap.size Ls k k k (ptrs Ls) (texts Ls) ((formsOf (ps.take k)).map .string) v0 v1 v2 ∧ Ls.map (·.2.2) = signsOf (ps.take k) ∧ (∀ j (hj : j < ps.length), j < k → (labelM ps[j]).1 = 0) ∧ Below w.heap.size w wr) (fun iv _ => n - (intOf iv).toNat)
  case atStart => exact ⟨0, [], _, _, _, by omega, rfl, rfl, HZ.out, rfl, fun j _ hj => absurd hj (by omega), below_one _ _⟩
  case round =>
    obtain ⟨k, Ls, v0, v1, v2, hk, rfl, hLk, hNA, hsg, hno, hbw⟩ := hrel
    have HO : Hid (NameAt wr w.heap.size w.heap.size Ls k k k (ptrs Ls) (texts Ls) ((formsOf (ps.take k)).map .string) v0 v1 v2 ∧ Ls.map (·.2.2) = signsOf (ps.take k) ∧ (∀ j (hj : j < ps.length), j < k → (labelM ps[j]).1 = 0) ∧ Below w.heap.size w wr ∧ Ls.length = k) := ⟨hNA, hsg, hno, hbw, hLk⟩
    clear hNA hsg hno hLk
    by_cases hlt : k < n
    · have hkL : k < ps.length := by rw [HN.out]; exact hlt
      have hlt' : (k : Int) < (n : Int) := by omega
      have hc : wr.cell? ⟨g, k, none⟩ = some (.string ps[k]) := (hbw.cell (p := ⟨g, k, none⟩) HP.out.1.1).trans (HP.out.1.2 k hkL)
      have hgl := goodLabel_any ps[k] wr (HP.out.2.1 _ (List.getElem_mem hkL)) (tabs_keep HP.out.2.2.1 hbw) (HP.out.2.2.2.keep hbw)
      obtain ⟨p, hp⟩ : ∃ p, ps[k] = p := ⟨_, rfl⟩
      have HX : Hid (ps[k] = p) := hp
      rw [hp] at hc hgl
      clear hp hbw
      by_cases h0 : (labelM p).1 = 0
      · go_wp2_with fail
        refine hgl.mono ?_
        rintro e w1 ⟨⟨_, b, r, rfl, hLab⟩ | ⟨h, _⟩, hb1⟩
        · have HLB : Hid (Lab w1 b r (labelM p).2.1 ∧ Below wr.heap.size wr w1) := ⟨hLab, hb1⟩
          have had := add_any w1 _ _ Ls k _ _ _ v0 v1 v2 (HO.out.1.keep hb1) b r (labelM p).2.1 hLab (labelM p).2.2 (by omega)
          clear hLab hb1 hgl
          go_wp2_with fail
          refine had.mono ?_
          rintro e w2 ⟨rfl, hA2, hb2⟩
          clear had
          have HA2 : Hid ((∃ u0 u1 u2, NameAt w2 w.heap.size w.heap.size (Ls ++ [(b, r, (labelM p).2.1)]) (k + 1) (k + 1) (k + 1) (ptrs Ls ++ [.pointer (some ⟨b, 0, none⟩)]) (texts Ls ++ [.string (textOf (labelM p).2.1)]) ((formsOf (ps.take k)).map .string ++ [.string (labelM p).2.2]) u0 u1 u2) ∧ Below w.heap.size w1 w2) := ⟨hA2, hb2⟩
          clear hA2 hb2
          go_wp2_with fail
          go_roundw
          case rel =>
            obtain ⟨⟨u0, u1, u2, hN2⟩, hb2⟩ := HA2.out
            obtain ⟨_, hsg, hno, hbw, hLk⟩ := HO.out
            have htk : ps.take (k + 1) = ps.take k ++ [p] := by rw [List.take_succ_eq_append_getElem hkL, HX.out]
            refine ⟨k + 1, Ls ++ [(b, r, (labelM p).2.1)], u0, u1, u2, by omega, by go_num, by simp [hLk], ?_, ?_, fun j hj hjk => ?_, (Below.andThen hbw HLB.out.2).trans hb2⟩
            · have e1 : ptrs (Ls ++ [(b, r, (labelM p).2.1)]) = ptrs Ls ++ [.pointer (some ⟨b, 0, none⟩)] := by simp [ptrs]
              have e2 : texts (Ls ++ [(b, r, (labelM p).2.1)]) = texts Ls ++ [.string (textOf (labelM p).2.1)] := by simp [texts]
              have e3 : (formsOf (ps.take (k + 1))).map Value.string = (formsOf (ps.take k)).map .string ++ [.string (labelM p).2.2] := by rw [htk]; simp [formsOf]
              rw [e1, e2, e3]
              exact hN2
            · rw [htk]
              simp [signsOf, hsg]
            · rcases Nat.lt_succ_iff_lt_or_eq.1 hjk with h | rfl
              · exact hno j hj h
              · rw [HX.out]; exact h0
          case measure => simp [intOf]; omega
        · exact absurd h0 h
      · have h0I : ¬ (((labelM p).1 : Nat) : Int) = 0 := by omega
        have HG : Hid (GoodN ps (.returned (.tuple #[.pointer none, .int .i64 (k : Int), .int .i64 ((labelM p).1 : Nat)])) wr) := by
          have hb := badM_hit ps k 0 hkL HO.out.2.2.1 (by rw [HX.out]; exact h0)
          rw [HX.out, Nat.zero_add] at hb
          unfold Hid GoodN goodM
          rw [hb]
          exact Or.inr ⟨h0, rfl⟩
        go_wp2_with fail
        refine hgl.mono ?_
        rintro e w1 ⟨⟨h, _⟩ | ⟨_, rfl⟩, hb1⟩
        · exact absurd h h0
        · clear hgl
          go_wp2_with fail
          go_ret3
          refine ⟨?_, Below.andThen HO.out.2.2.2.1 hb1⟩
          rcases HG.out with ⟨_, _, _, h, _⟩ | h
          · cases h
          · exact Or.inr h
    · have hkn : k = n := by omega
      subst hkn
      have hlt' : ¬ (k : Int) < (k : Int) := by omega
      obtain ⟨hNA, hsg, hno, hbw2, hLk⟩ := HO.out
      have htk : ps.take k = ps := List.take_of_length_le (by rw [HN.out]; exact Nat.le_refl _)
      rw [htk] at hNA hsg
      have hall : ∀ j (hj : j < ps.length), (labelM ps[j]).1 = 0 := fun j hj => hno j hj (by rw [HN.out] at hj; exact hj)
      have hNR : NameR wr w.heap.size Ls (formsOf ps) := ⟨_, v0, v1, v2, by rw [hLk]; exact hNA, by simp [formsOf, HN.out, hLk], by omega⟩
      have hz : (dotted (formsOf ps)).size ≤ 140737488355328 := by
        have := dotted_len 63 (formsOf ps) fun x hx => by
          obtain ⟨y, hy, rfl⟩ := List.mem_map.1 hx
          obtain ⟨j, hj⟩ := List.getElem?_of_mem hy
          obtain ⟨hl, rfl⟩ := List.getElem?_eq_some_iff.1 hj
          exact (label_small _ (hall j hl)).1
        have e : (formsOf ps).length = k := by simp [formsOf, HN.out]
        rw [e] at this
        omega
      have hfa := nameFault_any hNR (by omega) hz
      have hM : goodM ps = togetherM Ls (formsOf ps) := by
        unfold goodM
        rw [badM_none ps 0 hall, together_S, hsg]
      have HNR : Hid (NameR wr w.heap.size Ls (formsOf ps) ∧ Ls.map (·.2.2) = signsOf ps ∧ Below w.heap.size w wr) := ⟨hNR, hsg, hbw2⟩
      rw [← hM] at hfa
      clear hNR hNA hsg hno hall hz hM hbw hbw2 htk
      by_cases h0 : (goodM ps).2 = 0
      · rw [h0] at hfa
        go_wp2_with fail
        refine hfa.mono ?_
        rintro e w1 ⟨rfl, hb1⟩
        clear hfa
        go_wp2_with fail
        go_ret3
        exact ⟨Or.inl ⟨h0, w.heap.size, Ls, rfl, HNR.out.1.keep hb1, HNR.out.2.1⟩, Below.andThen HNR.out.2.2 hb1⟩
      · have h0I : ¬ (((goodM ps).2 : Nat) : Int) = 0 := by omega
        go_wp2_with fail
        refine hfa.mono ?_
        rintro e w1 ⟨rfl, hb1⟩
        clear hfa
        go_wp2_with fail
        go_ret3
        exact ⟨Or.inr ⟨h0, rfl⟩, Below.andThen HNR.out.2.2 hb1⟩
end Go.Proofs.YtkaaldhejpaiiaaGreatDoor
