/- Name. -/
import Derived.Test.YtkaaldhejpaiiaaGreatDoorNd
namespace Go.Proofs.YtkaaldhejpaiiaaGreatDoor
open Go.RowKit

def dotB : ByteArray := { data := #[46] }
/-- What stands ahead of a dot at the end; is there one? -/
def bodyM (s : ByteArray) : ByteArray := ⟨(Lib.trimSuffix s.data.toList [46]).toArray⟩
def endedM (s : ByteArray) : Bool := Lib.hasSuffix s.data.toList [46]
/-- A name's labels. -/
def partsM (s : ByteArray) : List ByteArray := Lib.splitB dotB 0 (Lib.countB (bodyM s) dotB) (bodyM s)
def endB (s : ByteArray) : ByteArray := if endedM s = true then { data := #[46] } else { data := #[] }
def nameTextM (s : ByteArray) : ByteArray := dotted ((signsOf (partsM s)).map textOf) ++ endB s
def nameFormM (s : ByteArray) : ByteArray := dotted (formsOf (partsM s)) ++ endB s
def nameV (s : ByteArray) : Value :=
  if (goodM (partsM s)).2 = 0 then .tuple #[.string (nameTextM s), .string (nameFormM s), .int .i64 0, .int .i64 0]
  else .tuple #[.string { data := #[] }, .string { data := #[] }, .int .i64 (goodM (partsM s)).1, .int .i64 ((goodM (partsM s)).2 : Nat)]
theorem body_size (s : ByteArray) : (bodyM s).size ≤ s.size := by
  show (Lib.trimSuffix s.data.toList [46]).toArray.size ≤ _
  rw [List.size_toArray]
  unfold Lib.trimSuffix
  split
  · rw [List.length_take, Array.length_toList]; exact Nat.min_le_right _ _
  · rw [Array.length_toList]; exact Nat.le_refl _
theorem ext_size (s : ByteArray) (a b : Nat) : (s.extract a b).size ≤ s.size := by
  rw [ByteArray.size_extract]; omega
theorem split_sizes (sep : ByteArray) : ∀ (k : Nat) (s : ByteArray), ∀ p ∈ Lib.splitB sep 0 k s, p.size ≤ s.size
  | 0, s, p, hp => by simp [Lib.splitB] at hp; rw [hp]; exact Nat.le_refl _
  | k + 1, s, p, hp => by
    unfold Lib.splitB at hp
    split at hp
    · simp at hp; rw [hp]; exact Nat.le_refl _
    · rcases List.mem_cons.1 hp with rfl | hp
      · exact ext_size _ _ _
      · exact Nat.le_trans (split_sizes sep k _ p hp) (ext_size _ _ _)
set_option maxHeartbeats 4000000 in
theorem Name_any (s : ByteArray) (w : World) (m : Int) (hs : s.size ≤ 300000000) (hm : w.cell? ⟨3, 0, none⟩ = some (.int .i64 m)) (hU : Lib.Utf8Tabs 1 2 w) (hT : Tab w) :
    Calls Tryz.prog 20 #[.string s] w fun e w' => e = .returned (nameV s) ∧ Below w.heap.size w w' := by
  have hbs := body_size s
  have hcs : Calls Tryz.prog 28 #[.string s, .string { data := #[46] }] w fun e w' => e = .returned (.tuple #[.string (bodyM s), .bool (endedM s)]) ∧ w' = w := Tryz.strings_CutSuffix s { data := #[46] } w (by omega)
  have hlen := Lib.splitB_all dotB (by decide) 0 _ (bodyM s) rfl
  have hcl := Lib.countB_le dotB (by decide) _ (bodyM s) (Nat.le_refl _)
  have hsp : Calls Tryz.prog 30 #[.string (bodyM s), .string { data := #[46] }] w fun e w' => e = .returned (.slice (some ⟨w.heap.size, 0, none⟩) (partsM s).length (partsM s).length) ∧ w' = w.alloc (.cells ((partsM s).map Value.string).toArray 9) := by
    have h := Tryz.strings_Split (bodyM s) dotB m w (by omega) hm (by decide)
    rw [← hlen] at h
    exact h
  have hps : ∀ p ∈ partsM s, p.size ≤ 400000000 := fun p hp => by have := split_sizes dotB _ _ p hp; omega
  have hpl : (partsM s).length ≤ 400000000 := by unfold partsM; omega
  have hp1 : 1 ≤ (partsM s).length := by unfold partsM; omega
  have hb0 := below_one w (.cells ((partsM s).map Value.string).toArray 9)
  have hgn := goodName_any (partsM s) w.heap.size (partsM s).length (w.alloc (.cells ((partsM s).map Value.string).toArray 9)) ⟨by simp, fun i hi => by
    rw [cell_of_row _ _ _ _ 9 (0, 0) (Go.heap_alloc_new w _)]
    simp [hi]⟩ hp1 hpl hps (tabs_keep hU hb0) (hT.keep hb0)
  have HB0 : Hid (Below w.heap.size w (w.alloc (.cells ((partsM s).map Value.string).toArray 9))) := hb0
  have HSM : Hid ((partsM s).length ≤ 400000000) := hpl
  unfold nameV nameTextM nameFormM endB
  generalize partsM s = ps at *
  generalize bodyM s = bo at *
  generalize endedM s = en at *
  clear hbs hlen hcl hps hpl hp1 hb0 hU hT hm hs
  by_cases h0 : (goodM ps).2 = 0
  · rw [if_pos h0]
    have hall : ∀ p ∈ ps, (labelM p).1 = 0 := by
      have key : ∀ (l : List ByteArray) (i : Nat), badM l i = none → ∀ p ∈ l, (labelM p).1 = 0 := by
        intro l
        induction l with
        | nil => intro _ _ p hp; cases hp
        | cons q l ih =>
          intro i hb p hp
          simp only [badM] at hb
          by_cases hq : (labelM q).1 ≠ 0
          · rw [if_pos hq] at hb; cases hb
          · rw [if_neg hq] at hb
            rcases List.mem_cons.1 hp with rfl | hp
            · simpa using hq
            · exact ih _ hb p hp
      have key2 : ∀ (l : List ByteArray) (i : Nat) x, badM l i = some x → x.2 ≠ 0 := by
        intro l
        induction l with
        | nil => intro _ _ hb; cases hb
        | cons q l ih =>
          intro i x hb
          simp only [badM] at hb
          by_cases hq : (labelM q).1 ≠ 0
          · rw [if_pos hq] at hb; obtain rfl := Option.some.inj hb; exact hq
          · rw [if_neg hq] at hb; exact ih _ _ hb
      unfold goodM at h0
      cases hb : badM ps 0 with
      | none => exact key ps 0 hb
      | some x => rw [hb] at h0; exact absurd h0 (key2 ps 0 x hb)
    have hz1 : (dotted ((signsOf ps).map textOf)).size ≤ 140737488355000 := by
      have := dotted_len 252 ((signsOf ps).map textOf) fun x hx => by
        obtain ⟨L, hL, rfl⟩ := List.mem_map.1 hx
        obtain ⟨p, hp, rfl⟩ := List.mem_map.1 hL
        have h1 := (label_small p (hall p hp)).2
        have h2 := textOf_len (labelM p).2.1
        omega
      rw [List.length_map] at this
      have e : (signsOf ps).length = ps.length := by simp [signsOf]
      have := HSM.out
      omega
    have hz2 : (dotted (formsOf ps)).size ≤ 140737488355000 := by
      have := dotted_len 63 (formsOf ps) fun x hx => by
        obtain ⟨p, hp, rfl⟩ := List.mem_map.1 hx
        exact (label_small p (hall p hp)).1
      have e : (formsOf ps).length = ps.length := by simp [formsOf]
      have := HSM.out
      omega
    clear hall
    go_enter Tryz.func20, Tryz.ntmps20
    go_wp2_with (first | (go_at_call 28; refine hcs.mono ?_; rintro e w' ⟨rfl, hw'⟩; rw [hw']; clear hw' hcs) | (go_at_call 30; refine hsp.mono ?_; rintro e w' ⟨rfl, hw'⟩; rw [hw']; clear hw' hsp))
    refine hgn.mono ?_
    rintro e w1 ⟨⟨_, b, Ls, rfl, hNR, hsg⟩ | ⟨h, _⟩, hb1⟩
    · have hnl : Ls.length ≤ 2000000000 := by
        have e1 : (Ls.map (·.2.2)).length = (signsOf ps).length := by rw [hsg]
        have e2 : (signsOf ps).length = ps.length := by simp [signsOf]
        have := HSM.out
        rw [List.length_map] at e1
        omega
      have hmt : (Ls.map fun (x : Lb) => textOf x.2.2) = (signsOf ps).map textOf := by rw [← hsg, List.map_map]; rfl
      have ht := nameText_any hNR hnl (by rw [hmt]; omega)
      rw [hmt] at ht
      have HF : Hid (∀ W, Below w1.heap.size w1 W → Calls Tryz.prog 32 #[.pointer (some ⟨b, 0, none⟩)] W fun e w' => e = .returned (.string (dotted (formsOf ps))) ∧ Below W.heap.size W w') := fun W hW => nameForm_any (hNR.keep hW) hnl (by omega)
      have HB1 : Hid (Below w.heap.size w w1) := Below.andThen HB0.out hb1
      clear hNR hsg hnl hmt hb1 hgn HSM
      cases en with
      | true =>
        go_wp2_with fail
        refine ht.mono ?_
        rintro e w2 ⟨rfl, hb2⟩
        have hf := HF.out w2 hb2
        clear ht
        go_wp2_with fail
        refine hf.mono ?_
        rintro e w3 ⟨rfl, hb3⟩
        clear hf
        go_wp2_with fail
        exact bodyPost_ret (v := .tuple #[.string (dotted ((signsOf ps).map textOf) ++ { data := #[46] }), .string (dotted (formsOf ps) ++ { data := #[46] }), .int .i64 0, .int .i64 0]) (by simp [results, Tryz.results20, go_sem]) rfl ⟨rfl, Below.andThen (Below.andThen HB1.out hb2) hb3⟩
      | false =>
        go_wp2_with fail
        refine ht.mono ?_
        rintro e w2 ⟨rfl, hb2⟩
        have hf := HF.out w2 hb2
        clear ht
        go_wp2_with fail
        refine hf.mono ?_
        rintro e w3 ⟨rfl, hb3⟩
        clear hf
        go_wp2_with fail
        exact bodyPost_ret (v := .tuple #[.string (dotted ((signsOf ps).map textOf) ++ { data := #[] }), .string (dotted (formsOf ps) ++ { data := #[] }), .int .i64 0, .int .i64 0]) (by simp [results, Tryz.results20, go_sem]) rfl ⟨rfl, Below.andThen (Below.andThen HB1.out hb2) hb3⟩
    · exact absurd h0 h
  · rw [if_neg h0]
    have h0I : ¬ (((goodM ps).2 : Nat) : Int) = 0 := by omega
    go_enter Tryz.func20, Tryz.ntmps20
    go_wp2_with (first | (go_at_call 28; refine hcs.mono ?_; rintro e w' ⟨rfl, hw'⟩; rw [hw']; clear hw' hcs) | (go_at_call 30; refine hsp.mono ?_; rintro e w' ⟨rfl, hw'⟩; rw [hw']; clear hw' hsp))
    refine hgn.mono ?_
    rintro e w1 ⟨⟨h, _⟩ | ⟨_, rfl⟩, hb1⟩
    · exact absurd h h0
    · clear hgn
      go_wp2_with fail
      refine bodyPost_ret (v := .tuple #[.string { data := #[] }, .string { data := #[] }, .int .i64 (goodM ps).1, .int .i64 ((goodM ps).2 : Nat)]) (by simp [results, Tryz.results20, go_sem]) rfl ⟨rfl, Below.andThen HB0.out hb1⟩
end Go.Proofs.YtkaaldhejpaiiaaGreatDoor
