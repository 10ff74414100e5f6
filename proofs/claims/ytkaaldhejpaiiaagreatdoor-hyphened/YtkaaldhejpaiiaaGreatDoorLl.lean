/- fault. -/
import Derived.Test.YtkaaldhejpaiiaaGreatDoorLk
namespace Go.Proofs.YtkaaldhejpaiiaaGreatDoor
open Go.RowKit

def noKind (L : List Nat) : Bool := (List.range L.length).any fun (i : Nat) => decide (rC (pkAt L (i : Int)) = 0)
def ctxBad (L : List Nat) : Bool := (List.range L.length).any fun i => !ctxM L (kataM L) (mixedM L) (L.getD i 0) i
/-- The first rule that signs break, but for their length. -/
def faultM (L : List Nat) : Nat :=
  if noKind L = true then 4 else if hyphM L = true then 5 else if decide (rC (pkAt L 0) = 4) = true then 6 else if formBad L = true then 7 else if ctxBad L = true then 8 else 0
theorem pk_far (n : Int) (h : 40959 < n) : pk n = 33 := idx_out n Km.tab fun r hr => by have := Km.tab_low r hr; omega
theorem known_of (L : List Nat) (h : noKind L = false) : known L := by
  intro x hx
  obtain ⟨i, hi⟩ := List.getElem?_of_mem hx
  obtain ⟨hl, rfl⟩ := List.getElem?_eq_some_iff.1 hi
  unfold noKind at h
  rw [List.any_eq_false] at h
  have h1 := h i (List.mem_range.2 hl)
  rw [pkAt_nat L i hl] at h1
  rcases Nat.lt_or_ge 40959 L[i] with h2 | h2
  · rw [pk_far _ (by omega)] at h1
    exact absurd (show rC 33 = 0 from rfl) (by simpa using h1)
  · exact h2
theorem noKind_lit {w : World} {b r : Nat} {L : List Nat} (hL : Lab w b r L) :
    Calls Tryz.prog 58 #[.pointer (some ⟨b, 0, none⟩), .slice (some ⟨w.heap.size, 0, none⟩) 1 1] (w.alloc (.cells #[.int .u8 0] 56)) fun e w' => e = .returned (.bool (noKind L)) ∧ Below w.heap.size w w' := by
  have h := hasKind_lit hL [0] #[.int .u8 0] 1 1 rfl rfl (by decide)
  rw [show ((List.range L.length).any fun (i : Nat) => [0].any fun y => rC (pkAt L (i : Int)) == y) = noKind L by
    unfold noKind
    congr 1
    funext i
    simp only [List.any_cons, List.any_nil, Bool.or_false]
    rfl] at h
  exact h
set_option maxHeartbeats 4000000 in
theorem fault_any {w : World} {b r : Nat} {L : List Nat} (hL : Lab w b r L) :
    Calls Tryz.prog 38 #[.pointer (some ⟨b, 0, none⟩)] w fun e w' => e = .returned (.int .i64 (faultM L : Nat)) ∧ Below w.heap.size w w' := by
  have h0 := noKind_lit hL
  have HL : Hid (Lab w b r L) := hL
  clear hL
  cases hv0 : noKind L with
  | true =>
    rw [hv0] at h0
    go_enter Tryz.func38, Tryz.ntmps38
    go_wp2_with fail
    refine h0.mono ?_
    rintro e w1 ⟨rfl, hb1⟩
    go_wp2_with fail
    go_ret
    exact ⟨by unfold faultM; rw [hv0]; rfl, hb1⟩
  | false =>
    have KN : Hid (known L) := known_of L hv0
    rw [hv0] at h0
    cases hv1 : hyphM L with
    | true =>
      go_enter Tryz.func38, Tryz.ntmps38
      go_wp2_with fail
      refine h0.mono ?_
      rintro e w1 ⟨rfl, hb1⟩
      have h1 := hasWrongHyphen_any (HL.out.keep hb1)
      rw [hv1] at h1
      clear h0
      go_wp2_with fail
      refine h1.mono ?_
      rintro e w2 ⟨rfl, hb2⟩
      go_wp2_with fail
      go_ret
      exact ⟨by unfold faultM; rw [hv0, hv1]; rfl, (Below.andThen hb1 hb2)⟩
    | false =>
      cases hv2 : decide (rC (pkAt L 0) = 4) with
      | true =>
        go_enter Tryz.func38, Tryz.ntmps38
        go_wp2_with fail
        refine h0.mono ?_
        rintro e w1 ⟨rfl, hb1⟩
        have h1 := hasWrongHyphen_any (HL.out.keep hb1)
        rw [hv1] at h1
        clear h0
        go_wp2_with fail
        refine h1.mono ?_
        rintro e w2 ⟨rfl, hb2⟩
        have h2 := kind_lit ((HL.out.keep hb1).keep hb2) 0 4 true hv2
        clear h1
        go_wp2_with fail
        refine h2.mono ?_
        rintro e w3 ⟨rfl, hb3⟩
        go_wp2_with fail
        go_ret
        exact ⟨by unfold faultM; rw [hv0, hv1, hv2]; rfl, (Below.andThen (Below.andThen hb1 hb2) hb3)⟩
      | false =>
        cases hv3 : formBad L with
        | true =>
          go_enter Tryz.func38, Tryz.ntmps38
          go_wp2_with fail
          refine h0.mono ?_
          rintro e w1 ⟨rfl, hb1⟩
          have h1 := hasWrongHyphen_any (HL.out.keep hb1)
          rw [hv1] at h1
          clear h0
          go_wp2_with fail
          refine h1.mono ?_
          rintro e w2 ⟨rfl, hb2⟩
          have h2 := kind_lit ((HL.out.keep hb1).keep hb2) 0 4 false hv2
          clear h1
          go_wp2_with fail
          refine h2.mono ?_
          rintro e w3 ⟨rfl, hb3⟩
          have h3 := hasWrongForm_any (((HL.out.keep hb1).keep hb2).keep hb3) KN.out (fun a b W ha => isPair_any a b W ha)
          rw [hv3] at h3
          clear h2
          go_wp2_with fail
          refine h3.mono ?_
          rintro e w4 ⟨rfl, hb4⟩
          go_wp2_with fail
          go_ret
          exact ⟨by unfold faultM; rw [hv0, hv1, hv2, hv3]; rfl, (Below.andThen (Below.andThen (Below.andThen hb1 hb2) hb3) hb4)⟩
        | false =>
          cases hv4 : ctxBad L with
          | true =>
            go_enter Tryz.func38, Tryz.ntmps38
            go_wp2_with fail
            refine h0.mono ?_
            rintro e w1 ⟨rfl, hb1⟩
            have h1 := hasWrongHyphen_any (HL.out.keep hb1)
            rw [hv1] at h1
            clear h0
            go_wp2_with fail
            refine h1.mono ?_
            rintro e w2 ⟨rfl, hb2⟩
            have h2 := kind_lit ((HL.out.keep hb1).keep hb2) 0 4 false hv2
            clear h1
            go_wp2_with fail
            refine h2.mono ?_
            rintro e w3 ⟨rfl, hb3⟩
            have h3 := hasWrongForm_any (((HL.out.keep hb1).keep hb2).keep hb3) KN.out (fun a b W ha => isPair_any a b W ha)
            rw [hv3] at h3
            clear h2
            go_wp2_with fail
            refine h3.mono ?_
            rintro e w4 ⟨rfl, hb4⟩
            have h4 := hasWrongContext_any ((((HL.out.keep hb1).keep hb2).keep hb3).keep hb4)
            rw [show ((List.range L.length).any fun i => !ctxM L (kataM L) (mixedM L) (L.getD i 0) i) = ctxBad L from rfl, hv4] at h4
            clear h3
            go_wp2_with fail
            refine h4.mono ?_
            rintro e w5 ⟨rfl, hb5⟩
            go_wp2_with fail
            go_ret
            exact ⟨by unfold faultM; rw [hv0, hv1, hv2, hv3, hv4]; rfl, (Below.andThen (Below.andThen (Below.andThen (Below.andThen hb1 hb2) hb3) hb4) hb5)⟩
          | false =>
            go_enter Tryz.func38, Tryz.ntmps38
            go_wp2_with fail
            refine h0.mono ?_
            rintro e w1 ⟨rfl, hb1⟩
            have h1 := hasWrongHyphen_any (HL.out.keep hb1)
            rw [hv1] at h1
            clear h0
            go_wp2_with fail
            refine h1.mono ?_
            rintro e w2 ⟨rfl, hb2⟩
            have h2 := kind_lit ((HL.out.keep hb1).keep hb2) 0 4 false hv2
            clear h1
            go_wp2_with fail
            refine h2.mono ?_
            rintro e w3 ⟨rfl, hb3⟩
            have h3 := hasWrongForm_any (((HL.out.keep hb1).keep hb2).keep hb3) KN.out (fun a b W ha => isPair_any a b W ha)
            rw [hv3] at h3
            clear h2
            go_wp2_with fail
            refine h3.mono ?_
            rintro e w4 ⟨rfl, hb4⟩
            have h4 := hasWrongContext_any ((((HL.out.keep hb1).keep hb2).keep hb3).keep hb4)
            rw [show ((List.range L.length).any fun i => !ctxM L (kataM L) (mixedM L) (L.getD i 0) i) = ctxBad L from rfl, hv4] at h4
            clear h3
            go_wp2_with fail
            refine h4.mono ?_
            rintro e w5 ⟨rfl, hb5⟩
            go_wp2_with fail
            go_ret
            exact ⟨by unfold faultM; rw [hv0, hv1, hv2, hv3, hv4]; rfl, (Below.andThen (Below.andThen (Below.andThen (Below.andThen hb1 hb2) hb3) hb4) hb5)⟩
end Go.Proofs.YtkaaldhejpaiiaaGreatDoor
