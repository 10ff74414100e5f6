/- The name's fault: firstNotSided, asksForSides, text, form. -/
import Derived.Test.YtkaaldhejpaiiaaGreatDoorNb
import Derived.Shelf.SlicesQ.IndexFunc
namespace Go.Proofs.YtkaaldhejpaiiaaGreatDoor
open Go.RowKit Go.Shelf Go.Lib

theorem notSided_any {w : World} {b r : Nat} {L : List Nat} (hL : Lab w b r L) :
    Calls Tryz.prog 113 #[.pointer (some ⟨b, 0, none⟩)] w fun e w' => e = .returned (.bool (!sidedM L)) ∧ Below w.heap.size w w' := by
  have h := isSided_any hL
  generalize sidedM L = v at *
  clear hL
  go_enter Tryz.func113, Tryz.ntmps113
  go_wp2_with (go_at_call 114; refine h.mono ?_; rintro e w1 ⟨rfl, hb1⟩)
  go_ret
  exact ⟨rfl, hb1⟩
theorem asksF_any {w : World} {b r : Nat} {L : List Nat} (hL : Lab w b r L) :
    Calls Tryz.prog 116 #[.pointer (some ⟨b, 0, none⟩)] w fun e w' => e = .returned (.bool (asksM L)) ∧ Below w.heap.size w w' := by
  have h := asks_any hL
  generalize asksM L = v at *
  clear hL
  go_enter Tryz.func116, Tryz.ntmps116
  go_wp2_with (go_at_call 117; refine h.mono ?_; rintro e w1 ⟨rfl, hb1⟩)
  go_ret
  exact ⟨rfl, hb1⟩
/-- A row of labels. -/
def LabsAt (w : World) (g : Nat) (Ls : List Lb) : Prop := g < w.heap.size ∧ (∀ i (_ : i < Ls.length), w.cell? ⟨g, i, none⟩ = some (.pointer (some ⟨(Ls[i]).1, 0, none⟩))) ∧ ∀ x ∈ Ls, Lab w x.1 x.2.1 x.2.2
theorem LabsAt.keep {w w' : World} {g : Nat} {Ls : List Lb} (h : LabsAt w g Ls) (hb : Below w.heap.size w w') : LabsAt w' g Ls :=
  ⟨Nat.lt_of_lt_of_le h.1 hb.size, fun i hi => (hb.cell (p := ⟨g, i, none⟩) h.1).trans (h.2.1 i hi), fun x hx => (h.2.2 x hx).keep hb⟩
/-- The first label of which p is true; -1, if there is none. -/
def firstL (p : List Nat → Bool) : List Lb → Int
  | [] => -1
  | x :: r => if p x.2.2 = true then 0 else (if firstL p r = -1 then -1 else firstL p r + 1)
theorem firstL_hit (p : List Nat → Bool) : ∀ (Ls : List Lb) (k : Nat) (hk : k < Ls.length), (∀ j (hj : j < Ls.length), j < k → p (Ls[j]).2.2 = false) → p (Ls[k]).2.2 = true → firstL p Ls = (k : Int)
  | x :: r, 0, _, _, h => by simp only [firstL]; rw [if_pos (by simpa using h)]; rfl
  | x :: r, k + 1, hk, hn, h => by
    have h0 := hn 0 (by simp) (by omega)
    have ih := firstL_hit p r k (by simpa using hk) (fun j hj hjk => by have := hn (j + 1) (by simpa using hj) (by omega); simpa using this) (by simpa using h)
    simp only [firstL]
    rw [if_neg (by simpa using h0), ih, if_neg (by omega)]
    omega
theorem firstL_none (p : List Nat → Bool) : ∀ (Ls : List Lb), (∀ j (hj : j < Ls.length), p (Ls[j]).2.2 = false) → firstL p Ls = -1
  | [], _ => rfl
  | x :: r, hn => by
    have h0 := hn 0 (by simp)
    have ih := firstL_none p r (fun j hj => by have := hn (j + 1) (by simpa using hj); simpa using this)
    simp only [firstL]
    rw [if_neg (by simpa using h0), ih, if_pos rfl]

set_option maxHeartbeats 1000000 in
theorem indexF_any {w : World} {g : Nat} {Ls : List Lb} (hL : LabsAt w g Ls) (c f : Nat) (hn : Ls.length ≤ 2000000000) (p : List Nat → Bool)
    (ef : ∀ args w, (callFunc f args).run Tryz.prog w = .ok (.enter f args) w)
    (hp : ∀ W b r L, Lab W b r L → Calls Tryz.prog f #[.pointer (some ⟨b, 0, none⟩)] W fun e w' => e = .returned (.bool (p L)) ∧ Below W.heap.size W w') :
    Calls Tryz.prog 112 #[.slice (some ⟨g, 0, none⟩) Ls.length c, .func (.func f) #[] #[]] w fun e w' => e = .returned (.int .i64 (firstL p Ls)) ∧ Below w.heap.size w w' := by
  have HL : Hid (LabsAt w g Ls) := hL
  have HP : Hid (∀ W b r L, Lab W b r L → Calls Tryz.prog f #[.pointer (some ⟨b, 0, none⟩)] W fun e w' => e = .returned (.bool (p L)) ∧ Below W.heap.size W w') := hp
  obtain ⟨n, hnn⟩ : ∃ n, Ls.length = n := ⟨_, rfl⟩
  have HN : Hid (Ls.length = n) := hnn
  rw [hnn] at hn ⊢
  clear hL hp hnn
  go_enter Tryz.func112, Tryz.ntmps112
  go_wp2
  go_loopw [8] (fun iv wr => ∃ k : Nat, k ≤ n ∧ iv = .int .i64 k ∧ (∀ j (hj : j < Ls.length), j < k → p (Ls[j]).2.2 = false) ∧ Below w.heap.size w wr) (fun iv _ => n - (intOf iv).toNat)
  case atStart => exact ⟨0, by omega, rfl, fun j _ hj => absurd hj (by omega), Below.refl _ _⟩
  case round =>
    obtain ⟨k, hk, rfl, hno, hbw⟩ := hrel
    have HO : Hid (∀ j (hj : j < Ls.length), j < k → p (Ls[j]).2.2 = false) := hno
    have HBW : Hid (Below w.heap.size w wr) := hbw
    clear hno
    by_cases hlt : k < n
    · have hkL : k < Ls.length := by rw [HN.out]; exact hlt
      have hlt' : (k : Int) < (n : Int) := by omega
      have hW := HL.out.keep hbw
      have hc := hW.2.1 k hkL
      have hpk := HP.out wr _ _ _ (hW.2.2 _ (List.getElem_mem hkL))
      obtain ⟨x, hx⟩ : ∃ x, Ls[k] = x := ⟨_, rfl⟩
      have HX : Hid (Ls[k] = x) := hx
      rw [hx] at hc hpk
      clear hW hbw hx
      cases hv : p x.2.2 with
      | true =>
        rw [hv] at hpk
        go_wp2_with (go_at_fn f; refine hpk.mono ?_; rintro e w1 ⟨rfl, hb1⟩)
        go_ret
        refine ⟨?_, Below.andThen HBW.out hb1⟩
        rw [firstL_hit p Ls k hkL HO.out (by rw [HX.out]; exact hv)]
        rfl
      | false =>
        rw [hv] at hpk
        go_wp2_with (go_at_fn f; refine hpk.mono ?_; rintro e w1 ⟨rfl, hb1⟩)
        go_roundw
        case rel => exact ⟨k + 1, by omega, by go_num, fun j hj hjk => by
            rcases Nat.lt_succ_iff_lt_or_eq.1 hjk with h | rfl
            · exact HO.out j hj h
            · rw [HX.out]; exact hv, Below.andThen HBW.out hb1⟩
        case measure => simp [intOf]; omega
    · have hlt' : ¬ (k : Int) < (n : Int) := by omega
      clear hbw
      go_wp2
      go_ret
      refine ⟨?_, HBW.out⟩
      rw [firstL_none p Ls fun j hj => HO.out j hj (by rw [HN.out] at hj; omega)]
      rfl
theorem firstL_any (p : List Nat → Bool) : ∀ Ls : List Lb, decide (0 ≤ firstL p Ls) = Ls.any fun x => p x.2.2
  | [] => rfl
  | x :: r => by
    have ih := firstL_any p r
    have hge : ∀ r : List Lb, -1 ≤ firstL p r := by
      intro r
      induction r with
      | nil => simp [firstL]
      | cons y r ih =>
        simp only [firstL]
        split
        · omega
        · split <;> omega
    have hf : firstL p (x :: r) = if p x.2.2 = true then 0 else (if firstL p r = -1 then -1 else firstL p r + 1) := rfl
    have hr := hge r
    rw [Bool.eq_iff_iff, decide_eq_true_eq, List.any_cons]
    by_cases hx : p x.2.2 = true
    · rw [if_pos hx] at hf
      rw [hf, hx]; simp
    · have hx' : p x.2.2 = false := by simpa using hx
      rw [if_neg hx] at hf
      rw [hx', Bool.false_or, ← ih, decide_eq_true_eq, hf]
      split <;> omega

set_option maxHeartbeats 1000000 in
theorem containsF_any {w : World} {g : Nat} {Ls : List Lb} (hL : LabsAt w g Ls) (c f : Nat) (hn : Ls.length ≤ 2000000000) (p : List Nat → Bool)
    (ef : ∀ args w, (callFunc f args).run Tryz.prog w = .ok (.enter f args) w)
    (hp : ∀ W b r L, Lab W b r L → Calls Tryz.prog f #[.pointer (some ⟨b, 0, none⟩)] W fun e w' => e = .returned (.bool (p L)) ∧ Below W.heap.size W w') :
    Calls Tryz.prog 115 #[.slice (some ⟨g, 0, none⟩) Ls.length c, .func (.func f) #[] #[]] w fun e w' => e = .returned (.bool (Ls.any fun x => p x.2.2)) ∧ Below w.heap.size w w' := by
  have h := indexF_any hL c f hn p ef hp
  rw [← firstL_any]
  generalize firstL p Ls = v at *
  clear hL hp ef hn
  go_enter Tryz.func115, Tryz.ntmps115
  go_wp2_with (go_at_call 112; refine h.mono ?_; rintro e w1 ⟨rfl, hb1⟩)
  go_ret
  exact ⟨rfl, hb1⟩
/-- A name that has a label at least. -/
def NameR (w : World) (b : Nat) (Ls : List Lb) (Fs : List ByteArray) : Prop := ∃ B v0 v1 v2, NameAt w b B Ls Ls.length Ls.length Ls.length (ptrs Ls) (texts Ls) (Fs.map .string) v0 v1 v2 ∧ Fs.length = Ls.length ∧ 1 ≤ Ls.length
theorem row_cells {w : World} {B : Nat} {e : TypeId} {v : Value} {n : Nat} {xs : List Value} (h : w.ownsRow B e 1 v n xs) (hn : 1 ≤ n) : ∃ g cap, v = .slice (some ⟨g, 0, none⟩) n cap ∧ g < w.heap.size ∧ n ≤ cap ∧ ∀ i x, xs[i]? = some x → w.cell? ⟨g, i, none⟩ = some x := by
  have h' := h
  rcases h.2 with ⟨_, h0⟩ | ⟨g, cap, cur, rfl, hb, hc, hle, _⟩
  · omega
  · refine ⟨g, cap, rfl, lt_heap hc, hle, fun i x hx => ?_⟩
    have := h'.cells (g := g) rfl i x hx
    rwa [Addr.add_lit, Nat.zero_add] at this
theorem NameR.parts {w : World} {b : Nat} {Ls : List Lb} {Fs : List ByteArray} (h : NameR w b Ls Fs) : ∃ g0 c0 g1 c1 g2 c2, w.cell? ⟨b, 0, none⟩ = some (.slice (some ⟨g0, 0, none⟩) Ls.length c0) ∧ w.cell? ⟨b, 1, none⟩ = some (.slice (some ⟨g1, 0, none⟩) Ls.length c1) ∧ w.cell? ⟨b, 2, none⟩ = some (.slice (some ⟨g2, 0, none⟩) Ls.length c2) ∧
    LabsAt w g0 Ls ∧ (g1 < w.heap.size ∧ Ls.length ≤ c1 ∧ ∀ (j : Nat) x, (Ls.map fun x => textOf x.2.2)[j]? = some x → w.cell? ⟨g1, 0 + j, none⟩ = some (.string x)) ∧ (g2 < w.heap.size ∧ Ls.length ≤ c2 ∧ ∀ (j : Nat) x, Fs[j]? = some x → w.cell? ⟨g2, 0 + j, none⟩ = some (.string x)) := by
  obtain ⟨B, v0, v1, v2, hN, hF, h1⟩ := h
  obtain ⟨a0, a1, a2, _⟩ := name_cells hN.blk
  obtain ⟨g0, c0, rfl, l0, _, k0⟩ := row_cells hN.r0 h1
  obtain ⟨g1, c1, rfl, l1, m1, k1⟩ := row_cells hN.r1 h1
  obtain ⟨g2, c2, rfl, l2, m2, k2⟩ := row_cells hN.r2 h1
  refine ⟨g0, c0, g1, c1, g2, c2, a0, a1, a2, ⟨l0, fun i hi => k0 i _ (by simp [ptrs, hi]), hN.labs⟩, ⟨l1, m1, fun j x hx => ?_⟩, ⟨l2, m2, fun j x hx => ?_⟩⟩
  · rw [Nat.zero_add]
    refine k1 j _ ?_
    rw [List.getElem?_map] at hx
    cases hj : Ls[j]? with
    | none => rw [hj] at hx; cases hx
    | some y => rw [hj] at hx; simp at hx; simp [texts, hj, hx]
  · rw [Nat.zero_add]
    exact k2 j _ (by rw [List.getElem?_map, hx]; rfl)
theorem NameR.keep {w w' : World} {b : Nat} {Ls : List Lb} {Fs : List ByteArray} (h : NameR w b Ls Fs) (hb : Below w.heap.size w w') : NameR w' b Ls Fs := by
  obtain ⟨B, v0, v1, v2, ⟨h1, h2, h3, h4, h5, h6, h7⟩, hF, hl⟩ := h
  have hg : w.grownBy w' none := ⟨hb.os, hb.tape, hb.output, hb.size, fun k hk _ => hb.block k hk⟩
  have hno : ∀ v : Value, v.ownBlock = none ∨ v.ownBlock ≠ none := fun v => by cases v.ownBlock <;> simp
  exact ⟨B, v0, v1, v2, ⟨(hb.block b (lt_heap h1)).trans h1, h2, h3.kept hg (hno _), h4.kept hg (hno _), h5.kept hg (hno _), h6, fun x hx => (h7 x hx).keep hb⟩, hF, hl⟩
def dotted (xs : List ByteArray) : ByteArray := ⟨(Lib.join (xs.map (·.data.toList)) [46]).toArray⟩
set_option maxHeartbeats 1000000 in
theorem nameText_any {w : World} {b : Nat} {Ls : List Lb} {Fs : List ByteArray} (h : NameR w b Ls Fs) (hn : Ls.length ≤ 2000000000) (hz : (dotted (Ls.map fun x => textOf x.2.2)).size ≤ 140737488355328) :
    Calls Tryz.prog 31 #[.pointer (some ⟨b, 0, none⟩)] w fun e w' => e = .returned (.string (dotted (Ls.map fun x => textOf x.2.2))) ∧ Below w.heap.size w w' := by
  obtain ⟨g0, c0, g1, c1, g2, c2, _, a1, _, _, ⟨l1, m1, k1⟩, _⟩ := h.parts
  have hj := Tryz.strings_Join g1 0 c1 (Ls.map fun (x : Lb) => textOf x.2.2) { data := #[46] } w k1 l1 (by rw [List.length_map]; omega) (by rw [List.length_map]; exact m1) hz
  rw [List.length_map] at hj
  have hj2 : Calls Tryz.prog 50 #[.slice (some ⟨g1, 0, none⟩) Ls.length c1, .string { data := #[46] }] w fun e w' => e = .returned (.string (dotted (Ls.map fun x => textOf x.2.2))) ∧ Below w.heap.size w w' := hj
  generalize dotted (Ls.map fun x => textOf x.2.2) = D at *
  clear h k1 hj hz
  go_enter Tryz.func31, Tryz.ntmps31
  go_wp2_with (go_at_call 50; refine hj2.mono ?_; rintro e w1 ⟨rfl, hb1⟩)
  go_ret
  exact ⟨rfl, hb1⟩
set_option maxHeartbeats 1000000 in
theorem nameForm_any {w : World} {b : Nat} {Ls : List Lb} {Fs : List ByteArray} (h : NameR w b Ls Fs) (hn : Ls.length ≤ 2000000000) (hz : (dotted Fs).size ≤ 140737488355328) :
    Calls Tryz.prog 32 #[.pointer (some ⟨b, 0, none⟩)] w fun e w' => e = .returned (.string (dotted Fs)) ∧ Below w.heap.size w w' := by
  obtain ⟨g0, c0, g1, c1, g2, c2, _, _, a2, _, _, ⟨l2, m2, k2⟩⟩ := h.parts
  have hF : Fs.length = Ls.length := by obtain ⟨_, _, _, _, _, hF, _⟩ := h; exact hF
  have hj := Tryz.strings_Join g2 0 c2 Fs { data := #[46] } w k2 l2 (by omega) (by omega) hz
  rw [hF] at hj
  have hj2 : Calls Tryz.prog 50 #[.slice (some ⟨g2, 0, none⟩) Ls.length c2, .string { data := #[46] }] w fun e w' => e = .returned (.string (dotted Fs)) ∧ Below w.heap.size w w' := hj
  generalize dotted Fs = D at *
  clear h k2 hj hz
  go_enter Tryz.func32, Tryz.ntmps32
  go_wp2_with (go_at_call 50; refine hj2.mono ?_; rintro e w1 ⟨rfl, hb1⟩)
  go_ret
  exact ⟨rfl, hb1⟩
set_option maxHeartbeats 1000000 in
theorem firstNotSided_any {w : World} {b : Nat} {Ls : List Lb} {Fs : List ByteArray} (h : NameR w b Ls Fs) (hn : Ls.length ≤ 2000000000) :
    Calls Tryz.prog 77 #[.pointer (some ⟨b, 0, none⟩)] w fun e w' => e = .returned (.int .i64 (firstL (fun L => !sidedM L) Ls)) ∧ Below w.heap.size w w' := by
  obtain ⟨g0, c0, _, _, _, _, a0, _, _, hLs, _, _⟩ := h.parts
  have hi := indexF_any hLs c0 113 hn (fun L => !sidedM L) (enters_of Tryz.func113 (by kernel_rfl) rfl) (fun W b r L hL => notSided_any hL)
  generalize firstL (fun L => !sidedM L) Ls = v at *
  clear h hLs
  go_enter Tryz.func77, Tryz.ntmps77
  go_wp2_with (go_at_call 112; refine hi.mono ?_; rintro e w1 ⟨rfl, hb1⟩)
  go_ret
  exact ⟨rfl, hb1⟩
set_option maxHeartbeats 1000000 in
theorem nameAsks_any {w : World} {b : Nat} {Ls : List Lb} {Fs : List ByteArray} (h : NameR w b Ls Fs) (hn : Ls.length ≤ 2000000000) :
    Calls Tryz.prog 78 #[.pointer (some ⟨b, 0, none⟩)] w fun e w' => e = .returned (.bool (Ls.any fun x => asksM x.2.2)) ∧ Below w.heap.size w w' := by
  obtain ⟨g0, c0, _, _, _, _, a0, _, _, hLs, _, _⟩ := h.parts
  have hi := containsF_any hLs c0 116 hn asksM (enters_of Tryz.func116 (by kernel_rfl) rfl) (fun W b r L hL => asksF_any hL)
  generalize (Ls.any fun x => asksM x.2.2) = v at *
  clear h hLs
  go_enter Tryz.func78, Tryz.ntmps78
  go_wp2_with (go_at_call 115; refine hi.mono ?_; rintro e w1 ⟨rfl, hb1⟩)
  go_ret
  exact ⟨rfl, hb1⟩
/-- What labels break together: the number, the error. -/
def togetherM (Ls : List Lb) (Fs : List ByteArray) : Int × Nat :=
  if 0 ≤ firstL (fun L => !sidedM L) Ls ∧ (Ls.any fun x => asksM x.2.2) = true then (firstL (fun L => !sidedM L) Ls, 10)
  else if 253 < (dotted Fs).size then (0, 11) else (0, 0)
set_option maxHeartbeats 2000000 in
theorem nameFault_any {w : World} {b : Nat} {Ls : List Lb} {Fs : List ByteArray} (h : NameR w b Ls Fs) (hn : Ls.length ≤ 2000000000) (hz : (dotted Fs).size ≤ 140737488355328) :
    Calls Tryz.prog 48 #[.pointer (some ⟨b, 0, none⟩)] w fun e w' => e = .returned (.tuple #[.int .i64 (togetherM Ls Fs).1, .int .i64 ((togetherM Ls Fs).2 : Nat)]) ∧ Below w.heap.size w w' := by
  have h1 := firstNotSided_any h hn
  have HR : Hid (NameR w b Ls Fs) := h
  have HA : Hid (∀ W, NameR W b Ls Fs → Calls Tryz.prog 78 #[.pointer (some ⟨b, 0, none⟩)] W fun e w' => e = .returned (.bool (Ls.any fun x => asksM x.2.2)) ∧ Below W.heap.size W w') := fun W hW => nameAsks_any hW hn
  have HFm : Hid (∀ W, NameR W b Ls Fs → Calls Tryz.prog 32 #[.pointer (some ⟨b, 0, none⟩)] W fun e w' => e = .returned (.string (dotted Fs)) ∧ Below W.heap.size W w') := fun W hW => nameForm_any hW hn hz
  unfold togetherM
  generalize firstL (fun L => !sidedM L) Ls = v at *
  generalize (Ls.any fun x => asksM x.2.2) = a at *
  generalize dotted Fs = D at *
  clear h hn
  by_cases hv : 0 ≤ v
  · cases a with
    | true =>
      rw [if_pos ⟨hv, rfl⟩]
      go_enter Tryz.func48, Tryz.ntmps48
      go_wp2_with fail
      refine h1.mono ?_
      rintro e w1 ⟨rfl, hb1⟩
      have h2 := HA.out w1 (HR.out.keep hb1)
      clear h1
      go_wp2_with fail
      refine h2.mono ?_
      rintro e w2 ⟨rfl, hb2⟩
      clear h2
      go_wp2_with fail
      go_ret2
      exact ⟨rfl, Below.andThen hb1 hb2⟩
    | false =>
      rw [if_neg (by simp)]
      by_cases hd : 253 < D.size
      · rw [if_pos hd]
        have hd' : (253 : Int) < (D.size : Int) := by omega
        clear hz hd
        go_enter Tryz.func48, Tryz.ntmps48
        go_wp2_with fail
        refine h1.mono ?_
        rintro e w1 ⟨rfl, hb1⟩
        have h2 := HA.out w1 (HR.out.keep hb1)
        clear h1
        go_wp2_with fail
        refine h2.mono ?_
        rintro e w2 ⟨rfl, hb2⟩
        clear h2
        have h3 := HFm.out w2 ((HR.out.keep hb1).keep hb2)
        go_wp2_with fail
        refine h3.mono ?_
        rintro e w3 ⟨rfl, hb3⟩
        clear h3
        go_wp2_with fail
        go_ret2
        exact ⟨rfl, Below.andThen (Below.andThen hb1 hb2) hb3⟩
      · rw [if_neg hd]
        have hd' : ¬ (253 : Int) < (D.size : Int) := by omega
        clear hz hd
        go_enter Tryz.func48, Tryz.ntmps48
        go_wp2_with fail
        refine h1.mono ?_
        rintro e w1 ⟨rfl, hb1⟩
        have h2 := HA.out w1 (HR.out.keep hb1)
        clear h1
        go_wp2_with fail
        refine h2.mono ?_
        rintro e w2 ⟨rfl, hb2⟩
        clear h2
        have h3 := HFm.out w2 ((HR.out.keep hb1).keep hb2)
        go_wp2_with fail
        refine h3.mono ?_
        rintro e w3 ⟨rfl, hb3⟩
        clear h3
        go_wp2_with fail
        go_ret2
        exact ⟨rfl, Below.andThen (Below.andThen hb1 hb2) hb3⟩
  · rw [if_neg (fun h => hv h.1)]
    by_cases hd : 253 < D.size
    · rw [if_pos hd]
      have hd' : (253 : Int) < (D.size : Int) := by omega
      clear hz hd
      go_enter Tryz.func48, Tryz.ntmps48
      go_wp2_with fail
      refine h1.mono ?_
      rintro e w1 ⟨rfl, hb1⟩
      clear h1
      have h3 := HFm.out w1 (HR.out.keep hb1)
      go_wp2_with fail
      refine h3.mono ?_
      rintro e w3 ⟨rfl, hb3⟩
      clear h3
      go_wp2_with fail
      go_ret2
      exact ⟨rfl, Below.andThen hb1 hb3⟩
    · rw [if_neg hd]
      have hd' : ¬ (253 : Int) < (D.size : Int) := by omega
      clear hz hd
      go_enter Tryz.func48, Tryz.ntmps48
      go_wp2_with fail
      refine h1.mono ?_
      rintro e w1 ⟨rfl, hb1⟩
      clear h1
      have h3 := HFm.out w1 (HR.out.keep hb1)
      go_wp2_with fail
      refine h3.mono ?_
      rintro e w3 ⟨rfl, hb3⟩
      clear h3
      go_wp2_with fail
      go_ret2
      exact ⟨rfl, Below.andThen hb1 hb3⟩
end Go.Proofs.YtkaaldhejpaiiaaGreatDoor
