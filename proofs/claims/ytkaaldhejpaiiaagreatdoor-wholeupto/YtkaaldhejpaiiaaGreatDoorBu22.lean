import Derived.Test.YtkaaldhejpaiiaaGreatDoorBu21
import Derived.Shelf.SlicesQ.IndexFunc
/- The name's fault: firstNotSided, asksForSides, text, form. -/
namespace Go.Proofs.YtkaaldhejpaiiaaGreatDoor
open Go.RowKit Go.Shelf Go.Lib

theorem notSided_any {w : World} {b r : Nat} {L : List Nat} (hL : Lab w b r L) :
    Calls Tryz.prog 113 #[.pointer (some ⟨b, 0, none⟩)] w fun e w' => e = .returned (.bool (!sidedM L)) ∧ Below w.heap.size w w' := by
  have h := isSided_any hL
  generalize sidedM L = v at *
  clear hL
  go_enter Tryz.func113, Tryz.ntmps113
  go_wp2_with (go_at_call 114; refine h.mono ?_; rintro e w1 ⟨rfl, hb1⟩)
  go_ret
  exact ⟨rfl, hb1⟩
theorem asksF_any {w : World} {b r : Nat} {L : List Nat} (hL : Lab w b r L) :
    Calls Tryz.prog 116 #[.pointer (some ⟨b, 0, none⟩)] w fun e w' => e = .returned (.bool (asksM L)) ∧ Below w.heap.size w w' := by
  have h := asks_any hL
  generalize asksM L = v at *
  clear hL
  go_enter Tryz.func116, Tryz.ntmps116
  go_wp2_with (go_at_call 117; refine h.mono ?_; rintro e w1 ⟨rfl, hb1⟩)
  go_ret
  exact ⟨rfl, hb1⟩
/-- A row of labels. -/
def LabsAt (w : World) (g : Nat) (Ls : List Lb) : Prop := g < w.heap.size ∧ (∀ i (_ : i < Ls.length), w.cell? ⟨g, i, none⟩ = some (.pointer (some ⟨(Ls[i]).1, 0, none⟩))) ∧ ∀ x ∈ Ls, Lab w x.1 x.2.1 x.2.2
theorem LabsAt.keep {w w' : World} {g : Nat} {Ls : List Lb} (h : LabsAt w g Ls) (hb : Below w.heap.size w w') : LabsAt w' g Ls :=
  ⟨Nat.lt_of_lt_of_le h.1 hb.size, fun i hi => (hb.cell (p := ⟨g, i, none⟩) h.1).trans (h.2.1 i hi), fun x hx => (h.2.2 x hx).keep hb⟩
/-- The first label of which p is true; -1, if there is none. -/
def firstL (p : List Nat → Bool) : List Lb → Int
  | [] => -1
  | x :: r => if p x.2.2 = true then 0 else (if firstL p r = -1 then -1 else firstL p r + 1)
theorem firstL_hit (p : List Nat → Bool) : ∀ (Ls : List Lb) (k : Nat) (hk : k < Ls.length), (∀ j (hj : j < Ls.length), j < k → p (Ls[j]).2.2 = false) → p (Ls[k]).2.2 = true → firstL p Ls = (k : Int)
  | x :: r, 0, _, _, h => by simp only [firstL]; rw [if_pos (by simpa using h)]; rfl
  | x :: r, k + 1, hk, hn, h => by
    have h0 := hn 0 (by simp) (by omega)
    have ih := firstL_hit p r k (by simpa using hk) (fun j hj hjk => by have := hn (j + 1) (by simpa using hj) (by omega); simpa using this) (by simpa using h)
    simp only [firstL]
    rw [if_neg (by simpa using h0), ih, if_neg (by omega)]
    omega
theorem firstL_none (p : List Nat → Bool) : ∀ (Ls : List Lb), (∀ j (hj : j < Ls.length), p (Ls[j]).2.2 = false) → firstL p Ls = -1
  | [], _ => rfl
  | x :: r, hn => by
    have h0 := hn 0 (by simp)
    have ih := firstL_none p r (fun j hj => by have := hn (j + 1) (by simpa using hj); simpa using this)
    simp only [firstL]
    rw [if_neg (by simpa using h0), ih, if_pos rfl]

set_option maxHeartbeats 1000000 in
theorem indexF_any {w : World} {g : Nat} {Ls : List Lb} (hL : LabsAt w g Ls) (c f : Nat) (hn : Ls.length ≤ 2000000000) (p : List Nat → Bool)
    (ef : ∀ args w, (callFunc f args).run Tryz.prog w = .ok (.enter f args) w)
    (hp : ∀ W b r L, Lab W b r L → Calls Tryz.prog f #[.pointer (some ⟨b, 0, none⟩)] W fun e w' => e = .returned (.bool (p L)) ∧ Below W.heap.size W w') :
    Calls Tryz.prog 112 #[.slice (some ⟨g, 0, none⟩) Ls.length c, .func (.func f) #[] #[]] w fun e w' => e = .returned (.int .i64 (firstL p Ls)) ∧ Below w.heap.size w w' := by
  have HL : Hid (LabsAt w g Ls) := hL
  have HP : Hid (∀ W b r L, Lab W b r L → Calls Tryz.prog f #[.pointer (some ⟨b, 0, none⟩)] W fun e w' => e = .returned (.bool (p L)) ∧ Below W.heap.size W w') := hp
  obtain ⟨n, hnn⟩ : ∃ n, Ls.length = n := ⟨_, rfl⟩
  have HN : Hid (Ls.length = n) := hnn
  rw [hnn] at hn ⊢
  clear hL hp hnn
  go_enter Tryz.func112, Tryz.ntmps112
  go_wp2
  go_loopw [8] (fun iv wr => ∃ k : Nat, k ≤ n ∧ iv = .int .i64 k ∧ (∀ j (hj : j < Ls.length), j < k → p (Ls[j]).2.2 = false) ∧ Below w.heap.size w wr) (fun iv _ => n - (intOf iv).toNat)
  case atStart => exact ⟨0, by omega, rfl, fun j _ hj => absurd hj (by omega), Below.refl _ _⟩
  case round =>
    obtain ⟨k, hk, rfl, hno, hbw⟩ := hrel
    have HO : Hid (∀ j (hj : j < Ls.length), j < k → p (Ls[j]).2.2 = false) := hno
    have HBW : Hid (Below w.heap.size w wr) := hbw
    clear hno
    by_cases hlt : k < n
    · have hkL : k < Ls.length := by rw [HN.out]; exact hlt
      have hlt' : (k : Int) < (n : Int) := by omega
      have hW := HL.out.keep hbw
      have hc := hW.2.1 k hkL
      have hpk := HP.out wr _ _ _ (hW.2.2 _ (List.getElem_mem hkL))
      obtain ⟨x, hx⟩ : ∃ x, Ls[k] = x := ⟨_, rfl⟩
      have HX : Hid (Ls[k] = x) := hx
      rw [hx] at hc hpk
      clear hW hbw hx
      cases hv : p x.2.2 with
      | true =>
        rw [hv] at hpk
        go_wp2_with (go_at_fn f; refine hpk.mono ?_; rintro e w1 ⟨rfl, hb1⟩)
        go_ret
        refine ⟨?_, Below.andThen HBW.out hb1⟩
        rw [firstL_hit p Ls k hkL HO.out (by rw [HX.out]; exact hv)]
        rfl
      | false =>
        rw [hv] at hpk
        go_wp2_with (go_at_fn f; refine hpk.mono ?_; rintro e w1 ⟨rfl, hb1⟩)
        go_roundw
        case rel => exact ⟨k + 1, by omega, by go_num, fun j hj hjk => by
            rcases Nat.lt_succ_iff_lt_or_eq.1 hjk with h | rfl
            · exact HO.out j hj h
            · rw [HX.out]; exact hv, Below.andThen HBW.out hb1⟩
        case measure => simp [intOf]; omega
    · have hlt' : ¬ (k : Int) < (n : Int) := by omega
      clear hbw
      go_wp2
      go_ret
      refine ⟨?_, HBW.out⟩
      rw [firstL_none p Ls fun j hj => HO.out j hj (by rw [HN.out] at hj; omega)]
      rfl
theorem firstL_any (p : List Nat → Bool) : ∀ Ls : List Lb, decide (0 ≤ firstL p Ls) = Ls.any fun x => p x.2.2
  | [] => rfl
  | x :: r => by
    have ih := firstL_any p r
    have hge : ∀ r : List Lb, -1 ≤ firstL p r := by
      intro r
      induction r with
      | nil => simp [firstL]
      | cons y r ih =>
        simp only [firstL]
        split
        · omega
        · split <;> omega
    have hf : firstL p (x :: r) = if p x.2.2 = true then 0 else (if firstL p r = -1 then -1 else firstL p r + 1) := rfl
    have hr := hge r
    rw [Bool.eq_iff_iff, decide_eq_true_eq, List.any_cons]
    by_cases hx : p x.2.2 = true
    · rw [if_pos hx] at hf
      rw [hf, hx]; simp
    · have hx' : p x.2.2 = false := by simpa using hx
      rw [if_neg hx] at hf
      rw [hx', Bool.false_or, ← ih, decide_eq_true_eq, hf]
      split <;> omega

set_option maxHeartbeats 1000000 in
theorem containsF_any {w : World} {g : Nat} {Ls : List Lb} (hL : LabsAt w g Ls) (c f : Nat) (hn : Ls.length ≤ 2000000000) (p : List Nat → Bool)
    (ef : ∀ args w, (callFunc f args).run Tryz.prog w = .ok (.enter f args) w)
    (hp : ∀ W b r L, Lab W b r L → Calls Tryz.prog f #[.pointer (some ⟨b, 0, none⟩)] W fun e w' => e = .returned (.bool (p L)) ∧ Below W.heap.size W w') :
    Calls Tryz.prog 115 #[.slice (some ⟨g, 0, none⟩) Ls.length c, .func (.func f) #[] #[]] w fun e w' => e = .returned (.bool (Ls.any fun x => p x.2.2)) ∧ Below w.heap.size w w' := by
  have h := indexF_any hL c f hn p ef hp
  rw [← firstL_any]
  generalize firstL p Ls = v at *
  clear hL hp ef hn
  go_enter Tryz.func115, Tryz.ntmps115
  go_wp2_with (go_at_call 112; refine h.mono ?_; rintro e w1 ⟨rfl, hb1⟩)
  go_ret
  exact ⟨rfl, hb1⟩
/-- A name that has a label at least. -/
def NameR (w : World) (b : Nat) (Ls : List Lb) (Fs : List ByteArray) : Prop := ∃ B v0 v1 v2, NameAt w b B Ls Ls.length Ls.length Ls.length (ptrs Ls) (texts Ls) (Fs.map .string) v0 v1 v2 ∧ Fs.length = Ls.length ∧ 1 ≤ Ls.length
theorem row_cells {w : World} {B : Nat} {e : TypeId} {v : Value} {n : Nat} {xs : List Value} (h : w.ownsRow B e 1 v n xs) (hn : 1 ≤ n) : ∃ g cap, v = .slice (some ⟨g, 0, none⟩) n cap ∧ g < w.heap.size ∧ n ≤ cap ∧ ∀ i x, xs[i]? = some x → w.cell? ⟨g, i, none⟩ = some x := by
  have h' := h
  rcases h.2 with ⟨_, h0⟩ | ⟨g, cap, cur, rfl, hb, hc, hle, _⟩
  · omega
  · refine ⟨g, cap, rfl, lt_heap hc, hle, fun i x hx => ?_⟩
    have := h'.cells (g := g) rfl i x hx
    rwa [Addr.add_lit, Nat.zero_add] at this
theorem NameR.parts {w : World} {b : Nat} {Ls : List Lb} {Fs : List ByteArray} (h : NameR w b Ls Fs) : ∃ g0 c0 g1 c1 g2 c2, w.cell? ⟨b, 0, none⟩ = some (.slice (some ⟨g0, 0, none⟩) Ls.length c0) ∧ w.cell? ⟨b, 1, none⟩ = some (.slice (some ⟨g1, 0, none⟩) Ls.length c1) ∧ w.cell? ⟨b, 2, none⟩ = some (.slice (some ⟨g2, 0, none⟩) Ls.length c2) ∧
    LabsAt w g0 Ls ∧ (g1 < w.heap.size ∧ Ls.length ≤ c1 ∧ ∀ (j : Nat) x, (Ls.map fun x => textOf x.2.2)[j]? = some x → w.cell? ⟨g1, 0 + j, none⟩ = some (.string x)) ∧ (g2 < w.heap.size ∧ Ls.length ≤ c2 ∧ ∀ (j : Nat) x, Fs[j]? = some x → w.cell? ⟨g2, 0 + j, none⟩ = some (.string x)) := by
  obtain ⟨B, v0, v1, v2, hN, hF, h1⟩ := h
  obtain ⟨a0, a1, a2, _⟩ := name_cells hN.blk
  obtain ⟨g0, c0, rfl, l0, _, k0⟩ := row_cells hN.r0 h1
  obtain ⟨g1, c1, rfl, l1, m1, k1⟩ := row_cells hN.r1 h1
  obtain ⟨g2, c2, rfl, l2, m2, k2⟩ := row_cells hN.r2 h1
  refine ⟨g0, c0, g1, c1, g2, c2, a0, a1, a2, ⟨l0, fun i hi => k0 i _ (by simp [ptrs, hi]), hN.labs⟩, ⟨l1, m1, fun j x hx => ?_⟩, ⟨l2, m2, fun j x hx => ?_⟩⟩
  · rw [Nat.zero_add]
    refine k1 j _ ?_
    rw [List.getElem?_map] at hx
    cases hj : Ls[j]? with
    | none => rw [hj] at hx; cases hx
    | some y => rw [hj] at hx; simp at hx; simp [texts, hj, hx]
  · rw [Nat.zero_add]
    exact k2 j _ (by rw [List.getElem?_map, hx]; rfl)
theorem NameR.keep {w w' : World} {b : Nat} {Ls : List Lb} {Fs : List ByteArray} (h : NameR w b Ls Fs) (hb : Below w.heap.size w w') : NameR w' b Ls Fs := by
  obtain ⟨B, v0, v1, v2, ⟨h1, h2, h3, h4, h5, h6, h7⟩, hF, hl⟩ := h
  have hg : w.grownBy w' none := ⟨hb.os, hb.tape, hb.output, hb.size, fun k hk _ => hb.block k hk⟩
  have hno : ∀ v : Value, v.ownBlock = none ∨ v.ownBlock ≠ none := fun v => by cases v.ownBlock <;> simp
  exact ⟨B, v0, v1, v2, ⟨(hb.block b (lt_heap h1)).trans h1, h2, h3.kept hg (hno _), h4.kept hg (hno _), h5.kept hg (hno _), h6, fun x hx => (h7 x hx).keep hb⟩, hF, hl⟩
def dotted (xs : List ByteArray) : ByteArray := ⟨(Lib.join (xs.map (·.data.toList)) [46]).toArray⟩
set_option maxHeartbeats 1000000 in
theorem nameText_any {w : World} {b : Nat} {Ls : List Lb} {Fs : List ByteArray} (h : NameR w b Ls Fs) (hn : Ls.length ≤ 2000000000) (hz : (dotted (Ls.map fun x => textOf x.2.2)).size ≤ 140737488355328) :
    Calls Tryz.prog 31 #[.pointer (some ⟨b, 0, none⟩)] w fun e w' => e = .returned (.string (dotted (Ls.map fun x => textOf x.2.2))) ∧ Below w.heap.size w w' := by
  obtain ⟨g0, c0, g1, c1, g2, c2, _, a1, _, _, ⟨l1, m1, k1⟩, _⟩ := h.parts
  have hj := Tryz.strings_Join g1 0 c1 (Ls.map fun (x : Lb) => textOf x.2.2) { data := #[46] } w k1 l1 (by rw [List.length_map]; omega) (by rw [List.length_map]; exact m1) hz
  rw [List.length_map] at hj
  have hj2 : Calls Tryz.prog 50 #[.slice (some ⟨g1, 0, none⟩) Ls.length c1, .string { data := #[46] }] w fun e w' => e = .returned (.string (dotted (Ls.map fun x => textOf x.2.2))) ∧ Below w.heap.size w w' := hj
  generalize dotted (Ls.map fun x => textOf x.2.2) = D at *
  clear h k1 hj hz
  go_enter Tryz.func31, Tryz.ntmps31
  go_wp2_with (go_at_call 50; refine hj2.mono ?_; rintro e w1 ⟨rfl, hb1⟩)
  go_ret
  exact ⟨rfl, hb1⟩
set_option maxHeartbeats 1000000 in
theorem nameForm_any {w : World} {b : Nat} {Ls : List Lb} {Fs : List ByteArray} (h : NameR w b Ls Fs) (hn : Ls.length ≤ 2000000000) (hz : (dotted Fs).size ≤ 140737488355328) :
    Calls Tryz.prog 32 #[.pointer (some ⟨b, 0, none⟩)] w fun e w' => e = .returned (.string (dotted Fs)) ∧ Below w.heap.size w w' := by
  obtain ⟨g0, c0, g1, c1, g2, c2, _, _, a2, _, _, ⟨l2, m2, k2⟩⟩ := h.parts
  have hF : Fs.length = Ls.length := by obtain ⟨_, _, _, _, _, hF, _⟩ := h; exact hF
  have hj := Tryz.strings_Join g2 0 c2 Fs { data := #[46] } w k2 l2 (by omega) (by omega) hz
  rw [hF] at hj
  have hj2 : Calls Tryz.prog 50 #[.slice (some ⟨g2, 0, none⟩) Ls.length c2, .string { data := #[46] }] w fun e w' => e = .returned (.string (dotted Fs)) ∧ Below w.heap.size w w' := hj
  generalize dotted Fs = D at *
  clear h k2 hj hz
  go_enter Tryz.func32, Tryz.ntmps32
  go_wp2_with (go_at_call 50; refine hj2.mono ?_; rintro e w1 ⟨rfl, hb1⟩)
  go_ret
  exact ⟨rfl, hb1⟩
set_option maxHeartbeats 1000000 in
theorem firstNotSided_any {w : World} {b : Nat} {Ls : List Lb} {Fs : List ByteArray} (h : NameR w b Ls Fs) (hn : Ls.length ≤ 2000000000) :
    Calls Tryz.prog 77 #[.pointer (some ⟨b, 0, none⟩)] w fun e w' => e = .returned (.int .i64 (firstL (fun L => !sidedM L) Ls)) ∧ Below w.heap.size w w' := by
  obtain ⟨g0, c0, _, _, _, _, a0, _, _, hLs, _, _⟩ := h.parts
  have hi := indexF_any hLs c0 113 hn (fun L => !sidedM L) (enters_of Tryz.func113 (by kernel_rfl) rfl) (fun W b r L hL => notSided_any hL)
  generalize firstL (fun L => !sidedM L) Ls = v at *
  clear h hLs
  go_enter Tryz.func77, Tryz.ntmps77
  go_wp2_with (go_at_call 112; refine hi.mono ?_; rintro e w1 ⟨rfl, hb1⟩)
  go_ret
  exact ⟨rfl, hb1⟩
set_option maxHeartbeats 1000000 in
theorem nameAsks_any {w : World} {b : Nat} {Ls : List Lb} {Fs : List ByteArray} (h : NameR w b Ls Fs) (hn : Ls.length ≤ 2000000000) :
    Calls Tryz.prog 78 #[.pointer (some ⟨b, 0, none⟩)] w fun e w' => e = .returned (.bool (Ls.any fun x => asksM x.2.2)) ∧ Below w.heap.size w w' := by
  obtain ⟨g0, c0, _, _, _, _, a0, _, _, hLs, _, _⟩ := h.parts
  have hi := containsF_any hLs c0 116 hn asksM (enters_of Tryz.func116 (by kernel_rfl) rfl) (fun W b r L hL => asksF_any hL)
  generalize (Ls.any fun x => asksM x.2.2) = v at *
  clear h hLs
  go_enter Tryz.func78, Tryz.ntmps78
  go_wp2_with (go_at_call 115; refine hi.mono ?_; rintro e w1 ⟨rfl, hb1⟩)
  go_ret
  exact ⟨rfl, hb1⟩
/-- What labels break together: the number, the error. -/
def togetherM (Ls : List Lb) (Fs : List ByteArray) : Int × Nat :=
  if 0 ≤ firstL (fun L => !sidedM L) Ls ∧ (Ls.any fun x => asksM x.2.2) = true then (firstL (fun L => !sidedM L) Ls, 10)
  else if 253 < (dotted Fs).size then (0, 11) else (0, 0)
set_option maxHeartbeats 2000000 in
theorem nameFault_any {w : World} {b : Nat} {Ls : List Lb} {Fs : List ByteArray} (h : NameR w b Ls Fs) (hn : Ls.length ≤ 2000000000) (hz : (dotted Fs).size ≤ 140737488355328) :
    Calls Tryz.prog 48 #[.pointer (some ⟨b, 0, none⟩)] w fun e w' => e = .returned (.tuple #[.int .i64 (togetherM Ls Fs).1, .int .i64 ((togetherM Ls Fs).2 : Nat)]) ∧ Below w.heap.size w w' := by
  have h1 := firstNotSided_any h hn
  have HR : Hid (NameR w b Ls Fs) := h
  have HA : Hid (∀ W, NameR W b Ls Fs → Calls Tryz.prog 78 #[.pointer (some ⟨b, 0, none⟩)] W fun e w' => e = .returned (.bool (Ls.any fun x => asksM x.2.2)) ∧ Below W.heap.size W w') := fun W hW => nameAsks_any hW hn
  have HFm : Hid (∀ W, NameR W b Ls Fs → Calls Tryz.prog 32 #[.pointer (some ⟨b, 0, none⟩)] W fun e w' => e = .returned (.string (dotted Fs)) ∧ Below W.heap.size W w') := fun W hW => nameForm_any hW hn hz
  unfold togetherM
  generalize firstL (fun L => !sidedM L) Ls = v at *
  generalize (Ls.any fun x => asksM x.2.2) = a at *
  generalize dotted Fs = D at *
  clear h hn
  by_cases hv : 0 ≤ v
  · cases a with
    | true =>
      rw [if_pos ⟨hv, rfl⟩]
      go_enter Tryz.func48, Tryz.ntmps48
      go_wp2_with fail
      refine h1.mono ?_
      rintro e w1 ⟨rfl, hb1⟩
      have h2 := HA.out w1 (HR.out.keep hb1)
      clear h1
      go_wp2_with fail
      refine h2.mono ?_
      rintro e w2 ⟨rfl, hb2⟩
      clear h2
      go_wp2_with fail
      go_ret2
      exact ⟨rfl, Below.andThen hb1 hb2⟩
    | false =>
      rw [if_neg (by simp)]
      by_cases hd : 253 < D.size
      · rw [if_pos hd]
        have hd' : (253 : Int) < (D.size : Int) := by omega
        clear hz hd
        go_enter Tryz.func48, Tryz.ntmps48
        go_wp2_with fail
        refine h1.mono ?_
        rintro e w1 ⟨rfl, hb1⟩
        have h2 := HA.out w1 (HR.out.keep hb1)
        clear h1
        go_wp2_with fail
        refine h2.mono ?_
        rintro e w2 ⟨rfl, hb2⟩
        clear h2
        have h3 := HFm.out w2 ((HR.out.keep hb1).keep hb2)
        go_wp2_with fail
        refine h3.mono ?_
        rintro e w3 ⟨rfl, hb3⟩
        clear h3
        go_wp2_with fail
        go_ret2
        exact ⟨rfl, Below.andThen (Below.andThen hb1 hb2) hb3⟩
      · rw [if_neg hd]
        have hd' : ¬ (253 : Int) < (D.size : Int) := by omega
        clear hz hd
        go_enter Tryz.func48, Tryz.ntmps48
        go_wp2_with fail
        refine h1.mono ?_
        rintro e w1 ⟨rfl, hb1⟩
        have h2 := HA.out w1 (HR.out.keep hb1)
        clear h1
        go_wp2_with fail
        refine h2.mono ?_
        rintro e w2 ⟨rfl, hb2⟩
        clear h2
        have h3 := HFm.out w2 ((HR.out.keep hb1).keep hb2)
        go_wp2_with fail
        refine h3.mono ?_
        rintro e w3 ⟨rfl, hb3⟩
        clear h3
        go_wp2_with fail
        go_ret2
        exact ⟨rfl, Below.andThen (Below.andThen hb1 hb2) hb3⟩
  · rw [if_neg (fun h => hv h.1)]
    by_cases hd : 253 < D.size
    · rw [if_pos hd]
      have hd' : (253 : Int) < (D.size : Int) := by omega
      clear hz hd
      go_enter Tryz.func48, Tryz.ntmps48
      go_wp2_with fail
      refine h1.mono ?_
      rintro e w1 ⟨rfl, hb1⟩
      clear h1
      have h3 := HFm.out w1 (HR.out.keep hb1)
      go_wp2_with fail
      refine h3.mono ?_
      rintro e w3 ⟨rfl, hb3⟩
      clear h3
      go_wp2_with fail
      go_ret2
      exact ⟨rfl, Below.andThen hb1 hb3⟩
    · rw [if_neg hd]
      have hd' : ¬ (253 : Int) < (D.size : Int) := by omega
      clear hz hd
      go_enter Tryz.func48, Tryz.ntmps48
      go_wp2_with fail
      refine h1.mono ?_
      rintro e w1 ⟨rfl, hb1⟩
      clear h1
      have h3 := HFm.out w1 (HR.out.keep hb1)
      go_wp2_with fail
      refine h3.mono ?_
      rintro e w3 ⟨rfl, hb3⟩
      clear h3
      go_wp2_with fail
      go_ret2
      exact ⟨rfl, Below.andThen hb1 hb3⟩
end Go.Proofs.YtkaaldhejpaiiaaGreatDoor

/- goodName. -/
namespace Go.Proofs.YtkaaldhejpaiiaaGreatDoor
open Go.RowKit

theorem NameAt.keep {w w' : World} {b B : Nat} {Ls : List Lb} {n0 n1 n2 : Nat} {ps ts fs : List Value} {v0 v1 v2 : Value} (h : NameAt w b B Ls n0 n1 n2 ps ts fs v0 v1 v2) (hb : Below w.heap.size w w') : NameAt w' b B Ls n0 n1 n2 ps ts fs v0 v1 v2 := by
  obtain ⟨h1, h2, h3, h4, h5, h6, h7⟩ := h
  have hg : w.grownBy w' none := ⟨hb.os, hb.tape, hb.output, hb.size, fun k hk _ => hb.block k hk⟩
  have hno : ∀ v : Value, v.ownBlock = none ∨ v.ownBlock ≠ none := fun v => by cases v.ownBlock <;> simp
  exact ⟨(hb.block b (lt_heap h1)).trans h1, h2, h3.kept hg (hno _), h4.kept hg (hno _), h5.kept hg (hno _), h6, fun x hx => (h7 x hx).keep hb⟩
/-- The first label that is not good: its number, the error. -/
def badM : List ByteArray → Nat → Option (Nat × Nat)
  | [], _ => none
  | p :: r, i => if (labelM p).1 ≠ 0 then some (i, (labelM p).1) else badM r (i + 1)
def signsOf (ps : List ByteArray) : List (List Nat) := ps.map fun p => (labelM p).2.1
def formsOf (ps : List ByteArray) : List ByteArray := ps.map fun p => (labelM p).2.2
def firstS (p : List Nat → Bool) : List (List Nat) → Int
  | [] => -1
  | x :: r => if p x = true then 0 else (if firstS p r = -1 then -1 else firstS p r + 1)
theorem firstL_S (p : List Nat → Bool) : ∀ Ls : List Lb, firstL p Ls = firstS p (Ls.map (·.2.2))
  | [] => rfl
  | x :: r => by simp only [firstL, firstS, List.map_cons, firstL_S p r]
def togetherS (SL : List (List Nat)) (Fs : List ByteArray) : Int × Nat :=
  if 0 ≤ firstS (fun L => !sidedM L) SL ∧ (SL.any asksM) = true then (firstS (fun L => !sidedM L) SL, 10)
  else if 253 < (dotted Fs).size then (0, 11) else (0, 0)
theorem together_S (Ls : List Lb) (Fs : List ByteArray) : togetherM Ls Fs = togetherS (Ls.map (·.2.2)) Fs := by
  unfold togetherM togetherS
  rw [firstL_S, List.any_map]
  rfl
/-- What labels come to: the number, the error (0: none). -/
def goodM (ps : List ByteArray) : Int × Nat :=
  match badM ps 0 with
  | some (i, e) => ((i : Int), e)
  | none => togetherS (signsOf ps) (formsOf ps)
theorem badM_hit : ∀ (ps : List ByteArray) (k i : Nat) (hk : k < ps.length), (∀ j (hj : j < ps.length), j < k → (labelM ps[j]).1 = 0) → (labelM ps[k]).1 ≠ 0 → badM ps i = some (i + k, (labelM ps[k]).1)
  | p :: r, 0, i, _, _, h => by simp only [badM]; rw [if_pos (by simpa using h)]; rfl
  | p :: r, k + 1, i, hk, hn, h => by
    have h0 := hn 0 (by simp) (by omega)
    have ih := badM_hit r k (i + 1) (by simpa using hk) (fun j hj hjk => by have := hn (j + 1) (by simpa using hj) (by omega); simpa using this) (by simpa using h)
    simp only [badM]
    rw [if_neg (by simpa using h0), ih]
    simp
    omega
theorem badM_none : ∀ (ps : List ByteArray) (i : Nat), (∀ j (hj : j < ps.length), (labelM ps[j]).1 = 0) → badM ps i = none
  | [], _, _ => rfl
  | p :: r, i, hn => by
    have h0 := hn 0 (by simp)
    have ih := badM_none r (i + 1) (fun j hj => by have := hn (j + 1) (by simpa using hj); simpa using this)
    simp only [badM]
    rw [if_neg (by simpa using h0), ih]
theorem label_small (s : ByteArray) (h : (labelM s).1 = 0) : (labelM s).2.2.size ≤ 63 ∧ (labelM s).2.1.length ≤ 63 := by
  unfold labelM at h ⊢
  by_cases h1 : (plainM s).1 ≠ 0
  · rw [if_pos h1] at h; exact absurd h h1
  · rw [if_neg h1] at h ⊢
    by_cases h2 : faultM (plainM s).2 ≠ 0
    · rw [if_pos h2] at h; exact absurd h h2
    · rw [if_neg h2] at h ⊢
      by_cases h3 : 63 < (formB (plainM s).2).size
      · rw [if_pos h3] at h; simp at h
      · rw [if_neg h3]
        refine ⟨by simpa using h3, ?_⟩
        have h4 : (plainM s).2.length ≤ (formB (plainM s).2).size := by
          unfold formB
          generalize (plainM s).2 = L
          split
          · have : ∀ L : List Nat, L.length ≤ (bytesOf L).length := by
              intro L
              induction L with
              | nil => simp
              | cons n L ih =>
                unfold bytesOf
                rw [List.length_append, List.length_cons]
                have h : 1 ≤ (Utf8.encode (n : Int)).data.toList.length := by
                  unfold Utf8.encode
                  simp only
                  generalize (if Utf8.valid (n : Int) = true then ((n : Int)).toNat else Utf8.runeError) = m
                  split
                  · simp
                  · split
                    · simp
                    · split <;> simp
                omega
            have h5 := this L
            rw [← runesBytes_list, Array.length_toList] at h5
            exact h5
          · have := encS_len L
            show _ ≤ (xn ++ encS L (ysOf L)).toArray.size
            rw [List.size_toArray, List.length_append]
            omega
        simp only
        omega
theorem join_len (c : Nat) : ∀ xs : List (List UInt8), (∀ x ∈ xs, x.length ≤ c) → (Lib.join xs [46]).length ≤ xs.length * (c + 1)
  | [], _ => by simp [Lib.join]
  | [x], h => by have := h x (by simp); simp [Lib.join]; omega
  | x :: y :: r, h => by
    have h1 := h x (by simp)
    have ih := join_len c (y :: r) fun z hz => h z (by simp [hz])
    have e : Lib.join (x :: y :: r) [46] = x ++ [46] ++ Lib.join (y :: r) [46] := by simp [Lib.join, List.intercalate]
    rw [e, List.length_append, List.length_append, List.length_singleton, List.length_cons, Nat.add_mul]
    omega
theorem dotted_len (c : Nat) (xs : List ByteArray) (h : ∀ x ∈ xs, x.size ≤ c) : (dotted xs).size ≤ xs.length * (c + 1) := by
  have := join_len c (xs.map (·.data.toList)) fun x hx => by
    obtain ⟨y, hy, rfl⟩ := List.mem_map.1 hx
    rw [Array.length_toList]; exact h y hy
  rw [List.length_map] at this
  exact this

/-- Texts in a row. -/
def TextsAt (w : World) (g : Nat) (ps : List ByteArray) : Prop := g < w.heap.size ∧ ∀ i (_ : i < ps.length), w.cell? ⟨g, i, none⟩ = some (.string ps[i])
/-- What goodName answers. -/
def GoodN (ps : List ByteArray) (e : Ending) (w' : World) : Prop :=
  ((goodM ps).2 = 0 ∧ ∃ b Ls, e = .returned (.tuple #[.pointer (some ⟨b, 0, none⟩), .int .i64 0, .int .i64 0]) ∧ NameR w' b Ls (formsOf ps) ∧ Ls.map (·.2.2) = signsOf ps) ∨
  ((goodM ps).2 ≠ 0 ∧ e = .returned (.tuple #[.pointer none, .int .i64 (goodM ps).1, .int .i64 ((goodM ps).2 : Nat)]))
theorem zero_name (w : World) (hT : Tab w) : NameAt (w.alloc (.cells #[.slice none 0 0, .slice none 0 0, .slice none 0 0] 89)) w.heap.size w.heap.size [] 0 0 0 [] [] [] (.slice none 0 0) (.slice none 0 0) (.slice none 0 0) := by
  obtain ⟨tt, fr, h⟩ := hT
  exact ⟨Go.heap_alloc_new w _, ⟨lt_heap h, Nat.le_refl _⟩, ⟨rfl, Or.inl ⟨rfl, rfl⟩⟩, ⟨rfl, Or.inl ⟨rfl, rfl⟩⟩, ⟨rfl, Or.inl ⟨rfl, rfl⟩⟩, fun g hg => (by cases hg), fun x hx => (by cases hx)⟩
set_option maxHeartbeats 4000000 in
theorem goodName_any (ps : List ByteArray) (g c : Nat) (w : World) (hP : TextsAt w g ps) (h1 : 1 ≤ ps.length) (hn : ps.length ≤ 400000000) (hs : ∀ p ∈ ps, p.size ≤ 400000000) (hU : Lib.Utf8Tabs 1 2 w) (hT : Tab w) :
    Calls Tryz.prog 29 #[.slice (some ⟨g, 0, none⟩) ps.length c] w fun e w' => GoodN ps e w' ∧ Below w.heap.size w w' := by
  have HP : Hid (TextsAt w g ps ∧ (∀ p ∈ ps, p.size ≤ 400000000) ∧ Lib.Utf8Tabs 1 2 w ∧ Tab w) := ⟨hP, hs, hU, hT⟩
  have HZ : Hid (NameAt (w.alloc (.cells #[.slice none 0 0, .slice none 0 0, .slice none 0 0] 89)) w.heap.size w.heap.size [] 0 0 0 [] [] [] (.slice none 0 0) (.slice none 0 0) (.slice none 0 0)) := zero_name w hT
  obtain ⟨n, hnn⟩ : ∃ n, ps.length = n := ⟨_, rfl⟩
  have HN : Hid (ps.length = n) := hnn
  rw [hnn] at hn h1 ⊢
  clear hP hs hU hT hnn
  go_enter Tryz.func29, Tryz.ntmps29
  go_wp2
  go_loopw [17] (fun iv wr => ∃ (k : Nat) (Ls : List Lb) (v0 v1 v2 : Value), k ≤ n ∧ iv = .int .i64 k ∧ Ls.length = k ∧ NameAt wr w.heap.size w.heap.size Ls k k k (ptrs Ls) (texts Ls) ((formsOf (ps.take k)).map .string) v0 v1 v2 ∧ Ls.map (·.2.2) = signsOf (ps.take k) ∧ (∀ j (hj : j < ps.length), j < k → (labelM ps[j]).1 = 0) ∧ Below w.heap.size w wr) (fun iv _ => n - (intOf iv).toNat)
  case atStart => exact ⟨0, [], _, _, _, by omega, rfl, rfl, HZ.out, rfl, fun j _ hj => absurd hj (by omega), below_one _ _⟩
  case round =>
    obtain ⟨k, Ls, v0, v1, v2, hk, rfl, hLk, hNA, hsg, hno, hbw⟩ := hrel
    have HO : Hid (NameAt wr w.heap.size w.heap.size Ls k k k (ptrs Ls) (texts Ls) ((formsOf (ps.take k)).map .string) v0 v1 v2 ∧ Ls.map (·.2.2) = signsOf (ps.take k) ∧ (∀ j (hj : j < ps.length), j < k → (labelM ps[j]).1 = 0) ∧ Below w.heap.size w wr ∧ Ls.length = k) := ⟨hNA, hsg, hno, hbw, hLk⟩
    clear hNA hsg hno hLk
    by_cases hlt : k < n
    · have hkL : k < ps.length := by rw [HN.out]; exact hlt
      have hlt' : (k : Int) < (n : Int) := by omega
      have hc : wr.cell? ⟨g, k, none⟩ = some (.string ps[k]) := (hbw.cell (p := ⟨g, k, none⟩) HP.out.1.1).trans (HP.out.1.2 k hkL)
      have hgl := goodLabel_any ps[k] wr (HP.out.2.1 _ (List.getElem_mem hkL)) (tabs_keep HP.out.2.2.1 hbw) (HP.out.2.2.2.keep hbw)
      obtain ⟨p, hp⟩ : ∃ p, ps[k] = p := ⟨_, rfl⟩
      have HX : Hid (ps[k] = p) := hp
      rw [hp] at hc hgl
      clear hp hbw
      by_cases h0 : (labelM p).1 = 0
      · go_wp2_with fail
        refine hgl.mono ?_
        rintro e w1 ⟨⟨_, b, r, rfl, hLab⟩ | ⟨h, _⟩, hb1⟩
        · have HLB : Hid (Lab w1 b r (labelM p).2.1 ∧ Below wr.heap.size wr w1) := ⟨hLab, hb1⟩
          have had := add_any w1 _ _ Ls k _ _ _ v0 v1 v2 (HO.out.1.keep hb1) b r (labelM p).2.1 hLab (labelM p).2.2 (by omega)
          clear hLab hb1 hgl
          go_wp2_with fail
          refine had.mono ?_
          rintro e w2 ⟨rfl, hA2, hb2⟩
          clear had
          have HA2 : Hid ((∃ u0 u1 u2, NameAt w2 w.heap.size w.heap.size (Ls ++ [(b, r, (labelM p).2.1)]) (k + 1) (k + 1) (k + 1) (ptrs Ls ++ [.pointer (some ⟨b, 0, none⟩)]) (texts Ls ++ [.string (textOf (labelM p).2.1)]) ((formsOf (ps.take k)).map .string ++ [.string (labelM p).2.2]) u0 u1 u2) ∧ Below w.heap.size w1 w2) := ⟨hA2, hb2⟩
          clear hA2 hb2
          go_wp2_with fail
          go_roundw
          case rel =>
            obtain ⟨⟨u0, u1, u2, hN2⟩, hb2⟩ := HA2.out
            obtain ⟨_, hsg, hno, hbw, hLk⟩ := HO.out
            have htk : ps.take (k + 1) = ps.take k ++ [p] := by rw [List.take_succ_eq_append_getElem hkL, HX.out]
            refine ⟨k + 1, Ls ++ [(b, r, (labelM p).2.1)], u0, u1, u2, by omega, by go_num, by simp [hLk], ?_, ?_, fun j hj hjk => ?_, (Below.andThen hbw HLB.out.2).trans hb2⟩
            · have e1 : ptrs (Ls ++ [(b, r, (labelM p).2.1)]) = ptrs Ls ++ [.pointer (some ⟨b, 0, none⟩)] := by simp [ptrs]
              have e2 : texts (Ls ++ [(b, r, (labelM p).2.1)]) = texts Ls ++ [.string (textOf (labelM p).2.1)] := by simp [texts]
              have e3 : (formsOf (ps.take (k + 1))).map Value.string = (formsOf (ps.take k)).map .string ++ [.string (labelM p).2.2] := by rw [htk]; simp [formsOf]
              rw [e1, e2, e3]
              exact hN2
            · rw [htk]
              simp [signsOf, hsg]
            · rcases Nat.lt_succ_iff_lt_or_eq.1 hjk with h | rfl
              · exact hno j hj h
              · rw [HX.out]; exact h0
          case measure => simp [intOf]; omega
        · exact absurd h0 h
      · have h0I : ¬ (((labelM p).1 : Nat) : Int) = 0 := by omega
        have HG : Hid (GoodN ps (.returned (.tuple #[.pointer none, .int .i64 (k : Int), .int .i64 ((labelM p).1 : Nat)])) wr) := by
          have hb := badM_hit ps k 0 hkL HO.out.2.2.1 (by rw [HX.out]; exact h0)
          rw [HX.out, Nat.zero_add] at hb
          unfold Hid GoodN goodM
          rw [hb]
          exact Or.inr ⟨h0, rfl⟩
        go_wp2_with fail
        refine hgl.mono ?_
        rintro e w1 ⟨⟨h, _⟩ | ⟨_, rfl⟩, hb1⟩
        · exact absurd h h0
        · clear hgl
          go_wp2_with fail
          go_ret3
          refine ⟨?_, Below.andThen HO.out.2.2.2.1 hb1⟩
          rcases HG.out with ⟨_, _, _, h, _⟩ | h
          · cases h
          · exact Or.inr h
    · have hkn : k = n := by omega
      subst hkn
      have hlt' : ¬ (k : Int) < (k : Int) := by omega
      obtain ⟨hNA, hsg, hno, hbw2, hLk⟩ := HO.out
      have htk : ps.take k = ps := List.take_of_length_le (by rw [HN.out]; exact Nat.le_refl _)
      rw [htk] at hNA hsg
      have hall : ∀ j (hj : j < ps.length), (labelM ps[j]).1 = 0 := fun j hj => hno j hj (by rw [HN.out] at hj; exact hj)
      have hNR : NameR wr w.heap.size Ls (formsOf ps) := ⟨_, v0, v1, v2, by rw [hLk]; exact hNA, by simp [formsOf, HN.out, hLk], by omega⟩
      have hz : (dotted (formsOf ps)).size ≤ 140737488355328 := by
        have := dotted_len 63 (formsOf ps) fun x hx => by
          obtain ⟨y, hy, rfl⟩ := List.mem_map.1 hx
          obtain ⟨j, hj⟩ := List.getElem?_of_mem hy
          obtain ⟨hl, rfl⟩ := List.getElem?_eq_some_iff.1 hj
          exact (label_small _ (hall j hl)).1
        have e : (formsOf ps).length = k := by simp [formsOf, HN.out]
        rw [e] at this
        omega
      have hfa := nameFault_any hNR (by omega) hz
      have hM : goodM ps = togetherM Ls (formsOf ps) := by
        unfold goodM
        rw [badM_none ps 0 hall, together_S, hsg]
      have HNR : Hid (NameR wr w.heap.size Ls (formsOf ps) ∧ Ls.map (·.2.2) = signsOf ps ∧ Below w.heap.size w wr) := ⟨hNR, hsg, hbw2⟩
      rw [← hM] at hfa
      clear hNR hNA hsg hno hall hz hM hbw hbw2 htk
      by_cases h0 : (goodM ps).2 = 0
      · rw [h0] at hfa
        go_wp2_with fail
        refine hfa.mono ?_
        rintro e w1 ⟨rfl, hb1⟩
        clear hfa
        go_wp2_with fail
        go_ret3
        exact ⟨Or.inl ⟨h0, w.heap.size, Ls, rfl, HNR.out.1.keep hb1, HNR.out.2.1⟩, Below.andThen HNR.out.2.2 hb1⟩
      · have h0I : ¬ (((goodM ps).2 : Nat) : Int) = 0 := by omega
        go_wp2_with fail
        refine hfa.mono ?_
        rintro e w1 ⟨rfl, hb1⟩
        clear hfa
        go_wp2_with fail
        go_ret3
        exact ⟨Or.inr ⟨h0, rfl⟩, Below.andThen HNR.out.2.2 hb1⟩
end Go.Proofs.YtkaaldhejpaiiaaGreatDoor

/- Name. -/
namespace Go.Proofs.YtkaaldhejpaiiaaGreatDoor
open Go.RowKit

def dotB : ByteArray := { data := #[46] }
/-- What stands ahead of a dot at the end; is there one? -/
def bodyM (s : ByteArray) : ByteArray := ⟨(Lib.trimSuffix s.data.toList [46]).toArray⟩
def endedM (s : ByteArray) : Bool := Lib.hasSuffix s.data.toList [46]
/-- A name's labels. -/
def partsM (s : ByteArray) : List ByteArray := Lib.splitB dotB 0 (Lib.countB (bodyM s) dotB) (bodyM s)
def endB (s : ByteArray) : ByteArray := if endedM s = true then { data := #[46] } else { data := #[] }
def nameTextM (s : ByteArray) : ByteArray := dotted ((signsOf (partsM s)).map textOf) ++ endB s
def nameFormM (s : ByteArray) : ByteArray := dotted (formsOf (partsM s)) ++ endB s
def nameV (s : ByteArray) : Value :=
  if (goodM (partsM s)).2 = 0 then .tuple #[.string (nameTextM s), .string (nameFormM s), .int .i64 0, .int .i64 0]
  else .tuple #[.string { data := #[] }, .string { data := #[] }, .int .i64 (goodM (partsM s)).1, .int .i64 ((goodM (partsM s)).2 : Nat)]
theorem body_size (s : ByteArray) : (bodyM s).size ≤ s.size := by
  show (Lib.trimSuffix s.data.toList [46]).toArray.size ≤ _
  rw [List.size_toArray]
  unfold Lib.trimSuffix
  split
  · rw [List.length_take, Array.length_toList]; exact Nat.min_le_right _ _
  · rw [Array.length_toList]; exact Nat.le_refl _
theorem ext_size (s : ByteArray) (a b : Nat) : (s.extract a b).size ≤ s.size := by
  rw [ByteArray.size_extract]; omega
theorem split_sizes (sep : ByteArray) : ∀ (k : Nat) (s : ByteArray), ∀ p ∈ Lib.splitB sep 0 k s, p.size ≤ s.size
  | 0, s, p, hp => by simp [Lib.splitB] at hp; rw [hp]; exact Nat.le_refl _
  | k + 1, s, p, hp => by
    unfold Lib.splitB at hp
    split at hp
    · simp at hp; rw [hp]; exact Nat.le_refl _
    · rcases List.mem_cons.1 hp with rfl | hp
      · exact ext_size _ _ _
      · exact Nat.le_trans (split_sizes sep k _ p hp) (ext_size _ _ _)
set_option maxHeartbeats 4000000 in
theorem Name_any (s : ByteArray) (w : World) (m : Int) (hs : s.size ≤ 300000000) (hm : w.cell? ⟨3, 0, none⟩ = some (.int .i64 m)) (hU : Lib.Utf8Tabs 1 2 w) (hT : Tab w) :
    Calls Tryz.prog 20 #[.string s] w fun e w' => e = .returned (nameV s) ∧ Below w.heap.size w w' := by
  have hbs := body_size s
  have hcs : Calls Tryz.prog 28 #[.string s, .string { data := #[46] }] w fun e w' => e = .returned (.tuple #[.string (bodyM s), .bool (endedM s)]) ∧ w' = w := Tryz.strings_CutSuffix s { data := #[46] } w (by omega)
  have hlen := Lib.splitB_all dotB (by decide) 0 _ (bodyM s) rfl
  have hcl := Lib.countB_le dotB (by decide) _ (bodyM s) (Nat.le_refl _)
  have hsp : Calls Tryz.prog 30 #[.string (bodyM s), .string { data := #[46] }] w fun e w' => e = .returned (.slice (some ⟨w.heap.size, 0, none⟩) (partsM s).length (partsM s).length) ∧ w' = w.alloc (.cells ((partsM s).map Value.string).toArray 9) := by
    have h := Tryz.strings_Split (bodyM s) dotB m w (by omega) hm (by decide)
    rw [← hlen] at h
    exact h
  have hps : ∀ p ∈ partsM s, p.size ≤ 400000000 := fun p hp => by have := split_sizes dotB _ _ p hp; omega
  have hpl : (partsM s).length ≤ 400000000 := by unfold partsM; omega
  have hp1 : 1 ≤ (partsM s).length := by unfold partsM; omega
  have hb0 := below_one w (.cells ((partsM s).map Value.string).toArray 9)
  have hgn := goodName_any (partsM s) w.heap.size (partsM s).length (w.alloc (.cells ((partsM s).map Value.string).toArray 9)) ⟨by simp, fun i hi => by
    rw [cell_of_row _ _ _ _ 9 (0, 0) (Go.heap_alloc_new w _)]
    simp [hi]⟩ hp1 hpl hps (tabs_keep hU hb0) (hT.keep hb0)
  have HB0 : Hid (Below w.heap.size w (w.alloc (.cells ((partsM s).map Value.string).toArray 9))) := hb0
  have HSM : Hid ((partsM s).length ≤ 400000000) := hpl
  unfold nameV nameTextM nameFormM endB
  generalize partsM s = ps at *
  generalize bodyM s = bo at *
  generalize endedM s = en at *
  clear hbs hlen hcl hps hpl hp1 hb0 hU hT hm hs
  by_cases h0 : (goodM ps).2 = 0
  · rw [if_pos h0]
    have hall : ∀ p ∈ ps, (labelM p).1 = 0 := by
      have key : ∀ (l : List ByteArray) (i : Nat), badM l i = none → ∀ p ∈ l, (labelM p).1 = 0 := by
        intro l
        induction l with
        | nil => intro _ _ p hp; cases hp
        | cons q l ih =>
          intro i hb p hp
          simp only [badM] at hb
          by_cases hq : (labelM q).1 ≠ 0
          · rw [if_pos hq] at hb; cases hb
          · rw [if_neg hq] at hb
            rcases List.mem_cons.1 hp with rfl | hp
            · simpa using hq
            · exact ih _ hb p hp
      have key2 : ∀ (l : List ByteArray) (i : Nat) x, badM l i = some x → x.2 ≠ 0 := by
        intro l
        induction l with
        | nil => intro _ _ hb; cases hb
        | cons q l ih =>
          intro i x hb
          simp only [badM] at hb
          by_cases hq : (labelM q).1 ≠ 0
          · rw [if_pos hq] at hb; obtain rfl := Option.some.inj hb; exact hq
          · rw [if_neg hq] at hb; exact ih _ _ hb
      unfold goodM at h0
      cases hb : badM ps 0 with
      | none => exact key ps 0 hb
      | some x => rw [hb] at h0; exact absurd h0 (key2 ps 0 x hb)
    have hz1 : (dotted ((signsOf ps).map textOf)).size ≤ 140737488355000 := by
      have := dotted_len 252 ((signsOf ps).map textOf) fun x hx => by
        obtain ⟨L, hL, rfl⟩ := List.mem_map.1 hx
        obtain ⟨p, hp, rfl⟩ := List.mem_map.1 hL
        have h1 := (label_small p (hall p hp)).2
        have h2 := textOf_len (labelM p).2.1
        omega
      rw [List.length_map] at this
      have e : (signsOf ps).length = ps.length := by simp [signsOf]
      have := HSM.out
      omega
    have hz2 : (dotted (formsOf ps)).size ≤ 140737488355000 := by
      have := dotted_len 63 (formsOf ps) fun x hx => by
        obtain ⟨p, hp, rfl⟩ := List.mem_map.1 hx
        exact (label_small p (hall p hp)).1
      have e : (formsOf ps).length = ps.length := by simp [formsOf]
      have := HSM.out
      omega
    clear hall
    go_enter Tryz.func20, Tryz.ntmps20
    go_wp2_with (first | (go_at_call 28; refine hcs.mono ?_; rintro e w' ⟨rfl, hw'⟩; rw [hw']; clear hw' hcs) | (go_at_call 30; refine hsp.mono ?_; rintro e w' ⟨rfl, hw'⟩; rw [hw']; clear hw' hsp))
    refine hgn.mono ?_
    rintro e w1 ⟨⟨_, b, Ls, rfl, hNR, hsg⟩ | ⟨h, _⟩, hb1⟩
    · have hnl : Ls.length ≤ 2000000000 := by
        have e1 : (Ls.map (·.2.2)).length = (signsOf ps).length := by rw [hsg]
        have e2 : (signsOf ps).length = ps.length := by simp [signsOf]
        have := HSM.out
        rw [List.length_map] at e1
        omega
      have hmt : (Ls.map fun (x : Lb) => textOf x.2.2) = (signsOf ps).map textOf := by rw [← hsg, List.map_map]; rfl
      have ht := nameText_any hNR hnl (by rw [hmt]; omega)
      rw [hmt] at ht
      have HF : Hid (∀ W, Below w1.heap.size w1 W → Calls Tryz.prog 32 #[.pointer (some ⟨b, 0, none⟩)] W fun e w' => e = .returned (.string (dotted (formsOf ps))) ∧ Below W.heap.size W w') := fun W hW => nameForm_any (hNR.keep hW) hnl (by omega)
      have HB1 : Hid (Below w.heap.size w w1) := Below.andThen HB0.out hb1
      clear hNR hsg hnl hmt hb1 hgn HSM
      cases en with
      | true =>
        go_wp2_with fail
        refine ht.mono ?_
        rintro e w2 ⟨rfl, hb2⟩
        have hf := HF.out w2 hb2
        clear ht
        go_wp2_with fail
        refine hf.mono ?_
        rintro e w3 ⟨rfl, hb3⟩
        clear hf
        go_wp2_with fail
        exact bodyPost_ret (v := .tuple #[.string (dotted ((signsOf ps).map textOf) ++ { data := #[46] }), .string (dotted (formsOf ps) ++ { data := #[46] }), .int .i64 0, .int .i64 0]) (by simp [results, Tryz.results20, go_sem]) rfl ⟨rfl, Below.andThen (Below.andThen HB1.out hb2) hb3⟩
      | false =>
        go_wp2_with fail
        refine ht.mono ?_
        rintro e w2 ⟨rfl, hb2⟩
        have hf := HF.out w2 hb2
        clear ht
        go_wp2_with fail
        refine hf.mono ?_
        rintro e w3 ⟨rfl, hb3⟩
        clear hf
        go_wp2_with fail
        exact bodyPost_ret (v := .tuple #[.string (dotted ((signsOf ps).map textOf) ++ { data := #[] }), .string (dotted (formsOf ps) ++ { data := #[] }), .int .i64 0, .int .i64 0]) (by simp [results, Tryz.results20, go_sem]) rfl ⟨rfl, Below.andThen (Below.andThen HB1.out hb2) hb3⟩
    · exact absurd h0 h
  · rw [if_neg h0]
    have h0I : ¬ (((goodM ps).2 : Nat) : Int) = 0 := by omega
    go_enter Tryz.func20, Tryz.ntmps20
    go_wp2_with (first | (go_at_call 28; refine hcs.mono ?_; rintro e w' ⟨rfl, hw'⟩; rw [hw']; clear hw' hcs) | (go_at_call 30; refine hsp.mono ?_; rintro e w' ⟨rfl, hw'⟩; rw [hw']; clear hw' hsp))
    refine hgn.mono ?_
    rintro e w1 ⟨⟨h, _⟩ | ⟨_, rfl⟩, hb1⟩
    · exact absurd h h0
    · clear hgn
      go_wp2_with fail
      refine bodyPost_ret (v := .tuple #[.string { data := #[] }, .string { data := #[] }, .int .i64 (goodM ps).1, .int .i64 ((goodM ps).2 : Nat)]) (by simp [results, Tryz.results20, go_sem]) rfl ⟨rfl, Below.andThen HB0.out hb1⟩
end Go.Proofs.YtkaaldhejpaiiaaGreatDoor

