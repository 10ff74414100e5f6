import Derived.Test.YtkaaldhejpaiiaaGreatDoorBu23
import Derived.Test.YtkaaldhejpaiiaaGreatDoorRows
import Derived.Lib.LaidCaseMet
import Derived.ProofKit
import Derived.LaidMore
import Derived.LaidHandle
import Derived.OpenShut
import Derived.Stop.Joined
import Derived.Lib.LaidU8T
import Derived.PinnedBridge
import Derived.ShutString
import Derived.ChangeOld
import Derived.SevenTiedAt
import Derived.Deep.DeepHandedRow
import Derived.Deep.DeepWitnessRowRef
/- Labels of letters; Hyphened's labels. No walk in this text. -/
namespace Go.Proofs.YtkaaldhejpaiiaaGreatDoor
open Go.RowKit

def nine : List Nat := [97, 98, 122, 48, 55, 252, 233, 945, 28450]
theorem nine_common : ∀ n ∈ nine, Common n := by unfold Common; decide +kernel
theorem nine_far : ∀ n ∈ nine, n ≠ 45 ∧ (128 ≤ n → n ∈ [233, 252, 945, 28450]) := by decide +kernel
theorem let9_mem (k : Nat) (h : k < 9) : let9 k ∈ nine := by
  rcases (by omega : k = 0 ∨ k = 1 ∨ k = 2 ∨ k = 3 ∨ k = 4 ∨ k = 5 ∨ k = 6 ∨ k = 7 ∨ k = 8) with rfl | rfl | rfl | rfl | rfl | rfl | rfl | rfl | rfl <;> decide
def tailL (zs : List Int) : List Nat := (zs.take 12).map fun c => let9 (pickM c 9)
theorem lettersM_eq (zs : List Int) : lettersM zs = 113 :: tailL zs := rfl
theorem tailL_mem (zs : List Int) : ∀ n ∈ tailL zs, n ∈ nine := by
  intro n hn
  obtain ⟨c, _, rfl⟩ := List.mem_map.1 hn
  exact let9_mem _ (pickM_lt c 9 (by omega))
theorem tailL_len (zs : List Int) : (tailL zs).length ≤ 12 := by unfold tailL; simp; omega
theorem common_113 : Common 113 := Or.inl rfl
theorem letters_common (zs : List Int) : ∀ n ∈ lettersM zs, Common n := by
  intro n hn
  rcases List.mem_cons.1 hn with rfl | hn
  · exact common_113
  · exact nine_common n (tailL_mem zs n hn)
theorem letters_ne45 (zs : List Int) : ∀ n ∈ lettersM zs, n ≠ 45 := by
  intro n hn
  rcases List.mem_cons.1 hn with rfl | hn
  · decide
  · exact (nine_far n (tailL_mem zs n hn)).1
theorem oth_append (A B : List Nat) : oth (A ++ B) = oth A ++ oth B := by unfold oth; rw [List.filter_append]

/-- How long the form of signs ahead of letters is at most. -/
theorem form_letters {A Q E : List Nat} (hA : ∀ n ∈ A, Common n) (hQ : ∀ n ∈ Q, n ∈ nine) (hq : Q.length ≤ 12) (hl : A.length ≤ 12) (hE : ∀ n ∈ A, 128 ≤ n → n ∈ E) :
    (formB (A ++ Q)).size ≤ A.length + Q.length + 5 + ((oth A).length + Q.length) + 5 * (E.length + 4) := by
  have hc : ∀ n ∈ A ++ Q, Common n := fun n hn => by
    rcases List.mem_append.1 hn with h | h
    · exact hA n h
    · exact nine_common n (hQ n h)
  have hs : signsL (A ++ Q) := fun n hn => kind_sign (common_ne (hc n hn)).1
  have hz : (A ++ Q).length ≤ 24 := by rw [List.length_append]; omega
  have h := formB_dig hs (by omega) 5 (fun y hy => by
    have h1 := (kind_range (common_ne (hc y hy)).1).1
    have h2 : (y - 128) * ((A ++ Q).length + 1) ≤ 40831 * 25 := Nat.mul_le_mul (by omega) (by omega)
    omega) (E ++ [233, 252, 945, 28450]).length (few_of _ _ (ysOf_ys _).up fun y hy => by
      have h1 := ((ysOf_ys _).all y).1 hy
      rcases List.mem_append.1 h1.1 with h | h
      · exact List.mem_append.2 (Or.inl (hE y h h1.2))
      · exact List.mem_append.2 (Or.inr ((nine_far y (hQ y h)).2 h1.2)))
  rw [oth_append] at h
  have := oth_len Q
  simp only [List.length_append, List.length_cons, List.length_nil] at h
  omega

theorem rC_at (L : List Nat) (i : Nat) : decide (rC (pkAt L (i : Int)) = 3) = decide (L[i]? = some 45) := by
  rcases Nat.lt_or_ge i L.length with h | h
  · rw [pkAt_nat L i h, List.getElem?_eq_getElem h]
    by_cases e : L[i] = 45
    · rw [e]; rfl
    · rw [decide_eq_false (fun hh => e (by have := rC_hyphen hh; omega)), decide_eq_false (by simpa using e)]
  · rw [List.getElem?_eq_none h]
    unfold pkAt
    rw [if_neg (by omega)]
    rfl
theorem hyphM_eq {L : List Nat} (h : L ≠ []) : hyphM L = (decide (L[0]? = some 45) || decide (L.getLast? = some 45) || (decide (L[2]? = some 45) && decide (L[3]? = some 45))) := by
  have hl := List.length_pos_iff.2 h
  unfold hyphM
  rw [show ((L.length : Int) - 1) = ((L.length - 1 : Nat) : Int) by omega, show (0 : Int) = ((0 : Nat) : Int) from rfl, show (2 : Int) = ((2 : Nat) : Int) from rfl]
  rw [rC_at, rC_at, rC_at, show (3 : Int) = ((3 : Nat) : Int) from rfl]
  have h3 := rC_at L 3
  rw [List.getLast?_eq_getElem?]
  rw [← h3]
  rfl
theorem labelV_hyph {L : List Nat} (h : ∀ n ∈ L, Common n) (hne : L ≠ []) (hx : L[0]? ≠ some 120) (hh : hyphM L = true) :
    labelV (textOf L) = .tuple #[.string { data := #[] }, .string { data := #[] }, .int .i64 5] := by
  have hs : signsL L := fun n hn => kind_sign (common_ne (h n hn)).1
  have hp := plain_text hs hne fun _ => ⟨fun n hn => (kind_range (common_ne (h n hn)).1).2, fun e => hx (by
    have := congrArg (fun l => l[0]?) e
    simp only [List.getElem?_take] at this
    simpa using this)⟩
  unfold labelV labelM
  rw [hp]
  simp only
  rw [fault_common h, if_pos hh]
  rfl
theorem labelV_ok {L : List Nat} (h : ∀ n ∈ L, Common n) (hne : L ≠ []) (hx : L[0]? ≠ some 120) (hh : hyphM L = false) (hz : (formB L).size ≤ 63) :
    labelV (textOf L) = .tuple #[.string (textOf L), .string (formB L), .int .i64 0] := by
  rw [labelV_common h hne (fun e => hx (by
    have := congrArg (fun l => l[0]?) e
    simp only [List.getElem?_take] at this
    simpa using this)) hz, hh]
  rfl
theorem label_ok {L : List Nat} (h : ∀ n ∈ L, Common n) (hne : L ≠ []) (hx : L[0]? ≠ some 120) (hh : hyphM L = false) (hz : (formB L).size ≤ 63) :
    labelM (textOf L) = (0, L, formB L) := by
  rw [label_common h hne (fun e => hx (by
    have := congrArg (fun l => l[0]?) e
    simp only [List.getElem?_take] at this
    simpa using this)) hz, hh]
  rfl

/-- Hyphened's two labels. -/
def leadL (p : Nat) : List Nat := [97, 98, 99, 100, 101, 102].take p
def hypL (m : Nat) : List Nat := List.replicate (m + 1) 45
theorem last_letters (A : List Nat) (zs : List Int) : (A ++ lettersM zs).getLast? ≠ some 45 := by
  intro h
  rw [List.getLast?_append] at h
  have : (lettersM zs).getLast? = some ((lettersM zs).getLast (by simp [lettersM])) := List.getLast?_eq_some_getLast _
  rw [this] at h
  simp only [Option.some_or, Option.some.injEq] at h
  exact letters_ne45 zs _ (List.getLast_mem _) h
theorem lead_common (p m : Nat) : ∀ n ∈ leadL p ++ hypL m, Common n := by
  intro n hn
  rcases List.mem_append.1 hn with h | h
  · have : n ∈ [97, 98, 99, 100, 101, 102] := List.mem_of_mem_take h
    have k : ∀ n ∈ [97, 98, 99, 100, 101, 102], Common n := by unfold Common; decide +kernel
    exact k n this
  · rw [List.eq_of_mem_replicate h]
    exact Or.inr (Or.inr rfl)
theorem hyph1 (p m : Nat) (hp : p < 7) (hm : m < 4) (zs : List Int) : hyphM (leadL p ++ hypL m ++ lettersM zs) = decide (p = 0 ∨ p ≤ 2 ∧ 4 ≤ p + (m + 1)) := by
  rw [hyphM_eq (by simp [lettersM]), decide_eq_false (last_letters _ zs), lettersM_eq]
  generalize tailL zs = Q
  rcases (by omega : p = 0 ∨ p = 1 ∨ p = 2 ∨ p = 3 ∨ p = 4 ∨ p = 5 ∨ p = 6) with rfl | rfl | rfl | rfl | rfl | rfl | rfl <;>
  rcases (by omega : m = 0 ∨ m = 1 ∨ m = 2 ∨ m = 3) with rfl | rfl | rfl | rfl <;> simp [leadL, hypL, List.replicate]
theorem hyph2 (m : Nat) (zs : List Int) : hyphM (lettersM zs ++ hypL m) = true := by
  rw [hyphM_eq (by simp [lettersM])]
  have : (lettersM zs ++ hypL m).getLast? = some 45 := by unfold hypL; rw [List.getLast?_append]; simp [List.getLast?_replicate]
  rw [this]
  simp
theorem hyphened1 (p m : Nat) (hp : p < 7) (hm : m < 4) (zs : List Int) : labelV (textOf (leadL p ++ hypL m ++ lettersM zs)) =
    if p = 0 ∨ p ≤ 2 ∧ 4 ≤ p + (m + 1) then .tuple #[.string { data := #[] }, .string { data := #[] }, .int .i64 5]
    else .tuple #[.string (textOf (leadL p ++ hypL m ++ lettersM zs)), .string (formB (leadL p ++ hypL m ++ lettersM zs)), .int .i64 0] := by
  have hc : ∀ n ∈ leadL p ++ hypL m ++ lettersM zs, Common n := fun n hn => by
    rcases List.mem_append.1 hn with h | h
    · exact lead_common p m n h
    · exact letters_common zs n h
  have hx : (leadL p ++ hypL m ++ lettersM zs)[0]? ≠ some 120 := by
    rw [lettersM_eq]
    generalize tailL zs = Q
    rcases (by omega : p = 0 ∨ p = 1 ∨ p = 2 ∨ p = 3 ∨ p = 4 ∨ p = 5 ∨ p = 6) with rfl | rfl | rfl | rfl | rfl | rfl | rfl <;> simp [leadL, hypL, List.replicate]
  have hh := hyph1 p m hp hm zs
  by_cases hb : p = 0 ∨ p ≤ 2 ∧ 4 ≤ p + (m + 1)
  · rw [if_pos hb]
    exact labelV_hyph hc (by simp [lettersM]) hx (by rw [hh]; exact decide_eq_true hb)
  · rw [if_neg hb]
    refine labelV_ok hc (by simp [lettersM]) hx (by rw [hh]; exact decide_eq_false hb) ?_
    have e : leadL p ++ hypL m ++ lettersM zs = (leadL p ++ hypL m ++ [113]) ++ tailL zs := by rw [lettersM_eq]; simp
    have hA : ∀ n ∈ leadL p ++ hypL m ++ [113], Common n ∧ n < 128 := fun n hn => by
      rcases List.mem_append.1 hn with h | h
      · refine ⟨lead_common p m n h, ?_⟩
        rcases List.mem_append.1 h with h | h
        · have : n ∈ [97, 98, 99, 100, 101, 102] := List.mem_of_mem_take h
          have k : ∀ n ∈ [97, 98, 99, 100, 101, 102], n < 128 := by decide
          exact k n this
        · rw [List.eq_of_mem_replicate h]; decide
      · rw [List.mem_singleton.1 h]; exact ⟨common_113, by decide⟩
    have hlen : (leadL p ++ hypL m ++ [113]).length ≤ 11 := by simp [leadL, hypL]; omega
    have ho : oth (leadL p ++ hypL m ++ [113]) = [] := by
      unfold oth
      rw [List.filter_eq_nil_iff]
      intro n hn
      simp [(hA n hn).2]
    rw [e]
    have h := form_letters (E := []) (fun n hn => (hA n hn).1) (tailL_mem zs) (tailL_len zs) (by omega) (fun n hn h => by have := (hA n hn).2; omega)
    rw [ho] at h
    have hq := tailL_len zs
    simp only [List.length_nil] at h
    omega
theorem hyphened2 (m : Nat) (zs : List Int) : labelV (textOf (lettersM zs ++ hypL m)) = .tuple #[.string { data := #[] }, .string { data := #[] }, .int .i64 5] := by
  refine labelV_hyph (fun n hn => ?_) (by simp [lettersM]) (by simp [lettersM]) (hyph2 m zs)
  rcases List.mem_append.1 hn with h | h
  · exact letters_common zs n h
  · exact lead_common 0 m n (List.mem_append.2 (Or.inr h))
/-- A label of letters is good. -/
theorem letters_form (zs : List Int) : (formB (lettersM zs)).size ≤ 50 := by
  have h := form_letters (A := [113]) (E := []) (fun n hn => by rw [List.mem_singleton.1 hn]; exact common_113) (tailL_mem zs) (tailL_len zs) (by decide) (fun n hn h => by rw [List.mem_singleton.1 hn] at h; omega)
  have ho : oth [113] = [] := rfl
  have hq := tailL_len zs
  rw [ho] at h
  have e : lettersM zs = [113] ++ tailL zs := rfl
  rw [e]
  simp only [List.length_cons, List.length_nil] at h
  omega
theorem letters_hyph (zs : List Int) : hyphM (lettersM zs) = false := by
  rw [hyphM_eq (by simp [lettersM])]
  have h1 : (lettersM zs).getLast? ≠ some 45 := last_letters [] zs
  have h2 : (lettersM zs)[2]? ≠ some 45 := fun h => letters_ne45 zs 45 (List.mem_of_getElem? h) rfl
  have h0 : (lettersM zs)[0]? ≠ some 45 := fun h => letters_ne45 zs 45 (List.mem_of_getElem? h) rfl
  rw [decide_eq_false h2, decide_eq_false h0, decide_eq_false h1]
  rfl
theorem letters_label (zs : List Int) : labelM (textOf (lettersM zs)) = (0, lettersM zs, formB (lettersM zs)) :=
  label_ok (letters_common zs) (by simp [lettersM]) (by simp [lettersM]) (letters_hyph zs) (Nat.le_trans (letters_form zs) (by decide))
theorem letters_labelV (zs : List Int) : labelV (textOf (lettersM zs)) = .tuple #[.string (textOf (lettersM zs)), .string (formB (lettersM zs)), .int .i64 0] := by
  unfold labelV
  rw [letters_label]
  rfl
end Go.Proofs.YtkaaldhejpaiiaaGreatDoor

/- A world that lays the four tables; what the rows' condition gives. -/
namespace Go.Proofs.YtkaaldhejpaiiaaGreatDoor
open Go.RowKit

theorem laidVars_split {P : Program} {w : World} : ∀ (l l' : List (String × DataW Unit)) (ps : List MemPlace), DataW.LaidVars P w (l ++ l') ps → ∃ p q, ps = p ++ q ∧ DataW.LaidVars P w l p ∧ DataW.LaidVars P w l' q
  | [], l', ps, h => ⟨[], ps, rfl, rfl, h⟩
  | (n, d) :: l, l', ps, h => by
    obtain ⟨g, t, cs, fuel, p, q, h1, h2, h3, h4, h5, rfl⟩ := h
    obtain ⟨p2, q2, rfl, h6, h7⟩ := laidVars_split l l' q h5
    exact ⟨MemPlace.row ⟨g, 0, none⟩ cs.size ++ p ++ p2, q2, by simp, ⟨g, t, cs, fuel, p, p2, h1, h2, h3, h4, h6, rfl⟩, h7⟩
theorem laidMet_swap {P : Program} {w : World} (l : List (String × DataW Unit)) (x y : String × DataW Unit) (h : laidMet P (l ++ [x, y]) w) : laidMet P (l ++ [y, x]) w := by
  obtain ⟨ps, h1, h2, h3⟩ := h
  obtain ⟨p, q, rfl, h4, h5⟩ := laidVars_split l [x, y] ps h1
  obtain ⟨q1, q2, rfl, h6, h7⟩ := laidVars_split [x] [y] q h5
  have hp : List.Perm (p ++ (q2 ++ q1)) (p ++ (q1 ++ q2)) := List.Perm.append_left p List.perm_append_comm
  refine ⟨p ++ (q2 ++ q1), ?_, hp.nodup_iff.2 h2, fun b off hm => h3 b off (hp.mem_iff.1 hm)⟩
  have := Go.Proofs.LaidVars_append h7 h6
  exact Go.Proofs.LaidVars_append h4 this

def firstCells : Array Value := (Lib.firstTab.map fun z => Value.int .u8 z).toArray
noncomputable def greatWorld (os : Os) : World :=
  let w0 := World.doorLaid Tryz.prog 50 os
  let put (h : Array Obj) (g : Nat) (cs : Array Value) : Array Obj := h.modify g fun
    | .cells _ t frozen => .cells cs t frozen
    | o => o
  let h1 := put w0.heap 1 firstCells
  let h2 := put h1 4 #[.slice (some ⟨w0.heap.size, 0, none⟩) 336 336]
  { w0 with heap := h2.push (.cells Lib.caseCells5 221 (0, 0)) }
theorem caseX : Go.Proofs.CaseExtra Tryz.prog Tryz.lays159_ren := ⟨by kernel_rfl, by kernel_rfl, by kernel_rfl, by kernel_rfl, by kernel_rfl, by kernel_rfl⟩
def threeLaid : List (String × DataW Unit) := [("unicode/utf8.acceptRanges", Rows.laid_unicode_utf8_acceptRanges), ("manor/manor.table", Rows.laid_manor_manor_table), ("unicode/utf8.first", Lib.firstData)]
theorem great_run (os : Os) (args : Array Value) : laidMet Tryz.prog (threeLaid ++ [("unicode.CaseRanges", Lib.caseData)]) ((greatWorld os).forCall (fun _ _ => 0) ⟨#[], args, []⟩).memory :=
  Go.Proofs.laidMet_with_case (ρ := Tryz.lays159_ren) { Tryz.lays159 with } Tryz.lays159.t206 caseX (l := threeLaid)
    8 (by kernel_rfl) (by kernel_rfl) (by kernel_rfl) (World.doorLaid Tryz.prog 50 default).heap.size 221 (of_decide_eq_true (by kernel_rfl)) (by kernel_rfl) (by kernel_rfl) (by kernel_rfl)

def fourLaid : List (String × DataW Unit) := [("unicode/utf8.acceptRanges", Rows.laid_unicode_utf8_acceptRanges), ("manor/manor.table", Rows.laid_manor_manor_table), ("unicode.CaseRanges", Rows.laid_unicode_CaseRanges), ("unicode/utf8.first", Rows.laid_unicode_utf8_first)]
theorem four_met (os : Os) (args : Array Value) : laidMet Tryz.prog fourLaid ((greatWorld os).forCall (fun _ _ => 0) ⟨#[], args, []⟩).memory := by
  have h := laidMet_swap [("unicode/utf8.acceptRanges", Rows.laid_unicode_utf8_acceptRanges), ("manor/manor.table", Rows.laid_manor_manor_table)] ("unicode/utf8.first", Lib.firstData) ("unicode.CaseRanges", Lib.caseData) (great_run os args)
  have e1 : Rows.laid_unicode_utf8_first = Lib.firstData := Pinned.utf8First_eq
  have e2 : Rows.laid_unicode_CaseRanges = Lib.caseData := Pinned.caseRanges_eq
  unfold fourLaid
  rw [e1, e2]
  exact h
theorem own : ownKnob Tryz.prog.godebug = none := by kernel_rfl
theorem laidOutU : laidOutB Tryz.prog = true := by kernel_rfl
theorem extraU : U8Extra Tryz.prog laysValid_ren := ⟨by kernel_rfl, by kernel_rfl, by kernel_rfl, by kernel_rfl, by kernel_rfl, by kernel_rfl, by kernel_rfl⟩
theorem accept_is : (Rows.laid_unicode_utf8_acceptRanges : DataW Unit) = Lib.acceptData := by kernel_rfl
theorem gTable : Tryz.prog.globalNamed "manor/manor.table" = some 0 := by kernel_rfl
theorem tTable : (Tryz.prog.globals[0]?).map (·.type) = some 85 := by kernel_rfl
theorem c21 : Tryz.prog.cellsOf 21 = 1 := by kernel_rfl
theorem cRow : Tryz.prog.cellsOf 61 = 6 := by kernel_rfl
theorem cKi : Tryz.prog.cellsOf 56 = 1 := by kernel_rfl
theorem cSi : Tryz.prog.cellsOf 57 = 1 := by kernel_rfl
theorem cSc : Tryz.prog.cellsOf 58 = 1 := by kernel_rfl
theorem cJo : Tryz.prog.cellsOf 59 = 1 := by kernel_rfl
theorem cTab : Tryz.prog.cellsOf 85 = 198 := by kernel_rfl
def cells3 (r : Int × Int × Int × Int × Int × Int) : List Value := [.int .i32 r.1, .int .i32 r.2.1, .int .u8 r.2.2.1, .int .u8 r.2.2.2.1, .int .u8 r.2.2.2.2.1, .int .u8 r.2.2.2.2.2]
theorem chunks : ∀ (rows : List (Int × Int × Int × Int × Int × Int)) (cs : List Value), cs.length = rows.length * 6 → (∀ i r, rows[i]? = some r → (cs.drop (i * 6)).take 6 = cells3 r) → cs = rows.flatMap cells3
  | [], cs, hl, _ => by simpa using hl
  | r :: rows, cs, hl, h => by
    have h0 := h 0 r rfl
    simp only [Nat.zero_mul, List.drop_zero] at h0
    have ih := chunks rows (cs.drop 6) (by simp at hl ⊢; omega) (fun i x hx => by
      have := h (i + 1) x (by simpa using hx)
      rw [List.drop_drop, Nat.add_comm 6]
      rwa [Nat.add_mul, Nat.one_mul] at this)
    rw [List.flatMap_cons, ← ih, ← h0, List.take_append_drop]
def dat3 {H : Type} (r : Int × Int × Int × Int × Int × Int) : DataW H := .agg [.lit (.int .i32 r.1), .lit (.int .i32 r.2.1), .lit (.int .u8 r.2.2.1), .lit (.int .u8 r.2.2.2.1), .lit (.int .u8 r.2.2.2.2.1), .lit (.int .u8 r.2.2.2.2.2)]
theorem laid_is : Rows.laid_manor_manor_table = (.agg (tabK.map dat3) : DataW Unit) := rfl
theorem agg_is : aggK.toList = tabK.flatMap cells3 := by kernel_rfl
theorem sixes {L : List Value} {a b c d e f : Value} (hl : L.length = 6) (a0 : (L.drop 0).take 1 = [a]) (a1 : (L.drop 1).take 1 = [b]) (a2 : (L.drop 2).take 1 = [c]) (a3 : (L.drop 3).take 1 = [d]) (a4 : (L.drop 4).take 1 = [e]) (a5 : (L.drop 5).take 1 = [f]) : L = [a, b, c, d, e, f] := by
  match L, hl with
  | [x, y, z, u, v, t], _ =>
    simp at a0 a1 a2 a3 a4 a5
    rw [a0, a1, a2, a3, a4, a5]
theorem trod_struct6 {H : Type} {enc : TypeId × Value → H} {P : Program} {w : World} {base : Nat} {spare : Nat → Bool} {held : Bool} {t : TypeId} {f0 f1 f2 f3 f4 f5 : Field} {fuel : Nat} {cs : List Value} {x : DataW H × List MemPlace} (ht : P.underlying t = some (.struct #[f0, f1, f2, f3, f4, f5])) (h : DataW.trod enc P w base spare held fuel t cs = some x) :
    ∃ y0 y1 y2 y3 y4 y5 n, x.1 = .agg [y0.1, y1.1, y2.1, y3.1, y4.1, y5.1] ∧ cs.length = P.cellsOf t ∧ DataW.trod enc P w base spare held n f0.type ((cs.drop f0.offset).take (P.cellsOf f0.type)) = some y0 ∧
      DataW.trod enc P w base spare held n f1.type ((cs.drop f1.offset).take (P.cellsOf f1.type)) = some y1 ∧ DataW.trod enc P w base spare held n f2.type ((cs.drop f2.offset).take (P.cellsOf f2.type)) = some y2 ∧
      DataW.trod enc P w base spare held n f3.type ((cs.drop f3.offset).take (P.cellsOf f3.type)) = some y3 ∧ DataW.trod enc P w base spare held n f4.type ((cs.drop f4.offset).take (P.cellsOf f4.type)) = some y4 ∧ DataW.trod enc P w base spare held n f5.type ((cs.drop f5.offset).take (P.cellsOf f5.type)) = some y5 := by
  obtain ⟨xs, n, _, rfl, hl, hlen, hf⟩ := DataW.trod_struct ht h
  match xs, hlen with
  | [y0, y1, y2, y3, y4, y5], _ => exact ⟨y0, y1, y2, y3, y4, y5, n, by simp, hl, by simpa using hf 0 f0 rfl, by simpa using hf 1 f1 rfl, by simpa using hf 2 f2 rfl, by simpa using hf 3 f3 rfl, by simpa using hf 4 f4 rfl, by simpa using hf 5 f5 rfl⟩

theorem ground_of {W : World} (h : laidMetH Tryz.prog fourLaid W) : Lib.Utf8Tabs 1 2 W ∧ Tab W := by
  rw [MakeChecks.laidMetH_plain _ _ _ (by kernel_rfl)] at h
  obtain ⟨ps, ⟨g0, t0, cs0, f0, p0, q0, hg0, ht0, hv0, hd0, ⟨g1, t1, cs1, f1, p1, q1, hg1, ht1, hv1, hd1, ⟨g2, t2, cs2, f2, p2, q2, hg2, ht2, hv2, hd2, ⟨g3, t3, cs3, f3, p3, q3, hg3, ht3, hv3, hd3, _, _⟩, _⟩, _⟩, _⟩, _, _⟩ := h
  constructor
  · rw [accept_is] at hd0
    have e1 : Rows.laid_unicode_utf8_first = Lib.firstData := Pinned.utf8First_eq
    rw [e1] at hd3
    exact utf8Tabs_of_readsT (U8Types.of196 laysValid) extraU ⟨g3, t3, cs3, f3, p3, hg3, ht3, hv3, hd3⟩ ⟨g0, t0, cs0, f0, p0, hg0, ht0, hv0, hd0⟩
  · obtain rfl := Option.some.inj (gTable.symm.trans hg1)
    obtain rfl := Option.some.inj (tTable.symm.trans ht1)
    obtain ⟨xs, m, rfl, hx, hlen, hn, hel⟩ := DataW.trod_array Tryz.underlying85 hd1
    rw [laid_is] at hx
    simp only [Prod.mk.injEq, DataW.agg.injEq] at hx
    have hcs : cs1.toList = tabK.flatMap cells3 := by
      refine chunks tabK cs1.toList (by rw [hlen, cTab]; rfl) fun i r hr => ?_
      have hi : i < 33 := (List.getElem?_eq_some_iff.1 hr).1
      have he := hel i hi
      rw [cRow] at he
      have hxi : (xs.map (·.1))[i]? = some (dat3 r) := by rw [← hx.1, List.getElem?_map, hr]; rfl
      rw [List.getElem?_map] at hxi
      cases hy : xs[i]? with
      | none => simp [hy] at hxi
      | some y =>
        rw [hy] at he hxi
        simp only [Option.map_some, Option.some.injEq] at hxi
        obtain ⟨y0, y1, y2, y3, y4, y5, n, ey, hl3, e0, e1, e2, e3, e4, e5⟩ := trod_struct6 Tryz.underlying61 he
        obtain ⟨k0, a0, rfl, _⟩ := DataW.trod_int Tryz.underlying21 e0
        obtain ⟨k1, a1, rfl, _⟩ := DataW.trod_int Tryz.underlying21 e1
        obtain ⟨k2, a2, rfl, _⟩ := DataW.trod_int Tryz.underlying56 e2
        obtain ⟨k3, a3, rfl, _⟩ := DataW.trod_int Tryz.underlying57 e3
        obtain ⟨k4, a4, rfl, _⟩ := DataW.trod_int Tryz.underlying58 e4
        obtain ⟨k5, a5, rfl, _⟩ := DataW.trod_int Tryz.underlying59 e5
        rw [ey] at hxi
        simp only [dat3, DataW.agg.injEq, List.cons.injEq, DataW.lit.injEq, Lit.int.injEq, true_and, and_true] at hxi
        obtain ⟨rfl, rfl, rfl, rfl, rfl, rfl⟩ := hxi
        rw [cRow] at hl3
        exact sixes hl3 (by rw [c21] at a0; exact a0) (by rw [c21] at a1; exact a1) (by rw [cKi] at a2; exact a2) (by rw [cSi] at a3; exact a3) (by rw [cSc] at a4; exact a4) (by rw [cJo] at a5; exact a5)
    have e : cs1 = aggK := by
      apply Array.toList_inj.1
      rw [hcs, agg_is]
    simp only [World.var?, hg1, Option.bind_some] at hv1
    split at hv1
    · rename_i cs t fr hh
      simp only [Option.some.injEq] at hv1
      exact ⟨t, fr, by rw [hh, hv1, e]⟩
    · cases hv1
end Go.Proofs.YtkaaldhejpaiiaaGreatDoor

/- What the cards share: the ground, raw numbers. -/
namespace Go.Proofs.YtkaaldhejpaiiaaGreatDoor
open Go.ChangeShapes Go.WideShapes Go.ChangeAt Go.RowKit

theorem ground_at {W : World} (h : laidMetH Tryz.prog fourLaid W) (hs : W.ShapedOpen Tryz.prog) : Ground W := by
  obtain ⟨h1, h2⟩ := ground_of h
  obtain ⟨m, hm⟩ := Tryz.laysM146.s1_3 W hs
  have hm2 : W.cell? ⟨3, 0, none⟩ = some (.int .i64 m) := hm
  exact ⟨h1, h2, m, World.block_lt_of_cell? W _ hm2, hm2⟩
theorem four_metH (os : Os) (args : Array Value) : laidMetH Tryz.prog fourLaid ((greatWorld os).forCall (fun _ _ => 0) ⟨#[], args, []⟩).memory := by
  rw [MakeChecks.laidMetH_plain _ _ _ (by kernel_rfl)]
  exact four_met os args
theorem raw_of {H : Type} {enc : TypeId × Value → H} {W : World} {base fuel len cap : Nat} {held : Bool} {a : Option Addr} {x : DataW H × List MemPlace}
    (h : DataW.trod enc Tryz.prog W base (fun _ => true) held fuel 31 [.slice a len cap] = some x) : ∃ zs : List Int, zs.length = len ∧ Raw W a zs := by
  rcases open_ints Tryz.underlying31 Tryz.underlying3 (by kernel_rfl) h with ⟨hcs, _⟩ | ⟨y, l, c, zs, hcs, _, hl, hm, hz, _, hcell, hwz⟩
  · simp at hcs
    obtain ⟨rfl, rfl, rfl⟩ := hcs
    exact ⟨[], rfl, ⟨by simp, fun i hi => absurd hi (by simp)⟩⟩
  · simp at hcs
    obtain ⟨rfl, rfl, rfl⟩ := hcs
    unfold maxLen at hm
    have hz' : zs.length = cap := by simpa using hz
    refine ⟨zs.take len, by rw [List.length_take]; omega, ⟨by rw [List.length_take]; omega, fun i hi => ?_⟩⟩
    rw [List.length_take] at hi
    have hiz : i < zs.length := by omega
    obtain ⟨b, off, rfl, hc⟩ := ints_at hcell (by omega)
    have hci := hc i hiz
    have e : zs.getD i 0 = zs[i] := by rw [List.getD_eq_getElem?_getD, List.getElem?_eq_getElem hiz]; rfl
    rw [e] at hci
    have hbd := bounds_i64 (hwz zs[i] (List.getElem_mem hiz))
    rw [List.getElem_take]
    exact ⟨b, off, rfl, World.block_lt_of_cell? W _ hci, hci, hbd.1, hbd.2⟩
theorem greatB : ((greatWorld default).forCall (fun _ _ => 0) ⟨#[], #[], []⟩).variablesRefB Tryz.prog = true := by kernel_rfl
end Go.Proofs.YtkaaldhejpaiiaaGreatDoor

