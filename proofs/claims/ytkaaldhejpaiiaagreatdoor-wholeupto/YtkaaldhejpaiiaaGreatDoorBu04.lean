import Derived.Test.YtkaaldhejpaiiaaGreatDoorBu01
import Derived.Sort.LotD2
import Derived.Sort.AssemblyPlain
import Derived.Test.YtkaaldhejpaiiaaGreatDoorBu02
import Derived.Test.YtkaaldhejpaiiaaGreatDoorBu03
import Derived.Test.YtkaaldhejpaiiaaGreatDoorProg
import Derived.WalkKit
import Derived.WalkLawsBesides
import Derived.WalkSpells
import Derived.BigQuiet
import Derived.Deep.QuietTactic
import Derived.Outline
/- Xl Xm, in one. -/
/- The library's sort at runes: what a round of pdqsortOrdered leaves to be done. No walk in this text. -/
namespace Go.Proofs.YtkaaldhejpaiiaaGreatDoor
open Go.RowKit Go.Sort

/-- Whatever sorts [x, y) of D sorts [a, b) of d. -/
def Todo (a b : Nat) (d : Array Int) (x y : Nat) (D : Array Int) : Prop := ∀ R, PermIn x y D R → SortedIn ltInt x y R → PermIn a b d R ∧ SortedIn ltInt a b R
theorem Todo.self (a b : Nat) (d : Array Int) : Todo a b d a b d := fun _ h1 h2 => ⟨h1, h2⟩
theorem Todo.perm {a b x y : Nat} {d D F : Array Int} (h : Todo a b d x y D) (hP : PermIn x y D F) : Todo a b d x y F := fun R h1 h2 => h R (permIn_trans _ _ _ _ _ hP h1) h2
theorem Todo.trans {a b x y x' y' : Nat} {d D F : Array Int} (h : Todo a b d x y D) (h2 : Todo x y D x' y' F) : Todo a b d x' y' F := fun R h3 h4 => h R (h2 R h3 h4).1 (h2 R h3 h4).2

theorem todo_eq {x y pv i : Nat} {D F : Array Int} (h0 : 0 < x) (hy : y ≤ D.size) (hB : Sort.Below ltInt x y D) (hl : ltInt D[x - 1]! D[pv]! = false)
    (h1 : x < i) (h2 : i ≤ y) (hP : PermIn x y D F) (hlo : ∀ t, x ≤ t → t < i → ltInt D[pv]! F[t]! = false) (hhi : ∀ t, i ≤ t → t < y → ltInt D[pv]! F[t]! = true) :
    Sort.Below ltInt i y F ∧ Todo x y D i y F := by
  have hF : y ≤ F.size := by rw [hP.1]; exact hy
  have low : ∀ t, x ≤ t → t < y → ltInt F[t]! D[pv]! = false := by
    refine permIn_all D F x y (fun z => ltInt z D[pv]! = false) hy hP fun t ht1 ht2 => ?_
    rcases hB with e | e
    · omega
    · exact swo_ltInt.ntrans _ _ _ (e t ht1 ht2) hl
  constructor
  · refine Or.inr fun t ht1 ht2 => ?_
    have p1 := hhi t ht1 ht2
    have p2 := hlo (i - 1) (by omega) (by omega)
    simp only [ltInt, decide_eq_true_eq, decide_eq_false_iff_not] at p1 p2 ⊢
    omega
  · intro R hR hs
    have hsame : ∀ t, t < i → R[t]! = F[t]! := fun t ht => hR.2.1 t (Or.inl ht)
    refine ⟨permIn_trans _ _ _ x y hP (permIn_mono _ _ i y x y (by omega) (Nat.le_refl _) hF hR), ?_⟩
    refine sorted_glue_eq swo_ltInt D[pv]! hs (fun t a1 a2 => ?_) (fun t a1 a2 => ?_) (permIn_all F R i y (fun z => ltInt D[pv]! z = true) hF hR hhi)
    · rw [hsame t a2]; exact hlo t a1 a2
    · rw [hsame t a2]; exact low t a1 (by omega)

section
variable {x y m : Nat} {D F : Array Int}
theorem todo_left (hy : y ≤ D.size) (h1 : x ≤ m) (h2 : m < y) (hP : PermIn x y D F) (hlo : ∀ t, x ≤ t → t < m → ltInt F[t]! F[m]! = true) (hhi : ∀ t, m < t → t < y → ltInt F[t]! F[m]! = false)
    {L : Array Int} (hL : PermIn x m F L) (sL : SortedIn ltInt x m L) : Sort.Below ltInt (m + 1) y L ∧ Todo x y D (m + 1) y L := by
  have hF : y ≤ F.size := by rw [hP.1]; exact hy
  have hLs : y ≤ L.size := by rw [hL.1]; exact hF
  have eL : ∀ t, m ≤ t → L[t]! = F[t]! := fun t ht => hL.2.1 t (Or.inr ht)
  have lo2 := permIn_all F L x m (fun z => ltInt z F[m]! = true) (by omega) hL hlo
  constructor
  · refine Or.inr fun t a1 a2 => ?_
    rw [Nat.add_sub_cancel, eL t (by omega), eL m (Nat.le_refl _)]
    exact hhi t (by omega) a2
  · intro R hR sR
    have eR : ∀ t, t ≤ m → R[t]! = L[t]! := fun t ht => hR.2.1 t (Or.inl (by omega))
    have hi2 := permIn_all L R (m + 1) y (fun z => ltInt z F[m]! = false) hLs hR fun t a1 a2 => by rw [eL t (by omega)]; exact hhi t (by omega) a2
    refine ⟨permIn_trans _ _ _ x y hP (permIn_trans _ _ _ x y (permIn_mono _ _ x m x y (Nat.le_refl _) (by omega) hF hL) (permIn_mono _ _ (m + 1) y x y (by omega) (Nat.le_refl _) hLs hR)), ?_⟩
    refine sorted_glue swo_ltInt (sL.congr fun t _ a2 => eR t (by omega)) sR (fun t a1 a2 => ?_) fun t a1 a2 => ?_
    · rw [eR t (by omega), eR m (Nat.le_refl _), eL m (Nat.le_refl _)]; exact lo2 t a1 a2
    · rw [eR m (Nat.le_refl _), eL m (Nat.le_refl _)]; exact hi2 t (by omega) a2
theorem todo_right (hy : y ≤ D.size) (h1 : x ≤ m) (h2 : m < y) (hB : Sort.Below ltInt x y D) (hP : PermIn x y D F) (hlo : ∀ t, x ≤ t → t < m → ltInt F[t]! F[m]! = true) (hhi : ∀ t, m < t → t < y → ltInt F[t]! F[m]! = false)
    {L : Array Int} (hL : PermIn (m + 1) y F L) (sL : SortedIn ltInt (m + 1) y L) : Sort.Below ltInt x m L ∧ Todo x y D x m L := by
  have hF : y ≤ F.size := by rw [hP.1]; exact hy
  have hLs : y ≤ L.size := by rw [hL.1]; exact hF
  have eL : ∀ t, t ≤ m → L[t]! = F[t]! := fun t ht => hL.2.1 t (Or.inl (by omega))
  have hi2 := permIn_all F L (m + 1) y (fun z => ltInt z F[m]! = false) hF hL fun t a1 a2 => hhi t (by omega) a2
  constructor
  · rcases (hB.perm hy hP).mono (show m ≤ y by omega) with e | e
    · exact Or.inl e
    · exact Or.inr fun t a1 a2 => by rw [eL t (by omega), eL (x - 1) (by omega)]; exact e t a1 a2
  · intro R hR sR
    have eR : ∀ t, m ≤ t → R[t]! = L[t]! := fun t ht => hR.2.1 t (Or.inr ht)
    have lo2 := permIn_all L R x m (fun z => ltInt z F[m]! = true) (by omega) hR fun t a1 a2 => by rw [eL t (by omega)]; exact hlo t a1 a2
    refine ⟨permIn_trans _ _ _ x y hP (permIn_trans _ _ _ x y (permIn_mono _ _ (m + 1) y x y (by omega) (Nat.le_refl _) hF hL) (permIn_mono _ _ x m x y (Nat.le_refl _) (by omega) hLs hR)), ?_⟩
    refine sorted_glue swo_ltInt sR (sL.congr fun t a1 _ => eR t (by omega)) (fun t a1 a2 => ?_) fun t a1 a2 => ?_
    · rw [eR m (Nat.le_refl _), eL m (Nat.le_refl _)]; exact lo2 t a1 a2
    · rw [eR t (by omega), eR m (Nat.le_refl _), eL m (Nat.le_refl _)]; exact hi2 t (by omega) a2
/-- The left part, as it lies behind the partition. -/
theorem below_left (hy : y ≤ D.size) (h2 : m < y) (hB : Sort.Below ltInt x y D) (hP : PermIn x y D F) : Sort.Below ltInt x m F := (hB.perm hy hP).mono (by omega)
theorem below_right (hhi : ∀ t, m < t → t < y → ltInt F[t]! F[m]! = false) : Sort.Below ltInt (m + 1) y F := Or.inr fun t a1 a2 => by rw [Nat.add_sub_cancel]; exact hhi t (by omega) a2
end

end Go.Proofs.YtkaaldhejpaiiaaGreatDoor

/- The library's sort at runes: pdqsortOrdered. -/
namespace Go.Proofs.YtkaaldhejpaiiaaGreatDoor
open Go.RowKit Go.Sort

set_option maxHeartbeats 32000000 in
set_option maxRecDepth 100000 in
theorem pdq32 : ∀ (N blk off n cap a b lim : Nat) (d : Array Int) (w : World), b - a < N → d.size = n → Holds (Value.int .i32) w blk off d → blk < w.heap.size → a ≤ b → b ≤ n → n ≤ 1000000 → lim ≤ 1000 → Sort.Below ltInt a b d →
    Calls Tryz.prog 191 #[.slice (some ⟨blk, off, none⟩) n cap, .int .i64 a, .int .i64 b, .int .i64 lim] w fun e w' =>
      e = .returned (.tuple #[]) ∧ ∃ d', S32 w blk off d' w' ∧ PermIn a b d d' ∧ SortedIn ltInt a b d' := by
  intro N
  induction N with
  | zero => intro blk off n cap a b lim d w hN; omega
  | succ N ih =>
    intro blk off n cap a b lim d w hN hn hH hblk hab hb hsz hlim hB
    have HS : Hid (S32 w blk off d w) := S32.refl hH hblk
    have HB0 : Hid (Sort.Below ltInt a b d) := hB
    have HIH : Hid (∀ (a2 b2 lim2 : Nat) (d2 : Array Int) (w2 : World), b2 - a2 < N → d2.size = n → Holds (Value.int .i32) w2 blk off d2 → blk < w2.heap.size → a2 ≤ b2 → b2 ≤ n → lim2 ≤ 1000 → Sort.Below ltInt a2 b2 d2 →
        Calls Tryz.prog 191 #[.slice (some ⟨blk, off, none⟩) n cap, .int .i64 a2, .int .i64 b2, .int .i64 lim2] w2 fun e w' => e = .returned (.tuple #[]) ∧ ∃ d', S32 w2 blk off d' w' ∧ PermIn a2 b2 d2 d' ∧ SortedIn ltInt a2 b2 d') :=
      fun a2 b2 lim2 d2 w2 h1 h2 h3 h4 h5 h6 h7 h8 => ih blk off n cap a2 b2 lim2 d2 w2 h1 h2 h3 h4 h5 h6 hsz h7 h8
    clear ih hH hB
    go_enter Tryz.func191, Tryz.ntmps191
    go_wp2
    go_loopg [1, 2, 3, 8, 9] (b - a) (fun g s1 s2 s3 s8 s9 wr => ∃ (x y l : Nat) (wb wp : Bool) (D : Array Int), s1 = .int .i64 x ∧ s2 = .int .i64 y ∧ s3 = .int .i64 l ∧ s8 = .bool wb ∧ s9 = .bool wp ∧ y - x ≤ g ∧ y - x ≤ b - a ∧ x ≤ y ∧ y ≤ n ∧ l ≤ 1000 ∧ D.size = n ∧ S32 w blk off D wr ∧ Sort.Below ltInt x y D ∧ Todo a b d x y D)
    case atStart => exact ⟨a, b, lim, true, true, d, rfl, rfl, rfl, rfl, rfl, Nat.le_refl _, Nat.le_refl _, hab, hb, hlim, hn, HS.out, HB0.out, Todo.self _ _ _⟩
    case round =>
      obtain ⟨x, y, l, wb, wp, D, rfl, rfl, rfl, rfl, rfl, hg, hyx, hxy, hyn, hl, hD, hSD, hB, hT⟩ := hrel
      have HSD : Hid (S32 w blk off D wr) := hSD
      have HB : Hid (Sort.Below ltInt x y D) := hB
      have HT : Hid (Todo a b d x y D) := hT
      clear hSD hB hT HS HB0
      by_cases h12 : (y : Int) - (x : Int) ≤ 12
      · have hc := ins32 blk off n cap x y D wr hD HSD.out.holds HSD.out.lt hxy hyn hsz
        go_wp2_with (go_at_call 200; refine hc.mono ?_; rintro e w' ⟨rfl, hw'⟩)
        (try simp only [Exit.inBlock, Exit.then]); refine bodyPost_ret (results_none rfl _ _ _) rfl ?_
        have hi := insertionSort_holds swo_ltInt D x y hxy (by omega)
        exact ⟨rfl, _, HSD.out.trans hw' hi.1.1, HT.out _ hi.1 hi.2⟩
      by_cases hl0 : l = 0
      · subst hl0
        have hc := heap32 blk off n cap x y D wr hD HSD.out.holds HSD.out.lt hxy hyn hsz
        go_wp2_with (go_at_call 201; refine hc.mono ?_; rintro e w' ⟨rfl, hw'⟩)
        (try simp only [Exit.inBlock, Exit.then]); refine bodyPost_ret (results_none rfl _ _ _) rfl ?_
        have hi := heapSort_holds swo_ltInt D x y hxy (by omega)
        exact ⟨rfl, _, HSD.out.trans hw' hi.1.1, HT.out _ hi.1 hi.2⟩
      have hlne : ((l : Int) == 0) = false := by simp; omega
      have hlen : 12 < y - x := by omega
      go_upto_if 35 with fail
      go_cut [3] from 19 to 133 (fun s wc => ∃ (l2 : Nat) (D1 : Array Int), s = .int .i64 l2 ∧ l2 ≤ 1000 ∧ D1.size = n ∧ S32 w blk off D1 wc ∧ PermIn x y D D1)
      case first =>
        cases wb
        · have hc := brk32 blk off n cap x (y - x) D wr hD HSD.out.holds HSD.out.lt (by omega) hsz (by omega)
          rw [show x + (y - x) = y by omega] at hc
          go_wp2_with (go_at_call 202; refine hc.mono ?_; rintro e w' ⟨rfl, d', hw', hp'⟩)
          go_meet
          case rel => exact ⟨l - 1, d', by congr 1; omega, by omega, by rw [hp'.1]; exact hD, HSD.out.trans hw' hp'.1, hp'⟩
        · go_wp2
          go_meet
          case rel => exact ⟨l, D, rfl, hl, hD, HSD.out, permIn_refl _ _ _⟩
      case rest =>
        obtain ⟨l2, D1, rfl, hl2, hD1, hS1, hP1⟩ := hcut
        have HT1 : Hid (Todo a b d x y D1) := HT.out.perm hP1
        have HB1 : Hid (Sort.Below ltInt x y D1) := HB.out.perm (by omega) hP1
        have HS1 : Hid (S32 w blk off D1 wc) := hS1
        clear hS1 hP1 HSD HT HB
        have hpv := pivot32 blk off n cap x (y - x) D1 wc hD1 HS1.out.holds HS1.out.lt (by omega) (by omega) hsz
        rw [show x + (y - x) = y by omega] at hpv
        go_upto_if 50 with (go_at_call 203; refine hpv.mono ?_; rintro e w2 ⟨pv0, h0, rfl, hpa, hpb, hh0, hS2⟩)
        have HS2 : Hid (S32 w blk off D1 w2) := HS1.out.trans hS2 rfl
        clear hS2 hpv HS1
        go_cut [11, 12] from 19 to 133 (fun s t wc => ∃ (pv h : Nat) (D2 : Array Int), s = .int .i64 pv ∧ t = .int .i64 h ∧ x ≤ pv ∧ pv < y ∧ h ≤ 2 ∧ D2.size = n ∧ S32 w blk off D2 wc ∧ PermIn x y D1 D2)
        case first =>
          by_cases hh2 : h0 = 2
          · subst hh2
            have hc := rev32 blk off n cap x y D1 w2 hD1 HS2.out.holds HS2.out.lt (by omega) hyn hsz
            go_wp2_with (go_at_call 204; refine hc.mono ?_; rintro e w' ⟨rfl, d', hw', hp'⟩)
            go_meet
            case rel => exact ⟨(y - 1) - (pv0 - x), 1, d', by congr 1; omega, rfl, by omega, by omega, by omega, by rw [hp'.1]; exact hD1, HS2.out.trans hw' hp'.1, hp'⟩
          · have hne2 : ((h0 : Int) == 2) = false := by simp; omega
            go_wp2
            go_meet
            case rel => exact ⟨pv0, h0, D1, rfl, rfl, hpa, hpb, hh0, hD1, HS2.out, permIn_refl _ _ _⟩
        case rest =>
          obtain ⟨pv, h, D2, rfl, rfl, hpa2, hpb2, hh, hD2, hS3, hP2⟩ := hcut
          have HT2 : Hid (Todo a b d x y D2) := HT1.out.perm hP2
          have HB2 : Hid (Sort.Below ltInt x y D2) := HB1.out.perm (by omega) hP2
          have HS3 : Hid (S32 w blk off D2 wc) := hS3
          clear hS3 hP2 HS2 HT1 HB1
          go_upto_region 15 with fail
          go_cut [68] from 19 to 133 (fun s wx => wx = wc ∧ ∃ B : Bool, s = .bool B)
          case first =>
            by_cases hh1 : h = 1
            · subst hh1
              cases wb <;> cases wp <;> (go_wp2; go_meet; case rel => exact ⟨rfl, _, rfl⟩)
            · have hne1 : ((h : Int) == 1) = false := by simp; omega
              cases wb <;> cases wp <;> (go_wp2; go_meet; case rel => exact ⟨rfl, _, rfl⟩)
          case rest =>
            obtain ⟨rfl, B, rfl⟩ := hcut
            go_upto_if 68 with fail
            go_cut [] from 19 to 133 (fun wx => ∃ D3 : Array Int, D3.size = n ∧ S32 w blk off D3 wx ∧ PermIn x y D2 D3)
            case first =>
              cases B
              · go_wp2
                go_meet
                case rel => exact ⟨D2, hD2, HS3.out, permIn_refl _ _ _⟩
              · have hc := pins32 blk off n cap x y D2 wc hD2 HS3.out.holds HS3.out.lt (by omega) hyn hsz HB2.out
                go_wp2_with (go_at_call 205; refine hc.mono ?_; rintro e w' ⟨ok, d', rfl, hw', hp', hs'⟩; cases ok)
                · go_meet
                  case rel => exact ⟨d', by rw [hp'.1]; exact hD2, HS3.out.trans hw' hp'.1, hp'⟩
                · (try simp only [Exit.inBlock, Exit.then]); refine bodyPost_ret (results_none rfl _ _ _) rfl ?_
                  exact ⟨rfl, d', HS3.out.trans hw' hp'.1, HT2.out _ hp' (hs' (by trivial))⟩
            case rest =>
              obtain ⟨D3, hD3, hS4, hP3⟩ := hcut
              have HT3 : Hid (Todo a b d x y D3) := HT2.out.perm hP3
              have HB3 : Hid (Sort.Below ltInt x y D3) := HB2.out.perm (by omega) hP3
              obtain ⟨G, hG⟩ := fam D3
              obtain ⟨hc, hz⟩ := hS4.cells hD3 G hG
              have HS4 : Hid (S32 w blk off D3 wc) := hS4
              have HG : Hid (∀ t, G t = D3[t]!) := hG
              clear hS4 hP3 HS3 HT2 HB2 hG
              go_upto_region 17 with fail
              go_cut [87] from 19 to 133 (fun s wx => s = .bool (decide (0 < x) && !ltInt (G (x - 1)) (G pv)) ∧ S32 w blk off D3 wx)
              case first =>
                by_cases hx0 : 0 < x
                · have hx0' : (0 : Int) < (x : Int) := by omega
                  go_quiet (first | (go_at_call 206; refine Calls.quiet_of_same (less32 _ _ _)))
                  go_wp2
                  go_meet
                  case rel => exact ⟨by simp [hx0], HS4.out.ahead _⟩
                · have hx0' : decide ((0 : Int) < (x : Int)) = false := decide_eq_false (by omega)
                  go_quiet (first | (go_at_call 206; refine Calls.quiet_of_same (less32 _ _ _)))
                  go_wp2
                  go_meet
                  case rel => exact ⟨by simp [hx0], HS4.out.ahead _⟩
              case rest =>
                obtain ⟨rfl, hS5⟩ := hcut
                have HS5 : Hid (S32 w blk off D3 wc) := hS5
                clear hS5 hc hz HS4
                generalize hBe : (decide (0 < x) && !ltInt (G (x - 1)) (G pv)) = B2
                have HBe : Hid ((decide (0 < x) && !ltInt (G (x - 1)) (G pv)) = B2) := hBe
                clear hBe
                cases B2
                · have hc := part32 blk off n cap x y pv D3 wc hD3 HS5.out.holds HS5.out.lt hpa2 hpb2 hyn hsz
                  go_upto_if 113 with (go_at_call 208; refine hc.mono ?_; rintro e w' ⟨m, ok, d', rfl, hw', h1, h2, hp', hlo, hhi⟩)
                  have HP4 : Hid (PermIn x y D3 d') := hp'
                  have HLo : Hid (∀ t, x ≤ t → t < m → ltInt d'[t]! d'[m]! = true) := hlo
                  have HHi : Hid (∀ t, m < t → t < y → ltInt d'[t]! d'[m]! = false) := hhi
                  have HS6 : Hid (S32 w blk off d' w') := HS5.out.trans hw' hp'.1
                  have hd' : d'.size = n := by rw [hp'.1]; exact hD3
                  clear hw' hp' hlo hhi hc HS5
                  by_cases hlr : (m : Int) - (x : Int) < (y : Int) - (m : Int)
                  · have hrec := HIH.out x m l2 d' w' (by omega) hd' HS6.out.holds HS6.out.lt h1 (by omega) hl2 (below_left (by omega) h2 HB3.out HP4.out)
                    go_wp2_with (go_at_call 191; refine hrec.mono ?_; rintro e w8 ⟨rfl, L, hw8, hpL, hsL⟩)
                    go_roundg (y - (m + 1))
                    case measure => omega
                    case rel =>
                      have hr := todo_left (by omega) h1 h2 HP4.out HLo.out HHi.out hpL hsL
                      exact ⟨m + 1, y, l2, _, _, L, by go_num, rfl, rfl, rfl, rfl, Nat.le_refl _, by omega, by omega, hyn, hl2, by rw [hpL.1]; exact hd', HS6.out.trans hw8 hpL.1, hr.1, HT3.out.trans hr.2⟩
                  · have hrec := HIH.out (m + 1) y l2 d' w' (by omega) hd' HS6.out.holds HS6.out.lt (by omega) hyn hl2 (below_right HHi.out)
                    have em : ((m + 1 : Nat) : Int) = (m : Int) + 1 := by omega
                    rw [em] at hrec
                    clear em
                    go_wp2_with (go_at_call 191; refine hrec.mono ?_; rintro e w8 ⟨rfl, L, hw8, hpL, hsL⟩)
                    go_roundg (m - x)
                    case measure => omega
                    case rel =>
                      have hr := todo_right (by omega) h1 h2 HB3.out HP4.out HLo.out HHi.out hpL hsL
                      exact ⟨x, m, l2, _, _, L, rfl, rfl, rfl, rfl, rfl, Nat.le_refl _, by omega, h1, by omega, hl2, by rw [hpL.1]; exact hd', HS6.out.trans hw8 hpL.1, hr.1, HT3.out.trans hr.2⟩
                · have hc := parteq32 blk off n cap x y pv D3 wc hD3 HS5.out.holds HS5.out.lt hpa2 hpb2 hyn hsz
                  go_wp2_with (go_at_call 207; refine hc.mono ?_; rintro e w' ⟨i, d', rfl, hw', hi1, hi2, hp', hlo, hhi⟩)
                  go_roundg (y - i)
                  case measure => omega
                  case rel =>
                    have hq := HBe.out
                    rw [HG.out, HG.out] at hq
                    simp only [Bool.and_eq_true, decide_eq_true_eq, Bool.not_eq_true'] at hq
                    have hr := todo_eq hq.1 (by omega) HB3.out hq.2 hi1 hi2 hp' hlo hhi
                    exact ⟨i, y, l2, wb, wp, d', rfl, rfl, rfl, rfl, rfl, Nat.le_refl _, by omega, hi2, hyn, hl2, by rw [hp'.1]; exact hD3, HS5.out.trans hw' hp'.1, hr.1, HT3.out.trans hr.2⟩

end Go.Proofs.YtkaaldhejpaiiaaGreatDoor

/- Plain mathematics of the ASCII forms: numbers, states. Nothing of the dump. -/
namespace Go.Proofs.YtkaaldhejpaiiaaGreatDoor.Pm

def bnd (k bias : Nat) : Nat := min (max (36 * k - bias) 1) 26
theorem bnd_pos (k bias : Nat) : 1 ≤ bnd k bias := by unfold bnd; omega
theorem bnd_le (k bias : Nat) : bnd k bias ≤ 26 := by unfold bnd; omega

/-- A digit's value. -/
def dig (c : Nat) : Option Nat := if 97 ≤ c ∧ c ≤ 122 then some (c - 97) else if 48 ≤ c ∧ c ≤ 57 then some (c - 48 + 26) else none
theorem dig_le {c d : Nat} (h : dig c = some d) : d ≤ 35 := by
  unfold dig at h
  split at h
  · simp at h; omega
  · split at h
    · simp at h; omega
    · simp at h

def shr (d b : Nat) : Nat × Nat := if h : 455 < d then shr (d / 35) (b + 36) else (d, b)
termination_by d
decreasing_by omega
theorem shr_big {d b : Nat} (h : 455 < d) : shr d b = shr (d / 35) (b + 36) := by rw [shr]; simp [h]
theorem shr_small {d b : Nat} (h : ¬ 455 < d) : shr d b = (d, b) := by rw [shr]; simp [h]
theorem shr_le : ∀ (d b : Nat), (shr d b).1 ≤ 455 ∧ (shr d b).2 ≤ b + d := by
  intro d
  induction d using Nat.strongRecOn with
  | _ d ih =>
    intro b
    by_cases h : 455 < d
    · rw [shr_big h]
      have := ih (d / 35) (by omega) (b + 36)
      omega
    · rw [shr_small h]; simp; omega
def damp (q len : Nat) (first : Bool) : Nat := (if first then q / 700 else q / 2) + (if first then q / 700 else q / 2) / len
def biasN (q len : Nat) (first : Bool) : Nat := (shr (damp q len first) 0).2 + 36 * (shr (damp q len first) 0).1 / ((shr (damp q len first) 0).1 + 38)
theorem damp_le (q len : Nat) (first : Bool) : damp q len first ≤ q := by
  unfold damp
  cases first
  · have := Nat.div_le_self (q / 2) len; simp; omega
  · have := Nat.div_le_self (q / 700) len; simp; omega
theorem biasN_le (q len : Nat) (first : Bool) : biasN q len first ≤ q + 36 := by
  unfold biasN
  have h := shr_le (damp q len first) 0
  have h2 := damp_le q len first
  have h3 : 36 * (shr (damp q len first) 0).1 / ((shr (damp q len first) 0).1 + 38) ≤ 36 := by
    apply Nat.div_le_of_le_mul
    rw [Nat.mul_comm]
    exact Nat.mul_le_mul (by omega) (Nat.le_refl _)
  omega

/-- Reading a number: k-th digit, what is summed up, the unit. -/
def rd (bias : Nat) : Nat → Nat → Nat → List UInt8 → Option (Nat × List UInt8)
  | _, _, _, [] => none
  | k, s, u, c :: r =>
    match dig c.toNat with
    | none => none
    | some d => if d < bnd k bias then some (s + d * u, r) else rd bias (k + 1) (s + d * u) (u * (36 - bnd k bias)) r
theorem rd_ge (bias : Nat) : ∀ (l : List UInt8) (k s u q : Nat) (r : List UInt8), rd bias k s u l = some (q, r) → s ≤ q
  | [], _, _, _, _, _, h => by simp [rd] at h
  | c :: l, k, s, u, q, r, h => by
    unfold rd at h
    split at h
    · simp at h
    · split at h
      · simp at h; omega
      · have := rd_ge bias l _ _ _ _ _ h
        have h2 := Nat.zero_le (‹Nat› * u)
        omega
theorem rd_len (bias : Nat) : ∀ (l : List UInt8) (k s u q : Nat) (r : List UInt8), rd bias k s u l = some (q, r) → r.length < l.length
  | [], _, _, _, _, _, h => by simp [rd] at h
  | c :: l, k, s, u, q, r, h => by
    unfold rd at h
    split at h
    · simp at h
    · split at h
      · simp at h; simp [← h.2]
      · have := rd_len bias l _ _ _ _ _ h
        simp; omega
theorem rd_suffix (bias : Nat) : ∀ (l : List UInt8) (k s u q : Nat) (r : List UInt8), rd bias k s u l = some (q, r) → r = l.drop (l.length - r.length)
  | [], _, _, _, _, _, h => by simp [rd] at h
  | c :: l, k, s, u, q, r, h => by
    unfold rd at h
    split at h
    · simp at h
    · split at h
      · simp at h; rw [← h.2]; simp
      · have h2 := rd_suffix bias l _ _ _ _ _ h
        have h3 := rd_len bias l _ _ _ _ _ h
        rw [show (c :: l).length - r.length = (l.length - r.length) + 1 by simp; omega, List.drop_succ_cons]
        exact h2

def sign (n : Nat) : Bool := decide (n ≤ 1114111) && (decide (n < 55296) || decide (57343 < n))

/-- Where both ways are. -/
structure St where
  n : Nat
  i : Nat
  L : List Nat
  bias : Nat
  later : Bool

def St.step (x : St) (q : Nat) : St := { x with n := x.n + (x.i + q) / (x.L.length + 1), i := (x.i + q) % (x.L.length + 1) }
def St.insert (x : St) (q : Nat) : St := { n := x.n, i := x.i + 1, L := x.L.take x.i ++ x.n :: x.L.drop x.i, bias := biasN q (x.L.length + 1) (!x.later), later := true }
def St.first (l : List Nat) : St := { n := 128, i := 0, L := l, bias := 72, later := false }
def St.most (x : St) : Nat := (1114111 - x.n) * (x.L.length + 1) + x.L.length - x.i

/-- The form's numbers, read. -/
def dec : Nat → St → List UInt8 → Option (List Nat)
  | 0, _, _ => none
  | f + 1, x, l =>
    if l = [] then some x.L else
    match rd x.bias 1 0 1 l with
    | none => none
    | some (q, r) => if sign (x.step q).n then dec f ((x.step q).insert q) r else none

/-- What holds of a state on its way. -/
structure St.ok (x : St) : Prop where
  n1 : 128 ≤ x.n
  n2 : x.n ≤ 1114111
  i : x.i ≤ x.L.length

theorem step_le {x : St} (h : x.ok) (q : Nat) : (x.step q).n ≤ 1114111 ↔ q ≤ x.most := by
  have h1 := h.n1; have h2 := h.n2; have h3 := h.i
  unfold St.step St.most
  simp only
  have key : (x.i + q) / (x.L.length + 1) ≤ 1114111 - x.n ↔ x.i + q < (1114111 - x.n + 1) * (x.L.length + 1) := by
    rw [← Nat.lt_succ_iff, Nat.div_lt_iff_lt_mul (by omega)]
  rw [show (x.n + (x.i + q) / (x.L.length + 1) ≤ 1114111) ↔ (x.i + q) / (x.L.length + 1) ≤ 1114111 - x.n by omega, key, Nat.add_mul, Nat.one_mul]
  generalize (1114111 - x.n) * (x.L.length + 1) = M
  omega
theorem step_i {x : St} (q : Nat) : (x.step q).i ≤ (x.step q).L.length := by
  unfold St.step
  simp only
  have := Nat.mod_lt (x.i + q) (show 0 < x.L.length + 1 by omega)
  omega
theorem insert_len (x : St) (q : Nat) (h : x.i ≤ x.L.length) : (x.insert q).L.length = x.L.length + 1 := by
  unfold St.insert
  simp
  omega
theorem ok_next {x : St} (h : x.ok) (q : Nat) (hs : (x.step q).n ≤ 1114111) : ((x.step q).insert q).ok := by
  have h1 := h.n1
  have hi := step_i (x := x) q
  refine ⟨?_, hs, ?_⟩
  · exact Nat.le_trans h1 (Nat.le_add_right _ _)
  · rw [insert_len _ _ hi]; show (x.step q).i + 1 ≤ _; omega
theorem most_le {x : St} (h : x.ok) (hl : x.L.length ≤ 1000) : x.most ≤ 1115226111 := by
  have h1 := h.n1
  unfold St.most
  have : (1114111 - x.n) * (x.L.length + 1) ≤ 1113983 * 1001 := Nat.mul_le_mul (by omega) (by omega)
  omega
end Go.Proofs.YtkaaldhejpaiiaaGreatDoor.Pm

/- The walks of puny's small functions. -/
namespace Go.Proofs.YtkaaldhejpaiiaaGreatDoor
open Go.RowKit

theorem ret_int {k : IntKind} {a b : Int} (h : a = b) : Ending.returned (.int k a) = .returned (.int k b) := by rw [h]
theorem ret_bool {a b : Bool} (h : a = b) : Ending.returned (.bool a) = .returned (.bool b) := by rw [h]
theorem ret_ib {k : IntKind} {a b : Int} {x y : Bool} (h : a = b) (h2 : x = y) : Ending.returned (.tuple #[.int k a, .bool x]) = .returned (.tuple #[.int k b, .bool y]) := by rw [h, h2]

set_option maxHeartbeats 400000 in
theorem bound_any (k bias : Nat) (w : World) (hk : k ≤ 2000) (hb : bias ≤ 1099511627776) :
    Calls Tryz.prog 196 #[.int .i64 k, .int .i64 bias] w fun e w' => e = .returned (.int .i64 (Pm.bnd k bias : Nat)) ∧ w' = w := by
  go_enter Tryz.func196, Tryz.ntmps196
  go_wp2
  all_goals
    go_ret
    exact ⟨ret_int (by simp [Pm.bnd]; omega), rfl⟩

theorem dig_a {c : Nat} (h1 : (97 : Int) ≤ c) (h2 : (c : Int) ≤ 122) : Pm.dig c = some (c - 97) := by unfold Pm.dig; rw [if_pos (by omega)]
theorem dig_0 {c : Nat} (h1 : (48 : Int) ≤ c) (h2 : (c : Int) ≤ 57) : Pm.dig c = some (c - 48 + 26) := by unfold Pm.dig; rw [if_neg (by omega), if_pos (by omega)]
theorem dig_n {c : Nat} (h1 : ¬ (97 ≤ c ∧ c ≤ 122)) (h2 : ¬ (48 ≤ c ∧ c ≤ 57)) : Pm.dig c = none := by unfold Pm.dig; rw [if_neg h1, if_neg h2]
set_option maxHeartbeats 400000 in
theorem digitOf_any (c : UInt8) (w : World) :
    Calls Tryz.prog 195 #[.int .u8 c.toNat] w fun e w' => e = .returned (.tuple #[.int .i64 ((Pm.dig c.toNat).getD 0 : Nat), .bool (Pm.dig c.toNat).isSome]) ∧ w' = w := by
  have hc : c.toNat < 256 := c.toNat_lt
  go_enter Tryz.func195, Tryz.ntmps195
  go_wp2
  · go_ret2
    exact ⟨ret_ib (by rw [dig_a ‹_› ‹_›]; simp; omega) (by rw [dig_a ‹_› ‹_›]; rfl), rfl⟩
  · go_ret2
    exact ⟨ret_ib (by rw [dig_n (by omega) (by omega)]; rfl) (by rw [dig_n (by omega) (by omega)]; rfl), rfl⟩
  · go_ret2
    exact ⟨ret_ib (by rw [dig_0 ‹_› ‹_›]; simp; omega) (by rw [dig_0 ‹_› ‹_›]; rfl), rfl⟩
  · go_ret2
    exact ⟨ret_ib (by rw [dig_n (by omega) (by omega)]; rfl) (by rw [dig_n (by omega) (by omega)]; rfl), rfl⟩
  · go_ret2
    exact ⟨ret_ib (by rw [dig_n (by omega) (by omega)]; rfl) (by rw [dig_n (by omega) (by omega)]; rfl), rfl⟩

theorem sign_t {n : Nat} (h : n ≤ 1114111) (h2 : n < 55296 ∨ 57343 < n) : Pm.sign n = true := by
  unfold Pm.sign; simp only [Bool.and_eq_true, Bool.or_eq_true, decide_eq_true_eq]; omega
theorem sign_f {n : Nat} (h : ¬ (n ≤ 1114111 ∧ (n < 55296 ∨ 57343 < n))) : Pm.sign n = false := by
  rw [Bool.eq_false_iff]
  intro hs
  unfold Pm.sign at hs
  simp only [Bool.and_eq_true, Bool.or_eq_true, decide_eq_true_eq] at hs
  exact h hs
set_option maxRecDepth 100000 in
set_option maxHeartbeats 400000 in
theorem isSign_any (n : Nat) (w : World) :
    Calls Tryz.prog 183 #[.int .i64 n] w fun e w' => e = .returned (.bool (Pm.sign n)) ∧ w' = w := by
  have h0 : ¬ (n : Int) < 0 := by omega
  by_cases h1 : (1114111 : Int) < n
  · have hs : Pm.sign n = false := sign_f (by omega)
    rw [hs]
    go_enter Tryz.func183, Tryz.ntmps183
    go_wp2
    go_ret
    exact ⟨rfl, rfl⟩
  · by_cases h2 : (n : Int) < 55296
    · rw [sign_t (by omega) (by omega)]
      go_enter Tryz.func183, Tryz.ntmps183
      go_wp2
      go_ret
      exact ⟨rfl, rfl⟩
    · by_cases h3 : (57343 : Int) < n
      · rw [sign_t (by omega) (by omega)]
        go_enter Tryz.func183, Tryz.ntmps183
        go_wp2
        go_ret
        exact ⟨rfl, rfl⟩
      · rw [sign_f (by omega)]
        go_enter Tryz.func183, Tryz.ntmps183
        go_wp2
        go_ret
        exact ⟨rfl, rfl⟩
end Go.Proofs.YtkaaldhejpaiiaaGreatDoor

/- The walks of puny's loops over strings and numbers. -/
namespace Go.Proofs.YtkaaldhejpaiiaaGreatDoor
open Go.RowKit

theorem cast_div (a b : Nat) : ((a / b : Nat) : Int) = (a : Int) / (b : Int) := by simp
set_option maxHeartbeats 1000000 in
theorem biasBehind_any (q len : Nat) (first : Bool) (w : World) (hq : q ≤ 1099511627776) (hl : 1 ≤ len) (hl2 : len ≤ 1099511627776) :
    Calls Tryz.prog 198 #[.int .i64 q, .int .i64 len, .bool first] w fun e w' => e = .returned (.int .i64 (Pm.biasN q len first : Nat)) ∧ w' = w := by
  have hnz : ¬ (len : Int) = 0 := by omega
  have hd := Pm.damp_le q len first
  have HD2 : Hid ((Pm.damp q len false : Nat) = (q : Int) / 2 + (q : Int) / 2 / (len : Int)) := by unfold Hid Pm.damp; simp
  have HD7 : Hid ((Pm.damp q len true : Nat) = (q : Int) / 700 + (q : Int) / 700 / (len : Int)) := by unfold Hid Pm.damp; simp
  have b2 : (q : Int) / 2 / (len : Int) ≤ 1099511627776 := by
    have := Nat.div_le_self (q / 2) len
    have e : (((q / 2) / len : Nat) : Int) = (q : Int) / 2 / (len : Int) := by simp
    omega
  have b2' : 0 ≤ (q : Int) / 2 / (len : Int) := Int.ediv_nonneg (by omega) (by omega)
  have b7 : (q : Int) / 700 / (len : Int) ≤ 1099511627776 := by
    have := Nat.div_le_self (q / 700) len
    have e : (((q / 700) / len : Nat) : Int) = (q : Int) / 700 / (len : Int) := by simp
    omega
  have b7' : 0 ≤ (q : Int) / 700 / (len : Int) := Int.ediv_nonneg (by omega) (by omega)
  cases first
  · go_enter Tryz.func198, Tryz.ntmps198
    go_wp2
    go_loop [7, 8] (fun d b => ∃ D B : Nat, d = .int .i64 D ∧ b = .int .i64 B ∧ D ≤ 1099511627776 ∧ B + D ≤ 1099511627776 ∧ Pm.shr (Pm.damp q len false) 0 = Pm.shr D B) (fun d _ => (intOf d).toNat)
    case atStart => exact ⟨Pm.damp q len false, 0, by rw [HD2.out], rfl, by omega, by omega, rfl⟩
    case round =>
      obtain ⟨D, B, rfl, rfl, hD, hB, hs⟩ := hrel
      have HS : Hid (Pm.shr (Pm.damp q len false) 0 = Pm.shr D B) := hs
      clear hs b2 b2' b7 b7' hd
      by_cases h : 455 < D
      · go_wp2
        go_round
        case rel => exact ⟨D / 35, B + 36, by go_num, by go_num, by omega, by omega, by rw [HS.out, Pm.shr_big h]⟩
        case measure => simp [intOf]; omega
      · have hz : ¬ (D : Int) + 38 = 0 := by omega
        have hq1 : 0 ≤ 36 * (D : Int) / ((D : Int) + 38) := Int.ediv_nonneg (by omega) (by omega)
        have hq2 : 36 * (D : Int) / ((D : Int) + 38) ≤ 36 := Int.ediv_le_of_le_mul (by omega) (by omega)
        go_wp2
        go_ret
        refine ⟨ret_int ?_, rfl⟩
        unfold Pm.biasN
        rw [HS.out, Pm.shr_small h]
        simp
  · go_enter Tryz.func198, Tryz.ntmps198
    go_wp2
    go_loop [7, 8] (fun d b => ∃ D B : Nat, d = .int .i64 D ∧ b = .int .i64 B ∧ D ≤ 1099511627776 ∧ B + D ≤ 1099511627776 ∧ Pm.shr (Pm.damp q len true) 0 = Pm.shr D B) (fun d _ => (intOf d).toNat)
    case atStart => exact ⟨Pm.damp q len true, 0, by rw [HD7.out], rfl, by omega, by omega, rfl⟩
    case round =>
      obtain ⟨D, B, rfl, rfl, hD, hB, hs⟩ := hrel
      have HS : Hid (Pm.shr (Pm.damp q len true) 0 = Pm.shr D B) := hs
      clear hs b2 b2' b7 b7' hd
      by_cases h : 455 < D
      · go_wp2
        go_round
        case rel => exact ⟨D / 35, B + 36, by go_num, by go_num, by omega, by omega, by rw [HS.out, Pm.shr_big h]⟩
        case measure => simp [intOf]; omega
      · have hz : ¬ (D : Int) + 38 = 0 := by omega
        have hq1 : 0 ≤ 36 * (D : Int) / ((D : Int) + 38) := Int.ediv_nonneg (by omega) (by omega)
        have hq2 : 36 * (D : Int) / ((D : Int) + 38) ≤ 36 := Int.ediv_le_of_le_mul (by omega) (by omega)
        go_wp2
        go_ret
        refine ⟨ret_int ?_, rfl⟩
        unfold Pm.biasN
        rw [HS.out, Pm.shr_small h]
        simp

def ascB (l : List UInt8) : Bool := l.all fun c => decide (c.toNat < 128)
theorem take_snoc (s : ByteArray) (k : Nat) (h : k < s.size) : s.data.toList.take (k + 1) = s.data.toList.take k ++ [s[k]] := by
  rw [List.take_succ_eq_append_getElem (by simpa using h)]; rfl
theorem ascB_snoc (l : List UInt8) (c : UInt8) : ascB (l ++ [c]) = (ascB l && decide (c.toNat < 128)) := by simp [ascB]
theorem ascB_no (s : ByteArray) (k : Nat) (h : k < s.size) (hc : ¬ (s[k].toNat : Int) < 128) : ascB s.data.toList = false := by
  rw [Bool.eq_false_iff]
  intro ht
  have := List.all_eq_true.1 ht s[k] (by rw [ByteArray.getElem_eq_getElem_data]; exact Array.getElem_mem_toList (xs := s.data) h)
  simp at this
  omega
set_option maxRecDepth 100000 in
set_option maxHeartbeats 400000 in
theorem isASCII_any (s : ByteArray) (w : World) (hs : s.size ≤ 1000) :
    Calls Tryz.prog 53 #[.string s] w fun e w' => e = .returned (.bool (ascB s.data.toList)) ∧ w' = w := by
  go_enter Tryz.func53, Tryz.ntmps53
  go_wp2
  go_loop [6] (fun i => ∃ k : Nat, k ≤ s.size ∧ i = .int .i64 k ∧ ascB (s.data.toList.take k) = true) (fun i => s.size - (intOf i).toNat)
  case atStart => exact ⟨0, Nat.zero_le _, rfl, rfl⟩
  case round =>
    obtain ⟨k, hk, rfl, ha⟩ := hrel
    have HA : Hid (ascB (s.data.toList.take k) = true) := ha
    clear ha
    by_cases hlt : k < s.size
    · go_wp2
      · go_ret
        exact ⟨ret_bool (by rw [ascB_no s k hlt (by omega)]), rfl⟩
      · go_round
        case rel => exact ⟨k + 1, by omega, by go_num, by rw [take_snoc s k hlt, ascB_snoc, HA.out]; simp; omega⟩
        case measure => simp [intOf]; omega
    · go_wp2
      go_ret
      have e : s.data.toList.take k = s.data.toList := List.take_of_length_le (by simp; omega)
      exact ⟨ret_bool (by have := HA.out; rw [e] at this; rw [this]), rfl⟩

/-- Up to and with the last hyphen of the first k bytes. -/
def lastP (s : ByteArray) : Nat → Nat
  | 0 => 0
  | k + 1 => if (s.get! k).toNat = 45 then k + 1 else lastP s k
theorem lastP_le (s : ByteArray) : ∀ k, lastP s k ≤ k
  | 0 => Nat.le_refl _
  | k + 1 => by unfold lastP; split; omega; have := lastP_le s k; omega
theorem get!_at (s : ByteArray) (k : Nat) (h : k < s.size) : s.get! k = s[k] := by
  rw [ByteArray.getElem_eq_getElem_data]
  simp [ByteArray.get!, getElem!_pos s.data k h]
set_option maxHeartbeats 400000 in
theorem lastByte_any (s : ByteArray) (w : World) (hs : s.size ≤ 1000) :
    Calls Tryz.prog 180 #[.string s, .int .u8 45] w fun e w' => e = .returned (.int .i64 ((lastP s s.size : Nat) - 1 : Int)) ∧ w' = w := by
  go_enter Tryz.func180, Tryz.ntmps180
  go_wp2
  go_loop [5] (fun i => ∃ k : Nat, k ≤ s.size ∧ i = .int .i64 ((k : Int) - 1) ∧ lastP s s.size = lastP s k) (fun i => (intOf i + 1).toNat)
  case atStart => exact ⟨s.size, Nat.le_refl _, rfl, rfl⟩
  case round =>
    obtain ⟨k, hk, rfl, ha⟩ := hrel
    have HA : Hid (lastP s s.size = lastP s k) := ha
    clear ha
    cases k with
    | zero =>
      go_wp2
      go_ret
      exact ⟨ret_int (by rw [HA.out]; rfl), rfl⟩
    | succ k =>
      have e1 : ((k + 1 : Nat) : Int) - 1 = (k : Int) := by omega
      rw [e1]
      have hlt : k < s.size := by omega
      by_cases hc : (s[k].toNat : Int) = 45
      · go_wp2
        go_ret
        exact ⟨ret_int (by rw [HA.out, lastP, if_pos (by rw [get!_at s k hlt]; omega)]; simp), rfl⟩
      · go_wp2
        go_round
        case rel => exact ⟨k, by omega, by go_num, by rw [HA.out, lastP, if_neg (by rw [get!_at s k hlt]; omega)]⟩
        case measure => simp [intOf]

set_option maxHeartbeats 400000 in
theorem lastIndexByte_any (s : ByteArray) (w : World) (hs : s.size ≤ 1000) :
    Calls Tryz.prog 160 #[.string s, .int .u8 45] w fun e w' => e = .returned (.int .i64 ((lastP s s.size : Nat) - 1 : Int)) ∧ w' = w := by
  go_enter Tryz.func160, Tryz.ntmps160
  go_wp2_with (go_at_call 180; refine (lastByte_any _ _ hs).mono ?_; rintro e w' ⟨rfl, rfl⟩)
  go_ret
  exact ⟨rfl, rfl⟩

def noBytes : ByteArray := { data := #[] }
/-- What split hands back. -/
def splitV (s : ByteArray) : Value := if lastP s s.size = 0 then .tuple #[.string noBytes, .string s, .bool true] else .tuple #[.string (s.extract 0 (lastP s s.size - 1)), .string (s.extract (lastP s s.size) s.size), .bool (decide (1 < lastP s s.size))]
set_option maxHeartbeats 400000 in
theorem split_any (s : ByteArray) (w : World) (hs : s.size ≤ 1000) :
    Calls Tryz.prog 129 #[.string s] w fun e w' => e = .returned (splitV s) ∧ ∃ n, w' = w.drewN n := by
  have hle := lastP_le s s.size
  obtain ⟨p, hp⟩ : ∃ p, lastP s s.size = p := ⟨_, rfl⟩
  by_cases h0 : p = 0
  · have hr : splitV s = .tuple #[.string noBytes, .string s, .bool true] := by rw [splitV, if_pos (by omega)]
    rw [hr]
    have hc := lastIndexByte_any s w hs
    rw [hp, h0] at hc
    clear hr
    go_enter Tryz.func129, Tryz.ntmps129
    go_wp2_with (go_at_call 160; refine hc.mono ?_; rintro e w' ⟨rfl, rfl⟩)
    go_ret3
    exact ⟨rfl, 0, rfl⟩
  · obtain ⟨m, rfl⟩ : ∃ m, p = m + 1 := ⟨p - 1, by omega⟩
    have hr : splitV s = .tuple #[.string (s.extract 0 m), .string (s.extract (m + 1) s.size), .bool (decide (0 < m))] := by
      rw [splitV, if_neg (by omega), hp]
      simp
    rw [hr]
    have hc := lastIndexByte_any s w hs
    rw [hp, show ((m + 1 : Nat) : Int) - 1 = (m : Int) by omega] at hc
    have hm : m < s.size := by omega
    clear hr hle
    go_enter Tryz.func129, Tryz.ntmps129
    go_wp2_with (go_at_call 160; refine hc.mono ?_; rintro e w' ⟨rfl, rfl⟩)
    go_quiet (fail)
    go_wp2
    go_ret3
    exact ⟨rfl, _, rfl⟩
end Go.Proofs.YtkaaldhejpaiiaaGreatDoor

