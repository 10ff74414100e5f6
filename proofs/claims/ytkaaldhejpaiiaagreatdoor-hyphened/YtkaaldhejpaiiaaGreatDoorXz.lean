/- Xl Xm, in one. -/
import Derived.Test.YtkaaldhejpaiiaaGreatDoorXe
import Derived.Sort.LotD2
import Derived.Sort.AssemblyPlain
import Derived.Test.YtkaaldhejpaiiaaGreatDoorXy
import Derived.Test.YtkaaldhejpaiiaaGreatDoorXv
import Derived.Test.YtkaaldhejpaiiaaGreatDoorXh
import Derived.Test.YtkaaldhejpaiiaaGreatDoorXk
/- The library's sort at runes: what a round of pdqsortOrdered leaves to be done. No walk in this text. -/
namespace Go.Proofs.YtkaaldhejpaiiaaGreatDoor
open Go.RowKit Go.Sort

/-- Whatever sorts [x, y) of D sorts [a, b) of d. -/
def Todo (a b : Nat) (d : Array Int) (x y : Nat) (D : Array Int) : Prop := ∀ R, PermIn x y D R → SortedIn ltInt x y R → PermIn a b d R ∧ SortedIn ltInt a b R
theorem Todo.self (a b : Nat) (d : Array Int) : Todo a b d a b d := fun _ h1 h2 => ⟨h1, h2⟩
theorem Todo.perm {a b x y : Nat} {d D F : Array Int} (h : Todo a b d x y D) (hP : PermIn x y D F) : Todo a b d x y F := fun R h1 h2 => h R (permIn_trans _ _ _ _ _ hP h1) h2
theorem Todo.trans {a b x y x' y' : Nat} {d D F : Array Int} (h : Todo a b d x y D) (h2 : Todo x y D x' y' F) : Todo a b d x' y' F := fun R h3 h4 => h R (h2 R h3 h4).1 (h2 R h3 h4).2

theorem todo_eq {x y pv i : Nat} {D F : Array Int} (h0 : 0 < x) (hy : y ≤ D.size) (hB : Sort.Below ltInt x y D) (hl : ltInt D[x - 1]! D[pv]! = false)
    (h1 : x < i) (h2 : i ≤ y) (hP : PermIn x y D F) (hlo : ∀ t, x ≤ t → t < i → ltInt D[pv]! F[t]! = false) (hhi : ∀ t, i ≤ t → t < y → ltInt D[pv]! F[t]! = true) :
    Sort.Below ltInt i y F ∧ Todo x y D i y F := by
  have hF : y ≤ F.size := by rw [hP.1]; exact hy
  have low : ∀ t, x ≤ t → t < y → ltInt F[t]! D[pv]! = false := by
    refine permIn_all D F x y (fun z => ltInt z D[pv]! = false) hy hP fun t ht1 ht2 => ?_
    rcases hB with e | e
    · omega
    · exact swo_ltInt.ntrans _ _ _ (e t ht1 ht2) hl
  constructor
  · refine Or.inr fun t ht1 ht2 => ?_
    have p1 := hhi t ht1 ht2
    have p2 := hlo (i - 1) (by omega) (by omega)
    simp only [ltInt, decide_eq_true_eq, decide_eq_false_iff_not] at p1 p2 ⊢
    omega
  · intro R hR hs
    have hsame : ∀ t, t < i → R[t]! = F[t]! := fun t ht => hR.2.1 t (Or.inl ht)
    refine ⟨permIn_trans _ _ _ x y hP (permIn_mono _ _ i y x y (by omega) (Nat.le_refl _) hF hR), ?_⟩
    refine sorted_glue_eq swo_ltInt D[pv]! hs (fun t a1 a2 => ?_) (fun t a1 a2 => ?_) (permIn_all F R i y (fun z => ltInt D[pv]! z = true) hF hR hhi)
    · rw [hsame t a2]; exact hlo t a1 a2
    · rw [hsame t a2]; exact low t a1 (by omega)

section
variable {x y m : Nat} {D F : Array Int}
theorem todo_left (hy : y ≤ D.size) (h1 : x ≤ m) (h2 : m < y) (hP : PermIn x y D F) (hlo : ∀ t, x ≤ t → t < m → ltInt F[t]! F[m]! = true) (hhi : ∀ t, m < t → t < y → ltInt F[t]! F[m]! = false)
    {L : Array Int} (hL : PermIn x m F L) (sL : SortedIn ltInt x m L) : Sort.Below ltInt (m + 1) y L ∧ Todo x y D (m + 1) y L := by
  have hF : y ≤ F.size := by rw [hP.1]; exact hy
  have hLs : y ≤ L.size := by rw [hL.1]; exact hF
  have eL : ∀ t, m ≤ t → L[t]! = F[t]! := fun t ht => hL.2.1 t (Or.inr ht)
  have lo2 := permIn_all F L x m (fun z => ltInt z F[m]! = true) (by omega) hL hlo
  constructor
  · refine Or.inr fun t a1 a2 => ?_
    rw [Nat.add_sub_cancel, eL t (by omega), eL m (Nat.le_refl _)]
    exact hhi t (by omega) a2
  · intro R hR sR
    have eR : ∀ t, t ≤ m → R[t]! = L[t]! := fun t ht => hR.2.1 t (Or.inl (by omega))
    have hi2 := permIn_all L R (m + 1) y (fun z => ltInt z F[m]! = false) hLs hR fun t a1 a2 => by rw [eL t (by omega)]; exact hhi t (by omega) a2
    refine ⟨permIn_trans _ _ _ x y hP (permIn_trans _ _ _ x y (permIn_mono _ _ x m x y (Nat.le_refl _) (by omega) hF hL) (permIn_mono _ _ (m + 1) y x y (by omega) (Nat.le_refl _) hLs hR)), ?_⟩
    refine sorted_glue swo_ltInt (sL.congr fun t _ a2 => eR t (by omega)) sR (fun t a1 a2 => ?_) fun t a1 a2 => ?_
    · rw [eR t (by omega), eR m (Nat.le_refl _), eL m (Nat.le_refl _)]; exact lo2 t a1 a2
    · rw [eR m (Nat.le_refl _), eL m (Nat.le_refl _)]; exact hi2 t (by omega) a2
theorem todo_right (hy : y ≤ D.size) (h1 : x ≤ m) (h2 : m < y) (hB : Sort.Below ltInt x y D) (hP : PermIn x y D F) (hlo : ∀ t, x ≤ t → t < m → ltInt F[t]! F[m]! = true) (hhi : ∀ t, m < t → t < y → ltInt F[t]! F[m]! = false)
    {L : Array Int} (hL : PermIn (m + 1) y F L) (sL : SortedIn ltInt (m + 1) y L) : Sort.Below ltInt x m L ∧ Todo x y D x m L := by
  have hF : y ≤ F.size := by rw [hP.1]; exact hy
  have hLs : y ≤ L.size := by rw [hL.1]; exact hF
  have eL : ∀ t, t ≤ m → L[t]! = F[t]! := fun t ht => hL.2.1 t (Or.inl (by omega))
  have hi2 := permIn_all F L (m + 1) y (fun z => ltInt z F[m]! = false) hF hL fun t a1 a2 => hhi t (by omega) a2
  constructor
  · rcases (hB.perm hy hP).mono (show m ≤ y by omega) with e | e
    · exact Or.inl e
    · exact Or.inr fun t a1 a2 => by rw [eL t (by omega), eL (x - 1) (by omega)]; exact e t a1 a2
  · intro R hR sR
    have eR : ∀ t, m ≤ t → R[t]! = L[t]! := fun t ht => hR.2.1 t (Or.inr ht)
    have lo2 := permIn_all L R x m (fun z => ltInt z F[m]! = true) (by omega) hR fun t a1 a2 => by rw [eL t (by omega)]; exact hlo t a1 a2
    refine ⟨permIn_trans _ _ _ x y hP (permIn_trans _ _ _ x y (permIn_mono _ _ (m + 1) y x y (by omega) (Nat.le_refl _) hF hL) (permIn_mono _ _ x m x y (Nat.le_refl _) (by omega) hLs hR)), ?_⟩
    refine sorted_glue swo_ltInt sR (sL.congr fun t a1 _ => eR t (by omega)) (fun t a1 a2 => ?_) fun t a1 a2 => ?_
    · rw [eR m (Nat.le_refl _), eL m (Nat.le_refl _)]; exact lo2 t a1 a2
    · rw [eR t (by omega), eR m (Nat.le_refl _), eL m (Nat.le_refl _)]; exact hi2 t (by omega) a2
/-- The left part, as it lies behind the partition. -/
theorem below_left (hy : y ≤ D.size) (h2 : m < y) (hB : Sort.Below ltInt x y D) (hP : PermIn x y D F) : Sort.Below ltInt x m F := (hB.perm hy hP).mono (by omega)
theorem below_right (hhi : ∀ t, m < t → t < y → ltInt F[t]! F[m]! = false) : Sort.Below ltInt (m + 1) y F := Or.inr fun t a1 a2 => by rw [Nat.add_sub_cancel]; exact hhi t (by omega) a2
end

end Go.Proofs.YtkaaldhejpaiiaaGreatDoor

/- The library's sort at runes: pdqsortOrdered. -/
namespace Go.Proofs.YtkaaldhejpaiiaaGreatDoor
open Go.RowKit Go.Sort

set_option maxHeartbeats 32000000 in
set_option maxRecDepth 100000 in
theorem pdq32 : ∀ (N blk off n cap a b lim : Nat) (d : Array Int) (w : World), b - a < N → d.size = n → Holds (Value.int .i32) w blk off d → blk < w.heap.size → a ≤ b → b ≤ n → n ≤ 1000000 → lim ≤ 1000 → Sort.Below ltInt a b d →
    Calls Tryz.prog 191 #[.slice (some ⟨blk, off, none⟩) n cap, .int .i64 a, .int .i64 b, .int .i64 lim] w fun e w' =>
      e = .returned (.tuple #[]) ∧ ∃ d', S32 w blk off d' w' ∧ PermIn a b d d' ∧ SortedIn ltInt a b d' := by
  intro N
  induction N with
  | zero => intro blk off n cap a b lim d w hN; omega
  | succ N ih =>
    intro blk off n cap a b lim d w hN hn hH hblk hab hb hsz hlim hB
    have HS : Hid (S32 w blk off d w) := S32.refl hH hblk
    have HB0 : Hid (Sort.Below ltInt a b d) := hB
    have HIH : Hid (∀ (a2 b2 lim2 : Nat) (d2 : Array Int) (w2 : World), b2 - a2 < N → d2.size = n → Holds (Value.int .i32) w2 blk off d2 → blk < w2.heap.size → a2 ≤ b2 → b2 ≤ n → lim2 ≤ 1000 → Sort.Below ltInt a2 b2 d2 →
        Calls Tryz.prog 191 #[.slice (some ⟨blk, off, none⟩) n cap, .int .i64 a2, .int .i64 b2, .int .i64 lim2] w2 fun e w' => e = .returned (.tuple #[]) ∧ ∃ d', S32 w2 blk off d' w' ∧ PermIn a2 b2 d2 d' ∧ SortedIn ltInt a2 b2 d') :=
      fun a2 b2 lim2 d2 w2 h1 h2 h3 h4 h5 h6 h7 h8 => ih blk off n cap a2 b2 lim2 d2 w2 h1 h2 h3 h4 h5 h6 hsz h7 h8
    clear ih hH hB
    go_enter Tryz.func191, Tryz.ntmps191
    go_wp2
    go_loopg [1, 2, 3, 8, 9] (b - a) (fun g s1 s2 s3 s8 s9 wr => ∃ (x y l : Nat) (wb wp : Bool) (D : Array Int), s1 = .int .i64 x ∧ s2 = .int .i64 y ∧ s3 = .int .i64 l ∧ s8 = .bool wb ∧ s9 = .bool wp ∧ y - x ≤ g ∧ y - x ≤ b - a ∧ x ≤ y ∧ y ≤ n ∧ l ≤ 1000 ∧ D.size = n ∧ S32 w blk off D wr ∧ Sort.Below ltInt x y D ∧ Todo a b d x y D)
    case atStart => exact ⟨a, b, lim, true, true, d, rfl, rfl, rfl, rfl, rfl, Nat.le_refl _, Nat.le_refl _, hab, hb, hlim, hn, HS.out, HB0.out, Todo.self _ _ _⟩
    case round =>
      obtain ⟨x, y, l, wb, wp, D, rfl, rfl, rfl, rfl, rfl, hg, hyx, hxy, hyn, hl, hD, hSD, hB, hT⟩ := hrel
      have HSD : Hid (S32 w blk off D wr) := hSD
      have HB : Hid (Sort.Below ltInt x y D) := hB
      have HT : Hid (Todo a b d x y D) := hT
      clear hSD hB hT HS HB0
      by_cases h12 : (y : Int) - (x : Int) ≤ 12
      · have hc := ins32 blk off n cap x y D wr hD HSD.out.holds HSD.out.lt hxy hyn hsz
        go_wp2_with (go_at_call 200; refine hc.mono ?_; rintro e w' ⟨rfl, hw'⟩)
        (try simp only [Exit.inBlock, Exit.then]); refine bodyPost_ret (results_none rfl _ _ _) rfl ?_
        have hi := insertionSort_holds swo_ltInt D x y hxy (by omega)
        exact ⟨rfl, _, HSD.out.trans hw' hi.1.1, HT.out _ hi.1 hi.2⟩
      by_cases hl0 : l = 0
      · subst hl0
        have hc := heap32 blk off n cap x y D wr hD HSD.out.holds HSD.out.lt hxy hyn hsz
        go_wp2_with (go_at_call 201; refine hc.mono ?_; rintro e w' ⟨rfl, hw'⟩)
        (try simp only [Exit.inBlock, Exit.then]); refine bodyPost_ret (results_none rfl _ _ _) rfl ?_
        have hi := heapSort_holds swo_ltInt D x y hxy (by omega)
        exact ⟨rfl, _, HSD.out.trans hw' hi.1.1, HT.out _ hi.1 hi.2⟩
      have hlne : ((l : Int) == 0) = false := by simp; omega
      have hlen : 12 < y - x := by omega
      go_upto_if 35 with fail
      go_cut [3] from 19 to 133 (fun s wc => ∃ (l2 : Nat) (D1 : Array Int), s = .int .i64 l2 ∧ l2 ≤ 1000 ∧ D1.size = n ∧ S32 w blk off D1 wc ∧ PermIn x y D D1)
      case first =>
        cases wb
        · have hc := brk32 blk off n cap x (y - x) D wr hD HSD.out.holds HSD.out.lt (by omega) hsz (by omega)
          rw [show x + (y - x) = y by omega] at hc
          go_wp2_with (go_at_call 202; refine hc.mono ?_; rintro e w' ⟨rfl, d', hw', hp'⟩)
          go_meet
          case rel => exact ⟨l - 1, d', by congr 1; omega, by omega, by rw [hp'.1]; exact hD, HSD.out.trans hw' hp'.1, hp'⟩
        · go_wp2
          go_meet
          case rel => exact ⟨l, D, rfl, hl, hD, HSD.out, permIn_refl _ _ _⟩
      case rest =>
        obtain ⟨l2, D1, rfl, hl2, hD1, hS1, hP1⟩ := hcut
        have HT1 : Hid (Todo a b d x y D1) := HT.out.perm hP1
        have HB1 : Hid (Sort.Below ltInt x y D1) := HB.out.perm (by omega) hP1
        have HS1 : Hid (S32 w blk off D1 wc) := hS1
        clear hS1 hP1 HSD HT HB
        have hpv := pivot32 blk off n cap x (y - x) D1 wc hD1 HS1.out.holds HS1.out.lt (by omega) (by omega) hsz
        rw [show x + (y - x) = y by omega] at hpv
        go_upto_if 50 with (go_at_call 203; refine hpv.mono ?_; rintro e w2 ⟨pv0, h0, rfl, hpa, hpb, hh0, hS2⟩)
        have HS2 : Hid (S32 w blk off D1 w2) := HS1.out.trans hS2 rfl
        clear hS2 hpv HS1
        go_cut [11, 12] from 19 to 133 (fun s t wc => ∃ (pv h : Nat) (D2 : Array Int), s = .int .i64 pv ∧ t = .int .i64 h ∧ x ≤ pv ∧ pv < y ∧ h ≤ 2 ∧ D2.size = n ∧ S32 w blk off D2 wc ∧ PermIn x y D1 D2)
        case first =>
          by_cases hh2 : h0 = 2
          · subst hh2
            have hc := rev32 blk off n cap x y D1 w2 hD1 HS2.out.holds HS2.out.lt (by omega) hyn hsz
            go_wp2_with (go_at_call 204; refine hc.mono ?_; rintro e w' ⟨rfl, d', hw', hp'⟩)
            go_meet
            case rel => exact ⟨(y - 1) - (pv0 - x), 1, d', by congr 1; omega, rfl, by omega, by omega, by omega, by rw [hp'.1]; exact hD1, HS2.out.trans hw' hp'.1, hp'⟩
          · have hne2 : ((h0 : Int) == 2) = false := by simp; omega
            go_wp2
            go_meet
            case rel => exact ⟨pv0, h0, D1, rfl, rfl, hpa, hpb, hh0, hD1, HS2.out, permIn_refl _ _ _⟩
        case rest =>
          obtain ⟨pv, h, D2, rfl, rfl, hpa2, hpb2, hh, hD2, hS3, hP2⟩ := hcut
          have HT2 : Hid (Todo a b d x y D2) := HT1.out.perm hP2
          have HB2 : Hid (Sort.Below ltInt x y D2) := HB1.out.perm (by omega) hP2
          have HS3 : Hid (S32 w blk off D2 wc) := hS3
          clear hS3 hP2 HS2 HT1 HB1
          go_upto_region 15 with fail
          go_cut [68] from 19 to 133 (fun s wx => wx = wc ∧ ∃ B : Bool, s = .bool B)
          case first =>
            by_cases hh1 : h = 1
            · subst hh1
              cases wb <;> cases wp <;> (go_wp2; go_meet; case rel => exact ⟨rfl, _, rfl⟩)
            · have hne1 : ((h : Int) == 1) = false := by simp; omega
              cases wb <;> cases wp <;> (go_wp2; go_meet; case rel => exact ⟨rfl, _, rfl⟩)
          case rest =>
            obtain ⟨rfl, B, rfl⟩ := hcut
            go_upto_if 68 with fail
            go_cut [] from 19 to 133 (fun wx => ∃ D3 : Array Int, D3.size = n ∧ S32 w blk off D3 wx ∧ PermIn x y D2 D3)
            case first =>
              cases B
              · go_wp2
                go_meet
                case rel => exact ⟨D2, hD2, HS3.out, permIn_refl _ _ _⟩
              · have hc := pins32 blk off n cap x y D2 wc hD2 HS3.out.holds HS3.out.lt (by omega) hyn hsz HB2.out
                go_wp2_with (go_at_call 205; refine hc.mono ?_; rintro e w' ⟨ok, d', rfl, hw', hp', hs'⟩; cases ok)
                · go_meet
                  case rel => exact ⟨d', by rw [hp'.1]; exact hD2, HS3.out.trans hw' hp'.1, hp'⟩
                · (try simp only [Exit.inBlock, Exit.then]); refine bodyPost_ret (results_none rfl _ _ _) rfl ?_
                  exact ⟨rfl, d', HS3.out.trans hw' hp'.1, HT2.out _ hp' (hs' (by trivial))⟩
            case rest =>
              obtain ⟨D3, hD3, hS4, hP3⟩ := hcut
              have HT3 : Hid (Todo a b d x y D3) := HT2.out.perm hP3
              have HB3 : Hid (Sort.Below ltInt x y D3) := HB2.out.perm (by omega) hP3
              obtain ⟨G, hG⟩ := fam D3
              obtain ⟨hc, hz⟩ := hS4.cells hD3 G hG
              have HS4 : Hid (S32 w blk off D3 wc) := hS4
              have HG : Hid (∀ t, G t = D3[t]!) := hG
              clear hS4 hP3 HS3 HT2 HB2 hG
              go_upto_region 17 with fail
              go_cut [87] from 19 to 133 (fun s wx => s = .bool (decide (0 < x) && !ltInt (G (x - 1)) (G pv)) ∧ S32 w blk off D3 wx)
              case first =>
                by_cases hx0 : 0 < x
                · have hx0' : (0 : Int) < (x : Int) := by omega
                  go_quiet (first | (go_at_call 206; refine Calls.quiet_of_same (less32 _ _ _)))
                  go_wp2
                  go_meet
                  case rel => exact ⟨by simp [hx0], HS4.out.ahead _⟩
                · have hx0' : decide ((0 : Int) < (x : Int)) = false := decide_eq_false (by omega)
                  go_quiet (first | (go_at_call 206; refine Calls.quiet_of_same (less32 _ _ _)))
                  go_wp2
                  go_meet
                  case rel => exact ⟨by simp [hx0], HS4.out.ahead _⟩
              case rest =>
                obtain ⟨rfl, hS5⟩ := hcut
                have HS5 : Hid (S32 w blk off D3 wc) := hS5
                clear hS5 hc hz HS4
                generalize hBe : (decide (0 < x) && !ltInt (G (x - 1)) (G pv)) = B2
                have HBe : Hid ((decide (0 < x) && !ltInt (G (x - 1)) (G pv)) = B2) := hBe
                clear hBe
                cases B2
                · have hc := part32 blk off n cap x y pv D3 wc hD3 HS5.out.holds HS5.out.lt hpa2 hpb2 hyn hsz
                  go_upto_if 113 with (go_at_call 208; refine hc.mono ?_; rintro e w' ⟨m, ok, d', rfl, hw', h1, h2, hp', hlo, hhi⟩)
                  have HP4 : Hid (PermIn x y D3 d') := hp'
                  have HLo : Hid (∀ t, x ≤ t → t < m → ltInt d'[t]! d'[m]! = true) := hlo
                  have HHi : Hid (∀ t, m < t → t < y → ltInt d'[t]! d'[m]! = false) := hhi
                  have HS6 : Hid (S32 w blk off d' w') := HS5.out.trans hw' hp'.1
                  have hd' : d'.size = n := by rw [hp'.1]; exact hD3
                  clear hw' hp' hlo hhi hc HS5
                  by_cases hlr : (m : Int) - (x : Int) < (y : Int) - (m : Int)
                  · have hrec := HIH.out x m l2 d' w' (by omega) hd' HS6.out.holds HS6.out.lt h1 (by omega) hl2 (below_left (by omega) h2 HB3.out HP4.out)
                    go_wp2_with (go_at_call 191; refine hrec.mono ?_; rintro e w8 ⟨rfl, L, hw8, hpL, hsL⟩)
                    go_roundg (y - (m + 1))
                    case measure => omega
                    case rel =>
                      have hr := todo_left (by omega) h1 h2 HP4.out HLo.out HHi.out hpL hsL
                      exact ⟨m + 1, y, l2, _, _, L, by go_num, rfl, rfl, rfl, rfl, Nat.le_refl _, by omega, by omega, hyn, hl2, by rw [hpL.1]; exact hd', HS6.out.trans hw8 hpL.1, hr.1, HT3.out.trans hr.2⟩
                  · have hrec := HIH.out (m + 1) y l2 d' w' (by omega) hd' HS6.out.holds HS6.out.lt (by omega) hyn hl2 (below_right HHi.out)
                    have em : ((m + 1 : Nat) : Int) = (m : Int) + 1 := by omega
                    rw [em] at hrec
                    clear em
                    go_wp2_with (go_at_call 191; refine hrec.mono ?_; rintro e w8 ⟨rfl, L, hw8, hpL, hsL⟩)
                    go_roundg (m - x)
                    case measure => omega
                    case rel =>
                      have hr := todo_right (by omega) h1 h2 HB3.out HP4.out HLo.out HHi.out hpL hsL
                      exact ⟨x, m, l2, _, _, L, rfl, rfl, rfl, rfl, rfl, Nat.le_refl _, by omega, h1, by omega, hl2, by rw [hpL.1]; exact hd', HS6.out.trans hw8 hpL.1, hr.1, HT3.out.trans hr.2⟩
                · have hc := parteq32 blk off n cap x y pv D3 wc hD3 HS5.out.holds HS5.out.lt hpa2 hpb2 hyn hsz
                  go_wp2_with (go_at_call 207; refine hc.mono ?_; rintro e w' ⟨i, d', rfl, hw', hi1, hi2, hp', hlo, hhi⟩)
                  go_roundg (y - i)
                  case measure => omega
                  case rel =>
                    have hq := HBe.out
                    rw [HG.out, HG.out] at hq
                    simp only [Bool.and_eq_true, decide_eq_true_eq, Bool.not_eq_true'] at hq
                    have hr := todo_eq hq.1 (by omega) HB3.out hq.2 hi1 hi2 hp' hlo hhi
                    exact ⟨i, y, l2, wb, wp, d', rfl, rfl, rfl, rfl, rfl, Nat.le_refl _, by omega, hi2, hyn, hl2, by rw [hp'.1]; exact hD3, HS5.out.trans hw' hp'.1, hr.1, HT3.out.trans hr.2⟩

end Go.Proofs.YtkaaldhejpaiiaaGreatDoor

