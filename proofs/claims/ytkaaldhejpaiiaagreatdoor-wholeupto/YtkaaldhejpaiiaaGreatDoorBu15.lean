import Derived.Test.YtkaaldhejpaiiaaGreatDoorBu14
import Derived.Shelf.SlicesE.Index
import Derived.Test.YtkaaldhejpaiiaaGreatDoorProg
import Derived.Test.YtkaaldhejpaiiaaGreatDoorBu05
/- The walks of the document's row and Kind. -/
namespace Go.Proofs.YtkaaldhejpaiiaaGreatDoor
open Go.RowKit

/-- Side, script and joining of each row. -/
def strs : List (ByteArray × ByteArray × ByteArray) := [({ data := #[69, 83] }, { data := #[] }, { data := #[] }), ({ data := #[69, 78] }, { data := #[] }, { data := #[] }), ({ data := #[76] }, { data := #[76, 97, 116, 105, 110] }, { data := #[] }), ({ data := #[76] }, { data := #[76, 97, 116, 105, 110] }, { data := #[] }), ({ data := #[76] }, { data := #[76, 97, 116, 105, 110] }, { data := #[] }), ({ data := #[] }, { data := #[] }, { data := #[] }), ({ data := #[78, 83, 77] }, { data := #[] }, { data := #[84] }), ({ data := #[78, 83, 77] }, { data := #[] }, { data := #[84] }), ({ data := #[78, 83, 77] }, { data := #[] }, { data := #[84] }), ({ data := #[78, 83, 77] }, { data := #[] }, { data := #[84] }), ({ data := #[] }, { data := #[71, 114, 101, 101, 107] }, { data := #[] }), ({ data := #[76] }, { data := #[71, 114, 101, 101, 107] }, { data := #[] }), ({ data := #[82] }, { data := #[72, 101, 98, 114, 101, 119] }, { data := #[] }), ({ data := #[82] }, { data := #[72, 101, 98, 114, 101, 119] }, { data := #[] }), ({ data := #[65, 76] }, { data := #[65, 114, 97, 98, 105, 99] }, { data := #[82] }), ({ data := #[65, 76] }, { data := #[65, 114, 97, 98, 105, 99] }, { data := #[82] }), ({ data := #[65, 76] }, { data := #[65, 114, 97, 98, 105, 99] }, { data := #[82] }), ({ data := #[65, 76] }, { data := #[65, 114, 97, 98, 105, 99] }, { data := #[68] }), ({ data := #[65, 76] }, { data := #[65, 114, 97, 98, 105, 99] }, { data := #[68] }), ({ data := #[65, 76] }, { data := #[65, 114, 97, 98, 105, 99] }, { data := #[68] }), ({ data := #[65, 76] }, { data := #[65, 114, 97, 98, 105, 99] }, { data := #[68] }), ({ data := #[65, 76] }, { data := #[65, 114, 97, 98, 105, 99] }, { data := #[68] }), ({ data := #[65, 76] }, { data := #[65, 114, 97, 98, 105, 99] }, { data := #[82] }), ({ data := #[78, 83, 77] }, { data := #[] }, { data := #[84] }), ({ data := #[65, 78] }, { data := #[] }, { data := #[] }), ({ data := #[69, 78] }, { data := #[] }, { data := #[] }), ({ data := #[76] }, { data := #[68, 101, 118, 97, 110, 97, 103, 97, 114, 105] }, { data := #[] }), ({ data := #[78, 83, 77] }, { data := #[] }, { data := #[84] }), ({ data := #[] }, { data := #[] }, { data := #[] }), ({ data := #[76] }, { data := #[72, 105, 114, 97, 103, 97, 110, 97] }, { data := #[] }), ({ data := #[76] }, { data := #[75, 97, 116, 97, 107, 97, 110, 97] }, { data := #[] }), ({ data := #[] }, { data := #[] }, { data := #[] }), ({ data := #[76] }, { data := #[72, 97, 110] }, { data := #[] })]
def rowS (k : Nat) : ByteArray := (strs.getD k (.empty, .empty, .empty)).1
def rowT (k : Nat) : ByteArray := (strs.getD k (.empty, .empty, .empty)).2.1
def rowJ (k : Nat) : ByteArray := (strs.getD k (.empty, .empty, .empty)).2.2

theorem cells_row : ∀ k : Nat, k < 33 → aggR[k * 6]? = some (.int .i64 (Km.rowA Km.ref k)) ∧ aggR[k * 6 + 1]? = some (.int .i64 (Km.rowB Km.ref k)) ∧ aggR[k * 6 + 2]? = some (.int .i64 (Km.rowC Km.ref k)) ∧
    aggR[k * 6 + 3]? = some (.string (rowS k)) ∧ aggR[k * 6 + 4]? = some (.string (rowT k)) ∧ aggR[k * 6 + 5]? = some (.string (rowJ k))
  | 0, _ => ⟨by kernel_rfl, by kernel_rfl, by kernel_rfl, by kernel_rfl, by kernel_rfl, by kernel_rfl⟩
  | 1, _ => ⟨by kernel_rfl, by kernel_rfl, by kernel_rfl, by kernel_rfl, by kernel_rfl, by kernel_rfl⟩
  | 2, _ => ⟨by kernel_rfl, by kernel_rfl, by kernel_rfl, by kernel_rfl, by kernel_rfl, by kernel_rfl⟩
  | 3, _ => ⟨by kernel_rfl, by kernel_rfl, by kernel_rfl, by kernel_rfl, by kernel_rfl, by kernel_rfl⟩
  | 4, _ => ⟨by kernel_rfl, by kernel_rfl, by kernel_rfl, by kernel_rfl, by kernel_rfl, by kernel_rfl⟩
  | 5, _ => ⟨by kernel_rfl, by kernel_rfl, by kernel_rfl, by kernel_rfl, by kernel_rfl, by kernel_rfl⟩
  | 6, _ => ⟨by kernel_rfl, by kernel_rfl, by kernel_rfl, by kernel_rfl, by kernel_rfl, by kernel_rfl⟩
  | 7, _ => ⟨by kernel_rfl, by kernel_rfl, by kernel_rfl, by kernel_rfl, by kernel_rfl, by kernel_rfl⟩
  | 8, _ => ⟨by kernel_rfl, by kernel_rfl, by kernel_rfl, by kernel_rfl, by kernel_rfl, by kernel_rfl⟩
  | 9, _ => ⟨by kernel_rfl, by kernel_rfl, by kernel_rfl, by kernel_rfl, by kernel_rfl, by kernel_rfl⟩
  | 10, _ => ⟨by kernel_rfl, by kernel_rfl, by kernel_rfl, by kernel_rfl, by kernel_rfl, by kernel_rfl⟩
  | 11, _ => ⟨by kernel_rfl, by kernel_rfl, by kernel_rfl, by kernel_rfl, by kernel_rfl, by kernel_rfl⟩
  | 12, _ => ⟨by kernel_rfl, by kernel_rfl, by kernel_rfl, by kernel_rfl, by kernel_rfl, by kernel_rfl⟩
  | 13, _ => ⟨by kernel_rfl, by kernel_rfl, by kernel_rfl, by kernel_rfl, by kernel_rfl, by kernel_rfl⟩
  | 14, _ => ⟨by kernel_rfl, by kernel_rfl, by kernel_rfl, by kernel_rfl, by kernel_rfl, by kernel_rfl⟩
  | 15, _ => ⟨by kernel_rfl, by kernel_rfl, by kernel_rfl, by kernel_rfl, by kernel_rfl, by kernel_rfl⟩
  | 16, _ => ⟨by kernel_rfl, by kernel_rfl, by kernel_rfl, by kernel_rfl, by kernel_rfl, by kernel_rfl⟩
  | 17, _ => ⟨by kernel_rfl, by kernel_rfl, by kernel_rfl, by kernel_rfl, by kernel_rfl, by kernel_rfl⟩
  | 18, _ => ⟨by kernel_rfl, by kernel_rfl, by kernel_rfl, by kernel_rfl, by kernel_rfl, by kernel_rfl⟩
  | 19, _ => ⟨by kernel_rfl, by kernel_rfl, by kernel_rfl, by kernel_rfl, by kernel_rfl, by kernel_rfl⟩
  | 20, _ => ⟨by kernel_rfl, by kernel_rfl, by kernel_rfl, by kernel_rfl, by kernel_rfl, by kernel_rfl⟩
  | 21, _ => ⟨by kernel_rfl, by kernel_rfl, by kernel_rfl, by kernel_rfl, by kernel_rfl, by kernel_rfl⟩
  | 22, _ => ⟨by kernel_rfl, by kernel_rfl, by kernel_rfl, by kernel_rfl, by kernel_rfl, by kernel_rfl⟩
  | 23, _ => ⟨by kernel_rfl, by kernel_rfl, by kernel_rfl, by kernel_rfl, by kernel_rfl, by kernel_rfl⟩
  | 24, _ => ⟨by kernel_rfl, by kernel_rfl, by kernel_rfl, by kernel_rfl, by kernel_rfl, by kernel_rfl⟩
  | 25, _ => ⟨by kernel_rfl, by kernel_rfl, by kernel_rfl, by kernel_rfl, by kernel_rfl, by kernel_rfl⟩
  | 26, _ => ⟨by kernel_rfl, by kernel_rfl, by kernel_rfl, by kernel_rfl, by kernel_rfl, by kernel_rfl⟩
  | 27, _ => ⟨by kernel_rfl, by kernel_rfl, by kernel_rfl, by kernel_rfl, by kernel_rfl, by kernel_rfl⟩
  | 28, _ => ⟨by kernel_rfl, by kernel_rfl, by kernel_rfl, by kernel_rfl, by kernel_rfl, by kernel_rfl⟩
  | 29, _ => ⟨by kernel_rfl, by kernel_rfl, by kernel_rfl, by kernel_rfl, by kernel_rfl, by kernel_rfl⟩
  | 30, _ => ⟨by kernel_rfl, by kernel_rfl, by kernel_rfl, by kernel_rfl, by kernel_rfl, by kernel_rfl⟩
  | 31, _ => ⟨by kernel_rfl, by kernel_rfl, by kernel_rfl, by kernel_rfl, by kernel_rfl, by kernel_rfl⟩
  | 32, _ => ⟨by kernel_rfl, by kernel_rfl, by kernel_rfl, by kernel_rfl, by kernel_rfl, by kernel_rfl⟩
  | k + 33, h => absurd h (by omega)

/-- The document's row of a number. -/
def rowV (n : Int) : Value := .agg #[.int .i64 (Km.rowA Km.ref (Km.idx Km.ref n)), .int .i64 (Km.rowB Km.ref (Km.idx Km.ref n)), .int .i64 (Km.rowC Km.ref (Km.idx Km.ref n)), .string (rowS (Km.idx Km.ref n)), .string (rowT (Km.idx Km.ref n)), .string (rowJ (Km.idx Km.ref n))]
set_option maxRecDepth 100000 in
set_option maxHeartbeats 1000000 in
theorem row_any (n : Int) (w : World) :
    Calls Tryz.prog 51 #[.int .i64 n] w fun e w' => e = .returned (rowV n) ∧ Below w.heap.size w w' := by
  go_enter Tryz.func51, Tryz.ntmps51
  go_wp2_with (go_at_call 85; refine (table_any _).mono ?_; rintro e w' ⟨rfl, rfl⟩)
  go_loop [4] (fun i => ∃ k : Nat, k ≤ 33 ∧ i = .int .i64 k ∧ (∀ j, j < k → ¬ (Km.rowA Km.ref j ≤ n ∧ n ≤ Km.rowB Km.ref j))) (fun i => 33 - (intOf i).toNat)
  case atStart => exact ⟨0, by omega, rfl, fun j hj => absurd hj (by omega)⟩
  case round =>
    obtain ⟨k, hk, rfl, hno⟩ := hrel
    have HN : Hid (∀ j, j < k → ¬ (Km.rowA Km.ref j ≤ n ∧ n ≤ Km.rowB Km.ref j)) := hno
    clear hno
    by_cases hlt : k < 33
    · obtain ⟨c0, c1, c2, c3, c4, c5⟩ := cells_row k hlt
      by_cases h1 : Km.rowA Km.ref k ≤ n
      · by_cases h2 : n ≤ Km.rowB Km.ref k
        · go_wp2
          refine bodyPost_ret (v := .agg #[.int .i64 (Km.rowA Km.ref k), .int .i64 (Km.rowB Km.ref k), .int .i64 (Km.rowC Km.ref k), .string (rowS k), .string (rowT k), .string (rowJ k)]) (by simp [results, Tryz.results51, go_sem]) rfl ⟨by rw [rowV, Km.idx_hit n Km.ref k hlt HN.out ⟨h1, h2⟩], ?_⟩
          exact ((Below.refl _ _).alloc (Nat.le_refl _) _).alloc (by simp) _
        · go_wp2
          go_round
          case rel => exact ⟨k + 1, by omega, by go_num, fun j hj => by
            rcases Nat.lt_succ_iff_lt_or_eq.1 hj with h | rfl
            · exact HN.out j h
            · exact fun h => h2 h.2⟩
          case measure => simp [intOf]; omega
      · go_wp2
        go_round
        case rel => exact ⟨k + 1, by omega, by go_num, fun j hj => by
            rcases Nat.lt_succ_iff_lt_or_eq.1 hj with h | rfl
            · exact HN.out j h
            · exact fun h => h1 h.1⟩
        case measure => simp [intOf]; omega
    · go_wp2
      refine bodyPost_ret (v := .agg #[.int .i64 0, .int .i64 0, .int .i64 0, .string { data := #[] }, .string { data := #[] }, .string { data := #[] }]) (by simp [results, Tryz.results51, go_sem]) rfl ⟨by rw [rowV, Km.idx_miss n Km.ref (fun j hj => HN.out j (by have h33 : j < 33 := hj; omega))]; rfl, ?_⟩
      exact ((Below.refl _ _).alloc (Nat.le_refl _) _).alloc (by simp) _

set_option maxHeartbeats 400000 in
theorem refKind_any (n : Int) (w : World) : Calls Tryz.prog 70 #[.int .i64 n] w fun e w' => e = .returned (.int .i64 (Km.look Km.ref n)) ∧ Below w.heap.size w w' := by
  rw [Km.look_idx]
  go_enter Tryz.func70, Tryz.ntmps70
  go_wp2_with (go_at_call 51; refine (row_any _ _).mono ?_; rintro e w' ⟨rfl, hb⟩; simp only [rowV])
  go_ret
  exact ⟨rfl, hb.alloc hb.size _⟩
end Go.Proofs.YtkaaldhejpaiiaaGreatDoor

/- Both tables agree, in scripts and joinings too. No walk in this text. -/
namespace Go.Proofs.YtkaaldhejpaiiaaGreatDoor
open Go.RowKit

/-- The project's row of a number: the number of the first that fits; 33, if none does. -/
def pk (n : Int) : Nat := Km.idx Km.tab n
theorem rowVal_idx (n : Int) : rowVal n = .agg #[.int .i32 (rA (pk n)), .int .i32 (rB (pk n)), .int .u8 (rC (pk n)), .int .u8 (rS (pk n)), .int .u8 (rD (pk n)), .int .u8 (rE (pk n))] := by
  obtain ⟨h1, h2, h3⟩ := count_mono (fun i => decide (n ≤ rB i)) 33 (fun a b hab hb h => by
    have := rB_up ⟨a, by omega⟩ ⟨b, hb⟩ hab
    simp only [decide_eq_true_eq] at h ⊢
    simp only at this
    omega)
  change ∀ i, i < idxK n → _ at h1
  change ∀ i, idxK n ≤ i → _ at h2
  change idxK n ≤ 33 at h3
  unfold rowVal pk
  generalize idxK n = K at *
  have lo : ∀ j, j < K → ¬ (Km.rowA Km.tab j ≤ n ∧ n ≤ Km.rowB Km.tab j) := fun j hj h => by
    have e := rows_same ⟨j, by omega⟩
    have h4 := h1 j hj
    simp only [decide_eq_false_iff_not] at h4
    simp only at e
    rw [e.2.1] at h
    exact h4 h.2
  by_cases hK : K = 33
  · rw [if_pos (Or.inl hK), Km.idx_miss n Km.tab (fun j hj => lo j (by have h33 : j < 33 := hj; omega))]
    rfl
  · have e := rows_same ⟨K, by omega⟩
    simp only at e
    have h5 := h2 K (Nat.le_refl _) (by omega)
    simp only [decide_eq_true_eq] at h5
    by_cases hA : n < rA K
    · rw [if_pos (Or.inr hA), Km.idx_miss n Km.tab]
      · rfl
      · intro j hj h
        have hj33 : j < 33 := hj
        by_cases hjK : j < K
        · exact lo j hjK h
        · have ej := rows_same ⟨j, hj33⟩
          simp only at ej
          rw [ej.1] at h
          by_cases hje : j = K
          · subst hje; omega
          · have q1 := rA_up ⟨K, by omega⟩ ⟨j, hj33⟩ (by show K < j; omega)
            have q2 := rAB ⟨K, by omega⟩
            simp only at q1 q2
            omega
    · rw [if_neg (by omega), Km.idx_hit n Km.tab K (by show K < 33; omega) lo (by rw [e.1, e.2.1]; omega)]

theorem idx_const (lo hi n : Int) (h1 : lo ≤ n) (h2 : n ≤ hi) : ∀ t : List (Int × Int × Int), Km.apart lo hi t = true → Km.idx t n = Km.idx t lo
  | [], _ => rfl
  | (a, b, k) :: r, h => by
    simp only [Km.apart, List.all_cons, Bool.and_eq_true, Bool.or_eq_true, decide_eq_true_eq] at h
    have ih := idx_const lo hi n h1 h2 r (by simpa [Km.apart] using h.2)
    simp only [Km.idx]
    rcases h.1 with (hb | ha) | ⟨ha, hb⟩
    · rw [if_neg (by omega), if_neg (by omega), ih]
    · rw [if_neg (by omega), if_neg (by omega), ih]
    · rw [if_pos (by omega), if_pos (by omega)]
theorem idx_out (n : Int) : ∀ t : List (Int × Int × Int), (∀ r ∈ t, n < r.1 ∨ r.2.1 < n) → Km.idx t n = t.length
  | [], _ => rfl
  | (a, b, k) :: r, h => by
    have h0 := h (a, b, k) (by simp)
    simp only [Km.idx]
    rw [if_neg (by simp only at h0; omega), idx_out n r fun x hx => h x (by simp [hx])]
    rfl

/-- A side's name, a script's, a joining's, as the document's answer writes them. -/
def sideName : List (List UInt8) := [[], [76], [82], [65, 76], [69, 78], [65, 78], [69, 83], [78, 83, 77]]
def scriptName : List (List UInt8) := [[], [76, 97, 116, 105, 110], [71, 114, 101, 101, 107], [72, 101, 98, 114, 101, 119], [65, 114, 97, 98, 105, 99], [68, 101, 118, 97, 110, 97, 103, 97, 114, 105], [72, 105, 114, 97, 103, 97, 110, 97], [75, 97, 116, 97, 107, 97, 110, 97], [72, 97, 110]]
def joinName : List (List UInt8) := [[], [82], [68], [84]]
def sameRow (j k : Nat) : Bool := decide (rC j = Km.rowC Km.ref k) && decide (sideName.getD (rS j).toNat [1] = (rowS k).data.toList) && decide (0 ≤ rS j) && decide (rS j ≤ 7) && decide (scriptName.getD (rD j).toNat [1] = (rowT k).data.toList) && decide (joinName.getD (rE j).toNat [1] = (rowJ k).data.toList) && decide (0 ≤ rD j) && decide (0 ≤ rE j) && decide (rD j ≤ 8) && decide (rE j ≤ 3)
theorem all_same : (Km.pairs Km.breaks).all (fun p => Km.apart p.1 p.2 Km.tab && Km.apart p.1 p.2 Km.ref && sameRow (Km.idx Km.tab p.1) (Km.idx Km.ref p.1)) = true := by decide +kernel
theorem none_same : sameRow 33 33 = true := by decide +kernel
/-- The document's row of a number. -/
def dk (n : Int) : Nat := Km.idx Km.ref n
theorem same_rows (n : Int) : sameRow (pk n) (dk n) = true := by
  unfold pk dk
  by_cases h : 45 ≤ n ∧ n < 40960
  · obtain ⟨p, hp, h1, h2⟩ := Km.in_pairs n Km.breaks 45 rfl h.1 (by show n < 40960; exact h.2)
    have := List.all_eq_true.1 all_same p hp
    simp only [Bool.and_eq_true] at this
    rw [idx_const p.1 p.2 n h1 h2 Km.tab this.1.1, idx_const p.1 p.2 n h1 h2 Km.ref this.1.2]
    exact this.2
  · rw [idx_out n Km.tab fun r hr => by have := Km.tab_low r hr; omega, idx_out n Km.ref fun r hr => by have := Km.ref_low r hr; omega]
    exact none_same

end Go.Proofs.YtkaaldhejpaiiaaGreatDoor

/- slices.Contains at the four types of a row: the shelf's contract, laid. -/
namespace Go.Proofs.YtkaaldhejpaiiaaGreatDoor
open Go.Shelf Go.Lib

def renKind : Go.Shelf.Ren := ⟨fun | 29 => 132 | 31 => 95 | n => n, fun | 22 => 132 | 23 => 56 | n => n, fun n => n⟩
theorem laysKind : SlLaysE.n31 Tryz.prog renKind := {
  mixed := by kernel_rfl
  f29 := ⟨Tryz.f132.name, by decide, Tryz.func132.trans (congrArg some (by kernel_rfl))⟩
  f31 := ⟨Tryz.f95.name, by decide, Tryz.func95.trans (congrArg some (by kernel_rfl))⟩
  t0 := Tryz.underlying0
  a0 := Tryz.isAgg0
  z0 := Tryz.sizeOf0
  v0 := Tryz.zeroValue0
  t3 := Tryz.underlying3
  a3 := Tryz.isAgg3
  z3 := Tryz.sizeOf3
  v3 := Tryz.zeroValue3
  t4 := Tryz.underlying4
  a4 := Tryz.isAgg4
  z4 := Tryz.sizeOf4
  v4 := Tryz.zeroValue4
  t22 := Tryz.underlying132
  a22 := Tryz.isAgg132
  z22 := Tryz.sizeOf132
  v22 := Tryz.zeroValue132
  a23 := Tryz.isAgg56
  z23 := Tryz.sizeOf56 }
theorem containsKind (b c : Nat) (zs : List Int) (x : Int) (w : World) (hn : zs.length ≤ 100) (hc : ∀ j, j < zs.length → w.cell? ⟨b, j, none⟩ = some (.int .u8 zs[j]!)) :
    Calls Tryz.prog 95 #[.slice (some ⟨b, 0, none⟩) zs.length c, .int .u8 x] w fun e w' => e = .returned (.bool (zs.any fun y => x == y)) ∧ w' = w := by
  have h := AnyE.slices_Contains laysKind (Value.int .u8) (fun x y => x == y) (EqlAt.int _ _ _) b 0 zs.length c zs x w (Nat.le_refl _) (by omega) (fun j hj => by rw [Nat.zero_add]; exact hc j hj)
  rw [List.take_length] at h
  exact h
def renScript : Go.Shelf.Ren := ⟨fun | 29 => 189 | 31 => 165 | n => n, fun | 22 => 192 | 23 => 58 | n => n, fun n => n⟩
theorem laysScript : SlLaysE.n31 Tryz.prog renScript := {
  mixed := by kernel_rfl
  f29 := ⟨Tryz.f189.name, by decide, Tryz.func189.trans (congrArg some (by kernel_rfl))⟩
  f31 := ⟨Tryz.f165.name, by decide, Tryz.func165.trans (congrArg some (by kernel_rfl))⟩
  t0 := Tryz.underlying0
  a0 := Tryz.isAgg0
  z0 := Tryz.sizeOf0
  v0 := Tryz.zeroValue0
  t3 := Tryz.underlying3
  a3 := Tryz.isAgg3
  z3 := Tryz.sizeOf3
  v3 := Tryz.zeroValue3
  t4 := Tryz.underlying4
  a4 := Tryz.isAgg4
  z4 := Tryz.sizeOf4
  v4 := Tryz.zeroValue4
  t22 := Tryz.underlying192
  a22 := Tryz.isAgg192
  z22 := Tryz.sizeOf192
  v22 := Tryz.zeroValue192
  a23 := Tryz.isAgg58
  z23 := Tryz.sizeOf58 }
theorem containsScript (b c : Nat) (zs : List Int) (x : Int) (w : World) (hn : zs.length ≤ 100) (hc : ∀ j, j < zs.length → w.cell? ⟨b, j, none⟩ = some (.int .u8 zs[j]!)) :
    Calls Tryz.prog 165 #[.slice (some ⟨b, 0, none⟩) zs.length c, .int .u8 x] w fun e w' => e = .returned (.bool (zs.any fun y => x == y)) ∧ w' = w := by
  have h := AnyE.slices_Contains laysScript (Value.int .u8) (fun x y => x == y) (EqlAt.int _ _ _) b 0 zs.length c zs x w (Nat.le_refl _) (by omega) (fun j hj => by rw [Nat.zero_add]; exact hc j hj)
  rw [List.take_length] at h
  exact h
def renSide : Go.Shelf.Ren := ⟨fun | 29 => 194 | 31 => 172 | n => n, fun | 22 => 198 | 23 => 57 | n => n, fun n => n⟩
theorem laysSide : SlLaysE.n31 Tryz.prog renSide := {
  mixed := by kernel_rfl
  f29 := ⟨Tryz.f194.name, by decide, Tryz.func194.trans (congrArg some (by kernel_rfl))⟩
  f31 := ⟨Tryz.f172.name, by decide, Tryz.func172.trans (congrArg some (by kernel_rfl))⟩
  t0 := Tryz.underlying0
  a0 := Tryz.isAgg0
  z0 := Tryz.sizeOf0
  v0 := Tryz.zeroValue0
  t3 := Tryz.underlying3
  a3 := Tryz.isAgg3
  z3 := Tryz.sizeOf3
  v3 := Tryz.zeroValue3
  t4 := Tryz.underlying4
  a4 := Tryz.isAgg4
  z4 := Tryz.sizeOf4
  v4 := Tryz.zeroValue4
  t22 := Tryz.underlying198
  a22 := Tryz.isAgg198
  z22 := Tryz.sizeOf198
  v22 := Tryz.zeroValue198
  a23 := Tryz.isAgg57
  z23 := Tryz.sizeOf57 }
theorem containsSide (b c : Nat) (zs : List Int) (x : Int) (w : World) (hn : zs.length ≤ 100) (hc : ∀ j, j < zs.length → w.cell? ⟨b, j, none⟩ = some (.int .u8 zs[j]!)) :
    Calls Tryz.prog 172 #[.slice (some ⟨b, 0, none⟩) zs.length c, .int .u8 x] w fun e w' => e = .returned (.bool (zs.any fun y => x == y)) ∧ w' = w := by
  have h := AnyE.slices_Contains laysSide (Value.int .u8) (fun x y => x == y) (EqlAt.int _ _ _) b 0 zs.length c zs x w (Nat.le_refl _) (by omega) (fun j hj => by rw [Nat.zero_add]; exact hc j hj)
  rw [List.take_length] at h
  exact h
def renJoining : Go.Shelf.Ren := ⟨fun | 29 => 199 | 31 => 190 | n => n, fun | 22 => 211 | 23 => 59 | n => n, fun n => n⟩
theorem laysJoining : SlLaysE.n31 Tryz.prog renJoining := {
  mixed := by kernel_rfl
  f29 := ⟨Tryz.f199.name, by decide, Tryz.func199.trans (congrArg some (by kernel_rfl))⟩
  f31 := ⟨Tryz.f190.name, by decide, Tryz.func190.trans (congrArg some (by kernel_rfl))⟩
  t0 := Tryz.underlying0
  a0 := Tryz.isAgg0
  z0 := Tryz.sizeOf0
  v0 := Tryz.zeroValue0
  t3 := Tryz.underlying3
  a3 := Tryz.isAgg3
  z3 := Tryz.sizeOf3
  v3 := Tryz.zeroValue3
  t4 := Tryz.underlying4
  a4 := Tryz.isAgg4
  z4 := Tryz.sizeOf4
  v4 := Tryz.zeroValue4
  t22 := Tryz.underlying211
  a22 := Tryz.isAgg211
  z22 := Tryz.sizeOf211
  v22 := Tryz.zeroValue211
  a23 := Tryz.isAgg59
  z23 := Tryz.sizeOf59 }
theorem containsJoining (b c : Nat) (zs : List Int) (x : Int) (w : World) (hn : zs.length ≤ 100) (hc : ∀ j, j < zs.length → w.cell? ⟨b, j, none⟩ = some (.int .u8 zs[j]!)) :
    Calls Tryz.prog 190 #[.slice (some ⟨b, 0, none⟩) zs.length c, .int .u8 x] w fun e w' => e = .returned (.bool (zs.any fun y => x == y)) ∧ w' = w := by
  have h := AnyE.slices_Contains laysJoining (Value.int .u8) (fun x y => x == y) (EqlAt.int _ _ _) b 0 zs.length c zs x w (Nat.le_refl _) (by omega) (fun j hj => by rw [Nat.zero_add]; exact hc j hj)
  rw [List.take_length] at h
  exact h
end Go.Proofs.YtkaaldhejpaiiaaGreatDoor

/- A label in memory; what it asks of a place. -/
namespace Go.Proofs.YtkaaldhejpaiiaaGreatDoor
open Go.RowKit

/-- A label lies at b, its signs in row r; the table lies where it should. -/
structure Lab (w : World) (b r : Nat) (L : List Nat) : Prop where
  at0 : ∃ c, w.heap[b]? = some (.cells #[.slice (some ⟨r, 0, none⟩) L.length c] 52 (0, 0))
  row : ∃ cs, w.heap[r]? = some (.cells cs 21 (0, 0)) ∧ ∀ i (_ : i < L.length), cs[i]? = some (rv L[i])
  tab : ∃ tt fr, w.heap[0]? = some (.cells aggK tt fr)
  len : L.length ≤ 9223372036854775807
  sgn : ∀ x ∈ L, x ≤ 1114111

theorem lt_heap {w : World} {k : Nat} {o : Obj} (h : w.heap[k]? = some o) : k < w.heap.size := (Array.getElem?_eq_some_iff.1 h).1
theorem Lab.keep {w w' : World} {b r : Nat} {L : List Nat} (h : Lab w b r L) (hb : Below w.heap.size w w') : Lab w' b r L := by
  obtain ⟨⟨c, h1⟩, ⟨cs, h2, h3⟩, ⟨tt, fr, h4⟩, h5, h6⟩ := h
  exact ⟨⟨c, (hb.block b (lt_heap h1)).trans h1⟩, ⟨cs, (hb.block r (lt_heap h2)).trans h2, h3⟩, ⟨tt, fr, (hb.block 0 (lt_heap h4)).trans h4⟩, h5, h6⟩
theorem Lab.alloc {w : World} {b r : Nat} {L : List Nat} (h : Lab w b r L) (o : Obj) : Lab (w.alloc o) b r L := h.keep ((Below.refl _ _).alloc (Nat.le_refl _) _)
theorem Lab.drew {w : World} {b r : Nat} {L : List Nat} (h : Lab w b r L) : Lab w.drew b r L := h.keep (Below.refl _ _).drew
theorem Lab.cell {w : World} {b r : Nat} {L : List Nat} (h : Lab w b r L) : ∃ c, w.cell? ⟨b, 0, none⟩ = some (.slice (some ⟨r, 0, none⟩) L.length c) := by
  obtain ⟨c, h1⟩ := h.at0
  exact ⟨c, by rw [cell_of_row _ _ _ _ 52 (0, 0) h1]; rfl⟩
theorem Lab.sign {w : World} {b r : Nat} {L : List Nat} (h : Lab w b r L) (i : Nat) (hi : i < L.length) : w.cell? ⟨r, i, none⟩ = some (rv L[i]) := by
  obtain ⟨cs, h2, h3⟩ := h.row
  rw [cell_of_row _ _ _ _ 21 (0, 0) h2]; exact h3 i hi
theorem Lab.lt {w : World} {b r : Nat} {L : List Nat} (h : Lab w b r L) : b < w.heap.size ∧ r < w.heap.size := by
  obtain ⟨c, h1⟩ := h.at0
  obtain ⟨cs, h2, _⟩ := h.row
  exact ⟨lt_heap h1, lt_heap h2⟩
theorem Below.andThen {w w1 w2 : World} (h : Below w.heap.size w w1) (k : Below w1.heap.size w1 w2) : Below w.heap.size w w2 := h.trans (k.mono h.size)
theorem Below.newly {w w1 : World} {o : Obj} (k : Below (w.alloc o).heap.size (w.alloc o) w1) : Below w.heap.size w w1 := Below.andThen ((Below.refl _ _).alloc (Nat.le_refl _) _) k
theorem below_one (w : World) (o : Obj) : Below w.heap.size w (w.alloc o) := (Below.refl _ _).alloc (Nat.le_refl _) _

/-- The sign at a place; the number of its row (33: none). -/
def pkAt (L : List Nat) (p : Int) : Nat := if 0 ≤ p ∧ p < (L.length : Int) then pk ((L.getD p.toNat 0 : Nat) : Int) else 33
theorem pkAt_nat (L : List Nat) (i : Nat) (hi : i < L.length) : pkAt L (i : Int) = pk ((L[i] : Nat) : Int) := by
  unfold pkAt
  rw [if_pos (by omega)]
  simp [List.getD, hi]

set_option maxHeartbeats 1000000 in
theorem has_any {w : World} {b r : Nat} {L : List Nat} (hL : Lab w b r L) (p : Int) :
    Calls Tryz.prog 133 #[.pointer (some ⟨b, 0, none⟩), .int .i64 p] w fun e w' => e = .returned (.bool (decide (0 ≤ p ∧ p < (L.length : Int)))) ∧ w' = w := by
  obtain ⟨c, hc⟩ := hL.cell
  clear hL
  by_cases h0 : 0 ≤ p
  · by_cases h1 : p < (L.length : Int)
    · go_enter Tryz.func133, Tryz.ntmps133
      go_wp2
      go_ret
      exact ⟨by simp [h0, h1], rfl⟩
    · go_enter Tryz.func133, Tryz.ntmps133
      go_wp2
      go_ret
      exact ⟨by simp [h1], rfl⟩
  · go_enter Tryz.func133, Tryz.ntmps133
    go_wp2
    go_ret
    exact ⟨by simp; omega, rfl⟩

theorem fat_any {w : World} {b r : Nat} {L : List Nat} (hL : Lab w b r L) (i : Nat) (hi : i < L.length) :
    Calls Tryz.prog 97 #[.pointer (some ⟨b, 0, none⟩), .int .i64 i] w fun e w' => e = .returned (.int .i32 ((L[i] : Nat) : Int)) ∧ w' = w := by
  obtain ⟨c, hc⟩ := hL.cell
  exact at_any b 0 r L.length c i L[i] w hc hi (hL.sign i hi)
theorem fcount_any {w : World} {b r : Nat} {L : List Nat} (hL : Lab w b r L) :
    Calls Tryz.prog 94 #[.pointer (some ⟨b, 0, none⟩)] w fun e w' => e = .returned (.int .i64 (L.length : Int)) ∧ w' = w := by
  obtain ⟨c, hc⟩ := hL.cell
  exact count_any b 0 _ _ c w hc

set_option maxHeartbeats 1000000 in
theorem stands_any {w : World} {b r : Nat} {L : List Nat} (hL : Lab w b r L) (p : Int) (x : Int) :
    Calls Tryz.prog 140 #[.pointer (some ⟨b, 0, none⟩), .int .i64 p, .int .i32 x] w fun e w' => e = .returned (.bool (decide (0 ≤ p ∧ p < (L.length : Int)) && decide (((L.getD p.toNat 0 : Nat) : Int) = x))) ∧ w' = w := by
  have hh := has_any hL p
  obtain ⟨c, hc⟩ := hL.cell
  by_cases h : 0 ≤ p ∧ p < (L.length : Int)
  · obtain ⟨i, rfl⟩ : ∃ i : Nat, p = (i : Int) := ⟨p.toNat, by omega⟩
    have hi : i < L.length := by omega
    have hs := hL.sign i hi
    unfold rv at hs
    have e1 : L.getD (i : Int).toNat 0 = L[i] := by simp [List.getD, hi]
    rw [e1]
    rw [decide_eq_true h] at hh ⊢
    generalize L[i] = y at *
    have hil : (i : Int) < (L.length : Int) := h.2
    clear hL
    go_enter Tryz.func140, Tryz.ntmps140
    go_wp2_with (go_at_call 133; refine hh.mono ?_; rintro e w' ⟨rfl, hw'⟩; rw [hw']; clear hw')
    go_ret
    refine ⟨?_, rfl⟩
    by_cases hxy : (y : Int) = x <;> simp [hxy]
  · rw [decide_eq_false h] at hh ⊢
    clear hL
    go_enter Tryz.func140, Tryz.ntmps140
    go_wp2_with (go_at_call 133; refine hh.mono ?_; rintro e w' ⟨rfl, hw'⟩; rw [hw']; clear hw')
    go_ret
    exact ⟨by simp, rfl⟩

set_option maxRecDepth 100000 in
set_option maxHeartbeats 1000000 in
theorem rowAt_any {w : World} {b r : Nat} {L : List Nat} (hL : Lab w b r L) (p : Int) (K : Nat) (hK : pkAt L p = K) :
    Calls Tryz.prog 96 #[.pointer (some ⟨b, 0, none⟩), .int .i64 p] w fun e w' => e = .returned (.agg #[.int .i32 (rA K), .int .i32 (rB K), .int .u8 (rC K), .int .u8 (rS K), .int .u8 (rD K), .int .u8 (rE K)]) ∧ Below w.heap.size w w' := by
  have hh := has_any (hL.alloc (.cells #[.int .i32 0, .int .i32 0, .int .u8 0, .int .u8 0, .int .u8 0, .int .u8 0] 61)) p
  by_cases h : 0 ≤ p ∧ p < (L.length : Int)
  · obtain ⟨i, rfl⟩ : ∃ i : Nat, p = (i : Int) := ⟨p.toNat, by omega⟩
    have hi : i < L.length := by omega
    rw [pkAt_nat L i hi] at hK
    have hat := fat_any (hL.alloc (.cells #[.int .i32 0, .int .i32 0, .int .u8 0, .int .u8 0, .int .u8 0, .int .u8 0] 61)) i hi
    obtain ⟨tt, fr, hg⟩ := (hL.alloc (.cells #[.int .i32 0, .int .i32 0, .int .u8 0, .int .u8 0, .int .u8 0, .int .u8 0] 61)).tab
    have hro := rowOf_any ((L[i] : Nat) : Int) _ tt fr hg
    rw [rowVal_idx, hK] at hro
    have hsg : L[i] ≤ 1114111 := hL.sgn _ (List.getElem_mem hi)
    rw [decide_eq_true h] at hh
    generalize L[i] = y at *
    clear hL hg
    go_enter Tryz.func96, Tryz.ntmps96
    go_wp2_with (first | (go_at_call 133; refine hh.mono ?_; rintro e w' ⟨rfl, hw'⟩; rw [hw']; clear hw') | (go_at_call 97; refine hat.mono ?_; rintro e w' ⟨rfl, hw'⟩; rw [hw']; clear hw') | (go_at_call 27; refine hro.mono ?_; rintro e w2 ⟨rfl, hb2⟩; have hr2 : w2.heap[w.heap.size]? = some (.cells #[.int .i32 0, .int .i32 0, .int .u8 0, .int .u8 0, .int .u8 0, .int .u8 0] 61 (0, 0)) := (hb2.block w.heap.size (by simp)).trans (Go.heap_alloc_new w _); have HB2 : Hid (Below w.heap.size w w2) := Below.newly hb2; clear hb2 hro hat hh; obtain ⟨r0, r1, r2, r3, r4, r5⟩ := six hr2; have f0 : ∀ j, w2.frozen? ⟨w.heap.size, j, none⟩ = false := fun j => unfrozen hr2 j))
    have q5 := set6 hr2 (.int .i32 (rA K)) (.int .i32 (rB K)) (.int .u8 (rC K)) (.int .u8 (rS K)) (.int .u8 (rD K)) (.int .u8 (rE K))
    have HB5 : Hid (Below w.heap.size w _) := below6 HB2.out w.heap.size (Nat.le_refl _) (.int .i32 (rA K)) (.int .i32 (rB K)) (.int .u8 (rC K)) (.int .u8 (rS K)) (.int .u8 (rD K)) (.int .u8 (rE K))
    revert q5 HB5
    generalize (((((w2.setCell ⟨w.heap.size, 0, none⟩ (.int .i32 (rA K))).setCell ⟨w.heap.size, 1, none⟩ (.int .i32 (rB K))).setCell ⟨w.heap.size, 2, none⟩ (.int .u8 (rC K))).setCell ⟨w.heap.size, 3, none⟩ (.int .u8 (rS K))).setCell ⟨w.heap.size, 4, none⟩ (.int .u8 (rD K))).setCell ⟨w.heap.size, 5, none⟩ (.int .u8 (rE K)) = w5
    intro q5 HB5
    obtain ⟨s0, s1, s2, s3, s4, s5⟩ := six q5
    exact bodyPost_ret (v := .agg #[.int .i32 (rA K), .int .i32 (rB K), .int .u8 (rC K), .int .u8 (rS K), .int .u8 (rD K), .int .u8 (rE K)]) (by simp [results, Tryz.results96, go_sem, s0, s1, s2, s3, s4, s5]) rfl ⟨rfl, HB5.out⟩
  · rw [decide_eq_false h] at hh
    have hK3 : K = 33 := by rw [← hK]; unfold pkAt; rw [if_neg h]
    subst hK3
    clear hL
    go_enter Tryz.func96, Tryz.ntmps96
    go_wp2_with (go_at_call 133; refine hh.mono ?_; rintro e w' ⟨rfl, hw'⟩; rw [hw']; clear hw')
    exact bodyPost_ret (v := .agg #[.int .i32 0, .int .i32 0, .int .u8 0, .int .u8 0, .int .u8 0, .int .u8 0]) (by simp [results, Tryz.results96, go_sem]) rfl ⟨rfl, below_one _ _⟩
end Go.Proofs.YtkaaldhejpaiiaaGreatDoor

