/- The walk of the law Plain. -/
import Derived.Test.YtkaaldhejpaiiaaDoorRa
namespace Go.Proofs.YtkaaldhejpaiiaaDoor
open Go.RowKit

set_option maxHeartbeats 1000000 in
theorem pick_any (c : Int) (w : World) (h1 : -9223372036854775808 ≤ c) (h2 : c ≤ 9223372036854775807) :
    Calls Tryd.prog 14 #[.int .i64 c, .int .i64 128] w fun e w' => (∃ p : Nat, p < 128 ∧ e = .returned (.int .i64 (p : Int))) ∧ w' = w := by
  by_cases hc : c < 0
  · have hn : 0 ≤ -(c + 1) := by omega
    go_enter Tryd.func14, Tryd.ntmps14
    go_wp2
    go_ret
    refine ⟨⟨((-(c + 1)) % 128).toNat, by omega, ret_int ?_⟩, rfl⟩
    rw [← Int.neg_tmod, Int.tmod_eq_emod_of_nonneg hn]
    omega
  · go_enter Tryd.func14, Tryd.ntmps14
    go_wp2
    go_ret
    refine ⟨⟨(c % 128).toNat, by omega, ret_int ?_⟩, rfl⟩
    first | omega | (rw [Int.tmod_eq_emod_of_nonneg (by omega)]; omega)
theorem run_oneString (W : World) (p : Nat) (hp : p < 128) :
    (convert 33 9 (.slice (some ⟨W.heap.size, 0, none⟩) 1 1)).run Tryd.prog (W.alloc (.cells #[.int .u8 (p : Int)] 5)) = .ok (.string ⟨#[UInt8.ofNat p]⟩) (W.alloc (.cells #[.int .u8 (p : Int)] 5)) := by
  have ho : (W.alloc (.cells #[.int .u8 (p : Int)] 5)).ownsRow 0 5 1 (.slice (some ⟨W.heap.size, 0, none⟩) 1 1) 1 ([UInt8.ofNat p].map bv) := by
    refine ⟨rfl, .inr ⟨W.heap.size, 1, _, rfl, Nat.zero_le _, Go.heap_alloc_new W _, Nat.le_refl _, by unfold maxLen; omega, rfl, ?_⟩⟩
    simp [bv]
    omega
  exact run_formString _ 0 1 _ [UInt8.ofNat p] rfl ho

def oneA : ByteArray := { data := #[97] }
def oneAH : ByteArray := { data := #[97, 45] }
set_option maxRecDepth 100000 in
set_option maxHeartbeats 4000000 in
theorem plain_any (a : Option Addr) (len cap : Nat) (w : World) (hT : Lib.Utf8Tabs 0 1 w) (hlen : len ≤ 9223372036854775807)
    (hcell : ∀ i, i < len → ∃ b off z, a = some ⟨b, off, none⟩ ∧ b < w.heap.size ∧ w.cell? ⟨b, off + i, none⟩ = some (.int .i64 z) ∧ -9223372036854775808 ≤ z ∧ z ≤ 9223372036854775807) :
    Calls Tryd.prog 6 #[.slice a len cap] w fun e w' => e = .returned (.bool true) ∧ Below w.heap.size w w' := by
  go_enter Tryd.func6, Tryd.ntmps6
  go_wp2
  go_loopw [3, 4] (fun sv iv wr => ∃ (k : Nat) (s : ByteArray), k ≤ len ∧ k ≤ 500 ∧ iv = .int .i64 k ∧ sv = .string s ∧ s.size = k ∧ ascB s.data.toList = true ∧ Below w.heap.size w wr) (fun _ iv _ => len - (intOf iv).toNat)
  case atStart => exact ⟨0, { data := #[] }, by omega, by omega, rfl, rfl, rfl, rfl, Below.refl _ _⟩
  case round =>
    obtain ⟨k, s, hk, hk5, rfl, rfl, hsz, hasc, hbw⟩ := hrel
    have HS : Hid (s.size = k) := hsz
    have HA : Hid (ascB s.data.toList = true) := hasc
    clear hsz hasc
    by_cases hlt : k < len ∧ k < 500
    · obtain ⟨hl1, hl2⟩ := hlt
      obtain ⟨b, off, z, rfl, hbl, hc, hz1, hz2⟩ := hcell k hl1
      have hc1 : wr.cell? ⟨b, off + k, none⟩ = some (.int .i64 z) := (hbw.cell (p := ⟨b, off + k, none⟩) hbl).trans hc
      have hpk := pick_any z wr hz1 hz2
      clear hc hcell
      go_wp2_with fail
      refine hpk.mono ?_
      rintro e w' ⟨⟨p, hp, rfl⟩, hw'⟩; rw [hw']; clear hw'
      have hwr : IntKind.u8.wrap (p : Int) = p := by rw [IntKind.wrap_u8]; omega
      have hcv := run_oneString wr p hp
      have h63 : s.size + 1 ≤ 9223372036854775807 := by rw [HS.out]; omega
      clear hpk
      go_wp2
      go_roundw
      case rel =>
        refine ⟨k + 1, s ++ ⟨#[UInt8.ofNat p]⟩, by omega, by omega, by go_num, rfl, ?_, ?_, hbw.alloc hbw.size _⟩
        · rw [ByteArray.size_append, HS.out]; rfl
        · rw [append_bytes, ascB_snoc, HA.out]; simp; omega
      case measure => simp [intOf]; omega
    · have hTr := Utf8Tabs_below hT hbw
      obtain ⟨t1, ht1⟩ : ∃ t1 : ByteArray, t1 = s ++ ⟨#[97]⟩ := ⟨_, rfl⟩
      obtain ⟨t2, ht2⟩ : ∃ t2 : ByteArray, t2 = s ++ ⟨#[97, 45]⟩ := ⟨_, rfl⟩
      have d1 : t1.data.toList = s.data.toList ++ [97] := by rw [ht1, append_bytes]
      have d2 : t2.data.toList = (s.data.toList ++ [97]) ++ [45] := by rw [ht2, append_bytes]; simp
      have a1 : ascB (s.data.toList ++ [97]) = true := by rw [ascB_snoc, HA.out]; rfl
      have z1 : t1.size = k + 1 := by rw [ht1, ByteArray.size_append, HS.out]; rfl
      have z2 : t2.size = k + 2 := by rw [ht2, ByteArray.size_append, HS.out]; rfl
      have hne : s.data.toList ++ [97] ≠ [] := by simp
      have e1 : (⟨(encS (runes t1) []).toArray⟩ : ByteArray) = t2 := by
        rw [encS_asc (by rw [d1]; exact a1) (by rw [d1]; exact hne), d1, ← d2]
      have e2 : decodeS t2 = some ((s.data.toList ++ [97]).map (fun (x : UInt8) => x.toNat)) := decodeS_plain _ d2 hne a1 (by omega)
      have e3 : (⟨(s.data.toList ++ [97]).toArray⟩ : ByteArray) = t1 := by rw [← d1]
      have hEn := fun W (hW : Lib.Utf8Tabs 0 1 W) => Encode_ok t1 W [] [] hW (validD_asc (by rw [d1]; exact a1)) (by omega) (by rw [runes_asc (by rw [d1]; exact a1)]; unfold bytesN; rw [d1, oth_asc a1]; exact sortOk_few [] (by simp)) (compOk_few [] (by simp)) trivial (by simp)
      have hDe := fun W => Decode_any t2 W (by omega)
      rw [e1] at hEn
      rw [e2, decodeV, runesBytes_asc a1, e3] at hDe
      have hEn1 := hEn wr hTr
      have g63 : s.size + 1 ≤ 9223372036854775807 := by rw [HS.out]; omega
      have g64 : s.size + 2 ≤ 9223372036854775807 := by rw [HS.out]; omega
      clear hEn e1 e2 e3 d1 d2 a1 z1 z2 hne hTr
      rw [ht1, ht2] at hEn1 hDe
      clear ht1 ht2
      have hcase : ¬ ((k : Int) < (len : Int)) ∨ ¬ ((k : Int) < 500) := by omega
      by_cases hkl : (k : Int) < (len : Int)
      all_goals
        go_wp2_with (first | (go_at_call 9; refine hEn1.mono ?_; rintro e w1 ⟨rfl, hb1⟩) | (go_at_call 12; refine (hDe _).mono ?_; rintro e w2 ⟨rfl, hb2⟩))
        go_ret
        exact ⟨by simp, (hbw.trans (hb1.mono hbw.size)).trans (hb2.mono (Nat.le_trans hbw.size hb1.size))⟩
end Go.Proofs.YtkaaldhejpaiiaaDoor
