import Derived.Test.YtkaaldhejpaiiaaGreatDoorBu04
import Derived.Laws.Cover4
import Derived.Deep.RegionWith
import Derived.Deep.RegionLaw
import Derived.Laws.CopyOwn
import Derived.Lib.Overlaps
import Derived.Lib.AppendZeros
/- The walk of readNumber. -/
namespace Go.Proofs.YtkaaldhejpaiiaaGreatDoor
open Go.RowKit

theorem drop_cons (s : ByteArray) (k : Nat) (h : k < s.size) : s.data.toList.drop k = s[k] :: s.data.toList.drop (k + 1) := by
  rw [List.drop_eq_getElem_cons (by simpa using h)]; rfl
theorem rd_nil (bias k s u : Nat) : Pm.rd bias k s u [] = none := by simp [Pm.rd]
theorem rd_bad {bias k s u : Nat} {c : UInt8} {l : List UInt8} (h : Pm.dig c.toNat = none) : Pm.rd bias k s u (c :: l) = none := by simp [Pm.rd, h]
theorem rd_last {bias k s u d : Nat} {c : UInt8} {l : List UInt8} (h : Pm.dig c.toNat = some d) (hd : d < Pm.bnd k bias) : Pm.rd bias k s u (c :: l) = some (s + d * u, l) := by simp [Pm.rd, h, hd]
theorem rd_more {bias k s u d : Nat} {c : UInt8} {l : List UInt8} (h : Pm.dig c.toNat = some d) (hd : ¬ d < Pm.bnd k bias) : Pm.rd bias k s u (c :: l) = Pm.rd bias (k + 1) (s + d * u) (u * (36 - Pm.bnd k bias)) l := by simp [Pm.rd, h, hd]
theorem rd_much {bias k s u d most : Nat} {c : UInt8} {l : List UInt8} (h : Pm.dig c.toNat = some d) (hm : most < s + d * u) : ∀ q r, Pm.rd bias k s u (c :: l) = some (q, r) → most < q := by
  intro q r hr
  by_cases hd : d < Pm.bnd k bias
  · rw [rd_last h hd] at hr; simp at hr; omega
  · rw [rd_more h hd] at hr
    have := Pm.rd_ge bias l _ _ _ _ _ hr
    omega
theorem toList_extract_end (s : ByteArray) (k : Nat) : (s.extract k s.size).data.toList = s.data.toList.drop k := by
  simp only [ByteArray.data_extract, Array.toList_extract, List.extract_eq_take_drop]
  exact List.take_of_length_le (by simp)

def RdOk (s : ByteArray) (bias most : Nat) (e : Ending) : Prop :=
  (∃ (q : Nat) (r : ByteArray), Pm.rd bias 1 0 1 s.data.toList = some (q, r.data.toList) ∧ q ≤ most ∧ r.size < s.size ∧ e = .returned (.tuple #[.int .i64 q, .string r, .bool true])) ∨
  ((∀ q r, Pm.rd bias 1 0 1 s.data.toList = some (q, r) → most < q) ∧ e = .returned (.tuple #[.int .i64 0, .string { data := #[] }, .bool false]))

set_option maxRecDepth 100000 in
set_option maxHeartbeats 2000000 in
theorem readNumber_any (s : ByteArray) (bias most : Nat) (w : World) (hs : s.size ≤ 1000) (hb : bias ≤ 1099511627776) (hm : most ≤ 1115226111) :
    Calls Tryz.prog 181 #[.string s, .int .i64 bias, .int .i64 most] w fun e w' => RdOk s bias most e ∧ ∃ n, w' = w.drewN n := by
  go_enter Tryz.func181, Tryz.ntmps181
  go_wp2
  go_loop [9, 10, 17] (fun sm wt i => ∃ k S U : Nat, k ≤ s.size ∧ i = .int .i64 k ∧ sm = .int .i64 S ∧ wt = .int .i64 U ∧ S ≤ most ∧ U ≤ 35 * most + 1 ∧ Pm.rd bias 1 0 1 s.data.toList = Pm.rd bias (k + 1) S U (s.data.toList.drop k)) (fun _ _ i => s.size - (intOf i).toNat)
  case atStart => exact ⟨0, 0, 1, by omega, rfl, rfl, rfl, by omega, by omega, by simp⟩
  case round =>
    obtain ⟨k, S, U, hk, rfl, rfl, rfl, hS, hU, hrd⟩ := hrel
    have HR : Hid (Pm.rd bias 1 0 1 s.data.toList = Pm.rd bias (k + 1) S U (s.data.toList.drop k)) := hrd
    clear hrd
    by_cases hlt : k < s.size
    · have HC : Hid (s.data.toList.drop k = s[k] :: s.data.toList.drop (k + 1)) := drop_cons s k hlt
      have hcall := fun w => digitOf_any s[k] w
      cases hdg : Pm.dig (s[k]).toNat with
      | none =>
        have HD : Hid (Pm.dig (s[k]).toNat = none) := hdg
        simp only [hdg, Option.getD_none, Option.isSome_none] at hcall
        clear hdg
        go_wp2_with (go_at_call 195; refine (hcall _).mono ?_; rintro e w' ⟨rfl, rfl⟩)
        go_ret3
        exact ⟨Or.inr ⟨by rw [HR.out, HC.out, rd_bad HD.out]; simp, rfl⟩, 0, rfl⟩
      | some d =>
        have HD : Hid (Pm.dig (s[k]).toNat = some d) := hdg
        have hd35 := Pm.dig_le hdg
        simp only [hdg, Option.getD_some, Option.isSome_some] at hcall
        clear hdg
        have HM : Hid (d * U ≤ 35 * (35 * most + 1)) := Nat.mul_le_mul hd35 hU
        have hz2 : (d : Int) * (U : Int) ≤ 1366152006975 := by
          have := HM.out
          have e : (d : Int) * (U : Int) = ((d * U : Nat) : Int) := by simp
          omega
        have hz1 : 0 ≤ (d : Int) * (U : Int) := Int.mul_nonneg (by omega) (by omega)
        have HE : Hid (((S + d * U : Nat) : Int) = (S : Int) + (d : Int) * (U : Int)) := by unfold Hid; simp
        clear hU
        by_cases hbig : (most : Int) < (S : Int) + (d : Int) * (U : Int)
        · go_wp2_with (go_at_call 195; refine (hcall _).mono ?_; rintro e w' ⟨rfl, rfl⟩)
          go_ret3
          exact ⟨Or.inr ⟨by rw [HR.out, HC.out]; exact rd_much HD.out (by have := HE.out; omega), rfl⟩, 0, rfl⟩
        · have hbn := fun w => bound_any (k + 1) bias w (by omega) hb
          have hb1 := Pm.bnd_pos (k + 1) bias
          have hb2 := Pm.bnd_le (k + 1) bias
          obtain ⟨B, hB⟩ : ∃ B, Pm.bnd (k + 1) bias = B := ⟨_, rfl⟩
          have HB : Hid (Pm.bnd (k + 1) bias = B) := hB
          simp only [hB] at hbn hb1 hb2
          clear hB
          have ek : ((k + 1 : Nat) : Int) = (k : Int) + 1 := by omega
          rw [ek] at hbn
          clear ek
          by_cases hlast : (d : Int) < (B : Int)
          · go_wp2_with (first | (go_at_call 195; refine (hcall _).mono ?_; rintro e w' ⟨rfl, rfl⟩) | (go_at_call 196; refine (hbn _).mono ?_; rintro e w' ⟨rfl, rfl⟩))
            go_quiet (fail)
            go_wp2
            go_ret3
            refine ⟨Or.inl ⟨S + d * U, s.extract (k + 1) s.size, ?_, by have := HE.out; omega, ?_, ?_⟩, _, rfl⟩
            · rw [HR.out, HC.out, rd_last HD.out (by rw [HB.out]; omega), toList_extract_end]
            · simp; omega
            · rw [HE.out]; rfl
          · have HU : Hid (U ≤ d * U) := Nat.le_mul_of_pos_left U (by omega)
            have HU2 : Hid (U * (36 - B) ≤ 35 * most) := by
              have h1 := HU.out
              have h2 := HE.out
              have h3 : U * (36 - B) ≤ U * 35 := Nat.mul_le_mul_left U (by omega)
              unfold Hid
              omega
            have hu1 : 0 ≤ (U : Int) * (36 - (B : Int)) := Int.mul_nonneg (by omega) (by omega)
            have HUE : Hid (((U * (36 - B) : Nat) : Int) = (U : Int) * (36 - (B : Int))) := by unfold Hid; rw [Int.natCast_mul, Int.natCast_sub (by omega)]; rfl
            have hu2 : (U : Int) * (36 - (B : Int)) ≤ 1366152006975 := by
              have h1 := HU2.out
              have h2 := HUE.out
              omega
            go_wp2_with (first | (go_at_call 195; refine (hcall _).mono ?_; rintro e w' ⟨rfl, rfl⟩) | (go_at_call 196; refine (hbn _).mono ?_; rintro e w' ⟨rfl, rfl⟩))
            go_round
            case rel => exact ⟨k + 1, S + d * U, U * (36 - B), by omega, by go_num, by rw [HE.out], by rw [HUE.out], by have := HE.out; omega, by have := HU2.out; omega, by rw [HR.out, HC.out, rd_more HD.out (by rw [HB.out]; omega), HB.out]⟩
            case measure => simp [intOf]; omega
    · go_wp2
      go_ret3
      exact ⟨Or.inr ⟨by rw [HR.out, List.drop_eq_nil_of_le (by simp; omega), rd_nil]; simp, rfl⟩, 0, rfl⟩
end Go.Proofs.YtkaaldhejpaiiaaGreatDoor

/- Texts as rows of signs: the two conversions, signs.Of, Count, At, String. -/
namespace Go.Proofs.YtkaaldhejpaiiaaGreatDoor
open Go.RowKit

/-- The runes of a string from a place on, as the conversion reads them. -/
def runesN (s : ByteArray) : Nat → Nat → List Nat
  | 0, _ => []
  | b + 1, i => if i < s.size then (Utf8.decode s i).1 :: runesN s b (i + (Utf8.decode s i).2) else []
def runes (s : ByteArray) : List Nat := runesN s s.size 0
def rv (n : Nat) : Value := .int .i32 (n : Int)
theorem runesFrom_eq (s : ByteArray) : ∀ (b i : Nat) (acc : Array Value), Conv.runesFrom s b i acc = acc ++ ((runesN s b i).map rv).toArray
  | 0, i, acc => by simp [Conv.runesFrom, runesN]
  | b + 1, i, acc => by
    simp only [Conv.runesFrom, runesN]
    split
    · rw [runesFrom_eq s b _ _]
      simp [rv]
    · simp
theorem runesN_len (s : ByteArray) : ∀ b i, (runesN s b i).length ≤ b
  | 0, _ => by simp [runesN]
  | b + 1, i => by
    unfold runesN
    split
    · have := runesN_len s b (i + (Utf8.decode s i).2); simp; omega
    · simp
theorem runes_len (s : ByteArray) : (runes s).length ≤ s.size := runesN_len s _ _

def runeRow (w : World) (s : ByteArray) : Array Value := ((runes s).map rv).toArray ++ Array.replicate (grownCap w (runes s).length 0 21 - (runes s).length) (.int .i32 0)
theorem run_toRunes (s : ByteArray) (w : World) :
    (convert 9 48 (.string s)).run Tryz.prog w = .ok (.slice (some ⟨w.heap.size, 0, none⟩) (runes s).length (grownCap w (runes s).length 0 21)) (w.alloc (.cells (runeRow w s) 21)).drew := by
  have e : Conv.runesFrom s s.size 0 #[] = ((runes s).map rv).toArray := by rw [runesFrom_eq]; simp [runes]
  simp [convert, run_underlying Tryz.underlying9, run_underlying Tryz.underlying48, run_underlying Tryz.underlying21, Conv.stringToRunes, e, Question.forced, newRow]
  exact ⟨rfl, rfl⟩
theorem owns_runeRow (s : ByteArray) (w : World) (base : Nat) (hb : base ≤ w.heap.size) (hs : s.size ≤ 1000) :
    (w.alloc (.cells (runeRow w s) 21)).ownsRow base 21 1 (.slice (some ⟨w.heap.size, 0, none⟩) (runes s).length (grownCap w (runes s).length 0 21)) (runes s).length ((runes s).map rv) := by
  have h1 := grownCap_ge w (runes s).length 0 21
  have h2 := runes_len s
  refine ⟨by simp, .inr ⟨w.heap.size, _, _, rfl, hb, heap_alloc_new w _, h1, grownCap_le_maxLen w _ _ _ (by unfold maxLen; omega), ?_, ?_⟩⟩
  · simp [runeRow]; omega
  · simp [runeRow]

theorem owns_second (s : ByteArray) (w : World) (o o' : Obj) (hs : s.size ≤ 1000) :
    ((w.alloc o).alloc (.cells (runeRow (w.alloc o') s) 21)).drew.ownsRow (w.heap.size + 1) 21 1 (.slice (some ⟨w.heap.size + 1, 0, none⟩) (runes s).length (grownCap (w.alloc o') (runes s).length 0 21)) (runes s).length ((runes s).map rv) := by
  have h := owns_runeRow s (w.alloc o) (w.heap.size + 1) (by simp) hs
  have e : (w.alloc o).heap.size = w.heap.size + 1 := by simp
  rw [e] at h
  exact h
theorem below_drew_alloc2 {w : World} (o1 o2 : Obj) : Below w.heap.size w ((w.alloc o1).alloc o2).drew := (((Below.refl _ _).alloc (Nat.le_refl _) _).alloc (by simp) _).drew
set_option maxHeartbeats 400000 in
theorem of_any (s : ByteArray) (w : World) (hs : s.size ≤ 1000) :
    Calls Tryz.prog 57 #[.string s] w fun e w' => ∃ g c, e = .returned (.agg #[.slice (some ⟨g, 0, none⟩) (runes s).length c]) ∧ w'.ownsRow (w.heap.size + 1) 21 1 (.slice (some ⟨g, 0, none⟩) (runes s).length c) (runes s).length ((runes s).map rv) ∧ Below w.heap.size w w' := by
  have hcv := fun w => run_toRunes s w
  go_enter Tryz.func57, Tryz.ntmps57
  go_wp2
  refine bodyPost_ret (v := .agg #[.slice (some ⟨w.heap.size + 1, 0, none⟩) (runes s).length _]) (by simp [results, Tryz.results57, go_sem]; rfl) rfl ⟨_, _, rfl, ?_, ?_⟩
  · exact owns_second s w _ _ hs
  · exact below_drew_alloc2 _ _

set_option maxHeartbeats 400000 in
theorem count_any (E o : Nat) (a : Option Addr) (n c : Nat) (w : World) (hc : w.cell? ⟨E, o, none⟩ = some (.slice a n c)) :
    Calls Tryz.prog 94 #[.pointer (some ⟨E, o, none⟩)] w fun e w' => e = .returned (.int .i64 n) ∧ w' = w := by
  go_enter Tryz.func94, Tryz.ntmps94
  go_wp2
  go_ret
  exact ⟨rfl, rfl⟩

set_option maxHeartbeats 400000 in
theorem at_any (E o g n c k r : Nat) (w : World) (hc : w.cell? ⟨E, o, none⟩ = some (.slice (some ⟨g, 0, none⟩) n c)) (hk : k < n) (hr : w.cell? ⟨g, k, none⟩ = some (rv r)) :
    Calls Tryz.prog 97 #[.pointer (some ⟨E, o, none⟩), .int .i64 k] w fun e w' => e = .returned (rv r) ∧ w' = w := by
  unfold rv at hr ⊢
  go_enter Tryz.func97, Tryz.ntmps97
  go_wp2
  go_ret
  exact ⟨rfl, rfl⟩

theorem run_ofRunes (w : World) (g n c : Nat) (ns : List Nat) (base : Nat) (h : w.ownsRow base 21 1 (.slice (some ⟨g, 0, none⟩) n c) n (ns.map rv)) :
    (convert 48 9 (.slice (some ⟨g, 0, none⟩) n c)).run Tryz.prog w = .ok (.string (runesBytes (ns.map (fun (x : Nat) => (x : Int))))) w := by
  rw [run_convert_runes_string w 48 9 21 _ _ _ Tryz.underlying48 Tryz.underlying21 Tryz.underlying9]
  have hl : ns.length = n := by have := h.1; simpa using this
  refine run_runesToString w _ _ _ _ ?_
  have := run_loadCells_list (P := Tryz.prog) w ⟨g, 0, none⟩ (ns.map rv) (fun j v hv => h.cells (g := g) rfl j v hv)
  rw [List.length_map, hl] at this
  rw [this]
  congr 2
  simp [rv]

set_option maxHeartbeats 400000 in
theorem string_any (E o g n c : Nat) (ns : List Nat) (base : Nat) (w : World) (hc : w.cell? ⟨E, o, none⟩ = some (.slice (some ⟨g, 0, none⟩) n c)) (h : w.ownsRow base 21 1 (.slice (some ⟨g, 0, none⟩) n c) n (ns.map rv)) :
    Calls Tryz.prog 24 #[.pointer (some ⟨E, o, none⟩)] w fun e w' => e = .returned (.string (runesBytes (ns.map (fun (x : Nat) => (x : Int))))) ∧ w' = w := by
  have hcv := run_ofRunes w g n c ns base h
  clear h
  go_enter Tryz.func24, Tryz.ntmps24
  go_wp2
  go_ret
  exact ⟨rfl, rfl⟩
end Go.Proofs.YtkaaldhejpaiiaaGreatDoor

/- The state's methods: stepsTo, walk, settle, firstState. A state lies in five cells from ⟨E, o⟩ on. -/
namespace Go.Proofs.YtkaaldhejpaiiaaGreatDoor
open Go.RowKit

/-- The state's five cells. -/
structure StAt (w : World) (E o n i len bias : Nat) (begun : Bool) : Prop where
  c0 : w.cell? ⟨E, o, none⟩ = some (.int .i64 n)
  c1 : w.cell? ⟨E, o + 1, none⟩ = some (.int .i64 i)
  c2 : w.cell? ⟨E, o + 2, none⟩ = some (.int .i64 len)
  c3 : w.cell? ⟨E, o + 3, none⟩ = some (.int .i64 bias)
  c4 : w.cell? ⟨E, o + 4, none⟩ = some (.bool begun)

set_option maxHeartbeats 1000000 in
theorem stepsTo_any (E o n i len bias : Nat) (begun : Bool) (size place : Nat) (w : World) (h : StAt w E o n i len bias begun) (h1 : n ≤ size) (h2 : size ≤ 1114111) (h3 : len ≤ 1000) (h4 : place ≤ 1000) (h5 : i ≤ (size - n) * (len + 1) + place) :
    Calls Tryz.prog 171 #[.pointer (some ⟨E, o, none⟩), .int .i64 size, .int .i64 place] w fun e w' => e = .returned (.int .i64 ((size - n) * (len + 1) + place - i : Nat)) ∧ ∃ q, w' = w.drewN q := by
  obtain ⟨c0, c1, c2, _, _⟩ := h
  have hm : ((size : Int) - n) * ((len : Int) + 1) ≤ 1115226111 := by
    have := Nat.mul_le_mul (show size - n ≤ 1114111 by omega) (show len + 1 ≤ 1001 by omega)
    have e : (((size - n) * (len + 1) : Nat) : Int) = ((size : Int) - n) * ((len : Int) + 1) := by rw [Int.natCast_mul, Int.natCast_sub h1]; rfl
    omega
  have hm0 : 0 ≤ ((size : Int) - n) * ((len : Int) + 1) := Int.mul_nonneg (by omega) (by omega)
  have HE : Hid ((((size - n) * (len + 1) + place - i : Nat) : Int) = ((size : Int) - n) * ((len : Int) + 1) + place - i) := by
    unfold Hid
    have e : (((size - n) * (len + 1) : Nat) : Int) = ((size : Int) - n) * ((len : Int) + 1) := by rw [Int.natCast_mul, Int.natCast_sub h1]; rfl
    omega
  have hi : (i : Int) ≤ ((size : Int) - n) * ((len : Int) + 1) + place := by
    have e : (((size - n) * (len + 1) : Nat) : Int) = ((size : Int) - n) * ((len : Int) + 1) := by rw [Int.natCast_mul, Int.natCast_sub h1]; rfl
    omega
  rw [HE.out]
  clear h5
  go_enter Tryz.func171, Tryz.ntmps171
  go_wp2
  go_quiet (fail)
  go_wp2
  go_ret
  exact ⟨rfl, _, rfl⟩

set_option maxHeartbeats 1000000 in
theorem walk_any (E o n i len bias : Nat) (begun : Bool) (q : Nat) (w : World) (h : StAt w E o n i len bias begun) (hf0 : w.frozen? ⟨E, o, none⟩ = false) (hf1 : w.frozen? ⟨E, o + 1, none⟩ = false) (h1 : n ≤ 1114111) (h2 : i ≤ 1000) (h3 : len ≤ 1000) (h4 : q ≤ 1115226111) :
    Calls Tryz.prog 182 #[.pointer (some ⟨E, o, none⟩), .int .i64 q] w fun e w' => e = .returned (.tuple #[]) ∧ ∃ k, w' = (((w.setCell ⟨E, o, none⟩ (.int .i64 (n + (i + q) / (len + 1) : Nat))).setCell ⟨E, o + 1, none⟩ (.int .i64 ((i + q) % (len + 1) : Nat)))).drewN k := by
  obtain ⟨c0, c1, c2, _, _⟩ := h
  have hz : ¬ (len : Int) + 1 = 0 := by omega
  have hq1 : 0 ≤ ((q : Int) + i) / ((len : Int) + 1) := Int.ediv_nonneg (by omega) (by omega)
  have hq2 : ((q : Int) + i) / ((len : Int) + 1) ≤ 1115227111 := Int.ediv_le_of_le_mul (by omega) (by
    have : (1115227111 : Int) * 1 ≤ 1115227111 * ((len : Int) + 1) := Int.mul_le_mul_of_nonneg_left (by omega) (by omega)
    omega)
  have HE : Hid (((n + (i + q) / (len + 1) : Nat) : Int) = (n : Int) + ((q : Int) + i) / ((len : Int) + 1)) := by
    unfold Hid; rw [Nat.add_comm i q]; simp
  have HF : Hid ((((i + q) % (len + 1) : Nat) : Int) = ((q : Int) + i) % ((len : Int) + 1)) := by
    unfold Hid; rw [Nat.add_comm i q]; simp
  rw [HE.out, HF.out]
  go_enter Tryz.func182, Tryz.ntmps182
  go_wp2
  go_region
  all_goals
    go_wp2
    go_end0
    exact ⟨rfl, 1, rfl⟩

set_option maxHeartbeats 2000000 in
theorem settle_any (E o n i len bias : Nat) (begun : Bool) (q : Nat) (w : World) (h : StAt w E o n i len bias begun) (hf1 : w.frozen? ⟨E, o + 1, none⟩ = false) (hf2 : w.frozen? ⟨E, o + 2, none⟩ = false) (hf3 : w.frozen? ⟨E, o + 3, none⟩ = false) (hf4 : w.frozen? ⟨E, o + 4, none⟩ = false) (h2 : i ≤ 1000) (h3 : len ≤ 1000) (h4 : q ≤ 1115226111) :
    Calls Tryz.prog 185 #[.pointer (some ⟨E, o, none⟩), .int .i64 q] w fun e w' => e = .returned (.tuple #[]) ∧ ∃ k, w' = (((((w.setCell ⟨E, o + 2, none⟩ (.int .i64 (len + 1 : Nat))).setCell ⟨E, o + 1, none⟩ (.int .i64 (i + 1 : Nat)))).setCell ⟨E, o + 3, none⟩ (.int .i64 (Pm.biasN q (len + 1) (!begun) : Nat))).setCell ⟨E, o + 4, none⟩ (.bool true)).drewN k := by
  obtain ⟨_, c1, c2, c3, c4⟩ := h
  have e1 : ((len + 1 : Nat) : Int) = (len : Int) + 1 := by omega
  have e2 : ((i + 1 : Nat) : Int) = (i : Int) + 1 := by omega
  have hbb := fun w => biasBehind_any q (len + 1) (!begun) w (by omega) (by omega) (by omega)
  rw [e1] at hbb
  rw [e1, e2]
  clear e1 e2
  generalize Pm.biasN q (len + 1) (!begun) = B at hbb ⊢
  go_enter Tryz.func185, Tryz.ntmps185
  go_wp2
  go_region_with (go_at_call 198; refine (hbb _).mono ?_; rintro e w' ⟨rfl, rfl⟩)
  all_goals
    go_wp2
    go_end0
    exact ⟨rfl, 1, rfl⟩
end Go.Proofs.YtkaaldhejpaiiaaGreatDoor

/- slices.Insert of one rune; Text.Insert. -/
namespace Go.Proofs.YtkaaldhejpaiiaaGreatDoor
open Go.RowKit

theorem info21 : (Tryz.prog.info? 21).map (fun i => (i.zero, i.size, i.bytes)) = some (some (.int .i32 0), 1, 4) := by kernel_rfl
theorem size21 : (Tryz.prog.info? 21).map (·.size) = some 1 := by kernel_rfl

/-- A copy whose run is known, in a plain region and in one that draws. -/
theorem wpList_copyEq {P : Program} (w : World) {ops : Array Oper} {rest : List Oper} {o : Oper} {a : Act} {Q : Exit → Act → World → Prop} (hgd : o.guard = none) (d s : Operand) (t t' : TypeId)
    (ho : o.op = .call { callee := .builtin .copy, args := #[d, s], argTypes := #[t, t'] }) (v u : Value) (hd : a.eval d = v) (hs : a.eval s = u) {v' : Value} {w' : World}
    (hr : (Builtin.copy_ #[t, t'] o.type #[v, u]).run P w = .ok v' w') (h : wpList P ops Q rest (a.put o.dst v') w') : wpList P ops Q (o :: rest) a w := by
  refine wpList_plain hgd fun K hK => ?_
  unfold Oper.wp
  simp [execOp, ho, resolve, invoke, builtin, hd, hs, hr, Result.andThen]
  exact hK _ _ h
theorem step_copyEq {P : Program} {ops : Array Oper} {o : Oper} {a : Act} {w : World} {K : Act → World → Prop} {Q : Exit → Act → World → Prop} {E : Prop} (hgd : o.guard = none) (d s : Operand) (t t' : TypeId)
    (ho : o.op = .call { callee := .builtin .copy, args := #[d, s], argTypes := #[t, t'] }) (v u : Value) (hd : a.eval d = v) (hs : a.eval s = u) {v' : Value} {w' : World}
    (hr : (Builtin.copy_ #[t, t'] o.type #[v, u]).run P w = .ok v' w') (h : K (a.put o.dst v') w') : if Region.wanted o (yielded ops a.tmps) = true then Oper.wp P o a w K Q else E := by
  rw [if_pos (by simp [Region.wanted, hgd])]
  unfold Oper.wp
  simp [execOp, ho, resolve, invoke, builtin, hd, hs, hr, Result.andThen]
  exact h

def InsOk (base n i r : Nat) (xs : List Value) (g : Nat) (w : World) (e : Ending) (w' : World) : Prop :=
  ∃ g' c', e = .returned (.slice (some ⟨g', 0, none⟩) (n + 1) c') ∧ w'.ownsRow base 21 1 (.slice (some ⟨g', 0, none⟩) (n + 1) c') (n + 1) (xs.take i ++ rv r :: xs.drop i) ∧ w.grownBy w' (some g)

theorem own_some {w : World} {base g n c : Nat} {xs : List Value} (h : w.ownsRow base 21 1 (.slice (some ⟨g, 0, none⟩) n c) n xs) : base ≤ g ∧ g < w.heap.size ∧ xs.length = n ∧ ∃ cur, w.heap[g]? = some (.cells cur 21 (0, 0)) ∧ n ≤ c ∧ c ≤ maxLen ∧ cur.size = c ∧ cur.toList.take n = xs := by
  obtain ⟨h1, h2⟩ := h
  rcases h2 with ⟨h2, _⟩ | ⟨g', cap, cur, hv, hb, hg, hn, hm, hs, ht⟩
  · cases h2
  · simp only [Value.slice.injEq, Option.some.injEq, Addr.mk.injEq, and_true, true_and] at hv
    obtain ⟨rfl, rfl⟩ := hv
    exact ⟨hb, (Array.getElem?_eq_some_iff.1 hg).1, by omega, cur, hg, hn, hm, by omega, by simpa using ht⟩

theorem cell_one {w : World} {b : Nat} {v : Value} (hb : w.cell? ⟨b, 0, none⟩ = some v) : ∀ j u, [v][j]? = some u → w.cell? ((⟨b, 0, none⟩ : Addr).add j) = some u := by
  intro j u hj
  match j, hj with
  | 0, hj => simp at hj; subst hj; simpa [Addr.add] using hb
theorem one_rv (r : Nat) : ∀ u ∈ [rv r], u.oneCell' = true := by intro u hu; simp at hu; subst hu; rfl
theorem grown_some {base m : Nat} {w' : World} {v' : Value} {xs : List Value} (h : w'.ownsRow base 21 1 v' m xs) (hne : ¬ v' = .slice none 0 0) : ∃ g' c', v' = .slice (some ⟨g', 0, none⟩) m c' := by
  rcases h.2 with ⟨h2, _⟩ | ⟨g', cap, cur, hv, _⟩
  · exact absurd h2 hne
  · exact ⟨g', cap, hv⟩

set_option maxRecDepth 100000 in
set_option maxHeartbeats 2000000 in
theorem insert_end (base g n c b r : Nat) (xs : List Value) (w : World) (hown : w.ownsRow base 21 1 (.slice (some ⟨g, 0, none⟩) n c) n xs) (hb : w.cell? ⟨b, 0, none⟩ = some (rv r)) (hn : n ≤ 2000) (hbase : base ≤ w.heap.size) :
    Calls Tryz.prog 197 #[.slice (some ⟨g, 0, none⟩) n c, .int .i64 n, .slice (some ⟨b, 0, none⟩) 1 1] w fun e w' => InsOk base n n r xs g w e w' := by
  obtain ⟨_, _, hl, cur, hg, hnc, hcm, hcs, htk⟩ := own_some hown
  clear htk hcs hg
  obtain ⟨i0, hi, hz0, hz1, hz2⟩ := info_parts info21
  have h63 : n + 1 ≤ maxLen := by unfold maxLen; omega
  have h47 : (n + 1) * 4 ≤ 140737488355328 := by omega
  have e1 : xs.take n ++ rv r :: xs.drop n = xs ++ [rv r] := by rw [List.take_of_length_le (by omega), List.drop_eq_nil_of_le (by omega)]
  unfold InsOk
  rw [e1]
  clear e1 hl
  unfold maxLen at hcm
  go_enter Tryz.func197, Tryz.ntmps197
  go_wp2_with (at_builtin; refine wpList_append_own _ rfl (.tmp 23) (.tmp 24) 48 rfl base 21 i0 (.int .i32 0) 1 4 Tryz.underlying48 hi hz0 hz1 hz2 rfl (by decide) _ _ _ rfl hown ⟨b, 0, none⟩ 1 1 [rv r] rfl rfl (cell_one hb) (one_rv r) h63 h47 hbase ?_)
  all_goals
    intro v' w' ho hgr hne
    obtain ⟨g', c', rfl⟩ := grown_some ho hne
    go_wp2
    go_ret
    exact ⟨g', c', rfl, ho, hgr⟩

/-- A row into whose middle a copy went twice. -/
theorem shifted (L xs : List Value) (v : Value) (n i : Nat) (hx : L.take n = xs) (hi : i < n) (hn : n < L.length) :
    let A1 := L.take (i + 1) ++ xs.drop i ++ L.drop (i + 1 + (xs.drop i).length)
    let A2 := A1.take i ++ [v] ++ A1.drop (i + 1)
    A1.length = L.length ∧ A2.length = L.length ∧ A2.take (n + 1) = xs.take i ++ v :: xs.drop i := by
  intro A1 A2
  have hxl : xs.length = n := by rw [← hx, List.length_take]; omega
  have l1 : A1.length = L.length := by simp only [A1, List.length_append, List.length_take, List.length_drop, hxl]; omega
  have e1 : A1.take i = xs.take i := by
    simp only [A1]
    rw [List.append_assoc, List.take_append_of_le_length (by rw [List.length_take]; omega), List.take_take, ← hx, List.take_take]
    congr 1; omega
  have e2 : A1.drop (i + 1) = xs.drop i ++ L.drop (i + 1 + (xs.drop i).length) := by
    simp only [A1]
    rw [List.append_assoc, List.drop_append]
    rw [List.drop_eq_nil_of_le (by rw [List.length_take]; omega), List.length_take, show i + 1 - min (i + 1) L.length = 0 by omega]
    simp
  have e3 : A2 = (xs.take i ++ v :: xs.drop i) ++ L.drop (i + 1 + (xs.drop i).length) := by
    simp only [A2, e1, e2]; simp
  have l3 : (xs.take i ++ v :: xs.drop i).length = n + 1 := by simp [hxl]; omega
  refine ⟨l1, ?_, ?_⟩
  · simp only [A2, List.length_append, List.length_take, List.length_drop, l1, List.length_cons, List.length_nil]; omega
  · rw [e3, List.take_append_of_le_length (by omega), List.take_of_length_le (by omega)]

theorem one_of_map {xs : List Value} {ns : List Nat} (h : xs = ns.map rv) : ∀ v ∈ xs, v.oneCell' = true := by
  intro v hv; rw [h] at hv; obtain ⟨x, _, rfl⟩ := List.mem_map.1 hv; rfl

set_option maxRecDepth 100000 in
set_option maxHeartbeats 2000000 in
theorem insert_room (base g n c i b r : Nat) (xs : List Value) (w : World) (hown : w.ownsRow base 21 1 (.slice (some ⟨g, 0, none⟩) n c) n xs) (h1x : ∀ v ∈ xs, v.oneCell' = true) (hb : w.heap[b]? = some (.cells #[rv r] 21 (0, 0))) (hbg : b ≠ g) (hn : n ≤ 2000) (hi : i < n) (hroom : n < c) :
    Calls Tryz.prog 197 #[.slice (some ⟨g, 0, none⟩) n c, .int .i64 i, .slice (some ⟨b, 0, none⟩) 1 1] w fun e w' => InsOk base n i r xs g w e w' := by
  obtain ⟨hbg0, hglt, hl, cur, hg, hnc, hcm, hcs, htk⟩ := own_some hown
  have S := shifted cur.toList xs (rv r) n i htk hi (by rw [Array.length_toList]; omega)
  obtain ⟨A1, hA1⟩ : ∃ A1, A1 = cur.toList.take (i + 1) ++ xs.drop i ++ cur.toList.drop (i + 1 + (xs.drop i).length) := ⟨_, rfl⟩
  obtain ⟨A2, hA2⟩ : ∃ A2, A2 = A1.take i ++ [rv r] ++ A1.drop (i + 1) := ⟨_, rfl⟩
  simp only [← hA1, ← hA2] at S
  have hcp1 : ∀ W : World, W.heap = w.heap → ∀ ty dl dc sl sc, dl = n - i → sl = n + 1 - i → (Builtin.copy_ #[48, 48] ty #[.slice (some ⟨g, i + 1, none⟩) dl dc, .slice (some ⟨g, i, none⟩) sl sc]).run Tryz.prog W = .ok (goInt (xs.drop i).length) (W.setRow g A1.toArray) := fun W hW ty dl dc sl sc hdl hsl => by
    subst hdl hsl
    rw [run_copy_row Tryz.prog W 48 48 ty 21 g (i + 1) (n - i) dc ⟨g, i, none⟩ (n + 1 - i) sc cur 21 (xs.drop i) Tryz.underlying48 size21 (by rw [hW]; exact hg) (by rw [List.length_drop, hl]; simp only [Nat.min_def]; split <;> omega)
      (fun j v hj => by
        rw [Addr.add_lit, cell_of_row W g (i + j) cur 21 (0, 0) (by rw [hW]; exact hg)]
        rw [List.getElem?_drop, ← htk, List.getElem?_take] at hj
        split at hj
        · simpa using hj
        · cases hj)
      (by rw [List.length_drop, hl]; omega) (fun v hv => h1x v (List.mem_of_mem_drop hv)), hA1]
  have hcp2 : ∀ W : World, W.heap = (w.setRow g A1.toArray).heap → ∀ ty dl dc, dl = n + 1 - i → (Builtin.copy_ #[48, 48] ty #[.slice (some ⟨g, i, none⟩) dl dc, .slice (some ⟨b, 0, none⟩) 1 1]).run Tryz.prog W = .ok (goInt 1) (W.setRow g A2.toArray) := fun W hW ty dl dc hdl => by
    subst hdl
    rw [run_copy_row Tryz.prog W 48 48 ty 21 g i (n + 1 - i) dc ⟨b, 0, none⟩ 1 1 A1.toArray 21 [rv r] Tryz.underlying48 size21 (by rw [hW]; exact setRow_heap w g cur _ 21 _ hg) (by simp only [Nat.min_def, List.length_singleton]; split <;> omega)
      (cell_one (by rw [cell_of_row W b 0 #[rv r] 21 (0, 0) (by rw [hW, setRow_other w g b _ hbg]; exact hb)]; rfl))
      (by simp only [List.length_singleton, List.size_toArray, S.1, Array.length_toList]; omega) (one_rv r), hA2]
    rfl
  clear htk hnc
  unfold InsOk
  unfold maxLen at hcm
  have hz2 : ¬ ((i : Int) = (n : Int)) := by omega
  have hb2 : ¬ (c = i + 1) := by omega
  have hb4 : ¬ (c = i) := by omega
  have hw1 : IntKind.i64.wrap ((i : Int) + 1) = (i : Int) + 1 := by rw [IntKind.wrap_i64]; omega
  have hw2 : (0 : Int) ≤ (i : Int) + 1 := by omega
  have hw3 : (i : Int) ≤ (n : Int) + 1 := by omega
  have hw4 : (i : Int) + 1 ≤ (n : Int) + 1 := by omega
  have hw5 : ((i : Int) + 1).toNat = i + 1 := by omega
  have hw6 : i ≤ n := by omega
  have hov : ∀ lb cb, (callFunc 211 #[.slice (some ⟨b, 0, none⟩) 1 1, .slice (some ⟨g, i + 1, none⟩) lb cb]).run Tryz.prog w = .ok (.value (.bool false)) w := fun lb cb => by
    rw [run_callFunc_extern Tryz.func211 (by kernel_rfl) (by kernel_rfl) (by kernel_rfl) (e := Extern.SlicesOverlaps.overlaps #[48, 48] #[4]) (by kernel_rfl),
      Lib.run_overlaps_apart w 48 4 21 Tryz.underlying48 1 Tryz.sizeOf21 ⟨b, 0, none⟩ ⟨g, i + 1, none⟩ 1 1 lb cb hbg 21 21 1 c (by simp [World.shape?, hb]) (by simp [World.shape?, hg, hcs]) (by omega) (by simp [World.frozen?, hb]) (by simp [World.frozen?, hb])]
    rfl
  have HS : Hid (A1.length = cur.toList.length ∧ A2.length = cur.toList.length ∧ A2.take (n + 1) = xs.take i ++ rv r :: xs.drop i) := S
  have HG : Hid (w.heap[g]? = some (.cells cur 21 (0, 0))) := hg
  have HC : Hid (cur.size = c) := hcs
  have hc1 := fun ty dc sc => hcp1 w.drew rfl ty (n - i) dc (n + 1 - i) sc rfl rfl
  have hc2 := fun ty dc => hcp2 (w.drew.setRow g A1.toArray) rfl ty (n + 1 - i) dc rfl
  clear hg hcs hb hown hA1 hA2 S hl h1x hcp1 hcp2
  go_enter Tryz.func197, Tryz.ntmps197
  go_wp2_with (simp only [hov])
  go_region
  go_wp2
  go_ret
  refine ⟨g, c, rfl, ⟨?_, .inr ⟨g, c, A2.toArray, rfl, hbg0, ?_, by omega, by unfold maxLen; omega, ?_, ?_⟩⟩, ?_⟩
  · have := HS.out.2.2
    rw [← this, List.length_take, HS.out.2.1, Array.length_toList, HC.out]; omega
  · exact setRow_heap _ g _ _ 21 _ (setRow_heap w.drew g cur _ 21 _ HG.out)
  · rw [List.size_toArray, HS.out.2.1, Array.length_toList, HC.out]; omega
  · rw [Nat.mul_one]; exact HS.out.2.2
  · exact ⟨rfl, rfl, rfl, by simp, fun k hk hne => by
      have hkg : k ≠ g := fun e => hne (by rw [e])
      rw [setRow_other _ g k _ hkg, setRow_other _ g k _ hkg]; rfl⟩
end Go.Proofs.YtkaaldhejpaiiaaGreatDoor

/- slices.Insert of one rune where the row must grow; Text.Insert. -/
namespace Go.Proofs.YtkaaldhejpaiiaaGreatDoor
open Go.RowKit

set_option maxRecDepth 100000 in
theorem run_append_zeros (w : World) (ty : TypeId) (g i c m : Nat) (olds : List Value) (hl : olds.length = i) (holds : ∀ j v, olds[j]? = some v → w.cell? ((⟨g, 0, none⟩ : Addr).add j) = some v) (hm : 0 < m) (hc : c < i + m) (hs : i + m ≤ 3000) :
    ∃ Z : List Value, (Builtin.append_ #[48, 3] ty #[.slice (some ⟨g, 0, none⟩) i c, .int .i64 m]).run Tryz.prog w = .ok (.slice (some ⟨w.heap.size, 0, none⟩) (i + m) (grownCap w (i + m) c 21)) (w.drew.alloc (.cells (olds ++ Z).toArray 21)) ∧ (olds ++ Z).length = grownCap w (i + m) c 21 := by
  obtain ⟨i0, hi, hz0, hz1, hz2⟩ := info_parts info21
  have hn : ¬ (i + m ≤ c) := by omega
  have hw : IntKind.i64.wrap (m : Int) = m := by rw [IntKind.wrap_i64]; omega
  have h63 : ¬ (9223372036854775807 < ((i : Int) + (m : Int))) := by omega
  have h48 : ¬ (281474976710656 < Builtin.nextslicecap (i + m) c * i0.bytes) := by
    have := growslice_fits (need := i + m) (old := c) (bytes := 4) (by omega) (by omega)
    rw [hz2]; omega
  have h48i : ¬ (281474976710656 < (m : Int) * (i0.bytes : Int)) := by rw [hz2]; omega
  have hneg : ¬ ((m : Int) < 0) := by omega
  have hm0 : m ≠ 0 := by omega
  have hfo := run_firstCells_some (P := Tryz.prog) w.drew 1 i ⟨g, 0, none⟩ i c olds (by omega) (by simpa using holds)
  have hge := grownCap_ge w (i + m) c 21
  refine ⟨(Builtin.zeroCells #[.int .i32 0] m).toList ++ (Builtin.zeroCells #[.int .i32 0] (grownCap w (i + m) c 21 - (i + m))).toList, ?_, ?_⟩
  · simp [Builtin.append_, run_underlying Tryz.underlying48, run_underlying Tryz.underlying3, sizeOf, typeInfo, zeroValue, hi, hz0, hz1, asInt, asIntOf, hw, hn, hneg, hm0, h63, h48, h48i, Question.forced, hfo, newRow, grownCap]
    congr 2
    apply Array.ext'
    simp [Value.cells]
  · have z1 := size_zeroCells #[.int .i32 0] m
    have z2 := size_zeroCells #[.int .i32 0] (grownCap w (i + m) c 21 - (i + m))
    simp only [List.length_append, Array.length_toList, z1, z2, hl, List.size_toArray, List.length_singleton]
    omega

theorem spread (L xs : List Value) (v : Value) (n i : Nat) (hxl : xs.length = n) (hi : i < n) (e0 : L.take i = xs.take i) (hz : n + 1 ≤ L.length) :
    let C1 := L.take i ++ [v] ++ L.drop (i + 1)
    let C2 := C1.take (i + 1) ++ xs.drop i ++ C1.drop (i + 1 + (xs.drop i).length)
    C1.length = L.length ∧ C2.length = L.length ∧ C2.take (n + 1) = xs.take i ++ v :: xs.drop i := by
  intro C1 C2
  have l1 : C1.length = L.length := by simp only [C1, List.length_append, List.length_take, List.length_drop, List.length_singleton]; omega
  have e1 : C1.take (i + 1) = xs.take i ++ [v] := by
    simp only [C1]
    rw [e0, List.take_append_of_le_length (by simp [hxl]; omega), List.take_of_length_le (by simp [hxl]; omega)]
  have e3 : C2 = (xs.take i ++ v :: xs.drop i) ++ C1.drop (i + 1 + (xs.drop i).length) := by
    simp only [C2, e1]; simp
  have l3 : (xs.take i ++ v :: xs.drop i).length = n + 1 := by simp [hxl]; omega
  refine ⟨l1, ?_, ?_⟩
  · rw [e3, List.length_append, l3, List.length_drop, List.length_drop, l1, hxl]; omega
  · rw [e3, List.take_append_of_le_length (by omega), List.take_of_length_le (by omega)]

set_option maxRecDepth 100000 in
set_option maxHeartbeats 2000000 in
theorem insert_grow (base g n c i b r : Nat) (xs : List Value) (w : World) (hown : w.ownsRow base 21 1 (.slice (some ⟨g, 0, none⟩) n c) n xs) (h1x : ∀ v ∈ xs, v.oneCell' = true) (hb : w.heap[b]? = some (.cells #[rv r] 21 (0, 0))) (hn : n ≤ 2000) (hi : i < n) (hroom : ¬ n < c) (hbase : base ≤ w.heap.size) :
    Calls Tryz.prog 197 #[.slice (some ⟨g, 0, none⟩) n c, .int .i64 i, .slice (some ⟨b, 0, none⟩) 1 1] w fun e w' => InsOk base n i r xs g w e w' := by
  obtain ⟨hbg0, hglt, hl, cur, hg, hnc, hcm, hcs, htk⟩ := own_some hown
  have hcells := hown.cells (g := g) rfl
  have hblt : b < w.heap.size := (Array.getElem?_eq_some_iff.1 hb).1
  have hm1 : ((n + 1 - i : Nat) : Int) = (n : Int) + 1 - i := by omega
  obtain ⟨Z, hrun, hZ⟩ := run_append_zeros w 48 g i c (n + 1 - i) (xs.take i) (by rw [List.length_take]; omega) (fun j v hj => hcells j v (by rw [List.getElem?_take] at hj; split at hj; exact hj; cases hj)) (by omega) (by omega) (by omega)
  rw [show i + (n + 1 - i) = n + 1 by omega] at hrun hZ
  rw [hm1] at hrun
  clear hm1
  have hge := grownCap_ge w (n + 1) c 21
  have hle := grownCap_le_maxLen w (n + 1) c 21 (by unfold maxLen; omega)
  obtain ⟨c', hc'⟩ : ∃ c', grownCap w (n + 1) c 21 = c' := ⟨_, rfl⟩
  rw [hc'] at hrun hZ hge hle
  clear hc'
  have S := spread (xs.take i ++ Z) xs (rv r) n i hl hi (by rw [List.take_append_of_le_length (by rw [List.length_take]; omega), List.take_take, Nat.min_self]) (by omega)
  obtain ⟨C0, hC0⟩ : ∃ C0, C0 = xs.take i ++ Z := ⟨_, rfl⟩
  rw [← hC0] at hrun hZ
  simp only [← hC0] at S
  obtain ⟨C1, hC1⟩ : ∃ C1, C1 = C0.take i ++ [rv r] ++ C0.drop (i + 1) := ⟨_, rfl⟩
  obtain ⟨C2, hC2⟩ : ∃ C2, C2 = C1.take (i + 1) ++ xs.drop i ++ C1.drop (i + 1 + (xs.drop i).length) := ⟨_, rfl⟩
  simp only [← hC1, ← hC2] at S
  obtain ⟨G, hG⟩ : ∃ G, G = w.heap.size := ⟨_, rfl⟩
  have hnew : ∀ o : Obj, (w.alloc o).heap[G]? = some o := fun o => by rw [hG]; exact Go.heap_alloc_new w o
  have hold : ∀ (o : Obj) (k : Nat), k < G → (w.alloc o).heap[k]? = w.heap[k]? := fun o k hk => Below.heap_alloc w o k (by omega)
  have hcp1 : ∀ ty dc, (Builtin.copy_ #[48, 48] ty #[.slice (some ⟨G, i, none⟩) (n + 1 - i) dc, .slice (some ⟨b, 0, none⟩) 1 1]).run Tryz.prog (w.alloc (.cells C0.toArray 21)).drew = .ok (goInt 1) ((w.alloc (.cells C0.toArray 21)).drew.setRow G C1.toArray) := fun ty dc => by
    rw [run_copy_row Tryz.prog (w.alloc (.cells C0.toArray 21)).drew 48 48 ty 21 G i (n + 1 - i) dc ⟨b, 0, none⟩ 1 1 C0.toArray 21 [rv r] Tryz.underlying48 size21 (hnew _) (by simp only [Nat.min_def, List.length_singleton]; split <;> omega)
      (cell_one (by rw [cell_of_row _ b 0 #[rv r] 21 (0, 0) (by rw [show (w.alloc (.cells C0.toArray 21)).drew.heap = (w.alloc (.cells C0.toArray 21)).heap from rfl, hold _ b (by omega)]; exact hb)]; rfl))
      (by simp only [List.length_singleton, List.size_toArray, hZ]; omega) (one_rv r), hC1]
    rfl
  have hcp2 : ∀ ty dc sc, (Builtin.copy_ #[48, 48] ty #[.slice (some ⟨G, i + 1, none⟩) (n - i) dc, .slice (some ⟨g, i, none⟩) (n - i) sc]).run Tryz.prog ((w.alloc (.cells C0.toArray 21)).drew.setRow G C1.toArray).drew = .ok (goInt (xs.drop i).length) (((w.alloc (.cells C0.toArray 21)).drew.setRow G C1.toArray).drew.setRow G C2.toArray) := fun ty dc sc => by
    rw [run_copy_row Tryz.prog ((w.alloc (.cells C0.toArray 21)).drew.setRow G C1.toArray).drew 48 48 ty 21 G (i + 1) (n - i) dc ⟨g, i, none⟩ (n - i) sc C1.toArray 21 (xs.drop i) Tryz.underlying48 size21 (setRow_heap _ G C0.toArray _ 21 _ (hnew _)) (by rw [List.length_drop, hl]; simp only [Nat.min_def]; split <;> omega)
      (fun j v hj => by
        rw [Addr.add_lit, cell_of_row _ g (i + j) cur 21 (0, 0) (by
          rw [show ((w.alloc (.cells C0.toArray 21)).drew.setRow G C1.toArray).drew.heap = ((w.alloc (.cells C0.toArray 21)).drew.setRow G C1.toArray).heap from rfl, setRow_other _ G g _ (by omega), show (w.alloc (.cells C0.toArray 21)).drew.heap = (w.alloc (.cells C0.toArray 21)).heap from rfl, hold _ g (by omega)]
          exact hg)]
        rw [List.getElem?_drop, ← htk, List.getElem?_take] at hj
        split at hj
        · simpa using hj
        · cases hj)
      (by rw [List.length_drop, hl, List.size_toArray, S.1, hZ]; omega) (fun v hv => h1x v (List.mem_of_mem_drop hv)), hC2]
  unfold InsOk
  unfold maxLen at hcm hle
  have hz2 : ¬ ((i : Int) = (n : Int)) := by omega
  have hb2 : ¬ (c = i + 1) ∨ True := Or.inr trivial
  have hb4 : ¬ (c = i) := by omega
  have hb5 : ¬ (c' = i) := by omega
  have hb6 : ¬ (c' = i + 1) := by omega
  have hw1 : IntKind.i64.wrap ((i : Int) + 1) = (i : Int) + 1 := by rw [IntKind.wrap_i64]; omega
  have hw2 : (0 : Int) ≤ (i : Int) + 1 := by omega
  have hw3 : (i : Int) ≤ (n : Int) + 1 := by omega
  have hw4 : (i : Int) + 1 ≤ (n : Int) + 1 := by omega
  have hw5 : ((i : Int) + 1).toNat = i + 1 := by omega
  have hw6 : i ≤ n := by omega
  have hw7 : i ≤ c := by omega
  have HS : Hid (C1.length = C0.length ∧ C2.length = C0.length ∧ C2.take (n + 1) = xs.take i ++ rv r :: xs.drop i) := S
  have HZ : Hid (C0.length = c') := hZ
  have HG : Hid (G = w.heap.size) := hG
  have HH : Hid (∀ o : Obj, (w.alloc o).heap[G]? = some o) := hnew
  have HO : Hid (∀ (o : Obj) (k : Nat), k < G → (w.alloc o).heap[k]? = w.heap[k]?) := hold
  rw [← hG] at hrun
  clear hg hcs hb hown hC0 hC1 hC2 S hl h1x hZ hnew hold htk hnc hcells hb2 hG
  go_enter Tryz.func197, Tryz.ntmps197
  go_wp2_with (at_builtin; refine Lib.wpList_append_run _ rfl (.tmp 34) (.tmp 39) 48 3 rfl _ _ rfl rfl _ _ hrun ?_)
  go_region
  go_wp2
  go_ret
  refine ⟨G, c', rfl, ⟨?_, .inr ⟨G, c', C2.toArray, rfl, by rw [HG.out]; exact hbase, ?_, by omega, by unfold maxLen; omega, ?_, ?_⟩⟩, ?_⟩
  · have := HS.out.2.2
    rw [← this, List.length_take, HS.out.2.1, HZ.out]; omega
  · exact setRow_heap _ G C1.toArray _ 21 (0, 0) (setRow_heap _ G C0.toArray _ 21 (0, 0) (HH.out (.cells C0.toArray 21)))
  · rw [List.size_toArray, HS.out.2.1, HZ.out]; omega
  · rw [Nat.mul_one]; exact HS.out.2.2
  · have hsz : w.heap.size = G := HG.out.symm
    exact ⟨rfl, rfl, rfl, by simp, fun k hk _ => by
      have hkg : k ≠ G := by omega
      rw [setRow_other _ G k C2.toArray hkg]
      exact (setRow_other (w.alloc (.cells C0.toArray 21)).drew G k C1.toArray hkg).trans (HO.out (.cells C0.toArray 21) k (by omega))⟩

theorem insertS_any (base g n c i b r : Nat) (xs : List Value) (w : World) (hown : w.ownsRow base 21 1 (.slice (some ⟨g, 0, none⟩) n c) n xs) (h1x : ∀ v ∈ xs, v.oneCell' = true) (hb : w.heap[b]? = some (.cells #[rv r] 21 (0, 0))) (hbg : b ≠ g) (hn : n ≤ 2000) (hi : i ≤ n) (hbase : base ≤ w.heap.size) :
    Calls Tryz.prog 197 #[.slice (some ⟨g, 0, none⟩) n c, .int .i64 i, .slice (some ⟨b, 0, none⟩) 1 1] w fun e w' => InsOk base n i r xs g w e w' := by
  by_cases h : i = n
  · subst h
    exact insert_end base g i c b r xs w hown (by rw [cell_of_row w b 0 #[rv r] 21 (0, 0) hb]; rfl) hn hbase
  · by_cases hr : n < c
    · exact insert_room base g n c i b r xs w hown h1x hb hbg hn (by omega) hr
    · exact insert_grow base g n c i b r xs w hown h1x hb hn (by omega) hr hbase
end Go.Proofs.YtkaaldhejpaiiaaGreatDoor

