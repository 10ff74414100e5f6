/- Writing numbers: the mathematics, and appendNumber. -/
import Derived.Test.YtkaaldhejpaiiaaGreatDoorPi
import Derived.Deep.LoopGhost
import Derived.Deep.RegionHeld3
namespace Go.Proofs.YtkaaldhejpaiiaaGreatDoor
open Go.RowKit

/-- A digit as a byte. -/
def dchar (d : Nat) : UInt8 := if d < 26 then UInt8.ofNat (97 + d) else UInt8.ofNat (48 + (d - 26))
/-- A number, written. -/
def wnum (bias : Nat) : Nat → Nat → Nat → List UInt8
  | 0, _, _ => []
  | f + 1, k, q => if q < Pm.bnd k bias then [dchar q] else dchar (Pm.bnd k bias + (q - Pm.bnd k bias) % (36 - Pm.bnd k bias)) :: wnum bias f (k + 1) ((q - Pm.bnd k bias) / (36 - Pm.bnd k bias))
theorem wnum_fuel (bias : Nat) : ∀ (f g k q : Nat), q < f → q < g → wnum bias f k q = wnum bias g k q
  | 0, _, _, _, h, _ => absurd h (by omega)
  | f + 1, 0, _, _, _, h => absurd h (by omega)
  | f + 1, g + 1, k, q, h1, h2 => by
    unfold wnum
    split
    · rfl
    · rename_i hq
      have hb1 := Pm.bnd_pos k bias
      have hb2 := Pm.bnd_le k bias
      have h3 : (q - Pm.bnd k bias) / (36 - Pm.bnd k bias) ≤ q - Pm.bnd k bias := Nat.div_le_self _ _
      rw [wnum_fuel bias f g (k + 1) _ (by omega) (by omega)]
def bv (c : UInt8) : Value := .int .u8 (c.toNat : Int)
theorem index_dig (w : World) : ∀ d : Nat, d < 36 → (Instr.index 9 (.string { data := #[97, 98, 99, 100, 101, 102, 103, 104, 105, 106, 107, 108, 109, 110, 111, 112, 113, 114, 115, 116, 117, 118, 119, 120, 121, 122, 48, 49, 50, 51, 52, 53, 54, 55, 56, 57] }) (.int .i64 d)).run Tryz.prog w = .ok (bv (dchar d)) w
  | 0, _ => by kernel_rfl
  | 1, _ => by kernel_rfl
  | 2, _ => by kernel_rfl
  | 3, _ => by kernel_rfl
  | 4, _ => by kernel_rfl
  | 5, _ => by kernel_rfl
  | 6, _ => by kernel_rfl
  | 7, _ => by kernel_rfl
  | 8, _ => by kernel_rfl
  | 9, _ => by kernel_rfl
  | 10, _ => by kernel_rfl
  | 11, _ => by kernel_rfl
  | 12, _ => by kernel_rfl
  | 13, _ => by kernel_rfl
  | 14, _ => by kernel_rfl
  | 15, _ => by kernel_rfl
  | 16, _ => by kernel_rfl
  | 17, _ => by kernel_rfl
  | 18, _ => by kernel_rfl
  | 19, _ => by kernel_rfl
  | 20, _ => by kernel_rfl
  | 21, _ => by kernel_rfl
  | 22, _ => by kernel_rfl
  | 23, _ => by kernel_rfl
  | 24, _ => by kernel_rfl
  | 25, _ => by kernel_rfl
  | 26, _ => by kernel_rfl
  | 27, _ => by kernel_rfl
  | 28, _ => by kernel_rfl
  | 29, _ => by kernel_rfl
  | 30, _ => by kernel_rfl
  | 31, _ => by kernel_rfl
  | 32, _ => by kernel_rfl
  | 33, _ => by kernel_rfl
  | 34, _ => by kernel_rfl
  | 35, _ => by kernel_rfl
  | d + 36, h => absurd h (by omega)
theorem wpList_indexEq {P : Program} {w : World} {ops : Array Oper} {rest : List Oper} {o : Oper} {a : Act} {Q : Exit → Act → World → Prop} (hgd : o.guard = none) (t : TypeId) (x ix : Operand) (ho : o.op = .index t x ix) (vx vi v : Value) (hx : a.eval x = vx) (hi : a.eval ix = vi)
    (hr : (Instr.index t vx vi).run P w = .ok v w) (h : wpList P ops Q rest (a.put o.dst v) w) : wpList P ops Q (o :: rest) a w := by
  refine wpList_plain hgd fun K hK => ?_
  unfold Oper.wp execOp
  simp only [ho, hx, hi, Sem.run_bind, hr, Result.andThen_ok]
  exact hK _ _ h
theorem info5 : (Tryz.prog.info? 5).map (fun i => (i.zero, i.size, i.bytes)) = some (some (.int .u8 0), 1, 1) := by kernel_rfl

/-- Blocks that are no rows of bytes and no encoder's stay; what lies below B stays. -/
structure KT (B : Nat) (w w' : World) : Prop where
  os : w'.os = w.os
  tape : w'.tape = w.tape
  output : w'.output = w.output
  size : w.heap.size ≤ w'.heap.size
  low : ∀ k, k < B → w'.heap[k]? = w.heap[k]?
  typ : ∀ (k : Nat) (cs : Array Value) (t : TypeId) (fr : Nat × Nat), w.heap[k]? = some (Obj.cells cs t fr) → t ≠ 5 → t ≠ 176 → w'.heap[k]? = some (Obj.cells cs t fr)
/-- The same, encoders' blocks too. -/
structure K5 (B : Nat) (w w' : World) : Prop where
  os : w'.os = w.os
  tape : w'.tape = w.tape
  output : w'.output = w.output
  size : w.heap.size ≤ w'.heap.size
  low : ∀ k, k < B → w'.heap[k]? = w.heap[k]?
  typ : ∀ (k : Nat) (cs : Array Value) (t : TypeId) (fr : Nat × Nat), w.heap[k]? = some (Obj.cells cs t fr) → t ≠ 5 → w'.heap[k]? = some (Obj.cells cs t fr)
theorem K5.refl (B : Nat) (w : World) : K5 B w w := ⟨rfl, rfl, rfl, Nat.le_refl _, fun _ _ => rfl, fun _ _ _ _ h _ => h⟩
theorem K5.trans {B : Nat} {a b c : World} (h : K5 B a b) (k : K5 B b c) : K5 B a c :=
  ⟨k.os.trans h.os, k.tape.trans h.tape, k.output.trans h.output, Nat.le_trans h.size k.size, fun i hi => (k.low i hi).trans (h.low i hi), fun i cs t fr e ht => k.typ i cs t fr (h.typ i cs t fr e ht) ht⟩
theorem KT.refl (B : Nat) (w : World) : KT B w w := ⟨rfl, rfl, rfl, Nat.le_refl _, fun _ _ => rfl, fun _ _ _ _ h _ _ => h⟩
theorem KT.trans {B : Nat} {a b c : World} (h : KT B a b) (k : KT B b c) : KT B a c :=
  ⟨k.os.trans h.os, k.tape.trans h.tape, k.output.trans h.output, Nat.le_trans h.size k.size, fun i hi => (k.low i hi).trans (h.low i hi), fun i cs t fr e ht h6 => k.typ i cs t fr (h.typ i cs t fr e ht h6) ht h6⟩
theorem K5.kt {B : Nat} {a b : World} (h : K5 B a b) : KT B a b := ⟨h.os, h.tape, h.output, h.size, h.low, fun i cs t fr e ht _ => h.typ i cs t fr e ht⟩
theorem K5.alloc {B : Nat} {a b : World} (h : K5 B a b) (hB : B ≤ b.heap.size) (o : Obj) : K5 B a (b.alloc o) :=
  h.trans ⟨rfl, rfl, rfl, by simp, fun k hk => Below.heap_alloc _ _ _ (by omega), fun k cs t fr e _ => (Below.heap_alloc _ _ _ (Array.getElem?_eq_some_iff.1 e).1).trans e⟩
/-- An append to a row of bytes. -/
theorem K5.grown {B n : Nat} {a w w' : World} {v : Value} {xs : List Value} (h : K5 B a w) (ho : w.ownsRow B 5 1 v n xs) (hg : w.grownBy w' v.ownBlock) (hB : B ≤ w.heap.size) : K5 B a w' := by
  refine h.trans ⟨hg.os, hg.tape, hg.output, hg.size, fun k hk => hg.block k (by omega) (fun e => ?_), fun k cs t fr e ht => (hg.block k (Array.getElem?_eq_some_iff.1 e).1 (fun e2 => ?_)).trans e⟩
  · have := (ho.lt k e.symm).1; omega
  · rcases ho.2 with ⟨rfl, _⟩ | ⟨g, cap, cur, rfl, hb, hgg, _⟩
    · simp [Value.ownBlock] at e2
    · simp only [Value.ownBlock, Option.some.injEq] at e2
      subst e2
      rw [hgg] at e
      simp only [Option.some.injEq, Obj.cells.injEq] at e
      exact ht e.2.1.symm
/-- A row that is none of bytes stays. -/
theorem K5.owns {B B' n : Nat} {w w' : World} {v : Value} {xs : List Value} {t : TypeId} (h : K5 B' w w') (ho : w.ownsRow B t 1 v n xs) (ht : t ≠ 5) : w'.ownsRow B t 1 v n xs := by
  refine ⟨ho.1, ?_⟩
  rcases ho.2 with hn | ⟨g, cap, cur, hv, hb, hg, r⟩
  · exact Or.inl hn
  · exact Or.inr ⟨g, cap, cur, hv, hb, h.typ g cur t (0, 0) hg ht, r⟩
theorem KT.owns {B B' n : Nat} {w w' : World} {v : Value} {xs : List Value} {t : TypeId} (h : KT B' w w') (ho : w.ownsRow B t 1 v n xs) (ht : t ≠ 5) (h6 : t ≠ 176) : w'.ownsRow B t 1 v n xs := by
  refine ⟨ho.1, ?_⟩
  rcases ho.2 with hn | ⟨g, cap, cur, hv, hb, hg, r⟩
  · exact Or.inl hn
  · exact Or.inr ⟨g, cap, cur, hv, hb, h.typ g cur t (0, 0) hg ht h6, r⟩

theorem one_bv (c : UInt8) : ∀ u ∈ [bv c], u.oneCell' = true := by intro u hu; simp at hu; subst hu; rfl

set_option maxRecDepth 100000 in
set_option maxHeartbeats 2000000 in
theorem appendNumber_any (B : Nat) (fv : Value) (form : List UInt8) (q bias : Nat) (w : World) (hown : w.ownsRow B 5 1 fv form.length (form.map bv)) (hB : B ≤ w.heap.size) (hq : q ≤ 1115226111) (hb : bias ≤ 1099511627776) (hf : form.length ≤ 1000000) :
    Calls Tryz.prog 193 #[fv, .int .i64 q, .int .i64 bias] w fun e w' => ∃ fv', e = .returned fv' ∧ w'.ownsRow B 5 1 fv' (form ++ wnum bias (q + 1) 1 q).length ((form ++ wnum bias (q + 1) 1 q).map bv) ∧ K5 B w w' := by
  obtain ⟨i0, hi, hz0, hz1, hz2⟩ := info_parts info5
  obtain ⟨ANS, hANS⟩ : ∃ ANS, form ++ wnum bias (q + 1) 1 q = ANS := ⟨_, rfl⟩
  rw [hANS]
  have hkz : q < 2 ^ 32 := by omega
  go_enter Tryz.func193, Tryz.ntmps193
  go_wp2
  go_loopg [0, 1, 7] 40 (fun gk f0 q0 k0 wx => ∃ (F : List UInt8) (Q K : Nat), q0 = .int .i64 Q ∧ k0 = .int .i64 K ∧ wx.ownsRow B 5 1 f0 F.length (F.map bv) ∧ K5 B w wx ∧ K + gk = 41 ∧ 1 ≤ K ∧ 1 ≤ gk ∧ Q < 2 ^ (gk - 1) ∧ F.length + gk ≤ 1000040 ∧ F ++ wnum bias (Q + 1) K Q = ANS)
  case atStart => exact ⟨form, q, 1, rfl, rfl, hown, K5.refl _ _, by omega, by omega, by omega, by show q < 2 ^ 39; omega, by omega, hANS⟩
  case round =>
    clear hANS hown
    obtain ⟨F, Q, K, rfl, rfl, ho, hk5, hKg, hK1, hg1, hQ, hF, hv⟩ := hrel
    obtain ⟨gk', rfl⟩ : ∃ gk', gk = gk' + 1 := ⟨gk - 1, by omega⟩
    have hbn := fun w => bound_any K bias w (by omega) hb
    have hb1 := Pm.bnd_pos K bias
    have hb2 := Pm.bnd_le K bias
    obtain ⟨b, hbb⟩ : ∃ b, Pm.bnd K bias = b := ⟨_, rfl⟩
    have HB : Hid (Pm.bnd K bias = b) := hbb
    rw [hbb] at hbn hb1 hb2
    clear hbb
    have HV : Hid (F ++ wnum bias (Q + 1) K Q = ANS) := hv
    clear hv
    have hQ2 : Q < 2 ^ 39 := Nat.lt_of_lt_of_le hQ (Nat.pow_le_pow_right (by omega) (by omega))
    have hQ3 : Q ≤ 549755813888 := by omega
    have HQ : Hid (Q < 2 ^ gk') := hQ
    have HKG : Hid (K + (gk' + 1) = 41) := hKg
    have hK2 : K ≤ 40 := by omega
    have HF : Hid (F.length + (gk' + 1) ≤ 1000040) := hF
    have hF2 : F.length ≤ 1000040 := by omega
    clear hQ hQ2 hKg hF hkz
    by_cases hlt : (Q : Int) < (b : Int)
    · have hix := fun w => index_dig w Q (by omega)
      have h63 : F.length + 1 ≤ maxLen := by unfold maxLen; omega
      have h47 : (F.length + 1) * 1 ≤ 140737488355328 := by omega
      have hBr : B ≤ (wr.alloc (.cells #[.int .u8 ((dchar Q).toNat : Int)] 5)).heap.size := by have := hk5.size; simp; omega
      have HX : Hid (∀ w, (Instr.index 9 (.string { data := #[97, 98, 99, 100, 101, 102, 103, 104, 105, 106, 107, 108, 109, 110, 111, 112, 113, 114, 115, 116, 117, 118, 119, 120, 121, 122, 48, 49, 50, 51, 52, 53, 54, 55, 56, 57] }) (.int .i64 Q)).run Tryz.prog w = .ok (.int .u8 ((dchar Q).toNat : Int)) w) := hix
      clear hix
      go_wp2_with (first | (go_at_call 196; refine (hbn _).mono ?_; rintro e w' ⟨rfl, hw'⟩; rw [hw']; clear hw') | (refine wpList_indexEq rfl 9 _ (.tmp 18) rfl _ _ _ rfl rfl (HX.out _) ?_) | (at_builtin; refine wpList_append_own _ rfl (.tmp 17) (.tmp 20) 30 rfl B 5 i0 (.int .u8 0) 1 1 Tryz.underlying30 hi hz0 hz1 hz2 rfl (by decide) _ _ _ rfl (ho.alloc _) ⟨wr.heap.size, 0, none⟩ 1 1 [.int .u8 ((dchar Q).toNat : Int)] rfl rfl (cell_one_new _ _ _) (one_bv (dchar Q)) h63 h47 hBr ?_))
      intro v' w1 ho1 hgr _
      have HO1 : Hid (w1.ownsRow B 5 1 v' (F.length + 1) (F.map bv ++ [bv (dchar Q)])) := ho1
      have HK : Hid (K5 B w w1) := (hk5.alloc (by have := hk5.size; omega) _).grown (ho.alloc _) hgr hBr
      clear ho1 hgr ho hk5
      go_wp2
      go_ret
      have e : ANS = F ++ [dchar Q] := by rw [← HV.out, wnum, if_pos (by rw [HB.out]; omega)]
      refine ⟨v', rfl, ?_, HK.out⟩
      rw [e, List.length_append, List.map_append]
      exact HO1.out
    · have hz : ¬ (36 : Int) - (b : Int) = 0 := by omega
      have hr0 : 0 ≤ ((Q : Int) - b) % (36 - (b : Int)) := Int.emod_nonneg _ hz
      have hr1 : ((Q : Int) - b) % (36 - (b : Int)) < 36 - (b : Int) := Int.emod_lt_of_pos _ (by omega)
      have hq0 : 0 ≤ ((Q : Int) - b) / (36 - (b : Int)) := Int.ediv_nonneg (by omega) (by omega)
      have hq1 : ((Q : Int) - b) / (36 - (b : Int)) ≤ (Q : Int) := Int.ediv_le_of_le_mul (by omega) (by
        have : (Q : Int) * 1 ≤ (Q : Int) * (36 - (b : Int)) := Int.mul_le_mul_of_nonneg_left (by omega) (by omega)
        omega)
      have HM : Hid ((((b + (Q - b) % (36 - b) : Nat)) : Int) = (b : Int) + ((Q : Int) - b) % (36 - (b : Int))) := by
        unfold Hid; rw [Int.natCast_add, Int.natCast_emod, Int.natCast_sub (by omega), Int.natCast_sub (by omega)]; rfl
      have HDV : Hid ((((Q - b) / (36 - b) : Nat) : Int) = ((Q : Int) - b) / (36 - (b : Int))) := by
        unfold Hid; rw [Int.natCast_ediv, Int.natCast_sub (by omega), Int.natCast_sub (by omega)]; rfl
      obtain ⟨d, hd⟩ : ∃ d, b + (Q - b) % (36 - b) = d := ⟨_, rfl⟩
      have hd36 : d < 36 := by have := HM.out; rw [hd] at this; omega
      have hix := fun w => index_dig w d hd36
      rw [← hd, HM.out, hd] at hix
      have HX : Hid (∀ w, (Instr.index 9 (.string { data := #[97, 98, 99, 100, 101, 102, 103, 104, 105, 106, 107, 108, 109, 110, 111, 112, 113, 114, 115, 116, 117, 118, 119, 120, 121, 122, 48, 49, 50, 51, 52, 53, 54, 55, 56, 57] }) (.int .i64 ((b : Int) + ((Q : Int) - b) % (36 - (b : Int))))).run Tryz.prog w = .ok (.int .u8 ((dchar d).toNat : Int)) w) := hix
      have HD : Hid (b + (Q - b) % (36 - b) = d) := hd
      clear hix hd hd36
      have h63 : F.length + 1 ≤ maxLen := by unfold maxLen; omega
      have h47 : (F.length + 1) * 1 ≤ 140737488355328 := by omega
      have hBr : B ≤ (wr.alloc (.cells #[.int .u8 ((dchar d).toNat : Int)] 5)).heap.size := by have := hk5.size; simp; omega
      go_wp2_with (first | (go_at_call 196; refine (hbn _).mono ?_; rintro e w' ⟨rfl, hw'⟩; rw [hw']; clear hw') | (refine wpList_indexEq rfl 9 _ (.tmp 31) rfl _ _ _ rfl rfl (HX.out _) ?_) | (at_builtin; refine wpList_append_own _ rfl (.tmp 25) (.tmp 33) 30 rfl B 5 i0 (.int .u8 0) 1 1 Tryz.underlying30 hi hz0 hz1 hz2 rfl (by decide) _ _ _ rfl (ho.alloc _) ⟨wr.heap.size, 0, none⟩ 1 1 [.int .u8 ((dchar d).toNat : Int)] rfl rfl (cell_one_new _ _ _) (one_bv (dchar d)) h63 h47 hBr ?_))
      intro v' w1 ho1 hgr _
      have HO1 : Hid (w1.ownsRow B 5 1 v' (F.length + 1) (F.map bv ++ [bv (dchar d)])) := ho1
      have HK : Hid (K5 B w w1) := (hk5.alloc (by have := hk5.size; omega) _).grown (ho.alloc _) hgr hBr
      clear ho1 hgr ho hk5
      go_wp2
      go_roundg gk'
      case measure => omega
      case rel =>
        have hgp : 1 ≤ gk' := by
          rcases Nat.eq_zero_or_pos gk' with h0 | h0
          · have := HQ.out; rw [h0] at this; omega
          · exact h0
        have hQb : (Q - b) / (36 - b) < 2 ^ (gk' - 1) := by
          have h1 := HQ.out
          rw [show gk' = (gk' - 1) + 1 by omega, Nat.pow_succ] at h1
          have h2 : (Q - b) / (36 - b) ≤ Q / 10 := Nat.le_trans (Nat.div_le_div_right (Nat.sub_le _ _)) (Nat.div_le_div_left (by omega) (by omega))
          omega
        have hfu : wnum bias Q (K + 1) ((Q - b) / (36 - b)) = wnum bias ((Q - b) / (36 - b) + 1) (K + 1) ((Q - b) / (36 - b)) := wnum_fuel bias _ _ _ _ (by
          have h2 : (Q - b) / (36 - b) ≤ Q / 10 := Nat.le_trans (Nat.div_le_div_right (Nat.sub_le _ _)) (Nat.div_le_div_left (by omega) (by omega))
          omega) (by omega)
        refine ⟨F ++ [dchar d], (Q - b) / (36 - b), K + 1, by rw [HDV.out], by go_num, ?_, HK.out, by have := HKG.out; omega, by omega, hgp, hQb, by have := HF.out; rw [List.length_append]; simp; omega, ?_⟩
        · rw [List.length_append, List.map_append]; exact HO1.out
        · have e2 : wnum bias (Q + 1) K Q = dchar d :: wnum bias Q (K + 1) ((Q - b) / (36 - b)) := by rw [wnum, if_neg (by rw [HB.out]; omega), HB.out, HD.out]
          rw [← HV.out, e2, hfu, List.append_assoc]; rfl
end Go.Proofs.YtkaaldhejpaiiaaGreatDoor
