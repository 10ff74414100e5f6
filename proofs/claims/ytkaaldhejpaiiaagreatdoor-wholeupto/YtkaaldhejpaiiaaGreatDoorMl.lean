import Derived.Test.YtkaaldhejpaiiaaGreatDoorMk
import Derived.Test.YtkaaldhejpaiiaaGreatDoorBu21
/- The document's split, walked. -/
namespace Go.Proofs.YtkaaldhejpaiiaaGreatDoor
open Go.RowKit

theorem new1 (w : World) (v : Value) (t : TypeId) : ∀ j u, [v][j]? = some u → (w.alloc (.cells #[v] t)).cell? ((⟨w.heap.size, 0, none⟩ : Addr).add j) = some u := cell_one_new w v t
theorem own_shape {w : World} {B n : Nat} {t : TypeId} {v : Value} {xs : List Value} (h : w.ownsRow B t 1 v n xs) : ∃ a c, v = .slice a n c := by
  rcases h.2 with ⟨rfl, rfl⟩ | ⟨g, cap, cur, rfl, _⟩
  · exact ⟨none, 0, rfl⟩
  · exact ⟨_, _, rfl⟩
set_option maxRecDepth 100000 in
set_option maxHeartbeats 8000000 in
theorem splitD_any (s : ByteArray) (w : World) (hs : s.size ≤ 2000000) :
    Calls Tryz.prog 33 #[.string s] w fun e w' => ∃ v, e = .returned (.tuple #[v, .bool (endedM s)]) ∧ w'.ownsRow w.heap.size 9 1 v (partsM s).length ((partsM s).map Value.string) ∧ Below w.heap.size w w' := by
  obtain ⟨i9, gi, gz0, gz1, gz2⟩ := info_parts info9
  go_enter Tryz.func33, Tryz.ntmps33
  go_wp2_with fail
  go_loopw [4, 5, 6] (fun ov bv6 iv6 wr => ∃ (i b : Nat) (O : List ByteArray), i ≤ s.size ∧ b ≤ i ∧ O.length ≤ i ∧ iv6 = .int .i64 i ∧ bv6 = .int .i64 b ∧ wr.ownsRow w.heap.size 9 1 ov O.length (O.map Value.string) ∧ splitL (s.data.toList.take i) = O.map (·.data.toList) ++ [(s.data.toList.take i).drop b] ∧ Below w.heap.size w wr) (fun _ _ iv6 _ => s.size - (intOf iv6).toNat)
  case atStart => exact ⟨0, 0, [], Nat.zero_le _, Nat.le_refl _, Nat.le_refl _, rfl, rfl, World.ownsRow_nil _ _ _ _, rfl, Below.refl _ _⟩
  case round =>
    obtain ⟨i, b, O, hi, hbi, hOl, rfl, rfl, ho, hsp, hbw⟩ := hrel
    have HO : Hid (wr.ownsRow w.heap.size 9 1 u4 O.length (O.map Value.string)) := ho
    have HSP : Hid (splitL (s.data.toList.take i) = O.map (·.data.toList) ++ [(s.data.toList.take i).drop b]) := hsp
    have HB : Hid (Below w.heap.size w wr) := hbw
    have hsz := hbw.size
    clear ho hsp hbw
    by_cases hlt : i < s.size
    · have HT : Hid (splitL (s.data.toList.take (i + 1)) = if s[i] = 46 then O.map (·.data.toList) ++ [(s.data.toList.take i).drop b, []] else O.map (·.data.toList) ++ [(s.data.toList.take i).drop b ++ [s[i]]]) := by
        unfold Hid
        rw [take_snoc s i hlt]
        exact splitL_snoc s[i] _ _ _ HSP.out
      have HD : Hid ((s.data.toList.take (i + 1)).drop b = (s.data.toList.take i).drop b ++ [s[i]]) := take_drop_snoc s b i hbi hlt
      have HD2 : Hid ((s.data.toList.take (i + 1)).drop (i + 1) = []) := by
        unfold Hid
        apply List.drop_eq_nil_of_le
        rw [List.length_take]
        omega
      have HX : Hid ((s.extract b i).data.toList = (s.data.toList.take i).drop b) := ext_list s b i
      by_cases hc : s[i] = 46
      · have hc' : (s[i].toNat : Int) = 46 := by rw [hc]; rfl
        have HT2 : Hid (splitL (s.data.toList.take (i + 1)) = O.map (·.data.toList) ++ [(s.data.toList.take i).drop b, []]) := by unfold Hid; rw [HT.out, if_pos hc]
        clear hc HT HD HSP
        have hone : ∀ u ∈ [Value.string (s.extract b i)], u.oneCell' = true := by intro u hu; simp at hu; subst hu; rfl
        go_wp2_with (at_builtin; refine wpList_append_own _ rfl (.tmp 17) (.tmp 22) 55 rfl w.heap.size 9 i9 (.string { data := #[] }) 1 16 Tryz.underlying55 gi gz0 gz1 gz2 rfl (by decide) _ _ _ rfl (HO.out.alloc _) ⟨wr.heap.size, 0, none⟩ 1 1 [.string (s.extract b i)] rfl rfl (new1 _ _ _) hone (by unfold maxLen; omega) (by omega) (by simp; omega) ?_)
        intro v1 w1 hown1 hgr1 hne1
        have HO1 : Hid (w1.ownsRow w.heap.size 9 1 v1 (O ++ [s.extract b i]).length ((O ++ [s.extract b i]).map Value.string)) := by
          unfold Hid
          rw [List.length_append, List.map_append]
          exact hown1
        have HB1 : Hid (Below w.heap.size w w1) := below_append hgr1 (HO.out.alloc _) (HB.out.alloc hsz _) (by simp; omega)
        clear hown1 hgr1 hne1 HO HB
        go_wp2_with fail
        go_roundw
        case rel => exact ⟨i + 1, i + 1, O ++ [s.extract b i], by omega, by omega, by simp; omega, by go_num, by go_num, HO1.out, by rw [HT2.out, HD2.out, List.map_append, List.map_cons, List.map_nil, HX.out, List.append_assoc]; rfl, HB1.out⟩
        case measure => simp [intOf]; omega
      · have hc' : ((s[i].toNat : Int) == 46) = false := beq_eq_false_iff_ne.2 (fun e => hc (UInt8.toNat_inj.1 (by have : (46 : UInt8).toNat = 46 := rfl; omega)))
        have HT2 : Hid (splitL (s.data.toList.take (i + 1)) = O.map (·.data.toList) ++ [(s.data.toList.take (i + 1)).drop b]) := by unfold Hid; rw [HT.out, if_neg hc, HD.out]
        clear hc HT HD HSP
        go_wp2_with fail
        go_roundw
        case rel => exact ⟨i + 1, b, O, by omega, by omega, by omega, by go_num, rfl, HO.out, HT2.out, HB.out⟩
        case measure => simp [intOf]; omega
    · obtain rfl : i = s.size := by omega
      have e1 : s.data.toList.take s.size = s.data.toList := List.take_of_length_le (by rw [← size_list]; exact Nat.le_refl _)
      have hsp := HSP.out
      rw [e1] at hsp
      obtain ⟨k1, k2⟩ := split_end hsp
      have hdl : s.data.toList.drop b = [] ↔ b = s.size := by
        rw [List.drop_eq_nil_iff, ← size_list]
        omega
      have HX : Hid ((s.extract b s.size) = ⟨(s.data.toList.drop b).toArray⟩) := by
        unfold Hid
        apply bytes_ext
        rw [ext_list, e1]
      have HK1 : Hid (b = s.size → O ≠ [] → partsM s = O ∧ endedM s = true) := fun h1 h2 => k1 ⟨hdl.2 h1, h2⟩
      have HK2 : Hid (¬ (b = s.size ∧ O ≠ []) → partsM s = O ++ [s.extract b s.size] ∧ endedM s = false) := fun h => by
        rw [HX.out]
        exact k2 fun h1 => h ⟨hdl.1 h1.1, h1.2⟩
      clear k1 k2 hdl hsp e1 HSP hlt HX
      have hone : ∀ u ∈ [Value.string (s.extract b s.size)], u.oneCell' = true := by intro u hu; simp at hu; subst hu; rfl
      obtain ⟨a4, c4, rfl⟩ := own_shape HO.out
      by_cases hbs : b = s.size
      · have hbs' : ((b : Int) == (s.size : Int)) = true := beq_iff_eq.2 (by omega)
        by_cases hO : O = []
        · obtain ⟨e2, e3⟩ := HK2.out (fun h => h.2 hO)
          have HE : Hid (partsM s = O ++ [s.extract b s.size] ∧ endedM s = false) := ⟨e2, e3⟩
          have hO0 : ¬ (0 : Int) < (O.length : Int) := by rw [hO]; decide
          clear e2 e3 HK1 HK2 hO hbs
          go_wp2_with (at_builtin; refine wpList_append_own _ rfl (.tmp 36) (.tmp 40) 55 rfl w.heap.size 9 i9 (.string { data := #[] }) 1 16 Tryz.underlying55 gi gz0 gz1 gz2 rfl (by decide) _ _ _ rfl (HO.out.alloc _) ⟨wr.heap.size, 0, none⟩ 1 1 [.string (s.extract b s.size)] rfl rfl (new1 _ _ _) hone (by unfold maxLen; omega) (by omega) (by simp; omega) ?_)
          intro v1 w1 hown1 hgr1 hne1
          have HO1 : Hid (w1.ownsRow w.heap.size 9 1 v1 (O ++ [s.extract b s.size]).length ((O ++ [s.extract b s.size]).map Value.string)) := by
            unfold Hid
            rw [List.length_append, List.map_append]
            exact hown1
          have HB1 : Hid (Below w.heap.size w w1) := below_append hgr1 (HO.out.alloc _) (HB.out.alloc hsz _) (by simp; omega)
          clear hown1 hgr1 hne1 HO HB
          go_wp2_with fail
          go_ret2
          exact ⟨v1, by rw [HE.out.2]; rfl, by rw [HE.out.1]; exact HO1.out, HB1.out⟩
        · obtain ⟨e2, e3⟩ := HK1.out hbs hO
          have HE : Hid (partsM s = O ∧ endedM s = true) := ⟨e2, e3⟩
          have hO0 : (0 : Int) < (O.length : Int) := by have := List.length_pos_iff.2 hO; omega
          clear e2 e3 HK1 HK2 hO hbs
          go_wp2_with fail
          go_ret2
          exact ⟨_, by rw [HE.out.2]; rfl, by rw [HE.out.1]; exact HO.out, HB.out⟩
      · have hbs' : ((b : Int) == (s.size : Int)) = false := beq_eq_false_iff_ne.2 (by omega)
        obtain ⟨e2, e3⟩ := HK2.out (fun h => hbs h.1)
        have HE : Hid (partsM s = O ++ [s.extract b s.size] ∧ endedM s = false) := ⟨e2, e3⟩
        clear e2 e3 HK1 HK2 hbs
        go_wp2_with (at_builtin; refine wpList_append_own _ rfl (.tmp 36) (.tmp 40) 55 rfl w.heap.size 9 i9 (.string { data := #[] }) 1 16 Tryz.underlying55 gi gz0 gz1 gz2 rfl (by decide) _ _ _ rfl (HO.out.alloc _) ⟨wr.heap.size, 0, none⟩ 1 1 [.string (s.extract b s.size)] rfl rfl (new1 _ _ _) hone (by unfold maxLen; omega) (by omega) (by simp; omega) ?_)
        intro v1 w1 hown1 hgr1 hne1
        have HO1 : Hid (w1.ownsRow w.heap.size 9 1 v1 (O ++ [s.extract b s.size]).length ((O ++ [s.extract b s.size]).map Value.string)) := by
          unfold Hid
          rw [List.length_append, List.map_append]
          exact hown1
        have HB1 : Hid (Below w.heap.size w w1) := below_append hgr1 (HO.out.alloc _) (HB.out.alloc hsz _) (by simp; omega)
        clear hown1 hgr1 hne1 HO HB
        go_wp2_with fail
        go_ret2
        exact ⟨v1, by rw [HE.out.2]; rfl, by rw [HE.out.1]; exact HO1.out, HB1.out⟩
end Go.Proofs.YtkaaldhejpaiiaaGreatDoor

