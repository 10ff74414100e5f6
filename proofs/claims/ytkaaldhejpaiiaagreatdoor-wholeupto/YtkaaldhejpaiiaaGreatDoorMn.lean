import Derived.Test.YtkaaldhejpaiiaaGreatDoorMm
/- The document's Name. -/
namespace Go.Proofs.YtkaaldhejpaiiaaGreatDoor
open Go.RowKit

theorem results_four {fn : Func} {t u v x : Tmp} (h : fn.results = #[.tmp t, .tmp u, .tmp v, .tmp x]) (tmps : Array Value) (P : Program) (w : World) :
    (results fn tmps).run P w = .ok (.tuple #[tmps.getD t undef, tmps.getD u undef, tmps.getD v undef, tmps.getD x undef]) w := by
  simp [results, h]
def preD (x : ByteArray) (i : Nat) : ByteArray := if i = 0 then x else x ++ ⟨#[46]⟩
theorem dotK_pre (xs : List ByteArray) (i : Nat) (h : i < xs.length) : dotK xs (i + 1) = preD (dotK xs i) i ++ xs[i] := by
  unfold preD
  by_cases h0 : i = 0
  · subst h0
    rw [if_pos rfl, dotK_one xs h, dotK_zero]
    apply bytes_ext
    rw [app_list]
    rfl
  · rw [if_neg h0, dotK_succ xs i (by omega) h]
theorem preD_size (x : ByteArray) (i : Nat) : (preD x i).size ≤ x.size + 1 := by
  unfold preD
  split
  · omega
  · rw [ByteArray.size_append]; exact Nat.le_refl _
theorem texts_le {s : ByteArray} (k : Nat) (h : ∀ j (hj : j < (partsM s).length), j < k → (labelM (partsM s)[j]).1 = 0) (hk : k ≤ 1100000) : (dotK ((signsOf (partsM s)).map textOf) k).size ≤ 300000000 ∧ (dotK (formsOf (partsM s)) k).size ≤ 300000000 := by
  have key : ∀ (f : ByteArray → ByteArray), (∀ p, (labelM p).1 = 0 → (f p).size ≤ 252) → (dotted (((partsM s).map f).take k)).size ≤ 300000000 := fun f hf => by
    have h1 := dotted_len 252 (((partsM s).map f).take k) fun x hx => by
      obtain ⟨j, hj, e⟩ := List.getElem_of_mem hx
      rw [List.length_take, List.length_map] at hj
      rw [← e, List.getElem_take, List.getElem_map]
      exact hf _ (h j (by omega) (by omega))
    rw [List.length_take, List.length_map] at h1
    have h2 : min k (partsM s).length * 253 ≤ 1100000 * 253 := Nat.mul_le_mul_right _ (Nat.le_trans (Nat.min_le_left _ _) hk)
    omega
  constructor
  · have := key (fun p => textOf (labelM p).2.1) (fun p hp => by have h1 := (label_small p hp).2; have h2 := textOf_len (labelM p).2.1; omega)
    have e : (signsOf (partsM s)).map textOf = (partsM s).map fun p => textOf (labelM p).2.1 := by unfold signsOf; rw [List.map_map]; rfl
    rw [e]
    exact this
  · exact key (fun p => (labelM p).2.2) (fun p hp => by have h1 := (label_small p hp).1; omega)
set_option maxRecDepth 100000 in
set_option maxHeartbeats 32000000 in
theorem NameD_any (s : ByteArray) (w : World) (hs : s.size ≤ 1048576) : Calls Tryz.prog 21 #[.string s] w fun e w' => e = .returned (nameV s) ∧ Below w.heap.size w w' := by
  obtain ⟨i31, gi, gz0, gz1, gz2⟩ := info_parts info31
  have hsp := splitD_any s w (by omega)
  have hpl : (partsM s).length ≤ 1048577 := by
    have h1 := Lib.countB_le dotB (by decide) _ (bodyM s) (Nat.le_refl _)
    have h2 := Lib.splitB_all dotB (by decide) 0 _ (bodyM s) rfl
    have h3 := body_size s
    unfold partsM
    omega
  have hp1 : 1 ≤ (partsM s).length := by
    have h2 := Lib.splitB_all dotB (by decide) 0 _ (bodyM s) rfl
    unfold partsM
    omega
  have HPS : Hid (∀ p ∈ partsM s, p.size ≤ 1048576) := fun p hp => by
    have h1 := split_sizes dotB _ _ p hp
    have h2 := body_size s
    omega
  have HBAD : Hid (∀ (k e : Nat) (hk : k < (partsM s).length), (∀ j (hj : j < (partsM s).length), j < k → (labelM (partsM s)[j]).1 = 0) → (labelM (partsM s)[k]).1 = e → e ≠ 0 → nameV s = .tuple #[.string { data := #[] }, .string { data := #[] }, .int .i64 (k : Int), .int .i64 (e : Int)]) := fun k e hk h1 h2 h3 => name_bad hk h1 h2 h3
  have HSIDE : Hid (∀ k : Nat, (∀ j (hj : j < (partsM s).length), (labelM (partsM s)[j]).1 = 0) → (signsOf (partsM s)).any asksM = true → ∀ hk : k < (signsOf (partsM s)).length, (∀ j (hj : j < (signsOf (partsM s)).length), j < k → sidedM (signsOf (partsM s))[j] = true) → sidedM (signsOf (partsM s))[k] = false → nameV s = .tuple #[.string { data := #[] }, .string { data := #[] }, .int .i64 (k : Int), .int .i64 10]) := fun k h1 h2 hk h3 h4 => name_side h1 h2 hk h3 h4
  have HFINE : Hid ((∀ j (hj : j < (partsM s).length), (labelM (partsM s)[j]).1 = 0) → ((signsOf (partsM s)).any asksM = true → ∀ L ∈ signsOf (partsM s), sidedM L = true) → nameV s = if 253 < (dotted (formsOf (partsM s))).size then .tuple #[.string { data := #[] }, .string { data := #[] }, .int .i64 0, .int .i64 11] else .tuple #[.string (dotted ((signsOf (partsM s)).map textOf) ++ eB (endedM s)), .string (dotted (formsOf (partsM s)) ++ eB (endedM s)), .int .i64 0, .int .i64 0]) := name_fine
  have HSZ : Hid (∀ k, (∀ j (hj : j < (partsM s).length), j < k → (labelM (partsM s)[j]).1 = 0) → k ≤ 1100000 → (dotK ((signsOf (partsM s)).map textOf) k).size ≤ 300000000 ∧ (dotK (formsOf (partsM s)) k).size ≤ 300000000) := fun k h1 h2 => texts_le k h1 h2
  have HSL : Hid ((signsOf (partsM s)).length = (partsM s).length) := by unfold Hid signsOf; rw [List.length_map]
  have HFL : Hid ((formsOf (partsM s)).length = (partsM s).length) := by unfold Hid formsOf; rw [List.length_map]
  have HSA : Hid (∀ j (hj : j < (partsM s).length) (hj2 : j < (signsOf (partsM s)).length), (signsOf (partsM s))[j] = (labelM (partsM s)[j]).2.1) := fun j hj hj2 => by simp [signsOf]
  have HFA : Hid (∀ j (hj : j < (partsM s).length) (hj2 : j < (formsOf (partsM s)).length), (formsOf (partsM s))[j] = (labelM (partsM s)[j]).2.2) := fun j hj hj2 => by simp [formsOf]
  generalize endedM s = dot at *
  generalize signsOf (partsM s) = SL at *
  generalize formsOf (partsM s) = FL at *
  generalize partsM s = ps at *
  go_enter Tryz.func21, Tryz.ntmps21
  go_wp2_with fail
  refine hsp.mono ?_
  rintro e w1 ⟨pv, rfl, hown, hb1⟩
  clear hsp
  have HB1 : Hid (Below w.heap.size w w1) := hb1
  clear hb1
  rcases hown.2 with ⟨_, h0⟩ | ⟨pg, pc, pcur, rfl, _, hpg, _, _, _, hpt⟩
  · omega
  have HPG : Hid (w1.heap[pg]? = some (.cells pcur 9 (0, 0))) := hpg
  have HPC : Hid (∀ W : World, W.heap[pg]? = some (.cells pcur 9 (0, 0)) → ∀ j (hj : j < ps.length), W.cell? ⟨pg, j, none⟩ = some (.string ps[j])) := fun W hW j hj => by
    rw [cell_of_row W pg j pcur 9 (0, 0) hW]
    have h4 : (pcur.toList.take (ps.length * 1))[j]? = (ps.map Value.string)[j]? := by rw [hpt]
    rw [List.getElem?_take, if_pos (by omega), List.getElem?_map, List.getElem?_eq_getElem hj] at h4
    simpa using h4
  clear hown hpg hpt
  obtain ⟨m, hm⟩ : ∃ m, ps.length = m := ⟨_, rfl⟩
  have HM : Hid (ps.length = m) := hm
  rw [hm] at hpl hp1 ⊢
  clear hm
  go_wp2_with fail
  go_loopw [8, 9, 10, 11, 12] (fun av uv fv tv iv12 wr => ∃ (i : Nat) (X : List Lr), i ≤ m ∧ iv12 = .int .i64 i ∧ X.length = i ∧ AllAt wr w.heap.size av X ∧ X.map (·.2.2) = SL.take i ∧ uv = .string (dotK (SL.map textOf) i) ∧ fv = .string (dotK FL i) ∧ tv = .bool ((SL.take i).any asksM) ∧ (∀ j (hj : j < ps.length), j < i → (labelM ps[j]).1 = 0) ∧ wr.heap[pg]? = some (.cells pcur 9 (0, 0)) ∧ Below w.heap.size w wr) (fun _ _ _ _ iv12 _ => m - (intOf iv12).toNat)
  case atStart => exact ⟨0, [], by omega, rfl, rfl, AllAt.nil _ _, rfl, rfl, rfl, rfl, fun j _ hj => absurd hj (Nat.not_lt_zero _), HPG.out, HB1.out⟩
  case round =>
    obtain ⟨i, X, him, rfl, hXi, hAll, hXS, rfl, rfl, rfl, hgood, hpg, hbw⟩ := hrel
    have HALL : Hid (AllAt wr w.heap.size u8 X) := hAll
    have HXS : Hid (X.map (·.2.2) = SL.take i) := hXS
    have HGD : Hid (∀ j (hj : j < ps.length), j < i → (labelM ps[j]).1 = 0) := hgood
    have HPW : Hid (wr.heap[pg]? = some (.cells pcur 9 (0, 0))) := hpg
    have HBW : Hid (Below w.heap.size w wr) := hbw
    have hbs := hbw.size
    obtain ⟨hz1, hz2⟩ := HSZ.out i hgood (by omega)
    have HXI : Hid (X.length = i) := hXi
    clear hAll hXS hgood hpg hbw hXi
    obtain ⟨tb, htb⟩ : ∃ tb, (SL.take i).any asksM = tb := ⟨_, rfl⟩
    have HTB : Hid ((SL.take i).any asksM = tb) := htb
    rw [htb]
    clear htb
    by_cases hi : i < m
    · have hi' : (i : Int) < (m : Int) := by omega
      have lp : i < ps.length := by have := HM.out; omega
      have lS : i < SL.length := by have := HM.out; have := HSL.out; omega
      have lF : i < FL.length := by have := HM.out; have := HFL.out; omega
      have hcp := HPC.out wr HPW.out i lp
      have hlab := label_doc ps[i] wr (HPS.out _ (List.getElem_mem lp))
      have HB0 : Hid (∀ e : Nat, (labelM ps[i]).1 = e → e ≠ 0 → nameV s = .tuple #[.string { data := #[] }, .string { data := #[] }, .int .i64 (i : Int), .int .i64 (e : Int)]) := fun e h1 h2 => HBAD.out i e lp HGD.out h1 h2
      have HSi : Hid (SL[i] = (labelM ps[i]).2.1) := HSA.out i lp lS
      have HFi : Hid (FL[i] = (labelM ps[i]).2.2) := HFA.out i lp lF
      have HDT : Hid (dotK (SL.map textOf) (i + 1) = preD (dotK (SL.map textOf) i) i ++ textOf (labelM ps[i]).2.1) := by
        unfold Hid
        rw [dotK_pre _ i (by rw [List.length_map]; exact lS), List.getElem_map, HSi.out]
      have HDF : Hid (dotK FL (i + 1) = preD (dotK FL i) i ++ (labelM ps[i]).2.2) := by
        unfold Hid
        rw [dotK_pre _ i lF, HFi.out]
      have HST : Hid (SL.take (i + 1) = SL.take i ++ [(labelM ps[i]).2.1]) := by
        unfold Hid
        rw [List.take_succ_eq_append_getElem lS, HSi.out]
      have HG2 : Hid ((labelM ps[i]).1 = 0 → ∀ j (hj : j < ps.length), j < i + 1 → (labelM ps[j]).1 = 0) := fun h j hj hji => by
        rcases Nat.lt_or_ge j i with h1 | h1
        · exact HGD.out j hj h1
        · obtain rfl : j = i := by omega
          exact h
      have HLS : Hid ((labelM ps[i]).1 = 0 → (labelM ps[i]).2.2.size ≤ 63 ∧ (textOf (labelM ps[i]).2.1).size ≤ 252) := fun h => by
        have h1 := label_small ps[i] h
        have h2 := textOf_len (labelM ps[i]).2.1
        omega
      clear HSi HFi lS lF
      generalize ps[i] = p at *
      clear lp
      generalize dotK (SL.map textOf) i = U at *
      generalize dotK FL i = A at *
      go_wp2_with fail
      refine hlab.mono ?_
      rintro e w2 ⟨hcase, hb2⟩
      clear hlab hcp
      have HB2 : Hid (Below w.heap.size w w2) := Below.andThen HBW.out hb2
      have HAL2 : Hid (AllAt w2 w.heap.size u8 X) := HALL.out.keep hb2
      have HPW2 : Hid (w2.heap[pg]? = some (.cells pcur 9 (0, 0))) := (hb2.block pg (lt_heap HPW.out)).trans HPW.out
      have hbs2 := hb2.size
      clear hb2
      rcases hcase with ⟨h0, rfl⟩ | ⟨h0, g, c, rfl, hR⟩
      · have HE : Hid (nameV s = .tuple #[.string { data := #[] }, .string { data := #[] }, .int .i64 (i : Int), .int .i64 ((labelM p).1 : Nat)]) := HB0.out _ rfl h0
        generalize (labelM p).1 = k at *
        have hk : ((k : Int) == 0) = false := beq_eq_false_iff_ne.2 (by omega)
        clear h0 HB0
        go_wp2_with fail
        (try simp only [Exit.inBlock, Exit.then])
        refine bodyPost_ret (results_four rfl _ _ _) rfl ?_
        exact ⟨by rw [HE.out]; rfl, HB2.out⟩
      · obtain ⟨hz3, hz4⟩ := HLS.out h0
        have HGN : Hid (∀ j (hj : j < ps.length), j < i + 1 → (labelM ps[j]).1 = 0) := HG2.out h0
        have HR2 : Hid (RowI w2 w.heap.size g (labelM p).2.1) := hR.mono hbs
        clear HB0 HG2 HLS h0 hR
        generalize (labelM p).2.1 = L at *
        generalize (labelM p).2.2 = F at *
        have hLl := HR2.out.len
        have hLs := HR2.out.sgn
        obtain ⟨n, hn⟩ : ∃ n, L.length = n := ⟨_, rfl⟩
        have HN : Hid (L.length = n) := hn
        have HTX : Hid (∀ W, RowI W w.heap.size g L → Calls Tryz.prog 26 #[.slice (some ⟨g, 0, none⟩) n c] W fun e w' => e = .returned (.string (textOf L)) ∧ Below W.heap.size W w') := fun W hW => by
          have := textB (some ⟨g, 0, none⟩) c L W hLl hLs (fun i hi => ⟨g, rfl, hW.lt, hW.cell i hi⟩)
          rw [hn] at this
          exact this
        have HATL : Hid (∀ W, RowI W w.heap.size g L → ∀ (p : Int) (a b k : Int) (s t j : ByteArray), Km.rowA Km.ref (dkAt L p) = a → Km.rowB Km.ref (dkAt L p) = b → Km.rowC Km.ref (dkAt L p) = k → rowS (dkAt L p) = s → rowT (dkAt L p) = t → rowJ (dkAt L p) = j →
            Calls Tryz.prog 34 #[.slice (some ⟨g, 0, none⟩) n c, .int .i64 p] W fun e w' => e = .returned (.agg #[.int .i64 a, .int .i64 b, .int .i64 k, .string s, .string t, .string j]) ∧ Below W.heap.size W w') := fun W hW p a b k s t j h1 h2 h3 h4 h5 h6 => by
          have := at_any' hW.ints c p _ rfl
          rw [hn, h1, h2, h3, h4, h5, h6] at this
          exact this
        have hn2 : n ≤ 1100000 := by omega
        have hXl : X.length ≤ 1048577 := by have := HXI.out; omega
        have HRV : Hid (Value.slice (some ⟨g, 0, none⟩) n c = rowL (g, c, L)) := by unfold Hid rowL; rw [hn]
        rw [hn]
        clear hn hLl hLs
        have hone : ∀ u ∈ [Value.slice (some ⟨g, 0, none⟩) n c], u.oneCell' = true := by intro u hu; simp at hu; subst hu; rfl
        go_wp2_with (at_builtin; refine wpList_append_own _ rfl (.tmp 44) (.tmp 46) 41 rfl w.heap.size 31 i31 (.slice none 0 0) 1 24 Tryz.underlying41 gi gz0 gz1 gz2 rfl (by decide) _ _ _ rfl (HAL2.out.own.alloc _) ⟨w2.heap.size, 0, none⟩ 1 1 [.slice (some ⟨g, 0, none⟩) n c] rfl rfl (new1 _ _ _) hone (by unfold maxLen; omega) (by omega) (by simp; omega) ?_)
        intro v1 w3 hown1 hgr1 hne1
        have hbo := below_one w2 (.cells #[.slice (some ⟨g, 0, none⟩) n c] 31)
        rw [HRV.out] at hown1 hgr1 hbo
        have hAl := HAL2.out.keep hbo
        have HAL3 : Hid (AllAt w3 w.heap.size v1 (X ++ [(g, c, L)])) := hAl.push (HR2.out.keep hbo) hown1 hgr1
        have HPW3 : Hid (w3.heap[pg]? = some (.cells pcur 9 (0, 0))) := typed_kept hgr1 (fun k hk => (own_block hAl.own k hk).2) ((hbo.block pg (lt_heap HPW2.out)).trans HPW2.out) (by decide)
        have HB3 : Hid (Below w.heap.size w w3) := below_append hgr1 hAl.own (HB2.out.trans (hbo.mono (by omega))) (by simp; omega)
        have HR3 : Hid (RowI w3 w.heap.size g L) := HAL3.out.rows (g, c, L) (by simp)
        clear hown1 hgr1 hne1 hbo hAl HAL2 HPW2 HB2 HR2 HALL HPW HRV
        have hp1 := preD_size U i
        have hp2 := preD_size A i
        go_upto_if 49 with fail
        obtain ⟨pb, hpb⟩ : ∃ pb, decide (0 < i) = pb := ⟨_, rfl⟩
        have HPB : Hid (decide (0 < i) = pb) := hpb
        rw [hpb]
        clear hpb
        go_cut [9, 10] from 50 to 53 (fun uv fv wc => uv = .string (preD U i) ∧ fv = .string (preD A i) ∧ wc = w3)
        case first =>
          cases pb with
          | false =>
            have h0 : i = 0 := by have := of_decide_eq_false HPB.out; omega
            have HE : Hid (preD U i = U ∧ preD A i = A) := ⟨if_pos h0, if_pos h0⟩
            clear h0 HPB
            go_wp2_with fail
            go_meet
            case rel => exact ⟨by rw [HE.out.1], by rw [HE.out.2], rfl⟩
          | true =>
            have h0 : ¬ i = 0 := by have := of_decide_eq_true HPB.out; omega
            have HE : Hid (preD U i = U ++ ⟨#[46]⟩ ∧ preD A i = A ++ ⟨#[46]⟩) := ⟨if_neg h0, if_neg h0⟩
            clear h0 HPB
            go_wp2_with fail
            go_meet
            case rel => exact ⟨by rw [HE.out.1], by rw [HE.out.2], rfl⟩
        case rest =>
          obtain ⟨rfl, rfl, rfl⟩ := hcut
          generalize preD U i = U1 at *
          generalize preD A i = A1 at *
          have ctx := HTX.out wc HR3.out
          generalize textOf L = T at *
          go_wp2_with fail
          refine ctx.mono ?_
          rintro e w4 ⟨rfl, hb4⟩
          clear ctx HTX
          have HAL4 : Hid (AllAt w4 w.heap.size v1 (X ++ [(g, c, L)])) := HAL3.out.keep hb4
          have HPW4 : Hid (w4.heap[pg]? = some (.cells pcur 9 (0, 0))) := (hb4.block pg (lt_heap HPW3.out)).trans HPW3.out
          have HB4 : Hid (Below w.heap.size w w4) := Below.andThen HB3.out hb4
          have HR4 : Hid (RowI w4 w.heap.size g L) := HR3.out.keep hb4
          clear hb4 HAL3 HPW3 HB3 HR3
          go_wp2_with fail
          go_loopw [11, 16] (fun tv kv wr => ∃ k : Nat, k ≤ n ∧ kv = .int .i64 k ∧ tv = .bool (tb || asksTo L k) ∧ Below w4.heap.size w4 wr) (fun _ kv _ => n - (intOf kv).toNat)
          case atStart => exact ⟨0, by omega, rfl, by rw [show asksTo L 0 = false from rfl, Bool.or_false], Below.refl _ _⟩
          case round =>
            obtain ⟨k, hk, rfl, rfl, hbk⟩ := hrel
            have HBK : Hid (Below w4.heap.size w4 wr) := hbk
            clear hbk
            obtain ⟨b, hb⟩ : ∃ b, (tb || asksTo L k) = b := ⟨_, rfl⟩
            have HBB : Hid ((tb || asksTo L k) = b) := hb
            rw [hb]
            clear hb
            by_cases hkn : k < n
            · have hkn' : (k : Int) < (n : Int) := by omega
              obtain ⟨a1, ha1⟩ : ∃ x, Km.rowA Km.ref (dkAt L (k : Int)) = x := ⟨_, rfl⟩
              obtain ⟨b1, hb1⟩ : ∃ x, Km.rowB Km.ref (dkAt L (k : Int)) = x := ⟨_, rfl⟩
              obtain ⟨k1, hk1⟩ : ∃ x, Km.rowC Km.ref (dkAt L (k : Int)) = x := ⟨_, rfl⟩
              obtain ⟨S, hS⟩ : ∃ x, rowS (dkAt L (k : Int)) = x := ⟨_, rfl⟩
              obtain ⟨t1, ht1⟩ : ∃ x, rowT (dkAt L (k : Int)) = x := ⟨_, rfl⟩
              obtain ⟨j1, hj1⟩ : ∃ x, rowJ (dkAt L (k : Int)) = x := ⟨_, rfl⟩
              have hat := HATL.out wr (HR4.out.keep HBK.out) (k : Int) a1 b1 k1 S t1 j1 ha1 hb1 hk1 hS ht1 hj1
              have hside := side_row L (k : Int)
              rw [hS] at hside
              obtain ⟨f1, f2, f3, f4, f5, f6, f7, f8⟩ := hside.all
              have fld := fun (a b c s d e : Value) w => (field_rowD a b c s d e w).1
              have HAS : Hid ((tb || asksTo L (k + 1)) = (b || (decide (rS (pkAt L (k : Int)) = 2) || decide (rS (pkAt L (k : Int)) = 3) || decide (rS (pkAt L (k : Int)) = 5)))) := by
                unfold Hid
                rw [asksTo_succ, ← Bool.or_assoc, HBB.out]
              clear ha1 hb1 hk1 hS ht1 hj1 hside f1 f4 f6 f7 f8
              generalize decide (rS (pkAt L (k : Int)) = 2) = r2 at *
              generalize decide (rS (pkAt L (k : Int)) = 3) = r3 at *
              generalize decide (rS (pkAt L (k : Int)) = 5) = r5 at *
              cases b <;> cases r2 <;> cases r3
              all_goals
                go_wp2_with fail
                refine hat.mono ?_
                rintro e w6 ⟨rfl, hb6⟩
                clear hat
                go_wp2_with fail
                go_roundw
                case rel => exact ⟨k + 1, by omega, by go_num, by rw [HAS.out]; rfl, Below.andThen HBK.out hb6⟩
                case measure => simp [intOf]; omega
            · obtain rfl : k = n := by omega
              have hkn' : ¬ (k : Int) < (k : Int) := by omega
              have HTN : Hid ((SL.take (i + 1)).any asksM = b) := by
                unfold Hid
                rw [HST.out, List.any_append, HTB.out, ← HBB.out, ← HN.out, asksTo_all]
                simp
              clear hkn
              go_wp2_with fail
              go_roundw
              case rel => exact ⟨i + 1, X ++ [(g, c, L)], by omega, by go_num, by rw [List.length_append, HXI.out]; rfl, HAL4.out.keep HBK.out, by rw [List.map_append, HXS.out, HST.out]; rfl, by rw [HDT.out], by rw [HDF.out], by rw [HTN.out], HGN.out, (HBK.out.block pg (lt_heap HPW4.out)).trans HPW4.out, Below.andThen HB4.out HBK.out⟩
              case measure => simp [intOf]; omega
    · obtain rfl : i = m := by omega
      have hi' : ¬ (i : Int) < (i : Int) := by omega
      have hGA : ∀ j (hj : j < ps.length), (labelM ps[j]).1 = 0 := fun j hj => HGD.out j hj (by have := HM.out; omega)
      have eS : SL.take i = SL := List.take_of_length_le (by rw [HSL.out, HM.out]; exact Nat.le_refl _)
      have eU : dotK (SL.map textOf) i = dotted (SL.map textOf) := dotK_all _ _ (by rw [List.length_map, HSL.out, HM.out]; exact Nat.le_refl _)
      have eA : dotK FL i = dotted FL := dotK_all _ _ (by rw [HFL.out, HM.out]; exact Nat.le_refl _)
      have HXS2 : Hid (X.map (·.2.2) = SL) := by unfold Hid; rw [HXS.out, eS]
      have HTB2 : Hid (SL.any asksM = tb) := by unfold Hid; rw [← HTB.out, eS]
      have HS1 : Hid (SL.any asksM = true → ∀ (k : Nat) (hk : k < SL.length), (∀ j (hj : j < SL.length), j < k → sidedM SL[j] = true) → sidedM SL[k] = false → nameV s = .tuple #[.string { data := #[] }, .string { data := #[] }, .int .i64 (k : Int), .int .i64 10]) := fun h1 k hk h2 h3 => HSIDE.out k hGA h1 hk h2 h3
      have HF1 : Hid ((SL.any asksM = true → ∀ L ∈ SL, sidedM L = true) → nameV s = if 253 < (dotK FL i).size then .tuple #[.string { data := #[] }, .string { data := #[] }, .int .i64 0, .int .i64 11] else .tuple #[.string (dotK (SL.map textOf) i ++ eB dot), .string (dotK FL i ++ eB dot), .int .i64 0, .int .i64 0]) := by
        unfold Hid
        rw [eU, eA]
        exact HFINE.out hGA
      have hX1 : X ≠ [] := fun e => by have := HXI.out; rw [e] at this; simp at this; omega
      obtain ⟨ag, ac, rfl, hcell⟩ := HALL.out.cell hX1
      have hag : ag < wr.heap.size := by
        have := hcell 0 (List.length_pos_iff.2 hX1)
        exact World.block_lt_of_cell? wr _ this
      have HCX : Hid (∀ W, Below wr.heap.size wr W → ∀ j (hj : j < X.length), W.cell? ⟨ag, j, none⟩ = some (rowL X[j])) := fun W hW j hj => (hW.cell (p := ⟨ag, j, none⟩) hag).trans (hcell j hj)
      have HRX : Hid (∀ W, Below wr.heap.size wr W → ∀ j (hj : j < X.length), RowI W w.heap.size X[j].1 X[j].2.2) := fun W hW j hj => (HALL.out.rows _ (List.getElem_mem hj)).keep hW
      have HXJ : Hid (∀ j (hj : j < X.length) (hj2 : j < SL.length), X[j].2.2 = SL[j]) := fun j hj hj2 => by
        have h1 : (X.map (·.2.2))[j]? = SL[j]? := by rw [HXS2.out]
        rw [List.getElem?_map, List.getElem?_eq_getElem hj, List.getElem?_eq_getElem hj2] at h1
        simpa using h1
      have hSLl : SL.length = X.length := by rw [← HXS2.out, List.length_map]
      have HSLX : Hid (SL.length = X.length) := hSLl
      rw [HXI.out]
      clear hGA eS eU eA HSIDE HFINE HBAD HGD HPW HPC HPS HALL HXS HTB hX1 hcell HSA HFA HSZ hSLl hag HPG
      generalize dotK (SL.map textOf) i = U at *
      generalize dotK FL i = A at *
      obtain ⟨wA, hwA⟩ : ∃ wA, wr = wA := ⟨_, rfl⟩
      have HWA : Hid (Below w.heap.size w wA) := by unfold Hid; rw [← hwA]; exact HBW.out
      rw [hwA] at HCX HRX
      have HSTART : Hid (Below wA.heap.size wA wr) := by unfold Hid; rw [hwA]; exact Below.refl _ _
      clear hwA
      go_wp2_with fail
      go_loopw [18] (fun jv wx => ∃ j : Nat, j ≤ i ∧ jv = .int .i64 j ∧ (∀ q (hq : q < SL.length), q < j → sidedM SL[q] = true) ∧ Below wA.heap.size wA wx) (fun jv _ => i - (intOf jv).toNat)
      case atStart => exact ⟨0, by omega, rfl, fun q _ hq => absurd hq (Nat.not_lt_zero _), HSTART.out⟩
      case round =>
        obtain ⟨j, hj, rfl, hsd, hbx⟩ := hrel
        have HSDD : Hid (∀ q (hq : q < SL.length), q < j → sidedM SL[q] = true) := hsd
        have HBX : Hid (Below wA.heap.size wA wr) := hbx
        have HBX2 : Hid (Below w.heap.size w wr) := Below.andThen HWA.out hbx
        clear hsd hbx
        cases tb with
        | false =>
          have HNV : Hid (nameV s = if 253 < A.size then .tuple #[.string { data := #[] }, .string { data := #[] }, .int .i64 0, .int .i64 11] else .tuple #[.string (U ++ eB dot), .string (A ++ eB dot), .int .i64 0, .int .i64 0]) := HF1.out (fun h => by rw [HTB2.out] at h; cases h)
          by_cases hji : (j : Int) < (i : Int)
          all_goals
            by_cases hbig : 253 < A.size
            · have hb2 : (253 : Int) < (A.size : Int) := by omega
              have HE : Hid (nameV s = .tuple #[.string { data := #[] }, .string { data := #[] }, .int .i64 0, .int .i64 11]) := by unfold Hid; rw [HNV.out, if_pos hbig]
              clear hbig HNV
              go_wp2_with fail
              (try simp only [Exit.inBlock, Exit.then])
              refine bodyPost_ret (results_four rfl _ _ _) rfl ?_
              exact ⟨by rw [HE.out]; rfl, HBX2.out⟩
            · have hb2 : ¬ (253 : Int) < (A.size : Int) := by omega
              cases dot with
              | true =>
                have HE : Hid (nameV s = .tuple #[.string (U ++ { data := #[46] }), .string (A ++ { data := #[46] }), .int .i64 0, .int .i64 0]) := by unfold Hid; rw [HNV.out, if_neg hbig]; rfl
                clear hbig HNV
                go_wp2_with fail
                (try simp only [Exit.inBlock, Exit.then])
                refine bodyPost_ret (results_four rfl _ _ _) rfl ?_
                exact ⟨by rw [HE.out]; rfl, HBX2.out⟩
              | false =>
                have HE : Hid (nameV s = .tuple #[.string U, .string A, .int .i64 0, .int .i64 0]) := by unfold Hid; rw [HNV.out, if_neg hbig, eB_false, eB_false]
                clear hbig HNV
                go_wp2_with fail
                (try simp only [Exit.inBlock, Exit.then])
                refine bodyPost_ret (results_four rfl _ _ _) rfl ?_
                exact ⟨by rw [HE.out]; rfl, HBX2.out⟩
        | true =>
          by_cases hji : j < i
          · have hji' : (j : Int) < (i : Int) := by omega
            have lX : j < X.length := by have := HXI.out; omega
            have lS : j < SL.length := by have := HSLX.out; omega
            have hc := HCX.out wr HBX.out j lX
            have hrow := HRX.out wr HBX.out j lX
            have hsd := sidedD_any hrow.ints X[j].2.1 (by have := hrow.len; omega)
            have HE1 : Hid (sidedM X[j].2.2 = false → nameV s = .tuple #[.string { data := #[] }, .string { data := #[] }, .int .i64 (j : Int), .int .i64 10]) := fun h => HS1.out HTB2.out j lS HSDD.out (by rw [← HXJ.out j lX lS]; exact h)
            have HE2 : Hid (sidedM X[j].2.2 = true → ∀ q (hq : q < SL.length), q < j + 1 → sidedM SL[q] = true) := fun h q hq hqj => by
              rcases Nat.lt_or_ge q j with h1 | h1
              · exact HSDD.out q hq h1
              · obtain rfl : q = j := by omega
                rw [← HXJ.out q lX lS]
                exact h
            clear hrow
            unfold rowL at hc
            generalize sidedM X[j].2.2 = sv at *
            generalize X[j].2.2.length = xn at *
            generalize X[j].2.1 = xc at *
            generalize X[j].1 = xg at *
            clear lX lS
            cases sv with
            | false =>
              have HE : Hid (nameV s = .tuple #[.string { data := #[] }, .string { data := #[] }, .int .i64 (j : Int), .int .i64 10]) := HE1.out rfl
              clear HE1 HE2
              go_wp2_with fail
              refine hsd.mono ?_
              rintro e w9 ⟨rfl, hb9⟩
              clear hsd
              go_wp2_with fail
              (try simp only [Exit.inBlock, Exit.then])
              refine bodyPost_ret (results_four rfl _ _ _) rfl ?_
              exact ⟨by rw [HE.out]; rfl, Below.andThen HBX2.out hb9⟩
            | true =>
              have HE : Hid (∀ q (hq : q < SL.length), q < j + 1 → sidedM SL[q] = true) := HE2.out rfl
              clear HE1 HE2
              go_wp2_with fail
              refine hsd.mono ?_
              rintro e w9 ⟨rfl, hb9⟩
              clear hsd
              go_wp2_with fail
              go_roundw
              case rel => exact ⟨j + 1, by omega, by go_num, HE.out, Below.andThen HBX.out hb9⟩
              case measure => simp [intOf]; omega
          · obtain rfl : j = i := by omega
            have hji' : ¬ (j : Int) < (j : Int) := by omega
            have HNV : Hid (nameV s = if 253 < A.size then .tuple #[.string { data := #[] }, .string { data := #[] }, .int .i64 0, .int .i64 11] else .tuple #[.string (U ++ eB dot), .string (A ++ eB dot), .int .i64 0, .int .i64 0]) := HF1.out (fun _ L hL => by
              obtain ⟨q, hq, rfl⟩ := List.getElem_of_mem hL
              exact HSDD.out q hq (by have := HSLX.out; have := HXI.out; omega))
            by_cases hbig : 253 < A.size
            · have hb2 : (253 : Int) < (A.size : Int) := by omega
              have HE : Hid (nameV s = .tuple #[.string { data := #[] }, .string { data := #[] }, .int .i64 0, .int .i64 11]) := by unfold Hid; rw [HNV.out, if_pos hbig]
              clear hbig HNV
              go_wp2_with fail
              (try simp only [Exit.inBlock, Exit.then])
              refine bodyPost_ret (results_four rfl _ _ _) rfl ?_
              exact ⟨by rw [HE.out]; rfl, HBX2.out⟩
            · have hb2 : ¬ (253 : Int) < (A.size : Int) := by omega
              cases dot with
              | true =>
                have HE : Hid (nameV s = .tuple #[.string (U ++ { data := #[46] }), .string (A ++ { data := #[46] }), .int .i64 0, .int .i64 0]) := by unfold Hid; rw [HNV.out, if_neg hbig]; rfl
                clear hbig HNV
                go_wp2_with fail
                (try simp only [Exit.inBlock, Exit.then])
                refine bodyPost_ret (results_four rfl _ _ _) rfl ?_
                exact ⟨by rw [HE.out]; rfl, HBX2.out⟩
              | false =>
                have HE : Hid (nameV s = .tuple #[.string U, .string A, .int .i64 0, .int .i64 0]) := by unfold Hid; rw [HNV.out, if_neg hbig, eB_false, eB_false]
                clear hbig HNV
                go_wp2_with fail
                (try simp only [Exit.inBlock, Exit.then])
                refine bodyPost_ret (results_four rfl _ _ _) rfl ?_
                exact ⟨by rw [HE.out]; rfl, HBX2.out⟩
end Go.Proofs.YtkaaldhejpaiiaaGreatDoor

