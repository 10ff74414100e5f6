/- Texts as rows of signs: the two conversions, signs.Of, Count, At, String. -/
import Derived.Test.YtkaaldhejpaiiaaGreatDoorPd
import Derived.Laws.Cover4
namespace Go.Proofs.YtkaaldhejpaiiaaGreatDoor
open Go.RowKit

/-- The runes of a string from a place on, as the conversion reads them. -/
def runesN (s : ByteArray) : Nat → Nat → List Nat
  | 0, _ => []
  | b + 1, i => if i < s.size then (Utf8.decode s i).1 :: runesN s b (i + (Utf8.decode s i).2) else []
def runes (s : ByteArray) : List Nat := runesN s s.size 0
def rv (n : Nat) : Value := .int .i32 (n : Int)
theorem runesFrom_eq (s : ByteArray) : ∀ (b i : Nat) (acc : Array Value), Conv.runesFrom s b i acc = acc ++ ((runesN s b i).map rv).toArray
  | 0, i, acc => by simp [Conv.runesFrom, runesN]
  | b + 1, i, acc => by
    simp only [Conv.runesFrom, runesN]
    split
    · rw [runesFrom_eq s b _ _]
      simp [rv]
    · simp
theorem runesN_len (s : ByteArray) : ∀ b i, (runesN s b i).length ≤ b
  | 0, _ => by simp [runesN]
  | b + 1, i => by
    unfold runesN
    split
    · have := runesN_len s b (i + (Utf8.decode s i).2); simp; omega
    · simp
theorem runes_len (s : ByteArray) : (runes s).length ≤ s.size := runesN_len s _ _

def runeRow (w : World) (s : ByteArray) : Array Value := ((runes s).map rv).toArray ++ Array.replicate (grownCap w (runes s).length 0 21 - (runes s).length) (.int .i32 0)
theorem run_toRunes (s : ByteArray) (w : World) :
    (convert 9 48 (.string s)).run Tryz.prog w = .ok (.slice (some ⟨w.heap.size, 0, none⟩) (runes s).length (grownCap w (runes s).length 0 21)) (w.alloc (.cells (runeRow w s) 21)).drew := by
  have e : Conv.runesFrom s s.size 0 #[] = ((runes s).map rv).toArray := by rw [runesFrom_eq]; simp [runes]
  simp [convert, run_underlying Tryz.underlying9, run_underlying Tryz.underlying48, run_underlying Tryz.underlying21, Conv.stringToRunes, e, Question.forced, newRow]
  exact ⟨rfl, rfl⟩
theorem owns_runeRow (s : ByteArray) (w : World) (base : Nat) (hb : base ≤ w.heap.size) (hs : s.size ≤ 1000) :
    (w.alloc (.cells (runeRow w s) 21)).ownsRow base 21 1 (.slice (some ⟨w.heap.size, 0, none⟩) (runes s).length (grownCap w (runes s).length 0 21)) (runes s).length ((runes s).map rv) := by
  have h1 := grownCap_ge w (runes s).length 0 21
  have h2 := runes_len s
  refine ⟨by simp, .inr ⟨w.heap.size, _, _, rfl, hb, heap_alloc_new w _, h1, grownCap_le_maxLen w _ _ _ (by unfold maxLen; omega), ?_, ?_⟩⟩
  · simp [runeRow]; omega
  · simp [runeRow]

theorem owns_second (s : ByteArray) (w : World) (o o' : Obj) (hs : s.size ≤ 1000) :
    ((w.alloc o).alloc (.cells (runeRow (w.alloc o') s) 21)).drew.ownsRow (w.heap.size + 1) 21 1 (.slice (some ⟨w.heap.size + 1, 0, none⟩) (runes s).length (grownCap (w.alloc o') (runes s).length 0 21)) (runes s).length ((runes s).map rv) := by
  have h := owns_runeRow s (w.alloc o) (w.heap.size + 1) (by simp) hs
  have e : (w.alloc o).heap.size = w.heap.size + 1 := by simp
  rw [e] at h
  exact h
theorem below_drew_alloc2 {w : World} (o1 o2 : Obj) : Below w.heap.size w ((w.alloc o1).alloc o2).drew := (((Below.refl _ _).alloc (Nat.le_refl _) _).alloc (by simp) _).drew
set_option maxHeartbeats 400000 in
theorem of_any (s : ByteArray) (w : World) (hs : s.size ≤ 1000) :
    Calls Tryz.prog 57 #[.string s] w fun e w' => ∃ g c, e = .returned (.agg #[.slice (some ⟨g, 0, none⟩) (runes s).length c]) ∧ w'.ownsRow (w.heap.size + 1) 21 1 (.slice (some ⟨g, 0, none⟩) (runes s).length c) (runes s).length ((runes s).map rv) ∧ Below w.heap.size w w' := by
  have hcv := fun w => run_toRunes s w
  go_enter Tryz.func57, Tryz.ntmps57
  go_wp2
  refine bodyPost_ret (v := .agg #[.slice (some ⟨w.heap.size + 1, 0, none⟩) (runes s).length _]) (by simp [results, Tryz.results57, go_sem]; rfl) rfl ⟨_, _, rfl, ?_, ?_⟩
  · exact owns_second s w _ _ hs
  · exact below_drew_alloc2 _ _

set_option maxHeartbeats 400000 in
theorem count_any (E o : Nat) (a : Option Addr) (n c : Nat) (w : World) (hc : w.cell? ⟨E, o, none⟩ = some (.slice a n c)) :
    Calls Tryz.prog 94 #[.pointer (some ⟨E, o, none⟩)] w fun e w' => e = .returned (.int .i64 n) ∧ w' = w := by
  go_enter Tryz.func94, Tryz.ntmps94
  go_wp2
  go_ret
  exact ⟨rfl, rfl⟩

set_option maxHeartbeats 400000 in
theorem at_any (E o g n c k r : Nat) (w : World) (hc : w.cell? ⟨E, o, none⟩ = some (.slice (some ⟨g, 0, none⟩) n c)) (hk : k < n) (hr : w.cell? ⟨g, k, none⟩ = some (rv r)) :
    Calls Tryz.prog 97 #[.pointer (some ⟨E, o, none⟩), .int .i64 k] w fun e w' => e = .returned (rv r) ∧ w' = w := by
  unfold rv at hr ⊢
  go_enter Tryz.func97, Tryz.ntmps97
  go_wp2
  go_ret
  exact ⟨rfl, rfl⟩

theorem run_ofRunes (w : World) (g n c : Nat) (ns : List Nat) (base : Nat) (h : w.ownsRow base 21 1 (.slice (some ⟨g, 0, none⟩) n c) n (ns.map rv)) :
    (convert 48 9 (.slice (some ⟨g, 0, none⟩) n c)).run Tryz.prog w = .ok (.string (runesBytes (ns.map (fun (x : Nat) => (x : Int))))) w := by
  rw [run_convert_runes_string w 48 9 21 _ _ _ Tryz.underlying48 Tryz.underlying21 Tryz.underlying9]
  have hl : ns.length = n := by have := h.1; simpa using this
  refine run_runesToString w _ _ _ _ ?_
  have := run_loadCells_list (P := Tryz.prog) w ⟨g, 0, none⟩ (ns.map rv) (fun j v hv => h.cells (g := g) rfl j v hv)
  rw [List.length_map, hl] at this
  rw [this]
  congr 2
  simp [rv]

set_option maxHeartbeats 400000 in
theorem string_any (E o g n c : Nat) (ns : List Nat) (base : Nat) (w : World) (hc : w.cell? ⟨E, o, none⟩ = some (.slice (some ⟨g, 0, none⟩) n c)) (h : w.ownsRow base 21 1 (.slice (some ⟨g, 0, none⟩) n c) n (ns.map rv)) :
    Calls Tryz.prog 24 #[.pointer (some ⟨E, o, none⟩)] w fun e w' => e = .returned (.string (runesBytes (ns.map (fun (x : Nat) => (x : Int))))) ∧ w' = w := by
  have hcv := run_ofRunes w g n c ns base h
  clear h
  go_enter Tryz.func24, Tryz.ntmps24
  go_wp2
  go_ret
  exact ⟨rfl, rfl⟩
end Go.Proofs.YtkaaldhejpaiiaaGreatDoor
