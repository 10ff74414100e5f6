/- Plain mathematics of the ASCII forms: numbers, states. Nothing of the dump. -/
namespace Go.Proofs.YtkaaldhejpaiiaaGreatDoor.Pm

def bnd (k bias : Nat) : Nat := min (max (36 * k - bias) 1) 26
theorem bnd_pos (k bias : Nat) : 1 ≤ bnd k bias := by unfold bnd; omega
theorem bnd_le (k bias : Nat) : bnd k bias ≤ 26 := by unfold bnd; omega

/-- A digit's value. -/
def dig (c : Nat) : Option Nat := if 97 ≤ c ∧ c ≤ 122 then some (c - 97) else if 48 ≤ c ∧ c ≤ 57 then some (c - 48 + 26) else none
theorem dig_le {c d : Nat} (h : dig c = some d) : d ≤ 35 := by
  unfold dig at h
  split at h
  · simp at h; omega
  · split at h
    · simp at h; omega
    · simp at h

def shr (d b : Nat) : Nat × Nat := if h : 455 < d then shr (d / 35) (b + 36) else (d, b)
termination_by d
decreasing_by omega
theorem shr_big {d b : Nat} (h : 455 < d) : shr d b = shr (d / 35) (b + 36) := by rw [shr]; simp [h]
theorem shr_small {d b : Nat} (h : ¬ 455 < d) : shr d b = (d, b) := by rw [shr]; simp [h]
theorem shr_le : ∀ (d b : Nat), (shr d b).1 ≤ 455 ∧ (shr d b).2 ≤ b + d := by
  intro d
  induction d using Nat.strongRecOn with
  | _ d ih =>
    intro b
    by_cases h : 455 < d
    · rw [shr_big h]
      have := ih (d / 35) (by omega) (b + 36)
      omega
    · rw [shr_small h]; simp; omega
def damp (q len : Nat) (first : Bool) : Nat := (if first then q / 700 else q / 2) + (if first then q / 700 else q / 2) / len
def biasN (q len : Nat) (first : Bool) : Nat := (shr (damp q len first) 0).2 + 36 * (shr (damp q len first) 0).1 / ((shr (damp q len first) 0).1 + 38)
theorem damp_le (q len : Nat) (first : Bool) : damp q len first ≤ q := by
  unfold damp
  cases first
  · have := Nat.div_le_self (q / 2) len; simp; omega
  · have := Nat.div_le_self (q / 700) len; simp; omega
theorem biasN_le (q len : Nat) (first : Bool) : biasN q len first ≤ q + 36 := by
  unfold biasN
  have h := shr_le (damp q len first) 0
  have h2 := damp_le q len first
  have h3 : 36 * (shr (damp q len first) 0).1 / ((shr (damp q len first) 0).1 + 38) ≤ 36 := by
    apply Nat.div_le_of_le_mul
    rw [Nat.mul_comm]
    exact Nat.mul_le_mul (by omega) (Nat.le_refl _)
  omega

/-- Reading a number: k-th digit, what is summed up, the unit. -/
def rd (bias : Nat) : Nat → Nat → Nat → List UInt8 → Option (Nat × List UInt8)
  | _, _, _, [] => none
  | k, s, u, c :: r =>
    match dig c.toNat with
    | none => none
    | some d => if d < bnd k bias then some (s + d * u, r) else rd bias (k + 1) (s + d * u) (u * (36 - bnd k bias)) r
theorem rd_ge (bias : Nat) : ∀ (l : List UInt8) (k s u q : Nat) (r : List UInt8), rd bias k s u l = some (q, r) → s ≤ q
  | [], _, _, _, _, _, h => by simp [rd] at h
  | c :: l, k, s, u, q, r, h => by
    unfold rd at h
    split at h
    · simp at h
    · split at h
      · simp at h; omega
      · have := rd_ge bias l _ _ _ _ _ h
        have h2 := Nat.zero_le (‹Nat› * u)
        omega
theorem rd_len (bias : Nat) : ∀ (l : List UInt8) (k s u q : Nat) (r : List UInt8), rd bias k s u l = some (q, r) → r.length < l.length
  | [], _, _, _, _, _, h => by simp [rd] at h
  | c :: l, k, s, u, q, r, h => by
    unfold rd at h
    split at h
    · simp at h
    · split at h
      · simp at h; simp [← h.2]
      · have := rd_len bias l _ _ _ _ _ h
        simp; omega
theorem rd_suffix (bias : Nat) : ∀ (l : List UInt8) (k s u q : Nat) (r : List UInt8), rd bias k s u l = some (q, r) → r = l.drop (l.length - r.length)
  | [], _, _, _, _, _, h => by simp [rd] at h
  | c :: l, k, s, u, q, r, h => by
    unfold rd at h
    split at h
    · simp at h
    · split at h
      · simp at h; rw [← h.2]; simp
      · have h2 := rd_suffix bias l _ _ _ _ _ h
        have h3 := rd_len bias l _ _ _ _ _ h
        rw [show (c :: l).length - r.length = (l.length - r.length) + 1 by simp; omega, List.drop_succ_cons]
        exact h2

def sign (n : Nat) : Bool := decide (n ≤ 1114111) && (decide (n < 55296) || decide (57343 < n))

/-- Where both ways are. -/
structure St where
  n : Nat
  i : Nat
  L : List Nat
  bias : Nat
  later : Bool

def St.step (x : St) (q : Nat) : St := { x with n := x.n + (x.i + q) / (x.L.length + 1), i := (x.i + q) % (x.L.length + 1) }
def St.insert (x : St) (q : Nat) : St := { n := x.n, i := x.i + 1, L := x.L.take x.i ++ x.n :: x.L.drop x.i, bias := biasN q (x.L.length + 1) (!x.later), later := true }
def St.first (l : List Nat) : St := { n := 128, i := 0, L := l, bias := 72, later := false }
def St.most (x : St) : Nat := (1114111 - x.n) * (x.L.length + 1) + x.L.length - x.i

/-- The form's numbers, read. -/
def dec : Nat → St → List UInt8 → Option (List Nat)
  | 0, _, _ => none
  | f + 1, x, l =>
    if l = [] then some x.L else
    match rd x.bias 1 0 1 l with
    | none => none
    | some (q, r) => if sign (x.step q).n then dec f ((x.step q).insert q) r else none

/-- What holds of a state on its way. -/
structure St.ok (x : St) : Prop where
  n1 : 128 ≤ x.n
  n2 : x.n ≤ 1114111
  i : x.i ≤ x.L.length

theorem step_le {x : St} (h : x.ok) (q : Nat) : (x.step q).n ≤ 1114111 ↔ q ≤ x.most := by
  have h1 := h.n1; have h2 := h.n2; have h3 := h.i
  unfold St.step St.most
  simp only
  have key : (x.i + q) / (x.L.length + 1) ≤ 1114111 - x.n ↔ x.i + q < (1114111 - x.n + 1) * (x.L.length + 1) := by
    rw [← Nat.lt_succ_iff, Nat.div_lt_iff_lt_mul (by omega)]
  rw [show (x.n + (x.i + q) / (x.L.length + 1) ≤ 1114111) ↔ (x.i + q) / (x.L.length + 1) ≤ 1114111 - x.n by omega, key, Nat.add_mul, Nat.one_mul]
  generalize (1114111 - x.n) * (x.L.length + 1) = M
  omega
theorem step_i {x : St} (q : Nat) : (x.step q).i ≤ (x.step q).L.length := by
  unfold St.step
  simp only
  have := Nat.mod_lt (x.i + q) (show 0 < x.L.length + 1 by omega)
  omega
theorem insert_len (x : St) (q : Nat) (h : x.i ≤ x.L.length) : (x.insert q).L.length = x.L.length + 1 := by
  unfold St.insert
  simp
  omega
theorem ok_next {x : St} (h : x.ok) (q : Nat) (hs : (x.step q).n ≤ 1114111) : ((x.step q).insert q).ok := by
  have h1 := h.n1
  have hi := step_i (x := x) q
  refine ⟨?_, hs, ?_⟩
  · exact Nat.le_trans h1 (Nat.le_add_right _ _)
  · rw [insert_len _ _ hi]; show (x.step q).i + 1 ≤ _; omega
theorem most_le {x : St} (h : x.ok) (hl : x.L.length ≤ 1000) : x.most ≤ 1115226111 := by
  have h1 := h.n1
  unfold St.most
  have : (1114111 - x.n) * (x.L.length + 1) ≤ 1113983 * 1001 := Nat.mul_le_mul (by omega) (by omega)
  omega
end Go.Proofs.YtkaaldhejpaiiaaGreatDoor.Pm
