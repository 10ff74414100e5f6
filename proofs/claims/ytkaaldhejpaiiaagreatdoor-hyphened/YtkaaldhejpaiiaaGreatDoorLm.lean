/- Plain mathematics of labels: heights and pairs. Nothing of the dump. -/
namespace Go.Proofs.YtkaaldhejpaiiaaGreatDoor.Lm

def height (n : Nat) : Nat :=
  if n = 2381 then 9 else if 1611 ≤ n ∧ n ≤ 1618 then n - 1611 + 27 else if n = 807 then 202 else if n = 808 then 202
  else if 790 ≤ n ∧ n ≤ 793 then 220 else if 796 ≤ n ∧ n ≤ 800 then 220 else if 803 ≤ n ∧ n ≤ 806 then 220 else if 809 ≤ n ∧ n ≤ 819 then 220 else 230
def inS (s : List UInt8) (a : Nat) : Bool := s.any fun c => c.toNat == a
def aeiou : List UInt8 := [97, 101, 105, 111, 117]
def aeiouy : List UInt8 := [97, 101, 105, 111, 117, 121]
def ano : List UInt8 := [97, 110, 111]
def pair (a b : Nat) : Bool :=
  if b = 769 then inS aeiouy a else if b = 776 then inS aeiouy a else if b = 768 then inS aeiou a else if b = 770 then inS aeiou a
  else if b = 771 then inS ano a else if b = 807 then decide (a = 99) else if b = 778 then decide (a = 97) else false
end Go.Proofs.YtkaaldhejpaiiaaGreatDoor.Lm
