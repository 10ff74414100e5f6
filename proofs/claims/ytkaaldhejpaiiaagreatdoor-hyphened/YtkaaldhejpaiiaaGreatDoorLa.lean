/- slices.Contains at the four types of a row: the shelf's contract, laid. -/
import Derived.Shelf.SlicesE.Index
import Derived.Test.YtkaaldhejpaiiaaGreatDoorProg
namespace Go.Proofs.YtkaaldhejpaiiaaGreatDoor
open Go.Shelf Go.Lib

def renKind : Go.Shelf.Ren := ⟨fun | 29 => 132 | 31 => 95 | n => n, fun | 22 => 132 | 23 => 56 | n => n, fun n => n⟩
theorem laysKind : SlLaysE.n31 Tryz.prog renKind := {
  mixed := by kernel_rfl
  f29 := ⟨Tryz.f132.name, by decide, Tryz.func132.trans (congrArg some (by kernel_rfl))⟩
  f31 := ⟨Tryz.f95.name, by decide, Tryz.func95.trans (congrArg some (by kernel_rfl))⟩
  t0 := Tryz.underlying0
  a0 := Tryz.isAgg0
  z0 := Tryz.sizeOf0
  v0 := Tryz.zeroValue0
  t3 := Tryz.underlying3
  a3 := Tryz.isAgg3
  z3 := Tryz.sizeOf3
  v3 := Tryz.zeroValue3
  t4 := Tryz.underlying4
  a4 := Tryz.isAgg4
  z4 := Tryz.sizeOf4
  v4 := Tryz.zeroValue4
  t22 := Tryz.underlying132
  a22 := Tryz.isAgg132
  z22 := Tryz.sizeOf132
  v22 := Tryz.zeroValue132
  a23 := Tryz.isAgg56
  z23 := Tryz.sizeOf56 }
theorem containsKind (b c : Nat) (zs : List Int) (x : Int) (w : World) (hn : zs.length ≤ 100) (hc : ∀ j, j < zs.length → w.cell? ⟨b, j, none⟩ = some (.int .u8 zs[j]!)) :
    Calls Tryz.prog 95 #[.slice (some ⟨b, 0, none⟩) zs.length c, .int .u8 x] w fun e w' => e = .returned (.bool (zs.any fun y => x == y)) ∧ w' = w := by
  have h := AnyE.slices_Contains laysKind (Value.int .u8) (fun x y => x == y) (EqlAt.int _ _ _) b 0 zs.length c zs x w (Nat.le_refl _) (by omega) (fun j hj => by rw [Nat.zero_add]; exact hc j hj)
  rw [List.take_length] at h
  exact h
def renScript : Go.Shelf.Ren := ⟨fun | 29 => 189 | 31 => 165 | n => n, fun | 22 => 192 | 23 => 58 | n => n, fun n => n⟩
theorem laysScript : SlLaysE.n31 Tryz.prog renScript := {
  mixed := by kernel_rfl
  f29 := ⟨Tryz.f189.name, by decide, Tryz.func189.trans (congrArg some (by kernel_rfl))⟩
  f31 := ⟨Tryz.f165.name, by decide, Tryz.func165.trans (congrArg some (by kernel_rfl))⟩
  t0 := Tryz.underlying0
  a0 := Tryz.isAgg0
  z0 := Tryz.sizeOf0
  v0 := Tryz.zeroValue0
  t3 := Tryz.underlying3
  a3 := Tryz.isAgg3
  z3 := Tryz.sizeOf3
  v3 := Tryz.zeroValue3
  t4 := Tryz.underlying4
  a4 := Tryz.isAgg4
  z4 := Tryz.sizeOf4
  v4 := Tryz.zeroValue4
  t22 := Tryz.underlying192
  a22 := Tryz.isAgg192
  z22 := Tryz.sizeOf192
  v22 := Tryz.zeroValue192
  a23 := Tryz.isAgg58
  z23 := Tryz.sizeOf58 }
theorem containsScript (b c : Nat) (zs : List Int) (x : Int) (w : World) (hn : zs.length ≤ 100) (hc : ∀ j, j < zs.length → w.cell? ⟨b, j, none⟩ = some (.int .u8 zs[j]!)) :
    Calls Tryz.prog 165 #[.slice (some ⟨b, 0, none⟩) zs.length c, .int .u8 x] w fun e w' => e = .returned (.bool (zs.any fun y => x == y)) ∧ w' = w := by
  have h := AnyE.slices_Contains laysScript (Value.int .u8) (fun x y => x == y) (EqlAt.int _ _ _) b 0 zs.length c zs x w (Nat.le_refl _) (by omega) (fun j hj => by rw [Nat.zero_add]; exact hc j hj)
  rw [List.take_length] at h
  exact h
def renSide : Go.Shelf.Ren := ⟨fun | 29 => 194 | 31 => 172 | n => n, fun | 22 => 198 | 23 => 57 | n => n, fun n => n⟩
theorem laysSide : SlLaysE.n31 Tryz.prog renSide := {
  mixed := by kernel_rfl
  f29 := ⟨Tryz.f194.name, by decide, Tryz.func194.trans (congrArg some (by kernel_rfl))⟩
  f31 := ⟨Tryz.f172.name, by decide, Tryz.func172.trans (congrArg some (by kernel_rfl))⟩
  t0 := Tryz.underlying0
  a0 := Tryz.isAgg0
  z0 := Tryz.sizeOf0
  v0 := Tryz.zeroValue0
  t3 := Tryz.underlying3
  a3 := Tryz.isAgg3
  z3 := Tryz.sizeOf3
  v3 := Tryz.zeroValue3
  t4 := Tryz.underlying4
  a4 := Tryz.isAgg4
  z4 := Tryz.sizeOf4
  v4 := Tryz.zeroValue4
  t22 := Tryz.underlying198
  a22 := Tryz.isAgg198
  z22 := Tryz.sizeOf198
  v22 := Tryz.zeroValue198
  a23 := Tryz.isAgg57
  z23 := Tryz.sizeOf57 }
theorem containsSide (b c : Nat) (zs : List Int) (x : Int) (w : World) (hn : zs.length ≤ 100) (hc : ∀ j, j < zs.length → w.cell? ⟨b, j, none⟩ = some (.int .u8 zs[j]!)) :
    Calls Tryz.prog 172 #[.slice (some ⟨b, 0, none⟩) zs.length c, .int .u8 x] w fun e w' => e = .returned (.bool (zs.any fun y => x == y)) ∧ w' = w := by
  have h := AnyE.slices_Contains laysSide (Value.int .u8) (fun x y => x == y) (EqlAt.int _ _ _) b 0 zs.length c zs x w (Nat.le_refl _) (by omega) (fun j hj => by rw [Nat.zero_add]; exact hc j hj)
  rw [List.take_length] at h
  exact h
def renJoining : Go.Shelf.Ren := ⟨fun | 29 => 199 | 31 => 190 | n => n, fun | 22 => 211 | 23 => 59 | n => n, fun n => n⟩
theorem laysJoining : SlLaysE.n31 Tryz.prog renJoining := {
  mixed := by kernel_rfl
  f29 := ⟨Tryz.f199.name, by decide, Tryz.func199.trans (congrArg some (by kernel_rfl))⟩
  f31 := ⟨Tryz.f190.name, by decide, Tryz.func190.trans (congrArg some (by kernel_rfl))⟩
  t0 := Tryz.underlying0
  a0 := Tryz.isAgg0
  z0 := Tryz.sizeOf0
  v0 := Tryz.zeroValue0
  t3 := Tryz.underlying3
  a3 := Tryz.isAgg3
  z3 := Tryz.sizeOf3
  v3 := Tryz.zeroValue3
  t4 := Tryz.underlying4
  a4 := Tryz.isAgg4
  z4 := Tryz.sizeOf4
  v4 := Tryz.zeroValue4
  t22 := Tryz.underlying211
  a22 := Tryz.isAgg211
  z22 := Tryz.sizeOf211
  v22 := Tryz.zeroValue211
  a23 := Tryz.isAgg59
  z23 := Tryz.sizeOf59 }
theorem containsJoining (b c : Nat) (zs : List Int) (x : Int) (w : World) (hn : zs.length ≤ 100) (hc : ∀ j, j < zs.length → w.cell? ⟨b, j, none⟩ = some (.int .u8 zs[j]!)) :
    Calls Tryz.prog 190 #[.slice (some ⟨b, 0, none⟩) zs.length c, .int .u8 x] w fun e w' => e = .returned (.bool (zs.any fun y => x == y)) ∧ w' = w := by
  have h := AnyE.slices_Contains laysJoining (Value.int .u8) (fun x y => x == y) (EqlAt.int _ _ _) b 0 zs.length c zs x w (Nat.le_refl _) (by omega) (fun j hj => by rw [Nat.zero_add]; exact hc j hj)
  rw [List.take_length] at h
  exact h
end Go.Proofs.YtkaaldhejpaiiaaGreatDoor
