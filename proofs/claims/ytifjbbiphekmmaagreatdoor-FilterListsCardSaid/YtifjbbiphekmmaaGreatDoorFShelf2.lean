/-
  The library's contracts of slices.IndexFunc, ContainsFunc of terms, and slices.IndexFunc of labels, laid at this program.
-/
import Derived.Shelf.SlicesQ.IndexFunc
import Derived.Test.YtifjbbiphekmmaaGreatDoorIShelf
namespace Go.Proofs.YtifjbbiphekmmaaGreatDoor
open Go.Shelf
def sh_laysContainsTm_ren : Go.Shelf.Ren := ⟨fun | 8 => 47 | 6 => 70 | n => n, fun | 22 => 44 | 23 => 24 | 25 => 26 | 4 => 4 | 3 => 3 | 0 => 0 | n => n, fun | n => n⟩
theorem sh_laysContainsTm : Go.Proofs.SlLaysH0.n8 Tryz.prog sh_laysContainsTm_ren := {
  mixed := by kernel_rfl
  f6 := ⟨Tryz.f70.name, by decide, Tryz.func70.trans (congrArg some (by kernel_rfl))⟩
  f8 := ⟨Tryz.f47.name, by decide, Tryz.func47.trans (congrArg some (by kernel_rfl))⟩
  t0 := Tryz.underlying0
  a0 := Tryz.isAgg0
  z0 := Tryz.sizeOf0
  v0 := Tryz.zeroValue0
  t3 := Tryz.underlying3
  a3 := Tryz.isAgg3
  z3 := Tryz.sizeOf3
  v3 := Tryz.zeroValue3
  t4 := Tryz.underlying4
  a4 := Tryz.isAgg4
  z4 := Tryz.sizeOf4
  v4 := Tryz.zeroValue4
  t22 := Tryz.underlying44
  a22 := Tryz.isAgg44
  z22 := Tryz.sizeOf44
  v22 := Tryz.zeroValue44
  t25 := Tryz.underlying26
  a25 := Tryz.isAgg26
  z25 := Tryz.sizeOf26
  v25 := Tryz.zeroValue26 }
end Go.Proofs.YtifjbbiphekmmaaGreatDoor
