/- The library's contracts of math/bits.Add64, Mul64, LeadingZeros64, laid at this program: for each the table of numbers and that the program bears that very body. No condition. -/
import Derived.Ground.NamesProg
import Derived.Ground.Names7Prog
import Derived.Shelf.Spec.BitsCarry
import Derived.Shelf.Bits.Mul64
import Derived.Shelf.Small.Bits
import Derived.Test.YtmfbplicakappaaGreatDoorProg
namespace Go.Proofs
open Go.Shelf
def Tryz.lays7x25_ren : Go.Shelf.Ren := ⟨fun | 25 => 143 | n => n, fun | 22 => 123 | n => n, fun | n => n⟩
theorem Tryz.lays7x25 : Go.Proofs.Lays7.n25 Tryz.prog Tryz.lays7x25_ren := {
  mixed := by kernel_rfl
  f25 := Tryz.func143.trans (congrArg some (by kernel_rfl))
  t22 := Tryz.underlying123
  a22 := Tryz.isAgg123
  z22 := Tryz.sizeOf123
  v22 := Tryz.zeroValue123
  i22 := by kernel_rfl }
end Go.Proofs
