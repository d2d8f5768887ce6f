/-
  Go's own table for the lowest bit, as the row lists it: what a walk reads of it; numbers of 64 bits and bytes among the arguments.
-/
import Derived.Test.YtkffaimemmgfeaaDoorRows
import Derived.Lib.LaidTab
import Derived.LaidMore
import Derived.OpenShut
import Derived.Stop.LaidErr
import Derived.Stop.Joined
namespace Go.Proofs.YtkffaimemmgfeaaDoor
open Go
set_option linter.unusedVariables false

def tab64 : List Int := [0,1,56,2,57,49,28,3,61,58,42,50,38,29,17,4,62,47,59,36,45,43,51,22,53,39,33,30,24,18,12,5,63,55,48,27,60,41,37,16,46,35,44,21,52,32,23,11,54,26,40,15,34,20,31,10,25,14,19,9,13,8,7,6]
theorem gTab64 : Tryd.prog.globalNamed "math/bits.deBruijn64tab" = some 3 := by kernel_rfl
theorem tTab64 : (Tryd.prog.globals[3]?).map (·.type) = some 88 := by kernel_rfl
theorem uTab64 : Tryd.prog.underlying 88 = some (.array 64 5) := by kernel_rfl
theorem cTab64 : Tryd.prog.cellsOf 88 = 64 := by kernel_rfl
theorem cByte : Tryd.prog.cellsOf 5 = 1 := by kernel_rfl
theorem tab64_cell {W : World} {rest : List (String × DataW Unit)} (h : laidMet Tryd.prog (("math/bits.deBruijn64tab", Rows.laid_math_bits_deBruijn64tab) :: rest) W) : W.cell? ⟨3, 15, none⟩ = some (.int .u8 4) := by
  have hT : Lib.TabIs Tryd.prog W "math/bits.deBruijn64tab" .u8 tab64 := Lib.tabIs_of_head gTab64 tTab64 uTab64 Tryd.underlying5 cByte cTab64 (rest := rest) h
  exact hT.cell gTab64 15 (by decide)
theorem nat_u64 {n : Int} (h : (Lit.int .u64 n).wf = true) : ∃ m : Nat, n = (m : Int) ∧ m < 18446744073709551616 := by
  simp [Lit.wf, IntKind.min, IntKind.max, IntKind.signed, IntKind.bits] at h
  exact ⟨n.toNat, by omega, by omega⟩
theorem nat_u8 {n : Int} (h : (Lit.int .u8 n).wf = true) : ∃ m : Nat, n = (m : Int) ∧ m < 256 := by
  simp [Lit.wf, IntKind.min, IntKind.max, IntKind.signed, IntKind.bits] at h
  exact ⟨n.toNat, by omega, by omega⟩
end Go.Proofs.YtkffaimemmgfeaaDoor
