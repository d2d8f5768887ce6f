/-
  What the rows list of the library's variables, as the walks take it.
-/
import Derived.Test.YtbihaoibmkdfjaaGreatDoorLibX
import Derived.WalkKit
import Derived.ProofKit
import Derived.OpenShut
import Derived.ShutString
import Derived.ChangeOld
import Derived.Below
import Derived.Carry
import Derived.SliceStrings
import Derived.Lib.SmallJoins
import Derived.Deep.Slices
import Derived.LaidMore
import Derived.Stop.LaidErr
import Derived.Stop.Joined
namespace Go.Proofs.YtbihaoibmkdfjaaGreatDoor
open Go.ChangeShapes Go.WideShapes Go.ChangeAt Go.RowKit Go.Deep
set_option linter.unusedVariables false

theorem own : ownKnob Tryz.prog.godebug = none := by kernel_rfl
theorem laidOut : laidOutB Tryz.prog = true := by kernel_rfl
theorem add_at (b o j : Nat) : (⟨b, o, none⟩ : Addr).add j = ⟨b, o + j, none⟩ := by unfold Addr.add; split <;> simp_all
theorem cellsStr : Tryz.prog.cellsOf 9 = 1 := by kernel_rfl
theorem cellsInt : Tryz.prog.cellsOf 3 = 1 := by kernel_rfl
theorem tSyn : (Tryz.prog.globals[6]?).map (·.type) = some 108 := by kernel_rfl
theorem tRng : (Tryz.prog.globals[7]?).map (·.type) = some 108 := by kernel_rfl
theorem tPow : (Tryz.prog.globals[1]?).map (·.type) = some 146 := by kernel_rfl
theorem uPow : Tryz.prog.underlying 146 = some (.array 20 126) := by kernel_rfl
theorem cPow : Tryz.prog.cellsOf 146 = 20 := by kernel_rfl
theorem cU64 : Tryz.prog.cellsOf 126 = 1 := by kernel_rfl
theorem ePow : (Rows.laid_internal_strconv_uint64pow10 : DataW Unit) = Lib.tabData .u64 Lib.pow10Tab := by kernel_rfl
theorem cellsErr : Tryz.prog.cellsOf 176 = 1 := by kernel_rfl
theorem star : "*" ++ "errors.errorString" = "*errors.errorString" := by decide
theorem rowErr (u : TypeId) (h : Tryz.prog.typeName? 3 u = some "*errors.errorString") : u = 174 :=
  typeName_ptr_named (nm := "errors.errorString") (by rw [star]; kernel_rfl) (by kernel_rfl) (by decide) u (by rw [star]; exact h)
/-- what the row lists, as the walk takes it -/
theorem tabs_of {W : World} {a b c : String × DataW Unit} {r : List (String × DataW Unit)}
    (h : laidMet Tryz.prog (a :: b :: ("internal/strconv.uint64pow10", Rows.laid_internal_strconv_uint64pow10) :: c :: ("strconv.ErrRange", Rows.laid_strconv_ErrRange) :: ("strconv.ErrSyntax", Rows.laid_strconv_ErrSyntax) :: r) W) : Tabs W := by
  have h2 := h.tail.tail
  have h3 := h2
  rw [ePow] at h3
  have hp : Lib.TabIs Tryz.prog W "internal/strconv.uint64pow10" .u64 Lib.pow10Tab := Lib.tabIs_of_head gPow tPow uPow Tryz.underlying126 cU64 cPow h3
  obtain ⟨a1, s1, hv1, -, -, -⟩ := laid_sentinel h2.tail.tail gRng tRng Tryz.underlying108 rowErr Tryz.underlying174 Tryz.underlying176 rfl rfl Tryz.underlying9 cellsErr cellsStr
  obtain ⟨a0, s0, hv0, -, -, -⟩ := laid_sentinel h2.tail.tail.tail gSyn tSyn Tryz.underlying108 rowErr Tryz.underlying174 Tryz.underlying176 rfl rfl Tryz.underlying9 cellsErr cellsStr
  exact ⟨⟨_, _, hv0⟩, ⟨_, _, hv1⟩, hp⟩
end Go.Proofs.YtbihaoibmkdfjaaGreatDoor
