/-
  What the rows list of the library's variables, as the walks take it.
-/
import Derived.Test.YtbihaoibmkdfjaaDoorLibX
import Derived.WalkKit
import Derived.ProofKit
import Derived.OpenShut
import Derived.ShutString
import Derived.ChangeOld
import Derived.Below
import Derived.Carry
import Derived.SliceStrings
import Derived.Lib.SmallJoins
import Derived.Deep.Slices
import Derived.LaidMore
import Derived.Stop.LaidErr
import Derived.Stop.Joined
namespace Go.Proofs.YtbihaoibmkdfjaaDoor
open Go.ChangeShapes Go.WideShapes Go.ChangeAt Go.RowKit Go.Deep
set_option linter.unusedVariables false

theorem own : ownKnob Tryd.prog.godebug = none := by kernel_rfl
theorem laidOut : laidOutB Tryd.prog = true := by kernel_rfl
theorem add_at (b o j : Nat) : (⟨b, o, none⟩ : Addr).add j = ⟨b, o + j, none⟩ := by unfold Addr.add; split <;> simp_all
theorem cellsStr : Tryd.prog.cellsOf 9 = 1 := by kernel_rfl
theorem cellsInt : Tryd.prog.cellsOf 3 = 1 := by kernel_rfl
theorem tSyn : (Tryd.prog.globals[3]?).map (·.type) = some 85 := by kernel_rfl
theorem tRng : (Tryd.prog.globals[4]?).map (·.type) = some 85 := by kernel_rfl
theorem tPow : (Tryd.prog.globals[5]?).map (·.type) = some 141 := by kernel_rfl
theorem uPow : Tryd.prog.underlying 141 = some (.array 20 123) := by kernel_rfl
theorem cPow : Tryd.prog.cellsOf 141 = 20 := by kernel_rfl
theorem cU64 : Tryd.prog.cellsOf 123 = 1 := by kernel_rfl
theorem ePow : (Rows.laid_internal_strconv_uint64pow10 : DataW Unit) = Lib.tabData .u64 Lib.pow10Tab := by kernel_rfl
theorem cellsErr : Tryd.prog.cellsOf 139 = 1 := by kernel_rfl
theorem star : "*" ++ "errors.errorString" = "*errors.errorString" := by decide
theorem rowErr (u : TypeId) (h : Tryd.prog.typeName? 3 u = some "*errors.errorString") : u = 137 :=
  typeName_ptr_named (nm := "errors.errorString") (by rw [star]; kernel_rfl) (by kernel_rfl) (by decide) u (by rw [star]; exact h)
/-- what the row lists, as the walk takes it -/
theorem tabs_of {W : World} {a b c : String × DataW Unit} {r : List (String × DataW Unit)}
    (h : laidMet Tryd.prog (a :: b :: ("internal/strconv.uint64pow10", Rows.laid_internal_strconv_uint64pow10) :: c :: ("strconv.ErrRange", Rows.laid_strconv_ErrRange) :: ("strconv.ErrSyntax", Rows.laid_strconv_ErrSyntax) :: r) W) : Tabs W := by
  have h2 := h.tail.tail
  have h3 := h2
  rw [ePow] at h3
  have hp : Lib.TabIs Tryd.prog W "internal/strconv.uint64pow10" .u64 Lib.pow10Tab := Lib.tabIs_of_head gPow tPow uPow Tryd.underlying123 cU64 cPow h3
  obtain ⟨a1, s1, hv1, -, -, -⟩ := laid_sentinel h2.tail.tail gRng tRng Tryd.underlying85 rowErr Tryd.underlying137 Tryd.underlying139 rfl rfl Tryd.underlying9 cellsErr cellsStr
  obtain ⟨a0, s0, hv0, -, -, -⟩ := laid_sentinel h2.tail.tail.tail gSyn tSyn Tryd.underlying85 rowErr Tryd.underlying137 Tryd.underlying139 rfl rfl Tryd.underlying9 cellsErr cellsStr
  exact ⟨⟨_, _, hv0⟩, ⟨_, _, hv1⟩, hp⟩
end Go.Proofs.YtbihaoibmkdfjaaDoor
