/-
  Which numbers are times.
-/
import Derived.Test.YteomenkojhppfaaRows
import Derived.WalkKit
import Derived.ProofKit
import Derived.LoopTactic
import Derived.OneCell
import Derived.Lib.Hide
import Derived.Outline
import Derived.WalkSpells
import Derived.WalkLawsBesides
import Derived.Below
namespace Go.Proofs.Yteomenkojhppfaa
open Go.RowKit
set_option linter.unusedVariables false

theorem retI {k : IntKind} {a b : Int} (h : a = b) : Ending.returned (.int k a) = .returned (.int k b) := by rw [h]
theorem retB {a b : Bool} (h : a = b) : Ending.returned (.bool a) = .returned (.bool b) := by rw [h]
theorem ret2 {a b : Int} {e : Int} (h : a = b) : Ending.returned (.tuple #[.int .i64 a, .int .i64 e]) = .returned (.tuple #[.int .i64 b, .int .i64 e]) := by rw [h]
theorem valI {k : IntKind} {a b : Int} (h : a = b) : Value.int k a = .int k b := by rw [h]

/-- is it a time? -/
def timeB (t : Int) : Bool := decide (0 ≤ t) && decide (t ≤ 1099511627776)
theorem time_yes {t : Int} (h : timeB t = true) : 0 ≤ t ∧ t ≤ 1099511627776 := by unfold timeB at h; simpa using h
theorem time_mk {t : Int} (h0 : 0 ≤ t) (h1 : t ≤ 1099511627776) : timeB t = true := by unfold timeB; simp [h0, h1]
theorem time_low {t : Int} (h0 : t < 0) : timeB t = false := by unfold timeB; simp; omega
theorem time_high {t : Int} (h0 : 1099511627776 < t) : timeB t = false := by unfold timeB; simp; omega

set_option maxHeartbeats 400000 in
theorem time_any (t : Int) (w : World) :
    Calls Try.prog 22 #[.int .i64 t] w fun e w' => e = .returned (.bool (timeB t)) ∧ w = w' := by
  by_cases h0 : 0 ≤ t
  · by_cases h1 : t ≤ 1099511627776
    · go_enter Try.func22, Try.ntmps22
      go_wp2
      go_ret
      exact ⟨retB (time_mk h0 h1).symm, rfl⟩
    · go_enter Try.func22, Try.ntmps22
      go_wp2
      go_ret
      exact ⟨retB (time_high h1).symm, rfl⟩
  · go_enter Try.func22, Try.ntmps22
    go_wp2
    go_ret
    exact ⟨retB (time_low h0).symm, rfl⟩

end Go.Proofs.Yteomenkojhppfaa
