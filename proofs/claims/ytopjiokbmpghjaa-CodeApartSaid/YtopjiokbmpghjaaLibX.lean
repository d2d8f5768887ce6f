/-
  Times that may be (tick.Right).
-/
import Derived.Test.YtopjiokbmpghjaaTxt
import Derived.Test.YtopjiokbmpghjaaVals
namespace Go.Proofs.Ytopjiokbmpghjaa
open Go.RowKit Go.Shelf
set_option linter.unusedVariables false

def timeB (t : Int) : Bool := decide (0 ≤ t) && decide (t ≤ 1099511627776)
set_option maxRecDepth 100000 in
set_option maxHeartbeats 400000 in
theorem tick_right (n : Int) (w : World) :
    Calls Try.prog 45 #[.int .i64 n] w fun e w' => e = .returned (.bool (timeB n)) ∧ w' = w := by
  have HT : Hid (timeB n = (decide (0 ≤ n) && decide (n ≤ 1099511627776))) := rfl
  go_enter Try.func45, Try.ntmps45
  by_cases h0 : 0 ≤ n
  · go_wp2_with fail
    go_ret
    exact ⟨retB (by rw [HT.out]; simp [h0]), rfl⟩
  · go_wp2_with fail
    go_ret
    exact ⟨retB (by rw [HT.out, show decide (0 ≤ n) = false by simp; omega]; simp), rfl⟩
end Go.Proofs.Ytopjiokbmpghjaa
