/-
  Which faults may not be; which payloads are too long; whether a row holds one.
-/
import Derived.Test.YtmjbhmmcpjhmcaaLogK
namespace Go.Proofs.Ytmjbhmmcpjhmcaa
open Go.RowKit
set_option linter.unusedVariables false

theorem not_fault1 {f : Int × Int} (h : withinB f.1 0 2 = false) : (!faultB f) = true := by unfold faultB; rw [h]; rfl
theorem not_fault2 {f : Int × Int} (h : withinB f.1 0 2 = true) {b : Bool} (h2 : withinB f.2 0 128 = b) : (!faultB f) = !b := by unfold faultB; rw [h, h2]; rfl
set_option maxHeartbeats 800000 in
theorem isNoFault_any (f : Int × Int) (w : World) :
    Calls Try.prog 49 #[.agg #[.int .i64 f.1, .int .i64 f.2]] w fun e w' => e = .returned (.bool (!faultB f)) ∧ Below w.heap.size w w' := by
  have hB0 := below_alloc w (.cells #[.int .i64 f.1, .int .i64 f.2] 44)
  cases h1 : withinB f.1 0 2
  · have E := Lib.hid (not_fault1 h1)
    have H1 := Lib.hid h1
    clear h1
    generalize f.1 = x at *
    generalize f.2 = y at *
    go_enter Try.func49, Try.ntmps49
    go_wp2_with fail
    refine (within_any _ _ _ _).mono ?_
    rintro e w1 ⟨rfl, rfl⟩
    rw [H1.out]
    go_wp2
    go_ret
    exact ⟨ret_bool E.out.symm, hB0⟩
  · cases h2 : withinB f.2 0 128
    all_goals
      have E := Lib.hid (not_fault2 h1 h2)
      have H1 := Lib.hid h1
      have H2 := Lib.hid h2
      clear h1 h2
      generalize f.1 = x at *
      generalize f.2 = y at *
      go_enter Try.func49, Try.ntmps49
      go_wp2_with fail
      refine (within_any _ _ _ _).mono ?_
      rintro e w1 ⟨rfl, rfl⟩
      rw [H1.out]
      go_wp2_with fail
      refine (within_any _ _ _ _).mono ?_
      rintro e w1 ⟨rfl, rfl⟩
      rw [H2.out]
      go_wp2
      go_ret
      exact ⟨ret_bool E.out.symm, hB0⟩
/-- is the payload too long -/
def longB (p : ByteArray) : Bool := decide (96 < p.size)
theorem long_yes {p : ByteArray} (h : 96 < p.size) : longB p = true := decide_eq_true h
theorem long_no {p : ByteArray} (h : ¬ 96 < p.size) : longB p = false := decide_eq_false h
theorem isTooLong_any (p : ByteArray) (w : World) (hm : p.size ≤ maxLen) :
    Calls Try.prog 50 #[.string p] w fun e w' => e = .returned (.bool (longB p)) ∧ w = w' := by
  unfold maxLen at hm
  by_cases h : 96 < p.size
  · have E := Lib.hid (long_yes h)
    go_enter Try.func50, Try.ntmps50
    go_wp2
    go_ret
    exact ⟨ret_bool (by rw [E.out]; first | rfl | (rw [decide_eq_true_iff]; omega)), rfl⟩
  · have E := Lib.hid (long_no h)
    go_enter Try.func50, Try.ntmps50
    go_wp2
    go_ret
    exact ⟨ret_bool (by rw [E.out]; first | rfl | exact decide_eq_false (by omega)), rfl⟩
end Go.Proofs.Ytmjbhmmcpjhmcaa
