/-
  Times: what two of them make, one contract each: Add alone (for seats that have no Times).
-/
import Derived.Test.YtaiacohnhhicpaaTick
namespace Go.Proofs.Ytaiacohnhhicpaa.Bo
open Go.RowKit
set_option linter.unusedVariables false

/-- both together, the last time at most -/
def addT (t d : Int) : Int := if 1099511627776 < t + d then 1099511627776 else t + d
/-- the one without the other, the first time at least -/
def subT (t d : Int) : Int := if t - d < 0 then 0 else t - d
/-- both multiplied, the last time at most -/
def mulT (t n : Int) : Int := if 1099511627776 < t * n then 1099511627776 else t * n

theorem mul_nn {t n : Int} (h0 : 0 ≤ t) (h1 : 0 ≤ n) : 0 ≤ t * n := Int.mul_nonneg h0 h1
theorem past_iff {t n : Int} (h : 0 < n) : (1099511627776 / n < t) ↔ (1099511627776 < t * n) := Int.ediv_lt_iff_lt_mul h

def Below1 (w w' : World) : Prop := Below w.heap.size w w'

theorem two_yes {t d : Int} (ht0 : 0 ≤ t) (ht1 : t ≤ 1099511627776) (hd0 : 0 ≤ d) (hd1 : d ≤ 1099511627776) : [t, d].all timeB = true := by
  simp [time_mk ht0 ht1, time_mk hd0 hd1]
theorem are_two (t d : Int) (b : Bool) (h : [t, d].all timeB = b) (w : World) (T : TypeId) :
    Calls Try.prog 65 #[.slice (some ⟨w.heap.size, 0, none⟩) 2 2] (w.alloc (.cells #[.int .i64 t, .int .i64 d] T)) fun e w' => e = .returned (.bool b) ∧ w.alloc (.cells #[.int .i64 t, .int .i64 d] T) = w' :=
  (are_any _ 2 2 [t, d] _ (ns_two w t d T) (by omega)).mono fun e w' hh => by rw [h] at hh; exact hh

set_option maxHeartbeats 400000 in
theorem add_yes (t d : Int) (w : World) (ht0 : 0 ≤ t) (ht1 : t ≤ 1099511627776) (hd0 : 0 ≤ d) (hd1 : d ≤ 1099511627776) :
    Calls Try.prog 48 #[.int .i64 t, .int .i64 d] w fun e w' => e = .returned (.tuple #[.int .i64 (addT t d), .int .i64 0]) ∧ Below w.heap.size w w' := by
  have H := Lib.hid (two_yes ht0 ht1 hd0 hd1)
  by_cases h : 1099511627776 < t + d
  · go_enter Try.func48, Try.ntmps48
    go_wp2_with fail
    refine (are_two t d true H.out _ _).mono ?_
    rintro e w' ⟨rfl, rfl⟩
    go_wp2
    go_ret2
    exact ⟨ret2 (by unfold addT; rw [if_pos h]), (Below.refl _ w).alloc (Nat.le_refl _) _⟩
  · go_enter Try.func48, Try.ntmps48
    go_wp2_with fail
    refine (are_two t d true H.out _ _).mono ?_
    rintro e w' ⟨rfl, rfl⟩
    go_wp2
    go_ret2
    exact ⟨ret2 (by unfold addT; rw [if_neg (by omega)]), (Below.refl _ w).alloc (Nat.le_refl _) _⟩
set_option maxHeartbeats 400000 in
theorem add_no (t d : Int) (w : World) (h : [t, d].all timeB = false) :
    Calls Try.prog 48 #[.int .i64 t, .int .i64 d] w fun e w' => e = .returned (.tuple #[.int .i64 0, .int .i64 1]) ∧ Below w.heap.size w w' := by
  have H := Lib.hid h
  clear h
  go_enter Try.func48, Try.ntmps48
  go_wp2_with fail
  refine (are_two t d false H.out _ _).mono ?_
  rintro e w' ⟨rfl, rfl⟩
  go_wp2
  go_ret2
  exact ⟨rfl, (Below.refl _ w).alloc (Nat.le_refl _) _⟩

theorem add_nn {t d : Int} (h0 : 0 ≤ t) (h1 : 0 ≤ d) : 0 ≤ addT t d := by unfold addT; split <;> omega
theorem add_le (t d : Int) : addT t d ≤ 1099511627776 := by unfold addT; split <;> omega
theorem sub_nn (t d : Int) : 0 ≤ subT t d := by unfold subT; split <;> omega
theorem sub_le {t d : Int} (h0 : t ≤ 1099511627776) (h1 : 0 ≤ d) : subT t d ≤ 1099511627776 := by unfold subT; split <;> omega
theorem mulT_nn {t n : Int} (h0 : 0 ≤ t) (h1 : 0 ≤ n) : 0 ≤ mulT t n := by have := mul_nn h0 h1; unfold mulT; split <;> omega
theorem mulT_le (t n : Int) : mulT t n ≤ 1099511627776 := by unfold mulT; split <;> omega

theorem add_is (t d r : Int) (w : World) (h : r = addT t d) (ht0 : 0 ≤ t) (ht1 : t ≤ 1099511627776) (hd0 : 0 ≤ d) (hd1 : d ≤ 1099511627776) :
    Calls Try.prog 48 #[.int .i64 t, .int .i64 d] w fun e w' => e = .returned (.tuple #[.int .i64 r, .int .i64 0]) ∧ Below w.heap.size w w' := by
  subst h; exact add_yes t d w ht0 ht1 hd0 hd1
end Go.Proofs.Ytaiacohnhhicpaa.Bo
