/-
  Backs: which may be, their steps, the draw's part, the first steps together: plain numbers.
-/
import Derived.Test.YtaiacohnhhicpaaTickAdd
namespace Go.Proofs.Ytaiacohnhhicpaa.Bo
open Go.RowKit
set_option linter.unusedVariables false

def inB (n a b : Int) : Bool := decide (a ≤ n) && decide (n ≤ b)
/-- which backs may be -/
def backB (B T J : Int) : Bool := inB B 1 1048576 && inB T B 1073741824 && inB J 0 1048576
structure Bk (B T J : Int) : Prop where
  b1 : 1 ≤ B
  b2 : B ≤ 1048576
  t1 : B ≤ T
  t2 : T ≤ 1073741824
  j1 : 0 ≤ J
  j2 : J ≤ 1048576
theorem back_yes {B T J : Int} (h : backB B T J = true) : Bk B T J := by
  unfold backB inB at h
  simp at h
  obtain ⟨⟨⟨a, b⟩, c, d⟩, e, f⟩ := h
  exact ⟨a, b, c, d, e, f⟩
theorem back_mk {B T J : Int} (h : Bk B T J) : backB B T J = true := by
  obtain ⟨a, b, c, d, e, f⟩ := h
  unfold backB inB
  simp [*]
/-- a back's step n: twice the one ahead, Top at most -/
def stepN (B T : Int) : Nat → Int
  | 0 => B
  | n + 1 => if 2 * stepN B T n < T then 2 * stepN B T n else T
theorem stepN_next (B T : Int) (n : Nat) : stepN B T (n + 1) = if 2 * stepN B T n < T then 2 * stepN B T n else T := rfl
theorem stepN_range {B T : Int} (h0 : 0 ≤ B) (h : B ≤ T) (n : Nat) : B ≤ stepN B T n ∧ stepN B T n ≤ T := by
  induction n with
  | zero => exact ⟨Int.le_refl _, h⟩
  | succ n ih =>
    rw [stepN_next]
    split <;> omega
theorem stepN_rise {B T : Int} (h0 : 0 ≤ B) (h : B ≤ T) (n : Nat) : stepN B T n ≤ stepN B T (n + 1) := by
  have := stepN_range h0 h n
  rw [stepN_next]
  split <;> omega
theorem stepN_twice {B T : Int} (h0 : 0 ≤ B) (h : B ≤ T) (n : Nat) : stepN B T (n + 1) ≤ 2 * stepN B T n := by
  rw [stepN_next]
  split <;> omega
theorem stepN_just {B T : Int} (n : Nat) (h : 2 * stepN B T n ≤ T) : stepN B T (n + 1) = 2 * stepN B T n := by
  rw [stepN_next]
  split <;> omega
theorem stepN_top {B T : Int} (hB : 0 ≤ T) {k : Nat} (h : stepN B T k = T) (n : Nat) : stepN B T (k + n) = T := by
  induction n with
  | zero => exact h
  | succ n ih =>
    rw [← Nat.add_assoc, stepN_next, ih]
    split <;> omega
theorem stepN_from {B T : Int} (hB : 0 ≤ T) {k n : Nat} (h : stepN B T k = T) (hk : k ≤ n) : stepN B T n = T := by
  have := stepN_top hB h (n - k)
  rwa [show k + (n - k) = n from by omega] at this
/-- the first n steps together -/
def sumN (B T : Int) : Nat → Int
  | 0 => 0
  | n + 1 => sumN B T n + stepN B T n
theorem sumN_next (B T : Int) (n : Nat) : sumN B T (n + 1) = sumN B T n + stepN B T n := rfl
theorem sumN_nn {B T : Int} (h0 : 0 ≤ B) (h : B ≤ T) (n : Nat) : 0 ≤ sumN B T n := by
  induction n with
  | zero => exact Int.le_refl _
  | succ n ih => have := stepN_range h0 h n; rw [sumN_next]; omega
theorem sumN_le {B T : Int} (h0 : 0 ≤ B) (h : B ≤ T) (ht : T ≤ 1073741824) (n : Nat) : sumN B T n ≤ (n : Int) * 1073741824 := by
  induction n with
  | zero => simp [sumN]
  | succ n ih => have := stepN_range h0 h n; rw [sumN_next]; omega
theorem sumN_top {B T : Int} (hT : 0 ≤ T) {k : Nat} (h : stepN B T k = T) (n : Nat) : sumN B T (k + n) = sumN B T k + T * (n : Int) := by
  induction n with
  | zero => simp
  | succ n ih =>
    rw [← Nat.add_assoc, sumN_next, ih, stepN_top hT h]
    have : T * ((n + 1 : Nat) : Int) = T * (n : Int) + T := by rw [Int.natCast_succ, Int.mul_add]; omega
    omega
/-- .. the last time at most -/
def allT (B T : Int) (n : Nat) : Int := if 1099511627776 < sumN B T n then 1099511627776 else sumN B T n
theorem allT_zero (B T : Int) : allT B T 0 = 0 := rfl
theorem allT_next {B T : Int} (h0 : 0 ≤ B) (h : B ≤ T) (n : Nat) : allT B T (n + 1) = addT (allT B T n) (stepN B T n) := by
  have := stepN_range h0 h n
  unfold allT addT
  rw [sumN_next]
  (repeat' split) <;> omega
/-- the draw's part of the jitter -/
def partT (J d : Int) : Int := d % (J + 1)
theorem part_eq {m d : Int} (hm : 0 < m) : (d.tmod m + m).tmod m = d % m := by
  have h1 : 0 ≤ d.tmod m + m := by
    have h2 := Int.tmod_eq_emod (a := d) (b := m)
    have h3 := Int.emod_nonneg d (show m ≠ 0 by omega)
    rw [h2]
    split <;> omega
  rw [Int.tmod_eq_emod_of_nonneg h1, Int.add_emod_right]
  have h2 := Int.tmod_eq_emod (a := d) (b := m)
  rw [h2]
  split
  · simp
  · have e : (m.natAbs : Int) = m := by omega
    rw [e, Int.sub_emod_right, Int.emod_emod]
theorem part_nn {J : Int} (h : 0 ≤ J) (d : Int) : 0 ≤ partT J d := Int.emod_nonneg _ (by omega)
theorem part_le {J : Int} (h : 0 ≤ J) (d : Int) : partT J d ≤ J := by
  have := Int.emod_lt_of_pos d (show 0 < J + 1 by omega)
  unfold partT
  omega
end Go.Proofs.Ytaiacohnhhicpaa.Bo
