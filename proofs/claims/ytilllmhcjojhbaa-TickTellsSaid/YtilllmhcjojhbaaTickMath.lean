/-
  Times: what follows of sums and products that stop at the last time: plain numbers.
-/
import Derived.Test.YtilllmhcjojhbaaTickMore
namespace Go.Proofs.Ytilllmhcjojhbaa
open Go.RowKit
set_option linter.unusedVariables false

theorem addT_comm (a b : Int) : addT a b = addT b a := by unfold addT; rw [Int.add_comm]
theorem mulT_comm (a b : Int) : mulT a b = mulT b a := by unfold mulT; rw [Int.mul_comm]
theorem addT_assoc {a b c : Int} (ha : 0 ≤ a) (hb : 0 ≤ b) (hc : 0 ≤ c) : addT (addT a b) c = addT a (addT b c) := by
  unfold addT; (repeat' split) <;> omega
theorem ge_self {a x : Int} (ha : 1 ≤ a) (hx : 0 ≤ x) : x ≤ a * x := by
  have h := Int.mul_le_mul_of_nonneg_right ha hx
  omega
theorem mulT_top {a : Int} (ha : 1 ≤ a) : mulT a 1099511627776 = 1099511627776 := by
  have h := ge_self ha (x := 1099511627776) (by omega)
  unfold mulT; split <;> omega
theorem mulT_zero (b : Int) : mulT 0 b = 0 := by unfold mulT; simp
theorem mulT_ge {a x : Int} (ha : 1 ≤ a) (hx : 1099511627776 < x) : mulT a x = 1099511627776 := by
  have h := ge_self ha (x := x) (by omega)
  unfold mulT; split <;> omega
theorem mulT_pos {a x : Int} (h : 1099511627776 < a * x) : mulT a x = 1099511627776 := by unfold mulT; rw [if_pos h]
theorem mulT_neg {a x : Int} (h : ¬ 1099511627776 < a * x) : mulT a x = a * x := by unfold mulT; rw [if_neg h]
theorem mulT_assoc {a b c : Int} (ha : 0 ≤ a) (hb : 0 ≤ b) (hc : 0 ≤ c) : mulT (mulT a b) c = mulT a (mulT b c) := by
  by_cases ha0 : a = 0
  · subst ha0; rw [mulT_zero, mulT_zero, mulT_zero]
  by_cases hc0 : c = 0
  · subst hc0; rw [mulT_comm _ 0, mulT_comm b 0, mulT_zero, mulT_zero, mulT_comm, mulT_zero]
  have ha1 : 1 ≤ a := by omega
  have hc1 : 1 ≤ c := by omega
  have hab := mul_nn ha hb
  have hbc := mul_nn hb hc
  by_cases h1 : 1099511627776 < a * b
  · rw [mulT_pos h1, mulT_comm, mulT_top hc1]
    by_cases h2 : 1099511627776 < b * c
    · rw [mulT_pos h2, mulT_top ha1]
    · rw [mulT_neg h2, mulT_pos]
      have h3 := ge_self hc1 hab
      rw [← Int.mul_assoc, Int.mul_comm]
      omega
  · rw [mulT_neg h1]
    by_cases h2 : 1099511627776 < b * c
    · rw [mulT_pos h2, mulT_top ha1, mulT_pos]
      have h3 := ge_self ha1 hbc
      rw [Int.mul_assoc]
      omega
    · rw [mulT_neg h2]
      unfold mulT
      rw [Int.mul_assoc]
theorem spread {a b c : Int} (ha : 0 ≤ a) (hb : 0 ≤ b) (hc : 0 ≤ c) : mulT a (addT b c) = addT (mulT a b) (mulT a c) := by
  by_cases ha0 : a = 0
  · subst ha0; rw [mulT_zero, mulT_zero, mulT_zero]; rfl
  have ha1 : 1 ≤ a := by omega
  have hab := mul_nn ha hb
  have hac := mul_nn ha hc
  have e := Int.mul_add a b c
  by_cases h : 1099511627776 < b + c
  · have h1 := ge_self ha1 (x := b + c) (by omega)
    have hl : addT b c = 1099511627776 := by unfold addT; rw [if_pos h]
    rw [hl, mulT_top ha1]
    unfold addT mulT
    (repeat' split) <;> omega
  · have hl : addT b c = b + c := by unfold addT; rw [if_neg h]
    rw [hl]
    unfold addT mulT
    rw [e]
    (repeat' split) <;> omega
theorem addT_left {a b : Int} (ha : a ≤ 1099511627776) (hb : 0 ≤ b) : a ≤ addT a b := by unfold addT; split <;> omega
theorem addT_right {a b : Int} (ha : 0 ≤ a) (hb : b ≤ 1099511627776) : b ≤ addT a b := by unfold addT; split <;> omega
theorem back {a b : Int} (ha : 0 ≤ a) (hb : 0 ≤ b) (h : addT a b ≠ 1099511627776) : subT (addT a b) b = a := by
  unfold addT at h ⊢
  unfold subT
  (repeat' split) <;> (split at h <;> omega)
theorem least_two (b c : Int) : leastT [b, c] = minT b c := rfl
theorem least_three (a b c : Int) : leastT [a, b, c] = minT a (leastT [b, c]) := by
  show minT (minT a b) c = minT a (minT b c)
  unfold minT
  (repeat' split) <;> omega

/-! the contracts, each with its answer's letter -/
theorem add_is (t d r : Int) (w : World) (h : r = addT t d) (ht0 : 0 ≤ t) (ht1 : t ≤ 1099511627776) (hd0 : 0 ≤ d) (hd1 : d ≤ 1099511627776) :
    Calls Try.prog 6 #[.int .i64 t, .int .i64 d] w fun e w' => e = .returned (.tuple #[.int .i64 r, .int .i64 0]) ∧ Below w.heap.size w w' := by
  subst h; exact add_yes t d w ht0 ht1 hd0 hd1
theorem sub_is (t d r : Int) (w : World) (h : r = subT t d) (ht0 : 0 ≤ t) (ht1 : t ≤ 1099511627776) (hd0 : 0 ≤ d) (hd1 : d ≤ 1099511627776) :
    Calls Try.prog 7 #[.int .i64 t, .int .i64 d] w fun e w' => e = .returned (.tuple #[.int .i64 r, .int .i64 0]) ∧ Below w.heap.size w w' := by
  subst h; exact sub_yes t d w ht0 ht1 hd0 hd1
theorem times_is (t d r : Int) (w : World) (h : r = mulT t d) (ht0 : 0 ≤ t) (ht1 : t ≤ 1099511627776) (hd0 : 0 ≤ d) (hd1 : d ≤ 1099511627776) :
    Calls Try.prog 8 #[.int .i64 t, .int .i64 d] w fun e w' => e = .returned (.tuple #[.int .i64 r, .int .i64 0]) ∧ Below w.heap.size w w' := by
  subst h; exact times_yes t d w ht0 ht1 hd0 hd1
theorem time_is (t : Int) (w : World) (h0 : 0 ≤ t) (h1 : t ≤ 1099511627776) :
    Calls Try.prog 10 #[.int .i64 t] w fun e w' => e = .returned (.bool true) ∧ w = w' :=
  (time_any t w).mono fun e w' h => by rw [time_mk h0 h1] at h; exact h
theorem tm_is (n r : Int) (w : World) (h : r = timeT n) :
    Calls Try.prog 18 #[.int .i64 n] w fun e w' => e = .returned (.int .i64 r) ∧ w = w' := by
  subst h; exact tm_any n w
theorem first_three (a b c r : Int) (w : World) (T : TypeId) (h : r = leastT [a, b, c]) (ha0 : 0 ≤ a) (ha1 : a ≤ 1099511627776) (hb0 : 0 ≤ b) (hb1 : b ≤ 1099511627776) (hc0 : 0 ≤ c) (hc1 : c ≤ 1099511627776) :
    Calls Try.prog 9 #[.slice (some ⟨w.heap.size, 0, none⟩) 3 3] (w.alloc (.cells #[.int .i64 a, .int .i64 b, .int .i64 c] T)) fun e w' => e = .returned (.tuple #[.int .i64 r, .int .i64 0]) ∧ Below w.heap.size w w' := by
  subst h
  refine (first_yes _ 3 3 [a, b, c] _ (ns_three w a b c T) (by omega) (by omega) (by simp [time_mk ha0 ha1, time_mk hb0 hb1, time_mk hc0 hc1])).mono ?_
  rintro e w' ⟨rfl, rfl⟩
  exact ⟨rfl, (Below.refl _ w).alloc (Nat.le_refl _) _⟩
theorem first_two (b c r : Int) (w : World) (T : TypeId) (h : r = leastT [b, c]) (hb0 : 0 ≤ b) (hb1 : b ≤ 1099511627776) (hc0 : 0 ≤ c) (hc1 : c ≤ 1099511627776) :
    Calls Try.prog 9 #[.slice (some ⟨w.heap.size, 0, none⟩) 2 2] (w.alloc (.cells #[.int .i64 b, .int .i64 c] T)) fun e w' => e = .returned (.tuple #[.int .i64 r, .int .i64 0]) ∧ Below w.heap.size w w' := by
  subst h
  refine (first_yes _ 2 2 [b, c] _ (ns_two w b c T) (by omega) (by omega) (two_yes hb0 hb1 hc0 hc1)).mono ?_
  rintro e w' ⟨rfl, rfl⟩
  exact ⟨rfl, (Below.refl _ w).alloc (Nat.le_refl _) _⟩
end Go.Proofs.Ytilllmhcjojhbaa
