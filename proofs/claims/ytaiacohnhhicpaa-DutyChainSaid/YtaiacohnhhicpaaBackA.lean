/-
  Backs: small functions of package backoff, one contract each: within, Right, hasStep, part, tops, steps.
-/
import Derived.Test.YtaiacohnhhicpaaBackN
namespace Go.Proofs.Ytaiacohnhhicpaa.Bo
open Go.RowKit
set_option linter.unusedVariables false

theorem below_alloc (w : World) (o : Obj) : Below w.heap.size w (w.alloc o) := (Below.refl _ w).alloc (Nat.le_refl _) _
theorem within_any (n a b : Int) (w : World) :
    Calls Try.prog 63 #[.int .i64 n, .int .i64 a, .int .i64 b] w fun e w' => e = .returned (.bool (inB n a b)) ∧ w = w' := by
  by_cases h1 : a ≤ n
  · by_cases h2 : n ≤ b
    · go_enter Try.func63, Try.ntmps63
      go_wp2
      go_ret
      exact ⟨retB (by unfold inB; rw [decide_eq_true h1, decide_eq_true h2]; rfl), rfl⟩
    · go_enter Try.func63, Try.ntmps63
      go_wp2
      go_ret
      exact ⟨retB (by unfold inB; rw [eq_comm, Bool.and_eq_false_iff]; right; exact decide_eq_false (by omega)), rfl⟩
  · go_enter Try.func63, Try.ntmps63
    go_wp2
    go_ret
    exact ⟨retB (by unfold inB; rw [eq_comm, Bool.and_eq_false_iff]; left; exact decide_eq_false (by omega)), rfl⟩
theorem within_is (n a b : Int) (r : Bool) (w : World) (h : inB n a b = r) :
    Calls Try.prog 63 #[.int .i64 n, .int .i64 a, .int .i64 b] w fun e w' => e = .returned (.bool r) ∧ w = w' := by subst h; exact within_any n a b w

set_option maxHeartbeats 800000 in
theorem right_any (B T J : Int) (w : World) :
    Calls Try.prog 45 #[.agg #[.int .i64 B, .int .i64 T, .int .i64 J]] w fun e w' => e = .returned (.bool (backB B T J)) ∧ Below w.heap.size w w' := by
  cases h1 : inB B 1 1048576 with
  | false =>
    have H : Hid (backB B T J = false) := by show _ = _; unfold backB; rw [h1]; rfl
    have H1 := Lib.hid h1
    clear h1
    go_enter Try.func45, Try.ntmps45
    go_wp2_with fail
    refine (within_is _ _ _ false _ H1.out).mono ?_
    rintro e w' ⟨rfl, rfl⟩
    go_wp2
    go_ret
    exact ⟨retB H.out.symm, below_alloc w _⟩
  | true =>
    cases h2 : inB T B 1073741824 with
    | false =>
      have H : Hid (backB B T J = false) := by show _ = _; unfold backB; rw [h1, h2]; rfl
      have H1 := Lib.hid h1
      have H2 := Lib.hid h2
      clear h1 h2
      go_enter Try.func45, Try.ntmps45
      go_wp2_with fail
      refine (within_is _ _ _ true _ H1.out).mono ?_
      rintro e w' ⟨rfl, rfl⟩
      go_wp2_with fail
      refine (within_is _ _ _ false _ H2.out).mono ?_
      rintro e w' ⟨rfl, rfl⟩
      go_wp2
      go_ret
      exact ⟨retB H.out.symm, below_alloc w _⟩
    | true =>
      have H : Hid (backB B T J = inB J 0 1048576) := by show _ = _; unfold backB; rw [h1, h2]; rfl
      have H1 := Lib.hid h1
      have H2 := Lib.hid h2
      clear h1 h2
      generalize h3 : inB J 0 1048576 = r at H
      have H3 := Lib.hid h3
      clear h3
      go_enter Try.func45, Try.ntmps45
      go_wp2_with fail
      refine (within_is _ _ _ true _ H1.out).mono ?_
      rintro e w' ⟨rfl, rfl⟩
      go_wp2_with fail
      refine (within_is _ _ _ true _ H2.out).mono ?_
      rintro e w' ⟨rfl, rfl⟩
      go_wp2_with fail
      refine (within_is _ _ _ r _ H3.out).mono ?_
      rintro e w' ⟨rfl, rfl⟩
      go_wp2
      go_ret
      exact ⟨retB H.out.symm, below_alloc w _⟩
theorem right_is (B T J : Int) (r : Bool) (w : World) (h : backB B T J = r) :
    Calls Try.prog 45 #[.agg #[.int .i64 B, .int .i64 T, .int .i64 J]] w fun e w' => e = .returned (.bool r) ∧ Below w.heap.size w w' := by subst h; exact right_any B T J w

/-- may it be, and is n no less than 0 -/
def hasB (B T J n : Int) : Bool := backB B T J && decide (0 ≤ n)
set_option maxHeartbeats 800000 in
theorem has_any (B T J n : Int) (w : World) :
    Calls Try.prog 32 #[.agg #[.int .i64 B, .int .i64 T, .int .i64 J], .int .i64 n] w fun e w' => e = .returned (.bool (hasB B T J n)) ∧ Below w.heap.size w w' := by
  cases h1 : backB B T J with
  | false =>
    have H : Hid (hasB B T J n = false) := by show _ = _; unfold hasB; rw [h1]; rfl
    have H1 := Lib.hid h1
    clear h1
    go_enter Try.func32, Try.ntmps32
    go_wp2_with fail
    refine (right_is _ _ _ false _ H1.out).mono ?_
    rintro e w' ⟨rfl, hB⟩
    go_wp2
    go_ret
    exact ⟨retB H.out.symm, (below_alloc w _).trans (hB.mono (by simp))⟩
  | true =>
    have H : Hid (hasB B T J n = decide (0 ≤ n)) := by show _ = _; unfold hasB; rw [h1]; rfl
    have H1 := Lib.hid h1
    clear h1
    by_cases h0 : 0 ≤ n
    · go_enter Try.func32, Try.ntmps32
      go_wp2_with fail
      refine (right_is _ _ _ true _ H1.out).mono ?_
      rintro e w' ⟨rfl, hB⟩
      go_wp2
      go_ret
      exact ⟨retB (by rw [H.out, decide_eq_true h0]), (below_alloc w _).trans (hB.mono (by simp))⟩
    · go_enter Try.func32, Try.ntmps32
      go_wp2_with fail
      refine (right_is _ _ _ true _ H1.out).mono ?_
      rintro e w' ⟨rfl, hB⟩
      go_wp2
      go_ret
      exact ⟨retB (by rw [H.out]), (below_alloc w _).trans (hB.mono (by simp))⟩
theorem has_is (B T J n : Int) (r : Bool) (w : World) (h : hasB B T J n = r) :
    Calls Try.prog 32 #[.agg #[.int .i64 B, .int .i64 T, .int .i64 J], .int .i64 n] w fun e w' => e = .returned (.bool r) ∧ Below w.heap.size w w' := by subst h; exact has_any B T J n w

theorem part_eq' {m d : Int} (hm : 0 < m) (h2 : m ≤ 2097152) : (wrap64 (d.tmod m + m)).tmod m = d % m := by
  have e : wrap64 (d.tmod m + m) = d.tmod m + m := by
    have h2 := Int.tmod_eq_emod (a := d) (b := m)
    have h3 := Int.emod_nonneg d (show m ≠ 0 by omega)
    have h4 := Int.emod_lt_of_pos d hm
    have h5 : -m < d.tmod m ∧ d.tmod m < m := by
      rw [h2]
      split <;> omega
    generalize d.tmod m = x at *
    unfold wrap64
    omega
  rw [e, part_eq hm]
set_option maxHeartbeats 800000 in
theorem part_any (B T J d : Int) (w : World) (h : Bk B T J) :
    Calls Try.prog 64 #[.agg #[.int .i64 B, .int .i64 T, .int .i64 J], .int .i64 d] w fun e w' => e = .returned (.int .i64 (partT J d)) ∧ Below w.heap.size w w' := by
  have h1 := h.j1
  have h2 := h.j2
  go_enter Try.func64, Try.ntmps64
  go_wp2
  go_ret
  exact ⟨retI (part_eq' (m := J + 1) (by omega) (by omega)), below_alloc w _⟩

theorem steps_any (B T J : Int) (w : World) :
    Calls Try.prog 33 #[.agg #[.int .i64 B, .int .i64 T, .int .i64 J]] w fun e w' =>
      e = .returned (.func (.func 46) #[] #[.pointer (some ⟨w.heap.size, 0, none⟩)]) ∧ w' = w.alloc (.cells #[.int .i64 B, .int .i64 T, .int .i64 J] 45) := by
  go_enter Try.func33, Try.ntmps33
  go_wp2
  go_ret
  exact ⟨rfl, rfl⟩
end Go.Proofs.Ytaiacohnhhicpaa.Bo
