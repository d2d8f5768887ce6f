/-
  Steps rise, waits are steps and the jitter's part, the first steps together are one more: the law's walk.
-/
import Derived.Test.YtnapnegjdagcpaaBackL
namespace Go.Proofs.Ytnapnegjdagcpaa
open Go.RowKit
set_option linter.unusedVariables false

set_option maxHeartbeats 400000 in
theorem alive6 (w : World) :
    Calls Try.prog 11 #[] w fun e w' => e = .returned (.bool true) ∧ Below w.heap.size w w' := by
  have A := fun w => wait_yes 2 9 3 1 (-1) w ⟨by omega, by omega, by omega, by omega, by omega, by omega⟩ (by omega)
  have h7 : waitT 2 9 3 1 (-1) = 7 := by decide +kernel
  rw [h7] at A
  clear h7
  go_enter Try.func11, Try.ntmps11
  go_wp2_with fail
  refine (A _).mono ?_
  rintro e w1 ⟨rfl, B1⟩
  go_wp2
  go_ret
  exact ⟨rfl, B1⟩
theorem wait_is (B T J n d r : Int) (w : World) (hr : r = waitT B T J n d) (h : Bk B T J) (hn : 0 ≤ n) :
    Calls Try.prog 7 #[.agg #[.int .i64 B, .int .i64 T, .int .i64 J], .int .i64 n, .int .i64 d] w fun e w' => e = .returned (.tuple #[.int .i64 r, .int .i64 0]) ∧ Below w.heap.size w w' := by subst hr; exact wait_yes B T J n d w h hn
theorem has_not {B T J : Int} (n : Int) (h : backB B T J = false) : hasB B T J n = false := by unfold hasB; rw [h]; rfl
/-- a number from 0 to 99 of any one -/
def h100 (n : Int) : Int := n % 100
theorem h100_eq (n : Int) : (n.tmod 100 + 100).tmod 100 = h100 n := part_eq (by omega)
theorem h100_nn (n : Int) : 0 ≤ h100 n := by unfold h100; omega
theorem h100_le (n : Int) : h100 n ≤ 99 := by unfold h100; omega
theorem h100_eq' (n : Int) : (wrap64 (n.tmod 100 + 100)).tmod 100 = h100 n := part_eq' (by omega) (by omega)
theorem boxN {w w1 : World} {A : Nat} {B T J : Int} (h : Bx w A B T J) (hB : Below w.heap.size w w1) : Below w.heap.size w w1 ∧ Bx w1 A B T J := ⟨hB, h.below hB (Nat.le_refl _)⟩
namespace backoffRises
set_option maxHeartbeats 4000000 in
set_option maxRecDepth 100000 in
theorem walk (B T J n d : Int) (w : World) :
    Calls Try.prog 4 #[.agg #[.int .i64 B, .int .i64 T, .int .i64 J], .int .i64 n, .int .i64 d] w fun e w' => e = .returned (.bool true) ∧ Below w.heap.size w w' := by
  cases hb : backB B T J with
  | false =>
    have H0 := Lib.hid (fun n => has_not (B := B) (T := T) (J := J) n hb)
    clear hb
    go_enter Try.func4, Try.ntmps4
    go_wp2_with fail
    rw [h100_eq' n]
    generalize h100 n = k at *
    refine (step_no _ _ _ _ _ (H0.out _)).mono ?_
    rintro e w1 ⟨rfl, B1⟩
    obtain ⟨hB1, hx1⟩ := box1 B1
    clear B1
    have c0 := hx1.c0
    have c1 := hx1.c1
    have c2 := hx1.c2
    go_wp2_with fail
    refine (step_no _ _ _ _ _ (H0.out _)).mono ?_
    rintro e w2 ⟨rfl, B2⟩
    obtain ⟨hB2, hx2⟩ := boxN hx1 B2
    clear B2
    have c0 := hx2.c0
    have c1 := hx2.c1
    have c2 := hx2.c2
    go_wp2_with fail
    clear hx1
    refine (wait_no _ _ _ _ _ _ (H0.out _)).mono ?_
    rintro e w3 ⟨rfl, B3⟩
    obtain ⟨hB3, hx3⟩ := boxN hx2 B3
    clear B3
    have c0 := hx3.c0
    have c1 := hx3.c1
    have c2 := hx3.c2
    go_wp2_with fail
    clear hx2
    refine (all_no _ _ _ _ _ (H0.out _)).mono ?_
    rintro e w4 ⟨rfl, B4⟩
    obtain ⟨hB4, hx4⟩ := boxN hx3 B4
    clear B4
    have c0 := hx4.c0
    have c1 := hx4.c1
    have c2 := hx4.c2
    go_wp2_with fail
    clear hx3
    refine (all_no _ _ _ _ _ (H0.out _)).mono ?_
    rintro e w5 ⟨rfl, B5⟩
    obtain ⟨hB5, hx5⟩ := boxN hx4 B5
    clear B5
    have c0 := hx5.c0
    have c1 := hx5.c1
    have c2 := hx5.c2
    go_wp2_with fail
    clear hx4
    refine (alive6 _).mono ?_
    rintro e w6 ⟨rfl, B6⟩
    obtain ⟨_, hx6⟩ := boxN hx5 B6
    have c0 := hx6.c0
    have c1 := hx6.c1
    have c2 := hx6.c2
    go_wp2_with fail
    go_ret
    have s1 := hB1.size
    have s2 := hB2.size
    have s3 := hB3.size
    have s4 := hB4.size
    have s5 := hB5.size
    exact ⟨rfl, ((((hB1.trans (hB2.mono (by omega))).trans (hB3.mono (by omega))).trans (hB4.mono (by omega))).trans (hB5.mono (by omega))).trans (B6.mono (by omega))⟩
  | true =>
    have hbk := back_yes hb
    have b1 := hbk.b1
    have b2 := hbk.b2
    have t1 := hbk.t1
    have t2 := hbk.t2
    have j1 := hbk.j1
    have j2 := hbk.j2
    clear hb
    obtain ⟨k, hk⟩ : ∃ k, Hid (k = h100 n) := ⟨_, rfl⟩
    have k0 : 0 ≤ k := by rw [hk.out]; exact h100_nn n
    have k1 : k ≤ 99 := by rw [hk.out]; exact h100_le n
    have ek : Hid ((k + 1).toNat = k.toNat + 1) := by show _ = _; omega
    obtain ⟨s, Hs⟩ : ∃ s, Hid (s = stepN B T k.toNat) := ⟨_, rfl⟩
    obtain ⟨t, Ht⟩ : ∃ t, Hid (t = stepN B T (k + 1).toNat) := ⟨_, rfl⟩
    obtain ⟨v, Hv⟩ : ∃ v, Hid (v = waitT B T J k d) := ⟨_, rfl⟩
    obtain ⟨x, Hx⟩ : ∃ x, Hid (x = allT B T k.toNat) := ⟨_, rfl⟩
    obtain ⟨y, Hy⟩ : ∃ y, Hid (y = allT B T (k + 1).toNat) := ⟨_, rfl⟩
    obtain ⟨s0, s1⟩ := stepN_range (B := B) (T := T) (by omega) t1 k.toNat
    rw [← Hs.out] at s0 s1
    have hjust : Hid (2 * s ≤ T → t = 2 * s) := by
      intro h2
      rw [Ht.out, ek.out]
      rw [Hs.out] at h2 ⊢
      exact stepN_just _ h2
    have t0 : s ≤ t := by rw [Ht.out, ek.out, Hs.out]; exact stepN_rise (by omega) t1 _
    have t3 : t ≤ 2 * s := by rw [Ht.out, ek.out, Hs.out]; exact stepN_twice (by omega) t1 _
    have t4 : t ≤ T := by rw [Ht.out]; exact (stepN_range (by omega) t1 _).2
    have v0 : s ≤ v := by
      rw [Hv.out, Hs.out]
      have := part_nn j1 d
      unfold waitT
      omega
    have v1 : v ≤ s + J := by
      rw [Hv.out, Hs.out]
      have := part_le j1 d
      unfold waitT
      omega
    have hy : Hid (y = addT x s) := by show _ = _; rw [Hy.out, ek.out, allT_next (by omega) t1, ← Hx.out, ← Hs.out]
    have x0 : 0 ≤ x ∧ x ≤ 1099511627776 := by
      have := sumN_nn (B := B) (T := T) (by omega) t1 k.toNat
      rw [Hx.out]
      unfold allT
      split <;> omega
    obtain ⟨x0, x1⟩ := x0
    by_cases h2 : 2 * s ≤ T
    · by_cases h3 : 1099511627776 < x + s
      · obtain rfl := hjust.out h2
        obtain rfl : y = 1099511627776 := by rw [hy.out]; unfold addT; rw [if_pos h3]
        clear hjust hy
        go_enter Try.func4, Try.ntmps4
        go_wp2_with fail
        rw [h100_eq' n]
        rw [← hk.out]
        refine (step_is _ _ _ _ s _ Hs.out hbk k0).mono ?_
        rintro e w1 ⟨rfl, B1⟩
        obtain ⟨hB1, hx1⟩ := box1 B1
        clear B1
        have c0 := hx1.c0
        have c1 := hx1.c1
        have c2 := hx1.c2
        go_wp2_with fail
        refine (step_is _ _ _ _ (2 * s) _ Ht.out hbk (by omega)).mono ?_
        rintro e w2 ⟨rfl, B2⟩
        obtain ⟨hB2, hx2⟩ := boxN hx1 B2
        clear B2
        have c0 := hx2.c0
        have c1 := hx2.c1
        have c2 := hx2.c2
        go_wp2_with fail
        clear hx1
        refine (wait_is _ _ _ _ _ v _ Hv.out hbk k0).mono ?_
        rintro e w3 ⟨rfl, B3⟩
        obtain ⟨hB3, hx3⟩ := boxN hx2 B3
        clear B3
        have c0 := hx3.c0
        have c1 := hx3.c1
        have c2 := hx3.c2
        go_wp2_with fail
        clear hx2
        refine (all_is _ _ _ _ x _ Hx.out hbk k0 (by omega)).mono ?_
        rintro e w4 ⟨rfl, B4⟩
        obtain ⟨hB4, hx4⟩ := boxN hx3 B4
        clear B4
        have c0 := hx4.c0
        have c1 := hx4.c1
        have c2 := hx4.c2
        go_wp2_with fail
        clear hx3
        refine (all_is _ _ _ _ 1099511627776 _ Hy.out hbk (by omega) (by omega)).mono ?_
        rintro e w5 ⟨rfl, B5⟩
        obtain ⟨hB5, hx5⟩ := boxN hx4 B5
        clear B5
        have c0 := hx5.c0
        have c1 := hx5.c1
        have c2 := hx5.c2
        go_wp2_with fail
        clear hx4
        refine (alive6 _).mono ?_
        rintro e w6 ⟨rfl, B6⟩
        obtain ⟨_, hx6⟩ := boxN hx5 B6
        have c0 := hx6.c0
        have c1 := hx6.c1
        have c2 := hx6.c2
        go_wp2_with fail
        go_ret
        have s1 := hB1.size
        have s2 := hB2.size
        have s3 := hB3.size
        have s4 := hB4.size
        have s5 := hB5.size
        exact ⟨rfl, ((((hB1.trans (hB2.mono (by omega))).trans (hB3.mono (by omega))).trans (hB4.mono (by omega))).trans (hB5.mono (by omega))).trans (B6.mono (by omega))⟩
      · obtain rfl := hjust.out h2
        obtain rfl : y = x + s := by rw [hy.out]; unfold addT; rw [if_neg h3]
        clear hjust hy
        go_enter Try.func4, Try.ntmps4
        go_wp2_with fail
        rw [h100_eq' n]
        rw [← hk.out]
        refine (step_is _ _ _ _ s _ Hs.out hbk k0).mono ?_
        rintro e w1 ⟨rfl, B1⟩
        obtain ⟨hB1, hx1⟩ := box1 B1
        clear B1
        have c0 := hx1.c0
        have c1 := hx1.c1
        have c2 := hx1.c2
        go_wp2_with fail
        refine (step_is _ _ _ _ (2 * s) _ Ht.out hbk (by omega)).mono ?_
        rintro e w2 ⟨rfl, B2⟩
        obtain ⟨hB2, hx2⟩ := boxN hx1 B2
        clear B2
        have c0 := hx2.c0
        have c1 := hx2.c1
        have c2 := hx2.c2
        go_wp2_with fail
        clear hx1
        refine (wait_is _ _ _ _ _ v _ Hv.out hbk k0).mono ?_
        rintro e w3 ⟨rfl, B3⟩
        obtain ⟨hB3, hx3⟩ := boxN hx2 B3
        clear B3
        have c0 := hx3.c0
        have c1 := hx3.c1
        have c2 := hx3.c2
        go_wp2_with fail
        clear hx2
        refine (all_is _ _ _ _ x _ Hx.out hbk k0 (by omega)).mono ?_
        rintro e w4 ⟨rfl, B4⟩
        obtain ⟨hB4, hx4⟩ := boxN hx3 B4
        clear B4
        have c0 := hx4.c0
        have c1 := hx4.c1
        have c2 := hx4.c2
        go_wp2_with fail
        clear hx3
        refine (all_is _ _ _ _ (x + s) _ Hy.out hbk (by omega) (by omega)).mono ?_
        rintro e w5 ⟨rfl, B5⟩
        obtain ⟨hB5, hx5⟩ := boxN hx4 B5
        clear B5
        have c0 := hx5.c0
        have c1 := hx5.c1
        have c2 := hx5.c2
        go_wp2_with fail
        clear hx4
        refine (alive6 _).mono ?_
        rintro e w6 ⟨rfl, B6⟩
        obtain ⟨_, hx6⟩ := boxN hx5 B6
        have c0 := hx6.c0
        have c1 := hx6.c1
        have c2 := hx6.c2
        go_wp2_with fail
        go_ret
        have s1 := hB1.size
        have s2 := hB2.size
        have s3 := hB3.size
        have s4 := hB4.size
        have s5 := hB5.size
        exact ⟨rfl, ((((hB1.trans (hB2.mono (by omega))).trans (hB3.mono (by omega))).trans (hB4.mono (by omega))).trans (hB5.mono (by omega))).trans (B6.mono (by omega))⟩
    · by_cases h3 : 1099511627776 < x + s
      · obtain rfl : y = 1099511627776 := by rw [hy.out]; unfold addT; rw [if_pos h3]
        clear hjust hy
        go_enter Try.func4, Try.ntmps4
        go_wp2_with fail
        rw [h100_eq' n]
        rw [← hk.out]
        refine (step_is _ _ _ _ s _ Hs.out hbk k0).mono ?_
        rintro e w1 ⟨rfl, B1⟩
        obtain ⟨hB1, hx1⟩ := box1 B1
        clear B1
        have c0 := hx1.c0
        have c1 := hx1.c1
        have c2 := hx1.c2
        go_wp2_with fail
        refine (step_is _ _ _ _ t _ Ht.out hbk (by omega)).mono ?_
        rintro e w2 ⟨rfl, B2⟩
        obtain ⟨hB2, hx2⟩ := boxN hx1 B2
        clear B2
        have c0 := hx2.c0
        have c1 := hx2.c1
        have c2 := hx2.c2
        go_wp2_with fail
        clear hx1
        refine (wait_is _ _ _ _ _ v _ Hv.out hbk k0).mono ?_
        rintro e w3 ⟨rfl, B3⟩
        obtain ⟨hB3, hx3⟩ := boxN hx2 B3
        clear B3
        have c0 := hx3.c0
        have c1 := hx3.c1
        have c2 := hx3.c2
        go_wp2_with fail
        clear hx2
        refine (all_is _ _ _ _ x _ Hx.out hbk k0 (by omega)).mono ?_
        rintro e w4 ⟨rfl, B4⟩
        obtain ⟨hB4, hx4⟩ := boxN hx3 B4
        clear B4
        have c0 := hx4.c0
        have c1 := hx4.c1
        have c2 := hx4.c2
        go_wp2_with fail
        clear hx3
        refine (all_is _ _ _ _ 1099511627776 _ Hy.out hbk (by omega) (by omega)).mono ?_
        rintro e w5 ⟨rfl, B5⟩
        obtain ⟨hB5, hx5⟩ := boxN hx4 B5
        clear B5
        have c0 := hx5.c0
        have c1 := hx5.c1
        have c2 := hx5.c2
        go_wp2_with fail
        clear hx4
        refine (alive6 _).mono ?_
        rintro e w6 ⟨rfl, B6⟩
        obtain ⟨_, hx6⟩ := boxN hx5 B6
        have c0 := hx6.c0
        have c1 := hx6.c1
        have c2 := hx6.c2
        go_wp2_with fail
        go_ret
        have s1 := hB1.size
        have s2 := hB2.size
        have s3 := hB3.size
        have s4 := hB4.size
        have s5 := hB5.size
        exact ⟨rfl, ((((hB1.trans (hB2.mono (by omega))).trans (hB3.mono (by omega))).trans (hB4.mono (by omega))).trans (hB5.mono (by omega))).trans (B6.mono (by omega))⟩
      · obtain rfl : y = x + s := by rw [hy.out]; unfold addT; rw [if_neg h3]
        clear hjust hy
        go_enter Try.func4, Try.ntmps4
        go_wp2_with fail
        rw [h100_eq' n]
        rw [← hk.out]
        refine (step_is _ _ _ _ s _ Hs.out hbk k0).mono ?_
        rintro e w1 ⟨rfl, B1⟩
        obtain ⟨hB1, hx1⟩ := box1 B1
        clear B1
        have c0 := hx1.c0
        have c1 := hx1.c1
        have c2 := hx1.c2
        go_wp2_with fail
        refine (step_is _ _ _ _ t _ Ht.out hbk (by omega)).mono ?_
        rintro e w2 ⟨rfl, B2⟩
        obtain ⟨hB2, hx2⟩ := boxN hx1 B2
        clear B2
        have c0 := hx2.c0
        have c1 := hx2.c1
        have c2 := hx2.c2
        go_wp2_with fail
        clear hx1
        refine (wait_is _ _ _ _ _ v _ Hv.out hbk k0).mono ?_
        rintro e w3 ⟨rfl, B3⟩
        obtain ⟨hB3, hx3⟩ := boxN hx2 B3
        clear B3
        have c0 := hx3.c0
        have c1 := hx3.c1
        have c2 := hx3.c2
        go_wp2_with fail
        clear hx2
        refine (all_is _ _ _ _ x _ Hx.out hbk k0 (by omega)).mono ?_
        rintro e w4 ⟨rfl, B4⟩
        obtain ⟨hB4, hx4⟩ := boxN hx3 B4
        clear B4
        have c0 := hx4.c0
        have c1 := hx4.c1
        have c2 := hx4.c2
        go_wp2_with fail
        clear hx3
        refine (all_is _ _ _ _ (x + s) _ Hy.out hbk (by omega) (by omega)).mono ?_
        rintro e w5 ⟨rfl, B5⟩
        obtain ⟨hB5, hx5⟩ := boxN hx4 B5
        clear B5
        have c0 := hx5.c0
        have c1 := hx5.c1
        have c2 := hx5.c2
        go_wp2_with fail
        clear hx4
        refine (alive6 _).mono ?_
        rintro e w6 ⟨rfl, B6⟩
        obtain ⟨_, hx6⟩ := boxN hx5 B6
        have c0 := hx6.c0
        have c1 := hx6.c1
        have c2 := hx6.c2
        go_wp2_with fail
        go_ret
        have s1 := hB1.size
        have s2 := hB2.size
        have s3 := hB3.size
        have s4 := hB4.size
        have s5 := hB5.size
        exact ⟨rfl, ((((hB1.trans (hB2.mono (by omega))).trans (hB3.mono (by omega))).trans (hB4.mono (by omega))).trans (hB5.mono (by omega))).trans (B6.mono (by omega))⟩
end backoffRises
end Go.Proofs.Ytnapnegjdagcpaa
