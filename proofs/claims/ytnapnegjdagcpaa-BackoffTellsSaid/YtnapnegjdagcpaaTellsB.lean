/-
  Which backs may be, their steps, waits and first steps together are as the document says: the law's walk.
-/
import Derived.Test.YtnapnegjdagcpaaRefBack
namespace Go.Proofs.Ytnapnegjdagcpaa
open Go.RowKit
set_option linter.unusedVariables false

theorem rall_is6 (B T J n r : Int) (w : World) (hr : r = allT B T n.toNat) (h : Bk B T J) (hn : 0 ≤ n) (hn2 : n ≤ 9223372036854775807) :
    Calls Try.prog 14 #[.agg #[.int .i64 B, .int .i64 T, .int .i64 J], .int .i64 n] w fun e w' => e = .returned (.int .i64 r) ∧ Below w.heap.size w w' := by subst hr; exact rall_any6 B T J n w h hn hn2
theorem ways4 {w w1 w2 w3 w4 w5 w6 : World} {A : Nat} {B T J : Int} (hx : Bx w3 A B T J) (h1 : Below w.heap.size w w1) (h2 : Below w1.heap.size w1 w2) (h3 : Below w2.heap.size w2 w3)
    (h4 : Below w3.drew.heap.size w3.drew w4) (h5 : Below w4.heap.size w4 w5) (h6 : Below w5.heap.size w5 w6) : Below w.heap.size w w6 ∧ Bx w6 A B T J := by
  have h4' := below_undrew h4 (Nat.le_refl _)
  have s1 := h1.size
  have s2 := h2.size
  have s3 := h3.size
  have s4 := h4'.size
  have s5 := h5.size
  exact ⟨((((h1.trans (h2.mono s1)).trans (h3.mono (by omega))).trans (h4'.mono (by omega))).trans (h5.mono (by omega))).trans (h6.mono (by omega)), ((hx.below h4' (Nat.le_refl _)).below h5 (Nat.le_refl _)).below h6 (Nat.le_refl _)⟩
namespace backoffTells
set_option maxHeartbeats 4000000 in
set_option maxRecDepth 100000 in
theorem walk (B T J n d : Int) (w : World) (hn : -9223372036854775808 ≤ n ∧ n ≤ 9223372036854775807) :
    Calls Try.prog 3 #[.agg #[.int .i64 B, .int .i64 T, .int .i64 J], .int .i64 n, .int .i64 d] w fun e w' => e = .returned (.bool true) ∧ Below w.heap.size w w' := by
  have hn2 := hn.2
  clear hn
  cases hb : backB B T J with
  | false =>
    have H0 := Lib.hid (has_not (B := B) (T := T) (J := J) n hb)
    have H1 := Lib.hid hb
    clear hb
    go_enter Try.func3, Try.ntmps3
    go_wp2_with fail
    refine (step_no _ _ _ _ _ H0.out).mono ?_
    rintro e w1 ⟨rfl, B1⟩
    obtain ⟨hB1, hx1⟩ := box1 B1
    clear B1
    have c0 := hx1.c0
    have c1 := hx1.c1
    have c2 := hx1.c2
    go_wp2_with fail
    refine (wait_no _ _ _ _ _ _ H0.out).mono ?_
    rintro e w2 ⟨rfl, B2⟩
    obtain ⟨hB2, hx2⟩ := boxN hx1 B2
    clear B2
    clear hx1
    have c0 := hx2.c0
    have c1 := hx2.c1
    have c2 := hx2.c2
    go_wp2_with fail
    refine (all_no _ _ _ _ _ H0.out).mono ?_
    rintro e w3 ⟨rfl, B3⟩
    obtain ⟨hB3, hx3⟩ := boxN hx2 B3
    clear B3
    clear hx2
    have c0 := hx3.c0
    have c1 := hx3.c1
    have c2 := hx3.c2
    go_wp2
    go_region_held3 (fun w' => w'.cell? ⟨w.heap.size, 0, none⟩ = some (.int .i64 B) ∧ w'.cell? ⟨w.heap.size, 1, none⟩ = some (.int .i64 T) ∧ w'.cell? ⟨w.heap.size, 2, none⟩ = some (.int .i64 J))
      (first | exact ⟨keepC hB4 c0, keepC hB4 c1, keepC hB4 c2⟩ | exact ⟨keepC hB5 (keepC hB4 c0), keepC hB5 (keepC hB4 c1), keepC hB5 (keepC hB4 c2)⟩ | exact ⟨keepC hB6 (keepC hB5 (keepC hB4 c0)), keepC hB6 (keepC hB5 (keepC hB4 c1)), keepC hB6 (keepC hB5 (keepC hB4 c2))⟩ | go_keep)
      (first | (go_at_call 9; refine (right_is B T J false _ H1.out).mono ?_; rintro e w4 ⟨rfl, hB4⟩) | (go_at_call 10; refine (rright_is B T J false _ H1.out).mono ?_; rintro e w5 ⟨rfl, hB5⟩) | (go_at_call 11; refine (alive6 _).mono ?_; rintro e w6 ⟨rfl, hB6⟩))
    obtain ⟨hC6, hx6⟩ := ways4 hx3 hB1 hB2 hB3 hB4 hB5 hB6
    clear hx3 hB1 hB2 hB3 hB4 hB5 hB6 c0 c1 c2
    have c0 := hx6.c0
    have c1 := hx6.c1
    have c2 := hx6.c2
    go_wp2_with fail
    refine (rright_is B T J false _ H1.out).mono ?_
    rintro e w7 ⟨rfl, B7⟩
    obtain ⟨hB7, hx7⟩ := boxN hx6 B7
    have hC7 := hC6.trans (hB7.mono hC6.size)
    clear B7 hx6 hB7 hC6 c0 c1 c2
    have c0 := hx7.c0
    have c1 := hx7.c1
    have c2 := hx7.c2
    go_wp2
    go_ret
    exact ⟨rfl, hC7⟩
  | true =>
    by_cases h0 : 0 ≤ n
    · have hbk := back_yes hb
      have b1 := hbk.b1
      have t1 := hbk.t1
      have H1 := Lib.hid hb
      clear hb
      obtain ⟨s, Hs⟩ : ∃ s, Hid (s = stepN B T n.toNat) := ⟨_, rfl⟩
      obtain ⟨v, Hv⟩ : ∃ v, Hid (v = waitT B T J n d) := ⟨_, rfl⟩
      obtain ⟨x, Hx⟩ : ∃ x, Hid (x = allT B T n.toNat) := ⟨_, rfl⟩
      go_enter Try.func3, Try.ntmps3
      go_wp2_with fail
      refine (step_is _ _ _ _ s _ Hs.out hbk h0).mono ?_
      rintro e w1 ⟨rfl, B1⟩
      obtain ⟨hB1, hx1⟩ := box1 B1
      clear B1
      have c0 := hx1.c0
      have c1 := hx1.c1
      have c2 := hx1.c2
      go_wp2_with fail
      refine (wait_is _ _ _ _ _ v _ Hv.out hbk h0).mono ?_
      rintro e w2 ⟨rfl, B2⟩
      obtain ⟨hB2, hx2⟩ := boxN hx1 B2
      clear B2
      clear hx1
      have c0 := hx2.c0
      have c1 := hx2.c1
      have c2 := hx2.c2
      go_wp2_with fail
      refine (all_is _ _ _ _ x _ Hx.out hbk h0 hn2).mono ?_
      rintro e w3 ⟨rfl, B3⟩
      obtain ⟨hB3, hx3⟩ := boxN hx2 B3
      clear B3
      clear hx2
      have c0 := hx3.c0
      have c1 := hx3.c1
      have c2 := hx3.c2
      go_wp2
      go_region_held3 (fun w' => w'.cell? ⟨w.heap.size, 0, none⟩ = some (.int .i64 B) ∧ w'.cell? ⟨w.heap.size, 1, none⟩ = some (.int .i64 T) ∧ w'.cell? ⟨w.heap.size, 2, none⟩ = some (.int .i64 J))
        (first | exact ⟨keepC hB4 c0, keepC hB4 c1, keepC hB4 c2⟩ | exact ⟨keepC hB5 (keepC hB4 c0), keepC hB5 (keepC hB4 c1), keepC hB5 (keepC hB4 c2)⟩ | exact ⟨keepC hB6 (keepC hB5 (keepC hB4 c0)), keepC hB6 (keepC hB5 (keepC hB4 c1)), keepC hB6 (keepC hB5 (keepC hB4 c2))⟩ | go_keep)
        (first | (go_at_call 9; refine (right_is B T J true _ H1.out).mono ?_; rintro e w4 ⟨rfl, hB4⟩) | (go_at_call 10; refine (rright_is B T J true _ H1.out).mono ?_; rintro e w5 ⟨rfl, hB5⟩) | (go_at_call 11; refine (alive6 _).mono ?_; rintro e w6 ⟨rfl, hB6⟩))
      obtain ⟨hC6, hx6⟩ := ways4 hx3 hB1 hB2 hB3 hB4 hB5 hB6
      clear hx3 hB1 hB2 hB3 hB4 hB5 hB6 c0 c1 c2
      have c0 := hx6.c0
      have c1 := hx6.c1
      have c2 := hx6.c2
      go_wp2_with fail
      refine (rright_is B T J true _ H1.out).mono ?_
      rintro e w7 ⟨rfl, B7⟩
      obtain ⟨hB7, hx7⟩ := boxN hx6 B7
      have hC7 := hC6.trans (hB7.mono hC6.size)
      clear B7 hx6 hB7 hC6 c0 c1 c2
      have c0 := hx7.c0
      have c1 := hx7.c1
      have c2 := hx7.c2
      go_wp2_with fail
      refine (rstep_is _ _ _ _ s _ Hs.out hbk h0 hn2).mono ?_
      rintro e w8 ⟨rfl, B8⟩
      obtain ⟨hB8, hx8⟩ := boxN hx7 B8
      have hC8 := hC7.trans (hB8.mono hC7.size)
      clear B8 hx7 hB8 hC7 c0 c1 c2
      have c0 := hx8.c0
      have c1 := hx8.c1
      have c2 := hx8.c2
      go_wp2_with fail
      refine (rwait_is _ _ _ _ _ v _ Hv.out hbk h0 hn2).mono ?_
      rintro e w9 ⟨rfl, B9⟩
      obtain ⟨hB9, hx9⟩ := boxN hx8 B9
      have hC9 := hC8.trans (hB9.mono hC8.size)
      clear B9 hx8 hB9 hC8 c0 c1 c2
      have c0 := hx9.c0
      have c1 := hx9.c1
      have c2 := hx9.c2
      go_wp2_with fail
      refine (rall_is6 _ _ _ _ x _ Hx.out hbk h0 hn2).mono ?_
      rintro e w10 ⟨rfl, B10⟩
      have hC10 := hC9.trans (B10.mono hC9.size)
      go_wp2
      go_ret
      exact ⟨rfl, hC10⟩
    · have H0 : Hid (hasB B T J n = false) := by show _ = _; unfold hasB; rw [hb, decide_eq_false h0]; rfl
      have H1 := Lib.hid hb
      clear hb
      go_enter Try.func3, Try.ntmps3
      go_wp2_with fail
      refine (step_no _ _ _ _ _ H0.out).mono ?_
      rintro e w1 ⟨rfl, B1⟩
      obtain ⟨hB1, hx1⟩ := box1 B1
      clear B1
      have c0 := hx1.c0
      have c1 := hx1.c1
      have c2 := hx1.c2
      go_wp2_with fail
      refine (wait_no _ _ _ _ _ _ H0.out).mono ?_
      rintro e w2 ⟨rfl, B2⟩
      obtain ⟨hB2, hx2⟩ := boxN hx1 B2
      clear B2
      clear hx1
      have c0 := hx2.c0
      have c1 := hx2.c1
      have c2 := hx2.c2
      go_wp2_with fail
      refine (all_no _ _ _ _ _ H0.out).mono ?_
      rintro e w3 ⟨rfl, B3⟩
      obtain ⟨hB3, hx3⟩ := boxN hx2 B3
      clear B3
      clear hx2
      have c0 := hx3.c0
      have c1 := hx3.c1
      have c2 := hx3.c2
      go_wp2
      go_region_held3 (fun w' => w'.cell? ⟨w.heap.size, 0, none⟩ = some (.int .i64 B) ∧ w'.cell? ⟨w.heap.size, 1, none⟩ = some (.int .i64 T) ∧ w'.cell? ⟨w.heap.size, 2, none⟩ = some (.int .i64 J))
        (first | exact ⟨keepC hB4 c0, keepC hB4 c1, keepC hB4 c2⟩ | exact ⟨keepC hB5 (keepC hB4 c0), keepC hB5 (keepC hB4 c1), keepC hB5 (keepC hB4 c2)⟩ | exact ⟨keepC hB6 (keepC hB5 (keepC hB4 c0)), keepC hB6 (keepC hB5 (keepC hB4 c1)), keepC hB6 (keepC hB5 (keepC hB4 c2))⟩ | go_keep)
        (first | (go_at_call 9; refine (right_is B T J true _ H1.out).mono ?_; rintro e w4 ⟨rfl, hB4⟩) | (go_at_call 10; refine (rright_is B T J true _ H1.out).mono ?_; rintro e w5 ⟨rfl, hB5⟩) | (go_at_call 11; refine (alive6 _).mono ?_; rintro e w6 ⟨rfl, hB6⟩))
      obtain ⟨hC6, hx6⟩ := ways4 hx3 hB1 hB2 hB3 hB4 hB5 hB6
      clear hx3 hB1 hB2 hB3 hB4 hB5 hB6 c0 c1 c2
      have c0 := hx6.c0
      have c1 := hx6.c1
      have c2 := hx6.c2
      go_wp2_with fail
      refine (rright_is B T J true _ H1.out).mono ?_
      rintro e w7 ⟨rfl, B7⟩
      obtain ⟨hB7, hx7⟩ := boxN hx6 B7
      have hC7 := hC6.trans (hB7.mono hC6.size)
      clear B7 hx6 hB7 hC6 c0 c1 c2
      have c0 := hx7.c0
      have c1 := hx7.c1
      have c2 := hx7.c2
      go_wp2
      go_ret
      exact ⟨rfl, hC7⟩
end backoffTells
end Go.Proofs.Ytnapnegjdagcpaa
