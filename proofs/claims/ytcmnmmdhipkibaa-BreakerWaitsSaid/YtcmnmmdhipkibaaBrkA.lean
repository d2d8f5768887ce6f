/-
  Breakers: which may be, a breaker's variable, and small functions of package breaker, one contract each: within, isStateRight, Right, mayBeAsked, closed, opened, settled.
-/
import Derived.Test.YtcmnmmdhipkibaaTickAdd
import Derived.Test.YtcmnmmdhipkibaaVals
namespace Go.Proofs.Ytcmnmmdhipkibaa
open Go.RowKit
set_option linter.unusedVariables false

namespace Brk
def inB (n a b : Int) : Bool := decide (a ≤ n) && decide (n ≤ b)
/-- a breaker's value -/
abbrev val (F O S C U : Int) : Value := .agg #[.int .i64 F, .int .i64 O, .int .i64 S, .int .i64 C, .int .i64 U]
/-- a breaker's variable -/
def Var (w : World) (A : Nat) (F O S C U : Int) : Prop := Vals w A 24 #[.int .i64 F, .int .i64 O, .int .i64 S, .int .i64 C, .int .i64 U]
theorem Var.at {w : World} {A : Nat} {F O S C U : Int} (h : Var w A F O S C U) :
    w.cell? ⟨A, 0, none⟩ = some (.int .i64 F) ∧ w.cell? ⟨A, 1, none⟩ = some (.int .i64 O) ∧ w.cell? ⟨A, 2, none⟩ = some (.int .i64 S) ∧ w.cell? ⟨A, 3, none⟩ = some (.int .i64 C) ∧ w.cell? ⟨A, 4, none⟩ = some (.int .i64 U) :=
  ⟨Vals.cell h 0, Vals.cell h 1, Vals.cell h 2, Vals.cell h 3, Vals.cell h 4⟩
theorem Var.free {w : World} {A : Nat} {F O S C U : Int} (h : Var w A F O S C U) (i : Nat) : w.frozen? ⟨A, i, none⟩ = false := Vals.free h i
theorem Var.keep {w w' : World} {A n : Nat} {F O S C U : Int} (h : Var w A F O S C U) (hB : Below n w w') (hn : w.heap.size ≤ n) : Var w' A F O S C U := Vals.keep h hB hn
theorem Var.new (w : World) (F O S C U : Int) : Var (w.alloc (.cells #[.int .i64 F, .int .i64 O, .int .i64 S, .int .i64 C, .int .i64 U] 24)) w.heap.size F O S C U := Vals.new w _ _
/-- all cells of a breaker's variable written -/
def put (w : World) (A : Nat) (F O S C U : Int) : World :=
  ((((w.setCell ⟨A, 0, none⟩ (.int .i64 F)).setCell ⟨A, 1, none⟩ (.int .i64 O)).setCell ⟨A, 2, none⟩ (.int .i64 S)).setCell ⟨A, 3, none⟩ (.int .i64 C)).setCell ⟨A, 4, none⟩ (.int .i64 U)
theorem Var.put {w : World} {A : Nat} {F0 O0 S0 C0 U0 : Int} (h : Var w A F0 O0 S0 C0 U0) (F O S C U : Int) : Var (Brk.put w A F O S C U) A F O S C U := by
  have h := ((((Vals.set h 0 (.int .i64 F)).set 1 (.int .i64 O)).set 2 (.int .i64 S)).set 3 (.int .i64 C)).set 4 (.int .i64 U)
  exact h
theorem put_below {w0 w : World} {A : Nat} {C : Nat} (hB : Below C w0 w) (hA : C ≤ A) (F O S C' U : Int) : Below C w0 (put w A F O S C' U) :=
  ((((hB.setCell (p := ⟨A, 0, none⟩) hA _).setCell (p := ⟨A, 1, none⟩) hA _).setCell (p := ⟨A, 2, none⟩) hA _).setCell (p := ⟨A, 3, none⟩) hA _).setCell (p := ⟨A, 4, none⟩) hA _
theorem put_other (w : World) (A : Nat) (F O S C U : Int) (k : Nat) (h : k ≠ A) : (put w A F O S C U).heap[k]? = w.heap[k]? := by
  unfold put
  rw [Below.heap_setCell _ _ _ _ h, Below.heap_setCell _ _ _ _ h, Below.heap_setCell _ _ _ _ h, Below.heap_setCell _ _ _ _ h, Below.heap_setCell _ _ _ _ h]
theorem load {w : World} {A : Nat} {F O S C U : Int} (h : Var w A F O S C U) : (loadVar 24 ⟨A, 0, none⟩).run Try.prog w = .ok (val F O S C U) w := by
  obtain ⟨h0, h1, h2, h3, h4⟩ := h.at
  simp [go_sem, h0, h1, h2, h3, h4]
theorem ret1 {fn : Func} {p : Tmp} (h : fn.results = #[.cell p 24]) {tmps : Array Value} {w : World} {A : Nat} {F O S C U : Int} (hp : tmps.getD p undef = .pointer (some ⟨A, 0, none⟩)) (hA : Var w A F O S C U) :
    (results fn tmps).run Try.prog w = .ok (val F O S C U) w := by
  have hl := load hA
  have hp' : tmps[p]?.getD undef = .pointer (some ⟨A, 0, none⟩) := by simpa using hp
  simp only [results, h]
  simp [hp', asAddr, hl]
theorem ret2 {fn : Func} {p q : Tmp} (h : fn.results = #[.cell p 24, .tmp q]) {tmps : Array Value} {w : World} {A : Nat} {F O S C U : Int} {v : Value} (hp : tmps.getD p undef = .pointer (some ⟨A, 0, none⟩)) (hq : tmps.getD q undef = v) (hA : Var w A F O S C U) :
    (results fn tmps).run Try.prog w = .ok (.tuple #[val F O S C U, v]) w := by
  have hl := load hA
  have hp' : tmps[p]?.getD undef = .pointer (some ⟨A, 0, none⟩) := by simpa using hp
  have hq' : tmps[q]?.getD undef = v := by simpa using hq
  simp only [results, h]
  simp [hp', hq', asAddr, hl]
theorem ret3 {fn : Func} {p q r : Tmp} (h : fn.results = #[.cell p 24, .tmp q, .tmp r]) {tmps : Array Value} {w : World} {A : Nat} {F O S C U : Int} {v z : Value} (hp : tmps.getD p undef = .pointer (some ⟨A, 0, none⟩)) (hq : tmps.getD q undef = v) (hr : tmps.getD r undef = z) (hA : Var w A F O S C U) :
    (results fn tmps).run Try.prog w = .ok (.tuple #[val F O S C U, v, z]) w := by
  have hl := load hA
  have hp' : tmps[p]?.getD undef = .pointer (some ⟨A, 0, none⟩) := by simpa using hp
  have hq' : tmps[q]?.getD undef = v := by simpa using hq
  have hr' : tmps[r]?.getD undef = z := by simpa using hr
  simp only [results, h]
  simp [hp', hq', hr', asAddr, hl]

/-- what hangs on the state -/
def stB (F S C U : Int) : Bool := if S = 0 then inB C 0 (F - 1) && decide (U = 0) else if S = 1 then decide (C = 0) && timeB U else if S = 2 then decide (C = 0) && decide (U = 0) else false
/-- which breakers may be -/
def rightB (F O S C U : Int) : Bool := inB F 1 100 && inB O 1 1048576 && stB F S C U

theorem within_any (n a b : Int) (w : World) :
    Calls Try.prog 12 #[.int .i64 n, .int .i64 a, .int .i64 b] w fun e w' => e = .returned (.bool (inB n a b)) ∧ w = w' := by
  by_cases h1 : a ≤ n
  · by_cases h2 : n ≤ b
    · go_enter Try.func12, Try.ntmps12
      go_wp2
      go_ret
      exact ⟨retB (by unfold inB; rw [decide_eq_true h1, decide_eq_true h2]; rfl), rfl⟩
    · go_enter Try.func12, Try.ntmps12
      go_wp2
      go_ret
      exact ⟨retB (by unfold inB; rw [eq_comm, Bool.and_eq_false_iff]; right; exact decide_eq_false (by omega)), rfl⟩
  · go_enter Try.func12, Try.ntmps12
    go_wp2
    go_ret
    exact ⟨retB (by unfold inB; rw [eq_comm, Bool.and_eq_false_iff]; left; exact decide_eq_false (by omega)), rfl⟩
theorem within_is (n a b : Int) (r : Bool) (w : World) (h : inB n a b = r) :
    Calls Try.prog 12 #[.int .i64 n, .int .i64 a, .int .i64 b] w fun e w' => e = .returned (.bool r) ∧ w = w' := by subst h; exact within_any n a b w
theorem time_is (t : Int) (r : Bool) (w : World) (h : timeB t = r) :
    Calls Try.prog 14 #[.int .i64 t] w fun e w' => e = .returned (.bool r) ∧ w = w' := by subst h; exact time_any t w

set_option maxHeartbeats 1600000 in
theorem state_any (F O S C U : Int) (w : World) (hF1 : 1 ≤ F) (hF2 : F ≤ 100) :
    Calls Try.prog 13 #[val F O S C U] w fun e w' => e = .returned (.bool (stB F S C U)) ∧ Below w.heap.size w w' := by
  by_cases s0 : S = 0
  · subst s0
    cases hC : inB C 0 (F - 1) with
    | false =>
      have H := Lib.hid hC
      have E : Hid (stB F 0 C U = false) := by show _ = _; unfold stB; rw [if_pos rfl, hC]; rfl
      clear hC
      go_enter Try.func13, Try.ntmps13
      go_wp2_with fail
      refine (within_is _ _ _ false _ H.out).mono ?_
      rintro e w' ⟨rfl, rfl⟩
      go_wp2
      go_ret
      exact ⟨retB E.out.symm, below_alloc w _⟩
    | true =>
      have H := Lib.hid hC
      clear hC
      by_cases hU : U = 0
      · have E : Hid (stB F 0 C U = true) := by show _ = _; unfold stB; rw [if_pos rfl, H.out, hU]; rfl
        subst hU
        go_enter Try.func13, Try.ntmps13
        go_wp2_with fail
        refine (within_is _ _ _ true _ H.out).mono ?_
        rintro e w' ⟨rfl, rfl⟩
        go_wp2
        go_ret
        exact ⟨retB E.out.symm, below_alloc w _⟩
      · have E : Hid (stB F 0 C U = false) := by show _ = _; unfold stB; rw [if_pos rfl, H.out, decide_eq_false hU]; rfl
        have u1 : (U == 0) = false := by simpa using hU
        go_enter Try.func13, Try.ntmps13
        go_wp2_with fail
        refine (within_is _ _ _ true _ H.out).mono ?_
        rintro e w' ⟨rfl, rfl⟩
        go_wp2
        go_ret
        exact ⟨retB E.out.symm, below_alloc w _⟩
  · have s0' : (S == 0) = false := by simpa using s0
    by_cases s1 : S = 1
    · subst s1
      by_cases hC : C = 0
      · subst hC
        cases hU : timeB U with
        | false =>
          have H := Lib.hid hU
          have E : Hid (stB F 1 0 U = false) := by show _ = _; unfold stB; rw [if_neg (by decide), if_pos rfl, hU]; rfl
          clear hU
          go_enter Try.func13, Try.ntmps13
          go_wp2_with fail
          refine (time_is _ false _ H.out).mono ?_
          rintro e w' ⟨rfl, rfl⟩
          go_wp2
          go_ret
          exact ⟨retB E.out.symm, below_alloc w _⟩
        | true =>
          have H := Lib.hid hU
          have E : Hid (stB F 1 0 U = true) := by show _ = _; unfold stB; rw [if_neg (by decide), if_pos rfl, hU]; rfl
          clear hU
          go_enter Try.func13, Try.ntmps13
          go_wp2_with fail
          refine (time_is _ true _ H.out).mono ?_
          rintro e w' ⟨rfl, rfl⟩
          go_wp2
          go_ret
          exact ⟨retB E.out.symm, below_alloc w _⟩
      · have c1 : (C == 0) = false := by simpa using hC
        have E : Hid (stB F 1 C U = false) := by show _ = _; unfold stB; rw [if_neg (by decide), if_pos rfl, decide_eq_false hC]; rfl
        go_enter Try.func13, Try.ntmps13
        go_wp2
        go_ret
        exact ⟨retB E.out.symm, below_alloc w _⟩
    · have s1' : (S == 1) = false := by simpa using s1
      by_cases s2 : S = 2
      · subst s2
        by_cases hC : C = 0
        · subst hC
          by_cases hU : U = 0
          · subst hU
            have E : Hid (stB F 2 0 0 = true) := by show _ = _; unfold stB; rw [if_neg (by decide), if_neg (by decide), if_pos rfl]; rfl
            go_enter Try.func13, Try.ntmps13
            go_wp2
            go_ret
            exact ⟨retB E.out.symm, below_alloc w _⟩
          · have u1 : (U == 0) = false := by simpa using hU
            have E : Hid (stB F 2 0 U = false) := by show _ = _; unfold stB; rw [if_neg (by decide), if_neg (by decide), if_pos rfl, decide_eq_false hU]; rfl
            go_enter Try.func13, Try.ntmps13
            go_wp2
            go_ret
            exact ⟨retB E.out.symm, below_alloc w _⟩
        · have c1 : (C == 0) = false := by simpa using hC
          have E : Hid (stB F 2 C U = false) := by show _ = _; unfold stB; rw [if_neg (by decide), if_neg (by decide), if_pos rfl, decide_eq_false hC]; rfl
          go_enter Try.func13, Try.ntmps13
          go_wp2
          go_ret
          exact ⟨retB E.out.symm, below_alloc w _⟩
      · have s2' : (S == 2) = false := by simpa using s2
        have E : Hid (stB F S C U = false) := by show _ = _; unfold stB; rw [if_neg s0, if_neg s1, if_neg s2]
        go_enter Try.func13, Try.ntmps13
        go_wp2
        go_ret
        exact ⟨retB E.out.symm, below_alloc w _⟩
theorem state_is (F O S C U : Int) (r : Bool) (w : World) (hF1 : 1 ≤ F) (hF2 : F ≤ 100) (h : stB F S C U = r) :
    Calls Try.prog 13 #[val F O S C U] w fun e w' => e = .returned (.bool r) ∧ Below w.heap.size w w' := by subst h; exact state_any F O S C U w hF1 hF2

theorem in_iff (n a b : Int) : inB n a b = true ↔ a ≤ n ∧ n ≤ b := by unfold inB; simp
set_option maxHeartbeats 1600000 in
theorem right_any (F O S C U : Int) (w : World) :
    Calls Try.prog 9 #[val F O S C U] w fun e w' => e = .returned (.bool (rightB F O S C U)) ∧ Below w.heap.size w w' := by
  cases h1 : inB F 1 100 with
  | false =>
    have E : Hid (rightB F O S C U = false) := by show _ = _; unfold rightB; rw [h1]; rfl
    have H1 := Lib.hid h1
    clear h1
    go_enter Try.func9, Try.ntmps9
    go_wp2_with fail
    refine (within_is _ _ _ false _ H1.out).mono ?_
    rintro e w' ⟨rfl, rfl⟩
    go_wp2
    go_ret
    exact ⟨retB E.out.symm, below_alloc w _⟩
  | true =>
    obtain ⟨f1, f2⟩ := (in_iff _ _ _).1 h1
    cases h2 : inB O 1 1048576 with
    | false =>
      have E : Hid (rightB F O S C U = false) := by show _ = _; unfold rightB; rw [h1, h2]; rfl
      have H1 := Lib.hid h1
      have H2 := Lib.hid h2
      clear h1 h2
      go_enter Try.func9, Try.ntmps9
      go_wp2_with fail
      refine (within_is _ _ _ true _ H1.out).mono ?_
      rintro e w' ⟨rfl, rfl⟩
      go_wp2_with fail
      refine (within_is _ _ _ false _ H2.out).mono ?_
      rintro e w' ⟨rfl, rfl⟩
      go_wp2
      go_ret
      exact ⟨retB E.out.symm, below_alloc w _⟩
    | true =>
      have E : Hid (rightB F O S C U = stB F S C U) := by show _ = _; unfold rightB; rw [h1, h2]; rfl
      generalize h3 : stB F S C U = r at E
      have H1 := Lib.hid h1
      have H2 := Lib.hid h2
      have H3 := Lib.hid h3
      clear h1 h2 h3
      go_enter Try.func9, Try.ntmps9
      go_wp2_with fail
      refine (within_is _ _ _ true _ H1.out).mono ?_
      rintro e w' ⟨rfl, rfl⟩
      go_wp2_with fail
      refine (within_is _ _ _ true _ H2.out).mono ?_
      rintro e w' ⟨rfl, rfl⟩
      go_wp2_with fail
      refine (state_is _ _ _ _ _ r _ f1 f2 H3.out).mono ?_
      rintro e w' ⟨rfl, hB⟩
      go_wp2
      go_ret
      exact ⟨retB E.out.symm, (below_alloc w _).trans (hB.mono (by simp))⟩
theorem right_is (F O S C U : Int) (r : Bool) (w : World) (h : rightB F O S C U = r) :
    Calls Try.prog 9 #[val F O S C U] w fun e w' => e = .returned (.bool r) ∧ Below w.heap.size w w' := by subst h; exact right_any F O S C U w

/-- may it be asked at that time -/
def askB (F O S C U now : Int) : Bool := rightB F O S C U && timeB now
set_option maxHeartbeats 800000 in
theorem may_any (F O S C U now : Int) (w : World) :
    Calls Try.prog 10 #[val F O S C U, .int .i64 now] w fun e w' => e = .returned (.bool (askB F O S C U now)) ∧ Below w.heap.size w w' := by
  cases h1 : rightB F O S C U with
  | false =>
    have E : Hid (askB F O S C U now = false) := by show _ = _; unfold askB; rw [h1]; rfl
    have H1 := Lib.hid h1
    clear h1
    go_enter Try.func10, Try.ntmps10
    go_wp2_with fail
    refine (right_is _ _ _ _ _ false _ H1.out).mono ?_
    rintro e w' ⟨rfl, hB⟩
    go_wp2
    go_ret
    exact ⟨retB E.out.symm, (below_alloc w _).trans (hB.mono (by simp))⟩
  | true =>
    have E : Hid (askB F O S C U now = timeB now) := by show _ = _; unfold askB; rw [h1]; rfl
    generalize h3 : timeB now = r at E
    have H1 := Lib.hid h1
    have H3 := Lib.hid h3
    clear h1 h3
    go_enter Try.func10, Try.ntmps10
    go_wp2_with fail
    refine (right_is _ _ _ _ _ true _ H1.out).mono ?_
    rintro e w' ⟨rfl, hB⟩
    go_wp2_with fail
    refine (time_is _ r _ H3.out).mono ?_
    rintro e w'' ⟨rfl, rfl⟩
    go_wp2
    go_ret
    exact ⟨retB E.out.symm, (below_alloc w _).trans (hB.mono (by simp))⟩
theorem may_is (F O S C U now : Int) (r : Bool) (w : World) (h : askB F O S C U now = r) :
    Calls Try.prog 10 #[val F O S C U, .int .i64 now] w fun e w' => e = .returned (.bool r) ∧ Below w.heap.size w w' := by subst h; exact may_any F O S C U now w

end Brk
end Go.Proofs.Ytcmnmmdhipkibaa
