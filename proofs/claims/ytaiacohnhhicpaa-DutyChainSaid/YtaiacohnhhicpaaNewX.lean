/-
  Backs, breakers and buckets: which may be, and whether a new one may (packages backoff, breaker, bucket), one contract each.
-/
import Derived.Test.YtaiacohnhhicpaaLibX
import Derived.Test.YtaiacohnhhicpaaCfgM
import Derived.Test.YtaiacohnhhicpaaCfgN
namespace Go.Proofs.Ytaiacohnhhicpaa
open Go.RowKit
set_option linter.unusedVariables false

namespace Bck
def inB (n a b : Int) : Bool := decide (a ≤ n) && decide (n ≤ b)
theorem within_any (n a b : Int) (w : World) :
    Calls Try.prog 63 #[.int .i64 n, .int .i64 a, .int .i64 b] w fun e w' => e = .returned (.bool (inB n a b)) ∧ w = w' := by
  by_cases h1 : a ≤ n
  · by_cases h2 : n ≤ b
    · go_enter Try.func63, Try.ntmps63
      go_wp2
      go_ret
      exact ⟨retB (by unfold inB; rw [decide_eq_true h1, decide_eq_true h2]; rfl), rfl⟩
    · go_enter Try.func63, Try.ntmps63
      go_wp2
      go_ret
      exact ⟨retB (by unfold inB; rw [eq_comm, Bool.and_eq_false_iff]; right; exact decide_eq_false (by omega)), rfl⟩
  · go_enter Try.func63, Try.ntmps63
    go_wp2
    go_ret
    exact ⟨retB (by unfold inB; rw [eq_comm, Bool.and_eq_false_iff]; left; exact decide_eq_false (by omega)), rfl⟩
theorem within_is (n a b : Int) (r : Bool) (w : World) (h : inB n a b = r) :
    Calls Try.prog 63 #[.int .i64 n, .int .i64 a, .int .i64 b] w fun e w' => e = .returned (.bool r) ∧ w = w' := by subst h; exact within_any n a b w

def backD (B T J : Int) : Bool := inB B 1 1048576 && inB T B 1073741824 && inB J 0 1048576
set_option maxHeartbeats 800000 in
theorem right_any (B T J : Int) (w : World) :
    Calls Try.prog 45 #[.agg #[.int .i64 B, .int .i64 T, .int .i64 J]] w fun e w' => e = .returned (.bool (backD B T J)) ∧ Below w.heap.size w w' := by
  cases h1 : inB B 1 1048576 with
  | false =>
    have H : Hid (backD B T J = false) := by show _ = _; unfold backD; rw [h1]; rfl
    have H1 := Lib.hid h1
    clear h1
    go_enter Try.func45, Try.ntmps45
    go_wp2_with fail
    refine (within_is _ _ _ false _ H1.out).mono ?_
    rintro e w' ⟨rfl, rfl⟩
    go_wp2
    go_ret
    exact ⟨retB H.out.symm, below_alloc w _⟩
  | true =>
    cases h2 : inB T B 1073741824 with
    | false =>
      have H : Hid (backD B T J = false) := by show _ = _; unfold backD; rw [h1, h2]; rfl
      have H1 := Lib.hid h1
      have H2 := Lib.hid h2
      clear h1 h2
      go_enter Try.func45, Try.ntmps45
      go_wp2_with fail
      refine (within_is _ _ _ true _ H1.out).mono ?_
      rintro e w' ⟨rfl, rfl⟩
      go_wp2_with fail
      refine (within_is _ _ _ false _ H2.out).mono ?_
      rintro e w' ⟨rfl, rfl⟩
      go_wp2
      go_ret
      exact ⟨retB H.out.symm, below_alloc w _⟩
    | true =>
      have H : Hid (backD B T J = inB J 0 1048576) := by show _ = _; unfold backD; rw [h1, h2]; rfl
      have H1 := Lib.hid h1
      have H2 := Lib.hid h2
      clear h1 h2
      generalize h3 : inB J 0 1048576 = r at H
      have H3 := Lib.hid h3
      clear h3
      go_enter Try.func45, Try.ntmps45
      go_wp2_with fail
      refine (within_is _ _ _ true _ H1.out).mono ?_
      rintro e w' ⟨rfl, rfl⟩
      go_wp2_with fail
      refine (within_is _ _ _ true _ H2.out).mono ?_
      rintro e w' ⟨rfl, rfl⟩
      go_wp2_with fail
      refine (within_is _ _ _ r _ H3.out).mono ?_
      rintro e w' ⟨rfl, rfl⟩
      go_wp2
      go_ret
      exact ⟨retB H.out.symm, below_alloc w _⟩
theorem backD_is (B T J : Int) : backD B T J = backB B T J := by
  unfold backD backB inB
  rw [Bool.eq_iff_iff]
  simp only [Bool.and_eq_true, decide_eq_true_eq]
  omega
theorem right_is (B T J : Int) (w : World) :
    Calls Try.prog 45 #[.agg #[.int .i64 B, .int .i64 T, .int .i64 J]] w fun e w' => e = .returned (.bool (backB B T J)) ∧ Below w.heap.size w w' := by
  rw [← backD_is]; exact right_any B T J w
end Bck

namespace Brk
def inB (n a b : Int) : Bool := decide (a ≤ n) && decide (n ≤ b)
/-- a breaker's value -/
abbrev val (F O S C U : Int) : Value := .agg #[.int .i64 F, .int .i64 O, .int .i64 S, .int .i64 C, .int .i64 U]
/-- a breaker's variable -/
def Var (w : World) (A : Nat) (F O S C U : Int) : Prop := Vals w A 118 #[.int .i64 F, .int .i64 O, .int .i64 S, .int .i64 C, .int .i64 U]
theorem Var.at {w : World} {A : Nat} {F O S C U : Int} (h : Var w A F O S C U) :
    w.cell? ⟨A, 0, none⟩ = some (.int .i64 F) ∧ w.cell? ⟨A, 1, none⟩ = some (.int .i64 O) ∧ w.cell? ⟨A, 2, none⟩ = some (.int .i64 S) ∧ w.cell? ⟨A, 3, none⟩ = some (.int .i64 C) ∧ w.cell? ⟨A, 4, none⟩ = some (.int .i64 U) :=
  ⟨Vals.cell h 0, Vals.cell h 1, Vals.cell h 2, Vals.cell h 3, Vals.cell h 4⟩
theorem Var.free {w : World} {A : Nat} {F O S C U : Int} (h : Var w A F O S C U) (i : Nat) : w.frozen? ⟨A, i, none⟩ = false := Vals.free h i
theorem Var.keep {w w' : World} {A n : Nat} {F O S C U : Int} (h : Var w A F O S C U) (hB : Below n w w') (hn : w.heap.size ≤ n) : Var w' A F O S C U := Vals.keep h hB hn
theorem Var.new (w : World) (F O S C U : Int) : Var (w.alloc (.cells #[.int .i64 F, .int .i64 O, .int .i64 S, .int .i64 C, .int .i64 U] 118)) w.heap.size F O S C U := Vals.new w _ _
/-- all cells of a breaker's variable written -/
def put (w : World) (A : Nat) (F O S C U : Int) : World :=
  ((((w.setCell ⟨A, 0, none⟩ (.int .i64 F)).setCell ⟨A, 1, none⟩ (.int .i64 O)).setCell ⟨A, 2, none⟩ (.int .i64 S)).setCell ⟨A, 3, none⟩ (.int .i64 C)).setCell ⟨A, 4, none⟩ (.int .i64 U)
theorem Var.put {w : World} {A : Nat} {F0 O0 S0 C0 U0 : Int} (h : Var w A F0 O0 S0 C0 U0) (F O S C U : Int) : Var (Brk.put w A F O S C U) A F O S C U := by
  have h := ((((Vals.set h 0 (.int .i64 F)).set 1 (.int .i64 O)).set 2 (.int .i64 S)).set 3 (.int .i64 C)).set 4 (.int .i64 U)
  exact h
theorem put_below {w0 w : World} {A : Nat} {C : Nat} (hB : Below C w0 w) (hA : C ≤ A) (F O S C' U : Int) : Below C w0 (put w A F O S C' U) :=
  ((((hB.setCell (p := ⟨A, 0, none⟩) hA _).setCell (p := ⟨A, 1, none⟩) hA _).setCell (p := ⟨A, 2, none⟩) hA _).setCell (p := ⟨A, 3, none⟩) hA _).setCell (p := ⟨A, 4, none⟩) hA _
theorem put_other (w : World) (A : Nat) (F O S C U : Int) (k : Nat) (h : k ≠ A) : (put w A F O S C U).heap[k]? = w.heap[k]? := by
  unfold put
  rw [Below.heap_setCell _ _ _ _ h, Below.heap_setCell _ _ _ _ h, Below.heap_setCell _ _ _ _ h, Below.heap_setCell _ _ _ _ h, Below.heap_setCell _ _ _ _ h]
theorem load {w : World} {A : Nat} {F O S C U : Int} (h : Var w A F O S C U) : (loadVar 118 ⟨A, 0, none⟩).run Try.prog w = .ok (val F O S C U) w := by
  obtain ⟨h0, h1, h2, h3, h4⟩ := h.at
  simp [go_sem, h0, h1, h2, h3, h4]
theorem ret1 {fn : Func} {p : Tmp} (h : fn.results = #[.cell p 118]) {tmps : Array Value} {w : World} {A : Nat} {F O S C U : Int} (hp : tmps.getD p undef = .pointer (some ⟨A, 0, none⟩)) (hA : Var w A F O S C U) :
    (results fn tmps).run Try.prog w = .ok (val F O S C U) w := by
  have hl := load hA
  have hp' : tmps[p]?.getD undef = .pointer (some ⟨A, 0, none⟩) := by simpa using hp
  simp only [results, h]
  simp [hp', asAddr, hl]
theorem ret2 {fn : Func} {p q : Tmp} (h : fn.results = #[.cell p 118, .tmp q]) {tmps : Array Value} {w : World} {A : Nat} {F O S C U : Int} {v : Value} (hp : tmps.getD p undef = .pointer (some ⟨A, 0, none⟩)) (hq : tmps.getD q undef = v) (hA : Var w A F O S C U) :
    (results fn tmps).run Try.prog w = .ok (.tuple #[val F O S C U, v]) w := by
  have hl := load hA
  have hp' : tmps[p]?.getD undef = .pointer (some ⟨A, 0, none⟩) := by simpa using hp
  have hq' : tmps[q]?.getD undef = v := by simpa using hq
  simp only [results, h]
  simp [hp', hq', asAddr, hl]
theorem within_any (n a b : Int) (w : World) :
    Calls Try.prog 107 #[.int .i64 n, .int .i64 a, .int .i64 b] w fun e w' => e = .returned (.bool (inB n a b)) ∧ w = w' := by
  by_cases h1 : a ≤ n
  · by_cases h2 : n ≤ b
    · go_enter Try.func107, Try.ntmps107
      go_wp2
      go_ret
      exact ⟨retB (by unfold inB; rw [decide_eq_true h1, decide_eq_true h2]; rfl), rfl⟩
    · go_enter Try.func107, Try.ntmps107
      go_wp2
      go_ret
      exact ⟨retB (by unfold inB; rw [eq_comm, Bool.and_eq_false_iff]; right; exact decide_eq_false (by omega)), rfl⟩
  · go_enter Try.func107, Try.ntmps107
    go_wp2
    go_ret
    exact ⟨retB (by unfold inB; rw [eq_comm, Bool.and_eq_false_iff]; left; exact decide_eq_false (by omega)), rfl⟩
theorem within_is (n a b : Int) (r : Bool) (w : World) (h : inB n a b = r) :
    Calls Try.prog 107 #[.int .i64 n, .int .i64 a, .int .i64 b] w fun e w' => e = .returned (.bool r) ∧ w = w' := by subst h; exact within_any n a b w
/-- a closed one of which nothing came to nothing -/
def rightB (F O : Int) : Bool := inB F 1 100 && inB O 1 1048576
theorem state_zero (F O : Int) (w : World) (hF1 : 1 ≤ F) (hF2 : F ≤ 100) :
    Calls Try.prog 108 #[val F O 0 0 0] w fun e w' => e = .returned (.bool true) ∧ Below w.heap.size w w' := by
  have H : Hid (inB 0 0 (F - 1) = true) := by show _ = _; unfold inB; simp; omega
  go_enter Try.func108, Try.ntmps108
  go_wp2_with fail
  refine (within_is _ _ _ true _ H.out).mono ?_
  rintro e w' ⟨rfl, rfl⟩
  go_wp2
  go_ret
  exact ⟨rfl, below_alloc w _⟩
theorem in_iff (n a b : Int) : inB n a b = true ↔ a ≤ n ∧ n ≤ b := by unfold inB; simp
set_option maxHeartbeats 1600000 in
theorem right_any (F O : Int) (w : World) :
    Calls Try.prog 103 #[val F O 0 0 0] w fun e w' => e = .returned (.bool (rightB F O)) ∧ Below w.heap.size w w' := by
  cases h1 : inB F 1 100 with
  | false =>
    have E : Hid (rightB F O = false) := by show _ = _; unfold rightB; rw [h1]; rfl
    have H1 := Lib.hid h1
    clear h1
    go_enter Try.func103, Try.ntmps103
    go_wp2_with fail
    refine (within_is _ _ _ false _ H1.out).mono ?_
    rintro e w' ⟨rfl, rfl⟩
    go_wp2
    go_ret
    exact ⟨retB E.out.symm, below_alloc w _⟩
  | true =>
    obtain ⟨f1, f2⟩ := (in_iff _ _ _).1 h1
    cases h2 : inB O 1 1048576 with
    | false =>
      have E : Hid (rightB F O = false) := by show _ = _; unfold rightB; rw [h1, h2]; rfl
      have H1 := Lib.hid h1
      have H2 := Lib.hid h2
      clear h1 h2
      go_enter Try.func103, Try.ntmps103
      go_wp2_with fail
      refine (within_is _ _ _ true _ H1.out).mono ?_
      rintro e w' ⟨rfl, rfl⟩
      go_wp2_with fail
      refine (within_is _ _ _ false _ H2.out).mono ?_
      rintro e w' ⟨rfl, rfl⟩
      go_wp2
      go_ret
      exact ⟨retB E.out.symm, below_alloc w _⟩
    | true =>
      have E : Hid (rightB F O = true) := by show _ = _; unfold rightB; rw [h1, h2]; rfl
      have H1 := Lib.hid h1
      have H2 := Lib.hid h2
      clear h1 h2
      go_enter Try.func103, Try.ntmps103
      go_wp2_with fail
      refine (within_is _ _ _ true _ H1.out).mono ?_
      rintro e w' ⟨rfl, rfl⟩
      go_wp2_with fail
      refine (within_is _ _ _ true _ H2.out).mono ?_
      rintro e w' ⟨rfl, rfl⟩
      go_wp2_with fail
      refine (state_zero _ _ _ f1 f2).mono ?_
      rintro e w' ⟨rfl, hB⟩
      go_wp2
      go_ret
      exact ⟨retB E.out.symm, (below_alloc w _).trans (hB.mono (by simp))⟩
theorem right_is (F O : Int) (r : Bool) (w : World) (h : rightB F O = r) :
    Calls Try.prog 103 #[val F O 0 0 0] w fun e w' => e = .returned (.bool r) ∧ Below w.heap.size w w' := by subst h; exact right_any F O w
theorem Var.alloc {w : World} {A : Nat} {F O S C U : Int} (h : Var w A F O S C U) (o : Obj) : Var (w.alloc o) A F O S C U := Vals.alloc h o
theorem Var.new1 (w : World) (o : Obj) (F O S C U : Int) : Var ((w.alloc o).alloc (.cells #[.int .i64 F, .int .i64 O, .int .i64 S, .int .i64 C, .int .i64 U] 118)) (w.heap.size + 1) F O S C U := by
  have h := Var.new (w.alloc o) F O S C U
  simpa using h
theorem Var.frees {w : World} {A : Nat} {F O S C U : Int} (h : Var w A F O S C U) :
    w.frozen? ⟨A, 0, none⟩ = false ∧ w.frozen? ⟨A, 1, none⟩ = false ∧ w.frozen? ⟨A, 2, none⟩ = false ∧ w.frozen? ⟨A, 3, none⟩ = false ∧ w.frozen? ⟨A, 4, none⟩ = false := ⟨h.free 0, h.free 1, h.free 2, h.free 3, h.free 4⟩
set_option maxHeartbeats 800000 in
theorem closed_any (F O S C U : Int) (w : World) :
    Calls Try.prog 102 #[val F O S C U] w fun e w' => e = .returned (val F O 0 0 0) ∧ Below w.heap.size w w' := by
  go_enter Try.func102, Try.ntmps102
  go_wp2
  exact bodyPost_ret (ret1 rfl rfl (Var.new1 _ _ _ _ _ _ _)) rfl ⟨rfl, (below_alloc w _).alloc (by simp) _⟩
set_option maxHeartbeats 1600000 in
theorem new_yes (F O : Int) (w : World) (h : rightB F O = true) :
    Calls Try.prog 94 #[.int .i64 F, .int .i64 O] w fun e w' => e = .returned (.tuple #[val F O 0 0 0, .int .i64 0]) ∧ Below w.heap.size w w' := by
  have H := Lib.hid h
  have hR := Var.new w 0 0 0 0 0
  clear h
  go_enter Try.func94, Try.ntmps94
  go_wp2_with fail
  refine (closed_any _ _ _ _ _ _).mono ?_
  rintro e w1 ⟨rfl, hB⟩
  have hR := hR.keep hB (Nat.le_refl _)
  have hB' := (below_alloc w _).trans (hB.mono (by simp))
  have hs := hB.size
  simp only [World.size_alloc] at hs
  clear hB
  go_wp2_with fail
  refine (right_is _ _ true _ H.out).mono ?_
  rintro e w2 ⟨rfl, hB2⟩
  have hR := (hR.alloc _).keep hB2 (Nat.le_refl _)
  have hV := (Var.new w1 F O 0 0 0).keep hB2 (Nat.le_refl _)
  have hB'' := (hB'.alloc (by omega) _).trans (hB2.mono (by simp; omega))
  clear hB2
  obtain ⟨a0, a1, a2, a3, a4⟩ := hV.at
  obtain ⟨r0, r1, r2, r3, r4⟩ := hR.at
  obtain ⟨f0, f1, f2, f3, f4⟩ := hR.frees
  go_wp2
  exact bodyPost_ret (ret2 rfl rfl rfl (hR.put _ _ _ _ _)) rfl ⟨rfl, put_below hB'' (by omega) _ _ _ _ _⟩
set_option maxHeartbeats 1600000 in
theorem new_no (F O : Int) (w : World) (h : rightB F O = false) :
    Calls Try.prog 94 #[.int .i64 F, .int .i64 O] w fun e w' => e = .returned (.tuple #[val 0 0 0 0 0, .int .i64 1]) ∧ Below w.heap.size w w' := by
  have H := Lib.hid h
  have hR := Var.new w 0 0 0 0 0
  clear h
  go_enter Try.func94, Try.ntmps94
  go_wp2_with fail
  refine (closed_any _ _ _ _ _ _).mono ?_
  rintro e w1 ⟨rfl, hB⟩
  have hR := hR.keep hB (Nat.le_refl _)
  have hB' := (below_alloc w _).trans (hB.mono (by simp))
  have hs := hB.size
  simp only [World.size_alloc] at hs
  clear hB
  go_wp2_with fail
  refine (right_is _ _ false _ H.out).mono ?_
  rintro e w2 ⟨rfl, hB2⟩
  have hR := (hR.alloc _).keep hB2 (Nat.le_refl _)
  have hB'' := (hB'.alloc (by omega) _).trans (hB2.mono (by simp; omega))
  clear hB2
  obtain ⟨r0, r1, r2, r3, r4⟩ := hR.at
  obtain ⟨f0, f1, f2, f3, f4⟩ := hR.frees
  go_wp2
  exact bodyPost_ret (ret2 rfl rfl rfl (hR.put _ _ _ _ _)) rfl ⟨rfl, put_below hB'' (by omega) _ _ _ _ _⟩

theorem rightB_is (F O : Int) : rightB F O = brkB F O := by
  unfold rightB brkB inB
  rw [Bool.eq_iff_iff]
  simp only [Bool.and_eq_true, decide_eq_true_eq]
  omega
theorem new_any (F O : Int) (w : World) :
    Calls Try.prog 94 #[.int .i64 F, .int .i64 O] w fun e w' => (∃ f o s c u, e = .returned (.tuple #[val f o s c u, .int .i64 (if brkB F O = true then 0 else 1)])) ∧ Below w.heap.size w w' := by
  cases h : brkB F O with
  | true => exact (new_yes F O w (by rw [rightB_is]; exact h)).mono fun e w' ⟨h1, h2⟩ => ⟨⟨_, _, _, _, _, h1⟩, h2⟩
  | false => exact (new_no F O w (by rw [rightB_is]; exact h)).mono fun e w' ⟨h1, h2⟩ => ⟨⟨_, _, _, _, _, h1⟩, h2⟩
end Brk

namespace Bkt
def inB (n a b : Int) : Bool := decide (a ≤ n) && decide (n ≤ b)
/-- a bucket's value -/
abbrev val (B E H T : Int) : Value := .agg #[.int .i64 B, .int .i64 E, .int .i64 H, .int .i64 T]
/-- a bucket's variable -/
def Var (w : World) (A : Nat) (B E H T : Int) : Prop := Vals w A 122 #[.int .i64 B, .int .i64 E, .int .i64 H, .int .i64 T]
theorem Var.at {w : World} {A : Nat} {B E H T : Int} (h : Var w A B E H T) :
    w.cell? ⟨A, 0, none⟩ = some (.int .i64 B) ∧ w.cell? ⟨A, 1, none⟩ = some (.int .i64 E) ∧ w.cell? ⟨A, 2, none⟩ = some (.int .i64 H) ∧ w.cell? ⟨A, 3, none⟩ = some (.int .i64 T) :=
  ⟨Vals.cell h 0, Vals.cell h 1, Vals.cell h 2, Vals.cell h 3⟩
theorem Var.frees {w : World} {A : Nat} {B E H T : Int} (h : Var w A B E H T) :
    w.frozen? ⟨A, 0, none⟩ = false ∧ w.frozen? ⟨A, 1, none⟩ = false ∧ w.frozen? ⟨A, 2, none⟩ = false ∧ w.frozen? ⟨A, 3, none⟩ = false := ⟨Vals.free h 0, Vals.free h 1, Vals.free h 2, Vals.free h 3⟩
theorem Var.lt {w : World} {A : Nat} {B E H T : Int} (h : Var w A B E H T) : A < w.heap.size := Vals.lt h
theorem Var.keep {w w' : World} {A n : Nat} {B E H T : Int} (h : Var w A B E H T) (hB : Below n w w') (hn : w.heap.size ≤ n) : Var w' A B E H T := Vals.keep h hB hn
theorem Var.alloc {w : World} {A : Nat} {B E H T : Int} (h : Var w A B E H T) (o : Obj) : Var (w.alloc o) A B E H T := Vals.alloc h o
theorem Var.new (w : World) (B E H T : Int) : Var (w.alloc (.cells #[.int .i64 B, .int .i64 E, .int .i64 H, .int .i64 T] 122)) w.heap.size B E H T := Vals.new w _ _
theorem Var.new1 (w : World) (o : Obj) (B E H T : Int) : Var ((w.alloc o).alloc (.cells #[.int .i64 B, .int .i64 E, .int .i64 H, .int .i64 T] 122)) (w.heap.size + 1) B E H T := by
  have h := Var.new (w.alloc o) B E H T
  simpa using h
/-- all cells of a bucket's variable written -/
def put (w : World) (A : Nat) (B E H T : Int) : World :=
  (((w.setCell ⟨A, 0, none⟩ (.int .i64 B)).setCell ⟨A, 1, none⟩ (.int .i64 E)).setCell ⟨A, 2, none⟩ (.int .i64 H)).setCell ⟨A, 3, none⟩ (.int .i64 T)
theorem Var.put {w : World} {A : Nat} {B0 E0 H0 T0 : Int} (h : Var w A B0 E0 H0 T0) (B E H T : Int) : Var (Bkt.put w A B E H T) A B E H T := by
  have h := (((Vals.set h 0 (.int .i64 B)).set 1 (.int .i64 E)).set 2 (.int .i64 H)).set 3 (.int .i64 T)
  exact h
theorem put_below {w0 w : World} {A : Nat} {C : Nat} (hB : Below C w0 w) (hA : C ≤ A) (B E H T : Int) : Below C w0 (put w A B E H T) :=
  (((hB.setCell (p := ⟨A, 0, none⟩) hA _).setCell (p := ⟨A, 1, none⟩) hA _).setCell (p := ⟨A, 2, none⟩) hA _).setCell (p := ⟨A, 3, none⟩) hA _
theorem put_other (w : World) (A : Nat) (B E H T : Int) (k : Nat) (h : k ≠ A) : (put w A B E H T).heap[k]? = w.heap[k]? := by
  unfold put
  rw [Below.heap_setCell _ _ _ _ h, Below.heap_setCell _ _ _ _ h, Below.heap_setCell _ _ _ _ h, Below.heap_setCell _ _ _ _ h]
theorem load {w : World} {A : Nat} {B E H T : Int} (h : Var w A B E H T) : (loadVar 122 ⟨A, 0, none⟩).run Try.prog w = .ok (val B E H T) w := by
  obtain ⟨h0, h1, h2, h3⟩ := h.at
  simp [go_sem, h0, h1, h2, h3]
theorem ret1 {fn : Func} {p : Tmp} (h : fn.results = #[.cell p 122]) {tmps : Array Value} {w : World} {A : Nat} {B E H T : Int} (hp : tmps.getD p undef = .pointer (some ⟨A, 0, none⟩)) (hA : Var w A B E H T) :
    (results fn tmps).run Try.prog w = .ok (val B E H T) w := by
  have hl := load hA
  have hp' : tmps[p]?.getD undef = .pointer (some ⟨A, 0, none⟩) := by simpa using hp
  simp only [results, h]
  simp [hp', asAddr, hl]
theorem ret2 {fn : Func} {p q : Tmp} (h : fn.results = #[.cell p 122, .tmp q]) {tmps : Array Value} {w : World} {A : Nat} {B E H T : Int} {v : Value} (hp : tmps.getD p undef = .pointer (some ⟨A, 0, none⟩)) (hq : tmps.getD q undef = v) (hA : Var w A B E H T) :
    (results fn tmps).run Try.prog w = .ok (.tuple #[val B E H T, v]) w := by
  have hl := load hA
  have hp' : tmps[p]?.getD undef = .pointer (some ⟨A, 0, none⟩) := by simpa using hp
  have hq' : tmps[q]?.getD undef = v := by simpa using hq
  simp only [results, h]
  simp [hp', hq', asAddr, hl]
theorem in_iff (n a b : Int) : inB n a b = true ↔ a ≤ n ∧ n ≤ b := by unfold inB; simp
theorem within_any (n a b : Int) (w : World) :
    Calls Try.prog 109 #[.int .i64 n, .int .i64 a, .int .i64 b] w fun e w' => e = .returned (.bool (inB n a b)) ∧ w = w' := by
  by_cases h1 : a ≤ n
  · by_cases h2 : n ≤ b
    · go_enter Try.func109, Try.ntmps109
      go_wp2
      go_ret
      exact ⟨retB (by unfold inB; rw [decide_eq_true h1, decide_eq_true h2]; rfl), rfl⟩
    · go_enter Try.func109, Try.ntmps109
      go_wp2
      go_ret
      exact ⟨retB (by unfold inB; rw [eq_comm, Bool.and_eq_false_iff]; right; exact decide_eq_false (by omega)), rfl⟩
  · go_enter Try.func109, Try.ntmps109
    go_wp2
    go_ret
    exact ⟨retB (by unfold inB; rw [eq_comm, Bool.and_eq_false_iff]; left; exact decide_eq_false (by omega)), rfl⟩
theorem within_is (n a b : Int) (r : Bool) (w : World) (h : inB n a b = r) :
    Calls Try.prog 109 #[.int .i64 n, .int .i64 a, .int .i64 b] w fun e w' => e = .returned (.bool r) ∧ w = w' := by subst h; exact within_any n a b w
/-- an empty one at 0 -/
def rightB (B E : Int) : Bool := inB B 1 100 && inB E 1 1048576
theorem time_zero (w : World) : Calls Try.prog 26 #[.int .i64 0] w fun e w' => e = .returned (.bool true) ∧ w = w' := (tick_right 0 w).mono fun e w' ⟨h1, h2⟩ => ⟨by rw [h1]; rfl, h2.symm⟩
set_option maxHeartbeats 1600000 in
theorem right_any (B E : Int) (w : World) :
    Calls Try.prog 104 #[val B E 0 0] w fun e w' => e = .returned (.bool (rightB B E)) ∧ Below w.heap.size w w' := by
  cases h1 : inB B 1 100 with
  | false =>
    have R : Hid (rightB B E = false) := by show _ = _; unfold rightB; rw [h1]; rfl
    have H1 := Lib.hid h1
    clear h1
    go_enter Try.func104, Try.ntmps104
    go_wp2_with fail
    refine (within_is _ _ _ false _ H1.out).mono ?_
    rintro e w' ⟨rfl, rfl⟩
    go_wp2
    go_ret
    exact ⟨retB R.out.symm, below_alloc w _⟩
  | true =>
    cases h2 : inB E 1 1048576 with
    | false =>
      have R : Hid (rightB B E = false) := by show _ = _; unfold rightB; rw [h1, h2]; rfl
      have H1 := Lib.hid h1
      have H2 := Lib.hid h2
      clear h1 h2
      go_enter Try.func104, Try.ntmps104
      go_wp2_with fail
      refine (within_is _ _ _ true _ H1.out).mono ?_
      rintro e w' ⟨rfl, rfl⟩
      go_wp2_with fail
      refine (within_is _ _ _ false _ H2.out).mono ?_
      rintro e w' ⟨rfl, rfl⟩
      go_wp2
      go_ret
      exact ⟨retB R.out.symm, below_alloc w _⟩
    | true =>
      obtain ⟨f1, f2⟩ := (in_iff _ _ _).1 h1
      have R : Hid (rightB B E = true) := by show _ = _; unfold rightB; rw [h1, h2]; rfl
      have H1 := Lib.hid h1
      have H2 := Lib.hid h2
      have H3 : Hid (inB 0 0 B = true) := by show _ = _; unfold inB; simp; omega
      clear h1 h2
      go_enter Try.func104, Try.ntmps104
      go_wp2_with fail
      refine (within_is _ _ _ true _ H1.out).mono ?_
      rintro e w' ⟨rfl, rfl⟩
      go_wp2_with fail
      refine (within_is _ _ _ true _ H2.out).mono ?_
      rintro e w' ⟨rfl, rfl⟩
      go_wp2_with fail
      refine (within_is _ _ _ true _ H3.out).mono ?_
      rintro e w' ⟨rfl, rfl⟩
      go_wp2_with fail
      refine (time_zero _).mono ?_
      rintro e w' ⟨rfl, rfl⟩
      go_wp2
      go_ret
      exact ⟨retB R.out.symm, below_alloc w _⟩
theorem right_is (B E : Int) (r : Bool) (w : World) (h : rightB B E = r) :
    Calls Try.prog 104 #[val B E 0 0] w fun e w' => e = .returned (.bool r) ∧ Below w.heap.size w w' := by subst h; exact right_any B E w
set_option maxHeartbeats 1600000 in
theorem new_yes (B E : Int) (w : World) (h : rightB B E = true) :
    Calls Try.prog 95 #[.int .i64 B, .int .i64 E, .int .i64 0, .int .i64 0] w fun e w' => e = .returned (.tuple #[val B E 0 0, .int .i64 0]) ∧ Below w.heap.size w w' := by
  have H1 := Lib.hid h
  clear h
  go_enter Try.func95, Try.ntmps95
  go_wp2_with fail
  refine (right_is _ _ true _ H1.out).mono ?_
  rintro e w1 ⟨rfl, hB⟩
  have hR := ((Var.new w 0 0 0 0).alloc (.cells #[.int .i64 B, .int .i64 E, .int .i64 0, .int .i64 0] 122)).keep hB (Nat.le_refl _)
  have hV := (Var.new1 w (.cells #[.int .i64 0, .int .i64 0, .int .i64 0, .int .i64 0] 122) B E 0 0).keep hB (Nat.le_refl _)
  have hB' := ((below_alloc w _).alloc (by simp) _).trans (hB.mono (by simp; omega))
  clear hB
  obtain ⟨a0, a1, a2, a3⟩ := hV.at
  obtain ⟨r0, r1, r2, r3⟩ := hR.at
  obtain ⟨f0, f1, f2, f3⟩ := hR.frees
  go_wp2
  exact bodyPost_ret (ret2 rfl rfl rfl (hR.put _ _ _ _)) rfl ⟨rfl, put_below hB' (by omega) _ _ _ _⟩

set_option maxHeartbeats 1600000 in
theorem new_no (B E : Int) (w : World) (h : rightB B E = false) :
    Calls Try.prog 95 #[.int .i64 B, .int .i64 E, .int .i64 0, .int .i64 0] w fun e w' => e = .returned (.tuple #[val 0 0 0 0, .int .i64 1]) ∧ Below w.heap.size w w' := by
  have H1 := Lib.hid h
  clear h
  go_enter Try.func95, Try.ntmps95
  go_wp2_with fail
  refine (right_is _ _ false _ H1.out).mono ?_
  rintro e w1 ⟨rfl, hB⟩
  have hR := ((Var.new w 0 0 0 0).alloc (.cells #[.int .i64 B, .int .i64 E, .int .i64 0, .int .i64 0] 122)).keep hB (Nat.le_refl _)
  have hV := (Var.new1 w (.cells #[.int .i64 0, .int .i64 0, .int .i64 0, .int .i64 0] 122) B E 0 0).keep hB (Nat.le_refl _)
  have hB' := ((below_alloc w _).alloc (by simp) _).trans (hB.mono (by simp; omega))
  clear hB
  obtain ⟨a0, a1, a2, a3⟩ := hV.at
  obtain ⟨r0, r1, r2, r3⟩ := hR.at
  obtain ⟨f0, f1, f2, f3⟩ := hR.frees
  go_wp2
  exact bodyPost_ret (ret2 rfl rfl rfl (hR.put _ _ _ _)) rfl ⟨rfl, put_below hB' (by omega) _ _ _ _⟩

theorem rightB_is (F O : Int) : rightB F O = brkB F O := by
  unfold rightB brkB inB
  rw [Bool.eq_iff_iff]
  simp only [Bool.and_eq_true, decide_eq_true_eq]
  omega
theorem new_any (F O : Int) (w : World) :
    Calls Try.prog 95 #[.int .i64 F, .int .i64 O, .int .i64 0, .int .i64 0] w fun e w' => (∃ f o s c, e = .returned (.tuple #[val f o s c, .int .i64 (if brkB F O = true then 0 else 1)])) ∧ Below w.heap.size w w' := by
  cases h : brkB F O with
  | true => exact (new_yes F O w (by rw [rightB_is]; exact h)).mono fun e w' ⟨h1, h2⟩ => ⟨⟨_, _, _, _, h1⟩, h2⟩
  | false => exact (new_no F O w (by rw [rightB_is]; exact h)).mono fun e w' ⟨h1, h2⟩ => ⟨⟨_, _, _, _, h1⟩, h2⟩
end Bkt
end Go.Proofs.Ytaiacohnhhicpaa
