/-
  Buckets: which may be, a bucket's variable, and small functions of package bucket, one contract each: within, Right, whyNotAt, fillerAt and the closure that it tells.
-/
import Derived.Test.YtmnnohogbgjkcaaTickAdd
import Derived.Test.YtmnnohogbgjkcaaVals
import Derived.Test.YtmnnohogbgjkcaaBktN
import Derived.BigQuiet
namespace Go.Proofs.Ytmnnohogbgjkcaa
open Go.RowKit
set_option linter.unusedVariables false

namespace Bkt
def inB (n a b : Int) : Bool := decide (a ≤ n) && decide (n ≤ b)
/-- a bucket's value -/
abbrev val (B E H T : Int) : Value := .agg #[.int .i64 B, .int .i64 E, .int .i64 H, .int .i64 T]
/-- a bucket's variable -/
def Var (w : World) (A : Nat) (B E H T : Int) : Prop := Vals w A 24 #[.int .i64 B, .int .i64 E, .int .i64 H, .int .i64 T]
theorem Var.at {w : World} {A : Nat} {B E H T : Int} (h : Var w A B E H T) :
    w.cell? ⟨A, 0, none⟩ = some (.int .i64 B) ∧ w.cell? ⟨A, 1, none⟩ = some (.int .i64 E) ∧ w.cell? ⟨A, 2, none⟩ = some (.int .i64 H) ∧ w.cell? ⟨A, 3, none⟩ = some (.int .i64 T) :=
  ⟨Vals.cell h 0, Vals.cell h 1, Vals.cell h 2, Vals.cell h 3⟩
theorem Var.frees {w : World} {A : Nat} {B E H T : Int} (h : Var w A B E H T) :
    w.frozen? ⟨A, 0, none⟩ = false ∧ w.frozen? ⟨A, 1, none⟩ = false ∧ w.frozen? ⟨A, 2, none⟩ = false ∧ w.frozen? ⟨A, 3, none⟩ = false := ⟨Vals.free h 0, Vals.free h 1, Vals.free h 2, Vals.free h 3⟩
theorem Var.lt {w : World} {A : Nat} {B E H T : Int} (h : Var w A B E H T) : A < w.heap.size := Vals.lt h
theorem Var.keep {w w' : World} {A n : Nat} {B E H T : Int} (h : Var w A B E H T) (hB : Below n w w') (hn : w.heap.size ≤ n) : Var w' A B E H T := Vals.keep h hB hn
theorem Var.alloc {w : World} {A : Nat} {B E H T : Int} (h : Var w A B E H T) (o : Obj) : Var (w.alloc o) A B E H T := Vals.alloc h o
theorem Var.new (w : World) (B E H T : Int) : Var (w.alloc (.cells #[.int .i64 B, .int .i64 E, .int .i64 H, .int .i64 T] 24)) w.heap.size B E H T := Vals.new w _ _
theorem Var.new1 (w : World) (o : Obj) (B E H T : Int) : Var ((w.alloc o).alloc (.cells #[.int .i64 B, .int .i64 E, .int .i64 H, .int .i64 T] 24)) (w.heap.size + 1) B E H T := by
  have h := Var.new (w.alloc o) B E H T
  simpa using h
/-- all cells of a bucket's variable written -/
def put (w : World) (A : Nat) (B E H T : Int) : World :=
  (((w.setCell ⟨A, 0, none⟩ (.int .i64 B)).setCell ⟨A, 1, none⟩ (.int .i64 E)).setCell ⟨A, 2, none⟩ (.int .i64 H)).setCell ⟨A, 3, none⟩ (.int .i64 T)
theorem Var.put {w : World} {A : Nat} {B0 E0 H0 T0 : Int} (h : Var w A B0 E0 H0 T0) (B E H T : Int) : Var (Bkt.put w A B E H T) A B E H T := by
  have h := (((Vals.set h 0 (.int .i64 B)).set 1 (.int .i64 E)).set 2 (.int .i64 H)).set 3 (.int .i64 T)
  exact h
theorem put_below {w0 w : World} {A : Nat} {C : Nat} (hB : Below C w0 w) (hA : C ≤ A) (B E H T : Int) : Below C w0 (put w A B E H T) :=
  (((hB.setCell (p := ⟨A, 0, none⟩) hA _).setCell (p := ⟨A, 1, none⟩) hA _).setCell (p := ⟨A, 2, none⟩) hA _).setCell (p := ⟨A, 3, none⟩) hA _
theorem put_other (w : World) (A : Nat) (B E H T : Int) (k : Nat) (h : k ≠ A) : (put w A B E H T).heap[k]? = w.heap[k]? := by
  unfold put
  rw [Below.heap_setCell _ _ _ _ h, Below.heap_setCell _ _ _ _ h, Below.heap_setCell _ _ _ _ h, Below.heap_setCell _ _ _ _ h]
theorem load {w : World} {A : Nat} {B E H T : Int} (h : Var w A B E H T) : (loadVar 24 ⟨A, 0, none⟩).run Try.prog w = .ok (val B E H T) w := by
  obtain ⟨h0, h1, h2, h3⟩ := h.at
  simp [go_sem, h0, h1, h2, h3]
theorem ret1 {fn : Func} {p : Tmp} (h : fn.results = #[.cell p 24]) {tmps : Array Value} {w : World} {A : Nat} {B E H T : Int} (hp : tmps.getD p undef = .pointer (some ⟨A, 0, none⟩)) (hA : Var w A B E H T) :
    (results fn tmps).run Try.prog w = .ok (val B E H T) w := by
  have hl := load hA
  have hp' : tmps[p]?.getD undef = .pointer (some ⟨A, 0, none⟩) := by simpa using hp
  simp only [results, h]
  simp [hp', asAddr, hl]
theorem ret2 {fn : Func} {p q : Tmp} (h : fn.results = #[.cell p 24, .tmp q]) {tmps : Array Value} {w : World} {A : Nat} {B E H T : Int} {v : Value} (hp : tmps.getD p undef = .pointer (some ⟨A, 0, none⟩)) (hq : tmps.getD q undef = v) (hA : Var w A B E H T) :
    (results fn tmps).run Try.prog w = .ok (.tuple #[val B E H T, v]) w := by
  have hl := load hA
  have hp' : tmps[p]?.getD undef = .pointer (some ⟨A, 0, none⟩) := by simpa using hp
  have hq' : tmps[q]?.getD undef = v := by simpa using hq
  simp only [results, h]
  simp [hp', hq', asAddr, hl]
theorem ret3 {fn : Func} {p q r : Tmp} (h : fn.results = #[.cell p 24, .tmp q, .tmp r]) {tmps : Array Value} {w : World} {A : Nat} {B E H T : Int} {v z : Value} (hp : tmps.getD p undef = .pointer (some ⟨A, 0, none⟩)) (hq : tmps.getD q undef = v) (hr : tmps.getD r undef = z) (hA : Var w A B E H T) :
    (results fn tmps).run Try.prog w = .ok (.tuple #[val B E H T, v, z]) w := by
  have hl := load hA
  have hp' : tmps[p]?.getD undef = .pointer (some ⟨A, 0, none⟩) := by simpa using hp
  have hq' : tmps[q]?.getD undef = v := by simpa using hq
  have hr' : tmps[r]?.getD undef = z := by simpa using hr
  simp only [results, h]
  simp [hp', hq', hr', asAddr, hl]
theorem in_iff (n a b : Int) : inB n a b = true ↔ a ≤ n ∧ n ≤ b := by unfold inB; simp
theorem within_any (n a b : Int) (w : World) :
    Calls Try.prog 18 #[.int .i64 n, .int .i64 a, .int .i64 b] w fun e w' => e = .returned (.bool (inB n a b)) ∧ w = w' := by
  by_cases h1 : a ≤ n
  · by_cases h2 : n ≤ b
    · go_enter Try.func18, Try.ntmps18
      go_wp2
      go_ret
      exact ⟨retB (by unfold inB; rw [decide_eq_true h1, decide_eq_true h2]; rfl), rfl⟩
    · go_enter Try.func18, Try.ntmps18
      go_wp2
      go_ret
      exact ⟨retB (by unfold inB; rw [eq_comm, Bool.and_eq_false_iff]; right; exact decide_eq_false (by omega)), rfl⟩
  · go_enter Try.func18, Try.ntmps18
    go_wp2
    go_ret
    exact ⟨retB (by unfold inB; rw [eq_comm, Bool.and_eq_false_iff]; left; exact decide_eq_false (by omega)), rfl⟩
theorem within_is (n a b : Int) (r : Bool) (w : World) (h : inB n a b = r) :
    Calls Try.prog 18 #[.int .i64 n, .int .i64 a, .int .i64 b] w fun e w' => e = .returned (.bool r) ∧ w = w' := by subst h; exact within_any n a b w
theorem time_is (t : Int) (r : Bool) (w : World) (h : timeB t = r) :
    Calls Try.prog 15 #[.int .i64 t] w fun e w' => e = .returned (.bool r) ∧ w = w' := by subst h; exact time_any t w

/-- which buckets may be -/
def rightB (B E H T : Int) : Bool := inB B 1 100 && inB E 1 1048576 && inB H 0 B && timeB T
theorem right_iff (B E H T : Int) : rightB B E H T = true ↔ Bk B E H T := by
  unfold rightB timeB
  rw [Bool.and_eq_true, Bool.and_eq_true, Bool.and_eq_true, in_iff, in_iff, in_iff, Bool.and_eq_true, decide_eq_true_iff, decide_eq_true_iff]
  exact ⟨fun ⟨⟨⟨⟨a, b⟩, c, d⟩, e, f⟩, g, h⟩ => ⟨a, b, c, d, e, f, g, h⟩, fun ⟨a, b, c, d, e, f, g, h⟩ => ⟨⟨⟨⟨a, b⟩, c, d⟩, e, f⟩, g, h⟩⟩
set_option maxHeartbeats 1600000 in
theorem right_any (B E H T : Int) (w : World) :
    Calls Try.prog 14 #[val B E H T] w fun e w' => e = .returned (.bool (rightB B E H T)) ∧ Below w.heap.size w w' := by
  cases h1 : inB B 1 100 with
  | false =>
    have R : Hid (rightB B E H T = false) := by show _ = _; unfold rightB; rw [h1]; rfl
    have H1 := Lib.hid h1
    clear h1
    go_enter Try.func14, Try.ntmps14
    go_wp2_with fail
    refine (within_is _ _ _ false _ H1.out).mono ?_
    rintro e w' ⟨rfl, rfl⟩
    go_wp2
    go_ret
    exact ⟨retB R.out.symm, below_alloc w _⟩
  | true =>
    cases h2 : inB E 1 1048576 with
    | false =>
      have R : Hid (rightB B E H T = false) := by show _ = _; unfold rightB; rw [h1, h2]; rfl
      have H1 := Lib.hid h1
      have H2 := Lib.hid h2
      clear h1 h2
      go_enter Try.func14, Try.ntmps14
      go_wp2_with fail
      refine (within_is _ _ _ true _ H1.out).mono ?_
      rintro e w' ⟨rfl, rfl⟩
      go_wp2_with fail
      refine (within_is _ _ _ false _ H2.out).mono ?_
      rintro e w' ⟨rfl, rfl⟩
      go_wp2
      go_ret
      exact ⟨retB R.out.symm, below_alloc w _⟩
    | true =>
      cases h3 : inB H 0 B with
      | false =>
        have R : Hid (rightB B E H T = false) := by show _ = _; unfold rightB; rw [h1, h2, h3]; rfl
        have H1 := Lib.hid h1
        have H2 := Lib.hid h2
        have H3 := Lib.hid h3
        clear h1 h2 h3
        go_enter Try.func14, Try.ntmps14
        go_wp2_with fail
        refine (within_is _ _ _ true _ H1.out).mono ?_
        rintro e w' ⟨rfl, rfl⟩
        go_wp2_with fail
        refine (within_is _ _ _ true _ H2.out).mono ?_
        rintro e w' ⟨rfl, rfl⟩
        go_wp2_with fail
        refine (within_is _ _ _ false _ H3.out).mono ?_
        rintro e w' ⟨rfl, rfl⟩
        go_wp2
        go_ret
        exact ⟨retB R.out.symm, below_alloc w _⟩
      | true =>
        have R : Hid (rightB B E H T = timeB T) := by show _ = _; unfold rightB; rw [h1, h2, h3]; rfl
        generalize h4 : timeB T = r at R
        have H1 := Lib.hid h1
        have H2 := Lib.hid h2
        have H3 := Lib.hid h3
        have H4 := Lib.hid h4
        clear h1 h2 h3 h4
        go_enter Try.func14, Try.ntmps14
        go_wp2_with fail
        refine (within_is _ _ _ true _ H1.out).mono ?_
        rintro e w' ⟨rfl, rfl⟩
        go_wp2_with fail
        refine (within_is _ _ _ true _ H2.out).mono ?_
        rintro e w' ⟨rfl, rfl⟩
        go_wp2_with fail
        refine (within_is _ _ _ true _ H3.out).mono ?_
        rintro e w' ⟨rfl, rfl⟩
        go_wp2_with fail
        refine (time_is _ r _ H4.out).mono ?_
        rintro e w' ⟨rfl, rfl⟩
        go_wp2
        go_ret
        exact ⟨retB R.out.symm, below_alloc w _⟩
theorem right_is (B E H T : Int) (r : Bool) (w : World) (h : rightB B E H T = r) :
    Calls Try.prog 14 #[val B E H T] w fun e w' => e = .returned (.bool r) ∧ Below w.heap.size w w' := by subst h; exact right_any B E H T w

set_option maxHeartbeats 800000 in
/-- a bucket that may be asked at that time -/
theorem why_ok (B E H T now : Int) (w : World) (h : Bk B E H T) (h0 : T ≤ now) (h1 : now ≤ 1099511627776) :
    Calls Try.prog 11 #[val B E H T, .int .i64 now] w fun e w' => e = .returned (.int .i64 0) ∧ Below w.heap.size w w' := by
  have H1 := Lib.hid ((right_iff _ _ _ _).2 h)
  have H2 := Lib.hid (time_mk (t := now) (by have := h.t1; omega) h1)
  obtain ⟨b1, b2, e1, e2, g1, g2, t1, t2⟩ := h
  clear b1 b2 e1 e2 g1 g2
  go_enter Try.func11, Try.ntmps11
  go_wp2_with fail
  refine (right_is _ _ _ _ true _ H1.out).mono ?_
  rintro e w' ⟨rfl, hB⟩
  have hV := (Var.new w B E H T).keep hB (Nat.le_refl _)
  have hB' := (below_alloc w _).trans (hB.mono (by simp))
  clear hB
  obtain ⟨a0, a1, a2, a3⟩ := hV.at
  go_wp2_with fail
  refine (time_is _ true _ H2.out).mono ?_
  rintro e w'' ⟨rfl, rfl⟩
  go_wp2
  go_ret
  exact ⟨rfl, hB'⟩

end Bkt
end Go.Proofs.Ytmnnohogbgjkcaa
