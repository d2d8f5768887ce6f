/-
  Whatever is asked and told, nothing goes through while a breaker is open but one ask at its time: the law's walk.
-/
import Derived.Test.YtcmnmmdhipkibaaBrkD
import Derived.Deep.DeepCutAuto
import Derived.Deep.QuietTactic
import Derived.BigQuiet
namespace Go.Proofs.Ytcmnmmdhipkibaa
open Go.RowKit
set_option linter.unusedVariables false

theorem below_drewN {B : Nat} {a w : World} (h : Below B a w) (n : Nat) : Below B a (w.drewN n) := ⟨h.os, h.tape, h.output, h.size, h.block⟩
namespace Brk
theorem ask_mk {F O S C U now : Int} (f1 : 1 ≤ F) (f2 : F ≤ 100) (o1 : 1 ≤ O) (o2 : O ≤ 1048576) (hs : (S = 0 ∧ 0 ≤ C ∧ C < F ∧ U = 0) ∨ (S = 1 ∧ C = 0 ∧ 0 ≤ U ∧ U ≤ 1099511627776) ∨ (S = 2 ∧ C = 0 ∧ U = 0)) (n0 : 0 ≤ now) (n1 : now ≤ 1099511627776) : askB F O S C U now = true :=
  (ask_iff _ _ _ _ _ _).2 ⟨(right_iff _ _ _ _ _).2 ⟨f1, f2, o1, o2, (st_iff _ _ _ _).2 hs⟩, n0, n1⟩
set_option maxHeartbeats 1600000 in
theorem alive7 (w : World) :
    Calls Try.prog 5 #[] w fun e w' => e = .returned (.bool true) ∧ Below w.heap.size w w' := by
  have A1 := fun w => new_yes 1 5 w (by decide +kernel)
  have A2 := fun w => told_settle 1 5 0 2 1 7 false w (by decide +kernel) (by decide +kernel) (by decide +kernel) (by omega) (by omega) (by omega) (fun _ => by omega)
  have A3 := fun w => ask_wait 1 5 7 6 w (by decide +kernel) (by omega)
  go_enter Try.func5, Try.ntmps5
  go_wp2_with fail
  refine (A1 _).mono ?_
  rintro e w1 ⟨rfl, B1⟩
  go_wp2_with fail
  refine (A2 _).mono ?_
  rintro e w2 ⟨rfl, B2⟩
  have hV := (Var.new w1 1 5 0 0 0).keep B2 (Nat.le_refl _)
  have B2' := (B1.alloc B1.size _).trans (B2.mono (by have := B1.size; simp; omega))
  have s1 := B1.size
  clear B2
  obtain ⟨a0, a1, a2, a3, a4⟩ := hV.at
  obtain ⟨b0, b1, b2, b3, b4⟩ := hV.frees
  go_wp2_with fail
  refine (A3 _).mono ?_
  rintro e w3 ⟨rfl, B3⟩
  have hV3 : Var w3 w1.heap.size 1 5 1 0 7 := (hV.put 1 5 1 0 7).keep B3 (Nat.le_refl _)
  have B3' : Below w.heap.size w w3 := (put_below B2' s1 1 5 1 0 7).trans (B3.mono (by have := (put_below B2' s1 1 5 1 0 7).size; exact this))
  clear B3 a0 a1 a2 a3 a4 b0 b1 b2 b3 b4
  obtain ⟨a0, a1, a2, a3, a4⟩ := (hV3.alloc (.cells #[.int .i64 1, .int .i64 5, .int .i64 1, .int .i64 0, .int .i64 7] 24)).at
  go_wp2
  go_ret
  exact ⟨rfl, B3'.alloc B3'.size _⟩
end Brk
end Go.Proofs.Ytcmnmmdhipkibaa
