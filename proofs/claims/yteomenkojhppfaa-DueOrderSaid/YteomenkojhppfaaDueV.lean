/-
  Dues: the law's own: alive.
-/
import Derived.Test.YteomenkojhppfaaDueD
import Derived.Test.YteomenkojhppfaaDueN
import Derived.Test.YteomenkojhppfaaDueU
namespace Go.Proofs.Yteomenkojhppfaa
open Go.RowKit
set_option linter.unusedVariables false

theorem three_sorted : sortD [(5, 1), (3, 9), (3, 2)] = [(3, 2), (3, 9), (5, 1)] := by
  rw [← sortI_is]
  decide +kernel
theorem three_at (w : World) : Ds (w.alloc (.cells #[.int .i64 5, .int .i64 1, .int .i64 3, .int .i64 9, .int .i64 3, .int .i64 2] 24)) (some ⟨w.heap.size, 0, none⟩) 3 3 [(5, 1), (3, 9), (3, 2)] := by
  refine ⟨rfl, Nat.le_refl _, fun i hi => ⟨w.heap.size, 0, rfl, ?_⟩⟩
  match i, hi with
  | 0, _ => exact ⟨World.cell?_alloc_at _ _ _ _ rfl, World.cell?_alloc_at _ _ _ _ rfl⟩
  | 1, _ => exact ⟨World.cell?_alloc_at _ _ _ _ rfl, World.cell?_alloc_at _ _ _ _ rfl⟩
  | 2, _ => exact ⟨World.cell?_alloc_at _ _ _ _ rfl, World.cell?_alloc_at _ _ _ _ rfl⟩
set_option maxRecDepth 100000 in
set_option maxHeartbeats 3200000 in
theorem alive_any (w : World) :
    Calls Try.prog 12 #[] w fun e w' => e = .returned (.bool true) ∧ Below w.heap.size w w' := by
  have h3 := three_at w
  have B0 : Below w.heap.size w (w.alloc (.cells #[.int .i64 5, .int .i64 1, .int .i64 3, .int .i64 9, .int .i64 3, .int .i64 2] 24)) := (Below.refl _ w).alloc (Nat.le_refl _) _
  have hD := drain_yes _ 3 3 [(5, 1), (3, 9), (3, 2)] 4 _ h3 (by omega) (by decide +kernel) (by decide +kernel)
  rw [three_sorted] at hD
  rw [show afterD 4 [(3, 2), (3, 9), (5, 1)] = [(5, 1)] from by decide +kernel, show hereD 4 [(3, 2), (3, 9), (5, 1)] = [(3, 2), (3, 9)] from by decide +kernel] at hD
  simp only [List.length_cons, List.length_nil, Nat.zero_add, Nat.reduceAdd] at hD
  go_enter Try.func12, Try.ntmps12
  go_wp2_with fail
  refine hD.mono ?_
  rintro e w1 ⟨⟨o1, c1, o2, c2, rfl, hA, hH, _, _⟩, B1⟩
  obtain ⟨g1, p1, rfl, a0, a1⟩ := hA.cell 0 (by omega)
  obtain ⟨g2, p2, rfl, b0, b1⟩ := hH.cell 0 (by omega)
  have B := B0.trans (B1.mono B0.size)
  simp only [Nat.zero_mul, Nat.add_zero, List.getD_cons_zero] at a0 a1 b0 b1
  go_wp2_with fail
  go_ret
  exact ⟨rfl, B⟩
end Go.Proofs.Yteomenkojhppfaa
