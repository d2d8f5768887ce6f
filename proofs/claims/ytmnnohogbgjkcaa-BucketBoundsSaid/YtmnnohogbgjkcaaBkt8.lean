/-
  Buckets: the law's own: alive, some.
-/
import Derived.Test.YtmnnohogbgjkcaaBktT
namespace Go.Proofs.Ytmnnohogbgjkcaa
open Go.RowKit
set_option linter.unusedVariables false

namespace Bkt
set_option maxHeartbeats 3200000 in
theorem alive8 (w : World) :
    Calls Try.prog 6 #[] w fun e w' => e = .returned (.bool true) ∧ Below w.heap.size w w' := by
  have hb : Bk 2 5 0 0 := ⟨by omega, by omega, by omega, by omega, by omega, by omega, by omega, by omega⟩
  have A1 := fun w => new_yes 2 5 0 0 w hb
  have A2 := fun w => take_is 2 5 0 0 4 0 0 0 false w hb (by omega) (by omega) (by decide +kernel) (by decide +kernel) (by decide +kernel) (by decide +kernel)
  have A3 := fun w => take_is 2 5 0 0 5 1 5 0 true w hb (by omega) (by omega) (by decide +kernel) (by decide +kernel) (by decide +kernel) (by decide +kernel)
  clear hb
  go_enter Try.func6, Try.ntmps6
  go_wp2_with fail
  refine (A1 _).mono ?_
  rintro e w1 ⟨rfl, B1⟩
  go_wp2_with fail
  refine (A2 _).mono ?_
  rintro e w2 ⟨rfl, B2⟩
  have hV := (Var.new w1 2 5 0 0).keep B2 (Nat.le_refl _)
  have B2' := (B1.alloc B1.size _).trans (B2.mono (by have := B1.size; simp; omega))
  have s2 := B2'.size
  clear B1 B2
  have hV := hV.alloc (.cells #[.int .i64 2, .int .i64 5, .int .i64 0, .int .i64 0] 24)
  obtain ⟨a0, a1, a2, a3⟩ := hV.at
  go_wp2_with fail
  refine (A3 _).mono ?_
  rintro e w3 ⟨rfl, B3⟩
  have B3' := (B2'.alloc s2 _).trans (B3.mono (by simp; omega))
  clear B3 a0 a1 a2 a3
  go_wp2
  go_ret
  exact ⟨rfl, B3'.alloc B3'.size _⟩

theorem tmod_bounds {d m : Int} (hm : 0 < m) : -m < d.tmod m ∧ d.tmod m < m := by
  have h2 := Int.tmod_eq_emod (a := d) (b := m)
  have h3 := Int.emod_nonneg d (show m ≠ 0 by omega)
  have h4 := Int.emod_lt_of_pos d hm
  rw [h2]
  split <;> omega
theorem tmod_up {x m : Int} (hm : 0 < m) (h0 : -m < x) : 0 ≤ (x + m).tmod m ∧ (x + m).tmod m < m :=
  ⟨Int.tmod_nonneg _ (by omega), Int.tmod_lt_of_pos _ hm⟩
theorem mod_bounds {m d : Int} (hm : 0 < m) (h2 : m ≤ 2097152) : 0 ≤ (wrap64 (d.tmod m + m)).tmod m ∧ (wrap64 (d.tmod m + m)).tmod m < m := by
  have h5 := tmod_bounds (d := d) hm
  have e : wrap64 (d.tmod m + m) = d.tmod m + m := by
    generalize d.tmod m = x at *
    unfold wrap64
    omega
  rw [e]
  exact tmod_up hm h5.1
set_option maxHeartbeats 3200000 in
/-- some bucket, of any numbers, at 0 -/
theorem some_any (b e h : Int) (w : World) :
    Calls Try.prog 5 #[.int .i64 b, .int .i64 e, .int .i64 h] w fun r w' => ∃ B E H, r = .returned (.tuple #[val B E H 0, .bool true]) ∧ 1 ≤ B ∧ B ≤ 20 ∧ 1 ≤ E ∧ E ≤ 20 ∧ 0 ≤ H ∧ H ≤ B ∧ Below w.heap.size w w' := by
  obtain ⟨B0, hB0⟩ : ∃ B0, (wrap64 (b.tmod 20 + 20)).tmod 20 = B0 := ⟨_, rfl⟩
  obtain ⟨E0, hE0⟩ : ∃ E0, (wrap64 (e.tmod 20 + 20)).tmod 20 = E0 := ⟨_, rfl⟩
  have f0 : 0 ≤ B0 ∧ B0 < 20 := by rw [← hB0]; exact mod_bounds (by omega) (by omega)
  have g0 : 0 ≤ E0 ∧ E0 < 20 := by rw [← hE0]; exact mod_bounds (by omega) (by omega)
  obtain ⟨f1, f2⟩ := f0
  obtain ⟨g1, g2⟩ := g0
  obtain ⟨X, hX⟩ : ∃ X, h.tmod (1 + B0 + 1) = X := ⟨_, rfl⟩
  have x0 : -(1 + B0 + 1) < X ∧ X < 1 + B0 + 1 := by rw [← hX]; exact tmod_bounds (by omega)
  obtain ⟨x1, x2⟩ := x0
  go_enter Try.func5, Try.ntmps5
  go_wp2_with fail
  have y1 := Int.emod_nonneg (X + (1 + B0) + 1) (show 1 + B0 + 1 ≠ 0 by omega)
  have y2 := Int.emod_lt_of_pos (X + (1 + B0) + 1) (show 0 < 1 + B0 + 1 by omega)
  have A := fun Y w (h0 : 0 ≤ Y) (h1 : Y ≤ 1 + B0) => new_yes (1 + B0) (1 + E0) Y 0 w ⟨by omega, by omega, by omega, by omega, h0, h1, by omega, by omega⟩
  have hR := Var.new w 0 0 0 0
  clear hB0 hE0
  refine (A _ _ y1 (by omega)).mono ?_
  clear A
  generalize (X + (1 + B0) + 1) % (1 + B0 + 1) = Y at *
  rintro e w1 ⟨rfl, hB⟩
  have hR := (hR.keep hB (Nat.le_refl _)).alloc (.cells #[.int .i64 (1 + B0), .int .i64 (1 + E0), .int .i64 Y, .int .i64 0] 24)
  have hB' := (below_alloc w _).trans (hB.mono (by simp))
  have hs := hB'.size
  clear hB hX x1 x2
  obtain ⟨r0, r1, r2, r3⟩ := hR.at
  obtain ⟨q0, q1, q2, q3⟩ := hR.frees
  go_wp2
  exact bodyPost_ret (ret2 rfl rfl rfl (hR.put _ _ _ _)) rfl ⟨1 + B0, 1 + E0, Y, rfl, by omega, by omega, by omega, by omega, by omega, by omega, put_below (hB'.alloc hs _) (by omega) _ _ _ _⟩
end Bkt
end Go.Proofs.Ytmnnohogbgjkcaa
