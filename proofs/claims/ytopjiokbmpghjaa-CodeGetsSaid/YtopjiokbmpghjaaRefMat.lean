/-
  The document's own answer: which matcher may be.
-/
import Derived.Test.YtopjiokbmpghjaaLabR
import Derived.Test.YtopjiokbmpghjaaLabN
namespace Go.Proofs.Ytopjiokbmpghjaa
open Go.RowKit Go.Shelf
set_option linter.unusedVariables false

set_option maxRecDepth 100000 in
set_option maxHeartbeats 4000000 in
theorem refMatcher_any (m : M3) (hs : m.2.1.size ≤ 4611686018427387904 ∧ m.2.2.size ≤ 4611686018427387904) (w : World) :
    Calls Try.prog 65 #[aggM m] w fun e w' => e = .returned (.bool (matB m)) ∧ Below w.heap.size w w' := by
  obtain ⟨k, s, t⟩ := m
  have HR : Hid (matB (k, s, t) = (decide (0 ≤ k) && decide (k ≤ 3) && nameB s && valueB t && (!decide (k = 3) || (t.toList == [])))) := rfl
  have hB := fun o => (Below.refl _ w).alloc (Nat.le_refl w.heap.size) o
  have HT := fun w => refName_any s (by have := hs.1; dsimp only at this; omega) w
  have HU := fun w => refValue_any t (by have := hs.2; dsimp only at this; omega) w
  dsimp only [aggM]
  clear hs
  by_cases h0 : 0 ≤ k
  · by_cases h3 : k ≤ 3
    · generalize nameB s = a at *
      generalize valueB t = b at *
      cases a with
      | false =>
        go_enter Try.func65, Try.ntmps65
        go_wp2_with fail
        refine (HT _).mono ?_
        rintro e w1 ⟨rfl, B1⟩
        go_wp2_with fail
        go_ret
        exact ⟨retB (by rw [HR.out]; simp), (hB _).trans (B1.mono (by simp))⟩
      | true =>
        cases b with
        | false =>
          go_enter Try.func65, Try.ntmps65
          go_wp2_with fail
          refine (HT _).mono ?_
          rintro e w1 ⟨rfl, B1⟩
          have c2 : w1.cell? ⟨w.heap.size, 2, none⟩ = some (.string t) := (B1.cell (by simp)).trans (by simp)
          go_wp2_with fail
          refine (HU _).mono ?_
          rintro e w2 ⟨rfl, B2⟩
          go_wp2_with fail
          go_ret
          exact ⟨retB (by rw [HR.out]; simp), (hB _).trans ((B1.mono (by simp)).trans (B2.mono (by have := B1.size; simp at this; omega)))⟩
        | true =>
          by_cases hk : k = 3
          · subst hk
            go_enter Try.func65, Try.ntmps65
            go_wp2_with fail
            refine (HT _).mono ?_
            rintro e w1 ⟨rfl, B1⟩
            have c0 : w1.cell? ⟨w.heap.size, 0, none⟩ = some (.int .i64 3) := (B1.cell (by simp)).trans (by simp)
            have c2 : w1.cell? ⟨w.heap.size, 2, none⟩ = some (.string t) := (B1.cell (by simp)).trans (by simp)
            go_wp2_with fail
            refine (HU _).mono ?_
            rintro e w2 ⟨rfl, B2⟩
            have d0 : w2.cell? ⟨w.heap.size, 0, none⟩ = some (.int .i64 3) := (B2.cell (World.block_lt_of_cell? _ _ c0)).trans c0
            have d2 : w2.cell? ⟨w.heap.size, 2, none⟩ = some (.string t) := (B2.cell (World.block_lt_of_cell? _ _ c2)).trans c2
            go_wp2_with fail
            go_ret
            exact ⟨retB (by rw [HR.out]; simp), (hB _).trans ((B1.mono (by simp)).trans (B2.mono (by have := B1.size; simp at this; omega)))⟩
          · have hk1 : (k == 3) = false := by simp [hk]
            go_enter Try.func65, Try.ntmps65
            go_wp2_with fail
            refine (HT _).mono ?_
            rintro e w1 ⟨rfl, B1⟩
            have c0 : w1.cell? ⟨w.heap.size, 0, none⟩ = some (.int .i64 k) := (B1.cell (by simp)).trans (by simp)
            have c2 : w1.cell? ⟨w.heap.size, 2, none⟩ = some (.string t) := (B1.cell (by simp)).trans (by simp)
            go_wp2_with fail
            refine (HU _).mono ?_
            rintro e w2 ⟨rfl, B2⟩
            have d0 : w2.cell? ⟨w.heap.size, 0, none⟩ = some (.int .i64 k) := (B2.cell (World.block_lt_of_cell? _ _ c0)).trans c0
            go_wp2_with fail
            go_ret
            exact ⟨retB (by rw [HR.out]; simp [h0, h3, hk]), (hB _).trans ((B1.mono (by simp)).trans (B2.mono (by have := B1.size; simp at this; omega)))⟩
    · clear HT HU
      go_enter Try.func65, Try.ntmps65
      go_wp2_with fail
      go_ret
      exact ⟨retB (by rw [HR.out, show decide (k ≤ 3) = false by simp; omega]; simp), hB _⟩
  · clear HT HU
    go_enter Try.func65, Try.ntmps65
    go_wp2_with fail
    go_ret
    exact ⟨retB (by rw [HR.out, show decide (0 ≤ k) = false by simp; omega]; simp), hB _⟩
end Go.Proofs.Ytopjiokbmpghjaa
