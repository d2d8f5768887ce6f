/-
  Which chains may be.
-/
import Derived.Test.YtplfmphhmlkejaaRfcB
namespace Go.Proofs.Ytplfmphhmlkejaa
open Go.RowKit Go.Shelf
set_option linter.unusedVariables false

theorem chainB_iff (n : Nat) (l : List Int) : chainB n l = true ↔ ∀ i, i < l.length → (0 ≤ l.getD i 0 ∧ l.getD i 0 < (n : Int)) ∧ ∀ j, j < i → l.getD j 0 ≠ l.getD i 0 := by
  unfold chainB
  simp only [Bool.and_eq_true, decide_eq_true_eq, List.all_eq_true]
  constructor
  · rintro ⟨h1, h2⟩ i hi
    refine ⟨by rw [getD_at l i hi]; exact h1 _ (List.getElem_mem _), fun j hj => ?_⟩
    rw [getD_at l i hi, getD_at l j (by omega)]
    exact (List.pairwise_iff_getElem.1 h2) j i (by omega) hi hj
  · intro h
    refine ⟨fun k hk => ?_, ?_⟩
    · obtain ⟨i, hi, rfl⟩ := List.getElem_of_mem hk
      have := (h i hi).1
      rwa [getD_at l i hi] at this
    · refine List.pairwise_iff_getElem.2 fun i j hi hj hij => ?_
      have := (h j hj).2 i hij
      rwa [getD_at l i hi, getD_at l j hj] at this
end Go.Proofs.Ytplfmphhmlkejaa
