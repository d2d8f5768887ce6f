/-
  What a text says of an alert, as the program reads it: plain facts.
-/
import Derived.Test.YthncfcjkpcjkiaaGreatDoorWirZ
namespace Go.Proofs.YthncfcjkpcjkiaaGreatDoor
open Go.RowKit Go.Shelf
set_option linter.unusedVariables false

theorem alertB_none {k : Int} {ws : List (List UInt8)} (h : allO labelB ws = none) : alertB k ws = (zMsg, 13) := by unfold alertB; rw [h]
theorem alertB_ok {k : Int} {ws : List (List UInt8)} {l : List L2} (h : allO labelB ws = some l) (h0 : (sortF l).2 = 0) : alertB k ws = ((k, (sortF l).1, 0, 0, []), 0) := by unfold alertB; rw [h]; simp only; rw [if_pos h0]
theorem alertB_no {k : Int} {ws : List (List UInt8)} {l : List L2} (h : allO labelB ws = some l) (h0 : (sortF l).2 ≠ 0) : alertB k ws = (zMsg, (sortF l).2) := by unfold alertB; rw [h]; simp only; rw [if_neg h0]
theorem right_one (s t : ByteArray) : rightB [(s, t)] = (nameB s && valueB t) := by
  unfold rightB posB
  rw [show riseB [(s, t)] = true from by rw [riseB_iff]; intro i hi; exact absurd hi (by simp)]
  simp only [List.any_cons, List.any_nil, noneB]
  cases nameB s <;> cases valueB t <;> rfl
theorem label_none {l : List UInt8} (h : labelW [] l = none) : labelB l = none := by unfold labelB; rw [h]; rfl
theorem label_one {l : List UInt8} {s t : ByteArray} (h : labelW [] l = some (s, t)) : (rightB [(s, t)] = true → labelB l = some (s, t)) ∧ (rightB [(s, t)] = false → labelB l = none) := by
  have hB : labelB l = okL (s, t) := by unfold labelB; rw [h]; rfl
  rw [right_one, hB]
  unfold okL
  cases nameB s <;> cases valueB t <;> simp
end Go.Proofs.YthncfcjkpcjkiaaGreatDoor
