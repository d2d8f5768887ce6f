/-
  The same labels in another order: from the last to the first, turned round.
-/
import Derived.Test.YthncfcjkpcjkiaaGreatDoorLabM
import Derived.ProofKit
namespace Go.Proofs.YthncfcjkpcjkiaaGreatDoor
open Go.RowKit Go.Shelf
set_option linter.unusedVariables false

theorem turn3 (x : Int) : ∃ T : Nat, (wrap64 (x.tmod 3 + 3)).tmod 3 = (T : Int) ∧ T ≤ 2 := by
  have h1 : -3 < x.tmod 3 ∧ x.tmod 3 < 3 := by
    have h2 := Int.tmod_eq_emod (a := x) (b := 3)
    have h3 := Int.emod_nonneg x (show (3 : Int) ≠ 0 by omega)
    have h4 := Int.emod_lt_of_pos x (show (0 : Int) < 3 by omega)
    rw [h2]
    split <;> omega
  have e : wrap64 (x.tmod 3 + 3) = x.tmod 3 + 3 := by
    generalize x.tmod 3 = y at *
    unfold wrap64
    omega
  rw [e]
  generalize x.tmod 3 = y at *
  have h5 := Int.tmod_nonneg 3 (show 0 ≤ y + 3 by omega)
  have h6 := Int.tmod_lt_of_pos (y + 3) (show (0 : Int) < 3 by omega)
  exact ⟨((y + 3).tmod 3).toNat, by omega, by omega⟩
/-- the same ones, turned round -/
def rotL (T : Nat) (S : List L2) : List L2 := (List.range S.length).map fun i => S.getD ((i + T) % S.length) zL
theorem rotL_is (T : Nat) (S : List L2) : rotL T S = S.drop (T % S.length) ++ S.take (T % S.length) := by
  rcases Nat.eq_zero_or_pos S.length with h0 | h0
  · have := List.eq_nil_of_length_eq_zero h0
    subst this
    simp [rotL]
  · have ht := Nat.mod_lt T h0
    apply List.ext_getElem?
    intro i
    unfold rotL
    rw [List.getElem?_map]
    by_cases hi : i < S.length
    · rw [List.getElem?_range hi, Option.map_some]
      by_cases hd : i < S.length - T % S.length
      · rw [List.getElem?_append_left (by rw [List.length_drop]; omega), List.getElem?_drop]
        have e : (i + T) % S.length = T % S.length + i := by
          rw [Nat.add_mod, Nat.mod_eq_of_lt hi, Nat.mod_eq_of_lt (by omega)]
          omega
        rw [e, List.getD_eq_getElem?_getD, List.getElem?_eq_getElem (by omega)]
        rfl
      · rw [List.getElem?_append_right (by rw [List.length_drop]; omega), List.length_drop, List.getElem?_take_of_lt (by omega)]
        have e : (i + T) % S.length = i - (S.length - T % S.length) := by
          rw [Nat.add_mod, Nat.mod_eq_of_lt hi, Nat.mod_eq_sub_mod (by omega), Nat.mod_eq_of_lt (by omega)]
          omega
        rw [e, List.getD_eq_getElem?_getD, List.getElem?_eq_getElem (by omega)]
        rfl
    · rw [List.getElem?_eq_none (by simpa using hi), List.getElem?_eq_none (by simp; omega)]
      rfl
theorem rotL_perm (T : Nat) (S : List L2) : (rotL T S).Perm S := by
  rw [rotL_is]
  exact List.perm_append_comm.trans (by rw [List.take_append_drop])
/-- the same ones, from the last to the first, turned round -/
def turnL (T : Nat) (S : List L2) : List L2 := (List.range S.length).map fun i => S.getD (S.length - 1 - (i + T) % S.length) zL
theorem turnL_length (T : Nat) (S : List L2) : (turnL T S).length = S.length := by simp [turnL]
theorem turnL_at (T : Nat) (S : List L2) (i : Nat) (h : i < S.length) : (turnL T S).getD i zL = S.getD (S.length - 1 - (i + T) % S.length) zL := by
  unfold turnL
  rw [List.getD_eq_getElem?_getD, List.getElem?_map, List.getElem?_range h]
  rfl
theorem turnL_is (T : Nat) (S : List L2) : turnL T S = rotL T S.reverse := by
  unfold turnL rotL
  rw [List.length_reverse]
  refine List.map_congr_left fun i hi => ?_
  have hlt : i < S.length := by simpa using hi
  have hq := Nat.mod_lt (i + T) (show 0 < S.length by omega)
  rw [List.getD_eq_getElem?_getD, List.getD_eq_getElem?_getD, List.getElem?_reverse hq]
theorem turnL_perm (T : Nat) (S : List L2) : (turnL T S).Perm S := by
  rw [turnL_is]
  exact (rotL_perm T _).trans (List.reverse_perm S)
theorem turnL_take (T : Nat) (S : List L2) (m k : Nat) (hm : S.length = m) (h : k < m) : (turnL T S).take (k + 1) = (turnL T S).take k ++ [S.getD (m - 1 - (k + T) % m) zL] := by
  subst hm
  rw [takeL_next _ k (by rw [turnL_length]; exact h), turnL_at T S k h]
end Go.Proofs.YthncfcjkpcjkiaaGreatDoor
