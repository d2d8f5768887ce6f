/-
  Dues as plain rows of pairs: some of them at small times, and the same ones turned round.
-/
import Derived.Test.YteomenkojhppfaaDueN
namespace Go.Proofs.Yteomenkojhppfaa
open Go.RowKit
set_option linter.unusedVariables false

/-- a due at a small time -/
def modD (x : D2) : D2 := ((wrap64 (x.1.tmod 100 + 100)).tmod 100, x.2)
theorem modD_time (x : D2) : 0 ≤ (modD x).1 ∧ (modD x).1 ≤ 99 := by
  unfold modD
  dsimp only
  generalize x.1 = t
  have h1 : -100 < t.tmod 100 ∧ t.tmod 100 < 100 := by
    have h2 := Int.tmod_eq_emod (a := t) (b := 100)
    have h3 := Int.emod_nonneg t (show (100 : Int) ≠ 0 by omega)
    have h4 := Int.emod_lt_of_pos t (show (0 : Int) < 100 by omega)
    rw [h2]
    split <;> omega
  have e : wrap64 (t.tmod 100 + 100) = t.tmod 100 + 100 := by
    generalize t.tmod 100 = y at *
    unfold wrap64
    omega
  rw [e]
  generalize t.tmod 100 = y at *
  have h5 := Int.tmod_nonneg 100 (show 0 ≤ y + 100 by omega)
  have h6 := Int.tmod_lt_of_pos (y + 100) (show (0 : Int) < 100 by omega)
  omega
theorem turn_bounds (x : Int) : ∃ T : Nat, (wrap64 (x.tmod 60 + 60)).tmod 60 = (T : Int) ∧ T ≤ 59 := by
  have h1 : -60 < x.tmod 60 ∧ x.tmod 60 < 60 := by
    have h2 := Int.tmod_eq_emod (a := x) (b := 60)
    have h3 := Int.emod_nonneg x (show (60 : Int) ≠ 0 by omega)
    have h4 := Int.emod_lt_of_pos x (show (0 : Int) < 60 by omega)
    rw [h2]
    split <;> omega
  have e : wrap64 (x.tmod 60 + 60) = x.tmod 60 + 60 := by
    generalize x.tmod 60 = y at *
    unfold wrap64
    omega
  rw [e]
  generalize x.tmod 60 = y at *
  have h5 := Int.tmod_nonneg 60 (show 0 ≤ y + 60 by omega)
  have h6 := Int.tmod_lt_of_pos (y + 60) (show (0 : Int) < 60 by omega)
  exact ⟨((y + 60).tmod 60).toNat, by omega, by omega⟩
/-- dues at small times, 60 at most -/
def SmallD (S : List D2) : Prop := S.length ≤ 60 ∧ ∀ x ∈ S, 0 ≤ x.1 ∧ x.1 ≤ 99
theorem small_mod (l : List D2) : SmallD ((l.take 60).map modD) := by
  refine ⟨by rw [List.length_map, List.length_take]; omega, fun x hx => ?_⟩
  obtain ⟨y, _, rfl⟩ := List.mem_map.1 hx
  exact modD_time y
theorem SmallD.sub {S R : List D2} (h : SmallD S) (hl : R.length ≤ S.length) (hs : ∀ x ∈ R, x ∈ S) : SmallD R := ⟨Nat.le_trans hl h.1, fun x hx => h.2 x (hs x hx)⟩
theorem SmallD.right {S : List D2} (h : SmallD S) : true = dueB S := by
  unfold dueB
  have h1 := h.1
  have h2 : (S.all fun x => timeB x.1) = true := by
    rw [List.all_eq_true]
    intro x hx
    have := h.2 x hx
    exact time_mk this.1 (by omega)
  rw [h2]
  simp
  omega
theorem SmallD.time {S : List D2} (h : SmallD S) {x : D2} (hx : x ∈ S) : true = timeB x.1 := by
  have := h.2 x hx
  exact (time_mk this.1 (by omega)).symm
theorem SmallD.take {S : List D2} (h : SmallD S) (i : Nat) : SmallD (S.take i) := h.sub (by rw [List.length_take]; omega) (fun x hx => List.mem_of_mem_take hx)
theorem getD_mem {S : List D2} {i : Nat} (h : i < S.length) : S.getD i (0, 0) ∈ S := by rw [getD_d S i h]; exact List.getElem_mem _
/-- the same ones, turned round -/
def rotD (T : Nat) (S : List D2) : List D2 := (List.range S.length).map fun i => S.getD ((i + T) % S.length) (0, 0)
theorem rotD_length (T : Nat) (S : List D2) : (rotD T S).length = S.length := by simp [rotD]
theorem rotD_at (T : Nat) (S : List D2) (i : Nat) (h : i < S.length) : (rotD T S).getD i (0, 0) = S.getD ((i + T) % S.length) (0, 0) := by
  unfold rotD
  rw [List.getD_eq_getElem?_getD, List.getElem?_map, List.getElem?_range h]
  rfl
theorem rotD_is (T : Nat) (S : List D2) : rotD T S = S.drop (T % S.length) ++ S.take (T % S.length) := by
  rcases Nat.eq_zero_or_pos S.length with h0 | h0
  · have := List.eq_nil_of_length_eq_zero h0
    subst this
    simp [rotD]
  · have ht := Nat.mod_lt T h0
    apply List.ext_getElem?
    intro i
    unfold rotD
    rw [List.getElem?_map]
    by_cases hi : i < S.length
    · rw [List.getElem?_range hi, Option.map_some]
      by_cases hd : i < S.length - T % S.length
      · rw [List.getElem?_append_left (by rw [List.length_drop]; omega), List.getElem?_drop]
        have e : (i + T) % S.length = T % S.length + i := by
          rw [Nat.add_mod, Nat.mod_eq_of_lt hi, Nat.mod_eq_of_lt (by omega)]
          omega
        rw [e, List.getD_eq_getElem?_getD, List.getElem?_eq_getElem (by omega)]
        rfl
      · rw [List.getElem?_append_right (by rw [List.length_drop]; omega), List.length_drop, List.getElem?_take_of_lt (by omega)]
        have e : (i + T) % S.length = i - (S.length - T % S.length) := by
          rw [Nat.add_mod, Nat.mod_eq_of_lt hi, Nat.mod_eq_sub_mod (by omega), Nat.mod_eq_of_lt (by omega)]
          omega
        rw [e, List.getD_eq_getElem?_getD, List.getElem?_eq_getElem (by omega)]
        rfl
    · rw [List.getElem?_eq_none (by simpa using hi), List.getElem?_eq_none (by simp; omega)]
      rfl
theorem rotD_perm (T : Nat) (S : List D2) : (rotD T S).Perm S := by
  rw [rotD_is]
  exact List.perm_append_comm.trans (by rw [List.take_append_drop])
/-- as many as there are in another row -/
def cntD (d : D2) (l : List D2) : Nat := l.count d
theorem cntD_take (d : D2) (l : List D2) (k : Nat) (hk : k < l.length) : cntD d (l.take (k + 1)) = cntD d (l.take k) + if l.getD k (0, 0) = d then 1 else 0 := by
  rw [takeD_next l k hk]
  unfold cntD
  rw [List.count_append]
  congr 1
  by_cases h : l.getD k (0, 0) = d
  · rw [h]; simp
  · rw [if_neg h, List.count_eq_zero]
    intro hm
    exact h (List.mem_singleton.1 hm).symm
theorem cntD_perm (d : D2) {l r : List D2} (h : l.Perm r) : cntD d l = cntD d r := h.count_eq d
theorem inO_next {l : List D2} (h : InO l) {i : Nat} (hi : i + 1 < l.length) : false = aheadB (l.getD (i + 1) (0, 0)) (l.getD i (0, 0)) := by
  rw [getD_d l (i + 1) hi, getD_d l i (by omega)]
  exact (List.pairwise_iff_getElem.1 h i (i + 1) (by omega) hi (by omega)).symm
end Go.Proofs.Yteomenkojhppfaa
