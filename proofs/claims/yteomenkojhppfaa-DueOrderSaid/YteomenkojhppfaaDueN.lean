/-
  Dues as plain rows of pairs: in order, and what is in order.
-/
import Derived.Test.YteomenkojhppfaaDueR
import Derived.Test.YteomenkojhppfaaDueQ
namespace Go.Proofs.Yteomenkojhppfaa
open Go.Sort
set_option linter.unusedVariables false

/-- each ahead of the next, or like it -/
def InO (l : List D2) : Prop := l.Pairwise fun x y => aheadB y x = false
theorem ahead_no {x y : D2} : aheadB y x = false ↔ (x.1 < y.1 ∨ (x.1 = y.1 ∧ x.2 ≤ y.2)) := by
  unfold aheadB
  simp
  omega
theorem inO_one {l r : List D2} (hl : InO l) (hr : InO r) (h : l.Perm r) : l = r :=
  List.Perm.eq_of_pairwise (fun a b _ _ h1 h2 => by
    have h3 := ahead_no.1 h1
    have h4 := ahead_no.1 h2
    exact Prod.ext (by omega) (by omega)) hl hr h
theorem sortD_eq (l : List D2) : sortD l = l.mergeSort fun x y => !aheadB y x := by
  unfold sortD
  congr 1
  funext x y
  rw [ltD]
theorem sortD_perm (l : List D2) : (sortD l).Perm l := List.mergeSort_perm ..
theorem sortD_in (l : List D2) : InO (sortD l) := by
  rw [sortD_eq]
  have h := List.pairwise_mergeSort (le := fun x y : D2 => !aheadB y x) (fun a b c h1 h2 => by
    simp only [Bool.not_eq_true'] at *
    rw [ahead_no] at *
    omega) (fun a b => by
    cases h1 : aheadB b a with
    | false => simp
    | true =>
      cases h2 : aheadB a b with
      | false => simp
      | true => simp [aheadB] at h1 h2; omega) l
  exact h.imp fun h => by simpa using h
theorem sortD_of_in {l : List D2} (h : InO l) : sortD l = l := inO_one (sortD_in l) h (sortD_perm l)
theorem sortD_of_perm {l r : List D2} (h : l.Perm r) : sortD l = sortD r := inO_one (sortD_in l) (sortD_in r) ((sortD_perm l).trans (h.trans (sortD_perm r).symm))
theorem insD_perm (d : D2) (l : List D2) : (insD d l).Perm (d :: l) := by
  unfold insD
  exact List.perm_middle.trans (by rw [List.take_append_drop])
theorem posD_take (d : D2) (l : List D2) : ∀ x ∈ l.take (posD d l), aheadB d x = false := by
  induction l with
  | nil => intro x hx; simp [posD] at hx
  | cons y l ih =>
    intro x hx
    unfold posD at hx
    by_cases h : aheadB d y = true
    · simp [h] at hx
    · rw [if_neg h, List.take_succ_cons] at hx
      rcases List.mem_cons.1 hx with rfl | hx
      · simpa using h
      · exact ih x hx
theorem posD_drop (d : D2) (l : List D2) : ∀ y r, l.drop (posD d l) = y :: r → aheadB d y = true := by
  induction l with
  | nil => intro y r h; simp at h
  | cons z l ih =>
    intro y r h
    unfold posD at h
    by_cases hz : aheadB d z = true
    · rw [if_pos hz, List.drop_zero] at h
      injection h with h1 h2
      rw [← h1]; exact hz
    · rw [if_neg hz, List.drop_succ_cons] at h
      exact ih y r h
theorem insD_in {d : D2} {l : List D2} (h : InO l) : InO (insD d l) := by
  have hs : InO (l.take (posD d l) ++ l.drop (posD d l)) := by rw [List.take_append_drop]; exact h
  unfold insD
  obtain ⟨h1, h2, h3⟩ := List.pairwise_append.1 hs
  refine List.pairwise_append.2 ⟨h1, ?_, fun x hx y hy => ?_⟩
  · refine List.pairwise_cons.2 ⟨fun y hy => ?_, h2⟩
    cases hd : l.drop (posD d l) with
    | nil => rw [hd] at hy; simp at hy
    | cons z r =>
      have hz := posD_drop d l z r hd
      rw [hd] at h2 hy
      have hzy : z = y ∨ aheadB y z = false := by
        rcases List.mem_cons.1 hy with e | e
        · exact .inl e.symm
        · exact .inr ((List.pairwise_cons.1 h2).1 y e)
      rcases hzy with rfl | hzy
      · simp [aheadB] at hz ⊢; omega
      · rw [ahead_no] at hzy ⊢
        simp [aheadB] at hz
        omega
  · rcases List.mem_cons.1 hy with rfl | hy
    · exact posD_take _ l x hx
    · exact h3 x hx y hy
theorem foldI (l : List D2) : ∀ o, InO o → InO (l.foldl (fun out d => insD d out) o) ∧ (l.foldl (fun out d => insD d out) o).Perm (o ++ l) := by
  induction l with
  | nil => intro o ho; exact ⟨ho, by simp⟩
  | cons x l ih =>
    intro o ho
    rw [List.foldl_cons]
    obtain ⟨h1, h2⟩ := ih (insD x o) (insD_in ho)
    refine ⟨h1, h2.trans ?_⟩
    exact ((insD_perm x o).append_right l).trans (by simpa using (List.perm_middle (a := x) (l₁ := o) (l₂ := l)).symm)
theorem sortI_is (l : List D2) : sortI l = sortD l := by
  obtain ⟨h1, h2⟩ := foldI l [] .nil
  exact inO_one h1 (sortD_in l) (h2.trans (by simpa using (sortD_perm l).symm))
theorem afterD_in {now : Int} {l : List D2} (h : InO l) : InO (afterD now l) := List.Pairwise.filter _ h
theorem hereD_in {now : Int} {l : List D2} (h : InO l) : InO (hereD now l) := List.Pairwise.filter _ h
theorem after_twice (n m : Int) (h : n ≤ m) (l : List D2) : afterD m (afterD n l) = afterD m l := by
  unfold afterD
  rw [List.filter_filter]
  refine List.filter_congr fun x _ => ?_
  by_cases hx : m < x.1
  · simp [hx]; omega
  · simp [hx]
theorem here_twice (n m : Int) (h : n ≤ m) {l : List D2} (hl : InO l) : hereD n l ++ hereD m (afterD n l) = hereD m l := by
  refine inO_one ?_ (hereD_in hl) ?_
  · refine List.pairwise_append.2 ⟨hereD_in hl, hereD_in (afterD_in hl), fun x hx y hy => ?_⟩
    have h1 := (List.mem_filter.1 hx).2
    have h2 := (List.mem_filter.1 (List.mem_filter.1 hy).1).2
    simp at h1 h2
    rw [ahead_no]
    omega
  · have hp := List.filter_append_perm (fun x : D2 => !decide (n < x.1)) (hereD m l)
    have e1 : (hereD m l).filter (fun x => !decide (n < x.1)) = hereD n l := by
      unfold hereD
      rw [List.filter_filter]
      refine List.filter_congr fun x _ => ?_
      by_cases hx : n < x.1
      · simp [hx]
      · simp [hx]; omega
    have e2 : (hereD m l).filter (fun x => !(!decide (n < x.1))) = hereD m (afterD n l) := by
      unfold hereD afterD
      rw [List.filter_filter, List.filter_filter]
      refine List.filter_congr fun x _ => ?_
      rw [Bool.not_not, Bool.and_comm]
    rw [e1, e2] at hp
    exact hp
theorem both_length (n : Int) (l : List D2) : (hereD n l).length + (afterD n l).length = l.length := by
  have h := (List.filter_append_perm (fun x : D2 => decide (n < x.1)) l).length_eq
  rw [List.length_append] at h
  unfold hereD afterD
  omega
theorem dueB_sub {l r : List D2} (h : dueB l = true) (hr : ∀ x ∈ r, x ∈ l) (hlen : r.length ≤ l.length) : dueB r = true := by
  unfold dueB at *
  simp only [Bool.and_eq_true, decide_eq_true_eq, List.all_eq_true] at *
  exact ⟨by omega, fun x hx => h.2 x (hr x hx)⟩
theorem mem_sortD {l : List D2} {x : D2} : x ∈ sortD l ↔ x ∈ l := (sortD_perm l).mem_iff
end Go.Proofs.Yteomenkojhppfaa
