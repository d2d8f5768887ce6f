/-
  Labels in order, as lists: what sorting by insertion gives, that no other row does, and when two have one name.
-/
import Derived.Test.YtopjiokbmpghjaaLabD
namespace Go.Proofs.Ytopjiokbmpghjaa
open Go.RowKit
set_option linter.unusedVariables false

/-- each name is less than all behind it -/
def Strict (l : List L2) : Prop := l.Pairwise fun x y => ltS x.1 y.1 = true
/-- no name comes behind a greater one -/
def SortedL (l : List L2) : Prop := l.Pairwise fun x y => ltS y.1 x.1 = false
theorem Strict.sorted {l : List L2} (h : Strict l) : SortedL l := h.imp fun h => ltS_asymm h
/-- where it stands -/
def insL (x : L2) : List L2 → List L2
  | [] => [x]
  | y :: l => if ltS x.1 y.1 = true then x :: y :: l else y :: insL x l
def sortL (l : List L2) : List L2 := l.foldl (fun out x => insL x out) []

theorem insL_perm (x : L2) (l : List L2) : (insL x l).Perm (x :: l) := by
  induction l with
  | nil => exact List.Perm.refl _
  | cons y l ih =>
    unfold insL
    split
    · exact List.Perm.refl _
    · exact (ih.cons y).trans (List.Perm.swap ..)
theorem insL_mem {x z : L2} {l : List L2} (h : z ∈ insL x l) : z = x ∨ z ∈ l := by
  have := (insL_perm x l).mem_iff.1 h
  simpa using this
theorem insL_strict (x : L2) (l : List L2) (h : Strict l) (hx : ∀ y ∈ l, x.1 ≠ y.1) : Strict (insL x l) := by
  induction l with
  | nil => exact List.pairwise_singleton ..
  | cons y l ih =>
    have h' := List.pairwise_cons.1 h
    unfold insL
    split
    · rename_i hlt
      refine List.pairwise_cons.2 ⟨fun z hz => ?_, h⟩
      rcases List.mem_cons.1 hz with rfl | hz
      · exact hlt
      · exact ltS_trans hlt (h'.1 z hz)
    · rename_i hlt
      refine List.pairwise_cons.2 ⟨fun z hz => ?_, ih h'.2 fun z hz => hx z (List.mem_cons_of_mem _ hz)⟩
      rcases insL_mem hz with rfl | hz
      · cases hb : ltS y.1 z.1 with
        | true => rfl
        | false => exact absurd (ltS_total (by simpa using hlt) hb) (hx y (List.mem_cons_self ..))
      · exact h'.1 z hz
theorem insL_sorted (x : L2) (l : List L2) (h : SortedL l) : SortedL (insL x l) := by
  induction l with
  | nil => exact List.pairwise_singleton ..
  | cons y l ih =>
    have h' := List.pairwise_cons.1 h
    unfold insL
    split
    · rename_i hlt
      refine List.pairwise_cons.2 ⟨fun z hz => ?_, h⟩
      rcases List.mem_cons.1 hz with rfl | hz
      · exact ltS_asymm hlt
      · cases hb : ltS z.1 x.1 with
        | false => rfl
        | true => have := ltS_trans hb hlt; rw [h'.1 z hz] at this; cases this
    · rename_i hlt
      refine List.pairwise_cons.2 ⟨fun z hz => ?_, ih h'.2⟩
      rcases insL_mem hz with rfl | hz
      · simpa using hlt
      · exact h'.1 z hz
theorem sortL_snoc (l : List L2) (x : L2) : sortL (l ++ [x]) = insL x (sortL l) := by unfold sortL; rw [List.foldl_append]; rfl
theorem snoc_ind {P : List L2 → Prop} (h0 : P []) (h1 : ∀ l x, P l → P (l ++ [x])) (l : List L2) : P l := by
  have : ∀ l : List L2, P l.reverse := by
    intro l
    induction l with
    | nil => exact h0
    | cons x l ih => rw [List.reverse_cons]; exact h1 _ _ ih
  have h := this l.reverse
  rwa [List.reverse_reverse] at h
theorem sortL_perm (l : List L2) : (sortL l).Perm l := by
  refine snoc_ind (P := fun l => (sortL l).Perm l) (List.Perm.refl _) (fun l x ih => ?_) l
  rw [sortL_snoc]
  exact (insL_perm x _).trans ((ih.cons x).trans (List.perm_append_comm (l₁ := [x]) (l₂ := l)))
theorem sortL_sorted (l : List L2) : SortedL (sortL l) := by
  refine snoc_ind (P := fun l => SortedL (sortL l)) List.Pairwise.nil (fun l x ih => ?_) l
  rw [sortL_snoc]
  exact insL_sorted x _ ih
theorem sortL_length (l : List L2) : (sortL l).length = l.length := (sortL_perm l).length_eq
/-- a row that rises is the only one of its labels that is in order -/
theorem sorted_unique : ∀ (r r' : List L2), r.Perm r' → Strict r → SortedL r' → r = r'
  | [], r', h, _, _ => (List.nil_perm.1 h).symm
  | x :: r, [], h, _, _ => absurd h.length_eq (by simp)
  | x :: r, x' :: r', h, hs, hs' => by
    have e : x' = x := by
      have h1 : x' ∈ x :: r := h.mem_iff.2 (List.mem_cons_self ..)
      have h2 : x ∈ x' :: r' := h.mem_iff.1 (List.mem_cons_self ..)
      rcases List.mem_cons.1 h1 with e | h1
      · exact e
      rcases List.mem_cons.1 h2 with e | h2
      · exact e.symm
      have q1 := (List.pairwise_cons.1 hs).1 x' h1
      have q2 := (List.pairwise_cons.1 hs').1 x h2
      rw [q1] at q2
      cases q2
    subst e
    rw [sorted_unique r r' (List.Perm.cons_inv h) (List.pairwise_cons.1 hs).2 (List.pairwise_cons.1 hs').2]

theorem riseB_two (x y : L2) (l : List L2) : riseB (x :: y :: l) = true ↔ ltS x.1 y.1 = true ∧ riseB (y :: l) = true := by
  rw [riseB_iff, riseB_iff]
  constructor
  · intro h
    refine ⟨h 0 (by simp), fun i hi => ?_⟩
    have := h (i + 1) (by simp at hi ⊢; omega)
    simpa using this
  · rintro ⟨h1, h2⟩ i hi
    cases i with
    | zero => exact h1
    | succ i =>
      have := h2 i (by simp at hi ⊢; omega)
      simpa using this
theorem riseB_strict : ∀ l : List L2, riseB l = true ↔ Strict l
  | [] => by simp [riseB, Strict]
  | [x] => by simp [riseB, Strict]
  | x :: y :: l => by
    rw [riseB_two, riseB_strict (y :: l)]
    constructor
    · rintro ⟨h1, h2⟩
      refine List.pairwise_cons.2 ⟨fun z hz => ?_, h2⟩
      rcases List.mem_cons.1 hz with rfl | hz
      · exact h1
      · exact ltS_trans h1 ((List.pairwise_cons.1 h2).1 z hz)
    · intro h
      exact ⟨(List.pairwise_cons.1 h).1 y (List.mem_cons_self ..), (List.pairwise_cons.1 h).2⟩
/-- any row in order of the same labels -/
theorem sorted_is {l r : List L2} (hp : r.Perm l) (hs : SortedL r) : riseB r = riseB (sortL l) ∧ (riseB r = true → r = sortL l) := by
  have hp' : r.Perm (sortL l) := hp.trans (sortL_perm l).symm
  have q1 : riseB r = true → r = sortL l := fun h => sorted_unique _ _ hp' ((riseB_strict r).1 h) (sortL_sorted l)
  have q2 : riseB (sortL l) = true → sortL l = r := fun h => sorted_unique _ _ hp'.symm ((riseB_strict _).1 h) hs
  refine ⟨?_, q1⟩
  cases h1 : riseB r with
  | true => rw [← q1 h1, h1]
  | false =>
    cases h2 : riseB (sortL l) with
    | false => rfl
    | true => rw [q2 h2, h1] at h2; cases h2
/-- two of one name -/
theorem twice_not (l r : List L2) (x y : L2) (hy : y ∈ sortL l) (hn : x.1 = y.1) : riseB (sortL (l ++ x :: r)) = false := by
  cases hb : riseB (sortL (l ++ x :: r)) with
  | false => rfl
  | true =>
    exfalso
    have hs := (riseB_strict _).1 hb
    have hnd : ((sortL (l ++ x :: r)).map Prod.fst).Nodup := by
      rw [List.Nodup, List.pairwise_map]
      exact hs.imp fun {a b} h e => by rw [e, ltS_irrefl] at h; cases h
    have hnd2 : ((l ++ x :: r).map Prod.fst).Nodup := ((sortL_perm _).map _).nodup_iff.1 hnd
    have hy' : y ∈ l := (sortL_perm l).mem_iff.1 hy
    rw [List.map_append, List.map_cons, List.nodup_append] at hnd2
    exact hnd2.2.2 y.1 (List.mem_map_of_mem hy') x.1 (List.mem_cons_self ..) hn.symm

/-- the labels in order, or why not -/
def sortF (l : List L2) : List L2 × Int := if posB l = true then (if riseB (sortL l) = true then (sortL l, 0) else ([], 11)) else ([], 1)
theorem posB_perm {l r : List L2} (h : l.Perm r) : posB l = posB r := by
  unfold posB
  rw [h.length_eq, h.any_eq]
theorem sortF_perm {l r : List L2} (h : l.Perm r) : sortF l = sortF r := by
  unfold sortF
  rw [posB_perm h]
  obtain ⟨q1, q2⟩ := sorted_is ((sortL_perm l).trans h) (sortL_sorted l)
  rw [← q1]
  cases hb : riseB (sortL l) with
  | true => rw [q2 hb]
  | false => rfl
theorem sortF_snd (l : List L2) : (sortF l).2 = 0 ∨ (sortF l).2 = 11 ∨ (sortF l).2 = 1 := by
  unfold sortF
  split
  · split
    · exact .inl rfl
    · exact .inr (.inl rfl)
  · exact .inr (.inr rfl)
theorem sortF_ok {l : List L2} (h : (sortF l).2 = 0) : (sortF l).1 = sortL l ∧ rightB (sortL l) = true ∧ sortF (sortL l) = sortF l ∧ posB l = true ∧ riseB (sortL l) = true := by
  have hp : posB l = true ∧ riseB (sortL l) = true := by
    unfold sortF at h
    split at h
    · split at h
      · exact ⟨by assumption, by assumption⟩
      · simp at h
    · simp at h
  refine ⟨by unfold sortF; rw [if_pos hp.1, if_pos hp.2], ?_, sortF_perm (sortL_perm l), hp⟩
  unfold rightB
  rw [posB_perm (sortL_perm l), hp.1, hp.2]
  rfl
theorem sortF_not {l : List L2} (h : (sortF l).2 ≠ 0) : (sortF l).1 = [] ∧ rightB l = false := by
  refine ⟨?_, ?_⟩
  · unfold sortF at h ⊢
    split
    · rename_i hp
      rw [if_pos hp] at h
      split
      · rename_i hq; rw [if_pos hq] at h; exact absurd rfl h
      · rfl
    · rfl
  · cases hr : rightB l with
    | false => rfl
    | true =>
      exfalso
      unfold rightB at hr
      simp only [Bool.and_eq_true] at hr
      have hs := (riseB_strict l).1 hr.2
      have e := (sorted_is (List.Perm.refl l) hs.sorted).2 hr.2
      unfold sortF at h
      rw [← e, if_pos hr.1, if_pos hr.2] at h
      exact h rfl
theorem sortF_right {l : List L2} (h : rightB l = true) : sortF l = (l, 0) := by
  unfold rightB at h
  simp only [Bool.and_eq_true] at h
  have e := (sorted_is (List.Perm.refl l) ((riseB_strict l).1 h.2).sorted).2 h.2
  unfold sortF
  rw [← e, if_pos h.1, if_pos h.2]
theorem insL_none (x : L2) (l : List L2) (h : l.any (fun y => ltS x.1 y.1) = false) : insL x l = l ++ [x] := by
  induction l with
  | nil => rfl
  | cons y l ih =>
    rw [List.any_cons, Bool.or_eq_false_iff] at h
    unfold insL
    rw [if_neg (by simp [h.1]), ih h.2]
    rfl
theorem insL_some (x : L2) (l r : List L2) (h : l.any (fun y => ltS x.1 y.1) = true) : insL x (l ++ r) = insL x l ++ r := by
  induction l with
  | nil => simp at h
  | cons y l ih =>
    rw [List.cons_append]
    unfold insL
    by_cases hx : ltS x.1 y.1 = true
    · rw [if_pos hx, if_pos hx]; rfl
    · rw [if_neg hx, if_neg hx]
      rw [List.any_cons] at h
      rw [ih (by simpa [hx] using h)]
      rfl
theorem insL_hit (x y : L2) (l : List L2) (h : l.any (fun y => ltS x.1 y.1) = false) (hy : ltS x.1 y.1 = true) : insL x (l ++ [y]) = l ++ [x] ++ [y] := by
  induction l with
  | nil => simp [insL, hy]
  | cons z l ih =>
    rw [List.any_cons, Bool.or_eq_false_iff] at h
    rw [List.cons_append]
    unfold insL
    rw [if_neg (by simp [h.1]), ih h.2]
    rfl
end Go.Proofs.Ytopjiokbmpghjaa
