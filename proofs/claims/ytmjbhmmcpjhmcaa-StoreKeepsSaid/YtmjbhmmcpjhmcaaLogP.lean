/-
  A log, as plain lists: what is found on a disk; what a disk is like on which just these records stand.
-/
import Derived.Test.YtmjbhmmcpjhmcaaLogJ
namespace Go.Proofs.Ytmjbhmmcpjhmcaa
open Go.RowKit
set_option linter.unusedVariables false

/-- where the header of a generation lies -/
def hdN (g : Int) : Nat := (g % 2).toNat
theorem hd_lt (g : Int) : hdN g < 2 := by unfold hdN; omega
/-- where record i lies, in areas of R sectors -/
def atN (R : Nat) (g : Int) (i : Nat) : Nat := 2 + hdN g * R + i
theorem rec_at {ss : List ByteArray} (h : logB ss = true) (g : Int) (i : Nat) : recN ss g i = atN (roomN ss) g i := by
  obtain ⟨h1, h2, h3, h4⟩ := room_eq h
  unfold recN atN recZ hdN
  rw [h1]
  rcases (by omega : g % 2 = 0 ∨ g % 2 = 1) with e | e <;> rw [e] <;> simp <;> omega
theorem at_inj {R : Nat} {g : Int} {i j : Nat} (h : atN R g i = atN R g j) : i = j := by unfold atN at h; omega
theorem at_two (R : Nat) (g : Int) (i : Nat) : 2 ≤ atN R g i := by unfold atN; omega
theorem at_apart {R : Nat} {g h : Int} (hne : hdN g ≠ hdN h) {i j : Nat} (hi : i < R) (hj : j < R) : atN R g i ≠ atN R h j := by
  have h1 := hd_lt g
  have h2 := hd_lt h
  unfold atN
  rcases (by omega : (hdN g = 0 ∧ hdN h = 1) ∨ (hdN g = 1 ∧ hdN h = 0)) with ⟨a, b⟩ | ⟨a, b⟩ <;> rw [a, b] <;> omega
theorem at_lt {ss : List ByteArray} (h : logB ss = true) (g : Int) {i : Nat} (hi : i < roomN ss) : atN (roomN ss) g i < ss.length := by
  rw [← rec_at h]
  exact (rec_eq h g i hi).2.1
theorem sec_set (ss : List ByteArray) (a : Nat) (x : ByteArray) (i : Nat) (ha : a < ss.length) : secA (ss.set a x) i = if i = a then x else secA ss i := by
  unfold secA
  by_cases e : i = a
  · subst e
    rw [if_pos rfl, List.getD_eq_getElem?_getD, List.getElem?_set_self ha]
    rfl
  · rw [if_neg e, List.getD_eq_getElem?_getD, List.getElem?_set_ne (Ne.symm e), List.getD_eq_getElem?_getD]
theorem room_set (ss : List ByteArray) (a : Nat) (x : ByteArray) : roomN (ss.set a x) = roomN ss := by unfold roomN roomZ; rw [List.length_set]
theorem room_same {ss tt : List ByteArray} (h : ss.length = tt.length) : roomN ss = roomN tt := by unfold roomN roomZ; rw [h]
theorem rec_same {ss tt : List ByteArray} (h : ss.length = tt.length) (g : Int) (i : Nat) : recN ss g i = recN tt g i := by unfold recN recZ roomZ; rw [h]

/-- what is found of a generation: as many as there are, and no more -/
theorem recs_is (ss : List ByteArray) (g : Int) (l : List ByteArray) (hl : l.length ≤ roomN ss) (hy : ∀ j, j < l.length → isRecB (secA ss (recN ss g j)) g j = true ∧ pOf (secA ss (recN ss g j)) = l.getD j ⟨#[]⟩)
    (hn : l.length < roomN ss → isRecB (secA ss (recN ss g l.length)) g l.length = false) : recL ss g = l := by
  have key : ∀ k i, k + i = l.length → recsN ss g (roomN ss - i) i = l.drop i := by
    intro k
    induction k with
    | zero =>
      intro i hi
      obtain rfl : i = l.length := by omega
      rw [List.drop_length]
      by_cases h : l.length < roomN ss
      · exact recs_no (hn h)
      · exact recs_end _ _ _ _ (by omega)
    | succ k ih =>
      intro i hi
      obtain ⟨h1, h2⟩ := hy i (by omega)
      rw [recs_yes (by omega) h1, ih (i + 1) (by omega), h2, drop_at l i ⟨#[]⟩ (by omega)]
  have := key l.length 0 (by omega)
  exact this
/-- what is found of a generation begins so -/
theorem recs_from (ss : List ByteArray) (g : Int) (l : List ByteArray) (hl : l.length ≤ roomN ss) (hy : ∀ j, j < l.length → isRecB (secA ss (recN ss g j)) g j = true ∧ pOf (secA ss (recN ss g j)) = l.getD j ⟨#[]⟩) :
    recL ss g = l ++ recsN ss g (roomN ss - l.length) l.length := by
  have key : ∀ k i, k + i = l.length → recsN ss g (roomN ss - i) i = l.drop i ++ recsN ss g (roomN ss - l.length) l.length := by
    intro k
    induction k with
    | zero =>
      intro i hi
      obtain rfl : i = l.length := by omega
      rw [List.drop_length]
      rfl
    | succ k ih =>
      intro i hi
      obtain ⟨h1, h2⟩ := hy i (by omega)
      rw [recs_yes (by omega) h1, ih (i + 1) (by omega), h2, drop_at l i ⟨#[]⟩ (by omega)]
      rfl
  have := key l.length 0 (by omega)
  exact this
theorem recsN_at (ss : List ByteArray) (g : Int) : ∀ k i j, j < (recsN ss g k i).length → isRecB (secA ss (recN ss g (i + j))) g (i + j) = true ∧ pOf (secA ss (recN ss g (i + j))) = (recsN ss g k i).getD j ⟨#[]⟩ := by
  intro k
  induction k with
  | zero => intro i j h; exact absurd h (by unfold recsN; simp)
  | succ k ih =>
    intro i j h
    unfold recsN at h ⊢
    by_cases hh : isRecB (secA ss (recN ss g i)) g i = true
    · rw [if_pos hh] at h ⊢
      cases j with
      | zero => exact ⟨hh, rfl⟩
      | succ j =>
        have := ih (i + 1) j (by simpa using h)
        rw [show i + (j + 1) = i + 1 + j by omega]
        exact this
    · rw [if_neg hh] at h
      exact absurd h (by simp)
theorem recsN_end (ss : List ByteArray) (g : Int) : ∀ k i, (recsN ss g k i).length ≤ k ∧ ((recsN ss g k i).length < k → isRecB (secA ss (recN ss g (i + (recsN ss g k i).length))) g (i + (recsN ss g k i).length) = false) := by
  intro k
  induction k with
  | zero => intro i; exact ⟨Nat.le_refl _, fun h => absurd h (by unfold recsN; simp)⟩
  | succ k ih =>
    intro i
    unfold recsN
    by_cases hh : isRecB (secA ss (recN ss g i)) g i = true
    · rw [if_pos hh]
      have := ih (i + 1)
      refine ⟨by simp; exact this.1, fun h => ?_⟩
      have h2 := this.2 (by simpa using h)
      rw [List.length_cons, show i + ((recsN ss g k (i + 1)).length + 1) = i + 1 + (recsN ss g k (i + 1)).length by omega]
      exact h2
    · rw [if_neg hh]
      exact ⟨by simp, fun _ => by simpa using hh⟩
theorem recs_at {ss : List ByteArray} {g : Int} {j : Nat} (h : j < (recL ss g).length) : isRecB (secA ss (recN ss g j)) g j = true ∧ pOf (secA ss (recN ss g j)) = (recL ss g).getD j ⟨#[]⟩ := by
  have := recsN_at ss g (roomN ss) 0 j h
  rw [Nat.zero_add] at this
  exact this
theorem recs_most (ss : List ByteArray) (g : Int) : (recL ss g).length ≤ roomN ss := (recsN_end ss g (roomN ss) 0).1
theorem recs_small {ss : List ByteArray} {g : Int} : ∀ p ∈ recL ss g, p.size ≤ 96 := by
  intro p hp
  obtain ⟨j, hj, rfl⟩ := List.getElem_of_mem hp
  obtain ⟨h1, h2⟩ := recs_at hj
  rw [List.getD_eq_getElem?_getD, List.getElem?_eq_getElem hj] at h2
  have h3 := (open_back ((isRec_iff _ _ _).1 h1).1).1.size
  rw [h2] at h3
  exact h3

/-- the generation that is found -/
def newZ (ss : List ByteArray) : Int := max (headZ (secA ss 0) 0) (headZ (secA ss 1) 1)
theorem headZ_le (t : ByteArray) (k : Nat) : headZ t k = 0 ∨ (headZ t k = gOf t ∧ headB t k = true) := by
  unfold headZ
  cases h : headB t k
  · left; simp
  · right; simp
theorem head_iff (t : ByteArray) (k : Nat) : headB t k = true ↔ openE t = 0 ∧ gOf t % 2 = (k : Int) ∧ nOf t = 0 ∧ pOf t = ⟨#[]⟩ := by
  unfold headB
  simp [and_assoc]
theorem headZ_bounds (t : ByteArray) (k : Nat) : 0 ≤ headZ t k ∧ headZ t k ≤ 250 := by
  rcases headZ_le t k with h | ⟨h, h2⟩
  · omega
  · have := (open_back ((head_iff t k).1 h2).1).1.bounds
    omega
theorem new_bounds (ss : List ByteArray) : 0 ≤ newZ ss ∧ newZ ss ≤ 250 := by
  have h1 := headZ_bounds (secA ss 0) 0
  have h2 := headZ_bounds (secA ss 1) 1
  unfold newZ
  omega
theorem headZ_area {t : ByteArray} {k : Nat} (h : headZ t k ≠ 0) : headZ t k % 2 = (k : Int) ∧ headZ t k = gOf t ∧ headB t k = true := by
  rcases headZ_le t k with e | ⟨e, e2⟩
  · exact absurd e h
  · exact ⟨by rw [e]; exact ((head_iff t k).1 e2).2.1, e, e2⟩
/-- the header that is found is that of its generation, and the other one is below it -/
theorem new_head {ss : List ByteArray} (h : newZ ss ≠ 0) : headZ (secA ss (hdN (newZ ss))) (hdN (newZ ss)) = newZ ss ∧ headZ (secA ss (1 - hdN (newZ ss))) (1 - hdN (newZ ss)) < newZ ss := by
  have b1 := headZ_bounds (secA ss 0) 0
  have b2 := headZ_bounds (secA ss 1) 1
  have hn := new_bounds ss
  by_cases c : headZ (secA ss 1) 1 ≤ headZ (secA ss 0) 0
  · have e : newZ ss = headZ (secA ss 0) 0 := by unfold newZ; omega
    have a := (headZ_area (t := secA ss 0) (k := 0) (by omega)).1
    have hd : hdN (newZ ss) = 0 := by unfold hdN; rw [e, a]; rfl
    refine ⟨by rw [hd, e], ?_⟩
    rw [hd, e]
    show headZ (secA ss 1) 1 < _
    by_cases z : headZ (secA ss 1) 1 = 0
    · omega
    · have a2 := (headZ_area (t := secA ss 1) (k := 1) z).1
      omega
  · have e : newZ ss = headZ (secA ss 1) 1 := by unfold newZ; omega
    have a := (headZ_area (t := secA ss 1) (k := 1) (by omega)).1
    have hd : hdN (newZ ss) = 1 := by unfold hdN; rw [e, a]; rfl
    refine ⟨by rw [hd, e], ?_⟩
    rw [hd, e]
    show headZ (secA ss 0) 0 < _
    omega
theorem new_is {ss : List ByteArray} {g : Int} (h : headZ (secA ss (hdN g)) (hdN g) = g) (h2 : headZ (secA ss (1 - hdN g)) (1 - hdN g) < g) : newZ ss = g := by
  have b := hd_lt g
  unfold newZ
  rcases (by omega : hdN g = 0 ∨ hdN g = 1) with e | e
  · rw [e] at h h2
    have h2' : headZ (secA ss 1) 1 < g := h2
    omega
  · rw [e] at h h2
    have h2' : headZ (secA ss 0) 0 < g := h2
    omega
theorem headZ_seal {g : Int} (h0 : 1 ≤ g) (h1 : g ≤ 250) : headZ (sealS g 0 ⟨#[]⟩) (hdN g) = g := by
  have F := fits_head h0 h1
  unfold headZ
  rw [if_pos, F.gen]
  rw [head_iff]
  exact ⟨F.opens, by rw [F.gen]; unfold hdN; omega, F.no, F.load⟩
theorem isRec_seal {g : Int} {i : Nat} {p : ByteArray} (F : Fits g (i + 1) p) : isRecB (sealS g (i + 1) p) g i = true ∧ pOf (sealS g (i + 1) p) = p := ⟨(isRec_iff _ _ _).2 ⟨F.opens, F.gen, F.no⟩, F.load⟩

/-- the greatest first byte -/
theorem top_ge (l : List ByteArray) (g : Int) : g ≤ topZ l g ∧ ∀ t ∈ l, gOf t ≤ 250 → gOf t ≤ topZ l g := by
  induction l generalizing g with
  | nil => exact ⟨Int.le_refl _, fun _ h => absurd h (by simp)⟩
  | cons a r ih =>
    unfold topZ
    have h := ih (if gOf a ≤ 250 then max g (gOf a) else g)
    constructor
    · have := h.1
      split at this <;> split <;> omega
    · intro t ht h5
      rcases List.mem_cons.1 ht with rfl | ht
      · have := h.1
        rw [if_pos h5] at this ⊢
        omega
      · exact h.2 t ht h5
theorem top_le (l : List ByteArray) (g t : Int) (hg : g ≤ t) (h : ∀ x ∈ l, gOf x ≤ 250 → gOf x ≤ t) : topZ l g ≤ t := by
  induction l generalizing g with
  | nil => exact hg
  | cons a r ih =>
    unfold topZ
    refine ih _ ?_ (fun x hx => h x (List.mem_cons_of_mem _ hx))
    have := h a (List.mem_cons_self ..)
    split
    · rename_i h5
      have := this h5
      omega
    · exact hg
theorem sec_mem {ss : List ByteArray} {i : Nat} (h : i < ss.length) : secA ss i ∈ ss := by
  unfold secA
  rw [List.getD_eq_getElem?_getD, List.getElem?_eq_getElem h]
  exact List.getElem_mem h
theorem mem_sec {ss : List ByteArray} {x : ByteArray} (h : x ∈ ss) : ∃ i, i < ss.length ∧ x = secA ss i := by
  obtain ⟨i, hi, rfl⟩ := List.getElem_of_mem h
  refine ⟨i, hi, ?_⟩
  unfold secA
  rw [List.getD_eq_getElem?_getD, List.getElem?_eq_getElem hi]
  rfl
end Go.Proofs.Ytmjbhmmcpjhmcaa
