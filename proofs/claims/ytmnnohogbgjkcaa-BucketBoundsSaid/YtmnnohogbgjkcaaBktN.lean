/-
  Buckets: plain numbers. What filling makes of Have and At; filled on the way it is as filled at once; what a bucket holds never grows beyond the time.
-/
namespace Go.Proofs.Ytmnnohogbgjkcaa
set_option linter.unusedVariables false

namespace Bkt
/-- which buckets may be -/
structure Bk (B E H T : Int) : Prop where
  b1 : 1 ≤ B
  b2 : B ≤ 100
  e1 : 1 ≤ E
  e2 : E ≤ 1048576
  h1 : 0 ≤ H
  h2 : H ≤ B
  t1 : 0 ≤ T
  t2 : T ≤ 1099511627776
/-- how many there are when it is filled -/
def fH (B E H T now : Int) : Int := if B ≤ H + (now - T) / E then B else H + (now - T) / E
/-- from when on ticks count then -/
def fT (B E H T now : Int) : Int := if B ≤ H + (now - T) / E then now else T + (now - T) / E * E

theorem div_nn {x E : Int} (h0 : 0 ≤ x) (hE : 1 ≤ E) : 0 ≤ x / E := Int.ediv_nonneg h0 (by omega)
theorem div_low {x E : Int} (hE : 1 ≤ E) : x / E * E ≤ x := Int.ediv_mul_le x (by omega)
theorem div_high {x E : Int} (hE : 1 ≤ E) : x < x / E * E + E := by
  have := Int.lt_ediv_add_one_mul_self x (show 0 < E by omega)
  rw [Int.add_mul, Int.one_mul] at this
  exact this
theorem div_le {x E : Int} (h0 : 0 ≤ x) (hE : 1 ≤ E) : x / E ≤ x := Int.ediv_le_self E h0
theorem mul_nn {n E : Int} (h0 : 0 ≤ n) (hE : 1 ≤ E) : 0 ≤ n * E := Int.mul_nonneg h0 (by omega)

theorem fill_right {B E H T now : Int} (h : Bk B E H T) (h0 : T ≤ now) (h1 : now ≤ 1099511627776) : Bk B E (fH B E H T now) (fT B E H T now) ∧ fT B E H T now ≤ now := by
  obtain ⟨b1, b2, e1, e2, H1, H2, t1, t2⟩ := h
  have n0 := div_nn (x := now - T) (by omega) e1
  have l := div_low (x := now - T) e1
  have p := mul_nn n0 e1
  unfold fH fT
  generalize (now - T) / E * E = P at *
  generalize (now - T) / E = n at *
  split
  · exact ⟨⟨by omega, by omega, by omega, by omega, by omega, by omega, by omega, by omega⟩, by omega⟩
  · exact ⟨⟨by omega, by omega, by omega, by omega, by omega, by omega, by omega, by omega⟩, by omega⟩
/-- filling never lays more on -/
theorem fill_phi {B E H T now : Int} (h : Bk B E H T) (h0 : T ≤ now) : fH B E H T now * E - fT B E H T now ≤ H * E - T := by
  have l := div_low (x := now - T) h.e1
  unfold fH fT
  split
  · rename_i hc
    have := Int.mul_le_mul_of_nonneg_right hc (show 0 ≤ E by have := h.e1; omega)
    rw [Int.add_mul] at this
    omega
  · rw [Int.add_mul]
    omega
/-- what is filled at a time holds no more than a whole one then -/
theorem fill_top {B E H T now : Int} (h : Bk B E H T) (h0 : T ≤ now) : fH B E H T now * E - fT B E H T now ≤ B * E - now := by
  have l := div_high (x := now - T) h.e1
  unfold fH fT
  split
  · omega
  · rename_i hc
    have := Int.mul_le_mul_of_nonneg_right (show H + (now - T) / E + 1 ≤ B by omega) (show 0 ≤ E by have := h.e1; omega)
    rw [Int.add_mul, Int.add_mul, Int.one_mul] at this
    rw [Int.add_mul]
    omega
theorem part_div {T a b E : Int} (hE : 1 ≤ E) : (b - (T + (a - T) / E * E)) / E = (b - T) / E - (a - T) / E := by
  have : b - (T + (a - T) / E * E) = (b - T) - (a - T) / E * E := by omega
  rw [this, Int.sub_mul_ediv_right _ _ (by omega)]
theorem div_mono {x y E : Int} (h : x ≤ y) (hE : 1 ≤ E) : x / E ≤ y / E := Int.ediv_le_ediv (by omega) h
/-- filled on the way it is as filled at once -/
theorem fill_twice {B E H T a b : Int} (h : Bk B E H T) (h0 : T ≤ a) (h1 : a ≤ b) :
    fH B E (fH B E H T a) (fT B E H T a) b = fH B E H T b ∧ fT B E (fH B E H T a) (fT B E H T a) b = fT B E H T b := by
  have e1 := h.e1
  have m := div_mono (x := a - T) (y := b - T) (by omega) e1
  by_cases hc : B ≤ H + (a - T) / E
  · have hH : fH B E H T a = B := by unfold fH; rw [if_pos hc]
    have hT : fT B E H T a = a := by unfold fT; rw [if_pos hc]
    rw [hH, hT]
    have n := div_nn (x := b - a) (by omega) e1
    unfold fH fT
    rw [if_pos (by omega), if_pos (by omega), if_pos (by omega), if_pos (by omega)]
    exact ⟨rfl, rfl⟩
  · have hH : fH B E H T a = H + (a - T) / E := by unfold fH; rw [if_neg hc]
    have hT : fT B E H T a = T + (a - T) / E * E := by unfold fT; rw [if_neg hc]
    rw [hH, hT]
    unfold fH fT
    rw [part_div e1]
    have e : H + (a - T) / E + ((b - T) / E - (a - T) / E) = H + (b - T) / E := by omega
    rw [e]
    split
    · exact ⟨rfl, rfl⟩
    · refine ⟨rfl, ?_⟩
      rw [Int.sub_mul]
      omega
theorem fill_same {B E H T b : Int} (h : Bk B E H T) (h0 : T ≤ b) :
    fH B E (fH B E H T b) (fT B E H T b) b = fH B E H T b ∧ fT B E (fH B E H T b) (fT B E H T b) b = fT B E H T b := fill_twice h h0 (Int.le_refl _)
/-- an empty one that is filled has been waiting for less than Every -/
theorem empty_wait {B E H T a : Int} (h : Bk B E H T) (h0 : T ≤ a) (hz : fH B E H T a = 0) : a < fT B E H T a + E := by
  have b1 := h.b1
  have l := div_high (x := a - T) h.e1
  unfold fH at hz
  unfold fT
  split at hz
  · omega
  · rename_i hc
    rw [if_neg hc]
    omega
/-- an empty one holds one when Every is over, and none ahead of that -/
theorem empty_next {B E T k : Int} (hB : 1 ≤ B) (hE : 1 ≤ E) (h0 : T ≤ k) : (0 < fH B E 0 T k) ↔ T + E ≤ k := by
  have n0 := div_nn (x := k - T) (by omega) hE
  have e : 1 ≤ (k - T) / E ↔ 1 * E ≤ k - T := Int.le_ediv_iff_mul_le (by omega)
  rw [Int.one_mul] at e
  unfold fH
  split
  · omega
  · omega
/-- one that holds some holds some later -/
theorem some_later {B E H T k : Int} (hB : 1 ≤ B) (hE : 1 ≤ E) (hH : 0 < H) (h0 : T ≤ k) : 0 < fH B E H T k := by
  have n0 := div_nn (x := k - T) (by omega) hE
  unfold fH
  split <;> omega

/-- at these times so many are taken as may be -/
def Good (B E : Int) (ts : List Int) (T : Int) : Prop :=
  ∀ i k : Nat, i ≤ k → k < ts.length → 0 ≤ ts.getD i 0 ∧ ts.getD i 0 ≤ ts.getD k 0 ∧ ts.getD k 0 ≤ T ∧ ((k : Int) - i + 1) * E ≤ B * E + (ts.getD k 0 - ts.getD i 0)
/-- what is left to be taken behind each of these -/
def Pot (B E H Tb : Int) (ts : List Int) : Prop :=
  ∀ i : Nat, i < ts.length → H * E - Tb ≤ B * E - ts.getD i 0 - ((ts.length : Int) - i) * E
theorem good_nil (B E T : Int) : Good B E [] T := fun i k _ hk => absurd hk (by simp)
theorem pot_nil (B E H Tb : Int) : Pot B E H Tb [] := fun i hi => absurd hi (by simp)
theorem good_later {B E T T' : Int} {ts : List Int} (h : Good B E ts T) (hT : T ≤ T') : Good B E ts T' := by
  intro i k hi hk
  obtain ⟨h1, h2, h3, h4⟩ := h i k hi hk
  exact ⟨h1, h2, by omega, h4⟩
theorem pot_less {B E H Tb H' Tb' : Int} {ts : List Int} (h : Pot B E H Tb ts) (hp : H' * E - Tb' ≤ H * E - Tb) : Pot B E H' Tb' ts := by
  intro i hi
  have := h i hi
  omega
theorem getD_old (ts : List Int) (t : Int) (i : Nat) (h : i < ts.length) : (ts ++ [t]).getD i 0 = ts.getD i 0 := by
  rw [List.getD_eq_getElem?_getD, List.getD_eq_getElem?_getD, List.getElem?_append_left h]
theorem getD_new (ts : List Int) (t : Int) : (ts ++ [t]).getD ts.length 0 = t := by
  rw [List.getD_eq_getElem?_getD, List.getElem?_append_right (Nat.le_refl _)]
  simp
/-- one more taken -/
theorem pot_next {B E H Tb now : Int} {ts : List Int} (h : Pot B E H Tb ts) (ht : H * E - Tb ≤ B * E - now) : Pot B E (H - 1) Tb (ts ++ [now]) := by
  intro i hi
  rw [List.length_append, List.length_singleton] at hi ⊢
  rw [Int.sub_mul, Int.one_mul]
  by_cases he : i < ts.length
  · rw [getD_old _ _ _ he]
    have := h i he
    have e : ((ts.length + 1 : Nat) : Int) - i = ((ts.length : Int) - i) + 1 := by omega
    rw [e, Int.add_mul, Int.one_mul]
    omega
  · obtain rfl : i = ts.length := by omega
    rw [getD_new]
    have e : ((ts.length + 1 : Nat) : Int) - ts.length = 1 := by omega
    rw [e, Int.one_mul]
    omega
theorem good_next {B E H Tb now : Int} {ts : List Int} (hG : Good B E ts now) (h : Pot B E H Tb ts) (ht : H * E - Tb ≤ B * E - now) (hH : 1 ≤ H) (hE : 1 ≤ E) (hT : Tb ≤ now) (hn : 0 ≤ now) (hB : 1 ≤ B) : Good B E (ts ++ [now]) now := by
  intro i k hi hk
  rw [List.length_append, List.length_singleton] at hk
  by_cases he : k < ts.length
  · rw [getD_old _ _ _ he, getD_old _ _ _ (by omega)]
    exact hG i k hi he
  · obtain rfl : k = ts.length := by omega
    rw [getD_new]
    by_cases hl : i < ts.length
    · rw [getD_old _ _ _ hl]
      obtain ⟨g1, g2, g3, g4⟩ := hG i i (Nat.le_refl _) hl
      have hp := h i hl
      have hm := Int.mul_le_mul_of_nonneg_right hH (show 0 ≤ E by omega)
      rw [Int.one_mul] at hm
      refine ⟨g1, g3, Int.le_refl _, ?_⟩
      rw [Int.add_mul, Int.one_mul]
      omega
    · obtain rfl : i = ts.length := by omega
      rw [getD_new]
      have hm := Int.mul_le_mul_of_nonneg_right hB (show 0 ≤ E by omega)
      refine ⟨hn, Int.le_refl _, Int.le_refl _, ?_⟩
      have e : (ts.length : Int) - ts.length + 1 = 1 := by omega
      rw [e]
      omega
/-- as the law asks it -/
theorem good_law {B E T : Int} {ts : List Int} (h : Good B E ts T) (hE : 1 ≤ E) {i k : Nat} (hi : i ≤ k) (hk : k < ts.length) :
    (k : Int) - i + 1 ≤ B + (ts.getD k 0 - ts.getD i 0) / E := by
  obtain ⟨h1, h2, h3, h4⟩ := h i k hi hk
  have := (Int.le_ediv_iff_mul_le (a := (k : Int) - i + 1 - B) (b := ts.getD k 0 - ts.getD i 0) (c := E) (by omega)).2 (by rw [Int.sub_mul]; omega)
  omega
end Bkt
end Go.Proofs.Ytmnnohogbgjkcaa
