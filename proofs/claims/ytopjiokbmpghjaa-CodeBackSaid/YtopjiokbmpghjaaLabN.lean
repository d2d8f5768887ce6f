/-
  Matchers in memory, and which may be.
-/
import Derived.Test.YtopjiokbmpghjaaLabD
namespace Go.Proofs.Ytopjiokbmpghjaa
open Go.RowKit Go.Shelf
set_option linter.unusedVariables false

/-- a matcher: its kind, its name and its value -/
abbrev M3 := Int × ByteArray × ByteArray
abbrev zM : M3 := (0, ByteArray.empty, ByteArray.empty)
abbrev aggM (m : M3) : Value := .agg #[.int .i64 m.1, .string m.2.1, .string m.2.2]
/-- the matchers l lie at a slice of length n -/
structure Ms (w : World) (oa : Option Addr) (n cap : Nat) (l : List M3) : Prop where
  len : l.length = n
  room : n ≤ cap
  cell : ∀ i, i < n → ∃ g o, oa = some ⟨g, o, none⟩ ∧ w.cell? ⟨g, o + i * 3, none⟩ = some (.int .i64 (l.getD i zM).1) ∧ w.cell? ⟨g, o + i * 3 + 1, none⟩ = some (.string (l.getD i zM).2.1) ∧ w.cell? ⟨g, o + i * 3 + 2, none⟩ = some (.string (l.getD i zM).2.2)

theorem Ms.below {w w' : World} {oa : Option Addr} {n cap : Nat} {l : List M3} (h : Ms w oa n cap l) {C : Nat} (hB : Below C w w') (hC : w.heap.size ≤ C) : Ms w' oa n cap l := by
  refine ⟨h.len, h.room, fun i hi => ?_⟩
  obtain ⟨g, o, hg, hc, hc', hc2⟩ := h.cell i hi
  have := World.block_lt_of_cell? w _ hc
  exact ⟨g, o, hg, (hB.cell (p := ⟨g, o + i * 3, none⟩) (Nat.lt_of_lt_of_le this hC)).trans hc, (hB.cell (p := ⟨g, o + i * 3 + 1, none⟩) (Nat.lt_of_lt_of_le this hC)).trans hc', (hB.cell (p := ⟨g, o + i * 3 + 2, none⟩) (Nat.lt_of_lt_of_le this hC)).trans hc2⟩
theorem Ms.nil (w : World) (cap : Nat) (oa : Option Addr) : Ms w oa 0 cap [] := ⟨rfl, Nat.zero_le _, fun i hi => absurd hi (by omega)⟩
theorem Ms.take {w : World} {oa : Option Addr} {n cap i : Nat} {l : List M3} (h : Ms w oa n cap l) (hi : i ≤ n) : Ms w oa i cap (l.take i) := by
  refine ⟨by rw [List.length_take, h.len]; omega, by have := h.room; omega, fun j hj => ?_⟩
  obtain ⟨g, o, e, h1, h2, h3⟩ := h.cell j (by omega)
  refine ⟨g, o, e, ?_, ?_, ?_⟩
  · rw [h1, List.getD_eq_getElem?_getD, List.getD_eq_getElem?_getD, List.getElem?_take_of_lt hj]
  · rw [h2, List.getD_eq_getElem?_getD, List.getD_eq_getElem?_getD, List.getElem?_take_of_lt hj]
  · rw [h3, List.getD_eq_getElem?_getD, List.getD_eq_getElem?_getD, List.getElem?_take_of_lt hj]
theorem getD_M (l : List M3) (k : Nat) (hk : k < l.length) : l.getD k zM = l[k] := by
  rw [List.getD_eq_getElem?_getD, List.getElem?_eq_getElem hk]; rfl
theorem takeM_next (l : List M3) (k : Nat) (hk : k < l.length) : l.take (k + 1) = l.take k ++ [l.getD k zM] := by
  rw [List.take_succ_eq_append_getElem hk, getD_M l k hk]
theorem anyM_next (p : M3 → Bool) (l : List M3) (k : Nat) (hk : k < l.length) (h : (l.take k).any p = false) (hs : p (l.getD k zM) = false) : (l.take (k + 1)).any p = false := by
  rw [takeM_next l k hk, List.any_append, h]
  simpa using hs
theorem anyM_hit (p : M3 → Bool) (l : List M3) (k : Nat) (hk : k < l.length) (hs : p (l.getD k zM) = true) : l.any p = true := by
  rw [getD_M l k hk] at hs
  rw [List.any_eq_true]
  exact ⟨l[k], List.getElem_mem _, hs⟩

/-- which matcher may be -/
def matB (m : M3) : Bool := decide (0 ≤ m.1) && decide (m.1 ≤ 3) && nameB m.2.1 && valueB m.2.2 && (!decide (m.1 = 3) || (m.2.2.toList == []))
theorem valueB_nil {t : ByteArray} (h : t.toList = []) : valueB t = true := by
  have : t = ByteArray.empty := toList_inj (h.trans (by simp [ByteArray.toList_eq]))
  subst this
  rfl
theorem matB_three (s t : ByteArray) : matB (3, s, t) = (nameB s && (t.toList == [])) := by
  unfold matB
  cases h : t.toList == [] with
  | true => rw [valueB_nil (by simpa using h)]; simp
  | false => simp
theorem matB_less (k : Int) (s t : ByteArray) (h : k = 0 ∨ k = 1 ∨ k = 2) : matB (k, s, t) = (nameB s && valueB t) := by
  unfold matB
  rcases h with rfl | rfl | rfl <;> simp
theorem matB_no (k : Int) (s t : ByteArray) (h0 : k ≠ 0) (h1 : k ≠ 1) (h2 : k ≠ 2) (h3 : k ≠ 3) : matB (k, s, t) = false := by
  unfold matB
  have : (decide (0 ≤ k) && decide (k ≤ 3)) = false := by simp; omega
  simp only
  rw [this]
  simp

set_option maxRecDepth 100000 in
set_option maxHeartbeats 4000000 in
theorem mat_any (m : M3) (w : World) :
    Calls Try.prog 80 #[aggM m] w fun e w' => e = .returned (.bool (matB m)) ∧ Below w.heap.size w w' := by
  obtain ⟨k, s, t⟩ := m
  have hB := fun o => (Below.refl _ w).alloc (Nat.le_refl w.heap.size) o
  have HT := fun w => name_any s w
  have HU := fun w => value_any t w
  dsimp only [aggM]
  by_cases h3 : k = 3
  · subst h3
    have HN := Lib.hid (matB_three s t)
    generalize nameB s = a at *
    cases a with
    | true =>
      go_enter Try.func80, Try.ntmps80
      go_wp2_with fail
      refine (HT _).mono ?_
      rintro e w1 ⟨rfl, B1⟩
      have c2 : w1.cell? ⟨w.heap.size, 2, none⟩ = some (.string t) := (B1.cell (by simp)).trans (by simp)
      go_wp2_with fail
      go_ret
      exact ⟨retB (by rw [HN.out]; simp), (hB _).trans (B1.mono (by simp))⟩
    | false =>
      go_enter Try.func80, Try.ntmps80
      go_wp2_with fail
      refine (HT _).mono ?_
      rintro e w1 ⟨rfl, B1⟩
      go_wp2_with fail
      go_ret
      exact ⟨retB (by rw [HN.out]; simp), (hB _).trans (B1.mono (by simp))⟩
  · by_cases hs : k = 0 ∨ k = 1 ∨ k = 2
    · have HN := Lib.hid (matB_less k s t hs)
      generalize nameB s = a at *
      generalize valueB t = b at *
      rcases hs with rfl | rfl | rfl
      all_goals (cases a with
      | true =>
        go_enter Try.func80, Try.ntmps80
        go_wp2_with fail
        refine (HT _).mono ?_
        rintro e w1 ⟨rfl, B1⟩
        have c2 : w1.cell? ⟨w.heap.size, 2, none⟩ = some (.string t) := (B1.cell (by simp)).trans (by simp)
        go_wp2_with fail
        refine (HU _).mono ?_
        rintro e w2 ⟨rfl, B2⟩
        go_wp2_with fail
        go_ret
        exact ⟨retB (by rw [HN.out]; simp), (hB _).trans ((B1.mono (by simp)).trans (B2.mono (by have := B1.size; simp at this; omega)))⟩
      | false =>
        go_enter Try.func80, Try.ntmps80
        go_wp2_with fail
        refine (HT _).mono ?_
        rintro e w1 ⟨rfl, B1⟩
        go_wp2_with fail
        go_ret
        exact ⟨retB (by rw [HN.out]; simp), (hB _).trans (B1.mono (by simp))⟩)
    · have hs0 : (k == 0) = false := by simp; omega
      have hs1 : (k == 1) = false := by simp; omega
      have hs2 : (k == 2) = false := by simp; omega
      have hs3 : (k == 3) = false := by simp; omega
      have HN := Lib.hid (matB_no k s t (by omega) (by omega) (by omega) (by omega))
      clear HT HU hs h3
      go_enter Try.func80, Try.ntmps80
      go_wp2_with fail
      go_ret
      exact ⟨retB HN.out.symm, hB _⟩
/-- which matchers may be -/
def matsB (l : List M3) : Bool := decide (l.length ≤ 4) && !l.any fun m => !matB m
end Go.Proofs.Ytopjiokbmpghjaa
