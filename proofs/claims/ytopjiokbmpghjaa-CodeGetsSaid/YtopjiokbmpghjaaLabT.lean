/-
  The document's own answers: which labels and matchers may be, and whether two rows are the same.
-/
import Derived.Test.YtopjiokbmpghjaaLabR
namespace Go.Proofs.Ytopjiokbmpghjaa
open Go.RowKit Go.Shelf
set_option linter.unusedVariables false

/-- no text of it is long -/
def ShortL (l : List L2) : Prop := ∀ k, k < l.length → (l.getD k zL).1.size ≤ 9223372036854775807 ∧ (l.getD k zL).2.size ≤ 9223372036854775807
theorem posB_any {l : List L2} (h : l.any noneB = true) : posB l = false := by unfold posB; rw [h]; simp
theorem posB_len {l : List L2} (n : Nat) (hl : l.length = n) (h : l.any noneB = false) : posB l = (decide (1 ≤ n) && decide (n ≤ 3)) := by unfold posB; rw [h, hl]; simp
set_option maxRecDepth 100000 in
set_option maxHeartbeats 1600000 in
theorem refEach_any (oa : Option Addr) (n cap : Nat) (l : List L2) (w : World) (h : Ls w oa n cap l) (hn : n ≤ 4611686018427387904) (hS : ShortL l) :
    Calls Try.prog 51 #[.slice oa n cap] w fun e w' => e = .returned (.bool (posB l)) ∧ Below w.heap.size w w' := by
  have hl := h.len
  have hr := h.room
  have HS := Lib.hid hS
  clear hS
  go_enter Try.func51, Try.ntmps51
  go_wp2_with fail
  go_loopw [4, 7] (fun _ s7 wr => ∃ k : Nat, k ≤ n ∧ s7 = .int .i64 k ∧ Below w.heap.size w wr ∧ Hid ((l.take k).any noneB = false)) (fun _ s7 _ => n - (intOf s7).toNat)
  case atStart => exact ⟨0, Nat.zero_le _, rfl, Below.refl _ _, by show _ = _; simp⟩
  case round =>
    obtain ⟨k, hk, rfl, hB, HA⟩ := hrel
    by_cases hlt : k < n
    · obtain ⟨g, o, rfl, c0, c1⟩ := (h.below hB (Nat.le_refl _)).cell k hlt
      have HX := Lib.hid (any_next noneB l k (by omega) HA.out)
      have HN := Lib.hid (any_hit noneB l k (by omega))
      obtain ⟨z0, z1⟩ := HS.out k (by omega)
      generalize l.getD k zL = x at *
      obtain ⟨s, t⟩ := x
      dsimp only at c0 c1 z0 z1
      have HE : Hid (noneB (s, t) = (!nameB s || !valueB t)) := rfl
      have hB7 := hB.alloc hB.size (.cells #[.string s, .string t] 57)
      have e0 : (wr.alloc (.cells #[.string s, .string t] 57)).cell? ⟨wr.heap.size, 0, none⟩ = some (.string s) := by simp
      have e1 : (wr.alloc (.cells #[.string s, .string t] 57)).cell? ⟨wr.heap.size, 1, none⟩ = some (.string t) := by simp
      have hsz : (wr.alloc (.cells #[.string s, .string t] 57)).heap.size = wr.heap.size + 1 := by simp
      have HT := fun w => refName_any s (by omega) w
      have HU := fun w => refValue_any t (by omega) w
      cases ha : nameB s with
      | true =>
        have HT := fun w => ha ▸ HT w
        cases hb : valueB t with
        | true =>
          have HU := fun w => hb ▸ HU w
          have HY := Lib.hid (HX.out (by rw [HE.out, ha, hb]; rfl))
          clear HX HN HE ha hb h hl
          go_wp2_with fail
          generalize wr.alloc (.cells #[.string s, .string t] 57) = w7 at *
          refine (HT _).mono ?_
          rintro e w1 ⟨rfl, B1⟩
          have e1' : w1.cell? ⟨wr.heap.size, 1, none⟩ = some (.string t) := (B1.cell (p := ⟨wr.heap.size, 1, none⟩) (show wr.heap.size < _ by omega)).trans e1
          have B2 := hB7.trans (B1.mono hB7.size)
          clear B1
          go_wp2_with fail
          refine (HU _).mono ?_
          rintro e w2 ⟨rfl, B3⟩
          have B4 := B2.trans (B3.mono B2.size)
          clear B2 B3
          go_wp2_with fail
          go_roundw
          case rel => exact ⟨k + 1, by omega, by go_num, B4, HY.out⟩
          case measure => simp [intOf]; omega
        | false =>
          have HU := fun w => hb ▸ HU w
          have HY := Lib.hid (posB_any (HN.out (by rw [HE.out, ha, hb]; rfl)))
          clear HX HN HE ha hb h hl
          go_wp2_with fail
          generalize wr.alloc (.cells #[.string s, .string t] 57) = w7 at *
          refine (HT _).mono ?_
          rintro e w1 ⟨rfl, B1⟩
          have e1' : w1.cell? ⟨wr.heap.size, 1, none⟩ = some (.string t) := (B1.cell (p := ⟨wr.heap.size, 1, none⟩) (show wr.heap.size < _ by omega)).trans e1
          have B2 := hB7.trans (B1.mono hB7.size)
          clear B1
          go_wp2_with fail
          refine (HU _).mono ?_
          rintro e w2 ⟨rfl, B3⟩
          have B4 := B2.trans (B3.mono B2.size)
          clear B2 B3
          go_wp2_with fail
          go_ret
          exact ⟨retB HY.out.symm, B4⟩
      | false =>
        have HT := fun w => ha ▸ HT w
        have HY := Lib.hid (posB_any (HN.out (by rw [HE.out, ha]; rfl)))
        clear HX HN HE ha h hl HU
        go_wp2_with fail
        generalize wr.alloc (.cells #[.string s, .string t] 57) = w7 at *
        refine (HT _).mono ?_
        rintro e w1 ⟨rfl, B1⟩
        have B2 := hB7.trans (B1.mono hB7.size)
        clear B1
        go_wp2_with fail
        go_ret
        exact ⟨retB HY.out.symm, B2⟩
    · obtain rfl : k = n := by omega
      have HF : Hid (posB l = (decide (1 ≤ k) && decide (k ≤ 3))) := by
        have h := HA.out
        rw [List.take_of_length_le (by omega)] at h
        exact posB_len k hl h
      clear HA hl h
      by_cases h1 : 1 ≤ k
      · go_wp2_with fail
        all_goals go_ret
        all_goals exact ⟨retB (by rw [HF.out, Bool.eq_iff_iff]; simp; omega), hB⟩
      · go_wp2_with fail
        go_ret
        exact ⟨retB (by rw [HF.out, Bool.eq_iff_iff]; simp; omega), hB⟩
end Go.Proofs.Ytopjiokbmpghjaa
