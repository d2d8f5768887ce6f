/-
  The document's own answer: which matchers may be.
-/
import Derived.Test.YtopjiokbmpghjaaRefMat
namespace Go.Proofs.Ytopjiokbmpghjaa
open Go.RowKit Go.Shelf
set_option linter.unusedVariables false

def ShortM (l : List M3) : Prop := ∀ k, k < l.length → (l.getD k zM).2.1.size ≤ 4611686018427387904 ∧ (l.getD k zM).2.2.size ≤ 4611686018427387904
theorem matsB_any {l : List M3} (h : l.any (fun m => !matB m) = true) : matsB l = false := by unfold matsB; rw [h]; simp
theorem matsB_len {l : List M3} (n : Nat) (hl : l.length = n) (h : l.any (fun m => !matB m) = false) : matsB l = decide (n ≤ 4) := by unfold matsB; rw [h, hl]; simp
set_option maxRecDepth 100000 in
set_option maxHeartbeats 1600000 in
theorem refMatchers_any (oa : Option Addr) (n cap : Nat) (l : List M3) (w : World) (h : Ms w oa n cap l) (hn : n ≤ 3074457345618258602) (hS : ShortM l) :
    Calls Try.prog 52 #[.slice oa n cap] w fun e w' => e = .returned (.bool (matsB l)) ∧ Below w.heap.size w w' := by
  have hl := h.len
  have hr := h.room
  have HS := Lib.hid hS
  clear hS
  go_enter Try.func52, Try.ntmps52
  go_wp2_with fail
  go_loopw [4, 7] (fun _ s7 wr => ∃ k : Nat, k ≤ n ∧ s7 = .int .i64 k ∧ Below w.heap.size w wr ∧ Hid ((l.take k).any (fun m => !matB m) = false)) (fun _ s7 _ => n - (intOf s7).toNat)
  case atStart => exact ⟨0, Nat.zero_le _, rfl, Below.refl _ _, by show _ = _; simp⟩
  case round =>
    obtain ⟨k, hk, rfl, hB, HA⟩ := hrel
    by_cases hlt : k < n
    · obtain ⟨g, o, rfl, c0, c1, c2⟩ := (h.below hB (Nat.le_refl _)).cell k hlt
      have HX := Lib.hid (anyM_next (fun m => !matB m) l k (by omega) HA.out)
      have HN := Lib.hid (anyM_hit (fun m => !matB m) l k (by omega))
      have HT := fun w => refMatcher_any (l.getD k zM) (HS.out k (by omega)) w
      generalize l.getD k zM = x at *
      obtain ⟨q, s, t⟩ := x
      dsimp only [aggM] at c0 c1 c2 HT
      have hB7 := hB.alloc hB.size (.cells #[.int .i64 q, .string s, .string t] 45)
      cases hb : matB (q, s, t) with
      | true =>
        have HT := fun w => hb ▸ HT w
        have HY := Lib.hid (HX.out (by rw [hb]; rfl))
        clear HX HN hb h hl
        go_wp2_with fail
        refine (HT _).mono ?_
        rintro e w1 ⟨rfl, B1⟩
        go_wp2_with fail
        go_roundw
        case rel => exact ⟨k + 1, by omega, by go_num, hB7.trans (B1.mono hB7.size), HY.out⟩
        case measure => simp [intOf]; omega
      | false =>
        have HT := fun w => hb ▸ HT w
        have HY := Lib.hid (matsB_any (HN.out (by rw [hb]; rfl)))
        clear HX HN hb h hl
        go_wp2_with fail
        refine (HT _).mono ?_
        rintro e w1 ⟨rfl, B1⟩
        go_wp2_with fail
        go_ret
        exact ⟨retB HY.out.symm, hB7.trans (B1.mono hB7.size)⟩
    · obtain rfl : k = n := by omega
      have HF : Hid (matsB l = decide (k ≤ 4)) := by
        have h := HA.out
        rw [List.take_of_length_le (by omega)] at h
        exact matsB_len k hl h
      clear HA hl h
      go_wp2_with fail
      go_ret
      exact ⟨retB (by rw [HF.out, Bool.eq_iff_iff]; simp; omega), hB⟩
end Go.Proofs.Ytopjiokbmpghjaa
