/-
  The document's own: rows of labels, and of matchers, that are the same.
-/
import Derived.Test.YtkckdombcnifnaaMatE
import Derived.Deep.QuietTactic
import Derived.BigQuiet
namespace Go.Proofs.Ytkckdombcnifnaa
open Go.RowKit Go.Shelf
set_option linter.unusedVariables false

set_option maxRecDepth 100000 in
set_option maxHeartbeats 1600000 in
theorem asked_any (oa : Option Addr) (n cap : Nat) (ob : Option Addr) (n' cap' : Nat) (l : List M3) (w : World) (h : Ms w oa n cap l) (h' : Ms w ob n' cap' l) (hn : n ≤ 3074457345618258602) :
    Calls Try.prog 53 #[.slice oa n cap, .slice ob n' cap'] w fun e w' => e = .returned (.bool true) ∧ Below w.heap.size w w' := by
  have hl := h.len
  have hr := h.room
  have hr' := h'.room
  obtain rfl : n = n' := by rw [← h.len, h'.len]
  have hq := fun (k : Int) (s t : ByteArray) (w : World) => neqM_same k s t w
  go_enter Try.func53, Try.ntmps53
  go_wp2_with fail
  go_loopw [5, 13] (fun _ s13 wr => ∃ k : Nat, k ≤ n ∧ s13 = .int .i64 k ∧ Below w.heap.size w wr) (fun _ s13 _ => n - (intOf s13).toNat)
  case atStart => exact ⟨0, Nat.zero_le _, rfl, Below.refl _ _⟩
  case round =>
    obtain ⟨k, hk, rfl, hB⟩ := hrel
    by_cases hlt : k < n
    · obtain ⟨g, o, rfl, c0, c1, c2⟩ := (h.below hB (Nat.le_refl _)).cell k hlt
      obtain ⟨g', o', rfl, d0, d1, d2⟩ := (h'.below hB (Nat.le_refl _)).cell k hlt
      generalize l.getD k zM = x at *
      obtain ⟨q, s, t⟩ := x
      dsimp only at c0 c1 c2 d0 d1 d2
      clear h h' hl
      go_wp2_with fail
      go_quiet (fail)
      go_wp2_with fail
      go_roundw
      case rel => exact ⟨k + 1, by omega, by go_num, belowN hB _⟩
      case measure => simp [intOf]; omega
    · obtain rfl : k = n := by omega
      clear h h' hl hq
      go_wp2_with fail
      go_ret
      exact ⟨rfl, hB⟩
end Go.Proofs.Ytkckdombcnifnaa
