/-
  Which matchers may be, all of a row: the first that may not.
-/
import Derived.Test.YtaiacohnhhicpaaMatF
namespace Go.Proofs.Ytaiacohnhhicpaa
open Go.RowKit Go.Shelf
set_option linter.unusedVariables false

set_option maxRecDepth 100000 in
set_option maxHeartbeats 800000 in
theorem noMat_any (m : M3) (w : World) :
    Calls Try.prog 85 #[aggM m] w fun e w' => e = .returned (.bool (!matB m)) ∧ Below w.heap.size w w' := by
  obtain ⟨k, s, t⟩ := m
  have hB := fun o => (Below.refl _ w).alloc (Nat.le_refl w.heap.size) o
  have HT := fun w => mat_any (k, s, t) w
  dsimp only [aggM] at *
  generalize matB (k, s, t) = b at *
  go_enter Try.func85, Try.ntmps85
  go_wp2_with fail
  refine (HT _).mono ?_
  rintro e w1 ⟨rfl, B1⟩
  go_wp2_with fail
  go_ret
  exact ⟨rfl, (hB _).trans (B1.mono (by simp))⟩

theorem enter_noMat : ∀ args w, (callFunc 85 args).run Try.prog w = .ok (.enter 85 args) w := enters_of Try.func85 (by kernel_rfl) rfl
theorem tells_noMat (w : World) : TellsM w 85 #[] (fun m => !matB m) := fun x b W hb _ => by subst hb; exact noMat_any x W
set_option maxRecDepth 100000 in
set_option maxHeartbeats 800000 in
theorem mats_any (oa : Option Addr) (n cap : Nat) (l : List M3) (w : World) (h : Ms w oa n cap l) (hn : n ≤ 9223372036854775807) :
    Calls Try.prog 71 #[.slice oa n cap] w fun e w' => e = .returned (.bool (matsB l)) ∧ Below w.heap.size w w' := by
  have hl := h.len
  have HP : Hid (matsB l = (decide (n ≤ 4) && !l.any fun m => !matB m)) := by show _ = _; rw [← hl]; rfl
  by_cases h3 : n ≤ 4
  · have hc := contM_any _ #[] _ oa n cap l w h hn (tells_noMat w) enter_noMat
    generalize (l.any fun m => !matB m) = b at *
    clear h hl
    go_enter Try.func71, Try.ntmps71
    go_wp2_with fail
    refine hc.mono ?_
    rintro e w' ⟨rfl, B⟩
    go_wp2_with fail
    go_ret
    exact ⟨retB (by rw [HP.out]; simp [h3]), B⟩
  · clear h hl
    go_enter Try.func71, Try.ntmps71
    go_wp2_with fail
    go_ret
    exact ⟨retB (by rw [HP.out]; simp [h3]), Below.refl _ _⟩
end Go.Proofs.Ytaiacohnhhicpaa
