/-
  The document's own: what a matcher, and a message, is printed as, and which hush may be.
-/
import Derived.Test.YtbihaoibmkdfjaaGreatDoorWirZ
import Derived.Test.YtbihaoibmkdfjaaGreatDoorRfM
import Derived.Deep.RegionHeld3
import Derived.Deep.DeepCutAuto
import Derived.Deep.CutBlock
import Derived.RegionTactic
import Derived.StillTailTactics
import Derived.Deep.RegionLaw
import Derived.BigRegion
import Derived.Deep.QuietTactic
import Derived.BigQuiet
namespace Go.Proofs.YtbihaoibmkdfjaaGreatDoor
open Go.RowKit Go.Shelf
set_option linter.unusedVariables false

set_option maxRecDepth 100000 in
set_option maxHeartbeats 1600000 in
theorem refAsk_any (m : M3) (hm : 0 ≤ m.1 ∧ m.1 ≤ 3) (hz : m.2.1.size ≤ 1000 ∧ m.2.2.size ≤ 1000) (w : World) :
    Calls Tryz.prog 34 #[aggM m] w fun e w' => e = .returned (.string (tx (askB m))) ∧ Below w.heap.size w w' := by
  obtain ⟨q, s, t⟩ := m
  have HA := Lib.hid (ask_text (q, s, t))
  obtain ⟨k, rfl⟩ : ∃ k : Nat, q = (k : Int) := ⟨q.toNat, by have := hm.1; dsimp only at this; omega⟩
  have hk : k < 4 := by have := hm.2; dsimp only at this; omega
  have z1 : s.size ≤ 1000 := hz.1
  have z2 : t.size ≤ 1000 := hz.2
  clear hm hz
  have z3 : (tx [signC (k : Int)]).size = 1 := by rw [tx_size]; rfl
  have HS := fun w => refSign_any k hk w
  dsimp only at HA
  generalize tx [signC (k : Int)] = g at *
  dsimp only [aggM]
  have B1 := below_alloc w (.cells #[.int .i64 (k : Int), .string s, .string t] 59)
  go_enter Tryz.func34, Tryz.ntmps34
  go_wp2_with fail
  have c0 : (w.alloc (.cells #[.int .i64 (k : Int), .string s, .string t] 59)).cell? ⟨w.heap.size, 0, none⟩ = some (.int .i64 (k : Int)) := by simp
  have c1 : (w.alloc (.cells #[.int .i64 (k : Int), .string s, .string t] 59)).cell? ⟨w.heap.size, 1, none⟩ = some (.string s) := by simp
  have c2 : (w.alloc (.cells #[.int .i64 (k : Int), .string s, .string t] 59)).cell? ⟨w.heap.size, 2, none⟩ = some (.string t) := by simp
  generalize w.alloc (.cells #[.int .i64 (k : Int), .string s, .string t] 59) = w1 at *
  go_quiet ((go_at_call 57; refine Calls.quiet_of_same (HS _)))
  go_wp2_with fail
  go_ret
  exact ⟨retS HA.out.symm, belowN B1 _⟩
end Go.Proofs.YtbihaoibmkdfjaaGreatDoor
