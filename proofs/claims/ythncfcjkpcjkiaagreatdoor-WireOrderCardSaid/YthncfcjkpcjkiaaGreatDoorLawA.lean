/-
  The law's own: a matcher, and a message, cut short.
-/
import Derived.Test.YthncfcjkpcjkiaaGreatDoorWirX
import Derived.Lib.MinMax
import Derived.StillTailTactics
import Derived.BigRegion
import Derived.Deep.RegionHeld3
import Derived.Deep.DeepCutAuto
import Derived.Deep.CutBlock
import Derived.RegionTactic
import Derived.Deep.RegionLaw
namespace Go.Proofs.YthncfcjkpcjkiaaGreatDoor
open Go.RowKit Go.Shelf
set_option linter.unusedVariables false

def cutS (s : ByteArray) : ByteArray := s.extract 0 (min s.size 12)
def cutM (m : M3) : M3 := (m.1, cutS m.2.1, cutS m.2.2)
def cutL (x : L2) : L2 := (cutS x.1, cutS x.2)
set_option maxRecDepth 100000 in
set_option maxHeartbeats 1600000 in
theorem one_any (m : M3) (w : World) :
    Calls Tryz.prog 14 #[aggM m] w fun e w' => e = .returned (aggM (cutM m)) ∧ Below w.heap.size w w' := by
  obtain ⟨k, s, t⟩ := m
  have hB := fun o => (Below.refl _ w).alloc (Nat.le_refl w.heap.size) o
  obtain ⟨p, hp⟩ : ∃ p, p = min s.size 12 := ⟨_, rfl⟩
  obtain ⟨q, hq⟩ : ∃ q, q = min t.size 12 := ⟨_, rfl⟩
  have e1 : min (s.size : Int) 12 = (p : Int) := by omega
  have e2 : min (t.size : Int) 12 = (q : Int) := by omega
  have p1 : p ≤ s.size := by omega
  have q1 : q ≤ t.size := by omega
  have HS : Hid (cutM (k, s, t) = (k, s.extract 0 p, t.extract 0 q)) := by show _ = _; unfold cutM cutS; rw [hp, hq]
  clear hp hq
  have V2 := Vals.new (w.alloc (.cells #[.int .i64 k, .string s, .string t] 32)) 32 #[.int .i64 0, .string ⟨#[]⟩, .string ⟨#[]⟩]
  have V1 : Vals (w.alloc (.cells #[.int .i64 k, .string s, .string t] 32)) w.heap.size 32 #[.int .i64 k, .string s, .string t] := Vals.new w _ _
  have V1' := V1.keep (below_alloc _ (.cells #[.int .i64 0, .string ⟨#[]⟩, .string ⟨#[]⟩] 32)) (Nat.le_refl _)
  have B2 := (hB (.cells #[.int .i64 k, .string s, .string t] 32)).alloc (hB _).size (.cells #[.int .i64 0, .string ⟨#[]⟩, .string ⟨#[]⟩] 32)
  dsimp only [aggM]
  go_enter Tryz.func14, Tryz.ntmps14
  go_upto_region 1 with fail
  obtain ⟨A, hA⟩ : ∃ A, A = w.heap.size := ⟨_, rfl⟩
  have hsz : (w.alloc (.cells #[.int .i64 k, .string s, .string t] 32)).heap.size = A + 1 := by rw [hA]; simp
  rw [hsz] at V2
  rw [← hA] at V1'
  rw [← hA]
  have hAw : w.heap.size ≤ A + 1 := by omega
  clear V1 hB hA hsz
  generalize (w.alloc (.cells #[.int .i64 k, .string s, .string t] 32)).alloc (.cells #[.int .i64 0, .string ⟨#[]⟩, .string ⟨#[]⟩] 32) = W at *
  have x0 : W.cell? ⟨A, 0, none⟩ = some (.int .i64 k) := V1'.cell 0
  have x1 : W.cell? ⟨A, 1, none⟩ = some (.string s) := V1'.cell 1
  have x2 : W.cell? ⟨A, 2, none⟩ = some (.string t) := V1'.cell 2
  have q0 : W.cell? ⟨A + 1, 0, none⟩ = some (.int .i64 0) := V2.cell 0
  have q1 : W.cell? ⟨A + 1, 1, none⟩ = some (.string ⟨#[]⟩) := V2.cell 1
  have q2 : W.cell? ⟨A + 1, 2, none⟩ = some (.string ⟨#[]⟩) := V2.cell 2
  have g0 := V2.free 0
  have g1 := V2.free 1
  have g2 := V2.free 2
  have V3 : Vals (((W.setCell ⟨A + 1, 0, none⟩ (.int .i64 k)).setCell ⟨A + 1, 1, none⟩ (.string (s.extract 0 p))).setCell ⟨A + 1, 2, none⟩ (.string (t.extract 0 q))).drew (A + 1) 32 #[.int .i64 k, .string (s.extract 0 p), .string (t.extract 0 q)] := by
    have : Vals (((W.setCell ⟨A + 1, 0, none⟩ (.int .i64 k)).setCell ⟨A + 1, 1, none⟩ (.string (s.extract 0 p))).setCell ⟨A + 1, 2, none⟩ (.string (t.extract 0 q))).drew (A + 1) 32 _ := ((V2.set 0 (.int .i64 k)).set 1 (.string (s.extract 0 p))).set 2 (.string (t.extract 0 q))
    simpa using this
  have B3 : Below w.heap.size w (((W.setCell ⟨A + 1, 0, none⟩ (.int .i64 k)).setCell ⟨A + 1, 1, none⟩ (.string (s.extract 0 p))).setCell ⟨A + 1, 2, none⟩ (.string (t.extract 0 q))).drew := (((B2.setCell (p := ⟨A + 1, 0, none⟩) hAw _).setCell (p := ⟨A + 1, 1, none⟩) hAw _).setCell (p := ⟨A + 1, 2, none⟩) hAw _).drew
  clear V1' V2 B2
  go_still_tail 16, (by kernel_rfl)
  change wpList _ _ _ _ _ (World.drew _)
  go_wp2_with fail
  refine bodyPost_ret (retM1 rfl rfl V3) rfl ?_
  exact ⟨by rw [HS.out], B3⟩
end Go.Proofs.YthncfcjkpcjkiaaGreatDoor
