/-
  The law's own: a config of one receiver.
-/
import Derived.Test.YtaiacohnhhicpaaDutL
namespace Go.Proofs.Ytaiacohnhhicpaa
open Go.RowKit Go.Shelf
set_option linter.unusedVariables false

def rOne : R9 := ⟨⟨#[97]⟩, 2, 8, 0, 2, 1, 1, 1, 1⟩
def oneC : CfgL := ([rOne], [([0], [])], 9, 1)
theorem oneC_lies {w : World} {A B C : Nat}
    (h3 : Vals w A 47 #[.string ⟨#[97]⟩, .int .i64 2, .int .i64 8, .int .i64 0, .int .i64 2, .int .i64 1, .int .i64 1, .int .i64 1, .int .i64 1])
    (h6 : Vals w B 3 #[.int .i64 0]) (h7 : Vals w C 43 #[.slice (some ⟨B, 0, none⟩) 1 1, .slice none 0 0]) :
    CfgAt w (some ⟨A, 0, none⟩) 1 1 (some ⟨C, 0, none⟩) 1 1 oneC := by
  have nine : ∀ (r : R9) (j : Nat) (v : Value), (cR r)[j]? = some v → j < 9 := fun r j v h => (List.getElem?_eq_some_iff.1 h).1
  refine ⟨⟨rfl, Nat.le_refl _, fun i hi => ⟨A, 0, rfl, fun j v hj => ?_⟩⟩, ⟨rfl, Nat.le_refl _, fun i hi => ?_⟩, by decide, by decide, fun i hi => ?_, fun i hi => ?_⟩
  · have hj9 := nine _ j v hj
    obtain rfl : i = 0 := by omega
    have hjj : j = 0 ∨ j = 1 ∨ j = 2 ∨ j = 3 ∨ j = 4 ∨ j = 5 ∨ j = 6 ∨ j = 7 ∨ j = 8 := by omega
    rcases hjj with rfl | rfl | rfl | rfl | rfl | rfl | rfl | rfl | rfl <;> exact (h3.cell _).trans hj
  · obtain rfl : i = 0 := by omega
    refine ⟨_, 0, _, 1, 1, none, 0, 0, rfl, h7.cell 0, h7.cell 1, ⟨rfl, Nat.le_refl _, fun k hk => ⟨_, 0, rfl, ?_⟩⟩, ⟨rfl, Nat.le_refl _, fun k hk => absurd hk (by omega)⟩⟩
    obtain rfl : k = 0 := by omega
    exact h6.cell 0
  · obtain rfl : i = 0 := by have : i < 1 := hi; omega
    decide
  · obtain rfl : i = 0 := by have : i < 1 := hi; omega
    exact ⟨by decide, by decide, fun k hk => absurd hk (by simp [oneC])⟩
set_option maxRecDepth 100000 in
set_option maxHeartbeats 6400000 in
theorem one_any (w : World) :
    Calls Try.prog 25 #[] w fun e w' => (∃ o1 o2, e = .returned (aggC o1 1 1 o2 1 1 oneC) ∧ CfgAt w' o1 1 1 o2 1 1 oneC) ∧ Below w.heap.size w w' := by
  have V0a := Vals.new w 33 (cfgV (.slice none 0 0) (.slice none 0 0) 0 0)
  have B0 := below_alloc w (.cells (cfgV (.slice none 0 0) (.slice none 0 0) 0 0) 33)
  have V0b := V0a.keep (below_alloc _ (.cells #[.string ⟨#[97]⟩, .int .i64 2, .int .i64 8, .int .i64 0, .int .i64 2, .int .i64 1, .int .i64 1, .int .i64 1, .int .i64 1] 47)) (Nat.le_refl _)
  have V1a := Vals.new (w.alloc (.cells (cfgV (.slice none 0 0) (.slice none 0 0) 0 0) 33)) 47 #[.string ⟨#[97]⟩, .int .i64 2, .int .i64 8, .int .i64 0, .int .i64 2, .int .i64 1, .int .i64 1, .int .i64 1, .int .i64 1]
  have B1 := B0.alloc B0.size (.cells #[.string ⟨#[97]⟩, .int .i64 2, .int .i64 8, .int .i64 0, .int .i64 2, .int .i64 1, .int .i64 1, .int .i64 1, .int .i64 1] 47)
  simp only [World.size_alloc] at V1a
  go_enter Try.func25, Try.ntmps25
  go_upto_region 2 with fail
  clear V0a B0
  have hsz : ((w.alloc (.cells (cfgV (.slice none 0 0) (.slice none 0 0) 0 0) 33)).alloc (.cells #[.string ⟨#[97]⟩, .int .i64 2, .int .i64 8, .int .i64 0, .int .i64 2, .int .i64 1, .int .i64 1, .int .i64 1, .int .i64 1] 47)).heap.size = w.heap.size + 1 + 1 := by simp only [World.size_alloc]
  generalize hA : w.heap.size = A at *
  generalize (w.alloc (.cells (cfgV (.slice none 0 0) (.slice none 0 0) 0 0) 33)).alloc (.cells #[.string ⟨#[97]⟩, .int .i64 2, .int .i64 8, .int .i64 0, .int .i64 2, .int .i64 1, .int .i64 1, .int .i64 1, .int .i64 1] 47) = w3 at *
  have a0 : w3.cell? ⟨A + 1, 0, none⟩ = some (.string ⟨#[97]⟩) := V1a.cell 0
  have a1 : w3.cell? ⟨A + 1, 1, none⟩ = some (.int .i64 2) := V1a.cell 1
  have a2 : w3.cell? ⟨A + 1, 2, none⟩ = some (.int .i64 8) := V1a.cell 2
  have a3 : w3.cell? ⟨A + 1, 3, none⟩ = some (.int .i64 0) := V1a.cell 3
  have a4 : w3.cell? ⟨A + 1, 4, none⟩ = some (.int .i64 2) := V1a.cell 4
  have a5 : w3.cell? ⟨A + 1, 5, none⟩ = some (.int .i64 1) := V1a.cell 5
  have a6 : w3.cell? ⟨A + 1, 6, none⟩ = some (.int .i64 1) := V1a.cell 6
  have a7 : w3.cell? ⟨A + 1, 7, none⟩ = some (.int .i64 1) := V1a.cell 7
  have a8 : w3.cell? ⟨A + 1, 8, none⟩ = some (.int .i64 1) := V1a.cell 8
  have q0 : w3.cell? ⟨A, 0, none⟩ = some (.slice none 0 0) := V0b.cell 0
  have q1 : w3.cell? ⟨A, 1, none⟩ = some (.slice none 0 0) := V0b.cell 1
  have q2 : w3.cell? ⟨A, 2, none⟩ = some (.int .i64 0) := V0b.cell 2
  have q3 : w3.cell? ⟨A, 3, none⟩ = some (.int .i64 0) := V0b.cell 3
  have g0 := V0b.free 0
  have g1 := V0b.free 1
  have g2 := V0b.free 2
  have g3 := V0b.free 3
  go_wp2_with fail
  have V4 := V0b.four (.slice (some ⟨A + 1 + 1, 0, none⟩) 1 1) (.slice (some ⟨A + 1 + 1 + 1 + 1, 0, none⟩) 1 1) (.int .i64 9) (.int .i64 1)
  have B4 := below_four B1 (Nat.le_refl A) (.slice (some ⟨A + 1 + 1, 0, none⟩) 1 1) (.slice (some ⟨A + 1 + 1 + 1 + 1, 0, none⟩) 1 1) (.int .i64 9) (.int .i64 1)
  have hs4 : ((((w3.setCell ⟨A, 0, none⟩ (.slice (some ⟨A + 1 + 1, 0, none⟩) 1 1)).setCell ⟨A, 1, none⟩ (.slice (some ⟨A + 1 + 1 + 1 + 1, 0, none⟩) 1 1)).setCell ⟨A, 2, none⟩ (.int .i64 9)).setCell ⟨A, 3, none⟩ (.int .i64 1)).heap.size = A + 1 + 1 := by simpa using hsz
  clear V0b B1 V1a q0 q1 q2 q3 g0 g1 g2 g3 a0 a1 a2 a3 a4 a5 a6 a7 a8 hsz
  generalize (((w3.setCell ⟨A, 0, none⟩ (.slice (some ⟨A + 1 + 1, 0, none⟩) 1 1)).setCell ⟨A, 1, none⟩ (.slice (some ⟨A + 1 + 1 + 1 + 1, 0, none⟩) 1 1)).setCell ⟨A, 2, none⟩ (.int .i64 9)).setCell ⟨A, 3, none⟩ (.int .i64 1) = w4 at *
  have U3 := Vals.new w4 47 #[.string ⟨#[97]⟩, .int .i64 2, .int .i64 8, .int .i64 0, .int .i64 2, .int .i64 1, .int .i64 1, .int .i64 1, .int .i64 1]
  have B5 := B4.alloc (by omega) (.cells #[.string ⟨#[97]⟩, .int .i64 2, .int .i64 8, .int .i64 0, .int .i64 2, .int .i64 1, .int .i64 1, .int .i64 1, .int .i64 1] 47)
  have hs5 : (w4.alloc (.cells #[.string ⟨#[97]⟩, .int .i64 2, .int .i64 8, .int .i64 0, .int .i64 2, .int .i64 1, .int .i64 1, .int .i64 1, .int .i64 1] 47)).heap.size = A + 1 + 1 + 1 := by rw [World.size_alloc, hs4]
  have V5 := V4.alloc (.cells #[.string ⟨#[97]⟩, .int .i64 2, .int .i64 8, .int .i64 0, .int .i64 2, .int .i64 1, .int .i64 1, .int .i64 1, .int .i64 1] 47)
  rw [hs4] at U3
  clear V4 B4 hs4
  generalize w4.alloc (.cells #[.string ⟨#[97]⟩, .int .i64 2, .int .i64 8, .int .i64 0, .int .i64 2, .int .i64 1, .int .i64 1, .int .i64 1, .int .i64 1] 47) = w5 at *
  have U6 := Vals.new w5 3 #[.int .i64 0]
  have B6 := B5.alloc (by omega) (.cells #[.int .i64 0] 3)
  have hs6 : (w5.alloc (.cells #[.int .i64 0] 3)).heap.size = A + 1 + 1 + 1 + 1 := by rw [World.size_alloc, hs5]
  have V6 := V5.alloc (.cells #[.int .i64 0] 3)
  have U3b := U3.alloc (.cells #[.int .i64 0] 3)
  rw [hs5] at U6
  clear V5 B5 hs5 U3
  generalize w5.alloc (.cells #[.int .i64 0] 3) = w6 at *
  have U7 := Vals.new w6 43 #[.slice (some ⟨A + 1 + 1 + 1, 0, none⟩) 1 1, .slice none 0 0]
  have B7 := B6.alloc (by omega) (.cells #[.slice (some ⟨A + 1 + 1 + 1, 0, none⟩) 1 1, .slice none 0 0] 43)
  have V7 := V6.alloc (.cells #[.slice (some ⟨A + 1 + 1 + 1, 0, none⟩) 1 1, .slice none 0 0] 43)
  have U3c := U3b.alloc (.cells #[.slice (some ⟨A + 1 + 1 + 1, 0, none⟩) 1 1, .slice none 0 0] 43)
  have U6b := U6.alloc (.cells #[.slice (some ⟨A + 1 + 1 + 1, 0, none⟩) 1 1, .slice none 0 0] 43)
  rw [hs6] at U7
  have HF := Lib.hid (oneC_lies U3c U6b U7)
  clear V6 B6 hs6 U3b U6 U3c U6b U7
  generalize w6.alloc (.cells #[.slice (some ⟨A + 1 + 1 + 1, 0, none⟩) 1 1, .slice none 0 0] 43) = w7 at *
  refine bodyPost_ret (retC1 rfl rfl V7) rfl ?_
  exact ⟨⟨_, _, rfl, HF.out⟩, hA ▸ B7⟩
end Go.Proofs.Ytaiacohnhhicpaa
