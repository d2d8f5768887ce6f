/-
  The law's own: a config of two routes.
-/
import Derived.Test.YtplfmphhmlkejaaRotD
import Derived.Test.YtplfmphhmlkejaaRotE
namespace Go.Proofs.Ytplfmphhmlkejaa
open Go.RowKit Go.Shelf
set_option linter.unusedVariables false

def rA : R9 := ⟨⟨#[97]⟩, 1, 1, 0, 1, 1, 1, 1, 1⟩
def rB : R9 := ⟨⟨#[98]⟩, 1, 1, 0, 1, 1, 1, 1, 1⟩
def mEu : M3 := (0, ⟨#[122]⟩, ⟨#[101, 117]⟩)
def twoC : CfgL := ([rA, rB], [([1, 0], [mEu]), ([0], [])], 1, 1)
theorem twoC_lies {w : World} {A : Nat}
    (h3 : Vals w A 59 #[.string ⟨#[97]⟩, .int .i64 1, .int .i64 1, .int .i64 0, .int .i64 1, .int .i64 1, .int .i64 1, .int .i64 1, .int .i64 1, .string ⟨#[98]⟩, .int .i64 1, .int .i64 1, .int .i64 0, .int .i64 1, .int .i64 1, .int .i64 1, .int .i64 1, .int .i64 1])
    (h4 : Vals w (A + 1) 3 #[.int .i64 1, .int .i64 0]) (h5 : Vals w (A + 1 + 1) 49 #[.int .i64 0, .string ⟨#[122]⟩, .string ⟨#[101, 117]⟩]) (h6 : Vals w (A + 1 + 1 + 1) 3 #[.int .i64 0])
    (h7 : Vals w (A + 1 + 1 + 1 + 1) 41 #[.slice (some ⟨A + 1, 0, none⟩) 2 2, .slice (some ⟨A + 1 + 1, 0, none⟩) 1 1, .slice (some ⟨A + 1 + 1 + 1, 0, none⟩) 1 1, .slice none 0 0]) :
    CfgAt w (some ⟨A, 0, none⟩) 2 2 (some ⟨A + 1 + 1 + 1 + 1, 0, none⟩) 2 2 twoC := by
  have nine : ∀ (r : R9) (j : Nat) (v : Value), (cR r)[j]? = some v → j < 9 := fun r j v h => (List.getElem?_eq_some_iff.1 h).1
  refine ⟨⟨rfl, Nat.le_refl _, fun i hi => ⟨A, 0, rfl, fun j v hj => ?_⟩⟩, ⟨rfl, Nat.le_refl _, fun i hi => ?_⟩, by decide, by decide, fun i hi => ?_, fun i hi => ?_⟩
  · have hj9 := nine _ j v hj
    have h01 : i = 0 ∨ i = 1 := by omega
    have hjj : j = 0 ∨ j = 1 ∨ j = 2 ∨ j = 3 ∨ j = 4 ∨ j = 5 ∨ j = 6 ∨ j = 7 ∨ j = 8 := by omega
    rcases h01 with rfl | rfl
    · rcases hjj with rfl | rfl | rfl | rfl | rfl | rfl | rfl | rfl | rfl <;> exact (h3.cell _).trans hj
    · rcases hjj with rfl | rfl | rfl | rfl | rfl | rfl | rfl | rfl | rfl <;> exact (h3.cell _).trans hj
  · have h01 : i = 0 ∨ i = 1 := by omega
    rcases h01 with rfl | rfl
    · refine ⟨_, 0, _, 2, 2, _, 1, 1, rfl, h7.cell 0, h7.cell 1, ⟨rfl, Nat.le_refl _, fun k hk => ⟨_, 0, rfl, ?_⟩⟩, ⟨rfl, Nat.le_refl _, fun k hk => ⟨_, 0, rfl, ?_⟩⟩⟩
      · have : k = 0 ∨ k = 1 := by omega
        rcases this with rfl | rfl
        · exact h4.cell 0
        · exact h4.cell 1
      · obtain rfl : k = 0 := by omega
        exact ⟨h5.cell 0, h5.cell 1, h5.cell 2⟩
    · refine ⟨_, 0, _, 1, 1, _, 0, 0, rfl, h7.cell 2, h7.cell 3, ⟨rfl, Nat.le_refl _, fun k hk => ⟨_, 0, rfl, ?_⟩⟩, ⟨rfl, Nat.le_refl _, fun k hk => absurd hk (by omega)⟩⟩
      obtain rfl : k = 0 := by omega
      exact h6.cell 0
  · have h01 : i = 0 ∨ i = 1 := by have : i < 2 := hi; omega
    rcases h01 with rfl | rfl <;> decide
  · have h01 : i = 0 ∨ i = 1 := by have : i < 2 := hi; omega
    rcases h01 with rfl | rfl
    · refine ⟨by decide, by decide, fun k hk => ?_⟩
      obtain rfl : k = 0 := by have : k < 1 := hk; omega
      decide
    · exact ⟨by decide, by decide, fun k hk => absurd hk (by simp [twoC])⟩
set_option maxRecDepth 100000 in
set_option maxHeartbeats 6400000 in
theorem two_any (w : World) :
    Calls Try.prog 22 #[] w fun e w' => (∃ o1 o2, e = .returned (aggC o1 2 2 o2 2 2 twoC) ∧ CfgAt w' o1 2 2 o2 2 2 twoC) ∧ Below w.heap.size w w' := by
  have V0a := Vals.new w 25 (cfgV (.slice none 0 0) (.slice none 0 0) 0 0)
  have B0 := below_alloc w (.cells (cfgV (.slice none 0 0) (.slice none 0 0) 0 0) 25)
  have V0b := V0a.keep (below_alloc _ (.cells #[.string ⟨#[97]⟩, .int .i64 1, .int .i64 1, .int .i64 0, .int .i64 1, .int .i64 1, .int .i64 1, .int .i64 1, .int .i64 1] 59)) (Nat.le_refl _)
  have V0c := V0b.keep (below_alloc _ (.cells #[.string ⟨#[98]⟩, .int .i64 1, .int .i64 1, .int .i64 0, .int .i64 1, .int .i64 1, .int .i64 1, .int .i64 1, .int .i64 1] 59)) (Nat.le_refl _)
  have V1a := Vals.new (w.alloc (.cells (cfgV (.slice none 0 0) (.slice none 0 0) 0 0) 25)) 59 #[.string ⟨#[97]⟩, .int .i64 1, .int .i64 1, .int .i64 0, .int .i64 1, .int .i64 1, .int .i64 1, .int .i64 1, .int .i64 1]
  have V1b := V1a.keep (below_alloc _ (.cells #[.string ⟨#[98]⟩, .int .i64 1, .int .i64 1, .int .i64 0, .int .i64 1, .int .i64 1, .int .i64 1, .int .i64 1, .int .i64 1] 59)) (Nat.le_refl _)
  have V2a := Vals.new ((w.alloc (.cells (cfgV (.slice none 0 0) (.slice none 0 0) 0 0) 25)).alloc (.cells #[.string ⟨#[97]⟩, .int .i64 1, .int .i64 1, .int .i64 0, .int .i64 1, .int .i64 1, .int .i64 1, .int .i64 1, .int .i64 1] 59)) 59 #[.string ⟨#[98]⟩, .int .i64 1, .int .i64 1, .int .i64 0, .int .i64 1, .int .i64 1, .int .i64 1, .int .i64 1, .int .i64 1]
  have B1 := B0.alloc B0.size (.cells #[.string ⟨#[97]⟩, .int .i64 1, .int .i64 1, .int .i64 0, .int .i64 1, .int .i64 1, .int .i64 1, .int .i64 1, .int .i64 1] 59)
  have B2 := B1.alloc B1.size (.cells #[.string ⟨#[98]⟩, .int .i64 1, .int .i64 1, .int .i64 0, .int .i64 1, .int .i64 1, .int .i64 1, .int .i64 1, .int .i64 1] 59)
  simp only [World.size_alloc] at V1b V2a
  go_enter Try.func22, Try.ntmps22
  go_upto_region 4 with fail
  clear V0a V0b V1a B0 B1
  have hsz : (((w.alloc (.cells (cfgV (.slice none 0 0) (.slice none 0 0) 0 0) 25)).alloc (.cells #[.string ⟨#[97]⟩, .int .i64 1, .int .i64 1, .int .i64 0, .int .i64 1, .int .i64 1, .int .i64 1, .int .i64 1, .int .i64 1] 59)).alloc (.cells #[.string ⟨#[98]⟩, .int .i64 1, .int .i64 1, .int .i64 0, .int .i64 1, .int .i64 1, .int .i64 1, .int .i64 1, .int .i64 1] 59)).heap.size = w.heap.size + 1 + 1 + 1 := by simp only [World.size_alloc]
  generalize hA : w.heap.size = A at *
  generalize ((w.alloc (.cells (cfgV (.slice none 0 0) (.slice none 0 0) 0 0) 25)).alloc (.cells #[.string ⟨#[97]⟩, .int .i64 1, .int .i64 1, .int .i64 0, .int .i64 1, .int .i64 1, .int .i64 1, .int .i64 1, .int .i64 1] 59)).alloc (.cells #[.string ⟨#[98]⟩, .int .i64 1, .int .i64 1, .int .i64 0, .int .i64 1, .int .i64 1, .int .i64 1, .int .i64 1, .int .i64 1] 59) = w3 at *
  have a0 : w3.cell? ⟨A + 1, 0, none⟩ = some (.string ⟨#[97]⟩) := V1b.cell 0
  have a1 : w3.cell? ⟨A + 1, 1, none⟩ = some (.int .i64 1) := V1b.cell 1
  have a2 : w3.cell? ⟨A + 1, 2, none⟩ = some (.int .i64 1) := V1b.cell 2
  have a3 : w3.cell? ⟨A + 1, 3, none⟩ = some (.int .i64 0) := V1b.cell 3
  have a4 : w3.cell? ⟨A + 1, 4, none⟩ = some (.int .i64 1) := V1b.cell 4
  have a5 : w3.cell? ⟨A + 1, 5, none⟩ = some (.int .i64 1) := V1b.cell 5
  have a6 : w3.cell? ⟨A + 1, 6, none⟩ = some (.int .i64 1) := V1b.cell 6
  have a7 : w3.cell? ⟨A + 1, 7, none⟩ = some (.int .i64 1) := V1b.cell 7
  have a8 : w3.cell? ⟨A + 1, 8, none⟩ = some (.int .i64 1) := V1b.cell 8
  have b0 : w3.cell? ⟨A + 1 + 1, 0, none⟩ = some (.string ⟨#[98]⟩) := V2a.cell 0
  have b1 : w3.cell? ⟨A + 1 + 1, 1, none⟩ = some (.int .i64 1) := V2a.cell 1
  have b2 : w3.cell? ⟨A + 1 + 1, 2, none⟩ = some (.int .i64 1) := V2a.cell 2
  have b3 : w3.cell? ⟨A + 1 + 1, 3, none⟩ = some (.int .i64 0) := V2a.cell 3
  have b4 : w3.cell? ⟨A + 1 + 1, 4, none⟩ = some (.int .i64 1) := V2a.cell 4
  have b5 : w3.cell? ⟨A + 1 + 1, 5, none⟩ = some (.int .i64 1) := V2a.cell 5
  have b6 : w3.cell? ⟨A + 1 + 1, 6, none⟩ = some (.int .i64 1) := V2a.cell 6
  have b7 : w3.cell? ⟨A + 1 + 1, 7, none⟩ = some (.int .i64 1) := V2a.cell 7
  have b8 : w3.cell? ⟨A + 1 + 1, 8, none⟩ = some (.int .i64 1) := V2a.cell 8
  have q0 : w3.cell? ⟨A, 0, none⟩ = some (.slice none 0 0) := V0c.cell 0
  have q1 : w3.cell? ⟨A, 1, none⟩ = some (.slice none 0 0) := V0c.cell 1
  have q2 : w3.cell? ⟨A, 2, none⟩ = some (.int .i64 0) := V0c.cell 2
  have q3 : w3.cell? ⟨A, 3, none⟩ = some (.int .i64 0) := V0c.cell 3
  have g0 := V0c.free 0
  have g1 := V0c.free 1
  have g2 := V0c.free 2
  have g3 := V0c.free 3
  go_wp2_with fail
  have V4 := V0c.four (.slice (some ⟨A + 1 + 1 + 1, 0, none⟩) 2 2) (.slice (some ⟨A + 1 + 1 + 1 + 1 + 1 + 1 + 1, 0, none⟩) 2 2) (.int .i64 1) (.int .i64 1)
  have B4 := below_four B2 (Nat.le_refl A) (.slice (some ⟨A + 1 + 1 + 1, 0, none⟩) 2 2) (.slice (some ⟨A + 1 + 1 + 1 + 1 + 1 + 1 + 1, 0, none⟩) 2 2) (.int .i64 1) (.int .i64 1)
  have hs4 : ((((w3.setCell ⟨A, 0, none⟩ (.slice (some ⟨A + 1 + 1 + 1, 0, none⟩) 2 2)).setCell ⟨A, 1, none⟩ (.slice (some ⟨A + 1 + 1 + 1 + 1 + 1 + 1 + 1, 0, none⟩) 2 2)).setCell ⟨A, 2, none⟩ (.int .i64 1)).setCell ⟨A, 3, none⟩ (.int .i64 1)).heap.size = A + 1 + 1 + 1 := by simpa using hsz
  clear V0c B2 V1b V2a q0 q1 q2 q3 g0 g1 g2 g3 a0 a1 a2 a3 a4 a5 a6 a7 a8 b0 b1 b2 b3 b4 b5 b6 b7 b8 hsz
  generalize (((w3.setCell ⟨A, 0, none⟩ (.slice (some ⟨A + 1 + 1 + 1, 0, none⟩) 2 2)).setCell ⟨A, 1, none⟩ (.slice (some ⟨A + 1 + 1 + 1 + 1 + 1 + 1 + 1, 0, none⟩) 2 2)).setCell ⟨A, 2, none⟩ (.int .i64 1)).setCell ⟨A, 3, none⟩ (.int .i64 1) = w4 at *
  have U3 := Vals.new w4 59 #[.string ⟨#[97]⟩, .int .i64 1, .int .i64 1, .int .i64 0, .int .i64 1, .int .i64 1, .int .i64 1, .int .i64 1, .int .i64 1, .string ⟨#[98]⟩, .int .i64 1, .int .i64 1, .int .i64 0, .int .i64 1, .int .i64 1, .int .i64 1, .int .i64 1, .int .i64 1]
  have U4 := Vals.new (w4.alloc (.cells #[.string ⟨#[97]⟩, .int .i64 1, .int .i64 1, .int .i64 0, .int .i64 1, .int .i64 1, .int .i64 1, .int .i64 1, .int .i64 1, .string ⟨#[98]⟩, .int .i64 1, .int .i64 1, .int .i64 0, .int .i64 1, .int .i64 1, .int .i64 1, .int .i64 1, .int .i64 1] 59)) 3 #[.int .i64 1, .int .i64 0]
  have B5 := B4.alloc (by omega) (.cells #[.string ⟨#[97]⟩, .int .i64 1, .int .i64 1, .int .i64 0, .int .i64 1, .int .i64 1, .int .i64 1, .int .i64 1, .int .i64 1, .string ⟨#[98]⟩, .int .i64 1, .int .i64 1, .int .i64 0, .int .i64 1, .int .i64 1, .int .i64 1, .int .i64 1, .int .i64 1] 59)
  have hs5 : (w4.alloc (.cells #[.string ⟨#[97]⟩, .int .i64 1, .int .i64 1, .int .i64 0, .int .i64 1, .int .i64 1, .int .i64 1, .int .i64 1, .int .i64 1, .string ⟨#[98]⟩, .int .i64 1, .int .i64 1, .int .i64 0, .int .i64 1, .int .i64 1, .int .i64 1, .int .i64 1, .int .i64 1] 59)).heap.size = A + 1 + 1 + 1 + 1 := by rw [World.size_alloc, hs4]
  have V5 := V4.alloc (.cells #[.string ⟨#[97]⟩, .int .i64 1, .int .i64 1, .int .i64 0, .int .i64 1, .int .i64 1, .int .i64 1, .int .i64 1, .int .i64 1, .string ⟨#[98]⟩, .int .i64 1, .int .i64 1, .int .i64 0, .int .i64 1, .int .i64 1, .int .i64 1, .int .i64 1, .int .i64 1] 59)
  rw [hs4] at U3
  rw [hs5] at U4
  generalize w4.alloc (.cells #[.string ⟨#[97]⟩, .int .i64 1, .int .i64 1, .int .i64 0, .int .i64 1, .int .i64 1, .int .i64 1, .int .i64 1, .int .i64 1, .string ⟨#[98]⟩, .int .i64 1, .int .i64 1, .int .i64 0, .int .i64 1, .int .i64 1, .int .i64 1, .int .i64 1, .int .i64 1] 59) = w5 at *
  have hs6 : (w5.alloc (.cells #[.int .i64 1, .int .i64 0] 3)).heap.size = A + 1 + 1 + 1 + 1 + 1 := by rw [World.size_alloc, hs5]
  have B6 := B5.alloc (by omega) (.cells #[.int .i64 1, .int .i64 0] 3)
  have V6 := V5.alloc (.cells #[.int .i64 1, .int .i64 0] 3)
  have U3b := U3.alloc (.cells #[.int .i64 1, .int .i64 0] 3)
  clear V4 B4 hs4 V5 U3 B5
  generalize w5.alloc (.cells #[.int .i64 1, .int .i64 0] 3) = w6 at *
  have U5 := Vals.new w6 49 #[.int .i64 0, .string ⟨#[122]⟩, .string ⟨#[101, 117]⟩]
  have hs7 : (w6.alloc (.cells #[.int .i64 0, .string ⟨#[122]⟩, .string ⟨#[101, 117]⟩] 49)).heap.size = A + 1 + 1 + 1 + 1 + 1 + 1 := by rw [World.size_alloc, hs6]
  have B7 := B6.alloc (by omega) (.cells #[.int .i64 0, .string ⟨#[122]⟩, .string ⟨#[101, 117]⟩] 49)
  have V7 := V6.alloc (.cells #[.int .i64 0, .string ⟨#[122]⟩, .string ⟨#[101, 117]⟩] 49)
  have U3c := U3b.alloc (.cells #[.int .i64 0, .string ⟨#[122]⟩, .string ⟨#[101, 117]⟩] 49)
  have U4b := U4.alloc (.cells #[.int .i64 0, .string ⟨#[122]⟩, .string ⟨#[101, 117]⟩] 49)
  rw [hs6] at U5
  clear V6 B6 U3b U4 hs5 hs6
  generalize w6.alloc (.cells #[.int .i64 0, .string ⟨#[122]⟩, .string ⟨#[101, 117]⟩] 49) = w7 at *
  have U6 := Vals.new w7 3 #[.int .i64 0]
  have hs8 : (w7.alloc (.cells #[.int .i64 0] 3)).heap.size = A + 1 + 1 + 1 + 1 + 1 + 1 + 1 := by rw [World.size_alloc, hs7]
  have B8 := B7.alloc (by omega) (.cells #[.int .i64 0] 3)
  have V8 := V7.alloc (.cells #[.int .i64 0] 3)
  have U3d := U3c.alloc (.cells #[.int .i64 0] 3)
  have U4c := U4b.alloc (.cells #[.int .i64 0] 3)
  have U5b := U5.alloc (.cells #[.int .i64 0] 3)
  rw [hs7] at U6
  clear V7 B7 U3c U4b U5 hs7
  generalize w7.alloc (.cells #[.int .i64 0] 3) = w8 at *
  have U7 := Vals.new w8 41 #[.slice (some ⟨A + 1 + 1 + 1 + 1, 0, none⟩) 2 2, .slice (some ⟨A + 1 + 1 + 1 + 1 + 1, 0, none⟩) 1 1, .slice (some ⟨A + 1 + 1 + 1 + 1 + 1 + 1, 0, none⟩) 1 1, .slice none 0 0]
  have B9 := B8.alloc (by omega) (.cells #[.slice (some ⟨A + 1 + 1 + 1 + 1, 0, none⟩) 2 2, .slice (some ⟨A + 1 + 1 + 1 + 1 + 1, 0, none⟩) 1 1, .slice (some ⟨A + 1 + 1 + 1 + 1 + 1 + 1, 0, none⟩) 1 1, .slice none 0 0] 41)
  have V9 := V8.alloc (.cells #[.slice (some ⟨A + 1 + 1 + 1 + 1, 0, none⟩) 2 2, .slice (some ⟨A + 1 + 1 + 1 + 1 + 1, 0, none⟩) 1 1, .slice (some ⟨A + 1 + 1 + 1 + 1 + 1 + 1, 0, none⟩) 1 1, .slice none 0 0] 41)
  have U3e := U3d.alloc (.cells #[.slice (some ⟨A + 1 + 1 + 1 + 1, 0, none⟩) 2 2, .slice (some ⟨A + 1 + 1 + 1 + 1 + 1, 0, none⟩) 1 1, .slice (some ⟨A + 1 + 1 + 1 + 1 + 1 + 1, 0, none⟩) 1 1, .slice none 0 0] 41)
  have U4d := U4c.alloc (.cells #[.slice (some ⟨A + 1 + 1 + 1 + 1, 0, none⟩) 2 2, .slice (some ⟨A + 1 + 1 + 1 + 1 + 1, 0, none⟩) 1 1, .slice (some ⟨A + 1 + 1 + 1 + 1 + 1 + 1, 0, none⟩) 1 1, .slice none 0 0] 41)
  have U5c := U5b.alloc (.cells #[.slice (some ⟨A + 1 + 1 + 1 + 1, 0, none⟩) 2 2, .slice (some ⟨A + 1 + 1 + 1 + 1 + 1, 0, none⟩) 1 1, .slice (some ⟨A + 1 + 1 + 1 + 1 + 1 + 1, 0, none⟩) 1 1, .slice none 0 0] 41)
  have U6b := U6.alloc (.cells #[.slice (some ⟨A + 1 + 1 + 1 + 1, 0, none⟩) 2 2, .slice (some ⟨A + 1 + 1 + 1 + 1 + 1, 0, none⟩) 1 1, .slice (some ⟨A + 1 + 1 + 1 + 1 + 1 + 1, 0, none⟩) 1 1, .slice none 0 0] 41)
  rw [hs8] at U7
  have HF := Lib.hid (twoC_lies U3e U4d U5c U6b U7)
  clear V8 B8 U3d U4c U5b U6 hs8 U3e U4d U5c U6b U7
  generalize w8.alloc (.cells #[.slice (some ⟨A + 1 + 1 + 1 + 1, 0, none⟩) 2 2, .slice (some ⟨A + 1 + 1 + 1 + 1 + 1, 0, none⟩) 1 1, .slice (some ⟨A + 1 + 1 + 1 + 1 + 1 + 1, 0, none⟩) 1 1, .slice none 0 0] 41) = w9 at *
  refine bodyPost_ret (retC1 rfl rfl V9) rfl ?_
  exact ⟨⟨_, _, rfl, HF.out⟩, hA ▸ B9⟩
end Go.Proofs.Ytplfmphhmlkejaa
