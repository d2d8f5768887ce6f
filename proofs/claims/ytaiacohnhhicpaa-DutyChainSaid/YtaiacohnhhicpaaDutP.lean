/-
  The law's own: a duty that came to nothing once.
-/
import Derived.Test.YtaiacohnhhicpaaDutO
import Derived.Test.YtaiacohnhhicpaaDutC
import Derived.Deep.RegionHeld3
import Derived.Deep.DeepCutAuto
namespace Go.Proofs.Ytaiacohnhhicpaa
open Go.RowKit Go.Shelf
set_option linter.unusedVariables false

def lOne : List L2 := [(⟨#[97]⟩, ⟨#[]⟩)]
def dOne : D6 := ⟨lOne, 0, 0, 0, 5, 1⟩
def dTwo : D6 := ⟨lOne, 0, 0, 1, 7, 1⟩
theorem new_alive : newF oneC lOne 5 = (dOne, 0) := by decide +kernel
theorem sent_alive : sentF oneC dOne 5 false 0 = (dTwo, false, 0) := by decide +kernel
set_option maxRecDepth 100000 in
set_option maxHeartbeats 6400000 in
theorem alive_any (w : World) :
    Calls Try.prog 11 #[] w fun e w' => e = .returned (.bool true) ∧ Below w.heap.size w w' := by
  have HT := fun w => one_any w
  go_enter Try.func11, Try.ntmps11
  go_wp2_with fail
  refine (HT _).mono ?_
  rintro e w1 ⟨⟨o1, o2, rfl, hC⟩, B1⟩
  have BL := below_alloc w1 (.cells #[.string ⟨#[97]⟩, .string ByteArray.empty] 61)
  have hL : Ls (w1.alloc (.cells #[.string ⟨#[97]⟩, .string ByteArray.empty] 61)) (some ⟨w1.heap.size, 0, none⟩) 1 1 lOne := by
    refine ⟨rfl, Nat.le_refl _, fun i hi => ⟨w1.heap.size, 0, rfl, ?_⟩⟩
    obtain rfl : i = 0 := by omega
    simp [lOne]
    try rfl
  have HN := new_any o1 1 1 o2 1 1 oneC _ 1 1 lOne 5 _ (hC.below BL (Nat.le_refl _)) hL (by decide)
  rw [new_alive] at HN
  unfold NewOut at HN
  have B2 := B1.trans (BL.mono B1.size)
  clear hC hL B1 BL
  go_wp2_with fail
  refine HN.mono ?_
  rintro e w2 ⟨⟨oa, n, cap, rfl, hD⟩, B3⟩
  have B4 := B2.trans (B3.mono B2.size)
  have B5 := B4.alloc B4.size (.cells (dV (.slice oa n cap) dOne) 24)
  have V5 := Vals.new w2 24 (dV (.slice oa n cap) dOne)
  have hD5 := hD.below (below_alloc w2 (.cells (dV (.slice oa n cap) dOne) 24)) (Nat.le_refl _)
  have hBw := B4.size
  clear B2 B3 HN hD B4
  dsimp only [dV, dOne] at *
  go_upto_region 2 with fail
  generalize w2.heap.size = A at *
  generalize w2.alloc (.cells #[.slice oa n cap, .int .i64 0, .int .i64 0, .int .i64 0, .int .i64 5, .int .i64 1] 24) = w5 at *
  have c0 : w5.cell? ⟨A, 0, none⟩ = some (.slice oa n cap) := V5.cell 0
  have c1 : w5.cell? ⟨A, 1, none⟩ = some (.int .i64 0) := V5.cell 1
  have c2 : w5.cell? ⟨A, 2, none⟩ = some (.int .i64 0) := V5.cell 2
  have c3 : w5.cell? ⟨A, 3, none⟩ = some (.int .i64 0) := V5.cell 3
  have c4 : w5.cell? ⟨A, 4, none⟩ = some (.int .i64 5) := V5.cell 4
  have c5 : w5.cell? ⟨A, 5, none⟩ = some (.int .i64 1) := V5.cell 5
  have HS : ∀ (w3 : World) (o3 o4 : Option Addr) (B : Below w5.heap.size w5 w3), CfgAt w3 o3 1 1 o4 1 1 oneC → Calls Try.prog 18 #[aggC o3 1 1 o4 1 1 oneC, .agg #[.slice oa n cap, .int .i64 0, .int .i64 0, .int .i64 0, .int .i64 5, .int .i64 1], .int .i64 5, .bool false, .int .i64 0] w3 fun e w' => SentOut (dTwo, false, 0) w' e ∧ Below w3.heap.size w3 w' := fun w3 o3 o4 B hC => by
    have := sent_any o3 1 1 o4 1 1 oneC oa n cap dOne 5 false 0 w3 hC (hD5.below B (Nat.le_refl _))
    rw [sent_alive] at this
    exact this
  unfold SentOut at HS
  have BR : Below w5.heap.size w5 w5.drew := (Below.refl _ _).drew
  clear hD5
  go_cut [3, 4, 12, 13, 14, 15, 16, 17, 18] (fun s3 s4 _ _ _ _ _ _ _ wx => s3 = .bool false ∧ s4 = .int .i64 0 ∧ (∃ ob n' cap', Vals wx A 24 (dV (.slice ob n' cap') dTwo)) ∧ Below w.heap.size w wx)
  case first =>
    go_region_with (first
      | (go_at_call 25; refine (HT _).mono ?_; rintro e w3 ⟨⟨o3, o4, rfl, hC3⟩, B6⟩; have V6 := V5.keep (w := w5.drew) B6 (Nat.le_refl _); have B8 := BR.trans (B6.mono BR.size); have e0 : w3.cell? ⟨A, 0, none⟩ = some (.slice oa n cap) := V6.cell 0; have e1 : w3.cell? ⟨A, 1, none⟩ = some (.int .i64 0) := V6.cell 1; have e2 : w3.cell? ⟨A, 2, none⟩ = some (.int .i64 0) := V6.cell 2; have e3 : w3.cell? ⟨A, 3, none⟩ = some (.int .i64 0) := V6.cell 3; have e4 : w3.cell? ⟨A, 4, none⟩ = some (.int .i64 5) := V6.cell 4; have e5 : w3.cell? ⟨A, 5, none⟩ = some (.int .i64 1) := V6.cell 5)
      | (go_at_call 18; refine (HS _ _ _ (by assumption) (by assumption)).mono ?_; rintro e w4 ⟨⟨ob, n', cap', rfl, hD2⟩, B7⟩; have V7 := V6.keep B7 (Nat.le_refl _); have B9 := B8.trans (B7.mono B8.size); have g0 := V7.free 0; have g1 := V7.free 1; have g2 := V7.free 2; have g3 := V7.free 3; have g4 := V7.free 4; have g5 := V7.free 5; have q0 : w4.cell? ⟨A, 0, none⟩ = some (.slice oa n cap) := V7.cell 0; have q1 : w4.cell? ⟨A, 1, none⟩ = some (.int .i64 0) := V7.cell 1; have q2 : w4.cell? ⟨A, 2, none⟩ = some (.int .i64 0) := V7.cell 2; have q3 : w4.cell? ⟨A, 3, none⟩ = some (.int .i64 0) := V7.cell 3; have q4 : w4.cell? ⟨A, 4, none⟩ = some (.int .i64 5) := V7.cell 4; have q5 : w4.cell? ⟨A, 5, none⟩ = some (.int .i64 1) := V7.cell 5))
    all_goals
      have B10 := B5.trans (B9.mono B5.size)
      clear HT HS c0 c1 c2 c3 c4 c5 e0 e1 e2 e3 e4 e5 hC3 hD2 B5 B6 B7 B8 B9 V5 V6 BR
      go_wp2_with fail
      go_meet
      case rel => exact ⟨rfl, rfl, ⟨ob, n', cap', V7.six _ _ _ _ _ _⟩, below_six B10 hBw _ _ _ _ _ _⟩
  case rest =>
    clear HT HS c0 c1 c2 c3 c4 c5 V5 BR
    obtain ⟨rfl, rfl, ⟨ob, n', cap', V9⟩, B9⟩ := hcut
    have q3 : wc.cell? ⟨A, 3, none⟩ = some (.int .i64 1) := V9.cell 3
    have q4 : wc.cell? ⟨A, 4, none⟩ = some (.int .i64 7) := V9.cell 4
    go_wp2_with fail
    go_ret
    exact ⟨rfl, B9⟩
end Go.Proofs.Ytaiacohnhhicpaa
