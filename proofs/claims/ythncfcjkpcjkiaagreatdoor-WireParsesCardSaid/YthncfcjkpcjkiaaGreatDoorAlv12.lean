/-
  The law's own: a message that is answered.
-/
import Derived.Test.YthncfcjkpcjkiaaGreatDoorParC
namespace Go.Proofs.YthncfcjkpcjkiaaGreatDoor
open Go.RowKit Go.Shelf
set_option linter.unusedVariables false

def aliveM : MsgL := (2, [], 5, 9, [(2, ⟨#[97]⟩, ⟨#[119, 101]⟩), (3, ⟨#[122]⟩, ⟨#[]⟩)])
def aliveS : ByteArray := ⟨#[104, 117, 115, 104, 32, 53, 32, 57, 32, 97, 94, 119, 101, 32, 122, 63]⟩
theorem alive_text : printB aliveM = bs aliveS := by
  unfold printB printW aliveM
  rw [if_pos rfl]
  show joinB (hushT :: digsB 5 :: digsB 9 :: _) = _
  rw [digsB_small 5 (by omega), digsB_small 9 (by omega)]
  rfl
theorem alive_right : msgR aliveM = true := by kernel_rfl
theorem alive_parse : parseB (bs aliveS) = (aliveM, 0) := by
  rw [← alive_text]
  exact parse_print alive_right
set_option maxRecDepth 100000 in
set_option maxHeartbeats 1600000 in
theorem alive_any (w : World) (hT : Tabs w) :
    Calls Tryz.prog 12 #[] w fun e w' => e = .returned (.bool true) ∧ Below w.heap.size w w' := by
  have HP := parse_any aliveS w (by decide) hT
  rw [alive_parse] at HP
  unfold aliveM aliveS at HP
  go_enter Tryz.func12, Tryz.ntmps12
  go_wp2_with fail
  refine HP.mono ?_
  rintro e w1 ⟨⟨oa, n, cap, ob, nb, cb, rfl, hL, hM⟩, B⟩
  dsimp only at hL hM
  dsimp only
  have hnb : nb = 2 := hM.len.symm
  subst hnb
  have V := Vals.new w1 27 (msgC 2 (.slice oa n cap) 5 9 (.slice ob 2 cb))
  have B1 := B.alloc B.size (.cells (msgC 2 (.slice oa n cap) 5 9 (.slice ob 2 cb)) 27)
  obtain ⟨g, o, rfl, d0, d1, d2⟩ := (hM.below (below_alloc w1 (.cells (msgC 2 (.slice oa n cap) 5 9 (.slice ob 2 cb)) 27)) (Nat.le_refl _)).cell 0 (by omega)
  have hr := hM.room
  clear hL hM HP
  go_upto_region 2 with fail
  generalize w1.alloc (.cells (msgC 2 (.slice oa n cap) 5 9 (.slice (some ⟨g, o, none⟩) 2 cb)) 27) = w2 at *
  have c0 : w2.cell? ⟨w1.heap.size, 0, none⟩ = some (.int .i64 2) := V.cell 0
  have c3 : w2.cell? ⟨w1.heap.size, 3, none⟩ = some (.int .i64 9) := V.cell 3
  have c4 : w2.cell? ⟨w1.heap.size, 4, none⟩ = some (.slice (some ⟨g, o, none⟩) 2 cb) := V.cell 4
  have e2 : w2.cell? ⟨g, o + 2, none⟩ = some (.string ⟨#[119, 101]⟩) := d2
  clear d0 d1 d2
  go_wp2_with fail
  go_ret
  exact ⟨rfl, B1⟩
end Go.Proofs.YthncfcjkpcjkiaaGreatDoor
