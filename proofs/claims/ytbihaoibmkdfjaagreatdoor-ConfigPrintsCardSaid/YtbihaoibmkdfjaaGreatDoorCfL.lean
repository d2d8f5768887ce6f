/-
  The law's own: a config that is answered.
-/
import Derived.Test.YtbihaoibmkdfjaaGreatDoorCfK
namespace Go.Proofs.YtbihaoibmkdfjaaGreatDoor
open Go.RowKit Go.Shelf
set_option linter.unusedVariables false

def aliveR : R9 := ⟨tx [97], 1, 8, 0, 3, 5, 10, 2, 4⟩
def aliveC : CfgL := ([aliveR], [([0], [])], 60, 30)
def aliveS : ByteArray := ⟨#[114, 101, 99, 101, 105, 118, 101, 114, 32, 97, 32, 49, 32, 56, 32, 48, 32, 51, 32, 53, 32, 49, 48, 32, 50, 32, 52, 10, 114, 111, 117, 116, 101, 32, 97, 32, 105, 102, 10, 114, 101, 112, 101, 97, 116, 32, 54, 48, 10, 98, 101, 97, 116, 32, 51, 48, 10]⟩
theorem digs10 : digsB 10 = [49, 48] := by rw [digsB, if_neg (by omega), digsB, if_pos (by omega)]; rfl
theorem digs30 : digsB 30 = [51, 48] := by rw [digsB, if_neg (by omega), digsB, if_pos (by omega)]; rfl
theorem digs60 : digsB 60 = [54, 48] := by rw [digsB, if_neg (by omega), digsB, if_pos (by omega)]; rfl
theorem digs_low (n : Nat) (h : n < 10) : digsB n = [digC n] := by rw [digsB, if_pos h]
theorem alive_text : printC aliveC = bs aliveS := by
  unfold printC cfgW
  show (([rcvW aliveR] ++ ([rteW [aliveR] ([0], [])] ++ [[repT, digsB 60], [beatT, digsB 30]])).map joinB).flatMap _ = _
  have h1 : rcvW aliveR = rcvT :: [97] :: [digsB 1, digsB 8, digsB 0, digsB 3, digsB 5, digsB 10, digsB 2, digsB 4] := rfl
  have h2 : rteW [aliveR] ([0], []) = [rteT, [97], ifT] := rfl
  rw [h1, h2, digs10, digs30, digs60, digs_low 1 (by omega), digs_low 8 (by omega), digs_low 0 (by omega), digs_low 3 (by omega), digs_low 5 (by omega), digs_low 2 (by omega), digs_low 4 (by omega)]
  rfl
theorem alive_right : cfgR aliveC = true := by kernel_rfl
theorem alive_parse : parseC (bs aliveS) = (aliveC, 0, 0) := by
  rw [← alive_text]
  exact parseC_print alive_right
set_option maxRecDepth 100000 in
set_option maxHeartbeats 1600000 in
theorem alive_any (w : World) (hT : Tabs w) :
    Calls Tryz.prog 8 #[] w fun e w' => e = .returned (.bool true) ∧ Below w.heap.size w w' := by
  have HP := parseC_any aliveS w (by decide) hT
  rw [alive_parse] at HP
  unfold aliveC aliveS at HP
  go_enter Tryz.func8, Tryz.ntmps8
  go_wp2_with fail
  refine HP.mono ?_
  rintro e w1 ⟨⟨o1, n1, c1, o2, n2, c2, rfl, hR, hQ⟩, B⟩
  dsimp only at hR hQ
  dsimp only
  have hn1 : n1 = 1 := hR.len.symm
  subst hn1
  have V := Vals.new w1 25 (cfgV (.slice o1 1 c1) (.slice o2 n2 c2) 60 30)
  have B1 := B.alloc B.size (.cells (cfgV (.slice o1 1 c1) (.slice o2 n2 c2) 60 30) 25)
  obtain ⟨g, o, rfl, d0, d1, d2, d3, d4, d5, d6, d7, d8⟩ := (hR.below (below_alloc w1 (.cells (cfgV (.slice o1 1 c1) (.slice o2 n2 c2) 60 30) 25)) (Nat.le_refl _)).nine 0 (by omega)
  have hr := hR.room
  clear hR hQ HP
  go_upto_region 2 with fail
  generalize w1.alloc (.cells (cfgV (.slice (some ⟨g, o, none⟩) 1 c1) (.slice o2 n2 c2) 60 30) 25) = w2 at *
  have c0 : w2.cell? ⟨w1.heap.size, 0, none⟩ = some (.slice (some ⟨g, o, none⟩) 1 c1) := V.cell 0
  have c3 : w2.cell? ⟨w1.heap.size, 3, none⟩ = some (.int .i64 30) := V.cell 3
  have e2 : w2.cell? ⟨g, o + 2, none⟩ = some (.int .i64 8) := d2
  have e8 : w2.cell? ⟨g, o + 8, none⟩ = some (.int .i64 4) := d8
  clear d0 d1 d2 d3 d4 d5 d6 d7 d8
  go_wp2_with fail
  go_ret
  exact ⟨rfl, B1⟩
end Go.Proofs.YtbihaoibmkdfjaaGreatDoor
