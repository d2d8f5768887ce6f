/-
  The program's own: a message about an alert.
-/
import Derived.Test.YthncfcjkpcjkiaaGreatDoorParM
import Derived.Test.YthncfcjkpcjkiaaGreatDoorLabS
namespace Go.Proofs.YthncfcjkpcjkiaaGreatDoor
open Go.RowKit Go.Shelf
set_option linter.unusedVariables false

set_option maxRecDepth 100000 in
set_option maxHeartbeats 6400000 in
theorem parse_alert (q : Int) (oa : Option Addr) (n cap : Nat) (ws : List (List UInt8)) (w : World) (h : Ts w oa n cap (ws.map tx)) (hn : n ≤ 300) (hz : ∀ v ∈ ws, v.length ≤ 1000) :
    Calls Tryz.prog 23 #[.int .i64 q, .slice oa n cap] w fun e w' => MsgOut w' e (alertB q ws) ∧ Below w.heap.size w w' := by
  have hl : ws.length = n := by rw [← h.len, List.length_map]
  have hr := h.room
  have V0 := Vals.new w 27 (msgC 0 (.slice none 0 0) 0 0 (.slice none 0 0))
  have B0 := below_alloc w (.cells (msgC 0 (.slice none 0 0) 0 0 (.slice none 0 0)) 27)
  have h1 := h.below B0 (Nat.le_refl _)
  have HZ := Lib.hid hz
  have HL := Lib.hid hl
  clear h hz hl
  obtain ⟨A, hA⟩ : ∃ A, A = w.heap.size := ⟨_, rfl⟩
  have hsz : (w.alloc (.cells (msgC 0 (.slice none 0 0) 0 0 (.slice none 0 0)) 27)).heap.size = A + 1 := by rw [hA]; simp
  go_enter Tryz.func23, Tryz.ntmps23
  go_upto_region 1 with fail
  rw [← hA] at V0 B0
  rw [← hA]
  generalize w.alloc (.cells (msgC 0 (.slice none 0 0) 0 0 (.slice none 0 0)) 27) = w1 at *
  have HA := Lib.hid hA
  clear hA
  have HP := parse_words oa n cap ws w1 h1 hn HZ.out
  clear h1 HZ
  go_wp2_with fail
  refine HP.mono ?_
  rintro e w3 ⟨⟨l, hx, oa', k, cap', rfl, hD⟩ | ⟨hx, rfl⟩, B3⟩
  · have HX := Lib.hid hx
    have V1 := V0.keep B3 (Nat.le_refl _)
    have hBw := B0.trans (B3.mono (Nat.le_of_lt V0.lt))
    have hkl : k ≤ 300 := by
      have e1 := (allO_some (P := fun _ => True) (fun _ _ _ => trivial) ws l hx).2
      have e2 := hD.len
      have e3 := HL.out
      omega
    have HS := labSort_any oa' k cap' l w3 hD (by omega)
    clear hx HP V0 B0 B3 HL hD hkl
    go_wp2_with fail
    refine HS.mono ?_
    rintro e w5 ⟨⟨ob, m, c, rfl, hLs, hml⟩, B5⟩
    have V5 := V1.keep B5 (Nat.le_refl _)
    have B5' := hBw.trans (B5.mono (Nat.le_of_lt V1.lt))
    have x0 : w5.cell? ⟨A, 0, none⟩ = some (.int .i64 0) := V5.cell 0
    have x1 : w5.cell? ⟨A, 1, none⟩ = some (.slice none 0 0) := V5.cell 1
    have x2 : w5.cell? ⟨A, 2, none⟩ = some (.int .i64 0) := V5.cell 2
    have x3 : w5.cell? ⟨A, 3, none⟩ = some (.int .i64 0) := V5.cell 3
    have x4 : w5.cell? ⟨A, 4, none⟩ = some (.slice none 0 0) := V5.cell 4
    have g0 := V5.free 0
    have g1 := V5.free 1
    have g2 := V5.free 2
    have g3 := V5.free 3
    have g4 := V5.free 4
    by_cases h0 : (sortF l).2 = 0
    · have HF := Lib.hid (alertB_ok (k := q) HX.out h0)
      have hO := MsgOut.five (m := ((q, (sortF l).1, 0, 0, []), 0)) V5 hLs (Ms.nil w5 0 none)
      have HO := Lib.hid hO
      have hB5 := below_five B5' (Nat.le_refl A) (.int .i64 q) (.slice ob m c) (.int .i64 0) (.int .i64 0) (.slice none 0 0)
      have hV5 := V5.five (.int .i64 q) (.slice ob m c) (.int .i64 0) (.int .i64 0) (.slice none 0 0)
      rw [h0]
      clear hO h0 HX hLs B5 V1 hBw V5 B5' HS
      go_wp2_with fail
      refine bodyPost_ret (retG rfl rfl rfl hV5) rfl ?_
      exact ⟨by rw [HF.out]; exact HO.out, HA.out ▸ hB5⟩
    · have HF := Lib.hid (alertB_no (k := q) HX.out h0)
      have hB5 := below_five B5' (Nat.le_refl A) (.int .i64 0) (.slice none 0 0) (.int .i64 0) (.int .i64 0) (.slice none 0 0)
      have hV5 := V5.five (.int .i64 0) (.slice none 0 0) (.int .i64 0) (.int .i64 0) (.slice none 0 0)
      have he : ((sortF l).2 == 0) = false := by simp [h0]
      generalize (sortF l).2 = c2 at *
      clear h0 HX hLs B5 V1 hBw V5 B5' HS
      go_wp2_with fail
      refine bodyPost_ret (retG rfl rfl rfl hV5) rfl ?_
      exact ⟨by rw [HF.out]; exact zero_msg _ c2 0, HA.out ▸ hB5⟩
  · have HF := Lib.hid (alertB_none (k := q) hx)
    have V5 := V0.keep B3 (Nat.le_refl _)
    have B5' := B0.trans (B3.mono (Nat.le_of_lt V0.lt))
    have x0 : w3.cell? ⟨A, 0, none⟩ = some (.int .i64 0) := V5.cell 0
    have x1 : w3.cell? ⟨A, 1, none⟩ = some (.slice none 0 0) := V5.cell 1
    have x2 : w3.cell? ⟨A, 2, none⟩ = some (.int .i64 0) := V5.cell 2
    have x3 : w3.cell? ⟨A, 3, none⟩ = some (.int .i64 0) := V5.cell 3
    have x4 : w3.cell? ⟨A, 4, none⟩ = some (.slice none 0 0) := V5.cell 4
    have g0 := V5.free 0
    have g1 := V5.free 1
    have g2 := V5.free 2
    have g3 := V5.free 3
    have g4 := V5.free 4
    have hV5 := V5.five (.int .i64 0) (.slice none 0 0) (.int .i64 0) (.int .i64 0) (.slice none 0 0)
    have hB5 := below_five B5' (Nat.le_refl A) (.int .i64 0) (.slice none 0 0) (.int .i64 0) (.int .i64 0) (.slice none 0 0)
    clear hx HP V0 B0 B3 HL V5 B5'
    go_wp2_with fail
    refine bodyPost_ret (retG rfl rfl rfl hV5) rfl ?_
    exact ⟨by rw [HF.out]; exact zero_msg _ 13 0, HA.out ▸ hB5⟩
end Go.Proofs.YthncfcjkpcjkiaaGreatDoor
