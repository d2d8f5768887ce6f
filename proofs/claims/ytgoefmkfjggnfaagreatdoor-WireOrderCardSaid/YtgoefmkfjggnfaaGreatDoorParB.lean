/-
  The program's own: a message about an alert.
-/
import Derived.Test.YtgoefmkfjggnfaaGreatDoorWirG
import Derived.Test.YtgoefmkfjggnfaaGreatDoorParA
import Derived.Test.YtgoefmkfjggnfaaGreatDoorLabS
namespace Go.Proofs.YtgoefmkfjggnfaaGreatDoor
open Go.RowKit Go.Shelf
set_option linter.unusedVariables false

set_option maxRecDepth 100000 in
set_option maxHeartbeats 6400000 in
theorem parse_alert (q : Int) (oa : Option Addr) (n cap : Nat) (ws : List (List UInt8)) (w : World) (h : Ts w oa n cap (ws.map tx)) (hn : n ≤ 300) (hz : ∀ v ∈ ws, v.length ≤ 1000) :
    Calls Tryz.prog 33 #[.int .i64 q, .slice oa n cap] w fun e w' => MsgOut w' e (alertC q ws) ∧ Below w.heap.size w w' := by
  have hl : ws.length = n := by rw [← h.len, List.length_map]
  have hr := h.room
  have V0 := Vals.new w 27 (msgC 0 (.slice none 0 0) 0 0 (.slice none 0 0))
  have B0 := below_alloc w (.cells (msgC 0 (.slice none 0 0) 0 0 (.slice none 0 0)) 27)
  have h1 := h.below B0 (Nat.le_refl _)
  have HZ := Lib.hid hz
  have HL := Lib.hid hl
  clear h hz hl
  obtain ⟨A, hA⟩ : ∃ A, A = w.heap.size := ⟨_, rfl⟩
  have hsz : (w.alloc (.cells (msgC 0 (.slice none 0 0) 0 0 (.slice none 0 0)) 27)).heap.size = A + 1 := by rw [hA]; simp
  go_enter Tryz.func33, Tryz.ntmps33
  go_upto_region 1 with fail
  rw [← hA] at V0 B0
  rw [← hA]
  generalize w.alloc (.cells (msgC 0 (.slice none 0 0) 0 0 (.slice none 0 0)) 27) = w1 at *
  have HA := Lib.hid hA
  clear hA
  have own0 : w1.ownsRow (A + 1) 47 2 (.slice none 0 0) 0 (cellsL ([] : List L2)) := World.ownsRow_nil _ _ _ _
  have hB1 : Below (A + 1) w1 w1 := Below.refl _ _
  go_wp2_with fail
  go_loopw [6, 15] (fun s6 s15 wr => ∃ (k : Nat) (l : List L2), k ≤ n ∧ s15 = .int .i64 k ∧ wr.ownsRow (A + 1) 47 2 s6 k (cellsL l) ∧ l.length = k ∧ Below (A + 1) w1 wr ∧ Hid (allO (labelW []) (ws.take k) = some l)) (fun _ s15 _ => n - (intOf s15).toNat)
  case atStart => exact ⟨0, [], Nat.zero_le _, rfl, own0, rfl, hB1, rfl⟩
  case round =>
    obtain ⟨k, l, hk, rfl, hown, hlk, hB, HO⟩ := hrel
    clear own0 hB1
    have V1 := V0.keep hB (by omega)
    have hBw := B0.trans (hB.mono (by omega))
    have hzr := hB.size
    by_cases hlt : k < n
    · obtain ⟨g, o, rfl, c0⟩ := (h1.below hB (by omega)).cell k hlt
      have hkl : k < ws.length := by rw [HL.out]; exact hlt
      rw [ws_at ws k hkl] at c0
      have HC := fun w => cut_any (tx (ws.getD k [])) w (by rw [tx_size]; exact HZ.out _ (ws_mem ws k hkl))
      have HS : Hid (∀ x, labelW [] (bs (tx (ws.getD k []))) = some x → allO (labelW []) (ws.take (k + 1)) = some (l ++ [x])) := fun x hx => by
        rw [show bs (tx (ws.getD k [])) = ws.getD k [] from tx_data _] at hx
        rw [ws_next ws k hkl, allO_snoc, HO.out]
        show (labelW [] (ws.getD k [])).map _ = _
        rw [hx]
        rfl
      have HN : Hid (labelW [] (bs (tx (ws.getD k []))) = none → alertC q ws = (zMsg, 13)) := fun hx => by
        rw [show bs (tx (ws.getD k [])) = ws.getD k [] from tx_data _] at hx
        exact alertC_none (allO_none (ws_mem ws k hkl) hx)
      generalize tx (ws.getD k []) = y at *
      clear h1 HZ HO HL hkl V0 B0
      go_wp2_with fail
      refine (HC _).mono ?_
      rintro e w5 ⟨⟨x, hx, rfl⟩ | ⟨hx, rfl⟩, B5⟩
      · have HX := Lib.hid (HS.out x hx)
        have hB5 := hB.trans (B5.mono (by omega))
        have hown5 := own_keep hown B5
        have hz5 : A + 1 ≤ w5.heap.size := by have := B5.size; omega
        obtain ⟨s, t⟩ := x
        have hone := Ls.one w5 (s, t)
        dsimp only at hone
        clear HS HN hx hown hB B5 HC c0 V1 hBw
        go_wp2_with (first | (at_builtin; refine wpList_append_ls _ rfl (.tmp 28) (.tmp 32) rfl (A + 1) rfl (hown5.alloc _) rfl hone (by omega) (by simp <;> omega) ?_; intro v1 w8 own1 hg1; have B8 : Below (A + 1) w1 w8 := (hB5.alloc hz5 _).grown hg1 (by simp <;> omega) (fun r e => (hown5.lt r e).1)))
        rw [← cellsL_append] at own1
        clear hone hg1 hown5 hB5
        go_wp2_with fail
        go_roundw
        case rel => exact ⟨k + 1, l ++ [(s, t)], by omega, by go_num, own1, by simp [hlk], B8, HX⟩
        case measure => simp [intOf]; omega
      · have HF := Lib.hid (HN.out hx)
        have V5 := V1.keep B5 (Nat.le_refl _)
        have B5' := hBw.trans (B5.mono (by omega))
        have x0 : w5.cell? ⟨A, 0, none⟩ = some (.int .i64 0) := V5.cell 0
        have x1 : w5.cell? ⟨A, 1, none⟩ = some (.slice none 0 0) := V5.cell 1
        have x2 : w5.cell? ⟨A, 2, none⟩ = some (.int .i64 0) := V5.cell 2
        have x3 : w5.cell? ⟨A, 3, none⟩ = some (.int .i64 0) := V5.cell 3
        have x4 : w5.cell? ⟨A, 4, none⟩ = some (.slice none 0 0) := V5.cell 4
        have g0 := V5.free 0
        have g1 := V5.free 1
        have g2 := V5.free 2
        have g3 := V5.free 3
        have g4 := V5.free 4
        have hV5 := V5.five (.int .i64 0) (.slice none 0 0) (.int .i64 0) (.int .i64 0) (.slice none 0 0)
        have hB5 := below_five B5' (Nat.le_refl A) (.int .i64 0) (.slice none 0 0) (.int .i64 0) (.int .i64 0) (.slice none 0 0)
        clear HS HN hx hown hB B5 HC c0 V1 hBw V5 B5'
        go_wp2_with fail
        refine bodyPost_ret (retG rfl rfl rfl hV5) rfl ?_
        exact ⟨by rw [HF.out]; exact zero_msg _ 13 0, HA.out ▸ hB5⟩
    · obtain rfl : k = n := by omega
      obtain ⟨oa', cap', rfl, hD, _⟩ := Ls.of_own hlk hown
      have HX : Hid (allO (labelW []) ws = some l) := by
        have e := HO.out
        rw [List.take_of_length_le (by rw [HL.out]; exact Nat.le_refl _)] at e
        exact e
      have HS := labSort_any oa' k cap' l wr hD (by omega)
      clear h1 HZ HO HL hown hD V0 B0 hB
      go_wp2_with fail
      refine HS.mono ?_
      rintro e w5 ⟨⟨ob, m, c, rfl, hLs, hml⟩, B5⟩
      have V5 := V1.keep B5 (Nat.le_refl _)
      have B5' := hBw.trans (B5.mono (by omega))
      have x0 : w5.cell? ⟨A, 0, none⟩ = some (.int .i64 0) := V5.cell 0
      have x1 : w5.cell? ⟨A, 1, none⟩ = some (.slice none 0 0) := V5.cell 1
      have x2 : w5.cell? ⟨A, 2, none⟩ = some (.int .i64 0) := V5.cell 2
      have x3 : w5.cell? ⟨A, 3, none⟩ = some (.int .i64 0) := V5.cell 3
      have x4 : w5.cell? ⟨A, 4, none⟩ = some (.slice none 0 0) := V5.cell 4
      have g0 := V5.free 0
      have g1 := V5.free 1
      have g2 := V5.free 2
      have g3 := V5.free 3
      have g4 := V5.free 4
      by_cases h0 : (sortF l).2 = 0
      · have HF := Lib.hid (alertC_ok (k := q) HX.out h0)
        have hO := MsgOut.five (m := ((q, (sortF l).1, 0, 0, []), 0)) V5 hLs (Ms.nil w5 0 none)
        have HO := Lib.hid hO
        have hB5 := below_five B5' (Nat.le_refl A) (.int .i64 q) (.slice ob m c) (.int .i64 0) (.int .i64 0) (.slice none 0 0)
        have hV5 := V5.five (.int .i64 q) (.slice ob m c) (.int .i64 0) (.int .i64 0) (.slice none 0 0)
        rw [h0]
        clear hO h0 HX hLs B5 V1 hBw V5 B5' HS
        go_wp2_with fail
        refine bodyPost_ret (retG rfl rfl rfl hV5) rfl ?_
        exact ⟨by rw [HF.out]; exact HO.out, HA.out ▸ hB5⟩
      · have HF := Lib.hid (alertC_no (k := q) HX.out h0)
        have hB5 := below_five B5' (Nat.le_refl A) (.int .i64 0) (.slice none 0 0) (.int .i64 0) (.int .i64 0) (.slice none 0 0)
        have hV5 := V5.five (.int .i64 0) (.slice none 0 0) (.int .i64 0) (.int .i64 0) (.slice none 0 0)
        have he : ((sortF l).2 == 0) = false := by simp [h0]
        generalize (sortF l).2 = c2 at *
        clear h0 HX hLs B5 V1 hBw V5 B5' HS
        go_wp2_with fail
        refine bodyPost_ret (retG rfl rfl rfl hV5) rfl ?_
        exact ⟨by rw [HF.out]; exact zero_msg _ c2 0, HA.out ▸ hB5⟩
end Go.Proofs.YtgoefmkfjggnfaaGreatDoor
