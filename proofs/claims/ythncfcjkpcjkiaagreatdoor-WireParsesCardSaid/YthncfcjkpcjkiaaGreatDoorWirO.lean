/-
  The program's own: a message that asks for a hush.
-/
import Derived.Test.YthncfcjkpcjkiaaGreatDoorWirG
namespace Go.Proofs.YthncfcjkpcjkiaaGreatDoor
open Go.RowKit Go.Shelf
set_option linter.unusedVariables false

theorem drop_mem {ws : List (List UInt8)} {k : Nat} {v : List UInt8} (h : v ∈ ws.drop k) : v ∈ ws := List.mem_of_mem_drop h
set_option maxRecDepth 100000 in
set_option maxHeartbeats 12800000 in
theorem parse_hush (oa : Option Addr) (n cap : Nat) (ws : List (List UInt8)) (w : World) (h : Ts w oa n cap (ws.map tx)) (hn : n ≤ 300) (hz : ∀ v ∈ ws, v.length ≤ 1000) (hT : Tabs w) (hcap : cap ≤ maxLen) :
    Calls Tryz.prog 24 #[.slice oa n cap] w fun e w' => MsgOut w' e (hushB ws) ∧ Below w.heap.size w w' := by
  have hl : ws.length = n := by rw [← h.len, List.length_map]
  have hr := h.room
  have V0 := Vals.new w 27 (msgC 0 (.slice none 0 0) 0 0 (.slice none 0 0))
  have B0 := below_alloc w (.cells (msgC 0 (.slice none 0 0) 0 0 (.slice none 0 0)) 27)
  have hT1 := hT.below B0 (Nat.le_refl _)
  have h1 := h.below B0 (Nat.le_refl _)
  have hcap2 : cap ≤ 9223372036854775807 := by unfold maxLen at hcap; omega
  clear hT h hcap
  obtain ⟨A, hA⟩ : ∃ A, A = w.heap.size := ⟨_, rfl⟩
  go_enter Tryz.func24, Tryz.ntmps24
  go_upto_region 1 with fail
  rw [← hA] at V0 B0
  rw [← hA]
  generalize w.alloc (.cells (msgC 0 (.slice none 0 0) 0 0 (.slice none 0 0)) 27) = w1 at *
  have HA := Lib.hid hA
  clear hA
  by_cases h3 : n < 3
  · have HF : Hid (hushB ws = (zMsg, 12)) := hush_few (by omega)
    have x0 : w1.cell? ⟨A, 0, none⟩ = some (.int .i64 0) := V0.cell 0
    have x1 : w1.cell? ⟨A, 1, none⟩ = some (.slice none 0 0) := V0.cell 1
    have x2 : w1.cell? ⟨A, 2, none⟩ = some (.int .i64 0) := V0.cell 2
    have x3 : w1.cell? ⟨A, 3, none⟩ = some (.int .i64 0) := V0.cell 3
    have x4 : w1.cell? ⟨A, 4, none⟩ = some (.slice none 0 0) := V0.cell 4
    have g0 := V0.free 0
    have g1 := V0.free 1
    have g2 := V0.free 2
    have g3 := V0.free 3
    have g4 := V0.free 4
    have hV5 := V0.five (.int .i64 0) (.slice none 0 0) (.int .i64 0) (.int .i64 0) (.slice none 0 0)
    have hB5 := below_five B0 (Nat.le_refl A) (.int .i64 0) (.slice none 0 0) (.int .i64 0) (.int .i64 0) (.slice none 0 0)
    clear V0 B0 hT1 h1 hl hz
    go_wp2_with fail
    refine bodyPost_ret (retG rfl rfl rfl hV5) rfl ?_
    exact ⟨by rw [HF.out]; exact zero_msg _ 12 0, HA.out ▸ hB5⟩
  · have hw3 : ¬ ws.length < 3 := by omega
    obtain ⟨g, o, rfl, c0⟩ := h1.cell 0 (by omega)
    obtain ⟨g', o', e, c1⟩ := h1.cell 1 (by omega)
    cases e
    rw [Nat.add_zero, ws_at ws 0 (by omega)] at c0
    rw [ws_at ws 1 (by omega)] at c1
    have z0 : (tx (ws.getD 0 [])).size ≤ 1000 := by rw [tx_size]; exact hz _ (ws_mem ws 0 (by omega))
    have z1 : (tx (ws.getD 1 [])).size ≤ 1000 := by rw [tx_size]; exact hz _ (ws_mem ws 1 (by omega))
    have H0 := parse_time _ w1 z0 hT1
    have H1 := fun w2 (B : Below w1.heap.size w1 w2) => parse_time _ w2 z1 (hT1.below B (Nat.le_refl _))
    have HM := fun w2 (B : Below w1.heap.size w1 w2) => parse_matchers (some ⟨g, o + 2, none⟩) (n - 2) (cap - 2) (ws.drop 2) w2 (by rw [List.map_drop]; exact (h1.below B (Nat.le_refl _)).dropped 2 (by omega)) (by omega) (fun v hv => hz v (drop_mem hv))
    have HD : Hid ((ws.drop 2).length = n - 2) := by show _ = _; rw [List.length_drop, hl]
    rw [show bs (tx (ws.getD 0 [])) = ws.getD 0 [] from tx_data _] at H0
    rw [show bs (tx (ws.getD 1 [])) = ws.getD 1 [] from tx_data _] at H1
    have F0 : Hid (numB (ws.getD 0 []) = none → hushB ws = (zMsg, 13)) := hush_odd0 hw3
    have F1 : Hid (numB (ws.getD 1 []) = none → hushB ws = (zMsg, 13)) := hush_odd1 hw3
    have F2 : Hid (∀ f t, numB (ws.getD 0 []) = some f → numB (ws.getD 1 []) = some t → hushB ws = match allO askedB (ws.drop 2) with
      | none => (zMsg, 13)
      | some ms => hushE f t ms) := fun f t e0 e1 => hush_ask hw3 e0 e1
    have hsz1 := V0.lt
    generalize tx (ws.getD 0 []) = y0 at *
    generalize tx (ws.getD 1 []) = y1 at *
    generalize ws.getD 0 [] = v0 at *
    generalize ws.getD 1 [] = v1 at *
    generalize allO askedB (ws.drop 2) = mo at *
    clear hz hl hw3 hT1 h1 z0 z1
    go_wp2_with fail
    refine H0.mono ?_
    rintro e w2 ⟨hO0, B2⟩
    have H1 := H1 _ B2
    have V2 := V0.keep B2 (Nat.le_refl _)
    have c1' := keepR B2 c1
    have B2' := B0.trans (B2.mono (by omega))
    have hs2 := V2.lt
    clear H0 c0 c1 V0 B0
    rcases hO0 with ⟨f, hf, rfl⟩ | ⟨hf, rfl⟩
    · go_wp2_with fail
      refine H1.mono ?_
      rintro e w3 ⟨hO1, B3⟩
      have V3 := V2.keep B3 (Nat.le_refl _)
      have B3' := B2'.trans (B3.mono (by omega))
      have HM := HM _ (B2.trans (B3.mono B2.size))
      have hs3 := V3.lt
      clear H1 c1' V2 B2' B2 B3
      rcases hO1 with ⟨t, ht, rfl⟩ | ⟨ht, rfl⟩
      · have F3 := Lib.hid (F2.out f t hf ht)
        clear F0 F1 F2 hf ht
        have hn2 : (2 : Int) ≤ (n : Int) := by omega
        have hnc : (n : Int) ≤ (cap : Int) := by omega
        go_wp2_with fail
        refine HM.mono ?_
        rintro e w4 ⟨hM, B4⟩
        have V4 := V3.keep B4 (Nat.le_refl _)
        have B4' := B3'.trans (B4.mono (by omega))
        have hs4 := V4.lt
        clear HM V3 B3' B4
        rcases hM with ⟨ms, hm, ob, nb, cb, rfl, hMs⟩ | ⟨hm, rfl⟩
        · have hlm := hMs.len
          have F4 : Hid (hushB ws = hushE f t ms) := by show _ = _; rw [F3.out, hm]
          clear F3 hm
          by_cases h4 : 4 < nb
          · have HF : Hid (hushB ws = (zMsg, 2)) := by show _ = _; rw [F4.out]; unfold hushE; rw [if_pos (by omega)]
            have x0 : w4.cell? ⟨A, 0, none⟩ = some (.int .i64 0) := V4.cell 0
            have x1 : w4.cell? ⟨A, 1, none⟩ = some (.slice none 0 0) := V4.cell 1
            have x2 : w4.cell? ⟨A, 2, none⟩ = some (.int .i64 0) := V4.cell 2
            have x3 : w4.cell? ⟨A, 3, none⟩ = some (.int .i64 0) := V4.cell 3
            have x4 : w4.cell? ⟨A, 4, none⟩ = some (.slice none 0 0) := V4.cell 4
            have g0 := V4.free 0
            have g1 := V4.free 1
            have g2 := V4.free 2
            have g3 := V4.free 3
            have g4 := V4.free 4
            have hV5 := V4.five (.int .i64 0) (.slice none 0 0) (.int .i64 0) (.int .i64 0) (.slice none 0 0)
            have hB5 := below_five B4' (Nat.le_refl A) (.int .i64 0) (.slice none 0 0) (.int .i64 0) (.int .i64 0) (.slice none 0 0)
            clear F4 V4 B4' hMs hlm
            go_wp2_with fail
            refine bodyPost_ret (retG rfl rfl rfl hV5) rfl ?_
            exact ⟨by rw [HF.out]; exact zero_msg _ 2 0, HA.out ▸ hB5⟩
          · by_cases hft : f < t
            · have HF : Hid (hushB ws = ((2, [], (f : Int), (t : Int), ms), 0)) := by show _ = _; rw [F4.out]; unfold hushE; rw [if_neg (by omega), if_pos hft]
              have hO := MsgOut.five (m := ((2, [], (f : Int), (t : Int), ms), 0)) V4 (Ls.nil w4 0 none) hMs
              have HO := Lib.hid hO
              clear hO
              have x0 : w4.cell? ⟨A, 0, none⟩ = some (.int .i64 0) := V4.cell 0
              have x1 : w4.cell? ⟨A, 1, none⟩ = some (.slice none 0 0) := V4.cell 1
              have x2 : w4.cell? ⟨A, 2, none⟩ = some (.int .i64 0) := V4.cell 2
              have x3 : w4.cell? ⟨A, 3, none⟩ = some (.int .i64 0) := V4.cell 3
              have x4 : w4.cell? ⟨A, 4, none⟩ = some (.slice none 0 0) := V4.cell 4
              have g0 := V4.free 0
              have g1 := V4.free 1
              have g2 := V4.free 2
              have g3 := V4.free 3
              have g4 := V4.free 4
              have hV5 := V4.five (.int .i64 2) (.slice none 0 0) (.int .i64 (f : Int)) (.int .i64 (t : Int)) (.slice ob nb cb)
              have hB5 := below_five B4' (Nat.le_refl A) (.int .i64 2) (.slice none 0 0) (.int .i64 (f : Int)) (.int .i64 (t : Int)) (.slice ob nb cb)
              clear F4 V4 B4' hMs hlm
              go_wp2_with fail
              refine bodyPost_ret (retG rfl rfl rfl hV5) rfl ?_
              exact ⟨by rw [HF.out]; exact HO.out, HA.out ▸ hB5⟩
            · have HF : Hid (hushB ws = (zMsg, 3)) := by show _ = _; rw [F4.out]; unfold hushE; rw [if_neg (by omega), if_neg hft]
              have x0 : w4.cell? ⟨A, 0, none⟩ = some (.int .i64 0) := V4.cell 0
              have x1 : w4.cell? ⟨A, 1, none⟩ = some (.slice none 0 0) := V4.cell 1
              have x2 : w4.cell? ⟨A, 2, none⟩ = some (.int .i64 0) := V4.cell 2
              have x3 : w4.cell? ⟨A, 3, none⟩ = some (.int .i64 0) := V4.cell 3
              have x4 : w4.cell? ⟨A, 4, none⟩ = some (.slice none 0 0) := V4.cell 4
              have g0 := V4.free 0
              have g1 := V4.free 1
              have g2 := V4.free 2
              have g3 := V4.free 3
              have g4 := V4.free 4
              have hV5 := V4.five (.int .i64 0) (.slice none 0 0) (.int .i64 0) (.int .i64 0) (.slice none 0 0)
              have hB5 := below_five B4' (Nat.le_refl A) (.int .i64 0) (.slice none 0 0) (.int .i64 0) (.int .i64 0) (.slice none 0 0)
              clear F4 V4 B4' hMs hlm
              go_wp2_with fail
              refine bodyPost_ret (retG rfl rfl rfl hV5) rfl ?_
              exact ⟨by rw [HF.out]; exact zero_msg _ 3 0, HA.out ▸ hB5⟩
        · have HF : Hid (hushB ws = (zMsg, 13)) := by show _ = _; rw [F3.out, hm]
          have x0 : w4.cell? ⟨A, 0, none⟩ = some (.int .i64 0) := V4.cell 0
          have x1 : w4.cell? ⟨A, 1, none⟩ = some (.slice none 0 0) := V4.cell 1
          have x2 : w4.cell? ⟨A, 2, none⟩ = some (.int .i64 0) := V4.cell 2
          have x3 : w4.cell? ⟨A, 3, none⟩ = some (.int .i64 0) := V4.cell 3
          have x4 : w4.cell? ⟨A, 4, none⟩ = some (.slice none 0 0) := V4.cell 4
          have g0 := V4.free 0
          have g1 := V4.free 1
          have g2 := V4.free 2
          have g3 := V4.free 3
          have g4 := V4.free 4
          have hV5 := V4.five (.int .i64 0) (.slice none 0 0) (.int .i64 0) (.int .i64 0) (.slice none 0 0)
          have hB5 := below_five B4' (Nat.le_refl A) (.int .i64 0) (.slice none 0 0) (.int .i64 0) (.int .i64 0) (.slice none 0 0)
          clear F3 V4 B4' hm
          go_wp2_with fail
          refine bodyPost_ret (retG rfl rfl rfl hV5) rfl ?_
          exact ⟨by rw [HF.out]; exact zero_msg _ 13 0, HA.out ▸ hB5⟩
      · have HF := Lib.hid (F1.out ht)
        have x0 : w3.cell? ⟨A, 0, none⟩ = some (.int .i64 0) := V3.cell 0
        have x1 : w3.cell? ⟨A, 1, none⟩ = some (.slice none 0 0) := V3.cell 1
        have x2 : w3.cell? ⟨A, 2, none⟩ = some (.int .i64 0) := V3.cell 2
        have x3 : w3.cell? ⟨A, 3, none⟩ = some (.int .i64 0) := V3.cell 3
        have x4 : w3.cell? ⟨A, 4, none⟩ = some (.slice none 0 0) := V3.cell 4
        have g0 := V3.free 0
        have g1 := V3.free 1
        have g2 := V3.free 2
        have g3 := V3.free 3
        have g4 := V3.free 4
        have hV5 := V3.five (.int .i64 0) (.slice none 0 0) (.int .i64 0) (.int .i64 0) (.slice none 0 0)
        have hB5 := below_five B3' (Nat.le_refl A) (.int .i64 0) (.slice none 0 0) (.int .i64 0) (.int .i64 0) (.slice none 0 0)
        clear F0 F1 F2 hf ht V3 B3' HM
        go_wp2_with fail
        refine bodyPost_ret (retG rfl rfl rfl hV5) rfl ?_
        exact ⟨by rw [HF.out]; exact zero_msg _ 13 0, HA.out ▸ hB5⟩
    · go_wp2_with fail
      refine H1.mono ?_
      rintro e w3 ⟨hO1, B3⟩
      have V3 := V2.keep B3 (Nat.le_refl _)
      have B3' := B2'.trans (B3.mono (by omega))
      have HF := Lib.hid (F0.out hf)
      clear H1 c1' V2 B2' B2 B3 HM F0 F1 F2 hf
      rcases hO1 with ⟨t, ht, rfl⟩ | ⟨ht, rfl⟩
      all_goals
        have x0 : w3.cell? ⟨A, 0, none⟩ = some (.int .i64 0) := V3.cell 0
        have x1 : w3.cell? ⟨A, 1, none⟩ = some (.slice none 0 0) := V3.cell 1
        have x2 : w3.cell? ⟨A, 2, none⟩ = some (.int .i64 0) := V3.cell 2
        have x3 : w3.cell? ⟨A, 3, none⟩ = some (.int .i64 0) := V3.cell 3
        have x4 : w3.cell? ⟨A, 4, none⟩ = some (.slice none 0 0) := V3.cell 4
        have g0 := V3.free 0
        have g1 := V3.free 1
        have g2 := V3.free 2
        have g3 := V3.free 3
        have g4 := V3.free 4
        have hV5 := V3.five (.int .i64 0) (.slice none 0 0) (.int .i64 0) (.int .i64 0) (.slice none 0 0)
        have hB5 := below_five B3' (Nat.le_refl A) (.int .i64 0) (.slice none 0 0) (.int .i64 0) (.int .i64 0) (.slice none 0 0)
        clear ht V3 B3'
        go_wp2_with fail
        refine bodyPost_ret (retG rfl rfl rfl hV5) rfl ?_
        exact ⟨by rw [HF.out]; exact zero_msg _ 13 0, HA.out ▸ hB5⟩
end Go.Proofs.YthncfcjkpcjkiaaGreatDoor
