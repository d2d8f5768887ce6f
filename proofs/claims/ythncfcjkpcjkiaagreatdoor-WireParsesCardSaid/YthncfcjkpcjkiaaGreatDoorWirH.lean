/-
  The document's own: what a text says.
-/
import Derived.Test.YthncfcjkpcjkiaaGreatDoorWirF
namespace Go.Proofs.YthncfcjkpcjkiaaGreatDoor
open Go.RowKit Go.Shelf
set_option linter.unusedVariables false

set_option maxRecDepth 100000 in
set_option maxHeartbeats 6400000 in
theorem refParse_any (s : ByteArray) (w : World) (hs : s.size ≤ 1000) :
    Calls Tryz.prog 8 #[.string s] w fun e w' => MsgOut w' e (parseB (bs s)) ∧ Below w.heap.size w w' := by
  have hV0 := Vals.new w 27 (msgC 0 (.slice none 0 0) 0 0 (.slice none 0 0))
  have hB0 := below_alloc w (.cells (msgC 0 (.slice none 0 0) 0 0 (.slice none 0 0)) 27)
  obtain ⟨A, hA⟩ : ∃ A, A = w.heap.size := ⟨_, rfl⟩
  have hsz : (w.alloc (.cells (msgC 0 (.slice none 0 0) 0 0 (.slice none 0 0)) 27)).heap.size = A + 1 := by rw [hA]; simp
  have hAw : w.heap.size ≤ A := by omega
  go_enter Tryz.func8, Tryz.ntmps8
  go_upto_region 1 with fail
  rw [← hA]
  rw [← hA] at hV0
  generalize w.alloc (.cells (msgC 0 (.slice none 0 0) 0 0 (.slice none 0 0)) 27) = w1 at *
  clear hA
  have q0 : w1.cell? ⟨A, 0, none⟩ = some (.int .i64 0) := hV0.cell 0
  have q1 : w1.cell? ⟨A, 1, none⟩ = some (.slice none 0 0) := hV0.cell 1
  have q2 : w1.cell? ⟨A, 2, none⟩ = some (.int .i64 0) := hV0.cell 2
  have q3 : w1.cell? ⟨A, 3, none⟩ = some (.int .i64 0) := hV0.cell 3
  have q4 : w1.cell? ⟨A, 4, none⟩ = some (.slice none 0 0) := hV0.cell 4
  have g0 := hV0.free 0
  have g1 := hV0.free 1
  have g2 := hV0.free 2
  have g3 := hV0.free 3
  have g4 := hV0.free 4
  by_cases hlong : 200 < s.size
  · have HW := Lib.hid (parse_long hlong)
    have hV5 := hV0.five (.int .i64 0) (.slice none 0 0) (.int .i64 0) (.int .i64 0) (.slice none 0 0)
    have hB5 := below_five hB0 hAw (.int .i64 0) (.slice none 0 0) (.int .i64 0) (.int .i64 0) (.slice none 0 0)
    go_wp2_with fail
    refine bodyPost_ret (retG rfl rfl rfl hV5) rfl ?_
    exact ⟨by rw [HW.out]; exact zero_msg _ _ 0, hB5⟩
  have HP := Lib.hid (parse_short hlong)
  have HWo := fun w => refWords_any s w hs
  obtain ⟨hsz1, hsz2⟩ := splitW_sizes (bs s) []
  have hbl : (bs s).length = s.size := by rw [Array.length_toList]; rfl
  have hne := splitW_ne (bs s) []
  have HZ : Hid (∀ v ∈ splitW [] (bs s), v.length ≤ 1000) := fun v hv => by have := hsz1 v hv; simp at this; omega
  have hn201 : (splitW [] (bs s)).length ≤ 300 := by omega
  have hn1 : 1 ≤ (splitW [] (bs s)).length := List.length_pos_iff.2 hne
  clear q0 q1 q2 q3 q4 g0 g1 g2 g3 g4 hsz1 hsz2 hbl hne
  go_wp2_with fail
  refine (HWo _).mono ?_
  rintro e w2 ⟨⟨oa, cap, rfl, hT, hcap, g, rfl, hg⟩, B2⟩
  clear HWo
  generalize splitW [] (bs s) = ws at *
  have hV2 := hV0.keep B2 (Nat.le_refl _)
  have hB2 : Below w.heap.size w w2 := hB0.trans (B2.mono (by omega))
  have hr := hT.room
  obtain ⟨_, _, e0, c0⟩ := hT.cell 0 (by omega)
  cases e0
  rw [ws_at ws 0 (by omega), Nat.add_zero] at c0
  obtain ⟨n, hn⟩ : ∃ n, n = ws.length := ⟨_, rfl⟩
  rw [← hn] at hT hr hn201 hn1 ⊢
  obtain ⟨b1, hb1⟩ : ∃ b : Bool, b = true ↔ ws.getD 0 [] = fireT := ⟨decide (ws.getD 0 [] = fireT), by simp⟩
  obtain ⟨b2, hb2⟩ : ∃ b : Bool, b = true ↔ ws.getD 0 [] = doneT := ⟨decide (ws.getD 0 [] = doneT), by simp⟩
  obtain ⟨b3, hb3⟩ : ∃ b : Bool, b = true ↔ ws.getD 0 [] = hushT := ⟨decide (ws.getD 0 [] = hushT), by simp⟩
  have t1 : ((tx (ws.getD 0 [])).toList == [102, 105, 114, 101]) = b1 := by have h := tx_beq (ws.getD 0 []) fireT b1 hb1; rw [tx_list fireT] at h; exact h
  have t2 : ((tx (ws.getD 0 [])).toList == [100, 111, 110, 101]) = b2 := by have h := tx_beq (ws.getD 0 []) doneT b2 hb2; rw [tx_list doneT] at h; exact h
  have t3 : ((tx (ws.getD 0 [])).toList == [104, 117, 115, 104]) = b3 := by have h := tx_beq (ws.getD 0 []) hushT b3 hb3; rw [tx_list hushT] at h; exact h
  have HF1 := Lib.hid (fun h => words_fire (ws := ws) (hb1.1 h))
  have HF2 := Lib.hid (fun h => words_done (ws := ws) (hb2.1 h))
  have HF3 := Lib.hid (fun h => words_hush (ws := ws) (hb3.1 h))
  have HF4 := Lib.hid (fun h1 h2 h3 => words_odd (ws := ws) h1 h2 h3)
  have Hb1 := Lib.hid hb1
  have Hb2 := Lib.hid hb2
  have Hb3 := Lib.hid hb3
  have q0 : w2.cell? ⟨A, 0, none⟩ = some (.int .i64 0) := hV2.cell 0
  have q1 : w2.cell? ⟨A, 1, none⟩ = some (.slice none 0 0) := hV2.cell 1
  have q2 : w2.cell? ⟨A, 2, none⟩ = some (.int .i64 0) := hV2.cell 2
  have q3 : w2.cell? ⟨A, 3, none⟩ = some (.int .i64 0) := hV2.cell 3
  have q4 : w2.cell? ⟨A, 4, none⟩ = some (.slice none 0 0) := hV2.cell 4
  have g0 := hV2.free 0
  have g1 := hV2.free 1
  have g2 := hV2.free 2
  have g3 := hV2.free 3
  have g4 := hV2.free 4
  clear hb1 hb2 hb3 hn hV0 hB0 hlong hs hcap hg B2
  by_cases hc1 : cap = 1
  · subst hc1
    obtain rfl : n = 1 := by omega
    have hTt : Ts w2 (some ⟨g, 0, none⟩) (1 - 1) (1 - 1) (((ws.map tx)).drop 1) := hT.tail hn1 _ (by rw [if_pos rfl])
    rw [← List.map_drop] at hTt
    have HZ2 : Hid (∀ v ∈ ws.drop 1, v.length ≤ 1000) := fun v hv => HZ.out v (List.mem_of_mem_drop hv)
    have HAl := fun q => refAlert_any q _ (1 - 1) _ (ws.drop 1) w2 hTt (by omega) HZ2.out
    have HHu := refHush_any _ (1 - 1) _ (ws.drop 1) w2 hTt (by omega) HZ2.out
    simp only [Nat.sub_self] at HAl HHu
    clear hT hTt HZ HZ2
    generalize ws.getD 0 [] = v0 at *
    cases b1 with
    | true =>
      have HW : Hid (parseB (bs s) = alertB 0 (ws.drop 1)) := by show _ = _; rw [HP.out]; exact HF1.out rfl
      clear HP HF1 HF2 HF3 HF4 Hb1 Hb2 Hb3
      go_wp2_with fail
      refine (HAl 0).mono ?_
      rintro e w3 ⟨⟨pa, n1, c1, pb, n2, c2, rfl, hL, hM⟩, B3⟩
      have hV3 := hV2.keep B3 (Nat.le_refl _)
      have hB3 := hB2.trans (B3.mono hB2.size)
      skip
      generalize alertB 0 (ws.drop 1) = M at *
      obtain ⟨⟨mk, ml, mf, mt, mm⟩, me⟩ := M
      dsimp only at hL hM
      have hO := MsgOut.five (m := ((mk, ml, mf, mt, mm), me)) hV3 hL hM
      have hV5 := hV3.five (.int .i64 mk) (.slice pa n1 c1) (.int .i64 mf) (.int .i64 mt) (.slice pb n2 c2)
      have hB5 := below_five hB3 hAw (.int .i64 mk) (.slice pa n1 c1) (.int .i64 mf) (.int .i64 mt) (.slice pb n2 c2)
      dsimp only at hO
      have q0 : w3.cell? ⟨A, 0, none⟩ = some (.int .i64 0) := hV3.cell 0
      have q1 : w3.cell? ⟨A, 1, none⟩ = some (.slice none 0 0) := hV3.cell 1
      have q2 : w3.cell? ⟨A, 2, none⟩ = some (.int .i64 0) := hV3.cell 2
      have q3 : w3.cell? ⟨A, 3, none⟩ = some (.int .i64 0) := hV3.cell 3
      have q4 : w3.cell? ⟨A, 4, none⟩ = some (.slice none 0 0) := hV3.cell 4
      have g0 := hV3.free 0
      have g1 := hV3.free 1
      have g2 := hV3.free 2
      have g3 := hV3.free 3
      have g4 := hV3.free 4
      have HO := Lib.hid hO
      clear HAl HHu hL hM hV3 hB3 hO B3
      go_wp2_with fail
      refine bodyPost_ret (retG rfl rfl rfl hV5) rfl ?_
      exact ⟨by rw [HW.out]; exact HO.out, hB5⟩
    | false =>
      cases b2 with
      | true =>
        have HW : Hid (parseB (bs s) = alertB 1 (ws.drop 1)) := by show _ = _; rw [HP.out]; exact HF2.out rfl
        clear HP HF1 HF2 HF3 HF4 Hb1 Hb2 Hb3
        go_wp2_with fail
        refine (HAl 1).mono ?_
        rintro e w3 ⟨⟨pa, n1, c1, pb, n2, c2, rfl, hL, hM⟩, B3⟩
        have hV3 := hV2.keep B3 (Nat.le_refl _)
        have hB3 := hB2.trans (B3.mono hB2.size)
        skip
        generalize alertB 1 (ws.drop 1) = M at *
        obtain ⟨⟨mk, ml, mf, mt, mm⟩, me⟩ := M
        dsimp only at hL hM
        have hO := MsgOut.five (m := ((mk, ml, mf, mt, mm), me)) hV3 hL hM
        have hV5 := hV3.five (.int .i64 mk) (.slice pa n1 c1) (.int .i64 mf) (.int .i64 mt) (.slice pb n2 c2)
        have hB5 := below_five hB3 hAw (.int .i64 mk) (.slice pa n1 c1) (.int .i64 mf) (.int .i64 mt) (.slice pb n2 c2)
        dsimp only at hO
        have q0 : w3.cell? ⟨A, 0, none⟩ = some (.int .i64 0) := hV3.cell 0
        have q1 : w3.cell? ⟨A, 1, none⟩ = some (.slice none 0 0) := hV3.cell 1
        have q2 : w3.cell? ⟨A, 2, none⟩ = some (.int .i64 0) := hV3.cell 2
        have q3 : w3.cell? ⟨A, 3, none⟩ = some (.int .i64 0) := hV3.cell 3
        have q4 : w3.cell? ⟨A, 4, none⟩ = some (.slice none 0 0) := hV3.cell 4
        have g0 := hV3.free 0
        have g1 := hV3.free 1
        have g2 := hV3.free 2
        have g3 := hV3.free 3
        have g4 := hV3.free 4
        have HO := Lib.hid hO
        clear HAl HHu hL hM hV3 hB3 hO B3
        go_wp2_with fail
        refine bodyPost_ret (retG rfl rfl rfl hV5) rfl ?_
        exact ⟨by rw [HW.out]; exact HO.out, hB5⟩
      | false =>
        cases b3 with
        | true =>
          have HW : Hid (parseB (bs s) = hushB (ws.drop 1)) := by show _ = _; rw [HP.out]; exact HF3.out rfl
          clear HP HF1 HF2 HF3 HF4 Hb1 Hb2 Hb3
          go_wp2_with fail
          refine (HHu).mono ?_
          rintro e w3 ⟨⟨pa, n1, c1, pb, n2, c2, rfl, hL, hM⟩, B3⟩
          have hV3 := hV2.keep B3 (Nat.le_refl _)
          have hB3 := hB2.trans (B3.mono hB2.size)
          skip
          generalize hushB (ws.drop 1) = M at *
          obtain ⟨⟨mk, ml, mf, mt, mm⟩, me⟩ := M
          dsimp only at hL hM
          have hO := MsgOut.five (m := ((mk, ml, mf, mt, mm), me)) hV3 hL hM
          have hV5 := hV3.five (.int .i64 mk) (.slice pa n1 c1) (.int .i64 mf) (.int .i64 mt) (.slice pb n2 c2)
          have hB5 := below_five hB3 hAw (.int .i64 mk) (.slice pa n1 c1) (.int .i64 mf) (.int .i64 mt) (.slice pb n2 c2)
          dsimp only at hO
          have q0 : w3.cell? ⟨A, 0, none⟩ = some (.int .i64 0) := hV3.cell 0
          have q1 : w3.cell? ⟨A, 1, none⟩ = some (.slice none 0 0) := hV3.cell 1
          have q2 : w3.cell? ⟨A, 2, none⟩ = some (.int .i64 0) := hV3.cell 2
          have q3 : w3.cell? ⟨A, 3, none⟩ = some (.int .i64 0) := hV3.cell 3
          have q4 : w3.cell? ⟨A, 4, none⟩ = some (.slice none 0 0) := hV3.cell 4
          have g0 := hV3.free 0
          have g1 := hV3.free 1
          have g2 := hV3.free 2
          have g3 := hV3.free 3
          have g4 := hV3.free 4
          have HO := Lib.hid hO
          clear HAl HHu hL hM hV3 hB3 hO B3
          go_wp2_with fail
          refine bodyPost_ret (retG rfl rfl rfl hV5) rfl ?_
          exact ⟨by rw [HW.out]; exact HO.out, hB5⟩
        | false =>
          have HW : Hid (parseB (bs s) = (zMsg, 10)) := by
            show _ = _
            rw [HP.out]
            exact HF4.out (fun e => absurd (Hb1.out.2 e) (by simp)) (fun e => absurd (Hb2.out.2 e) (by simp)) (fun e => absurd (Hb3.out.2 e) (by simp))
          have hV5 := hV2.five (.int .i64 0) (.slice none 0 0) (.int .i64 0) (.int .i64 0) (.slice none 0 0)
          have hB5 := below_five hB2 hAw (.int .i64 0) (.slice none 0 0) (.int .i64 0) (.int .i64 0) (.slice none 0 0)
          clear HP HF1 HF2 HF3 HF4 Hb1 Hb2 Hb3 HAl HHu
          go_wp2_with fail
          refine bodyPost_ret (retG rfl rfl rfl hV5) rfl ?_
          exact ⟨by rw [HW.out]; exact zero_msg _ _ 0, hB5⟩
  · have hc0 : (cap : Int) ≠ 1 := by omega
    have hTt : Ts w2 (some ⟨g, 1, none⟩) (n - 1) (cap - 1) (((ws.map tx)).drop 1) := hT.tail hn1 _ (by rw [if_neg hc1])
    rw [← List.map_drop] at hTt
    have HZ2 : Hid (∀ v ∈ ws.drop 1, v.length ≤ 1000) := fun v hv => HZ.out v (List.mem_of_mem_drop hv)
    have HAl := fun q => refAlert_any q _ (n - 1) _ (ws.drop 1) w2 hTt (by omega) HZ2.out
    have HHu := refHush_any _ (n - 1) _ (ws.drop 1) w2 hTt (by omega) HZ2.out
    clear hT hTt HZ HZ2
    generalize ws.getD 0 [] = v0 at *
    cases b1 with
    | true =>
      have HW : Hid (parseB (bs s) = alertB 0 (ws.drop 1)) := by show _ = _; rw [HP.out]; exact HF1.out rfl
      clear HP HF1 HF2 HF3 HF4 Hb1 Hb2 Hb3
      go_wp2_with fail
      refine (HAl 0).mono ?_
      rintro e w3 ⟨⟨pa, n1, c1, pb, n2, c2, rfl, hL, hM⟩, B3⟩
      have hV3 := hV2.keep B3 (Nat.le_refl _)
      have hB3 := hB2.trans (B3.mono hB2.size)
      skip
      generalize alertB 0 (ws.drop 1) = M at *
      obtain ⟨⟨mk, ml, mf, mt, mm⟩, me⟩ := M
      dsimp only at hL hM
      have hO := MsgOut.five (m := ((mk, ml, mf, mt, mm), me)) hV3 hL hM
      have hV5 := hV3.five (.int .i64 mk) (.slice pa n1 c1) (.int .i64 mf) (.int .i64 mt) (.slice pb n2 c2)
      have hB5 := below_five hB3 hAw (.int .i64 mk) (.slice pa n1 c1) (.int .i64 mf) (.int .i64 mt) (.slice pb n2 c2)
      dsimp only at hO
      have q0 : w3.cell? ⟨A, 0, none⟩ = some (.int .i64 0) := hV3.cell 0
      have q1 : w3.cell? ⟨A, 1, none⟩ = some (.slice none 0 0) := hV3.cell 1
      have q2 : w3.cell? ⟨A, 2, none⟩ = some (.int .i64 0) := hV3.cell 2
      have q3 : w3.cell? ⟨A, 3, none⟩ = some (.int .i64 0) := hV3.cell 3
      have q4 : w3.cell? ⟨A, 4, none⟩ = some (.slice none 0 0) := hV3.cell 4
      have g0 := hV3.free 0
      have g1 := hV3.free 1
      have g2 := hV3.free 2
      have g3 := hV3.free 3
      have g4 := hV3.free 4
      have HO := Lib.hid hO
      clear HAl HHu hL hM hV3 hB3 hO B3
      go_wp2_with fail
      refine bodyPost_ret (retG rfl rfl rfl hV5) rfl ?_
      exact ⟨by rw [HW.out]; exact HO.out, hB5⟩
    | false =>
      cases b2 with
      | true =>
        have HW : Hid (parseB (bs s) = alertB 1 (ws.drop 1)) := by show _ = _; rw [HP.out]; exact HF2.out rfl
        clear HP HF1 HF2 HF3 HF4 Hb1 Hb2 Hb3
        go_wp2_with fail
        refine (HAl 1).mono ?_
        rintro e w3 ⟨⟨pa, n1, c1, pb, n2, c2, rfl, hL, hM⟩, B3⟩
        have hV3 := hV2.keep B3 (Nat.le_refl _)
        have hB3 := hB2.trans (B3.mono hB2.size)
        skip
        generalize alertB 1 (ws.drop 1) = M at *
        obtain ⟨⟨mk, ml, mf, mt, mm⟩, me⟩ := M
        dsimp only at hL hM
        have hO := MsgOut.five (m := ((mk, ml, mf, mt, mm), me)) hV3 hL hM
        have hV5 := hV3.five (.int .i64 mk) (.slice pa n1 c1) (.int .i64 mf) (.int .i64 mt) (.slice pb n2 c2)
        have hB5 := below_five hB3 hAw (.int .i64 mk) (.slice pa n1 c1) (.int .i64 mf) (.int .i64 mt) (.slice pb n2 c2)
        dsimp only at hO
        have q0 : w3.cell? ⟨A, 0, none⟩ = some (.int .i64 0) := hV3.cell 0
        have q1 : w3.cell? ⟨A, 1, none⟩ = some (.slice none 0 0) := hV3.cell 1
        have q2 : w3.cell? ⟨A, 2, none⟩ = some (.int .i64 0) := hV3.cell 2
        have q3 : w3.cell? ⟨A, 3, none⟩ = some (.int .i64 0) := hV3.cell 3
        have q4 : w3.cell? ⟨A, 4, none⟩ = some (.slice none 0 0) := hV3.cell 4
        have g0 := hV3.free 0
        have g1 := hV3.free 1
        have g2 := hV3.free 2
        have g3 := hV3.free 3
        have g4 := hV3.free 4
        have HO := Lib.hid hO
        clear HAl HHu hL hM hV3 hB3 hO B3
        go_wp2_with fail
        refine bodyPost_ret (retG rfl rfl rfl hV5) rfl ?_
        exact ⟨by rw [HW.out]; exact HO.out, hB5⟩
      | false =>
        cases b3 with
        | true =>
          have HW : Hid (parseB (bs s) = hushB (ws.drop 1)) := by show _ = _; rw [HP.out]; exact HF3.out rfl
          clear HP HF1 HF2 HF3 HF4 Hb1 Hb2 Hb3
          go_wp2_with fail
          refine (HHu).mono ?_
          rintro e w3 ⟨⟨pa, n1, c1, pb, n2, c2, rfl, hL, hM⟩, B3⟩
          have hV3 := hV2.keep B3 (Nat.le_refl _)
          have hB3 := hB2.trans (B3.mono hB2.size)
          skip
          generalize hushB (ws.drop 1) = M at *
          obtain ⟨⟨mk, ml, mf, mt, mm⟩, me⟩ := M
          dsimp only at hL hM
          have hO := MsgOut.five (m := ((mk, ml, mf, mt, mm), me)) hV3 hL hM
          have hV5 := hV3.five (.int .i64 mk) (.slice pa n1 c1) (.int .i64 mf) (.int .i64 mt) (.slice pb n2 c2)
          have hB5 := below_five hB3 hAw (.int .i64 mk) (.slice pa n1 c1) (.int .i64 mf) (.int .i64 mt) (.slice pb n2 c2)
          dsimp only at hO
          have q0 : w3.cell? ⟨A, 0, none⟩ = some (.int .i64 0) := hV3.cell 0
          have q1 : w3.cell? ⟨A, 1, none⟩ = some (.slice none 0 0) := hV3.cell 1
          have q2 : w3.cell? ⟨A, 2, none⟩ = some (.int .i64 0) := hV3.cell 2
          have q3 : w3.cell? ⟨A, 3, none⟩ = some (.int .i64 0) := hV3.cell 3
          have q4 : w3.cell? ⟨A, 4, none⟩ = some (.slice none 0 0) := hV3.cell 4
          have g0 := hV3.free 0
          have g1 := hV3.free 1
          have g2 := hV3.free 2
          have g3 := hV3.free 3
          have g4 := hV3.free 4
          have HO := Lib.hid hO
          clear HAl HHu hL hM hV3 hB3 hO B3
          go_wp2_with fail
          refine bodyPost_ret (retG rfl rfl rfl hV5) rfl ?_
          exact ⟨by rw [HW.out]; exact HO.out, hB5⟩
        | false =>
          have HW : Hid (parseB (bs s) = (zMsg, 10)) := by
            show _ = _
            rw [HP.out]
            exact HF4.out (fun e => absurd (Hb1.out.2 e) (by simp)) (fun e => absurd (Hb2.out.2 e) (by simp)) (fun e => absurd (Hb3.out.2 e) (by simp))
          have hV5 := hV2.five (.int .i64 0) (.slice none 0 0) (.int .i64 0) (.int .i64 0) (.slice none 0 0)
          have hB5 := below_five hB2 hAw (.int .i64 0) (.slice none 0 0) (.int .i64 0) (.int .i64 0) (.slice none 0 0)
          clear HP HF1 HF2 HF3 HF4 Hb1 Hb2 Hb3 HAl HHu
          go_wp2_with fail
          refine bodyPost_ret (retG rfl rfl rfl hV5) rfl ?_
          exact ⟨by rw [HW.out]; exact zero_msg _ _ 0, hB5⟩
end Go.Proofs.YthncfcjkpcjkiaaGreatDoor
