/-
  The document's own: a message that asks for a hush.
-/
import Derived.Test.YthncfcjkpcjkiaaGreatDoorWirE
namespace Go.Proofs.YthncfcjkpcjkiaaGreatDoor
open Go.RowKit Go.Shelf
set_option linter.unusedVariables false

set_option maxRecDepth 100000 in
set_option maxHeartbeats 12800000 in
theorem refHush_any (oa : Option Addr) (n cap : Nat) (ws : List (List UInt8)) (w : World) (h : Ts w oa n cap (ws.map tx)) (hn : n ≤ 300) (hz : ∀ v ∈ ws, v.length ≤ 1000) :
    Calls Tryz.prog 27 #[.slice oa n cap] w fun e w' => MsgOut w' e (hushB ws) ∧ Below w.heap.size w w' := by
  have hl : ws.length = n := by rw [← h.len, List.length_map]
  have hr := h.room
  have hV0 := Vals.new w 27 (msgC 0 (.slice none 0 0) 0 0 (.slice none 0 0))
  have hB0 := below_alloc w (.cells (msgC 0 (.slice none 0 0) 0 0 (.slice none 0 0)) 27)
  have hT0 := h.below hB0 (Nat.le_refl _)
  have HZ := Lib.hid hz
  have HL := Lib.hid hl
  clear h hz
  obtain ⟨A, hA⟩ : ∃ A, A = w.heap.size := ⟨_, rfl⟩
  have hsz : (w.alloc (.cells (msgC 0 (.slice none 0 0) 0 0 (.slice none 0 0)) 27)).heap.size = A + 1 := by rw [hA]; simp
  have hAw : w.heap.size ≤ A := by omega
  go_enter Tryz.func27, Tryz.ntmps27
  go_upto_region 1 with fail
  rw [← hA]
  rw [← hA] at hV0
  generalize w.alloc (.cells (msgC 0 (.slice none 0 0) 0 0 (.slice none 0 0)) 27) = w1 at *
  clear hA
  by_cases h3 : n < 3
  · have HW := Lib.hid (hush_few (ws := ws) (by omega))
    have hV5 := hV0.five (.int .i64 0) (.slice none 0 0) (.int .i64 0) (.int .i64 0) (.slice none 0 0)
    have hB5 := below_five hB0 hAw (.int .i64 0) (.slice none 0 0) (.int .i64 0) (.int .i64 0) (.slice none 0 0)
    have q0 : w1.cell? ⟨A, 0, none⟩ = some (.int .i64 0) := hV0.cell 0
    have q1 : w1.cell? ⟨A, 1, none⟩ = some (.slice none 0 0) := hV0.cell 1
    have q2 : w1.cell? ⟨A, 2, none⟩ = some (.int .i64 0) := hV0.cell 2
    have q3 : w1.cell? ⟨A, 3, none⟩ = some (.int .i64 0) := hV0.cell 3
    have q4 : w1.cell? ⟨A, 4, none⟩ = some (.slice none 0 0) := hV0.cell 4
    have g0 := hV0.free 0
    have g1 := hV0.free 1
    have g2 := hV0.free 2
    have g3 := hV0.free 3
    have g4 := hV0.free 4
    clear hl hT0 hV0
    go_wp2_with fail
    refine bodyPost_ret (retG rfl rfl rfl hV5) rfl ?_
    exact ⟨by rw [HW.out]; exact zero_msg _ _ 0, hB5⟩
  obtain ⟨g, o, rfl, c0⟩ := hT0.cell 0 (by omega)
  obtain ⟨_, _, e1, c1⟩ := hT0.cell 1 (by omega)
  cases e1
  rw [ws_at ws 0 (by omega), Nat.add_zero] at c0
  rw [ws_at ws 1 (by omega)] at c1
  have hz0 := HZ.out _ (ws_mem ws 0 (by omega))
  have hz1 := HZ.out _ (ws_mem ws 1 (by omega))
  have hn0 : (0 : Int) < (n : Int) := by omega
  have hn1 : (1 : Int) < (n : Int) := by omega
  have HO0 := Lib.hid (fun h0 => hush_odd0 (ws := ws) (by omega) h0)
  have HO1 := Lib.hid (fun h1 => hush_odd1 (ws := ws) (by omega) h1)
  have HK := Lib.hid (fun f t h0 h1 => hush_ask (ws := ws) (f := f) (t := t) (by omega) h0 h1)
  have HN0 := fun w => refNumber_any (tx (ws.getD 0 [])) w (by rw [tx_size]; omega)
  have HN1 := fun w => refNumber_any (tx (ws.getD 1 [])) w (by rw [tx_size]; omega)
  rw [show bs (tx (ws.getD 0 [])) = ws.getD 0 [] from tx_data _] at HN0
  rw [show bs (tx (ws.getD 1 [])) = ws.getD 1 [] from tx_data _] at HN1
  generalize ws.getD 0 [] = v0 at *
  generalize ws.getD 1 [] = v1 at *
  clear hl
  go_wp2_with fail
  refine (HN0 _).mono ?_
  rintro e w2 ⟨out0, B2⟩
  have c1' := keepR B2 c1
  have hV2 := hV0.keep B2 (Nat.le_refl _)
  have hB2 : Below w1.heap.size w1 w2 := B2
  have hn2 : ∃ (f0 : Int) (b0 : Bool), e = .returned (.tuple #[.int .i64 f0, .bool b0]) ∧ ((∃ f : Nat, numB v0 = some f ∧ f0 = (f : Int) ∧ b0 = true) ∨ (numB v0 = none ∧ b0 = false)) := by
    rcases out0 with ⟨f, hf, rfl⟩ | ⟨hf, f, rfl⟩
    · exact ⟨_, _, rfl, .inl ⟨f, hf, rfl, rfl⟩⟩
    · exact ⟨_, _, rfl, .inr ⟨hf, rfl⟩⟩
  obtain ⟨f0, b0, rfl, hf0⟩ := hn2
  have HF0 := Lib.hid hf0
  clear out0 hf0 HN0
  go_wp2_with fail
  refine (HN1 _).mono ?_
  rintro e w3 ⟨out1, B3⟩
  have hV3 := hV2.keep B3 (Nat.le_refl _)
  have hB3 : Below w1.heap.size w1 w3 := hB2.trans (B3.mono hB2.size)
  have hn3 : ∃ (t0 : Int) (b1 : Bool), e = .returned (.tuple #[.int .i64 t0, .bool b1]) ∧ ((∃ t : Nat, numB v1 = some t ∧ t0 = (t : Int) ∧ b1 = true) ∨ (numB v1 = none ∧ b1 = false)) := by
    rcases out1 with ⟨f, hf, rfl⟩ | ⟨hf, f, rfl⟩
    · exact ⟨_, _, rfl, .inl ⟨f, hf, rfl, rfl⟩⟩
    · exact ⟨_, _, rfl, .inr ⟨hf, rfl⟩⟩
  obtain ⟨t0, b1, rfl, hf1⟩ := hn3
  have HF1 := Lib.hid hf1
  clear out1 hf1 HN1 c1' hB2 B2 B3 hV2
  have q0 : w3.cell? ⟨A, 0, none⟩ = some (.int .i64 0) := hV3.cell 0
  have q1 : w3.cell? ⟨A, 1, none⟩ = some (.slice none 0 0) := hV3.cell 1
  have q2 : w3.cell? ⟨A, 2, none⟩ = some (.int .i64 0) := hV3.cell 2
  have q3 : w3.cell? ⟨A, 3, none⟩ = some (.int .i64 0) := hV3.cell 3
  have q4 : w3.cell? ⟨A, 4, none⟩ = some (.slice none 0 0) := hV3.cell 4
  have g0 := hV3.free 0
  have g1 := hV3.free 1
  have g2 := hV3.free 2
  have g3 := hV3.free 3
  have g4 := hV3.free 4
  have hV5 := hV3.five (.int .i64 0) (.slice none 0 0) (.int .i64 0) (.int .i64 0) (.slice none 0 0)
  have hB5 := below_five (hB0.trans (hB3.mono (by omega))) hAw (.int .i64 0) (.slice none 0 0) (.int .i64 0) (.int .i64 0) (.slice none 0 0)
  cases b0 with
  | false =>
    have HW : Hid (hushB ws = (zMsg, 13)) := by
      rcases HF0.out with ⟨_, _, _, h⟩ | ⟨h, _⟩
      · cases h
      · exact HO0.out h
    go_wp2_with fail
    refine bodyPost_ret (retG rfl rfl rfl hV5) rfl ?_
    exact ⟨by rw [HW.out]; exact zero_msg _ _ 0, hB5⟩
  | true =>
    cases b1 with
    | false =>
      have HW : Hid (hushB ws = (zMsg, 13)) := by
        rcases HF1.out with ⟨_, _, _, h⟩ | ⟨h, _⟩
        · cases h
        · exact HO1.out h
      go_wp2_with fail
      refine bodyPost_ret (retG rfl rfl rfl hV5) rfl ?_
      exact ⟨by rw [HW.out]; exact zero_msg _ _ 0, hB5⟩
    | true =>
      obtain ⟨f, hf, rfl⟩ : ∃ f : Nat, numB v0 = some f ∧ f0 = (f : Int) := by
        rcases HF0.out with ⟨f, h1, h2, _⟩ | ⟨_, h⟩
        · exact ⟨f, h1, h2⟩
        · cases h
      obtain ⟨t, ht, rfl⟩ : ∃ t : Nat, numB v1 = some t ∧ t0 = (t : Int) := by
        rcases HF1.out with ⟨f, h1, h2, _⟩ | ⟨_, h⟩
        · exact ⟨f, h1, h2⟩
        · cases h
      have HKK := Lib.hid (HK.out f t hf ht)
      have zf := (numB_some hf).2
      have zt := (numB_some ht).2
      unfold topT at zf zt
      clear hf ht HK HF0 HF1 HO0 HO1 q0 q1 q2 q3 q4 g0 g1 g2 g3 g4 hV5 hB5
      go_wp2_with fail
      have hT3 := (hT0.below hB3 (Nat.le_refl _)).dropped 2 (by omega)
      rw [← List.map_drop] at hT3
      have hl2 : (ws.drop 2).length = n - 2 := by rw [List.length_drop, HL.out]
      have HZ2 : Hid (∀ v ∈ ws.drop 2, v.length ≤ 1000) := fun v hv => HZ.out v (List.mem_of_mem_drop hv)
      have hH0 := Vals.new w3 25 #[.int .i64 (f : Int), .int .i64 (t : Int), .slice none 0 0]
      have hBH := below_alloc w3 (.cells #[.int .i64 (f : Int), .int .i64 (t : Int), .slice none 0 0] 25)
      have hsH : (w3.alloc (.cells #[.int .i64 (f : Int), .int .i64 (t : Int), .slice none 0 0] 25)).heap.size = w3.heap.size + 1 := by simp
      have hAH : A < w3.heap.size := hV3.lt
      have hB03 : Below w.heap.size w w3 := hB0.trans (hB3.mono (by omega))
      obtain ⟨H, hH⟩ : ∃ H, H = w3.heap.size := ⟨_, rfl⟩
      rw [← hH] at hH0 hBH hsH hAH ⊢
      have hT3H : ∀ wr, Below H w3 wr → Ts wr (some ⟨g, o + 2, none⟩) (n - 2) (cap - 2) ((ws.drop 2).map tx) := fun wr hB => hT3.below hB (by omega)
      have hV3H : ∀ wr, Below H w3 wr → Vals wr A 27 (msgC 0 (.slice none 0 0) 0 0 (.slice none 0 0)) := fun wr hB => hV3.keep hB (by omega)
      have hwH : w.heap.size ≤ H := by omega
      generalize w3.alloc (.cells #[.int .i64 (f : Int), .int .i64 (t : Int), .slice none 0 0] 25) = w4 at *
      have hm2 : n - 2 ≤ 300 := by omega
      have hmc : n - 2 ≤ cap - 2 := by omega
      clear hT0 hT3 hV0 hV3 hB3 hB0 hsz hH c0 c1 hz0 hz1 hn0 hn1 HZ HL hr hn h3
      generalize ws.drop 2 = vs at *
      generalize n - 2 = m at *
      generalize cap - 2 = cm at *
      generalize o + 2 = o2 at *
      go_loopw [44] (fun s44 wr => ∃ (k : Nat) (l : List M3) (v : Value), k ≤ m ∧ s44 = .int .i64 k ∧ Vals wr H 25 #[.int .i64 (f : Int), .int .i64 (t : Int), v] ∧ wr.ownsRow (H + 1) 32 3 v k (cellsM l) ∧ l.length = k ∧ Below H w3 wr ∧ Hid (allO askedB (vs.take k) = some l)) (fun s44 _ => m - (intOf s44).toNat)
      case atStart => exact ⟨0, [], .slice none 0 0, Nat.zero_le _, rfl, hH0, World.ownsRow_nil _ _ _ _, rfl, hBH, rfl⟩
      case round =>
        obtain ⟨k, l, v, hk, rfl, hVH, hown, hlk, hB, HO⟩ := hrel
        clear hH0 hBH hsH
        have hT := hT3H _ hB
        have hV := hV3H _ hB
        have hzr := hVH.lt
        by_cases hlt : k < m
        · obtain ⟨g', o', e', c0⟩ := hT.cell k hlt
          cases e'
          have hkw : k < vs.length := by rw [hl2]; exact hlt
          rw [ws_at vs k hkw] at c0
          have HN := Lib.hid (ws_next vs k hkw)
          have hzk := HZ2.out _ (ws_mem vs k hkw)
          generalize vs.getD k [] = y at *
          have HAs := fun w => refAsked_any (tx y) w (by rw [tx_size]; exact hzk)
          have hby : bs (tx y) = y := tx_data y
          rw [hby] at HAs
          clear hkw hby
          go_wp2_with fail
          refine (HAs _).mono ?_
          rintro e w5 ⟨hout, B5⟩
          have hV5 := hV.keep B5 (Nat.le_refl _)
          have hVH5 := hVH.keep B5 (Nat.le_refl _)
          have hB5 : Below H w3 w5 := hB.trans (B5.mono (by omega))
          have hown5 := own_keep hown B5
          have hz5 := B5.size
          rcases hout with ⟨x, hx, rfl⟩ | ⟨hx, x, rfl⟩
          · have HX := Lib.hid hx
            clear hx HAs
            obtain ⟨q, u, s⟩ := x
            dsimp only [aggM]
            have hone := Ms.one (w5.alloc (.cells #[.int .i64 q, .string u, .string s] 32)) (q, u, s)
            rw [show (w5.alloc (.cells #[.int .i64 q, .string u, .string s] 32)).heap.size = w5.heap.size + 1 by simp] at hone
            have e0 : (w5.alloc (.cells #[.int .i64 q, .string u, .string s] 32)).cell? ⟨w5.heap.size, 0, none⟩ = some (.int .i64 q) := by simp
            have e1 : (w5.alloc (.cells #[.int .i64 q, .string u, .string s] 32)).cell? ⟨w5.heap.size, 1, none⟩ = some (.string u) := by simp
            have e2 : (w5.alloc (.cells #[.int .i64 q, .string u, .string s] 32)).cell? ⟨w5.heap.size, 2, none⟩ = some (.string s) := by simp
            have k2 : (w5.alloc (.cells #[.int .i64 q, .string u, .string s] 32)).cell? ⟨H, 2, none⟩ = some v := (hVH5.alloc _).cell 2
            have hVH7 := (hVH5.alloc (.cells #[.int .i64 q, .string u, .string s] 32)).alloc (.cells #[.int .i64 q, .string u, .string s] 32)
            have hBH7 := (hB5.alloc (by omega) (.cells #[.int .i64 q, .string u, .string s] 32)).alloc (by simp <;> omega) (.cells #[.int .i64 q, .string u, .string s] 32)
            have HO2 : Hid (allO askedB (vs.take (k + 1)) = some (l ++ [(q, u, s)])) := by
              show _ = _
              rw [HN.out, allO_snoc, HO.out, HX.out]
              rfl
            go_wp2_with (first | (at_builtin; refine wpList_append_ms _ rfl (.tmp 57) (.tmp 59) rfl (H + 1) rfl ((hown5.alloc _).alloc _) rfl hone (by omega) (by simp <;> omega) ?_; intro x1 w6 own1 hg1; have own9 := own_cells own1 (cellsM_append l [(q, u, s)]).symm; clear own1; obtain ⟨oz, cz, rfl, hMz, _⟩ := Ms.of_own (show (l ++ [(q, u, s)]).length = k + 1 by rw [List.length_append, hlk]; rfl) own9; have hVH6 : Vals w6 H 25 #[.int .i64 (f : Int), .int .i64 (t : Int), v] := (hg1.block H (by simp <;> omega) (fun e => by have := (hown5.lt H e.symm).1; omega)).trans hVH7; have B6 : Below H w3 w6 := hBH7.grown hg1 (by simp <;> omega) (fun r e => by have := (hown5.lt r e).1; omega); have m2 : w6.cell? ⟨H, 2, none⟩ = some v := hVH6.cell 2; have n2 := hVH6.free 2))
            have hVH8 : Vals (w6.setCell ⟨H, 2, none⟩ (.slice oz (k + 1) cz)) H 25 #[.int .i64 (f : Int), .int .i64 (t : Int), .slice oz (k + 1) cz] := by
              have := hVH6.set 2 (.slice oz (k + 1) cz)
              simpa using this
            have hown8 := own_set own9 (A := H) (i := 2) (.slice oz (k + 1) cz) (by omega)
            have B8 : Below H w3 (w6.setCell ⟨H, 2, none⟩ (.slice oz (k + 1) cz)) := B6.setCell (p := ⟨H, 2, none⟩) (Nat.le_refl _) _
            clear hown hown5 e0 e1 e2 k2 hone hg1 HO HX HN own9 hMz hVH hVH5 hVH7 hBH7 hVH6 B6 hV hV5 hB hB5
            go_wp2_with fail
            go_roundw
            case rel => exact ⟨k + 1, l ++ [(q, u, s)], .slice oz (k + 1) cz, by omega, by go_num, hVH8, hown8, by rw [List.length_append, hlk]; rfl, B8, HO2⟩
            case measure => simp [intOf]; omega
          · have HX := Lib.hid hx
            clear hx HAs
            obtain ⟨q, u, s⟩ := x
            dsimp only [aggM]
            have HW : Hid (hushB ws = (zMsg, 13)) := by
              show _ = _
              rw [HKK.out, allO_none (l := vs) (List.mem_of_mem_take (show y ∈ vs.take (k + 1) by rw [HN.out]; simp)) HX.out]
            have hV6 : Vals (w5.alloc (.cells #[.int .i64 q, .string u, .string s] 32)) A 27 (msgC 0 (.slice none 0 0) 0 0 (.slice none 0 0)) := hV5.alloc _
            have hB6 : Below w.heap.size w (w5.alloc (.cells #[.int .i64 q, .string u, .string s] 32)) := (hB03.trans (hB5.mono hwH)).alloc (by have := hB03.size; have := hB5.size; omega) _
            have hV7 := hV6.five (.int .i64 0) (.slice none 0 0) (.int .i64 0) (.int .i64 0) (.slice none 0 0)
            have hB7 := below_five hB6 hAw (.int .i64 0) (.slice none 0 0) (.int .i64 0) (.int .i64 0) (.slice none 0 0)
            have q0 : (w5.alloc (.cells #[.int .i64 q, .string u, .string s] 32)).cell? ⟨A, 0, none⟩ = some (.int .i64 0) := hV6.cell 0
            have q1 : (w5.alloc (.cells #[.int .i64 q, .string u, .string s] 32)).cell? ⟨A, 1, none⟩ = some (.slice none 0 0) := hV6.cell 1
            have q2 : (w5.alloc (.cells #[.int .i64 q, .string u, .string s] 32)).cell? ⟨A, 2, none⟩ = some (.int .i64 0) := hV6.cell 2
            have q3 : (w5.alloc (.cells #[.int .i64 q, .string u, .string s] 32)).cell? ⟨A, 3, none⟩ = some (.int .i64 0) := hV6.cell 3
            have q4 : (w5.alloc (.cells #[.int .i64 q, .string u, .string s] 32)).cell? ⟨A, 4, none⟩ = some (.slice none 0 0) := hV6.cell 4
            have g0 := hV6.free 0
            have g1 := hV6.free 1
            have g2 := hV6.free 2
            have g3 := hV6.free 3
            have g4 := hV6.free 4
            clear hown hown5 HX HN HO hV hV5 hB hB5 B5 hVH hVH5
            go_wp2_with fail
            refine bodyPost_ret (retG rfl rfl rfl hV7) rfl ?_
            exact ⟨by rw [HW.out]; exact zero_msg _ _ 0, hB7⟩
        · obtain rfl : k = m := by omega
          rw [List.take_of_length_le (by omega)] at HO
          have hW : Hid (hushB ws = hushE f t l) := by show _ = _; rw [HKK.out, HO.out]
          obtain ⟨os, cs, rfl, hMs, _⟩ := Ms.of_own hlk hown
          have b0 : wr.cell? ⟨H, 0, none⟩ = some (.int .i64 (f : Int)) := hVH.cell 0
          have b1 : wr.cell? ⟨H, 1, none⟩ = some (.int .i64 (t : Int)) := hVH.cell 1
          have b2 : wr.cell? ⟨H, 2, none⟩ = some (.slice os k cs) := hVH.cell 2
          have hBw : Below w.heap.size w wr := hB03.trans (hB.mono hwH)
          have q0 : wr.cell? ⟨A, 0, none⟩ = some (.int .i64 0) := hV.cell 0
          have q1 : wr.cell? ⟨A, 1, none⟩ = some (.slice none 0 0) := hV.cell 1
          have q2 : wr.cell? ⟨A, 2, none⟩ = some (.int .i64 0) := hV.cell 2
          have q3 : wr.cell? ⟨A, 3, none⟩ = some (.int .i64 0) := hV.cell 3
          have q4 : wr.cell? ⟨A, 4, none⟩ = some (.slice none 0 0) := hV.cell 4
          have g0 := hV.free 0
          have g1 := hV.free 1
          have g2 := hV.free 2
          have g3 := hV.free 3
          have g4 := hV.free 4
          have hV7 := hV.five (.int .i64 0) (.slice none 0 0) (.int .i64 0) (.int .i64 0) (.slice none 0 0)
          have hB7 := below_five hBw hAw (.int .i64 0) (.slice none 0 0) (.int .i64 0) (.int .i64 0) (.slice none 0 0)
          clear HO HKK hown hVH hB hT
          by_cases h4 : 4 < k
          · have HW : Hid (hushB ws = (zMsg, 2)) := by show _ = _; rw [hW.out]; unfold hushE; rw [if_pos (by omega)]
            go_wp2_with fail
            refine bodyPost_ret (retG rfl rfl rfl hV7) rfl ?_
            exact ⟨by rw [HW.out]; exact zero_msg _ _ 0, hB7⟩
          · by_cases hft : f < t
            · have HW : Hid (hushB ws = ((2, [], (f : Int), (t : Int), l), 0)) := by show _ = _; rw [hW.out]; unfold hushE; rw [if_neg (by omega), if_pos hft]
              have hV8 := hV.five (.int .i64 2) (.slice none 0 0) (.int .i64 (f : Int)) (.int .i64 (t : Int)) (.slice os k cs)
              have hB8 := below_five hBw hAw (.int .i64 2) (.slice none 0 0) (.int .i64 (f : Int)) (.int .i64 (t : Int)) (.slice os k cs)
              have hM8 := hMs.five (A := A) (fun g o e hn0 => by
                rintro rfl
                obtain ⟨g', o', e', c0, c1, _⟩ := hMs.cell 0 hn0
                rw [e] at e'
                cases e'
                rw [hV.cell] at c1
                exact msgC_no _ _ c1) (.int .i64 2) (.slice none 0 0) (.int .i64 (f : Int)) (.int .i64 (t : Int)) (.slice os k cs)
              go_wp2_with fail
              refine bodyPost_ret (retG rfl rfl rfl hV8) rfl ?_
              refine ⟨?_, hB8⟩
              rw [HW.out]
              exact ⟨none, 0, 0, os, k, cs, rfl, Ls.nil _ _ _, hM8⟩
            · have HW : Hid (hushB ws = (zMsg, 3)) := by show _ = _; rw [hW.out]; unfold hushE; rw [if_neg (by omega), if_neg hft]
              go_wp2_with fail
              refine bodyPost_ret (retG rfl rfl rfl hV7) rfl ?_
              exact ⟨by rw [HW.out]; exact zero_msg _ _ 0, hB7⟩
end Go.Proofs.YthncfcjkpcjkiaaGreatDoor
