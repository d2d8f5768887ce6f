/-
  The document's own: a message about an alert.
-/
import Derived.Test.YthncfcjkpcjkiaaGreatDoorWirD
import Derived.Test.YthncfcjkpcjkiaaGreatDoorLabV
namespace Go.Proofs.YthncfcjkpcjkiaaGreatDoor
open Go.RowKit Go.Shelf
set_option linter.unusedVariables false

set_option maxRecDepth 100000 in
set_option maxHeartbeats 3200000 in
theorem refAlert_any (q : Int) (oa : Option Addr) (n cap : Nat) (ws : List (List UInt8)) (w : World) (h : Ts w oa n cap (ws.map tx)) (hn : n ≤ 300) (hz : ∀ v ∈ ws, v.length ≤ 1000) :
    Calls Tryz.prog 26 #[.int .i64 q, .slice oa n cap] w fun e w' => MsgOut w' e (alertB q ws) ∧ Below w.heap.size w w' := by
  have hl : ws.length = n := by rw [← h.len, List.length_map]
  have hr := h.room
  have hV0 := Vals.new w 27 (msgC 0 (.slice none 0 0) 0 0 (.slice none 0 0))
  have hB0 := below_alloc w (.cells (msgC 0 (.slice none 0 0) 0 0 (.slice none 0 0)) 27)
  have hT0 := h.below hB0 (Nat.le_refl _)
  have HZ := Lib.hid hz
  have HL := Lib.hid hl
  clear h hz hl
  obtain ⟨A, hA⟩ : ∃ A, A = w.heap.size := ⟨_, rfl⟩
  have hsz : (w.alloc (.cells (msgC 0 (.slice none 0 0) 0 0 (.slice none 0 0)) 27)).heap.size = A + 1 := by rw [hA]; simp
  go_enter Tryz.func26, Tryz.ntmps26
  go_upto_region 1 with fail
  rw [← hA]
  rw [← hA] at hV0
  generalize w.alloc (.cells (msgC 0 (.slice none 0 0) 0 0 (.slice none 0 0)) 27) = w1 at *
  have hAw : w.heap.size ≤ A := by omega
  have hB1 : Below w.heap.size w1 w1 := Below.refl _ _
  have own0 : (w1.alloc (.cells #[] 52)).ownsRow (A + 1) 52 2 (.slice (some ⟨w1.heap.size, 0, none⟩) 0 0) 0 (cellsL []) := World.ownsRow_made w1 #[] 0 (by omega) (Nat.zero_le _) (by simp)
  rw [hsz] at own0
  have hB2 : Below (A + 1) w1 (w1.alloc (.cells #[] 52)) := (Below.refl _ w1).alloc (by omega) _
  clear hA hB1
  go_wp2_with fail
  generalize w1.alloc (.cells #[] 52) = w2 at *
  go_loopw [6, 16] (fun s6 s16 wr => ∃ (k : Nat) (l : List L2), k ≤ n ∧ s16 = .int .i64 k ∧ wr.ownsRow (A + 1) 52 2 s6 k (cellsL l) ∧ l.length = k ∧ Below (A + 1) w1 wr ∧ Hid (allO labelB (ws.take k) = some l)) (fun _ s16 _ => n - (intOf s16).toNat)
  case atStart => exact ⟨0, [], Nat.zero_le _, rfl, own0, rfl, hB2, rfl⟩
  case round =>
    obtain ⟨k, l, hk, rfl, hown, hlk, hB, HO⟩ := hrel
    clear own0 hB2
    have hT := hT0.below hB (by omega)
    have hV := hV0.keep hB (by omega)
    have hzr := hB.size
    by_cases hlt : k < n
    · obtain ⟨g, o, rfl, c0⟩ := hT.cell k hlt
      have hkw : k < ws.length := by rw [HL.out]; exact hlt
      rw [ws_at ws k hkw] at c0
      have HN := Lib.hid (ws_next ws k hkw)
      have hzk := HZ.out _ (ws_mem ws k hkw)
      generalize ws.getD k [] = v at *
      have HLab := fun w => refLabel_any (tx v) w (by rw [tx_size]; exact hzk)
      have hbv : bs (tx v) = v := tx_data v
      rw [hbv] at HLab
      clear hkw hbv
      go_wp2_with fail
      refine (HLab _).mono ?_
      rintro e w3 ⟨hout, B3⟩
      have hV3 := hV.keep B3 (Nat.le_refl _)
      have hB3 : Below (A + 1) w1 w3 := hB.trans (B3.mono (by omega))
      rcases hout with ⟨x, hx, rfl⟩ | ⟨hx, x, rfl⟩
      · have HX := Lib.hid hx
        clear hx HLab
        obtain ⟨u, t⟩ := x
        dsimp only [aggL]
        have hown3 := own_keep hown B3
        have hz3 := hB3.size
        have hone := Ls.one (w3.alloc (.cells #[.string u, .string t] 52)) (u, t)
        rw [show (w3.alloc (.cells #[.string u, .string t] 52)).heap.size = w3.heap.size + 1 by simp] at hone
        have e0 : (w3.alloc (.cells #[.string u, .string t] 52)).cell? ⟨w3.heap.size, 0, none⟩ = some (.string u) := by simp
        have e1 : (w3.alloc (.cells #[.string u, .string t] 52)).cell? ⟨w3.heap.size, 1, none⟩ = some (.string t) := by simp
        go_wp2_with (first | (at_builtin; refine wpList_append_ls _ rfl (.tmp 28) (.tmp 30) rfl (A + 1) rfl ((hown3.alloc _).alloc _) rfl hone (by omega) (by simp <;> omega) ?_; intro v1 w4 own1 hg1; have B4 : Below (A + 1) w1 w4 := ((hB3.alloc (by omega) _).alloc (by simp <;> omega) _).grown hg1 (by simp <;> omega) (fun r e => (hown3.lt r e).1)))
        rw [← cellsL_append] at own1
        have HO2 : Hid (allO labelB (ws.take (k + 1)) = some (l ++ [(u, t)])) := by
          show _ = _
          rw [HN.out, allO_snoc, HO.out, HX.out]
          rfl
        clear hown hown3 e0 e1 hone hg1 HO HX HN
        go_wp2_with fail
        go_roundw
        case rel => exact ⟨k + 1, l ++ [(u, t)], by omega, by go_num, own1, by rw [List.length_append, hlk]; rfl, B4, HO2⟩
        case measure => simp [intOf]; omega
      · have HX := Lib.hid hx
        clear hx HLab
        obtain ⟨u, t⟩ := x
        dsimp only [aggL]
        have hW : Hid (alertB q ws = (zMsg, 13)) := by
          show _ = _
          unfold alertB
          rw [allO_none (l := ws) (List.mem_of_mem_take (show v ∈ ws.take (k + 1) by rw [HN.out]; simp)) HX.out]
        have hV4 : Vals (w3.alloc (.cells #[.string u, .string t] 52)) A 27 (msgC 0 (.slice none 0 0) 0 0 (.slice none 0 0)) := hV3.alloc _
        have hz3 := hB3.size
        have hB4 : Below w.heap.size w (w3.alloc (.cells #[.string u, .string t] 52)) := (hB0.trans (hB3.mono (by omega))).alloc (by have := hB0.size; omega) _
        have hV5 := hV4.five (.int .i64 0) (.slice none 0 0) (.int .i64 0) (.int .i64 0) (.slice none 0 0)
        have hB5 := below_five hB4 hAw (.int .i64 0) (.slice none 0 0) (.int .i64 0) (.int .i64 0) (.slice none 0 0)
        have q0 : (w3.alloc (.cells #[.string u, .string t] 52)).cell? ⟨A, 0, none⟩ = some (.int .i64 0) := hV4.cell 0
        have q1 : (w3.alloc (.cells #[.string u, .string t] 52)).cell? ⟨A, 1, none⟩ = some (.slice none 0 0) := hV4.cell 1
        have q2 : (w3.alloc (.cells #[.string u, .string t] 52)).cell? ⟨A, 2, none⟩ = some (.int .i64 0) := hV4.cell 2
        have q3 : (w3.alloc (.cells #[.string u, .string t] 52)).cell? ⟨A, 3, none⟩ = some (.int .i64 0) := hV4.cell 3
        have q4 : (w3.alloc (.cells #[.string u, .string t] 52)).cell? ⟨A, 4, none⟩ = some (.slice none 0 0) := hV4.cell 4
        have g0 := hV4.free 0
        have g1 := hV4.free 1
        have g2 := hV4.free 2
        have g3 := hV4.free 3
        have g4 := hV4.free 4
        clear hown HX HN HO hV hV3 hB hB3 B3
        go_wp2_with fail
        refine bodyPost_ret (retG rfl rfl rfl hV5) rfl ?_
        exact ⟨by rw [hW.out]; exact zero_msg _ _ 0, hB5⟩
    · obtain rfl : k = n := by omega
      rw [List.take_of_length_le (by rw [HL.out]; exact Nat.le_refl _)] at HO
      obtain ⟨os, cs, rfl, hLs, _⟩ := Ls.of_own hlk hown
      have hall := allO_some (P := fun x : L2 => nameB x.1 = true ∧ valueB x.2 = true) (fun a b e => labelB_some e) _ _ HO.out
      have hSh : ShortL l := by
        intro i hi
        have hm : l.getD i zL ∈ l := by rw [getD_L l i hi]; exact List.getElem_mem _
        obtain ⟨h1, h2⟩ := hall.1 _ hm
        have z1 := name_size h1
        have z2 := value_size h2
        rw [Array.length_toList] at z1 z2
        have e1 : (l.getD i zL).1.size = (l.getD i zL).1.data.size := rfl
        have e2 : (l.getD i zL).2.size = (l.getD i zL).2.data.size := rfl
        omega
      have HSort := refSort_any os k cs l wr hLs hn hSh
      have HA : Hid (alertB q ws = if (sortF l).2 = 0 then ((q, (sortF l).1, 0, 0, []), 0) else (zMsg, (sortF l).2)) := by show _ = _; unfold alertB; rw [HO.out]
      clear hSh hall HO hown hlt hLs hT
      go_wp2_with fail
      refine HSort.mono ?_
      rintro e w3 ⟨⟨o2, n2, c2, rfl, hL2, _⟩, B3⟩
      have hV3 := hV.keep B3 (Nat.le_refl _)
      have hB3 : Below w.heap.size w w3 := hB0.trans ((hB.trans (B3.mono (by omega))).mono (by omega))
      have q0 : w3.cell? ⟨A, 0, none⟩ = some (.int .i64 0) := hV3.cell 0
      have q1 : w3.cell? ⟨A, 1, none⟩ = some (.slice none 0 0) := hV3.cell 1
      have q2 : w3.cell? ⟨A, 2, none⟩ = some (.int .i64 0) := hV3.cell 2
      have q3 : w3.cell? ⟨A, 3, none⟩ = some (.int .i64 0) := hV3.cell 3
      have q4 : w3.cell? ⟨A, 4, none⟩ = some (.slice none 0 0) := hV3.cell 4
      have g0 := hV3.free 0
      have g1 := hV3.free 1
      have g2 := hV3.free 2
      have g3 := hV3.free 3
      have g4 := hV3.free 4
      clear HSort hV hB B3
      obtain ⟨r, c, hrc⟩ : ∃ r c, sortF l = (r, c) := ⟨_, _, rfl⟩
      rw [hrc] at hL2
      have HR := Lib.hid hrc
      clear hrc
      dsimp only at hL2
      by_cases h0 : c = 0
      · subst h0
        have HA2 : Hid (alertB q ws = ((q, r, 0, 0, []), 0)) := by show _ = _; rw [HA.out, HR.out, if_pos rfl]
        have hV5 := hV3.five (.int .i64 q) (.slice o2 n2 c2) (.int .i64 0) (.int .i64 0) (.slice none 0 0)
        have hB5 := below_five hB3 hAw (.int .i64 q) (.slice o2 n2 c2) (.int .i64 0) (.int .i64 0) (.slice none 0 0)
        have hL5 := hL2.five (A := A) (fun g o e hn0 => by
          rintro rfl
          obtain ⟨g', o', e', c0, _⟩ := hL2.cell 0 hn0
          rw [e] at e'
          cases e'
          rw [hV3.cell] at c0
          exact msgC_no _ _ c0) (.int .i64 q) (.slice o2 n2 c2) (.int .i64 0) (.int .i64 0) (.slice none 0 0)
        rw [HR.out]
        dsimp only
        go_wp2_with fail
        refine bodyPost_ret (retG rfl rfl rfl hV5) rfl ?_
        refine ⟨?_, hB5⟩
        rw [HA2.out]
        exact ⟨o2, n2, c2, none, 0, 0, rfl, hL5, Ms.nil _ _ _⟩
      · have HA2 : Hid (alertB q ws = (zMsg, c)) := by show _ = _; rw [HA.out, HR.out, if_neg h0]
        have hc1 : (c != 0) = true := by simpa using h0
        have hV5 := hV3.five (.int .i64 0) (.slice none 0 0) (.int .i64 0) (.int .i64 0) (.slice none 0 0)
        have hB5 := below_five hB3 hAw (.int .i64 0) (.slice none 0 0) (.int .i64 0) (.int .i64 0) (.slice none 0 0)
        rw [HR.out]
        dsimp only
        clear h0
        go_wp2_with fail
        refine bodyPost_ret (retG rfl rfl rfl hV5) rfl ?_
        exact ⟨by rw [HA2.out]; exact zero_msg _ _ 0, hB5⟩
end Go.Proofs.YthncfcjkpcjkiaaGreatDoor
