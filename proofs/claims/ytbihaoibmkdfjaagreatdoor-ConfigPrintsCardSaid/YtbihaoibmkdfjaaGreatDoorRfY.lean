/-
  The document's own: a text's lines, and the numbers of words.
  The document's own: words one behind the other, a line of one number, and which routes may be.
  The document's own: which routes may be.
-/
import Derived.Test.YtbihaoibmkdfjaaGreatDoorRfX
namespace Go.Proofs.YtbihaoibmkdfjaaGreatDoor
open Go.RowKit Go.Shelf
set_option linter.unusedVariables false

set_option maxRecDepth 100000 in
set_option maxHeartbeats 1600000 in
theorem refLines_any (s : ByteArray) (w : World) (hs : s.size ≤ 100000) :
    Calls Tryz.prog 18 #[.string s] w fun e w' => (∃ oa cap, e = .returned (.slice oa (linesB (bs s)).length cap) ∧ Ts w' oa (linesB (bs s)).length cap ((linesB (bs s)).map tx) ∧ cap ≤ maxLen ∧ w'.ownsRow w.heap.size 9 1 (.slice oa (linesB (bs s)).length cap) (linesB (bs s)).length (cellsT ((linesB (bs s)).map tx))) ∧ Below w.heap.size w w' := by
  obtain ⟨i0, hi, hz0, hz1, hz2⟩ := info_parts infoTx
  have own0 : (w.alloc (.cells #[] 9)).ownsRow w.heap.size 9 1 (.slice (some ⟨w.heap.size, 0, none⟩) 0 0) 0 (cellsT (List.map tx [])) := World.ownsRow_made w #[] 0 (Nat.le_refl _) (Nat.zero_le _) (by simp)
  have hB0 := (Below.refl w.heap.size w).alloc (Nat.le_refl _) (.cells #[] 9)
  go_enter Tryz.func18, Tryz.ntmps18
  go_wp2_with fail
  go_loopw [3, 4, 5] (fun s3 s4 s5 wr => ∃ (k f : Nat) (ws : List (List UInt8)), k ≤ s.size ∧ f ≤ k ∧ ws.length ≤ k ∧ s5 = .int .i64 k ∧ s4 = .int .i64 f ∧ wr.ownsRow w.heap.size 9 1 s3 ws.length (cellsT (ws.map tx)) ∧ Below w.heap.size w wr ∧ Hid (linesB (bs s) = ws ++ linesW (((bs s).take k).drop f) ((bs s).drop k))) (fun _ _ s5 _ => s.size - (intOf s5).toNat)
  case atStart => exact ⟨0, 0, [], Nat.zero_le _, Nat.le_refl _, Nat.le_refl _, rfl, rfl, own0, hB0, by show linesB _ = _; unfold linesB; simp⟩
  case round =>
    obtain ⟨k, f, ws, hk, hf, hw, rfl, rfl, hown, hB, HS⟩ := hrel
    clear own0 hB0
    by_cases hlt : k < s.size
    · have HN := Lib.hid (cut_next s f k hlt hf)
      have hd := bs_drop s k hlt
      by_cases hc : (s[k]'hlt).toNat = 10
      · have hc1 : ((((s[k]'hlt).toNat : Nat) : Int) == 10) = true := by rw [hc]; rfl
        have he : s[k]'hlt = 10 := UInt8.toNat_inj.1 hc
        have HQ : Hid (linesB (bs s) = (ws ++ [((bs s).take k).drop f]) ++ linesW (((bs s).take (k + 1)).drop (k + 1)) ((bs s).drop (k + 1))) := by
          show _ = _
          rw [HS.out, hd, linesW, if_pos he, List.append_assoc, List.singleton_append]
          congr 3
          rw [List.drop_eq_nil_of_le (by rw [List.length_take]; omega)]
        have HC := Lib.hid (cut_text s f k)
        clear hd he hc HS HN
        have hz := hB.size
        go_wp2_with (at_builtin; refine wpList_append_own _ rfl _ _ 42 rfl w.heap.size 9 i0 _ 1 16 Tryz.underlying42 hi hz0 hz1 hz2 rfl (by decide) _ _ _ rfl (hown.alloc _) ⟨wr.heap.size, 0, none⟩ 1 1 [.string (s.extract f k)] rfl rfl (one_newT _ _ _) (one_cellT _) (by unfold maxLen; omega) (by omega) (by simp; omega) ?_; intro v' w1 hown' hgrow _)
        have B1 : Below w.heap.size w w1 := (hB.alloc hB.size _).grown hgrow (by simp; omega) (fun r e => (hown.lt r e).1)
        have HO : w1.ownsRow w.heap.size 9 1 v' (ws ++ [((bs s).take k).drop f]).length (cellsT ((ws ++ [((bs s).take k).drop f]).map tx)) := by
          rw [List.map_append, List.map_singleton, cellsT_snoc, ← HC.out, List.length_append]
          exact hown'
        clear hown' hgrow hown
        go_wp2_with fail
        go_roundw
        case rel => exact ⟨k + 1, k + 1, ws ++ [((bs s).take k).drop f], by omega, by omega, by rw [List.length_append]; simp; omega, by go_num, by go_num, HO, B1, HQ⟩
        case measure => simp [intOf]; omega
      · have hc1 : ((((s[k]'hlt).toNat : Nat) : Int) == 10) = false := by simp; omega
        have he : s[k]'hlt ≠ 10 := fun e => hc (by rw [e]; rfl)
        have HQ : Hid (linesB (bs s) = ws ++ linesW (((bs s).take (k + 1)).drop f) ((bs s).drop (k + 1))) := by
          show _ = _
          rw [HS.out, hd, linesW, if_neg he, HN.out]
        clear hd he hc HS HN
        go_wp2_with fail
        go_roundw
        case rel => exact ⟨k + 1, f, ws, by omega, by omega, by omega, by go_num, rfl, hown, hB, HQ⟩
        case measure => simp [intOf]; omega
    · obtain rfl : k = s.size := by omega
      have hdr : (bs s).drop s.size = [] := List.drop_eq_nil_of_le (by rw [Array.length_toList]; exact Nat.le_refl _)
      have HC := Lib.hid (cut_text s f s.size)
      have hz := hB.size
      by_cases hfl : f < s.size
      · have HQ : Hid (linesB (bs s) = ws ++ [((bs s).take s.size).drop f]) := by
          show _ = _
          rw [HS.out, hdr, linesW, if_neg]
          intro e
          have := congrArg List.length e
          rw [List.length_drop, List.length_take, Array.length_toList] at this
          simp at this
          have e2 : s.size = s.data.size := rfl
          omega
        clear HS hdr
        go_wp2_with (at_builtin; refine wpList_append_own _ rfl _ _ 42 rfl w.heap.size 9 i0 _ 1 16 Tryz.underlying42 hi hz0 hz1 hz2 rfl (by decide) _ _ _ rfl (hown.alloc _) ⟨wr.heap.size, 0, none⟩ 1 1 [.string (s.extract f s.size)] rfl rfl (one_newT _ _ _) (one_cellT _) (by unfold maxLen; omega) (by omega) (by simp; omega) ?_; intro v' w1 hown' hgrow _)
        have B1 : Below w.heap.size w w1 := (hB.alloc hB.size _).grown hgrow (by simp; omega) (fun r e => (hown.lt r e).1)
        have HO : w1.ownsRow w.heap.size 9 1 v' (linesB (bs s)).length (cellsT ((linesB (bs s)).map tx)) := by
          rw [HQ.out, List.map_append, List.map_singleton, cellsT_snoc, ← HC.out, List.length_append]
          exact hown'
        obtain ⟨oa, cap, rfl, hTs, hcap, hown2⟩ := Ts.of_own (by rw [List.length_map]) HO
        have HT := Lib.hid hTs
        have HOw := Lib.hid HO
        clear hown' hgrow hown HO hown2 hTs
        go_wp2_with fail
        go_ret
        exact ⟨⟨oa, cap, rfl, HT.out, hcap, HOw.out⟩, B1⟩
      · have HQ : Hid (linesB (bs s) = ws) := by
          show _ = _
          rw [HS.out, hdr, linesW, if_pos (List.drop_eq_nil_of_le (by rw [List.length_take]; omega)), List.append_nil]
        have HO := hown
        rw [← HQ.out] at HO
        obtain ⟨oa, cap, rfl, hTs, hcap, hown2⟩ := Ts.of_own (by rw [List.length_map]) HO
        have HT := Lib.hid hTs
        have HOw := Lib.hid HO
        clear hown HO hown2 hTs HS hdr
        go_wp2_with fail
        go_ret
        exact ⟨⟨oa, cap, rfl, HT.out, hcap, HOw.out⟩, hB⟩
/-- what is told of words: their numbers, or that one is none -/
def NumsOut (w w0 : World) (e : Ending) (ws : List (List UInt8)) : Prop := (∃ ns, allO numB ws = some ns ∧ ∃ (oa : Option Addr) (cap : Nat), e = .returned (.tuple #[.slice oa ws.length cap, .bool true]) ∧ Ns w oa ws.length cap (ns.map fun n : Nat => (n : Int))) ∨ (allO numB ws = none ∧ e = .returned (.tuple #[.slice none 0 0, .bool false]))
set_option maxRecDepth 100000 in
set_option maxHeartbeats 3200000 in
theorem refNumbers_any (oa : Option Addr) (n cap : Nat) (ws : List (List UInt8)) (w : World) (h : Ts w oa n cap (ws.map tx)) (hn : n ≤ 100000) (hz : ∀ v ∈ ws, v.length ≤ 1000000) :
    Calls Tryz.prog 67 #[.slice oa n cap] w fun e w' => NumsOut w' w e ws ∧ Below w.heap.size w w' := by
  obtain ⟨i0, hi, hz0, hz1, hz2⟩ := info_parts infoInt
  have hl : ws.length = n := by rw [← h.len, List.length_map]
  have hr := h.room
  have HZ := Lib.hid hz
  have HL := Lib.hid hl
  clear hz hl
  have own0 : (w.alloc (.cells #[] 3)).ownsRow w.heap.size 3 1 (.slice (some ⟨w.heap.size, 0, none⟩) 0 0) 0 (nCells []) := World.ownsRow_made w #[] 0 (Nat.le_refl _) (Nat.zero_le _) (by simp)
  have hB0 := (Below.refl w.heap.size w).alloc (Nat.le_refl _) (.cells #[] 3)
  go_enter Tryz.func67, Tryz.ntmps67
  go_wp2_with fail
  go_loopw [4, 12] (fun s4 s12 wr => ∃ (k : Nat) (ns : List Nat), k ≤ n ∧ s12 = .int .i64 k ∧ wr.ownsRow w.heap.size 3 1 s4 k (nCells (ns.map fun n : Nat => (n : Int))) ∧ ns.length = k ∧ Below w.heap.size w wr ∧ Hid (allO numB (ws.take k) = some ns)) (fun _ s12 _ => n - (intOf s12).toNat)
  case atStart => exact ⟨0, [], Nat.zero_le _, rfl, own0, rfl, hB0, rfl⟩
  case round =>
    obtain ⟨k, ns, hk, rfl, hown, hlk, hB, HO⟩ := hrel
    clear own0 hB0
    by_cases hlt : k < n
    · obtain ⟨g, o, rfl, c0⟩ := (h.below hB (Nat.le_refl _)).cell k hlt
      have hkl : k < ws.length := by rw [HL.out]; exact hlt
      rw [ws_at ws k hkl] at c0
      have hzk : (tx (ws.getD k [])).size ≤ 1000000 := by rw [tx_size]; exact HZ.out _ (ws_mem ws k hkl)
      have HA := fun w => refNumber_any (tx (ws.getD k [])) w (by omega)
      rw [show bs (tx (ws.getD k [])) = ws.getD k [] from tx_data _] at HA
      have HS : Hid (∀ x, numB (ws.getD k []) = some x → allO numB (ws.take (k + 1)) = some (ns ++ [x])) := fun x hx => by
        rw [ws_next ws k hkl, allO_snoc, HO.out]
        show (numB (ws.getD k [])).map _ = _
        rw [hx]
        rfl
      have HN : Hid (numB (ws.getD k []) = none → allO numB ws = none) := allO_none (ws_mem ws k hkl)
      generalize tx (ws.getD k []) = y at *
      generalize ws.getD k [] = v at *
      clear h HZ HO HL hkl
      go_wp2_with fail
      refine (HA _).mono ?_
      rintro e w5 ⟨⟨x, hx, rfl⟩ | ⟨hx, xv, rfl⟩, B5⟩
      · have HX := Lib.hid (HS.out x hx)
        have hB5 := hB.trans (B5.mono hB.size)
        have hown5 := own_keep hown B5
        have hz5 := hB5.size
        clear HS HN hx hown hB B5 HA c0
        go_wp2_with (at_builtin; refine wpList_append_own _ rfl _ _ 53 rfl w.heap.size 3 i0 _ 1 8 Tryz.underlying53 hi hz0 hz1 hz2 rfl (by decide) _ _ _ rfl (hown5.alloc _) ⟨w5.heap.size, 0, none⟩ 1 1 [.int .i64 (x : Int)] rfl rfl (oneN_new _ _ _) (oneN_cell _) (by unfold maxLen; omega) (by omega) (by simp; omega) ?_; intro v' w8 hown' hgrow _)
        have B8 : Below w.heap.size w w8 := (hB5.alloc hB5.size _).grown hgrow (by simp; omega) (fun r e => (hown5.lt r e).1)
        have own1 : w8.ownsRow w.heap.size 3 1 v' (k + 1) (nCells ((ns ++ [x]).map fun n : Nat => (n : Int))) := by
          rw [List.map_append, List.map_singleton, nCells_snoc]
          exact hown'
        clear hgrow hown' hown5 hB5
        go_wp2_with fail
        go_roundw
        case rel => exact ⟨k + 1, ns ++ [x], by omega, by go_num, own1, by simp [hlk], B8, HX⟩
        case measure => simp [intOf]; omega
      · have HX := Lib.hid (HN.out hx)
        have hB5 := hB.trans (B5.mono hB.size)
        clear HS HN hx hown hB HA c0
        go_wp2_with fail
        go_ret2
        exact ⟨.inr ⟨HX.out, rfl⟩, hB5⟩
    · obtain rfl : k = n := by omega
      obtain ⟨oa', cap', rfl, hM⟩ := Ns.of_own (by rw [List.length_map]; exact hlk) hown
      have HM := Lib.hid hM
      have HX : Hid (allO numB ws = some ns) := by
        have e := HO.out
        rw [List.take_of_length_le (by rw [HL.out]; exact Nat.le_refl _)] at e
        exact e
      have HE := HL
      clear h HZ HO HL hown hM
      go_wp2_with fail
      go_ret2
      exact ⟨.inl ⟨ns, HX.out, oa', cap', by rw [HE.out]; rfl, by rw [HE.out]; exact HM.out⟩, hB⟩
end Go.Proofs.YtbihaoibmkdfjaaGreatDoor
namespace Go.Proofs.YtbihaoibmkdfjaaGreatDoor
open Go.RowKit Go.Shelf
set_option linter.unusedVariables false

theorem joinB_snoc (ws : List (List UInt8)) (v : List UInt8) : joinB (ws ++ [v]) = if ws = [] then v else joinB ws ++ 32 :: v := by
  cases ws with
  | nil => simp [joinB]
  | cons w ws => simp [joinB]
set_option maxRecDepth 100000 in
set_option maxHeartbeats 1600000 in
theorem refLine_any (ws : List (List UInt8)) (oa : Option Addr) (n cap : Nat) (w : World) (h : Ts w oa n cap (ws.map tx)) (hn : n ≤ 1000) (hz : ∀ v ∈ ws, v.length ≤ 1000) :
    Calls Tryz.prog 33 #[.slice oa n cap] w fun e w' => e = .returned (.string (tx (joinB ws ++ [10]))) ∧ Below w.heap.size w w' := by
  have hl := h.len
  rw [List.length_map] at hl
  have hr := h.room
  have HZ := Lib.hid hz
  clear hz
  go_enter Tryz.func33, Tryz.ntmps33
  go_wp2_with fail
  go_loopw [3, 8] (fun s3 s8 wr => ∃ (k : Nat) (z : ByteArray), k ≤ n ∧ s8 = .int .i64 k ∧ s3 = .string z ∧ Hid (z = tx (joinB (ws.take k))) ∧ z.size ≤ 1001 * k ∧ Below w.heap.size w wr) (fun _ s8 _ => n - (intOf s8).toNat)
  case atStart => exact ⟨0, _, Nat.zero_le _, rfl, rfl, rfl, Nat.le_refl 0, Below.refl _ _⟩
  case round =>
    obtain ⟨k, z, hk, rfl, rfl, HK, hzk, hB⟩ := hrel
    by_cases hlt : k < n
    · obtain ⟨g, o, rfl, c0⟩ := (h.below hB (Nat.le_refl _)).cell k hlt
      rw [ws_at ws k (by omega)] at c0
      have hy : (tx (ws.getD k [])).size ≤ 1000 := by rw [tx_size]; exact HZ.out _ (ws_mem ws k (by omega))
      by_cases h0 : k = 0
      · have hk0 : ¬ (0 : Int) < (k : Int) := by omega
        have HX : Hid (tx (joinB (ws.take (k + 1))) = z ++ tx (ws.getD k [])) := by
          show _ = _
          rw [ws_next ws k (by omega), joinB_snoc, if_pos (by rw [h0]; rfl), HK.out, h0]
          show _ = tx (joinB []) ++ _
          simp [joinB, tx_append]
        generalize tx (ws.getD k []) = y at *
        clear h hl HZ HK h0
        go_wp2_with fail
        go_roundw
        case rel => exact ⟨k + 1, _, by omega, by go_num, rfl, HX.out.symm, by rw [ByteArray.size_append]; omega, hB⟩
        case measure => simp [intOf]; omega
      · have hk0 : (0 : Int) < (k : Int) := by omega
        have HX : Hid (tx (joinB (ws.take (k + 1))) = (z ++ ⟨#[32]⟩) ++ tx (ws.getD k [])) := by
          show _ = _
          rw [ws_next ws k (by omega), joinB_snoc, if_neg (by intro e; have := congrArg List.length e; rw [List.length_take, List.length_nil] at this; omega), HK.out]
          rw [show (⟨#[32]⟩ : ByteArray) = tx [32] from rfl, tx_append, tx_append]
          simp
        generalize tx (ws.getD k []) = y at *
        have hzy : (z ++ (⟨#[32]⟩ : ByteArray)).size = z.size + 1 := by rw [ByteArray.size_append]; rfl
        clear h hl HZ HK h0
        go_wp2_with fail
        go_roundw
        case rel => exact ⟨k + 1, _, by omega, by go_num, rfl, HX.out.symm, by rw [ByteArray.size_append, hzy]; omega, hB⟩
        case measure => simp [intOf]; omega
    · obtain rfl : k = n := by omega
      have HF : Hid (tx (joinB ws ++ [10]) = z ++ ⟨#[10]⟩) := by
        have e := HK.out
        rw [List.take_of_length_le (by omega)] at e
        show _ = _
        rw [e, ← tx_append]
        rfl
      have hz1 : (⟨#[10]⟩ : ByteArray).size = 1 := rfl
      clear h hl HZ HK
      go_wp2_with fail
      go_ret
      exact ⟨retS HF.out.symm, hB⟩
/-- what is told of a line of two words -/
def OneIs (ws : List (List UInt8)) (m er : Int) : Prop := (er = 0 ∧ oneB ws = .ok m) ∨ (er ≠ 0 ∧ m = 0 ∧ oneB ws = .error er)
set_option maxRecDepth 100000 in
set_option maxHeartbeats 1600000 in
theorem refOne_any (ws : List (List UInt8)) (oa : Option Addr) (n cap : Nat) (w : World) (h : Ts w oa n cap (ws.map tx)) (hn : n ≤ 100000) (hz : ∀ v ∈ ws, v.length ≤ 1000000) :
    Calls Tryz.prog 43 #[.slice oa n cap] w fun e w' => (∃ m er, e = .returned (.tuple #[.int .i64 m, .int .i64 er]) ∧ OneIs ws m er) ∧ Below w.heap.size w w' := by
  have hl := h.len
  rw [List.length_map] at hl
  have hr := h.room
  go_enter Tryz.func43, Tryz.ntmps43
  by_cases h2 : n = 2
  · obtain ⟨g, o, rfl, c0⟩ := h.cell 1 (by omega)
    rw [ws_at ws 1 (by omega)] at c0
    have hz1 : (tx (ws.getD 1 [])).size ≤ 1000000 := by rw [tx_size]; exact hz _ (ws_mem ws 1 (by omega))
    have HA := refNumber_any (tx (ws.getD 1 [])) w (by omega)
    rw [show bs (tx (ws.getD 1 [])) = ws.getD 1 [] from tx_data _] at HA
    have HO : Hid (oneB ws = match numB (ws.getD 1 []) with
      | none => .error 13
      | some m => if oftenB (m : Int) = true then .ok (m : Int) else .error 3) := by
      show _ = _
      unfold oneB
      rw [if_neg (by omega)]
      cases numB (ws.getD 1 []) <;> rfl
    have h2i : ((n : Int) != 2) = false := by simp [h2]
    generalize tx (ws.getD 1 []) = y at *
    clear h hz
    go_wp2_with fail
    refine HA.mono ?_
    rintro e w1 ⟨⟨x, hx, rfl⟩ | ⟨hx, xv, rfl⟩, B1⟩
    · rw [hx] at HO
      have HF := fun w => refOften_any (x : Int) w
      cases ho : oftenB (x : Int) with
      | true =>
        rw [ho] at HF
        have HW : Hid (oneB ws = .ok (x : Int)) := by show _ = _; rw [HO.out]; simp only; rw [if_pos ho]
        clear HO ho
        go_wp2_with fail
        refine (HF _).mono ?_
        rintro e w2 ⟨rfl, rfl⟩
        go_wp2_with fail
        go_ret2
        exact ⟨⟨_, _, rfl, .inl ⟨rfl, HW.out⟩⟩, B1⟩
      | false =>
        rw [ho] at HF
        have HW : Hid (oneB ws = .error 3) := by show _ = _; rw [HO.out]; simp only; rw [if_neg (by simp [ho])]
        clear HO ho
        go_wp2_with fail
        refine (HF _).mono ?_
        rintro e w2 ⟨rfl, rfl⟩
        go_wp2_with fail
        go_ret2
        exact ⟨⟨_, _, rfl, .inr ⟨by decide, rfl, HW.out⟩⟩, B1⟩
    · rw [hx] at HO
      have HW : Hid (oneB ws = .error 13) := HO.out
      clear HO
      go_wp2_with fail
      go_ret2
      exact ⟨⟨_, _, rfl, .inr ⟨by decide, rfl, HW.out⟩⟩, B1⟩
  · have HW : Hid (oneB ws = .error 12) := by show _ = _; unfold oneB; rw [if_pos (by omega)]
    have h2i : ((n : Int) != 2) = true := by simp; omega
    clear h hz
    go_wp2_with fail
    go_ret2
    exact ⟨⟨_, _, rfl, .inr ⟨by decide, rfl, HW.out⟩⟩, Below.refl _ _⟩
theorem chainB_iff (n : Nat) (l : List Int) : chainB n l = true ↔ ∀ i, i < l.length → (0 ≤ l.getD i 0 ∧ l.getD i 0 < (n : Int)) ∧ ∀ j, j < i → l.getD j 0 ≠ l.getD i 0 := by
  unfold chainB
  simp only [Bool.and_eq_true, decide_eq_true_eq, List.all_eq_true]
  constructor
  · rintro ⟨h1, h2⟩ i hi
    refine ⟨by rw [getD_at l i hi]; exact h1 _ (List.getElem_mem _), fun j hj => ?_⟩
    rw [getD_at l i hi, getD_at l j (by omega)]
    exact (List.pairwise_iff_getElem.1 h2) j i (by omega) hi hj
  · intro h
    refine ⟨fun k hk => ?_, ?_⟩
    · obtain ⟨i, hi, rfl⟩ := List.getElem_of_mem hk
      have := (h i hi).1
      rwa [getD_at l i hi] at this
    · refine List.pairwise_iff_getElem.2 fun i j hi hj hij => ?_
      have := (h j hj).2 i hij
      rwa [getD_at l i hi, getD_at l j hj] at this
end Go.Proofs.YtbihaoibmkdfjaaGreatDoor
namespace Go.Proofs.YtbihaoibmkdfjaaGreatDoor
open Go.RowKit Go.Shelf
set_option linter.unusedVariables false

theorem chain_not {n : Nat} {l : List Int} (k : Nat) (hk : k < l.length) (h : l.getD k 0 < 0 ∨ (n : Int) ≤ l.getD k 0 ∨ ∃ j, j < k ∧ l.getD j 0 = l.getD k 0) : chainB n l = false := by
  cases hb : chainB n l with
  | false => rfl
  | true =>
    obtain ⟨h1, h2⟩ := (chainB_iff n l).1 hb k hk
    rcases h with h | h | ⟨j, hj, e⟩
    · omega
    · omega
    · exact absurd e (h2 j hj)
theorem rte_chain {n : Nat} {t : T2} (h : chainB n t.1 = false) : rteR n t = false := by unfold rteR; rw [h]; rfl
set_option maxRecDepth 100000 in
set_option maxHeartbeats 3200000 in
theorem refRoute_any (N : Nat) (pa : Option Addr) (n1 c1 : Nat) (pb : Option Addr) (n2 c2 : Nat) (t : T2) (w : World) (hC : Ns w pa n1 c1 t.1) (hM : Ms w pb n2 c2 t.2) (hn : n1 ≤ 100000) (hm : n2 ≤ 100000) (hS : ShortM t.2) (hN : N ≤ 100000) :
    Calls Tryz.prog 30 #[.agg #[.slice pa n1 c1, .slice pb n2 c2], .int .i64 (N : Int)] w fun e w' => e = .returned (.bool (rteR N t)) ∧ Below w.heap.size w w' := by
  have hl := hC.len
  have hr := hC.room
  have V0 := Vals.new w 56 #[.slice pa n1 c1, .slice pb n2 c2]
  have B0 := below_alloc w (.cells #[.slice pa n1 c1, .slice pb n2 c2] 56)
  have hC1 := hC.below B0 (Nat.le_refl _)
  have HM := refMatchers_any pb n2 c2 t.2 _ (hM.below B0 (Nat.le_refl _)) (by omega) hS
  have HR : Hid (rteR N t = (chainB N t.1 && (decide (1 ≤ t.1.length) && (decide (t.1.length ≤ 4) && matsB t.2)))) := rfl
  have HF : Hid (chainB N t.1 = false → rteR N t = false) := rte_chain
  clear hC hM hS
  go_enter Tryz.func30, Tryz.ntmps30
  go_upto_region 1 with fail
  generalize w.alloc (.cells #[.slice pa n1 c1, .slice pb n2 c2] 56) = w1 at *
  have c0 : w1.cell? ⟨w.heap.size, 0, none⟩ = some (.slice pa n1 c1) := V0.cell 0
  have d0 : w1.cell? ⟨w.heap.size, 1, none⟩ = some (.slice pb n2 c2) := V0.cell 1
  obtain ⟨l, ms⟩ := t
  dsimp only at *
  go_wp2_with fail
  go_loopw [12] (fun s12 wr => ∃ k : Nat, k ≤ n1 ∧ s12 = .int .i64 k ∧ w1 = wr ∧ Hid (∀ i, i < k → (0 ≤ l.getD i 0 ∧ l.getD i 0 < (N : Int)) ∧ ∀ j, j < i → l.getD j 0 ≠ l.getD i 0)) (fun s12 _ => n1 - (intOf s12).toNat)
  case atStart => exact ⟨0, Nat.zero_le _, rfl, rfl, fun i hi => absurd hi (by omega)⟩
  case round =>
    obtain ⟨k, hk, rfl, rfl, HA⟩ := hrel
    by_cases hlt : k < n1
    · obtain ⟨g, o, rfl, e0⟩ := hC1.cell k hlt
      have HX : Hid (l.getD k 0 < 0 ∨ (N : Int) ≤ l.getD k 0 ∨ (∃ j, j < k ∧ l.getD j 0 = l.getD k 0) → rteR N (l, ms) = false) := fun h => HF.out (chain_not k (by omega) h)
      have HY : Hid (0 ≤ l.getD k 0 → l.getD k 0 < (N : Int) → (∀ j, j < k → l.getD j 0 ≠ l.getD k 0) → ∀ i, i < k + 1 → (0 ≤ l.getD i 0 ∧ l.getD i 0 < (N : Int)) ∧ ∀ j, j < i → l.getD j 0 ≠ l.getD i 0) := fun h1 h2 h3 i hi => by
        by_cases e : i = k
        · subst e; exact ⟨⟨h1, h2⟩, h3⟩
        · exact HA.out i (by omega)
      clear HA
      obtain ⟨v, hv⟩ : ∃ v, v = l.getD k 0 := ⟨_, rfl⟩
      rw [← hv] at e0 HX HY
      clear hv
      by_cases h0 : v < 0
      · have HW := Lib.hid (HX.out (.inl h0))
        clear HX HY
        go_wp2_with fail
        go_ret
        exact ⟨retB HW.out.symm, B0⟩
      by_cases h1 : (N : Int) ≤ v
      · have HW := Lib.hid (HX.out (.inr (.inl h1)))
        clear HX HY
        go_wp2_with fail
        go_ret
        exact ⟨retB HW.out.symm, B0⟩
      have HZ := Lib.hid (HY.out (by omega) (by omega))
      clear HY
      go_wp2_with fail
      go_loopw [29] (fun s29 wx => ∃ j : Nat, j ≤ k ∧ s29 = .int .i64 j ∧ w1 = wx ∧ Hid (∀ i, i < j → l.getD i 0 ≠ v)) (fun s29 _ => k - (intOf s29).toNat)
      case atStart => exact ⟨0, Nat.zero_le _, rfl, rfl, fun i hi => absurd hi (by omega)⟩
      case round =>
        obtain ⟨j, hj, rfl, rfl, HJ⟩ := hrel
        by_cases hjk : j < k
        · obtain ⟨g', o', hgo, f0⟩ := hC1.cell j (by omega)
          cases hgo
          have HQ : Hid (l.getD j 0 = v → rteR N (l, ms) = false) := fun e => HX.out (.inr (.inr ⟨j, hjk, e⟩))
          have HP : Hid (l.getD j 0 ≠ v → ∀ i, i < j + 1 → l.getD i 0 ≠ v) := fun e i hi => by
            by_cases e2 : i = j
            · subst e2; exact e
            · exact HJ.out i (by omega)
          generalize l.getD j 0 = u at *
          clear HX HZ HJ
          by_cases he : u = v
          · have HW := Lib.hid (HQ.out he)
            have hq : (u == v) = true := by simp [he]
            clear HQ HP
            subst he
            go_wp2_with fail
            go_ret
            exact ⟨retB HW.out.symm, B0⟩
          · have HW := Lib.hid (HP.out he)
            have hq : (u == v) = false := by simp [he]
            clear HQ HP
            go_wp2_with fail
            go_roundw
            case rel => exact ⟨j + 1, by omega, by go_num, trivial, HW⟩
            case measure => simp [intOf]; omega
        · obtain rfl : j = k := by omega
          have HW := Lib.hid (HZ.out HJ.out)
          clear HX HZ HJ
          go_wp2_with fail
          go_roundw
          case rel => exact ⟨j + 1, by omega, by go_num, trivial, HW⟩
          case measure => simp [intOf]; omega
    · obtain rfl : k = n1 := by omega
      have HT : Hid (chainB N l = true) := (chainB_iff N l).2 fun i hi => HA.out i (by omega)
      have HE : Hid (rteR N (l, ms) = (decide (1 ≤ k) && (decide (k ≤ 4) && matsB ms))) := by
        show _ = _
        rw [HR.out, HT.out, hl]
        rfl
      clear HA HT HR HF hC1
      by_cases h1 : 1 ≤ k
      · by_cases h4 : k ≤ 4
        · go_wp2_with fail
          refine HM.mono ?_
          rintro e w2 ⟨rfl, B2⟩
          go_wp2_with fail
          go_ret
          exact ⟨retB (by rw [HE.out, decide_eq_true h1, decide_eq_true h4]; rfl), B0.trans (B2.mono B0.size)⟩
        · go_wp2_with fail
          go_ret
          exact ⟨retB (by rw [HE.out, decide_eq_false h4]; simp), B0⟩
      · go_wp2_with fail
        go_ret
        exact ⟨retB (by rw [HE.out, decide_eq_false h1]; simp), B0⟩
end Go.Proofs.YtbihaoibmkdfjaaGreatDoor
