/-
  The program's own: labels of words.
-/
import Derived.Test.YthncfcjkpcjkiaaGreatDoorParL
namespace Go.Proofs.YthncfcjkpcjkiaaGreatDoor
open Go.RowKit Go.Shelf
set_option linter.unusedVariables false

/-- what is told of words: their labels, or that one is none's -/
def LabsOut (w : World) (e : Ending) (o : Option (List L2)) : Prop := (∃ l, o = some l ∧ ∃ (oa : Option Addr) (n cap : Nat), e = .returned (.tuple #[.slice oa n cap, .int .i64 0]) ∧ Ls w oa n cap l) ∨ (o = none ∧ e = .returned (.tuple #[.slice none 0 0, .int .i64 13]))
set_option maxRecDepth 100000 in
set_option maxHeartbeats 6400000 in
theorem parse_words (oa : Option Addr) (n cap : Nat) (ws : List (List UInt8)) (w : World) (h : Ts w oa n cap (ws.map tx)) (hn : n ≤ 300) (hz : ∀ v ∈ ws, v.length ≤ 1000) :
    Calls Tryz.prog 46 #[.slice oa n cap] w fun e w' => LabsOut w' e (allO labelB ws) ∧ Below w.heap.size w w' := by
  have hl : ws.length = n := by rw [← h.len, List.length_map]
  have hr := h.room
  have HZ := Lib.hid hz
  have HL := Lib.hid hl
  clear hz hl
  have own0 : w.ownsRow w.heap.size 52 2 (.slice none 0 0) 0 (cellsL ([] : List L2)) := World.ownsRow_nil _ _ _ _
  go_enter Tryz.func46, Tryz.ntmps46
  go_wp2_with fail
  go_loopw [4, 11] (fun s4 s11 wr => ∃ (k : Nat) (l : List L2), k ≤ n ∧ s11 = .int .i64 k ∧ wr.ownsRow w.heap.size 52 2 s4 k (cellsL l) ∧ l.length = k ∧ Below w.heap.size w wr ∧ Hid (allO labelB (ws.take k) = some l)) (fun _ s11 _ => n - (intOf s11).toNat)
  case atStart => exact ⟨0, [], Nat.zero_le _, rfl, own0, rfl, Below.refl _ _, rfl⟩
  case round =>
    obtain ⟨k, l, hk, rfl, hown, hlk, hB, HO⟩ := hrel
    clear own0
    by_cases hlt : k < n
    · obtain ⟨g, o, rfl, c0⟩ := (h.below hB (Nat.le_refl _)).cell k hlt
      have hkl : k < ws.length := by rw [HL.out]; exact hlt
      rw [ws_at ws k hkl] at c0
      have hzk : (tx (ws.getD k [])).size ≤ 1000 := by rw [tx_size]; exact HZ.out _ (ws_mem ws k hkl)
      have HA := fun w => word_label (tx (ws.getD k [])) w (by omega)
      rw [show bs (tx (ws.getD k [])) = ws.getD k [] from tx_data _] at HA
      have HS : Hid (∀ x, labelB (ws.getD k []) = some x → allO labelB (ws.take (k + 1)) = some (l ++ [x])) := fun x hx => by
        rw [ws_next ws k hkl, allO_snoc, HO.out]
        show (labelB (ws.getD k [])).map _ = _
        rw [hx]
        rfl
      have HN : Hid (labelB (ws.getD k []) = none → allO labelB ws = none) := allO_none (ws_mem ws k hkl)
      generalize tx (ws.getD k []) = y at *
      generalize ws.getD k [] = v at *
      clear h HZ HO HL hkl
      go_wp2_with fail
      refine (HA _).mono ?_
      rintro e w5 ⟨⟨x, hx, rfl⟩ | ⟨hx, x, rfl⟩, B5⟩
      · have HX := Lib.hid (HS.out x hx)
        have hB5 := hB.trans (B5.mono hB.size)
        have hown5 := own_keep hown B5
        have hz5 := hB5.size
        obtain ⟨s, t⟩ := x
        clear HS HN hx hown hB B5 HA c0
        dsimp only [aggL]
        have hBa := hB5.alloc hz5 (.cells #[.string s, .string t] 52)
        have howna := hown5.alloc (.cells #[.string s, .string t] 52)
        have d0 : (w5.alloc (.cells #[.string s, .string t] 52)).cell? ⟨w5.heap.size, 0, none⟩ = some (.string s) := by simp
        have d1 : (w5.alloc (.cells #[.string s, .string t] 52)).cell? ⟨w5.heap.size, 1, none⟩ = some (.string t) := by simp
        go_upto_region 8 with fail
        generalize w5.alloc (.cells #[.string s, .string t] 52) = w7 at *
        generalize w5.heap.size = G7 at *
        have hz7 := hBa.size
        have hone := Ls.one w7 (s, t)
        clear hown5 hB5
        go_wp2_with (first | (at_builtin; refine wpList_append_ls _ rfl (.tmp 22) (.tmp 24) rfl w.heap.size rfl (howna.alloc _) rfl hone (by omega) (by simp <;> omega) ?_; intro v1 w8 own1 hg1; have B8 : Below w.heap.size w w8 := (hBa.alloc hz7 _).grown hg1 (by simp <;> omega) (fun r e => (howna.lt r e).1)))
        rw [← cellsL_append] at own1
        clear hone hg1 howna hBa
        go_wp2_with fail
        go_roundw
        case rel => exact ⟨k + 1, l ++ [(s, t)], by omega, by go_num, own1, by simp [hlk], B8, HX⟩
        case measure => simp [intOf]; omega
      · have HX := Lib.hid (HN.out hx)
        have hB5 := hB.trans (B5.mono hB.size)
        clear HS HN hx hown hB HA c0
        go_wp2_with fail
        go_ret2
        exact ⟨.inr ⟨HX.out, rfl⟩, hB5.alloc hB5.size _⟩
    · obtain rfl : k = n := by omega
      obtain ⟨oa', cap', rfl, hM, _⟩ := Ls.of_own hlk hown
      have HM := Lib.hid hM
      have HX : Hid (allO labelB ws = some l) := by
        have e := HO.out
        rw [List.take_of_length_le (by rw [HL.out]; exact Nat.le_refl _)] at e
        exact e
      clear h HZ HO HL hown hM
      go_wp2_with fail
      go_ret2
      exact ⟨.inl ⟨l, HX.out, _, _, _, rfl, HM.out⟩, hB⟩
end Go.Proofs.YthncfcjkpcjkiaaGreatDoor
