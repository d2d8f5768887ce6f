/-
  The program's own: words of labels, and words one behind the other.
-/
import Derived.Test.YthncfcjkpcjkiaaGreatDoorWirT
import Derived.Deep.AppendLies
namespace Go.Proofs.YthncfcjkpcjkiaaGreatDoor
open Go.RowKit Go.Shelf
set_option linter.unusedVariables false

theorem labW_text (x : L2) : tx (labW x) = x.1 ++ ⟨#[61]⟩ ++ x.2 := by
  unfold labW
  rw [show x.1.data.toList ++ 61 :: x.2.data.toList = (x.1.data.toList ++ [61]) ++ x.2.data.toList by simp, ← tx_append, ← tx_append, tx_of, tx_of]
  rfl
/-- short texts -/
def Short12 (l : List L2) : Prop := ∀ k, k < l.length → (l.getD k zL).1.size ≤ 12 ∧ (l.getD k zL).2.size ≤ 12
theorem wl_next (l : List L2) (k : Nat) (hk : k < l.length) : ((l.take (k + 1)).map labW).map tx = ((l.take k).map labW).map tx ++ [(l.getD k zL).1 ++ ⟨#[61]⟩ ++ (l.getD k zL).2] := by
  rw [takeL_next l k hk, List.map_append, List.map_append, ← labW_text]
  rfl
/-- what is told of words: a row of them -/
def WordsOut (w0 w : World) (e : Ending) (l : List ByteArray) : Prop := ∃ (oa : Option Addr) (n cap : Nat), e = .returned (.slice oa n cap) ∧ Ts w oa n cap l
set_option maxRecDepth 100000 in
set_option maxHeartbeats 3200000 in
theorem words_labels (oa : Option Addr) (n cap : Nat) (l : List L2) (w : World) (h : Ls w oa n cap l) (hn : n ≤ 6) (hz : Short12 l) :
    Calls Tryz.prog 34 #[.slice oa n cap] w fun e w' => WordsOut w w' e ((l.map labW).map tx) ∧ Below w.heap.size w w' := by
  have hl := h.len
  have hr := h.room
  have HZ := Lib.hid hz
  clear hz
  obtain ⟨i0, hi, hz0, hz1, hz2⟩ := info_parts infoTx
  have own0 : w.ownsRow w.heap.size 9 1 (.slice none 0 0) 0 (cellsT ([] : List ByteArray)) := World.ownsRow_nil _ _ _ _
  go_enter Tryz.func34, Tryz.ntmps34
  go_wp2_with fail
  go_loopw [3, 8] (fun s3 s8 wr => ∃ k : Nat, k ≤ n ∧ s8 = .int .i64 k ∧ wr.ownsRow w.heap.size 9 1 s3 k (cellsT (((l.take k).map labW).map tx)) ∧ Below w.heap.size w wr) (fun _ s8 _ => n - (intOf s8).toNat)
  case atStart => exact ⟨0, Nat.zero_le _, rfl, by simpa using own0, Below.refl _ _⟩
  case round =>
    obtain ⟨k, hk, rfl, hown, hB⟩ := hrel
    by_cases hlt : k < n
    · obtain ⟨g, o, rfl, c0, c1⟩ := (h.below hB (Nat.le_refl _)).cell k hlt
      have HX := Lib.hid (wl_next l k (by omega))
      obtain ⟨z0, z1⟩ := HZ.out k (by omega)
      generalize l.getD k zL = x at *
      obtain ⟨s, t⟩ := x
      dsimp only at c0 c1 z0 z1 HX
      have za : (s ++ (⟨#[61]⟩ : ByteArray)).size = s.size + 1 := by rw [ByteArray.size_append]; rfl
      have howna := hown.alloc (.cells #[.string s, .string t] 52)
      have hBa := hB.alloc hB.size (.cells #[.string s, .string t] 52)
      have e0 : (wr.alloc (.cells #[.string s, .string t] 52)).cell? ⟨wr.heap.size, 0, none⟩ = some (.string s) := by simp
      have e1 : (wr.alloc (.cells #[.string s, .string t] 52)).cell? ⟨wr.heap.size, 1, none⟩ = some (.string t) := by simp
      clear own0 h hl HZ hown
      go_upto_region 5 with fail
      generalize wr.alloc (.cells #[.string s, .string t] 52) = w7 at *
      generalize wr.heap.size = Bx at *
      have hz7 := hBa.size
      go_wp2_with (at_builtin; refine wpList_append_own _ rfl _ _ 54 rfl w.heap.size 9 i0 _ 1 16 Tryz.underlying54 hi hz0 hz1 hz2 rfl (by decide) _ _ _ rfl (howna.alloc _) ⟨w7.heap.size, 0, none⟩ 1 1 [.string (s ++ ⟨#[61]⟩ ++ t)] rfl rfl (one_newT _ _ _) (one_cellT _) (by unfold maxLen; omega) (by omega) (by simp; omega) ?_; intro v' w8 hown' hgrow _)
      have B8 : Below w.heap.size w w8 := (hBa.alloc hz7 _).grown hgrow (by simp; omega) (fun r e => (howna.lt r e).1)
      have HO : w8.ownsRow w.heap.size 9 1 v' (k + 1) (cellsT (((l.take (k + 1)).map labW).map tx)) := by
        rw [HX.out, cellsT_snoc]
        exact hown'
      clear hown' hgrow howna hBa
      go_wp2_with fail
      go_roundw
      case rel => exact ⟨k + 1, by omega, by go_num, HO, B8⟩
      case measure => simp [intOf]; omega
    · obtain rfl : k = n := by omega
      obtain ⟨oa', cap', rfl, hT, _, _⟩ := Ts.of_own (by rw [List.length_map, List.length_map, List.length_take]; omega) hown
      have HT := Lib.hid hT
      rw [List.take_of_length_le (by omega)] at HT
      clear own0 h hl HZ hown hT
      go_wp2_with fail
      go_ret
      exact ⟨⟨_, _, _, rfl, HT.out⟩, hB⟩
/-- words one behind the other -/
theorem pw_next (hd : List UInt8) (ws : List (List UInt8)) (k : Nat) (hk : k < ws.length) :
    tx (hd ++ (ws.take (k + 1)).flatMap fun v => 32 :: v) = tx (hd ++ (ws.take k).flatMap fun v => 32 :: v) ++ ((⟨#[32]⟩ : ByteArray) ++ tx (ws.getD k [])) := by
  rw [ws_next ws k hk, List.flatMap_append, ← List.append_assoc]
  rw [show (⟨#[32]⟩ : ByteArray) = tx [32] from rfl, tx_append, tx_append]
  simp
set_option maxRecDepth 100000 in
set_option maxHeartbeats 1600000 in
theorem print_words (hd : List UInt8) (ws : List (List UInt8)) (oa : Option Addr) (n cap : Nat) (w : World) (h : Ts w oa n cap (ws.map tx)) (hn : n ≤ 100) (hz : ∀ v ∈ ws, v.length ≤ 100) (hh : hd.length ≤ 100) :
    Calls Tryz.prog 33 #[.string (tx hd), .slice oa n cap] w fun e w' => e = .returned (.string (tx (joinB (hd :: ws)))) ∧ Below w.heap.size w w' := by
  have hl := h.len
  rw [List.length_map] at hl
  have hr := h.room
  have HZ := Lib.hid hz
  have HJ : Hid (joinB (hd :: ws) = hd ++ ws.flatMap fun v => 32 :: v) := rfl
  have hs0 : (tx hd).size ≤ 100 := by rw [tx_size]; exact hh
  clear hz hh
  go_enter Tryz.func33, Tryz.ntmps33
  go_wp2_with fail
  go_loopw [5, 11] (fun s5 s11 wr => ∃ (k : Nat) (z : ByteArray), k ≤ n ∧ s11 = .int .i64 k ∧ s5 = .string z ∧ Hid (z = tx (hd ++ (ws.take k).flatMap fun v => 32 :: v)) ∧ z.size ≤ 100 + 101 * k ∧ Below w.heap.size w wr) (fun _ s11 _ => n - (intOf s11).toNat)
  case atStart => exact ⟨0, _, Nat.zero_le _, rfl, rfl, by show _ = _; simp, by omega, Below.refl _ _⟩
  case round =>
    obtain ⟨k, z, hk, rfl, rfl, HK, hzk, hB⟩ := hrel
    by_cases hlt : k < n
    · obtain ⟨g, o, rfl, c0⟩ := (h.below hB (Nat.le_refl _)).cell k hlt
      rw [ws_at ws k (by omega)] at c0
      have HX := Lib.hid (pw_next hd ws k (by omega))
      have hy : (tx (ws.getD k [])).size ≤ 100 := by rw [tx_size]; exact HZ.out _ (ws_mem ws k (by omega))
      rw [← HK.out] at HX
      generalize tx (ws.getD k []) = y at *
      have hzy : ((⟨#[32]⟩ : ByteArray) ++ y).size = y.size + 1 := by rw [ByteArray.size_append]; show 1 + _ = _; omega
      clear h hl HZ HK
      go_wp2_with fail
      go_roundw
      case rel => exact ⟨k + 1, _, by omega, by go_num, rfl, HX.out.symm, by rw [ByteArray.size_append, hzy]; omega, hB⟩
      case measure => simp [intOf]; omega
    · obtain rfl : k = n := by omega
      have HF : Hid (tx (joinB (hd :: ws)) = z) := by
        have e := HK.out
        rw [List.take_of_length_le (by omega)] at e
        show _ = _
        rw [HJ.out, e]
      clear h hl HZ HK
      go_wp2_with fail
      go_ret
      exact ⟨retS HF.out.symm, hB⟩
end Go.Proofs.YthncfcjkpcjkiaaGreatDoor
