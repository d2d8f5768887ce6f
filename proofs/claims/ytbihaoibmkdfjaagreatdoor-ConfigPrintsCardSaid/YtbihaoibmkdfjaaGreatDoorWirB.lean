/-
  The document's own: a text's words.
-/
import Derived.Test.YtbihaoibmkdfjaaGreatDoorWirA
namespace Go.Proofs.YtbihaoibmkdfjaaGreatDoor
open Go.RowKit Go.Shelf
set_option linter.unusedVariables false

set_option maxRecDepth 100000 in
set_option maxHeartbeats 1600000 in
theorem refWords_any (s : ByteArray) (w : World) (hs : s.size ≤ 100000) :
    Calls Tryz.prog 40 #[.string s] w fun e w' => (∃ oa cap, e = .returned (.slice oa (splitW [] (bs s)).length cap) ∧ Ts w' oa (splitW [] (bs s)).length cap ((splitW [] (bs s)).map tx) ∧ cap ≤ maxLen ∧ ∃ g, oa = some ⟨g, 0, none⟩ ∧ w.heap.size ≤ g) ∧ Below w.heap.size w w' := by
  obtain ⟨i0, hi, hz0, hz1, hz2⟩ := info_parts infoTx
  have own0 : (w.alloc (.cells #[] 9)).ownsRow w.heap.size 9 1 (.slice (some ⟨w.heap.size, 0, none⟩) 0 0) 0 (cellsT (List.map tx [])) := World.ownsRow_made w #[] 0 (Nat.le_refl _) (Nat.zero_le _) (by simp)
  have hB0 := (Below.refl w.heap.size w).alloc (Nat.le_refl _) (.cells #[] 9)
  go_enter Tryz.func40, Tryz.ntmps40
  go_wp2_with fail
  go_loopw [3, 4, 5] (fun s3 s4 s5 wr => ∃ (k f : Nat) (ws : List (List UInt8)), k ≤ s.size ∧ f ≤ k ∧ ws.length ≤ k ∧ s5 = .int .i64 k ∧ s4 = .int .i64 f ∧ wr.ownsRow w.heap.size 9 1 s3 ws.length (cellsT (ws.map tx)) ∧ Below w.heap.size w wr ∧ Hid (splitW [] (bs s) = ws ++ splitW (((bs s).take k).drop f) ((bs s).drop k))) (fun _ _ s5 _ => s.size - (intOf s5).toNat)
  case atStart => exact ⟨0, 0, [], Nat.zero_le _, Nat.le_refl _, Nat.le_refl _, rfl, rfl, own0, hB0, by show _ = _; simp⟩
  case round =>
    obtain ⟨k, f, ws, hk, hf, hw, rfl, rfl, hown, hB, HS⟩ := hrel
    clear own0 hB0
    by_cases hlt : k < s.size
    · have HN := Lib.hid (cut_next s f k hlt hf)
      have hd := bs_drop s k hlt
      by_cases hc : (s[k]'hlt).toNat = 32
      · have hc1 : ((((s[k]'hlt).toNat : Nat) : Int) == 32) = true := by rw [hc]; rfl
        have he : s[k]'hlt = 32 := UInt8.toNat_inj.1 hc
        have HQ : Hid (splitW [] (bs s) = (ws ++ [((bs s).take k).drop f]) ++ splitW (((bs s).take (k + 1)).drop (k + 1)) ((bs s).drop (k + 1))) := by
          show _ = _
          rw [HS.out, hd, splitW, if_pos he, List.append_assoc, List.singleton_append]
          congr 3
          rw [List.drop_eq_nil_of_le (by rw [List.length_take]; omega)]
        have HC := Lib.hid (cut_text s f k)
        clear hd he hc HS HN
        have hz := hB.size
        go_wp2_with (at_builtin; refine wpList_append_own _ rfl _ _ 42 rfl w.heap.size 9 i0 _ 1 16 Tryz.underlying42 hi hz0 hz1 hz2 rfl (by decide) _ _ _ rfl (hown.alloc _) ⟨wr.heap.size, 0, none⟩ 1 1 [.string (s.extract f k)] rfl rfl (one_newT _ _ _) (one_cellT _) (by unfold maxLen; omega) (by omega) (by simp; omega) ?_; intro v' w1 hown' hgrow _)
        have B1 : Below w.heap.size w w1 := (hB.alloc hB.size _).grown hgrow (by simp; omega) (fun r e => (hown.lt r e).1)
        have HO : w1.ownsRow w.heap.size 9 1 v' (ws ++ [((bs s).take k).drop f]).length (cellsT ((ws ++ [((bs s).take k).drop f]).map tx)) := by
          rw [List.map_append, List.map_singleton, cellsT_snoc, ← HC.out, List.length_append]
          exact hown'
        clear hown' hgrow hown
        go_wp2_with fail
        go_roundw
        case rel => exact ⟨k + 1, k + 1, ws ++ [((bs s).take k).drop f], by omega, by omega, by rw [List.length_append]; simp; omega, by go_num, by go_num, HO, B1, HQ⟩
        case measure => simp [intOf]; omega
      · have hc1 : ((((s[k]'hlt).toNat : Nat) : Int) == 32) = false := by simp; omega
        have he : s[k]'hlt ≠ 32 := fun e => hc (by rw [e]; rfl)
        have HQ : Hid (splitW [] (bs s) = ws ++ splitW (((bs s).take (k + 1)).drop f) ((bs s).drop (k + 1))) := by
          show _ = _
          rw [HS.out, hd, splitW, if_neg he, HN.out]
        clear hd he hc HS HN
        go_wp2_with fail
        go_roundw
        case rel => exact ⟨k + 1, f, ws, by omega, by omega, by omega, by go_num, rfl, hown, hB, HQ⟩
        case measure => simp [intOf]; omega
    · obtain rfl : k = s.size := by omega
      have hdr : (bs s).drop s.size = [] := List.drop_eq_nil_of_le (by rw [Array.length_toList]; exact Nat.le_refl _)
      have HQ : Hid (splitW [] (bs s) = ws ++ [((bs s).take s.size).drop f]) := by
        show _ = _
        rw [HS.out, hdr]
        rfl
      have HC := Lib.hid (cut_text s f s.size)
      have hz := hB.size
      clear HS hdr
      go_wp2_with (at_builtin; refine wpList_append_own _ rfl _ _ 42 rfl w.heap.size 9 i0 _ 1 16 Tryz.underlying42 hi hz0 hz1 hz2 rfl (by decide) _ _ _ rfl (hown.alloc _) ⟨wr.heap.size, 0, none⟩ 1 1 [.string (s.extract f s.size)] rfl rfl (one_newT _ _ _) (one_cellT _) (by unfold maxLen; omega) (by omega) (by simp; omega) ?_; intro v' w1 hown' hgrow _)
      have B1 : Below w.heap.size w w1 := (hB.alloc hB.size _).grown hgrow (by simp; omega) (fun r e => (hown.lt r e).1)
      have HO : w1.ownsRow w.heap.size 9 1 v' (splitW [] (bs s)).length (cellsT ((splitW [] (bs s)).map tx)) := by
        rw [HQ.out, List.map_append, List.map_singleton, cellsT_snoc, ← HC.out, List.length_append]
        exact hown'
      obtain ⟨oa, cap, rfl, hTs, hcap, hown2⟩ := Ts.of_own (by rw [List.length_map]) HO
      obtain ⟨g, hg, hg1, _⟩ := hown2 (by have := splitW_ne (bs s) []; exact List.length_pos_iff.2 this)
      have HT := Lib.hid hTs
      clear hown' hgrow hown HO hown2 hTs
      go_wp2_with fail
      go_ret
      exact ⟨⟨oa, cap, rfl, HT.out, hcap, g, hg, hg1⟩, B1⟩
end Go.Proofs.YtbihaoibmkdfjaaGreatDoor
