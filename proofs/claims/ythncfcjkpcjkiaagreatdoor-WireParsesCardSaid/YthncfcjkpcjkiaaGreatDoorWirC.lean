/-
  The document's own: a label of a word, and a matcher of one.
-/
import Derived.Test.YthncfcjkpcjkiaaGreatDoorWirB
import Derived.Test.YthncfcjkpcjkiaaGreatDoorLabR
import Derived.Test.YthncfcjkpcjkiaaGreatDoorRefMat
import Derived.Laws.ResultCell
import Derived.BigRegion
import Derived.Deep.RegionHeld3
import Derived.Deep.DeepCutAuto
import Derived.Deep.CutBlock
import Derived.RegionTactic
import Derived.StillTailTactics
import Derived.Deep.RegionLaw
namespace Go.Proofs.YthncfcjkpcjkiaaGreatDoor
open Go.RowKit Go.Shelf
set_option linter.unusedVariables false

set_option maxRecDepth 100000 in
set_option maxHeartbeats 1600000 in
theorem refLabel_any (s : ByteArray) (w : World) (hs : s.size ≤ 1000) :
    Calls Tryz.prog 50 #[.string s] w fun e w' => LabOut e (bs s) ∧ Below w.heap.size w w' := by
  have hV0 := Vals.new w 52 #[.string ByteArray.empty, .string ByteArray.empty]
  have hB0 := below_alloc w (.cells #[.string ByteArray.empty, .string ByteArray.empty] 52)
  go_enter Tryz.func50, Tryz.ntmps50
  go_wp2_with fail
  go_loopw [4] (fun s4 wr => ∃ k : Nat, k ≤ s.size ∧ s4 = .int .i64 k ∧ Vals wr w.heap.size 52 #[.string ByteArray.empty, .string ByteArray.empty] ∧ Below w.heap.size w wr ∧ Hid (labelW [] (bs s) = labelW ((bs s).take k) ((bs s).drop k))) (fun s4 _ => s.size - (intOf s4).toNat)
  case atStart => exact ⟨0, Nat.zero_le _, rfl, hV0, hB0, rfl⟩
  case round =>
    obtain ⟨k, hk, rfl, hV, hB, HS⟩ := hrel
    clear hV0 hB0
    have hc0 : wr.cell? ⟨w.heap.size, 0, none⟩ = some (.string ByteArray.empty) := hV.cell 0
    have hc1 : wr.cell? ⟨w.heap.size, 1, none⟩ = some (.string ByteArray.empty) := hV.cell 1
    have hf0 := hV.free 0
    have hf1 := hV.free 1
    have hlt0 := hV.lt
    by_cases hlt : k < s.size
    · have hd := bs_drop s k hlt
      by_cases hc : (s[k]'hlt).toNat = 61
      · have hb1 : ((((s[k]'hlt).toNat : Nat) : Int) == 61) = true := by rw [hc]; rfl
        have he : s[k]'hlt = 61 := UInt8.toNat_inj.1 hc
        have HL := Lib.hid (labelW_at hlt he HS.out)
        clear hd he hc HS
        have hz1 : (s.extract 0 k).size ≤ 1000 := by rw [ByteArray.size_extract]; omega
        have hz2 : (s.extract (k + 1) s.size).size ≤ 1000 := by rw [ByteArray.size_extract]; omega
        go_upto_region 5 with fail
        go_region
        have hVW : Vals (wr.alloc (.cells #[.string (s.extract 0 k), .string (s.extract (k + 1) s.size)] 52)).drew w.heap.size 52 #[.string ByteArray.empty, .string ByteArray.empty] := hV.alloc _
        have hXW : Vals (wr.alloc (.cells #[.string (s.extract 0 k), .string (s.extract (k + 1) s.size)] 52)).drew wr.heap.size 52 #[.string (s.extract 0 k), .string (s.extract (k + 1) s.size)] := Vals.new _ _ _
        have hBW : Below w.heap.size w (wr.alloc (.cells #[.string (s.extract 0 k), .string (s.extract (k + 1) s.size)] 52)).drew := (hB.alloc hB.size _).drew
        clear hV hB hc0 hc1 hf0 hf1
        obtain ⟨A, hA⟩ : ∃ A, A = w.heap.size := ⟨_, rfl⟩
        obtain ⟨C, hC⟩ : ∃ C, C = wr.heap.size := ⟨_, rfl⟩
        rw [← hA] at hVW
        rw [← hC] at hXW
        rw [← hA, ← hC]
        have hne : A ≠ C := by omega
        have hAw : w.heap.size ≤ A := by omega
        clear hA hC hlt0
        generalize (wr.alloc (.cells #[.string (s.extract 0 k), .string (s.extract (k + 1) s.size)] 52)).drew = W at *
        generalize s.extract 0 k = u at *
        generalize s.extract (k + 1) s.size = v at *
        have x0 : W.cell? ⟨C, 0, none⟩ = some (.string u) := hXW.cell 0
        have x1 : W.cell? ⟨C, 1, none⟩ = some (.string v) := hXW.cell 1
        have q0 : W.cell? ⟨A, 0, none⟩ = some (.string ByteArray.empty) := hVW.cell 0
        have q1 : W.cell? ⟨A, 1, none⟩ = some (.string ByteArray.empty) := hVW.cell 1
        have g0 := hVW.free 0
        have g1 := hVW.free 1
        have HR : Hid (okL (u, v) = if nameB u = true ∧ valueB v = true then some (u, v) else none) := rfl
        have hV3 : Vals ((W.setCell ⟨A, 0, none⟩ (.string u)).setCell ⟨A, 1, none⟩ (.string v)).drew A 52 #[.string u, .string v] := by
          have : Vals ((W.setCell ⟨A, 0, none⟩ (.string u)).setCell ⟨A, 1, none⟩ (.string v)).drew A 52 _ := (hVW.set 0 (.string u)).set 1 (.string v)
          simpa using this
        have B3 : Below w.heap.size w ((W.setCell ⟨A, 0, none⟩ (.string u)).setCell ⟨A, 1, none⟩ (.string v)).drew := ((hBW.setCell (p := ⟨A, 0, none⟩) hAw _).setCell (p := ⟨A, 1, none⟩) hAw _).drew
        have HN := fun w => refName_pure u (by omega) w
        have HV := fun w => refValue_pure v (by omega) w
        cases hn : nameB u with
        | true =>
          have HN := fun w => hn ▸ HN w
          have HW : Hid (labelB (bs s) = if valueB v = true then some (u, v) else none) := by show _ = _; rw [HL.out, HR.out, hn]; simp
          clear HL HR hn
          go_wp2_with fail
          first | (go_region_held3 (fun w' => w'.cell? ⟨C, 0, none⟩ = some (.string u) ∧ w'.cell? ⟨C, 1, none⟩ = some (.string v)) (first | exact ⟨x0, x1⟩ | exact ⟨setR hne (setR hne x0), setR hne (setR hne x1)⟩ | go_keep) (first
            | (go_at_call 42; refine (HN _).mono ?_; rintro e w1 ⟨rfl, rfl⟩)
            | (go_at_call 43; refine (HV _).mono ?_; rintro e w2 ⟨rfl, rfl⟩))) | fail
          all_goals generalize ((W.setCell ⟨A, 0, none⟩ (.string u)).setCell ⟨A, 1, none⟩ (.string v)).drew = w3 at *
          all_goals go_wp2_with fail
          all_goals refine bodyPost_ret (retL rfl rfl rfl hV3) rfl ?_
          all_goals refine ⟨?_, B3⟩
          all_goals cases hv : valueB v with
          | true => exact .inl ⟨(u, v), by rw [HW.out, if_pos hv], by simp⟩
          | false => exact .inr ⟨by rw [HW.out, if_neg (by simp [hv])], (u, v), by simp⟩
        | false =>
          have HN := fun w => hn ▸ HN w
          have HW : Hid (labelB (bs s) = none) := by show _ = _; rw [HL.out, HR.out, hn]; simp
          clear HL HR hn
          go_wp2_with fail
          first | (go_region_with (first
            | (go_at_call 42; refine (HN _).mono ?_; rintro e w1 ⟨rfl, rfl⟩))) | fail
          all_goals generalize ((W.setCell ⟨A, 0, none⟩ (.string u)).setCell ⟨A, 1, none⟩ (.string v)).drew = w3 at *
          all_goals go_wp2_with fail
          all_goals refine bodyPost_ret (retL rfl rfl rfl hV3) rfl ?_
          all_goals exact ⟨.inr ⟨HW.out, (u, v), rfl⟩, B3⟩
      · have hb1 : ((((s[k]'hlt).toNat : Nat) : Int) == 61) = false := by simp; omega
        have he : s[k]'hlt ≠ 61 := fun e => hc (by rw [e]; rfl)
        have HQ : Hid (labelW [] (bs s) = labelW ((bs s).take (k + 1)) ((bs s).drop (k + 1))) := by
          show _ = _
          rw [HS.out, hd, labelW, if_neg he, ← bs_next s k hlt]
        clear hd he hc HS
        go_wp2_with fail
        go_roundw
        case rel => exact ⟨k + 1, by omega, by go_num, hV, hB, HQ⟩
        case measure => simp [intOf]; omega
    · obtain rfl : k = s.size := by omega
      have HW : Hid (labelB (bs s) = none) := by
        show _ = _
        unfold labelB
        rw [HS.out, List.drop_eq_nil_of_le (show (bs s).length ≤ s.size by rw [Array.length_toList]; exact Nat.le_refl _)]
        rfl
      have hV3 : Vals ((wr.setCell ⟨w.heap.size, 0, none⟩ (.string ByteArray.empty)).setCell ⟨w.heap.size, 1, none⟩ (.string ByteArray.empty)) w.heap.size 52 #[.string ByteArray.empty, .string ByteArray.empty] := by
        have := (hV.set 0 (.string ByteArray.empty)).set 1 (.string ByteArray.empty)
        simpa using this
      have B3 : Below w.heap.size w ((wr.setCell ⟨w.heap.size, 0, none⟩ (.string ByteArray.empty)).setCell ⟨w.heap.size, 1, none⟩ (.string ByteArray.empty)) := (hB.setCell (p := ⟨w.heap.size, 0, none⟩) (Nat.le_refl _) _).setCell (p := ⟨w.heap.size, 1, none⟩) (Nat.le_refl _) _
      clear HS
      go_wp2_with fail
      refine bodyPost_ret (retL rfl rfl rfl hV3) rfl ?_
      exact ⟨.inr ⟨HW.out, (ByteArray.empty, ByteArray.empty), rfl⟩, B3⟩
end Go.Proofs.YthncfcjkpcjkiaaGreatDoor
