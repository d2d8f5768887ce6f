/-
  The document's own: a matcher of a word.
-/
import Derived.Test.YtbihaoibmkdfjaaGreatDoorWirB
import Derived.Test.YtbihaoibmkdfjaaGreatDoorRfM
import Derived.Laws.ResultCell
import Derived.BigRegion
import Derived.Deep.RegionHeld3
import Derived.Deep.DeepCutAuto
import Derived.Deep.CutBlock
import Derived.RegionTactic
import Derived.StillTailTactics
import Derived.Deep.RegionLaw
import Derived.Deep.QuietTactic
import Derived.BigQuiet
namespace Go.Proofs.YtbihaoibmkdfjaaGreatDoor
open Go.RowKit Go.Shelf
set_option linter.unusedVariables false

set_option maxRecDepth 100000 in
set_option maxHeartbeats 1600000 in
theorem refAsked_any (s : ByteArray) (w : World) (hs : s.size ≤ 100000) :
    Calls Tryz.prog 68 #[.string s] w fun e w' => MatOut e (bs s) ∧ Below w.heap.size w w' := by
  have hV0 := Vals.new w 59 #[.int .i64 0, .string ByteArray.empty, .string ByteArray.empty]
  have hB0 := below_alloc w (.cells #[.int .i64 0, .string ByteArray.empty, .string ByteArray.empty] 59)
  go_enter Tryz.func68, Tryz.ntmps68
  go_wp2_with fail
  go_loopw [4, 5] (fun s4 s5 wr => ∃ k : Nat, k ≤ s.size ∧ s4 = .int .i64 k ∧ Vals wr w.heap.size 59 #[.int .i64 0, .string ByteArray.empty, .string ByteArray.empty] ∧ Below w.heap.size w wr ∧ Hid (askedW [] (bs s) = askedW ((bs s).take k) ((bs s).drop k))) (fun s4 _ _ => s.size - (intOf s4).toNat)
  case atStart => exact ⟨0, Nat.zero_le _, rfl, hV0, hB0, rfl⟩
  case round =>
    obtain ⟨k, hk, rfl, hV, hB, HS⟩ := hrel
    clear hV0 hB0
    by_cases hlt : k < s.size
    · have HO := Lib.hid (one_at s k hlt)
      go_wp2_with fail
      go_loopw [5] (fun s5 wx => ∃ j : Nat, j ≤ 4 ∧ s5 = .int .i64 j ∧ Vals wx w.heap.size 59 #[.int .i64 0, .string ByteArray.empty, .string ByteArray.empty] ∧ Below w.heap.size w wx ∧ Hid (∀ i : Nat, i < j → s[k]'hlt ≠ signC (i : Int))) (fun s5 _ => 4 - (intOf s5).toNat)
      case atStart => exact ⟨0, Nat.zero_le _, rfl, hV, hB, fun i hi => absurd hi (by omega)⟩
      case round =>
        obtain ⟨j, hj, rfl, hVx, hBx, HJ⟩ := hrel
        clear hV hB
        by_cases hj4 : j < 4
        · have HSg := fun w => refSign_any j hj4 w
          obtain ⟨b, hb⟩ : ∃ b : Bool, b = true ↔ s[k]'hlt = signC (j : Int) := ⟨decide (s[k]'hlt = signC (j : Int)), by simp⟩
          have hq : ((s.extract k (k + 1)).toList == (tx [signC (j : Int)]).toList) = b := bs_beq _ _ b (by rw [hb, HO.out]; unfold bs; rw [tx_data, tx_data]; simp)
          have HBb := Lib.hid hb
          clear hb
          generalize tx [signC (j : Int)] = sg at *
          have hw1 : IntKind.i64.wrap ((k : Int) + 1) = (k : Int) + 1 := by simp [IntKind.wrap, IntKind.bits, IntKind.signed]; omega
          have hk0 : (0 : Int) ≤ (k : Int) := by omega
          have hk1 : (k : Int) ≤ (k : Int) + 1 := by omega
          have hk2 : (k : Int) + 1 ≤ (s.size : Int) := by omega
          go_wp2_with fail
          go_quiet ((go_at_call 57; refine Calls.quiet_of_same (HSg _)))
          cases b with
          | false =>
            have HN : Hid (∀ i : Nat, i < j + 1 → s[k]'hlt ≠ signC (i : Int)) := fun i hi => by
              by_cases e : i = j
              · subst e
                exact fun e => absurd (HBb.out.2 e) (by simp)
              · exact HJ.out i (by omega)
            go_wp2_with fail
            go_roundw
            case rel => exact ⟨j + 1, by omega, by go_num, hVx, belowN hBx _, HN⟩
            case measure => simp [intOf]; omega
          | true =>
            have HL := Lib.hid (askedW_at hlt (kind_of hj4 (HBb.out.1 rfl)) HS.out)
            have hz1 : (s.extract 0 k).size ≤ 100000 := by rw [ByteArray.size_extract]; omega
            have hz2 : (s.extract (k + 1) s.size).size ≤ 100000 := by rw [ByteArray.size_extract]; omega
            have hVn : Vals (wr.drewN nq) w.heap.size 59 #[.int .i64 0, .string ByteArray.empty, .string ByteArray.empty] := hVx
            have hBn : Below w.heap.size w (wr.drewN nq) := belowN hBx _
            clear hVx hBx hw1 HBb hq HSg HJ
            generalize wr.drewN nq = wq at *
            have hlt0 := hVn.lt
            go_upto_region 8 with fail
            go_region
            have hVW : Vals (wq.alloc (.cells #[.int .i64 (j : Int), .string (s.extract 0 k), .string (s.extract (k + 1) s.size)] 59)).drew w.heap.size 59 #[.int .i64 0, .string ByteArray.empty, .string ByteArray.empty] := hVn.alloc _
            have hXW : Vals (wq.alloc (.cells #[.int .i64 (j : Int), .string (s.extract 0 k), .string (s.extract (k + 1) s.size)] 59)).drew wq.heap.size 59 #[.int .i64 (j : Int), .string (s.extract 0 k), .string (s.extract (k + 1) s.size)] := Vals.new _ _ _
            have hBW : Below w.heap.size w (wq.alloc (.cells #[.int .i64 (j : Int), .string (s.extract 0 k), .string (s.extract (k + 1) s.size)] 59)).drew := (hBn.alloc hBn.size _).drew
            clear hVn hBn
            obtain ⟨A, hA⟩ : ∃ A, A = w.heap.size := ⟨_, rfl⟩
            obtain ⟨C, hC⟩ : ∃ C, C = wq.heap.size := ⟨_, rfl⟩
            rw [← hA] at hVW
            rw [← hC] at hXW
            rw [← hA, ← hC]
            have hne : A ≠ C := by omega
            have hAw : w.heap.size ≤ A := by omega
            clear hA hC hlt0
            generalize (wq.alloc (.cells #[.int .i64 (j : Int), .string (s.extract 0 k), .string (s.extract (k + 1) s.size)] 59)).drew = W at *
            generalize s.extract 0 k = u at *
            generalize s.extract (k + 1) s.size = v at *
            have x0 : W.cell? ⟨C, 0, none⟩ = some (.int .i64 (j : Int)) := hXW.cell 0
            have x1 : W.cell? ⟨C, 1, none⟩ = some (.string u) := hXW.cell 1
            have x2 : W.cell? ⟨C, 2, none⟩ = some (.string v) := hXW.cell 2
            have hVD : Vals W.drew A 59 #[.int .i64 0, .string ByteArray.empty, .string ByteArray.empty] := hVW
            have HR : Hid (okM ((j : Int), u, v) = if matB ((j : Int), u, v) = true then some ((j : Int), u, v) else none) := rfl
            have HM := fun w => refMatcher_any ((j : Int), u, v) ⟨by show u.size ≤ _; omega, by show v.size ≤ _; omega⟩ w
            dsimp only [aggM] at HM
            obtain ⟨b, hb⟩ : ∃ b, matB ((j : Int), u, v) = b := ⟨_, rfl⟩
            rw [hb] at HM HR
            clear hb
            go_wp2_with fail
            go_region_held3 (fun w' => w'.cell? ⟨C, 0, none⟩ = some (.int .i64 (j : Int)) ∧ w'.cell? ⟨C, 1, none⟩ = some (.string u) ∧ w'.cell? ⟨C, 2, none⟩ = some (.string v)) (first | exact ⟨x0, x1, x2⟩ | exact ⟨keepR B1 x0, keepR B1 x1, keepR B1 x2⟩ | exact ⟨setR hne (setR hne (setR hne (keepR B1 x0))), setR hne (setR hne (setR hne (keepR B1 x1))), setR hne (setR hne (setR hne (keepR B1 x2)))⟩ | go_keep) (first | (go_at_call 86; refine (HM _).mono ?_; rintro e w1 ⟨rfl, B1⟩; have hV2 := hVD.keep B1 (Nat.le_refl _); have q0 : w1.cell? ⟨A, 0, none⟩ = some (.int .i64 0) := hV2.cell 0; have q1 : w1.cell? ⟨A, 1, none⟩ = some (.string ByteArray.empty) := hV2.cell 1; have q2 : w1.cell? ⟨A, 2, none⟩ = some (.string ByteArray.empty) := hV2.cell 2; have g0 := hV2.free 0; have g1 := hV2.free 1; have g2 := hV2.free 2))
            have hV3 : Vals (((w1.setCell ⟨A, 0, none⟩ (.int .i64 (j : Int))).setCell ⟨A, 1, none⟩ (.string u)).setCell ⟨A, 2, none⟩ (.string v)) A 59 #[.int .i64 (j : Int), .string u, .string v] := by
              have := ((hV2.set 0 (.int .i64 (j : Int))).set 1 (.string u)).set 2 (.string v)
              simpa using this
            have B3 : Below w.heap.size w (((w1.setCell ⟨A, 0, none⟩ (.int .i64 (j : Int))).setCell ⟨A, 1, none⟩ (.string u)).setCell ⟨A, 2, none⟩ (.string v)) := (((hBW.drew.trans (B1.mono hBW.size)).setCell (p := ⟨A, 0, none⟩) hAw _).setCell (p := ⟨A, 1, none⟩) hAw _).setCell (p := ⟨A, 2, none⟩) hAw _
            have HW : Hid (askedB (bs s) = if b = true then some ((j : Int), u, v) else none) := by show _ = _; rw [HL.out, HR.out]
            generalize ((w1.setCell ⟨A, 0, none⟩ (.int .i64 (j : Int))).setCell ⟨A, 1, none⟩ (.string u)).setCell ⟨A, 2, none⟩ (.string v) = w3 at *
            clear HL HR HM hVD hV2 q0 q1 q2 g0 g1 g2
            go_wp2_with fail
            refine bodyPost_ret (retM rfl rfl rfl hV3) rfl ?_
            refine ⟨?_, B3⟩
            cases b with
            | true => exact .inl ⟨((j : Int), u, v), by rw [HW.out, if_pos rfl], by simp⟩
            | false => exact .inr ⟨by rw [HW.out, if_neg (by simp)], ((j : Int), u, v), by simp⟩
        · obtain rfl : j = 4 := by omega
          have hkn : kindB (s[k]'hlt) = none := kind_no HJ.out
          have HQ : Hid (askedW [] (bs s) = askedW ((bs s).take (k + 1)) ((bs s).drop (k + 1))) := by
            show _ = _
            rw [HS.out, bs_drop s k hlt, askedW, hkn]
            simp only
            rw [← bs_next s k hlt]
          clear HJ hkn HS HO
          go_wp2_with fail
          go_roundw
          case rel => exact ⟨k + 1, by omega, by go_num, hVx, hBx, HQ⟩
          case measure => simp [intOf]; omega
    · obtain rfl : k = s.size := by omega
      have HW : Hid (askedB (bs s) = none) := by
        show _ = _
        unfold askedB
        rw [HS.out, List.drop_eq_nil_of_le (show (bs s).length ≤ s.size by rw [Array.length_toList]; exact Nat.le_refl _)]
        rfl
      have hc0 : wr.cell? ⟨w.heap.size, 0, none⟩ = some (.int .i64 0) := hV.cell 0
      have hc1 : wr.cell? ⟨w.heap.size, 1, none⟩ = some (.string ByteArray.empty) := hV.cell 1
      have hc2 : wr.cell? ⟨w.heap.size, 2, none⟩ = some (.string ByteArray.empty) := hV.cell 2
      have hf0 := hV.free 0
      have hf1 := hV.free 1
      have hf2 := hV.free 2
      have hV3 : Vals (((wr.setCell ⟨w.heap.size, 0, none⟩ (.int .i64 0)).setCell ⟨w.heap.size, 1, none⟩ (.string ByteArray.empty)).setCell ⟨w.heap.size, 2, none⟩ (.string ByteArray.empty)) w.heap.size 59 #[.int .i64 0, .string ByteArray.empty, .string ByteArray.empty] := by
        have := ((hV.set 0 (.int .i64 0)).set 1 (.string ByteArray.empty)).set 2 (.string ByteArray.empty)
        simpa using this
      have B3 : Below w.heap.size w (((wr.setCell ⟨w.heap.size, 0, none⟩ (.int .i64 0)).setCell ⟨w.heap.size, 1, none⟩ (.string ByteArray.empty)).setCell ⟨w.heap.size, 2, none⟩ (.string ByteArray.empty)) := ((hB.setCell (p := ⟨w.heap.size, 0, none⟩) (Nat.le_refl _) _).setCell (p := ⟨w.heap.size, 1, none⟩) (Nat.le_refl _) _).setCell (p := ⟨w.heap.size, 2, none⟩) (Nat.le_refl _) _
      clear HS
      go_wp2_with fail
      refine bodyPost_ret (retM rfl rfl rfl hV3) rfl ?_
      exact ⟨.inr ⟨HW.out, (0, ByteArray.empty, ByteArray.empty), rfl⟩, B3⟩
end Go.Proofs.YtbihaoibmkdfjaaGreatDoor
