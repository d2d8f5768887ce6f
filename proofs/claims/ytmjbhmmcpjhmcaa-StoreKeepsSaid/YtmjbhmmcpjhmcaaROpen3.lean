/-
  What the document opens of any text.
-/
import Derived.Test.YtmjbhmmcpjhmcaaRef3
import Derived.Test.YtmjbhmmcpjhmcaaFacts3
namespace Go.Proofs.Ytmjbhmmcpjhmcaa
open Go.RowKit
set_option linter.unusedVariables false

theorem index_run (t : ByteArray) (i : Nat) (hi : i < t.size) (G : Nat) (hG : G = (t.data.toList.getD i 0).toNat) (V : World) :
    (Instr.index 9 (.string t) (.int .i64 (i : Int))).run Try.prog V = .ok (.int .u8 (G : Int)) V := by
  rw [run_index_string (P := Try.prog) V 9 t .i64 (i : Int) Try.underlying9, dif_pos (by omega)]
  subst hG
  congr 3
  simp only [Int.toNat_natCast]
  rw [List.getD_eq_getElem?_getD, List.getElem?_eq_getElem (by rw [list_len rfl]; exact hi)]
  rfl
set_option maxRecDepth 100000 in
set_option maxHeartbeats 6400000 in
theorem rOpen_any (t : ByteArray) (w : World) (hm : t.size ≤ maxLen) :
    Calls Try.prog 71 #[.string t] w fun e w' => e = .returned (openV t) ∧ Below w.heap.size w w' := by
  unfold maxLen at hm
  by_cases h1 : t.size = 128
  · have b1 : ((t.size : Int) == 128) = true := by simp only [beq_iff_eq]; omega
    have n1 : ((t.size : Int) != 128) = false := by rw [bne, b1]; rfl
    have HV : Hid (endsB t = true → sumB t = true → openB t = true → openV t = .tuple #[.int .i64 (gOf t), .int .i64 (nOf t), .string (pOf t), .int .i64 0]) := fun a b c => openV_yes (by unfold openE; rw [if_pos h1, if_pos a, if_pos b, if_pos c])
    have HV6 : Hid (endsB t = false → openV t = .tuple #[.int .i64 0, .int .i64 0, .string ⟨#[]⟩, .int .i64 6]) := fun a => openV_no (by unfold openE; rw [if_pos h1, if_neg (by rw [a]; decide)]) (by omega)
    have HV7 : Hid (endsB t = true → sumB t = false → openV t = .tuple #[.int .i64 0, .int .i64 0, .string ⟨#[]⟩, .int .i64 7]) := fun a b => openV_no (by unfold openE; rw [if_pos h1, if_pos a, if_neg (by rw [b]; decide)]) (by omega)
    have HV1 : Hid (endsB t = true → sumB t = true → openB t = false → openV t = .tuple #[.int .i64 0, .int .i64 0, .string ⟨#[]⟩, .int .i64 1]) := fun a b c => openV_no (by unfold openE; rw [if_pos h1, if_pos a, if_pos b, if_neg (by rw [c]; decide)]) (by omega)
    obtain ⟨G, hG⟩ : ∃ G : Nat, G = (t.data.toList.getD 0 0).toNat := ⟨_, rfl⟩
    obtain ⟨N, hN⟩ : ∃ N : Nat, N = (t.data.toList.getD 1 0).toNat := ⟨_, rfl⟩
    obtain ⟨M, hM⟩ : ∃ M : Nat, M = (t.data.toList.getD 2 0).toNat := ⟨_, rfl⟩
    have i0 : ∀ V, (Instr.index 9 (.string t) (.int .i64 0)).run Try.prog V = .ok (.int .u8 (G : Int)) V := index_run t 0 (by omega) G hG
    have i1 : ∀ V, (Instr.index 9 (.string t) (.int .i64 1)).run Try.prog V = .ok (.int .u8 (N : Int)) V := index_run t 1 (by omega) N hN
    have i2 : ∀ V, (Instr.index 9 (.string t) (.int .i64 2)).run Try.prog V = .ok (.int .u8 (M : Int)) V := index_run t 2 (by omega) M hM
    have bG : G < 256 := by rw [hG]; exact UInt8.toNat_lt _
    have bN : N < 256 := by rw [hN]; exact UInt8.toNat_lt _
    have bM : M < 256 := by rw [hM]; exact UInt8.toNat_lt _
    have EG : Hid (gOf t = (G : Int)) := by show _ = _; rw [hG]; rfl
    have EN : Hid (nOf t = (N : Int)) := by show _ = _; rw [hN]; rfl
    have EM : Hid (mOf t = M) := by show _ = _; rw [hM]; rfl
    clear hG hN hM
    have EP : Hid (t.extract 3 (3 + M) = pOf t) := by show _ = _; rw [extract_sub, show 3 + M - 3 = M by omega]; unfold pOf; rw [EM.out]
    have HS : Hid (M ≤ 96 → (pOf t).size ≤ 96) := fun h => by unfold pOf; rw [EM.out, sub_size _ _ _ (by rw [list_len h1]; omega)]; exact h
    have s1 : (128 : Int) ≤ (t.size : Int) := by omega
    have HB : Hid (endsB t = decide (t.extract 0 2 = t.extract 126 t.size)) := by show _ = _; unfold endsB; rw [h1, extract_sub, extract_sub]
    have HU : Hid (sumB t = decide (t.extract 99 103 = sumS (t.extract 0 99))) := by show _ = _; unfold sumB; rw [extract_sub, extract_sub]
    have z99 : Hid ((t.extract 0 99).size ≤ maxLen) := by show _ ≤ _; rw [ByteArray.size_extract]; unfold maxLen; omega
    have H1 := Lib.hid h1
    clear h1
    by_cases h2 : t.extract 0 2 = t.extract 126 t.size
    · have H2 : Hid (endsB t = true) := by show _ = _; rw [HB.out, decide_eq_true h2]
      have q2 : ((t.extract 0 2).toList == (t.extract 126 t.size).toList) = true := by rw [h2]; exact beq_self_eq_true _
      have p2 : ((t.extract 0 2).toList != (t.extract 126 t.size).toList) = false := by rw [bne, q2]; rfl
      clear h2
      go_enter Try.func71, Try.ntmps71
      go_wp2_with fail
      go_quiet (fail)
      go_wp2_with fail
      clear q2 p2
      have hB0 : Below w.heap.size w (w.drewN nq) := below_drewN (Below.refl _ _) _
      generalize w.drewN nq = W at *
      go_cut [23] (fun s23 wx => s23 = .bool (!sumB t) ∧ Below w.heap.size w wx)
      case first =>
        · go_region_with (first
            | (go_at_call 70; refine (rsum_any _ _ z99.out).mono ?_; rintro e w' ⟨rfl, rfl⟩)
            | (go_at_call 69; refine (rfour_any _ _).mono ?_; rintro e w2 ⟨rfl, hB2⟩))
          all_goals (go_wp2_with fail; go_meet)
          all_goals exact ⟨val_bool (by rw [HU.out, beq_dec]; rfl), hB0.drew.trans (hB2.mono hB0.size)⟩
      case rest =>
        obtain ⟨rfl, hB⟩ := hcut
        clear hB0
        cases h3 : sumB t
        · have H3 := Lib.hid h3
          clear h3
          go_wp2_with fail
          ((try simp only [Exit.inBlock, Exit.then]); refine bodyPost_ret (results_tmp4 rfl _ _ _) rfl ?_)
          exact ⟨ret_val (HV7.out H2.out H3.out).symm, hB⟩
        · have H3 := Lib.hid h3
          clear h3
          go_wp2_with fail
          refine (rStamp_any _ _ _).mono ?_
          rintro e w' ⟨rfl, rfl⟩
          clear i0 i1 i2
          cases h4 : stampB (G : Int) (N : Int)
          · have H5 : Hid (openB t = false) := by show _ = _; unfold openB sealedB; rw [EG.out, EN.out, h4]; simp
            clear h4
            go_wp2_with fail
            ((try simp only [Exit.inBlock, Exit.then]); refine bodyPost_ret (results_tmp4 rfl _ _ _) rfl ?_)
            exact ⟨ret_val (HV1.out H2.out H3.out H5.out).symm, hB⟩
          · obtain ⟨g1, g2, g3, g4⟩ := (stamp_iff _ _).1 h4
            have H4 := Lib.hid h4
            clear h4
            by_cases h5 : M ≤ 96
            · have m1 : (M : Int) ≤ 96 := by omega
              have hps := HS.out h5
              have H5 := Lib.hid h5
              clear h5
              go_wp2_with fail
              rw [EP.out]
              refine (rSeal_any _ _ _ _ (by omega) (by omega) (by omega) (by omega) hps).mono ?_
              rintro e w3 ⟨rfl, hB3⟩
              have hB4 := hB.trans (hB3.mono hB.size)
              clear hB hB3 hps
              by_cases h6 : t = sealS (G : Int) (N : Int) (pOf t)
              · have H6 : Hid (openB t = true) := by show _ = _; unfold openB sealedB; rw [EG.out, EN.out, EM.out, H4.out, decide_eq_true H5.out, decide_eq_true h6.symm]; rfl
                have q6 : (t.toList == (sealS (G : Int) (N : Int) (pOf t)).toList) = true := by rw [← h6]; exact beq_self_eq_true _
                have p6 : (t.toList != (sealS (G : Int) (N : Int) (pOf t)).toList) = false := by rw [bne, q6]; rfl
                have hv := HV.out H2.out H3.out H6.out
                rw [EG.out, EN.out] at hv
                have HVV := Lib.hid hv
                clear h6 hv
                go_wp2_with fail
                have w1 : IntKind.i64.wrap (3 + (M : Int)) = 3 + (M : Int) := IntWalk.i64_in _ (by omega)
                have w2 : (0 : Int) ≤ 3 + (M : Int) := by omega
                have w3' : (3 + (M : Int)).toNat = 3 + M := by omega
                have w4 : (3 : Int) ≤ 3 + (M : Int) := by omega
                have w5 : 3 + (M : Int) ≤ (t.size : Int) := by omega
                go_quiet (fail)
                clear w1 w2 w3' w4 w5
                go_wp2_with fail
                ((try simp only [Exit.inBlock, Exit.then]); refine bodyPost_ret (results_tmp4 rfl _ _ _) rfl ?_)
                refine ⟨ret_val ?_, below_drewN hB4 _⟩
                rw [HVV.out, ← EP.out]
                rfl
              · have H6 : Hid (openB t = false) := by show _ = _; unfold openB sealedB; rw [EG.out, EN.out, EM.out, H4.out, decide_eq_true H5.out, decide_eq_false (fun e => h6 e.symm)]; rfl
                have q6 := list_ne h6
                have p6 := list_nb h6
                clear h6
                go_wp2_with fail
                ((try simp only [Exit.inBlock, Exit.then]); refine bodyPost_ret (results_tmp4 rfl _ _ _) rfl ?_)
                exact ⟨ret_val (HV1.out H2.out H3.out H6.out).symm, hB4⟩
            · have m1 : (96 : Int) < (M : Int) := by omega
              have H5 : Hid (openB t = false) := by show _ = _; unfold openB; rw [EM.out, decide_eq_false h5]; rfl
              clear h5
              go_wp2_with fail
              ((try simp only [Exit.inBlock, Exit.then]); refine bodyPost_ret (results_tmp4 rfl _ _ _) rfl ?_)
              exact ⟨ret_val (HV1.out H2.out H3.out H5.out).symm, hB⟩
    · have H2 : Hid (endsB t = false) := by show _ = _; rw [HB.out, decide_eq_false h2]
      have q2 := list_ne h2
      have p2 := list_nb h2
      clear h2
      go_enter Try.func71, Try.ntmps71
      go_wp2_with fail
      go_quiet (fail)
      go_wp2_with fail
      ((try simp only [Exit.inBlock, Exit.then]); refine bodyPost_ret (results_tmp4 rfl _ _ _) rfl ?_)
      exact ⟨ret_val (HV6.out H2.out).symm, below_drewN (Below.refl _ _) _⟩
  · have b1 : ((t.size : Int) == 128) = false := by simp only [beq_eq_false_iff_ne, ne_eq]; omega
    have n1 : ((t.size : Int) != 128) = true := by rw [bne, b1]; rfl
    have e1 : Hid (openE t = 2) := by show _ = _; unfold openE; rw [if_neg h1]
    clear h1
    go_enter Try.func71, Try.ntmps71
    go_wp2_with fail
    ((try simp only [Exit.inBlock, Exit.then]); refine bodyPost_ret (results_tmp4 rfl _ _ _) rfl ?_)
    exact ⟨ret_val (openV_no e1.out (by omega)).symm, Below.refl _ _⟩
end Go.Proofs.Ytmjbhmmcpjhmcaa
