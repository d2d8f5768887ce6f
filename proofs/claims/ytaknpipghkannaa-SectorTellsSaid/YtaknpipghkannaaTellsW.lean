/-
  The walk of SectorTells: which disks may be, a new one, and any one read, written and torn anywhere, is as the document says, or refused.
-/
import Derived.Test.YtaknpipghkannaaFacts
import Derived.Deep.DeepCutAuto
namespace Go.Proofs.Ytaknpipghkannaa.sectorTells
open Go.RowKit
set_option linter.unusedVariables false
attribute [local go_sem ↓] Go.wp_at_zero Go.wp_at_succ

theorem new_len (n : Int) : (newL n).length ≤ 130 := by
  unfold newL
  by_cases h : newE n = 0
  · rw [if_pos h, List.length_replicate]
    unfold newE at h
    by_cases h2 : 10 ≤ n ∧ n ≤ 130
    · omega
    · rw [if_neg h2] at h
      omega
  · rw [if_neg h]
    simp
def outB (n : Int) : Bool := decide (n < 10) || decide (130 < n)
theorem same_self (l : List ByteArray) : sameB l l = true := by unfold sameB; simp
set_option maxHeartbeats 3200000 in
set_option maxRecDepth 100000 in
theorem walk (n : Int) (oa : Option Addr) (len cap : Nat) (ss0 : List ByteArray) (a : Int) (text : ByteArray) (k : Int) (w : World) (hA : Arg w oa len cap ss0) (htx : text.size ≤ maxLen) :
    Calls Try.prog 3 #[.int .i64 n, .agg #[.slice oa len cap], .int .i64 a, .string text, .int .i64 k] w fun e w' => e = .returned (.bool true) ∧ Below w.heap.size w w' := by
  unfold maxLen at htx
  have hA1 : Arg (w.alloc (.cells #[.slice oa len cap] 24)) oa len cap ss0 := ⟨hA.len, hA.room, hA.most, hA.each, fun i hi => by
    obtain ⟨b, off, h1, h2⟩ := hA.cell i hi
    exact ⟨b, off, h1, keepC (below_alloc w _) h2⟩⟩
  have hA2 : Arg (w.alloc (.cells #[.slice oa len cap] 24)).drew oa len cap ss0 := ⟨hA1.len, hA1.room, hA1.most, hA1.each, hA1.cell⟩
  have hb0 := heap_alloc_new w (.cells #[.slice oa len cap] 24)
  have hcb0 := Lib.hid (cell_of_one hb0)
  have hfb0 := Lib.hid (free_of_one hb0)
  have hb0' := Lib.hid hb0
  clear hb0
  go_enter Try.func3, Try.ntmps3
  go_upto_region 1 with fail
  go_cut [3] (fun s3 wx => s3 = .string (cutS 130 text) ∧ ∃ ob n1 cap1, Var wx w.heap.size ob n1 cap1 (fewL ss0) ∧ Below w.heap.size w wx)
  case first =>
    as_aux_lemma =>
      by_cases ht : 130 < text.size
      · have HC : Hid (cutS 130 text = text.extract 0 130) := by show _ = _; unfold cutS; rw [if_pos ht]
        have ht1 : (130 : Int) < (text.size : Int) := by omega
        go_region_with (first
          | (go_at_call 5; refine (few_any _ _ _ _ _ hA2).mono ?_; rintro e w2 ⟨⟨ob, n1, cap1, rfl, hR⟩, hB2⟩; have hc2 := keepC hB2 hcb0.out; have hf2 := keepF hB2 hcb0.out hfb0.out))
        all_goals (go_wp2_with fail; go_meet)
        all_goals exact ⟨congrArg Value.string HC.out.symm, ob, n1, cap1, ⟨one_setCell ((hB2.block w.heap.size (by simp)).trans hb0'.out), hR.setDisk hc2 _⟩, ((below_alloc w _).trans (below_undrew hB2 (by simp))).setCell (Nat.le_refl _) _⟩
      · have HC : Hid (cutS 130 text = text) := by show _ = _; unfold cutS; rw [if_neg ht]
        have ht1 : (text.size : Int) ≤ (130 : Int) := by omega
        go_region_with (first
          | (go_at_call 5; refine (few_any _ _ _ _ _ hA2).mono ?_; rintro e w2 ⟨⟨ob, n1, cap1, rfl, hR⟩, hB2⟩; have hc2 := keepC hB2 hcb0.out; have hf2 := keepF hB2 hcb0.out hfb0.out))
        all_goals (go_wp2_with fail; go_meet)
        all_goals exact ⟨congrArg Value.string HC.out.symm, ob, n1, cap1, ⟨one_setCell ((hB2.block w.heap.size (by simp)).trans hb0'.out), hR.setDisk hc2 _⟩, ((below_alloc w _).trans (below_undrew hB2 (by simp))).setCell (Nat.le_refl _) _⟩
  case rest =>
    obtain ⟨rfl, o6, n6, c6, V6, hBB⟩ := hcut
    have htz : (cutS 130 text).size ≤ 130 := cut_size 130 text
    have hn6 : n6 ≤ 132 := by rw [← V6.rd.len]; exact few_size ss0
    have HTZ : Hid ((cutS 130 text).size ≤ maxLen) := by show _ ≤ _; unfold maxLen; omega
    have HTW := Lib.hid htz
    clear hA1 hA2 hcb0 hfb0 hb0' hA htx htz
    generalize cutS 130 text = t at *
    generalize fewL ss0 = ss at *
    have hle : w.heap.size ≤ wc.heap.size := hBB.size
    have q6 := V6.cell
    go_wp2_with fail
    refine (new_any _ _).mono ?_
    rintro e w11 ⟨⟨o11, n11, c11, rfl, hT⟩, hB⟩
    have hn11 : n11 ≤ 132 := by
      have h1 := hT.len
      have h2 := new_len n
      have h3 := V6.rd.len
      omega
    replace hBB := below_next hBB hle hB (.cells #[.slice o11 n11 c11] 24)
    replace V6 := V6.next hB (.cells #[.slice o11 n11 c11] 24)
    have V11 := Var.new hT
    clear hle hB hT q6
    have hle : w.heap.size ≤ (w11.alloc (.cells #[.slice o11 n11 c11] 24)).heap.size := hBB.size
    have q6 := V6.cell
    have q11 := V11.cell
    go_wp2_with fail
    generalize w11.alloc (.cells #[.slice o11 n11 c11] 24) = W11 at *
    generalize w11.heap.size = B11 at *
    refine (read_any _ _ _ _ _ _ V6.rd (by omega)).mono ?_
    rintro e wa ⟨rfl, hB⟩
    replace hBB := hBB.trans (hB.mono hle)
    replace V6 := V6.below hB
    replace V11 := V11.below hB
    clear hle hB q6 q11
    have hle : w.heap.size ≤ wa.heap.size := hBB.size
    have q6 := V6.cell
    have q11 := V11.cell
    go_wp2_with fail
    refine (write_any _ _ _ _ _ _ _ V6.rd (by omega) HTZ.out).mono ?_
    rintro e w15 ⟨⟨o15, n15, c15, rfl, hT⟩, hB⟩
    have hn15 : n15 ≤ 132 := by
      have h1 := hT.len
      have h2 := tear_length ss a t 128
      have h3 := V6.rd.len
      omega
    replace hBB := below_next hBB hle hB (.cells #[.slice o15 n15 c15] 24)
    replace V6 := V6.next hB (.cells #[.slice o15 n15 c15] 24)
    replace V11 := V11.next hB (.cells #[.slice o15 n15 c15] 24)
    have V15 := Var.new hT
    clear hle hB hT q6 q11
    have hle : w.heap.size ≤ (w15.alloc (.cells #[.slice o15 n15 c15] 24)).heap.size := hBB.size
    have q6 := V6.cell
    have q11 := V11.cell
    have q15 := V15.cell
    go_wp2_with fail
    generalize w15.alloc (.cells #[.slice o15 n15 c15] 24) = W15 at *
    generalize w15.heap.size = B15 at *
    refine (tear_any _ _ _ _ _ _ _ _ V6.rd (by omega) HTZ.out).mono ?_
    rintro e w17 ⟨⟨o17, n17, c17, rfl, hT⟩, hB⟩
    have hn17 : n17 ≤ 132 := by
      have h1 := hT.len
      have h2 := tear_length ss a t k
      have h3 := V6.rd.len
      omega
    replace hBB := below_next hBB hle hB (.cells #[.slice o17 n17 c17] 24)
    replace V6 := V6.next hB (.cells #[.slice o17 n17 c17] 24)
    replace V11 := V11.next hB (.cells #[.slice o17 n17 c17] 24)
    replace V15 := V15.next hB (.cells #[.slice o17 n17 c17] 24)
    have V17 := Var.new hT
    clear hle hB hT q6 q11 q15
    have hle : w.heap.size ≤ (w17.alloc (.cells #[.slice o17 n17 c17] 24)).heap.size := hBB.size
    have hsz : Hid ((w17.alloc (.cells #[.slice o17 n17 c17] 24)).heap.size = w17.heap.size + 1) := by show _ = _; simp
    have q6 := V6.cell
    have q11 := V11.cell
    have q15 := V15.cell
    have q17 := V17.cell
    go_wp2_with fail
    generalize w17.alloc (.cells #[.slice o17 n17 c17] 24) = W17 at *
    generalize w17.heap.size = B17 at *
    obtain ⟨I, hID⟩ : ∃ I : World → Prop, I = fun wx => Var wx w.heap.size o6 n6 c6 (ss) ∧ Var wx B11 o11 n11 c11 (newL n) ∧ Var wx B15 o15 n15 c15 (tearL ss a t 128) ∧ Var wx B17 o17 n17 c17 (tearL ss a t k) ∧ Var wx (B17 + 1) none 0 0 [] ∧ Below w.heap.size w wx := ⟨_, rfl⟩
    have hI : I (W17.alloc (.cells #[.slice none 0 0] 24)) := by
      rw [hID]
      exact ⟨V6.below (below_alloc W17 _), V11.below (below_alloc W17 _), V15.below (below_alloc W17 _), V17.below (below_alloc W17 _), by rw [← hsz.out]; exact Var.new (Rd.nil W17), hBB.alloc hle _⟩
    have step : Hid (∀ w1 w2, I w1 → Below w1.heap.size w1 w2 → I w2) := by
      intro w1 w2 h hB
      rw [hID] at h ⊢
      exact ⟨h.1.below hB, h.2.1.below hB, h.2.2.1.below hB, h.2.2.2.1.below hB, h.2.2.2.2.1.below hB, h.2.2.2.2.2.trans (hB.mono h.2.2.2.2.2.size)⟩
    have drw : Hid (∀ w1, I w1 → I w1.drew) := fun w1 h => step.out w1 w1.drew h (Below.refl _ w1).drew
    have g6 : Hid (∀ w1, I w1 → Var w1 w.heap.size o6 n6 c6 (ss)) := by intro w1 h; rw [hID] at h; exact h.1
    have g11 : Hid (∀ w1, I w1 → Var w1 B11 o11 n11 c11 (newL n)) := by intro w1 h; rw [hID] at h; exact h.2.1
    have g15 : Hid (∀ w1, I w1 → Var w1 B15 o15 n15 c15 (tearL ss a t 128)) := by intro w1 h; rw [hID] at h; exact h.2.2.1
    have g17 : Hid (∀ w1, I w1 → Var w1 B17 o17 n17 c17 (tearL ss a t k)) := by intro w1 h; rw [hID] at h; exact h.2.2.2.1
    have g19 : Hid (∀ w1, I w1 → Var w1 (B17 + 1) none 0 0 []) := by intro w1 h; rw [hID] at h; exact h.2.2.2.2.1
    have gB : Hid (∀ w1, I w1 → Below w.heap.size w w1) := by intro w1 h; rw [hID] at h; exact h.2.2.2.2.2
    have hlen : Hid (ss.length = n6) := V6.rd.len
    clear hID V6 V11 V15 V17 hBB hle q6 q11 q15 q17
    generalize W17.alloc (.cells #[.slice none 0 0] 24) = X at *
    have hId := drw.out _ hI
    go_cut [63] (fun s63 wx => s63 = .bool false ∧ I wx)
    case first =>
      as_aux_lemma =>
        go_region_held3 (fun w' => w'.cell? ⟨w.heap.size, 0, none⟩ = some (.slice o6 n6 c6)) (first | exact (g6.out _ (by assumption)).cell)
          (first
            | (go_at_call 10; refine (right_any _ _ _ ss _ (g6.out _ (by assumption)).rd (by omega)).mono ?_; rintro e wr ⟨rfl, hBr⟩; have hIr := step.out _ _ (by assumption) hBr)
            | (go_at_call 11; refine (rright_any _ _ _ ss _ (g6.out _ (by assumption)).rd (by omega)).mono ?_; rintro e ws ⟨rfl, hBs⟩; have hIs := step.out _ _ (by assumption) hBs)
            | (go_at_call 12; refine (alive_any _).mono ?_; rintro e wv ⟨rfl, hBv⟩; have hIv := step.out _ _ (by assumption) hBv))
        all_goals (go_wp2_with fail; go_meet)
        all_goals exact ⟨rfl, by assumption⟩
    case rest =>
      obtain ⟨rfl, hJ⟩ := hcut
      clear hI hId
      have hI := hJ
      clear hJ
      have q6 := (g6.out _ hI).cell
      have q11 := (g11.out _ hI).cell
      have q15 := (g15.out _ hI).cell
      have q17 := (g17.out _ hI).cell
      have q19 := (g19.out _ hI).cell
      go_upto_region 9 with fail
      go_cut [69] (fun s69 wx => s69 = .bool (outB n) ∧ I wx)
      case first =>
        as_aux_lemma =>
          rcases (by omega : n < 10 ∨ 130 < n ∨ (10 ≤ n ∧ n ≤ 130)) with h1 | h1 | ⟨h1, h2⟩
          · go_wp2_with fail
            go_meet
            exact ⟨val_bool (by unfold outB; rw [decide_eq_true (by omega : n < 10)]; first | rfl | simp), hI⟩
          · go_wp2_with fail
            go_meet
            exact ⟨val_bool (by unfold outB; rw [decide_eq_true (by omega : 130 < n), Bool.or_true]), hI⟩
          · go_wp2_with fail
            go_meet
            exact ⟨val_bool (by unfold outB; first | rfl | (simp; omega)), hI⟩
      case rest =>
      obtain ⟨rfl, hJ⟩ := hcut
      clear hI q6 q11 q15 q17 q19
      have hI := hJ
      clear hJ
      have q6 := (g6.out _ hI).cell
      have q11 := (g11.out _ hI).cell
      have q15 := (g15.out _ hI).cell
      have q17 := (g17.out _ hI).cell
      have q19 := (g19.out _ hI).cell
      go_upto_if 69 with fail
      go_cut [10, 12] (fun s10 s12 wx => s10 = .bool false ∧ I wx)
      case first =>
        as_aux_lemma =>
          by_cases hn : 10 ≤ n ∧ n ≤ 130
          · obtain ⟨m, rfl⟩ := Int.eq_ofNat_of_zero_le (by omega : 0 ≤ n)
            have hE : newE (m : Nat) = 0 := by unfold newE; rw [if_pos hn]
            have HL : Hid (newL (m : Nat) = List.replicate m (zerosB 128)) := by show _ = _; unfold newL; rw [if_pos hE]; rfl
            have hin : outB (m : Nat) = false := by unfold outB; rw [decide_eq_false (by omega), decide_eq_false (by omega)]; rfl
            have HS : Hid (sameB (newL (m : Nat)) (List.replicate m (zerosB 128)) = true) := by show _ = _; rw [HL.out]; exact same_self _
            have hm : m ≤ 130 := by omega
            rw [hin, hE]
            clear hn hE
            have hId := drw.out _ hI
            go_wp2_with fail
            go_region_held3 (fun w' => w'.cell? ⟨B11, 0, none⟩ = some (.slice o11 n11 c11)) (first | exact (g11.out _ (by assumption)).cell)
              (first
                | (go_at_call 14; refine (rnew_any m _ (by omega)).mono ?_; rintro e wr ⟨⟨oN, nN, cN, rfl, hRN⟩, hBr⟩; have hIr := step.out _ _ (by assumption) hBr; have hnN : nN ≤ 130 := (by have h1 := hRN.len; rw [List.length_replicate] at h1; omega))
                | (go_at_call 13; refine (same_any _ _ _ _ _ _ _ _ _ (g11.out _ (by assumption)).rd (by assumption) (by omega) (by omega)).mono ?_; rintro e ws ⟨rfl, hBs⟩; have hIs := step.out _ _ (by assumption) hBs; rw [HS.out]))
            all_goals (go_wp2_with fail; go_meet)
            all_goals exact ⟨rfl, by assumption⟩
          · have hE : newE n = 2 := by unfold newE; rw [if_neg hn]
            have HL : Hid (newL n = []) := by show _ = _; unfold newL; rw [hE]; rfl
            have HS : Hid (sameB (newL n) [] = true) := by show _ = _; rw [HL.out]; exact same_self _
            have hin : outB n = true := by
              unfold outB
              rcases (by omega : n < 10 ∨ 130 < n) with h1 | h1
              · rw [decide_eq_true h1]; rfl
              · rw [decide_eq_true h1, Bool.or_true]
            rw [hin, hE]
            clear hn hE
            go_wp2_with fail
            refine (same_any _ _ _ _ _ _ _ _ _ (g11.out _ hI).rd (g19.out _ hI).rd (by omega) (by omega)).mono ?_
            rintro e wb ⟨rfl, hB⟩
            rw [HS.out]
            replace hI := step.out _ _ hI hB
            clear hB q6 q11 q15 q17 q19
            have q6 := (g6.out _ hI).cell
            have q11 := (g11.out _ hI).cell
            have q15 := (g15.out _ hI).cell
            have q17 := (g17.out _ hI).cell
            have q19 := (g19.out _ hI).cell
            go_wp2_with fail
            go_meet
            exact ⟨rfl, hI⟩
      case rest =>
        clear hI
        obtain ⟨rfl, hI⟩ := hcut

        clear q6 q11 q15 q17 q19
        have q6 := (g6.out _ hI).cell
        have q11 := (g11.out _ hI).cell
        have q15 := (g15.out _ hI).cell
        have q17 := (g17.out _ hI).cell
        have q19 := (g19.out _ hI).cell
        cases hr : rightB ss
        · have hF : findE ss a = 1 := by unfold findE; rw [hr]; rfl
          have hRS : readS ss a = ⟨#[]⟩ := by unfold readS; rw [hF]; rfl
          have hT1 : tearE ss a t 128 = 1 := by rw [tearE_bad (by rw [hF]; omega), hF]
          have hT2 : tearE ss a t k = 1 := by rw [tearE_bad (by rw [hF]; omega), hF]
          have HR := Lib.hid hr
          clear hr
          have HS1 : Hid (sameB (tearL ss a t 128) [] = true) := by show _ = _; rw [tearL_bad (by rw [hT1]; omega)]; exact same_self _
          have HS2 : Hid (sameB (tearL ss a t k) [] = true) := by show _ = _; rw [tearL_bad (by rw [hT2]; omega)]; exact same_self _
          rw [hF, hRS, hT1, hT2]
          clear hF hRS hT1 hT2
          go_wp2_with fail
          refine (rright_any _ _ _ ss _ (g6.out _ hI).rd (by omega)).mono ?_
          rintro e wb ⟨rfl, hB⟩
          rw [HR.out]
          replace hI := step.out _ _ hI hB
          clear hB q6 q11 q15 q17 q19
          have q6 := (g6.out _ hI).cell
          have q11 := (g11.out _ hI).cell
          have q15 := (g15.out _ hI).cell
          have q17 := (g17.out _ hI).cell
          have q19 := (g19.out _ hI).cell
          go_wp2_with fail
          refine (rright_any _ _ _ ss _ (g6.out _ hI).rd (by omega)).mono ?_
          rintro e wb3 ⟨rfl, hB⟩
          rw [HR.out]
          replace hI := step.out _ _ hI hB
          clear hB q6 q11 q15 q17 q19
          have q6 := (g6.out _ hI).cell
          have q11 := (g11.out _ hI).cell
          have q15 := (g15.out _ hI).cell
          have q17 := (g17.out _ hI).cell
          have q19 := (g19.out _ hI).cell
          go_wp2_with fail
          refine (same_any _ _ _ _ _ _ _ _ _ (g15.out _ hI).rd (g19.out _ hI).rd (by omega) (by omega)).mono ?_
          rintro e wb4 ⟨rfl, hB⟩
          rw [HS1.out]
          replace hI := step.out _ _ hI hB
          clear hB q6 q11 q15 q17 q19
          have q6 := (g6.out _ hI).cell
          have q11 := (g11.out _ hI).cell
          have q15 := (g15.out _ hI).cell
          have q17 := (g17.out _ hI).cell
          have q19 := (g19.out _ hI).cell
          go_wp2_with fail
          refine (same_any _ _ _ _ _ _ _ _ _ (g17.out _ hI).rd (g19.out _ hI).rd (by omega) (by omega)).mono ?_
          rintro e wb5 ⟨rfl, hB⟩
          rw [HS2.out]
          replace hI := step.out _ _ hI hB
          clear hB q6 q11 q15 q17 q19
          have q6 := (g6.out _ hI).cell
          have q11 := (g11.out _ hI).cell
          have q15 := (g15.out _ hI).cell
          have q17 := (g17.out _ hI).cell
          have q19 := (g19.out _ hI).cell
          go_wp2_with fail
          go_ret
          exact ⟨rfl, gB.out _ hI⟩
        cases hh : hasB ss a
        · have hF : findE ss a = 3 := by unfold findE; rw [hr, hh]; rfl
          have hRS : readS ss a = ⟨#[]⟩ := by unfold readS; rw [hF]; rfl
          have hT1 : tearE ss a t 128 = 3 := by rw [tearE_bad (by rw [hF]; omega), hF]
          have hT2 : tearE ss a t k = 3 := by rw [tearE_bad (by rw [hF]; omega), hF]
          have HR := Lib.hid hr
          have HH := Lib.hid hh
          clear hr hh
          have HS1 : Hid (sameB (tearL ss a t 128) [] = true) := by show _ = _; rw [tearL_bad (by rw [hT1]; omega)]; exact same_self _
          have HS2 : Hid (sameB (tearL ss a t k) [] = true) := by show _ = _; rw [tearL_bad (by rw [hT2]; omega)]; exact same_self _
          rw [hF, hRS, hT1, hT2]
          clear hF hRS hT1 hT2
          go_wp2_with fail
          refine (rright_any _ _ _ ss _ (g6.out _ hI).rd (by omega)).mono ?_
          rintro e wb ⟨rfl, hB⟩
          rw [HR.out]
          replace hI := step.out _ _ hI hB
          clear hB q6 q11 q15 q17 q19
          have q6 := (g6.out _ hI).cell
          have q11 := (g11.out _ hI).cell
          have q15 := (g15.out _ hI).cell
          have q17 := (g17.out _ hI).cell
          have q19 := (g19.out _ hI).cell
          go_wp2_with fail
          refine (has_any _ _ _ ss _ _ (g6.out _ hI).rd (by omega)).mono ?_
          rintro e wb2 ⟨rfl, hB⟩
          rw [HH.out]
          replace hI := step.out _ _ hI hB
          clear hB q6 q11 q15 q17 q19
          have q6 := (g6.out _ hI).cell
          have q11 := (g11.out _ hI).cell
          have q15 := (g15.out _ hI).cell
          have q17 := (g17.out _ hI).cell
          have q19 := (g19.out _ hI).cell
          go_wp2_with fail
          refine (rright_any _ _ _ ss _ (g6.out _ hI).rd (by omega)).mono ?_
          rintro e wb3 ⟨rfl, hB⟩
          rw [HR.out]
          replace hI := step.out _ _ hI hB
          clear hB q6 q11 q15 q17 q19
          have q6 := (g6.out _ hI).cell
          have q11 := (g11.out _ hI).cell
          have q15 := (g15.out _ hI).cell
          have q17 := (g17.out _ hI).cell
          have q19 := (g19.out _ hI).cell
          go_wp2_with fail
          refine (same_any _ _ _ _ _ _ _ _ _ (g15.out _ hI).rd (g19.out _ hI).rd (by omega) (by omega)).mono ?_
          rintro e wb4 ⟨rfl, hB⟩
          rw [HS1.out]
          replace hI := step.out _ _ hI hB
          clear hB q6 q11 q15 q17 q19
          have q6 := (g6.out _ hI).cell
          have q11 := (g11.out _ hI).cell
          have q15 := (g15.out _ hI).cell
          have q17 := (g17.out _ hI).cell
          have q19 := (g19.out _ hI).cell
          go_wp2_with fail
          refine (same_any _ _ _ _ _ _ _ _ _ (g17.out _ hI).rd (g19.out _ hI).rd (by omega) (by omega)).mono ?_
          rintro e wb5 ⟨rfl, hB⟩
          rw [HS2.out]
          replace hI := step.out _ _ hI hB
          clear hB q6 q11 q15 q17 q19
          have q6 := (g6.out _ hI).cell
          have q11 := (g11.out _ hI).cell
          have q15 := (g15.out _ hI).cell
          have q17 := (g17.out _ hI).cell
          have q19 := (g19.out _ hI).cell
          go_wp2_with fail
          go_ret
          exact ⟨rfl, gB.out _ hI⟩
        have hF : findE ss a = 0 := by unfold findE; rw [hr, hh]; rfl
        obtain ⟨_, h0, hlt⟩ := findE_zero hF
        obtain ⟨i, rfl⟩ := Int.eq_ofNat_of_zero_le h0
        have hlt' : i < n6 := by have := hlen.out; omega
        have hRS : readS ss (i : Nat) = ss.getD i ByteArray.empty := by unfold readS; rw [if_pos hF]; rfl
        obtain ⟨g, rfl, _⟩ := (g6.out _ hI).rd.cell i hlt'
        have ge : Hid (∀ w1, I w1 → w1.cell? ⟨g, i, none⟩ = some (.string (ss.getD i ByteArray.empty))) := by
          intro w1 h
          obtain ⟨g', hg', hc⟩ := (g6.out w1 h).rd.cell i hlt'
          cases hg'
          exact hc
        have qe := ge.out _ hI
        have HR := Lib.hid hr
        have HH := Lib.hid hh
        have HF := Lib.hid hF
        have hi1 : (i : Int) < (n6 : Int) := by omega
        have hi0 : (0 : Int) ≤ (i : Int) := by omega
        rw [hF, hRS]
        generalize hx : ss.getD i ByteArray.empty = x at *
        have HX := Lib.hid hx
        clear hr hh hF hlt hRS hx h0
        by_cases ht : t.size = 128
        · have G : Good ss i t := ⟨HR.out, by rw [hlen.out]; exact hlt', ht⟩
          have hT1 : tearE ss (i : Int) t 128 = 0 := G.tearE (k := 128) (by omega)
          have HS1 : Hid (sameB (tearL ss (i : Int) t 128) (rtearL ss i t 128) = true) := by show _ = _; rw [G.ref (k := 128) (by omega)]; exact same_self _
          have HSZ : Hid (∀ j, j < n6 → (ss.getD j ByteArray.empty).size = 128) := fun j hj => right_size HR.out j (by rw [hlen.out]; exact hj)
          have HRL : Hid (∀ q : Nat, (rtearL ss i t q).length = n6) := by intro q; unfold rtearL; rw [List.length_set]; exact hlen.out
          have HT := Lib.hid ht
          have htz : (t.size : Int) = 128 := by omega
          clear ht
          rw [hT1]
          clear hT1
          by_cases hk : 0 ≤ k ∧ k ≤ 128
          · obtain ⟨q, rfl⟩ := Int.eq_ofNat_of_zero_le hk.1
            have hq1 : (q : Int) ≤ 128 := hk.2
            have hq0 : (0 : Int) ≤ (q : Int) := hk.1
            have hT2 : tearE ss (i : Int) t (q : Int) = 0 := G.tearE (k := q) (by omega)
            have HS3 : Hid (sameB (tearL ss (i : Int) t (q : Int)) (rtearL ss i t q) = true) := by show _ = _; rw [G.ref (k := q) (by omega)]; exact same_self _
            have HG := Lib.hid G
            clear G hk
            rw [hT2]
            clear hT2
            go_wp2_with fail
            refine (rright_any _ _ _ ss _ (g6.out _ hI).rd (by omega)).mono ?_
            rintro e wb ⟨rfl, hB⟩
            rw [HR.out]
            replace hI := step.out _ _ hI hB
            clear hB q6 q11 q15 q17 q19 qe
            have q6 := (g6.out _ hI).cell
            have q11 := (g11.out _ hI).cell
            have q15 := (g15.out _ hI).cell
            have q17 := (g17.out _ hI).cell
            have q19 := (g19.out _ hI).cell
            have qe := ge.out _ hI
            go_wp2_with fail
            refine (has_any _ _ _ ss _ _ (g6.out _ hI).rd (by omega)).mono ?_
            rintro e wb2 ⟨rfl, hB⟩
            rw [HH.out]
            replace hI := step.out _ _ hI hB
            clear hB q6 q11 q15 q17 q19 qe
            have q6 := (g6.out _ hI).cell
            have q11 := (g11.out _ hI).cell
            have q15 := (g15.out _ hI).cell
            have q17 := (g17.out _ hI).cell
            have q19 := (g19.out _ hI).cell
            have qe := ge.out _ hI
            go_wp2_with fail
            have hId := drw.out _ hI
            go_region_held3 (fun w' => w'.cell? ⟨B15, 0, none⟩ = some (.slice o15 n15 c15) ∧ w'.cell? ⟨w.heap.size, 0, none⟩ = some (.slice (some ⟨g, 0, none⟩) n6 c6)) (first | exact ⟨(g15.out _ (by assumption)).cell, (g6.out _ (by assumption)).cell⟩)
              (first
                | (go_at_call 16; refine (rwrite_any _ _ _ ss i t _ (g6.out _ (by assumption)).rd (by omega) hlt' HT.out HSZ.out).mono ?_; rintro e wr16 ⟨⟨oN, nN, cN, rfl, hRN⟩, hBr⟩; have hIr := step.out _ _ (by assumption) hBr; have hnN : nN ≤ 132 := (by have h1 := hRN.len; rw [HRL.out 128] at h1; omega))
                | (go_at_call 13; refine (same_any _ _ _ _ _ _ _ _ _ (g15.out _ (by assumption)).rd (by assumption) (by omega) (by omega)).mono ?_; rintro e ws16 ⟨rfl, hBs⟩; have hIs := step.out _ _ (by assumption) hBs; rw [HS1.out]))
            clear hI hId hIr hBr hBs hRN hnN q6 q11 q15 q17 q19 qe
            have hI := hIs
            clear hIs
            have q6 := (g6.out _ hI).cell
            have q11 := (g11.out _ hI).cell
            have q15 := (g15.out _ hI).cell
            have q17 := (g17.out _ hI).cell
            have q19 := (g19.out _ hI).cell
            have qe := ge.out _ hI
            go_wp2_with fail
            have hId := drw.out _ hI
            go_region_held3 (fun w' => w'.cell? ⟨B17, 0, none⟩ = some (.slice o17 n17 c17) ∧ w'.cell? ⟨w.heap.size, 0, none⟩ = some (.slice (some ⟨g, 0, none⟩) n6 c6)) (first | exact ⟨(g17.out _ (by assumption)).cell, (g6.out _ (by assumption)).cell⟩)
              (first
                | (go_at_call 17; refine (rtear_any _ _ _ ss i t q _ (g6.out _ (by assumption)).rd (by omega) hlt' HT.out (by omega) HSZ.out).mono ?_; rintro e wr17 ⟨⟨oN, nN, cN, rfl, hRN⟩, hBr⟩; have hIr := step.out _ _ (by assumption) hBr; have hnN : nN ≤ 132 := (by have h1 := hRN.len; rw [HRL.out q] at h1; omega))
                | (go_at_call 13; refine (same_any _ _ _ _ _ _ _ _ _ (g17.out _ (by assumption)).rd (by assumption) (by omega) (by omega)).mono ?_; rintro e ws17 ⟨rfl, hBs⟩; have hIs := step.out _ _ (by assumption) hBs; rw [HS3.out]))
            clear hI hId hIr hBr hBs hRN hnN q6 q11 q15 q17 q19 qe
            have hI := hIs
            clear hIs
            have q6 := (g6.out _ hI).cell
            have q11 := (g11.out _ hI).cell
            have q15 := (g15.out _ hI).cell
            have q17 := (g17.out _ hI).cell
            have q19 := (g19.out _ hI).cell
            have qe := ge.out _ hI
            go_wp2_with fail
            go_ret
            exact ⟨rfl, gB.out _ hI⟩
          · have hT2 : tearE ss (i : Int) t k = 1 := by unfold tearE; rw [if_pos HF.out, if_pos HT.out, if_neg hk]
            have HS2 : Hid (sameB (tearL ss (i : Int) t k) [] = true) := by show _ = _; rw [tearL_bad (by rw [hT2]; omega)]; exact same_self _
            have HG := Lib.hid G
            clear G
            rw [hT2]
            clear hT2
            rcases (by omega : k < 0 ∨ 128 < k) with hk1 | hk1
            all_goals
              clear hk
              go_wp2_with fail
              refine (rright_any _ _ _ ss _ (g6.out _ hI).rd (by omega)).mono ?_
              rintro e wb ⟨rfl, hB⟩
              rw [HR.out]
              replace hI := step.out _ _ hI hB
              clear hB q6 q11 q15 q17 q19 qe
              have q6 := (g6.out _ hI).cell
              have q11 := (g11.out _ hI).cell
              have q15 := (g15.out _ hI).cell
              have q17 := (g17.out _ hI).cell
              have q19 := (g19.out _ hI).cell
              have qe := ge.out _ hI
              go_wp2_with fail
              refine (has_any _ _ _ ss _ _ (g6.out _ hI).rd (by omega)).mono ?_
              rintro e wb2 ⟨rfl, hB⟩
              rw [HH.out]
              replace hI := step.out _ _ hI hB
              clear hB q6 q11 q15 q17 q19 qe
              have q6 := (g6.out _ hI).cell
              have q11 := (g11.out _ hI).cell
              have q15 := (g15.out _ hI).cell
              have q17 := (g17.out _ hI).cell
              have q19 := (g19.out _ hI).cell
              have qe := ge.out _ hI
              go_wp2_with fail
              have hId := drw.out _ hI
              go_region_held3 (fun w' => w'.cell? ⟨B15, 0, none⟩ = some (.slice o15 n15 c15) ∧ w'.cell? ⟨w.heap.size, 0, none⟩ = some (.slice (some ⟨g, 0, none⟩) n6 c6)) (first | exact ⟨(g15.out _ (by assumption)).cell, (g6.out _ (by assumption)).cell⟩)
                (first
                  | (go_at_call 16; refine (rwrite_any _ _ _ ss i t _ (g6.out _ (by assumption)).rd (by omega) hlt' HT.out HSZ.out).mono ?_; rintro e wr16 ⟨⟨oN, nN, cN, rfl, hRN⟩, hBr⟩; have hIr := step.out _ _ (by assumption) hBr; have hnN : nN ≤ 132 := (by have h1 := hRN.len; rw [HRL.out 128] at h1; omega))
                  | (go_at_call 13; refine (same_any _ _ _ _ _ _ _ _ _ (g15.out _ (by assumption)).rd (by assumption) (by omega) (by omega)).mono ?_; rintro e ws16 ⟨rfl, hBs⟩; have hIs := step.out _ _ (by assumption) hBs; rw [HS1.out]))
              clear hI hId hIr hBr hBs hRN hnN q6 q11 q15 q17 q19 qe
              have hI := hIs
              clear hIs
              have q6 := (g6.out _ hI).cell
              have q11 := (g11.out _ hI).cell
              have q15 := (g15.out _ hI).cell
              have q17 := (g17.out _ hI).cell
              have q19 := (g19.out _ hI).cell
              have qe := ge.out _ hI
              go_wp2_with fail
              refine (same_any _ _ _ _ _ _ _ _ _ (g17.out _ hI).rd (g19.out _ hI).rd (by omega) (by omega)).mono ?_
              rintro e wb5 ⟨rfl, hB⟩
              rw [HS2.out]
              replace hI := step.out _ _ hI hB
              clear hB q6 q11 q15 q17 q19 qe
              have q6 := (g6.out _ hI).cell
              have q11 := (g11.out _ hI).cell
              have q15 := (g15.out _ hI).cell
              have q17 := (g17.out _ hI).cell
              have q19 := (g19.out _ hI).cell
              have qe := ge.out _ hI
              go_wp2_with fail
              go_ret
              exact ⟨rfl, gB.out _ hI⟩
        · have hT1 : tearE ss (i : Int) t 128 = 2 := by unfold tearE; rw [if_pos HF.out, if_neg ht]
          have hT2 : tearE ss (i : Int) t k = 2 := by unfold tearE; rw [if_pos HF.out, if_neg ht]
          have HS1 : Hid (sameB (tearL ss (i : Int) t 128) [] = true) := by show _ = _; rw [tearL_bad (by rw [hT1]; omega)]; exact same_self _
          have HS2 : Hid (sameB (tearL ss (i : Int) t k) [] = true) := by show _ = _; rw [tearL_bad (by rw [hT2]; omega)]; exact same_self _
          have htz : ((t.size : Int) == 128) = false := by simp only [beq_eq_false_iff_ne, ne_eq]; omega
          clear ht
          rw [hT1, hT2]
          clear hT1 hT2
          go_wp2_with fail
          refine (rright_any _ _ _ ss _ (g6.out _ hI).rd (by omega)).mono ?_
          rintro e wb ⟨rfl, hB⟩
          rw [HR.out]
          replace hI := step.out _ _ hI hB
          clear hB q6 q11 q15 q17 q19 qe
          have q6 := (g6.out _ hI).cell
          have q11 := (g11.out _ hI).cell
          have q15 := (g15.out _ hI).cell
          have q17 := (g17.out _ hI).cell
          have q19 := (g19.out _ hI).cell
          have qe := ge.out _ hI
          go_wp2_with fail
          refine (has_any _ _ _ ss _ _ (g6.out _ hI).rd (by omega)).mono ?_
          rintro e wb2 ⟨rfl, hB⟩
          rw [HH.out]
          replace hI := step.out _ _ hI hB
          clear hB q6 q11 q15 q17 q19 qe
          have q6 := (g6.out _ hI).cell
          have q11 := (g11.out _ hI).cell
          have q15 := (g15.out _ hI).cell
          have q17 := (g17.out _ hI).cell
          have q19 := (g19.out _ hI).cell
          have qe := ge.out _ hI
          go_wp2_with fail
          refine (same_any _ _ _ _ _ _ _ _ _ (g15.out _ hI).rd (g19.out _ hI).rd (by omega) (by omega)).mono ?_
          rintro e wb4 ⟨rfl, hB⟩
          rw [HS1.out]
          replace hI := step.out _ _ hI hB
          clear hB q6 q11 q15 q17 q19 qe
          have q6 := (g6.out _ hI).cell
          have q11 := (g11.out _ hI).cell
          have q15 := (g15.out _ hI).cell
          have q17 := (g17.out _ hI).cell
          have q19 := (g19.out _ hI).cell
          have qe := ge.out _ hI
          go_wp2_with fail
          refine (same_any _ _ _ _ _ _ _ _ _ (g17.out _ hI).rd (g19.out _ hI).rd (by omega) (by omega)).mono ?_
          rintro e wb5 ⟨rfl, hB⟩
          rw [HS2.out]
          replace hI := step.out _ _ hI hB
          clear hB q6 q11 q15 q17 q19 qe
          have q6 := (g6.out _ hI).cell
          have q11 := (g11.out _ hI).cell
          have q15 := (g15.out _ hI).cell
          have q17 := (g17.out _ hI).cell
          have q19 := (g19.out _ hI).cell
          have qe := ge.out _ hI
          go_wp2_with fail
          go_ret
          exact ⟨rfl, gB.out _ hI⟩
end Go.Proofs.Ytaknpipghkannaa.sectorTells
