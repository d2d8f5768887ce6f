/-
  What is opened of a disk's sector; whose header is right; the greatest first byte; what is to be written.
-/
import Derived.Test.YtmjbhmmcpjhmcaaLogB
namespace Go.Proofs.Ytmjbhmmcpjhmcaa
open Go.RowKit
set_option linter.unusedVariables false

/-- the sector at a place -/
def secA (ss : List ByteArray) (i : Nat) : ByteArray := ss.getD i ByteArray.empty
theorem log_right {ss : List ByteArray} (h : logB ss = true) : rightB ss = true := by
  unfold logB at h
  rw [Bool.and_eq_true] at h
  exact h.1
theorem log_even {ss : List ByteArray} (h : logB ss = true) : ss.length % 2 = 0 := by
  unfold logB at h
  rw [Bool.and_eq_true] at h
  exact of_decide_eq_true h.2
theorem log_bounds {ss : List ByteArray} (h : logB ss = true) : 10 ≤ ss.length ∧ ss.length ≤ 130 := by
  have := (right_iff ss).1 (log_right h)
  exact ⟨this.1, this.2.1⟩
theorem sec_size {ss : List ByteArray} (h : logB ss = true) {i : Nat} (hi : i < ss.length) : (secA ss i).size = 128 := right_size (log_right h) i hi
theorem sec_max {ss : List ByteArray} (h : logB ss = true) {i : Nat} (hi : i < ss.length) : (secA ss i).size ≤ maxLen := torn_max (sec_size h hi)
theorem find_in {ss : List ByteArray} (h : logB ss = true) {i : Nat} (hi : i < ss.length) : findE ss (i : Int) = 0 := by
  unfold findE hasB
  rw [log_right h]
  simp
  omega
theorem read_in {ss : List ByteArray} (h : logB ss = true) {i : Nat} (hi : i < ss.length) : readS ss (i : Int) = secA ss i := by
  unfold readS secA
  rw [if_pos (find_in h hi)]
  rfl
set_option maxHeartbeats 800000 in
theorem opened_any (oa : Option Addr) (n cap : Nat) (ss : List ByteArray) (i : Nat) (w : World) (hR : Rd w oa n cap ss) (hL : logB ss = true) (hi : i < ss.length) :
    Calls Try.prog 63 #[.agg #[.slice oa n cap], .int .i64 (i : Int)] w fun e w' => e = .returned (openV (secA ss i)) ∧ Below w.heap.size w w' := by
  have hB0 := below_alloc w (.cells #[.slice oa n cap] 24)
  have hR1 := hR.below hB0 (Nat.le_refl _)
  have hn : n ≤ 1000 := by have := hR.len; have := (log_bounds hL).2; omega
  have E1 := Lib.hid (read_in hL hi)
  have E2 := Lib.hid (find_in hL hi)
  have E3 := Lib.hid (sec_max hL hi)
  clear hL hi
  obtain ⟨T, hT⟩ : ∃ T, secA ss i = T := ⟨_, rfl⟩
  rw [hT] at E1 E3 ⊢
  clear hT
  go_enter Try.func63, Try.ntmps63
  go_wp2_with fail
  refine (read_any _ _ _ ss _ _ hR1 hn).mono ?_
  rintro e w1 ⟨rfl, hB1⟩
  rw [E1.out, E2.out]
  have hBB := hB0.trans (hB1.mono hB0.size)
  clear hB0 hB1 hR1 hR
  go_wp2_with fail
  refine (open_any T _ E3.out).mono ?_
  rintro e w2 ⟨rfl, hB2⟩
  have HV : Hid (openV T = .tuple #[.int .i64 (openG T), .int .i64 (openN T), .string (openP T), .int .i64 (openE T)]) := rfl
  rw [HV.out]
  go_wp2_with fail
  ((try simp only [Exit.inBlock, Exit.then]); refine bodyPost_ret (results_tmp4 rfl _ _ _) rfl ?_)
  exact ⟨ret_val (by unfold openV; rfl), hBB.trans (hB2.mono hBB.size)⟩

theorem list_full {p : ByteArray} (h : ¬ p = ⟨#[]⟩) : p.toList.isEmpty = false := by
  rw [Bool.eq_false_iff]
  intro e
  rw [List.isEmpty_iff] at e
  exact h (toList_inj (e.trans (by rw [ByteArray.toList_eq])))
/-- is this sector the header of a generation of that area -/
def headB (t : ByteArray) (k : Nat) : Bool := decide (openE t = 0) && decide (gOf t % 2 = (k : Int)) && decide (nOf t = 0) && decide (pOf t = ⟨#[]⟩)
/-- the generation whose header is right at that place, or 0 -/
def headZ (t : ByteArray) (k : Nat) : Int := if headB t k = true then gOf t else 0
theorem g_bounds (t : ByteArray) : 0 ≤ gOf t ∧ gOf t ≤ 255 := by
  unfold gOf
  have := (t.data.toList.getD 0 0).toNat_lt
  omega
theorem head_no {t : ByteArray} {k : Nat} (h : headB t k = false) : (0 : Int) = headZ t k := by unfold headZ; rw [if_neg (by rw [h]; decide)]
theorem head_yes {t : ByteArray} {k : Nat} (h : headB t k = true) : gOf t = headZ t k := by unfold headZ; rw [if_pos h]
set_option maxHeartbeats 1600000 in
theorem headed_any (oa : Option Addr) (n cap : Nat) (ss : List ByteArray) (i : Nat) (w : World) (hR : Rd w oa n cap ss) (hL : logB ss = true) (hi : i < 2) :
    Calls Try.prog 36 #[.agg #[.slice oa n cap], .int .i64 (i : Int)] w fun e w' => e = .returned (.int .i64 (headZ (secA ss i) i)) ∧ Below w.heap.size w w' := by
  have hB0 := below_alloc w (.cells #[.slice oa n cap] 24)
  have hR1 := hR.below hB0 (Nat.le_refl _)
  have hil : i < ss.length := by have := (log_bounds hL).1; omega
  obtain ⟨T, hT⟩ : ∃ T, secA ss i = T := ⟨_, rfl⟩
  rw [hT]
  have HT := Lib.hid hT
  clear hT
  go_enter Try.func36, Try.ntmps36
  go_wp2_with fail
  refine (opened_any _ _ _ ss _ _ hR1 hL hil).mono ?_
  rintro e w1 ⟨rfl, hB1⟩
  rw [HT.out]
  have hBB := hB0.trans (hB1.mono hB0.size)
  clear hB0 hB1 hR1 hR hil hL HT
  by_cases h0 : openE T = 0
  · rw [openV_yes h0]
    obtain ⟨hg1, hg2⟩ := g_bounds T
    generalize hg : gOf T = g at *
    generalize hn : nOf T = no at *
    generalize hp : pOf T = p at *
    have HG := Lib.hid hg
    have HN := Lib.hid hn
    have HP := Lib.hid hp
    have H0 := Lib.hid h0
    clear hg hn hp h0
    go_wp2_with fail
    refine (headerAt_any _ _ hg1 (by omega)).mono ?_
    rintro e w2 ⟨rfl, rfl⟩
    by_cases h1 : g % 2 = (i : Int)
    · have b1 : (g % 2 == (i : Int)) = true := by rw [beq_iff_eq]; exact h1
      have n1 : (g % 2 != (i : Int)) = false := by rw [bne, b1]; rfl
      have H1 := Lib.hid h1
      clear h1
      by_cases h2 : no = 0
      · by_cases h3 : p = ⟨#[]⟩
        · have E : Hid (headB T i = true) := by show _ = _; unfold headB; rw [HG.out, HN.out, HP.out, H0.out, decide_eq_true H1.out, h2, h3]; rfl
          subst h2
          subst h3
          go_wp2
          go_ret
          exact ⟨ret_int (HG.out ▸ head_yes E.out), hBB⟩
        · have E : Hid (headB T i = false) := by show _ = _; unfold headB; rw [HP.out, decide_eq_false h3, Bool.and_false]
          have ln := list_ne h3
          have lb := list_full h3
          clear h3
          subst h2
          go_wp2
          go_ret
          exact ⟨ret_int (head_no E.out), hBB⟩
      · have E : Hid (headB T i = false) := by show _ = _; unfold headB; rw [HN.out, decide_eq_false h2, Bool.and_false, Bool.false_and]
        have b2 : (no == 0) = false := by rw [beq_eq_false_iff_ne]; exact h2
        go_wp2
        go_ret
        exact ⟨ret_int (head_no E.out), hBB⟩
    · have E : Hid (headB T i = false) := by show _ = _; unfold headB; rw [HG.out, decide_eq_false h1, Bool.and_false, Bool.false_and, Bool.false_and]
      have b1 : (g % 2 == (i : Int)) = false := by rw [beq_eq_false_iff_ne]; exact h1
      have n1 : (g % 2 != (i : Int)) = true := by rw [bne, b1]; rfl
      clear h1
      go_wp2
      go_ret
      exact ⟨ret_int (head_no E.out), hBB⟩
  · rw [openV_no rfl h0]
    have E : Hid (headB T i = false) := by show _ = _; unfold headB; rw [decide_eq_false h0]; rfl
    have b0 : (openE T == 0) = false := by rw [beq_eq_false_iff_ne]; exact h0
    have H0 := Lib.hid h0
    clear h0
    generalize openE T = er at *
    go_wp2
    go_ret
    exact ⟨ret_int (head_no E.out), hBB⟩
end Go.Proofs.Ytmjbhmmcpjhmcaa
