/-
  ConfigFirst, walked.
-/
import Derived.Test.YtbihaoibmkdfjaaDoorCfL
import Derived.Test.YtbihaoibmkdfjaaDoorRfcL
import Derived.Test.YtbihaoibmkdfjaaDoorPlnX
namespace Go.Proofs.YtbihaoibmkdfjaaDoor.configFirst
open Go.Proofs.YtbihaoibmkdfjaaDoor Go.RowKit Go.Shelf
set_option linter.unusedVariables false

theorem min_of (n k : Nat) : ∃ m : Nat, m = min n k ∧ min (n : Int) (k : Int) = (m : Int) ∧ m ≤ n ∧ m ≤ k := ⟨min n k, rfl, by omega, Nat.min_le_left _ _, Nat.min_le_right _ _⟩
theorem parse_small {l : List UInt8} {c : CfgL} {n : Nat} {er : Int} (h : parseC l = (c, n, er)) : c.1.length ≤ 100000 ∧ c.2.1.length ≤ 100000 ∧ ∀ i, i < c.2.1.length → (c.2.1.getD i zT).1.length ≤ 100000 ∧ (c.2.1.getD i zT).2.length ≤ 100000 := by
  by_cases he : er = 0
  · subst he
    obtain ⟨hR, _⟩ := parseC_right h
    rw [cfgR_is] at hR
    simp only [Bool.and_eq_true] at hR
    obtain ⟨h1, h2, _⟩ := hR
    have h3 := ((rcvsB_iff _).1 h1).1
    obtain ⟨h4, h5⟩ := (rtsB_iff _ _).1 h2
    unfold numberB at h3 h4
    simp only [Bool.and_eq_true, decide_eq_true_eq] at h3 h4
    refine ⟨by omega, by omega, fun i hi => ?_⟩
    have h6 := h5 i hi
    rw [rteR_is] at h6
    unfold chB numberB at h6
    simp only [Bool.and_eq_true, decide_eq_true_eq] at h6
    omega
  · have hz := parseC_not (l := l) (by rw [h]; exact he)
    rw [h] at hz
    have hz : c = zC := hz
    subst hz
    exact ⟨by simp, by simp, fun i hi => absurd hi (by simp)⟩
theorem first_ok {a more : List UInt8} {c : CfgL} {n : Nat} (h : parseC (a ++ [10]) = (c, n, 0)) : n = 0 ∧ parseC ((a ++ [10]) ++ more) = if more = [] then (c, 0, 0) else (zC, (linesB (a ++ [10])).length, 10) := by
  have hn := (parseC_right h).2
  subst hn
  refine ⟨rfl, ?_⟩
  have h1 : goL zC 0 0 (linesB (a ++ [10])) = (c, 0, 0) := h
  unfold parseC
  rw [lines_more, goL_whole _ _ h1]
  by_cases hm : more = []
  · subst hm; rfl
  · rw [if_neg hm, if_neg (fun e => hm ((lines_nil more).1 e)), Nat.zero_add]
theorem first_no {a more : List UInt8} {c : CfgL} {n : Nat} {e : Int} (h : parseC (a ++ [10]) = (c, n, e)) (he : e ≠ 0) : c = zC ∧ n ≤ (linesB (a ++ [10])).length ∧ (n ≠ (linesB (a ++ [10])).length → parseC ((a ++ [10]) ++ more) = (zC, n, e)) := by
  have h0 : (parseC (a ++ [10])).2.2 ≠ 0 := by rw [h]; exact he
  have hz := parseC_not h0
  rw [h] at hz
  have hz : c = zC := hz
  have h1 : goL zC 0 0 (linesB (a ++ [10])) = (c, n, e) := h
  have hl := goL_line (linesB (a ++ [10])) (c := zC) (a := 0) (i := 0) (by rw [h1]; exact he)
  rw [h1, Nat.zero_add] at hl
  refine ⟨hz, hl.2, fun hn => ?_⟩
  have hf := goL_first (linesB (a ++ [10])) (linesB more) (c := zC) (a := 0) (i := 0) (by rw [h1]; exact he) (by rw [h1, Nat.zero_add]; exact hn)
  unfold parseC
  rw [lines_more, hf, h1, hz]
set_option maxRecDepth 100000 in
set_option maxHeartbeats 12800000 in
theorem walk (s u : ByteArray) (w : World) (hs : s.size ≤ maxLen) (hu : u.size ≤ maxLen) (hT : Tabs w) :
    Calls Tryd.prog 3 #[.string s, .string u] w fun e w' => e = .returned (.bool true) ∧ Below w.heap.size w w' := by
  have hs2 : s.size ≤ 9223372036854775807 := by unfold maxLen at hs; omega
  have hu2 : u.size ≤ 9223372036854775807 := by unfold maxLen at hu; omega
  clear hs hu
  obtain ⟨p, hp, ep, hps, hp2⟩ := min_of s.size 1200
  change min (s.size : Int) 1200 = (p : Int) at ep
  have hz1 : (s.extract 0 p).size ≤ 1200 := by rw [ByteArray.size_extract]; omega
  obtain ⟨r, hr, er, hrs, hr2⟩ := min_of u.size 300
  change min (u.size : Int) 300 = (r : Int) at er
  have hz2 : (u.extract 0 r).size ≤ 300 := by rw [ByteArray.size_extract]; omega
  clear hp hr
  have hten : (⟨#[10]⟩ : ByteArray).size = 1 := rfl
  have B0 := (Below.refl w.heap.size w).drew
  have hT0 := hT.below B0 (Nat.le_refl _)
  clear hT
  go_enter Tryd.func3, Tryd.ntmps3
  go_upto_region 1 with fail
  go_region
  clear ep er hps hrs hp2 hr2 hs2 hu2
  generalize w.drew = w1 at *
  generalize s.extract 0 p = y at *
  generalize u.extract 0 r = z at *
  have hbt : bs (y ++ ⟨#[10]⟩) = bs y ++ [10] := by unfold bs; rw [ByteArray.data_append]; simp
  have hbm : bs ((y ++ ⟨#[10]⟩) ++ z) = (bs y ++ [10]) ++ bs z := by unfold bs; rw [ByteArray.data_append, ByteArray.data_append]; simp
  have hsT : (y ++ (⟨#[10]⟩ : ByteArray)).size ≤ 1201 := by rw [ByteArray.size_append]; omega
  have HP1 := fun w (h : Tabs w) => parseC_any (y ++ ⟨#[10]⟩) w (by omega) h
  have HP2 := fun w (h : Tabs w) => parseC_any ((y ++ ⟨#[10]⟩) ++ z) w (by rw [ByteArray.size_append]; omega) h
  have HLi := fun w => refLines_any (y ++ ⟨#[10]⟩) w (by omega)
  have hzq : (z.toList == []) = decide (bs z = []) := by
    rw [ByteArray.toList_eq]
    show (bs z == []) = _
    cases bs z <;> simp
  obtain ⟨⟨c, n, e⟩, hm1⟩ : ∃ M, M = parseC (bs (y ++ ⟨#[10]⟩)) := ⟨_, rfl⟩
  obtain ⟨⟨d, k, f⟩, hm2⟩ : ∃ M, M = parseC (bs ((y ++ ⟨#[10]⟩) ++ z)) := ⟨_, rfl⟩
  obtain ⟨L, hL⟩ : ∃ L, L = (linesB (bs (y ++ ⟨#[10]⟩))).length := ⟨_, rfl⟩
  simp only [← hm1] at HP1
  simp only [← hm2] at HP2
  simp only [← hL] at HLi
  have HOk : Hid (e = 0 → n = 0 ∧ (d, k, f) = if bs z = [] then (c, 0, 0) else (zC, L, 10)) := fun he => by
    subst he
    rw [hbt] at hm1 hL
    rw [hbm] at hm2
    rw [hm2, hL]
    exact first_ok (more := bs z) hm1.symm
  have HNo : Hid (e ≠ 0 → c = zC ∧ n ≤ L ∧ (n ≠ L → (d, k, f) = (zC, n, e))) := fun he => by
    rw [hbt] at hm1 hL
    rw [hbm] at hm2
    rw [hm2, hL]
    exact first_no (more := bs z) hm1.symm he
  obtain ⟨q1, q2, q3⟩ := parse_small hm1.symm
  obtain ⟨q4, q5, q6⟩ := parse_small hm2.symm
  have HQ3 := Lib.hid q3
  have HQ6 := Lib.hid q6
  clear hm1 hm2 hL hbt hbm q3 q6
  go_upto_region 2 with fail
  generalize hTT : y ++ (⟨#[10]⟩ : ByteArray) = T at *
  clear hTT
  go_wp2_with fail
  refine (HP1 _ hT0).mono ?_
  rintro e' w2 ⟨⟨o1, n1, c1, o2, n2, c2, rfl, hR2, hQ2⟩, B2⟩
  dsimp only at hR2 hQ2
  dsimp only
  have hn1 : n1 ≤ 100000 := by have := hR2.len; omega
  have hn2 : n2 ≤ 100000 := by have := hQ2.len; omega
  have VA := Vals.new w2 25 (cfgV (.slice o1 n1 c1) (.slice o2 n2 c2) c.2.2.1 c.2.2.2)
  have Ba := below_alloc w2 (.cells (cfgV (.slice o1 n1 c1) (.slice o2 n2 c2) c.2.2.1 c.2.2.2) 25)
  have B13 := B2.trans (Ba.mono B2.size)
  have B3 := B0.trans (B13.mono B0.size)
  have hR3 := hR2.below Ba (Nat.le_refl _)
  have hQ3 := hQ2.below Ba (Nat.le_refl _)
  have hT3 := hT0.below B13 (Nat.le_refl _)
  clear HP1 hR2 hQ2 B2 Ba hT0 B13 B0
  go_upto_region 3 with fail
  generalize w2.alloc (.cells (cfgV (.slice o1 n1 c1) (.slice o2 n2 c2) c.2.2.1 c.2.2.2) 25) = w3 at *
  generalize w2.heap.size = A at *
  go_wp2_with fail
  refine (HP2 _ hT3).mono ?_
  rintro e' w4 ⟨⟨o3, n3, c3, o4, n4, c4, rfl, hR4, hQ4⟩, B4⟩
  dsimp only at hR4 hQ4
  dsimp only
  have hn3 : n3 ≤ 100000 := by have := hR4.len; omega
  have hn4 : n4 ≤ 100000 := by have := hQ4.len; omega
  have VB := Vals.new w4 25 (cfgV (.slice o3 n3 c3) (.slice o4 n4 c4) d.2.2.1 d.2.2.2)
  have Ba := below_alloc w4 (.cells (cfgV (.slice o3 n3 c3) (.slice o4 n4 c4) d.2.2.1 d.2.2.2) 25)
  have B35 := B4.trans (Ba.mono B4.size)
  have B5 := B3.trans (B35.mono B3.size)
  have VA5 := VA.keep B35 (Nat.le_refl _)
  have hR5 := hR3.below B35 (Nat.le_refl _)
  have hQ5 := hQ3.below B35 (Nat.le_refl _)
  have hT5 := hT3.below B35 (Nat.le_refl _)
  have hR5' := hR4.below Ba (Nat.le_refl _)
  have hQ5' := hQ4.below Ba (Nat.le_refl _)
  clear HP2 hR4 hQ4 B4 Ba B35 B3 hT3 hR3 hQ3 VA
  go_upto_region 4 with fail
  generalize w4.alloc (.cells (cfgV (.slice o3 n3 c3) (.slice o4 n4 c4) d.2.2.1 d.2.2.2) 25) = w5 at *
  generalize w4.heap.size = B at *
  by_cases he : e = 0
  · subst he
    obtain ⟨hn0, hdk⟩ := HOk.out rfl
    subst hn0
    have HAl := alive_any w5 hT5
    by_cases hzz : bs z = []
    · rw [if_pos hzz] at hdk
      obtain ⟨rfl, rfl, rfl⟩ : d = c ∧ k = 0 ∧ f = 0 := by simpa using hdk
      rw [decide_eq_true hzz] at hzq
      have hzn : (z.toList != []) = false := by simp [bne, hzq]
      clear hzz hdk HOk HNo HLi HQ3 HQ6 hR5 hQ5 hR5' hQ5' VA5 VB hT5
      go_wp2_with fail
      refine HAl.mono ?_
      rintro e' w6 ⟨rfl, B6⟩
      have B7 := B5.trans (B6.mono B5.size)
      go_wp2_with fail
      go_ret
      exact ⟨rfl, B7⟩
    · rw [if_neg hzz] at hdk
      obtain ⟨rfl, rfl, rfl⟩ : d = zC ∧ k = L ∧ f = 10 := by simpa using hdk
      rw [decide_eq_false hzz] at hzq
      have hzn : (z.toList != []) = true := by simp [bne, hzq]
      have hkk : ((k : Int) == (k : Int)) = true := by simp
      clear hzz hdk HOk HNo HQ3 HQ6 hR5 hQ5 hR5' hQ5' VA5 VB hT5
      go_wp2_with fail
      refine HAl.mono ?_
      rintro e' w6 ⟨rfl, B6⟩
      have B7 := B5.trans (B6.mono B5.size)
      clear HAl B5 B6
      go_wp2_with fail
      refine (HLi _).mono ?_
      rintro e' w7 ⟨⟨oq, cq, rfl, hTq, hcq, _⟩, B8⟩
      have B9 := B7.trans (B8.mono B7.size)
      clear hTq B7 B8
      go_wp2_with fail
      go_ret
      exact ⟨rfl, B9⟩
  · obtain ⟨hcz, hnL, hrest⟩ := HNo.out he
    have heq : (e == 0) = false := by simp [he]
    have hR6 : Rs w5 o1 n1 c1 ([] : List R9) := by rw [hcz] at hR5; exact hR5
    have hQ6 : Qs w5 o2 n2 c2 ([] : List T2) := by rw [hcz] at hQ5; exact hQ5
    have VA6 : Vals w5 A 25 (cfgV (.slice o1 n1 c1) (.slice o2 n2 c2) 0 0) := by rw [hcz] at VA5; exact VA5
    have HS1 := refSameC_any zC 0 0 o1 n1 c1 o2 n2 c2 none 0 0 none 0 0 w5 hR6 hQ6 (Rs.nil _ _ _) (Qs.nil _ _ _) (by omega) (by omega) (fun i hi => absurd hi (by simp))
    have hnl : ¬ (L : Int) < (n : Int) := by omega
    have hnn : ¬ (n : Int) < 0 := by omega
    have hc2 : c.2.2.1 = 0 ∧ c.2.2.2 = 0 := by rw [hcz]; exact ⟨rfl, rfl⟩
    have HRe := Lib.hid hrest
    clear HOk HNo HQ3 hR5 hQ5 VA5 hR6 hQ6 q1 q2 hcz hc2 hrest
    have a0 : w5.cell? ⟨A, 0, none⟩ = some (.slice o1 n1 c1) := VA6.cell 0
    have a1 : w5.cell? ⟨A, 1, none⟩ = some (.slice o2 n2 c2) := VA6.cell 1
    have a2 : w5.cell? ⟨A, 2, none⟩ = some (.int .i64 0) := VA6.cell 2
    have a3 : w5.cell? ⟨A, 3, none⟩ = some (.int .i64 0) := VA6.cell 3
    go_wp2_with fail
    refine HS1.mono ?_
    rintro e' w6 ⟨rfl, B6⟩
    have B7 := B5.trans (B6.mono B5.size)
    have VB6 := VB.keep B6 (Nat.le_refl _)
    have hR6 := hR5'.below B6 (Nat.le_refl _)
    have hQ6 := hQ5'.below B6 (Nat.le_refl _)
    have hT6 := hT5.below B6 (Nat.le_refl _)
    clear HS1 VA6 a0 a1 a2 a3 VB hR5' hQ5' hT5 B6 B5
    go_wp2_with fail
    refine (HLi _).mono ?_
    rintro e' w7 ⟨⟨oq, cq, rfl, _, _, _⟩, B8⟩
    have B9 := B7.trans (B8.mono B7.size)
    have VB7 := VB6.keep B8 (Nat.le_refl _)
    have hR7 := hR6.below B8 (Nat.le_refl _)
    have hQ7 := hQ6.below B8 (Nat.le_refl _)
    have HAl := alive_any w7 (hT6.below B8 (Nat.le_refl _))
    clear hT6 VB6 hR6 hQ6 B8 B7
    go_wp2_with fail
    refine HAl.mono ?_
    rintro e' w8 ⟨rfl, B10⟩
    have B11 := B9.trans (B10.mono B9.size)
    have VB8 := VB7.keep B10 (Nat.le_refl _)
    have hR8 := hR7.below B10 (Nat.le_refl _)
    have hQ8 := hQ7.below B10 (Nat.le_refl _)
    clear VB7 hR7 hQ7 B10 B9 HAl
    by_cases hn : n = L
    · have hnq : ((n : Int) == (L : Int)) = true := by simp [hn]
      clear HRe hn
      go_wp2_with fail
      refine (HLi _).mono ?_
      rintro e' w9 ⟨⟨oq, cq, rfl, _, _, _⟩, B12⟩
      have B13 := B11.trans (B12.mono B11.size)
      go_wp2_with fail
      go_ret
      exact ⟨rfl, B13⟩
    · have hnq : ((n : Int) == (L : Int)) = false := by
        have : (n : Int) ≠ (L : Int) := by omega
        simpa using this
      obtain ⟨hdz, hkn, hfe⟩ : d = zC ∧ k = n ∧ f = e := by simpa using HRe.out hn
      subst hkn hfe
      have hkk : ((k : Int) == (k : Int)) = true := by simp
      have hff : (f == f) = true := by simp
      have hR9 : Rs w8 o3 n3 c3 ([] : List R9) := by rw [hdz] at hR8; exact hR8
      have hQ9 : Qs w8 o4 n4 c4 ([] : List T2) := by rw [hdz] at hQ8; exact hQ8
      have VB9 : Vals w8 B 25 (cfgV (.slice o3 n3 c3) (.slice o4 n4 c4) 0 0) := by rw [hdz] at VB8; exact VB8
      have HS2 := fun wx (Bx : Below w8.heap.size w8 wx) => refSameC_any zC 0 0 o3 n3 c3 o4 n4 c4 none 0 0 none 0 0 wx (hR9.below Bx (Nat.le_refl _)) (hQ9.below Bx (Nat.le_refl _)) (Rs.nil _ _ _) (Qs.nil _ _ _) (by omega) (by omega) (fun i hi => absurd hi (by simp))
      clear HRe hn hR8 hQ8 VB8 hdz HQ6 q4 q5
      go_wp2_with fail
      refine (HLi _).mono ?_
      rintro e' w9 ⟨⟨oq, cq, rfl, _, _, _⟩, B12⟩
      have B13 := B11.trans (B12.mono B11.size)
      have VBx := VB9.keep B12 (Nat.le_refl _)
      have HS3 := HS2 _ B12
      have b0 : w9.cell? ⟨B, 0, none⟩ = some (.slice o3 n3 c3) := VBx.cell 0
      have b1 : w9.cell? ⟨B, 1, none⟩ = some (.slice o4 n4 c4) := VBx.cell 1
      have b2 : w9.cell? ⟨B, 2, none⟩ = some (.int .i64 0) := VBx.cell 2
      have b3 : w9.cell? ⟨B, 3, none⟩ = some (.int .i64 0) := VBx.cell 3
      clear HS2 VB9 B12 B11 hR9 hQ9 VBx
      go_wp2_with fail
      refine HS3.mono ?_
      rintro e' w10 ⟨rfl, B14⟩
      have B15 := B13.trans (B14.mono B13.size)
      go_wp2_with fail
      go_ret
      exact ⟨rfl, B15⟩
end Go.Proofs.YtbihaoibmkdfjaaDoor.configFirst
