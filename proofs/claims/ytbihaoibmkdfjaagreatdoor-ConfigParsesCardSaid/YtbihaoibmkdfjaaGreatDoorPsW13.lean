/-
  ConfigParses, walked.
-/
import Derived.Test.YtbihaoibmkdfjaaGreatDoorCfL
import Derived.Test.YtbihaoibmkdfjaaGreatDoorRfcL
namespace Go.Proofs.YtbihaoibmkdfjaaGreatDoor.configParses
open Go.Proofs.YtbihaoibmkdfjaaGreatDoor Go.RowKit Go.Shelf
set_option linter.unusedVariables false

theorem min_of (n k : Nat) : ∃ m : Nat, m = min n k ∧ min (n : Int) (k : Int) = (m : Int) ∧ m ≤ n ∧ m ≤ k := ⟨min n k, rfl, by omega, Nat.min_le_left _ _, Nat.min_le_right _ _⟩
/-- what is told of a text is small -/
theorem parse_small {l : List UInt8} {c : CfgL} {n : Nat} {er : Int} (h : parseC l = (c, n, er)) : c.1.length ≤ 100000 ∧ c.2.1.length ≤ 100000 ∧ ∀ i, i < c.2.1.length → (c.2.1.getD i zT).1.length ≤ 100000 ∧ (c.2.1.getD i zT).2.length ≤ 100000 := by
  by_cases he : er = 0
  · subst he
    obtain ⟨hR, _⟩ := parseC_right h
    rw [cfgR_is] at hR
    simp only [Bool.and_eq_true] at hR
    obtain ⟨h1, h2, _⟩ := hR
    have h3 := ((rcvsB_iff _).1 h1).1
    obtain ⟨h4, h5⟩ := (rtsB_iff _ _).1 h2
    unfold numberB at h3 h4
    simp only [Bool.and_eq_true, decide_eq_true_eq] at h3 h4
    refine ⟨by omega, by omega, fun i hi => ?_⟩
    have h6 := h5 i hi
    rw [rteR_is] at h6
    unfold chB numberB at h6
    simp only [Bool.and_eq_true, decide_eq_true_eq] at h6
    omega
  · have hz := parseC_not (l := l) (by rw [h]; exact he)
    rw [h] at hz
    have hz : c = zC := hz
    subst hz
    exact ⟨by simp, by simp, fun i hi => absurd hi (by simp)⟩
set_option maxRecDepth 100000 in
set_option maxHeartbeats 6400000 in
theorem walk (s : ByteArray) (w : World) (hs : s.size ≤ maxLen) (hT : Tabs w) :
    Calls Tryz.prog 3 #[.string s] w fun e w' => e = .returned (.bool true) ∧ Below w.heap.size w w' := by
  have hs2 : s.size ≤ 9223372036854775807 := by unfold maxLen at hs; omega
  clear hs
  obtain ⟨p, hp, ep, hps, hp2⟩ := min_of s.size 1500
  change min (s.size : Int) 1500 = (p : Int) at ep
  have hz1 : (s.extract 0 p).size ≤ 10000 := by rw [ByteArray.size_extract]; omega
  clear hp
  go_enter Tryz.func3, Tryz.ntmps3
  go_upto_region 2 with fail
  clear ep hps hp2 hs2
  generalize s.extract 0 p = y at *
  have HP := parseC_any y w hz1 hT
  have HQ := fun w => refParseC_any y w hz1
  obtain ⟨⟨c, k, er⟩, hm⟩ : ∃ M, M = parseC (bs y) := ⟨_, rfl⟩
  have hzz := parse_small hm.symm
  rw [← hm] at HP
  simp only [← hm] at HQ
  clear hm hz1
  obtain ⟨z1, z2, z3⟩ := hzz
  have HZ := Lib.hid z3
  clear z3
  go_wp2_with fail
  refine HP.mono ?_
  rintro e w2 ⟨⟨o1, n1, c1, o2, n2, c2, rfl, hR2, hQ2⟩, B2⟩
  dsimp only at hR2 hQ2
  dsimp only
  have hn1 : n1 ≤ 100000 := by have := hR2.len; omega
  have hn2 : n2 ≤ 100000 := by have := hQ2.len; omega
  have VA := Vals.new w2 25 (cfgV (.slice o1 n1 c1) (.slice o2 n2 c2) c.2.2.1 c.2.2.2)
  have Ba := below_alloc w2 (.cells (cfgV (.slice o1 n1 c1) (.slice o2 n2 c2) c.2.2.1 c.2.2.2) 25)
  have B3 := B2.trans (Ba.mono B2.size)
  have hR3 := hR2.below Ba (Nat.le_refl _)
  have hQ3 := hQ2.below Ba (Nat.le_refl _)
  have hT3 := hT.below B3 (Nat.le_refl _)
  clear HP hR2 hQ2 B2 Ba hT
  go_upto_region 3 with fail
  generalize w2.alloc (.cells (cfgV (.slice o1 n1 c1) (.slice o2 n2 c2) c.2.2.1 c.2.2.2) 25) = w3 at *
  generalize w2.heap.size = A at *
  go_wp2_with fail
  refine (HQ _).mono ?_
  rintro e w4 ⟨⟨o3, n3, c3, o4, n4, c4, rfl, hR4, hQ4⟩, B4⟩
  dsimp only at hR4 hQ4
  dsimp only
  have VB := Vals.new w4 25 (cfgV (.slice o3 n3 c3) (.slice o4 n4 c4) c.2.2.1 c.2.2.2)
  have Ba := below_alloc w4 (.cells (cfgV (.slice o3 n3 c3) (.slice o4 n4 c4) c.2.2.1 c.2.2.2) 25)
  have B35 := B4.trans (Ba.mono B4.size)
  have B5 := B3.trans (B35.mono B3.size)
  have VA5 := VA.keep B35 (Nat.le_refl _)
  have hR5 := hR3.below B35 (Nat.le_refl _)
  have hQ5 := hQ3.below B35 (Nat.le_refl _)
  have hT5 := hT3.below B35 (Nat.le_refl _)
  have hR5' := hR4.below Ba (Nat.le_refl _)
  have hQ5' := hQ4.below Ba (Nat.le_refl _)
  clear HQ hR4 hQ4 B4 Ba B35 B3 hT3 hR3 hQ3 VA
  go_upto_region 4 with fail
  generalize w4.alloc (.cells (cfgV (.slice o3 n3 c3) (.slice o4 n4 c4) c.2.2.1 c.2.2.2) 25) = w5 at *
  generalize w4.heap.size = B at *
  have HAl := alive_any w5 hT5
  have HS := fun w6 (B6 : Below w5.heap.size w5 w6) => refSameC_any c c.2.2.1 c.2.2.2 o1 n1 c1 o2 n2 c2 o3 n3 c3 o4 n4 c4 w6 (hR5.below B6 (Nat.le_refl _)) (hQ5.below B6 (Nat.le_refl _)) (hR5'.below B6 (Nat.le_refl _)) (hQ5'.below B6 (Nat.le_refl _)) (by omega) (by omega) HZ.out
  clear hR5 hQ5 hR5' hQ5' hT5
  go_wp2_with fail
  refine HAl.mono ?_
  rintro e w6 ⟨rfl, B6⟩
  have HS6 := HS w6 B6
  have VA6 := VA5.keep B6 (Nat.le_refl _)
  have VB6 := VB.keep B6 (Nat.le_refl _)
  have B7 := B5.trans (B6.mono B5.size)
  have a0 : w6.cell? ⟨A, 0, none⟩ = some (.slice o1 n1 c1) := VA6.cell 0
  have a1 : w6.cell? ⟨A, 1, none⟩ = some (.slice o2 n2 c2) := VA6.cell 1
  have a2 : w6.cell? ⟨A, 2, none⟩ = some (.int .i64 c.2.2.1) := VA6.cell 2
  have a3 : w6.cell? ⟨A, 3, none⟩ = some (.int .i64 c.2.2.2) := VA6.cell 3
  have b0 : w6.cell? ⟨B, 0, none⟩ = some (.slice o3 n3 c3) := VB6.cell 0
  have b1 : w6.cell? ⟨B, 1, none⟩ = some (.slice o4 n4 c4) := VB6.cell 1
  have b2 : w6.cell? ⟨B, 2, none⟩ = some (.int .i64 c.2.2.1) := VB6.cell 2
  have b3 : w6.cell? ⟨B, 3, none⟩ = some (.int .i64 c.2.2.2) := VB6.cell 3
  have hee : (er == er) = true := by simp
  have hkk : ((k : Int) == (k : Int)) = true := by simp
  clear HS HAl VA5 VB B5 B6 VA6 VB6
  go_wp2_with fail
  refine HS6.mono ?_
  rintro e w8 ⟨rfl, B8⟩
  go_wp2_with fail
  go_ret
  exact ⟨rfl, B7.trans (B8.mono B7.size)⟩
end Go.Proofs.YtbihaoibmkdfjaaGreatDoor.configParses
