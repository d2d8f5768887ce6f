/-
  The document's own: which route takes labels.
-/
import Derived.Test.YtplfmphhmlkejaaRotB
namespace Go.Proofs.Ytplfmphhmlkejaa
open Go.RowKit Go.Shelf
set_option linter.unusedVariables false

theorem mats_kinds {ms : List M3} (h : matsB ms = true) : ∀ k, k < ms.length → 0 ≤ (ms.getD k zM).1 ∧ (ms.getD k zM).1 ≤ 3 := by
  intro k hk
  unfold matsB at h
  simp only [Bool.and_eq_true, decide_eq_true_eq, Bool.not_eq_true', List.any_eq_false] at h
  have e : ms.getD k zM = ms[k] := by rw [List.getD_eq_getElem?_getD, List.getElem?_eq_getElem hk]; rfl
  rw [e]
  have := h.2 ms[k] (List.getElem_mem _)
  have hm : matB ms[k] = true := by simpa using this
  exact (mat_parts hm).1
set_option maxRecDepth 100000 in
set_option maxHeartbeats 3200000 in
theorem refChoose_any (o1 : Option Addr) (n1 c1 : Nat) (o2 : Option Addr) (n2 c2 : Nat) (c : CfgL) (oa : Option Addr) (n cap : Nat) (l : List L2) (w : World) (h : CfgAt w o1 n1 c1 o2 n2 c2 c) (hL : Ls w oa n cap l) (hn : n ≤ 4611686018427387904) (hR : cfgR c = true) (hl : rightB l = true) :
    Calls Try.prog 14 #[aggC o1 n1 c1 o2 n2 c2 c, .slice oa n cap] w fun e w' => e = .returned (.int .i64 (rotF c l)) ∧ Below w.heap.size w w' := by
  have HHit := fun k => rotF_hit (c := c) (l := l) k
  have HNone := rotF_none (c := c) (l := l)
  have HRt := Lib.hid (cfgR_parts hR).1
  clear hR
  obtain ⟨rs, ts, q, t⟩ := c
  dsimp only [aggC] at *
  have HL := Lib.hid h.qs.len
  have hr := h.qs.room
  have hb := h.b2
  unfold maxLen at hb
  have HPs := Lib.hid h.parts
  dsimp only at HL HPs
  have V0 := Vals.new w 25 (cfgV (.slice o1 n1 c1) (.slice o2 n2 c2) q t)
  have B0 := below_alloc w (.cells (cfgV (.slice o1 n1 c1) (.slice o2 n2 c2) q t) 25)
  have HQ := (h.below B0 (Nat.le_refl _)).qs
  have hL1 := hL.below B0 (Nat.le_refl _)
  dsimp only at HQ
  clear h hL
  obtain ⟨R, hRR⟩ : ∃ R, R = rotF (rs, ts, q, t) l := ⟨_, rfl⟩
  rw [← hRR] at HHit HNone ⊢
  have HH := Lib.hid HHit
  have HN := Lib.hid HNone
  have HRl := Lib.hid hl
  clear hRR HHit HNone hl
  go_enter Try.func14, Try.ntmps14
  go_upto_region 1 with fail
  generalize hw1 : w.alloc (.cells (cfgV (.slice o1 n1 c1) (.slice o2 n2 c2) q t) 25) = w1 at *
  have d1 : w1.cell? ⟨w.heap.size, 1, none⟩ = some (.slice o2 n2 c2) := V0.cell 1
  clear hw1 V0
  go_wp2_with fail
  go_loopw [10] (fun s10 wr => ∃ k : Nat, k ≤ n2 ∧ s10 = .int .i64 k ∧ Below w1.heap.size w1 wr ∧ Hid (∀ i, i < k → (ts.getD i zT).2.all (mB l) = false)) (fun s10 _ => n2 - (intOf s10).toNat)
  case atStart => exact ⟨0, Nat.zero_le _, rfl, Below.refl _ _, fun i hi => absurd hi (by omega)⟩
  case round =>
    obtain ⟨k, hk, rfl, hB, HA⟩ := hrel
    by_cases hlt : k < n2
    · obtain ⟨g, o, pa, m1, k1, pb, m2, k2, rfl, e0, e1, hC, hM⟩ := (HQ.below hB (Nat.le_refl _)).cell k hlt
      have hkl : k < ts.length := by have := HL.out; omega
      have HMb := (rteR_parts (HRt.out k hkl)).2.2.2
      have HE := Lib.hid (refAll_is (l := l) (ms := (ts.getD k zT).2) HRl.out HMb)
      have HNo : Hid ((ts.getD k zT).2.all (mB l) = false → ∀ i, i < k + 1 → (ts.getD i zT).2.all (mB l) = false) := fun h1 i hi => by
        by_cases e : i = k
        · subst e; exact h1
        · exact HA.out i (by omega)
      have HYes : Hid ((ts.getD k zT).2.all (mB l) = true → R = (k : Int)) := fun h1 => HH.out k hkl HA.out h1
      have B13 := below_alloc wr (.cells #[.slice pa m1 k1, .slice pb m2 k2] 41)
      have VB := Vals.new wr 41 #[.slice pa m1 k1, .slice pb m2 k2]
      have B3 := hB.alloc hB.size (.cells #[.slice pa m1 k1, .slice pb m2 k2] 41)
      have h2 := hM.len
      have h3 := (HPs.out k hkl).2.1
      unfold maxLen at h3
      have HAll := refAll_any pb m2 k2 (ts.getD k zT).2 oa n cap l _ (hM.below B13 (Nat.le_refl _)) ((hL1.below hB (Nat.le_refl _)).below B13 (Nat.le_refl _)) hn (by omega) (mats_kinds HMb)
      rw [HE.out] at HAll
      generalize (ts.getD k zT).2.all (mB l) = rr at *
      clear HA HH HN HQ HPs hC hM HMb HE hkl hL1 h2 h3
      go_upto_region 4 with fail
      clear e0 e1
      generalize wr.alloc (.cells #[.slice pa m1 k1, .slice pb m2 k2] 41) = w3 at *
      have f1 : w3.cell? ⟨wr.heap.size, 1, none⟩ = some (.slice pb m2 k2) := VB.cell 1
      cases rr with
      | true =>
        have HX := Lib.hid (HYes.out (by first | rfl | trivial))
        clear HNo HYes
        go_wp2_with fail
        refine HAll.mono ?_
        rintro e w4 ⟨rfl, B4⟩
        go_wp2_with fail
        go_ret
        exact ⟨retI HX.out.symm, B0.trans ((B3.trans (B4.mono B3.size)).mono B0.size)⟩
      | false =>
        have HX := Lib.hid (HNo.out (by first | rfl | trivial))
        clear HNo HYes
        go_wp2_with fail
        refine HAll.mono ?_
        rintro e w4 ⟨rfl, B4⟩
        have B5 := B3.trans (B4.mono B3.size)
        go_wp2_with fail
        go_roundw
        case rel => exact ⟨k + 1, by omega, by go_num, B5, HX⟩
        case measure => simp [intOf]; omega
    · obtain rfl : k = n2 := by omega
      have HX := Lib.hid (HN.out (fun i hi => HA.out i (by have := HL.out; omega)))
      clear HQ HA HH HN HPs
      go_wp2_with fail
      go_ret
      exact ⟨retI HX.out.symm, B0.trans (hB.mono B0.size)⟩
end Go.Proofs.Ytplfmphhmlkejaa
