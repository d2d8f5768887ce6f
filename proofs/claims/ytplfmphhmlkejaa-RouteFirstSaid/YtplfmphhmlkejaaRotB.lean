/-
  The document's own: is there such a place, what is next, and which route takes labels.
-/
import Derived.Test.YtplfmphhmlkejaaRotA
import Derived.Test.YtplfmphhmlkejaaLabW
namespace Go.Proofs.Ytplfmphhmlkejaa
open Go.RowKit Go.Shelf
set_option linter.unusedVariables false

set_option maxRecDepth 100000 in
set_option maxHeartbeats 1600000 in
theorem refHas_any (o1 : Option Addr) (n1 c1 : Nat) (o2 : Option Addr) (n2 c2 : Nat) (c : CfgL) (w : World) (i p : Int) (h : CfgAt w o1 n1 c1 o2 n2 c2 c) :
    Calls Try.prog 15 #[aggC o1 n1 c1 o2 n2 c2 c, .int .i64 i, .int .i64 p] w fun e w' => e = .returned (.bool (hasP c i p)) ∧ Below w.heap.size w w' := by
  obtain ⟨rs, ts, q, t⟩ := c
  dsimp only [aggC]
  have hl := h.qs.len
  have hr := h.qs.room
  dsimp only at hl
  have HP : Hid (hasP (rs, ts, q, t) i p = (decide (0 ≤ i) && (decide (i < (n2 : Int)) && (decide (0 ≤ p) && decide (p < ((ts.getD i.toNat zT).1.length : Int)))))) := by show _ = _; unfold hasP; dsimp only; rw [hl]
  have V0 := Vals.new w 25 (cfgV (.slice o1 n1 c1) (.slice o2 n2 c2) q t)
  have B0 := below_alloc w (.cells (cfgV (.slice o1 n1 c1) (.slice o2 n2 c2) q t) 25)
  have HQ := (h.below B0 (Nat.le_refl _)).qs
  dsimp only at HQ
  clear h
  go_enter Try.func15, Try.ntmps15
  go_upto_region 1 with fail
  generalize w.alloc (.cells (cfgV (.slice o1 n1 c1) (.slice o2 n2 c2) q t) 25) = w1 at *
  have d1 : w1.cell? ⟨w.heap.size, 1, none⟩ = some (.slice o2 n2 c2) := V0.cell 1
  by_cases h0 : 0 ≤ i
  · by_cases h1 : i < (n2 : Int)
    · obtain ⟨k, rfl⟩ : ∃ k : Nat, i = (k : Int) := ⟨i.toNat, by omega⟩
      have hk : k < n2 := by omega
      obtain ⟨g, o, pa, m1, k1, pb, m2, k2, rfl, e0, e1, hC, hM⟩ := HQ.cell k hk
      have hlc := hC.len
      rw [show ((k : Int).toNat) = k by omega, hlc] at HP
      clear HQ hC hM e1 hlc
      by_cases h2 : 0 ≤ p
      · by_cases h3 : p < (m1 : Int)
        · have HX : Hid (hasP (rs, ts, q, t) (k : Int) p = true) := by show _ = _; rw [HP.out]; simp [h0, h1, h2, h3]
          clear HP
          go_wp2_with fail
          go_ret
          exact ⟨retB HX.out.symm, B0⟩
        · have HX : Hid (hasP (rs, ts, q, t) (k : Int) p = false) := by show _ = _; rw [HP.out]; simp [h3]
          clear HP
          go_wp2_with fail
          go_ret
          exact ⟨retB HX.out.symm, B0⟩
      · have HX : Hid (hasP (rs, ts, q, t) (k : Int) p = false) := by show _ = _; rw [HP.out]; simp [h2]
        clear HP
        go_wp2_with fail
        go_ret
        exact ⟨retB HX.out.symm, B0⟩
    · have HX : Hid (hasP (rs, ts, q, t) i p = false) := by show _ = _; rw [HP.out]; simp [h1]
      clear HP HQ
      go_wp2_with fail
      go_ret
      exact ⟨retB HX.out.symm, B0⟩
  · have HX : Hid (hasP (rs, ts, q, t) i p = false) := by show _ = _; rw [HP.out]; simp [h0]
    clear HP HQ
    go_wp2_with fail
    go_ret
    exact ⟨retB HX.out.symm, B0⟩
theorem hasP_parts {c : CfgL} {i p : Int} (h : hasP c i p = true) : ∃ k j : Nat, i = (k : Int) ∧ p = (j : Int) ∧ k < c.2.1.length ∧ j < (c.2.1.getD k zT).1.length := by
  unfold hasP at h
  simp only [Bool.and_eq_true, decide_eq_true_eq] at h
  obtain ⟨h1, h2, h3, h4⟩ := h
  exact ⟨i.toNat, p.toNat, by omega, by omega, by omega, by omega⟩
set_option maxRecDepth 100000 in
set_option maxHeartbeats 1600000 in
theorem refAfter_any (o1 : Option Addr) (n1 c1 : Nat) (o2 : Option Addr) (n2 c2 : Nat) (c : CfgL) (w : World) (i p : Int) (h : CfgAt w o1 n1 c1 o2 n2 c2 c) (hi : hasP c i p = true) :
    Calls Try.prog 16 #[aggC o1 n1 c1 o2 n2 c2 c, .int .i64 i, .int .i64 p] w fun e w' => e = .returned (.int .i64 (nextP c i p)) ∧ Below w.heap.size w w' := by
  obtain ⟨k, j, rfl, rfl, hk, hj⟩ := hasP_parts hi
  clear hi
  obtain ⟨rs, ts, q, t⟩ := c
  dsimp only [aggC]
  dsimp only at hk hj
  have hl := h.qs.len
  have hr := h.qs.room
  have hb := h.b2
  have hp := (h.parts k hk).1
  unfold maxLen at hp hb
  dsimp only at hl hp
  have V0 := Vals.new w 25 (cfgV (.slice o1 n1 c1) (.slice o2 n2 c2) q t)
  have B0 := below_alloc w (.cells (cfgV (.slice o1 n1 c1) (.slice o2 n2 c2) q t) 25)
  have HQ := (h.below B0 (Nat.le_refl _)).qs
  dsimp only at HQ
  clear h
  obtain ⟨g, o, pa, m1, k1, pb, m2, k2, rfl, e0, e1, hC, hM⟩ := HQ.cell k (by omega)
  have hlc := hC.len
  have HP : Hid (nextP (rs, ts, q, t) (k : Int) (j : Int) = if (j : Int) + 1 = (m1 : Int) then 0 else (j : Int) + 1) := by
    show _ = _
    unfold nextP
    dsimp only
    rw [show ((k : Int).toNat) = k by omega, hlc]
  rw [hlc] at hj hp
  clear HQ hC hM e1 hlc
  go_enter Try.func16, Try.ntmps16
  go_upto_region 1 with fail
  generalize w.alloc (.cells (cfgV (.slice o1 n1 c1) (.slice (some ⟨g, o, none⟩) n2 c2) q t) 25) = w1 at *
  have d1 : w1.cell? ⟨w.heap.size, 1, none⟩ = some (.slice (some ⟨g, o, none⟩) n2 c2) := V0.cell 1
  by_cases he : j + 1 = m1
  · have HX : Hid (nextP (rs, ts, q, t) (k : Int) (j : Int) = 0) := by show _ = _; rw [HP.out, if_pos (by omega)]
    clear HP
    have hq : (wrap64 ((j : Int) + 1) == (m1 : Int)) = true := by rw [beq_iff_eq]; unfold wrap64; omega
    go_wp2_with fail
    go_ret
    exact ⟨retI HX.out.symm, B0⟩
  · have HX : Hid (nextP (rs, ts, q, t) (k : Int) (j : Int) = (j : Int) + 1) := by show _ = _; rw [HP.out, if_neg (by omega)]
    clear HP
    have hq : (wrap64 ((j : Int) + 1) == (m1 : Int)) = false := by rw [beq_eq_false_iff_ne]; unfold wrap64; omega
    go_wp2_with fail
    go_ret
    exact ⟨retI (by rw [HX.out]), B0⟩
end Go.Proofs.Ytplfmphhmlkejaa
