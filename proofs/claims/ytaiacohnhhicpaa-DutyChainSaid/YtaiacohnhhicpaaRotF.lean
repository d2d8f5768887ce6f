/-
  The program's own: the next place of a route's chain (package route).
-/
import Derived.Test.YtaiacohnhhicpaaRotE
namespace Go.Proofs.Ytaiacohnhhicpaa
open Go.RowKit Go.Shelf
set_option linter.unusedVariables false

set_option maxRecDepth 100000 in
set_option maxHeartbeats 3200000 in
theorem after_any (o1 : Option Addr) (n1 c1 : Nat) (o2 : Option Addr) (n2 c2 : Nat) (c : CfgL) (i p : Int) (w : World) (h : CfgAt w o1 n1 c1 o2 n2 c2 c) :
    Calls Try.prog 49 #[aggC o1 n1 c1 o2 n2 c2 c, .int .i64 i, .int .i64 p] w fun e w' => PlaceOut (nextF c i p) e ∧ Below w.heap.size w w' := by
  unfold PlaceOut
  have HF : Hid (nextF c i p = if whyP c i p = 0 then (nextP c i p, 0) else (0, whyP c i p)) := rfl
  have HT : Hid (nextP c i p = if p + 1 = ((c.2.1.getD i.toNat zT).1.length : Int) then 0 else p + 1) := rfl
  have B0 := below_alloc w (.cells (cfgV (.slice o1 n1 c1) (.slice o2 n2 c2) c.2.2.1 c.2.2.2) 33)
  have V0 := Vals.new w 33 (cfgV (.slice o1 n1 c1) (.slice o2 n2 c2) c.2.2.1 c.2.2.2)
  have hc0 := h.below B0 (Nat.le_refl _)
  have HR1 := chain_any o1 n1 c1 o2 n2 c2 c i p _ hc0
  have hPs := h.parts
  unfold ChainOut at HR1
  obtain ⟨rs, ts, q, t⟩ := c
  dsimp only [aggC] at *
  generalize whyP (rs, ts, q, t) i p = Z at *
  clear h hc0
  go_enter Try.func49, Try.ntmps49
  go_upto_region 1 with fail
  generalize hw1 : w.alloc (.cells (cfgV (.slice o1 n1 c1) (.slice o2 n2 c2) q t) 33) = w1 at *
  have d0 : w1.cell? ⟨w.heap.size, 0, none⟩ = some (.slice o1 n1 c1) := V0.cell 0
  have d1 : w1.cell? ⟨w.heap.size, 1, none⟩ = some (.slice o2 n2 c2) := V0.cell 1
  have d2 : w1.cell? ⟨w.heap.size, 2, none⟩ = some (.int .i64 q) := V0.cell 2
  have d3 : w1.cell? ⟨w.heap.size, 3, none⟩ = some (.int .i64 t) := V0.cell 3
  clear hw1
  go_upto_region 1 with fail
  go_wp2_with fail
  refine HR1.mono ?_
  rintro e w2 ⟨⟨oa, n, cap, rfl, HZ⟩, B2⟩
  have B3 := B0.trans (B2.mono B0.size)
  clear d0 d1 d2 d3 V0 B0 HR1
  by_cases hz : Z = 0
  · obtain ⟨k, j, rfl, rfl, hk, hj, hC1⟩ := HZ hz
    have hlc := hC1.len
    have hbr := (hPs k hk).1
    try dsimp only at hlc hbr
    unfold maxLen at hbr
    have HX : Hid (nextF (rs, ts, q, t) (k : Int) (j : Int) = (if (j : Int) + 1 = (n : Int) then 0 else (j : Int) + 1, 0)) := by
      show _ = _
      rw [HF.out, if_pos hz, HT.out]
      rw [show ((k : Int).toNat) = k by omega, hlc]
    have hbr2 : n ≤ 9223372036854775807 := by omega
    have hst : Hid (((j : Int) + 1) % (n : Int) = if (j : Int) + 1 = (n : Int) then 0 else (j : Int) + 1) := by
      show _ = _
      split
      · rename_i e
        rw [e, Int.emod_self]
      · rw [Int.emod_eq_of_lt (by omega) (by omega)]
    have hzb : (Z != 0) = false := by simp [hz]
    clear HF HT HZ hC1 hk hlc hbr hPs B2
    subst hz
    go_wp2_with fail
    go_ret2
    exact ⟨by rw [HX.out, ← hst.out]; rfl, B3⟩
  · have HX : Hid (nextF (rs, ts, q, t) i p = (0, Z)) := by show _ = _; rw [HF.out, if_neg hz]
    have hzb : (Z != 0) = true := by simp [hz]
    clear HF HT HZ hPs B2
    go_wp2_with fail
    go_ret2
    exact ⟨by rw [HX.out]; rfl, B3⟩
end Go.Proofs.Ytaiacohnhhicpaa
