/-
  The program's own: whose turn it is at a place of a route's chain, and what is next (package route).
-/
import Derived.Test.YtaiacohnhhicpaaRotA
namespace Go.Proofs.Ytaiacohnhhicpaa
open Go.RowKit Go.Shelf
set_option linter.unusedVariables false

def PlaceOut (p : Int × Int) (e : Ending) : Prop := e = .returned (.tuple #[.int .i64 p.1, .int .i64 p.2])
theorem whyP_arg {c : CfgL} {i p : Int} (h : cfgR c = false) : whyP c i p = 1 := by unfold whyP; rw [h]; rfl
theorem whyP_range {c : CfgL} {i p : Int} (h : cfgR c = true) (h2 : hasP c i p = false) : whyP c i p = 3 := by unfold whyP; rw [h, h2]; rfl
theorem whyP_ok {c : CfgL} {i p : Int} (h : cfgR c = true) (h2 : hasP c i p = true) : whyP c i p = 0 := by unfold whyP; rw [h, h2]; rfl
theorem why_has {c : CfgL} {i p : Int} (h : whyP c i p = 0) : cfgR c = true ∧ hasP c i p = true := by
  unfold whyP at h
  split at h
  · split at h
    · exact ⟨by assumption, by assumption⟩
    · simp at h
  · simp at h
set_option maxRecDepth 100000 in
set_option maxHeartbeats 400000 in
theorem among_any (x n : Int) (r : Bool) (h : (decide (0 ≤ x) && decide (x < n)) = r) (w : World) :
    Calls Try.prog 73 #[.int .i64 x, .int .i64 n] w fun e w' => e = .returned (.bool r) ∧ w' = w := by
  have HT := Lib.hid h
  clear h
  go_enter Try.func73, Try.ntmps73
  by_cases h0 : 0 ≤ x
  · go_wp2_with fail
    go_ret
    exact ⟨retB (by rw [← HT.out]; simp [h0]), rfl⟩
  · go_wp2_with fail
    go_ret
    exact ⟨retB (by rw [← HT.out, show decide (0 ≤ x) = false by simp; omega]; simp), rfl⟩
/-- what the look-up of a chain tells -/
def ChainOut (w : World) (c : CfgL) (i p : Int) (e : Ending) : Prop :=
  ∃ (oa : Option Addr) (n cap : Nat), e = .returned (.tuple #[.slice oa n cap, .int .i64 (whyP c i p)]) ∧ (whyP c i p = 0 → ∃ k j : Nat, i = (k : Int) ∧ p = (j : Int) ∧ k < c.2.1.length ∧ j < n ∧ Ns w oa n cap (c.2.1.getD k zT).1)
set_option maxRecDepth 100000 in
set_option maxHeartbeats 3200000 in
theorem chain_any (o1 : Option Addr) (n1 c1 : Nat) (o2 : Option Addr) (n2 c2 : Nat) (c : CfgL) (i p : Int) (w : World) (h : CfgAt w o1 n1 c1 o2 n2 c2 c) :
    Calls Try.prog 59 #[aggC o1 n1 c1 o2 n2 c2 c, .int .i64 i, .int .i64 p] w fun e w' => ChainOut w c i p e ∧ Below w.heap.size w w' := by
  unfold ChainOut
  have HA := Lib.hid (whyP_arg (c := c) (i := i) (p := p))
  have HN := Lib.hid (whyP_range (c := c) (i := i) (p := p))
  have HO := Lib.hid (whyP_ok (c := c) (i := i) (p := p))
  have HQ0 := h.qs
  have B0 := below_alloc w (.cells (cfgV (.slice o1 n1 c1) (.slice o2 n2 c2) c.2.2.1 c.2.2.2) 33)
  have V0 := Vals.new w 33 (cfgV (.slice o1 n1 c1) (.slice o2 n2 c2) c.2.2.1 c.2.2.2)
  have hc0 := h.below B0 (Nat.le_refl _)
  have HR1 := hc0.right
  obtain ⟨rs, ts, q, t⟩ := c
  dsimp only [aggC] at *
  have hl := h.qs.len
  have hr := h.qs.room
  dsimp only at hl
  have HP : Hid (hasP (rs, ts, q, t) i p = (decide (0 ≤ i) && (decide (i < (n2 : Int)) && (decide (0 ≤ p) && decide (p < ((ts.getD i.toNat zT).1.length : Int)))))) := by show _ = _; unfold hasP; dsimp only; rw [hl]
  generalize whyP (rs, ts, q, t) i p = Z at *
  clear h
  go_enter Try.func59, Try.ntmps59
  go_upto_region 1 with fail
  generalize hw1 : w.alloc (.cells (cfgV (.slice o1 n1 c1) (.slice o2 n2 c2) q t) 33) = w1 at *
  have d0 : w1.cell? ⟨w.heap.size, 0, none⟩ = some (.slice o1 n1 c1) := V0.cell 0
  have d1 : w1.cell? ⟨w.heap.size, 1, none⟩ = some (.slice o2 n2 c2) := V0.cell 1
  have d2 : w1.cell? ⟨w.heap.size, 2, none⟩ = some (.int .i64 q) := V0.cell 2
  have d3 : w1.cell? ⟨w.heap.size, 3, none⟩ = some (.int .i64 t) := V0.cell 3
  clear hw1
  cases hb : cfgR (rs, ts, q, t) with
  | false =>
    have HX := Lib.hid (HA.out hb)
    rw [hb] at HR1
    clear HA HN HO hc0 HP hb HQ0
    go_wp2_with fail
    refine HR1.mono ?_
    rintro e w2 ⟨rfl, B2⟩
    go_wp2_with fail
    go_ret2
    exact ⟨⟨none, 0, 0, by rw [HX.out]; rfl, fun hz => absurd hz (by rw [HX.out]; decide)⟩, B0.trans (B2.mono B0.size)⟩
  | true =>
    rw [hb] at HR1
    have HN2 := Lib.hid (HN.out hb)
    have HO2 := Lib.hid (HO.out hb)
    clear HA HN HO hb
    go_wp2_with fail
    refine HR1.mono ?_
    rintro e w2 ⟨rfl, B2⟩
    have B3 := B0.trans (B2.mono B0.size)
    have V2 := V0.keep B2 (Nat.le_refl _)
    have HQ := (hc0.below B2 (Nat.le_refl _)).qs
    dsimp only at HQ HQ0
    clear d0 d1 d2 d3 V0 B0 HR1 hc0 B2
    have d1 : w2.cell? ⟨w.heap.size, 1, none⟩ = some (.slice o2 n2 c2) := V2.cell 1
    cases hi : (decide (0 ≤ i) && decide (i < (n2 : Int))) with
    | false =>
      have HX := Lib.hid (HN2.out (by rw [HP.out, ← Bool.and_assoc, hi]; rfl))
      have HI := fun w => among_any i (n2 : Int) false hi w
      clear HP HN2 HO2 HQ HQ0 hi
      go_wp2_with fail
      refine (HI _).mono ?_
      rintro e w3 ⟨rfl, rfl⟩
      go_wp2_with fail
      go_ret2
      exact ⟨⟨none, 0, 0, by rw [HX.out]; rfl, fun hz => absurd hz (by rw [HX.out]; decide)⟩, B3⟩
    | true =>
      have HI := fun w => among_any i (n2 : Int) true hi w
      have HH : Hid ((decide (0 ≤ i) && decide (i < (n2 : Int))) = true) := hi
      simp only [Bool.and_eq_true, decide_eq_true_eq] at hi
      obtain ⟨k, rfl⟩ : ∃ k : Nat, i = (k : Int) := ⟨i.toNat, by omega⟩
      have hk : k < n2 := by omega
      obtain ⟨g, o, pa, m1, k1, pb, m2, k2, rfl, e0, e1, hC, hM⟩ := HQ.cell k hk
      obtain ⟨g', o', pa', m1', k1', pb', m2', k2', e9, e0', e1', hC', hM'⟩ := HQ0.cell k hk
      have hlc := hC.len
      have hcm := hC.room
      have HC0 : Hid (Ns w pa m1 k1 (ts.getD k zT).1) := by
        show Ns _ _ _ _ _
        obtain ⟨e7, e8⟩ : g = g' ∧ o = o' := by simpa using e9
        subst e7
        subst e8
        have q := World.block_lt_of_cell? w _ e0'
        have := (B3.cell q).trans e0'
        rw [e0] at this
        simp only [Option.some.injEq, Value.slice.injEq] at this
        obtain ⟨rfl, rfl, rfl⟩ := this
        exact hC'
      have h0 : (0 : Int) ≤ (k : Int) := by omega
      have h1 : (k : Int) < (n2 : Int) := by omega
      rw [show ((k : Int).toNat) = k by omega, hlc] at HP
      cases hj : (decide (0 ≤ p) && decide (p < (m1 : Int))) with
      | false =>
        have HX := Lib.hid (HN2.out (by rw [HP.out, hj]; simp))
        have HJ := fun w => among_any p (m1 : Int) false hj w
        clear HP HN2 HO2 HQ HQ0 hC hM e1 hC' hM' e0' e1' e9 hlc HH hj HC0
        go_wp2_with fail
        refine (HI _).mono ?_
        rintro e w3 ⟨rfl, rfl⟩
        go_wp2_with fail
        refine (HJ _).mono ?_
        rintro e w4 ⟨rfl, rfl⟩
        go_wp2_with fail
        go_ret2
        exact ⟨⟨none, 0, 0, by rw [HX.out]; rfl, fun hz => absurd hz (by rw [HX.out]; decide)⟩, B3⟩
      | true =>
        have HX := Lib.hid (HO2.out (by rw [HP.out, hj]; simp [h0, h1]))
        have HJ := fun w => among_any p (m1 : Int) true hj w
        simp only [Bool.and_eq_true, decide_eq_true_eq] at hj
        obtain ⟨j, rfl⟩ : ∃ j : Nat, p = (j : Int) := ⟨p.toNat, by omega⟩
        have HJ2 : Hid (j < m1) := by show _ < _; omega
        have HL := Lib.hid hl
        clear HP HN2 HO2 HQ HQ0 hC hM e1 hC' hM' e0' e1' e9 hlc HH hj
        go_wp2_with fail
        refine (HI _).mono ?_
        rintro e w3 ⟨rfl, rfl⟩
        go_wp2_with fail
        refine (HJ _).mono ?_
        rintro e w4 ⟨rfl, rfl⟩
        go_wp2_with fail
        go_ret2
        exact ⟨⟨pa, m1, k1, by rw [HX.out]; rfl, fun _ => ⟨k, j, rfl, rfl, by rw [HL.out]; exact hk, HJ2.out, HC0.out⟩⟩, B3⟩
set_option maxRecDepth 100000 in
set_option maxHeartbeats 3200000 in
theorem receiver_any (o1 : Option Addr) (n1 c1 : Nat) (o2 : Option Addr) (n2 c2 : Nat) (c : CfgL) (i p : Int) (w : World) (h : CfgAt w o1 n1 c1 o2 n2 c2 c) :
    Calls Try.prog 42 #[aggC o1 n1 c1 o2 n2 c2 c, .int .i64 i, .int .i64 p] w fun e w' => PlaceOut (rcvF c i p) e ∧ Below w.heap.size w w' := by
  unfold PlaceOut
  have HF : Hid (rcvF c i p = if whyP c i p = 0 then (atP c i p, 0) else (0, whyP c i p)) := rfl
  have HT : Hid (atP c i p = (c.2.1.getD i.toNat zT).1.getD p.toNat 0) := rfl
  have B0 := below_alloc w (.cells (cfgV (.slice o1 n1 c1) (.slice o2 n2 c2) c.2.2.1 c.2.2.2) 33)
  have V0 := Vals.new w 33 (cfgV (.slice o1 n1 c1) (.slice o2 n2 c2) c.2.2.1 c.2.2.2)
  have hc0 := h.below B0 (Nat.le_refl _)
  have HR1 := chain_any o1 n1 c1 o2 n2 c2 c i p _ hc0
  unfold ChainOut at HR1
  obtain ⟨rs, ts, q, t⟩ := c
  dsimp only [aggC] at *
  generalize whyP (rs, ts, q, t) i p = Z at *
  clear h hc0
  go_enter Try.func42, Try.ntmps42
  go_upto_region 1 with fail
  generalize hw1 : w.alloc (.cells (cfgV (.slice o1 n1 c1) (.slice o2 n2 c2) q t) 33) = w1 at *
  have d0 : w1.cell? ⟨w.heap.size, 0, none⟩ = some (.slice o1 n1 c1) := V0.cell 0
  have d1 : w1.cell? ⟨w.heap.size, 1, none⟩ = some (.slice o2 n2 c2) := V0.cell 1
  have d2 : w1.cell? ⟨w.heap.size, 2, none⟩ = some (.int .i64 q) := V0.cell 2
  have d3 : w1.cell? ⟨w.heap.size, 3, none⟩ = some (.int .i64 t) := V0.cell 3
  clear hw1
  go_upto_region 1 with fail
  go_wp2_with fail
  refine HR1.mono ?_
  rintro e w2 ⟨⟨oa, n, cap, rfl, HZ⟩, B2⟩
  have B3 := B0.trans (B2.mono B0.size)
  clear d0 d1 d2 d3 V0 B0 HR1
  by_cases hz : Z = 0
  · obtain ⟨k, j, rfl, rfl, hk, hj, hC1⟩ := HZ hz
    have hC := hC1.below B2 (Nat.le_refl _)
    have hcm := hC.room
    obtain ⟨g', o', rfl, f0⟩ := hC.cell j hj
    have HX : Hid (rcvF (rs, ts, q, t) (k : Int) (j : Int) = ((ts.getD k zT).1.getD j 0, 0)) := by
      show _ = _
      rw [HF.out, if_pos hz, HT.out]
      rfl
    try dsimp only at f0
    generalize (ts.getD k zT).1.getD j 0 = r at *
    have hzb : (Z != 0) = false := by simp [hz]
    clear HF HT HZ hC hC1 hk B2
    subst hz
    go_wp2_with fail
    go_ret2
    exact ⟨by rw [HX.out]; rfl, B3⟩
  · have HX : Hid (rcvF (rs, ts, q, t) i p = (0, Z)) := by show _ = _; rw [HF.out, if_neg hz]
    have hzb : (Z != 0) = true := by simp [hz]
    clear HF HT HZ B2
    go_wp2_with fail
    go_ret2
    exact ⟨by rw [HX.out]; rfl, B3⟩
end Go.Proofs.Ytaiacohnhhicpaa
