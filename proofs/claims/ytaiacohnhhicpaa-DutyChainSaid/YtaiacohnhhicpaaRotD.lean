/-
  The program's own: which route takes labels (package route).
-/
import Derived.Test.YtaiacohnhhicpaaRotA
import Derived.Test.YtaiacohnhhicpaaLabA
import Derived.Test.YtaiacohnhhicpaaMApp
import Derived.Deep.LoopGhost
namespace Go.Proofs.Ytaiacohnhhicpaa
open Go.RowKit Go.Shelf
set_option linter.unusedVariables false

def ChooseOut (c : CfgL) (l : List L2) (e : Ending) : Prop := e = .returned (.tuple #[.int .i64 (chooseF c l).1, .int .i64 (chooseF c l).2])
theorem chooseF_no {c : CfgL} {l : List L2} (h : (cfgR c && rightB l) = false) : chooseF c l = (0, 1) := by unfold chooseF; rw [h]; rfl
theorem chooseF_is {c : CfgL} {l : List L2} (h1 : cfgR c = true) (h2 : rightB l = true) : chooseF c l = if rotF c l < 0 then (0, 4) else (rotF c l, 0) := by unfold chooseF; rw [h1, h2]; rfl
theorem all_is {c : CfgL} {l : List L2} {ms : List M3} (h1 : rightB l = true) (h2 : matsB ms = true) : allF ms l = (ms.all (mB l), 0) := by unfold allF; rw [h1, h2]; rfl
theorem all_one {l : List L2} {m : M3} (h1 : rightB l = true) (h2 : matB m = true) : allF [m] l = (mB l m, 0) := by
  have h3 : matsB [m] = true := by unfold matsB; simp [h2]
  unfold allF
  rw [h1, h3]
  simp
set_option maxRecDepth 100000 in
set_option maxHeartbeats 800000 in
/-- whether one matcher matches labels -/
theorem matches_any (m : M3) (oa : Option Addr) (n cap : Nat) (l : List L2) (r : Bool) (w : World) (hL : Ls w oa n cap l) (hn : n ≤ 4611686018427387904) (hl : rightB l = true) (hm : matB m = true) (hr : mB l m = r) :
    Calls Try.prog 40 #[aggM m, .slice oa n cap] w fun e w' => e = .returned (.bool r) ∧ Below w.heap.size w w' := by
  have B0 := below_alloc w (.cells #[.int .i64 m.1, .string m.2.1, .string m.2.2] 84)
  have V0 := Vals.new w 84 #[.int .i64 m.1, .string m.2.1, .string m.2.2]
  have HO := fun w1 : World => Ms.one w1 m
  have HAll := fun (w1 : World) (B1 : Below w.heap.size w w1) => labAll_any _ 1 1 [m] oa n cap l _ (HO w1) ((hL.below B1 (Nat.le_refl _)).below (below_alloc w1 (.cells #[.int .i64 m.1, .string m.2.1, .string m.2.2] 84)) (Nat.le_refl _)) hn (by decide)
  unfold AllOut at HAll
  rw [all_one hl hm, hr] at HAll
  have HA2 := HAll _ B0
  have B1 := B0.alloc B0.size (.cells #[.int .i64 m.1, .string m.2.1, .string m.2.2] 84)
  obtain ⟨k, s, t⟩ := m
  dsimp only [aggM] at *
  clear HAll HO hL hl hm hr B0
  go_enter Try.func40, Try.ntmps40
  go_upto_region 1 with fail
  generalize w.alloc (.cells #[.int .i64 k, .string s, .string t] 84) = w1 at *
  have d0 : w1.cell? ⟨w.heap.size, 0, none⟩ = some (.int .i64 k) := V0.cell 0
  have d1 : w1.cell? ⟨w.heap.size, 1, none⟩ = some (.string s) := V0.cell 1
  have d2 : w1.cell? ⟨w.heap.size, 2, none⟩ = some (.string t) := V0.cell 2
  go_wp2_with fail
  refine HA2.mono ?_
  rintro e w2 ⟨rfl, B2⟩
  go_wp2_with fail
  go_ret
  exact ⟨rfl, B1.trans (B2.mono B1.size)⟩
set_option maxRecDepth 100000 in
set_option maxHeartbeats 3200000 in
theorem choose_any (o1 : Option Addr) (n1 c1 : Nat) (o2 : Option Addr) (n2 c2 : Nat) (c : CfgL) (oa : Option Addr) (n cap : Nat) (l : List L2) (w : World) (h : CfgAt w o1 n1 c1 o2 n2 c2 c) (hL : Ls w oa n cap l) (hn : n ≤ 4611686018427387904) :
    Calls Try.prog 27 #[aggC o1 n1 c1 o2 n2 c2 c, .slice oa n cap] w fun e w' => ChooseOut c l e ∧ Below w.heap.size w w' := by
  unfold ChooseOut
  have HHit := fun k => rotF_hit (c := c) (l := l) k
  have HNone := rotF_none (c := c) (l := l)
  have HIs := chooseF_is (c := c) (l := l)
  have HRt0 := fun h => (cfgR_parts (c := c) h).1
  have hcz : cfgR c = false → chooseF c l = (0, 1) := fun h => chooseF_no (by rw [h]; rfl)
  have hlz : rightB l = false → chooseF c l = (0, 1) := fun h => chooseF_no (by rw [h]; simp)
  have B0 := below_alloc w (.cells (cfgV (.slice o1 n1 c1) (.slice o2 n2 c2) c.2.2.1 c.2.2.2) 33)
  have V0 := Vals.new w 33 (cfgV (.slice o1 n1 c1) (.slice o2 n2 c2) c.2.2.1 c.2.2.2)
  have hc0 := h.below B0 (Nat.le_refl _)
  have hl0 := hL.below B0 (Nat.le_refl _)
  have HR1 := hc0.right
  obtain ⟨rs, ts, q, t⟩ := c
  dsimp only [aggC] at *
  clear h hL
  go_enter Try.func27, Try.ntmps27
  go_upto_region 1 with fail
  generalize hw1 : w.alloc (.cells (cfgV (.slice o1 n1 c1) (.slice o2 n2 c2) q t) 33) = w1 at *
  have d0 : w1.cell? ⟨w.heap.size, 0, none⟩ = some (.slice o1 n1 c1) := V0.cell 0
  have d1 : w1.cell? ⟨w.heap.size, 1, none⟩ = some (.slice o2 n2 c2) := V0.cell 1
  have d2 : w1.cell? ⟨w.heap.size, 2, none⟩ = some (.int .i64 q) := V0.cell 2
  have d3 : w1.cell? ⟨w.heap.size, 3, none⟩ = some (.int .i64 t) := V0.cell 3
  clear hw1
  go_step3
  cases hr : cfgR (rs, ts, q, t) with
  | false =>
    have HX := Lib.hid (hcz hr)
    rw [hr] at HR1
    clear HHit HNone HIs HRt0 hcz hlz hc0 hl0 hr
    go_wp2_with fail
    refine HR1.mono ?_
    rintro e w2 ⟨rfl, B2⟩
    go_wp2_with fail
    try rw [Exit.noGoto_ret]
    go_ret2
    exact ⟨by rw [HX.out]; rfl, B0.trans (B2.mono B0.size)⟩
  | true =>
    rw [hr] at HR1
    have HRt := Lib.hid (HRt0 hr)
    clear HRt0 hcz
    go_wp2_with fail
    refine HR1.mono ?_
    rintro e w2 ⟨rfl, B2⟩
    have hc2 := hc0.below B2 (Nat.le_refl _)
    have hl2 := hl0.below B2 (Nat.le_refl _)
    have B3 := B0.trans (B2.mono B0.size)
    have V2 := V0.keep B2 (Nat.le_refl _)
    have HR2 := right_any oa n cap l w2 hl2 hn
    clear hc0 hl0 HR1 d0 d1 d2 d3 V0 B0
    cases hq : rightB l with
    | false =>
      have HX := Lib.hid (hlz hq)
      rw [hq] at HR2
      clear HHit HNone HIs HRt hlz hc2 hl2 hr hq
      go_wp2_with fail
      refine HR2.mono ?_
      rintro e w3 ⟨rfl, B4⟩
      go_wp2_with fail
      try rw [Exit.noGoto_ret]
      go_ret2
      exact ⟨by rw [HX.out]; rfl, B3.trans (B4.mono B3.size)⟩
    | true =>
      rw [hq] at HR2
      have HIs2 := HIs hr hq
      clear HIs hlz
      go_wp2_with fail
      refine HR2.mono ?_
      rintro e w3 ⟨rfl, B4⟩
      have hc3 := hc2.below B4 (Nat.le_refl _)
      have hl3 := hl2.below B4 (Nat.le_refl _)
      have B5 := B3.trans (B4.mono B3.size)
      have V3 := V2.keep B4 (by have := B2.size; have := V2.lt; omega)
      have d1 : w3.cell? ⟨w.heap.size, 1, none⟩ = some (.slice o2 n2 c2) := V3.cell 1
      clear hc2 hl2 V2 B3 B4 B2 HR2
      have HL := Lib.hid hc3.qs.len
      have hro := hc3.qs.room
      have hb := hc3.b2
      unfold maxLen at hb
      have HPs := Lib.hid hc3.parts
      have HQ := hc3.qs
      dsimp only at HL HPs HQ
      have HRl := Lib.hid hq
      obtain ⟨R, hRR⟩ : ∃ R, R = rotF (rs, ts, q, t) l := ⟨_, rfl⟩
      rw [← hRR] at HHit HNone HIs2
      have HH := Lib.hid HHit
      have HN := Lib.hid HNone
      have HI := Lib.hid HIs2
      clear hRR HHit HNone HIs2 hr hq hc3
      go_wp2_with fail
      go_step3
      go_wp2_with fail
      go_loopg [21] n2 (fun g s21 wr => ∃ k : Nat, k + g = n2 ∧ s21 = .int .i64 k ∧ Below w3.heap.size w3 wr ∧ Hid (∀ i, i < k → (ts.getD i zT).2.all (mB l) = false))
      case atStart => exact ⟨0, by omega, rfl, Below.refl _ _, fun i hi => absurd hi (by omega)⟩
      case round =>
        obtain ⟨k, hk, rfl, hB, HA⟩ := hrel
        cases gk with
        | zero =>
          obtain rfl : k = n2 := by omega
          have HX : Hid (chooseF (rs, ts, q, t) l = (0, 4)) := by
            show _ = _
            rw [HI.out, HN.out (fun i hi => HA.out i (by have := HL.out; omega))]
            rfl
          clear HQ HA HH HN HPs HI
          go_wp2_with fail
          try rw [Exit.noGoto_ret]
          go_ret2
          exact ⟨by rw [HX.out]; rfl, B5.trans (hB.mono B5.size)⟩
        | succ g0 =>
          have hlt : k < n2 := by omega
          obtain ⟨g, o, pa, m1, k1, pb, m2, k2, rfl, e0, e1, hC, hM⟩ := (HQ.below hB (Nat.le_refl _)).cell k hlt
          have hkl : k < ts.length := by have := HL.out; omega
          have HMb := (rteR_parts (HRt.out k hkl)).2.2.2
          have HMt := Lib.hid (fun j hj => matsB_at HMb j hj)
          have HNo : Hid (∀ j, j < (ts.getD k zT).2.length → mB l ((ts.getD k zT).2.getD j zM) = false → ∀ i, i < k + 1 → (ts.getD i zT).2.all (mB l) = false) := fun j hj h1 i hi => by
            by_cases e : i = k
            · subst e; exact all_hit _ _ j hj h1
            · exact HA.out i (by omega)
          have HYes : Hid ((ts.getD k zT).2.all (mB l) = true → chooseF (rs, ts, q, t) l = ((k : Int), 0)) := fun h1 => by
            have h2 := HH.out k hkl HA.out h1
            rw [HI.out, h2, if_neg (by omega)]
          have B13 := below_alloc wr (.cells #[.slice pa m1 k1, .slice pb m2 k2] 43)
          have VB := Vals.new wr 43 #[.slice pa m1 k1, .slice pb m2 k2]
          have B6 := hB.alloc hB.size (.cells #[.slice pa m1 k1, .slice pb m2 k2] 43)
          have h2 := hM.len
          have h2r := hM.room
          have h3 := (HPs.out k hkl).2.1
          unfold maxLen at h3
          have hM2 := hM.below B13 (Nat.le_refl _)
          have hl4 := (hl3.below hB (Nat.le_refl _)).below B13 (Nat.le_refl _)
          have h2H := Lib.hid h2
          have h4 : m2 ≤ 9223372036854775807 := by omega
          generalize (ts.getD k zT).2 = ms at *
          clear HA HH HN HPs hC hM HMb hkl h3 HI h2
          go_upto_region 6 with fail
          clear e0 e1
          generalize wr.alloc (.cells #[.slice pa m1 k1, .slice pb m2 k2] 43) = wo at *
          have f1 : wo.cell? ⟨wr.heap.size, 1, none⟩ = some (.slice pb m2 k2) := VB.cell 1
          clear B13
          obtain ⟨wq, rfl⟩ : ∃ wq : World, wq = wr := ⟨_, rfl⟩
          go_wp2_with fail
          go_loopg [29] m2 (fun g2 s29 wy => ∃ j : Nat, j + g2 = m2 ∧ s29 = .int .i64 j ∧ Below wo.heap.size wo wy ∧ Hid ((ms.take j).all (mB l) = true))
          case atStart => exact ⟨0, by omega, rfl, Below.refl _ _, by show _ = _; simp⟩
          case round =>
            obtain ⟨j, hj, rfl, hBy, HJ⟩ := hrel
            cases gk with
            | zero =>
              obtain rfl : j = m2 := by omega
              have HX := Lib.hid (HYes.out (by have := HJ.out; rwa [List.take_of_length_le (by rw [h2H.out]; omega)] at this))
              clear HJ HNo HYes hM2
              go_wp2_with fail
              try rw [Exit.noGoto_ret]
              go_ret2
              exact ⟨by rw [HX.out]; rfl, B5.trans ((B6.trans (hBy.mono B6.size)).mono B5.size)⟩
            | succ g2 =>
              have hjl : j < ms.length := by have := h2H.out; omega
              obtain ⟨g', o', rfl, a0, a1, a2⟩ := (hM2.below hBy (Nat.le_refl _)).cell j (by omega)
              have HM1 := Lib.hid (HMt.out j hjl)
              have HNx : Hid (mB l (ms.getD j zM) = true → (ms.take (j + 1)).all (mB l) = true) := fun e => all_next _ _ j hjl HJ.out e
              have HN2 := Lib.hid (HNo.out j hjl)
              generalize ms.getD j zM = m at *
              obtain ⟨kd, s, v⟩ := m
              dsimp only at a0 a1 a2
              have B21 := below_alloc wr (.cells #[.int .i64 kd, .string s, .string v] 84)
              have VM := Vals.new wr 84 #[.int .i64 kd, .string s, .string v]
              have B22 := hBy.alloc hBy.size (.cells #[.int .i64 kd, .string s, .string v] 84)
              have HC := fun r hr => matches_any (kd, s, v) oa n cap l r (wr.alloc (.cells #[.int .i64 kd, .string s, .string v] 84)) ((hl4.below hBy (Nat.le_refl _)).below B21 (Nat.le_refl _)) hn HRl.out HM1.out hr
              dsimp only [aggM] at HC
              clear HJ HNo HYes hM2 hl4 hl3 HM1 HMt
              go_upto_region 9 with fail
              generalize wr.alloc (.cells #[.int .i64 kd, .string s, .string v] 84) = wz at *
              have q0 : wz.cell? ⟨wr.heap.size, 0, none⟩ = some (.int .i64 kd) := VM.cell 0
              have q1 : wz.cell? ⟨wr.heap.size, 1, none⟩ = some (.string s) := VM.cell 1
              have q2 : wz.cell? ⟨wr.heap.size, 2, none⟩ = some (.string v) := VM.cell 2
              clear a0 a1 a2
              cases hb : mB l (kd, s, v) with
              | true =>
                have HX := Lib.hid (HNx.out hb)
                have HCt := HC true hb
                clear HNx HN2 HC hb
                go_wp2_with fail
                refine HCt.mono ?_
                rintro e w9 ⟨rfl, B9⟩
                have B23 := B22.trans (B9.mono B22.size)
                go_wp2_with fail
                go_roundg g2
                case measure => omega
                case rel => exact ⟨j + 1, by omega, by go_num, B23, HX⟩
              | false =>
                have HX := Lib.hid (HN2.out hb)
                have HCt := HC false hb
                clear HNx HN2 HC hb
                go_wp2_with fail
                refine HCt.mono ?_
                rintro e w9 ⟨rfl, B9⟩
                have B23 := B22.trans (B9.mono B22.size)
                have B24 := B6.trans (B23.mono B6.size)
                go_wp2_with fail
                go_roundg g0
                case measure => omega
                case rel => exact ⟨k + 1, by omega, by go_num, B24, HX⟩
end Go.Proofs.Ytaiacohnhhicpaa
