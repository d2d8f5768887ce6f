/-
  The document's own: configs that are the same.
-/
import Derived.Test.YtbihaoibmkdfjaaGreatDoorRfcK
import Derived.Test.YtbihaoibmkdfjaaGreatDoorMtX
namespace Go.Proofs.YtbihaoibmkdfjaaGreatDoor
open Go.RowKit Go.Shelf
set_option linter.unusedVariables false

set_option maxRecDepth 100000 in
set_option maxHeartbeats 6400000 in
theorem refSameC_any (c : CfgL) (rep beat : Int) (oa : Option Addr) (na ca : Nat) (ob : Option Addr) (nb cb : Nat) (oc : Option Addr) (nc cc : Nat) (od : Option Addr) (nd cd : Nat) (w : World)
    (h1 : Rs w oa na ca c.1) (h2 : Qs w ob nb cb c.2.1) (h3 : Rs w oc nc cc c.1) (h4 : Qs w od nd cd c.2.1) (hn : na ≤ 100000) (hm : nb ≤ 100000) (hb : ∀ i, i < c.2.1.length → (c.2.1.getD i zT).1.length ≤ 100000 ∧ (c.2.1.getD i zT).2.length ≤ 100000) :
    Calls Tryz.prog 9 #[.agg (cfgV (.slice oa na ca) (.slice ob nb cb) rep beat), .agg (cfgV (.slice oc nc cc) (.slice od nd cd) rep beat)] w fun e w' => e = .returned (.bool true) ∧ Below w.heap.size w w' := by
  obtain rfl : na = nc := by rw [← h1.len, h3.len]
  obtain rfl : nb = nd := by rw [← h2.len, h4.len]
  have hr1 := h1.room
  have hr2 := h2.room
  have hr3 := h3.room
  have hr4 := h4.room
  have HBo := Lib.hid hb
  have HLn := Lib.hid h2.len
  clear hb
  have V0 := (Vals.new w 25 (cfgV (.slice oa na ca) (.slice ob nb cb) rep beat)).alloc (.cells (cfgV (.slice oc na cc) (.slice od nb cd) rep beat) 25)
  have V1 := Vals.new (w.alloc (.cells (cfgV (.slice oa na ca) (.slice ob nb cb) rep beat) 25)) 25 (cfgV (.slice oc na cc) (.slice od nb cd) rep beat)
  have B1 := Below.of_alloc2 (w := w) (.cells (cfgV (.slice oa na ca) (.slice ob nb cb) rep beat) 25) (.cells (cfgV (.slice oc na cc) (.slice od nb cd) rep beat) 25)
  have hzz : (w.alloc (.cells (cfgV (.slice oa na ca) (.slice ob nb cb) rep beat) 25)).heap.size = w.heap.size + 1 := by simp
  rw [hzz] at V1
  obtain ⟨A, hA⟩ : ∃ A, A = w.heap.size := ⟨_, rfl⟩
  obtain ⟨A1, hA1⟩ : ∃ A1, A1 = w.heap.size + 1 := ⟨_, rfl⟩
  go_enter Tryz.func9, Tryz.ntmps9
  go_upto_region 1 with fail
  rw [← hA1]
  rw [← hA1] at V1
  rw [← hA] at V0 ⊢
  clear hA hA1 hzz
  generalize (w.alloc (.cells (cfgV (.slice oa na ca) (.slice ob nb cb) rep beat) 25)).alloc (.cells (cfgV (.slice oc na cc) (.slice od nb cd) rep beat) 25) = w1 at *
  have g1 := h1.below B1 (Nat.le_refl _)
  have g2 := h2.below B1 (Nat.le_refl _)
  have g3 := h3.below B1 (Nat.le_refl _)
  have g4 := h4.below B1 (Nat.le_refl _)
  clear h1 h2 h3 h4
  have p0 : w1.cell? ⟨A, 0, none⟩ = some (.slice oa na ca) := V0.cell 0
  have p1 : w1.cell? ⟨A, 1, none⟩ = some (.slice ob nb cb) := V0.cell 1
  have p2 : w1.cell? ⟨A, 2, none⟩ = some (.int .i64 rep) := V0.cell 2
  have p3 : w1.cell? ⟨A, 3, none⟩ = some (.int .i64 beat) := V0.cell 3
  have q0 : w1.cell? ⟨A1, 0, none⟩ = some (.slice oc na cc) := V1.cell 0
  have q1 : w1.cell? ⟨A1, 1, none⟩ = some (.slice od nb cd) := V1.cell 1
  have q2 : w1.cell? ⟨A1, 2, none⟩ = some (.int .i64 rep) := V1.cell 2
  have q3 : w1.cell? ⟨A1, 3, none⟩ = some (.int .i64 beat) := V1.cell 3
  go_wp2_with fail
  go_loopw [43] (fun s43 wr => ∃ k : Nat, k ≤ na ∧ s43 = .int .i64 k ∧ Below w1.heap.size w1 wr) (fun s43 _ => na - (intOf s43).toNat)
  case atStart => exact ⟨0, Nat.zero_le _, rfl, Below.refl _ _⟩
  case round =>
    obtain ⟨k, hk, rfl, hB⟩ := hrel
    clear p0 p1 p2 p3 q0 q1 q2 q3
    have V0r := V0.keep hB (Nat.le_refl _)
    have V1r := V1.keep hB (Nat.le_refl _)
    have p0 : wr.cell? ⟨A, 0, none⟩ = some (.slice oa na ca) := V0r.cell 0
    have p1 : wr.cell? ⟨A, 1, none⟩ = some (.slice ob nb cb) := V0r.cell 1
    have p2 : wr.cell? ⟨A, 2, none⟩ = some (.int .i64 rep) := V0r.cell 2
    have p3 : wr.cell? ⟨A, 3, none⟩ = some (.int .i64 beat) := V0r.cell 3
    have q0 : wr.cell? ⟨A1, 0, none⟩ = some (.slice oc na cc) := V1r.cell 0
    have q1 : wr.cell? ⟨A1, 1, none⟩ = some (.slice od nb cd) := V1r.cell 1
    have q2 : wr.cell? ⟨A1, 2, none⟩ = some (.int .i64 rep) := V1r.cell 2
    have q3 : wr.cell? ⟨A1, 3, none⟩ = some (.int .i64 beat) := V1r.cell 3
    by_cases hlt : k < na
    · obtain ⟨g, o, rfl, c0, c1, c2, c3, c4, c5, c6, c7, c8⟩ := (g1.below hB (Nat.le_refl _)).nine k hlt
      obtain ⟨g', o', rfl, d0, d1, d2, d3, d4, d5, d6, d7, d8⟩ := (g3.below hB (Nat.le_refl _)).nine k hlt
      generalize c.1.getD k zR = r at *
      obtain ⟨x, ba, tp, ji, tr, fa, op, bu, ev⟩ := r
      dsimp only at c0 c1 c2 c3 c4 c5 c6 c7 c8 d0 d1 d2 d3 d4 d5 d6 d7 d8
      have hq := fun w => neqR_same ⟨x, ba, tp, ji, tr, fa, op, bu, ev⟩ w
      dsimp only [aggR] at hq
      clear g1 g2 g3 g4
      go_wp2_with fail
      go_quiet (fail)
      go_wp2_with fail
      go_roundw
      case rel => exact ⟨k + 1, by omega, by go_num, belowN hB _⟩
      case measure => simp [intOf]; omega
    · obtain rfl : na = k := by omega
      clear g1 g3
      go_wp2_with fail
      go_loopw [61] (fun s61 wx => ∃ i : Nat, i ≤ nb ∧ s61 = .int .i64 i ∧ Below w1.heap.size w1 wx) (fun s61 _ => nb - (intOf s61).toNat)
      case atStart => exact ⟨0, Nat.zero_le _, rfl, hB⟩
      case round =>
        obtain ⟨i, hi, rfl, hB2⟩ := hrel
        clear p0 p1 p2 p3 q0 q1 q2 q3 hB V0r V1r
        have V0r := V0.keep hB2 (Nat.le_refl _)
        have V1r := V1.keep hB2 (Nat.le_refl _)
        have p0 : wr.cell? ⟨A, 0, none⟩ = some (.slice oa na ca) := V0r.cell 0
        have p1 : wr.cell? ⟨A, 1, none⟩ = some (.slice ob nb cb) := V0r.cell 1
        have p2 : wr.cell? ⟨A, 2, none⟩ = some (.int .i64 rep) := V0r.cell 2
        have p3 : wr.cell? ⟨A, 3, none⟩ = some (.int .i64 beat) := V0r.cell 3
        have q0 : wr.cell? ⟨A1, 0, none⟩ = some (.slice oc na cc) := V1r.cell 0
        have q1 : wr.cell? ⟨A1, 1, none⟩ = some (.slice od nb cd) := V1r.cell 1
        have q2 : wr.cell? ⟨A1, 2, none⟩ = some (.int .i64 rep) := V1r.cell 2
        have q3 : wr.cell? ⟨A1, 3, none⟩ = some (.int .i64 beat) := V1r.cell 3
        by_cases hlt2 : i < nb
        · obtain ⟨g, o, pa, n1, c1, pb, n2, c2, rfl, e0, e1, hC, hM⟩ := (g2.below hB2 (Nat.le_refl _)).cell i hlt2
          obtain ⟨g', o', pc, n3, c3, pd, n4, c4, rfl, f0, f1, hC', hM'⟩ := (g4.below hB2 (Nat.le_refl _)).cell i hlt2
          have hb := HBo.out i (by have := HLn.out; omega)
          generalize c.2.1.getD i zT = t at *
          obtain ⟨l, ms⟩ := t
          dsimp only at hC hM hC' hM' hb
          obtain rfl : n1 = n3 := by rw [← hC.len, hC'.len]
          obtain rfl : n2 = n4 := by rw [← hM.len, hM'.len]
          have hn1 : n1 ≤ 100000 := hC.len ▸ hb.1
          have hn2 : n2 ≤ 100000 := hM.len ▸ hb.2
          have hrc := hC.room
          have hrc' := hC'.room
          have VX := (Vals.new wr 56 #[.slice pa n1 c1, .slice pb n2 c2]).alloc (.cells #[.slice pc n1 c3, .slice pd n2 c4] 56)
          have VY := Vals.new (wr.alloc (.cells #[.slice pa n1 c1, .slice pb n2 c2] 56)) 56 #[.slice pc n1 c3, .slice pd n2 c4]
          have hzy : (wr.alloc (.cells #[.slice pa n1 c1, .slice pb n2 c2] 56)).heap.size = wr.heap.size + 1 := by simp
          have Bxy := Below.of_alloc2 (w := wr) (.cells #[.slice pa n1 c1, .slice pb n2 c2] 56) (.cells #[.slice pc n1 c3, .slice pd n2 c4] 56)
          have B3 := hB2.trans (Bxy.mono hB2.size)
          rw [hzy] at VY
          have hC3 := hC.below Bxy (Nat.le_refl _)
          have hC3' := hC'.below Bxy (Nat.le_refl _)
          have HA := asked_any pb n2 c2 pd n2 c4 ms _ (hM.below Bxy (Nat.le_refl _)) (hM'.below Bxy (Nat.le_refl _)) (by omega)
          clear hC hC' hM hM' hb g2 g4 V0r V1r hB2
          have q1a := keepR (below_alloc wr (.cells #[.slice pa n1 c1, .slice pb n2 c2] 56)) q1
          have f0a := keepR (below_alloc wr (.cells #[.slice pa n1 c1, .slice pb n2 c2] 56)) f0
          have f1a := keepR (below_alloc wr (.cells #[.slice pa n1 c1, .slice pb n2 c2] 56)) f1
          go_upto_region 13 with fail
          clear q1a f0a f1a p0 p1 p2 p3 q0 q1 q2 q3 e0 e1 f0 f1 Bxy hzy
          obtain ⟨NX, hNX⟩ : ∃ N, N = wr.heap.size := ⟨_, rfl⟩
          rw [← hNX] at VX VY ⊢
          clear hNX
          generalize (wr.alloc (.cells #[.slice pa n1 c1, .slice pb n2 c2] 56)).alloc (.cells #[.slice pc n1 c3, .slice pd n2 c4] 56) = w3 at *
          have x0 : w3.cell? ⟨NX, 0, none⟩ = some (.slice pa n1 c1) := VX.cell 0
          have x1 : w3.cell? ⟨NX, 1, none⟩ = some (.slice pb n2 c2) := VX.cell 1
          have y0 : w3.cell? ⟨NX + 1, 0, none⟩ = some (.slice pc n1 c3) := VY.cell 0
          have y1 : w3.cell? ⟨NX + 1, 1, none⟩ = some (.slice pd n2 c4) := VY.cell 1
          go_wp2_with fail
          refine HA.mono ?_
          rintro e w4 ⟨rfl, B4⟩
          have VX4 := VX.keep B4 (Nat.le_refl _)
          have VY4 := VY.keep B4 (Nat.le_refl _)
          have Bw4 := B3.trans (B4.mono B3.size)
          have hC4 := hC3.below B4 (Nat.le_refl _)
          have hC4' := hC3'.below B4 (Nat.le_refl _)
          clear x0 x1 y0 y1 VX VY HA hC3 hC3' B3 B4
          have x0 : w4.cell? ⟨NX, 0, none⟩ = some (.slice pa n1 c1) := VX4.cell 0
          have y0 : w4.cell? ⟨NX + 1, 0, none⟩ = some (.slice pc n1 c3) := VY4.cell 0
          go_wp2_with fail
          go_loopw [89] (fun s89 wx => ∃ j : Nat, j ≤ n1 ∧ s89 = .int .i64 j ∧ Below w4.heap.size w4 wx) (fun s89 _ => n1 - (intOf s89).toNat)
          case atStart => exact ⟨0, Nat.zero_le _, rfl, Below.refl _ _⟩
          case round =>
            obtain ⟨j, hj, rfl, hB5⟩ := hrel
            have x05 := keepR hB5 x0
            have y05 := keepR hB5 y0
            by_cases hjl : j < n1
            · obtain ⟨u, v, rfl, a0⟩ := (hC4.below hB5 (Nat.le_refl _)).cell j hjl
              obtain ⟨u', v', rfl, a1⟩ := (hC4'.below hB5 (Nat.le_refl _)).cell j hjl
              generalize l.getD j 0 = z at *
              have hzz : (z != z) = false := by simp
              clear hC4 hC4' x0 y0 VX4 VY4
              go_wp2_with fail
              go_quiet (fail)
              go_wp2_with fail
              go_roundw
              case rel => exact ⟨j + 1, by omega, by go_num, belowN hB5 _⟩
              case measure => simp [intOf]; omega
            · obtain rfl : j = n1 := by omega
              have B6 := Bw4.trans (hB5.mono Bw4.size)
              clear hC4 hC4' x0 y0 VX4 VY4
              go_wp2_with fail
              go_roundw
              case rel => exact ⟨i + 1, by omega, by go_num, B6⟩
              case measure => simp [intOf]; omega
        · have B6 := B1.trans (hB2.mono B1.size)
          clear g2 g4
          go_wp2_with fail
          go_ret
          exact ⟨rfl, B6⟩
end Go.Proofs.YtbihaoibmkdfjaaGreatDoor
