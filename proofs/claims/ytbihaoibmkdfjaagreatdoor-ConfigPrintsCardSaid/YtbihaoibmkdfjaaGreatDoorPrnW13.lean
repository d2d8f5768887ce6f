/-
  ConfigPrints, walked.
-/
import Derived.Test.YtbihaoibmkdfjaaGreatDoorFewD
import Derived.Test.YtbihaoibmkdfjaaGreatDoorCfL
import Derived.Test.YtbihaoibmkdfjaaGreatDoorCfN
import Derived.Test.YtbihaoibmkdfjaaGreatDoorRfcM
import Derived.Test.YtbihaoibmkdfjaaGreatDoorRfcN
namespace Go.Proofs.YtbihaoibmkdfjaaGreatDoor.configPrints
open Go.Proofs.YtbihaoibmkdfjaaGreatDoor Go.RowKit Go.Shelf
set_option linter.unusedVariables false

theorem cut_len (s : ByteArray) : (cutS s).size ≤ 12 := by unfold cutS; rw [ByteArray.size_extract]; omega
theorem few_len (c : CfgL) : (fewC c).1.length ≤ 6 ∧ (fewC c).2.1.length ≤ 6 ∧ (∀ i, i < (fewC c).1.length → ((fewC c).1.getD i zR).nm.size ≤ 9223372036854775807) ∧
    ∀ i, i < (fewC c).2.1.length → ((fewC c).2.1.getD i zT).1.length ≤ 100000 ∧ ((fewC c).2.1.getD i zT).2.length ≤ 100000 ∧ ShortM ((fewC c).2.1.getD i zT).2 := by
  have hall : ∀ t ∈ (fewC c).2.1, t.1.length ≤ 100000 ∧ t.2.length ≤ 100000 ∧ ShortM t.2 := by
    intro t ht
    obtain ⟨u, _, rfl⟩ := List.mem_map.1 ht
    refine ⟨?_, ?_, fun k hk => ?_⟩
    · unfold fewT; simp only [List.length_take]; omega
    · unfold fewT few6; simp only [List.length_take, List.length_map]; omega
    · have hm : (fewT u).2.getD k zM ∈ (fewT u).2 := by rw [getD_M _ k hk]; exact List.getElem_mem _
      obtain ⟨x, _, hx⟩ := List.mem_map.1 hm
      rw [← hx]
      have z1 := cut_len x.2.1
      have z2 := cut_len x.2.2
      exact ⟨Nat.le_trans z1 (by omega), Nat.le_trans z2 (by omega)⟩
  refine ⟨?_, ?_, fun i hi => ?_, fun i hi => ?_⟩
  · unfold fewC; simp only [List.length_take, List.length_map]; omega
  · unfold fewC; simp only [List.length_take, List.length_map]; omega
  · have hm : (fewC c).1.getD i zR ∈ (fewC c).1 := by rw [getD_R _ i hi]; exact List.getElem_mem _
    obtain ⟨x, _, hx⟩ := List.mem_map.1 hm
    rw [← hx]
    exact Nat.le_trans (cut_len x.nm) (by omega)
  · rw [List.getD_eq_getElem?_getD, List.getElem?_eq_getElem hi]
    exact hall _ (List.getElem_mem hi)
/-- behind the first statement: a config cut short, in its box -/
def Cut1 (w wx : World) (A : Nat) (d : CfgL) : Prop := ∃ (pa : Option Addr) (n1 c1 : Nat) (pb : Option Addr) (n2 c2 : Nat),
  Vals wx A 25 (cfgV (.slice pa n1 c1) (.slice pb n2 c2) d.2.2.1 d.2.2.2) ∧ Rs wx pa n1 c1 d.1 ∧ Qs wx pb n2 c2 d.2.1 ∧ Below w.heap.size w wx
theorem cut1_of {w wo : World} {A base : Nat} {d : CfgL} {pa : Option Addr} {n1 c1 : Nat} {pb : Option Addr} {n2 c2 : Nat} {qs : List (Value × Value)} {m0 m1 m2 m3 : Value} (hA : w.heap.size ≤ A)
    (VM : Vals wo A 25 #[m0, m1, m2, m3]) (hR : wo.ownsRow base 52 9 (.slice pa n1 c1) d.1.length (cellsR d.1)) (hQ : OwnC w wo base (.slice pb n2 c2) d.2.1 qs) (B : Below w.heap.size w wo) :
    Vals ((((wo.setCell ⟨A, 0, none⟩ (.slice pa n1 c1)).setCell ⟨A, 1, none⟩ (.slice pb n2 c2)).setCell ⟨A, 2, none⟩ (.int .i64 d.2.2.1)).setCell ⟨A, 3, none⟩ (.int .i64 d.2.2.2)) A 25 (cfgV (.slice pa n1 c1) (.slice pb n2 c2) d.2.2.1 d.2.2.2) ∧
    Rs ((((wo.setCell ⟨A, 0, none⟩ (.slice pa n1 c1)).setCell ⟨A, 1, none⟩ (.slice pb n2 c2)).setCell ⟨A, 2, none⟩ (.int .i64 d.2.2.1)).setCell ⟨A, 3, none⟩ (.int .i64 d.2.2.2)) pa n1 c1 d.1 ∧
    Qs ((((wo.setCell ⟨A, 0, none⟩ (.slice pa n1 c1)).setCell ⟨A, 1, none⟩ (.slice pb n2 c2)).setCell ⟨A, 2, none⟩ (.int .i64 d.2.2.1)).setCell ⟨A, 3, none⟩ (.int .i64 d.2.2.2)) pb n2 c2 d.2.1 ∧
    Below w.heap.size w ((((wo.setCell ⟨A, 0, none⟩ (.slice pa n1 c1)).setCell ⟨A, 1, none⟩ (.slice pb n2 c2)).setCell ⟨A, 2, none⟩ (.int .i64 d.2.2.1)).setCell ⟨A, 3, none⟩ (.int .i64 d.2.2.2)) := by
  have V5 := VM.four (.slice pa n1 c1) (.slice pb n2 c2) (.int .i64 d.2.2.1) (.int .i64 d.2.2.2)
  have hB5 := below_four B hA (.slice pa n1 c1) (.slice pb n2 c2) (.int .i64 d.2.2.1) (.int .i64 d.2.2.2)
  have hR5 := own_four hR VM (by decide) (.slice pa n1 c1) (.slice pb n2 c2) (.int .i64 d.2.2.1) (.int .i64 d.2.2.2)
  have hQ5 := hQ.four VM (.slice pa n1 c1) (.slice pb n2 c2) (.int .i64 d.2.2.1) (.int .i64 d.2.2.2)
  obtain ⟨_, _, e6, hD5, _⟩ := Rs.of_own rfl hR5
  obtain ⟨_, _, e7, hE5, _, _⟩ := hQ5.lies hB5 (Nat.le_refl _)
  cases e6
  cases e7
  exact ⟨V5, hD5, hE5, hB5⟩
set_option maxRecDepth 100000 in
set_option maxHeartbeats 12800000 in
theorem walk (c : CfgL) (o1 : Option Addr) (n1 c1 : Nat) (o2 : Option Addr) (n2 c2 : Nat) (w : World) (hR : Rs w o1 n1 c1 c.1) (hca : c1 ≤ maxLen) (hQ : Qs w o2 n2 c2 c.2.1) (hcb : c2 ≤ maxLen)
    (hcc : ∀ i, i < n2 → (c.2.1.getD i zT).1.length ≤ maxLen ∧ (c.2.1.getD i zT).2.length ≤ maxLen) (hT : Tabs w) :
    Calls Tryz.prog 4 #[.agg (cfgV (.slice o1 n1 c1) (.slice o2 n2 c2) c.2.2.1 c.2.2.2)] w fun e w' => e = .returned (.bool true) ∧ Below w.heap.size w w' := by
  have hn1 : n1 ≤ 9223372036854775807 := by have := hR.room; unfold maxLen at hca; omega
  have hn2 : n2 ≤ 9223372036854775807 := by have := hQ.room; unfold maxLen at hcb; omega
  have hbb : ∀ i, i < n2 → (c.2.1.getD i zT).1.length ≤ 9223372036854775807 ∧ (c.2.1.getD i zT).2.length ≤ 9223372036854775807 := fun i hi => by
    have := hcc i hi
    unfold maxLen at this
    omega
  clear hca hcb hcc
  have VM : Vals (w.alloc (.cells (cfgV (.slice o1 n1 c1) (.slice o2 n2 c2) c.2.2.1 c.2.2.2) 25)) w.heap.size 25 (cfgV (.slice o1 n1 c1) (.slice o2 n2 c2) c.2.2.1 c.2.2.2) := Vals.new w _ _
  have B1 := below_alloc w (.cells (cfgV (.slice o1 n1 c1) (.slice o2 n2 c2) c.2.2.1 c.2.2.2) 25)
  have HF := fun w1 (B : Below w.heap.size w w1) => few_any w c o1 n1 c1 o2 n2 c2 w1 B (hR.below B (Nat.le_refl _)) hQ hn1 hn2 hbb
  have hdl := few_len c
  obtain ⟨d, hd⟩ : ∃ d, d = fewC c := ⟨_, rfl⟩
  simp only [← hd] at HF
  rw [← hd] at hdl
  clear hn1 hn2 hR hQ hd hbb
  obtain ⟨A, hA⟩ : ∃ A, A = w.heap.size := ⟨_, rfl⟩
  go_enter Tryz.func4, Tryz.ntmps4
  go_upto_region 1 with fail
  generalize w.alloc (.cells (cfgV (.slice o1 n1 c1) (.slice o2 n2 c2) c.2.2.1 c.2.2.2) 25) = w1 at *
  rw [← hA] at VM
  rw [← hA]
  have HA := Lib.hid hA
  clear hA
  have m0 : w1.cell? ⟨A, 0, none⟩ = some (.slice o1 n1 c1) := VM.cell 0
  have m1 : w1.cell? ⟨A, 1, none⟩ = some (.slice o2 n2 c2) := VM.cell 1
  have m2 : w1.cell? ⟨A, 2, none⟩ = some (.int .i64 c.2.2.1) := VM.cell 2
  have m3 : w1.cell? ⟨A, 3, none⟩ = some (.int .i64 c.2.2.2) := VM.cell 3
  go_wp2_with fail
  refine (HF _ B1).mono ?_
  rintro e wo ⟨⟨pa, n3, c3, pb, n4, c4, rfl, hL1, qs, hM1⟩, Bf⟩
  have VO := VM.keep Bf (Nat.le_refl _)
  have hR := cut1_of (Nat.le_of_eq HA.out.symm) VO hL1 hM1 (B1.trans (Bf.mono B1.size))
  clear m0 m1 m2 m3 VM hL1 hM1 B1 Bf HF HA
  have m0 : wo.cell? ⟨A, 0, none⟩ = some (.slice o1 n1 c1) := VO.cell 0
  have m1 : wo.cell? ⟨A, 1, none⟩ = some (.slice o2 n2 c2) := VO.cell 1
  have m2 : wo.cell? ⟨A, 2, none⟩ = some (.int .i64 c.2.2.1) := VO.cell 2
  have m3 : wo.cell? ⟨A, 3, none⟩ = some (.int .i64 c.2.2.2) := VO.cell 3
  have f0 := VO.free 0
  have f1 := VO.free 1
  have f2 := VO.free 2
  have f3 := VO.free 3
  go_upto_region 2 with fail
  clear m0 m1 m2 m3 f0 f1 f2 f3 VO
  generalize (((wo.setCell ⟨A, 0, none⟩ (.slice pa n3 c3)).setCell ⟨A, 1, none⟩ (.slice pb n4 c4)).setCell ⟨A, 2, none⟩ (.int .i64 d.2.2.1)).setCell ⟨A, 3, none⟩ (.int .i64 d.2.2.2) = wb at *
  obtain ⟨VM, hL, hM, B⟩ := hR
  obtain ⟨h5, h6, h7, h8⟩ := hdl
  have hl5 := hL.len
  have hl6 := hM.len
  have hT1 := hT.below B (Nat.le_refl _)
  clear hT
  have H7 := Lib.hid h7
  have H8 := Lib.hid h8
  clear h7 h8
  have HP := print_any d pa n3 c3 pb n4 c4 wb hL hM (by omega) (by omega) (fun i hi => by have := H8.out i hi; omega) hT1
  have HRC := fun wx (Bx : Below wb.heap.size wb wx) => cfg_c d pa n3 c3 pb n4 c4 wx (hL.below Bx (Nat.le_refl _)) (hM.below Bx (Nat.le_refl _)) (by omega) (by omega) (fun i hi => by have := H8.out i hi; omega)
  have HRR := fun wx (Bx : Below wb.heap.size wb wx) => refCfgR_any d pa n3 c3 pb n4 c4 wx (hL.below Bx (Nat.le_refl _)) (hM.below Bx (Nat.le_refl _)) (by omega) (by omega) H7.out H8.out
  have HPP := fun wx (Bx : Below wb.heap.size wb wx) (hr : cfgR d = true) => refPrintC_any d pa n3 c3 pb n4 c4 wx (hL.below Bx (Nat.le_refl _)) (hM.below Bx (Nat.le_refl _)) hr
  have HAL := fun wx (Bx : Below wb.heap.size wb wx) => alive_any wx (hT1.below Bx (Nat.le_refl _))
  obtain ⟨S, hS⟩ : ∃ S, S = tx (printC d) := ⟨_, rfl⟩
  rw [← hS] at HP
  simp only [← hS] at HPP
  clear hL hM H7 H8 hT1 h5 h6 hl5 hl6 hS
  cases hr : cfgR d with
  | false =>
    rw [hr] at HP HRC HRR
    rw [if_neg (by decide), if_neg (by decide)] at HP
    clear HPP
    have m0 : wb.cell? ⟨A, 0, none⟩ = some (.slice pa n3 c3) := VM.cell 0
    have m1 : wb.cell? ⟨A, 1, none⟩ = some (.slice pb n4 c4) := VM.cell 1
    have m2 : wb.cell? ⟨A, 2, none⟩ = some (.int .i64 d.2.2.1) := VM.cell 2
    have m3 : wb.cell? ⟨A, 3, none⟩ = some (.int .i64 d.2.2.2) := VM.cell 3
    go_wp2_with fail
    refine HP.mono ?_
    rintro e w2 ⟨rfl, B2⟩
    have VM2 := VM.keep B2 (Nat.le_refl _)
    clear HP m0 m1 m2 m3
    have m0 : w2.cell? ⟨A, 0, none⟩ = some (.slice pa n3 c3) := VM2.cell 0
    have m1 : w2.cell? ⟨A, 1, none⟩ = some (.slice pb n4 c4) := VM2.cell 1
    have m2 : w2.cell? ⟨A, 2, none⟩ = some (.int .i64 d.2.2.1) := VM2.cell 2
    have m3 : w2.cell? ⟨A, 3, none⟩ = some (.int .i64 d.2.2.2) := VM2.cell 3
    go_upto_region 3 with fail
    go_cut [12, 13, 14, 15, 16, 17, 18, 19, 20] (fun _ _ _ _ _ _ _ _ s20 wx => s20 = .bool false ∧ Below w2.heap.size w2 wx)
    case first =>
      go_region_with (first
        | (go_at_call 12; refine (HRC _ B2.drew).mono ?_; rintro e w3 ⟨rfl, B3⟩; have B3 := (Below.refl _ w2).drew.trans B3; have VM3 := VM2.keep B3 (Nat.le_refl _); have y0 : w3.cell? ⟨A, 0, none⟩ = some (.slice pa n3 c3) := VM3.cell 0; have y1 : w3.cell? ⟨A, 1, none⟩ = some (.slice pb n4 c4) := VM3.cell 1; have y2 : w3.cell? ⟨A, 2, none⟩ = some (.int .i64 d.2.2.1) := VM3.cell 2; have y3 : w3.cell? ⟨A, 3, none⟩ = some (.int .i64 d.2.2.2) := VM3.cell 3)
        | (go_at_call 13; refine (HRR _ (B2.trans (B3.mono B2.size))).mono ?_; rintro e w4 ⟨rfl, B4⟩; have B4 := B3.trans (B4.mono B3.size))
        | (go_at_call 8; refine (HAL _ (B2.trans (B4.mono B2.size))).mono ?_; rintro e w5 ⟨rfl, B5⟩; have B5 := B4.trans (B5.mono B4.size)))
      all_goals
        clear m0 m1 m2 m3
        go_wp2_with fail
        go_meet
        case rel => exact ⟨rfl, B5⟩
    case rest =>
      obtain ⟨rfl, B3⟩ := hcut
      have B4 := B2.trans (B3.mono B2.size)
      have Bw := B.trans (B4.mono B.size)
      have VM3 := VM2.keep B3 (Nat.le_refl _)
      have HR4 := HRR _ B4
      clear VM2 B2 B3 m0 m1 m2 m3 VM HRC HRR HAL
      have m0 : wc.cell? ⟨A, 0, none⟩ = some (.slice pa n3 c3) := VM3.cell 0
      have m1 : wc.cell? ⟨A, 1, none⟩ = some (.slice pb n4 c4) := VM3.cell 1
      have m2 : wc.cell? ⟨A, 2, none⟩ = some (.int .i64 d.2.2.1) := VM3.cell 2
      have m3 : wc.cell? ⟨A, 3, none⟩ = some (.int .i64 d.2.2.2) := VM3.cell 3
      go_wp2_with fail
      refine HR4.mono ?_
      rintro e w6 ⟨rfl, B6⟩
      have Bw6 := Bw.trans (B6.mono Bw.size)
      clear m0 m1 m2 m3 VM3 HR4
      go_wp2_with fail
      go_ret
      exact ⟨rfl, Bw6⟩
  | true =>
    rw [hr] at HP HRC HRR
    rw [if_pos rfl, if_pos rfl] at HP
    have HPQ := fun wx Bx => HPP wx Bx hr
    clear HPP
    have m0 : wb.cell? ⟨A, 0, none⟩ = some (.slice pa n3 c3) := VM.cell 0
    have m1 : wb.cell? ⟨A, 1, none⟩ = some (.slice pb n4 c4) := VM.cell 1
    have m2 : wb.cell? ⟨A, 2, none⟩ = some (.int .i64 d.2.2.1) := VM.cell 2
    have m3 : wb.cell? ⟨A, 3, none⟩ = some (.int .i64 d.2.2.2) := VM.cell 3
    go_wp2_with fail
    refine HP.mono ?_
    rintro e w2 ⟨rfl, B2⟩
    have VM2 := VM.keep B2 (Nat.le_refl _)
    clear HP m0 m1 m2 m3
    have m0 : w2.cell? ⟨A, 0, none⟩ = some (.slice pa n3 c3) := VM2.cell 0
    have m1 : w2.cell? ⟨A, 1, none⟩ = some (.slice pb n4 c4) := VM2.cell 1
    have m2 : w2.cell? ⟨A, 2, none⟩ = some (.int .i64 d.2.2.1) := VM2.cell 2
    have m3 : w2.cell? ⟨A, 3, none⟩ = some (.int .i64 d.2.2.2) := VM2.cell 3
    go_upto_region 3 with fail
    go_cut [12, 13, 14, 15, 16, 17, 18, 19, 20] (fun _ _ _ _ _ _ _ _ s20 wx => s20 = .bool false ∧ Below w2.heap.size w2 wx)
    case first =>
      go_region_with (first
        | (go_at_call 12; refine (HRC _ B2.drew).mono ?_; rintro e w3 ⟨rfl, B3⟩; have B3 := (Below.refl _ w2).drew.trans B3; have VM3 := VM2.keep B3 (Nat.le_refl _); have y0 : w3.cell? ⟨A, 0, none⟩ = some (.slice pa n3 c3) := VM3.cell 0; have y1 : w3.cell? ⟨A, 1, none⟩ = some (.slice pb n4 c4) := VM3.cell 1; have y2 : w3.cell? ⟨A, 2, none⟩ = some (.int .i64 d.2.2.1) := VM3.cell 2; have y3 : w3.cell? ⟨A, 3, none⟩ = some (.int .i64 d.2.2.2) := VM3.cell 3)
        | (go_at_call 13; refine (HRR _ (B2.trans (B3.mono B2.size))).mono ?_; rintro e w4 ⟨rfl, B4⟩; have B4 := B3.trans (B4.mono B3.size))
        | (go_at_call 8; refine (HAL _ (B2.trans (B4.mono B2.size))).mono ?_; rintro e w5 ⟨rfl, B5⟩; have B5 := B4.trans (B5.mono B4.size)))
      all_goals
        clear m0 m1 m2 m3
        go_wp2_with fail
        go_meet
        case rel => exact ⟨rfl, B5⟩
    case rest =>
      obtain ⟨rfl, B3⟩ := hcut
      have B4 := B2.trans (B3.mono B2.size)
      have Bw := B.trans (B4.mono B.size)
      have VM3 := VM2.keep B3 (Nat.le_refl _)
      have HR4 := HRR _ B4
      clear VM2 B2 B3 m0 m1 m2 m3 VM HRC HRR HAL
      have m0 : wc.cell? ⟨A, 0, none⟩ = some (.slice pa n3 c3) := VM3.cell 0
      have m1 : wc.cell? ⟨A, 1, none⟩ = some (.slice pb n4 c4) := VM3.cell 1
      have m2 : wc.cell? ⟨A, 2, none⟩ = some (.int .i64 d.2.2.1) := VM3.cell 2
      have m3 : wc.cell? ⟨A, 3, none⟩ = some (.int .i64 d.2.2.2) := VM3.cell 3
      go_wp2_with fail
      refine HR4.mono ?_
      rintro e w6 ⟨rfl, B6⟩
      have Bw6 := Bw.trans (B6.mono Bw.size)
      have VM6 := VM3.keep B6 (Nat.le_refl _)
      have HP6 := HPQ _ (B4.trans (B6.mono B4.size))
      clear m0 m1 m2 m3 VM3 HR4 HPQ
      have m0 : w6.cell? ⟨A, 0, none⟩ = some (.slice pa n3 c3) := VM6.cell 0
      have m1 : w6.cell? ⟨A, 1, none⟩ = some (.slice pb n4 c4) := VM6.cell 1
      have m2 : w6.cell? ⟨A, 2, none⟩ = some (.int .i64 d.2.2.1) := VM6.cell 2
      have m3 : w6.cell? ⟨A, 3, none⟩ = some (.int .i64 d.2.2.2) := VM6.cell 3
      go_wp2_with fail
      refine HP6.mono ?_
      rintro e w7 ⟨rfl, B7⟩
      have Bw7 := Bw6.trans (B7.mono Bw6.size)
      clear m0 m1 m2 m3 VM6 HP6
      go_wp2_with fail
      go_ret
      exact ⟨rfl, Bw7⟩
end Go.Proofs.YtbihaoibmkdfjaaGreatDoor.configPrints
