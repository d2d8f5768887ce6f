/-
  ConfigBack, walked.
-/
import Derived.Test.YtbihaoibmkdfjaaGreatDoorFewD
import Derived.Test.YtbihaoibmkdfjaaGreatDoorBckF
import Derived.Test.YtbihaoibmkdfjaaGreatDoorCfL
import Derived.Test.YtbihaoibmkdfjaaGreatDoorRfcL
import Derived.Test.YtbihaoibmkdfjaaGreatDoorCfN
namespace Go.Proofs.YtbihaoibmkdfjaaGreatDoor.configBack
open Go.Proofs.YtbihaoibmkdfjaaGreatDoor Go.RowKit Go.Shelf
set_option linter.unusedVariables false

theorem min_of (n k : Nat) : ∃ m : Nat, m = min n k ∧ min (n : Int) (k : Int) = (m : Int) ∧ m ≤ n ∧ m ≤ k := ⟨min n k, rfl, by omega, Nat.min_le_left _ _, Nat.min_le_right _ _⟩
theorem right_small {c : CfgL} (hR : cfgR c = true) : c.1.length ≤ 100000 ∧ c.2.1.length ≤ 100000 ∧ ∀ i, i < c.2.1.length → (c.2.1.getD i zT).1.length ≤ 100000 ∧ (c.2.1.getD i zT).2.length ≤ 100000 := by
  rw [cfgR_is] at hR
  simp only [Bool.and_eq_true] at hR
  obtain ⟨h1, h2, _⟩ := hR
  have h3 := ((rcvsB_iff _).1 h1).1
  obtain ⟨h4, h5⟩ := (rtsB_iff _ _).1 h2
  unfold numberB at h3 h4
  simp only [Bool.and_eq_true, decide_eq_true_eq] at h3 h4
  refine ⟨by omega, by omega, fun i hi => ?_⟩
  have h6 := h5 i hi
  rw [rteR_is] at h6
  unfold chB numberB at h6
  simp only [Bool.and_eq_true, decide_eq_true_eq] at h6
  omega
theorem few_len (c : CfgL) : (fewC c).1.length ≤ 6 ∧ (fewC c).2.1.length ≤ 6 ∧ ∀ i, i < (fewC c).2.1.length → ((fewC c).2.1.getD i zT).1.length ≤ 100000 ∧ ((fewC c).2.1.getD i zT).2.length ≤ 100000 := by
  have hall : ∀ t ∈ (fewC c).2.1, t.1.length ≤ 100000 ∧ t.2.length ≤ 100000 := by
    intro t ht
    obtain ⟨u, _, rfl⟩ := List.mem_map.1 ht
    unfold fewT few6
    simp only [List.length_take, List.length_map]
    omega
  refine ⟨?_, ?_, fun i hi => ?_⟩
  · unfold fewC; simp only [List.length_take, List.length_map]; omega
  · unfold fewC; simp only [List.length_take, List.length_map]; omega
  · rw [List.getD_eq_getElem?_getD, List.getElem?_eq_getElem hi]
    exact hall _ (List.getElem_mem hi)
/-- behind the first statement: a config cut short, in its box -/
def Cut1 (w wx : World) (A : Nat) (d : CfgL) : Prop := ∃ (pa : Option Addr) (n1 c1 : Nat) (pb : Option Addr) (n2 c2 : Nat),
  Vals wx A 25 (cfgV (.slice pa n1 c1) (.slice pb n2 c2) d.2.2.1 d.2.2.2) ∧ Rs wx pa n1 c1 d.1 ∧ Qs wx pb n2 c2 d.2.1 ∧ Below w.heap.size w wx
theorem cut1_of {w wo : World} {A base : Nat} {d : CfgL} {pa : Option Addr} {n1 c1 : Nat} {pb : Option Addr} {n2 c2 : Nat} {qs : List (Value × Value)} {m0 m1 m2 m3 : Value} (hA : w.heap.size ≤ A)
    (VM : Vals wo A 25 #[m0, m1, m2, m3]) (hR : wo.ownsRow base 52 9 (.slice pa n1 c1) d.1.length (cellsR d.1)) (hQ : OwnC w wo base (.slice pb n2 c2) d.2.1 qs) (B : Below w.heap.size w wo) :
    Cut1 w ((((wo.setCell ⟨A, 0, none⟩ (.slice pa n1 c1)).setCell ⟨A, 1, none⟩ (.slice pb n2 c2)).setCell ⟨A, 2, none⟩ (.int .i64 d.2.2.1)).setCell ⟨A, 3, none⟩ (.int .i64 d.2.2.2)) A d := by
  have V5 := VM.four (.slice pa n1 c1) (.slice pb n2 c2) (.int .i64 d.2.2.1) (.int .i64 d.2.2.2)
  have hB5 := below_four B hA (.slice pa n1 c1) (.slice pb n2 c2) (.int .i64 d.2.2.1) (.int .i64 d.2.2.2)
  have hR5 := own_four hR VM (by decide) (.slice pa n1 c1) (.slice pb n2 c2) (.int .i64 d.2.2.1) (.int .i64 d.2.2.2)
  have hQ5 := hQ.four VM (.slice pa n1 c1) (.slice pb n2 c2) (.int .i64 d.2.2.1) (.int .i64 d.2.2.2)
  obtain ⟨_, _, e6, hD5, _⟩ := Rs.of_own rfl hR5
  obtain ⟨_, _, e7, hE5, _, _⟩ := hQ5.lies hB5 (Nat.le_refl _)
  cases e6
  cases e7
  exact ⟨_, _, _, _, _, _, V5, hD5, hE5, hB5⟩
set_option maxRecDepth 100000 in
set_option maxHeartbeats 12800000 in
theorem walk (c : CfgL) (o1 : Option Addr) (n1 c1 : Nat) (o2 : Option Addr) (n2 c2 : Nat) (s : ByteArray) (w : World) (hR : Rs w o1 n1 c1 c.1) (hca : c1 ≤ maxLen) (hQ : Qs w o2 n2 c2 c.2.1) (hcb : c2 ≤ maxLen)
    (hcc : ∀ i, i < n2 → (c.2.1.getD i zT).1.length ≤ maxLen ∧ (c.2.1.getD i zT).2.length ≤ maxLen) (hs : s.size ≤ maxLen) (hT : Tabs w) :
    Calls Tryz.prog 5 #[.agg (cfgV (.slice o1 n1 c1) (.slice o2 n2 c2) c.2.2.1 c.2.2.2), .string s] w fun e w' => e = .returned (.bool true) ∧ Below w.heap.size w w' := by
  have hn1 : n1 ≤ 9223372036854775807 := by have := hR.room; unfold maxLen at hca; omega
  have hn2 : n2 ≤ 9223372036854775807 := by have := hQ.room; unfold maxLen at hcb; omega
  have hs2 : s.size ≤ 9223372036854775807 := by unfold maxLen at hs; omega
  have hbb : ∀ i, i < n2 → (c.2.1.getD i zT).1.length ≤ 9223372036854775807 ∧ (c.2.1.getD i zT).2.length ≤ 9223372036854775807 := fun i hi => by
    have := hcc i hi
    unfold maxLen at this
    omega
  clear hca hcb hs hcc
  have VM : Vals (w.alloc (.cells (cfgV (.slice o1 n1 c1) (.slice o2 n2 c2) c.2.2.1 c.2.2.2) 25)) w.heap.size 25 (cfgV (.slice o1 n1 c1) (.slice o2 n2 c2) c.2.2.1 c.2.2.2) := Vals.new w _ _
  have B1 := below_alloc w (.cells (cfgV (.slice o1 n1 c1) (.slice o2 n2 c2) c.2.2.1 c.2.2.2) 25)
  have HF := fun w1 (B : Below w.heap.size w w1) => few_any w c o1 n1 c1 o2 n2 c2 w1 B (hR.below B (Nat.le_refl _)) hQ hn1 hn2 hbb
  have hdl := few_len c
  obtain ⟨d, hd⟩ : ∃ d, d = fewC c := ⟨_, rfl⟩
  simp only [← hd] at HF
  rw [← hd] at hdl
  obtain ⟨p, hp, ep, hps, hp2⟩ := min_of s.size 1500
  change min (s.size : Int) 1500 = (p : Int) at ep
  have hz1 : (s.extract 0 p).size ≤ 10000 := by rw [ByteArray.size_extract]; omega
  clear hn1 hn2 hR hQ hp hd hbb
  obtain ⟨A, hA⟩ : ∃ A, A = w.heap.size := ⟨_, rfl⟩
  go_enter Tryz.func5, Tryz.ntmps5
  go_upto_region 1 with fail
  generalize w.alloc (.cells (cfgV (.slice o1 n1 c1) (.slice o2 n2 c2) c.2.2.1 c.2.2.2) 25) = w1 at *
  rw [← hA] at VM
  rw [← hA]
  have HA := Lib.hid hA
  clear hA
  have m0 : w1.cell? ⟨A, 0, none⟩ = some (.slice o1 n1 c1) := VM.cell 0
  have m1 : w1.cell? ⟨A, 1, none⟩ = some (.slice o2 n2 c2) := VM.cell 1
  have m2 : w1.cell? ⟨A, 2, none⟩ = some (.int .i64 c.2.2.1) := VM.cell 2
  have m3 : w1.cell? ⟨A, 3, none⟩ = some (.int .i64 c.2.2.2) := VM.cell 3
  go_cut [1, 18, 19, 20, 21, 22, 23, 24] (fun s1 _ _ _ _ _ _ _ wx => s1 = .string (s.extract 0 p) ∧ Cut1 w wx A d)
  case first =>
    go_region_with (first
      | (go_at_call 10; refine (HF _ (by first | exact B1 | exact B1.drew)).mono ?_; rintro e wo ⟨⟨pa, m1, k1, pb, m2, k2, rfl, hL1, qs, hM1⟩, Bf⟩; have VM := VM.keep (w := w1.drew) Bf (Nat.le_refl _); have B1 := B1.drew.trans (Bf.mono B1.drew.size); have m0 : wo.cell? ⟨A, 0, none⟩ = some (.slice o1 n1 c1) := VM.cell 0; have f0 := VM.free 0; have m1 : wo.cell? ⟨A, 1, none⟩ = some (.slice o2 n2 c2) := VM.cell 1; have f1 := VM.free 1; have m2 : wo.cell? ⟨A, 2, none⟩ = some (.int .i64 c.2.2.1) := VM.cell 2; have f2 := VM.free 2; have m3 : wo.cell? ⟨A, 3, none⟩ = some (.int .i64 c.2.2.2) := VM.cell 3; have f3 := VM.free 3))
    all_goals
      have hR := cut1_of (Nat.le_of_eq HA.out.symm) VM hL1 hM1 B1
      clear VM hL1 hM1 B1 m0 m1 m2 m3 f0 f1 f2 f3
      go_wp2_with fail
      go_meet
      case rel => exact ⟨rfl, hR⟩
  case rest =>
    clear VM m0 m1 m2 m3 HF B1 ep hps hp2 hs2
    obtain ⟨rfl, pa, n1, c1, pb, n2, c2, VM, hL, hM, B⟩ := hcut
    generalize s.extract 0 p = y at *
    have hT1 := hT.below B (Nat.le_refl _)
    obtain ⟨h5, h6, h7⟩ := hdl
    have hl5 := hL.len
    have hl6 := hM.len
    clear hT
    have HP := print_any d pa n1 c1 pb n2 c2 wc hL hM (by omega) (by omega) (fun i hi => by have := h7 i hi; omega) hT1
    have H7 := Lib.hid h7
    clear h7
    obtain ⟨S, hS⟩ : ∃ S, S = (if cfgR d = true then tx (printC d) else ⟨#[]⟩) := ⟨_, rfl⟩
    obtain ⟨E, hE⟩ : ∃ E : Int, E = (if cfgR d = true then 0 else 1) := ⟨_, rfl⟩
    rw [← hS, ← hE] at HP
    have HS := Lib.hid hS
    have HE := Lib.hid hE
    clear hS hE
    have m0 : wc.cell? ⟨A, 0, none⟩ = some (.slice pa n1 c1) := VM.cell 0
    have m1 : wc.cell? ⟨A, 1, none⟩ = some (.slice pb n2 c2) := VM.cell 1
    have m2 : wc.cell? ⟨A, 2, none⟩ = some (.int .i64 d.2.2.1) := VM.cell 2
    have m3 : wc.cell? ⟨A, 3, none⟩ = some (.int .i64 d.2.2.2) := VM.cell 3
    go_wp2_with fail
    refine HP.mono ?_
    rintro e w2 ⟨rfl, B2⟩
    have VM2 := VM.keep B2 (Nat.le_refl _)
    have hL2 := hL.below B2 (Nat.le_refl _)
    have hM2 := hM.below B2 (Nat.le_refl _)
    have hT2 := hT1.below B2 (Nat.le_refl _)
    have Bw2 := B.trans (B2.mono B.size)
    clear HP VM hL hM hT1 B2 B m0 m1 m2 m3
    go_upto_if 31 with fail
    go_cut [7, 8, 9, 32, 33, 34, 35, 36, 37, 38, 39, 40, 41, 42, 43, 44, 45, 46, 47, 48, 49] (fun _ _ _ _ _ _ _ _ _ _ _ _ _ _ _ _ _ _ _ _ _ wx => Below w2.heap.size w2 wx)
    case first =>
      cases hR : cfgR d with
      | false =>
        have hE := HE.out
        rw [hR, if_neg (by decide)] at hE
        subst hE
        clear hR HS HE H7 hL2 hM2 hT2 Bw2 VM2
        go_wp2_with fail
        go_meet
        case rel => exact Below.refl _ _
      | true =>
        have hpz := printT_len hR
        have hpp := parseC_print hR
        have hE := HE.out
        have hS := HS.out
        rw [hR, if_pos rfl] at hE hS
        subst hE
        have HQ := parseC_any S w2 (by rw [hS, tx_size]; omega) hT2
        rw [hS, show bs (tx (printC d)) = printC d from tx_data _, hpp, ← hS] at HQ
        clear hR HS HE hpz hpp hT2 hS
        go_wp2_with fail
        refine HQ.mono ?_
        rintro e w3 ⟨⟨oc, nc, cc, od, nd, cd, rfl, hL3, hM3⟩, B3⟩
        dsimp only at hL3 hM3
        dsimp only
        have VB := Vals.new w3 25 (cfgV (.slice oc nc cc) (.slice od nd cd) d.2.2.1 d.2.2.2)
        have Ba := below_alloc w3 (.cells (cfgV (.slice oc nc cc) (.slice od nd cd) d.2.2.1 d.2.2.2) 25)
        have B4 := B3.trans (Ba.mono B3.size)
        have VM4 := VM2.keep B4 (Nat.le_refl _)
        have HW := refSameC_any d d.2.2.1 d.2.2.2 oc nc cc od nd cd pa n1 c1 pb n2 c2 _ (hL3.below Ba (Nat.le_refl _)) (hM3.below Ba (Nat.le_refl _)) (hL2.below B4 (Nat.le_refl _)) (hM2.below B4 (Nat.le_refl _)) (by have := hL3.len; omega) (by have := hM3.len; omega) H7.out
        clear HQ hL3 hM3 hL2 hM2 B3 Ba VM2
        go_upto_region 5 with fail
        generalize w3.alloc (.cells (cfgV (.slice oc nc cc) (.slice od nd cd) d.2.2.1 d.2.2.2) 25) = w4 at *
        generalize w3.heap.size = G at *
        have b0 : w4.cell? ⟨G, 0, none⟩ = some (.slice oc nc cc) := VB.cell 0
        have b1 : w4.cell? ⟨G, 1, none⟩ = some (.slice od nd cd) := VB.cell 1
        have b2 : w4.cell? ⟨G, 2, none⟩ = some (.int .i64 d.2.2.1) := VB.cell 2
        have b3 : w4.cell? ⟨G, 3, none⟩ = some (.int .i64 d.2.2.2) := VB.cell 3
        have m0 : w4.cell? ⟨A, 0, none⟩ = some (.slice pa n1 c1) := VM4.cell 0
        have m1 : w4.cell? ⟨A, 1, none⟩ = some (.slice pb n2 c2) := VM4.cell 1
        have m2 : w4.cell? ⟨A, 2, none⟩ = some (.int .i64 d.2.2.1) := VM4.cell 2
        have m3 : w4.cell? ⟨A, 3, none⟩ = some (.int .i64 d.2.2.2) := VM4.cell 3
        go_wp2_with fail
        refine HW.mono ?_
        rintro e w5 ⟨rfl, B5⟩
        have B6 := B4.trans (B5.mono B4.size)
        clear HW VB VM4 b0 b1 b2 b3 m0 m1 m2 m3
        go_wp2_with fail
        go_meet
        case rel => exact B6
    case rest =>
      have Bw3 := Bw2.trans (hcut.mono Bw2.size)
      have hT3 := hT2.below hcut (Nat.le_refl _)
      clear VM2 hL2 hM2 hT2 hcut Bw2 HS HE H7 h5 h6 hl5 hl6
      have HQ := parseC_any y wc hz1 hT3
      obtain ⟨⟨c, k, er⟩, hm⟩ : ∃ M, M = parseC (bs y) := ⟨_, rfl⟩
      rw [← hm] at HQ
      by_cases he : er = 0
      · subst he
        obtain ⟨hR, rfl⟩ := parseC_right hm.symm
        have hpz := printT_len hR
        have hpp := parseC_print hR
        obtain ⟨z1, z2, z3⟩ := right_small hR
        have HZ := Lib.hid z3
        clear hm z3
        go_wp2_with fail
        refine HQ.mono ?_
        rintro e w3 ⟨⟨oc, nc, cc, od, nd, cd, rfl, hL3, hM3⟩, B3⟩
        dsimp only at hL3 hM3
        dsimp only
        have hnc : nc ≤ 100000 := by have := hL3.len; omega
        have hnd : nd ≤ 100000 := by have := hM3.len; omega
        have VB := Vals.new w3 25 (cfgV (.slice oc nc cc) (.slice od nd cd) c.2.2.1 c.2.2.2)
        have Ba := below_alloc w3 (.cells (cfgV (.slice oc nc cc) (.slice od nd cd) c.2.2.1 c.2.2.2) 25)
        have B4 := B3.trans (Ba.mono B3.size)
        have hL4 := hL3.below Ba (Nat.le_refl _)
        have hM4 := hM3.below Ba (Nat.le_refl _)
        have hT4 := hT3.below B4 (Nat.le_refl _)
        have Bw4 := Bw3.trans (B4.mono Bw3.size)
        clear HQ hL3 hM3 B3 Ba B4 hT3 Bw3
        go_upto_region 8 with fail
        generalize w3.alloc (.cells (cfgV (.slice oc nc cc) (.slice od nd cd) c.2.2.1 c.2.2.2) 25) = w4 at *
        generalize w3.heap.size = G at *
        have HP := print_any c oc nc cc od nd cd w4 hL4 hM4 (by omega) (by omega) (fun i hi => by have := HZ.out i hi; omega) hT4
        rw [hR, if_pos rfl, if_pos rfl] at HP
        obtain ⟨S2, hS2⟩ : ∃ S2, Hid (S2 = tx (printC c)) := ⟨_, rfl⟩
        rw [← hS2.out] at HP
        have HQ := fun w5 (B5 : Below w4.heap.size w4 w5) => parseC_any S2 w5 (by rw [hS2.out, tx_size]; omega) (hT4.below B5 (Nat.le_refl _))
        rw [show bs S2 = printC c from by rw [hS2.out]; exact tx_data _, hpp] at HQ
        have HAL := fun w5 (B5 : Below w4.heap.size w4 w5) => alive_any w5 (hT4.below B5 (Nat.le_refl _))
        have HRC := fun w5 (B5 : Below w4.heap.size w4 w5) => cfg_c c oc nc cc od nd cd w5 (hL4.below B5 (Nat.le_refl _)) (hM4.below B5 (Nat.le_refl _)) (by omega) (by omega) (fun i hi => by have := HZ.out i hi; omega)
        rw [hR] at HRC
        clear hR hpz hpp hS2 hT4 z1 z2
        have b0 : w4.cell? ⟨G, 0, none⟩ = some (.slice oc nc cc) := VB.cell 0
        have b1 : w4.cell? ⟨G, 1, none⟩ = some (.slice od nd cd) := VB.cell 1
        have b2 : w4.cell? ⟨G, 2, none⟩ = some (.int .i64 c.2.2.1) := VB.cell 2
        have b3 : w4.cell? ⟨G, 3, none⟩ = some (.int .i64 c.2.2.2) := VB.cell 3
        go_wp2_with fail
        refine HP.mono ?_
        rintro e w5 ⟨rfl, B5⟩
        have VB5 := VB.keep B5 (Nat.le_refl _)
        have HQ5 := HQ _ B5
        clear HP HQ VB b0 b1 b2 b3
        go_wp2_with fail
        refine HQ5.mono ?_
        rintro e w6 ⟨⟨oe, ne, ce, og, ng, cg, rfl, hL6, hM6⟩, B6⟩
        dsimp only at hL6 hM6
        dsimp only
        have VD := Vals.new w6 25 (cfgV (.slice oe ne ce) (.slice og ng cg) c.2.2.1 c.2.2.2)
        have Ba := below_alloc w6 (.cells (cfgV (.slice oe ne ce) (.slice og ng cg) c.2.2.1 c.2.2.2) 25)
        have B57 := B6.trans (Ba.mono B6.size)
        have VB7 := VB5.keep B57 (Nat.le_refl _)
        have B47 := B5.trans (B57.mono B5.size)
        have hL7 := hL6.below Ba (Nat.le_refl _)
        have hM7 := hM6.below Ba (Nat.le_refl _)
        clear HQ5 hL6 hM6 B6 Ba B57 VB5 B5
        go_upto_region 12 with fail
        generalize w6.alloc (.cells (cfgV (.slice oe ne ce) (.slice og ng cg) c.2.2.1 c.2.2.2) 25) = w7 at *
        generalize w6.heap.size = D at *
        have HA7 := HAL _ B47
        have HS7 := fun w8 (B8 : Below w7.heap.size w7 w8) => refSameC_any c c.2.2.1 c.2.2.2 oc nc cc od nd cd oe ne ce og ng cg w8 (hL4.below (B47.trans (B8.mono B47.size)) (Nat.le_refl _)) (hM4.below (B47.trans (B8.mono B47.size)) (Nat.le_refl _)) (hL7.below B8 (Nat.le_refl _)) (hM7.below B8 (Nat.le_refl _)) (by omega) (by omega) HZ.out
        clear HAL hL7 hM7 hL4 hM4
        go_wp2_with fail
        refine HA7.mono ?_
        rintro e w8 ⟨rfl, B8⟩
        have VB8 := VB7.keep B8 (Nat.le_refl _)
        have VD8 := VD.keep B8 (Nat.le_refl _)
        have HR8 := HRC _ (B47.trans (B8.mono B47.size))
        clear HA7 VB7 VD HRC
        have b0 : w8.cell? ⟨G, 0, none⟩ = some (.slice oc nc cc) := VB8.cell 0
        have b1 : w8.cell? ⟨G, 1, none⟩ = some (.slice od nd cd) := VB8.cell 1
        have b2 : w8.cell? ⟨G, 2, none⟩ = some (.int .i64 c.2.2.1) := VB8.cell 2
        have b3 : w8.cell? ⟨G, 3, none⟩ = some (.int .i64 c.2.2.2) := VB8.cell 3
        go_wp2_with fail
        refine HR8.mono ?_
        rintro e w9 ⟨rfl, B9⟩
        have VB9 := VB8.keep B9 (Nat.le_refl _)
        have VD9 := VD8.keep B9 (Nat.le_refl _)
        have B79 := B8.trans (B9.mono B8.size)
        have HS9 := HS7 _ B79
        clear HR8 VB8 VD8 HS7 b0 b1 b2 b3 B8 B9
        have b0 : w9.cell? ⟨G, 0, none⟩ = some (.slice oc nc cc) := VB9.cell 0
        have b1 : w9.cell? ⟨G, 1, none⟩ = some (.slice od nd cd) := VB9.cell 1
        have b2 : w9.cell? ⟨G, 2, none⟩ = some (.int .i64 c.2.2.1) := VB9.cell 2
        have b3 : w9.cell? ⟨G, 3, none⟩ = some (.int .i64 c.2.2.2) := VB9.cell 3
        have d0 : w9.cell? ⟨D, 0, none⟩ = some (.slice oe ne ce) := VD9.cell 0
        have d1 : w9.cell? ⟨D, 1, none⟩ = some (.slice og ng cg) := VD9.cell 1
        have d2 : w9.cell? ⟨D, 2, none⟩ = some (.int .i64 c.2.2.1) := VD9.cell 2
        have d3 : w9.cell? ⟨D, 3, none⟩ = some (.int .i64 c.2.2.2) := VD9.cell 3
        go_wp2_with fail
        refine HS9.mono ?_
        rintro e wz ⟨rfl, Bz⟩
        have B7z := B79.trans (Bz.mono B79.size)
        have B4z := B47.trans (B7z.mono B47.size)
        have Bwz := Bw4.trans (B4z.mono Bw4.size)
        clear HS9 VB9 VD9 b0 b1 b2 b3 d0 d1 d2 d3
        go_wp2_with fail
        go_ret
        exact ⟨rfl, Bwz⟩
      · have hz := parseC_not (l := bs y) (by rw [← hm]; exact he)
        rw [← hm] at hz
        have hz : c = zC := hz
        subst hz
        have he2 : (er == 0) = false := by simp [he]
        clear hm
        go_wp2_with fail
        refine HQ.mono ?_
        rintro e w3 ⟨⟨oc, nc, cc, od, nd, cd, rfl, hL3, hM3⟩, B3⟩
        dsimp only at hL3 hM3
        dsimp only
        have hnc : nc ≤ 100000 := by have e1 : nc = 0 := hL3.len.symm; omega
        have hnd : nd ≤ 100000 := by have e1 : nd = 0 := hM3.len.symm; omega
        have VB := Vals.new w3 25 (cfgV (.slice oc nc cc) (.slice od nd cd) 0 0)
        have Ba := below_alloc w3 (.cells (cfgV (.slice oc nc cc) (.slice od nd cd) 0 0) 25)
        have B4 := B3.trans (Ba.mono B3.size)
        have hL4 := hL3.below Ba (Nat.le_refl _)
        have hM4 := hM3.below Ba (Nat.le_refl _)
        have HA4 := alive_any _ (hT3.below B4 (Nat.le_refl _))
        have Bw4 := Bw3.trans (B4.mono Bw3.size)
        clear HQ hL3 hM3 B3 Ba B4 hT3 Bw3
        go_upto_region 8 with fail
        generalize w3.alloc (.cells (cfgV (.slice oc nc cc) (.slice od nd cd) 0 0) 25) = w4 at *
        generalize w3.heap.size = G at *
        go_wp2_with fail
        refine HA4.mono ?_
        rintro e w5 ⟨rfl, B5⟩
        have VB5 := VB.keep B5 (Nat.le_refl _)
        have Bw5 := Bw4.trans (B5.mono Bw4.size)
        have HS5 := refSameC_any zC 0 0 oc nc cc od nd cd none 0 0 none 0 0 w5 (hL4.below B5 (Nat.le_refl _)) (hM4.below B5 (Nat.le_refl _)) (Rs.nil _ _ _) (Qs.nil _ _ _) (by omega) (by omega) (fun i hi => absurd hi (by simp))
        clear HA4 VB hL4 hM4 B5 Bw4
        have b0 : w5.cell? ⟨G, 0, none⟩ = some (.slice oc nc cc) := VB5.cell 0
        have b1 : w5.cell? ⟨G, 1, none⟩ = some (.slice od nd cd) := VB5.cell 1
        have b2 : w5.cell? ⟨G, 2, none⟩ = some (.int .i64 0) := VB5.cell 2
        have b3 : w5.cell? ⟨G, 3, none⟩ = some (.int .i64 0) := VB5.cell 3
        go_wp2_with fail
        refine HS5.mono ?_
        rintro e w6 ⟨rfl, B6⟩
        have Bw6 := Bw5.trans (B6.mono Bw5.size)
        clear HS5 VB5 b0 b1 b2 b3
        go_wp2_with fail
        go_ret
        exact ⟨rfl, Bw6⟩
end Go.Proofs.YtbihaoibmkdfjaaGreatDoor.configBack
