/-
  The law's walk: CodeBack.
-/
import Derived.Test.YtopjiokbmpghjaaCodA
import Derived.Test.YtopjiokbmpghjaaLawC
import Derived.Deep.RegionHeld3
import Derived.Lib.MinMax
namespace Go.Proofs.Ytopjiokbmpghjaa
open Go.RowKit Go.Shelf
set_option linter.unusedVariables false
set_option linter.unusedSimpArgs false

theorem got_put {r : Rc} (h : recR r = true) : gotB (putL r) = true := by rw [← gotB_is, parse_put h, h]; simp
theorem got_facts {L : List UInt8} (h : gotB L = true) : recR (parseN L) = true ∧ putL (parseN L) = L := by
  rw [← gotB_is] at h
  simpa using h
set_option maxRecDepth 100000 in
set_option maxHeartbeats 12800000 in
theorem back_walk (o1 : Option Addr) (on1 oc1 : Nat) (o2 : Option Addr) (on2 oc2 : Nat) (o3 : Option Addr) (on3 oc3 : Nat) (r : Rc) (tx0 : ByteArray) (w : World) (h : RIn w o1 on1 oc1 o2 on2 oc2 o3 on3 oc3 r) (hs : tx0.size ≤ maxLen) :
    Calls Try.prog 5 #[aggRc o1 on1 oc1 o2 on2 oc2 o3 on3 oc3 r, .string tx0] w fun e w' => e = .returned (.bool true) ∧ Below w.heap.size w w' := by
  unfold maxLen at hs
  obtain ⟨m0, hm0, em, hm1, hm2⟩ := min_of tx0.size 130
  change min (tx0.size : Int) 130 = (m0 : Int) at em
  clear hm0
  obtain ⟨Lt, hLt, hLs⟩ : ∃ Lt : List UInt8, tx0.extract 0 m0 = tx Lt ∧ Lt.length ≤ 130 := ⟨(tx0.extract 0 m0).data.toList, (tx_of _).symm, by show (tx0.extract 0 m0).size ≤ 130; rw [ByteArray.size_extract]; omega⟩
  have HG := fun w => cget_any Lt (by omega) w
  obtain ⟨B2, hB2⟩ : ∃ B2, gotB Lt = B2 := ⟨_, rfl⟩
  have HT0 : Hid (B2 = false → getV Lt = zRc ∧ getE Lt = 13) := fun e => by unfold getV getE; rw [hB2, e]; exact ⟨rfl, rfl⟩
  have HT1 : Hid (B2 = true → ∃ r3 : Rc, getV Lt = r3 ∧ getE Lt = 0 ∧ (∀ (p1 : Option Addr) (pn1 pc1 : Nat) (p2 : Option Addr) (pn2 pc2 : Nat) (p3 : Option Addr) (pn3 pc3 : Nat) w, RAt w p1 pn1 pc1 p2 pn2 pc2 p3 pn3 pc3 r3 → Calls Try.prog 8 #[aggRc p1 pn1 pc1 p2 pn2 pc2 p3 pn3 pc3 r3] w fun e w' => e = .returned (.tuple #[.string (tx Lt), .int .i64 0]) ∧ Below w.heap.size w w') ∧ (∀ (p1 : Option Addr) (pn1 pc1 : Nat) (p2 : Option Addr) (pn2 pc2 : Nat) (p3 : Option Addr) (pn3 pc3 : Nat) w, RAt w p1 pn1 pc1 p2 pn2 pc2 p3 pn3 pc3 r3 → Calls Try.prog 9 #[aggRc p1 pn1 pc1 p2 pn2 pc2 p3 pn3 pc3 r3] w fun e w' => e = .returned (.bool true) ∧ Below w.heap.size w w')) := fun e => by
    obtain ⟨f1, f2⟩ := got_facts (hB2.trans e)
    refine ⟨parseN Lt, by unfold getV; rw [hB2, e]; rfl, by unfold getE; rw [hB2, e]; rfl, fun p1 pn1 pc1 p2 pn2 pc2 p3 pn3 pc3 w h => ?_, fun p1 pn1 pc1 p2 pn2 pc2 p3 pn3 pc3 w h => ?_⟩
    · have := cput_any p1 pn1 pc1 p2 pn2 pc2 p3 pn3 pc3 (parseN Lt) w h
      rw [putV_yes f1, f2] at this
      exact this
    · have := cright_any p1 pn1 pc1 p2 pn2 pc2 p3 pn3 pc3 (parseN Lt) w h
      rw [f1] at this
      exact this
  clear hB2
  generalize getV Lt = gv at *
  generalize getE Lt = ge at *
  generalize tx Lt = tL at *
  clear hLs
  have HF := fun w h => few17_any o1 on1 oc1 o2 on2 oc2 o3 on3 oc3 r w h
  obtain ⟨r2, hr2⟩ : ∃ r2, fewR r = r2 := ⟨_, rfl⟩
  rw [hr2] at HF
  clear hr2
  have HP := fun (p1 : Option Addr) (pn1 pc1 : Nat) (p2 : Option Addr) (pn2 pc2 : Nat) (p3 : Option Addr) (pn3 pc3 : Nat) w h => cput_any p1 pn1 pc1 p2 pn2 pc2 p3 pn3 pc3 r2 w h
  have hno := fun h => putV_no (r := r2) h
  have hyes := fun h => putV_yes (r := r2) h
  have HB : Hid (recR r2 = true → getV (putL r2) = r2 ∧ getE (putL r2) = 0 ∧ (putL r2).length ≤ 90) := fun e => ⟨by unfold getV; rw [got_put e, parse_put e]; rfl, by unfold getE; rw [got_put e]; rfl, put_len e⟩
  have HG2 := fun (hl : (putL r2).length ≤ 1000) w => cget_any (putL r2) hl w
  have HSs := fun (p1 : Option Addr) (pn1 pc1 : Nat) (p2 : Option Addr) (pn2 pc2 : Nat) (p3 : Option Addr) (pn3 pc3 : Nat) (a1 : Option Addr) (an1 ac1 : Nat) (a2 : Option Addr) (an2 ac2 : Nat) (a3 : Option Addr) (an3 ac3 : Nat) w h h' => sameRc_any p1 pn1 pc1 p2 pn2 pc2 p3 pn3 pc3 r2 a1 an1 ac1 a2 an2 ac2 a3 an3 ac3 r2 w h h'
  rw [show decide (r2 = r2) = true from decide_eq_true rfl] at HSs
  obtain ⟨B, hB⟩ : ∃ B, recR r2 = B := ⟨_, rfl⟩
  rw [hB] at hno hyes HB
  clear hB
  have hzt := tx_size (putL r2)
  generalize putV r2 = pv at *
  generalize getV (putL r2) = gv2 at *
  generalize getE (putL r2) = ge2 at *
  generalize putL r2 = lp at *
  generalize tx lp = tp at *
  obtain ⟨k, ⟨l, rt, pl, tr, du, st⟩, m, f, t, q⟩ := r
  dsimp only [aggRc, recV] at HF ⊢
  have VB := Vals.new w 29 #[.int .i64 k, .slice o1 on1 oc1, .int .i64 rt, .int .i64 pl, .int .i64 tr, .int .i64 du, .int .i64 st, .slice o2 on2 oc2, .int .i64 f, .int .i64 t, .slice o3 on3 oc3]
  have B0 := below_alloc w (.cells #[.int .i64 k, .slice o1 on1 oc1, .int .i64 rt, .int .i64 pl, .int .i64 tr, .int .i64 du, .int .i64 st, .slice o2 on2 oc2, .int .i64 f, .int .i64 t, .slice o3 on3 oc3] 29)
  have hI0 := h.below B0 (Nat.le_refl _)
  clear h
  go_enter Try.func5, Try.ntmps5
  go_upto_region 1 with fail
  generalize w.alloc _ = W at *
  generalize hX : w.heap.size = X at *
  have HF1 := HF W.drew (hI0.below (Below.refl _ W).drew (Nat.le_refl _))
  have VBd : Vals W.drew X 29 #[.int .i64 k, .slice o1 on1 oc1, .int .i64 rt, .int .i64 pl, .int .i64 tr, .int .i64 du, .int .i64 st, .slice o2 on2 oc2, .int .i64 f, .int .i64 t, .slice o3 on3 oc3] := VB
  have Bd0 := B0.drew
  have hX0 : X ≤ W.drew.heap.size := hX ▸ B0.size
  clear HF hI0
  obtain ⟨k2, ⟨l2, rt2, pl2, tr2, du2, st2⟩, m2, f2, t2, q2⟩ := r2
  dsimp only [aggRc, recV] at HF1 HP HG2 HSs HB
  have x0 : W.drew.cell? ⟨X, 0, none⟩ = some (.int .i64 k) := VBd.cell 0
  have x1 : W.drew.cell? ⟨X, 1, none⟩ = some (.slice o1 on1 oc1) := VBd.cell 1
  have x2 : W.drew.cell? ⟨X, 2, none⟩ = some (.int .i64 rt) := VBd.cell 2
  have x3 : W.drew.cell? ⟨X, 3, none⟩ = some (.int .i64 pl) := VBd.cell 3
  have x4 : W.drew.cell? ⟨X, 4, none⟩ = some (.int .i64 tr) := VBd.cell 4
  have x5 : W.drew.cell? ⟨X, 5, none⟩ = some (.int .i64 du) := VBd.cell 5
  have x6 : W.drew.cell? ⟨X, 6, none⟩ = some (.int .i64 st) := VBd.cell 6
  have x7 : W.drew.cell? ⟨X, 7, none⟩ = some (.slice o2 on2 oc2) := VBd.cell 7
  have x8 : W.drew.cell? ⟨X, 8, none⟩ = some (.int .i64 f) := VBd.cell 8
  have x9 : W.drew.cell? ⟨X, 9, none⟩ = some (.int .i64 t) := VBd.cell 9
  have x10 : W.drew.cell? ⟨X, 10, none⟩ = some (.slice o3 on3 oc3) := VBd.cell 10
  go_cut [1] (fun s1 W8 => s1 = .string tL ∧ ∃ p1 pn1 pc1 p2 pn2 pc2 p3 pn3 pc3, RAt W8 p1 pn1 pc1 p2 pn2 pc2 p3 pn3 pc3 (⟨k2, ⟨l2, rt2, pl2, tr2, du2, st2⟩, m2, f2, t2, q2⟩ : Rc) ∧ Vals W8 X 29 #[.int .i64 k2, .slice p1 pn1 pc1, .int .i64 rt2, .int .i64 pl2, .int .i64 tr2, .int .i64 du2, .int .i64 st2, .slice p2 pn2 pc2, .int .i64 f2, .int .i64 t2, .slice p3 pn3 pc3] ∧ Below X w W8)
  case first =>
    first
      | (go_region_with (first | (go_at_call 7; refine HF1.mono ?_; rintro e w1 ⟨⟨p1, pn1, pc1, p2, pn2, pc2, p3, pn3, pc3, rfl, hR⟩, B1⟩; have V1 := Vals.keep (w := W.drew) VBd B1 (Nat.le_refl _); have C1 := Bd0.trans (B1.mono hX0); have y0 : w1.cell? ⟨X, 0, none⟩ = some (.int .i64 k) := V1.cell 0; have y1 : w1.cell? ⟨X, 1, none⟩ = some (.slice o1 on1 oc1) := V1.cell 1; have y2 : w1.cell? ⟨X, 2, none⟩ = some (.int .i64 rt) := V1.cell 2; have y3 : w1.cell? ⟨X, 3, none⟩ = some (.int .i64 pl) := V1.cell 3; have y4 : w1.cell? ⟨X, 4, none⟩ = some (.int .i64 tr) := V1.cell 4; have y5 : w1.cell? ⟨X, 5, none⟩ = some (.int .i64 du) := V1.cell 5; have y6 : w1.cell? ⟨X, 6, none⟩ = some (.int .i64 st) := V1.cell 6; have y7 : w1.cell? ⟨X, 7, none⟩ = some (.slice o2 on2 oc2) := V1.cell 7; have y8 : w1.cell? ⟨X, 8, none⟩ = some (.int .i64 f) := V1.cell 8; have y9 : w1.cell? ⟨X, 9, none⟩ = some (.int .i64 t) := V1.cell 9; have y10 : w1.cell? ⟨X, 10, none⟩ = some (.slice o3 on3 oc3) := V1.cell 10; have g0 := V1.free 0; have g1 := V1.free 1; have g2 := V1.free 2; have g3 := V1.free 3; have g4 := V1.free 4; have g5 := V1.free 5; have g6 := V1.free 6; have g7 := V1.free 7; have g8 := V1.free 8; have g9 := V1.free 9; have g10 := V1.free 10)))
      | fail
    all_goals
      have V2 := V1.eleven (.int .i64 k2) (.slice p1 pn1 pc1) (.int .i64 rt2) (.int .i64 pl2) (.int .i64 tr2) (.int .i64 du2) (.int .i64 st2) (.slice p2 pn2 pc2) (.int .i64 f2) (.int .i64 t2) (.slice p3 pn3 pc3)
      have hO := (((((((((((OnlyAt.refl X w1).set 0 (.int .i64 k2)).set 1 (.slice p1 pn1 pc1)).set 2 (.int .i64 rt2)).set 3 (.int .i64 pl2)).set 4 (.int .i64 tr2)).set 5 (.int .i64 du2)).set 6 (.int .i64 st2)).set 7 (.slice p2 pn2 pc2)).set 8 (.int .i64 f2)).set 9 (.int .i64 t2)).set 10 (.slice p3 pn3 pc3)
      have hR2 := hO.rec hR V1 (rec_no_text _ _ _ _ _ _ _ _ _ _ _ _ _ _ _ _ _)
      have C2 := below_eleven C1 (Nat.le_refl X) (.int .i64 k2) (.slice p1 pn1 pc1) (.int .i64 rt2) (.int .i64 pl2) (.int .i64 tr2) (.int .i64 du2) (.int .i64 st2) (.slice p2 pn2 pc2) (.int .i64 f2) (.int .i64 t2) (.slice p3 pn3 pc3)
      clear V1 hO hR C1 y0 y1 y2 y3 y4 y5 y6 y7 y8 y9 y10 g0 g1 g2 g3 g4 g5 g6 g7 g8 g9 g10
      go_wp2_with fail
      go_meet
      case rel => exact ⟨rfl, p1, pn1, pc1, p2, pn2, pc2, p3, pn3, pc3, hR2, V2, C2⟩
  case rest =>
    obtain ⟨rfl, p1, pn1, pc1, p2, pn2, pc2, p3, pn3, pc3, hR2, V2, C2⟩ := hcut
    clear HF1 VB VBd B0 Bd0 hX0 x0 x1 x2 x3 x4 x5 x6 x7 x8 x9 x10
    have hX1 : X ≤ wc.heap.size := by have := C2.size; have := V2.lt; omega
    generalize wc = w2 at *
    have x0 : w2.cell? ⟨X, 0, none⟩ = some (.int .i64 k2) := V2.cell 0
    have x1 : w2.cell? ⟨X, 1, none⟩ = some (.slice p1 pn1 pc1) := V2.cell 1
    have x2 : w2.cell? ⟨X, 2, none⟩ = some (.int .i64 rt2) := V2.cell 2
    have x3 : w2.cell? ⟨X, 3, none⟩ = some (.int .i64 pl2) := V2.cell 3
    have x4 : w2.cell? ⟨X, 4, none⟩ = some (.int .i64 tr2) := V2.cell 4
    have x5 : w2.cell? ⟨X, 5, none⟩ = some (.int .i64 du2) := V2.cell 5
    have x6 : w2.cell? ⟨X, 6, none⟩ = some (.int .i64 st2) := V2.cell 6
    have x7 : w2.cell? ⟨X, 7, none⟩ = some (.slice p2 pn2 pc2) := V2.cell 7
    have x8 : w2.cell? ⟨X, 8, none⟩ = some (.int .i64 f2) := V2.cell 8
    have x9 : w2.cell? ⟨X, 9, none⟩ = some (.int .i64 t2) := V2.cell 9
    have x10 : w2.cell? ⟨X, 10, none⟩ = some (.slice p3 pn3 pc3) := V2.cell 10
    cases B with
    | false =>
      rw [hno rfl] at HP
      clear hno hyes HB HG2 HSs
      go_wp2_with fail
      refine (HP _ _ _ _ _ _ _ _ _ _ hR2).mono ?_
      rintro e w3 ⟨rfl, B3⟩
      have C3 := C2.trans (B3.mono hX1)
      have hs3 : X ≤ w3.heap.size := Nat.le_trans hX1 B3.size
      clear V2 hR2 C2 B3 HP hX1 x0 x1 x2 x3 x4 x5 x6 x7 x8 x9 x10
      go_upto_region 7 with fail
      cases B2 with
      | false =>
        obtain ⟨e1, e2⟩ := HT0.out rfl
        rw [e1, e2] at HG
        clear e1 e2
        clear HT0 HT1
        dsimp only [aggRc, recV] at *
        go_wp2_with fail
        refine (HG _).mono ?_
        rintro e w3a ⟨⟨a1, an1, ac1, a2, an2, ac2, a3, an3, ac3, rfl, hRa⟩, Ba⟩
        have Ca := C3.trans (Ba.mono hs3)
        have hsa : X ≤ w3a.heap.size := Nat.le_trans hs3 Ba.size
        have VY := Vals.new w3a 29 #[.int .i64 0, .slice a1 an1 ac1, .int .i64 0, .int .i64 0, .int .i64 0, .int .i64 0, .int .i64 0, .slice a2 an2 ac2, .int .i64 0, .int .i64 0, .slice a3 an3 ac3]
        have hRb := hRa.below (below_alloc w3a (.cells #[.int .i64 0, .slice a1 an1 ac1, .int .i64 0, .int .i64 0, .int .i64 0, .int .i64 0, .int .i64 0, .slice a2 an2 ac2, .int .i64 0, .int .i64 0, .slice a3 an3 ac3] 29)) (Nat.le_refl _)
        have Cb := Ca.alloc hsa (.cells #[.int .i64 0, .slice a1 an1 ac1, .int .i64 0, .int .i64 0, .int .i64 0, .int .i64 0, .int .i64 0, .slice a2 an2 ac2, .int .i64 0, .int .i64 0, .slice a3 an3 ac3] 29)
        have hsb : X ≤ (w3a.alloc (.cells #[.int .i64 0, .slice a1 an1 ac1, .int .i64 0, .int .i64 0, .int .i64 0, .int .i64 0, .int .i64 0, .slice a2 an2 ac2, .int .i64 0, .int .i64 0, .slice a3 an3 ac3] 29)).heap.size := by rw [World.size_alloc]; omega
        go_upto_region 8 with fail
        generalize w3a.alloc (.cells #[.int .i64 0, .slice a1 an1 ac1, .int .i64 0, .int .i64 0, .int .i64 0, .int .i64 0, .int .i64 0, .slice a2 an2 ac2, .int .i64 0, .int .i64 0, .slice a3 an3 ac3] 29) = wb at *
        generalize w3a.heap.size = Y at *
        clear hRa Ba Ca hsa HG
        go_wp2_with fail
        refine (alive_any _).mono ?_
        rintro e wd ⟨rfl, Bd⟩
        have VYd := VY.keep Bd (Nat.le_refl _)
        have hRd := hRb.below Bd (Nat.le_refl _)
        have Cd := Cb.trans (Bd.mono hsb)
        have hsd : X ≤ wd.heap.size := Nat.le_trans hsb Bd.size
        have y0 : wd.cell? ⟨Y, 0, none⟩ = some (.int .i64 0) := VYd.cell 0
        have y1 : wd.cell? ⟨Y, 1, none⟩ = some (.slice a1 an1 ac1) := VYd.cell 1
        have y2 : wd.cell? ⟨Y, 2, none⟩ = some (.int .i64 0) := VYd.cell 2
        have y3 : wd.cell? ⟨Y, 3, none⟩ = some (.int .i64 0) := VYd.cell 3
        have y4 : wd.cell? ⟨Y, 4, none⟩ = some (.int .i64 0) := VYd.cell 4
        have y5 : wd.cell? ⟨Y, 5, none⟩ = some (.int .i64 0) := VYd.cell 5
        have y6 : wd.cell? ⟨Y, 6, none⟩ = some (.int .i64 0) := VYd.cell 6
        have y7 : wd.cell? ⟨Y, 7, none⟩ = some (.slice a2 an2 ac2) := VYd.cell 7
        have y8 : wd.cell? ⟨Y, 8, none⟩ = some (.int .i64 0) := VYd.cell 8
        have y9 : wd.cell? ⟨Y, 9, none⟩ = some (.int .i64 0) := VYd.cell 9
        have y10 : wd.cell? ⟨Y, 10, none⟩ = some (.slice a3 an3 ac3) := VYd.cell 10
        have HS := sameRc_any a1 an1 ac1 a2 an2 ac2 a3 an3 ac3 zRc none 0 0 none 0 0 none 0 0 zRc wd hRd (RAt.nil _)
        rw [show decide (zRc = zRc) = true from decide_eq_true rfl] at HS
        dsimp only [aggRc, recV] at HS
        clear VY hRb Cb Bd VYd
        go_wp2_with fail
        refine HS.mono ?_
        rintro e we ⟨rfl, Be⟩
        go_wp2_with fail
        go_ret
        exact ⟨rfl, by rw [hX]; exact Cd.trans (Be.mono hsd)⟩
      | true =>
        obtain ⟨⟨k3, ⟨l3, rt3, pl3, tr3, du3, st3⟩, m3, f3, t3, q3⟩, e1, e2, HPg, HRg⟩ := HT1.out rfl
        rw [e1, e2] at HG
        clear e1 e2
        clear HT0 HT1
        dsimp only [aggRc, recV] at *
        go_wp2_with fail
        refine (HG _).mono ?_
        rintro e w3a ⟨⟨a1, an1, ac1, a2, an2, ac2, a3, an3, ac3, rfl, hRa⟩, Ba⟩
        have Ca := C3.trans (Ba.mono hs3)
        have hsa : X ≤ w3a.heap.size := Nat.le_trans hs3 Ba.size
        have VY := Vals.new w3a 29 #[.int .i64 k3, .slice a1 an1 ac1, .int .i64 rt3, .int .i64 pl3, .int .i64 tr3, .int .i64 du3, .int .i64 st3, .slice a2 an2 ac2, .int .i64 f3, .int .i64 t3, .slice a3 an3 ac3]
        have hRb := hRa.below (below_alloc w3a (.cells #[.int .i64 k3, .slice a1 an1 ac1, .int .i64 rt3, .int .i64 pl3, .int .i64 tr3, .int .i64 du3, .int .i64 st3, .slice a2 an2 ac2, .int .i64 f3, .int .i64 t3, .slice a3 an3 ac3] 29)) (Nat.le_refl _)
        have Cb := Ca.alloc hsa (.cells #[.int .i64 k3, .slice a1 an1 ac1, .int .i64 rt3, .int .i64 pl3, .int .i64 tr3, .int .i64 du3, .int .i64 st3, .slice a2 an2 ac2, .int .i64 f3, .int .i64 t3, .slice a3 an3 ac3] 29)
        have hsb : X ≤ (w3a.alloc (.cells #[.int .i64 k3, .slice a1 an1 ac1, .int .i64 rt3, .int .i64 pl3, .int .i64 tr3, .int .i64 du3, .int .i64 st3, .slice a2 an2 ac2, .int .i64 f3, .int .i64 t3, .slice a3 an3 ac3] 29)).heap.size := by rw [World.size_alloc]; omega
        go_upto_region 8 with fail
        generalize w3a.alloc (.cells #[.int .i64 k3, .slice a1 an1 ac1, .int .i64 rt3, .int .i64 pl3, .int .i64 tr3, .int .i64 du3, .int .i64 st3, .slice a2 an2 ac2, .int .i64 f3, .int .i64 t3, .slice a3 an3 ac3] 29) = wb at *
        generalize w3a.heap.size = Y at *
        clear hRa Ba Ca hsa HG
        have y0 : wb.cell? ⟨Y, 0, none⟩ = some (.int .i64 k3) := VY.cell 0
        have y1 : wb.cell? ⟨Y, 1, none⟩ = some (.slice a1 an1 ac1) := VY.cell 1
        have y2 : wb.cell? ⟨Y, 2, none⟩ = some (.int .i64 rt3) := VY.cell 2
        have y3 : wb.cell? ⟨Y, 3, none⟩ = some (.int .i64 pl3) := VY.cell 3
        have y4 : wb.cell? ⟨Y, 4, none⟩ = some (.int .i64 tr3) := VY.cell 4
        have y5 : wb.cell? ⟨Y, 5, none⟩ = some (.int .i64 du3) := VY.cell 5
        have y6 : wb.cell? ⟨Y, 6, none⟩ = some (.int .i64 st3) := VY.cell 6
        have y7 : wb.cell? ⟨Y, 7, none⟩ = some (.slice a2 an2 ac2) := VY.cell 7
        have y8 : wb.cell? ⟨Y, 8, none⟩ = some (.int .i64 f3) := VY.cell 8
        have y9 : wb.cell? ⟨Y, 9, none⟩ = some (.int .i64 t3) := VY.cell 9
        have y10 : wb.cell? ⟨Y, 10, none⟩ = some (.slice a3 an3 ac3) := VY.cell 10
        go_wp2_with fail
        refine (HPg _ _ _ _ _ _ _ _ _ _ hRb).mono ?_
        rintro e wc ⟨rfl, Bc⟩
        have VYc := VY.keep Bc (Nat.le_refl _)
        have hRc := hRb.below Bc (Nat.le_refl _)
        have Cc := Cb.trans (Bc.mono hsb)
        have hsc : X ≤ wc.heap.size := Nat.le_trans hsb Bc.size
        clear VY hRb Cb Bc hsb HPg y0 y1 y2 y3 y4 y5 y6 y7 y8 y9 y10
        go_wp2_with fail
        refine (alive_any _).mono ?_
        rintro e wd ⟨rfl, Bd⟩
        have VYd := VYc.keep Bd (Nat.le_refl _)
        have hRd := hRc.below Bd (Nat.le_refl _)
        have Cd := Cc.trans (Bd.mono hsc)
        have hsd : X ≤ wd.heap.size := Nat.le_trans hsc Bd.size
        have y0 : wd.cell? ⟨Y, 0, none⟩ = some (.int .i64 k3) := VYd.cell 0
        have y1 : wd.cell? ⟨Y, 1, none⟩ = some (.slice a1 an1 ac1) := VYd.cell 1
        have y2 : wd.cell? ⟨Y, 2, none⟩ = some (.int .i64 rt3) := VYd.cell 2
        have y3 : wd.cell? ⟨Y, 3, none⟩ = some (.int .i64 pl3) := VYd.cell 3
        have y4 : wd.cell? ⟨Y, 4, none⟩ = some (.int .i64 tr3) := VYd.cell 4
        have y5 : wd.cell? ⟨Y, 5, none⟩ = some (.int .i64 du3) := VYd.cell 5
        have y6 : wd.cell? ⟨Y, 6, none⟩ = some (.int .i64 st3) := VYd.cell 6
        have y7 : wd.cell? ⟨Y, 7, none⟩ = some (.slice a2 an2 ac2) := VYd.cell 7
        have y8 : wd.cell? ⟨Y, 8, none⟩ = some (.int .i64 f3) := VYd.cell 8
        have y9 : wd.cell? ⟨Y, 9, none⟩ = some (.int .i64 t3) := VYd.cell 9
        have y10 : wd.cell? ⟨Y, 10, none⟩ = some (.slice a3 an3 ac3) := VYd.cell 10
        clear VYc hRc Cc Bd
        go_wp2_with fail
        refine (HRg _ _ _ _ _ _ _ _ _ _ hRd).mono ?_
        rintro e we ⟨rfl, Be⟩
        go_wp2_with fail
        go_ret
        exact ⟨rfl, by rw [hX]; exact Cd.trans (Be.mono hsd)⟩
    | true =>
      rw [hyes rfl] at HP
      obtain ⟨e1, e2, e3⟩ := HB.out rfl
      have HG3 := HG2 (by omega)
      rw [e1, e2] at HG3
      dsimp only [aggRc, recV] at HG3
      have hz90 : tp.size ≤ 90 := by omega
      clear hno hyes HB HG2 e1 e2 e3 hzt
      go_wp2_with fail
      refine (HP _ _ _ _ _ _ _ _ _ _ hR2).mono ?_
      rintro e w3 ⟨rfl, B3⟩
      have V3 := V2.keep B3 (Nat.le_refl _)
      have hR3 := hR2.below B3 (Nat.le_refl _)
      have C3 := C2.trans (B3.mono hX1)
      have hs3 : X ≤ w3.heap.size := Nat.le_trans hX1 B3.size
      clear V2 hR2 C2 B3 HP hX1 x0 x1 x2 x3 x4 x5 x6 x7 x8 x9 x10
      go_wp2_with fail
      refine (HG3 _).mono ?_
      rintro e w4 ⟨⟨a1, an1, ac1, a2, an2, ac2, a3, an3, ac3, rfl, hRa⟩, B4⟩
      have V4 := V3.keep B4 (Nat.le_refl _)
      have hR4 := hR3.below B4 (Nat.le_refl _)
      have C4 := C3.trans (B4.mono hs3)
      have hs4 : X ≤ w4.heap.size := Nat.le_trans hs3 B4.size
      have V5 := V4.alloc (.cells #[.int .i64 k2, .slice a1 an1 ac1, .int .i64 rt2, .int .i64 pl2, .int .i64 tr2, .int .i64 du2, .int .i64 st2, .slice a2 an2 ac2, .int .i64 f2, .int .i64 t2, .slice a3 an3 ac3] 29)
      have VY := Vals.new w4 29 #[.int .i64 k2, .slice a1 an1 ac1, .int .i64 rt2, .int .i64 pl2, .int .i64 tr2, .int .i64 du2, .int .i64 st2, .slice a2 an2 ac2, .int .i64 f2, .int .i64 t2, .slice a3 an3 ac3]
      have hR5 := hR4.below (below_alloc w4 (.cells #[.int .i64 k2, .slice a1 an1 ac1, .int .i64 rt2, .int .i64 pl2, .int .i64 tr2, .int .i64 du2, .int .i64 st2, .slice a2 an2 ac2, .int .i64 f2, .int .i64 t2, .slice a3 an3 ac3] 29)) (Nat.le_refl _)
      have hRb := hRa.below (below_alloc w4 (.cells #[.int .i64 k2, .slice a1 an1 ac1, .int .i64 rt2, .int .i64 pl2, .int .i64 tr2, .int .i64 du2, .int .i64 st2, .slice a2 an2 ac2, .int .i64 f2, .int .i64 t2, .slice a3 an3 ac3] 29)) (Nat.le_refl _)
      have C5 := C4.alloc hs4 (.cells #[.int .i64 k2, .slice a1 an1 ac1, .int .i64 rt2, .int .i64 pl2, .int .i64 tr2, .int .i64 du2, .int .i64 st2, .slice a2 an2 ac2, .int .i64 f2, .int .i64 t2, .slice a3 an3 ac3] 29)
      have hs5 : X ≤ (w4.alloc (.cells #[.int .i64 k2, .slice a1 an1 ac1, .int .i64 rt2, .int .i64 pl2, .int .i64 tr2, .int .i64 du2, .int .i64 st2, .slice a2 an2 ac2, .int .i64 f2, .int .i64 t2, .slice a3 an3 ac3] 29)).heap.size := by rw [World.size_alloc]; omega
      go_upto_region 5 with fail
      generalize w4.alloc (.cells #[.int .i64 k2, .slice a1 an1 ac1, .int .i64 rt2, .int .i64 pl2, .int .i64 tr2, .int .i64 du2, .int .i64 st2, .slice a2 an2 ac2, .int .i64 f2, .int .i64 t2, .slice a3 an3 ac3] 29) = w5 at *
      generalize w4.heap.size = Y at *
      clear V3 hR3 C3 B4 V4 hR4 C4 hs4 hRa HG3 hs3
      have x0 : w5.cell? ⟨X, 0, none⟩ = some (.int .i64 k2) := V5.cell 0
      have x1 : w5.cell? ⟨X, 1, none⟩ = some (.slice p1 pn1 pc1) := V5.cell 1
      have x2 : w5.cell? ⟨X, 2, none⟩ = some (.int .i64 rt2) := V5.cell 2
      have x3 : w5.cell? ⟨X, 3, none⟩ = some (.int .i64 pl2) := V5.cell 3
      have x4 : w5.cell? ⟨X, 4, none⟩ = some (.int .i64 tr2) := V5.cell 4
      have x5 : w5.cell? ⟨X, 5, none⟩ = some (.int .i64 du2) := V5.cell 5
      have x6 : w5.cell? ⟨X, 6, none⟩ = some (.int .i64 st2) := V5.cell 6
      have x7 : w5.cell? ⟨X, 7, none⟩ = some (.slice p2 pn2 pc2) := V5.cell 7
      have x8 : w5.cell? ⟨X, 8, none⟩ = some (.int .i64 f2) := V5.cell 8
      have x9 : w5.cell? ⟨X, 9, none⟩ = some (.int .i64 t2) := V5.cell 9
      have x10 : w5.cell? ⟨X, 10, none⟩ = some (.slice p3 pn3 pc3) := V5.cell 10
      have y0 : w5.cell? ⟨Y, 0, none⟩ = some (.int .i64 k2) := VY.cell 0
      have y1 : w5.cell? ⟨Y, 1, none⟩ = some (.slice a1 an1 ac1) := VY.cell 1
      have y2 : w5.cell? ⟨Y, 2, none⟩ = some (.int .i64 rt2) := VY.cell 2
      have y3 : w5.cell? ⟨Y, 3, none⟩ = some (.int .i64 pl2) := VY.cell 3
      have y4 : w5.cell? ⟨Y, 4, none⟩ = some (.int .i64 tr2) := VY.cell 4
      have y5 : w5.cell? ⟨Y, 5, none⟩ = some (.int .i64 du2) := VY.cell 5
      have y6 : w5.cell? ⟨Y, 6, none⟩ = some (.int .i64 st2) := VY.cell 6
      have y7 : w5.cell? ⟨Y, 7, none⟩ = some (.slice a2 an2 ac2) := VY.cell 7
      have y8 : w5.cell? ⟨Y, 8, none⟩ = some (.int .i64 f2) := VY.cell 8
      have y9 : w5.cell? ⟨Y, 9, none⟩ = some (.int .i64 t2) := VY.cell 9
      have y10 : w5.cell? ⟨Y, 10, none⟩ = some (.slice a3 an3 ac3) := VY.cell 10
      go_wp2_with fail
      refine (HSs _ _ _ _ _ _ _ _ _ _ _ _ _ _ _ _ _ _ _ hRb hR5).mono ?_
      rintro e w6 ⟨rfl, B6⟩
      have C6 := C5.trans (B6.mono hs5)
      have hs6 : X ≤ w6.heap.size := Nat.le_trans hs5 B6.size
      clear V5 VY hR5 hRb C5 B6 HSs hs5 x0 x1 x2 x3 x4 x5 x6 x7 x8 x9 x10 y0 y1 y2 y3 y4 y5 y6 y7 y8 y9 y10
      go_upto_region 7 with fail
      cases B2 with
      | false =>
        obtain ⟨e1, e2⟩ := HT0.out rfl
        rw [e1, e2] at HG
        clear e1 e2
        clear HT0 HT1
        dsimp only [aggRc, recV] at *
        go_wp2_with fail
        refine (HG _).mono ?_
        rintro e w6a ⟨⟨a1, an1, ac1, a2, an2, ac2, a3, an3, ac3, rfl, hRa⟩, Ba⟩
        have Ca := C6.trans (Ba.mono hs6)
        have hsa : X ≤ w6a.heap.size := Nat.le_trans hs6 Ba.size
        have VY := Vals.new w6a 29 #[.int .i64 0, .slice a1 an1 ac1, .int .i64 0, .int .i64 0, .int .i64 0, .int .i64 0, .int .i64 0, .slice a2 an2 ac2, .int .i64 0, .int .i64 0, .slice a3 an3 ac3]
        have hRb := hRa.below (below_alloc w6a (.cells #[.int .i64 0, .slice a1 an1 ac1, .int .i64 0, .int .i64 0, .int .i64 0, .int .i64 0, .int .i64 0, .slice a2 an2 ac2, .int .i64 0, .int .i64 0, .slice a3 an3 ac3] 29)) (Nat.le_refl _)
        have Cb := Ca.alloc hsa (.cells #[.int .i64 0, .slice a1 an1 ac1, .int .i64 0, .int .i64 0, .int .i64 0, .int .i64 0, .int .i64 0, .slice a2 an2 ac2, .int .i64 0, .int .i64 0, .slice a3 an3 ac3] 29)
        have hsb : X ≤ (w6a.alloc (.cells #[.int .i64 0, .slice a1 an1 ac1, .int .i64 0, .int .i64 0, .int .i64 0, .int .i64 0, .int .i64 0, .slice a2 an2 ac2, .int .i64 0, .int .i64 0, .slice a3 an3 ac3] 29)).heap.size := by rw [World.size_alloc]; omega
        go_upto_region 8 with fail
        generalize w6a.alloc (.cells #[.int .i64 0, .slice a1 an1 ac1, .int .i64 0, .int .i64 0, .int .i64 0, .int .i64 0, .int .i64 0, .slice a2 an2 ac2, .int .i64 0, .int .i64 0, .slice a3 an3 ac3] 29) = wb at *
        generalize w6a.heap.size = Y at *
        clear hRa Ba Ca hsa HG
        go_wp2_with fail
        refine (alive_any _).mono ?_
        rintro e wd ⟨rfl, Bd⟩
        have VYd := VY.keep Bd (Nat.le_refl _)
        have hRd := hRb.below Bd (Nat.le_refl _)
        have Cd := Cb.trans (Bd.mono hsb)
        have hsd : X ≤ wd.heap.size := Nat.le_trans hsb Bd.size
        have y0 : wd.cell? ⟨Y, 0, none⟩ = some (.int .i64 0) := VYd.cell 0
        have y1 : wd.cell? ⟨Y, 1, none⟩ = some (.slice a1 an1 ac1) := VYd.cell 1
        have y2 : wd.cell? ⟨Y, 2, none⟩ = some (.int .i64 0) := VYd.cell 2
        have y3 : wd.cell? ⟨Y, 3, none⟩ = some (.int .i64 0) := VYd.cell 3
        have y4 : wd.cell? ⟨Y, 4, none⟩ = some (.int .i64 0) := VYd.cell 4
        have y5 : wd.cell? ⟨Y, 5, none⟩ = some (.int .i64 0) := VYd.cell 5
        have y6 : wd.cell? ⟨Y, 6, none⟩ = some (.int .i64 0) := VYd.cell 6
        have y7 : wd.cell? ⟨Y, 7, none⟩ = some (.slice a2 an2 ac2) := VYd.cell 7
        have y8 : wd.cell? ⟨Y, 8, none⟩ = some (.int .i64 0) := VYd.cell 8
        have y9 : wd.cell? ⟨Y, 9, none⟩ = some (.int .i64 0) := VYd.cell 9
        have y10 : wd.cell? ⟨Y, 10, none⟩ = some (.slice a3 an3 ac3) := VYd.cell 10
        have HS := sameRc_any a1 an1 ac1 a2 an2 ac2 a3 an3 ac3 zRc none 0 0 none 0 0 none 0 0 zRc wd hRd (RAt.nil _)
        rw [show decide (zRc = zRc) = true from decide_eq_true rfl] at HS
        dsimp only [aggRc, recV] at HS
        clear VY hRb Cb Bd VYd
        go_wp2_with fail
        refine HS.mono ?_
        rintro e we ⟨rfl, Be⟩
        go_wp2_with fail
        go_ret
        exact ⟨rfl, by rw [hX]; exact Cd.trans (Be.mono hsd)⟩
      | true =>
        obtain ⟨⟨k3, ⟨l3, rt3, pl3, tr3, du3, st3⟩, m3, f3, t3, q3⟩, e1, e2, HPg, HRg⟩ := HT1.out rfl
        rw [e1, e2] at HG
        clear e1 e2
        clear HT0 HT1
        dsimp only [aggRc, recV] at *
        go_wp2_with fail
        refine (HG _).mono ?_
        rintro e w6a ⟨⟨a1, an1, ac1, a2, an2, ac2, a3, an3, ac3, rfl, hRa⟩, Ba⟩
        have Ca := C6.trans (Ba.mono hs6)
        have hsa : X ≤ w6a.heap.size := Nat.le_trans hs6 Ba.size
        have VY := Vals.new w6a 29 #[.int .i64 k3, .slice a1 an1 ac1, .int .i64 rt3, .int .i64 pl3, .int .i64 tr3, .int .i64 du3, .int .i64 st3, .slice a2 an2 ac2, .int .i64 f3, .int .i64 t3, .slice a3 an3 ac3]
        have hRb := hRa.below (below_alloc w6a (.cells #[.int .i64 k3, .slice a1 an1 ac1, .int .i64 rt3, .int .i64 pl3, .int .i64 tr3, .int .i64 du3, .int .i64 st3, .slice a2 an2 ac2, .int .i64 f3, .int .i64 t3, .slice a3 an3 ac3] 29)) (Nat.le_refl _)
        have Cb := Ca.alloc hsa (.cells #[.int .i64 k3, .slice a1 an1 ac1, .int .i64 rt3, .int .i64 pl3, .int .i64 tr3, .int .i64 du3, .int .i64 st3, .slice a2 an2 ac2, .int .i64 f3, .int .i64 t3, .slice a3 an3 ac3] 29)
        have hsb : X ≤ (w6a.alloc (.cells #[.int .i64 k3, .slice a1 an1 ac1, .int .i64 rt3, .int .i64 pl3, .int .i64 tr3, .int .i64 du3, .int .i64 st3, .slice a2 an2 ac2, .int .i64 f3, .int .i64 t3, .slice a3 an3 ac3] 29)).heap.size := by rw [World.size_alloc]; omega
        go_upto_region 8 with fail
        generalize w6a.alloc (.cells #[.int .i64 k3, .slice a1 an1 ac1, .int .i64 rt3, .int .i64 pl3, .int .i64 tr3, .int .i64 du3, .int .i64 st3, .slice a2 an2 ac2, .int .i64 f3, .int .i64 t3, .slice a3 an3 ac3] 29) = wb at *
        generalize w6a.heap.size = Y at *
        clear hRa Ba Ca hsa HG
        have y0 : wb.cell? ⟨Y, 0, none⟩ = some (.int .i64 k3) := VY.cell 0
        have y1 : wb.cell? ⟨Y, 1, none⟩ = some (.slice a1 an1 ac1) := VY.cell 1
        have y2 : wb.cell? ⟨Y, 2, none⟩ = some (.int .i64 rt3) := VY.cell 2
        have y3 : wb.cell? ⟨Y, 3, none⟩ = some (.int .i64 pl3) := VY.cell 3
        have y4 : wb.cell? ⟨Y, 4, none⟩ = some (.int .i64 tr3) := VY.cell 4
        have y5 : wb.cell? ⟨Y, 5, none⟩ = some (.int .i64 du3) := VY.cell 5
        have y6 : wb.cell? ⟨Y, 6, none⟩ = some (.int .i64 st3) := VY.cell 6
        have y7 : wb.cell? ⟨Y, 7, none⟩ = some (.slice a2 an2 ac2) := VY.cell 7
        have y8 : wb.cell? ⟨Y, 8, none⟩ = some (.int .i64 f3) := VY.cell 8
        have y9 : wb.cell? ⟨Y, 9, none⟩ = some (.int .i64 t3) := VY.cell 9
        have y10 : wb.cell? ⟨Y, 10, none⟩ = some (.slice a3 an3 ac3) := VY.cell 10
        go_wp2_with fail
        refine (HPg _ _ _ _ _ _ _ _ _ _ hRb).mono ?_
        rintro e wc ⟨rfl, Bc⟩
        have VYc := VY.keep Bc (Nat.le_refl _)
        have hRc := hRb.below Bc (Nat.le_refl _)
        have Cc := Cb.trans (Bc.mono hsb)
        have hsc : X ≤ wc.heap.size := Nat.le_trans hsb Bc.size
        clear VY hRb Cb Bc hsb HPg y0 y1 y2 y3 y4 y5 y6 y7 y8 y9 y10
        go_wp2_with fail
        refine (alive_any _).mono ?_
        rintro e wd ⟨rfl, Bd⟩
        have VYd := VYc.keep Bd (Nat.le_refl _)
        have hRd := hRc.below Bd (Nat.le_refl _)
        have Cd := Cc.trans (Bd.mono hsc)
        have hsd : X ≤ wd.heap.size := Nat.le_trans hsc Bd.size
        have y0 : wd.cell? ⟨Y, 0, none⟩ = some (.int .i64 k3) := VYd.cell 0
        have y1 : wd.cell? ⟨Y, 1, none⟩ = some (.slice a1 an1 ac1) := VYd.cell 1
        have y2 : wd.cell? ⟨Y, 2, none⟩ = some (.int .i64 rt3) := VYd.cell 2
        have y3 : wd.cell? ⟨Y, 3, none⟩ = some (.int .i64 pl3) := VYd.cell 3
        have y4 : wd.cell? ⟨Y, 4, none⟩ = some (.int .i64 tr3) := VYd.cell 4
        have y5 : wd.cell? ⟨Y, 5, none⟩ = some (.int .i64 du3) := VYd.cell 5
        have y6 : wd.cell? ⟨Y, 6, none⟩ = some (.int .i64 st3) := VYd.cell 6
        have y7 : wd.cell? ⟨Y, 7, none⟩ = some (.slice a2 an2 ac2) := VYd.cell 7
        have y8 : wd.cell? ⟨Y, 8, none⟩ = some (.int .i64 f3) := VYd.cell 8
        have y9 : wd.cell? ⟨Y, 9, none⟩ = some (.int .i64 t3) := VYd.cell 9
        have y10 : wd.cell? ⟨Y, 10, none⟩ = some (.slice a3 an3 ac3) := VYd.cell 10
        clear VYc hRc Cc Bd
        go_wp2_with fail
        refine (HRg _ _ _ _ _ _ _ _ _ _ hRd).mono ?_
        rintro e we ⟨rfl, Be⟩
        go_wp2_with fail
        go_ret
        exact ⟨rfl, by rw [hX]; exact Cd.trans (Be.mono hsd)⟩
end Go.Proofs.Ytopjiokbmpghjaa
