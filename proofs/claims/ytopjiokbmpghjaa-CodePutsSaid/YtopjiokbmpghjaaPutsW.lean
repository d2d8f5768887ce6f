/-
  The law's walk: CodePuts.
-/
import Derived.Test.YtopjiokbmpghjaaCodA
import Derived.Test.YtopjiokbmpghjaaLawC
import Derived.Deep.RegionHeld3
namespace Go.Proofs.Ytopjiokbmpghjaa
open Go.RowKit Go.Shelf
set_option linter.unusedVariables false
set_option linter.unusedSimpArgs false

set_option maxRecDepth 100000 in
set_option maxHeartbeats 12800000 in
theorem puts_walk (o1 : Option Addr) (on1 oc1 : Nat) (o2 : Option Addr) (on2 oc2 : Nat) (o3 : Option Addr) (on3 oc3 : Nat) (r : Rc) (w : World) (h : RIn w o1 on1 oc1 o2 on2 oc2 o3 on3 oc3 r) :
    Calls Try.prog 3 #[aggRc o1 on1 oc1 o2 on2 oc2 o3 on3 oc3 r] w fun e w' => e = .returned (.bool true) ∧ Below w.heap.size w w' := by
  have HF := fun w h => few17_any o1 on1 oc1 o2 on2 oc2 o3 on3 oc3 r w h
  have hSh := fewR_short r
  obtain ⟨r2, hr2⟩ : ∃ r2, fewR r = r2 := ⟨_, rfl⟩
  rw [hr2] at HF hSh
  clear hr2
  have HP := fun (p1 : Option Addr) (pn1 pc1 : Nat) (p2 : Option Addr) (pn2 pc2 : Nat) (p3 : Option Addr) (pn3 pc3 : Nat) w h => cput_any p1 pn1 pc1 p2 pn2 pc2 p3 pn3 pc3 r2 w h
  have HR := fun (p1 : Option Addr) (pn1 pc1 : Nat) (p2 : Option Addr) (pn2 pc2 : Nat) (p3 : Option Addr) (pn3 pc3 : Nat) w h => cright_any p1 pn1 pc1 p2 pn2 pc2 p3 pn3 pc3 r2 w h
  have HQ := fun (p1 : Option Addr) (pn1 pc1 : Nat) (p2 : Option Addr) (pn2 pc2 : Nat) (p3 : Option Addr) (pn3 pc3 : Nat) w h => refRec_any p1 pn1 pc1 p2 pn2 pc2 p3 pn3 pc3 r2 w h hSh
  have HU := fun (p1 : Option Addr) (pn1 pc1 : Nat) (p2 : Option Addr) (pn2 pc2 : Nat) (p3 : Option Addr) (pn3 pc3 : Nat) w h hr => refPut_any p1 pn1 pc1 p2 pn2 pc2 p3 pn3 pc3 r2 w h hr
  have hno := fun h => putV_no (r := r2) h
  have hyes := fun h => putV_yes (r := r2) h
  obtain ⟨B, hB⟩ : ∃ B, recR r2 = B := ⟨_, rfl⟩
  rw [hB] at HR HQ HU hno hyes
  clear hB hSh
  generalize putV r2 = pv at *
  generalize tx (putL r2) = tp at *
  obtain ⟨k, ⟨l, rt, pl, tr, du, st⟩, m, f, t, q⟩ := r
  obtain ⟨k2, ⟨l2, rt2, pl2, tr2, du2, st2⟩, m2, f2, t2, q2⟩ := r2
  dsimp only [aggRc, recV] at *
  have VB := Vals.new w 29 #[.int .i64 k, .slice o1 on1 oc1, .int .i64 rt, .int .i64 pl, .int .i64 tr, .int .i64 du, .int .i64 st, .slice o2 on2 oc2, .int .i64 f, .int .i64 t, .slice o3 on3 oc3]
  have B0 := below_alloc w (.cells #[.int .i64 k, .slice o1 on1 oc1, .int .i64 rt, .int .i64 pl, .int .i64 tr, .int .i64 du, .int .i64 st, .slice o2 on2 oc2, .int .i64 f, .int .i64 t, .slice o3 on3 oc3] 29)
  have HF1 := HF _ (h.below B0 (Nat.le_refl _))
  clear HF h
  go_enter Try.func3, Try.ntmps3
  go_upto_region 1 with fail
  generalize w.alloc _ = W at *
  generalize hX : w.heap.size = X at *
  have x0 : W.cell? ⟨X, 0, none⟩ = some (.int .i64 k) := VB.cell 0
  have x1 : W.cell? ⟨X, 1, none⟩ = some (.slice o1 on1 oc1) := VB.cell 1
  have x2 : W.cell? ⟨X, 2, none⟩ = some (.int .i64 rt) := VB.cell 2
  have x3 : W.cell? ⟨X, 3, none⟩ = some (.int .i64 pl) := VB.cell 3
  have x4 : W.cell? ⟨X, 4, none⟩ = some (.int .i64 tr) := VB.cell 4
  have x5 : W.cell? ⟨X, 5, none⟩ = some (.int .i64 du) := VB.cell 5
  have x6 : W.cell? ⟨X, 6, none⟩ = some (.int .i64 st) := VB.cell 6
  have x7 : W.cell? ⟨X, 7, none⟩ = some (.slice o2 on2 oc2) := VB.cell 7
  have x8 : W.cell? ⟨X, 8, none⟩ = some (.int .i64 f) := VB.cell 8
  have x9 : W.cell? ⟨X, 9, none⟩ = some (.int .i64 t) := VB.cell 9
  have x10 : W.cell? ⟨X, 10, none⟩ = some (.slice o3 on3 oc3) := VB.cell 10
  go_wp2_with fail
  refine HF1.mono ?_
  rintro e w1 ⟨⟨p1, pn1, pc1, p2, pn2, pc2, p3, pn3, pc3, rfl, hR⟩, B1⟩
  have V1 := VB.keep B1 (Nat.le_refl _)
  have C1 := B0.trans (B1.mono (hX ▸ B0.size))
  clear HF1 VB B0 B1 x0 x1 x2 x3 x4 x5 x6 x7 x8 x9 x10
  have y0 : w1.cell? ⟨X, 0, none⟩ = some (.int .i64 k) := V1.cell 0
  have y1 : w1.cell? ⟨X, 1, none⟩ = some (.slice o1 on1 oc1) := V1.cell 1
  have y2 : w1.cell? ⟨X, 2, none⟩ = some (.int .i64 rt) := V1.cell 2
  have y3 : w1.cell? ⟨X, 3, none⟩ = some (.int .i64 pl) := V1.cell 3
  have y4 : w1.cell? ⟨X, 4, none⟩ = some (.int .i64 tr) := V1.cell 4
  have y5 : w1.cell? ⟨X, 5, none⟩ = some (.int .i64 du) := V1.cell 5
  have y6 : w1.cell? ⟨X, 6, none⟩ = some (.int .i64 st) := V1.cell 6
  have y7 : w1.cell? ⟨X, 7, none⟩ = some (.slice o2 on2 oc2) := V1.cell 7
  have y8 : w1.cell? ⟨X, 8, none⟩ = some (.int .i64 f) := V1.cell 8
  have y9 : w1.cell? ⟨X, 9, none⟩ = some (.int .i64 t) := V1.cell 9
  have y10 : w1.cell? ⟨X, 10, none⟩ = some (.slice o3 on3 oc3) := V1.cell 10
  have g0 := V1.free 0
  have g1 := V1.free 1
  have g2 := V1.free 2
  have g3 := V1.free 3
  have g4 := V1.free 4
  have g5 := V1.free 5
  have g6 := V1.free 6
  have g7 := V1.free 7
  have g8 := V1.free 8
  have g9 := V1.free 9
  have g10 := V1.free 10
  have V2 := V1.eleven (.int .i64 k2) (.slice p1 pn1 pc1) (.int .i64 rt2) (.int .i64 pl2) (.int .i64 tr2) (.int .i64 du2) (.int .i64 st2) (.slice p2 pn2 pc2) (.int .i64 f2) (.int .i64 t2) (.slice p3 pn3 pc3)
  have hO := (((((((((((OnlyAt.refl X w1).set 0 (.int .i64 k2)).set 1 (.slice p1 pn1 pc1)).set 2 (.int .i64 rt2)).set 3 (.int .i64 pl2)).set 4 (.int .i64 tr2)).set 5 (.int .i64 du2)).set 6 (.int .i64 st2)).set 7 (.slice p2 pn2 pc2)).set 8 (.int .i64 f2)).set 9 (.int .i64 t2)).set 10 (.slice p3 pn3 pc3)
  have hR2 := hO.rec hR V1 (rec_no_text _ _ _ _ _ _ _ _ _ _ _ _ _ _ _ _ _)
  have C2 := below_eleven C1 (Nat.le_refl X) (.int .i64 k2) (.slice p1 pn1 pc1) (.int .i64 rt2) (.int .i64 pl2) (.int .i64 tr2) (.int .i64 du2) (.int .i64 st2) (.slice p2 pn2 pc2) (.int .i64 f2) (.int .i64 t2) (.slice p3 pn3 pc3)
  go_upto_region 2 with fail
  clear V1 hO hR C1 y0 y1 y2 y3 y4 y5 y6 y7 y8 y9 y10 g0 g1 g2 g3 g4 g5 g6 g7 g8 g9 g10
  generalize (((((((((((w1.setCell ⟨X, 0, none⟩ (.int .i64 k2)).setCell ⟨X, 1, none⟩ (.slice p1 pn1 pc1)).setCell ⟨X, 2, none⟩ (.int .i64 rt2)).setCell ⟨X, 3, none⟩ (.int .i64 pl2)).setCell ⟨X, 4, none⟩ (.int .i64 tr2)).setCell ⟨X, 5, none⟩ (.int .i64 du2)).setCell ⟨X, 6, none⟩ (.int .i64 st2)).setCell ⟨X, 7, none⟩ (.slice p2 pn2 pc2)).setCell ⟨X, 8, none⟩ (.int .i64 f2)).setCell ⟨X, 9, none⟩ (.int .i64 t2)).setCell ⟨X, 10, none⟩ (.slice p3 pn3 pc3)) = w2 at *
  have x0 : w2.cell? ⟨X, 0, none⟩ = some (.int .i64 k2) := V2.cell 0
  have x1 : w2.cell? ⟨X, 1, none⟩ = some (.slice p1 pn1 pc1) := V2.cell 1
  have x2 : w2.cell? ⟨X, 2, none⟩ = some (.int .i64 rt2) := V2.cell 2
  have x3 : w2.cell? ⟨X, 3, none⟩ = some (.int .i64 pl2) := V2.cell 3
  have x4 : w2.cell? ⟨X, 4, none⟩ = some (.int .i64 tr2) := V2.cell 4
  have x5 : w2.cell? ⟨X, 5, none⟩ = some (.int .i64 du2) := V2.cell 5
  have x6 : w2.cell? ⟨X, 6, none⟩ = some (.int .i64 st2) := V2.cell 6
  have x7 : w2.cell? ⟨X, 7, none⟩ = some (.slice p2 pn2 pc2) := V2.cell 7
  have x8 : w2.cell? ⟨X, 8, none⟩ = some (.int .i64 f2) := V2.cell 8
  have x9 : w2.cell? ⟨X, 9, none⟩ = some (.int .i64 t2) := V2.cell 9
  have x10 : w2.cell? ⟨X, 10, none⟩ = some (.slice p3 pn3 pc3) := V2.cell 10
  cases B with
  | false =>
    rw [hno rfl] at HP
    clear hno hyes
    go_wp2_with fail
    refine (HP _ _ _ _ _ _ _ _ _ _ hR2).mono ?_
    rintro e w3 ⟨rfl, B3⟩
    go_upto_region 3 with fail
    have V3 := V2.keep B3 (Nat.le_refl _)
    have hR3 := hR2.below B3 (Nat.le_refl _)
    have C3 := C2.trans (B3.mono (by have := C2.size; omega))
    clear V2 hR2 C2 B3 HP x0 x1 x2 x3 x4 x5 x6 x7 x8 x9 x10
    obtain ⟨I, hID⟩ : ∃ I : World → Prop, I = fun wx => Vals wx X 29 #[.int .i64 k2, .slice p1 pn1 pc1, .int .i64 rt2, .int .i64 pl2, .int .i64 tr2, .int .i64 du2, .int .i64 st2, .slice p2 pn2 pc2, .int .i64 f2, .int .i64 t2, .slice p3 pn3 pc3] ∧ RAt wx p1 pn1 pc1 p2 pn2 pc2 p3 pn3 pc3 ⟨k2, ⟨l2, rt2, pl2, tr2, du2, st2⟩, m2, f2, t2, q2⟩ ∧ (X ≤ wx.heap.size ∧ Below X w wx) := ⟨_, rfl⟩
    have st' : Hid (Stable I) := by show Stable I; rw [hID]; exact (Stable.vals _ _ _).and ((Stable.rat _ _ _ _ _ _ _ _ _ _).and (Stable.below _ _))
    have gI : Hid (∀ wx, I wx → Vals wx X 29 #[.int .i64 k2, .slice p1 pn1 pc1, .int .i64 rt2, .int .i64 pl2, .int .i64 tr2, .int .i64 du2, .int .i64 st2, .slice p2 pn2 pc2, .int .i64 f2, .int .i64 t2, .slice p3 pn3 pc3] ∧ RAt wx p1 pn1 pc1 p2 pn2 pc2 p3 pn3 pc3 ⟨k2, ⟨l2, rt2, pl2, tr2, du2, st2⟩, m2, f2, t2, q2⟩ ∧ (X ≤ wx.heap.size ∧ Below X w wx)) := by intro wx h; rw [hID] at h; exact h
    have hI0 : I w3 := by rw [hID]; exact ⟨V3, hR3, hX ▸ C3.size, C3⟩
    have hId := st'.out.drew hI0
    haveI ne : Nonempty (Cls I) := ⟨⟨_, hId⟩⟩
    clear hID hI0 V3 hR3 C3
    have x0 : ∀ x : Cls I, x.w.cell? ⟨X, 0, none⟩ = some (.int .i64 k2) := fun x => (gI.out _ x.is).1.cell 0
    have x1 : ∀ x : Cls I, x.w.cell? ⟨X, 1, none⟩ = some (.slice p1 pn1 pc1) := fun x => (gI.out _ x.is).1.cell 1
    have x2 : ∀ x : Cls I, x.w.cell? ⟨X, 2, none⟩ = some (.int .i64 rt2) := fun x => (gI.out _ x.is).1.cell 2
    have x3 : ∀ x : Cls I, x.w.cell? ⟨X, 3, none⟩ = some (.int .i64 pl2) := fun x => (gI.out _ x.is).1.cell 3
    have x4 : ∀ x : Cls I, x.w.cell? ⟨X, 4, none⟩ = some (.int .i64 tr2) := fun x => (gI.out _ x.is).1.cell 4
    have x5 : ∀ x : Cls I, x.w.cell? ⟨X, 5, none⟩ = some (.int .i64 du2) := fun x => (gI.out _ x.is).1.cell 5
    have x6 : ∀ x : Cls I, x.w.cell? ⟨X, 6, none⟩ = some (.int .i64 st2) := fun x => (gI.out _ x.is).1.cell 6
    have x7 : ∀ x : Cls I, x.w.cell? ⟨X, 7, none⟩ = some (.slice p2 pn2 pc2) := fun x => (gI.out _ x.is).1.cell 7
    have x8 : ∀ x : Cls I, x.w.cell? ⟨X, 8, none⟩ = some (.int .i64 f2) := fun x => (gI.out _ x.is).1.cell 8
    have x9 : ∀ x : Cls I, x.w.cell? ⟨X, 9, none⟩ = some (.int .i64 t2) := fun x => (gI.out _ x.is).1.cell 9
    have x10 : ∀ x : Cls I, x.w.cell? ⟨X, 10, none⟩ = some (.slice p3 pn3 pc3) := fun x => (gI.out _ x.is).1.cell 10
    have K1 : Hid (∀ z : Cls I, Calls Try.prog 9 #[.agg #[.int .i64 k2, .slice p1 pn1 pc1, .int .i64 rt2, .int .i64 pl2, .int .i64 tr2, .int .i64 du2, .int .i64 st2, .slice p2 pn2 pc2, .int .i64 f2, .int .i64 t2, .slice p3 pn3 pc3]] z.w fun e w'' => e = .returned (.bool false) ∧ ∃ y : Cls I, w'' = y.w) := fun z => class_of st'.out (HR _ _ _ _ _ _ _ _ _ z.w (gI.out _ z.is).2.1)
    have K2 : Hid (∀ z : Cls I, Calls Try.prog 10 #[.agg #[.int .i64 k2, .slice p1 pn1 pc1, .int .i64 rt2, .int .i64 pl2, .int .i64 tr2, .int .i64 du2, .int .i64 st2, .slice p2 pn2 pc2, .int .i64 f2, .int .i64 t2, .slice p3 pn3 pc3]] z.w fun e w'' => e = .returned (.bool false) ∧ ∃ y : Cls I, w'' = y.w) := fun z => class_of st'.out (HQ _ _ _ _ _ _ _ _ _ z.w (gI.out _ z.is).2.1)
    have K3 : Hid (∀ z : Cls I, Calls Try.prog 11 #[] z.w fun e w'' => e = .returned (.bool true) ∧ ∃ y : Cls I, w'' = y.w) := fun z => class_of st'.out (alive_any z.w)
    clear HR
    refine wp_region_class I (by kernel_rfl) (by kernel_rfl) hId ?_
    iterate 2 (go_big_quiet_step (exact K1.out _))
    iterate 2 (go_big_quiet_step (exact K2.out _))
    iterate 5 (go_big_quiet_step (exact K3.out _))
    refine wpQuiet_nil ?_
    rintro _ ⟨xx, rfl⟩
    clear K1 K2 K3 hId x0 x1 x2 x3 x4 x5 x6 x7 x8 x9 x10
    obtain ⟨V5, hR5, hs5, C5⟩ := gI.out _ xx.is
    generalize xx.w = w5 at *
    clear ne gI st' xx I
    have x0 : w5.cell? ⟨X, 0, none⟩ = some (.int .i64 k2) := V5.cell 0
    have x1 : w5.cell? ⟨X, 1, none⟩ = some (.slice p1 pn1 pc1) := V5.cell 1
    have x2 : w5.cell? ⟨X, 2, none⟩ = some (.int .i64 rt2) := V5.cell 2
    have x3 : w5.cell? ⟨X, 3, none⟩ = some (.int .i64 pl2) := V5.cell 3
    have x4 : w5.cell? ⟨X, 4, none⟩ = some (.int .i64 tr2) := V5.cell 4
    have x5 : w5.cell? ⟨X, 5, none⟩ = some (.int .i64 du2) := V5.cell 5
    have x6 : w5.cell? ⟨X, 6, none⟩ = some (.int .i64 st2) := V5.cell 6
    have x7 : w5.cell? ⟨X, 7, none⟩ = some (.slice p2 pn2 pc2) := V5.cell 7
    have x8 : w5.cell? ⟨X, 8, none⟩ = some (.int .i64 f2) := V5.cell 8
    have x9 : w5.cell? ⟨X, 9, none⟩ = some (.int .i64 t2) := V5.cell 9
    have x10 : w5.cell? ⟨X, 10, none⟩ = some (.slice p3 pn3 pc3) := V5.cell 10
    go_wp2_with fail
    refine (HQ _ _ _ _ _ _ _ _ _ _ hR5).mono ?_
    rintro e w6 ⟨rfl, B6⟩
    have C6 := C5.trans (B6.mono hs5)
    go_wp2_with fail
    go_ret
    exact ⟨rfl, by rw [hX]; exact C6⟩
  | true =>
    rw [hyes rfl] at HP
    have HU1 := fun (p1 : Option Addr) (pn1 pc1 : Nat) (p2 : Option Addr) (pn2 pc2 : Nat) (p3 : Option Addr) (pn3 pc3 : Nat) w h => HU p1 pn1 pc1 p2 pn2 pc2 p3 pn3 pc3 w h rfl
    clear hno hyes
    go_wp2_with fail
    refine (HP _ _ _ _ _ _ _ _ _ _ hR2).mono ?_
    rintro e w3 ⟨rfl, B3⟩
    go_upto_region 3 with fail
    have V3 := V2.keep B3 (Nat.le_refl _)
    have hR3 := hR2.below B3 (Nat.le_refl _)
    have C3 := C2.trans (B3.mono (by have := C2.size; omega))
    clear V2 hR2 C2 B3 HP x0 x1 x2 x3 x4 x5 x6 x7 x8 x9 x10
    obtain ⟨I, hID⟩ : ∃ I : World → Prop, I = fun wx => Vals wx X 29 #[.int .i64 k2, .slice p1 pn1 pc1, .int .i64 rt2, .int .i64 pl2, .int .i64 tr2, .int .i64 du2, .int .i64 st2, .slice p2 pn2 pc2, .int .i64 f2, .int .i64 t2, .slice p3 pn3 pc3] ∧ RAt wx p1 pn1 pc1 p2 pn2 pc2 p3 pn3 pc3 ⟨k2, ⟨l2, rt2, pl2, tr2, du2, st2⟩, m2, f2, t2, q2⟩ ∧ (X ≤ wx.heap.size ∧ Below X w wx) := ⟨_, rfl⟩
    have st' : Hid (Stable I) := by show Stable I; rw [hID]; exact (Stable.vals _ _ _).and ((Stable.rat _ _ _ _ _ _ _ _ _ _).and (Stable.below _ _))
    have gI : Hid (∀ wx, I wx → Vals wx X 29 #[.int .i64 k2, .slice p1 pn1 pc1, .int .i64 rt2, .int .i64 pl2, .int .i64 tr2, .int .i64 du2, .int .i64 st2, .slice p2 pn2 pc2, .int .i64 f2, .int .i64 t2, .slice p3 pn3 pc3] ∧ RAt wx p1 pn1 pc1 p2 pn2 pc2 p3 pn3 pc3 ⟨k2, ⟨l2, rt2, pl2, tr2, du2, st2⟩, m2, f2, t2, q2⟩ ∧ (X ≤ wx.heap.size ∧ Below X w wx)) := by intro wx h; rw [hID] at h; exact h
    have hI0 : I w3 := by rw [hID]; exact ⟨V3, hR3, hX ▸ C3.size, C3⟩
    have hId := st'.out.drew hI0
    haveI ne : Nonempty (Cls I) := ⟨⟨_, hId⟩⟩
    clear hID hI0 V3 hR3 C3
    have x0 : ∀ x : Cls I, x.w.cell? ⟨X, 0, none⟩ = some (.int .i64 k2) := fun x => (gI.out _ x.is).1.cell 0
    have x1 : ∀ x : Cls I, x.w.cell? ⟨X, 1, none⟩ = some (.slice p1 pn1 pc1) := fun x => (gI.out _ x.is).1.cell 1
    have x2 : ∀ x : Cls I, x.w.cell? ⟨X, 2, none⟩ = some (.int .i64 rt2) := fun x => (gI.out _ x.is).1.cell 2
    have x3 : ∀ x : Cls I, x.w.cell? ⟨X, 3, none⟩ = some (.int .i64 pl2) := fun x => (gI.out _ x.is).1.cell 3
    have x4 : ∀ x : Cls I, x.w.cell? ⟨X, 4, none⟩ = some (.int .i64 tr2) := fun x => (gI.out _ x.is).1.cell 4
    have x5 : ∀ x : Cls I, x.w.cell? ⟨X, 5, none⟩ = some (.int .i64 du2) := fun x => (gI.out _ x.is).1.cell 5
    have x6 : ∀ x : Cls I, x.w.cell? ⟨X, 6, none⟩ = some (.int .i64 st2) := fun x => (gI.out _ x.is).1.cell 6
    have x7 : ∀ x : Cls I, x.w.cell? ⟨X, 7, none⟩ = some (.slice p2 pn2 pc2) := fun x => (gI.out _ x.is).1.cell 7
    have x8 : ∀ x : Cls I, x.w.cell? ⟨X, 8, none⟩ = some (.int .i64 f2) := fun x => (gI.out _ x.is).1.cell 8
    have x9 : ∀ x : Cls I, x.w.cell? ⟨X, 9, none⟩ = some (.int .i64 t2) := fun x => (gI.out _ x.is).1.cell 9
    have x10 : ∀ x : Cls I, x.w.cell? ⟨X, 10, none⟩ = some (.slice p3 pn3 pc3) := fun x => (gI.out _ x.is).1.cell 10
    have K1 : Hid (∀ z : Cls I, Calls Try.prog 9 #[.agg #[.int .i64 k2, .slice p1 pn1 pc1, .int .i64 rt2, .int .i64 pl2, .int .i64 tr2, .int .i64 du2, .int .i64 st2, .slice p2 pn2 pc2, .int .i64 f2, .int .i64 t2, .slice p3 pn3 pc3]] z.w fun e w'' => e = .returned (.bool true) ∧ ∃ y : Cls I, w'' = y.w) := fun z => class_of st'.out (HR _ _ _ _ _ _ _ _ _ z.w (gI.out _ z.is).2.1)
    have K2 : Hid (∀ z : Cls I, Calls Try.prog 10 #[.agg #[.int .i64 k2, .slice p1 pn1 pc1, .int .i64 rt2, .int .i64 pl2, .int .i64 tr2, .int .i64 du2, .int .i64 st2, .slice p2 pn2 pc2, .int .i64 f2, .int .i64 t2, .slice p3 pn3 pc3]] z.w fun e w'' => e = .returned (.bool true) ∧ ∃ y : Cls I, w'' = y.w) := fun z => class_of st'.out (HQ _ _ _ _ _ _ _ _ _ z.w (gI.out _ z.is).2.1)
    have K3 : Hid (∀ z : Cls I, Calls Try.prog 11 #[] z.w fun e w'' => e = .returned (.bool true) ∧ ∃ y : Cls I, w'' = y.w) := fun z => class_of st'.out (alive_any z.w)
    clear HR
    refine wp_region_class I (by kernel_rfl) (by kernel_rfl) hId ?_
    iterate 2 (go_big_quiet_step (exact K1.out _))
    iterate 2 (go_big_quiet_step (exact K2.out _))
    iterate 5 (go_big_quiet_step (exact K3.out _))
    refine wpQuiet_nil ?_
    rintro _ ⟨xx, rfl⟩
    clear K1 K2 K3 hId x0 x1 x2 x3 x4 x5 x6 x7 x8 x9 x10
    obtain ⟨V5, hR5, hs5, C5⟩ := gI.out _ xx.is
    generalize xx.w = w5 at *
    clear ne gI st' xx I
    have x0 : w5.cell? ⟨X, 0, none⟩ = some (.int .i64 k2) := V5.cell 0
    have x1 : w5.cell? ⟨X, 1, none⟩ = some (.slice p1 pn1 pc1) := V5.cell 1
    have x2 : w5.cell? ⟨X, 2, none⟩ = some (.int .i64 rt2) := V5.cell 2
    have x3 : w5.cell? ⟨X, 3, none⟩ = some (.int .i64 pl2) := V5.cell 3
    have x4 : w5.cell? ⟨X, 4, none⟩ = some (.int .i64 tr2) := V5.cell 4
    have x5 : w5.cell? ⟨X, 5, none⟩ = some (.int .i64 du2) := V5.cell 5
    have x6 : w5.cell? ⟨X, 6, none⟩ = some (.int .i64 st2) := V5.cell 6
    have x7 : w5.cell? ⟨X, 7, none⟩ = some (.slice p2 pn2 pc2) := V5.cell 7
    have x8 : w5.cell? ⟨X, 8, none⟩ = some (.int .i64 f2) := V5.cell 8
    have x9 : w5.cell? ⟨X, 9, none⟩ = some (.int .i64 t2) := V5.cell 9
    have x10 : w5.cell? ⟨X, 10, none⟩ = some (.slice p3 pn3 pc3) := V5.cell 10
    go_wp2_with fail
    refine (HQ _ _ _ _ _ _ _ _ _ _ hR5).mono ?_
    rintro e w6 ⟨rfl, B6⟩
    have C6 := C5.trans (B6.mono hs5)
    have V6 := V5.keep B6 (Nat.le_refl _)
    have hR6 := hR5.below B6 (Nat.le_refl _)
    clear V5 hR5 C5 B6 x0 x1 x2 x3 x4 x5 x6 x7 x8 x9 x10
    have x0 : w6.cell? ⟨X, 0, none⟩ = some (.int .i64 k2) := V6.cell 0
    have x1 : w6.cell? ⟨X, 1, none⟩ = some (.slice p1 pn1 pc1) := V6.cell 1
    have x2 : w6.cell? ⟨X, 2, none⟩ = some (.int .i64 rt2) := V6.cell 2
    have x3 : w6.cell? ⟨X, 3, none⟩ = some (.int .i64 pl2) := V6.cell 3
    have x4 : w6.cell? ⟨X, 4, none⟩ = some (.int .i64 tr2) := V6.cell 4
    have x5 : w6.cell? ⟨X, 5, none⟩ = some (.int .i64 du2) := V6.cell 5
    have x6 : w6.cell? ⟨X, 6, none⟩ = some (.int .i64 st2) := V6.cell 6
    have x7 : w6.cell? ⟨X, 7, none⟩ = some (.slice p2 pn2 pc2) := V6.cell 7
    have x8 : w6.cell? ⟨X, 8, none⟩ = some (.int .i64 f2) := V6.cell 8
    have x9 : w6.cell? ⟨X, 9, none⟩ = some (.int .i64 t2) := V6.cell 9
    have x10 : w6.cell? ⟨X, 10, none⟩ = some (.slice p3 pn3 pc3) := V6.cell 10
    go_wp2_with fail
    refine (HU1 _ _ _ _ _ _ _ _ _ _ hR6).mono ?_
    rintro e w7 ⟨rfl, B7⟩
    go_wp2_with fail
    go_ret
    exact ⟨rfl, by rw [hX]; exact C6.trans (B7.mono (by have := V6.lt; omega))⟩
end Go.Proofs.Ytopjiokbmpghjaa
