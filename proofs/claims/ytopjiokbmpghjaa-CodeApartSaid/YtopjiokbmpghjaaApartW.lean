/-
  The law's walk: CodeApart.
-/
import Derived.Test.YtopjiokbmpghjaaCodA
import Derived.Test.YtopjiokbmpghjaaLawC
import Derived.Deep.RegionHeld3
namespace Go.Proofs.Ytopjiokbmpghjaa
open Go.RowKit Go.Shelf
set_option linter.unusedVariables false
set_option linter.unusedSimpArgs false

theorem vals_eleven {w : World} {A E : Nat} {T : TypeId} {xs : Array Value} (h : Vals w A T xs) (hne : A ≠ E) (y0 y1 y2 y3 y4 y5 y6 y7 y8 y9 y10 : Value) : Vals ((((((((((((w.setCell ⟨E, 0, none⟩ y0).setCell ⟨E, 1, none⟩ y1).setCell ⟨E, 2, none⟩ y2).setCell ⟨E, 3, none⟩ y3).setCell ⟨E, 4, none⟩ y4).setCell ⟨E, 5, none⟩ y5).setCell ⟨E, 6, none⟩ y6).setCell ⟨E, 7, none⟩ y7).setCell ⟨E, 8, none⟩ y8).setCell ⟨E, 9, none⟩ y9).setCell ⟨E, 10, none⟩ y10)) A T xs :=
  ((((((((((h.other hne 0 y0).other hne 1 y1).other hne 2 y2).other hne 3 y3).other hne 4 y4).other hne 5 y5).other hne 6 y6).other hne 7 y7).other hne 8 y8).other hne 9 y9).other hne 10 y10
theorem put_apart {a b : Rc} (ha : recR a = true) (hb : recR b = true) : ((tx (putL a)).toList == (tx (putL b)).toList) = decide (a = b) := by
  rw [tx_beq, Bool.eq_iff_iff, decide_eq_true_eq, decide_eq_true_eq]
  exact ⟨fun h => put_inj ha hb h, fun h => by rw [h]⟩
set_option maxRecDepth 100000 in
set_option maxHeartbeats 25600000 in
theorem apart_walk (o1 : Option Addr) (on1 oc1 : Nat) (o2 : Option Addr) (on2 oc2 : Nat) (o3 : Option Addr) (on3 oc3 : Nat) (r : Rc) (u1 : Option Addr) (un1 uc1 : Nat) (u2 : Option Addr) (un2 uc2 : Nat) (u3 : Option Addr) (un3 uc3 : Nat) (rb : Rc) (w : World) (h : RIn w o1 on1 oc1 o2 on2 oc2 o3 on3 oc3 r) (hb : RIn w u1 un1 uc1 u2 un2 uc2 u3 un3 uc3 rb) :
    Calls Try.prog 6 #[aggRc o1 on1 oc1 o2 on2 oc2 o3 on3 oc3 r, aggRc u1 un1 uc1 u2 un2 uc2 u3 un3 uc3 rb] w fun e w' => e = .returned (.bool true) ∧ Below w.heap.size w w' := by
  have HF := fun w h => few17_any o1 on1 oc1 o2 on2 oc2 o3 on3 oc3 r w h
  have HFb := fun w h => few17_any u1 un1 uc1 u2 un2 uc2 u3 un3 uc3 rb w h
  obtain ⟨r2, hr2⟩ : ∃ r2, fewR r = r2 := ⟨_, rfl⟩
  obtain ⟨r4, hr4⟩ : ∃ r4, fewR rb = r4 := ⟨_, rfl⟩
  rw [hr2] at HF
  rw [hr4] at HFb
  clear hr2 hr4
  have HP := fun (p1 : Option Addr) (pn1 pc1 : Nat) (p2 : Option Addr) (pn2 pc2 : Nat) (p3 : Option Addr) (pn3 pc3 : Nat) w h => cput_any p1 pn1 pc1 p2 pn2 pc2 p3 pn3 pc3 r2 w h
  have HPb := fun (z1 : Option Addr) (zn1 zc1 : Nat) (z2 : Option Addr) (zn2 zc2 : Nat) (z3 : Option Addr) (zn3 zc3 : Nat) w h => cput_any z1 zn1 zc1 z2 zn2 zc2 z3 zn3 zc3 r4 w h
  have HS := fun (p1 : Option Addr) (pn1 pc1 : Nat) (p2 : Option Addr) (pn2 pc2 : Nat) (p3 : Option Addr) (pn3 pc3 : Nat) (z1 : Option Addr) (zn1 zc1 : Nat) (z2 : Option Addr) (zn2 zc2 : Nat) (z3 : Option Addr) (zn3 zc3 : Nat) w h h' => sameRc_any p1 pn1 pc1 p2 pn2 pc2 p3 pn3 pc3 r2 z1 zn1 zc1 z2 zn2 zc2 z3 zn3 zc3 r4 w h h'
  have hno := fun h => putV_no (r := r2) h
  have hyes := fun h => putV_yes (r := r2) h
  have hnob := fun h => putV_no (r := r4) h
  have hyesb := fun h => putV_yes (r := r4) h
  have HD := Lib.hid (fun ha hb => put_apart (a := r2) (b := r4) ha hb)
  obtain ⟨B, hB⟩ : ∃ B, recR r2 = B := ⟨_, rfl⟩
  obtain ⟨Bb, hBb⟩ : ∃ Bb, recR r4 = Bb := ⟨_, rfl⟩
  rw [hB] at hno hyes HD
  rw [hBb] at hnob hyesb HD
  clear hB hBb
  generalize decide (r2 = r4) = D at *
  generalize putV r2 = pv at *
  generalize putV r4 = pvb at *
  generalize tx (putL r2) = tp at *
  generalize tx (putL r4) = tpb at *
  obtain ⟨k, ⟨l, rt, pl, tr, du, st⟩, m, f, t, q⟩ := r
  obtain ⟨kb, ⟨lb, rtb, plb, trb, dub, stb⟩, mb, fb, tb, qb⟩ := rb
  obtain ⟨k2, ⟨l2, rt2, pl2, tr2, du2, st2⟩, m2, f2, t2, q2⟩ := r2
  obtain ⟨k4, ⟨l4, rt4, pl4, tr4, du4, st4⟩, m4, f4, t4, q4⟩ := r4
  dsimp only [aggRc, recV] at *
  have VX := (Vals.new w 29 #[.int .i64 k, .slice o1 on1 oc1, .int .i64 rt, .int .i64 pl, .int .i64 tr, .int .i64 du, .int .i64 st, .slice o2 on2 oc2, .int .i64 f, .int .i64 t, .slice o3 on3 oc3]).alloc (.cells #[.int .i64 kb, .slice u1 un1 uc1, .int .i64 rtb, .int .i64 plb, .int .i64 trb, .int .i64 dub, .int .i64 stb, .slice u2 un2 uc2, .int .i64 fb, .int .i64 tb, .slice u3 un3 uc3] 29)
  have VY := Vals.new (w.alloc (.cells #[.int .i64 k, .slice o1 on1 oc1, .int .i64 rt, .int .i64 pl, .int .i64 tr, .int .i64 du, .int .i64 st, .slice o2 on2 oc2, .int .i64 f, .int .i64 t, .slice o3 on3 oc3] 29)) 29 #[.int .i64 kb, .slice u1 un1 uc1, .int .i64 rtb, .int .i64 plb, .int .i64 trb, .int .i64 dub, .int .i64 stb, .slice u2 un2 uc2, .int .i64 fb, .int .i64 tb, .slice u3 un3 uc3]
  rw [World.size_alloc] at VY
  have B0 := ((Below.refl w.heap.size w).alloc (Nat.le_refl _) (.cells #[.int .i64 k, .slice o1 on1 oc1, .int .i64 rt, .int .i64 pl, .int .i64 tr, .int .i64 du, .int .i64 st, .slice o2 on2 oc2, .int .i64 f, .int .i64 t, .slice o3 on3 oc3] 29)).alloc (by rw [World.size_alloc]; omega) (.cells #[.int .i64 kb, .slice u1 un1 uc1, .int .i64 rtb, .int .i64 plb, .int .i64 trb, .int .i64 dub, .int .i64 stb, .slice u2 un2 uc2, .int .i64 fb, .int .i64 tb, .slice u3 un3 uc3] 29)
  have hI := h.below B0 (Nat.le_refl _)
  have hIb := hb.below B0 (Nat.le_refl _)
  clear h hb
  go_enter Try.func6, Try.ntmps6
  go_upto_region 1 with fail
  generalize (w.alloc _).alloc _ = W at *
  generalize hX : w.heap.size = X at *
  generalize hY : X + 1 = Y at *
  have hXY : X ≠ Y := by omega
  have HF1 := HF W.drew (hI.below (Below.refl _ W).drew (Nat.le_refl _))
  have hIb1 := hIb.below (Below.refl _ W).drew (Nat.le_refl _)
  have VXd : Vals W.drew X 29 #[.int .i64 k, .slice o1 on1 oc1, .int .i64 rt, .int .i64 pl, .int .i64 tr, .int .i64 du, .int .i64 st, .slice o2 on2 oc2, .int .i64 f, .int .i64 t, .slice o3 on3 oc3] := VX
  have VYd : Vals W.drew Y 29 #[.int .i64 kb, .slice u1 un1 uc1, .int .i64 rtb, .int .i64 plb, .int .i64 trb, .int .i64 dub, .int .i64 stb, .slice u2 un2 uc2, .int .i64 fb, .int .i64 tb, .slice u3 un3 uc3] := VY
  have Bd0 := B0.drew
  have hX0 : X ≤ W.drew.heap.size := by have := VX.lt; show X ≤ W.heap.size; omega
  clear HF hI hIb VX VY B0
  have x0 : W.drew.cell? ⟨X, 0, none⟩ = some (.int .i64 k) := VXd.cell 0
  have x1 : W.drew.cell? ⟨X, 1, none⟩ = some (.slice o1 on1 oc1) := VXd.cell 1
  have x2 : W.drew.cell? ⟨X, 2, none⟩ = some (.int .i64 rt) := VXd.cell 2
  have x3 : W.drew.cell? ⟨X, 3, none⟩ = some (.int .i64 pl) := VXd.cell 3
  have x4 : W.drew.cell? ⟨X, 4, none⟩ = some (.int .i64 tr) := VXd.cell 4
  have x5 : W.drew.cell? ⟨X, 5, none⟩ = some (.int .i64 du) := VXd.cell 5
  have x6 : W.drew.cell? ⟨X, 6, none⟩ = some (.int .i64 st) := VXd.cell 6
  have x7 : W.drew.cell? ⟨X, 7, none⟩ = some (.slice o2 on2 oc2) := VXd.cell 7
  have x8 : W.drew.cell? ⟨X, 8, none⟩ = some (.int .i64 f) := VXd.cell 8
  have x9 : W.drew.cell? ⟨X, 9, none⟩ = some (.int .i64 t) := VXd.cell 9
  have x10 : W.drew.cell? ⟨X, 10, none⟩ = some (.slice o3 on3 oc3) := VXd.cell 10
  have y0 : W.drew.cell? ⟨Y, 0, none⟩ = some (.int .i64 kb) := VYd.cell 0
  have y1 : W.drew.cell? ⟨Y, 1, none⟩ = some (.slice u1 un1 uc1) := VYd.cell 1
  have y2 : W.drew.cell? ⟨Y, 2, none⟩ = some (.int .i64 rtb) := VYd.cell 2
  have y3 : W.drew.cell? ⟨Y, 3, none⟩ = some (.int .i64 plb) := VYd.cell 3
  have y4 : W.drew.cell? ⟨Y, 4, none⟩ = some (.int .i64 trb) := VYd.cell 4
  have y5 : W.drew.cell? ⟨Y, 5, none⟩ = some (.int .i64 dub) := VYd.cell 5
  have y6 : W.drew.cell? ⟨Y, 6, none⟩ = some (.int .i64 stb) := VYd.cell 6
  have y7 : W.drew.cell? ⟨Y, 7, none⟩ = some (.slice u2 un2 uc2) := VYd.cell 7
  have y8 : W.drew.cell? ⟨Y, 8, none⟩ = some (.int .i64 fb) := VYd.cell 8
  have y9 : W.drew.cell? ⟨Y, 9, none⟩ = some (.int .i64 tb) := VYd.cell 9
  have y10 : W.drew.cell? ⟨Y, 10, none⟩ = some (.slice u3 un3 uc3) := VYd.cell 10
  go_cut [] (fun W8 => ∃ p1 pn1 pc1 p2 pn2 pc2 p3 pn3 pc3 z1 zn1 zc1 z2 zn2 zc2 z3 zn3 zc3, RAt W8 p1 pn1 pc1 p2 pn2 pc2 p3 pn3 pc3 (⟨k2, ⟨l2, rt2, pl2, tr2, du2, st2⟩, m2, f2, t2, q2⟩ : Rc) ∧ RAt W8 z1 zn1 zc1 z2 zn2 zc2 z3 zn3 zc3 (⟨k4, ⟨l4, rt4, pl4, tr4, du4, st4⟩, m4, f4, t4, q4⟩ : Rc) ∧ Vals W8 X 29 #[.int .i64 k2, .slice p1 pn1 pc1, .int .i64 rt2, .int .i64 pl2, .int .i64 tr2, .int .i64 du2, .int .i64 st2, .slice p2 pn2 pc2, .int .i64 f2, .int .i64 t2, .slice p3 pn3 pc3] ∧ Vals W8 Y 29 #[.int .i64 k4, .slice z1 zn1 zc1, .int .i64 rt4, .int .i64 pl4, .int .i64 tr4, .int .i64 du4, .int .i64 st4, .slice z2 zn2 zc2, .int .i64 f4, .int .i64 t4, .slice z3 zn3 zc3] ∧ Below X w W8)
  case first =>
    first
      | (go_region_with (first | (go_at_call 7; refine (HFb _ hIb2).mono ?_; rintro e w2 ⟨⟨z1, zn1, zc1, z2, zn2, zc2, z3, zn3, zc3, rfl, hRb⟩, B2⟩; have VX2 := VX1.keep B2 (Nat.le_refl _); have VY2 := VY1.keep B2 (Nat.le_refl _); have hRa2 := hRa.below B2 (Nat.le_refl _); have C2 := C1.trans (B2.mono hs1); have VY3 := vals_eleven VY2 hXY.symm (.int .i64 k2) (.slice p1 pn1 pc1) (.int .i64 rt2) (.int .i64 pl2) (.int .i64 tr2) (.int .i64 du2) (.int .i64 st2) (.slice p2 pn2 pc2) (.int .i64 f2) (.int .i64 t2) (.slice p3 pn3 pc3); have a0 : w2.cell? ⟨X, 0, none⟩ = some (.int .i64 k) := VX2.cell 0; have a1 : w2.cell? ⟨X, 1, none⟩ = some (.slice o1 on1 oc1) := VX2.cell 1; have a2 : w2.cell? ⟨X, 2, none⟩ = some (.int .i64 rt) := VX2.cell 2; have a3 : w2.cell? ⟨X, 3, none⟩ = some (.int .i64 pl) := VX2.cell 3; have a4 : w2.cell? ⟨X, 4, none⟩ = some (.int .i64 tr) := VX2.cell 4; have a5 : w2.cell? ⟨X, 5, none⟩ = some (.int .i64 du) := VX2.cell 5; have a6 : w2.cell? ⟨X, 6, none⟩ = some (.int .i64 st) := VX2.cell 6; have a7 : w2.cell? ⟨X, 7, none⟩ = some (.slice o2 on2 oc2) := VX2.cell 7; have a8 : w2.cell? ⟨X, 8, none⟩ = some (.int .i64 f) := VX2.cell 8; have a9 : w2.cell? ⟨X, 9, none⟩ = some (.int .i64 t) := VX2.cell 9; have a10 : w2.cell? ⟨X, 10, none⟩ = some (.slice o3 on3 oc3) := VX2.cell 10; have b0 := VX2.free 0; have b1 := VX2.free 1; have b2 := VX2.free 2; have b3 := VX2.free 3; have b4 := VX2.free 4; have b5 := VX2.free 5; have b6 := VX2.free 6; have b7 := VX2.free 7; have b8 := VX2.free 8; have b9 := VX2.free 9; have b10 := VX2.free 10; have d0 : ((((((((((((w2.setCell ⟨X, 0, none⟩ (.int .i64 k2)).setCell ⟨X, 1, none⟩ (.slice p1 pn1 pc1)).setCell ⟨X, 2, none⟩ (.int .i64 rt2)).setCell ⟨X, 3, none⟩ (.int .i64 pl2)).setCell ⟨X, 4, none⟩ (.int .i64 tr2)).setCell ⟨X, 5, none⟩ (.int .i64 du2)).setCell ⟨X, 6, none⟩ (.int .i64 st2)).setCell ⟨X, 7, none⟩ (.slice p2 pn2 pc2)).setCell ⟨X, 8, none⟩ (.int .i64 f2)).setCell ⟨X, 9, none⟩ (.int .i64 t2)).setCell ⟨X, 10, none⟩ (.slice p3 pn3 pc3))).cell? ⟨Y, 0, none⟩ = some (.int .i64 kb) := VY3.cell 0; have d1 : ((((((((((((w2.setCell ⟨X, 0, none⟩ (.int .i64 k2)).setCell ⟨X, 1, none⟩ (.slice p1 pn1 pc1)).setCell ⟨X, 2, none⟩ (.int .i64 rt2)).setCell ⟨X, 3, none⟩ (.int .i64 pl2)).setCell ⟨X, 4, none⟩ (.int .i64 tr2)).setCell ⟨X, 5, none⟩ (.int .i64 du2)).setCell ⟨X, 6, none⟩ (.int .i64 st2)).setCell ⟨X, 7, none⟩ (.slice p2 pn2 pc2)).setCell ⟨X, 8, none⟩ (.int .i64 f2)).setCell ⟨X, 9, none⟩ (.int .i64 t2)).setCell ⟨X, 10, none⟩ (.slice p3 pn3 pc3))).cell? ⟨Y, 1, none⟩ = some (.slice u1 un1 uc1) := VY3.cell 1; have d2 : ((((((((((((w2.setCell ⟨X, 0, none⟩ (.int .i64 k2)).setCell ⟨X, 1, none⟩ (.slice p1 pn1 pc1)).setCell ⟨X, 2, none⟩ (.int .i64 rt2)).setCell ⟨X, 3, none⟩ (.int .i64 pl2)).setCell ⟨X, 4, none⟩ (.int .i64 tr2)).setCell ⟨X, 5, none⟩ (.int .i64 du2)).setCell ⟨X, 6, none⟩ (.int .i64 st2)).setCell ⟨X, 7, none⟩ (.slice p2 pn2 pc2)).setCell ⟨X, 8, none⟩ (.int .i64 f2)).setCell ⟨X, 9, none⟩ (.int .i64 t2)).setCell ⟨X, 10, none⟩ (.slice p3 pn3 pc3))).cell? ⟨Y, 2, none⟩ = some (.int .i64 rtb) := VY3.cell 2; have d3 : ((((((((((((w2.setCell ⟨X, 0, none⟩ (.int .i64 k2)).setCell ⟨X, 1, none⟩ (.slice p1 pn1 pc1)).setCell ⟨X, 2, none⟩ (.int .i64 rt2)).setCell ⟨X, 3, none⟩ (.int .i64 pl2)).setCell ⟨X, 4, none⟩ (.int .i64 tr2)).setCell ⟨X, 5, none⟩ (.int .i64 du2)).setCell ⟨X, 6, none⟩ (.int .i64 st2)).setCell ⟨X, 7, none⟩ (.slice p2 pn2 pc2)).setCell ⟨X, 8, none⟩ (.int .i64 f2)).setCell ⟨X, 9, none⟩ (.int .i64 t2)).setCell ⟨X, 10, none⟩ (.slice p3 pn3 pc3))).cell? ⟨Y, 3, none⟩ = some (.int .i64 plb) := VY3.cell 3; have d4 : ((((((((((((w2.setCell ⟨X, 0, none⟩ (.int .i64 k2)).setCell ⟨X, 1, none⟩ (.slice p1 pn1 pc1)).setCell ⟨X, 2, none⟩ (.int .i64 rt2)).setCell ⟨X, 3, none⟩ (.int .i64 pl2)).setCell ⟨X, 4, none⟩ (.int .i64 tr2)).setCell ⟨X, 5, none⟩ (.int .i64 du2)).setCell ⟨X, 6, none⟩ (.int .i64 st2)).setCell ⟨X, 7, none⟩ (.slice p2 pn2 pc2)).setCell ⟨X, 8, none⟩ (.int .i64 f2)).setCell ⟨X, 9, none⟩ (.int .i64 t2)).setCell ⟨X, 10, none⟩ (.slice p3 pn3 pc3))).cell? ⟨Y, 4, none⟩ = some (.int .i64 trb) := VY3.cell 4; have d5 : ((((((((((((w2.setCell ⟨X, 0, none⟩ (.int .i64 k2)).setCell ⟨X, 1, none⟩ (.slice p1 pn1 pc1)).setCell ⟨X, 2, none⟩ (.int .i64 rt2)).setCell ⟨X, 3, none⟩ (.int .i64 pl2)).setCell ⟨X, 4, none⟩ (.int .i64 tr2)).setCell ⟨X, 5, none⟩ (.int .i64 du2)).setCell ⟨X, 6, none⟩ (.int .i64 st2)).setCell ⟨X, 7, none⟩ (.slice p2 pn2 pc2)).setCell ⟨X, 8, none⟩ (.int .i64 f2)).setCell ⟨X, 9, none⟩ (.int .i64 t2)).setCell ⟨X, 10, none⟩ (.slice p3 pn3 pc3))).cell? ⟨Y, 5, none⟩ = some (.int .i64 dub) := VY3.cell 5; have d6 : ((((((((((((w2.setCell ⟨X, 0, none⟩ (.int .i64 k2)).setCell ⟨X, 1, none⟩ (.slice p1 pn1 pc1)).setCell ⟨X, 2, none⟩ (.int .i64 rt2)).setCell ⟨X, 3, none⟩ (.int .i64 pl2)).setCell ⟨X, 4, none⟩ (.int .i64 tr2)).setCell ⟨X, 5, none⟩ (.int .i64 du2)).setCell ⟨X, 6, none⟩ (.int .i64 st2)).setCell ⟨X, 7, none⟩ (.slice p2 pn2 pc2)).setCell ⟨X, 8, none⟩ (.int .i64 f2)).setCell ⟨X, 9, none⟩ (.int .i64 t2)).setCell ⟨X, 10, none⟩ (.slice p3 pn3 pc3))).cell? ⟨Y, 6, none⟩ = some (.int .i64 stb) := VY3.cell 6; have d7 : ((((((((((((w2.setCell ⟨X, 0, none⟩ (.int .i64 k2)).setCell ⟨X, 1, none⟩ (.slice p1 pn1 pc1)).setCell ⟨X, 2, none⟩ (.int .i64 rt2)).setCell ⟨X, 3, none⟩ (.int .i64 pl2)).setCell ⟨X, 4, none⟩ (.int .i64 tr2)).setCell ⟨X, 5, none⟩ (.int .i64 du2)).setCell ⟨X, 6, none⟩ (.int .i64 st2)).setCell ⟨X, 7, none⟩ (.slice p2 pn2 pc2)).setCell ⟨X, 8, none⟩ (.int .i64 f2)).setCell ⟨X, 9, none⟩ (.int .i64 t2)).setCell ⟨X, 10, none⟩ (.slice p3 pn3 pc3))).cell? ⟨Y, 7, none⟩ = some (.slice u2 un2 uc2) := VY3.cell 7; have d8 : ((((((((((((w2.setCell ⟨X, 0, none⟩ (.int .i64 k2)).setCell ⟨X, 1, none⟩ (.slice p1 pn1 pc1)).setCell ⟨X, 2, none⟩ (.int .i64 rt2)).setCell ⟨X, 3, none⟩ (.int .i64 pl2)).setCell ⟨X, 4, none⟩ (.int .i64 tr2)).setCell ⟨X, 5, none⟩ (.int .i64 du2)).setCell ⟨X, 6, none⟩ (.int .i64 st2)).setCell ⟨X, 7, none⟩ (.slice p2 pn2 pc2)).setCell ⟨X, 8, none⟩ (.int .i64 f2)).setCell ⟨X, 9, none⟩ (.int .i64 t2)).setCell ⟨X, 10, none⟩ (.slice p3 pn3 pc3))).cell? ⟨Y, 8, none⟩ = some (.int .i64 fb) := VY3.cell 8; have d9 : ((((((((((((w2.setCell ⟨X, 0, none⟩ (.int .i64 k2)).setCell ⟨X, 1, none⟩ (.slice p1 pn1 pc1)).setCell ⟨X, 2, none⟩ (.int .i64 rt2)).setCell ⟨X, 3, none⟩ (.int .i64 pl2)).setCell ⟨X, 4, none⟩ (.int .i64 tr2)).setCell ⟨X, 5, none⟩ (.int .i64 du2)).setCell ⟨X, 6, none⟩ (.int .i64 st2)).setCell ⟨X, 7, none⟩ (.slice p2 pn2 pc2)).setCell ⟨X, 8, none⟩ (.int .i64 f2)).setCell ⟨X, 9, none⟩ (.int .i64 t2)).setCell ⟨X, 10, none⟩ (.slice p3 pn3 pc3))).cell? ⟨Y, 9, none⟩ = some (.int .i64 tb) := VY3.cell 9; have d10 : ((((((((((((w2.setCell ⟨X, 0, none⟩ (.int .i64 k2)).setCell ⟨X, 1, none⟩ (.slice p1 pn1 pc1)).setCell ⟨X, 2, none⟩ (.int .i64 rt2)).setCell ⟨X, 3, none⟩ (.int .i64 pl2)).setCell ⟨X, 4, none⟩ (.int .i64 tr2)).setCell ⟨X, 5, none⟩ (.int .i64 du2)).setCell ⟨X, 6, none⟩ (.int .i64 st2)).setCell ⟨X, 7, none⟩ (.slice p2 pn2 pc2)).setCell ⟨X, 8, none⟩ (.int .i64 f2)).setCell ⟨X, 9, none⟩ (.int .i64 t2)).setCell ⟨X, 10, none⟩ (.slice p3 pn3 pc3))).cell? ⟨Y, 10, none⟩ = some (.slice u3 un3 uc3) := VY3.cell 10; have e0 := VY3.free 0; have e1 := VY3.free 1; have e2 := VY3.free 2; have e3 := VY3.free 3; have e4 := VY3.free 4; have e5 := VY3.free 5; have e6 := VY3.free 6; have e7 := VY3.free 7; have e8 := VY3.free 8; have e9 := VY3.free 9; have e10 := VY3.free 10) | (go_at_call 7; refine HF1.mono ?_; rintro e w1 ⟨⟨p1, pn1, pc1, p2, pn2, pc2, p3, pn3, pc3, rfl, hRa⟩, B1⟩; have VX1 := Vals.keep (w := W.drew) VXd B1 (Nat.le_refl _); have VY1 := Vals.keep (w := W.drew) VYd B1 (Nat.le_refl _); have C1 := Bd0.trans (B1.mono hX0); have hs1 : X ≤ w1.heap.size := Nat.le_trans hX0 B1.size; have hIb2 := hIb1.below B1 (Nat.le_refl _); have c0 : w1.cell? ⟨Y, 0, none⟩ = some (.int .i64 kb) := VY1.cell 0; have c1 : w1.cell? ⟨Y, 1, none⟩ = some (.slice u1 un1 uc1) := VY1.cell 1; have c2 : w1.cell? ⟨Y, 2, none⟩ = some (.int .i64 rtb) := VY1.cell 2; have c3 : w1.cell? ⟨Y, 3, none⟩ = some (.int .i64 plb) := VY1.cell 3; have c4 : w1.cell? ⟨Y, 4, none⟩ = some (.int .i64 trb) := VY1.cell 4; have c5 : w1.cell? ⟨Y, 5, none⟩ = some (.int .i64 dub) := VY1.cell 5; have c6 : w1.cell? ⟨Y, 6, none⟩ = some (.int .i64 stb) := VY1.cell 6; have c7 : w1.cell? ⟨Y, 7, none⟩ = some (.slice u2 un2 uc2) := VY1.cell 7; have c8 : w1.cell? ⟨Y, 8, none⟩ = some (.int .i64 fb) := VY1.cell 8; have c9 : w1.cell? ⟨Y, 9, none⟩ = some (.int .i64 tb) := VY1.cell 9; have c10 : w1.cell? ⟨Y, 10, none⟩ = some (.slice u3 un3 uc3) := VY1.cell 10)))
      | fail
    all_goals
      have VX3 := VX2.eleven (.int .i64 k2) (.slice p1 pn1 pc1) (.int .i64 rt2) (.int .i64 pl2) (.int .i64 tr2) (.int .i64 du2) (.int .i64 st2) (.slice p2 pn2 pc2) (.int .i64 f2) (.int .i64 t2) (.slice p3 pn3 pc3)
      have hO := (((((((((((OnlyAt.refl X w2).set 0 (.int .i64 k2)).set 1 (.slice p1 pn1 pc1)).set 2 (.int .i64 rt2)).set 3 (.int .i64 pl2)).set 4 (.int .i64 tr2)).set 5 (.int .i64 du2)).set 6 (.int .i64 st2)).set 7 (.slice p2 pn2 pc2)).set 8 (.int .i64 f2)).set 9 (.int .i64 t2)).set 10 (.slice p3 pn3 pc3)
      have hRa3 := hO.rec hRa2 VX2 (rec_no_text _ _ _ _ _ _ _ _ _ _ _ _ _ _ _ _ _)
      have hRb3 := hO.rec hRb VX2 (rec_no_text _ _ _ _ _ _ _ _ _ _ _ _ _ _ _ _ _)
      have C3 := below_eleven C2 (Nat.le_refl X) (.int .i64 k2) (.slice p1 pn1 pc1) (.int .i64 rt2) (.int .i64 pl2) (.int .i64 tr2) (.int .i64 du2) (.int .i64 st2) (.slice p2 pn2 pc2) (.int .i64 f2) (.int .i64 t2) (.slice p3 pn3 pc3)
      clear hO VX2 VY2 hRa2 hRb C2 x0 x1 x2 x3 x4 x5 x6 x7 x8 x9 x10 y0 y1 y2 y3 y4 y5 y6 y7 y8 y9 y10 c0 c1 c2 c3 c4 c5 c6 c7 c8 c9 c10 a0 a1 a2 a3 a4 a5 a6 a7 a8 a9 a10 b0 b1 b2 b3 b4 b5 b6 b7 b8 b9 b10 d0 d1 d2 d3 d4 d5 d6 d7 d8 d9 d10 e0 e1 e2 e3 e4 e5 e6 e7 e8 e9 e10
      generalize (((((((((((w2.setCell ⟨X, 0, none⟩ (.int .i64 k2)).setCell ⟨X, 1, none⟩ (.slice p1 pn1 pc1)).setCell ⟨X, 2, none⟩ (.int .i64 rt2)).setCell ⟨X, 3, none⟩ (.int .i64 pl2)).setCell ⟨X, 4, none⟩ (.int .i64 tr2)).setCell ⟨X, 5, none⟩ (.int .i64 du2)).setCell ⟨X, 6, none⟩ (.int .i64 st2)).setCell ⟨X, 7, none⟩ (.slice p2 pn2 pc2)).setCell ⟨X, 8, none⟩ (.int .i64 f2)).setCell ⟨X, 9, none⟩ (.int .i64 t2)).setCell ⟨X, 10, none⟩ (.slice p3 pn3 pc3)) = w3 at *
      have VY4 := VY3.eleven (.int .i64 k4) (.slice z1 zn1 zc1) (.int .i64 rt4) (.int .i64 pl4) (.int .i64 tr4) (.int .i64 du4) (.int .i64 st4) (.slice z2 zn2 zc2) (.int .i64 f4) (.int .i64 t4) (.slice z3 zn3 zc3)
      have hO := (((((((((((OnlyAt.refl Y w3).set 0 (.int .i64 k4)).set 1 (.slice z1 zn1 zc1)).set 2 (.int .i64 rt4)).set 3 (.int .i64 pl4)).set 4 (.int .i64 tr4)).set 5 (.int .i64 du4)).set 6 (.int .i64 st4)).set 7 (.slice z2 zn2 zc2)).set 8 (.int .i64 f4)).set 9 (.int .i64 t4)).set 10 (.slice z3 zn3 zc3)
      have hRa4 := hO.rec hRa3 VY3 (rec_no_text _ _ _ _ _ _ _ _ _ _ _ _ _ _ _ _ _)
      have hRb4 := hO.rec hRb3 VY3 (rec_no_text _ _ _ _ _ _ _ _ _ _ _ _ _ _ _ _ _)
      have VX4 := vals_eleven VX3 hXY (.int .i64 k4) (.slice z1 zn1 zc1) (.int .i64 rt4) (.int .i64 pl4) (.int .i64 tr4) (.int .i64 du4) (.int .i64 st4) (.slice z2 zn2 zc2) (.int .i64 f4) (.int .i64 t4) (.slice z3 zn3 zc3)
      have C4 := below_eleven C3 (by omega : X ≤ Y) (.int .i64 k4) (.slice z1 zn1 zc1) (.int .i64 rt4) (.int .i64 pl4) (.int .i64 tr4) (.int .i64 du4) (.int .i64 st4) (.slice z2 zn2 zc2) (.int .i64 f4) (.int .i64 t4) (.slice z3 zn3 zc3)
      clear hO VX3 VY3 hRa3 hRb3 C3
      go_wp2_with fail
      go_meet
      case rel => exact ⟨p1, pn1, pc1, p2, pn2, pc2, p3, pn3, pc3, z1, zn1, zc1, z2, zn2, zc2, z3, zn3, zc3, hRa4, hRb4, VX4, VY4, C4⟩
  case rest =>
    obtain ⟨p1, pn1, pc1, p2, pn2, pc2, p3, pn3, pc3, z1, zn1, zc1, z2, zn2, zc2, z3, zn3, zc3, hRa, hRb, VX, VY, C⟩ := hcut
    clear HF1 HFb hIb1 VXd VYd Bd0 hX0 x0 x1 x2 x3 x4 x5 x6 x7 x8 x9 x10 y0 y1 y2 y3 y4 y5 y6 y7 y8 y9 y10
    have hs : X ≤ wc.heap.size := by have := VX.lt; omega
    generalize wc = w2 at *
    have x0 : w2.cell? ⟨X, 0, none⟩ = some (.int .i64 k2) := VX.cell 0
    have x1 : w2.cell? ⟨X, 1, none⟩ = some (.slice p1 pn1 pc1) := VX.cell 1
    have x2 : w2.cell? ⟨X, 2, none⟩ = some (.int .i64 rt2) := VX.cell 2
    have x3 : w2.cell? ⟨X, 3, none⟩ = some (.int .i64 pl2) := VX.cell 3
    have x4 : w2.cell? ⟨X, 4, none⟩ = some (.int .i64 tr2) := VX.cell 4
    have x5 : w2.cell? ⟨X, 5, none⟩ = some (.int .i64 du2) := VX.cell 5
    have x6 : w2.cell? ⟨X, 6, none⟩ = some (.int .i64 st2) := VX.cell 6
    have x7 : w2.cell? ⟨X, 7, none⟩ = some (.slice p2 pn2 pc2) := VX.cell 7
    have x8 : w2.cell? ⟨X, 8, none⟩ = some (.int .i64 f2) := VX.cell 8
    have x9 : w2.cell? ⟨X, 9, none⟩ = some (.int .i64 t2) := VX.cell 9
    have x10 : w2.cell? ⟨X, 10, none⟩ = some (.slice p3 pn3 pc3) := VX.cell 10
    cases B with
    | false =>
      rw [hno rfl] at HP
      go_wp2_with fail
      refine (HP _ _ _ _ _ _ _ _ _ _ hRa).mono ?_
      rintro e w3 ⟨rfl, B3⟩
      go_upto_region 3 with fail
      have VX3 := VX.keep B3 (Nat.le_refl _)
      have VY3 := VY.keep B3 (Nat.le_refl _)
      have hRa3 := hRa.below B3 (Nat.le_refl _)
      have hRb3 := hRb.below B3 (Nat.le_refl _)
      have C3 := C.trans (B3.mono hs)
      have hs3 : X ≤ w3.heap.size := Nat.le_trans hs B3.size
      clear VX VY hRa hRb C hs B3 HP hno hyes x0 x1 x2 x3 x4 x5 x6 x7 x8 x9 x10
      have y0 : w3.cell? ⟨Y, 0, none⟩ = some (.int .i64 k4) := VY3.cell 0
      have y1 : w3.cell? ⟨Y, 1, none⟩ = some (.slice z1 zn1 zc1) := VY3.cell 1
      have y2 : w3.cell? ⟨Y, 2, none⟩ = some (.int .i64 rt4) := VY3.cell 2
      have y3 : w3.cell? ⟨Y, 3, none⟩ = some (.int .i64 pl4) := VY3.cell 3
      have y4 : w3.cell? ⟨Y, 4, none⟩ = some (.int .i64 tr4) := VY3.cell 4
      have y5 : w3.cell? ⟨Y, 5, none⟩ = some (.int .i64 du4) := VY3.cell 5
      have y6 : w3.cell? ⟨Y, 6, none⟩ = some (.int .i64 st4) := VY3.cell 6
      have y7 : w3.cell? ⟨Y, 7, none⟩ = some (.slice z2 zn2 zc2) := VY3.cell 7
      have y8 : w3.cell? ⟨Y, 8, none⟩ = some (.int .i64 f4) := VY3.cell 8
      have y9 : w3.cell? ⟨Y, 9, none⟩ = some (.int .i64 t4) := VY3.cell 9
      have y10 : w3.cell? ⟨Y, 10, none⟩ = some (.slice z3 zn3 zc3) := VY3.cell 10
      cases Bb with
      | false =>
        rw [hnob rfl] at HPb
        go_wp2_with fail
        refine (HPb _ _ _ _ _ _ _ _ _ _ hRb3).mono ?_
        rintro e w4 ⟨rfl, B4⟩
        have VX4 := VX3.keep B4 (Nat.le_refl _)
        have VY4 := VY3.keep B4 (Nat.le_refl _)
        have hRa4 := hRa3.below B4 (Nat.le_refl _)
        have hRb4 := hRb3.below B4 (Nat.le_refl _)
        have C4 := C3.trans (B4.mono hs3)
        have hs4 : X ≤ w4.heap.size := Nat.le_trans hs3 B4.size
        clear VX3 VY3 hRa3 hRb3 C3 hs3 B4 HPb hnob hyesb y0 y1 y2 y3 y4 y5 y6 y7 y8 y9 y10
        clear HD
        go_wp2_with fail
        refine (alive_any _).mono ?_
        rintro e w5 ⟨rfl, B5⟩
        have C5 := C4.trans (B5.mono hs4)
        clear HS
        go_wp2_with fail
        go_ret
        exact ⟨rfl, by rw [hX]; exact C5⟩
      | true =>
        rw [hyesb rfl] at HPb
        go_wp2_with fail
        refine (HPb _ _ _ _ _ _ _ _ _ _ hRb3).mono ?_
        rintro e w4 ⟨rfl, B4⟩
        have VX4 := VX3.keep B4 (Nat.le_refl _)
        have VY4 := VY3.keep B4 (Nat.le_refl _)
        have hRa4 := hRa3.below B4 (Nat.le_refl _)
        have hRb4 := hRb3.below B4 (Nat.le_refl _)
        have C4 := C3.trans (B4.mono hs3)
        have hs4 : X ≤ w4.heap.size := Nat.le_trans hs3 B4.size
        clear VX3 VY3 hRa3 hRb3 C3 hs3 B4 HPb hnob hyesb y0 y1 y2 y3 y4 y5 y6 y7 y8 y9 y10
        clear HD
        go_wp2_with fail
        refine (alive_any _).mono ?_
        rintro e w5 ⟨rfl, B5⟩
        have C5 := C4.trans (B5.mono hs4)
        clear HS
        go_wp2_with fail
        go_ret
        exact ⟨rfl, by rw [hX]; exact C5⟩
    | true =>
      rw [hyes rfl] at HP
      go_wp2_with fail
      refine (HP _ _ _ _ _ _ _ _ _ _ hRa).mono ?_
      rintro e w3 ⟨rfl, B3⟩
      go_upto_region 3 with fail
      have VX3 := VX.keep B3 (Nat.le_refl _)
      have VY3 := VY.keep B3 (Nat.le_refl _)
      have hRa3 := hRa.below B3 (Nat.le_refl _)
      have hRb3 := hRb.below B3 (Nat.le_refl _)
      have C3 := C.trans (B3.mono hs)
      have hs3 : X ≤ w3.heap.size := Nat.le_trans hs B3.size
      clear VX VY hRa hRb C hs B3 HP hno hyes x0 x1 x2 x3 x4 x5 x6 x7 x8 x9 x10
      have y0 : w3.cell? ⟨Y, 0, none⟩ = some (.int .i64 k4) := VY3.cell 0
      have y1 : w3.cell? ⟨Y, 1, none⟩ = some (.slice z1 zn1 zc1) := VY3.cell 1
      have y2 : w3.cell? ⟨Y, 2, none⟩ = some (.int .i64 rt4) := VY3.cell 2
      have y3 : w3.cell? ⟨Y, 3, none⟩ = some (.int .i64 pl4) := VY3.cell 3
      have y4 : w3.cell? ⟨Y, 4, none⟩ = some (.int .i64 tr4) := VY3.cell 4
      have y5 : w3.cell? ⟨Y, 5, none⟩ = some (.int .i64 du4) := VY3.cell 5
      have y6 : w3.cell? ⟨Y, 6, none⟩ = some (.int .i64 st4) := VY3.cell 6
      have y7 : w3.cell? ⟨Y, 7, none⟩ = some (.slice z2 zn2 zc2) := VY3.cell 7
      have y8 : w3.cell? ⟨Y, 8, none⟩ = some (.int .i64 f4) := VY3.cell 8
      have y9 : w3.cell? ⟨Y, 9, none⟩ = some (.int .i64 t4) := VY3.cell 9
      have y10 : w3.cell? ⟨Y, 10, none⟩ = some (.slice z3 zn3 zc3) := VY3.cell 10
      cases Bb with
      | false =>
        rw [hnob rfl] at HPb
        go_wp2_with fail
        refine (HPb _ _ _ _ _ _ _ _ _ _ hRb3).mono ?_
        rintro e w4 ⟨rfl, B4⟩
        have VX4 := VX3.keep B4 (Nat.le_refl _)
        have VY4 := VY3.keep B4 (Nat.le_refl _)
        have hRa4 := hRa3.below B4 (Nat.le_refl _)
        have hRb4 := hRb3.below B4 (Nat.le_refl _)
        have C4 := C3.trans (B4.mono hs3)
        have hs4 : X ≤ w4.heap.size := Nat.le_trans hs3 B4.size
        clear VX3 VY3 hRa3 hRb3 C3 hs3 B4 HPb hnob hyesb y0 y1 y2 y3 y4 y5 y6 y7 y8 y9 y10
        clear HD
        go_wp2_with fail
        refine (alive_any _).mono ?_
        rintro e w5 ⟨rfl, B5⟩
        have C5 := C4.trans (B5.mono hs4)
        clear HS
        go_wp2_with fail
        go_ret
        exact ⟨rfl, by rw [hX]; exact C5⟩
      | true =>
        rw [hyesb rfl] at HPb
        go_wp2_with fail
        refine (HPb _ _ _ _ _ _ _ _ _ _ hRb3).mono ?_
        rintro e w4 ⟨rfl, B4⟩
        have VX4 := VX3.keep B4 (Nat.le_refl _)
        have VY4 := VY3.keep B4 (Nat.le_refl _)
        have hRa4 := hRa3.below B4 (Nat.le_refl _)
        have hRb4 := hRb3.below B4 (Nat.le_refl _)
        have C4 := C3.trans (B4.mono hs3)
        have hs4 : X ≤ w4.heap.size := Nat.le_trans hs3 B4.size
        clear VX3 VY3 hRa3 hRb3 C3 hs3 B4 HPb hnob hyesb y0 y1 y2 y3 y4 y5 y6 y7 y8 y9 y10
        have HQ := HD.out (by first | rfl | trivial) (by first | rfl | trivial)
        clear HD
        go_wp2_with fail
        refine (alive_any _).mono ?_
        rintro e w5 ⟨rfl, B5⟩
        have VX5 := VX4.keep B5 (Nat.le_refl _)
        have VY5 := VY4.keep B5 (Nat.le_refl _)
        have hRa5 := hRa4.below B5 (Nat.le_refl _)
        have hRb5 := hRb4.below B5 (Nat.le_refl _)
        have C5 := C4.trans (B5.mono hs4)
        have hs5 : X ≤ w5.heap.size := Nat.le_trans hs4 B5.size
        clear VX4 VY4 hRa4 hRb4 C4 hs4 B5
        have x0 : w5.cell? ⟨X, 0, none⟩ = some (.int .i64 k2) := VX5.cell 0
        have x1 : w5.cell? ⟨X, 1, none⟩ = some (.slice p1 pn1 pc1) := VX5.cell 1
        have x2 : w5.cell? ⟨X, 2, none⟩ = some (.int .i64 rt2) := VX5.cell 2
        have x3 : w5.cell? ⟨X, 3, none⟩ = some (.int .i64 pl2) := VX5.cell 3
        have x4 : w5.cell? ⟨X, 4, none⟩ = some (.int .i64 tr2) := VX5.cell 4
        have x5 : w5.cell? ⟨X, 5, none⟩ = some (.int .i64 du2) := VX5.cell 5
        have x6 : w5.cell? ⟨X, 6, none⟩ = some (.int .i64 st2) := VX5.cell 6
        have x7 : w5.cell? ⟨X, 7, none⟩ = some (.slice p2 pn2 pc2) := VX5.cell 7
        have x8 : w5.cell? ⟨X, 8, none⟩ = some (.int .i64 f2) := VX5.cell 8
        have x9 : w5.cell? ⟨X, 9, none⟩ = some (.int .i64 t2) := VX5.cell 9
        have x10 : w5.cell? ⟨X, 10, none⟩ = some (.slice p3 pn3 pc3) := VX5.cell 10
        have y0 : w5.cell? ⟨Y, 0, none⟩ = some (.int .i64 k4) := VY5.cell 0
        have y1 : w5.cell? ⟨Y, 1, none⟩ = some (.slice z1 zn1 zc1) := VY5.cell 1
        have y2 : w5.cell? ⟨Y, 2, none⟩ = some (.int .i64 rt4) := VY5.cell 2
        have y3 : w5.cell? ⟨Y, 3, none⟩ = some (.int .i64 pl4) := VY5.cell 3
        have y4 : w5.cell? ⟨Y, 4, none⟩ = some (.int .i64 tr4) := VY5.cell 4
        have y5 : w5.cell? ⟨Y, 5, none⟩ = some (.int .i64 du4) := VY5.cell 5
        have y6 : w5.cell? ⟨Y, 6, none⟩ = some (.int .i64 st4) := VY5.cell 6
        have y7 : w5.cell? ⟨Y, 7, none⟩ = some (.slice z2 zn2 zc2) := VY5.cell 7
        have y8 : w5.cell? ⟨Y, 8, none⟩ = some (.int .i64 f4) := VY5.cell 8
        have y9 : w5.cell? ⟨Y, 9, none⟩ = some (.int .i64 t4) := VY5.cell 9
        have y10 : w5.cell? ⟨Y, 10, none⟩ = some (.slice z3 zn3 zc3) := VY5.cell 10
        cases D with
        | false =>
          go_wp2_with fail
          refine (HS _ _ _ _ _ _ _ _ _ _ _ _ _ _ _ _ _ _ _ hRa5 hRb5).mono ?_
          rintro e w6 ⟨rfl, B6⟩
          go_wp2_with fail
          go_ret
          exact ⟨rfl, by rw [hX]; exact C5.trans (B6.mono hs5)⟩
        | true =>
          go_wp2_with fail
          refine (HS _ _ _ _ _ _ _ _ _ _ _ _ _ _ _ _ _ _ _ hRa5 hRb5).mono ?_
          rintro e w6 ⟨rfl, B6⟩
          go_wp2_with fail
          go_ret
          exact ⟨rfl, by rw [hX]; exact C5.trans (B6.mono hs5)⟩
end Go.Proofs.Ytopjiokbmpghjaa
