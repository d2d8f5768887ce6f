/-
  The law's walk: of two duties one comes ahead, or they are due at once, of the same labels.
-/
import Derived.Test.YtaiacohnhhicpaaDutP
import Derived.Test.YtaiacohnhhicpaaDutR
import Derived.Test.YtaiacohnhhicpaaLawA
namespace Go.Proofs.Ytaiacohnhhicpaa
open Go.RowKit Go.Shelf
set_option linter.unusedVariables false

set_option maxRecDepth 100000 in
set_option maxHeartbeats 6400000 in
theorem order_walk (oa : Option Addr) (n ca : Nat) (a : D6) (ob : Option Addr) (m cb : Nat) (b : D6) (oc : Option Addr) (k cc : Nat) (c : D6) (w : World) (h1 : Ls w oa n ca a.ls) (h2 : Ls w ob m cb b.ls) (h3 : Ls w oc k cc c.ls) :
    Calls Try.prog 3 #[aggD oa n ca a, aggD ob m cb b, aggD oc k cc c] w fun e w' => e = .returned (.bool true) ∧ Below w.heap.size w w' := by
  have B0 := below_alloc w (.cells (dV (.slice oa n ca) a) 24)
  have B1 := B0.alloc B0.size (.cells (dV (.slice ob m cb) b) 24)
  have B2 := B1.alloc B1.size (.cells (dV (.slice oc k cc) c) 24)
  have Va := ((Vals.new w 24 (dV (.slice oa n ca) a)).alloc (.cells (dV (.slice ob m cb) b) 24)).alloc (.cells (dV (.slice oc k cc) c) 24)
  have Vb := (Vals.new (w.alloc (.cells (dV (.slice oa n ca) a) 24)) 24 (dV (.slice ob m cb) b)).alloc (.cells (dV (.slice oc k cc) c) 24)
  have Vc := Vals.new ((w.alloc (.cells (dV (.slice oa n ca) a) 24)).alloc (.cells (dV (.slice ob m cb) b) 24)) 24 (dV (.slice oc k cc) c)
  simp only [World.size_alloc] at Vb Vc
  have la := h1.below B2 (Nat.le_refl _)
  have lb := h2.below B2 (Nat.le_refl _)
  have lc := h3.below B2 (Nat.le_refl _)
  obtain ⟨al, a1, a2, a3, a4, a5⟩ := a
  obtain ⟨bl, b1, b2, b3, b4, b5⟩ := b
  obtain ⟨cl, c1, c2, c3, c4, c5⟩ := c
  dsimp only [dV, aggD] at *
  clear B0 B1
  go_enter Try.func3, Try.ntmps3
  go_upto_region 1 with fail
  generalize ((w.alloc (.cells #[.slice oa n ca, .int .i64 a1, .int .i64 a2, .int .i64 a3, .int .i64 a4, .int .i64 a5] 24)).alloc (.cells #[.slice ob m cb, .int .i64 b1, .int .i64 b2, .int .i64 b3, .int .i64 b4, .int .i64 b5] 24)).alloc (.cells #[.slice oc k cc, .int .i64 c1, .int .i64 c2, .int .i64 c3, .int .i64 c4, .int .i64 c5] 24) = W at *
  have hW := B2.size
  generalize hA : w.heap.size = A at *
  go_cut [10, 11, 12, 13, 14, 15] (fun _ _ _ _ _ _ wx => (Vals wx A 24 (dV (.slice oa (min n 5) ca) (cutD ⟨al, a1, a2, a3, a4, a5⟩)) ∧ Vals wx (A + 1) 24 (dV (.slice ob (min m 5) cb) (cutD ⟨bl, b1, b2, b3, b4, b5⟩)) ∧ Vals wx (A + 1 + 1) 24 (dV (.slice oc (min k 5) cc) (cutD ⟨cl, c1, c2, c3, c4, c5⟩))) ∧ Below A w wx ∧ A ≤ wx.heap.size)
  case first =>
    obtain ⟨I, hID⟩ : ∃ I : World → Prop, I = fun wx => ((Vals wx A 24 #[.slice oa n ca, .int .i64 a1, .int .i64 a2, .int .i64 a3, .int .i64 a4, .int .i64 a5] ∧ Vals wx (A + 1) 24 #[.slice ob m cb, .int .i64 b1, .int .i64 b2, .int .i64 b3, .int .i64 b4, .int .i64 b5]) ∧ Vals wx (A + 1 + 1) 24 #[.slice oc k cc, .int .i64 c1, .int .i64 c2, .int .i64 c3, .int .i64 c4, .int .i64 c5]) ∧ (Ls wx oa n ca al ∧ Ls wx ob m cb bl) ∧ Ls wx oc k cc cl ∧ (A ≤ wx.heap.size ∧ Below A w wx) := ⟨_, rfl⟩
    have st : Hid (Stable I) := by
      show Stable I
      rw [hID]
      exact ((((Stable.vals _ _ _).and (Stable.vals _ _ _)).and (Stable.vals _ _ _))).and (((Stable.lies _ _ _ _).and (Stable.lies _ _ _ _)).and ((Stable.lies _ _ _ _).and (Stable.below _ _)))
    have gI : Hid (∀ wx, I wx → ((Vals wx A 24 #[.slice oa n ca, .int .i64 a1, .int .i64 a2, .int .i64 a3, .int .i64 a4, .int .i64 a5] ∧ Vals wx (A + 1) 24 #[.slice ob m cb, .int .i64 b1, .int .i64 b2, .int .i64 b3, .int .i64 b4, .int .i64 b5]) ∧ Vals wx (A + 1 + 1) 24 #[.slice oc k cc, .int .i64 c1, .int .i64 c2, .int .i64 c3, .int .i64 c4, .int .i64 c5]) ∧ (Ls wx oa n ca al ∧ Ls wx ob m cb bl) ∧ Ls wx oc k cc cl ∧ (A ≤ wx.heap.size ∧ Below A w wx)) := by intro wx h; rw [hID] at h; exact h
    have hI0 : I W := by rw [hID]; exact ⟨⟨⟨Va, Vb⟩, Vc⟩, ⟨la, lb⟩, lc, hW, B2⟩
    have hId := st.out.drew hI0
    haveI ne : Nonempty (Cls I) := ⟨⟨_, hId⟩⟩
    clear hID hI0 Va Vb Vc la lb lc B2 hW
    have p0 : ∀ x : Cls I, x.w.cell? ⟨A, 0, none⟩ = some (.slice oa n ca) := fun x => ((gI.out _ x.is).1.1.1).cell 0
    have p1 : ∀ x : Cls I, x.w.cell? ⟨A, 1, none⟩ = some (.int .i64 a1) := fun x => ((gI.out _ x.is).1.1.1).cell 1
    have p2 : ∀ x : Cls I, x.w.cell? ⟨A, 2, none⟩ = some (.int .i64 a2) := fun x => ((gI.out _ x.is).1.1.1).cell 2
    have p3 : ∀ x : Cls I, x.w.cell? ⟨A, 3, none⟩ = some (.int .i64 a3) := fun x => ((gI.out _ x.is).1.1.1).cell 3
    have p4 : ∀ x : Cls I, x.w.cell? ⟨A, 4, none⟩ = some (.int .i64 a4) := fun x => ((gI.out _ x.is).1.1.1).cell 4
    have p5 : ∀ x : Cls I, x.w.cell? ⟨A, 5, none⟩ = some (.int .i64 a5) := fun x => ((gI.out _ x.is).1.1.1).cell 5
    have q0 : ∀ x : Cls I, x.w.cell? ⟨A + 1, 0, none⟩ = some (.slice ob m cb) := fun x => ((gI.out _ x.is).1.1.2).cell 0
    have q1 : ∀ x : Cls I, x.w.cell? ⟨A + 1, 1, none⟩ = some (.int .i64 b1) := fun x => ((gI.out _ x.is).1.1.2).cell 1
    have q2 : ∀ x : Cls I, x.w.cell? ⟨A + 1, 2, none⟩ = some (.int .i64 b2) := fun x => ((gI.out _ x.is).1.1.2).cell 2
    have q3 : ∀ x : Cls I, x.w.cell? ⟨A + 1, 3, none⟩ = some (.int .i64 b3) := fun x => ((gI.out _ x.is).1.1.2).cell 3
    have q4 : ∀ x : Cls I, x.w.cell? ⟨A + 1, 4, none⟩ = some (.int .i64 b4) := fun x => ((gI.out _ x.is).1.1.2).cell 4
    have q5 : ∀ x : Cls I, x.w.cell? ⟨A + 1, 5, none⟩ = some (.int .i64 b5) := fun x => ((gI.out _ x.is).1.1.2).cell 5
    have r0 : ∀ x : Cls I, x.w.cell? ⟨A + 1 + 1, 0, none⟩ = some (.slice oc k cc) := fun x => ((gI.out _ x.is).1.2).cell 0
    have r1 : ∀ x : Cls I, x.w.cell? ⟨A + 1 + 1, 1, none⟩ = some (.int .i64 c1) := fun x => ((gI.out _ x.is).1.2).cell 1
    have r2 : ∀ x : Cls I, x.w.cell? ⟨A + 1 + 1, 2, none⟩ = some (.int .i64 c2) := fun x => ((gI.out _ x.is).1.2).cell 2
    have r3 : ∀ x : Cls I, x.w.cell? ⟨A + 1 + 1, 3, none⟩ = some (.int .i64 c3) := fun x => ((gI.out _ x.is).1.2).cell 3
    have r4 : ∀ x : Cls I, x.w.cell? ⟨A + 1 + 1, 4, none⟩ = some (.int .i64 c4) := fun x => ((gI.out _ x.is).1.2).cell 4
    have r5 : ∀ x : Cls I, x.w.cell? ⟨A + 1 + 1, 5, none⟩ = some (.int .i64 c5) := fun x => ((gI.out _ x.is).1.2).cell 5
    have K1 : Hid (∀ x : Cls I, Calls Try.prog 7 #[.agg #[.slice oa n ca, .int .i64 a1, .int .i64 a2, .int .i64 a3, .int .i64 a4, .int .i64 a5]] x.w fun e w'' => e = .returned (aggD oa (min n 5) ca (cutD ⟨al, a1, a2, a3, a4, a5⟩)) ∧ ∃ y : Cls I, w'' = y.w) := fun x => class_of st.out (cut_any oa n ca ⟨al, a1, a2, a3, a4, a5⟩ x.w (gI.out _ x.is).2.1.1)
    have K2 : Hid (∀ x : Cls I, Calls Try.prog 7 #[.agg #[.slice ob m cb, .int .i64 b1, .int .i64 b2, .int .i64 b3, .int .i64 b4, .int .i64 b5]] x.w fun e w'' => e = .returned (aggD ob (min m 5) cb (cutD ⟨bl, b1, b2, b3, b4, b5⟩)) ∧ ∃ y : Cls I, w'' = y.w) := fun x => class_of st.out (cut_any ob m cb ⟨bl, b1, b2, b3, b4, b5⟩ x.w (gI.out _ x.is).2.1.2)
    have K3 : Hid (∀ x : Cls I, Calls Try.prog 7 #[.agg #[.slice oc k cc, .int .i64 c1, .int .i64 c2, .int .i64 c3, .int .i64 c4, .int .i64 c5]] x.w fun e w'' => e = .returned (aggD oc (min k 5) cc (cutD ⟨cl, c1, c2, c3, c4, c5⟩)) ∧ ∃ y : Cls I, w'' = y.w) := fun x => class_of st.out (cut_any oc k cc ⟨cl, c1, c2, c3, c4, c5⟩ x.w (gI.out _ x.is).2.2.1)
    refine wp_region_class_tail I 6 (by kernel_rfl) (by kernel_rfl) hId ?_
    simp only [List.take_succ_cons, List.take_zero, List.drop_succ_cons, List.drop_zero]
    repeat (go_big_quiet_step (first | exact K1.out _ | exact K2.out _ | exact K3.out _))
    refine wpQuiet_nil ?_
    rintro _ ⟨x, rfl⟩
    clear p0 p1 p2 p3 p4 p5 q0 q1 q2 q3 q4 q5 r0 r1 r2 r3 r4 r5 K1 K2 K3 hId
    obtain ⟨⟨⟨Va, Vb⟩, Vc⟩, _, _, hW, B2⟩ := gI.out _ x.is
    generalize x.w = W2 at *
    clear ne gI st x I
    have f0 := Va.free 0
    have f1 := Va.free 1
    have f2 := Va.free 2
    have f3 := Va.free 3
    have f4 := Va.free 4
    have f5 := Va.free 5
    have g0 := Vb.free 0
    have g1 := Vb.free 1
    have g2 := Vb.free 2
    have g3 := Vb.free 3
    have g4 := Vb.free 4
    have g5 := Vb.free 5
    have h0 := Vc.free 0
    have h1 := Vc.free 1
    have h2 := Vc.free 2
    have h3 := Vc.free 3
    have h4 := Vc.free 4
    have h5 := Vc.free 5
    have u0 : W2.cell? ⟨A, 0, none⟩ = some (.slice oa n ca) := Va.cell 0
    have u1 : W2.cell? ⟨A, 1, none⟩ = some (.int .i64 a1) := Va.cell 1
    have u2 : W2.cell? ⟨A, 2, none⟩ = some (.int .i64 a2) := Va.cell 2
    have u3 : W2.cell? ⟨A, 3, none⟩ = some (.int .i64 a3) := Va.cell 3
    have u4 : W2.cell? ⟨A, 4, none⟩ = some (.int .i64 a4) := Va.cell 4
    have u5 : W2.cell? ⟨A, 5, none⟩ = some (.int .i64 a5) := Va.cell 5
    have v0 : W2.cell? ⟨A + 1, 0, none⟩ = some (.slice ob m cb) := Vb.cell 0
    have v1 : W2.cell? ⟨A + 1, 1, none⟩ = some (.int .i64 b1) := Vb.cell 1
    have v2 : W2.cell? ⟨A + 1, 2, none⟩ = some (.int .i64 b2) := Vb.cell 2
    have v3 : W2.cell? ⟨A + 1, 3, none⟩ = some (.int .i64 b3) := Vb.cell 3
    have v4 : W2.cell? ⟨A + 1, 4, none⟩ = some (.int .i64 b4) := Vb.cell 4
    have v5 : W2.cell? ⟨A + 1, 5, none⟩ = some (.int .i64 b5) := Vb.cell 5
    have z0 : W2.cell? ⟨A + 1 + 1, 0, none⟩ = some (.slice oc k cc) := Vc.cell 0
    have z1 : W2.cell? ⟨A + 1 + 1, 1, none⟩ = some (.int .i64 c1) := Vc.cell 1
    have z2 : W2.cell? ⟨A + 1 + 1, 2, none⟩ = some (.int .i64 c2) := Vc.cell 2
    have z3 : W2.cell? ⟨A + 1 + 1, 3, none⟩ = some (.int .i64 c3) := Vc.cell 3
    have z4 : W2.cell? ⟨A + 1 + 1, 4, none⟩ = some (.int .i64 c4) := Vc.cell 4
    have z5 : W2.cell? ⟨A + 1 + 1, 5, none⟩ = some (.int .i64 c5) := Vc.cell 5
    have HV := Lib.hid (And.intro Va (And.intro Vb Vc))
    clear Va Vb Vc
    go_wp2_with fail
    go_meet
    case rel =>
      obtain ⟨Va, Vb, Vc⟩ := HV.out
      have x1 := Va.six (.slice oa (min n 5) ca) (.int .i64 a1) (.int .i64 a2) (.int .i64 a3) (.int .i64 a4) (.int .i64 a5)
      have y1 := Vb.six_other (show A + 1 ≠ A by omega) (.slice oa (min n 5) ca) (.int .i64 a1) (.int .i64 a2) (.int .i64 a3) (.int .i64 a4) (.int .i64 a5)
      have z1 := Vc.six_other (show A + 1 + 1 ≠ A by omega) (.slice oa (min n 5) ca) (.int .i64 a1) (.int .i64 a2) (.int .i64 a3) (.int .i64 a4) (.int .i64 a5)
      have x2 := x1.six_other (show A ≠ A + 1 by omega) (.slice ob (min m 5) cb) (.int .i64 b1) (.int .i64 b2) (.int .i64 b3) (.int .i64 b4) (.int .i64 b5)
      have y2 := y1.six (.slice ob (min m 5) cb) (.int .i64 b1) (.int .i64 b2) (.int .i64 b3) (.int .i64 b4) (.int .i64 b5)
      have z2 := z1.six_other (show A + 1 + 1 ≠ A + 1 by omega) (.slice ob (min m 5) cb) (.int .i64 b1) (.int .i64 b2) (.int .i64 b3) (.int .i64 b4) (.int .i64 b5)
      have x3 := x2.six_other (show A ≠ A + 1 + 1 by omega) (.slice oc (min k 5) cc) (.int .i64 c1) (.int .i64 c2) (.int .i64 c3) (.int .i64 c4) (.int .i64 c5)
      have y3 := y2.six_other (show A + 1 ≠ A + 1 + 1 by omega) (.slice oc (min k 5) cc) (.int .i64 c1) (.int .i64 c2) (.int .i64 c3) (.int .i64 c4) (.int .i64 c5)
      have z3 := z2.six (.slice oc (min k 5) cc) (.int .i64 c1) (.int .i64 c2) (.int .i64 c3) (.int .i64 c4) (.int .i64 c5)
      exact ⟨⟨x3, y3, z3⟩, below_six (below_six (below_six B2 (Nat.le_refl _) _ _ _ _ _ _) (show A ≤ A + 1 by omega) _ _ _ _ _ _) (show A ≤ A + 1 + 1 by omega) _ _ _ _ _ _, by simpa using hW⟩
  case rest =>
    clear Va Vb Vc la lb lc hW B2
    obtain ⟨⟨Va, Vb, Vc⟩, B3, hW⟩ := hcut
    have da : DAt wc oa (min n 5) ca (cutD ⟨al, a1, a2, a3, a4, a5⟩) := DAt.cut (d := ⟨al, a1, a2, a3, a4, a5⟩) (h1.below B3 (Nat.le_of_eq hA))
    have db : DAt wc ob (min m 5) cb (cutD ⟨bl, b1, b2, b3, b4, b5⟩) := DAt.cut (d := ⟨bl, b1, b2, b3, b4, b5⟩) (h2.below B3 (Nat.le_of_eq hA))
    have dc : DAt wc oc (min k 5) cc (cutD ⟨cl, c1, c2, c3, c4, c5⟩) := DAt.cut (d := ⟨cl, c1, c2, c3, c4, c5⟩) (h3.below B3 (Nat.le_of_eq hA))
    clear h1 h2 h3
    dsimp only [cutD, dV] at *
    generalize al.take 5 = al at *
    generalize bl.take 5 = bl at *
    generalize cl.take 5 = cl at *
    generalize min n 5 = n at *
    generalize min m 5 = m at *
    generalize min k 5 = k at *
    obtain ⟨I, hID⟩ : ∃ I : World → Prop, I = fun wx => ((Vals wx A 24 #[.slice oa n ca, .int .i64 a1, .int .i64 a2, .int .i64 a3, .int .i64 a4, .int .i64 a5] ∧ Vals wx (A + 1) 24 #[.slice ob m cb, .int .i64 b1, .int .i64 b2, .int .i64 b3, .int .i64 b4, .int .i64 b5]) ∧ Vals wx (A + 1 + 1) 24 #[.slice oc k cc, .int .i64 c1, .int .i64 c2, .int .i64 c3, .int .i64 c4, .int .i64 c5]) ∧ (DAt wx oa n ca ⟨al, a1, a2, a3, a4, a5⟩ ∧ DAt wx ob m cb ⟨bl, b1, b2, b3, b4, b5⟩) ∧ DAt wx oc k cc ⟨cl, c1, c2, c3, c4, c5⟩ ∧ (A ≤ wx.heap.size ∧ Below A w wx) := ⟨_, rfl⟩
    have st : Hid (Stable I) := by
      show Stable I
      rw [hID]
      exact ((((Stable.vals _ _ _).and (Stable.vals _ _ _)).and (Stable.vals _ _ _))).and (((Stable.dat _ _ _ _).and (Stable.dat _ _ _ _)).and ((Stable.dat _ _ _ _).and (Stable.below _ _)))
    have gI : Hid (∀ wx, I wx → ((Vals wx A 24 #[.slice oa n ca, .int .i64 a1, .int .i64 a2, .int .i64 a3, .int .i64 a4, .int .i64 a5] ∧ Vals wx (A + 1) 24 #[.slice ob m cb, .int .i64 b1, .int .i64 b2, .int .i64 b3, .int .i64 b4, .int .i64 b5]) ∧ Vals wx (A + 1 + 1) 24 #[.slice oc k cc, .int .i64 c1, .int .i64 c2, .int .i64 c3, .int .i64 c4, .int .i64 c5]) ∧ (DAt wx oa n ca ⟨al, a1, a2, a3, a4, a5⟩ ∧ DAt wx ob m cb ⟨bl, b1, b2, b3, b4, b5⟩) ∧ DAt wx oc k cc ⟨cl, c1, c2, c3, c4, c5⟩ ∧ (A ≤ wx.heap.size ∧ Below A w wx)) := by intro wx h; rw [hID] at h; exact h
    have hI0 : I wc := by rw [hID]; exact ⟨⟨⟨Va, Vb⟩, Vc⟩, ⟨da, db⟩, dc, hW, B3⟩
    have hId := st.out.drew hI0
    haveI ne : Nonempty (Cls I) := ⟨⟨_, hId⟩⟩
    clear hID hI0 Va Vb Vc da db dc B3 hW
    have p0 : ∀ x : Cls I, x.w.cell? ⟨A, 0, none⟩ = some (.slice oa n ca) := fun x => ((gI.out _ x.is).1.1.1).cell 0
    have p1 : ∀ x : Cls I, x.w.cell? ⟨A, 1, none⟩ = some (.int .i64 a1) := fun x => ((gI.out _ x.is).1.1.1).cell 1
    have p2 : ∀ x : Cls I, x.w.cell? ⟨A, 2, none⟩ = some (.int .i64 a2) := fun x => ((gI.out _ x.is).1.1.1).cell 2
    have p3 : ∀ x : Cls I, x.w.cell? ⟨A, 3, none⟩ = some (.int .i64 a3) := fun x => ((gI.out _ x.is).1.1.1).cell 3
    have p4 : ∀ x : Cls I, x.w.cell? ⟨A, 4, none⟩ = some (.int .i64 a4) := fun x => ((gI.out _ x.is).1.1.1).cell 4
    have p5 : ∀ x : Cls I, x.w.cell? ⟨A, 5, none⟩ = some (.int .i64 a5) := fun x => ((gI.out _ x.is).1.1.1).cell 5
    have q0 : ∀ x : Cls I, x.w.cell? ⟨A + 1, 0, none⟩ = some (.slice ob m cb) := fun x => ((gI.out _ x.is).1.1.2).cell 0
    have q1 : ∀ x : Cls I, x.w.cell? ⟨A + 1, 1, none⟩ = some (.int .i64 b1) := fun x => ((gI.out _ x.is).1.1.2).cell 1
    have q2 : ∀ x : Cls I, x.w.cell? ⟨A + 1, 2, none⟩ = some (.int .i64 b2) := fun x => ((gI.out _ x.is).1.1.2).cell 2
    have q3 : ∀ x : Cls I, x.w.cell? ⟨A + 1, 3, none⟩ = some (.int .i64 b3) := fun x => ((gI.out _ x.is).1.1.2).cell 3
    have q4 : ∀ x : Cls I, x.w.cell? ⟨A + 1, 4, none⟩ = some (.int .i64 b4) := fun x => ((gI.out _ x.is).1.1.2).cell 4
    have q5 : ∀ x : Cls I, x.w.cell? ⟨A + 1, 5, none⟩ = some (.int .i64 b5) := fun x => ((gI.out _ x.is).1.1.2).cell 5
    have r0 : ∀ x : Cls I, x.w.cell? ⟨A + 1 + 1, 0, none⟩ = some (.slice oc k cc) := fun x => ((gI.out _ x.is).1.2).cell 0
    have r1 : ∀ x : Cls I, x.w.cell? ⟨A + 1 + 1, 1, none⟩ = some (.int .i64 c1) := fun x => ((gI.out _ x.is).1.2).cell 1
    have r2 : ∀ x : Cls I, x.w.cell? ⟨A + 1 + 1, 2, none⟩ = some (.int .i64 c2) := fun x => ((gI.out _ x.is).1.2).cell 2
    have r3 : ∀ x : Cls I, x.w.cell? ⟨A + 1 + 1, 3, none⟩ = some (.int .i64 c3) := fun x => ((gI.out _ x.is).1.2).cell 3
    have r4 : ∀ x : Cls I, x.w.cell? ⟨A + 1 + 1, 4, none⟩ = some (.int .i64 c4) := fun x => ((gI.out _ x.is).1.2).cell 4
    have r5 : ∀ x : Cls I, x.w.cell? ⟨A + 1 + 1, 5, none⟩ = some (.int .i64 c5) := fun x => ((gI.out _ x.is).1.2).cell 5
    obtain ⟨rab, hab⟩ : ∃ r, aheadB ⟨al, a1, a2, a3, a4, a5⟩ ⟨bl, b1, b2, b3, b4, b5⟩ = r := ⟨_, rfl⟩
    obtain ⟨rba, hba⟩ : ∃ r, aheadB ⟨bl, b1, b2, b3, b4, b5⟩ ⟨al, a1, a2, a3, a4, a5⟩ = r := ⟨_, rfl⟩
    obtain ⟨rbc, hbc⟩ : ∃ r, aheadB ⟨bl, b1, b2, b3, b4, b5⟩ ⟨cl, c1, c2, c3, c4, c5⟩ = r := ⟨_, rfl⟩
    obtain ⟨rac, hac⟩ : ∃ r, aheadB ⟨al, a1, a2, a3, a4, a5⟩ ⟨cl, c1, c2, c3, c4, c5⟩ = r := ⟨_, rfl⟩
    obtain ⟨rs, hs⟩ : ∃ r, sameR al bl = r := ⟨_, rfl⟩
    have haa : aheadB ⟨al, a1, a2, a3, a4, a5⟩ ⟨al, a1, a2, a3, a4, a5⟩ = false := aheadB_self _
    have KAB : Hid (∀ x : Cls I, Calls Try.prog 8 #[.agg #[.slice oa n ca, .int .i64 a1, .int .i64 a2, .int .i64 a3, .int .i64 a4, .int .i64 a5], .agg #[.slice ob m cb, .int .i64 b1, .int .i64 b2, .int .i64 b3, .int .i64 b4, .int .i64 b5]] x.w fun e w'' => e = .returned (.bool rab) ∧ ∃ y : Cls I, w'' = y.w) := fun x => hab ▸ class_of st.out (ahead_any oa n ca ob m cb ⟨al, a1, a2, a3, a4, a5⟩ ⟨bl, b1, b2, b3, b4, b5⟩ x.w (gI.out _ x.is).2.1.1 (gI.out _ x.is).2.1.2)
    have KBA : Hid (∀ x : Cls I, Calls Try.prog 8 #[.agg #[.slice ob m cb, .int .i64 b1, .int .i64 b2, .int .i64 b3, .int .i64 b4, .int .i64 b5], .agg #[.slice oa n ca, .int .i64 a1, .int .i64 a2, .int .i64 a3, .int .i64 a4, .int .i64 a5]] x.w fun e w'' => e = .returned (.bool rba) ∧ ∃ y : Cls I, w'' = y.w) := fun x => hba ▸ class_of st.out (ahead_any ob m cb oa n ca ⟨bl, b1, b2, b3, b4, b5⟩ ⟨al, a1, a2, a3, a4, a5⟩ x.w (gI.out _ x.is).2.1.2 (gI.out _ x.is).2.1.1)
    have KBC : Hid (∀ x : Cls I, Calls Try.prog 8 #[.agg #[.slice ob m cb, .int .i64 b1, .int .i64 b2, .int .i64 b3, .int .i64 b4, .int .i64 b5], .agg #[.slice oc k cc, .int .i64 c1, .int .i64 c2, .int .i64 c3, .int .i64 c4, .int .i64 c5]] x.w fun e w'' => e = .returned (.bool rbc) ∧ ∃ y : Cls I, w'' = y.w) := fun x => hbc ▸ class_of st.out (ahead_any ob m cb oc k cc ⟨bl, b1, b2, b3, b4, b5⟩ ⟨cl, c1, c2, c3, c4, c5⟩ x.w (gI.out _ x.is).2.1.2 (gI.out _ x.is).2.2.1)
    have KAC : Hid (∀ x : Cls I, Calls Try.prog 8 #[.agg #[.slice oa n ca, .int .i64 a1, .int .i64 a2, .int .i64 a3, .int .i64 a4, .int .i64 a5], .agg #[.slice oc k cc, .int .i64 c1, .int .i64 c2, .int .i64 c3, .int .i64 c4, .int .i64 c5]] x.w fun e w'' => e = .returned (.bool rac) ∧ ∃ y : Cls I, w'' = y.w) := fun x => hac ▸ class_of st.out (ahead_any oa n ca oc k cc ⟨al, a1, a2, a3, a4, a5⟩ ⟨cl, c1, c2, c3, c4, c5⟩ x.w (gI.out _ x.is).2.1.1 (gI.out _ x.is).2.2.1)
    have KAA : Hid (∀ x : Cls I, Calls Try.prog 8 #[.agg #[.slice oa n ca, .int .i64 a1, .int .i64 a2, .int .i64 a3, .int .i64 a4, .int .i64 a5], .agg #[.slice oa n ca, .int .i64 a1, .int .i64 a2, .int .i64 a3, .int .i64 a4, .int .i64 a5]] x.w fun e w'' => e = .returned (.bool false) ∧ ∃ y : Cls I, w'' = y.w) := fun x => haa ▸ class_of st.out (ahead_any oa n ca oa n ca ⟨al, a1, a2, a3, a4, a5⟩ ⟨al, a1, a2, a3, a4, a5⟩ x.w (gI.out _ x.is).2.1.1 (gI.out _ x.is).2.1.1)
    have KR : Hid (∀ x : Cls I, Calls Try.prog 10 #[.agg #[.slice oa n ca, .int .i64 a1, .int .i64 a2, .int .i64 a3, .int .i64 a4, .int .i64 a5], .agg #[.slice ob m cb, .int .i64 b1, .int .i64 b2, .int .i64 b3, .int .i64 b4, .int .i64 b5]] x.w fun e w'' => e = .returned (.bool rab) ∧ ∃ y : Cls I, w'' = y.w) := fun x => hab ▸ class_of st.out (refAhead_any oa n ca ob m cb ⟨al, a1, a2, a3, a4, a5⟩ ⟨bl, b1, b2, b3, b4, b5⟩ x.w (gI.out _ x.is).2.1.1.ls (gI.out _ x.is).2.1.2.ls (by have := (gI.out _ x.is).2.1.1.b; omega))
    have KS : Hid (∀ x : Cls I, Calls Try.prog 9 #[.slice oa n ca, .slice ob m cb] x.w fun e w'' => e = .returned (.bool rs) ∧ ∃ y : Cls I, w'' = y.w) := fun x => hs ▸ class_of st.out (same_any oa n ca ob m cb al bl x.w (gI.out _ x.is).2.1.1.ls (gI.out _ x.is).2.1.2.ls (by have := (gI.out _ x.is).2.1.1.b; omega))
    have KL : Hid (∀ x : Cls I, Calls Try.prog 11 #[] x.w fun e w'' => e = .returned (.bool true) ∧ ∃ y : Cls I, w'' = y.w) := fun x => class_of st.out (alive_any _)
    have H1 := aheadB_same ⟨al, a1, a2, a3, a4, a5⟩ ⟨bl, b1, b2, b3, b4, b5⟩
    dsimp only at H1
    rw [hab, hba, hs] at H1
    have H2 : Hid (rab = true → rbc = true → rac = true) := fun h h' => by rw [← hac]; exact aheadB_trans (hab.trans h) (hbc.trans h')
    have H3 : Hid (rab = true → rba = false) := fun h => by rw [← hba]; exact aheadB_asymm (hab.trans h)
    clear hab hba hbc hac hs haa
    go_upto_region 2 with fail
    refine wp_region_class I (by kernel_rfl) (by kernel_rfl) hId ?_
    iterate 3 (go_big_quiet_step (exact KAB.out _))
    repeat (go_big_quiet_step (exact KBA.out _))
    refine wpQuiet_nil ?_
    rintro _ ⟨x, rfl⟩
    clear hId
    cases rab with
    | false =>
      cases rba with
      | false =>
        have hd : a4 = b4 := of_decide_eq_true (Bool.and_eq_true _ _ ▸ H1 : _ ∧ _).1
        obtain rfl : rs = true := (Bool.and_eq_true _ _ ▸ H1 : _ ∧ _).2
        have hq : (a4 == b4) = true := by simp [hd]
        clear H1 H2 H3 hd
        go_wp2_with fail
        refine (KS.out _).mono ?_
        rintro _ _ ⟨rfl, x, rfl⟩
        go_wp2_with fail
        refine (KAA.out _).mono ?_
        rintro _ _ ⟨rfl, x, rfl⟩
        go_wp2_with fail
        refine (KR.out _).mono ?_
        rintro _ _ ⟨rfl, x, rfl⟩
        go_wp2_with fail
        refine (KL.out _).mono ?_
        rintro _ _ ⟨rfl, x, rfl⟩
        go_wp2_with fail
        go_ret
        exact ⟨rfl, by rw [hA]; exact (gI.out _ x.is).2.2.2.2⟩
      | true =>
        by_cases hd : a4 = b4
        · obtain rfl : rs = false := by simpa [hd] using H1
          have hq : (a4 == b4) = true := by simp [hd]
          clear H1 H3 hd
          go_wp2_with fail
          refine (KS.out _).mono ?_
          rintro _ _ ⟨rfl, x, rfl⟩
          go_wp2_with fail
          refine (KAA.out _).mono ?_
          rintro _ _ ⟨rfl, x, rfl⟩
          go_wp2_with fail
          refine (KR.out _).mono ?_
          rintro _ _ ⟨rfl, x, rfl⟩
          go_wp2_with fail
          refine (KL.out _).mono ?_
          rintro _ _ ⟨rfl, x, rfl⟩
          go_wp2_with fail
          go_ret
          exact ⟨rfl, by rw [hA]; exact (gI.out _ x.is).2.2.2.2⟩
        · have hq : (a4 == b4) = false := by simp [hd]
          clear H1 H3 hd
          go_wp2_with fail
          refine (KAA.out _).mono ?_
          rintro _ _ ⟨rfl, x, rfl⟩
          go_wp2_with fail
          refine (KR.out _).mono ?_
          rintro _ _ ⟨rfl, x, rfl⟩
          go_wp2_with fail
          refine (KL.out _).mono ?_
          rintro _ _ ⟨rfl, x, rfl⟩
          go_wp2_with fail
          go_ret
          exact ⟨rfl, by rw [hA]; exact (gI.out _ x.is).2.2.2.2⟩
    | true =>
      cases rba with
      | true => exact absurd (H3.out rfl) (by simp)
      | false =>
        by_cases hd : a4 = b4
        · obtain rfl : rs = false := by simpa [hd] using H1
          have hq : (a4 == b4) = true := by simp [hd]
          clear H1 H3 hd
          go_wp2_with fail
          refine (KS.out _).mono ?_
          rintro _ _ ⟨rfl, x, rfl⟩
          go_wp2_with fail
          refine (KAA.out _).mono ?_
          rintro _ _ ⟨rfl, x, rfl⟩
          go_wp2_with fail
          refine (KR.out _).mono ?_
          rintro _ _ ⟨rfl, x, rfl⟩
          go_wp2_with fail
          refine (KL.out _).mono ?_
          rintro _ _ ⟨rfl, x, rfl⟩
          cases rbc with
          | false =>
            go_wp2_with fail
            refine (KBC.out _).mono ?_
            rintro _ _ ⟨rfl, x, rfl⟩
            go_wp2_with fail
            go_ret
            exact ⟨rfl, by rw [hA]; exact (gI.out _ x.is).2.2.2.2⟩
          | true =>
            obtain rfl : rac = true := by first | exact H2.out rfl rfl | simpa using H2.out
            go_wp2_with fail
            refine (KBC.out _).mono ?_
            rintro _ _ ⟨rfl, x, rfl⟩
            go_wp2_with fail
            refine (KAC.out _).mono ?_
            rintro _ _ ⟨rfl, x, rfl⟩
            go_wp2_with fail
            go_ret
            exact ⟨rfl, by rw [hA]; exact (gI.out _ x.is).2.2.2.2⟩
        · have hq : (a4 == b4) = false := by simp [hd]
          clear H1 H3 hd
          go_wp2_with fail
          refine (KAA.out _).mono ?_
          rintro _ _ ⟨rfl, x, rfl⟩
          go_wp2_with fail
          refine (KR.out _).mono ?_
          rintro _ _ ⟨rfl, x, rfl⟩
          go_wp2_with fail
          refine (KL.out _).mono ?_
          rintro _ _ ⟨rfl, x, rfl⟩
          cases rbc with
          | false =>
            go_wp2_with fail
            refine (KBC.out _).mono ?_
            rintro _ _ ⟨rfl, x, rfl⟩
            go_wp2_with fail
            go_ret
            exact ⟨rfl, by rw [hA]; exact (gI.out _ x.is).2.2.2.2⟩
          | true =>
            obtain rfl : rac = true := by first | exact H2.out rfl rfl | simpa using H2.out
            go_wp2_with fail
            refine (KBC.out _).mono ?_
            rintro _ _ ⟨rfl, x, rfl⟩
            go_wp2_with fail
            refine (KAC.out _).mono ?_
            rintro _ _ ⟨rfl, x, rfl⟩
            go_wp2_with fail
            go_ret
            exact ⟨rfl, by rw [hA]; exact (gI.out _ x.is).2.2.2.2⟩
end Go.Proofs.Ytaiacohnhhicpaa
