/-
  The law's walk: who is told later waits as long behind that, and is else the same.
-/
import Derived.Test.YtaiacohnhhicpaaDutP
import Derived.Test.YtaiacohnhhicpaaDutR
import Derived.Test.YtaiacohnhhicpaaLawA
import Derived.Test.YtaiacohnhhicpaaDutN
namespace Go.Proofs.Ytaiacohnhhicpaa
open Go.RowKit Go.Shelf
set_option linter.unusedVariables false

set_option maxRecDepth 100000 in
set_option maxHeartbeats 6400000 in
theorem late_walk (o1 : Option Addr) (n1 c1 : Nat) (o2 : Option Addr) (n2 c2 : Nat) (c : CfgL) (oa : Option Addr) (n ca : Nat) (d : D6) (now more : Int) (ok : Bool) (draw : Int) (w : World) (hC : CfgAt w o1 n1 c1 o2 n2 c2 c) (hL : Ls w oa n ca d.ls) :
    Calls Try.prog 6 #[aggC o1 n1 c1 o2 n2 c2 c, aggD oa n ca d, .int .i64 now, .int .i64 more, .bool ok, .int .i64 draw] w fun e w' => e = .returned (.bool true) ∧ Below w.heap.size w w' := by
  have B0 := below_alloc w (.cells (cfgV (.slice o1 n1 c1) (.slice o2 n2 c2) c.2.2.1 c.2.2.2) 33)
  have B2 := B0.alloc B0.size (.cells (dV (.slice oa n ca) d) 24)
  have Va := (Vals.new w 33 (cfgV (.slice o1 n1 c1) (.slice o2 n2 c2) c.2.2.1 c.2.2.2)).alloc (.cells (dV (.slice oa n ca) d) 24)
  have Vb := Vals.new (w.alloc (.cells (cfgV (.slice o1 n1 c1) (.slice o2 n2 c2) c.2.2.1 c.2.2.2) 33)) 24 (dV (.slice oa n ca) d)
  rw [World.size_alloc] at Vb
  have lc := hC.below B2 (Nat.le_refl _)
  have ld := hL.below B2 (Nat.le_refl _)
  obtain ⟨rs, ts, cq, ct⟩ := c
  obtain ⟨dl, d1, d2, d3, d4, d5⟩ := d
  dsimp only [dV, aggD, aggC] at *
  clear B0
  go_enter Try.func6, Try.ntmps6
  go_upto_region 1 with fail
  generalize (w.alloc (.cells (cfgV (.slice o1 n1 c1) (.slice o2 n2 c2) cq ct) 33)).alloc (.cells #[.slice oa n ca, .int .i64 d1, .int .i64 d2, .int .i64 d3, .int .i64 d4, .int .i64 d5] 24) = W at *
  have hW := B2.size
  generalize hA : w.heap.size = A at *
  go_cut [19, 20, 21, 22] (fun _ _ _ _ wx => (Vals wx A 33 (cfgV (.slice o1 (min n1 6) c1) (.slice o2 (min n2 6) c2) cq ct) ∧ Vals wx (A + 1) 24 (dV (.slice oa (min n 5) ca) (cutD ⟨dl, d1, d2, d3, d4, d5⟩))) ∧ Below A w wx ∧ A ≤ wx.heap.size)
  case first =>
    obtain ⟨I, hID⟩ : ∃ I : World → Prop, I = fun wx => (Vals wx A 33 (cfgV (.slice o1 n1 c1) (.slice o2 n2 c2) cq ct) ∧ Vals wx (A + 1) 24 #[.slice oa n ca, .int .i64 d1, .int .i64 d2, .int .i64 d3, .int .i64 d4, .int .i64 d5]) ∧ (CfgAt wx o1 n1 c1 o2 n2 c2 (rs, ts, cq, ct) ∧ Ls wx oa n ca dl) ∧ (A ≤ wx.heap.size ∧ Below A w wx) := ⟨_, rfl⟩
    have st : Hid (Stable I) := by
      show Stable I
      rw [hID]
      exact ((Stable.vals _ _ _).and (Stable.vals _ _ _)).and (((Stable.cfg _ _ _ _ _ _ _).and (Stable.lies _ _ _ _)).and (Stable.below _ _))
    have gI : Hid (∀ wx, I wx → (Vals wx A 33 (cfgV (.slice o1 n1 c1) (.slice o2 n2 c2) cq ct) ∧ Vals wx (A + 1) 24 #[.slice oa n ca, .int .i64 d1, .int .i64 d2, .int .i64 d3, .int .i64 d4, .int .i64 d5]) ∧ (CfgAt wx o1 n1 c1 o2 n2 c2 (rs, ts, cq, ct) ∧ Ls wx oa n ca dl) ∧ (A ≤ wx.heap.size ∧ Below A w wx)) := by intro wx h; rw [hID] at h; exact h
    have hI0 : I W := by rw [hID]; exact ⟨⟨Va, Vb⟩, ⟨lc, ld⟩, hW, B2⟩
    have hId := st.out.drew hI0
    haveI ne : Nonempty (Cls I) := ⟨⟨_, hId⟩⟩
    clear hID hI0 Va Vb lc ld B2 hW
    have p0 : ∀ x : Cls I, x.w.cell? ⟨A, 0, none⟩ = some (.slice o1 n1 c1) := fun x => ((gI.out _ x.is).1.1).cell 0
    have p1 : ∀ x : Cls I, x.w.cell? ⟨A, 1, none⟩ = some (.slice o2 n2 c2) := fun x => ((gI.out _ x.is).1.1).cell 1
    have p2 : ∀ x : Cls I, x.w.cell? ⟨A, 2, none⟩ = some (.int .i64 cq) := fun x => ((gI.out _ x.is).1.1).cell 2
    have p3 : ∀ x : Cls I, x.w.cell? ⟨A, 3, none⟩ = some (.int .i64 ct) := fun x => ((gI.out _ x.is).1.1).cell 3
    have q0 : ∀ x : Cls I, x.w.cell? ⟨A + 1, 0, none⟩ = some (.slice oa n ca) := fun x => ((gI.out _ x.is).1.2).cell 0
    have q1 : ∀ x : Cls I, x.w.cell? ⟨A + 1, 1, none⟩ = some (.int .i64 d1) := fun x => ((gI.out _ x.is).1.2).cell 1
    have q2 : ∀ x : Cls I, x.w.cell? ⟨A + 1, 2, none⟩ = some (.int .i64 d2) := fun x => ((gI.out _ x.is).1.2).cell 2
    have q3 : ∀ x : Cls I, x.w.cell? ⟨A + 1, 3, none⟩ = some (.int .i64 d3) := fun x => ((gI.out _ x.is).1.2).cell 3
    have q4 : ∀ x : Cls I, x.w.cell? ⟨A + 1, 4, none⟩ = some (.int .i64 d4) := fun x => ((gI.out _ x.is).1.2).cell 4
    have q5 : ∀ x : Cls I, x.w.cell? ⟨A + 1, 5, none⟩ = some (.int .i64 d5) := fun x => ((gI.out _ x.is).1.2).cell 5
    have K1 : Hid (∀ x : Cls I, Calls Try.prog 12 #[.agg (cfgV (.slice o1 n1 c1) (.slice o2 n2 c2) cq ct)] x.w fun e w'' => e = .returned (aggC o1 (min n1 6) c1 o2 (min n2 6) c2 (fewC (rs, ts, cq, ct))) ∧ ∃ y : Cls I, w'' = y.w) := fun x => class_of st.out (few_any o1 n1 c1 o2 n2 c2 (rs, ts, cq, ct) x.w (gI.out _ x.is).2.1.1.rs.room (gI.out _ x.is).2.1.1.qs.room)
    have K2 : Hid (∀ x : Cls I, Calls Try.prog 7 #[.agg #[.slice oa n ca, .int .i64 d1, .int .i64 d2, .int .i64 d3, .int .i64 d4, .int .i64 d5]] x.w fun e w'' => e = .returned (aggD oa (min n 5) ca (cutD ⟨dl, d1, d2, d3, d4, d5⟩)) ∧ ∃ y : Cls I, w'' = y.w) := fun x => class_of st.out (cut_any oa n ca ⟨dl, d1, d2, d3, d4, d5⟩ x.w (gI.out _ x.is).2.1.2)
    refine wp_region_class_tail I 4 (by kernel_rfl) (by kernel_rfl) hId ?_
    simp only [List.take_succ_cons, List.take_zero, List.drop_succ_cons, List.drop_zero]
    iterate 2 (go_big_quiet_step (exact K1.out _))
    repeat (go_big_quiet_step (exact K2.out _))
    refine wpQuiet_nil ?_
    rintro _ ⟨x, rfl⟩
    clear p0 p1 p2 p3 q0 q1 q2 q3 q4 q5 K1 K2 hId
    obtain ⟨⟨Va, Vb⟩, _, hW, B2⟩ := gI.out _ x.is
    generalize x.w = W2 at *
    clear ne gI st x I
    have u0 : W2.cell? ⟨A, 0, none⟩ = some (.slice o1 n1 c1) := Va.cell 0
    have u1 : W2.cell? ⟨A, 1, none⟩ = some (.slice o2 n2 c2) := Va.cell 1
    have u2 : W2.cell? ⟨A, 2, none⟩ = some (.int .i64 cq) := Va.cell 2
    have u3 : W2.cell? ⟨A, 3, none⟩ = some (.int .i64 ct) := Va.cell 3
    have fu0 := Va.free 0
    have fu1 := Va.free 1
    have fu2 := Va.free 2
    have fu3 := Va.free 3
    have v0 : W2.cell? ⟨A + 1, 0, none⟩ = some (.slice oa n ca) := Vb.cell 0
    have v1 : W2.cell? ⟨A + 1, 1, none⟩ = some (.int .i64 d1) := Vb.cell 1
    have v2 : W2.cell? ⟨A + 1, 2, none⟩ = some (.int .i64 d2) := Vb.cell 2
    have v3 : W2.cell? ⟨A + 1, 3, none⟩ = some (.int .i64 d3) := Vb.cell 3
    have v4 : W2.cell? ⟨A + 1, 4, none⟩ = some (.int .i64 d4) := Vb.cell 4
    have v5 : W2.cell? ⟨A + 1, 5, none⟩ = some (.int .i64 d5) := Vb.cell 5
    have fv0 := Vb.free 0
    have fv1 := Vb.free 1
    have fv2 := Vb.free 2
    have fv3 := Vb.free 3
    have fv4 := Vb.free 4
    have fv5 := Vb.free 5
    have HV := Lib.hid (And.intro Va Vb)
    clear Va Vb
    go_wp2_with fail
    go_meet
    case rel =>
      obtain ⟨Va, Vb⟩ := HV.out
      have x1 := Va.four (.slice o1 (min n1 6) c1) (.slice o2 (min n2 6) c2) (.int .i64 cq) (.int .i64 ct)
      have y1 := Vb.four_other (show A + 1 ≠ A by omega) (.slice o1 (min n1 6) c1) (.slice o2 (min n2 6) c2) (.int .i64 cq) (.int .i64 ct)
      have x2 := x1.six_other (show A ≠ A + 1 by omega) (.slice oa (min n 5) ca) (.int .i64 d1) (.int .i64 d2) (.int .i64 d3) (.int .i64 d4) (.int .i64 d5)
      have y2 := y1.six (.slice oa (min n 5) ca) (.int .i64 d1) (.int .i64 d2) (.int .i64 d3) (.int .i64 d4) (.int .i64 d5)
      exact ⟨⟨x2, y2⟩, below_six (below_four B2 (Nat.le_refl _) _ _ _ _) (show A ≤ A + 1 by omega) _ _ _ _ _ _, by simpa using hW⟩
  case rest =>
    clear Va Vb lc ld hW B2
    obtain ⟨⟨Va, Vb⟩, B2, hW⟩ := hcut
    have lc := (hC.below B2 (Nat.le_of_eq hA)).few
    have ld : DAt wc oa (min n 5) ca (cutD ⟨dl, d1, d2, d3, d4, d5⟩) := DAt.cut (d := ⟨dl, d1, d2, d3, d4, d5⟩) (hL.below B2 (Nat.le_of_eq hA))
    clear hC hL
    dsimp only [cutD, dV, fewC] at *
    generalize dl.take 5 = dl at *
    generalize rs.take 6 = rs at *
    generalize ts.take 6 = ts at *
    generalize min n 5 = n at *
    generalize min n1 6 = n1 at *
    generalize min n2 6 = n2 at *
    obtain ⟨I, hID⟩ : ∃ I : World → Prop, I = fun wx => (Vals wx A 33 (cfgV (.slice o1 n1 c1) (.slice o2 n2 c2) cq ct) ∧ Vals wx (A + 1) 24 #[.slice oa n ca, .int .i64 d1, .int .i64 d2, .int .i64 d3, .int .i64 d4, .int .i64 d5]) ∧ (CfgAt wx o1 n1 c1 o2 n2 c2 (rs, ts, cq, ct) ∧ DAt wx oa n ca ⟨dl, d1, d2, d3, d4, d5⟩) ∧ (A ≤ wx.heap.size ∧ Below A w wx) := ⟨_, rfl⟩
    have st : Hid (Stable I) := by
      show Stable I
      rw [hID]
      exact ((Stable.vals _ _ _).and (Stable.vals _ _ _)).and (((Stable.cfg _ _ _ _ _ _ _).and (Stable.dat _ _ _ _)).and (Stable.below _ _))
    have gI : Hid (∀ wx, I wx → (Vals wx A 33 (cfgV (.slice o1 n1 c1) (.slice o2 n2 c2) cq ct) ∧ Vals wx (A + 1) 24 #[.slice oa n ca, .int .i64 d1, .int .i64 d2, .int .i64 d3, .int .i64 d4, .int .i64 d5]) ∧ (CfgAt wx o1 n1 c1 o2 n2 c2 (rs, ts, cq, ct) ∧ DAt wx oa n ca ⟨dl, d1, d2, d3, d4, d5⟩) ∧ (A ≤ wx.heap.size ∧ Below A w wx)) := by intro wx h; rw [hID] at h; exact h
    have hI0 : I wc := by rw [hID]; exact ⟨⟨Va, Vb⟩, ⟨lc, ld⟩, hW, B2⟩
    have hId := st.out.drew hI0
    haveI ne : Nonempty (Cls I) := ⟨⟨_, hId⟩⟩
    obtain ⟨x, rfl⟩ : ∃ x : Cls I, wc = x.w := ⟨⟨_, hI0⟩, rfl⟩
    clear hID hI0 hId Va Vb lc ld B2 hW
    have p0 : ∀ x : Cls I, x.w.cell? ⟨A, 0, none⟩ = some (.slice o1 n1 c1) := fun x => ((gI.out _ x.is).1.1).cell 0
    have p1 : ∀ x : Cls I, x.w.cell? ⟨A, 1, none⟩ = some (.slice o2 n2 c2) := fun x => ((gI.out _ x.is).1.1).cell 1
    have p2 : ∀ x : Cls I, x.w.cell? ⟨A, 2, none⟩ = some (.int .i64 cq) := fun x => ((gI.out _ x.is).1.1).cell 2
    have p3 : ∀ x : Cls I, x.w.cell? ⟨A, 3, none⟩ = some (.int .i64 ct) := fun x => ((gI.out _ x.is).1.1).cell 3
    have q0 : ∀ x : Cls I, x.w.cell? ⟨A + 1, 0, none⟩ = some (.slice oa n ca) := fun x => ((gI.out _ x.is).1.2).cell 0
    have q1 : ∀ x : Cls I, x.w.cell? ⟨A + 1, 1, none⟩ = some (.int .i64 d1) := fun x => ((gI.out _ x.is).1.2).cell 1
    have q2 : ∀ x : Cls I, x.w.cell? ⟨A + 1, 2, none⟩ = some (.int .i64 d2) := fun x => ((gI.out _ x.is).1.2).cell 2
    have q3 : ∀ x : Cls I, x.w.cell? ⟨A + 1, 3, none⟩ = some (.int .i64 d3) := fun x => ((gI.out _ x.is).1.2).cell 3
    have q4 : ∀ x : Cls I, x.w.cell? ⟨A + 1, 4, none⟩ = some (.int .i64 d4) := fun x => ((gI.out _ x.is).1.2).cell 4
    have q5 : ∀ x : Cls I, x.w.cell? ⟨A + 1, 5, none⟩ = some (.int .i64 d5) := fun x => ((gI.out _ x.is).1.2).cell 5
    obtain ⟨N0, N1⟩ := wrap_cut now 274877906944 (by decide) (by decide)
    obtain ⟨M0, M1⟩ := wrap_cut more 1073741824 (by decide) (by decide)
    go_upto_region 3 with fail
    generalize wrap64 ((IntKind.u64.wrap now).tmod 274877906944) = N at *
    generalize wrap64 ((IntKind.u64.wrap more).tmod 1073741824) = M at *
    have HS1 := sent_any o1 n1 c1 o2 n2 c2 (rs, ts, cq, ct) oa n ca ⟨dl, d1, d2, d3, d4, d5⟩ N ok draw x.w (gI.out _ x.is).2.1.1 (gI.out _ x.is).2.1.2
    have HS2 := fun x : Cls I => sent_any o1 n1 c1 o2 n2 c2 (rs, ts, cq, ct) oa n ca ⟨dl, d1, d2, d3, d4, d5⟩ (N + M) ok draw x.w (gI.out _ x.is).2.1.1 (gI.out _ x.is).2.1.2
    have T0 : timeB N = true := (time_iff _).2 ⟨by omega, by omega⟩
    have T1 : timeB (N + M) = true := (time_iff _).2 ⟨by omega, by omega⟩
    have L1 := Lib.hid (fun h => late_no (c := (rs, ts, cq, ct)) (d := ⟨dl, d1, d2, d3, d4, d5⟩) (ok := ok) (draw := draw) T0 T1 M0 h)
    have L2 := Lib.hid (fun h => late_gone (c := (rs, ts, cq, ct)) (d := ⟨dl, d1, d2, d3, d4, d5⟩) (ok := ok) (draw := draw) T0 T1 M0 h)
    have L3 := Lib.hid (fun h => late_on (c := (rs, ts, cq, ct)) (d := ⟨dl, d1, d2, d3, d4, d5⟩) (ok := ok) (draw := draw) N0 N1 M0 M1 h)
    generalize sentF (rs, ts, cq, ct) ⟨dl, d1, d2, d3, d4, d5⟩ N ok draw = r1 at *
    generalize sentF (rs, ts, cq, ct) ⟨dl, d1, d2, d3, d4, d5⟩ (N + M) ok draw = r2 at *
    obtain ⟨⟨al, a1, a2, a3, a4, a5⟩, g1, e1⟩ := r1
    obtain ⟨⟨bl, b1, b2, b3, b4, b5⟩, g2, e2⟩ := r2
    unfold SentOut at HS1 HS2
    dsimp only [aggD, dV] at HS1 HS2
    have hAx := ((gI.out _ x.is).1.2).lt
    clear T0 T1
    go_wp2_with fail
    refine HS1.mono ?_
    rintro e w5 ⟨⟨og, ng, cg, rfl, hDa⟩, B5⟩
    have J6 := st.out.alloc (st.out _ _ x.is B5) (.cells #[.slice og ng cg, .int .i64 a1, .int .i64 a2, .int .i64 a3, .int .i64 a4, .int .i64 a5] 24)
    have VA := Vals.new w5 24 #[.slice og ng cg, .int .i64 a1, .int .i64 a2, .int .i64 a3, .int .i64 a4, .int .i64 a5]
    have hE : A + 1 < w5.heap.size := Nat.lt_of_lt_of_le hAx B5.size
    have hxE := B5.size
    have B6 := B5.alloc B5.size (.cells #[.slice og ng cg, .int .i64 a1, .int .i64 a2, .int .i64 a3, .int .i64 a4, .int .i64 a5] 24)
    have hDa6 := hDa.below (below_alloc w5 (.cells #[.slice og ng cg, .int .i64 a1, .int .i64 a2, .int .i64 a3, .int .i64 a4, .int .i64 a5] 24)) (Nat.le_refl _)
    have hE2 : w5.heap.size < (w5.alloc (.cells #[.slice og ng cg, .int .i64 a1, .int .i64 a2, .int .i64 a3, .int .i64 a4, .int .i64 a5] 24)).heap.size := by rw [World.size_alloc]; omega
    clear HS1 hDa B5 hAx
    go_upto_region 4 with fail
    generalize w5.heap.size = E at *
    generalize w5.alloc (.cells #[.slice og ng cg, .int .i64 a1, .int .i64 a2, .int .i64 a3, .int .i64 a4, .int .i64 a5] 24) = W6 at *
    obtain ⟨x6, rfl⟩ : ∃ x6 : Cls I, W6 = x6.w := ⟨⟨_, J6⟩, rfl⟩
    have HS3 := HS2 x6
    clear HS2 J6
    go_wp2_with fail
    refine HS3.mono ?_
    rintro e w7 ⟨⟨oh, nh, ch, rfl, hDb⟩, B7⟩
    have J8 := st.out.alloc (st.out _ _ x6.is B7) (.cells #[.slice oh nh ch, .int .i64 b1, .int .i64 b2, .int .i64 b3, .int .i64 b4, .int .i64 b5] 24)
    have VB := Vals.new w7 24 #[.slice oh nh ch, .int .i64 b1, .int .i64 b2, .int .i64 b3, .int .i64 b4, .int .i64 b5]
    have VA8 := (VA.keep B7 (Nat.le_refl _)).alloc (.cells #[.slice oh nh ch, .int .i64 b1, .int .i64 b2, .int .i64 b3, .int .i64 b4, .int .i64 b5] 24)
    have B8 := (B6.trans (B7.mono B6.size)).alloc (Nat.le_trans B6.size B7.size) (.cells #[.slice oh nh ch, .int .i64 b1, .int .i64 b2, .int .i64 b3, .int .i64 b4, .int .i64 b5] 24)
    have hDa8 := (hDa6.below B7 (Nat.le_refl _)).below (below_alloc w7 (.cells #[.slice oh nh ch, .int .i64 b1, .int .i64 b2, .int .i64 b3, .int .i64 b4, .int .i64 b5] 24)) (Nat.le_refl _)
    have hDb8 := hDb.below (below_alloc w7 (.cells #[.slice oh nh ch, .int .i64 b1, .int .i64 b2, .int .i64 b3, .int .i64 b4, .int .i64 b5] 24)) (Nat.le_refl _)
    have hF : E < w7.heap.size := Nat.lt_of_lt_of_le hE2 B7.size
    clear HS3 VA hDa6 hDb hE2 B7 B6 x6
    go_upto_region 5 with fail
    generalize w7.heap.size = F at *
    generalize w7.alloc (.cells #[.slice oh nh ch, .int .i64 b1, .int .i64 b2, .int .i64 b3, .int .i64 b4, .int .i64 b5] 24) = W8 at *
    obtain ⟨x8, rfl⟩ : ∃ x8 : Cls I, W8 = x8.w := ⟨⟨_, J8⟩, rfl⟩
    clear J8
    by_cases he1 : e1 = 0
    · subst he1
      cases g1 with
      | true =>
        obtain ⟨q1, q2', q3', q4'⟩ := L2.out rfl rfl
        try dsimp only at q1 q2' q3'
        subst q1 q2' q3' q4'
        clear L1 L2 L3 VA8 VB hDa8 hDb8
        go_wp2_with fail
        refine (alive_any _).mono ?_
        rintro e w9 ⟨rfl, B9⟩
        obtain ⟨x9, rfl⟩ : ∃ x9 : Cls I, w9 = x9.w := ⟨⟨_, st.out _ _ x8.is B9⟩, rfl⟩
        go_wp2_with fail
        go_ret
        exact ⟨rfl, by rw [hA]; exact (gI.out _ x9.is).2.2.2⟩
      | false =>
        obtain ⟨q1, q2', q3', q4', q5', q6'⟩ := L3.out rfl rfl
        try dsimp only at q1 q2' q3' q4' q5'
        subst q1 q2'
        simp only [D6.mk.injEq] at q3'
        obtain ⟨k1, k2, k3, k4, k5, k6⟩ := q3'
        subst bl b1 b2 b3 b4 b5
        have lc0 := (gI.out _ x.is).2.1.1
        have JB := (gI.out _ x8.is).2.2
        have VC := (gI.out _ x8.is).1.1
        have c4 : x8.w.cell? ⟨E, 4, none⟩ = some (.int .i64 a4) := VA8.cell 4
        have f4 := VA8.free 4
        have VA9 := VA8.set 4 (.int .i64 (a4 + M))
        have VB9 := VB.other (show F ≠ E by omega) 4 (.int .i64 (a4 + M))
        have VC9 := VC.other (show A ≠ E by omega) 4 (.int .i64 (a4 + M))
        have la9 := lies_set hDa8.ls VA8 (duty_no_text _ _ _ _ _ _ _ _) 4 (.int .i64 (a4 + M))
        have lb9 := lies_set hDb8.ls VA8 (duty_no_text _ _ _ _ _ _ _ _) 4 (.int .i64 (a4 + M))
        have lc9 := lc0.below (B8.setCell (p := ⟨E, 4, none⟩) hxE (.int .i64 (a4 + M))) (Nat.le_refl _)
        have B9 := JB.2.setCell (p := ⟨E, 4, none⟩) (show A ≤ E by omega) (.int .i64 (a4 + M))
        have hs9 : A ≤ (x8.w.setCell ⟨E, 4, none⟩ (.int .i64 (a4 + M))).heap.size := by simpa using JB.1
        have hna := hDa8.b
        have hnb := hDb8.b
        clear L1 L2 L3 VA8 VB VC hDa8 hDb8 lc0 JB B8 hxE
        go_upto_region 10 with fail
        clear c4 f4
        generalize x8.w.setCell ⟨E, 4, none⟩ (.int .i64 (a4 + M)) = W9 at *
        clear x8
        clear p0 p1 p2 p3 q0 q1 q2 q3 q4 q5
        obtain ⟨I4, hID⟩ : ∃ I4 : World → Prop, I4 = fun wx => ((Vals wx A 33 (cfgV (.slice o1 n1 c1) (.slice o2 n2 c2) cq ct) ∧ Vals wx E 24 #[.slice og ng cg, .int .i64 a1, .int .i64 a2, .int .i64 a3, .int .i64 (a4 + M), .int .i64 a5]) ∧ Vals wx F 24 #[.slice oh nh ch, .int .i64 a1, .int .i64 a2, .int .i64 a3, .int .i64 (a4 + M), .int .i64 a5]) ∧ ((CfgAt wx o1 n1 c1 o2 n2 c2 (rs, ts, cq, ct) ∧ DAt wx og ng cg ⟨al, a1, a2, a3, a4 + M, a5⟩) ∧ DAt wx oh nh ch ⟨al, a1, a2, a3, a4 + M, a5⟩) ∧ (A ≤ wx.heap.size ∧ Below A w wx) := ⟨_, rfl⟩
        have st4 : Hid (Stable I4) := by
          show Stable I4
          rw [hID]
          exact (((Stable.vals _ _ _).and (Stable.vals _ _ _)).and (Stable.vals _ _ _)).and ((((Stable.cfg _ _ _ _ _ _ _).and (Stable.dat _ _ _ _)).and (Stable.dat _ _ _ _)).and (Stable.below _ _))
        have gJ : Hid (∀ wx, I4 wx → ((Vals wx A 33 (cfgV (.slice o1 n1 c1) (.slice o2 n2 c2) cq ct) ∧ Vals wx E 24 #[.slice og ng cg, .int .i64 a1, .int .i64 a2, .int .i64 a3, .int .i64 (a4 + M), .int .i64 a5]) ∧ Vals wx F 24 #[.slice oh nh ch, .int .i64 a1, .int .i64 a2, .int .i64 a3, .int .i64 (a4 + M), .int .i64 a5]) ∧ ((CfgAt wx o1 n1 c1 o2 n2 c2 (rs, ts, cq, ct) ∧ DAt wx og ng cg ⟨al, a1, a2, a3, a4 + M, a5⟩) ∧ DAt wx oh nh ch ⟨al, a1, a2, a3, a4 + M, a5⟩) ∧ (A ≤ wx.heap.size ∧ Below A w wx)) := by intro wx h; rw [hID] at h; exact h
        have hJ : I4 W9 := by
          rw [hID]
          exact ⟨⟨⟨VC9, by simpa using VA9⟩, VB9⟩, ⟨⟨lc9, la9, hna⟩, lb9, hnb⟩, hs9, B9⟩
        obtain ⟨y, rfl⟩ : ∃ y : Cls I4, W9 = y.w := ⟨⟨_, hJ⟩, rfl⟩
        clear hID hJ VA9 VB9 VC9 la9 lb9 lc9 B9 hs9 hna hnb
        have p0 : ∀ x : Cls I4, x.w.cell? ⟨A, 0, none⟩ = some (.slice o1 n1 c1) := fun x => ((gJ.out _ x.is).1.1.1).cell 0
        have p1 : ∀ x : Cls I4, x.w.cell? ⟨A, 1, none⟩ = some (.slice o2 n2 c2) := fun x => ((gJ.out _ x.is).1.1.1).cell 1
        have p2 : ∀ x : Cls I4, x.w.cell? ⟨A, 2, none⟩ = some (.int .i64 cq) := fun x => ((gJ.out _ x.is).1.1.1).cell 2
        have p3 : ∀ x : Cls I4, x.w.cell? ⟨A, 3, none⟩ = some (.int .i64 ct) := fun x => ((gJ.out _ x.is).1.1.1).cell 3
        have u0 : ∀ x : Cls I4, x.w.cell? ⟨E, 0, none⟩ = some (.slice og ng cg) := fun x => ((gJ.out _ x.is).1.1.2).cell 0
        have u1 : ∀ x : Cls I4, x.w.cell? ⟨E, 1, none⟩ = some (.int .i64 a1) := fun x => ((gJ.out _ x.is).1.1.2).cell 1
        have u2 : ∀ x : Cls I4, x.w.cell? ⟨E, 2, none⟩ = some (.int .i64 a2) := fun x => ((gJ.out _ x.is).1.1.2).cell 2
        have u3 : ∀ x : Cls I4, x.w.cell? ⟨E, 3, none⟩ = some (.int .i64 a3) := fun x => ((gJ.out _ x.is).1.1.2).cell 3
        have u4 : ∀ x : Cls I4, x.w.cell? ⟨E, 4, none⟩ = some (.int .i64 (a4 + M)) := fun x => ((gJ.out _ x.is).1.1.2).cell 4
        have u5 : ∀ x : Cls I4, x.w.cell? ⟨E, 5, none⟩ = some (.int .i64 a5) := fun x => ((gJ.out _ x.is).1.1.2).cell 5
        have v0 : ∀ x : Cls I4, x.w.cell? ⟨F, 0, none⟩ = some (.slice oh nh ch) := fun x => ((gJ.out _ x.is).1.2).cell 0
        have v1 : ∀ x : Cls I4, x.w.cell? ⟨F, 1, none⟩ = some (.int .i64 a1) := fun x => ((gJ.out _ x.is).1.2).cell 1
        have v2 : ∀ x : Cls I4, x.w.cell? ⟨F, 2, none⟩ = some (.int .i64 a2) := fun x => ((gJ.out _ x.is).1.2).cell 2
        have v3 : ∀ x : Cls I4, x.w.cell? ⟨F, 3, none⟩ = some (.int .i64 a3) := fun x => ((gJ.out _ x.is).1.2).cell 3
        have v4 : ∀ x : Cls I4, x.w.cell? ⟨F, 4, none⟩ = some (.int .i64 (a4 + M)) := fun x => ((gJ.out _ x.is).1.2).cell 4
        have v5 : ∀ x : Cls I4, x.w.cell? ⟨F, 5, none⟩ = some (.int .i64 a5) := fun x => ((gJ.out _ x.is).1.2).cell 5
        have KL : Hid (∀ x : Cls I4, Calls Try.prog 11 #[] x.w fun e w'' => e = .returned (.bool true) ∧ ∃ y : Cls I4, w'' = y.w) := fun x => class_of st4.out (alive_any _)
        have KS : Hid (∀ x : Cls I4, Calls Try.prog 15 #[.agg #[.slice og ng cg, .int .i64 a1, .int .i64 a2, .int .i64 a3, .int .i64 (a4 + M), .int .i64 a5], .agg #[.slice oh nh ch, .int .i64 a1, .int .i64 a2, .int .i64 a3, .int .i64 (a4 + M), .int .i64 a5]] x.w fun e w'' => e = .returned (.bool true) ∧ ∃ y : Cls I4, w'' = y.w) := fun x => class_of st4.out (refSameD_any og ng cg oh nh ch ⟨al, a1, a2, a3, a4 + M, a5⟩ x.w (gJ.out _ x.is).2.1.1.2.ls (gJ.out _ x.is).2.1.2.ls (by have := (gJ.out _ x.is).2.1.1.2.b; omega))
        have KR : Hid (∀ x : Cls I4, Calls Try.prog 16 #[.agg (cfgV (.slice o1 n1 c1) (.slice o2 n2 c2) cq ct), .agg #[.slice oh nh ch, .int .i64 a1, .int .i64 a2, .int .i64 a3, .int .i64 (a4 + M), .int .i64 a5]] x.w fun e w'' => e = .returned (.bool true) ∧ ∃ y : Cls I4, w'' = y.w) := fun x => q6' ▸ class_of st4.out (dright_any o1 n1 c1 o2 n2 c2 (rs, ts, cq, ct) oh nh ch ⟨al, a1, a2, a3, a4 + M, a5⟩ x.w (gJ.out _ x.is).2.1.1.1 (gJ.out _ x.is).2.1.2)
        have hgt : N + M < a4 + M := by omega
        clear q6'
        go_wp2_with fail
        refine (KL.out _).mono ?_
        rintro _ _ ⟨rfl, y1, rfl⟩
        go_wp2_with fail
        refine (KS.out _).mono ?_
        rintro _ _ ⟨rfl, y2, rfl⟩
        go_wp2_with fail
        refine (KR.out _).mono ?_
        rintro _ _ ⟨rfl, y3, rfl⟩
        go_wp2_with fail
        go_ret
        exact ⟨rfl, by rw [hA]; exact (gJ.out _ y3.is).2.2.2⟩
    · obtain ⟨q1, q2', q3'⟩ := L1.out he1
      try dsimp only at q1 q2' q3'
      simp only [D6.mk.injEq] at q1
      obtain ⟨rfl, rfl, rfl, rfl, rfl, rfl⟩ := q1
      subst q2'
      have hne : (e1 != 0) = true := by simp [he1]
      have JB := (gI.out _ x8.is).2.2
      clear L1 L2 L3 VB hDb8
      go_wp2_with fail
      refine (alive_any _).mono ?_
      rintro e w9 ⟨rfl, B9⟩
      have VA9 := VA8.keep B9 (Nat.le_refl _)
      have hDa9 := hDa8.below B9 (Nat.le_refl _)
      have B10 := JB.2.trans (B9.mono JB.1)
      have HSm := refSameD_any og ng cg none 0 0 zD w9 hDa9.ls (Ls.nil _ _ _) (by have := hDa9.b; omega)
      dsimp only [aggD, dV] at HSm
      have u0 : w9.cell? ⟨E, 0, none⟩ = some (.slice og ng cg) := VA9.cell 0
      have u1 : w9.cell? ⟨E, 1, none⟩ = some (.int .i64 0) := VA9.cell 1
      have u2 : w9.cell? ⟨E, 2, none⟩ = some (.int .i64 0) := VA9.cell 2
      have u3 : w9.cell? ⟨E, 3, none⟩ = some (.int .i64 0) := VA9.cell 3
      have u4 : w9.cell? ⟨E, 4, none⟩ = some (.int .i64 0) := VA9.cell 4
      have u5 : w9.cell? ⟨E, 5, none⟩ = some (.int .i64 0) := VA9.cell 5
      clear VA8 hDa8 hDa9 VA9
      go_wp2_with fail
      refine HSm.mono ?_
      rintro e w11 ⟨rfl, B11⟩
      have B12 := B10.trans (B11.mono (Nat.le_trans JB.1 B9.size))
      rcases q3' with h | ⟨_, h1, h2⟩
      · subst h
        go_wp2_with fail
        go_ret
        exact ⟨rfl, by rw [hA]; exact B12⟩
      · subst h1 h2
        go_wp2_with fail
        go_ret
        exact ⟨rfl, by rw [hA]; exact B12⟩
end Go.Proofs.Ytaiacohnhhicpaa
