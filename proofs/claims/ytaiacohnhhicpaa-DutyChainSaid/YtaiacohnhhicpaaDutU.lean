/-
  A duty behind a try, and one whose alert does not fire any more (package duty).
  A duty behind a try (package duty).
-/
import Derived.Test.YtaiacohnhhicpaaDutT
namespace Go.Proofs.Ytaiacohnhhicpaa
open Go.RowKit Go.Shelf
set_option linter.unusedVariables false
set_option linter.unusedSimpArgs false

theorem six_keep {w : World} {a : Addr} {v : Value} (h : w.cell? a = some v) {A : Nat} (hne : a.block ≠ A) (y0 y1 y2 y3 y4 y5 : Value) :
    ((((((w.setCell ⟨A, 0, none⟩ y0).setCell ⟨A, 1, none⟩ y1).setCell ⟨A, 2, none⟩ y2).setCell ⟨A, 3, none⟩ y3).setCell ⟨A, 4, none⟩ y4).setCell ⟨A, 5, none⟩ y5).cell? a = some v := by
  have k := fun (w : World) (i : Nat) (u : Value) => World.cell?_of_block (w := w) (a := a) (Below.heap_setCell w ⟨A, i, none⟩ u a.block hne)
  rw [k, k, k, k, k, k, h]
theorem field_way (x y : Value) (w : World) : (Instr.field 78 (.agg #[x, y]) 0).run Try.prog w = .ok x w ∧ (Instr.field 78 (.agg #[x, y]) 1).run Try.prog w = .ok y w := by
  constructor <;> kernel_rfl
/-- what becomes of a duty that is done, by its State -/
def doneR (d : D6) (now : Int) : D6 × Bool × Int := if d.st = 3 then (zD, false, 6) else ((overD d now).1, (overD d now).2, 0)
theorem enter_rep : ∀ args w, (callFunc 50 args).run Try.prog w = .ok (.enter 50 args) w := enters_of Try.func50 (by kernel_rfl) rfl
theorem enter_gone : ∀ args w, (callFunc 51 args).run Try.prog w = .ok (.enter 51 args) w := enters_of Try.func51 (by kernel_rfl) rfl
theorem enter_toEnd : ∀ args w, (callFunc 52 args).run Try.prog w = .ok (.enter 52 args) w := enters_of Try.func52 (by kernel_rfl) rfl
theorem enter_ended : ∀ args w, (callFunc 53 args).run Try.prog w = .ok (.enter 53 args) w := enters_of Try.func53 (by kernel_rfl) rfl
/-- the functions of a State, and what they tell -/
theorem way_of (o1 : Option Addr) (n1 c1 : Nat) (o2 : Option Addr) (n2 c2 : Nat) (c : CfgL) (oa : Option Addr) (n cap : Nat) (d : D6) (now : Int) (w : World) (hD : DAt w oa n cap d) (hR : dutyR c d = true) (hn : timeB now = true) :
    ∃ ft fd : Nat, getI waysL d.st = some (.agg #[.func (.func ft) #[] #[], .func (.func fd) #[] #[]]) ∧ (∀ args w, (callFunc ft args).run Try.prog w = .ok (.enter ft args) w) ∧ (∀ args w, (callFunc fd args).run Try.prog w = .ok (.enter fd args) w) ∧
      (∀ W, Below w.heap.size w W → Calls Try.prog ft #[aggC o1 n1 c1 o2 n2 c2 c, aggD oa n cap d, .int .i64 now] W fun e w' => SentOut ((takenD c d now).1, (takenD c d now).2, 0) w' e ∧ Below W.heap.size W w') ∧
      (∀ W, Below w.heap.size w W → Calls Try.prog fd #[aggC o1 n1 c1 o2 n2 c2 c, aggD oa n cap d, .int .i64 now] W fun e w' => SentOut (doneR d now) w' e ∧ Below W.heap.size W w') := by
  obtain ⟨hcr, hwb⟩ := (dutyR_iff c d).1 hR
  obtain ⟨_, _, _, _, _, s1, s2⟩ := (withB_iff c d).1 hwb
  rcases ways_at d.st with ⟨h, e⟩ | ⟨h, e⟩ | ⟨h, e⟩ | ⟨h, e⟩
  · refine ⟨_, _, e, enter_rep, enter_gone, fun W hW => ?_, fun W hW => ?_⟩
    · have := repeated_any o1 n1 c1 o2 n2 c2 c oa n cap d now W (hD.below hW (Nat.le_refl _)) hcr hn
      unfold takenD
      rw [if_neg (by omega)]
      exact this
    · have := gone_any o1 n1 c1 o2 n2 c2 c oa n cap d now W
      unfold doneR overD
      rw [if_neg (by omega), if_pos h]
      exact this
  · refine ⟨_, _, e, enter_rep, enter_toEnd, fun W hW => ?_, fun W hW => ?_⟩
    · have := repeated_any o1 n1 c1 o2 n2 c2 c oa n cap d now W (hD.below hW (Nat.le_refl _)) hcr hn
      unfold takenD
      rw [if_neg (by omega)]
      exact this
    · have := toBeEnded_any o1 n1 c1 o2 n2 c2 c oa n cap d now W (hD.below hW (Nat.le_refl _))
      unfold doneR overD
      rw [if_neg (by omega), if_neg (by omega)]
      exact this
  · refine ⟨_, _, e, enter_gone, enter_ended, fun W hW => ?_, fun W hW => ?_⟩
    · have := gone_any o1 n1 c1 o2 n2 c2 c oa n cap d now W
      unfold takenD
      rw [if_pos h]
      exact this
    · have := ended_any o1 n1 c1 o2 n2 c2 c oa n cap d now W
      unfold doneR
      rw [if_pos h]
      exact this
  · unfold stateB at h
    simp only [Bool.and_eq_false_iff, decide_eq_false_iff_not] at h
    omega
set_option maxRecDepth 100000 in
set_option maxHeartbeats 6400000 in
theorem done_any (o1 : Option Addr) (n1 c1 : Nat) (o2 : Option Addr) (n2 c2 : Nat) (c : CfgL) (oa : Option Addr) (n cap : Nat) (d : D6) (now : Int) (w : World) (h : CfgAt w o1 n1 c1 o2 n2 c2 c) (hD : DAt w oa n cap d) :
    Calls Try.prog 19 #[aggC o1 n1 c1 o2 n2 c2 c, aggD oa n cap d, .int .i64 now] w fun e w' => SentOut (doneF c d now) w' e ∧ Below w.heap.size w w' := by
  unfold SentOut
  have HF : Hid (doneF c d now = if (dutyR c d && timeB now) = true then doneR d now else (zD, false, 1)) := rfl
  obtain ⟨V1, V2, V3, B3⟩ := three_boxes w 33 24 24 (cfgV (.slice o1 n1 c1) (.slice o2 n2 c2) c.2.2.1 c.2.2.2) (dV (.slice oa n cap) d) zV
  have HG := mayGo_any o1 n1 c1 o2 n2 c2 c oa n cap d now _ (h.below B3 (Nat.le_refl _)) (hD.below B3 (Nat.le_refl _))
  cases hg : (dutyR c d && timeB now) with
  | false =>
    rw [HF.out, hg, if_neg Bool.false_ne_true]
    rw [hg] at HG
    clear h hD HF hg
    obtain ⟨rs, ts, q, t⟩ := c
    obtain ⟨ls, rt, pl, tr, du, st⟩ := d
    dsimp only [aggC, aggD, dV, cfgV] at *
    go_enter Try.func19, Try.ntmps19
    go_upto_region 1 with fail
    generalize ((w.alloc _).alloc _).alloc _ = wr at *
    have x0 : wr.cell? ⟨w.heap.size, 0, none⟩ = some (.slice o1 n1 c1) := V1.cell 0
    have x1 : wr.cell? ⟨w.heap.size, 1, none⟩ = some (.slice o2 n2 c2) := V1.cell 1
    have x2 : wr.cell? ⟨w.heap.size, 2, none⟩ = some (.int .i64 q) := V1.cell 2
    have x3 : wr.cell? ⟨w.heap.size, 3, none⟩ = some (.int .i64 t) := V1.cell 3
    have y0 : wr.cell? ⟨w.heap.size + 1, 0, none⟩ = some (.slice oa n cap) := V2.cell 0
    have y1 : wr.cell? ⟨w.heap.size + 1, 1, none⟩ = some (.int .i64 rt) := V2.cell 1
    have y2 : wr.cell? ⟨w.heap.size + 1, 2, none⟩ = some (.int .i64 pl) := V2.cell 2
    have y3 : wr.cell? ⟨w.heap.size + 1, 3, none⟩ = some (.int .i64 tr) := V2.cell 3
    have y4 : wr.cell? ⟨w.heap.size + 1, 4, none⟩ = some (.int .i64 du) := V2.cell 4
    have y5 : wr.cell? ⟨w.heap.size + 1, 5, none⟩ = some (.int .i64 st) := V2.cell 5
    clear V1 V2
    go_wp2_with fail
    refine HG.mono ?_
    rintro e w4 ⟨rfl, B4⟩
    have V34 := V3.keep B4 (Nat.le_refl _)
    have B5 := B3.trans (B4.mono B3.size)
    clear x0 x1 x2 x3 y0 y1 y2 y3 y4 y5 V3 B3 B4 HG
    have f0 := V34.free 0; have f1 := V34.free 1; have f2 := V34.free 2; have f3 := V34.free 3; have f4 := V34.free 4; have f5 := V34.free 5
    have u0 : w4.cell? ⟨w.heap.size + 1 + 1, 0, none⟩ = some (.slice none 0 0) := V34.cell 0
    have u1 : w4.cell? ⟨w.heap.size + 1 + 1, 1, none⟩ = some (.int .i64 0) := V34.cell 1
    have u2 : w4.cell? ⟨w.heap.size + 1 + 1, 2, none⟩ = some (.int .i64 0) := V34.cell 2
    have u3 : w4.cell? ⟨w.heap.size + 1 + 1, 3, none⟩ = some (.int .i64 0) := V34.cell 3
    have u4 : w4.cell? ⟨w.heap.size + 1 + 1, 4, none⟩ = some (.int .i64 0) := V34.cell 4
    have u5 : w4.cell? ⟨w.heap.size + 1 + 1, 5, none⟩ = some (.int .i64 0) := V34.cell 5
    have V6 := V34.six (.slice none 0 0) (.int .i64 0) (.int .i64 0) (.int .i64 0) (.int .i64 0) (.int .i64 0)
    go_wp2_with fail
    refine bodyPost_ret (retD3 (d := zD) rfl rfl rfl rfl V6) rfl ?_
    exact ⟨⟨none, 0, 0, rfl, DAt.nil _⟩, below_six B5 (by omega) _ _ _ _ _ _⟩
  | true =>
    rw [HF.out, hg]
    rw [hg] at HG
    rw [Bool.and_eq_true] at hg
    obtain ⟨ft, fd, hget, _, efd, _, HW⟩ := way_of o1 n1 c1 o2 n2 c2 c oa n cap d now w hD hg.1 hg.2
    rw [if_pos rfl]
    have hUM : Try.prog.underlying 79 = some (.map 3 78) := Try.underlying79
    have hUI : Try.prog.underlying 3 = some (.int .i64) := Try.underlying3
    have HFd := fun w => (field_way (.func (.func ft) #[] #[]) (.func (.func fd) #[] #[]) w).2
    unfold SentOut at HW
    generalize doneR d now = r at *
    obtain ⟨⟨r1, r2, r3, r4, r5, r6⟩, rg, re⟩ := r
    clear h hD HF hg
    obtain ⟨rs, ts, q, t⟩ := c
    obtain ⟨ls, rt, pl, tr, du, st⟩ := d
    dsimp only [aggC, aggD, dV, cfgV] at *
    go_enter Try.func19, Try.ntmps19
    go_upto_region 1 with fail
    generalize ((w.alloc _).alloc _).alloc _ = wr at *
    have x0 : wr.cell? ⟨w.heap.size, 0, none⟩ = some (.slice o1 n1 c1) := V1.cell 0
    have x1 : wr.cell? ⟨w.heap.size, 1, none⟩ = some (.slice o2 n2 c2) := V1.cell 1
    have x2 : wr.cell? ⟨w.heap.size, 2, none⟩ = some (.int .i64 q) := V1.cell 2
    have x3 : wr.cell? ⟨w.heap.size, 3, none⟩ = some (.int .i64 t) := V1.cell 3
    have y0 : wr.cell? ⟨w.heap.size + 1, 0, none⟩ = some (.slice oa n cap) := V2.cell 0
    have y1 : wr.cell? ⟨w.heap.size + 1, 1, none⟩ = some (.int .i64 rt) := V2.cell 1
    have y2 : wr.cell? ⟨w.heap.size + 1, 2, none⟩ = some (.int .i64 pl) := V2.cell 2
    have y3 : wr.cell? ⟨w.heap.size + 1, 3, none⟩ = some (.int .i64 tr) := V2.cell 3
    have y4 : wr.cell? ⟨w.heap.size + 1, 4, none⟩ = some (.int .i64 du) := V2.cell 4
    have y5 : wr.cell? ⟨w.heap.size + 1, 5, none⟩ = some (.int .i64 st) := V2.cell 5
    go_wp2_with fail
    refine HG.mono ?_
    rintro e w4 ⟨rfl, B4⟩
    have V14 := V1.keep B4 (Nat.le_refl _)
    have V24 := V2.keep B4 (Nat.le_refl _)
    have V34 := V3.keep B4 (Nat.le_refl _)
    have B5 := B3.trans (B4.mono B3.size)
    have hS4 : Hid (w.heap.size ≤ w4.drew.heap.size) := by show w.heap.size ≤ w4.heap.size; exact B5.size
    clear x0 x1 x2 x3 y0 y1 y2 y3 y4 y5 V1 V2 V3 B3 B4 HG
    have x0 : w4.cell? ⟨w.heap.size, 0, none⟩ = some (.slice o1 n1 c1) := V14.cell 0
    have x1 : w4.cell? ⟨w.heap.size, 1, none⟩ = some (.slice o2 n2 c2) := V14.cell 1
    have x2 : w4.cell? ⟨w.heap.size, 2, none⟩ = some (.int .i64 q) := V14.cell 2
    have x3 : w4.cell? ⟨w.heap.size, 3, none⟩ = some (.int .i64 t) := V14.cell 3
    have y0 : w4.cell? ⟨w.heap.size + 1, 0, none⟩ = some (.slice oa n cap) := V24.cell 0
    have y1 : w4.cell? ⟨w.heap.size + 1, 1, none⟩ = some (.int .i64 rt) := V24.cell 1
    have y2 : w4.cell? ⟨w.heap.size + 1, 2, none⟩ = some (.int .i64 pl) := V24.cell 2
    have y3 : w4.cell? ⟨w.heap.size + 1, 3, none⟩ = some (.int .i64 tr) := V24.cell 3
    have y4 : w4.cell? ⟨w.heap.size + 1, 4, none⟩ = some (.int .i64 du) := V24.cell 4
    have y5 : w4.cell? ⟨w.heap.size + 1, 5, none⟩ = some (.int .i64 st) := V24.cell 5
    go_wp2_with fail
    have hz0 : ∀ i : Nat, (⟨w.heap.size, i, none⟩ : Addr).block ≠ w.heap.size + 1 + 1 := fun i => by show w.heap.size ≠ _; omega
    have hz1 : ∀ i : Nat, (⟨w.heap.size + 1, i, none⟩ : Addr).block ≠ w.heap.size + 1 + 1 := fun i => by show w.heap.size + 1 ≠ _; omega
    have dx0 : w4.drew.cell? ⟨w.heap.size, 0, none⟩ = some (.slice o1 n1 c1) := x0
    have dx1 : w4.drew.cell? ⟨w.heap.size, 1, none⟩ = some (.slice o2 n2 c2) := x1
    have dx2 : w4.drew.cell? ⟨w.heap.size, 2, none⟩ = some (.int .i64 q) := x2
    have dx3 : w4.drew.cell? ⟨w.heap.size, 3, none⟩ = some (.int .i64 t) := x3
    have dy0 : w4.drew.cell? ⟨w.heap.size + 1, 0, none⟩ = some (.slice oa n cap) := y0
    have dy1 : w4.drew.cell? ⟨w.heap.size + 1, 1, none⟩ = some (.int .i64 rt) := y1
    have dy2 : w4.drew.cell? ⟨w.heap.size + 1, 2, none⟩ = some (.int .i64 pl) := y2
    have dy3 : w4.drew.cell? ⟨w.heap.size + 1, 3, none⟩ = some (.int .i64 tr) := y3
    have dy4 : w4.drew.cell? ⟨w.heap.size + 1, 4, none⟩ = some (.int .i64 du) := y4
    have dy5 : w4.drew.cell? ⟨w.heap.size + 1, 5, none⟩ = some (.int .i64 st) := y5
    go_region_held3 (fun w' => w'.cell? ⟨w.heap.size, 0, none⟩ = some (.slice o1 n1 c1) ∧ w'.cell? ⟨w.heap.size, 1, none⟩ = some (.slice o2 n2 c2) ∧ w'.cell? ⟨w.heap.size, 2, none⟩ = some (.int .i64 q) ∧ w'.cell? ⟨w.heap.size, 3, none⟩ = some (.int .i64 t) ∧ w'.cell? ⟨w.heap.size + 1, 0, none⟩ = some (.slice oa n cap) ∧ w'.cell? ⟨w.heap.size + 1, 1, none⟩ = some (.int .i64 rt) ∧ w'.cell? ⟨w.heap.size + 1, 2, none⟩ = some (.int .i64 pl) ∧ w'.cell? ⟨w.heap.size + 1, 3, none⟩ = some (.int .i64 tr) ∧ w'.cell? ⟨w.heap.size + 1, 4, none⟩ = some (.int .i64 du) ∧ w'.cell? ⟨w.heap.size + 1, 5, none⟩ = some (.int .i64 st))
      (first | with_reducible exact ⟨dx0, dx1, dx2, dx3, dy0, dy1, dy2, dy3, dy4, dy5⟩ | with_reducible exact ⟨x0, x1, x2, x3, y0, y1, y2, y3, y4, y5⟩ | with_reducible exact ⟨qx0, qx1, qx2, qx3, qy0, qy1, qy2, qy3, qy4, qy5⟩)
      (first
      | (go_at_call 36; refine (states_any _).mono ?_; rintro e w5 ⟨rfl, hM, B6⟩; have L1 := (hM.look hUM hUI st (Try.zeroValue78 w5)).1; rw [hget, Option.getD_some] at L1; change (Instr.lookup 79 (.map (some w4.heap.size)) (.int .i64 st) false).run Try.prog w5 = _ at L1; have V15 := Vals.keep (w := w4.drew) V14 B6 (Nat.le_refl _); have V25 := Vals.keep (w := w4.drew) V24 B6 (Nat.le_refl _); have V35 := Vals.keep (w := w4.drew) V34 B6 (Nat.le_refl _); have B7 := B5.drew.trans (B6.mono hS4.out); have x0 : w5.cell? ⟨w.heap.size, 0, none⟩ = some (.slice o1 n1 c1) := V15.cell 0; have x1 : w5.cell? ⟨w.heap.size, 1, none⟩ = some (.slice o2 n2 c2) := V15.cell 1; have x2 : w5.cell? ⟨w.heap.size, 2, none⟩ = some (.int .i64 q) := V15.cell 2; have x3 : w5.cell? ⟨w.heap.size, 3, none⟩ = some (.int .i64 t) := V15.cell 3; have y0 : w5.cell? ⟨w.heap.size + 1, 0, none⟩ = some (.slice oa n cap) := V25.cell 0; have y1 : w5.cell? ⟨w.heap.size + 1, 1, none⟩ = some (.int .i64 rt) := V25.cell 1; have y2 : w5.cell? ⟨w.heap.size + 1, 2, none⟩ = some (.int .i64 pl) := V25.cell 2; have y3 : w5.cell? ⟨w.heap.size + 1, 3, none⟩ = some (.int .i64 tr) := V25.cell 3; have y4 : w5.cell? ⟨w.heap.size + 1, 4, none⟩ = some (.int .i64 du) := V25.cell 4; have y5 : w5.cell? ⟨w.heap.size + 1, 5, none⟩ = some (.int .i64 st) := V25.cell 5)
      | (refine (HW _ B7).mono ?_; rintro e w6 ⟨⟨ob, n', cp, rfl, hO⟩, B8⟩; have V16 := V15.keep B8 (Nat.le_refl _); have V26 := V25.keep B8 (Nat.le_refl _); have V36 := V35.keep B8 (Nat.le_refl _); have x0 : w6.cell? ⟨w.heap.size, 0, none⟩ = some (.slice o1 n1 c1) := V16.cell 0; have x1 : w6.cell? ⟨w.heap.size, 1, none⟩ = some (.slice o2 n2 c2) := V16.cell 1; have x2 : w6.cell? ⟨w.heap.size, 2, none⟩ = some (.int .i64 q) := V16.cell 2; have x3 : w6.cell? ⟨w.heap.size, 3, none⟩ = some (.int .i64 t) := V16.cell 3; have y0 : w6.cell? ⟨w.heap.size + 1, 0, none⟩ = some (.slice oa n cap) := V26.cell 0; have y1 : w6.cell? ⟨w.heap.size + 1, 1, none⟩ = some (.int .i64 rt) := V26.cell 1; have y2 : w6.cell? ⟨w.heap.size + 1, 2, none⟩ = some (.int .i64 pl) := V26.cell 2; have y3 : w6.cell? ⟨w.heap.size + 1, 3, none⟩ = some (.int .i64 tr) := V26.cell 3; have y4 : w6.cell? ⟨w.heap.size + 1, 4, none⟩ = some (.int .i64 du) := V26.cell 4; have y5 : w6.cell? ⟨w.heap.size + 1, 5, none⟩ = some (.int .i64 st) := V26.cell 5; have B9 := B7.trans (B8.mono B7.size); have f0 := V36.free 0; have f1 := V36.free 1; have f2 := V36.free 2; have f3 := V36.free 3; have f4 := V36.free 4; have f5 := V36.free 5; have u0 : w6.cell? ⟨w.heap.size + 1 + 1, 0, none⟩ = some (.slice none 0 0) := V36.cell 0; have u1 : w6.cell? ⟨w.heap.size + 1 + 1, 1, none⟩ = some (.int .i64 0) := V36.cell 1; have u2 : w6.cell? ⟨w.heap.size + 1 + 1, 2, none⟩ = some (.int .i64 0) := V36.cell 2; have u3 : w6.cell? ⟨w.heap.size + 1 + 1, 3, none⟩ = some (.int .i64 0) := V36.cell 3; have u4 : w6.cell? ⟨w.heap.size + 1 + 1, 4, none⟩ = some (.int .i64 0) := V36.cell 4; have u5 : w6.cell? ⟨w.heap.size + 1 + 1, 5, none⟩ = some (.int .i64 0) := V36.cell 5; have qx0 := six_keep x0 (hz0 0) (.slice ob n' cp) (.int .i64 r2) (.int .i64 r3) (.int .i64 r4) (.int .i64 r5) (.int .i64 r6); have qx1 := six_keep x1 (hz0 1) (.slice ob n' cp) (.int .i64 r2) (.int .i64 r3) (.int .i64 r4) (.int .i64 r5) (.int .i64 r6); have qx2 := six_keep x2 (hz0 2) (.slice ob n' cp) (.int .i64 r2) (.int .i64 r3) (.int .i64 r4) (.int .i64 r5) (.int .i64 r6); have qx3 := six_keep x3 (hz0 3) (.slice ob n' cp) (.int .i64 r2) (.int .i64 r3) (.int .i64 r4) (.int .i64 r5) (.int .i64 r6); have qy0 := six_keep y0 (hz1 0) (.slice ob n' cp) (.int .i64 r2) (.int .i64 r3) (.int .i64 r4) (.int .i64 r5) (.int .i64 r6); have qy1 := six_keep y1 (hz1 1) (.slice ob n' cp) (.int .i64 r2) (.int .i64 r3) (.int .i64 r4) (.int .i64 r5) (.int .i64 r6); have qy2 := six_keep y2 (hz1 2) (.slice ob n' cp) (.int .i64 r2) (.int .i64 r3) (.int .i64 r4) (.int .i64 r5) (.int .i64 r6); have qy3 := six_keep y3 (hz1 3) (.slice ob n' cp) (.int .i64 r2) (.int .i64 r3) (.int .i64 r4) (.int .i64 r5) (.int .i64 r6); have qy4 := six_keep y4 (hz1 4) (.slice ob n' cp) (.int .i64 r2) (.int .i64 r3) (.int .i64 r4) (.int .i64 r5) (.int .i64 r6); have qy5 := six_keep y5 (hz1 5) (.slice ob n' cp) (.int .i64 r2) (.int .i64 r3) (.int .i64 r4) (.int .i64 r5) (.int .i64 r6)))
    all_goals
      have V46 := V36.six (.slice ob n' cp) (.int .i64 r2) (.int .i64 r3) (.int .i64 r4) (.int .i64 r5) (.int .i64 r6)
      clear x0 x1 x2 x3 y0 y1 y2 y3 y4 y5 dx0 dx1 dx2 dx3 dy0 dy1 dy2 dy3 dy4 dy5 qx0 qx1 qx2 qx3 qy0 qy1 qy2 qy3 qy4 qy5 f0 f1 f2 f3 f4 f5 u0 u1 u2 u3 u4 u5 L1 hM HW
      go_wp2_with fail
      refine bodyPost_ret (retD3 (d := ⟨r1, r2, r3, r4, r5, r6⟩) rfl rfl rfl rfl V46) rfl ?_
      exact ⟨⟨ob, n', cp, rfl, ⟨lies_six hO.ls rfl V36 _ _ _ _ _ _ _ _, hO.b⟩⟩, below_six B9 (by omega) _ _ _ _ _ _⟩
end Go.Proofs.Ytaiacohnhhicpaa
namespace Go.Proofs.Ytaiacohnhhicpaa
open Go.RowKit Go.Shelf
set_option linter.unusedVariables false
set_option linter.unusedSimpArgs false

set_option maxRecDepth 100000 in
set_option maxHeartbeats 6400000 in
theorem sent_any (o1 : Option Addr) (n1 c1 : Nat) (o2 : Option Addr) (n2 c2 : Nat) (c : CfgL) (oa : Option Addr) (n cap : Nat) (d : D6) (now : Int) (ok : Bool) (draw : Int) (w : World) (h : CfgAt w o1 n1 c1 o2 n2 c2 c) (hD : DAt w oa n cap d) :
    Calls Try.prog 18 #[aggC o1 n1 c1 o2 n2 c2 c, aggD oa n cap d, .int .i64 now, .bool ok, .int .i64 draw] w fun e w' => SentOut (sentF c d now ok draw) w' e ∧ Below w.heap.size w w' := by
  unfold SentOut
  have HF : Hid (sentF c d now ok draw = if (dutyR c d && timeB now) = true then (if now < d.du then (zD, false, 6) else if ok = true then ((takenD c d now).1, (takenD c d now).2, 0) else (againD c d now draw, false, 0)) else (zD, false, 1)) := rfl
  obtain ⟨V1, V2, V3, B3⟩ := three_boxes w 33 24 24 (cfgV (.slice o1 n1 c1) (.slice o2 n2 c2) c.2.2.1 c.2.2.2) (dV (.slice oa n cap) d) zV
  have HG := mayGo_any o1 n1 c1 o2 n2 c2 c oa n cap d now _ (h.below B3 (Nat.le_refl _)) (hD.below B3 (Nat.le_refl _))
  cases hg : (dutyR c d && timeB now) with
  | false =>
    rw [HF.out, hg, if_neg Bool.false_ne_true]
    rw [hg] at HG
    clear h hD HF hg
    obtain ⟨rs, ts, q, t⟩ := c
    obtain ⟨ls, rt, pl, tr, du, st⟩ := d
    dsimp only [aggC, aggD, dV, cfgV] at *
    go_enter Try.func18, Try.ntmps18
    go_upto_region 1 with fail
    generalize ((w.alloc _).alloc _).alloc _ = wr at *
    have x0 : wr.cell? ⟨w.heap.size, 0, none⟩ = some (.slice o1 n1 c1) := V1.cell 0
    have x1 : wr.cell? ⟨w.heap.size, 1, none⟩ = some (.slice o2 n2 c2) := V1.cell 1
    have x2 : wr.cell? ⟨w.heap.size, 2, none⟩ = some (.int .i64 q) := V1.cell 2
    have x3 : wr.cell? ⟨w.heap.size, 3, none⟩ = some (.int .i64 t) := V1.cell 3
    have y0 : wr.cell? ⟨w.heap.size + 1, 0, none⟩ = some (.slice oa n cap) := V2.cell 0
    have y1 : wr.cell? ⟨w.heap.size + 1, 1, none⟩ = some (.int .i64 rt) := V2.cell 1
    have y2 : wr.cell? ⟨w.heap.size + 1, 2, none⟩ = some (.int .i64 pl) := V2.cell 2
    have y3 : wr.cell? ⟨w.heap.size + 1, 3, none⟩ = some (.int .i64 tr) := V2.cell 3
    have y4 : wr.cell? ⟨w.heap.size + 1, 4, none⟩ = some (.int .i64 du) := V2.cell 4
    have y5 : wr.cell? ⟨w.heap.size + 1, 5, none⟩ = some (.int .i64 st) := V2.cell 5
    clear V1 V2
    go_wp2_with fail
    refine HG.mono ?_
    rintro e w4 ⟨rfl, B4⟩
    have V34 := V3.keep B4 (Nat.le_refl _)
    have B5 := B3.trans (B4.mono B3.size)
    clear x0 x1 x2 x3 y0 y1 y2 y3 y4 y5 V3 B3 B4 HG
    have f0 := V34.free 0; have f1 := V34.free 1; have f2 := V34.free 2; have f3 := V34.free 3; have f4 := V34.free 4; have f5 := V34.free 5
    have u0 : w4.cell? ⟨w.heap.size + 1 + 1, 0, none⟩ = some (.slice none 0 0) := V34.cell 0
    have u1 : w4.cell? ⟨w.heap.size + 1 + 1, 1, none⟩ = some (.int .i64 0) := V34.cell 1
    have u2 : w4.cell? ⟨w.heap.size + 1 + 1, 2, none⟩ = some (.int .i64 0) := V34.cell 2
    have u3 : w4.cell? ⟨w.heap.size + 1 + 1, 3, none⟩ = some (.int .i64 0) := V34.cell 3
    have u4 : w4.cell? ⟨w.heap.size + 1 + 1, 4, none⟩ = some (.int .i64 0) := V34.cell 4
    have u5 : w4.cell? ⟨w.heap.size + 1 + 1, 5, none⟩ = some (.int .i64 0) := V34.cell 5
    have V6 := V34.six (.slice none 0 0) (.int .i64 0) (.int .i64 0) (.int .i64 0) (.int .i64 0) (.int .i64 0)
    go_wp2_with fail
    refine bodyPost_ret (retD3 (d := zD) rfl rfl rfl rfl V6) rfl ?_
    exact ⟨⟨none, 0, 0, rfl, DAt.nil _⟩, below_six B5 (by omega) _ _ _ _ _ _⟩
  | true =>
    rw [HF.out, hg, if_pos rfl]
    rw [hg] at HG
    rw [Bool.and_eq_true] at hg
    by_cases hl : now < d.du
    · rw [if_pos hl]
      clear h hD HF hg
      obtain ⟨rs, ts, q, t⟩ := c
      obtain ⟨ls, rt, pl, tr, du, st⟩ := d
      dsimp only [aggC, aggD, dV, cfgV] at *
      go_enter Try.func18, Try.ntmps18
      go_upto_region 1 with fail
      generalize ((w.alloc _).alloc _).alloc _ = wr at *
      have x0 : wr.cell? ⟨w.heap.size, 0, none⟩ = some (.slice o1 n1 c1) := V1.cell 0
      have x1 : wr.cell? ⟨w.heap.size, 1, none⟩ = some (.slice o2 n2 c2) := V1.cell 1
      have x2 : wr.cell? ⟨w.heap.size, 2, none⟩ = some (.int .i64 q) := V1.cell 2
      have x3 : wr.cell? ⟨w.heap.size, 3, none⟩ = some (.int .i64 t) := V1.cell 3
      have y0 : wr.cell? ⟨w.heap.size + 1, 0, none⟩ = some (.slice oa n cap) := V2.cell 0
      have y1 : wr.cell? ⟨w.heap.size + 1, 1, none⟩ = some (.int .i64 rt) := V2.cell 1
      have y2 : wr.cell? ⟨w.heap.size + 1, 2, none⟩ = some (.int .i64 pl) := V2.cell 2
      have y3 : wr.cell? ⟨w.heap.size + 1, 3, none⟩ = some (.int .i64 tr) := V2.cell 3
      have y4 : wr.cell? ⟨w.heap.size + 1, 4, none⟩ = some (.int .i64 du) := V2.cell 4
      have y5 : wr.cell? ⟨w.heap.size + 1, 5, none⟩ = some (.int .i64 st) := V2.cell 5
      go_wp2_with fail
      refine HG.mono ?_
      rintro e w4 ⟨rfl, B4⟩
      have V14 := V1.keep B4 (Nat.le_refl _)
      have V24 := V2.keep B4 (Nat.le_refl _)
      have V34 := V3.keep B4 (Nat.le_refl _)
      have B5 := B3.trans (B4.mono B3.size)
      have hS4 : Hid (w.heap.size ≤ w4.drew.heap.size) := by show w.heap.size ≤ w4.heap.size; exact B5.size
      clear x0 x1 x2 x3 y0 y1 y2 y3 y4 y5 V1 V2 V3 B3 B4 HG
      have x0 : w4.cell? ⟨w.heap.size, 0, none⟩ = some (.slice o1 n1 c1) := V14.cell 0
      have x1 : w4.cell? ⟨w.heap.size, 1, none⟩ = some (.slice o2 n2 c2) := V14.cell 1
      have x2 : w4.cell? ⟨w.heap.size, 2, none⟩ = some (.int .i64 q) := V14.cell 2
      have x3 : w4.cell? ⟨w.heap.size, 3, none⟩ = some (.int .i64 t) := V14.cell 3
      have y0 : w4.cell? ⟨w.heap.size + 1, 0, none⟩ = some (.slice oa n cap) := V24.cell 0
      have y1 : w4.cell? ⟨w.heap.size + 1, 1, none⟩ = some (.int .i64 rt) := V24.cell 1
      have y2 : w4.cell? ⟨w.heap.size + 1, 2, none⟩ = some (.int .i64 pl) := V24.cell 2
      have y3 : w4.cell? ⟨w.heap.size + 1, 3, none⟩ = some (.int .i64 tr) := V24.cell 3
      have y4 : w4.cell? ⟨w.heap.size + 1, 4, none⟩ = some (.int .i64 du) := V24.cell 4
      have y5 : w4.cell? ⟨w.heap.size + 1, 5, none⟩ = some (.int .i64 st) := V24.cell 5
      have f0 := V34.free 0; have f1 := V34.free 1; have f2 := V34.free 2; have f3 := V34.free 3; have f4 := V34.free 4; have f5 := V34.free 5
      have u0 : w4.cell? ⟨w.heap.size + 1 + 1, 0, none⟩ = some (.slice none 0 0) := V34.cell 0
      have u1 : w4.cell? ⟨w.heap.size + 1 + 1, 1, none⟩ = some (.int .i64 0) := V34.cell 1
      have u2 : w4.cell? ⟨w.heap.size + 1 + 1, 2, none⟩ = some (.int .i64 0) := V34.cell 2
      have u3 : w4.cell? ⟨w.heap.size + 1 + 1, 3, none⟩ = some (.int .i64 0) := V34.cell 3
      have u4 : w4.cell? ⟨w.heap.size + 1 + 1, 4, none⟩ = some (.int .i64 0) := V34.cell 4
      have u5 : w4.cell? ⟨w.heap.size + 1 + 1, 5, none⟩ = some (.int .i64 0) := V34.cell 5
      have V6 := V34.six (.slice none 0 0) (.int .i64 0) (.int .i64 0) (.int .i64 0) (.int .i64 0) (.int .i64 0)
      go_wp2_with fail
      refine bodyPost_ret (retD3 (d := zD) rfl rfl rfl rfl V6) rfl ?_
      exact ⟨⟨none, 0, 0, rfl, DAt.nil _⟩, below_six B5 (by omega) _ _ _ _ _ _⟩
    · rw [if_neg hl]
      cases ok with
      | false =>
        rw [if_neg Bool.false_ne_true]
        have HRf := fun (W : World) (hB : Below w.heap.size w W) => refused_any o1 n1 c1 o2 n2 c2 c oa n cap d now draw W (h.below hB (Nat.le_refl _)) (hD.below hB (Nat.le_refl _)) hg.1 hg.2
        generalize againD c d now draw = r at *
        obtain ⟨r1, r2, r3, r4, r5, r6⟩ := r
        clear h hD HF hg
        obtain ⟨rs, ts, q, t⟩ := c
        obtain ⟨ls, rt, pl, tr, du, st⟩ := d
        dsimp only [aggC, aggD, dV, cfgV] at *
        go_enter Try.func18, Try.ntmps18
        go_upto_region 1 with fail
        generalize ((w.alloc _).alloc _).alloc _ = wr at *
        have x0 : wr.cell? ⟨w.heap.size, 0, none⟩ = some (.slice o1 n1 c1) := V1.cell 0
        have x1 : wr.cell? ⟨w.heap.size, 1, none⟩ = some (.slice o2 n2 c2) := V1.cell 1
        have x2 : wr.cell? ⟨w.heap.size, 2, none⟩ = some (.int .i64 q) := V1.cell 2
        have x3 : wr.cell? ⟨w.heap.size, 3, none⟩ = some (.int .i64 t) := V1.cell 3
        have y0 : wr.cell? ⟨w.heap.size + 1, 0, none⟩ = some (.slice oa n cap) := V2.cell 0
        have y1 : wr.cell? ⟨w.heap.size + 1, 1, none⟩ = some (.int .i64 rt) := V2.cell 1
        have y2 : wr.cell? ⟨w.heap.size + 1, 2, none⟩ = some (.int .i64 pl) := V2.cell 2
        have y3 : wr.cell? ⟨w.heap.size + 1, 3, none⟩ = some (.int .i64 tr) := V2.cell 3
        have y4 : wr.cell? ⟨w.heap.size + 1, 4, none⟩ = some (.int .i64 du) := V2.cell 4
        have y5 : wr.cell? ⟨w.heap.size + 1, 5, none⟩ = some (.int .i64 st) := V2.cell 5
        go_wp2_with fail
        refine HG.mono ?_
        rintro e w4 ⟨rfl, B4⟩
        have V14 := V1.keep B4 (Nat.le_refl _)
        have V24 := V2.keep B4 (Nat.le_refl _)
        have V34 := V3.keep B4 (Nat.le_refl _)
        have B5 := B3.trans (B4.mono B3.size)
        have hS4 : Hid (w.heap.size ≤ w4.drew.heap.size) := by show w.heap.size ≤ w4.heap.size; exact B5.size
        clear x0 x1 x2 x3 y0 y1 y2 y3 y4 y5 V1 V2 V3 B3 B4 HG
        have x0 : w4.cell? ⟨w.heap.size, 0, none⟩ = some (.slice o1 n1 c1) := V14.cell 0
        have x1 : w4.cell? ⟨w.heap.size, 1, none⟩ = some (.slice o2 n2 c2) := V14.cell 1
        have x2 : w4.cell? ⟨w.heap.size, 2, none⟩ = some (.int .i64 q) := V14.cell 2
        have x3 : w4.cell? ⟨w.heap.size, 3, none⟩ = some (.int .i64 t) := V14.cell 3
        have y0 : w4.cell? ⟨w.heap.size + 1, 0, none⟩ = some (.slice oa n cap) := V24.cell 0
        have y1 : w4.cell? ⟨w.heap.size + 1, 1, none⟩ = some (.int .i64 rt) := V24.cell 1
        have y2 : w4.cell? ⟨w.heap.size + 1, 2, none⟩ = some (.int .i64 pl) := V24.cell 2
        have y3 : w4.cell? ⟨w.heap.size + 1, 3, none⟩ = some (.int .i64 tr) := V24.cell 3
        have y4 : w4.cell? ⟨w.heap.size + 1, 4, none⟩ = some (.int .i64 du) := V24.cell 4
        have y5 : w4.cell? ⟨w.heap.size + 1, 5, none⟩ = some (.int .i64 st) := V24.cell 5
        have HR2 := HRf _ B5
        clear V14 V24 HRf
        go_wp2_with fail
        refine HR2.mono ?_
        rintro e w5 ⟨⟨ob, cp, rfl, hO⟩, B6⟩
        have V35 := V34.keep B6 (Nat.le_refl _)
        have B7 := B5.trans (B6.mono B5.size)
        clear x0 x1 x2 x3 y0 y1 y2 y3 y4 y5 V34 B5 B6 HR2
        have f0 := V35.free 0; have f1 := V35.free 1; have f2 := V35.free 2; have f3 := V35.free 3; have f4 := V35.free 4; have f5 := V35.free 5
        have u0 : w5.cell? ⟨w.heap.size + 1 + 1, 0, none⟩ = some (.slice none 0 0) := V35.cell 0
        have u1 : w5.cell? ⟨w.heap.size + 1 + 1, 1, none⟩ = some (.int .i64 0) := V35.cell 1
        have u2 : w5.cell? ⟨w.heap.size + 1 + 1, 2, none⟩ = some (.int .i64 0) := V35.cell 2
        have u3 : w5.cell? ⟨w.heap.size + 1 + 1, 3, none⟩ = some (.int .i64 0) := V35.cell 3
        have u4 : w5.cell? ⟨w.heap.size + 1 + 1, 4, none⟩ = some (.int .i64 0) := V35.cell 4
        have u5 : w5.cell? ⟨w.heap.size + 1 + 1, 5, none⟩ = some (.int .i64 0) := V35.cell 5
        have V6 := V35.six (.slice ob n cp) (.int .i64 r2) (.int .i64 r3) (.int .i64 r4) (.int .i64 r5) (.int .i64 r6)
        go_wp2_with fail
        refine bodyPost_ret (retD3 (d := ⟨r1, r2, r3, r4, r5, r6⟩) rfl rfl rfl rfl V6) rfl ?_
        exact ⟨⟨ob, n, cp, rfl, ⟨lies_six hO.ls rfl V35 _ _ _ _ _ _ _ _, hO.b⟩⟩, below_six B7 (by omega) _ _ _ _ _ _⟩
      | true =>
        rw [if_pos rfl]
        obtain ⟨ft, fd, hget, eft, _, HW, _⟩ := way_of o1 n1 c1 o2 n2 c2 c oa n cap d now w hD hg.1 hg.2
        have hUM : Try.prog.underlying 79 = some (.map 3 78) := Try.underlying79
        have hUI : Try.prog.underlying 3 = some (.int .i64) := Try.underlying3
        have HFd := fun w => (field_way (.func (.func ft) #[] #[]) (.func (.func fd) #[] #[]) w).1
        unfold SentOut at HW
        generalize (takenD c d now).1 = r at *
        generalize (takenD c d now).2 = rg at *
        obtain ⟨r1, r2, r3, r4, r5, r6⟩ := r
        clear h hD HF hg
        obtain ⟨rs, ts, q, t⟩ := c
        obtain ⟨ls, rt, pl, tr, du, st⟩ := d
        dsimp only [aggC, aggD, dV, cfgV] at *
        go_enter Try.func18, Try.ntmps18
        go_upto_region 1 with fail
        generalize ((w.alloc _).alloc _).alloc _ = wr at *
        have x0 : wr.cell? ⟨w.heap.size, 0, none⟩ = some (.slice o1 n1 c1) := V1.cell 0
        have x1 : wr.cell? ⟨w.heap.size, 1, none⟩ = some (.slice o2 n2 c2) := V1.cell 1
        have x2 : wr.cell? ⟨w.heap.size, 2, none⟩ = some (.int .i64 q) := V1.cell 2
        have x3 : wr.cell? ⟨w.heap.size, 3, none⟩ = some (.int .i64 t) := V1.cell 3
        have y0 : wr.cell? ⟨w.heap.size + 1, 0, none⟩ = some (.slice oa n cap) := V2.cell 0
        have y1 : wr.cell? ⟨w.heap.size + 1, 1, none⟩ = some (.int .i64 rt) := V2.cell 1
        have y2 : wr.cell? ⟨w.heap.size + 1, 2, none⟩ = some (.int .i64 pl) := V2.cell 2
        have y3 : wr.cell? ⟨w.heap.size + 1, 3, none⟩ = some (.int .i64 tr) := V2.cell 3
        have y4 : wr.cell? ⟨w.heap.size + 1, 4, none⟩ = some (.int .i64 du) := V2.cell 4
        have y5 : wr.cell? ⟨w.heap.size + 1, 5, none⟩ = some (.int .i64 st) := V2.cell 5
        go_wp2_with fail
        refine HG.mono ?_
        rintro e w4 ⟨rfl, B4⟩
        have V14 := V1.keep B4 (Nat.le_refl _)
        have V24 := V2.keep B4 (Nat.le_refl _)
        have V34 := V3.keep B4 (Nat.le_refl _)
        have B5 := B3.trans (B4.mono B3.size)
        have hS4 : Hid (w.heap.size ≤ w4.drew.heap.size) := by show w.heap.size ≤ w4.heap.size; exact B5.size
        clear x0 x1 x2 x3 y0 y1 y2 y3 y4 y5 V1 V2 V3 B3 B4 HG
        have x0 : w4.cell? ⟨w.heap.size, 0, none⟩ = some (.slice o1 n1 c1) := V14.cell 0
        have x1 : w4.cell? ⟨w.heap.size, 1, none⟩ = some (.slice o2 n2 c2) := V14.cell 1
        have x2 : w4.cell? ⟨w.heap.size, 2, none⟩ = some (.int .i64 q) := V14.cell 2
        have x3 : w4.cell? ⟨w.heap.size, 3, none⟩ = some (.int .i64 t) := V14.cell 3
        have y0 : w4.cell? ⟨w.heap.size + 1, 0, none⟩ = some (.slice oa n cap) := V24.cell 0
        have y1 : w4.cell? ⟨w.heap.size + 1, 1, none⟩ = some (.int .i64 rt) := V24.cell 1
        have y2 : w4.cell? ⟨w.heap.size + 1, 2, none⟩ = some (.int .i64 pl) := V24.cell 2
        have y3 : w4.cell? ⟨w.heap.size + 1, 3, none⟩ = some (.int .i64 tr) := V24.cell 3
        have y4 : w4.cell? ⟨w.heap.size + 1, 4, none⟩ = some (.int .i64 du) := V24.cell 4
        have y5 : w4.cell? ⟨w.heap.size + 1, 5, none⟩ = some (.int .i64 st) := V24.cell 5
        go_wp2_with fail
        have hz0 : ∀ i : Nat, (⟨w.heap.size, i, none⟩ : Addr).block ≠ w.heap.size + 1 + 1 := fun i => by show w.heap.size ≠ _; omega
        have hz1 : ∀ i : Nat, (⟨w.heap.size + 1, i, none⟩ : Addr).block ≠ w.heap.size + 1 + 1 := fun i => by show w.heap.size + 1 ≠ _; omega
        have dx0 : w4.drew.cell? ⟨w.heap.size, 0, none⟩ = some (.slice o1 n1 c1) := x0
        have dx1 : w4.drew.cell? ⟨w.heap.size, 1, none⟩ = some (.slice o2 n2 c2) := x1
        have dx2 : w4.drew.cell? ⟨w.heap.size, 2, none⟩ = some (.int .i64 q) := x2
        have dx3 : w4.drew.cell? ⟨w.heap.size, 3, none⟩ = some (.int .i64 t) := x3
        have dy0 : w4.drew.cell? ⟨w.heap.size + 1, 0, none⟩ = some (.slice oa n cap) := y0
        have dy1 : w4.drew.cell? ⟨w.heap.size + 1, 1, none⟩ = some (.int .i64 rt) := y1
        have dy2 : w4.drew.cell? ⟨w.heap.size + 1, 2, none⟩ = some (.int .i64 pl) := y2
        have dy3 : w4.drew.cell? ⟨w.heap.size + 1, 3, none⟩ = some (.int .i64 tr) := y3
        have dy4 : w4.drew.cell? ⟨w.heap.size + 1, 4, none⟩ = some (.int .i64 du) := y4
        have dy5 : w4.drew.cell? ⟨w.heap.size + 1, 5, none⟩ = some (.int .i64 st) := y5
        go_region_held3 (fun w' => w'.cell? ⟨w.heap.size, 0, none⟩ = some (.slice o1 n1 c1) ∧ w'.cell? ⟨w.heap.size, 1, none⟩ = some (.slice o2 n2 c2) ∧ w'.cell? ⟨w.heap.size, 2, none⟩ = some (.int .i64 q) ∧ w'.cell? ⟨w.heap.size, 3, none⟩ = some (.int .i64 t) ∧ w'.cell? ⟨w.heap.size + 1, 0, none⟩ = some (.slice oa n cap) ∧ w'.cell? ⟨w.heap.size + 1, 1, none⟩ = some (.int .i64 rt) ∧ w'.cell? ⟨w.heap.size + 1, 2, none⟩ = some (.int .i64 pl) ∧ w'.cell? ⟨w.heap.size + 1, 3, none⟩ = some (.int .i64 tr) ∧ w'.cell? ⟨w.heap.size + 1, 4, none⟩ = some (.int .i64 du) ∧ w'.cell? ⟨w.heap.size + 1, 5, none⟩ = some (.int .i64 st))
          (first | with_reducible exact ⟨dx0, dx1, dx2, dx3, dy0, dy1, dy2, dy3, dy4, dy5⟩ | with_reducible exact ⟨x0, x1, x2, x3, y0, y1, y2, y3, y4, y5⟩ | with_reducible exact ⟨qx0, qx1, qx2, qx3, qy0, qy1, qy2, qy3, qy4, qy5⟩)
          (first
          | (go_at_call 36; refine (states_any _).mono ?_; rintro e w5 ⟨rfl, hM, B6⟩; have L1 := (hM.look hUM hUI st (Try.zeroValue78 w5)).1; rw [hget, Option.getD_some] at L1; change (Instr.lookup 79 (.map (some w4.heap.size)) (.int .i64 st) false).run Try.prog w5 = _ at L1; have V15 := Vals.keep (w := w4.drew) V14 B6 (Nat.le_refl _); have V25 := Vals.keep (w := w4.drew) V24 B6 (Nat.le_refl _); have V35 := Vals.keep (w := w4.drew) V34 B6 (Nat.le_refl _); have B7 := B5.drew.trans (B6.mono hS4.out); have x0 : w5.cell? ⟨w.heap.size, 0, none⟩ = some (.slice o1 n1 c1) := V15.cell 0; have x1 : w5.cell? ⟨w.heap.size, 1, none⟩ = some (.slice o2 n2 c2) := V15.cell 1; have x2 : w5.cell? ⟨w.heap.size, 2, none⟩ = some (.int .i64 q) := V15.cell 2; have x3 : w5.cell? ⟨w.heap.size, 3, none⟩ = some (.int .i64 t) := V15.cell 3; have y0 : w5.cell? ⟨w.heap.size + 1, 0, none⟩ = some (.slice oa n cap) := V25.cell 0; have y1 : w5.cell? ⟨w.heap.size + 1, 1, none⟩ = some (.int .i64 rt) := V25.cell 1; have y2 : w5.cell? ⟨w.heap.size + 1, 2, none⟩ = some (.int .i64 pl) := V25.cell 2; have y3 : w5.cell? ⟨w.heap.size + 1, 3, none⟩ = some (.int .i64 tr) := V25.cell 3; have y4 : w5.cell? ⟨w.heap.size + 1, 4, none⟩ = some (.int .i64 du) := V25.cell 4; have y5 : w5.cell? ⟨w.heap.size + 1, 5, none⟩ = some (.int .i64 st) := V25.cell 5)
          | (refine (HW _ B7).mono ?_; rintro e w6 ⟨⟨ob, n', cp, rfl, hO⟩, B8⟩; have V16 := V15.keep B8 (Nat.le_refl _); have V26 := V25.keep B8 (Nat.le_refl _); have V36 := V35.keep B8 (Nat.le_refl _); have x0 : w6.cell? ⟨w.heap.size, 0, none⟩ = some (.slice o1 n1 c1) := V16.cell 0; have x1 : w6.cell? ⟨w.heap.size, 1, none⟩ = some (.slice o2 n2 c2) := V16.cell 1; have x2 : w6.cell? ⟨w.heap.size, 2, none⟩ = some (.int .i64 q) := V16.cell 2; have x3 : w6.cell? ⟨w.heap.size, 3, none⟩ = some (.int .i64 t) := V16.cell 3; have y0 : w6.cell? ⟨w.heap.size + 1, 0, none⟩ = some (.slice oa n cap) := V26.cell 0; have y1 : w6.cell? ⟨w.heap.size + 1, 1, none⟩ = some (.int .i64 rt) := V26.cell 1; have y2 : w6.cell? ⟨w.heap.size + 1, 2, none⟩ = some (.int .i64 pl) := V26.cell 2; have y3 : w6.cell? ⟨w.heap.size + 1, 3, none⟩ = some (.int .i64 tr) := V26.cell 3; have y4 : w6.cell? ⟨w.heap.size + 1, 4, none⟩ = some (.int .i64 du) := V26.cell 4; have y5 : w6.cell? ⟨w.heap.size + 1, 5, none⟩ = some (.int .i64 st) := V26.cell 5; have B9 := B7.trans (B8.mono B7.size); have f0 := V36.free 0; have f1 := V36.free 1; have f2 := V36.free 2; have f3 := V36.free 3; have f4 := V36.free 4; have f5 := V36.free 5; have u0 : w6.cell? ⟨w.heap.size + 1 + 1, 0, none⟩ = some (.slice none 0 0) := V36.cell 0; have u1 : w6.cell? ⟨w.heap.size + 1 + 1, 1, none⟩ = some (.int .i64 0) := V36.cell 1; have u2 : w6.cell? ⟨w.heap.size + 1 + 1, 2, none⟩ = some (.int .i64 0) := V36.cell 2; have u3 : w6.cell? ⟨w.heap.size + 1 + 1, 3, none⟩ = some (.int .i64 0) := V36.cell 3; have u4 : w6.cell? ⟨w.heap.size + 1 + 1, 4, none⟩ = some (.int .i64 0) := V36.cell 4; have u5 : w6.cell? ⟨w.heap.size + 1 + 1, 5, none⟩ = some (.int .i64 0) := V36.cell 5; have qx0 := six_keep x0 (hz0 0) (.slice ob n' cp) (.int .i64 r2) (.int .i64 r3) (.int .i64 r4) (.int .i64 r5) (.int .i64 r6); have qx1 := six_keep x1 (hz0 1) (.slice ob n' cp) (.int .i64 r2) (.int .i64 r3) (.int .i64 r4) (.int .i64 r5) (.int .i64 r6); have qx2 := six_keep x2 (hz0 2) (.slice ob n' cp) (.int .i64 r2) (.int .i64 r3) (.int .i64 r4) (.int .i64 r5) (.int .i64 r6); have qx3 := six_keep x3 (hz0 3) (.slice ob n' cp) (.int .i64 r2) (.int .i64 r3) (.int .i64 r4) (.int .i64 r5) (.int .i64 r6); have qy0 := six_keep y0 (hz1 0) (.slice ob n' cp) (.int .i64 r2) (.int .i64 r3) (.int .i64 r4) (.int .i64 r5) (.int .i64 r6); have qy1 := six_keep y1 (hz1 1) (.slice ob n' cp) (.int .i64 r2) (.int .i64 r3) (.int .i64 r4) (.int .i64 r5) (.int .i64 r6); have qy2 := six_keep y2 (hz1 2) (.slice ob n' cp) (.int .i64 r2) (.int .i64 r3) (.int .i64 r4) (.int .i64 r5) (.int .i64 r6); have qy3 := six_keep y3 (hz1 3) (.slice ob n' cp) (.int .i64 r2) (.int .i64 r3) (.int .i64 r4) (.int .i64 r5) (.int .i64 r6); have qy4 := six_keep y4 (hz1 4) (.slice ob n' cp) (.int .i64 r2) (.int .i64 r3) (.int .i64 r4) (.int .i64 r5) (.int .i64 r6); have qy5 := six_keep y5 (hz1 5) (.slice ob n' cp) (.int .i64 r2) (.int .i64 r3) (.int .i64 r4) (.int .i64 r5) (.int .i64 r6)))
        all_goals
          have V46 := V36.six (.slice ob n' cp) (.int .i64 r2) (.int .i64 r3) (.int .i64 r4) (.int .i64 r5) (.int .i64 r6)
          clear x0 x1 x2 x3 y0 y1 y2 y3 y4 y5 dx0 dx1 dx2 dx3 dy0 dy1 dy2 dy3 dy4 dy5 qx0 qx1 qx2 qx3 qy0 qy1 qy2 qy3 qy4 qy5 f0 f1 f2 f3 f4 f5 u0 u1 u2 u3 u4 u5 L1 hM HW
          go_wp2_with fail
          refine bodyPost_ret (retD3 (d := ⟨r1, r2, r3, r4, r5, r6⟩) rfl rfl rfl rfl V46) rfl ?_
          exact ⟨⟨ob, n', cp, rfl, ⟨lies_six hO.ls rfl V36 _ _ _ _ _ _ _ _, hO.b⟩⟩, below_six B9 (by omega) _ _ _ _ _ _⟩
end Go.Proofs.Ytaiacohnhhicpaa
