/-
  Which duties may be with a config (package duty).
  Whether a duty may go on at a time; a new one (package duty).
  A duty behind a try that came to nothing (package duty).
-/
import Derived.Test.YtaiacohnhhicpaaDutS
import Derived.Test.YtaiacohnhhicpaaRotD
namespace Go.Proofs.Ytaiacohnhhicpaa
open Go.RowKit Go.Shelf
set_option linter.unusedVariables false
set_option linter.unusedSimpArgs false

theorem dutyR_eq (c : CfgL) (d : D6) : dutyR c d = (decide (whyP c d.rt d.pl = 0) && (rightB d.ls && (decide (0 ≤ d.tr) && (decide (d.tr < (rcvO c d).tr) && (timeB d.du && stateB d.st))))) := by
  by_cases hz : whyP c d.rt d.pl = 0
  · obtain ⟨h1, h2⟩ := why_has hz
    have HO : rcvO c d = rcvD c d.rt d.pl := by unfold rcvO; rw [if_pos hz]
    rw [HO]
    unfold dutyR withB stateB
    rw [h1, h2, hz]
    simp
  · rw [decide_eq_false hz, Bool.false_and]
    unfold dutyR withB
    cases h1 : cfgR c with
    | false => rfl
    | true =>
      cases h2 : hasP c d.rt d.pl with
      | false => simp
      | true => exact absurd (whyP_ok h1 h2) hz
theorem two_boxes (w : World) (T1 T2 : TypeId) (xs ys : Array Value) :
    Vals ((w.alloc (.cells xs T1)).alloc (.cells ys T2)) w.heap.size T1 xs ∧ Vals ((w.alloc (.cells xs T1)).alloc (.cells ys T2)) (w.heap.size + 1) T2 ys ∧ Below w.heap.size w ((w.alloc (.cells xs T1)).alloc (.cells ys T2)) := by
  have v1 := (Vals.new w T1 xs).alloc (.cells ys T2)
  have v2 := Vals.new (w.alloc (.cells xs T1)) T2 ys
  have b1 := below_alloc w (.cells xs T1)
  have b2 := b1.alloc b1.size (.cells ys T2)
  simp only [World.size_alloc] at v2
  exact ⟨v1, v2, b2⟩

set_option maxRecDepth 100000 in
set_option maxHeartbeats 6400000 in
theorem dright_any (o1 : Option Addr) (n1 c1 : Nat) (o2 : Option Addr) (n2 c2 : Nat) (c : CfgL) (oa : Option Addr) (n cap : Nat) (d : D6) (w : World) (h : CfgAt w o1 n1 c1 o2 n2 c2 c) (hD : DAt w oa n cap d) :
    Calls Try.prog 16 #[aggC o1 n1 c1 o2 n2 c2 c, aggD oa n cap d] w fun e w' => e = .returned (.bool (dutyR c d)) ∧ Below w.heap.size w w' := by
  have HQ := Lib.hid (dutyR_eq c d)
  obtain ⟨V1, V2, B3⟩ := two_boxes w 33 24 (cfgV (.slice o1 n1 c1) (.slice o2 n2 c2) c.2.2.1 c.2.2.2) (dV (.slice oa n cap) d)
  have HR := rcvOf_any o1 n1 c1 o2 n2 c2 c oa n cap d _ (h.below B3 (Nat.le_refl _))
  have hD3 := hD.below B3 (Nat.le_refl _)
  have hb := hD.b
  obtain ⟨K, hK⟩ : ∃ K, Hid (dutyR c d = K) := ⟨_, rfl⟩
  rw [hK.out] at HQ
  rw [hK.out]
  clear h hD hK
  generalize decide (whyP c d.rt d.pl = 0) = P at *
  generalize rcvO c d = r at *
  obtain ⟨nm, ba, tp, ji, rtr, fa, op, bu, ev⟩ := r
  obtain ⟨rs, ts, q, t⟩ := c
  obtain ⟨ls, rt, pl, tr, du, st⟩ := d
  dsimp only [aggC, aggD, aggR, vR, dV, cfgV] at *
  go_enter Try.func16, Try.ntmps16
  go_upto_region 1 with fail
  generalize (w.alloc _).alloc _ = wr at *
  have x0 : wr.cell? ⟨w.heap.size, 0, none⟩ = some (.slice o1 n1 c1) := V1.cell 0
  have x1 : wr.cell? ⟨w.heap.size, 1, none⟩ = some (.slice o2 n2 c2) := V1.cell 1
  have x2 : wr.cell? ⟨w.heap.size, 2, none⟩ = some (.int .i64 q) := V1.cell 2
  have x3 : wr.cell? ⟨w.heap.size, 3, none⟩ = some (.int .i64 t) := V1.cell 3
  have y0 : wr.cell? ⟨w.heap.size + 1, 0, none⟩ = some (.slice oa n cap) := V2.cell 0
  have y1 : wr.cell? ⟨w.heap.size + 1, 1, none⟩ = some (.int .i64 rt) := V2.cell 1
  have y2 : wr.cell? ⟨w.heap.size + 1, 2, none⟩ = some (.int .i64 pl) := V2.cell 2
  have y3 : wr.cell? ⟨w.heap.size + 1, 3, none⟩ = some (.int .i64 tr) := V2.cell 3
  have y4 : wr.cell? ⟨w.heap.size + 1, 4, none⟩ = some (.int .i64 du) := V2.cell 4
  have y5 : wr.cell? ⟨w.heap.size + 1, 5, none⟩ = some (.int .i64 st) := V2.cell 5
  go_upto_region 1 with fail
  go_wp2_with fail
  refine HR.mono ?_
  rintro e w1 ⟨rfl, B4⟩
  have V21 := V2.keep B4 (Nat.le_refl _)
  have B5 := B3.trans (B4.mono B3.size)
  have hD4 := hD3.below B4 (Nat.le_refl _)
  clear x0 x1 x2 x3 y0 y1 y2 y3 y4 y5 V1 V2 B3 B4 hD3 HR
  have y0 : w1.cell? ⟨w.heap.size + 1, 0, none⟩ = some (.slice oa n cap) := V21.cell 0
  cases P with
  | false =>
    clear hD4 V21
    go_wp2_with fail
    go_ret
    exact ⟨by rw [HQ.out]; rfl, B5.alloc B5.size _⟩
  | true =>
    have B6 := B5.alloc B5.size (.cells #[.string nm, .int .i64 ba, .int .i64 tp, .int .i64 ji, .int .i64 rtr, .int .i64 fa, .int .i64 op, .int .i64 bu, .int .i64 ev] 47)
    have V22 := V21.alloc (.cells #[.string nm, .int .i64 ba, .int .i64 tp, .int .i64 ji, .int .i64 rtr, .int .i64 fa, .int .i64 op, .int .i64 bu, .int .i64 ev] 47)
    have VR := Vals.new w1 47 #[.string nm, .int .i64 ba, .int .i64 tp, .int .i64 ji, .int .i64 rtr, .int .i64 fa, .int .i64 op, .int .i64 bu, .int .i64 ev]
    have z0 : (w1.alloc (.cells #[.string nm, .int .i64 ba, .int .i64 tp, .int .i64 ji, .int .i64 rtr, .int .i64 fa, .int .i64 op, .int .i64 bu, .int .i64 ev] 47)).cell? ⟨w.heap.size + 1, 0, none⟩ = some (.slice oa n cap) := V22.cell 0
    have HL := right_any oa n cap ls _ (hD4.ls.below (below_alloc w1 (.cells #[.string nm, .int .i64 ba, .int .i64 tp, .int .i64 ji, .int .i64 rtr, .int .i64 fa, .int .i64 op, .int .i64 bu, .int .i64 ev] 47)) (Nat.le_refl _)) (by omega)
    generalize rightB ls = L at *
    clear hD4 V21
    go_wp2_with fail
    refine HL.mono ?_
    rintro e w3 ⟨rfl, B7⟩
    have V23 := V22.keep B7 (Nat.le_refl _)
    have VR3 := VR.keep B7 (Nat.le_refl _)
    have B8 := B6.trans (B7.mono B6.size)
    clear y0 z0 V22 VR B5 B6 B7 HL
    have y3 : w3.cell? ⟨w.heap.size + 1, 3, none⟩ = some (.int .i64 tr) := V23.cell 3
    have y4 : w3.cell? ⟨w.heap.size + 1, 4, none⟩ = some (.int .i64 du) := V23.cell 4
    have y5 : w3.cell? ⟨w.heap.size + 1, 5, none⟩ = some (.int .i64 st) := V23.cell 5
    have r4 : w3.cell? ⟨w1.heap.size, 4, none⟩ = some (.int .i64 rtr) := VR3.cell 4
    clear VR3
    generalize w1.heap.size = RB at *
    cases L with
    | false =>
      clear V23
      go_wp2_with fail
      go_ret
      exact ⟨by rw [HQ.out]; rfl, B8⟩
    | true =>
      by_cases h0 : 0 ≤ tr
      · by_cases h1 : tr < rtr
        · have HT := fun w => tick_right du w
          rw [decide_eq_true h0, decide_eq_true h1] at HQ
          cases ht : timeB du with
          | false =>
            rw [ht] at HQ
            rw [ht] at HT
            clear V23 ht
            go_wp2_with fail
            refine (HT _).mono ?_
            rintro e w4 ⟨rfl, rfl⟩
            go_wp2_with fail
            go_ret
            exact ⟨by rw [HQ.out]; rfl, B8⟩
          | true =>
            rw [ht] at HQ
            rw [ht] at HT
            have HS := fun w => isState_any st w
            generalize stateB st = S at *
            clear V23 ht
            go_wp2_with fail
            refine (HT _).mono ?_
            rintro e w4 ⟨rfl, rfl⟩
            go_wp2_with fail
            refine (HS _).mono ?_
            rintro e w5 ⟨rfl, B9⟩
            go_wp2_with fail
            go_ret
            exact ⟨by rw [HQ.out]; simp, B8.trans (B9.mono B8.size)⟩
        · have h1b : decide (tr < rtr) = false := decide_eq_false h1
          rw [decide_eq_true h0, h1b] at HQ
          clear V23
          go_wp2_with fail
          go_ret
          exact ⟨by rw [HQ.out]; rfl, B8⟩
      · have h0b : decide (0 ≤ tr) = false := decide_eq_false h0
        rw [h0b] at HQ
        clear V23
        go_wp2_with fail
        go_ret
        exact ⟨by rw [HQ.out]; rfl, B8⟩
end Go.Proofs.Ytaiacohnhhicpaa
namespace Go.Proofs.Ytaiacohnhhicpaa
open Go.RowKit Go.Shelf
set_option linter.unusedVariables false
set_option linter.unusedSimpArgs false

set_option maxRecDepth 100000 in
set_option maxHeartbeats 1600000 in
theorem mayGo_any (o1 : Option Addr) (n1 c1 : Nat) (o2 : Option Addr) (n2 c2 : Nat) (c : CfgL) (oa : Option Addr) (n cap : Nat) (d : D6) (now : Int) (w : World) (h : CfgAt w o1 n1 c1 o2 n2 c2 c) (hD : DAt w oa n cap d) :
    Calls Try.prog 34 #[aggC o1 n1 c1 o2 n2 c2 c, aggD oa n cap d, .int .i64 now] w fun e w' => e = .returned (.bool (dutyR c d && timeB now)) ∧ Below w.heap.size w w' := by
  obtain ⟨V1, V2, B3⟩ := two_boxes w 33 24 (cfgV (.slice o1 n1 c1) (.slice o2 n2 c2) c.2.2.1 c.2.2.2) (dV (.slice oa n cap) d)
  have HR := dright_any o1 n1 c1 o2 n2 c2 c oa n cap d _ (h.below B3 (Nat.le_refl _)) (hD.below B3 (Nat.le_refl _))
  have HT := fun w => tick_right now w
  generalize dutyR c d = P at *
  generalize timeB now = T at *
  clear h hD
  obtain ⟨rs, ts, q, t⟩ := c
  obtain ⟨ls, rt, pl, tr, du, st⟩ := d
  dsimp only [aggC, aggD, dV, cfgV] at *
  go_enter Try.func34, Try.ntmps34
  go_upto_region 1 with fail
  generalize (w.alloc _).alloc _ = wr at *
  have x0 : wr.cell? ⟨w.heap.size, 0, none⟩ = some (.slice o1 n1 c1) := V1.cell 0
  have x1 : wr.cell? ⟨w.heap.size, 1, none⟩ = some (.slice o2 n2 c2) := V1.cell 1
  have x2 : wr.cell? ⟨w.heap.size, 2, none⟩ = some (.int .i64 q) := V1.cell 2
  have x3 : wr.cell? ⟨w.heap.size, 3, none⟩ = some (.int .i64 t) := V1.cell 3
  have y0 : wr.cell? ⟨w.heap.size + 1, 0, none⟩ = some (.slice oa n cap) := V2.cell 0
  have y1 : wr.cell? ⟨w.heap.size + 1, 1, none⟩ = some (.int .i64 rt) := V2.cell 1
  have y2 : wr.cell? ⟨w.heap.size + 1, 2, none⟩ = some (.int .i64 pl) := V2.cell 2
  have y3 : wr.cell? ⟨w.heap.size + 1, 3, none⟩ = some (.int .i64 tr) := V2.cell 3
  have y4 : wr.cell? ⟨w.heap.size + 1, 4, none⟩ = some (.int .i64 du) := V2.cell 4
  have y5 : wr.cell? ⟨w.heap.size + 1, 5, none⟩ = some (.int .i64 st) := V2.cell 5
  clear V1 V2
  go_wp2_with fail
  refine HR.mono ?_
  rintro e w1 ⟨rfl, B4⟩
  have B5 := B3.trans (B4.mono B3.size)
  clear x0 x1 x2 x3 y0 y1 y2 y3 y4 y5 B3 B4 HR
  cases P with
  | false =>
    go_wp2_with fail
    go_ret
    exact ⟨rfl, B5⟩
  | true =>
    go_wp2_with fail
    refine (HT _).mono ?_
    rintro e w2 ⟨rfl, rfl⟩
    go_wp2_with fail
    go_ret
    exact ⟨by simp, B5⟩
theorem newF_late {c : CfgL} {l : List L2} {now : Int} (h : timeB now = false) : newF c l now = (zD, 1) := by
  unfold newF
  rw [h]
  simp
theorem newF_why {c : CfgL} {l : List L2} {now : Int} (h : timeB now = true) (hy : (chooseF c l).2 ≠ 0) : newF c l now = (zD, (chooseF c l).2) := by
  unfold newF
  unfold chooseF at *
  rw [h, Bool.and_true]
  by_cases h1 : (cfgR c && rightB l) = true
  · rw [if_pos h1] at hy ⊢
    rw [if_pos h1]
    by_cases h2 : rotF c l < 0
    · rw [if_pos h2, if_pos h2]
    · rw [if_neg h2] at hy
      exact absurd rfl hy
  · rw [if_neg h1, if_neg h1]
theorem newF_is {c : CfgL} {l : List L2} {now : Int} (h : timeB now = true) (hy : (chooseF c l).2 = 0) : newF c l now = (⟨l, (chooseF c l).1, 0, 0, now, 1⟩, 0) := by
  unfold newF
  unfold chooseF at *
  rw [h, Bool.and_true]
  by_cases h1 : (cfgR c && rightB l) = true
  · rw [if_pos h1] at hy ⊢
    rw [if_pos h1]
    by_cases h2 : rotF c l < 0
    · rw [if_pos h2] at hy
      simp at hy
    · rw [if_neg h2, if_neg h2]
  · rw [if_neg h1] at hy
    simp at hy
set_option maxRecDepth 100000 in
set_option maxHeartbeats 1600000 in
theorem new_any (o1 : Option Addr) (n1 c1 : Nat) (o2 : Option Addr) (n2 c2 : Nat) (c : CfgL) (oa : Option Addr) (n cap : Nat) (l : List L2) (now : Int) (w : World) (h : CfgAt w o1 n1 c1 o2 n2 c2 c) (hL : Ls w oa n cap l) (hn : n ≤ 5) :
    Calls Try.prog 14 #[aggC o1 n1 c1 o2 n2 c2 c, .slice oa n cap, .int .i64 now] w fun e w' => NewOut (newF c l now) w' e ∧ Below w.heap.size w w' := by
  unfold NewOut
  obtain ⟨V1, V2, B3⟩ := two_boxes w 33 24 (cfgV (.slice o1 n1 c1) (.slice o2 n2 c2) c.2.2.1 c.2.2.2) zV
  have hL3 := hL.below B3 (Nat.le_refl _)
  have HT := fun w => tick_right now w
  have HC := choose_any o1 n1 c1 o2 n2 c2 c oa n cap l _ (h.below B3 (Nat.le_refl _)) hL3 (by omega)
  unfold ChooseOut at HC
  cases ht : timeB now with
  | false =>
    rw [newF_late ht]
    rw [ht] at HT
    obtain ⟨rs, ts, q, t⟩ := c
    dsimp only [aggC, cfgV] at *
    clear h hL HC ht
    go_enter Try.func14, Try.ntmps14
    go_upto_region 1 with fail
    generalize (w.alloc _).alloc _ = wr at *
    have f0 := V2.free 0; have f1 := V2.free 1; have f2 := V2.free 2; have f3 := V2.free 3; have f4 := V2.free 4; have f5 := V2.free 5
    have u0 : wr.cell? ⟨w.heap.size + 1, 0, none⟩ = some (.slice none 0 0) := V2.cell 0
    have u1 : wr.cell? ⟨w.heap.size + 1, 1, none⟩ = some (.int .i64 0) := V2.cell 1
    have u2 : wr.cell? ⟨w.heap.size + 1, 2, none⟩ = some (.int .i64 0) := V2.cell 2
    have u3 : wr.cell? ⟨w.heap.size + 1, 3, none⟩ = some (.int .i64 0) := V2.cell 3
    have u4 : wr.cell? ⟨w.heap.size + 1, 4, none⟩ = some (.int .i64 0) := V2.cell 4
    have u5 : wr.cell? ⟨w.heap.size + 1, 5, none⟩ = some (.int .i64 0) := V2.cell 5
    have V4 := V2.six (.slice none 0 0) (.int .i64 0) (.int .i64 0) (.int .i64 0) (.int .i64 0) (.int .i64 0)
    clear V1 V2 hL3
    go_wp2_with fail
    refine (HT _).mono ?_
    rintro e w2 ⟨rfl, rfl⟩
    go_wp2_with fail
    refine bodyPost_ret (retD2 (d := zD) rfl rfl rfl V4) rfl ?_
    exact ⟨⟨none, 0, 0, rfl, DAt.nil _⟩, below_six B3 (by omega) _ _ _ _ _ _⟩
  | true =>
    rw [ht] at HT
    by_cases hy : (chooseF c l).2 = 0
    · rw [newF_is ht hy]
      rw [hy] at HC
      generalize (chooseF c l).1 = x at *
      have HU := fun (w' : World) (hB : Ls w' oa n cap l) => turned_any oa n cap ⟨l, x, 0, 0, 0, 0⟩ 1 now w' ⟨hB, hn⟩
      obtain ⟨rs, ts, q, t⟩ := c
      dsimp only [aggC, aggD, dV, turnD, cfgV] at *
      clear h hL ht hy
      go_enter Try.func14, Try.ntmps14
      go_upto_region 1 with fail
      generalize (w.alloc _).alloc _ = wr at *
      have x0 : wr.cell? ⟨w.heap.size, 0, none⟩ = some (.slice o1 n1 c1) := V1.cell 0
      have x1 : wr.cell? ⟨w.heap.size, 1, none⟩ = some (.slice o2 n2 c2) := V1.cell 1
      have x2 : wr.cell? ⟨w.heap.size, 2, none⟩ = some (.int .i64 q) := V1.cell 2
      have x3 : wr.cell? ⟨w.heap.size, 3, none⟩ = some (.int .i64 t) := V1.cell 3
      go_wp2_with fail
      refine (HT _).mono ?_
      rintro e w2 ⟨rfl, rfl⟩
      go_wp2_with fail
      refine HC.mono ?_
      rintro e w1 ⟨rfl, B4⟩
      have B5 := B3.trans (B4.mono B3.size)
      have V3 := V2.keep B4 (Nat.le_refl _)
      have hL4 := hL3.below B4 (Nat.le_refl _)
      have B6 := B5.alloc B5.size (.cells #[.slice oa n cap, .int .i64 x, .int .i64 0, .int .i64 0, .int .i64 0, .int .i64 0] 24)
      have V4 := V3.alloc (.cells #[.slice oa n cap, .int .i64 x, .int .i64 0, .int .i64 0, .int .i64 0, .int .i64 0] 24)
      have hL5 := hL4.below (below_alloc w1 (.cells #[.slice oa n cap, .int .i64 x, .int .i64 0, .int .i64 0, .int .i64 0, .int .i64 0] 24)) (Nat.le_refl _)
      have HU2 := HU _ hL5
      clear x0 x1 x2 x3 V1 V2 B3 B4 HC HT HU hL3 hL4 V3 B5
      go_wp2_with fail
      refine HU2.mono ?_
      rintro e w3 ⟨⟨ob, cp, rfl, hO⟩, B7⟩
      have V5 := V4.keep B7 (Nat.le_refl _)
      have B8 := B6.trans (B7.mono B6.size)
      clear HU2 B6 B7 V4 hL5
      have f0 := V5.free 0; have f1 := V5.free 1; have f2 := V5.free 2; have f3 := V5.free 3; have f4 := V5.free 4; have f5 := V5.free 5
      have u0 : w3.cell? ⟨w.heap.size + 1, 0, none⟩ = some (.slice none 0 0) := V5.cell 0
      have u1 : w3.cell? ⟨w.heap.size + 1, 1, none⟩ = some (.int .i64 0) := V5.cell 1
      have u2 : w3.cell? ⟨w.heap.size + 1, 2, none⟩ = some (.int .i64 0) := V5.cell 2
      have u3 : w3.cell? ⟨w.heap.size + 1, 3, none⟩ = some (.int .i64 0) := V5.cell 3
      have u4 : w3.cell? ⟨w.heap.size + 1, 4, none⟩ = some (.int .i64 0) := V5.cell 4
      have u5 : w3.cell? ⟨w.heap.size + 1, 5, none⟩ = some (.int .i64 0) := V5.cell 5
      have V6 := V5.six (.slice ob n cp) (.int .i64 x) (.int .i64 0) (.int .i64 0) (.int .i64 now) (.int .i64 1)
      go_wp2_with fail
      refine bodyPost_ret (retD2 (d := ⟨l, x, 0, 0, now, 1⟩) rfl rfl rfl V6) rfl ?_
      exact ⟨⟨ob, n, cp, rfl, lies_six hO.ls rfl V5 _ _ _ _ _ _ _ _, hn⟩, below_six B8 (by omega) _ _ _ _ _ _⟩
    · rw [newF_why ht hy]
      have hyb : ((chooseF c l).2 != 0) = true := by simp [hy]
      generalize (chooseF c l).2 = y at *
      generalize (chooseF c l).1 = x at *
      obtain ⟨rs, ts, q, t⟩ := c
      dsimp only [aggC, cfgV] at *
      clear h hL ht
      go_enter Try.func14, Try.ntmps14
      go_upto_region 1 with fail
      generalize (w.alloc _).alloc _ = wr at *
      have x0 : wr.cell? ⟨w.heap.size, 0, none⟩ = some (.slice o1 n1 c1) := V1.cell 0
      have x1 : wr.cell? ⟨w.heap.size, 1, none⟩ = some (.slice o2 n2 c2) := V1.cell 1
      have x2 : wr.cell? ⟨w.heap.size, 2, none⟩ = some (.int .i64 q) := V1.cell 2
      have x3 : wr.cell? ⟨w.heap.size, 3, none⟩ = some (.int .i64 t) := V1.cell 3
      go_wp2_with fail
      refine (HT _).mono ?_
      rintro e w2 ⟨rfl, rfl⟩
      go_wp2_with fail
      refine HC.mono ?_
      rintro e w1 ⟨rfl, B4⟩
      have B5 := B3.trans (B4.mono B3.size)
      have V5 := V2.keep B4 (Nat.le_refl _)
      clear x0 x1 x2 x3 V1 V2 B3 B4 HC HT hL3
      have f0 := V5.free 0; have f1 := V5.free 1; have f2 := V5.free 2; have f3 := V5.free 3; have f4 := V5.free 4; have f5 := V5.free 5
      have u0 : w1.cell? ⟨w.heap.size + 1, 0, none⟩ = some (.slice none 0 0) := V5.cell 0
      have u1 : w1.cell? ⟨w.heap.size + 1, 1, none⟩ = some (.int .i64 0) := V5.cell 1
      have u2 : w1.cell? ⟨w.heap.size + 1, 2, none⟩ = some (.int .i64 0) := V5.cell 2
      have u3 : w1.cell? ⟨w.heap.size + 1, 3, none⟩ = some (.int .i64 0) := V5.cell 3
      have u4 : w1.cell? ⟨w.heap.size + 1, 4, none⟩ = some (.int .i64 0) := V5.cell 4
      have u5 : w1.cell? ⟨w.heap.size + 1, 5, none⟩ = some (.int .i64 0) := V5.cell 5
      have V6 := V5.six (.slice none 0 0) (.int .i64 0) (.int .i64 0) (.int .i64 0) (.int .i64 0) (.int .i64 0)
      go_wp2_with fail
      refine bodyPost_ret (retD2 (d := zD) rfl rfl rfl V6) rfl ?_
      exact ⟨⟨none, 0, 0, rfl, DAt.nil _⟩, below_six B5 (by omega) _ _ _ _ _ _⟩
end Go.Proofs.Ytaiacohnhhicpaa
namespace Go.Proofs.Ytaiacohnhhicpaa
open Go.RowKit Go.Shelf
set_option linter.unusedVariables false
set_option linter.unusedSimpArgs false

set_option maxRecDepth 100000 in
set_option maxHeartbeats 6400000 in
theorem refused_any (o1 : Option Addr) (n1 c1 : Nat) (o2 : Option Addr) (n2 c2 : Nat) (c : CfgL) (oa : Option Addr) (n cap : Nat) (d : D6) (now draw : Int) (w : World) (h : CfgAt w o1 n1 c1 o2 n2 c2 c) (hD : DAt w oa n cap d) (hR : dutyR c d = true) (hn : timeB now = true) :
    Calls Try.prog 35 #[aggC o1 n1 c1 o2 n2 c2 c, aggD oa n cap d, .int .i64 now, .int .i64 draw] w fun e w' => (∃ ob cp, e = .returned (aggD ob n cp (againD c d now draw)) ∧ DAt w' ob n cp (againD c d now draw)) ∧ Below w.heap.size w w' := by
  obtain ⟨hcr, hwb⟩ := (dutyR_iff c d).1 hR
  obtain ⟨_, hp, t0, t1, _, _, _⟩ := (withB_iff c d).1 hwb
  have hz : whyP c d.rt d.pl = 0 := whyP_ok hcr hp
  obtain ⟨hrv, _⟩ := rcv_of hcr hp
  obtain ⟨hBk, tr1, tr2⟩ := rcv_parts hrv
  obtain ⟨_, _, w1, w2, _, _⟩ := wait_range hBk d.tr draw
  obtain ⟨m1, m2⟩ := (time_iff now).1 hn
  have HAg : Hid (againD c d now draw = if d.tr + 1 = (rcvD c d.rt d.pl).tr then { d with tr := 0, pl := nextP c d.rt d.pl, du := Bo.addT now (Bo.waitT (rcvD c d.rt d.pl).ba (rcvD c d.rt d.pl).tp (rcvD c d.rt d.pl).ji d.tr draw) } else { d with tr := d.tr + 1, du := Bo.addT now (Bo.waitT (rcvD c d.rt d.pl).ba (rcvD c d.rt d.pl).tp (rcvD c d.rt d.pl).ji d.tr draw) }) := rfl
  have HAf : Hid (nextF c d.rt d.pl = (nextP c d.rt d.pl, 0)) := by show _ = _; unfold nextF; rw [if_pos hz]
  have HO : Hid (rcvO c d = rcvD c d.rt d.pl) := by show _ = _; unfold rcvO; rw [if_pos hz]
  obtain ⟨V1, V2, V3, B3⟩ := three_boxes w 33 24 24 (cfgV (.slice o1 n1 c1) (.slice o2 n2 c2) c.2.2.1 c.2.2.2) (dV (.slice oa n cap) d) zV
  have HR := rcvOf_any o1 n1 c1 o2 n2 c2 c oa n cap d _ (h.below B3 (Nat.le_refl _))
  have HF := fun (W : World) (hB : Below w.heap.size w W) => after_any o1 n1 c1 o2 n2 c2 c d.rt d.pl W (h.below hB (Nat.le_refl _))
  have HC := fun (W : World) (hB : Below w.heap.size w W) => cloneL_any oa n cap d.ls W (hD.ls.below hB (Nat.le_refl _)) (by have := hD.b; omega)
  unfold PlaceOut at HF
  rw [HO.out, hz] at HR
  simp only [HAf.out] at HF
  have hb := hD.b
  generalize nextP c d.rt d.pl = np at *
  generalize rcvD c d.rt d.pl = r at *
  have HW := fun w => Bo.wait_yes r.ba r.tp r.ji d.tr draw w hBk t0
  generalize Bo.waitT r.ba r.tp r.ji d.tr draw = wt at *
  have HA := fun w => Bo.add_yes now wt w m1 m2 (by omega) (by omega)
  generalize Bo.addT now wt = a at *
  obtain ⟨ag, hag⟩ : ∃ ag, Hid (againD c d now draw = ag) := ⟨_, rfl⟩
  rw [hag.out] at HAg
  rw [hag.out]
  clear hag h hD hR hn hcr hwb hp hz hrv hBk HAf HO m1 m2 w1 w2
  obtain ⟨nm, ba, tp, ji, rtr, fa, op, bu, ev⟩ := r
  obtain ⟨rs, ts, q, t⟩ := c
  obtain ⟨ls, rt, pl, tr, du, st⟩ := d
  dsimp only [aggC, aggD, aggR, vR, dV, cfgV] at *
  go_enter Try.func35, Try.ntmps35
  go_upto_region 1 with fail
  generalize ((w.alloc _).alloc _).alloc _ = wr at *
  have x0 : wr.cell? ⟨w.heap.size, 0, none⟩ = some (.slice o1 n1 c1) := V1.cell 0
  have x1 : wr.cell? ⟨w.heap.size, 1, none⟩ = some (.slice o2 n2 c2) := V1.cell 1
  have x2 : wr.cell? ⟨w.heap.size, 2, none⟩ = some (.int .i64 q) := V1.cell 2
  have x3 : wr.cell? ⟨w.heap.size, 3, none⟩ = some (.int .i64 t) := V1.cell 3
  have y0 : wr.cell? ⟨w.heap.size + 1, 0, none⟩ = some (.slice oa n cap) := V2.cell 0
  have y1 : wr.cell? ⟨w.heap.size + 1, 1, none⟩ = some (.int .i64 rt) := V2.cell 1
  have y2 : wr.cell? ⟨w.heap.size + 1, 2, none⟩ = some (.int .i64 pl) := V2.cell 2
  have y3 : wr.cell? ⟨w.heap.size + 1, 3, none⟩ = some (.int .i64 tr) := V2.cell 3
  have y4 : wr.cell? ⟨w.heap.size + 1, 4, none⟩ = some (.int .i64 du) := V2.cell 4
  have y5 : wr.cell? ⟨w.heap.size + 1, 5, none⟩ = some (.int .i64 st) := V2.cell 5
  go_wp2_with fail
  refine HR.mono ?_
  rintro e w1 ⟨rfl, B4⟩
  have B5 := B3.trans (B4.mono B3.size)
  have V11 := (V1.keep B4 (Nat.le_refl _)).alloc (.cells #[.string nm, .int .i64 ba, .int .i64 tp, .int .i64 ji, .int .i64 rtr, .int .i64 fa, .int .i64 op, .int .i64 bu, .int .i64 ev] 47)
  have V21 := (V2.keep B4 (Nat.le_refl _)).alloc (.cells #[.string nm, .int .i64 ba, .int .i64 tp, .int .i64 ji, .int .i64 rtr, .int .i64 fa, .int .i64 op, .int .i64 bu, .int .i64 ev] 47)
  have V31 := (V3.keep B4 (Nat.le_refl _)).alloc (.cells #[.string nm, .int .i64 ba, .int .i64 tp, .int .i64 ji, .int .i64 rtr, .int .i64 fa, .int .i64 op, .int .i64 bu, .int .i64 ev] 47)
  have VR := Vals.new w1 47 #[.string nm, .int .i64 ba, .int .i64 tp, .int .i64 ji, .int .i64 rtr, .int .i64 fa, .int .i64 op, .int .i64 bu, .int .i64 ev]
  have B6 := B5.alloc B5.size (.cells #[.string nm, .int .i64 ba, .int .i64 tp, .int .i64 ji, .int .i64 rtr, .int .i64 fa, .int .i64 op, .int .i64 bu, .int .i64 ev] 47)
  have z3 : (w1.alloc (.cells #[.string nm, .int .i64 ba, .int .i64 tp, .int .i64 ji, .int .i64 rtr, .int .i64 fa, .int .i64 op, .int .i64 bu, .int .i64 ev] 47)).cell? ⟨w.heap.size + 1, 3, none⟩ = some (.int .i64 tr) := V21.cell 3
  have hRB : w.heap.size + 1 + 1 < w1.heap.size := Nat.lt_of_lt_of_le V3.lt B4.size
  clear x0 x1 x2 x3 y0 y1 y2 y3 y4 y5 V1 V2 V3 B3 B4 B5 HR
  go_wp2_with fail
  refine (HW _).mono ?_
  rintro e w2 ⟨rfl, B7⟩
  have V12 := V11.keep B7 (Nat.le_refl _)
  have V22 := V21.keep B7 (Nat.le_refl _)
  have V32 := V31.keep B7 (Nat.le_refl _)
  have VR2 := VR.keep B7 (Nat.le_refl _)
  have B8 := B6.trans (B7.mono B6.size)
  generalize w1.heap.size = RB at *
  clear V11 V21 V31 VR B6 B7 z3 HW
  have y0 : w2.cell? ⟨w.heap.size + 1, 0, none⟩ = some (.slice oa n cap) := V22.cell 0
  go_wp2_with fail
  refine (HC _ B8).mono ?_
  rintro e w3 ⟨⟨ob, cp, rfl, hO⟩, B9⟩
  have V13 := V12.keep B9 (Nat.le_refl _)
  have V23 := V22.keep B9 (Nat.le_refl _)
  have V33 := V32.keep B9 (Nat.le_refl _)
  have VR3 := VR2.keep B9 (Nat.le_refl _)
  have B10 := B8.trans (B9.mono B8.size)
  clear V12 V22 V32 VR2 B8 B9 y0 HC
  have f0 := V23.free 0
  have u0 : w3.cell? ⟨w.heap.size + 1, 0, none⟩ = some (.slice oa n cap) := V23.cell 0
  have V24 : Vals (w3.setCell ⟨w.heap.size + 1, 0, none⟩ (.slice ob n cp)) (w.heap.size + 1) 24 #[.slice ob n cp, .int .i64 rt, .int .i64 pl, .int .i64 tr, .int .i64 du, .int .i64 st] := by simpa using V23.set 0 (.slice ob n cp)
  have V14 := V13.other (B := w.heap.size + 1) (by omega) 0 (.slice ob n cp)
  have V34 := V33.other (B := w.heap.size + 1) (by omega) 0 (.slice ob n cp)
  have VR4 := VR3.other (B := w.heap.size + 1) (by omega) 0 (.slice ob n cp)
  have hO4 := lies_set hO V23 (duty_no_text _ _ _ _ _ _ _ _) 0 (.slice ob n cp)
  have B11 := B10.setCell (p := ⟨w.heap.size + 1, 0, none⟩) (by show w.heap.size ≤ w.heap.size + 1; omega) (.slice ob n cp)
  clear V13 V23 V33 VR3 hO B10
  go_wp2_with fail
  clear f0 u0
  generalize w3.setCell ⟨w.heap.size + 1, 0, none⟩ (.slice ob n cp) = w4 at *
  refine (HA _).mono ?_
  rintro e w5 ⟨rfl, B12⟩
  have V15 := V14.keep B12 (Nat.le_refl _)
  have V25 := V24.keep B12 (Nat.le_refl _)
  have V35 := V34.keep B12 (Nat.le_refl _)
  have VR5 := VR4.keep B12 (Nat.le_refl _)
  have hO5 := hO4.below B12 (Nat.le_refl _)
  have B13 := B11.trans (B12.mono B11.size)
  clear V14 V24 V34 VR4 hO4 B11 B12 HA
  have f4 := V25.free 4
  have f3 := V25.free 3
  have u4 : w5.cell? ⟨w.heap.size + 1, 4, none⟩ = some (.int .i64 du) := V25.cell 4
  have u3 : w5.cell? ⟨w.heap.size + 1, 3, none⟩ = some (.int .i64 tr) := V25.cell 3
  have V26 : Vals (w5.setCell ⟨w.heap.size + 1, 4, none⟩ (.int .i64 a)) (w.heap.size + 1) 24 #[.slice ob n cp, .int .i64 rt, .int .i64 pl, .int .i64 tr, .int .i64 a, .int .i64 st] := by simpa using V25.set 4 (.int .i64 a)
  have V27 : Vals ((w5.setCell ⟨w.heap.size + 1, 4, none⟩ (.int .i64 a)).setCell ⟨w.heap.size + 1, 3, none⟩ (.int .i64 (tr + 1))) (w.heap.size + 1) 24 #[.slice ob n cp, .int .i64 rt, .int .i64 pl, .int .i64 (tr + 1), .int .i64 a, .int .i64 st] := by simpa using V26.set 3 (.int .i64 (tr + 1))
  have V17 := (V15.other (B := w.heap.size + 1) (by omega) 4 (.int .i64 a)).other (B := w.heap.size + 1) (by omega) 3 (.int .i64 (tr + 1))
  have V37 := (V35.other (B := w.heap.size + 1) (by omega) 4 (.int .i64 a)).other (B := w.heap.size + 1) (by omega) 3 (.int .i64 (tr + 1))
  have VR7 := (VR5.other (B := w.heap.size + 1) (by omega) 4 (.int .i64 a)).other (B := w.heap.size + 1) (by omega) 3 (.int .i64 (tr + 1))
  have hO7 := lies_set (lies_set hO5 V25 (duty_no_text _ _ _ _ _ _ _ _) 4 (.int .i64 a)) V26 (duty_no_text _ _ _ _ _ _ _ _) 3 (.int .i64 (tr + 1))
  have B14 := (B13.setCell (p := ⟨w.heap.size + 1, 4, none⟩) (by show w.heap.size ≤ w.heap.size + 1; omega) (.int .i64 a)).setCell (p := ⟨w.heap.size + 1, 3, none⟩) (by show w.heap.size ≤ w.heap.size + 1; omega) (.int .i64 (tr + 1))
  clear V15 V25 V35 VR5 hO5 B13 V26
  have r4 : ((w5.setCell ⟨w.heap.size + 1, 4, none⟩ (.int .i64 a)).setCell ⟨w.heap.size + 1, 3, none⟩ (.int .i64 (tr + 1))).cell? ⟨RB, 4, none⟩ = some (.int .i64 rtr) := VR7.cell 4
  by_cases htr : tr + 1 = rtr
  · have HX : Hid (ag = ⟨ls, rt, np, 0, a, st⟩) := by show _ = _; rw [HAg.out, if_pos htr]
    clear HAg
    subst htr
    have htb : (tr + 1 == tr + 1) = true := by simp
    have V28 : Vals (((w5.setCell ⟨w.heap.size + 1, 4, none⟩ (.int .i64 a)).setCell ⟨w.heap.size + 1, 3, none⟩ (.int .i64 (tr + 1))).setCell ⟨w.heap.size + 1, 3, none⟩ (.int .i64 0)) (w.heap.size + 1) 24 #[.slice ob n cp, .int .i64 rt, .int .i64 pl, .int .i64 0, .int .i64 a, .int .i64 st] := by simpa using V27.set 3 (.int .i64 0)
    have V18 := V17.other (B := w.heap.size + 1) (by omega) 3 (.int .i64 0)
    have V38 := V37.other (B := w.heap.size + 1) (by omega) 3 (.int .i64 0)
    have hO8 := lies_set hO7 V27 (duty_no_text _ _ _ _ _ _ _ _) 3 (.int .i64 0)
    have B15 := B14.setCell (p := ⟨w.heap.size + 1, 3, none⟩) (by show w.heap.size ≤ w.heap.size + 1; omega) (.int .i64 0)
    have HF8 := HF _ B15
    have f37 := V27.free 3
    have u37 : ((w5.setCell ⟨w.heap.size + 1, 4, none⟩ (.int .i64 a)).setCell ⟨w.heap.size + 1, 3, none⟩ (.int .i64 (tr + 1))).cell? ⟨w.heap.size + 1, 3, none⟩ = some (.int .i64 (tr + 1)) := V27.cell 3
    clear V17 V27 V37 VR7 hO7 B14 HF
    have x0 : (((w5.setCell ⟨w.heap.size + 1, 4, none⟩ (.int .i64 a)).setCell ⟨w.heap.size + 1, 3, none⟩ (.int .i64 (tr + 1))).setCell ⟨w.heap.size + 1, 3, none⟩ (.int .i64 0)).cell? ⟨w.heap.size, 0, none⟩ = some (.slice o1 n1 c1) := V18.cell 0
    have x1 : (((w5.setCell ⟨w.heap.size + 1, 4, none⟩ (.int .i64 a)).setCell ⟨w.heap.size + 1, 3, none⟩ (.int .i64 (tr + 1))).setCell ⟨w.heap.size + 1, 3, none⟩ (.int .i64 0)).cell? ⟨w.heap.size, 1, none⟩ = some (.slice o2 n2 c2) := V18.cell 1
    have x2 : (((w5.setCell ⟨w.heap.size + 1, 4, none⟩ (.int .i64 a)).setCell ⟨w.heap.size + 1, 3, none⟩ (.int .i64 (tr + 1))).setCell ⟨w.heap.size + 1, 3, none⟩ (.int .i64 0)).cell? ⟨w.heap.size, 2, none⟩ = some (.int .i64 q) := V18.cell 2
    have x3 : (((w5.setCell ⟨w.heap.size + 1, 4, none⟩ (.int .i64 a)).setCell ⟨w.heap.size + 1, 3, none⟩ (.int .i64 (tr + 1))).setCell ⟨w.heap.size + 1, 3, none⟩ (.int .i64 0)).cell? ⟨w.heap.size, 3, none⟩ = some (.int .i64 t) := V18.cell 3
    have y1 : (((w5.setCell ⟨w.heap.size + 1, 4, none⟩ (.int .i64 a)).setCell ⟨w.heap.size + 1, 3, none⟩ (.int .i64 (tr + 1))).setCell ⟨w.heap.size + 1, 3, none⟩ (.int .i64 0)).cell? ⟨w.heap.size + 1, 1, none⟩ = some (.int .i64 rt) := V28.cell 1
    have y2 : (((w5.setCell ⟨w.heap.size + 1, 4, none⟩ (.int .i64 a)).setCell ⟨w.heap.size + 1, 3, none⟩ (.int .i64 (tr + 1))).setCell ⟨w.heap.size + 1, 3, none⟩ (.int .i64 0)).cell? ⟨w.heap.size + 1, 2, none⟩ = some (.int .i64 pl) := V28.cell 2
    go_wp2_with fail
    clear f3 f4 u3 u4 r4 x0 x1 x2 x3 y1 y2 V18 f37 u37
    generalize (((w5.setCell ⟨w.heap.size + 1, 4, none⟩ (.int .i64 a)).setCell ⟨w.heap.size + 1, 3, none⟩ (.int .i64 (tr + 1))).setCell ⟨w.heap.size + 1, 3, none⟩ (.int .i64 0)) = w8 at *
    refine HF8.mono ?_
    rintro e w9 ⟨rfl, B16⟩
    have V29 := V28.keep B16 (Nat.le_refl _)
    have V39 := V38.keep B16 (Nat.le_refl _)
    have hO9 := hO8.below B16 (Nat.le_refl _)
    have B17 := B15.trans (B16.mono B15.size)
    clear V28 V38 hO8 B15 B16 HF8
    have e2 := V29.free 2
    have d2 : w9.cell? ⟨w.heap.size + 1, 2, none⟩ = some (.int .i64 pl) := V29.cell 2
    have V2a : Vals (w9.setCell ⟨w.heap.size + 1, 2, none⟩ (.int .i64 np)) (w.heap.size + 1) 24 #[.slice ob n cp, .int .i64 rt, .int .i64 np, .int .i64 0, .int .i64 a, .int .i64 st] := by simpa using V29.set 2 (.int .i64 np)
    have V3a := V39.other (B := w.heap.size + 1) (by omega) 2 (.int .i64 np)
    have hOa := lies_set hO9 V29 (duty_no_text _ _ _ _ _ _ _ _) 2 (.int .i64 np)
    have B18 := B17.setCell (p := ⟨w.heap.size + 1, 2, none⟩) (by show w.heap.size ≤ w.heap.size + 1; omega) (.int .i64 np)
    clear V29 V39 hO9 B17
    have p0 : (w9.setCell ⟨w.heap.size + 1, 2, none⟩ (.int .i64 np)).cell? ⟨w.heap.size + 1, 0, none⟩ = some (.slice ob n cp) := V2a.cell 0
    have p1 : (w9.setCell ⟨w.heap.size + 1, 2, none⟩ (.int .i64 np)).cell? ⟨w.heap.size + 1, 1, none⟩ = some (.int .i64 rt) := V2a.cell 1
    have p2 : (w9.setCell ⟨w.heap.size + 1, 2, none⟩ (.int .i64 np)).cell? ⟨w.heap.size + 1, 2, none⟩ = some (.int .i64 np) := V2a.cell 2
    have p3 : (w9.setCell ⟨w.heap.size + 1, 2, none⟩ (.int .i64 np)).cell? ⟨w.heap.size + 1, 3, none⟩ = some (.int .i64 0) := V2a.cell 3
    have p4 : (w9.setCell ⟨w.heap.size + 1, 2, none⟩ (.int .i64 np)).cell? ⟨w.heap.size + 1, 4, none⟩ = some (.int .i64 a) := V2a.cell 4
    have p5 : (w9.setCell ⟨w.heap.size + 1, 2, none⟩ (.int .i64 np)).cell? ⟨w.heap.size + 1, 5, none⟩ = some (.int .i64 st) := V2a.cell 5
    have g0 := V3a.free 0
    have g1 := V3a.free 1
    have g2 := V3a.free 2
    have g3 := V3a.free 3
    have g4 := V3a.free 4
    have g5 := V3a.free 5
    have k0 : (w9.setCell ⟨w.heap.size + 1, 2, none⟩ (.int .i64 np)).cell? ⟨w.heap.size + 1 + 1, 0, none⟩ = some (.slice none 0 0) := V3a.cell 0
    have k1 : (w9.setCell ⟨w.heap.size + 1, 2, none⟩ (.int .i64 np)).cell? ⟨w.heap.size + 1 + 1, 1, none⟩ = some (.int .i64 0) := V3a.cell 1
    have k2 : (w9.setCell ⟨w.heap.size + 1, 2, none⟩ (.int .i64 np)).cell? ⟨w.heap.size + 1 + 1, 2, none⟩ = some (.int .i64 0) := V3a.cell 2
    have k3 : (w9.setCell ⟨w.heap.size + 1, 2, none⟩ (.int .i64 np)).cell? ⟨w.heap.size + 1 + 1, 3, none⟩ = some (.int .i64 0) := V3a.cell 3
    have k4 : (w9.setCell ⟨w.heap.size + 1, 2, none⟩ (.int .i64 np)).cell? ⟨w.heap.size + 1 + 1, 4, none⟩ = some (.int .i64 0) := V3a.cell 4
    have k5 : (w9.setCell ⟨w.heap.size + 1, 2, none⟩ (.int .i64 np)).cell? ⟨w.heap.size + 1 + 1, 5, none⟩ = some (.int .i64 0) := V3a.cell 5
    have V4a := V3a.six (.slice ob n cp) (.int .i64 rt) (.int .i64 np) (.int .i64 0) (.int .i64 a) (.int .i64 st)
    go_wp2_with fail
    refine bodyPost_ret (retD1 (d := ⟨ls, rt, np, 0, a, st⟩) rfl rfl V4a) rfl ?_
    exact ⟨⟨ob, cp, by rw [HX.out], by rw [HX.out]; exact ⟨lies_six hOa rfl V3a _ _ _ _ _ _ _ _, hb⟩⟩, below_six B18 (by omega) _ _ _ _ _ _⟩
  · have htb : (tr + 1 == rtr) = false := by simp [htr]
    have HX : Hid (ag = ⟨ls, rt, pl, tr + 1, a, st⟩) := by show _ = _; rw [HAg.out, if_neg htr]
    clear HAg HF V17 VR7
    have p0 : ((w5.setCell ⟨w.heap.size + 1, 4, none⟩ (.int .i64 a)).setCell ⟨w.heap.size + 1, 3, none⟩ (.int .i64 (tr + 1))).cell? ⟨w.heap.size + 1, 0, none⟩ = some (.slice ob n cp) := V27.cell 0
    have p1 : ((w5.setCell ⟨w.heap.size + 1, 4, none⟩ (.int .i64 a)).setCell ⟨w.heap.size + 1, 3, none⟩ (.int .i64 (tr + 1))).cell? ⟨w.heap.size + 1, 1, none⟩ = some (.int .i64 rt) := V27.cell 1
    have p2 : ((w5.setCell ⟨w.heap.size + 1, 4, none⟩ (.int .i64 a)).setCell ⟨w.heap.size + 1, 3, none⟩ (.int .i64 (tr + 1))).cell? ⟨w.heap.size + 1, 2, none⟩ = some (.int .i64 pl) := V27.cell 2
    have p3 : ((w5.setCell ⟨w.heap.size + 1, 4, none⟩ (.int .i64 a)).setCell ⟨w.heap.size + 1, 3, none⟩ (.int .i64 (tr + 1))).cell? ⟨w.heap.size + 1, 3, none⟩ = some (.int .i64 (tr + 1)) := V27.cell 3
    have p4 : ((w5.setCell ⟨w.heap.size + 1, 4, none⟩ (.int .i64 a)).setCell ⟨w.heap.size + 1, 3, none⟩ (.int .i64 (tr + 1))).cell? ⟨w.heap.size + 1, 4, none⟩ = some (.int .i64 a) := V27.cell 4
    have p5 : ((w5.setCell ⟨w.heap.size + 1, 4, none⟩ (.int .i64 a)).setCell ⟨w.heap.size + 1, 3, none⟩ (.int .i64 (tr + 1))).cell? ⟨w.heap.size + 1, 5, none⟩ = some (.int .i64 st) := V27.cell 5
    have g0 := V37.free 0
    have g1 := V37.free 1
    have g2 := V37.free 2
    have g3 := V37.free 3
    have g4 := V37.free 4
    have g5 := V37.free 5
    have k0 : ((w5.setCell ⟨w.heap.size + 1, 4, none⟩ (.int .i64 a)).setCell ⟨w.heap.size + 1, 3, none⟩ (.int .i64 (tr + 1))).cell? ⟨w.heap.size + 1 + 1, 0, none⟩ = some (.slice none 0 0) := V37.cell 0
    have k1 : ((w5.setCell ⟨w.heap.size + 1, 4, none⟩ (.int .i64 a)).setCell ⟨w.heap.size + 1, 3, none⟩ (.int .i64 (tr + 1))).cell? ⟨w.heap.size + 1 + 1, 1, none⟩ = some (.int .i64 0) := V37.cell 1
    have k2 : ((w5.setCell ⟨w.heap.size + 1, 4, none⟩ (.int .i64 a)).setCell ⟨w.heap.size + 1, 3, none⟩ (.int .i64 (tr + 1))).cell? ⟨w.heap.size + 1 + 1, 2, none⟩ = some (.int .i64 0) := V37.cell 2
    have k3 : ((w5.setCell ⟨w.heap.size + 1, 4, none⟩ (.int .i64 a)).setCell ⟨w.heap.size + 1, 3, none⟩ (.int .i64 (tr + 1))).cell? ⟨w.heap.size + 1 + 1, 3, none⟩ = some (.int .i64 0) := V37.cell 3
    have k4 : ((w5.setCell ⟨w.heap.size + 1, 4, none⟩ (.int .i64 a)).setCell ⟨w.heap.size + 1, 3, none⟩ (.int .i64 (tr + 1))).cell? ⟨w.heap.size + 1 + 1, 4, none⟩ = some (.int .i64 0) := V37.cell 4
    have k5 : ((w5.setCell ⟨w.heap.size + 1, 4, none⟩ (.int .i64 a)).setCell ⟨w.heap.size + 1, 3, none⟩ (.int .i64 (tr + 1))).cell? ⟨w.heap.size + 1 + 1, 5, none⟩ = some (.int .i64 0) := V37.cell 5
    have V47 := V37.six (.slice ob n cp) (.int .i64 rt) (.int .i64 pl) (.int .i64 (tr + 1)) (.int .i64 a) (.int .i64 st)
    go_wp2_with fail
    refine bodyPost_ret (retD1 (d := ⟨ls, rt, pl, tr + 1, a, st⟩) rfl rfl V47) rfl ?_
    exact ⟨⟨ob, cp, by rw [HX.out], by rw [HX.out]; exact ⟨lies_six hO7 rfl V37 _ _ _ _ _ _ _ _, hb⟩⟩, below_six B14 (by omega) _ _ _ _ _ _⟩
end Go.Proofs.Ytaiacohnhhicpaa
