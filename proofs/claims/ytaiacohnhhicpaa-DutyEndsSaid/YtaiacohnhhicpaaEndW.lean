/-
  The law's walk: a duty that is taken is due again when it is to be told again; done, it is told that once, and is gone.
-/
import Derived.Test.YtaiacohnhhicpaaDutP
import Derived.Test.YtaiacohnhhicpaaDutR
import Derived.Test.YtaiacohnhhicpaaLawA
import Derived.Test.YtaiacohnhhicpaaEndN
namespace Go.Proofs.Ytaiacohnhhicpaa
open Go.RowKit Go.Shelf
set_option linter.unusedVariables false

theorem mod_five (x : Int) : ∃ k : Nat, wrap64 (1 + (wrap64 (x.tmod 5 + 5)).tmod 5) = (k : Int) ∧ 1 ≤ k ∧ k ≤ 5 := by
  have h := Int.tmod_eq_emod (a := x) (b := 5)
  have h1 := Int.emod_nonneg x (show (5 : Int) ≠ 0 by decide)
  have h2 := Int.emod_lt_of_pos x (show (0 : Int) < 5 by decide)
  have h3 : 0 ≤ x.tmod 5 + 5 ∧ x.tmod 5 + 5 ≤ 10 := by rw [h]; split <;> omega
  generalize x.tmod 5 + 5 = y at *
  have hy : wrap64 y = y := by unfold wrap64; omega
  rw [hy, Int.tmod_eq_emod_of_nonneg h3.1]
  have h4 := Int.emod_nonneg y (show (5 : Int) ≠ 0 by decide)
  have h5 := Int.emod_lt_of_pos y (show (0 : Int) < 5 by decide)
  have hz : wrap64 (1 + y % 5) = 1 + y % 5 := by unfold wrap64; omega
  exact ⟨(1 + y % 5).toNat, by omega, by omega, by omega⟩
set_option maxRecDepth 100000 in
set_option maxHeartbeats 6400000 in
theorem ends_walk (o1 : Option Addr) (n1 c1 : Nat) (o2 : Option Addr) (n2 c2 : Nat) (c : CfgL) (oa : Option Addr) (n ca : Nat) (l : List L2) (now draw times : Int) (w : World) (hC : CfgAt w o1 n1 c1 o2 n2 c2 c) (hL : Ls w oa n ca l) :
    Calls Try.prog 5 #[aggC o1 n1 c1 o2 n2 c2 c, .slice oa n ca, .int .i64 now, .int .i64 draw, .int .i64 times] w fun e w' => e = .returned (.bool true) ∧ Below w.heap.size w w' := by
  have B1 := below_alloc w (.cells (cfgV (.slice o1 n1 c1) (.slice o2 n2 c2) c.2.2.1 c.2.2.2) 33)
  have V1 := Vals.new w 33 (cfgV (.slice o1 n1 c1) (.slice o2 n2 c2) c.2.2.1 c.2.2.2)
  have lc := hC.below B1 (Nat.le_refl _)
  have ll := hL.below B1 (Nat.le_refl _)
  obtain ⟨rs, ts, cq, ct⟩ := c
  dsimp only [aggC] at *
  go_enter Try.func5, Try.ntmps5
  go_upto_region 1 with fail
  have hW := B1.size
  generalize w.alloc (.cells (cfgV (.slice o1 n1 c1) (.slice o2 n2 c2) cq ct) 33) = W at *
  generalize hA : w.heap.size = A at *
  have HF := few_any o1 n1 c1 o2 n2 c2 (rs, ts, cq, ct) W lc.rs.room lc.qs.room
  have m0 : W.cell? ⟨A, 0, none⟩ = some (.slice o1 n1 c1) := V1.cell 0
  have m1 : W.cell? ⟨A, 1, none⟩ = some (.slice o2 n2 c2) := V1.cell 1
  have m2 : W.cell? ⟨A, 2, none⟩ = some (.int .i64 cq) := V1.cell 2
  have m3 : W.cell? ⟨A, 3, none⟩ = some (.int .i64 ct) := V1.cell 3
  go_wp2_with fail
  refine HF.mono ?_
  rintro e w2 ⟨rfl, B2⟩
  have V2 := V1.keep B2 (Nat.le_refl _)
  have lc2 := (lc.below B2 (Nat.le_refl _))
  have ll2 := (ll.below B2 (Nat.le_refl _))
  have B3 := B1.trans (B2.mono hW)
  have hW2 := Nat.le_trans hW B2.size
  clear m0 m1 m2 m3 HF V1 lc ll B1 B2 hW
  have m0 : w2.cell? ⟨A, 0, none⟩ = some (.slice o1 n1 c1) := V2.cell 0
  have m1 : w2.cell? ⟨A, 1, none⟩ = some (.slice o2 n2 c2) := V2.cell 1
  have m2 : w2.cell? ⟨A, 2, none⟩ = some (.int .i64 cq) := V2.cell 2
  have m3 : w2.cell? ⟨A, 3, none⟩ = some (.int .i64 ct) := V2.cell 3
  have f0 := V2.free 0
  have f1 := V2.free 1
  have f2 := V2.free 2
  have f3 := V2.free 3
  go_wp2_with fail
  refine (some_any oa n ca l w2 ll2).mono ?_
  rintro e w3 ⟨rfl, rfl⟩
  have V4 := V2.four (.slice o1 (min n1 6) c1) (.slice o2 (min n2 6) c2) (.int .i64 cq) (.int .i64 ct)
  have B4 := below_four B3 (Nat.le_refl A) (.slice o1 (min n1 6) c1) (.slice o2 (min n2 6) c2) (.int .i64 cq) (.int .i64 ct)
  have hW4 : A ≤ ((((w2.setCell ⟨A, 0, none⟩ (.slice o1 (min n1 6) c1)).setCell ⟨A, 1, none⟩ (.slice o2 (min n2 6) c2)).setCell ⟨A, 2, none⟩ (.int .i64 cq)).setCell ⟨A, 3, none⟩ (.int .i64 ct)).heap.size := by simpa using hW2
  go_upto_region 2 with fail
  clear m0 m1 m2 m3 f0 f1 f2 f3 V2 B3 hW2 lc2 ll2
  dsimp only [fewC] at *
  generalize (((w2.setCell ⟨A, 0, none⟩ (.slice o1 (min n1 6) c1)).setCell ⟨A, 1, none⟩ (.slice o2 (min n2 6) c2)).setCell ⟨A, 2, none⟩ (.int .i64 cq)).setCell ⟨A, 3, none⟩ (.int .i64 ct) = W0 at *
  have lc := (hC.below B4 (Nat.le_of_eq hA)).few
  have ll := Ls.some (hL.below B4 (Nat.le_of_eq hA))
  have hn5 := Nat.min_le_right n 5
  clear hC hL
  dsimp only [fewC] at *
  generalize l.take 5 = l at *
  generalize rs.take 6 = rs at *
  generalize ts.take 6 = ts at *
  generalize min n 5 = n at *
  generalize min n1 6 = n1 at *
  generalize min n2 6 = n2 at *
  obtain ⟨J, hJ⟩ : ∃ J : World → Prop, J = From W0.heap.size W0 := ⟨_, rfl⟩
  have gC : Hid (∀ wx, J wx → Vals wx A 33 (cfgV (.slice o1 n1 c1) (.slice o2 n2 c2) cq ct) ∧ CfgAt wx o1 n1 c1 o2 n2 c2 (rs, ts, cq, ct)) := fun wx h => by rw [hJ] at h; exact ⟨V4.keep h.2 (Nat.le_refl _), lc.below h.2 (Nat.le_refl _)⟩
  have gB : Hid (∀ wx, J wx → A ≤ wx.heap.size ∧ Below A w wx) := fun wx h => by rw [hJ] at h; exact ⟨Nat.le_trans hW4 h.1, B4.trans (h.2.mono hW4)⟩
  have gS : Hid (∀ wx, J wx → W0.heap.size ≤ wx.heap.size) := fun wx h => by rw [hJ] at h; exact h.1
  have JS : Hid (∀ wx E (y0 y1 y2 y3 y4 y5 : Value), J wx → W0.heap.size ≤ E → J ((((((wx.setCell ⟨E, 0, none⟩ y0).setCell ⟨E, 1, none⟩ y1).setCell ⟨E, 2, none⟩ y2).setCell ⟨E, 3, none⟩ y3).setCell ⟨E, 4, none⟩ y4).setCell ⟨E, 5, none⟩ y5)) := fun wx E y0 y1 y2 y3 y4 y5 h hE => by rw [hJ] at h ⊢; exact h.six hE y0 y1 y2 y3 y4 y5
  have st : Hid (Stable J) := by show Stable J; rw [hJ]; exact Stable.from _ _
  have hJ0 : J W0 := by rw [hJ]; exact ⟨Nat.le_refl _, Below.refl _ _⟩
  clear hJ V4 lc B4 hW4
  generalize W0.heap.size = S at *
  obtain ⟨x0, rfl⟩ : ∃ x : Cls J, W0 = x.w := ⟨⟨_, hJ0⟩, rfl⟩
  clear hJ0
  have p0 : ∀ x : Cls J, x.w.cell? ⟨A, 0, none⟩ = some (.slice o1 n1 c1) := fun x => (gC.out _ x.is).1.cell 0
  have p1 : ∀ x : Cls J, x.w.cell? ⟨A, 1, none⟩ = some (.slice o2 n2 c2) := fun x => (gC.out _ x.is).1.cell 1
  have p2 : ∀ x : Cls J, x.w.cell? ⟨A, 2, none⟩ = some (.int .i64 cq) := fun x => (gC.out _ x.is).1.cell 2
  have p3 : ∀ x : Cls J, x.w.cell? ⟨A, 3, none⟩ = some (.int .i64 ct) := fun x => (gC.out _ x.is).1.cell 3
  obtain ⟨N0, N1⟩ := wrap_cut now 274877906944 (by decide) (by decide)
  go_upto_region 3 with fail
  generalize wrap64 ((IntKind.u64.wrap now).tmod 274877906944) = N at *
  have T0 : timeB N = true := (time_iff _).2 ⟨by omega, by omega⟩
  have HN := new_any o1 n1 c1 o2 n2 c2 (rs, ts, cq, ct) oa n ca l N x0.w (gC.out _ x0.is).2 ll hn5
  have hSx := gS.out _ x0.is
  unfold NewOut at HN
  by_cases he : (newF (rs, ts, cq, ct) l N).2 = 0
  · obtain ⟨_, _, _, _, e5⟩ := newF_ok he
    have H1 := Lib.hid (new_with he)
    have H2 := ends_first he
    rw [e5] at HN
    clear e5 he
    generalize rotF (rs, ts, cq, ct) l = R at *
    dsimp only [aggD, dV] at HN
    go_wp2_with fail
    refine HN.mono ?_
    rintro e w5 ⟨⟨og, ng, cg, rfl, hD⟩, B5⟩
    have J6 := st.out.alloc (st.out _ _ x0.is B5) (.cells #[.slice og ng cg, .int .i64 R, .int .i64 0, .int .i64 0, .int .i64 N, .int .i64 1] 24)
    have VE := Vals.new w5 24 #[.slice og ng cg, .int .i64 R, .int .i64 0, .int .i64 0, .int .i64 N, .int .i64 1]
    have hD6 := hD.below (below_alloc w5 (.cells #[.slice og ng cg, .int .i64 R, .int .i64 0, .int .i64 0, .int .i64 N, .int .i64 1] 24)) (Nat.le_refl _)
    have hSE : S ≤ w5.heap.size := Nat.le_trans hSx B5.size
    clear HN hD B5 hSx
    go_upto_region 4 with fail
    generalize w5.heap.size = E at *
    generalize w5.alloc (.cells #[.slice og ng cg, .int .i64 R, .int .i64 0, .int .i64 0, .int .i64 N, .int .i64 1] 24) = W6 at *
    obtain ⟨x6, rfl⟩ : ∃ x6 : Cls J, W6 = x6.w := ⟨⟨_, J6⟩, rfl⟩
    have HDn := done_any o1 n1 c1 o2 n2 c2 (rs, ts, cq, ct) og ng cg ⟨l, R, 0, 0, N, 1⟩ N x6.w (gC.out _ x6.is).2 hD6
    rw [H2] at HDn
    unfold SentOut at HDn
    dsimp only [aggD, dV] at HDn
    clear H2 J6
    have e0 : x6.w.cell? ⟨E, 0, none⟩ = some (.slice og ng cg) := VE.cell 0
    have e1 : x6.w.cell? ⟨E, 1, none⟩ = some (.int .i64 R) := VE.cell 1
    have e2 : x6.w.cell? ⟨E, 2, none⟩ = some (.int .i64 0) := VE.cell 2
    have e3 : x6.w.cell? ⟨E, 3, none⟩ = some (.int .i64 0) := VE.cell 3
    have e4 : x6.w.cell? ⟨E, 4, none⟩ = some (.int .i64 N) := VE.cell 4
    have e5 : x6.w.cell? ⟨E, 5, none⟩ = some (.int .i64 1) := VE.cell 5
    go_wp2_with fail
    refine HDn.mono ?_
    rintro e w7 ⟨⟨oz, nz, cz, rfl, hD7⟩, B7⟩
    have J8 := st.out.alloc (st.out _ _ x6.is B7) (.cells #[.slice oz nz cz, .int .i64 0, .int .i64 0, .int .i64 0, .int .i64 0, .int .i64 0] 24)
    have VF := Vals.new w7 24 #[.slice oz nz cz, .int .i64 0, .int .i64 0, .int .i64 0, .int .i64 0, .int .i64 0]
    have VE8 := (VE.keep B7 (Nat.le_refl _)).alloc (.cells #[.slice oz nz cz, .int .i64 0, .int .i64 0, .int .i64 0, .int .i64 0, .int .i64 0] 24)
    have hD8 := (hD6.below B7 (Nat.le_refl _)).below (below_alloc w7 (.cells #[.slice oz nz cz, .int .i64 0, .int .i64 0, .int .i64 0, .int .i64 0, .int .i64 0] 24)) (Nat.le_refl _)
    have hDz := hD7.below (below_alloc w7 (.cells #[.slice oz nz cz, .int .i64 0, .int .i64 0, .int .i64 0, .int .i64 0, .int .i64 0] 24)) (Nat.le_refl _)
    clear HDn hD7 B7 VE hD6 e0 e1 e2 e3 e4 e5 x6
    go_upto_region 7 with fail
    generalize w7.heap.size = F at *
    generalize w7.alloc (.cells #[.slice oz nz cz, .int .i64 0, .int .i64 0, .int .i64 0, .int .i64 0, .int .i64 0] 24) = W8 at *
    obtain ⟨x8, rfl⟩ : ∃ x8 : Cls J, W8 = x8.w := ⟨⟨_, J8⟩, rfl⟩
    clear J8
    have HSm := refSameD_any oz nz cz none 0 0 zD x8.w hDz.ls (Ls.nil _ _ _) (by have := hDz.b; omega)
    dsimp only [aggD, dV] at HSm
    have u0 : x8.w.cell? ⟨F, 0, none⟩ = some (.slice oz nz cz) := VF.cell 0
    have u1 : x8.w.cell? ⟨F, 1, none⟩ = some (.int .i64 0) := VF.cell 1
    have u2 : x8.w.cell? ⟨F, 2, none⟩ = some (.int .i64 0) := VF.cell 2
    have u3 : x8.w.cell? ⟨F, 3, none⟩ = some (.int .i64 0) := VF.cell 3
    have u4 : x8.w.cell? ⟨F, 4, none⟩ = some (.int .i64 0) := VF.cell 4
    have u5 : x8.w.cell? ⟨F, 5, none⟩ = some (.int .i64 0) := VF.cell 5
    clear VF hDz
    go_wp2_with fail
    refine HSm.mono ?_
    rintro e w9 ⟨rfl, B9⟩
    have VE9 := VE8.keep B9 (Nat.le_refl _)
    have hD9 := hD8.below B9 (Nat.le_refl _)
    obtain ⟨x9, rfl⟩ : ∃ x9 : Cls J, w9 = x9.w := ⟨⟨_, st.out _ _ x8.is B9⟩, rfl⟩
    clear HSm u0 u1 u2 u3 u4 u5 VE8 hD8 B9 x8
    go_wp2_with fail
    obtain ⟨K, hK, hK1, hK5⟩ := mod_five times
    rw [hK]
    go_loopw [78] (fun s78 wr => ∃ k : Nat, k ≤ K ∧ s78 = .int .i64 k ∧ J wr ∧ ∃ (d : D6) (og : Option Addr) (ng cg : Nat), Vals wr E 24 (dV (.slice og ng cg) d) ∧ DAt wr og ng cg d ∧ Hid (dutyR (rs, ts, cq, ct) d = true ∧ d.st = if k = 0 then 1 else 2)) (fun s78 _ => K - (intOf s78).toNat)
    case atStart => exact ⟨0, Nat.zero_le _, rfl, x9.is, ⟨l, R, 0, 0, N, 1⟩, og, ng, cg, VE9, hD9, ⟨H1.out, rfl⟩⟩
    case round =>
      obtain ⟨k, hk, rfl, hJw, d, oh, nh, ch, VE, hD, HD⟩ := hrel
      obtain ⟨y, rfl⟩ : ∃ y : Cls J, wr = y.w := ⟨⟨_, hJw⟩, rfl⟩
      obtain ⟨hd, hs⟩ := HD.out
      clear hJw HD VE9 hD9 H1 x9 hK
      by_cases hlt : k < K
      · have h3 : d.st ≠ 3 := by rw [hs]; split <;> decide
        obtain ⟨q1, q2, t0, t1, r1, r2⟩ := ends_round hd h3 draw
        have HSn := sent_any o1 n1 c1 o2 n2 c2 (rs, ts, cq, ct) oh nh ch d d.du true draw y.w (gC.out _ y.is).2 hD
        rw [q1] at HSn
        obtain ⟨dl, da, db, dc, dd, de⟩ := d
        unfold SentOut at HSn
        dsimp only [aggD, dV] at *
        have hmin := min_addT (t := dd) (d := cq)
        generalize Bo.addT dd cq = Z at *
        have HQ := Lib.hid q2
        clear q1 q2 hd hs h3
        have e0 : y.w.cell? ⟨E, 0, none⟩ = some (.slice oh nh ch) := VE.cell 0
        have e1 : y.w.cell? ⟨E, 1, none⟩ = some (.int .i64 da) := VE.cell 1
        have e2 : y.w.cell? ⟨E, 2, none⟩ = some (.int .i64 db) := VE.cell 2
        have e3 : y.w.cell? ⟨E, 3, none⟩ = some (.int .i64 dc) := VE.cell 3
        have e4 : y.w.cell? ⟨E, 4, none⟩ = some (.int .i64 dd) := VE.cell 4
        have e5 : y.w.cell? ⟨E, 5, none⟩ = some (.int .i64 de) := VE.cell 5
        go_wp2_with fail
        refine HSn.mono ?_
        rintro e w5 ⟨⟨oi, ni, ci, rfl, hDn⟩, Bn⟩
        have Jn := st.out.alloc (st.out _ _ y.is Bn) (.cells #[.slice oi ni ci, .int .i64 da, .int .i64 0, .int .i64 0, .int .i64 Z, .int .i64 2] 24)
        have VN := Vals.new w5 24 #[.slice oi ni ci, .int .i64 da, .int .i64 0, .int .i64 0, .int .i64 Z, .int .i64 2]
        replace VE := (VE.keep Bn (Nat.le_refl _)).alloc (.cells #[.slice oi ni ci, .int .i64 da, .int .i64 0, .int .i64 0, .int .i64 Z, .int .i64 2] 24)
        have hN := hDn.below (below_alloc w5 (.cells #[.slice oi ni ci, .int .i64 da, .int .i64 0, .int .i64 0, .int .i64 Z, .int .i64 2] 24)) (Nat.le_refl _)
        clear HSn hDn Bn hD e0 e1 e2 e3 e4 e5 y
        go_upto_region 12 with fail
        generalize w5.heap.size = G at *
        generalize w5.alloc (.cells #[.slice oi ni ci, .int .i64 da, .int .i64 0, .int .i64 0, .int .i64 Z, .int .i64 2] 24) = Wn at *
        obtain ⟨y6, rfl⟩ : ∃ x : Cls J, Wn = x.w := ⟨⟨_, Jn⟩, rfl⟩
        clear Jn
        have e0 : y6.w.cell? ⟨E, 0, none⟩ = some (.slice oh nh ch) := VE.cell 0
        have e1 : y6.w.cell? ⟨E, 1, none⟩ = some (.int .i64 da) := VE.cell 1
        have e2 : y6.w.cell? ⟨E, 2, none⟩ = some (.int .i64 db) := VE.cell 2
        have e3 : y6.w.cell? ⟨E, 3, none⟩ = some (.int .i64 dc) := VE.cell 3
        have e4 : y6.w.cell? ⟨E, 4, none⟩ = some (.int .i64 dd) := VE.cell 4
        have e5 : y6.w.cell? ⟨E, 5, none⟩ = some (.int .i64 de) := VE.cell 5
        have f0 := VE.free 0
        have f1 := VE.free 1
        have f2 := VE.free 2
        have f3 := VE.free 3
        have f4 := VE.free 4
        have f5 := VE.free 5
        have u0 : y6.w.cell? ⟨G, 0, none⟩ = some (.slice oi ni ci) := VN.cell 0
        have u1 : y6.w.cell? ⟨G, 1, none⟩ = some (.int .i64 da) := VN.cell 1
        have u2 : y6.w.cell? ⟨G, 2, none⟩ = some (.int .i64 0) := VN.cell 2
        have u3 : y6.w.cell? ⟨G, 3, none⟩ = some (.int .i64 0) := VN.cell 3
        have u4 : y6.w.cell? ⟨G, 4, none⟩ = some (.int .i64 Z) := VN.cell 4
        have u5 : y6.w.cell? ⟨G, 5, none⟩ = some (.int .i64 2) := VN.cell 5
        go_wp2_with fail
        go_roundw
        case rel => exact ⟨k + 1, by omega, by go_num, JS.out _ E _ _ _ _ _ _ y6.is hSE, ⟨dl, da, 0, 0, Z, 2⟩, oi, ni, ci, VE.six _ _ _ _ _ _, ⟨lies_six hN.ls rfl VE oi ni ci da 0 0 Z 2, hN.b⟩, HQ.out, by simp⟩
        case measure => simp [intOf]; omega
      · obtain rfl : k = K := by omega
        have hs2 : d.st = 2 := by rw [hs, if_neg (by omega)]
        obtain ⟨q1, q2⟩ := ends_done hd hs2 T0
        obtain ⟨q3, q4, q5, q6, q7⟩ := ends_last q2 rfl T0 (Int.le_refl _) draw
        obtain ⟨P, hP⟩ : ∃ P, P = againD (rs, ts, cq, ct) ⟨d.ls, d.rt, 0, 0, N, 3⟩ N draw := ⟨_, rfl⟩
        rw [← hP] at q4 q5 q6 q7
        have HA := done_any o1 n1 c1 o2 n2 c2 (rs, ts, cq, ct) oh nh ch d N y.w (gC.out _ y.is).2 hD
        rw [q1] at HA
        obtain ⟨dl, da, db, dc, dd, de⟩ := d
        obtain ⟨pl, pa, pb, pc, pd, pe⟩ := P
        dsimp only at q1 q2 q3 q4 q5 q6 q7
        subst q5
        have HB := fun (x : Cls J) oo no co (h : DAt x.w oo no co ⟨dl, da, 0, 0, N, 3⟩) => done_any o1 n1 c1 o2 n2 c2 (rs, ts, cq, ct) oo no co ⟨dl, da, 0, 0, N, 3⟩ N x.w (gC.out _ x.is).2 h
        have HC := fun (x : Cls J) oo no co (h : DAt x.w oo no co ⟨dl, da, 0, 0, N, 3⟩) => sent_any o1 n1 c1 o2 n2 c2 (rs, ts, cq, ct) oo no co ⟨dl, da, 0, 0, N, 3⟩ N false draw x.w (gC.out _ x.is).2 h
        have HE := fun (x : Cls J) oo no co (h : DAt x.w oo no co ⟨pl, pa, pb, pc, pd, 3⟩) => sent_any o1 n1 c1 o2 n2 c2 (rs, ts, cq, ct) oo no co ⟨pl, pa, pb, pc, pd, 3⟩ pd true draw x.w (gC.out _ x.is).2 h
        rw [q3] at HB
        rw [q4] at HC
        try dsimp only at q7
        rw [q7] at HE
        unfold SentOut at HA HB HC HE
        dsimp only [aggD, dV] at *
        clear q1 q2 q3 q4 q6 q7 hP hs hs2 hd hlt hk
        have e0 : y.w.cell? ⟨E, 0, none⟩ = some (.slice oh nh ch) := VE.cell 0
        have e1 : y.w.cell? ⟨E, 1, none⟩ = some (.int .i64 da) := VE.cell 1
        have e2 : y.w.cell? ⟨E, 2, none⟩ = some (.int .i64 db) := VE.cell 2
        have e3 : y.w.cell? ⟨E, 3, none⟩ = some (.int .i64 dc) := VE.cell 3
        have e4 : y.w.cell? ⟨E, 4, none⟩ = some (.int .i64 dd) := VE.cell 4
        have e5 : y.w.cell? ⟨E, 5, none⟩ = some (.int .i64 de) := VE.cell 5
        go_wp2_with fail
        refine HA.mono ?_
        rintro e w5 ⟨⟨oo, no, co, rfl, hDn⟩, Bn⟩
        have Jn := st.out.alloc (st.out _ _ y.is Bn) (.cells #[.slice oo no co, .int .i64 da, .int .i64 0, .int .i64 0, .int .i64 N, .int .i64 3] 24)
        have VO := Vals.new w5 24 #[.slice oo no co, .int .i64 da, .int .i64 0, .int .i64 0, .int .i64 N, .int .i64 3]
        have hO := hDn.below (below_alloc w5 (.cells #[.slice oo no co, .int .i64 da, .int .i64 0, .int .i64 0, .int .i64 N, .int .i64 3] 24)) (Nat.le_refl _)
        clear HA hDn Bn hD VE e0 e1 e2 e3 e4 e5 y
        go_upto_region 17 with fail
        generalize w5.heap.size = O at *
        generalize w5.alloc (.cells #[.slice oo no co, .int .i64 da, .int .i64 0, .int .i64 0, .int .i64 N, .int .i64 3] 24) = Wn at *
        obtain ⟨y6, rfl⟩ : ∃ x : Cls J, Wn = x.w := ⟨⟨_, Jn⟩, rfl⟩
        clear Jn
        have HB2 := HB y6 oo no co hO
        clear HB
        have e0 : y6.w.cell? ⟨O, 0, none⟩ = some (.slice oo no co) := VO.cell 0
        have e1 : y6.w.cell? ⟨O, 1, none⟩ = some (.int .i64 da) := VO.cell 1
        have e2 : y6.w.cell? ⟨O, 2, none⟩ = some (.int .i64 0) := VO.cell 2
        have e3 : y6.w.cell? ⟨O, 3, none⟩ = some (.int .i64 0) := VO.cell 3
        have e4 : y6.w.cell? ⟨O, 4, none⟩ = some (.int .i64 N) := VO.cell 4
        have e5 : y6.w.cell? ⟨O, 5, none⟩ = some (.int .i64 3) := VO.cell 5
        go_wp2_with fail
        refine HB2.mono ?_
        rintro e w7 ⟨⟨ox, nx, cx, rfl, hDn⟩, Bn⟩
        have Jn := st.out.alloc (st.out _ _ y6.is Bn) (.cells #[.slice ox nx cx, .int .i64 0, .int .i64 0, .int .i64 0, .int .i64 0, .int .i64 0] 24)
        have VX := Vals.new w7 24 #[.slice ox nx cx, .int .i64 0, .int .i64 0, .int .i64 0, .int .i64 0, .int .i64 0]
        replace VO := (VO.keep Bn (Nat.le_refl _)).alloc (.cells #[.slice ox nx cx, .int .i64 0, .int .i64 0, .int .i64 0, .int .i64 0, .int .i64 0] 24)
        replace hO := (hO.below Bn (Nat.le_refl _)).below (below_alloc w7 (.cells #[.slice ox nx cx, .int .i64 0, .int .i64 0, .int .i64 0, .int .i64 0, .int .i64 0] 24)) (Nat.le_refl _)
        have hX := hDn.below (below_alloc w7 (.cells #[.slice ox nx cx, .int .i64 0, .int .i64 0, .int .i64 0, .int .i64 0, .int .i64 0] 24)) (Nat.le_refl _)
        clear HB2 hDn Bn e0 e1 e2 e3 e4 e5 y6
        go_upto_region 18 with fail
        generalize w7.heap.size = X at *
        generalize w7.alloc (.cells #[.slice ox nx cx, .int .i64 0, .int .i64 0, .int .i64 0, .int .i64 0, .int .i64 0] 24) = Wn at *
        obtain ⟨y8, rfl⟩ : ∃ x : Cls J, Wn = x.w := ⟨⟨_, Jn⟩, rfl⟩
        clear Jn
        have HC2 := HC y8 oo no co hO
        clear HC VX hX
        have e0 : y8.w.cell? ⟨O, 0, none⟩ = some (.slice oo no co) := VO.cell 0
        have e1 : y8.w.cell? ⟨O, 1, none⟩ = some (.int .i64 da) := VO.cell 1
        have e2 : y8.w.cell? ⟨O, 2, none⟩ = some (.int .i64 0) := VO.cell 2
        have e3 : y8.w.cell? ⟨O, 3, none⟩ = some (.int .i64 0) := VO.cell 3
        have e4 : y8.w.cell? ⟨O, 4, none⟩ = some (.int .i64 N) := VO.cell 4
        have e5 : y8.w.cell? ⟨O, 5, none⟩ = some (.int .i64 3) := VO.cell 5
        go_wp2_with fail
        refine HC2.mono ?_
        rintro e w9 ⟨⟨op, np, cp, rfl, hDn⟩, Bn⟩
        have Jn := st.out.alloc (st.out _ _ y8.is Bn) (.cells #[.slice op np cp, .int .i64 pa, .int .i64 pb, .int .i64 pc, .int .i64 pd, .int .i64 3] 24)
        have VP := Vals.new w9 24 #[.slice op np cp, .int .i64 pa, .int .i64 pb, .int .i64 pc, .int .i64 pd, .int .i64 3]
        replace VO := (VO.keep Bn (Nat.le_refl _)).alloc (.cells #[.slice op np cp, .int .i64 pa, .int .i64 pb, .int .i64 pc, .int .i64 pd, .int .i64 3] 24)
        replace hO := (hO.below Bn (Nat.le_refl _)).below (below_alloc w9 (.cells #[.slice op np cp, .int .i64 pa, .int .i64 pb, .int .i64 pc, .int .i64 pd, .int .i64 3] 24)) (Nat.le_refl _)
        have hP := hDn.below (below_alloc w9 (.cells #[.slice op np cp, .int .i64 pa, .int .i64 pb, .int .i64 pc, .int .i64 pd, .int .i64 3] 24)) (Nat.le_refl _)
        clear HC2 hDn Bn e0 e1 e2 e3 e4 e5 y8
        go_upto_region 19 with fail
        generalize w9.heap.size = P at *
        generalize w9.alloc (.cells #[.slice op np cp, .int .i64 pa, .int .i64 pb, .int .i64 pc, .int .i64 pd, .int .i64 3] 24) = Wn at *
        obtain ⟨y10, rfl⟩ : ∃ x : Cls J, Wn = x.w := ⟨⟨_, Jn⟩, rfl⟩
        clear Jn
        have HE2 := HE y10 op np cp hP
        clear HE hO
        have e0 : y10.w.cell? ⟨O, 0, none⟩ = some (.slice oo no co) := VO.cell 0
        have e1 : y10.w.cell? ⟨O, 1, none⟩ = some (.int .i64 da) := VO.cell 1
        have e2 : y10.w.cell? ⟨O, 2, none⟩ = some (.int .i64 0) := VO.cell 2
        have e3 : y10.w.cell? ⟨O, 3, none⟩ = some (.int .i64 0) := VO.cell 3
        have e4 : y10.w.cell? ⟨O, 4, none⟩ = some (.int .i64 N) := VO.cell 4
        have e5 : y10.w.cell? ⟨O, 5, none⟩ = some (.int .i64 3) := VO.cell 5
        have u0 : y10.w.cell? ⟨P, 0, none⟩ = some (.slice op np cp) := VP.cell 0
        have u1 : y10.w.cell? ⟨P, 1, none⟩ = some (.int .i64 pa) := VP.cell 1
        have u2 : y10.w.cell? ⟨P, 2, none⟩ = some (.int .i64 pb) := VP.cell 2
        have u3 : y10.w.cell? ⟨P, 3, none⟩ = some (.int .i64 pc) := VP.cell 3
        have u4 : y10.w.cell? ⟨P, 4, none⟩ = some (.int .i64 pd) := VP.cell 4
        have u5 : y10.w.cell? ⟨P, 5, none⟩ = some (.int .i64 3) := VP.cell 5
        go_wp2_with fail
        refine HE2.mono ?_
        rintro e w11 ⟨⟨oq, nq, kq, rfl, hDn⟩, Bn⟩
        have Jn := st.out.alloc (st.out _ _ y10.is Bn) (.cells #[.slice oq nq kq, .int .i64 0, .int .i64 0, .int .i64 0, .int .i64 0, .int .i64 0] 24)
        have VQ := Vals.new w11 24 #[.slice oq nq kq, .int .i64 0, .int .i64 0, .int .i64 0, .int .i64 0, .int .i64 0]
        have hQ := hDn.below (below_alloc w11 (.cells #[.slice oq nq kq, .int .i64 0, .int .i64 0, .int .i64 0, .int .i64 0, .int .i64 0] 24)) (Nat.le_refl _)
        clear HE2 hDn Bn VO VP hP e0 e1 e2 e3 e4 e5 u0 u1 u2 u3 u4 u5 y10
        go_upto_region 22 with fail
        generalize w11.heap.size = Q at *
        generalize w11.alloc (.cells #[.slice oq nq kq, .int .i64 0, .int .i64 0, .int .i64 0, .int .i64 0, .int .i64 0] 24) = Wn at *
        obtain ⟨y12, rfl⟩ : ∃ x : Cls J, Wn = x.w := ⟨⟨_, Jn⟩, rfl⟩
        clear Jn
        go_wp2_with fail
        refine (alive_any _).mono ?_
        rintro e wa ⟨rfl, Ba⟩
        have HSm := refSameD_any oq nq kq none 0 0 zD wa (hQ.below Ba (Nat.le_refl _)).ls (Ls.nil _ _ _) (by have := hQ.b; omega)
        dsimp only [aggD, dV] at HSm
        have VA := VQ.keep Ba (Nat.le_refl _)
        have v0 : wa.cell? ⟨Q, 0, none⟩ = some (.slice oq nq kq) := VA.cell 0
        have v1 : wa.cell? ⟨Q, 1, none⟩ = some (.int .i64 0) := VA.cell 1
        have v2 : wa.cell? ⟨Q, 2, none⟩ = some (.int .i64 0) := VA.cell 2
        have v3 : wa.cell? ⟨Q, 3, none⟩ = some (.int .i64 0) := VA.cell 3
        have v4 : wa.cell? ⟨Q, 4, none⟩ = some (.int .i64 0) := VA.cell 4
        have v5 : wa.cell? ⟨Q, 5, none⟩ = some (.int .i64 0) := VA.cell 5
        obtain ⟨ya, rfl⟩ : ∃ x : Cls J, wa = x.w := ⟨⟨_, st.out _ _ y12.is Ba⟩, rfl⟩
        clear VA VQ hQ
        go_wp2_with fail
        refine HSm.mono ?_
        rintro e wb ⟨rfl, Bb⟩
        go_wp2_with fail
        go_ret
        exact ⟨rfl, by rw [hA]; exact (gB.out _ (st.out _ _ ya.is Bb)).2⟩
  · have e5 := newF_not he
    generalize newF (rs, ts, cq, ct) l N = r at *
    obtain ⟨d, e1⟩ := r
    try dsimp only at he e5
    subst e5
    have hne : (e1 != 0) = true := by simp [he]
    dsimp only [aggD, dV] at HN
    go_wp2_with fail
    refine HN.mono ?_
    rintro e w5 ⟨⟨og, ng, cg, rfl, hDn⟩, Bn⟩
    have Jn := st.out.alloc (st.out _ _ x0.is Bn) (.cells #[.slice og ng cg, .int .i64 0, .int .i64 0, .int .i64 0, .int .i64 0, .int .i64 0] 24)
    have VE := Vals.new w5 24 #[.slice og ng cg, .int .i64 0, .int .i64 0, .int .i64 0, .int .i64 0, .int .i64 0]
    have hD := hDn.below (below_alloc w5 (.cells #[.slice og ng cg, .int .i64 0, .int .i64 0, .int .i64 0, .int .i64 0, .int .i64 0] 24)) (Nat.le_refl _)
    clear HN hDn Bn 
    go_upto_region 4 with fail
    generalize w5.heap.size = E at *
    generalize w5.alloc (.cells #[.slice og ng cg, .int .i64 0, .int .i64 0, .int .i64 0, .int .i64 0, .int .i64 0] 24) = Wn at *
    obtain ⟨x6, rfl⟩ : ∃ x : Cls J, Wn = x.w := ⟨⟨_, Jn⟩, rfl⟩
    clear Jn
    go_wp2_with fail
    refine (alive_any _).mono ?_
    rintro e wa ⟨rfl, Ba⟩
    have HSm := refSameD_any og ng cg none 0 0 zD wa (hD.below Ba (Nat.le_refl _)).ls (Ls.nil _ _ _) (by have := hD.b; omega)
    dsimp only [aggD, dV] at HSm
    have VA := VE.keep Ba (Nat.le_refl _)
    have v0 : wa.cell? ⟨E, 0, none⟩ = some (.slice og ng cg) := VA.cell 0
    have v1 : wa.cell? ⟨E, 1, none⟩ = some (.int .i64 0) := VA.cell 1
    have v2 : wa.cell? ⟨E, 2, none⟩ = some (.int .i64 0) := VA.cell 2
    have v3 : wa.cell? ⟨E, 3, none⟩ = some (.int .i64 0) := VA.cell 3
    have v4 : wa.cell? ⟨E, 4, none⟩ = some (.int .i64 0) := VA.cell 4
    have v5 : wa.cell? ⟨E, 5, none⟩ = some (.int .i64 0) := VA.cell 5
    obtain ⟨ya, rfl⟩ : ∃ x : Cls J, wa = x.w := ⟨⟨_, st.out _ _ x6.is Ba⟩, rfl⟩
    clear VA VE hD
    go_wp2_with fail
    refine HSm.mono ?_
    rintro e wb ⟨rfl, Bb⟩
    go_wp2_with fail
    go_ret
    exact ⟨rfl, by rw [hA]; exact (gB.out _ (st.out _ _ ya.is Bb)).2⟩
end Go.Proofs.Ytaiacohnhhicpaa
