/-
  The law's walk: a duty that is never taken is tried at each receiver of its chain as often as that one's Tries, in order, round and round.
-/
import Derived.Test.YtaiacohnhhicpaaDutP
import Derived.Test.YtaiacohnhhicpaaDutR
import Derived.Test.YtaiacohnhhicpaaLawA
import Derived.Test.YtaiacohnhhicpaaChnN
namespace Go.Proofs.Ytaiacohnhhicpaa
open Go.RowKit Go.Shelf
set_option linter.unusedVariables false

theorem Stable.cell (p : Addr) (v : Value) : Stable (fun w => w.cell? p = some v) := fun _ _ h hB => keepR hB h
theorem Stable.ns (oa : Option Addr) (n cap : Nat) (l : List Int) : Stable (fun w => Ns w oa n cap l) := fun _ _ h hB => h.below hB (Nat.le_refl _)
theorem own_six {w : World} {base : Nat} {e T : TypeId} {size : Nat} {v : Value} {n : Nat} {xs : List Value} (h : w.ownsRow base e size v n xs) {A : Nat} {x0 x1 x2 x3 x4 x5 : Value} (hV : Vals w A T #[x0, x1, x2, x3, x4, x5]) (hne : e ≠ T) (y0 y1 y2 y3 y4 y5 : Value) :
    ((((((w.setCell ⟨A, 0, none⟩ y0).setCell ⟨A, 1, none⟩ y1).setCell ⟨A, 2, none⟩ y2).setCell ⟨A, 3, none⟩ y3).setCell ⟨A, 4, none⟩ y4).setCell ⟨A, 5, none⟩ y5).ownsRow base e size v n xs :=
  own_setT (own_setT (own_setT (own_setT (own_setT (own_setT h hV hne 0 y0) (hV.set 0 y0) hne 1 y1) ((hV.set 0 y0).set 1 y1) hne 2 y2) (((hV.set 0 y0).set 1 y1).set 2 y2) hne 3 y3) ((((hV.set 0 y0).set 1 y1).set 2 y2).set 3 y3) hne 4 y4) (((((hV.set 0 y0).set 1 y1).set 2 y2).set 3 y3).set 4 y4) hne 5 y5
theorem nCells_append (a b : List Int) : nCells (a ++ b) = nCells a ++ nCells b := by unfold nCells; rw [List.map_append]
theorem nCells_one (l : List Int) : ∀ u ∈ nCells l, u.oneCell' = true := by
  intro u hu
  unfold nCells at hu
  obtain ⟨x, _, rfl⟩ := List.mem_map.1 hu
  rfl
theorem Ns.news {w : World} {g o n cap : Nat} {l : List Int} (h : Ns w (some ⟨g, o, none⟩) n cap l) : ∀ (j : Nat) (u : Value), (nCells l)[j]? = some u → w.cell? ((⟨g, o, none⟩ : Addr).add j) = some u := by
  intro j u hj
  have hlt : j < l.length := by
    have := (List.getElem?_eq_some_iff.1 hj).1
    rwa [nCells_length] at this
  obtain ⟨g', o', e, hc⟩ := h.cell j (by have := h.len; omega)
  cases e
  rw [nCells_at l j hlt] at hj
  cases hj
  rw [show (⟨g, o, none⟩ : Addr).add j = ⟨g, o + j, none⟩ by unfold Addr.add; split <;> simp_all]
  exact hc
set_option maxRecDepth 100000 in
set_option maxHeartbeats 6400000 in
theorem chain_walk (o1 : Option Addr) (n1 c1 : Nat) (o2 : Option Addr) (n2 c2 : Nat) (c : CfgL) (oa : Option Addr) (n ca : Nat) (l : List L2) (now draw : Int) (w : World) (hC : CfgAt w o1 n1 c1 o2 n2 c2 c) (hL : Ls w oa n ca l) :
    Calls Try.prog 4 #[aggC o1 n1 c1 o2 n2 c2 c, .slice oa n ca, .int .i64 now, .int .i64 draw] w fun e w' => e = .returned (.bool true) ∧ Below w.heap.size w w' := by
  have B1 := below_alloc w (.cells (cfgV (.slice o1 n1 c1) (.slice o2 n2 c2) c.2.2.1 c.2.2.2) 33)
  have V1 := Vals.new w 33 (cfgV (.slice o1 n1 c1) (.slice o2 n2 c2) c.2.2.1 c.2.2.2)
  have lc := hC.below B1 (Nat.le_refl _)
  have ll := hL.below B1 (Nat.le_refl _)
  obtain ⟨rs, ts, cq, ct⟩ := c
  dsimp only [aggC] at *
  go_enter Try.func4, Try.ntmps4
  go_upto_region 1 with fail
  have hW := B1.size
  generalize w.alloc (.cells (cfgV (.slice o1 n1 c1) (.slice o2 n2 c2) cq ct) 33) = W at *
  generalize hA : w.heap.size = A at *
  have HF := few_any o1 n1 c1 o2 n2 c2 (rs, ts, cq, ct) W lc.rs.room lc.qs.room
  have m0 : W.cell? ⟨A, 0, none⟩ = some (.slice o1 n1 c1) := V1.cell 0
  have m1 : W.cell? ⟨A, 1, none⟩ = some (.slice o2 n2 c2) := V1.cell 1
  have m2 : W.cell? ⟨A, 2, none⟩ = some (.int .i64 cq) := V1.cell 2
  have m3 : W.cell? ⟨A, 3, none⟩ = some (.int .i64 ct) := V1.cell 3
  go_wp2_with fail
  refine HF.mono ?_
  rintro e w2 ⟨rfl, B2⟩
  have V2 := V1.keep B2 (Nat.le_refl _)
  have lc2 := (lc.below B2 (Nat.le_refl _))
  have ll2 := (ll.below B2 (Nat.le_refl _))
  have B3 := B1.trans (B2.mono hW)
  have hW2 := Nat.le_trans hW B2.size
  clear m0 m1 m2 m3 HF V1 lc ll B1 B2 hW
  have m0 : w2.cell? ⟨A, 0, none⟩ = some (.slice o1 n1 c1) := V2.cell 0
  have m1 : w2.cell? ⟨A, 1, none⟩ = some (.slice o2 n2 c2) := V2.cell 1
  have m2 : w2.cell? ⟨A, 2, none⟩ = some (.int .i64 cq) := V2.cell 2
  have m3 : w2.cell? ⟨A, 3, none⟩ = some (.int .i64 ct) := V2.cell 3
  have f0 := V2.free 0
  have f1 := V2.free 1
  have f2 := V2.free 2
  have f3 := V2.free 3
  go_wp2_with fail
  refine (some_any oa n ca l w2 ll2).mono ?_
  rintro e w3 ⟨rfl, rfl⟩
  have V4 := V2.four (.slice o1 (min n1 6) c1) (.slice o2 (min n2 6) c2) (.int .i64 cq) (.int .i64 ct)
  have B4 := below_four B3 (Nat.le_refl A) (.slice o1 (min n1 6) c1) (.slice o2 (min n2 6) c2) (.int .i64 cq) (.int .i64 ct)
  have hW4 : A ≤ ((((w2.setCell ⟨A, 0, none⟩ (.slice o1 (min n1 6) c1)).setCell ⟨A, 1, none⟩ (.slice o2 (min n2 6) c2)).setCell ⟨A, 2, none⟩ (.int .i64 cq)).setCell ⟨A, 3, none⟩ (.int .i64 ct)).heap.size := by simpa using hW2
  go_upto_region 2 with fail
  clear m0 m1 m2 m3 f0 f1 f2 f3 V2 B3 hW2 lc2 ll2
  dsimp only [fewC] at *
  generalize (((w2.setCell ⟨A, 0, none⟩ (.slice o1 (min n1 6) c1)).setCell ⟨A, 1, none⟩ (.slice o2 (min n2 6) c2)).setCell ⟨A, 2, none⟩ (.int .i64 cq)).setCell ⟨A, 3, none⟩ (.int .i64 ct) = W0 at *
  have lc := (hC.below B4 (Nat.le_of_eq hA)).few
  have ll := Ls.some (hL.below B4 (Nat.le_of_eq hA))
  have hn5 := Nat.min_le_right n 5
  clear hC hL
  dsimp only [fewC] at *
  generalize l.take 5 = l at *
  generalize rs.take 6 = rs at *
  generalize ts.take 6 = ts at *
  generalize min n 5 = n at *
  generalize min n1 6 = n1 at *
  generalize min n2 6 = n2 at *
  obtain ⟨J, hJ⟩ : ∃ J : World → Prop, J = From W0.heap.size W0 := ⟨_, rfl⟩
  have gC : Hid (∀ wx, J wx → Vals wx A 33 (cfgV (.slice o1 n1 c1) (.slice o2 n2 c2) cq ct) ∧ CfgAt wx o1 n1 c1 o2 n2 c2 (rs, ts, cq, ct)) := fun wx h => by rw [hJ] at h; exact ⟨V4.keep h.2 (Nat.le_refl _), lc.below h.2 (Nat.le_refl _)⟩
  have gB : Hid (∀ wx, J wx → A ≤ wx.heap.size ∧ Below A w wx) := fun wx h => by rw [hJ] at h; exact ⟨Nat.le_trans hW4 h.1, B4.trans (h.2.mono hW4)⟩
  have gS : Hid (∀ wx, J wx → W0.heap.size ≤ wx.heap.size) := fun wx h => by rw [hJ] at h; exact h.1
  have JS : Hid (∀ wx E (y0 y1 y2 y3 y4 y5 : Value), J wx → W0.heap.size ≤ E → J ((((((wx.setCell ⟨E, 0, none⟩ y0).setCell ⟨E, 1, none⟩ y1).setCell ⟨E, 2, none⟩ y2).setCell ⟨E, 3, none⟩ y3).setCell ⟨E, 4, none⟩ y4).setCell ⟨E, 5, none⟩ y5)) := fun wx E y0 y1 y2 y3 y4 y5 h hE => by rw [hJ] at h ⊢; exact h.six hE y0 y1 y2 y3 y4 y5
  have st : Hid (Stable J) := by show Stable J; rw [hJ]; exact Stable.from _ _
  have gX : Hid (∀ I : World → Prop, Stable I → I W0 → ∀ wx, J wx → I wx) := fun I hI h wx hx => by rw [hJ] at hx; exact hI _ _ h hx.2
  have hJ0 : J W0 := by rw [hJ]; exact ⟨Nat.le_refl _, Below.refl _ _⟩
  clear hJ V4 lc B4 hW4
  generalize W0.heap.size = S at *
  obtain ⟨x0, rfl⟩ : ∃ x : Cls J, W0 = x.w := ⟨⟨_, hJ0⟩, rfl⟩
  clear hJ0
  have p0 : ∀ x : Cls J, x.w.cell? ⟨A, 0, none⟩ = some (.slice o1 n1 c1) := fun x => (gC.out _ x.is).1.cell 0
  have p1 : ∀ x : Cls J, x.w.cell? ⟨A, 1, none⟩ = some (.slice o2 n2 c2) := fun x => (gC.out _ x.is).1.cell 1
  have p2 : ∀ x : Cls J, x.w.cell? ⟨A, 2, none⟩ = some (.int .i64 cq) := fun x => (gC.out _ x.is).1.cell 2
  have p3 : ∀ x : Cls J, x.w.cell? ⟨A, 3, none⟩ = some (.int .i64 ct) := fun x => (gC.out _ x.is).1.cell 3
  obtain ⟨N0, N1⟩ := wrap_cut now 274877906944 (by decide) (by decide)
  go_upto_region 3 with fail
  generalize wrap64 ((IntKind.u64.wrap now).tmod 274877906944) = N at *
  have T0 : timeB N = true := (time_iff _).2 ⟨by omega, by omega⟩
  have llJ : Hid (∀ wx, J wx → Ls wx oa n ca l) := gX.out _ (Stable.lies _ _ _ _) ll
  have HN := new_any o1 n1 c1 o2 n2 c2 (rs, ts, cq, ct) oa n ca l N x0.w (gC.out _ x0.is).2 ll hn5
  have hSx := gS.out _ x0.is
  unfold NewOut at HN
  by_cases he : (newF (rs, ts, cq, ct) l N).2 = 0
  · obtain ⟨hcf, _, _, hR0, e5⟩ := newF_ok he
    have H1 := Lib.hid (new_with he)
    rw [e5] at HN
    clear e5 he
    generalize rotF (rs, ts, cq, ct) l = R at *
    dsimp only [aggD, dV] at HN
    go_wp2_with fail
    refine HN.mono ?_
    rintro e w5 ⟨⟨og, ng, cg, rfl, hD⟩, B5⟩
    have J6 := st.out.alloc (st.out _ _ x0.is B5) (.cells #[.slice og ng cg, .int .i64 R, .int .i64 0, .int .i64 0, .int .i64 N, .int .i64 1] 24)
    have VE := Vals.new w5 24 #[.slice og ng cg, .int .i64 R, .int .i64 0, .int .i64 0, .int .i64 N, .int .i64 1]
    have hD6 := hD.below (below_alloc w5 (.cells #[.slice og ng cg, .int .i64 R, .int .i64 0, .int .i64 0, .int .i64 N, .int .i64 1] 24)) (Nat.le_refl _)
    have hSE : S ≤ w5.heap.size := Nat.le_trans hSx B5.size
    clear HN hD B5 hSx
    go_upto_region 4 with fail
    generalize w5.heap.size = E at *
    generalize w5.alloc (.cells #[.slice og ng cg, .int .i64 R, .int .i64 0, .int .i64 0, .int .i64 N, .int .i64 1] 24) = W6 at *
    obtain ⟨x6, rfl⟩ : ∃ x6 : Cls J, W6 = x6.w := ⟨⟨_, J6⟩, rfl⟩
    clear J6
    have e0 : x6.w.cell? ⟨E, 0, none⟩ = some (.slice og ng cg) := VE.cell 0
    have e1 : x6.w.cell? ⟨E, 1, none⟩ = some (.int .i64 R) := VE.cell 1
    have e2 : x6.w.cell? ⟨E, 2, none⟩ = some (.int .i64 0) := VE.cell 2
    have e3 : x6.w.cell? ⟨E, 3, none⟩ = some (.int .i64 0) := VE.cell 3
    have e4 : x6.w.cell? ⟨E, 4, none⟩ = some (.int .i64 N) := VE.cell 4
    have e5 : x6.w.cell? ⟨E, 5, none⟩ = some (.int .i64 1) := VE.cell 5
    obtain ⟨Rk, rfl⟩ : ∃ Rk : Nat, R = (Rk : Int) := ⟨R.toNat, by omega⟩
    have hRk : Rk < ts.length := by
      have := (withB_iff _ _).1 ((dutyR_iff _ _).1 H1.out).2
      have h := this.2.1
      unfold hasP at h
      simp only [Bool.and_eq_true, decide_eq_true_eq] at h
      have h2 := h.2.1
      try dsimp only at h2
      omega
    have hQ := (gC.out _ x0.is).2.qs
    have hRn : (Rk : Int) < (n2 : Int) := by have := hQ.len; (try dsimp only at this); omega
    obtain ⟨g8, o8, pa, m, k1, pb, m2, k2, rfl, q0, q1, hCh0, _⟩ := hQ.cell Rk (by omega)
    clear hQ
    try dsimp only at hCh0
    have hrp := rteR_parts ((cfgR_parts hcf).1 Rk hRk)
    have hcl := hCh0.len
    have hcr := hCh0.room
    have hm1 : 1 ≤ m := by have := hrp.2.1; (try dsimp only at this); omega
    have hm4 : m ≤ 4 := by have := hrp.2.2.1; (try dsimp only at this); omega
    obtain ⟨g9, o9, rfl, _⟩ := hCh0.cell 0 (by omega)
    have gQ : ∀ x : Cls J, x.w.cell? ⟨g8, o8 + Rk * 2, none⟩ = some (.slice (some ⟨g9, o9, none⟩) m k1) := fun x => gX.out _ (Stable.cell _ _) q0 _ x.is
    have gN : Hid (∀ wx, J wx → Ns wx (some ⟨g9, o9, none⟩) m k1 (ts.getD Rk zT).1) := gX.out _ (Stable.ns _ _ _ _) hCh0
    clear hrp q0 q1 hCh0 gX
    go_upto_region 9 with fail
    clear e1 e2 e3 e4 e5 gQ hRn
    have hS6 := gS.out _ x6.is
    generalize hCH : (ts.getD Rk zT).1 = ch at *
    obtain ⟨i0, hi, hy0, hy1, hy2⟩ := info_parts infoInt
    have hBa := below_alloc x6.w (.cells #[] 3)
    have own0 : (x6.w.alloc (.cells #[] 3)).ownsRow x6.w.heap.size 3 1 (.slice (some ⟨x6.w.heap.size, 0, none⟩) 0 0) 0 (nCells []) := ⟨rfl, .inr ⟨x6.w.heap.size, 0, #[], rfl, Nat.le_refl _, heap_alloc_new x6.w _, Nat.le_refl _, by unfold maxLen; omega, rfl, rfl⟩⟩
    have N7 : Ns (x6.w.alloc (.cells #[] 3)) (some ⟨g9, o9, none⟩) m k1 ch := gN.out _ (st.out.alloc x6.is _)
    have hlenN : (nCells ch).length = m * 1 := by rw [nCells_length]; omega
    have honeN := nCells_one ch
    have hz7 : x6.w.heap.size ≤ (x6.w.alloc (.cells #[] 3)).heap.size := hBa.size
    go_wp2_with (first
      | (at_builtin; refine wpList_append_own _ rfl _ _ 40 rfl x6.w.heap.size 3 i0 _ 1 8 Try.underlying40 hi hy0 hy1 hy2 rfl (by decide) _ _ _ rfl own0 ⟨g9, o9, none⟩ m k1 (nCells ch) rfl hlenN N7.news honeN (by unfold maxLen; omega) (by omega) hz7 ?_; intro v1 w8 own1 hg1 _; have B8 := hBa.grown hg1 hz7 (fun r e => (own0.lt r e).1); have N8 := gN.out _ (st.out _ _ x6.is B8))
      | (at_builtin; refine wpList_append_own _ rfl _ _ 40 rfl x6.w.heap.size 3 i0 _ 1 8 Try.underlying40 hi hy0 hy1 hy2 rfl (by decide) _ _ _ rfl own1 ⟨g9, o9, none⟩ m k1 (nCells ch) rfl hlenN N8.news honeN (by unfold maxLen; omega) (by omega) B8.size ?_; intro v2 w9 own2 hg2 _; have B9 := B8.grown hg2 B8.size (fun r e => (own1.lt r e).1); rw [← nCells_append, ← nCells_append, List.nil_append, Nat.zero_add] at own2; obtain ⟨orw, crw, rfl, -⟩ := Ns.of_own (by rw [List.length_append]; omega) own2))
    have hD9 := hD6.below B9 (Nat.le_refl _)
    have VE9 := VE.keep B9 (Nat.le_refl _)
    obtain ⟨x9, rfl⟩ : ∃ x : Cls J, w9 = x.w := ⟨⟨_, st.out _ _ x6.is B9⟩, rfl⟩
    have ll' : Hid (∀ wx, J wx → Ls wx oa n ca l) := llJ
    clear own0 own1 hg1 hg2 B8 B9 N7 N8 hBa hz7 hlenN honeN hi hy0 hy1 hy2 hD6 VE hS6 e0
    generalize x6.w.heap.size = B6 at *
    clear x6
    have HDR := Lib.hid H1.out
    go_loopw [90] (fun s90 wr => ∃ (i p : Nat), i ≤ m + m ∧ s90 = .int .i64 i ∧ Hid (p = i % m) ∧ J wr ∧ wr.ownsRow B6 3 1 (.slice orw (m + m) crw) (m + m) (nCells (ch ++ ch)) ∧ ∃ (du : Int) (og : Option Addr) (ng cg : Nat), Vals wr E 24 (dV (.slice og ng cg) ⟨l, (Rk : Int), (p : Int), 0, du, 1⟩) ∧ DAt wr og ng cg ⟨l, (Rk : Int), (p : Int), 0, du, 1⟩ ∧ Hid (dutyR (rs, ts, cq, ct) ⟨l, (Rk : Int), (p : Int), 0, du, 1⟩ = true)) (fun s90 _ => m + m - (intOf s90).toNat)
    case atStart => exact ⟨0, 0, Nat.zero_le _, rfl, (Nat.zero_mod m).symm, x9.is, own2, N, og, ng, cg, VE9, hD9, HDR.out⟩
    case round =>
      obtain ⟨i, p, hil, rfl, HP, hJw, own, du, oh, nh, ch', VE, hD, HD⟩ := hrel
      obtain ⟨y, rfl⟩ : ∃ y : Cls J, wr = y.w := ⟨⟨_, hJw⟩, rfl⟩
      clear hJw VE9 hD9 own2 x9 HDR H1
      dsimp only [dV] at VE
      by_cases hlt : i < m + m
      · have hpm : p < m := by rw [HP.out]; exact Nat.mod_lt _ (by omega)
        have hhas : hasP (rs, ts, cq, ct) (Rk : Int) (p : Int) = true := ((withB_iff _ _).1 ((dutyR_iff _ _).1 HD.out).2).2.1
        obtain ⟨k, hk, ek, er, tr1, tr2, hB⟩ := chn_rcv hcf hhas
        have hE2 : (ts.getD Rk zT).1.getD p 0 = ch.getD p 0 := by rw [hCH]
        dsimp only at ek hk hE2 er tr1 tr2 hB
        rw [hE2] at ek
        have hrow : (ch ++ ch).getD i 0 = (k : Int) := by rw [twice_at ch i (by omega), hcl, ← HP.out, ek]
        obtain ⟨orw', crw', e1, NS⟩ := Ns.of_own (by rw [List.length_append]; omega) own
        cases e1
        obtain ⟨gr, orr, rfl, r0⟩ := NS.cell i hlt
        rw [hrow] at r0
        have hCN := gN.out _ y.is
        obtain ⟨gc, oc, e2, s0⟩ := hCN.cell p hpm
        cases e2
        rw [ek] at s0
        have gK : Hid (∀ x : Cls J, x.w.cell? ⟨g9, o9 + p, none⟩ = some (.int .i64 (k : Int))) := fun x => by
          obtain ⟨_, _, e3, h3⟩ := (gN.out _ x.is).cell p hpm
          cases e3
          rw [ek] at h3
          exact h3
        have hRS := (gC.out _ y.is).2.rs
        have hkn : k < n1 := by have := hRS.len; (try dsimp only at this); omega
        have hnr := hRS.room
        obtain ⟨gq, oq, rfl, a0, a1, a2, a3, a4, a5, a6, a7, a8⟩ := hRS.nine k hkn
        have hER : rcvD (rs, ts, cq, ct) (Rk : Int) (p : Int) = rs.getD k zR := er
        clear NS hCN hRS hrow hE2 hhas er hk s0
        dsimp only at a0 a1 a2 a3 a4 a5 a6 a7 a8
        generalize rs.getD k zR = rr at *
        obtain ⟨nm, ba, tp, ji, tr', fa, op, bu, ev⟩ := rr
        dsimp only at a0 a1 a2 a3 a4 a5 a6 a7 a8 tr1 tr2 hB
        obtain ⟨tr, rfl⟩ : ∃ tr : Nat, tr' = (tr : Int) := ⟨tr'.toNat, by omega⟩
        obtain ⟨u, hu, eu, hun, hu12⟩ := minN_of tr 12
        change min (tr : Int) 12 = (u : Int) at eu
        have HU : Hid (u = min tr 12) := hu
        have hu1 : 1 ≤ u := by omega
        clear hu
        have hEy := VE.lt
        have VR := Vals.new y.w 47 #[.string nm, .int .i64 ba, .int .i64 tp, .int .i64 ji, .int .i64 (tr : Int), .int .i64 fa, .int .i64 op, .int .i64 bu, .int .i64 ev]
        have By := below_alloc y.w (.cells #[.string nm, .int .i64 ba, .int .i64 tp, .int .i64 ji, .int .i64 (tr : Int), .int .i64 fa, .int .i64 op, .int .i64 bu, .int .i64 ev] 47)
        have VEy := VE.keep By (Nat.le_refl _)
        have hDy := hD.below By (Nat.le_refl _)
        have owny := own_keep own By
        have Jy := st.out _ _ y.is By
        go_upto_region 13 with fail
        clear a0 a1 a2 a3 a4 a5 a6 a7 a8 r0 VE hD own By
        have hRE : E < y.w.heap.size := hEy
        clear hEy
        generalize y.w.heap.size = RB at *
        generalize y.w.alloc (.cells #[.string nm, .int .i64 ba, .int .i64 tp, .int .i64 ji, .int .i64 (tr : Int), .int .i64 fa, .int .i64 op, .int .i64 bu, .int .i64 ev] 47) = W13 at *
        obtain ⟨y3, rfl⟩ : ∃ x : Cls J, W13 = x.w := ⟨⟨_, Jy⟩, rfl⟩
        clear Jy y
        have b4 : y3.w.cell? ⟨RB, 4, none⟩ = some (.int .i64 (tr : Int)) := VR.cell 4
        go_wp2_with fail
        have hdec : decide ((i : Int) < (m : Int) + (m : Int)) = true := decide_eq_true (by omega)
        simp only [hdec]
        clear hdec
        go_loopw [102] (fun s102 wr => ∃ j : Nat, j ≤ u ∧ s102 = .int .i64 j ∧ J wr ∧ Vals wr RB 47 #[.string nm, .int .i64 ba, .int .i64 tp, .int .i64 ji, .int .i64 (tr : Int), .int .i64 fa, .int .i64 op, .int .i64 bu, .int .i64 ev] ∧ wr.ownsRow B6 3 1 (.slice (some ⟨gr, orr, none⟩) (m + m) crw) (m + m) (nCells (ch ++ ch)) ∧ Hid (j = 0 ∨ tr ≤ 12) ∧ ∃ (d : D6) (og : Option Addr) (ng cg : Nat), Vals wr E 24 (dV (.slice og ng cg) d) ∧ DAt wr og ng cg d ∧ Hid (dutyR (rs, ts, cq, ct) d = true ∧ d.ls = l ∧ d.rt = (Rk : Int) ∧ d.st = 1 ∧ (j < tr → d.pl = (p : Int) ∧ d.tr = (j : Int)) ∧ (j = tr → d.pl = nextP (rs, ts, cq, ct) (Rk : Int) (p : Int) ∧ d.tr = 0))) (fun s102 _ => u - (intOf s102).toNat)
        case atStart => exact ⟨0, Nat.zero_le _, rfl, y3.is, VR, owny, .inl rfl, ⟨l, (Rk : Int), (p : Int), 0, du, 1⟩, oh, nh, ch', VEy, hDy, HD.out, rfl, rfl, rfl, fun _ => ⟨rfl, rfl⟩, fun e => absurd e (by omega)⟩
        case round =>
          obtain ⟨j, hj, rfl, hJz, VR2, own, HT, d, oi, ni, ci, VE, hD, HDD⟩ := hrel
          obtain ⟨z, rfl⟩ : ∃ z : Cls J, wr = z.w := ⟨⟨_, hJz⟩, rfl⟩
          clear hJz owny VEy hDy VR b4 y3 HD
          by_cases hlt2 : j < u
          · obtain ⟨hd, h1, h2, h3, h4, _⟩ := HDD.out
            obtain ⟨h5, h6⟩ := h4 (by omega)
            obtain ⟨dl, da, db, dc, dd, de⟩ := d
            dsimp only at h1 h2 h3 h5 h6
            subst dl da db dc de
            have hjt : Hid (j < tr) := by show j < tr; omega
            obtain ⟨q1, q2, q3, q4, q5, q6, q7, t0, t1, s0, s1, j0, j1⟩ := chn_step hd draw
            have qm := chn_more (c := (rs, ts, cq, ct)) (d := ⟨l, (Rk : Int), (p : Int), (j : Int), dd, 1⟩) dd draw
            have qn := chn_next (c := (rs, ts, cq, ct)) (d := ⟨l, (Rk : Int), (p : Int), (j : Int), dd, 1⟩) dd draw
            have HRt := dright_any (some ⟨gq, oq, none⟩) n1 c1 (some ⟨g8, o8, none⟩) n2 c2 (rs, ts, cq, ct) oi ni ci ⟨l, (Rk : Int), (p : Int), (j : Int), dd, 1⟩ z.w (gC.out _ z.is).2 hD
            rw [hd] at HRt
            have HSn := fun (x : Cls J) (h : DAt x.w oi ni ci ⟨l, (Rk : Int), (p : Int), (j : Int), dd, 1⟩) => sent_any (some ⟨gq, oq, none⟩) n1 c1 (some ⟨g8, o8, none⟩) n2 c2 (rs, ts, cq, ct) oi ni ci ⟨l, (Rk : Int), (p : Int), (j : Int), dd, 1⟩ dd false draw x.w (gC.out _ x.is).2 h
            dsimp only at q1 q2 q3 q4 q5 q6 q7 t0 t1 s0 s1 j0 j1 qm qn
            rw [q1] at HSn
            rw [hER] at q6 q7 s0 s1 j0 j1 qm qn
            dsimp only at q6 q7 s0 s1 j0 j1 qm qn
            generalize againD (rs, ts, cq, ct) ⟨l, (Rk : Int), (p : Int), (j : Int), dd, 1⟩ dd draw = nx at *
            obtain ⟨nl, na, nb, nc, nd, ne⟩ := nx
            dsimp only at q3 q4 q5 q6 q7 qm qn
            subst nl na ne
            have HST := fun w => Bo.step_is ba tp ji (j : Int) (Bo.stepN ba tp (j : Int).toNat) w rfl hB (by omega)
            have HQ2 := Lib.hid q2
            have HN1 : Hid (j + 1 < tr → nb = (p : Int) ∧ nc = ((j + 1 : Nat) : Int)) := fun h => by
              have := qm (by omega)
              exact ⟨this.1, by rw [this.2]; rfl⟩
            have HN2 : Hid (j + 1 = tr → nb = nextP (rs, ts, cq, ct) (Rk : Int) (p : Int) ∧ nc = 0) := fun h => qn (by omega)
            generalize Bo.stepN ba tp (j : Int).toNat = ST at *
            have n6 : ¬ nd < min (dd + ST) 1099511627776 := by omega
            have n7 : ¬ min (dd + ST + ji) 1099511627776 < nd := by omega
            unfold SentOut at HSn
            dsimp only [aggD, dV] at HSn HRt VE
            clear q1 q2 q6 q7 qm qn hd HDD
            have kk := gK.out z
            have e0 : z.w.cell? ⟨E, 0, none⟩ = some (.slice oi ni ci) := VE.cell 0
            have e1 : z.w.cell? ⟨E, 1, none⟩ = some (.int .i64 (Rk : Int)) := VE.cell 1
            have e2 : z.w.cell? ⟨E, 2, none⟩ = some (.int .i64 (p : Int)) := VE.cell 2
            have e3 : z.w.cell? ⟨E, 3, none⟩ = some (.int .i64 (j : Int)) := VE.cell 3
            have e4 : z.w.cell? ⟨E, 4, none⟩ = some (.int .i64 dd) := VE.cell 4
            have e5 : z.w.cell? ⟨E, 5, none⟩ = some (.int .i64 1) := VE.cell 5
            have b1 : z.w.cell? ⟨RB, 1, none⟩ = some (.int .i64 ba) := VR2.cell 1
            have b2 : z.w.cell? ⟨RB, 2, none⟩ = some (.int .i64 tp) := VR2.cell 2
            have b3 : z.w.cell? ⟨RB, 3, none⟩ = some (.int .i64 ji) := VR2.cell 3
            have b4 : z.w.cell? ⟨RB, 4, none⟩ = some (.int .i64 (tr : Int)) := VR2.cell 4
            go_wp2_with fail
            refine HRt.mono ?_
            rintro e wa ⟨rfl, Ba⟩
            replace VE := VE.keep Ba (Nat.le_refl _)
            replace VR2 := VR2.keep Ba (Nat.le_refl _)
            replace own := own_keep own Ba
            replace hD := hD.below Ba (Nat.le_refl _)
            obtain ⟨za, rfl⟩ : ∃ x : Cls J, wa = x.w := ⟨⟨_, st.out _ _ z.is Ba⟩, rfl⟩
            clear HRt Ba e0 e1 e2 e3 e4 e5 b1 b2 b3 b4 kk z
            by_cases h12 : tr ≤ 12
            · have HS1 := HST za.w
              clear HST
              have e0 : za.w.cell? ⟨E, 0, none⟩ = some (.slice oi ni ci) := VE.cell 0
              have e1 : za.w.cell? ⟨E, 1, none⟩ = some (.int .i64 (Rk : Int)) := VE.cell 1
              have e2 : za.w.cell? ⟨E, 2, none⟩ = some (.int .i64 (p : Int)) := VE.cell 2
              have e3 : za.w.cell? ⟨E, 3, none⟩ = some (.int .i64 (j : Int)) := VE.cell 3
              have e4 : za.w.cell? ⟨E, 4, none⟩ = some (.int .i64 dd) := VE.cell 4
              have e5 : za.w.cell? ⟨E, 5, none⟩ = some (.int .i64 1) := VE.cell 5
              have b1 : za.w.cell? ⟨RB, 1, none⟩ = some (.int .i64 ba) := VR2.cell 1
              have b2 : za.w.cell? ⟨RB, 2, none⟩ = some (.int .i64 tp) := VR2.cell 2
              have b3 : za.w.cell? ⟨RB, 3, none⟩ = some (.int .i64 ji) := VR2.cell 3
              have b4 : za.w.cell? ⟨RB, 4, none⟩ = some (.int .i64 (tr : Int)) := VR2.cell 4
              go_wp2_with fail
              refine HS1.mono ?_
              rintro e wb ⟨rfl, Bb⟩
              replace VE := VE.keep Bb (Nat.le_refl _)
              replace VR2 := VR2.keep Bb (Nat.le_refl _)
              replace own := own_keep own Bb
              replace hD := hD.below Bb (Nat.le_refl _)
              obtain ⟨zb, rfl⟩ : ∃ x : Cls J, wb = x.w := ⟨⟨_, st.out _ _ za.is Bb⟩, rfl⟩
              have HSb := HSn zb hD
              clear HSn HS1 Bb e0 e1 e2 e3 e4 e5 b1 b2 b3 b4 hD za
              have e0 : zb.w.cell? ⟨E, 0, none⟩ = some (.slice oi ni ci) := VE.cell 0
              have e1 : zb.w.cell? ⟨E, 1, none⟩ = some (.int .i64 (Rk : Int)) := VE.cell 1
              have e2 : zb.w.cell? ⟨E, 2, none⟩ = some (.int .i64 (p : Int)) := VE.cell 2
              have e3 : zb.w.cell? ⟨E, 3, none⟩ = some (.int .i64 (j : Int)) := VE.cell 3
              have e4 : zb.w.cell? ⟨E, 4, none⟩ = some (.int .i64 dd) := VE.cell 4
              have e5 : zb.w.cell? ⟨E, 5, none⟩ = some (.int .i64 1) := VE.cell 5
              go_wp2_with fail
              refine HSb.mono ?_
              rintro e wc ⟨⟨oj, nj, cj, rfl, hN⟩, Bc⟩
              have Jn := st.out.alloc (st.out _ _ zb.is Bc) (.cells #[.slice oj nj cj, .int .i64 (Rk : Int), .int .i64 nb, .int .i64 nc, .int .i64 nd, .int .i64 1] 24)
              have VN := Vals.new wc 24 #[.slice oj nj cj, .int .i64 (Rk : Int), .int .i64 nb, .int .i64 nc, .int .i64 nd, .int .i64 1]
              have Bal := below_alloc wc (.cells #[.slice oj nj cj, .int .i64 (Rk : Int), .int .i64 nb, .int .i64 nc, .int .i64 nd, .int .i64 1] 24)
              replace VE := (VE.keep Bc (Nat.le_refl _)).alloc (.cells #[.slice oj nj cj, .int .i64 (Rk : Int), .int .i64 nb, .int .i64 nc, .int .i64 nd, .int .i64 1] 24)
              replace VR2 := (VR2.keep Bc (Nat.le_refl _)).alloc (.cells #[.slice oj nj cj, .int .i64 (Rk : Int), .int .i64 nb, .int .i64 nc, .int .i64 nd, .int .i64 1] 24)
              replace own := own_keep (own_keep own Bc) Bal
              replace hN := hN.below Bal (Nat.le_refl _)
              clear HSb Bc Bal e0 e1 e2 e3 e4 e5 zb
              go_upto_region 23 with fail
              generalize wc.heap.size = NB at *
              generalize wc.alloc (.cells #[.slice oj nj cj, .int .i64 (Rk : Int), .int .i64 nb, .int .i64 nc, .int .i64 nd, .int .i64 1] 24) = Wn at *
              obtain ⟨zn, rfl⟩ : ∃ x : Cls J, Wn = x.w := ⟨⟨_, Jn⟩, rfl⟩
              clear Jn
              have HSm := same_any oj nj cj oa n ca l l zn.w hN.ls (ll'.out _ zn.is) (by have := hN.b; omega)
              rw [show sameR l l = true by unfold sameR; simp] at HSm
              have b3 : zn.w.cell? ⟨RB, 3, none⟩ = some (.int .i64 ji) := VR2.cell 3
              have v0 : zn.w.cell? ⟨NB, 0, none⟩ = some (.slice oj nj cj) := VN.cell 0
              have v1 : zn.w.cell? ⟨NB, 1, none⟩ = some (.int .i64 (Rk : Int)) := VN.cell 1
              have v2 : zn.w.cell? ⟨NB, 2, none⟩ = some (.int .i64 nb) := VN.cell 2
              have v3 : zn.w.cell? ⟨NB, 3, none⟩ = some (.int .i64 nc) := VN.cell 3
              have v4 : zn.w.cell? ⟨NB, 4, none⟩ = some (.int .i64 nd) := VN.cell 4
              have v5 : zn.w.cell? ⟨NB, 5, none⟩ = some (.int .i64 1) := VN.cell 5
              go_wp2_with fail
              refine HSm.mono ?_
              rintro e wd ⟨rfl, Bd⟩
              replace VE := VE.keep Bd (Nat.le_refl _)
              replace VR2 := VR2.keep Bd (Nat.le_refl _)
              replace VN := VN.keep Bd (Nat.le_refl _)
              replace own := own_keep own Bd
              replace hN := hN.below Bd (Nat.le_refl _)
              obtain ⟨zd, rfl⟩ : ∃ x : Cls J, wd = x.w := ⟨⟨_, st.out _ _ zn.is Bd⟩, rfl⟩
              clear HSm Bd b3 v0 v1 v2 v3 v4 v5 zn
              have v0 : zd.w.cell? ⟨NB, 0, none⟩ = some (.slice oj nj cj) := VN.cell 0
              have v1 : zd.w.cell? ⟨NB, 1, none⟩ = some (.int .i64 (Rk : Int)) := VN.cell 1
              have v2 : zd.w.cell? ⟨NB, 2, none⟩ = some (.int .i64 nb) := VN.cell 2
              have v3 : zd.w.cell? ⟨NB, 3, none⟩ = some (.int .i64 nc) := VN.cell 3
              have v4 : zd.w.cell? ⟨NB, 4, none⟩ = some (.int .i64 nd) := VN.cell 4
              have v5 : zd.w.cell? ⟨NB, 5, none⟩ = some (.int .i64 1) := VN.cell 5
              have e0 : zd.w.cell? ⟨E, 0, none⟩ = some (.slice oi ni ci) := VE.cell 0
              have e1 : zd.w.cell? ⟨E, 1, none⟩ = some (.int .i64 (Rk : Int)) := VE.cell 1
              have e2 : zd.w.cell? ⟨E, 2, none⟩ = some (.int .i64 (p : Int)) := VE.cell 2
              have e3 : zd.w.cell? ⟨E, 3, none⟩ = some (.int .i64 (j : Int)) := VE.cell 3
              have e4 : zd.w.cell? ⟨E, 4, none⟩ = some (.int .i64 dd) := VE.cell 4
              have e5 : zd.w.cell? ⟨E, 5, none⟩ = some (.int .i64 1) := VE.cell 5
              have f0 := VE.free 0
              have f1 := VE.free 1
              have f2 := VE.free 2
              have f3 := VE.free 3
              have f4 := VE.free 4
              have f5 := VE.free 5
              go_wp2_with fail
              go_roundw
              case rel => exact ⟨j + 1, by omega, by go_num, JS.out _ E _ _ _ _ _ _ zd.is hSE, VR2.six_other (show RB ≠ E by omega) _ _ _ _ _ _, own_six own VE (by decide) _ _ _ _ _ _, .inr h12, ⟨l, (Rk : Int), nb, nc, nd, 1⟩, oj, nj, cj, VE.six _ _ _ _ _ _, ⟨lies_six hN.ls rfl VE oj nj cj _ _ _ _ _, hN.b⟩, HQ2.out, rfl, rfl, rfl, HN1.out, HN2.out⟩
              case measure => simp [intOf]; omega
            · have h12' : (12 : Int) < (tr : Int) := by omega
              clear HSn HST VE own hD
              have b1 : za.w.cell? ⟨RB, 1, none⟩ = some (.int .i64 ba) := VR2.cell 1
              have b2 : za.w.cell? ⟨RB, 2, none⟩ = some (.int .i64 tp) := VR2.cell 2
              have b3 : za.w.cell? ⟨RB, 3, none⟩ = some (.int .i64 ji) := VR2.cell 3
              have b4 : za.w.cell? ⟨RB, 4, none⟩ = some (.int .i64 (tr : Int)) := VR2.cell 4
              go_wp2_with fail
              refine (alive_any _).mono ?_
              rintro e wb ⟨rfl, Bb⟩
              go_wp2_with fail
              go_ret
              exact ⟨rfl, by rw [hA]; exact (gB.out _ (st.out _ _ za.is Bb)).2⟩
          · obtain rfl : j = u := by omega
            obtain ⟨hd, h1, h2, h3, _, h5⟩ := HDD.out
            have ht12 : tr ≤ 12 := by
              rcases HT.out with h | h
              · omega
              · exact h
            have hjt : j = tr := by rw [HU.out]; omega
            obtain ⟨h6, h7⟩ := h5 hjt
            obtain ⟨p2, hp2⟩ : ∃ p2, p2 = (i + 1) % m := ⟨_, rfl⟩
            have hnx := next_round (c := (rs, ts, cq, ct)) (R := Rk) (m := m) (by show (ts.getD Rk zT).1.length = m; rw [hCH]; exact hcl) (by omega) i
            rw [← HP.out, ← hp2] at hnx
            rw [hnx] at h6
            have HP2 := Lib.hid hp2
            obtain ⟨dl, da, db, dc, dd, de⟩ := d
            dsimp only at h1 h2 h3 h6 h7
            subst dl da db dc de
            have HD2 := Lib.hid hd
            clear hd h5 hjt hnx hp2 HDD VR2
            go_wp2_with fail
            go_roundw
            case rel => exact ⟨i + 1, p2, by omega, by go_num, HP2, z.is, own, dd, oi, ni, ci, VE, hD, HD2⟩
            case measure => simp [intOf]; omega
      · obtain rfl : i = m + m := by omega
        obtain rfl : p = 0 := by rw [HP.out, Nat.add_mod_right, Nat.mod_self]
        clear HP own hD HD
        go_wp2_with fail
        refine (alive_any _).mono ?_
        rintro e wb ⟨rfl, Bb⟩
        replace VE := VE.keep Bb (Nat.le_refl _)
        have e2 : wb.cell? ⟨E, 2, none⟩ = some (.int .i64 0) := VE.cell 2
        have e3 : wb.cell? ⟨E, 3, none⟩ = some (.int .i64 0) := VE.cell 3
        go_wp2_with fail
        go_ret
        exact ⟨rfl, by rw [hA]; exact (gB.out _ (st.out _ _ y.is Bb)).2⟩
  · have e5 := newF_not he
    generalize newF (rs, ts, cq, ct) l N = r at *
    obtain ⟨d, e1⟩ := r
    try dsimp only at he e5
    subst e5
    have hne : (e1 != 0) = true := by simp [he]
    dsimp only [aggD, dV] at HN
    go_wp2_with fail
    refine HN.mono ?_
    rintro e w5 ⟨⟨og, ng, cg, rfl, hDn⟩, Bn⟩
    have Jn := st.out.alloc (st.out _ _ x0.is Bn) (.cells #[.slice og ng cg, .int .i64 0, .int .i64 0, .int .i64 0, .int .i64 0, .int .i64 0] 24)
    have VE := Vals.new w5 24 #[.slice og ng cg, .int .i64 0, .int .i64 0, .int .i64 0, .int .i64 0, .int .i64 0]
    have hD := hDn.below (below_alloc w5 (.cells #[.slice og ng cg, .int .i64 0, .int .i64 0, .int .i64 0, .int .i64 0, .int .i64 0] 24)) (Nat.le_refl _)
    clear HN hDn Bn 
    go_upto_region 4 with fail
    generalize w5.heap.size = E at *
    generalize w5.alloc (.cells #[.slice og ng cg, .int .i64 0, .int .i64 0, .int .i64 0, .int .i64 0, .int .i64 0] 24) = Wn at *
    obtain ⟨x6, rfl⟩ : ∃ x : Cls J, Wn = x.w := ⟨⟨_, Jn⟩, rfl⟩
    clear Jn
    go_wp2_with fail
    refine (alive_any _).mono ?_
    rintro e wa ⟨rfl, Ba⟩
    have HSm := refSameD_any og ng cg none 0 0 zD wa (hD.below Ba (Nat.le_refl _)).ls (Ls.nil _ _ _) (by have := hD.b; omega)
    dsimp only [aggD, dV] at HSm
    have VA := VE.keep Ba (Nat.le_refl _)
    have v0 : wa.cell? ⟨E, 0, none⟩ = some (.slice og ng cg) := VA.cell 0
    have v1 : wa.cell? ⟨E, 1, none⟩ = some (.int .i64 0) := VA.cell 1
    have v2 : wa.cell? ⟨E, 2, none⟩ = some (.int .i64 0) := VA.cell 2
    have v3 : wa.cell? ⟨E, 3, none⟩ = some (.int .i64 0) := VA.cell 3
    have v4 : wa.cell? ⟨E, 4, none⟩ = some (.int .i64 0) := VA.cell 4
    have v5 : wa.cell? ⟨E, 5, none⟩ = some (.int .i64 0) := VA.cell 5
    obtain ⟨ya, rfl⟩ : ∃ x : Cls J, wa = x.w := ⟨⟨_, st.out _ _ x6.is Ba⟩, rfl⟩
    clear VA VE hD
    go_wp2_with fail
    refine HSm.mono ?_
    rintro e wb ⟨rfl, Bb⟩
    go_wp2_with fail
    go_ret
    exact ⟨rfl, by rw [hA]; exact (gB.out _ (st.out _ _ ya.is Bb)).2⟩
end Go.Proofs.Ytaiacohnhhicpaa
