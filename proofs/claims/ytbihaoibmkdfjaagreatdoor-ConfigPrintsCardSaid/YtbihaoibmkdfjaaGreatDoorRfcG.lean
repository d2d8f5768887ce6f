/-
  The document's own: a receiver's line.
-/
import Derived.Test.YtbihaoibmkdfjaaGreatDoorRfcF
namespace Go.Proofs.YtbihaoibmkdfjaaGreatDoor
open Go.RowKit Go.Shelf
set_option linter.unusedVariables false

theorem grown_all {w w' : World} (h : Below w.heap.size w w') (row : Option Nat) : w.grownBy w' row := ⟨h.os, h.tape, h.output, h.size, fun k hk _ => h.block k hk⟩
/-- what is told of a receiver's line -/
def AddROut (w w' : World) (base : Nat) (e : Ending) (c : CfgL) (va vb : Value) (rep beat : Int) (ws : List (List UInt8)) : Prop := ∃ (va' : Value) (er : Int), e = .returned (.tuple #[.agg (cfgV va' vb rep beat), .int .i64 er]) ∧
  ((er = 0 ∧ ∃ r, addR c ws = .ok (c.1 ++ [r], c.2) ∧ w'.ownsRow base 52 9 va' (c.1.length + 1) (cellsR (c.1 ++ [r]))) ∨ (er ≠ 0 ∧ addR c ws = .error er ∧ va' = va))
theorem addR_full {c : CfgL} {ws : List (List UInt8)} (h : c.1.length = 4) : addR c ws = .error 2 := by unfold addR; rw [if_pos h]
theorem addR_lack {c : CfgL} {ws : List (List UInt8)} (h : c.1.length ≠ 4) (h1 : ws.length ≠ 10) : addR c ws = .error 12 := by unfold addR; rw [if_neg h, if_pos h1]
theorem place_some (l : List R9) (v : List UInt8) : (placeO l v).isSome = true ↔ 0 ≤ placeN l (tx v) := by
  unfold placeO placeN
  cases l.findIdx? fun r => decide (r.nm = tx v) with
  | none => simp
  | some k => simp
theorem addR_twice {c : CfgL} {ws : List (List UInt8)} (h : c.1.length ≠ 4) (h1 : ws.length = 10) (h2 : 0 ≤ placeN c.1 (tx (ws.getD 1 []))) : addR c ws = .error 11 := by unfold addR; rw [if_neg h, if_neg (by omega), if_pos ((place_some _ _).2 h2)]
theorem addR_char {c : CfgL} {ws : List (List UInt8)} (h : c.1.length ≠ 4) (h1 : ws.length = 10) (h2 : ¬ 0 ≤ placeN c.1 (tx (ws.getD 1 []))) (h3 : allO numB (ws.drop 2) = none) : addR c ws = .error 13 := by
  unfold addR
  rw [if_neg h, if_neg (by omega), if_neg (fun h => h2 ((place_some _ _).1 h)), h3]
theorem addR_end {c : CfgL} {ws : List (List UInt8)} {ns : List Nat} (h : c.1.length ≠ 4) (h1 : ws.length = 10) (h2 : ¬ 0 ≤ placeN c.1 (tx (ws.getD 1 []))) (h3 : allO numB (ws.drop 2) = some ns) : addR c ws = if rcvR (mkR (ws.getD 1 []) ns) = true then .ok (c.1 ++ [mkR (ws.getD 1 []) ns], c.2) else .error 3 := by
  unfold addR
  rw [if_neg h, if_neg (by omega), if_neg (fun h => h2 ((place_some _ _).1 h)), h3]
set_option maxRecDepth 100000 in
set_option maxHeartbeats 6400000 in
theorem refAddR_any (c : CfgL) (va : Value) (ob : Option Addr) (nb cb : Nat) (rep beat : Int) (ws : List (List UInt8)) (oa : Option Addr) (n cap : Nat) (base : Nat) (w : World)
    (hc : w.ownsRow base 52 9 va c.1.length (cellsR c.1)) (hlen : c.1.length ≤ 4) (h : Ts w oa n cap (ws.map tx)) (hn : n ≤ 100000) (hz : ∀ v ∈ ws, v.length ≤ 1000000) (hbase : base ≤ w.heap.size) :
    Calls Tryz.prog 41 #[.agg (cfgV va (.slice ob nb cb) rep beat), .slice oa n cap] w fun e w' => AddROut w w' base e c va (.slice ob nb cb) rep beat ws ∧ w.grownBy w' va.ownBlock := by
  have hl : ws.length = n := by rw [← h.len, List.length_map]
  have hr := h.room
  obtain ⟨oz, cz, rfl, hRs, _⟩ := Rs.of_own rfl hc
  obtain ⟨m, hm⟩ : ∃ m, c.1.length = m := ⟨_, rfl⟩
  unfold AddROut
  rw [hm] at hRs hc hlen
  rw [hm]
  have V0 := (Vals.new w 25 (cfgV (.slice oz m cz) (.slice ob nb cb) rep beat)).alloc (.cells (cfgV (.slice none 0 0) (.slice none 0 0) 0 0) 25)
  have V1 := Vals.new (w.alloc (.cells (cfgV (.slice oz m cz) (.slice ob nb cb) rep beat) 25)) 25 (cfgV (.slice none 0 0) (.slice none 0 0) 0 0)
  have B1 := Below.of_alloc2 (w := w) (.cells (cfgV (.slice oz m cz) (.slice ob nb cb) rep beat) 25) (.cells (cfgV (.slice none 0 0) (.slice none 0 0) 0 0) 25)
  have hsz : (w.alloc (.cells (cfgV (.slice oz m cz) (.slice ob nb cb) rep beat) 25)).heap.size = w.heap.size + 1 := by simp
  rw [hsz] at V1
  obtain ⟨A, hA⟩ : ∃ A, A = w.heap.size := ⟨_, rfl⟩
  obtain ⟨A1, hA1⟩ : ∃ A1, A1 = w.heap.size + 1 := ⟨_, rfl⟩
  go_enter Tryz.func41, Tryz.ntmps41
  go_upto_region 1 with fail
  rw [← hA1]
  rw [← hA1] at V1
  have hA1w : w.heap.size ≤ A1 := by omega
  have hAw : w.heap.size ≤ A := by omega
  have hAA : A ≠ A1 := by omega
  rw [← hA] at V0 ⊢
  clear hA hA1 hsz
  generalize (w.alloc (.cells (cfgV (.slice oz m cz) (.slice ob nb cb) rep beat) 25)).alloc (.cells (cfgV (.slice none 0 0) (.slice none 0 0) 0 0) 25) = w1 at *
  have p0 : w1.cell? ⟨A, 0, none⟩ = some (.slice oz m cz) := V0.cell 0
  have p1 : w1.cell? ⟨A, 1, none⟩ = some (.slice ob nb cb) := V0.cell 1
  have p2 : w1.cell? ⟨A, 2, none⟩ = some (.int .i64 rep) := V0.cell 2
  have p3 : w1.cell? ⟨A, 3, none⟩ = some (.int .i64 beat) := V0.cell 3
  have q0 : w1.cell? ⟨A1, 0, none⟩ = some (.slice none 0 0) := V1.cell 0
  have q1 : w1.cell? ⟨A1, 1, none⟩ = some (.slice none 0 0) := V1.cell 1
  have q2 : w1.cell? ⟨A1, 2, none⟩ = some (.int .i64 0) := V1.cell 2
  have q3 : w1.cell? ⟨A1, 3, none⟩ = some (.int .i64 0) := V1.cell 3
  have g0 := V1.free 0
  have g1 := V1.free 1
  have g2 := V1.free 2
  have g3 := V1.free 3
  have HZ := Lib.hid hz
  clear hz
  by_cases h4 : m = 4
  · have HW := Lib.hid (addR_full (ws := ws) (hm.trans h4))
    have h4i : ((m : Int) == 4) = true := by simp [h4]
    have hV5 := V1.four (.slice oz m cz) (.slice ob nb cb) (.int .i64 rep) (.int .i64 beat)
    have hB5 := below_four B1 hA1w (.slice oz m cz) (.slice ob nb cb) (.int .i64 rep) (.int .i64 beat)
    clear h HZ hRs hc hm hl V0 V1 B1 h4
    go_wp2_with fail
    refine bodyPost_ret (retC rfl rfl rfl hV5) rfl ?_
    exact ⟨⟨.slice oz m cz, 2, rfl, .inr ⟨by decide, HW.out, rfl⟩⟩, grown_all hB5 _⟩
  have h4i : ((m : Int) == 4) = false := by simp; omega
  have hm4 : c.1.length ≠ 4 := by omega
  by_cases h10 : n ≠ 10
  · have HW := Lib.hid (addR_lack hm4 (by omega : ws.length ≠ 10))
    have h10i : ((n : Int) != 10) = true := by simp; omega
    have hV5 := V1.four (.slice oz m cz) (.slice ob nb cb) (.int .i64 rep) (.int .i64 beat)
    have hB5 := below_four B1 hA1w (.slice oz m cz) (.slice ob nb cb) (.int .i64 rep) (.int .i64 beat)
    clear h HZ hRs hc hm hl V0 V1 B1 hm4
    go_wp2_with fail
    refine bodyPost_ret (retC rfl rfl rfl hV5) rfl ?_
    exact ⟨⟨.slice oz m cz, 12, rfl, .inr ⟨by decide, HW.out, rfl⟩⟩, grown_all hB5 _⟩
  have h10i : ((n : Int) != 10) = false := by simp; omega
  have hw10 : ws.length = 10 := by omega
  have hge : 10 ≤ n := by omega
  clear h10
  have hT1 := h.below B1 (Nat.le_refl _)
  obtain ⟨g, o, rfl, c1⟩ := hT1.cell 1 (by omega)
  rw [ws_at ws 1 (by omega)] at c1
  have hz1 : (tx (ws.getD 1 [])).size ≤ 1000000 := by rw [tx_size]; exact HZ.out _ (ws_mem ws 1 (by omega))
  have HPl := fun wx (B : Below w1.heap.size w1 wx) => refPlace_any oz m cz c.1 (tx (ws.getD 1 [])) wx ((hRs.below B1 (Nat.le_refl _)).below B (Nat.le_refl _)) (by omega)
  have HE2 := Lib.hid (fun h2 => addR_twice (ws := ws) hm4 hw10 h2)
  have HE3 := Lib.hid (fun h2 h3 => addR_char (ws := ws) hm4 hw10 h2 h3)
  have HE4 := Lib.hid (fun ns h2 h3 => addR_end (ws := ws) (ns := ns) hm4 hw10 h2 h3)
  have hT2 := hT1.dropped 2 (by omega)
  rw [← List.map_drop] at hT2
  have HZ2 : Hid (∀ v ∈ ws.drop 2, v.length ≤ 1000000) := fun v hv => HZ.out v (List.mem_of_mem_drop hv)
  have hc2 : (cap : Int) ≠ 2 := by omega
  clear h hT1 HZ hRs
  obtain ⟨y, hy⟩ : ∃ y, y = tx (ws.getD 1 []) := ⟨_, rfl⟩
  rw [← hy] at c1 hz1 HPl HE2 HE3 HE4
  obtain ⟨P, hP⟩ : ∃ P, P = placeN c.1 y := ⟨_, rfl⟩
  simp only [← hP] at HPl HE2 HE3 HE4
  have HY := Lib.hid hy
  clear hy hP
  go_upto_region 5 with fail
  go_cut [18, 19, 20, 21, 22, 23, 24] (fun _ _ _ _ _ _ s24 wx => s24 = .bool (decide (0 ≤ P)) ∧ Below w1.heap.size w1 wx)
  case first =>
    go_region_with (first | (go_at_call 29; refine (HPl _ (by first | exact Below.refl _ _ | exact (Below.refl _ _).drew)).mono ?_; rintro e wo ⟨rfl, Bf⟩))
    all_goals
      have B2 : Below w1.heap.size w1 wo := (Below.refl _ w1).drew.trans Bf
      go_wp2_with fail
      go_meet
      case rel => exact ⟨rfl, by first | exact B2 | exact B2.drew⟩
  case rest =>
    obtain ⟨rfl, Bc⟩ := hcut
    have V02 := V0.keep Bc (Nat.le_refl _)
    have V12 := V1.keep Bc (Nat.le_refl _)
    have B2 := B1.trans (Bc.mono B1.size)
    clear p0 p1 p2 p3 q0 q1 q2 q3 g0 g1 g2 g3 HPl
    have c12 := keepR Bc c1
    have hT3 := hT2.below Bc (Nat.le_refl _)
    clear hT2 c1
    have p0 : wc.cell? ⟨A, 0, none⟩ = some (.slice oz m cz) := V02.cell 0
    have p1 : wc.cell? ⟨A, 1, none⟩ = some (.slice ob nb cb) := V02.cell 1
    have p2 : wc.cell? ⟨A, 2, none⟩ = some (.int .i64 rep) := V02.cell 2
    have p3 : wc.cell? ⟨A, 3, none⟩ = some (.int .i64 beat) := V02.cell 3
    have q0 : wc.cell? ⟨A1, 0, none⟩ = some (.slice none 0 0) := V12.cell 0
    have q1 : wc.cell? ⟨A1, 1, none⟩ = some (.slice none 0 0) := V12.cell 1
    have q2 : wc.cell? ⟨A1, 2, none⟩ = some (.int .i64 0) := V12.cell 2
    have q3 : wc.cell? ⟨A1, 3, none⟩ = some (.int .i64 0) := V12.cell 3
    have g0 := V12.free 0
    have g1 := V12.free 1
    have g2 := V12.free 2
    have g3 := V12.free 3
    by_cases hp : 0 ≤ P
    · have HW := Lib.hid (HE2.out hp)
      have hV5 := V12.four (.slice oz m cz) (.slice ob nb cb) (.int .i64 rep) (.int .i64 beat)
      have hB5 := below_four B2 hA1w (.slice oz m cz) (.slice ob nb cb) (.int .i64 rep) (.int .i64 beat)
      clear HE2 HE3 HE4 hT3 HZ2 hc hm hl V02 V12 B2 hm4 V0 V1 B1 Bc hw10 HY
      go_wp2_with fail
      refine bodyPost_ret (retC rfl rfl rfl hV5) rfl ?_
      exact ⟨⟨.slice oz m cz, 11, rfl, .inr ⟨by decide, HW.out, rfl⟩⟩, grown_all hB5 _⟩
    have HN := refNumbers_any _ _ _ (ws.drop 2) wc hT3 (by omega) HZ2.out
    have h8 : (ws.drop 2).length = 8 := by rw [List.length_drop]; omega
    clear HE2 HZ2 hT3
    go_wp2_with fail
    refine HN.mono ?_
    rintro e w4 ⟨⟨ns, hns, on, cn, rfl, hNs⟩ | ⟨hns, rfl⟩, B4⟩
    rotate_left
    · have HW := Lib.hid (HE3.out hp hns)
      have V04 := V02.keep B4 (Nat.le_refl _)
      have V14 := V12.keep B4 (Nat.le_refl _)
      have B3 := B2.trans (B4.mono B2.size)
      clear p0 p1 p2 p3 q0 q1 q2 q3 g0 g1 g2 g3
      have p0 : w4.cell? ⟨A, 0, none⟩ = some (.slice oz m cz) := V04.cell 0
      have p1 : w4.cell? ⟨A, 1, none⟩ = some (.slice ob nb cb) := V04.cell 1
      have p2 : w4.cell? ⟨A, 2, none⟩ = some (.int .i64 rep) := V04.cell 2
      have p3 : w4.cell? ⟨A, 3, none⟩ = some (.int .i64 beat) := V04.cell 3
      have q0 : w4.cell? ⟨A1, 0, none⟩ = some (.slice none 0 0) := V14.cell 0
      have q1 : w4.cell? ⟨A1, 1, none⟩ = some (.slice none 0 0) := V14.cell 1
      have q2 : w4.cell? ⟨A1, 2, none⟩ = some (.int .i64 0) := V14.cell 2
      have q3 : w4.cell? ⟨A1, 3, none⟩ = some (.int .i64 0) := V14.cell 3
      have g0 := V14.free 0
      have g1 := V14.free 1
      have g2 := V14.free 2
      have g3 := V14.free 3
      have hV5 := V14.four (.slice oz m cz) (.slice ob nb cb) (.int .i64 rep) (.int .i64 beat)
      have hB5 := below_four B3 hA1w (.slice oz m cz) (.slice ob nb cb) (.int .i64 rep) (.int .i64 beat)
      clear HE3 HE4 hns hc hm hl V02 V12 V04 V14 B2 B3 B4 hm4 V0 V1 B1 Bc hw10 HY h8
      go_wp2_with fail
      refine bodyPost_ret (retC rfl rfl rfl hV5) rfl ?_
      exact ⟨⟨.slice oz m cz, 13, rfl, .inr ⟨by decide, HW.out, rfl⟩⟩, grown_all hB5 _⟩
    have HX := Lib.hid (HE4.out ns hp hns)
    have V04 := V02.keep B4 (Nat.le_refl _)
    have V14 := V12.keep B4 (Nat.le_refl _)
    have B3 := B2.trans (B4.mono B2.size)
    have Bw4 := B1.trans ((Bc.trans (B4.mono Bc.size)).mono B1.size)
    have c14 := keepR B4 c12
    rw [h8] at hNs
    rw [h8]
    have hcn := hNs.room
    have hce : ∀ i, i < 8 → ∃ g o, on = some ⟨g, o, none⟩ ∧ w4.cell? ⟨g, o + i, none⟩ = some (.int .i64 ((ns.getD i 0 : Nat) : Int)) := fun i hi => by
      obtain ⟨g, o, e, h⟩ := hNs.cell i hi
      refine ⟨g, o, e, ?_⟩
      rw [h, List.getD_eq_getElem?_getD, List.getElem?_map, List.getD_eq_getElem?_getD]
      cases ns[i]? <;> rfl
    obtain ⟨gn, on2, rfl, e0⟩ := hce 0 (by omega)
    obtain ⟨_, _, ex1, e1⟩ := hce 1 (by omega)
    cases ex1
    obtain ⟨_, _, ex2, e2⟩ := hce 2 (by omega)
    cases ex2
    obtain ⟨_, _, ex3, e3⟩ := hce 3 (by omega)
    cases ex3
    obtain ⟨_, _, ex4, e4⟩ := hce 4 (by omega)
    cases ex4
    obtain ⟨_, _, ex5, e5⟩ := hce 5 (by omega)
    cases ex5
    obtain ⟨_, _, ex6, e6⟩ := hce 6 (by omega)
    cases ex6
    obtain ⟨_, _, ex7, e7⟩ := hce 7 (by omega)
    cases ex7
    rw [Nat.add_zero] at e0
    have HM : Hid (mkR (ws.getD 1 []) ns = ⟨y, ((ns.getD 0 0 : Nat) : Int), ((ns.getD 1 0 : Nat) : Int), ((ns.getD 2 0 : Nat) : Int), ((ns.getD 3 0 : Nat) : Int), ((ns.getD 4 0 : Nat) : Int), ((ns.getD 5 0 : Nat) : Int), ((ns.getD 6 0 : Nat) : Int), ((ns.getD 7 0 : Nat) : Int)⟩) := by
      show _ = _
      rw [HY.out]
      rfl
    rw [HM.out] at HX
    clear HM HE3 HE4 hNs hce hns HY h8 hw10 hl V02 V12 B2 B4 V0 V1 B1 Bc c12 p0 p1 p2 p3 q0 q1 q2 q3 g0 g1 g2 g3
    generalize ((ns.getD 0 0 : Nat) : Int) = a0 at *
    generalize ((ns.getD 1 0 : Nat) : Int) = a1 at *
    generalize ((ns.getD 2 0 : Nat) : Int) = a2 at *
    generalize ((ns.getD 3 0 : Nat) : Int) = a3 at *
    generalize ((ns.getD 4 0 : Nat) : Int) = a4 at *
    generalize ((ns.getD 5 0 : Nat) : Int) = a5 at *
    generalize ((ns.getD 6 0 : Nat) : Int) = a6 at *
    generalize ((ns.getD 7 0 : Nat) : Int) = a7 at *
    clear ns hn
    have HRc := fun w => refRcv_any ⟨y, a0, a1, a2, a3, a4, a5, a6, a7⟩ (by show y.size ≤ _; omega) w
    have hA4 : A < w4.heap.size := V04.lt
    have hA14 : A1 < w4.heap.size := V14.lt
    have V05 := V04.alloc (.cells #[.string y, .int .i64 a0, .int .i64 a1, .int .i64 a2, .int .i64 a3, .int .i64 a4, .int .i64 a5, .int .i64 a6, .int .i64 a7] 52)
    have V15 := V14.alloc (.cells #[.string y, .int .i64 a0, .int .i64 a1, .int .i64 a2, .int .i64 a3, .int .i64 a4, .int .i64 a5, .int .i64 a6, .int .i64 a7] 52)
    have VB := Vals.new w4 52 #[.string y, .int .i64 a0, .int .i64 a1, .int .i64 a2, .int .i64 a3, .int .i64 a4, .int .i64 a5, .int .i64 a6, .int .i64 a7]
    have B5 := B3.alloc B3.size (.cells #[.string y, .int .i64 a0, .int .i64 a1, .int .i64 a2, .int .i64 a3, .int .i64 a4, .int .i64 a5, .int .i64 a6, .int .i64 a7] 52)
    dsimp only [aggR] at HRc
    have hn1 : (1 : Int) < (n : Int) := by omega
    have c15 : (w4.alloc (.cells #[.string ⟨#[]⟩, .int .i64 0, .int .i64 0, .int .i64 0, .int .i64 0, .int .i64 0, .int .i64 0, .int .i64 0, .int .i64 0] 52)).cell? ⟨g, o + 1, none⟩ = some (.string y) := keepR (below_alloc w4 _) c14
    have f0 : (w4.alloc (.cells #[.string ⟨#[]⟩, .int .i64 0, .int .i64 0, .int .i64 0, .int .i64 0, .int .i64 0, .int .i64 0, .int .i64 0, .int .i64 0] 52)).cell? ⟨gn, on2, none⟩ = some (.int .i64 a0) := keepR (below_alloc w4 _) e0
    have f1 : (w4.alloc (.cells #[.string ⟨#[]⟩, .int .i64 0, .int .i64 0, .int .i64 0, .int .i64 0, .int .i64 0, .int .i64 0, .int .i64 0, .int .i64 0] 52)).cell? ⟨gn, on2 + 1, none⟩ = some (.int .i64 a1) := keepR (below_alloc w4 _) e1
    have f2 : (w4.alloc (.cells #[.string ⟨#[]⟩, .int .i64 0, .int .i64 0, .int .i64 0, .int .i64 0, .int .i64 0, .int .i64 0, .int .i64 0, .int .i64 0] 52)).cell? ⟨gn, on2 + 2, none⟩ = some (.int .i64 a2) := keepR (below_alloc w4 _) e2
    have f3 : (w4.alloc (.cells #[.string ⟨#[]⟩, .int .i64 0, .int .i64 0, .int .i64 0, .int .i64 0, .int .i64 0, .int .i64 0, .int .i64 0, .int .i64 0] 52)).cell? ⟨gn, on2 + 3, none⟩ = some (.int .i64 a3) := keepR (below_alloc w4 _) e3
    have f4 : (w4.alloc (.cells #[.string ⟨#[]⟩, .int .i64 0, .int .i64 0, .int .i64 0, .int .i64 0, .int .i64 0, .int .i64 0, .int .i64 0, .int .i64 0] 52)).cell? ⟨gn, on2 + 4, none⟩ = some (.int .i64 a4) := keepR (below_alloc w4 _) e4
    have f5 : (w4.alloc (.cells #[.string ⟨#[]⟩, .int .i64 0, .int .i64 0, .int .i64 0, .int .i64 0, .int .i64 0, .int .i64 0, .int .i64 0, .int .i64 0] 52)).cell? ⟨gn, on2 + 5, none⟩ = some (.int .i64 a5) := keepR (below_alloc w4 _) e5
    have f6 : (w4.alloc (.cells #[.string ⟨#[]⟩, .int .i64 0, .int .i64 0, .int .i64 0, .int .i64 0, .int .i64 0, .int .i64 0, .int .i64 0, .int .i64 0] 52)).cell? ⟨gn, on2 + 6, none⟩ = some (.int .i64 a6) := keepR (below_alloc w4 _) e6
    have f7 : (w4.alloc (.cells #[.string ⟨#[]⟩, .int .i64 0, .int .i64 0, .int .i64 0, .int .i64 0, .int .i64 0, .int .i64 0, .int .i64 0, .int .i64 0] 52)).cell? ⟨gn, on2 + 7, none⟩ = some (.int .i64 a7) := keepR (below_alloc w4 _) e7
    go_upto_region 10 with fail
    go_region_held3 (fun w' => w'.cell? ⟨g, o + 1, none⟩ = some (.string y) ∧ w'.cell? ⟨gn, on2, none⟩ = some (.int .i64 a0) ∧ w'.cell? ⟨gn, on2 + 1, none⟩ = some (.int .i64 a1) ∧ w'.cell? ⟨gn, on2 + 2, none⟩ = some (.int .i64 a2) ∧ w'.cell? ⟨gn, on2 + 3, none⟩ = some (.int .i64 a3) ∧ w'.cell? ⟨gn, on2 + 4, none⟩ = some (.int .i64 a4) ∧ w'.cell? ⟨gn, on2 + 5, none⟩ = some (.int .i64 a5) ∧ w'.cell? ⟨gn, on2 + 6, none⟩ = some (.int .i64 a6) ∧ w'.cell? ⟨gn, on2 + 7, none⟩ = some (.int .i64 a7)) (first | exact ⟨c14, e0, e1, e2, e3, e4, e5, e6, e7⟩ | exact ⟨c15, f0, f1, f2, f3, f4, f5, f6, f7⟩ | go_keep) (first | fail)
    have V06 : Vals (w4.alloc (.cells #[.string y, .int .i64 a0, .int .i64 a1, .int .i64 a2, .int .i64 a3, .int .i64 a4, .int .i64 a5, .int .i64 a6, .int .i64 a7] 52)).drew A 25 _ := V05
    have V16 : Vals (w4.alloc (.cells #[.string y, .int .i64 a0, .int .i64 a1, .int .i64 a2, .int .i64 a3, .int .i64 a4, .int .i64 a5, .int .i64 a6, .int .i64 a7] 52)).drew A1 25 _ := V15
    have VB6 : Vals (w4.alloc (.cells #[.string y, .int .i64 a0, .int .i64 a1, .int .i64 a2, .int .i64 a3, .int .i64 a4, .int .i64 a5, .int .i64 a6, .int .i64 a7] 52)).drew w4.heap.size 52 _ := VB
    have B6 : Below w.heap.size w (w4.alloc (.cells #[.string y, .int .i64 a0, .int .i64 a1, .int .i64 a2, .int .i64 a3, .int .i64 a4, .int .i64 a5, .int .i64 a6, .int .i64 a7] 52)).drew := B5.drew
    have hz6 : (w4.alloc (.cells #[.string y, .int .i64 a0, .int .i64 a1, .int .i64 a2, .int .i64 a3, .int .i64 a4, .int .i64 a5, .int .i64 a6, .int .i64 a7] 52)).drew.heap.size = w4.heap.size + 1 := by simp
    clear V04 V14 V05 V15 VB B3 B5 Bw4 c14 c15 e0 e1 e2 e3 e4 e5 e6 e7 f0 f1 f2 f3 f4 f5 f6 f7
    obtain ⟨G, hG⟩ : ∃ G, G = w4.heap.size := ⟨_, rfl⟩
    rw [← hG] at VB6 hA4 hA14 hz6
    rw [← hG]
    clear hG
    generalize (w4.alloc (.cells #[.string y, .int .i64 a0, .int .i64 a1, .int .i64 a2, .int .i64 a3, .int .i64 a4, .int .i64 a5, .int .i64 a6, .int .i64 a7] 52)).drew = w5 at *
    clear w4
    have d0 : w5.cell? ⟨G, 0, none⟩ = some (.string y) := VB6.cell 0
    have d1 : w5.cell? ⟨G, 1, none⟩ = some (.int .i64 a0) := VB6.cell 1
    have d2 : w5.cell? ⟨G, 2, none⟩ = some (.int .i64 a1) := VB6.cell 2
    have d3 : w5.cell? ⟨G, 3, none⟩ = some (.int .i64 a2) := VB6.cell 3
    have d4 : w5.cell? ⟨G, 4, none⟩ = some (.int .i64 a3) := VB6.cell 4
    have d5 : w5.cell? ⟨G, 5, none⟩ = some (.int .i64 a4) := VB6.cell 5
    have d6 : w5.cell? ⟨G, 6, none⟩ = some (.int .i64 a5) := VB6.cell 6
    have d7 : w5.cell? ⟨G, 7, none⟩ = some (.int .i64 a6) := VB6.cell 7
    have d8 : w5.cell? ⟨G, 8, none⟩ = some (.int .i64 a7) := VB6.cell 8
    have HR5 := HRc w5
    clear HRc
    obtain ⟨rr, hrr⟩ : ∃ rr, rr = rcvR ⟨y, a0, a1, a2, a3, a4, a5, a6, a7⟩ := ⟨_, rfl⟩
    rw [← hrr] at HR5 HX
    clear hrr
    go_wp2_with fail
    refine HR5.mono ?_
    rintro e w6 ⟨rfl, B7⟩
    have V07 := V06.keep B7 (Nat.le_refl _)
    have V17 := V16.keep B7 (Nat.le_refl _)
    have VB7 := VB6.keep B7 (Nat.le_refl _)
    have B8 := B6.trans (B7.mono B6.size)
    clear d0 d1 d2 d3 d4 d5 d6 d7 d8 V06 V16 VB6 HR5
    have p0 : w6.cell? ⟨A, 0, none⟩ = some (.slice oz m cz) := V07.cell 0
    have p1 : w6.cell? ⟨A, 1, none⟩ = some (.slice ob nb cb) := V07.cell 1
    have p2 : w6.cell? ⟨A, 2, none⟩ = some (.int .i64 rep) := V07.cell 2
    have p3 : w6.cell? ⟨A, 3, none⟩ = some (.int .i64 beat) := V07.cell 3
    have q0 : w6.cell? ⟨A1, 0, none⟩ = some (.slice none 0 0) := V17.cell 0
    have q1 : w6.cell? ⟨A1, 1, none⟩ = some (.slice none 0 0) := V17.cell 1
    have q2 : w6.cell? ⟨A1, 2, none⟩ = some (.int .i64 0) := V17.cell 2
    have q3 : w6.cell? ⟨A1, 3, none⟩ = some (.int .i64 0) := V17.cell 3
    have g0 := V17.free 0
    have g1 := V17.free 1
    have g2 := V17.free 2
    have g3 := V17.free 3
    cases rr with
    | false =>
      have HW : Hid (addR c ws = .error 3) := by show _ = _; rw [HX.out]; rfl
      have hV5 := V17.four (.slice oz m cz) (.slice ob nb cb) (.int .i64 rep) (.int .i64 beat)
      have hB5 := below_four B8 hA1w (.slice oz m cz) (.slice ob nb cb) (.int .i64 rep) (.int .i64 beat)
      clear HX hc hm V07 V17 VB7 B7 B6
      go_wp2_with fail
      refine bodyPost_ret (retC rfl rfl rfl hV5) rfl ?_
      exact ⟨⟨.slice oz m cz, 3, rfl, .inr ⟨by decide, HW.out, rfl⟩⟩, grown_all hB5 _⟩
    | true =>
      have HW : Hid (addR c ws = .ok (c.1 ++ [⟨y, a0, a1, a2, a3, a4, a5, a6, a7⟩], c.2)) := by show _ = _; rw [HX.out]; rfl
      have d0 : w6.cell? ⟨G, 0, none⟩ = some (.string y) := VB7.cell 0
      have d1 : w6.cell? ⟨G, 1, none⟩ = some (.int .i64 a0) := VB7.cell 1
      have d2 : w6.cell? ⟨G, 2, none⟩ = some (.int .i64 a1) := VB7.cell 2
      have d3 : w6.cell? ⟨G, 3, none⟩ = some (.int .i64 a2) := VB7.cell 3
      have d4 : w6.cell? ⟨G, 4, none⟩ = some (.int .i64 a3) := VB7.cell 4
      have d5 : w6.cell? ⟨G, 5, none⟩ = some (.int .i64 a4) := VB7.cell 5
      have d6 : w6.cell? ⟨G, 6, none⟩ = some (.int .i64 a5) := VB7.cell 6
      have d7 : w6.cell? ⟨G, 7, none⟩ = some (.int .i64 a6) := VB7.cell 7
      have d8 : w6.cell? ⟨G, 8, none⟩ = some (.int .i64 a7) := VB7.cell 8
      have hown6 := own_keep hc B8
      have V08 := V07.alloc (.cells #[.string y, .int .i64 a0, .int .i64 a1, .int .i64 a2, .int .i64 a3, .int .i64 a4, .int .i64 a5, .int .i64 a6, .int .i64 a7] 52)
      have V18 := V17.alloc (.cells #[.string y, .int .i64 a0, .int .i64 a1, .int .i64 a2, .int .i64 a3, .int .i64 a4, .int .i64 a5, .int .i64 a6, .int .i64 a7] 52)
      have B9 := B8.alloc B8.size (.cells #[.string y, .int .i64 a0, .int .i64 a1, .int .i64 a2, .int .i64 a3, .int .i64 a4, .int .i64 a5, .int .i64 a6, .int .i64 a7] 52)
      have hnews := World.news_of_block (Vals.new w6 52 #[.string y, .int .i64 a0, .int .i64 a1, .int .i64 a2, .int .i64 a3, .int .i64 a4, .int .i64 a5, .int .i64 a6, .int .i64 a7])
      have hb6 := B8.size
      have HLm := Lib.hid hm
      have z0 := V08.free 0
      clear HX hc hm V07 V17 VB7 B7 B6 B8
      go_upto_region 14 with (first | (at_builtin; refine wpList_append_rc (r := ⟨y, a0, a1, a2, a3, a4, a5, a6, a7⟩) _ rfl (.tmp 69) (.tmp 71) rfl base rfl (hown6.alloc _) rfl hnews (by omega) (by simp <;> omega) ?_; intro v1 w8 own1 hg1; rw [← cellsR_snoc] at own1; obtain ⟨o8, c8, rfl, _, _⟩ := Rs.of_own (by rw [List.length_append, HLm.out]; rfl) own1; have V09 := Vals.grown V08 (hown6.alloc _) (by decide) hg1; have V19 := Vals.grown V18 (hown6.alloc _) (by decide) hg1; have p8 : w8.cell? ⟨A, 0, none⟩ = some (.slice oz m cz) := V09.cell 0; have z8 := V09.free 0))
      have V0a : Vals (w8.setCell ⟨A, 0, none⟩ (.slice o8 (m + 1) c8)) A 25 (cfgV (.slice o8 (m + 1) c8) (.slice ob nb cb) rep beat) := by
        have := V09.set 0 (.slice o8 (m + 1) c8)
        simpa using this
      have V1a : Vals (w8.setCell ⟨A, 0, none⟩ (.slice o8 (m + 1) c8)) A1 25 (cfgV (.slice none 0 0) (.slice none 0 0) 0 0) := V19.other (Ne.symm hAA) 0 _
      have own2 := own_setT own1 V09 (by decide) 0 (.slice o8 (m + 1) c8)
      have Bz := (Below.refl w.heap.size w8).setCell (p := ⟨A, 0, none⟩) hAw (.slice o8 (m + 1) c8)
      clear V08 V18 V09 V19 own1 hown6 hnews p0 p1 p2 p3 q0 q1 q2 q3 g0 g1 g2 g3 d0 d1 d2 d3 d4 d5 d6 d7 d8 p8 z8 z0
      generalize w8.setCell ⟨A, 0, none⟩ (.slice o8 (m + 1) c8) = w9 at *
      have p0 : w9.cell? ⟨A, 0, none⟩ = some (.slice o8 (m + 1) c8) := V0a.cell 0
      have p1 : w9.cell? ⟨A, 1, none⟩ = some (.slice ob nb cb) := V0a.cell 1
      have p2 : w9.cell? ⟨A, 2, none⟩ = some (.int .i64 rep) := V0a.cell 2
      have p3 : w9.cell? ⟨A, 3, none⟩ = some (.int .i64 beat) := V0a.cell 3
      have q0 : w9.cell? ⟨A1, 0, none⟩ = some (.slice none 0 0) := V1a.cell 0
      have q1 : w9.cell? ⟨A1, 1, none⟩ = some (.slice none 0 0) := V1a.cell 1
      have q2 : w9.cell? ⟨A1, 2, none⟩ = some (.int .i64 0) := V1a.cell 2
      have q3 : w9.cell? ⟨A1, 3, none⟩ = some (.int .i64 0) := V1a.cell 3
      have g0 := V1a.free 0
      have g1 := V1a.free 1
      have g2 := V1a.free 2
      have g3 := V1a.free 3
      have hV5 := V1a.four (.slice o8 (m + 1) c8) (.slice ob nb cb) (.int .i64 rep) (.int .i64 beat)
      have hB5 := below_four Bz hA1w (.slice o8 (m + 1) c8) (.slice ob nb cb) (.int .i64 rep) (.int .i64 beat)
      have own3 := own_four own2 V1a (by decide) (.slice o8 (m + 1) c8) (.slice ob nb cb) (.int .i64 rep) (.int .i64 beat)
      have HF := Lib.hid (frame_end B9 hg1 hB5)
      have HO := Lib.hid own3
      clear V0a V1a own2 Bz hB5 own3 B9 hg1
      go_wp2_with fail
      refine bodyPost_ret (retC rfl rfl rfl hV5) rfl ?_
      exact ⟨⟨.slice o8 (m + 1) c8, 0, rfl, .inl ⟨rfl, _, HW.out, HO.out⟩⟩, HF.out⟩
end Go.Proofs.YtbihaoibmkdfjaaGreatDoor
