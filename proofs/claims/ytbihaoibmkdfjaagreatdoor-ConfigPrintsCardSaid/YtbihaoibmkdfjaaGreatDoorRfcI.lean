/-
  The document's own: a line.
-/
import Derived.Test.YtbihaoibmkdfjaaGreatDoorRfcH
namespace Go.Proofs.YtbihaoibmkdfjaaGreatDoor
open Go.RowKit Go.Shelf
set_option linter.unusedVariables false

/-- what is told of a line -/
def AddOut (w' : World) (base : Nat) (e : Ending) (c : CfgL) (a : Nat) (ws : List (List UInt8)) : Prop := ∃ (o1 : Option Addr) (n1 c1 : Nat) (o2 : Option Addr) (n2 c2 : Nat) (x y a' er : Int), e = .returned (.tuple #[.agg (cfgV (.slice o1 n1 c1) (.slice o2 n2 c2) x y), .int .i64 a', .int .i64 er]) ∧
  ((er = 0 ∧ ∃ (c' : CfgL) (a2 : Nat) (qs' : List (Value × Value)), addL c a ws = .ok (c', a2) ∧ a' = (a2 : Int) ∧ x = c'.2.2.1 ∧ y = c'.2.2.2 ∧ w'.ownsRow base 52 9 (.slice o1 n1 c1) c'.1.length (cellsR c'.1) ∧ Own2 w' base (.slice o2 n2 c2) c'.2.1 qs') ∨ (er ≠ 0 ∧ addL c a ws = .error er))
def GrownOne (w w' : World) (va vb : Value) : Prop := ∃ row, (row = va.ownBlock ∨ row = vb.ownBlock) ∧ w.grownBy w' row
theorem Own2.grown {w w' : World} {base : Nat} {v : Value} {l : List T2} {qs : List (Value × Value)} (h : Own2 w base v l qs) {b2 : Nat} {s2 : Nat} {v2 : Value} {n2 : Nat} {x2 : List Value} (h2 : w.ownsRow b2 52 s2 v2 n2 x2) (hg : w.grownBy w' v2.ownBlock) : Own2 w' base v l qs :=
  ⟨own_other h.own h2 (by decide) hg, h.len, fun i hi => ⟨own_other (h.part i hi).1 h2 (by decide) hg, own_other (h.part i hi).2 h2 (by decide) hg⟩⟩
theorem addL_rcv {c : CfgL} {a : Nat} {ws : List (List UInt8)} (h : ws.getD 0 [] = rcvT) (ha : a ≤ 1) : addL c a ws = (addR c ws).map fun c' => (c', 1) := by unfold addL; rw [if_pos ⟨h, ha⟩]
theorem addL_rte {c : CfgL} {a : Nat} {ws : List (List UInt8)} (h : ws.getD 0 [] = rteT) (ha : a = 1 ∨ a = 2) : addL c a ws = (addT c ws).map fun c' => (c', 2) := by
  unfold addL
  rw [if_neg (fun h2 => absurd (h.symm.trans h2.1) (by decide)), if_pos ⟨h, ha⟩]
theorem addL_rep {c : CfgL} {a : Nat} {ws : List (List UInt8)} (h : ws.getD 0 [] = repT) (ha : a = 2) : addL c a ws = (oneB ws).map fun n => ((c.1, c.2.1, n, c.2.2.2), 3) := by
  unfold addL
  rw [if_neg (fun h2 => absurd (h.symm.trans h2.1) (by decide)), if_neg (fun h2 => absurd (h.symm.trans h2.1) (by decide)), if_pos ⟨h, ha⟩]
theorem addL_beat {c : CfgL} {a : Nat} {ws : List (List UInt8)} (h : ws.getD 0 [] = beatT) (ha : a = 3) : addL c a ws = (oneB ws).map fun n => ((c.1, c.2.1, c.2.2.1, n), 4) := by
  unfold addL
  rw [if_neg (fun h2 => absurd (h.symm.trans h2.1) (by decide)), if_neg (fun h2 => absurd (h.symm.trans h2.1) (by decide)), if_neg (fun h2 => absurd (h.symm.trans h2.1) (by decide)), if_pos ⟨h, ha⟩]
theorem addL_odd {c : CfgL} {a : Nat} {ws : List (List UInt8)} (h1 : ¬ (ws.getD 0 [] = rcvT ∧ a ≤ 1)) (h2 : ¬ (ws.getD 0 [] = rteT ∧ (a = 1 ∨ a = 2))) (h3 : ¬ (ws.getD 0 [] = repT ∧ a = 2)) (h4 : ¬ (ws.getD 0 [] = beatT ∧ a = 3)) : addL c a ws = .error 10 := by
  unfold addL
  rw [if_neg h1, if_neg h2, if_neg h3, if_neg h4]
theorem word_is (ws : List (List UInt8)) (v : List UInt8) : ((tx (ws.getD 0 [])).toList == v) = decide (ws.getD 0 [] = v) := by
  rw [tx_list]
  by_cases h : ws.getD 0 [] = v
  · rw [decide_eq_true h]; simpa using h
  · rw [decide_eq_false h]; simpa using h
set_option maxRecDepth 100000 in
set_option maxHeartbeats 12800000 in
theorem refAdd_any (c : CfgL) (qs : List (Value × Value)) (va vb : Value) (a : Nat) (s : ByteArray) (base : Nat) (w : World)
    (hc : w.ownsRow base 52 9 va c.1.length (cellsR c.1)) (hO : Own2 w base vb c.2.1 qs) (hl1 : c.1.length ≤ 4) (hl2 : c.2.1.length ≤ 4) (hs : s.size ≤ 10000) (hbase : base ≤ w.heap.size) (ha4 : a ≤ 4) :
    Calls Tryz.prog 19 #[.agg (cfgV va vb c.2.2.1 c.2.2.2), .int .i64 (a : Int), .string s] w fun e w' => AddOut w' base e c a (splitW [] (bs s)) ∧ GrownOne w w' va vb := by
  obtain ⟨oz, cz, rfl, hRs, _⟩ := Rs.of_own rfl hc
  obtain ⟨ob, cb, rfl, hQs, _⟩ := hO.lies
  have HW := refWords_any s
  have hsz := splitW_sizes (bs s) []
  have hne := splitW_ne (bs s) []
  have hbl : (bs s).length = s.size := Array.length_toList
  generalize splitW [] (bs s) = ws at *
  obtain ⟨m, hm⟩ : ∃ m, c.1.length = m := ⟨_, rfl⟩
  obtain ⟨nb, hnb⟩ : ∃ nb, c.2.1.length = nb := ⟨_, rfl⟩
  obtain ⟨rep, hrep⟩ : ∃ rep, c.2.2.1 = rep := ⟨_, rfl⟩
  obtain ⟨beat, hbeat⟩ : ∃ beat, c.2.2.2 = beat := ⟨_, rfl⟩
  have HM := Lib.hid hm
  have HN := Lib.hid hnb
  have HR := Lib.hid hrep
  have HB := Lib.hid hbeat
  have HO := Lib.hid hO
  have HC := Lib.hid hc
  rw [hm] at hl1 HC hRs
  rw [hnb] at hl2 HO hQs
  rw [hm, hnb, hrep, hbeat]
  clear hm hnb hrep hbeat hO hc hQs
  have hw1 : 1 ≤ ws.length := List.length_pos_iff.2 hne
  have hwn : ws.length ≤ 10001 := by have := hsz.2; omega
  have HZ : Hid (∀ v ∈ ws, v.length ≤ 100000) := fun v hv => by have := hsz.1 v hv; simp at this; omega
  clear hsz hne hbl
  have V0 := (Vals.new w 25 (cfgV (.slice oz m cz) (.slice ob nb cb) rep beat)).alloc (.cells (cfgV (.slice none 0 0) (.slice none 0 0) 0 0) 25)
  have V1 := Vals.new (w.alloc (.cells (cfgV (.slice oz m cz) (.slice ob nb cb) rep beat) 25)) 25 (cfgV (.slice none 0 0) (.slice none 0 0) 0 0)
  have B1 := Below.of_alloc2 (w := w) (.cells (cfgV (.slice oz m cz) (.slice ob nb cb) rep beat) 25) (.cells (cfgV (.slice none 0 0) (.slice none 0 0) 0 0) 25)
  have hzz : (w.alloc (.cells (cfgV (.slice oz m cz) (.slice ob nb cb) rep beat) 25)).heap.size = w.heap.size + 1 := by simp
  rw [hzz] at V1
  obtain ⟨A, hA⟩ : ∃ A, A = w.heap.size := ⟨_, rfl⟩
  obtain ⟨A1, hA1⟩ : ∃ A1, A1 = w.heap.size + 1 := ⟨_, rfl⟩
  go_enter Tryz.func19, Tryz.ntmps19
  go_upto_region 1 with fail
  rw [← hA1]
  rw [← hA1] at V1
  have hA1w : w.heap.size ≤ A1 := by omega
  have hAw : w.heap.size ≤ A := by omega
  have hAA : A ≠ A1 := by omega
  rw [← hA] at V0 ⊢
  clear hA hA1 hzz
  generalize (w.alloc (.cells (cfgV (.slice oz m cz) (.slice ob nb cb) rep beat) 25)).alloc (.cells (cfgV (.slice none 0 0) (.slice none 0 0) 0 0) 25) = w1 at *
  have HW1 := HW w1 (by omega)
  clear HW
  go_wp2_with fail
  refine HW1.mono ?_
  rintro e w2 ⟨⟨ow, cw, rfl, hT, hcw, gw, rfl, hgw⟩, B2⟩
  have V02 := V0.keep B2 (Nat.le_refl _)
  have V12 := V1.keep B2 (Nat.le_refl _)
  have Bw := B1.trans (B2.mono B1.size)
  have hr := hT.room
  obtain ⟨_, _, ee, c0⟩ := hT.cell 0 (by omega)
  cases ee
  rw [ws_at ws 0 (by omega), Nat.add_zero] at c0
  have t1 := word_is ws rcvT
  have t2 := word_is ws rteT
  have t3 := word_is ws repT
  have t4 := word_is ws beatT
  have HRs := Lib.hid (hRs.below Bw (Nat.le_refl _))
  have HC2 := Lib.hid (own_keep HC.out Bw)
  have HO2 := Lib.hid (HO.out.keep Bw)
  obtain ⟨n, hn⟩ : ∃ n, n = ws.length := ⟨_, rfl⟩
  rw [← hn] at hT hr hw1 hwn ⊢
  have hwi : (0 : Int) < (n : Int) := by omega
  clear hn HW1 V0 V1 B1 B2 hRs HC HO hgw
  generalize tx (ws.getD 0 []) = y at *
  have p0 : w2.cell? ⟨A, 0, none⟩ = some (.slice oz m cz) := V02.cell 0
  have p1 : w2.cell? ⟨A, 1, none⟩ = some (.slice ob nb cb) := V02.cell 1
  have p2 : w2.cell? ⟨A, 2, none⟩ = some (.int .i64 rep) := V02.cell 2
  have p3 : w2.cell? ⟨A, 3, none⟩ = some (.int .i64 beat) := V02.cell 3
  have q0 : w2.cell? ⟨A1, 0, none⟩ = some (.slice none 0 0) := V12.cell 0
  have q1 : w2.cell? ⟨A1, 1, none⟩ = some (.slice none 0 0) := V12.cell 1
  have q2 : w2.cell? ⟨A1, 2, none⟩ = some (.int .i64 0) := V12.cell 2
  have q3 : w2.cell? ⟨A1, 3, none⟩ = some (.int .i64 0) := V12.cell 3
  have g0 := V12.free 0
  have g1 := V12.free 1
  have g2 := V12.free 2
  have g3 := V12.free 3
  obtain ⟨P1, hP1⟩ : ∃ P : Bool, P = decide (ws.getD 0 [] = rcvT ∧ a ≤ 1) := ⟨_, rfl⟩
  obtain ⟨P2, hP2⟩ : ∃ P : Bool, P = decide (ws.getD 0 [] = rteT ∧ (a = 1 ∨ a = 2)) := ⟨_, rfl⟩
  obtain ⟨P3, hP3⟩ : ∃ P : Bool, P = decide (ws.getD 0 [] = repT ∧ a = 2) := ⟨_, rfl⟩
  obtain ⟨P4, hP4⟩ : ∃ P : Bool, P = decide (ws.getD 0 [] = beatT ∧ a = 3) := ⟨_, rfl⟩
  have HP1 := Lib.hid hP1
  have HP2 := Lib.hid hP2
  have HP3 := Lib.hid hP3
  have HP4 := Lib.hid hP4
  have HT := Lib.hid hT
  obtain ⟨b1, hb1⟩ : ∃ b : Bool, b = decide (ws.getD 0 [] = rcvT) := ⟨_, rfl⟩
  obtain ⟨b2, hb2⟩ : ∃ b : Bool, b = decide (ws.getD 0 [] = rteT) := ⟨_, rfl⟩
  obtain ⟨b3, hb3⟩ : ∃ b : Bool, b = decide (ws.getD 0 [] = repT) := ⟨_, rfl⟩
  obtain ⟨b4, hb4⟩ : ∃ b : Bool, b = decide (ws.getD 0 [] = beatT) := ⟨_, rfl⟩
  change (y.toList == [114, 101, 99, 101, 105, 118, 101, 114]) = decide (ws.getD 0 [] = rcvT) at t1
  change (y.toList == [114, 111, 117, 116, 101]) = decide (ws.getD 0 [] = rteT) at t2
  change (y.toList == [114, 101, 112, 101, 97, 116]) = decide (ws.getD 0 [] = repT) at t3
  change (y.toList == [98, 101, 97, 116]) = decide (ws.getD 0 [] = beatT) at t4
  rw [← hb1] at t1
  rw [← hb2] at t2
  rw [← hb3] at t3
  rw [← hb4] at t4
  have g1' : Hid (P1 = (b1 && decide (a ≤ 1))) := by show _ = _; rw [hP1, hb1]; simp
  have g2' : Hid (P2 = (b2 && (decide (a = 1) || decide (a = 2)))) := by show _ = _; rw [hP2, hb2]; simp
  have g3' : Hid (P3 = (b3 && decide (a = 2))) := by show _ = _; rw [hP3, hb3]; simp
  have g4' : Hid (P4 = (b4 && decide (a = 3))) := by show _ = _; rw [hP4, hb4]; simp
  clear hP1 hP2 hP3 hP4 hb1 hb2 hb3 hb4 hT
  go_upto_region 2 with fail
  go_cut [18, 19, 20, 21, 22, 23, 24, 25] (fun _ _ _ _ _ _ _ s25 wx => s25 = .bool P1 ∧ w2 = wx)
  case first =>
    cases b1 with
    | true =>
      by_cases h1 : (a : Int) ≤ 1
      · go_wp2_with fail
        go_meet
        case rel => exact ⟨by rw [g1'.out, decide_eq_true (by omega)]; rfl, rfl⟩
      · go_wp2_with fail
        go_meet
        case rel => exact ⟨by rw [g1'.out, decide_eq_false (by omega)]; rfl, rfl⟩
    | false =>
      go_wp2_with fail
      go_meet
      case rel => exact ⟨by rw [g1'.out]; rfl, rfl⟩
  case rest =>
    obtain ⟨rfl, rfl⟩ := hcut
    cases P1 with
    | true =>
      have hA := of_decide_eq_true HP1.out.symm
      have hAL := Lib.hid (addL_rcv (c := c) hA.1 hA.2)
      have HA := refAddR_any c (.slice oz m cz) ob nb cb rep beat ws (some ⟨gw, 0, none⟩) n cw base w2 (by rw [HM.out]; exact HC2.out) (by rw [HM.out]; exact hl1) HT.out (by omega) (fun v hv => by have := HZ.out v hv; omega) (by have := Bw.size; omega)
      clear g1' g2' g3' g4' hA t1 t2 t3 t4 c0
      go_wp2_with fail
      refine HA.mono ?_
      rintro e w5 ⟨⟨va', er, rfl, hor⟩, hg⟩
      have V15 := Vals.grown V12 HC2.out (by decide) hg
      rcases hor with ⟨rfl, r, hadd, hown⟩ | ⟨hne, hadd, rfl⟩
      · rw [HM.out] at hown
        obtain ⟨o8, c8, rfl, _, _⟩ := Rs.of_own (by rw [List.length_append, HM.out]; rfl) hown
        have HX := Lib.hid hadd
        have OS := (HO2.out.grown HC2.out hg).keep (below_alloc w5 (.cells (cfgV (.slice o8 (m + 1) c8) (.slice ob nb cb) rep beat) 25))
        have own6 := hown.alloc (.cells (cfgV (.slice o8 (m + 1) c8) (.slice ob nb cb) rep beat) 25)
        clear hadd hown HA V02 V12 p0 p1 p2 p3 q0 q1 q2 q3 g0 g1 g2 g3
        have hsz5 : w.heap.size ≤ w5.heap.size := by have h1 := Bw.size; have h2 := hg.size; omega
        have VN := Vals.new w5 25 (cfgV (.slice o8 (m + 1) c8) (.slice ob nb cb) rep beat)
        have V16 := V15.alloc (.cells (cfgV (.slice o8 (m + 1) c8) (.slice ob nb cb) rep beat) 25)
        have Bz := (Below.refl w.heap.size w5).alloc hsz5 (.cells (cfgV (.slice o8 (m + 1) c8) (.slice ob nb cb) rep beat) 25)
        go_upto_region 4 with fail
        generalize w5.alloc (.cells (cfgV (.slice o8 (m + 1) c8) (.slice ob nb cb) rep beat) 25) = w6 at *
        generalize w5.heap.size = N at *
        have n0 : w6.cell? ⟨N, 0, none⟩ = some (.slice o8 (m + 1) c8) := VN.cell 0
        have n1 : w6.cell? ⟨N, 1, none⟩ = some (.slice ob nb cb) := VN.cell 1
        have n2 : w6.cell? ⟨N, 2, none⟩ = some (.int .i64 rep) := VN.cell 2
        have n3 : w6.cell? ⟨N, 3, none⟩ = some (.int .i64 beat) := VN.cell 3
        have q0 : w6.cell? ⟨A1, 0, none⟩ = some (.slice none 0 0) := V16.cell 0
        have q1 : w6.cell? ⟨A1, 1, none⟩ = some (.slice none 0 0) := V16.cell 1
        have q2 : w6.cell? ⟨A1, 2, none⟩ = some (.int .i64 0) := V16.cell 2
        have q3 : w6.cell? ⟨A1, 3, none⟩ = some (.int .i64 0) := V16.cell 3
        have g0 := V16.free 0
        have g1 := V16.free 1
        have g2 := V16.free 2
        have g3 := V16.free 3
        have hV5 := V16.four (.slice o8 (m + 1) c8) (.slice ob nb cb) (.int .i64 rep) (.int .i64 beat)
        have hB5 := below_four Bz hA1w (.slice o8 (m + 1) c8) (.slice ob nb cb) (.int .i64 rep) (.int .i64 beat)
        have HO6 := Lib.hid (own_four own6 V16 (by decide) (.slice o8 (m + 1) c8) (.slice ob nb cb) (.int .i64 rep) (.int .i64 beat))
        have HO7 := Lib.hid (OS.four V16 (.slice o8 (m + 1) c8) (.slice ob nb cb) (.int .i64 rep) (.int .i64 beat))
        have HFr := Lib.hid (frame_end Bw hg hB5)
        clear VN V16 Bz hB5 own6 OS hg Bw HO2 HC2 HRs HT
        go_wp2_with fail
        refine bodyPost_ret (retC3 rfl rfl rfl rfl hV5) rfl ?_
        exact ⟨⟨o8, m + 1, c8, ob, nb, cb, rep, beat, 1, 0, rfl, .inl ⟨rfl, (c.1 ++ [r], c.2), 1, qs, by rw [hAL.out, HX.out]; rfl, rfl, HR.out.symm, HB.out.symm, by rw [List.length_append, HM.out]; exact HO6.out, HO7.out⟩⟩, _, .inl rfl, HFr.out⟩
      · have HX := Lib.hid hadd
        clear hadd HA V02 V12 p0 p1 p2 p3 q0 q1 q2 q3 g0 g1 g2 g3
        have hsz5 : w.heap.size ≤ w5.heap.size := by have h1 := Bw.size; have h2 := hg.size; omega
        have VN := Vals.new w5 25 (cfgV (.slice oz m cz) (.slice ob nb cb) rep beat)
        have V16 := V15.alloc (.cells (cfgV (.slice oz m cz) (.slice ob nb cb) rep beat) 25)
        have Bz := (Below.refl w.heap.size w5).alloc hsz5 (.cells (cfgV (.slice oz m cz) (.slice ob nb cb) rep beat) 25)
        go_upto_region 4 with fail
        generalize w5.alloc (.cells (cfgV (.slice oz m cz) (.slice ob nb cb) rep beat) 25) = w6 at *
        generalize w5.heap.size = N at *
        have n0 : w6.cell? ⟨N, 0, none⟩ = some (.slice oz m cz) := VN.cell 0
        have n1 : w6.cell? ⟨N, 1, none⟩ = some (.slice ob nb cb) := VN.cell 1
        have n2 : w6.cell? ⟨N, 2, none⟩ = some (.int .i64 rep) := VN.cell 2
        have n3 : w6.cell? ⟨N, 3, none⟩ = some (.int .i64 beat) := VN.cell 3
        have q0 : w6.cell? ⟨A1, 0, none⟩ = some (.slice none 0 0) := V16.cell 0
        have q1 : w6.cell? ⟨A1, 1, none⟩ = some (.slice none 0 0) := V16.cell 1
        have q2 : w6.cell? ⟨A1, 2, none⟩ = some (.int .i64 0) := V16.cell 2
        have q3 : w6.cell? ⟨A1, 3, none⟩ = some (.int .i64 0) := V16.cell 3
        have g0 := V16.free 0
        have g1 := V16.free 1
        have g2 := V16.free 2
        have g3 := V16.free 3
        have hV5 := V16.four (.slice oz m cz) (.slice ob nb cb) (.int .i64 rep) (.int .i64 beat)
        have hB5 := below_four Bz hA1w (.slice oz m cz) (.slice ob nb cb) (.int .i64 rep) (.int .i64 beat)
        have HFr := Lib.hid (frame_end Bw hg hB5)
        clear VN V16 Bz hB5 hg Bw HO2 HC2 HRs HT
        go_wp2_with fail
        refine bodyPost_ret (retC3 rfl rfl rfl rfl hV5) rfl ?_
        exact ⟨⟨oz, m, cz, ob, nb, cb, rep, beat, 1, er, rfl, .inr ⟨hne, by rw [hAL.out, HX.out]; rfl⟩⟩, _, .inl rfl, HFr.out⟩
    | false =>
      clear g1'
      go_upto_region 5 with fail
      go_cut [34, 35, 36, 37, 38, 39, 40, 41, 42, 43, 44, 45] (fun _ _ _ _ _ _ _ _ _ _ _ s45 wx => s45 = .bool P2 ∧ w2 = wx)
      case first =>
        cases b2 with
        | true =>
          by_cases h1 : (a : Int) = 1
          · have h1e : ((a : Int) == 1) = true := by simp; omega
            have hF : Hid (P2 = true) := by show _ = _; rw [g2'.out, decide_eq_true (by omega : a = 1)]; rfl
            clear h1
            go_wp2_with fail
            go_meet
            case rel => exact ⟨by rw [hF.out], rfl⟩
          · have h1e : ((a : Int) == 1) = false := by simp; omega
            by_cases h2 : (a : Int) = 2
            · have h2e : ((a : Int) == 2) = true := by simp; omega
              have hF : Hid (P2 = true) := by show _ = _; rw [g2'.out, decide_eq_true (by omega : a = 2)]; simp
              clear h1 h2
              go_wp2_with fail
              go_meet
              case rel => exact ⟨by rw [hF.out], rfl⟩
            · have h2e : ((a : Int) == 2) = false := by simp; omega
              have hF : Hid (P2 = false) := by show _ = _; rw [g2'.out, decide_eq_false (by omega : ¬ a = 1), decide_eq_false (by omega : ¬ a = 2)]; rfl
              clear h1 h2
              go_wp2_with fail
              go_meet
              case rel => exact ⟨by rw [hF.out], rfl⟩
        | false =>
          go_wp2_with fail
          go_meet
          case rel => exact ⟨by rw [g2'.out]; rfl, rfl⟩
      case rest =>
        obtain ⟨rfl, rfl⟩ := hcut
        cases P2 with
        | true =>
          have hA := of_decide_eq_true HP2.out.symm
          have hAL := Lib.hid (addL_rte (c := c) hA.1 hA.2)
          have HA := refAddT_any c qs oz m cz (.slice ob nb cb) rep beat ws (some ⟨gw, 0, none⟩) n cw base w2 HRs.out (by omega) HO2.out (by rw [HN.out]; exact hl2) HT.out (by omega) HZ.out (by have := Bw.size; omega)
          clear g2' g3' g4' hA t1 t2 t3 t4 c0
          go_wp2_with fail
          refine HA.mono ?_
          rintro e w5 ⟨⟨vb', er, rfl, hor⟩, hg⟩
          have V15 := Vals.grown V12 HO2.out.own (by decide) hg
          rcases hor with ⟨rfl, r, qs', hadd, hown⟩ | ⟨hne, hadd, rfl⟩
          · obtain ⟨o8, c8, e8, _, _⟩ := hown.lies
            rw [show (c.2.1 ++ [r]).length = nb + 1 from by rw [List.length_append, HN.out]; rfl] at e8
            subst e8
            have HX := Lib.hid hadd
            have OS := hown.keep (below_alloc w5 (.cells (cfgV (.slice oz m cz) (.slice o8 (nb + 1) c8) rep beat) 25))
            have own6 := (own_other HC2.out HO2.out.own (by decide) hg).alloc (.cells (cfgV (.slice oz m cz) (.slice o8 (nb + 1) c8) rep beat) 25)
            clear hadd hown HA V02 V12 p0 p1 p2 p3 q0 q1 q2 q3 g0 g1 g2 g3
            have hsz5 : w.heap.size ≤ w5.heap.size := by have h1 := Bw.size; have h2 := hg.size; omega
            have VN := Vals.new w5 25 (cfgV (.slice oz m cz) (.slice o8 (nb + 1) c8) rep beat)
            have V16 := V15.alloc (.cells (cfgV (.slice oz m cz) (.slice o8 (nb + 1) c8) rep beat) 25)
            have Bz := (Below.refl w.heap.size w5).alloc hsz5 (.cells (cfgV (.slice oz m cz) (.slice o8 (nb + 1) c8) rep beat) 25)
            go_upto_region 7 with fail
            generalize w5.alloc (.cells (cfgV (.slice oz m cz) (.slice o8 (nb + 1) c8) rep beat) 25) = w6 at *
            generalize w5.heap.size = N at *
            have n0 : w6.cell? ⟨N, 0, none⟩ = some (.slice oz m cz) := VN.cell 0
            have n1 : w6.cell? ⟨N, 1, none⟩ = some (.slice o8 (nb + 1) c8) := VN.cell 1
            have n2 : w6.cell? ⟨N, 2, none⟩ = some (.int .i64 rep) := VN.cell 2
            have n3 : w6.cell? ⟨N, 3, none⟩ = some (.int .i64 beat) := VN.cell 3
            have q0 : w6.cell? ⟨A1, 0, none⟩ = some (.slice none 0 0) := V16.cell 0
            have q1 : w6.cell? ⟨A1, 1, none⟩ = some (.slice none 0 0) := V16.cell 1
            have q2 : w6.cell? ⟨A1, 2, none⟩ = some (.int .i64 0) := V16.cell 2
            have q3 : w6.cell? ⟨A1, 3, none⟩ = some (.int .i64 0) := V16.cell 3
            have g0 := V16.free 0
            have g1 := V16.free 1
            have g2 := V16.free 2
            have g3 := V16.free 3
            have hV5 := V16.four (.slice oz m cz) (.slice o8 (nb + 1) c8) (.int .i64 rep) (.int .i64 beat)
            have hB5 := below_four Bz hA1w (.slice oz m cz) (.slice o8 (nb + 1) c8) (.int .i64 rep) (.int .i64 beat)
            have HO6 := Lib.hid (own_four own6 V16 (by decide) (.slice oz m cz) (.slice o8 (nb + 1) c8) (.int .i64 rep) (.int .i64 beat))
            have HO7 := Lib.hid (OS.four V16 (.slice oz m cz) (.slice o8 (nb + 1) c8) (.int .i64 rep) (.int .i64 beat))
            have HFr := Lib.hid (frame_end Bw hg hB5)
            clear VN V16 Bz hB5 own6 OS hg Bw HO2 HC2 HRs HT
            go_wp2_with fail
            refine bodyPost_ret (retC3 rfl rfl rfl rfl hV5) rfl ?_
            exact ⟨⟨oz, m, cz, o8, nb + 1, c8, rep, beat, 2, 0, rfl, .inl ⟨rfl, (c.1, c.2.1 ++ [r], c.2.2), 2, qs', by rw [hAL.out, HX.out]; rfl, rfl, HR.out.symm, HB.out.symm, by rw [HM.out]; exact HO6.out, HO7.out⟩⟩, _, .inr rfl, HFr.out⟩
          · have HX := Lib.hid hadd
            clear hadd HA V02 V12 p0 p1 p2 p3 q0 q1 q2 q3 g0 g1 g2 g3
            have hsz5 : w.heap.size ≤ w5.heap.size := by have h1 := Bw.size; have h2 := hg.size; omega
            have VN := Vals.new w5 25 (cfgV (.slice oz m cz) (.slice ob nb cb) rep beat)
            have V16 := V15.alloc (.cells (cfgV (.slice oz m cz) (.slice ob nb cb) rep beat) 25)
            have Bz := (Below.refl w.heap.size w5).alloc hsz5 (.cells (cfgV (.slice oz m cz) (.slice ob nb cb) rep beat) 25)
            go_upto_region 7 with fail
            generalize w5.alloc (.cells (cfgV (.slice oz m cz) (.slice ob nb cb) rep beat) 25) = w6 at *
            generalize w5.heap.size = N at *
            have n0 : w6.cell? ⟨N, 0, none⟩ = some (.slice oz m cz) := VN.cell 0
            have n1 : w6.cell? ⟨N, 1, none⟩ = some (.slice ob nb cb) := VN.cell 1
            have n2 : w6.cell? ⟨N, 2, none⟩ = some (.int .i64 rep) := VN.cell 2
            have n3 : w6.cell? ⟨N, 3, none⟩ = some (.int .i64 beat) := VN.cell 3
            have q0 : w6.cell? ⟨A1, 0, none⟩ = some (.slice none 0 0) := V16.cell 0
            have q1 : w6.cell? ⟨A1, 1, none⟩ = some (.slice none 0 0) := V16.cell 1
            have q2 : w6.cell? ⟨A1, 2, none⟩ = some (.int .i64 0) := V16.cell 2
            have q3 : w6.cell? ⟨A1, 3, none⟩ = some (.int .i64 0) := V16.cell 3
            have g0 := V16.free 0
            have g1 := V16.free 1
            have g2 := V16.free 2
            have g3 := V16.free 3
            have hV5 := V16.four (.slice oz m cz) (.slice ob nb cb) (.int .i64 rep) (.int .i64 beat)
            have hB5 := below_four Bz hA1w (.slice oz m cz) (.slice ob nb cb) (.int .i64 rep) (.int .i64 beat)
            have HFr := Lib.hid (frame_end Bw hg hB5)
            clear VN V16 Bz hB5 hg Bw HO2 HC2 HRs HT
            go_wp2_with fail
            refine bodyPost_ret (retC3 rfl rfl rfl rfl hV5) rfl ?_
            exact ⟨⟨oz, m, cz, ob, nb, cb, rep, beat, 2, er, rfl, .inr ⟨hne, by rw [hAL.out, HX.out]; rfl⟩⟩, _, .inr rfl, HFr.out⟩
        | false =>
          clear g2'
          have HA := refOne_any ws (some ⟨gw, 0, none⟩) n cw w2 HT.out (by omega) (fun v hv => by have := HZ.out v hv; omega)
          go_wp2_with fail
          refine HA.mono ?_
          rintro e w5 ⟨⟨m1, er1, rfl, hone⟩, B5⟩
          have HI := Lib.hid hone
          have V05 := V02.keep B5 (Nat.le_refl _)
          have V15 := V12.keep B5 (Nat.le_refl _)
          have Bw5 := Bw.trans (B5.mono Bw.size)
          have HC5 := Lib.hid (own_keep HC2.out B5)
          have HO5 := Lib.hid (HO2.out.keep B5)
          have c5 := keepR B5 c0
          clear hone HA V02 V12 p0 p1 p2 p3 q0 q1 q2 q3 g0 g1 g2 g3 c0 B5
          have p0 : w5.cell? ⟨A, 0, none⟩ = some (.slice oz m cz) := V05.cell 0
          have p1 : w5.cell? ⟨A, 1, none⟩ = some (.slice ob nb cb) := V05.cell 1
          have p2 : w5.cell? ⟨A, 2, none⟩ = some (.int .i64 rep) := V05.cell 2
          have p3 : w5.cell? ⟨A, 3, none⟩ = some (.int .i64 beat) := V05.cell 3
          have q0 : w5.cell? ⟨A1, 0, none⟩ = some (.slice none 0 0) := V15.cell 0
          have q1 : w5.cell? ⟨A1, 1, none⟩ = some (.slice none 0 0) := V15.cell 1
          have q2 : w5.cell? ⟨A1, 2, none⟩ = some (.int .i64 0) := V15.cell 2
          have q3 : w5.cell? ⟨A1, 3, none⟩ = some (.int .i64 0) := V15.cell 3
          have g0 := V15.free 0
          have g1 := V15.free 1
          have g2 := V15.free 2
          have g3 := V15.free 3
          go_upto_region 9 with fail
          go_cut [59, 60, 61, 62, 63, 64, 65, 66] (fun _ _ _ _ _ _ _ s66 wx => s66 = .bool P3 ∧ w5 = wx)
          case first =>
            cases b3 with
            | true =>
              by_cases h1 : (a : Int) = 2
              · have h1e : ((a : Int) == 2) = true := by simp; omega
                have hF : Hid (P3 = true) := by show _ = _; rw [g3'.out, decide_eq_true (by omega : a = 2)]; rfl
                clear h1
                go_wp2_with fail
                go_meet
                case rel => exact ⟨by rw [hF.out], rfl⟩
              · have h1e : ((a : Int) == 2) = false := by simp; omega
                have hF : Hid (P3 = false) := by show _ = _; rw [g3'.out, decide_eq_false (by omega : ¬ a = 2)]; rfl
                clear h1
                go_wp2_with fail
                go_meet
                case rel => exact ⟨by rw [hF.out], rfl⟩
            | false =>
              go_wp2_with fail
              go_meet
              case rel => exact ⟨by rw [g3'.out]; rfl, rfl⟩
          case rest =>
            obtain ⟨rfl, rfl⟩ := hcut
            cases P3 with
            | true =>
              have hA := of_decide_eq_true HP3.out.symm
              have hAL := Lib.hid (addL_rep (c := c) hA.1 hA.2)
              have V0a : Vals (w5.setCell ⟨A, 2, none⟩ (.int .i64 m1)) A 25 (cfgV (.slice oz m cz) (.slice ob nb cb) m1 beat) := by
                have := V05.set 2 (.int .i64 m1)
                simpa using this
              have V1a : Vals (w5.setCell ⟨A, 2, none⟩ (.int .i64 m1)) A1 25 (cfgV (.slice none 0 0) (.slice none 0 0) 0 0) := V15.other (Ne.symm hAA) 2 _
              have z0 := V05.free 2
              have own6 := own_setT HC5.out V05 (by decide) 2 (.int .i64 m1)
              have OS6 := HO5.out.setT V05 2 (.int .i64 m1)
              have B6 := Bw5.setCell (p := ⟨A, 2, none⟩) hAw (.int .i64 m1)
              clear hA g3' g4' t3 t4
              go_upto_region 11 with fail
              clear V05 V15 z0 p0 p1 p2 p3 q0 q1 q2 q3 g0 g1 g2 g3
              generalize w5.setCell ⟨A, 2, none⟩ (.int .i64 m1) = w6 at *
              have p0 : w6.cell? ⟨A, 0, none⟩ = some (.slice oz m cz) := V0a.cell 0
              have p1 : w6.cell? ⟨A, 1, none⟩ = some (.slice ob nb cb) := V0a.cell 1
              have p2 : w6.cell? ⟨A, 2, none⟩ = some (.int .i64 m1) := V0a.cell 2
              have p3 : w6.cell? ⟨A, 3, none⟩ = some (.int .i64 beat) := V0a.cell 3
              have q0 : w6.cell? ⟨A1, 0, none⟩ = some (.slice none 0 0) := V1a.cell 0
              have q1 : w6.cell? ⟨A1, 1, none⟩ = some (.slice none 0 0) := V1a.cell 1
              have q2 : w6.cell? ⟨A1, 2, none⟩ = some (.int .i64 0) := V1a.cell 2
              have q3 : w6.cell? ⟨A1, 3, none⟩ = some (.int .i64 0) := V1a.cell 3
              have g0 := V1a.free 0
              have g1 := V1a.free 1
              have g2 := V1a.free 2
              have g3 := V1a.free 3
              have hV5 := V1a.four (.slice oz m cz) (.slice ob nb cb) (.int .i64 m1) (.int .i64 beat)
              have hB5 := below_four B6 hA1w (.slice oz m cz) (.slice ob nb cb) (.int .i64 m1) (.int .i64 beat)
              have HO6 := Lib.hid (own_four own6 V1a (by decide) (.slice oz m cz) (.slice ob nb cb) (.int .i64 m1) (.int .i64 beat))
              have HO7 := Lib.hid (OS6.four V1a (.slice oz m cz) (.slice ob nb cb) (.int .i64 m1) (.int .i64 beat))
              have HFr := Lib.hid (grown_all hB5 (Value.slice oz m cz).ownBlock)
              clear V0a V1a own6 OS6 B6 hB5 HO2 HC2 HRs HT HO5 HC5 Bw Bw5
              go_wp2_with fail
              refine bodyPost_ret (retC3 rfl rfl rfl rfl hV5) rfl ?_
              rcases HI.out with ⟨rfl, h1⟩ | ⟨hne, h0, h1⟩
              · exact ⟨⟨oz, m, cz, ob, nb, cb, m1, beat, 3, 0, rfl, .inl ⟨rfl, (c.1, c.2.1, m1, c.2.2.2), 3, qs, by rw [hAL.out, h1]; rfl, rfl, rfl, HB.out.symm, by rw [HM.out]; exact HO6.out, HO7.out⟩⟩, _, .inl rfl, HFr.out⟩
              · exact ⟨⟨oz, m, cz, ob, nb, cb, m1, beat, 3, er1, rfl, .inr ⟨hne, by rw [hAL.out, h1]; rfl⟩⟩, _, .inl rfl, HFr.out⟩
            | false =>
              clear g3'
              go_upto_region 12 with fail
              go_cut [71, 72, 73, 74, 75, 76, 77, 78] (fun _ _ _ _ _ _ _ s78 wx => s78 = .bool P4 ∧ w5 = wx)
              case first =>
                cases b4 with
                | true =>
                  by_cases h1 : (a : Int) = 3
                  · have h1e : ((a : Int) == 3) = true := by simp; omega
                    have hF : Hid (P4 = true) := by show _ = _; rw [g4'.out, decide_eq_true (by omega : a = 3)]; rfl
                    clear h1
                    go_wp2_with fail
                    go_meet
                    case rel => exact ⟨by rw [hF.out], rfl⟩
                  · have h1e : ((a : Int) == 3) = false := by simp; omega
                    have hF : Hid (P4 = false) := by show _ = _; rw [g4'.out, decide_eq_false (by omega : ¬ a = 3)]; rfl
                    clear h1
                    go_wp2_with fail
                    go_meet
                    case rel => exact ⟨by rw [hF.out], rfl⟩
                | false =>
                  go_wp2_with fail
                  go_meet
                  case rel => exact ⟨by rw [g4'.out]; rfl, rfl⟩
              case rest =>
                obtain ⟨rfl, rfl⟩ := hcut
                cases P4 with
                | true =>
                  have hA := of_decide_eq_true HP4.out.symm
                  have hAL := Lib.hid (addL_beat (c := c) hA.1 hA.2)
                  have V0a : Vals (w5.setCell ⟨A, 3, none⟩ (.int .i64 m1)) A 25 (cfgV (.slice oz m cz) (.slice ob nb cb) rep m1) := by
                    have := V05.set 3 (.int .i64 m1)
                    simpa using this
                  have V1a : Vals (w5.setCell ⟨A, 3, none⟩ (.int .i64 m1)) A1 25 (cfgV (.slice none 0 0) (.slice none 0 0) 0 0) := V15.other (Ne.symm hAA) 3 _
                  have z0 := V05.free 3
                  have own6 := own_setT HC5.out V05 (by decide) 3 (.int .i64 m1)
                  have OS6 := HO5.out.setT V05 3 (.int .i64 m1)
                  have B6 := Bw5.setCell (p := ⟨A, 3, none⟩) hAw (.int .i64 m1)
                  clear hA g4' t4
                  go_upto_region 14 with fail
                  clear V05 V15 z0 p0 p1 p2 p3 q0 q1 q2 q3 g0 g1 g2 g3
                  generalize w5.setCell ⟨A, 3, none⟩ (.int .i64 m1) = w6 at *
                  have p0 : w6.cell? ⟨A, 0, none⟩ = some (.slice oz m cz) := V0a.cell 0
                  have p1 : w6.cell? ⟨A, 1, none⟩ = some (.slice ob nb cb) := V0a.cell 1
                  have p2 : w6.cell? ⟨A, 2, none⟩ = some (.int .i64 rep) := V0a.cell 2
                  have p3 : w6.cell? ⟨A, 3, none⟩ = some (.int .i64 m1) := V0a.cell 3
                  have q0 : w6.cell? ⟨A1, 0, none⟩ = some (.slice none 0 0) := V1a.cell 0
                  have q1 : w6.cell? ⟨A1, 1, none⟩ = some (.slice none 0 0) := V1a.cell 1
                  have q2 : w6.cell? ⟨A1, 2, none⟩ = some (.int .i64 0) := V1a.cell 2
                  have q3 : w6.cell? ⟨A1, 3, none⟩ = some (.int .i64 0) := V1a.cell 3
                  have g0 := V1a.free 0
                  have g1 := V1a.free 1
                  have g2 := V1a.free 2
                  have g3 := V1a.free 3
                  have hV5 := V1a.four (.slice oz m cz) (.slice ob nb cb) (.int .i64 rep) (.int .i64 m1)
                  have hB5 := below_four B6 hA1w (.slice oz m cz) (.slice ob nb cb) (.int .i64 rep) (.int .i64 m1)
                  have HO6 := Lib.hid (own_four own6 V1a (by decide) (.slice oz m cz) (.slice ob nb cb) (.int .i64 rep) (.int .i64 m1))
                  have HO7 := Lib.hid (OS6.four V1a (.slice oz m cz) (.slice ob nb cb) (.int .i64 rep) (.int .i64 m1))
                  have HFr := Lib.hid (grown_all hB5 (Value.slice oz m cz).ownBlock)
                  clear V0a V1a own6 OS6 B6 hB5 HO2 HC2 HRs HT HO5 HC5 Bw Bw5
                  go_wp2_with fail
                  refine bodyPost_ret (retC3 rfl rfl rfl rfl hV5) rfl ?_
                  rcases HI.out with ⟨rfl, h1⟩ | ⟨hne, h0, h1⟩
                  · exact ⟨⟨oz, m, cz, ob, nb, cb, rep, m1, 4, 0, rfl, .inl ⟨rfl, (c.1, c.2.1, c.2.2.1, m1), 4, qs, by rw [hAL.out, h1]; rfl, rfl, HR.out.symm, rfl, by rw [HM.out]; exact HO6.out, HO7.out⟩⟩, _, .inl rfl, HFr.out⟩
                  · exact ⟨⟨oz, m, cz, ob, nb, cb, rep, m1, 4, er1, rfl, .inr ⟨hne, by rw [hAL.out, h1]; rfl⟩⟩, _, .inl rfl, HFr.out⟩
                | false =>
                  have hAO := Lib.hid (addL_odd (c := c) (a := a) (ws := ws) (of_decide_eq_false HP1.out.symm) (of_decide_eq_false HP2.out.symm) (of_decide_eq_false HP3.out.symm) (of_decide_eq_false HP4.out.symm))
                  have hV5 := V15.four (.slice oz m cz) (.slice ob nb cb) (.int .i64 rep) (.int .i64 beat)
                  have hB5 := below_four Bw5 hA1w (.slice oz m cz) (.slice ob nb cb) (.int .i64 rep) (.int .i64 beat)
                  have HFr := Lib.hid (grown_all hB5 (Value.slice oz m cz).ownBlock)
                  clear V05 V15 hB5 HO2 HC2 HRs HT HO5 HC5 Bw Bw5 g4' t4 t3 c5 HI
                  go_wp2_with fail
                  refine bodyPost_ret (retC3 rfl rfl rfl rfl hV5) rfl ?_
                  exact ⟨⟨oz, m, cz, ob, nb, cb, rep, beat, (a : Int), 10, rfl, .inr ⟨by decide, hAO.out⟩⟩, _, .inl rfl, HFr.out⟩
end Go.Proofs.YtbihaoibmkdfjaaGreatDoor
