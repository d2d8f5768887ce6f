/-
  The program's own: Parse (package config).
-/
import Derived.Test.YtbihaoibmkdfjaaGreatDoorCf4
import Derived.Test.YtbihaoibmkdfjaaGreatDoorRfcJ
namespace Go.Proofs.YtbihaoibmkdfjaaGreatDoor
open Go.RowKit Go.Shelf
set_option linter.unusedVariables false

theorem tabs_keep {w w' : World} {A : Nat} (h : Tabs w) (hB : Below w.heap.size w w') : Tabs w' := h.below hB (Nat.le_refl _)
theorem Tv.vals {w w' : World} {A n cap : Nat} {l : List ByteArray} (h : Tv w A n cap l) (hk : ∀ (K : Nat) (T : TypeId) ys, Vals w K T ys → T ≠ 39 → T ≠ 52 → T ≠ 56 → Vals w' K T ys) : Tv w' A n cap l := by
  obtain ⟨arr, hV, hc⟩ := h.blk
  exact ⟨h.len, h.room, arr, hk _ _ _ hV (by decide) (by decide) (by decide), hc⟩
theorem beat_word (a : Nat) (ha : a ≤ 4) : ((tx (aheadT a)).toList != [98, 101, 97, 116]) = !decide (a = 4) := by
  have hc : a = 0 ∨ a = 1 ∨ a = 2 ∨ a = 3 ∨ a = 4 := by omega
  rw [tx_list]
  rcases hc with rfl | rfl | rfl | rfl | rfl <;> rfl
theorem line_c (c : CfgL) (qs : List (Value × Value)) (va vb : Value) (a j : Nat) (u : List UInt8) (ws : List (List UInt8)) (oa : Option Addr) (n cap : Nat) (base A : Nat) (w : World) (hj : stepJ a u = some j) (hV : Vals w A 39 (cfgV va vb c.2.2.1 c.2.2.2))
    (hc : w.ownsRow base 52 9 va c.1.length (cellsR c.1)) (hO : Own2 w base vb c.2.1 qs) (h1 : c.1.length ≤ 4) (h2 : c.2.1.length ≤ 4) (h : Ts w oa n cap (ws.map tx)) (hn : n ≤ 100000) (hz : ∀ v ∈ ws, v.length ≤ 100000) (hT : Tabs w) (hbase : base ≤ w.heap.size) :
    (j = 1 ∧ Calls Tryz.prog 35 #[.pointer (some ⟨A, 0, none⟩), .slice oa n cap] w fun e w' => LineOut w w' base A e 1 (addL c a (u :: ws))) ∨
    (j = 2 ∧ Calls Tryz.prog 36 #[.pointer (some ⟨A, 0, none⟩), .slice oa n cap] w fun e w' => LineOut w w' base A e 2 (addL c a (u :: ws))) ∨
    (j = 3 ∧ Calls Tryz.prog 37 #[.pointer (some ⟨A, 0, none⟩), .slice oa n cap] w fun e w' => LineOut w w' base A e 3 (addL c a (u :: ws))) ∨
    (j = 4 ∧ Calls Tryz.prog 38 #[.pointer (some ⟨A, 0, none⟩), .slice oa n cap] w fun e w' => LineOut w w' base A e 4 (addL c a (u :: ws))) := by
  rcases addL_at (c := c) (ws := ws) hj with ⟨rfl, hd⟩ | ⟨rfl, hd⟩ | ⟨rfl, hd⟩ | ⟨rfl, hd⟩
  · left
    obtain ⟨ob, cb, rfl, hQs, _⟩ := hO.lies
    exact ⟨rfl, (rcvLine_c c va ob _ cb _ _ u ws oa n cap base A w hV hc h1 h hn hz hT hbase).mono fun e w' hr => line_rcv hV rfl rfl hc hO hd hr hbase⟩
  · right; left
    obtain ⟨oz, cz, rfl, hRs, _⟩ := Rs.of_own rfl hc
    exact ⟨rfl, (rteLine_c c qs oz _ cz vb _ _ u ws oa n cap base A w hV hRs (by omega) hO h2 h hn hz hbase).mono fun e w' hr => line_rte hV rfl rfl hc hO hd hr hbase⟩
  · right; right; left
    exact ⟨rfl, (repLine_c va vb _ _ u ws oa n cap A w hV h hn hz hT).mono fun e w' hr => line_one false hV rfl rfl hc hO 3 hd hr hbase⟩
  · right; right; right
    exact ⟨rfl, (beatLine_c va vb _ _ u ws oa n cap A w hV h hn hz hT).mono fun e w' hr => line_one true hV rfl rfl hc hO 4 hd hr hbase⟩
theorem enter_rcv : ∀ args w, (callFunc 35 args).run Tryz.prog w = .ok (.enter 35 args) w := enters_of Tryz.func35 (by kernel_rfl) rfl
theorem enter_rte : ∀ args w, (callFunc 36 args).run Tryz.prog w = .ok (.enter 36 args) w := enters_of Tryz.func36 (by kernel_rfl) rfl
theorem enter_rep : ∀ args w, (callFunc 37 args).run Tryz.prog w = .ok (.enter 37 args) w := enters_of Tryz.func37 (by kernel_rfl) rfl
theorem enter_beat : ∀ args w, (callFunc 38 args).run Tryz.prog w = .ok (.enter 38 args) w := enters_of Tryz.func38 (by kernel_rfl) rfl
set_option maxRecDepth 100000 in
set_option maxHeartbeats 12800000 in
theorem parseC_any (s : ByteArray) (w : World) (hs : s.size ≤ 10000) (hTb : Tabs w) :
    Calls Tryz.prog 6 #[.string s] w fun e w' => CfgOut w' e (parseC (bs s)) ∧ Below w.heap.size w w' := by
  have HL := fun w => lines_c s w (by omega)
  have HP : Hid (parseC (bs s) = goL zC 0 0 (linesB (bs s))) := rfl
  have hsz := lines_sizes (bs s) []
  have hbl : (bs s).length = s.size := Array.length_toList
  change (∀ v ∈ linesB (bs s), _) ∧ (linesB (bs s)).length ≤ _ at hsz
  generalize linesB (bs s) = ls at *
  have HZ : Hid (∀ v ∈ ls, v.length ≤ 10000) := fun v hv => by have := hsz.1 v hv; simp at this; omega
  have hln : ls.length ≤ 10001 := by have := hsz.2; omega
  clear hsz hbl
  have V0 := (Vals.new w 25 (cfgV (.slice none 0 0) (.slice none 0 0) 0 0)).alloc (.cells (cfgV (.slice none 0 0) (.slice none 0 0) 0 0) 39)
  have V1 := Vals.new (w.alloc (.cells (cfgV (.slice none 0 0) (.slice none 0 0) 0 0) 25)) 39 (cfgV (.slice none 0 0) (.slice none 0 0) 0 0)
  have B1 := Below.of_alloc2 (w := w) (.cells (cfgV (.slice none 0 0) (.slice none 0 0) 0 0) 25) (.cells (cfgV (.slice none 0 0) (.slice none 0 0) 0 0) 39)
  have hzz : (w.alloc (.cells (cfgV (.slice none 0 0) (.slice none 0 0) 0 0) 25)).heap.size = w.heap.size + 1 := by simp
  rw [hzz] at V1
  obtain ⟨A, hA⟩ : ∃ A, A = w.heap.size := ⟨_, rfl⟩
  obtain ⟨A1, hA1⟩ : ∃ A1, A1 = w.heap.size + 1 := ⟨_, rfl⟩
  go_enter Tryz.func6, Tryz.ntmps6
  go_upto_region 2 with fail
  rw [← hA1]
  rw [← hA1] at V1
  have hA1w : w.heap.size ≤ A1 := by omega
  have hAw : w.heap.size ≤ A := by omega
  have hAA : A ≠ A1 := by omega
  rw [← hA] at V0 ⊢
  clear hA hA1 hzz
  generalize (w.alloc (.cells (cfgV (.slice none 0 0) (.slice none 0 0) 0 0) 25)).alloc (.cells (cfgV (.slice none 0 0) (.slice none 0 0) 0 0) 39) = w1 at *
  have HT1 := Lib.hid (hTb.below B1 (Nat.le_refl _))
  have HTb0 := Lib.hid hTb
  clear hTb
  have HNx := next_c A1 w1
  go_wp2_with fail
  refine HNx.mono ?_
  rintro e w2 ⟨⟨M, rfl, hNx⟩, B2⟩
  have V02 := V0.keep B2 (Nat.le_refl _)
  have V12 := V1.keep B2 (Nat.le_refl _)
  have hs1 : w.heap.size ≤ w1.heap.size := B1.size
  have Bw2 := B1.trans (B2.mono hs1)
  have HT2 := Lib.hid (HT1.out.below B2 (Nat.le_refl _))
  have HL2 := HL w2
  clear HL HNx V0 V1 HT1 B1 B2
  obtain ⟨L, hL⟩ : ∃ L, L = ls.length := ⟨_, rfl⟩
  rw [← hL] at HL2
  go_wp2_with fail
  refine HL2.mono ?_
  rintro e w3 ⟨⟨LA, cap, rfl, hTv, hLA⟩, B3⟩
  have V03 := V02.keep B3 (Nat.le_refl _)
  have V13 := V12.keep B3 (Nat.le_refl _)
  have Bw3 := Bw2.trans (B3.mono Bw2.size)
  have HT3 := Lib.hid (HT2.out.below B3 (Nat.le_refl _))
  have HNx3 := Lib.hid (hNx.maps (maps_below B3))
  have HTv := Lib.hid hTv
  have hr := hTv.room
  clear V02 V12 HT2 Bw2 B3 HL2 hNx hTv
  have HBase : Hid (w.heap.size ≤ w1.heap.size) := hs1
  go_wp2_with fail
  go_loopw [7, 21] (fun s7 s21 wr => ∃ (k a : Nat) (c : CfgL) (qs : List (Value × Value)) (o1 : Option Addr) (n1 c1 : Nat) (o2 : Option Addr) (n2 c2 : Nat), k ≤ L ∧ s21 = .int .i64 k ∧ s7 = .string (tx (aheadT a)) ∧ a ≤ 4 ∧ Vals wr A 25 (cfgV (.slice none 0 0) (.slice none 0 0) 0 0) ∧ Vals wr A1 39 (cfgV (.slice o1 n1 c1) (.slice o2 n2 c2) c.2.2.1 c.2.2.2) ∧
    wr.ownsRow w.heap.size 52 9 (.slice o1 n1 c1) c.1.length (cellsR c.1) ∧ Own2 wr w.heap.size (.slice o2 n2 c2) c.2.1 qs ∧ Hid (Tv wr LA L cap (ls.map tx)) ∧ Hid (NextAt wr M A1 w1.heap.size) ∧ Hid (Tabs wr) ∧ Below w.heap.size w wr ∧ Hid (InvC c a ∧ parseC (bs s) = goL c a k (ls.drop k))) (fun _ s21 _ => L - (intOf s21).toNat)
  case atStart => exact ⟨0, 0, zC, [], none, 0, 0, none, 0, 0, Nat.zero_le _, rfl, rfl, by omega, V03, V13, World.ownsRow_nil _ _ _ _, Own2.nil _ _, HTv, HNx3, HT3, Bw3, inv_zero, by rw [HP.out]; rfl⟩
  case round =>
    obtain ⟨k, a, c, qs, o1, n1, c1, o2, n2, c2, hk, rfl, rfl, ha4, V0r, V1r, hc, hO, HTr, HNr, HTb, hB, HI⟩ := hrel
    clear V03 V13 HTv HNx3 HT3 Bw3 HP
    by_cases hlt : k < L
    · have hIc := HI.out.1
      obtain ⟨g, o, eg, c0⟩ := HTr.out.ts.cell k hlt
      cases eg
      rw [ws_at ls k (by omega), Nat.zero_add] at c0
      have hz : (tx (ls.getD k [])).size ≤ 10000 := by rw [tx_size]; exact HZ.out _ (ws_mem ls k (by omega))
      have HSp := split_at 32 (tx (ls.getD k [])) wr (by omega)
      rw [show bs (tx (ls.getD k [])) = ls.getD k [] from tx_data _, splitC_blank] at HSp
      have hdr := drop_at ls k (by omega)
      have HE : Hid (∀ er, addL c a (splitW [] (ls.getD k [])) = .error er → parseC (bs s) = (zC, k, er)) := fun er h => by rw [HI.out.2, hdr, goL_error h]
      have HS : Hid (∀ c' a2, addL c a (splitW [] (ls.getD k [])) = .ok (c', a2) → InvC c' a2 ∧ a2 ≤ 4 ∧ parseC (bs s) = goL c' a2 (k + 1) (ls.drop (k + 1))) := fun c' a2 h => ⟨(inv_step hIc h).1, (inv_step hIc h).2.1, by rw [HI.out.2, hdr, goL_ok h]⟩
      have hl4 := hIc.1.2.2
      have hl5 := hIc.2.1.2
      have hsw := splitW_sizes (ls.getD k []) []
      have hlen := HZ.out _ (ws_mem ls k (by omega))
      have hne := splitW_ne (ls.getD k []) []
      have HW : Hid (∀ v ∈ splitW [] (ls.getD k []), v.length ≤ 100000) := fun v hv => by have := hsw.1 v hv; rw [List.length_nil] at this; omega
      have hnw : (splitW [] (ls.getD k [])).length ≤ 10001 := by have := hsw.2; omega
      clear HI hIc hdr hsw hlen
      generalize splitW [] (ls.getD k []) = vs at *
      generalize tx (ls.getD k []) = y at *
      obtain ⟨u, ws, rfl⟩ : ∃ u ws, vs = u :: ws := by
        cases vs with
        | nil => exact absurd rfl hne
        | cons u ws => exact ⟨u, ws, rfl⟩
      obtain ⟨n, hvl⟩ : ∃ n, (u :: ws).length = n := ⟨_, rfl⟩
      have hn1 : 1 ≤ n := by rw [← hvl]; simp
      rw [hvl] at HSp hnw
      clear hne hvl
      go_wp2_with fail
      refine HSp.mono ?_
      rintro e w5 ⟨rfl, hT5, hV5, B5⟩
      have V05 := V0r.keep B5 (Nat.le_refl _)
      have V15 := V1r.keep B5 (Nat.le_refl _)
      have hc5 := own_keep hc B5
      have hO5 := hO.keep B5
      have HTr5 := Lib.hid (HTr.out.keep B5)
      have HNr5 := Lib.hid (HNr.out.maps (maps_below B5))
      have HTb5 := Lib.hid (HTb.out.below B5 (Nat.le_refl _))
      have hB5 := hB.trans (B5.mono hB.size)
      obtain ⟨inner, v, b, hl1, hl2, hjj⟩ := HNr5.out.find a ha4 u
      obtain ⟨g0, o0, eg0, d0⟩ := hT5.cell 0 (by omega)
      cases eg0
      have d1 : w5.cell? ⟨wr.heap.size, 0, none⟩ = some (.string (tx u)) := d0
      clear d0 V0r V1r hc hO HTr HNr HTb hB c0 HSp B5
      go_upto_region 8 with fail
      go_cut [12, 13, 28, 29, 30, 31, 32, 33, 34, 35, 36, 37] (fun s12 s13 _ _ _ _ _ _ _ _ _ _ wx => s12 = v ∧ s13 = .bool b ∧ Below w5.heap.size w5 wx)
      case first =>
        go_quiet (fail)
        go_wp2_with fail
        go_meet
        case rel => exact ⟨rfl, rfl, belowN (Below.refl _ _) _⟩
      case rest =>
        obtain ⟨rfl, rfl, Bq⟩ := hcut
        have V06 := V05.keep Bq (Nat.le_refl _)
        have V16 := V15.keep Bq (Nat.le_refl _)
        have hc6 := own_keep hc5 Bq
        have hO6 := hO5.keep Bq
        have HTr6 := Lib.hid (HTr5.out.keep Bq)
        have HNr6 := Lib.hid (HNr5.out.maps (maps_below Bq))
        have HTb6 := Lib.hid (HTb5.out.below Bq (Nat.le_refl _))
        have hB6 := hB5.trans (Bq.mono hB5.size)
        have hT6 := hT5.below Bq (Nat.le_refl _)
        have hV6 := hV5.keep Bq (Nat.le_refl _)
        have d6 := keepR Bq d1
        clear V05 V15 hc5 hO5 HTr5 HNr5 HTb5 hB5 hT5 hV5 d1 hl1 hl2 Bq
        rcases hjj with ⟨rfl, hnone⟩ | ⟨j, rfl, hj, hv⟩
        · have HWn := Lib.hid (HE.out _ (addL_none (c := c) (ws := ws) hnone))
          clear HE HS HW hc6 hO6 HTr6 HNr6 HTb6 hT6 hV6 d6 V16 hnone
          have q0 : wc.cell? ⟨A, 0, none⟩ = some (.slice none 0 0) := V06.cell 0
          have q1 : wc.cell? ⟨A, 1, none⟩ = some (.slice none 0 0) := V06.cell 1
          have q2 : wc.cell? ⟨A, 2, none⟩ = some (.int .i64 0) := V06.cell 2
          have q3 : wc.cell? ⟨A, 3, none⟩ = some (.int .i64 0) := V06.cell 3
          have g0 := V06.free 0
          have g1 := V06.free 1
          have g2 := V06.free 2
          have g3 := V06.free 3
          have hV5 := V06.four (.slice none 0 0) (.slice none 0 0) (.int .i64 0) (.int .i64 0)
          have hB5 := below_four hB6 hAw (.slice none 0 0) (.slice none 0 0) (.int .i64 0) (.int .i64 0)
          clear V06 hB6
          go_wp2_with fail
          refine bodyPost_ret (retC3 rfl rfl rfl rfl hV5) rfl ?_
          exact ⟨by rw [HWn.out]; exact ⟨none, 0, 0, none, 0, 0, rfl, Rs.nil _ _ _, Qs.nil _ _ _⟩, hB5⟩
        obtain ⟨hju, hj1, hj4⟩ := stepJ_word hj
        have HWs : Hid (∀ v ∈ ws, v.length ≤ 100000) := fun v hv => HW.out v (by simp [hv])
        have hbase : w.heap.size ≤ wc.heap.size := hB6.size
        have HJU := Lib.hid hju
        clear hju HW
        have hLine : ∀ (oz : Option Addr), (oz = if n = 1 then some ⟨wr.heap.size, 0, none⟩ else some ⟨wr.heap.size, 1, none⟩) → _ := fun oz ho => line_c c qs (.slice o1 n1 c1) (.slice o2 n2 c2) a j u ws oz (n - 1) (n - 1) w.heap.size A1 wc hj V16 hc6 hO6 hl4 hl5 (hT6.tail hn1 oz ho) (by omega) HWs.out HTb6.out hbase
        go_upto_region 11 with fail
        go_cut [14, 42, 43, 44, 45] (fun s14 _ _ _ _ wx => ∃ er : Int, s14 = .int .i64 er ∧ LineOut wc wx w.heap.size A1 (.returned (.int .i64 er)) j (addL c a (u :: ws)))
        case first =>
          have er1 := enter_rcv
          have er2 := enter_rte
          have er3 := enter_rep
          have er4 := enter_beat
          by_cases hc1 : n = 1
          · have HLn := hLine _ (by rw [if_pos hc1])
            subst hc1
            clear hLine
            rcases HLn with ⟨rfl, HC⟩ | ⟨rfl, HC⟩ | ⟨rfl, HC⟩ | ⟨rfl, HC⟩
            · have hv1 : _ = fnR A1 := hv
              subst hv1
              clear hV6 d6 V06 V16 hc6 hO6 HTr6 HNr6 HTb6 hT6 hB6 HE HS hv
              go_wp2_with fail
              refine HC.mono ?_
              rintro e w7 ⟨⟨er, rfl, hor⟩, hk⟩
              have HLo : Hid (LineOut wc w7 w.heap.size A1 (.returned (.int .i64 er)) 1 (addL c a (u :: ws))) := ⟨⟨er, rfl, hor⟩, hk⟩
              clear hor hk HC
              go_wp2_with fail
              go_meet
              case rel => exact ⟨er, rfl, HLo.out⟩
            · have hv1 : _ = fnT A1 := hv
              subst hv1
              clear hV6 d6 V06 V16 hc6 hO6 HTr6 HNr6 HTb6 hT6 hB6 HE HS hv
              go_wp2_with fail
              refine HC.mono ?_
              rintro e w7 ⟨⟨er, rfl, hor⟩, hk⟩
              have HLo : Hid (LineOut wc w7 w.heap.size A1 (.returned (.int .i64 er)) 2 (addL c a (u :: ws))) := ⟨⟨er, rfl, hor⟩, hk⟩
              clear hor hk HC
              go_wp2_with fail
              go_meet
              case rel => exact ⟨er, rfl, HLo.out⟩
            · have hv1 : _ = fnP A1 := hv
              subst hv1
              clear hV6 d6 V06 V16 hc6 hO6 HTr6 HNr6 HTb6 hT6 hB6 HE HS hv
              go_wp2_with fail
              refine HC.mono ?_
              rintro e w7 ⟨⟨er, rfl, hor⟩, hk⟩
              have HLo : Hid (LineOut wc w7 w.heap.size A1 (.returned (.int .i64 er)) 3 (addL c a (u :: ws))) := ⟨⟨er, rfl, hor⟩, hk⟩
              clear hor hk HC
              go_wp2_with fail
              go_meet
              case rel => exact ⟨er, rfl, HLo.out⟩
            · have hv1 : _ = fnB A1 := hv
              subst hv1
              clear hV6 d6 V06 V16 hc6 hO6 HTr6 HNr6 HTb6 hT6 hB6 HE HS hv
              go_wp2_with fail
              refine HC.mono ?_
              rintro e w7 ⟨⟨er, rfl, hor⟩, hk⟩
              have HLo : Hid (LineOut wc w7 w.heap.size A1 (.returned (.int .i64 er)) 4 (addL c a (u :: ws))) := ⟨⟨er, rfl, hor⟩, hk⟩
              clear hor hk HC
              go_wp2_with fail
              go_meet
              case rel => exact ⟨er, rfl, HLo.out⟩
          · have HLn := hLine _ (by rw [if_neg hc1])
            have hci : (n : Int) ≠ 1 := by omega
            have hn2 : (1 : Int) ≤ (n : Int) := by omega
            clear hLine
            rcases HLn with ⟨rfl, HC⟩ | ⟨rfl, HC⟩ | ⟨rfl, HC⟩ | ⟨rfl, HC⟩
            · have hv1 : _ = fnR A1 := hv
              subst hv1
              clear hV6 d6 V06 V16 hc6 hO6 HTr6 HNr6 HTb6 hT6 hB6 HE HS hv
              go_wp2_with fail
              refine HC.mono ?_
              rintro e w7 ⟨⟨er, rfl, hor⟩, hk⟩
              have HLo : Hid (LineOut wc w7 w.heap.size A1 (.returned (.int .i64 er)) 1 (addL c a (u :: ws))) := ⟨⟨er, rfl, hor⟩, hk⟩
              clear hor hk HC
              go_wp2_with fail
              go_meet
              case rel => exact ⟨er, rfl, HLo.out⟩
            · have hv1 : _ = fnT A1 := hv
              subst hv1
              clear hV6 d6 V06 V16 hc6 hO6 HTr6 HNr6 HTb6 hT6 hB6 HE HS hv
              go_wp2_with fail
              refine HC.mono ?_
              rintro e w7 ⟨⟨er, rfl, hor⟩, hk⟩
              have HLo : Hid (LineOut wc w7 w.heap.size A1 (.returned (.int .i64 er)) 2 (addL c a (u :: ws))) := ⟨⟨er, rfl, hor⟩, hk⟩
              clear hor hk HC
              go_wp2_with fail
              go_meet
              case rel => exact ⟨er, rfl, HLo.out⟩
            · have hv1 : _ = fnP A1 := hv
              subst hv1
              clear hV6 d6 V06 V16 hc6 hO6 HTr6 HNr6 HTb6 hT6 hB6 HE HS hv
              go_wp2_with fail
              refine HC.mono ?_
              rintro e w7 ⟨⟨er, rfl, hor⟩, hk⟩
              have HLo : Hid (LineOut wc w7 w.heap.size A1 (.returned (.int .i64 er)) 3 (addL c a (u :: ws))) := ⟨⟨er, rfl, hor⟩, hk⟩
              clear hor hk HC
              go_wp2_with fail
              go_meet
              case rel => exact ⟨er, rfl, HLo.out⟩
            · have hv1 : _ = fnB A1 := hv
              subst hv1
              clear hV6 d6 V06 V16 hc6 hO6 HTr6 HNr6 HTb6 hT6 hB6 HE HS hv
              go_wp2_with fail
              refine HC.mono ?_
              rintro e w7 ⟨⟨er, rfl, hor⟩, hk⟩
              have HLo : Hid (LineOut wc w7 w.heap.size A1 (.returned (.int .i64 er)) 4 (addL c a (u :: ws))) := ⟨⟨er, rfl, hor⟩, hk⟩
              clear hor hk HC
              go_wp2_with fail
              go_meet
              case rel => exact ⟨er, rfl, HLo.out⟩
        case rest =>
          obtain ⟨er, rfl, ⟨er', he', hor⟩, hk1, hk2, hk3⟩ := hcut
          have hee : er = er' := by injection he' with h1; injection h1
          subst hee
          clear hLine he'
          have V07 := hk1 _ _ _ V06 (by decide) (by decide) (by decide)
          have hV7 := hk1 _ _ _ hV6 (by decide) (by decide) (by decide)
          have HTr7 := Lib.hid (HTr6.out.vals hk1)
          have HNr7 := Lib.hid (HNr6.out.maps hk2)
          have hB7 := hk3 _ _ hB6 (Nat.le_refl _) hA1w
          have HTb7 := Lib.hid (HTb0.out.below hB7 (Nat.le_refl _))
          have d7 : wc.cell? ⟨wr.heap.size, 0, none⟩ = some (.string (tx u)) := by
            rw [hV7.cell 0, ← hV6.cell 0]
            exact d6
          have HOr := Lib.hid hor
          clear hk1 hk2 hk3 V06 V16 hc6 hO6 HTr6 HNr6 HTb6 hB6 hT6 hV6 hV7 d6 hor
          rcases HOr.out with ⟨rfl, c', qs', va', vb', hadd, hVA, hc', hO'⟩ | ⟨hne, hadd⟩
          · have hX := HS.out _ _ hadd
            have HX : Hid (InvC c' j ∧ parseC (bs s) = goL c' j (k + 1) (ls.drop (k + 1))) := ⟨hX.1, hX.2.2⟩
            obtain ⟨_, _, rfl, _, _⟩ := Rs.of_own rfl hc'
            obtain ⟨_, _, rfl, _, _⟩ := hO'.lies
            obtain ⟨yj, hyj⟩ : ∃ yj, yj = tx (aheadT j) := ⟨_, rfl⟩
            rw [HJU.out, ← hyj] at d7
            have HYj := Lib.hid hyj
            clear hX hadd HOr HE HS hyj
            go_wp2_with fail
            go_roundw
            case rel => exact ⟨k + 1, j, c', qs', _, _, _, _, _, _, by omega, by go_num, by rw [HYj.out], hj4, V07, hVA, hc', hO', HTr7, HNr7, HTb7, hB7, HX⟩
            case measure => simp [intOf]; omega
          · have HWe := Lib.hid (HE.out _ hadd)
            have hne2 : (er != 0) = true := by simp [hne]
            clear hadd HOr HE HS HTr7 HNr7 HTb7 d7
            have q0 : wc.cell? ⟨A, 0, none⟩ = some (.slice none 0 0) := V07.cell 0
            have q1 : wc.cell? ⟨A, 1, none⟩ = some (.slice none 0 0) := V07.cell 1
            have q2 : wc.cell? ⟨A, 2, none⟩ = some (.int .i64 0) := V07.cell 2
            have q3 : wc.cell? ⟨A, 3, none⟩ = some (.int .i64 0) := V07.cell 3
            have g0 := V07.free 0
            have g1 := V07.free 1
            have g2 := V07.free 2
            have g3 := V07.free 3
            have hV5 := V07.four (.slice none 0 0) (.slice none 0 0) (.int .i64 0) (.int .i64 0)
            have hB5 := below_four hB7 hAw (.slice none 0 0) (.slice none 0 0) (.int .i64 0) (.int .i64 0)
            clear V07 hB7
            go_wp2_with fail
            refine bodyPost_ret (retC3 rfl rfl rfl rfl hV5) rfl ?_
            exact ⟨by rw [HWe.out]; exact ⟨none, 0, 0, none, 0, 0, rfl, Rs.nil _ _ _, Qs.nil _ _ _⟩, hB5⟩
    · obtain rfl : k = L := by omega
      have HF : Hid (parseC (bs s) = if a = 4 then (c, 0, 0) else (zC, k, 12)) := by
        show _ = _
        rw [HI.out.2, List.drop_eq_nil_of_le (by omega), goL]
      have hbw := beat_word a ha4
      obtain ⟨ya, hya⟩ : ∃ ya, ya = tx (aheadT a) := ⟨_, rfl⟩
      rw [← hya] at hbw ⊢
      clear HI HTr HNr HTb hya
      have q0 : wr.cell? ⟨A, 0, none⟩ = some (.slice none 0 0) := V0r.cell 0
      have q1 : wr.cell? ⟨A, 1, none⟩ = some (.slice none 0 0) := V0r.cell 1
      have q2 : wr.cell? ⟨A, 2, none⟩ = some (.int .i64 0) := V0r.cell 2
      have q3 : wr.cell? ⟨A, 3, none⟩ = some (.int .i64 0) := V0r.cell 3
      have g0 := V0r.free 0
      have g1 := V0r.free 1
      have g2 := V0r.free 2
      have g3 := V0r.free 3
      by_cases h4 : a = 4
      · have HW : Hid (parseC (bs s) = (c, 0, 0)) := by show _ = _; rw [HF.out, if_pos h4]
        have hbw2 : (ya.toList != [98, 101, 97, 116]) = false := by rw [hbw, h4]; rfl
        have hbw3 : (ya.toList == [98, 101, 97, 116]) = true := by simpa [bne] using hbw2
        clear HF h4 hbw
        have m0 : wr.cell? ⟨A1, 0, none⟩ = some (.slice o1 n1 c1) := V1r.cell 0
        have m1 : wr.cell? ⟨A1, 1, none⟩ = some (.slice o2 n2 c2) := V1r.cell 1
        have m2 : wr.cell? ⟨A1, 2, none⟩ = some (.int .i64 c.2.2.1) := V1r.cell 2
        have m3 : wr.cell? ⟨A1, 3, none⟩ = some (.int .i64 c.2.2.2) := V1r.cell 3
        have hV5 := V0r.four (.slice o1 n1 c1) (.slice o2 n2 c2) (.int .i64 c.2.2.1) (.int .i64 c.2.2.2)
        have hB5 := below_four hB hAw (.slice o1 n1 c1) (.slice o2 n2 c2) (.int .i64 c.2.2.1) (.int .i64 c.2.2.2)
        have hc5 := own_four hc V0r (by decide) (.slice o1 n1 c1) (.slice o2 n2 c2) (.int .i64 c.2.2.1) (.int .i64 c.2.2.2)
        have hO5 := hO.four V0r (.slice o1 n1 c1) (.slice o2 n2 c2) (.int .i64 c.2.2.1) (.int .i64 c.2.2.2)
        obtain ⟨_, _, ee, hRs, _⟩ := Rs.of_own rfl hc5
        cases ee
        obtain ⟨_, _, ee, hQs, _⟩ := hO5.lies
        cases ee
        have HR := Lib.hid hRs
        have HQ := Lib.hid hQs
        clear V0r V1r hB hc hO hc5 hO5 hRs hQs
        go_wp2_with fail
        refine bodyPost_ret (retC3 rfl rfl rfl rfl hV5) rfl ?_
        exact ⟨by rw [HW.out]; exact ⟨_, _, _, _, _, _, rfl, HR.out, HQ.out⟩, hB5⟩
      · have HW : Hid (parseC (bs s) = (zC, k, 12)) := by show _ = _; rw [HF.out, if_neg h4]
        have hbw2 : (ya.toList != [98, 101, 97, 116]) = true := by rw [hbw, decide_eq_false h4]; rfl
        have hbw3 : (ya.toList == [98, 101, 97, 116]) = false := by simpa [bne] using hbw2
        clear HF h4 hbw
        have hV5 := V0r.four (.slice none 0 0) (.slice none 0 0) (.int .i64 0) (.int .i64 0)
        have hB5 := below_four hB hAw (.slice none 0 0) (.slice none 0 0) (.int .i64 0) (.int .i64 0)
        clear V0r V1r hB hc hO
        go_wp2_with fail
        refine bodyPost_ret (retC3 rfl rfl rfl rfl hV5) rfl ?_
        exact ⟨by rw [HW.out, hL]; exact ⟨none, 0, 0, none, 0, 0, rfl, Rs.nil _ _ _, Qs.nil _ _ _⟩, hB5⟩
end Go.Proofs.YtbihaoibmkdfjaaGreatDoor
