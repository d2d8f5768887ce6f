/-
  The document's own: the config of a text.
-/
import Derived.Test.YtbihaoibmkdfjaaGreatDoorRfcI
namespace Go.Proofs.YtbihaoibmkdfjaaGreatDoor
open Go.RowKit Go.Shelf
set_option linter.unusedVariables false

/-- what is told of a text: its config, or its first line that is wrong, and why -/
def CfgOut (w : World) (e : Ending) (m : CfgL × Nat × Int) : Prop := ∃ (o1 : Option Addr) (n1 c1 : Nat) (o2 : Option Addr) (n2 c2 : Nat), e = .returned (.tuple #[.agg (cfgV (.slice o1 n1 c1) (.slice o2 n2 c2) m.1.2.2.1 m.1.2.2.2), .int .i64 (m.2.1 : Int), .int .i64 m.2.2]) ∧ Rs w o1 n1 c1 m.1.1 ∧ Qs w o2 n2 c2 m.1.2.1
theorem drop_at (l : List (List UInt8)) (k : Nat) (hk : k < l.length) : l.drop k = l.getD k [] :: l.drop (k + 1) := by
  rw [List.drop_eq_getElem_cons hk, List.getD_eq_getElem?_getD, List.getElem?_eq_getElem hk]
  rfl
theorem lines_sizes (l : List UInt8) : ∀ acc, (∀ v ∈ linesW acc l, v.length ≤ acc.length + l.length) ∧ (linesW acc l).length ≤ l.length + 1 := by
  induction l with
  | nil =>
    intro acc
    rw [linesW]
    split
    · simp
    · simp
  | cons c l ih =>
    intro acc
    rw [linesW]
    split
    · have := ih []
      refine ⟨fun v hv => ?_, by simp; omega⟩
      rcases List.mem_cons.1 hv with rfl | hv
      · simp
      · have := this.1 v hv; simp at this ⊢; omega
    · have := ih (acc ++ [c])
      refine ⟨fun v hv => ?_, by have := this.2; simp; omega⟩
      have := this.1 v hv
      simp at this ⊢
      omega
/-- one row has grown: what stands beside it -/
theorem GrownOne.keeps {w w' : World} {base nl : Nat} {va vb vl : Value} {n1 : Nat} {x1 : List Value} {l : List T2} {qs : List (Value × Value)} {xl : List Value} {bl : Nat} (h : GrownOne w w' va vb) (hc : w.ownsRow base 52 9 va n1 x1) (hO : Own2 w base vb l qs) (hL : w.ownsRow bl 9 1 vl nl xl) :
    w'.ownsRow bl 9 1 vl nl xl ∧ (∀ (A : Nat) (cs : Array Value), Vals w A 25 cs → Vals w' A 25 cs) ∧ (∀ (B : Nat) (u : World), Below B u w → B ≤ base → B ≤ w.heap.size → Below B u w') ∧ w.heap.size ≤ w'.heap.size := by
  obtain ⟨row, rfl | rfl, hg⟩ := h
  · exact ⟨own_other hL hc (by decide) hg, fun A cs hV => hV.grown hc (by decide) hg, fun B u hB h1 h2 => hB.grown hg h2 (fun r e => by have := (hc.lt r e).1; omega), hg.size⟩
  · exact ⟨own_other hL hO.own (by decide) hg, fun A cs hV => hV.grown hO.own (by decide) hg, fun B u hB h1 h2 => hB.grown hg h2 (fun r e => by have := (hO.own.lt r e).1; omega), hg.size⟩
set_option maxRecDepth 100000 in
set_option maxHeartbeats 12800000 in
theorem refParseC_any (s : ByteArray) (w : World) (hs : s.size ≤ 10000) :
    Calls Tryz.prog 7 #[.string s] w fun e w' => CfgOut w' e (parseC (bs s)) ∧ Below w.heap.size w w' := by
  have HL := fun w => refLines_any s w (by omega)
  have HP : Hid (parseC (bs s) = goL zC 0 0 (linesB (bs s))) := rfl
  have hsz := lines_sizes (bs s) []
  have hbl : (bs s).length = s.size := Array.length_toList
  change (∀ v ∈ linesB (bs s), _) ∧ (linesB (bs s)).length ≤ _ at hsz
  generalize linesB (bs s) = ls at *
  have HZ : Hid (∀ v ∈ ls, v.length ≤ 10000) := fun v hv => by have := hsz.1 v hv; simp at this; omega
  have hln : ls.length ≤ 10001 := by have := hsz.2; omega
  clear hsz hbl
  have V0 := (Vals.new w 25 (cfgV (.slice none 0 0) (.slice none 0 0) 0 0)).alloc (.cells (cfgV (.slice none 0 0) (.slice none 0 0) 0 0) 25)
  have V1 := Vals.new (w.alloc (.cells (cfgV (.slice none 0 0) (.slice none 0 0) 0 0) 25)) 25 (cfgV (.slice none 0 0) (.slice none 0 0) 0 0)
  have B1 := Below.of_alloc2 (w := w) (.cells (cfgV (.slice none 0 0) (.slice none 0 0) 0 0) 25) (.cells (cfgV (.slice none 0 0) (.slice none 0 0) 0 0) 25)
  have hzz : (w.alloc (.cells (cfgV (.slice none 0 0) (.slice none 0 0) 0 0) 25)).heap.size = w.heap.size + 1 := by simp
  rw [hzz] at V1
  obtain ⟨A, hA⟩ : ∃ A, A = w.heap.size := ⟨_, rfl⟩
  obtain ⟨A1, hA1⟩ : ∃ A1, A1 = w.heap.size + 1 := ⟨_, rfl⟩
  go_enter Tryz.func7, Tryz.ntmps7
  go_upto_region 3 with fail
  rw [← hA1]
  rw [← hA1] at V1
  have hA1w : w.heap.size ≤ A1 := by omega
  have hAw : w.heap.size ≤ A := by omega
  have hAA : A ≠ A1 := by omega
  rw [← hA] at V0 ⊢
  clear hA hA1 hzz
  generalize (w.alloc (.cells (cfgV (.slice none 0 0) (.slice none 0 0) 0 0) 25)).alloc (.cells (cfgV (.slice none 0 0) (.slice none 0 0) 0 0) 25) = w1 at *
  have HL1 := HL w1
  clear HL
  obtain ⟨L, hL⟩ : ∃ L, L = ls.length := ⟨_, rfl⟩
  rw [← hL] at HL1
  go_wp2_with fail
  refine HL1.mono ?_
  rintro e w2 ⟨⟨oa, cap, rfl, hT, hcap, hown⟩, B2⟩
  have V02 := V0.keep B2 (Nat.le_refl _)
  have V12 := V1.keep B2 (Nat.le_refl _)
  have Bw := B1.trans (B2.mono B1.size)
  have hr := hT.room
  have hbl2 : w.heap.size ≤ w1.heap.size := B1.size
  clear V0 V1 B1 B2 HL1 hT
  go_wp2_with fail
  go_loopw [6, 18] (fun s6 s18 wr => ∃ (k a : Nat) (c : CfgL) (qs : List (Value × Value)) (o1 : Option Addr) (n1 c1 : Nat) (o2 : Option Addr) (n2 c2 : Nat), k ≤ L ∧ s18 = .int .i64 k ∧ s6 = .int .i64 a ∧ a ≤ 4 ∧ Vals wr A 25 (cfgV (.slice none 0 0) (.slice none 0 0) 0 0) ∧ Vals wr A1 25 (cfgV (.slice o1 n1 c1) (.slice o2 n2 c2) c.2.2.1 c.2.2.2) ∧
    wr.ownsRow w.heap.size 52 9 (.slice o1 n1 c1) c.1.length (cellsR c.1) ∧ Own2 wr w.heap.size (.slice o2 n2 c2) c.2.1 qs ∧ wr.ownsRow w1.heap.size 9 1 (.slice oa L cap) L (cellsT (ls.map tx)) ∧ Below w.heap.size w wr ∧ Hid (InvC c a ∧ parseC (bs s) = goL c a k (ls.drop k))) (fun _ s18 _ => L - (intOf s18).toNat)
  case atStart => exact ⟨0, 0, zC, [], none, 0, 0, none, 0, 0, Nat.zero_le _, rfl, rfl, by omega, V02, V12, World.ownsRow_nil _ _ _ _, Own2.nil _ _, hown, Bw, inv_zero, by rw [HP.out]; rfl⟩
  case round =>
    obtain ⟨k, a, c, qs, o1, n1, c1, o2, n2, c2, hk, rfl, rfl, ha4, V0r, V1r, hc, hO, hLr, hB, HI⟩ := hrel
    clear V02 V12 hown Bw HP
    obtain ⟨_, _, ee, hT, _⟩ := Ts.of_own (by rw [List.length_map]; exact hL.symm) hLr
    cases ee
    by_cases hlt : k < L
    · have hIc := HI.out.1
      obtain ⟨g, o, rfl, c0⟩ := hT.cell k hlt
      rw [ws_at ls k (by omega)] at c0
      have hz : (tx (ls.getD k [])).size ≤ 10000 := by rw [tx_size]; exact HZ.out _ (ws_mem ls k (by omega))
      have HA := refAdd_any c qs (.slice o1 n1 c1) (.slice o2 n2 c2) a (tx (ls.getD k [])) w.heap.size wr hc hO hIc.1.2.2 hIc.2.1.2 hz hB.size ha4
      rw [show bs (tx (ls.getD k [])) = ls.getD k [] from tx_data _] at HA
      have hdr := drop_at ls k (by omega)
      have HE : Hid (∀ er, addL c a (splitW [] (ls.getD k [])) = .error er → parseC (bs s) = (zC, k, er)) := fun er h => by rw [HI.out.2, hdr, goL_error h]
      have HS : Hid (∀ c' a2, addL c a (splitW [] (ls.getD k [])) = .ok (c', a2) → InvC c' a2 ∧ a2 ≤ 4 ∧ parseC (bs s) = goL c' a2 (k + 1) (ls.drop (k + 1))) := fun c' a2 h => ⟨(inv_step hIc h).1, (inv_step hIc h).2.1, by rw [HI.out.2, hdr, goL_ok h]⟩
      clear HI hIc hdr hT
      generalize splitW [] (ls.getD k []) = vs at *
      generalize tx (ls.getD k []) = y at *
      have p0 : wr.cell? ⟨A1, 0, none⟩ = some (.slice o1 n1 c1) := V1r.cell 0
      have p1 : wr.cell? ⟨A1, 1, none⟩ = some (.slice o2 n2 c2) := V1r.cell 1
      have p2 : wr.cell? ⟨A1, 2, none⟩ = some (.int .i64 c.2.2.1) := V1r.cell 2
      have p3 : wr.cell? ⟨A1, 3, none⟩ = some (.int .i64 c.2.2.2) := V1r.cell 3
      go_wp2_with fail
      refine HA.mono ?_
      rintro e w5 ⟨⟨e1, f1, d1, e2, f2, d2, x, x2, a', er, rfl, hor⟩, hg⟩
      obtain ⟨hL5, hV5, hBl, hs5⟩ := GrownOne.keeps hg hc hO hLr
      have V05 := hV5 A _ V0r
      have V15 := hV5 A1 _ V1r
      have Bw5 := hBl w.heap.size w hB (Nat.le_refl _) hB.size
      have V06 := V05.alloc (.cells (cfgV (.slice e1 f1 d1) (.slice e2 f2 d2) x x2) 25)
      have V16 := V15.alloc (.cells (cfgV (.slice e1 f1 d1) (.slice e2 f2 d2) x x2) 25)
      have VN := Vals.new w5 25 (cfgV (.slice e1 f1 d1) (.slice e2 f2 d2) x x2)
      have B6 := Bw5.alloc Bw5.size (.cells (cfgV (.slice e1 f1 d1) (.slice e2 f2 d2) x x2) 25)
      have hL6 := hL5.alloc (.cells (cfgV (.slice e1 f1 d1) (.slice e2 f2 d2) x x2) 25)
      have HOr : Hid ((er = 0 ∧ ∃ (c' : CfgL) (a2 : Nat) (qs' : List (Value × Value)), addL c a vs = .ok (c', a2) ∧ a' = (a2 : Int) ∧ x = c'.2.2.1 ∧ x2 = c'.2.2.2 ∧ (w5.alloc (.cells (cfgV (.slice e1 f1 d1) (.slice e2 f2 d2) x x2) 25)).ownsRow w.heap.size 52 9 (.slice e1 f1 d1) c'.1.length (cellsR c'.1) ∧ Own2 (w5.alloc (.cells (cfgV (.slice e1 f1 d1) (.slice e2 f2 d2) x x2) 25)) w.heap.size (.slice e2 f2 d2) c'.2.1 qs') ∨ (er ≠ 0 ∧ addL c a vs = .error er)) := by
        rcases hor with ⟨h1, c', a2, qs', h2, h3, h4, h5, h6, h7⟩ | h1
        · exact .inl ⟨h1, c', a2, qs', h2, h3, h4, h5, h6.alloc _, h7.keep (below_alloc w5 _)⟩
        · exact .inr h1
      clear hor hL5 hV5 hBl V0r V1r V05 V15 Bw5 hg HA hc hO hLr c0 hB p0 p1 p2 p3
      go_upto_region 8 with fail
      generalize w5.alloc (.cells (cfgV (.slice e1 f1 d1) (.slice e2 f2 d2) x x2) 25) = w6 at *
      generalize w5.heap.size = N at *
      have n0 : w6.cell? ⟨N, 0, none⟩ = some (.slice e1 f1 d1) := VN.cell 0
      have n1' : w6.cell? ⟨N, 1, none⟩ = some (.slice e2 f2 d2) := VN.cell 1
      have n2' : w6.cell? ⟨N, 2, none⟩ = some (.int .i64 x) := VN.cell 2
      have n3 : w6.cell? ⟨N, 3, none⟩ = some (.int .i64 x2) := VN.cell 3
      rcases HOr.out with ⟨rfl, c', a2, qs', hadd, rfl, rfl, rfl, hc', hO'⟩ | ⟨hne, hadd⟩
      · have hX := HS.out _ _ hadd
        have ha2 : a2 ≤ 4 := hX.2.1
        have HX : Hid (InvC c' a2 ∧ parseC (bs s) = goL c' a2 (k + 1) (ls.drop (k + 1))) := ⟨hX.1, hX.2.2⟩
        clear hX hadd HOr HE HS
        have m0 : w6.cell? ⟨A1, 0, none⟩ = some (.slice o1 n1 c1) := V16.cell 0
        have m1 : w6.cell? ⟨A1, 1, none⟩ = some (.slice o2 n2 c2) := V16.cell 1
        have m2 : w6.cell? ⟨A1, 2, none⟩ = some (.int .i64 c.2.2.1) := V16.cell 2
        have m3 : w6.cell? ⟨A1, 3, none⟩ = some (.int .i64 c.2.2.2) := V16.cell 3
        have g0 := V16.free 0
        have g1 := V16.free 1
        have g2 := V16.free 2
        have g3 := V16.free 3
        have V1n := V16.four (.slice e1 f1 d1) (.slice e2 f2 d2) (.int .i64 c'.2.2.1) (.int .i64 c'.2.2.2)
        have V0n : Vals ((((w6.setCell ⟨A1, 0, none⟩ (.slice e1 f1 d1)).setCell ⟨A1, 1, none⟩ (.slice e2 f2 d2)).setCell ⟨A1, 2, none⟩ (.int .i64 c'.2.2.1)).setCell ⟨A1, 3, none⟩ (.int .i64 c'.2.2.2)) A 25 (cfgV (.slice none 0 0) (.slice none 0 0) 0 0) := (((V06.other hAA 0 _).other hAA 1 _).other hAA 2 _).other hAA 3 _
        have hcn := own_four hc' V16 (by decide) (.slice e1 f1 d1) (.slice e2 f2 d2) (.int .i64 c'.2.2.1) (.int .i64 c'.2.2.2)
        have hOn := hO'.four V16 (.slice e1 f1 d1) (.slice e2 f2 d2) (.int .i64 c'.2.2.1) (.int .i64 c'.2.2.2)
        have hLn := own_four hL6 V16 (by decide) (.slice e1 f1 d1) (.slice e2 f2 d2) (.int .i64 c'.2.2.1) (.int .i64 c'.2.2.2)
        have Bn := below_four B6 hA1w (.slice e1 f1 d1) (.slice e2 f2 d2) (.int .i64 c'.2.2.1) (.int .i64 c'.2.2.2)
        go_upto_region 11 with fail
        clear V06 V16 VN B6 hL6 hc' hO' n0 n1' n2' n3 m0 m1 m2 m3 g0 g1 g2 g3
        generalize (((w6.setCell ⟨A1, 0, none⟩ (.slice e1 f1 d1)).setCell ⟨A1, 1, none⟩ (.slice e2 f2 d2)).setCell ⟨A1, 2, none⟩ (.int .i64 c'.2.2.1)).setCell ⟨A1, 3, none⟩ (.int .i64 c'.2.2.2) = w9 at *
        go_wp2_with fail
        go_roundw
        case rel => exact ⟨k + 1, a2, c', qs', e1, f1, d1, e2, f2, d2, by omega, by go_num, rfl, ha2, V0n, V1n, hcn, hOn, hLn, Bn, HX⟩
        case measure => simp [intOf]; omega
      · have HW := Lib.hid (HE.out _ hadd)
        have hne2 : (er != 0) = true := by simp [hne]
        clear hadd HOr HE HS
        have q0 : w6.cell? ⟨A, 0, none⟩ = some (.slice none 0 0) := V06.cell 0
        have q1 : w6.cell? ⟨A, 1, none⟩ = some (.slice none 0 0) := V06.cell 1
        have q2 : w6.cell? ⟨A, 2, none⟩ = some (.int .i64 0) := V06.cell 2
        have q3 : w6.cell? ⟨A, 3, none⟩ = some (.int .i64 0) := V06.cell 3
        have g0 := V06.free 0
        have g1 := V06.free 1
        have g2 := V06.free 2
        have g3 := V06.free 3
        have hV5 := V06.four (.slice none 0 0) (.slice none 0 0) (.int .i64 0) (.int .i64 0)
        have hB5 := below_four B6 hAw (.slice none 0 0) (.slice none 0 0) (.int .i64 0) (.int .i64 0)
        clear V06 V16 VN B6 hL6
        go_wp2_with fail
        refine bodyPost_ret (retC3 rfl rfl rfl rfl hV5) rfl ?_
        exact ⟨by rw [HW.out]; exact ⟨none, 0, 0, none, 0, 0, rfl, Rs.nil _ _ _, Qs.nil _ _ _⟩, hB5⟩
    · obtain rfl : k = L := by omega
      have HF : Hid (parseC (bs s) = if a = 4 then (c, 0, 0) else (zC, k, 12)) := by
        show _ = _
        rw [HI.out.2, List.drop_eq_nil_of_le (by omega), goL]
      clear HI hT hLr
      have q0 : wr.cell? ⟨A, 0, none⟩ = some (.slice none 0 0) := V0r.cell 0
      have q1 : wr.cell? ⟨A, 1, none⟩ = some (.slice none 0 0) := V0r.cell 1
      have q2 : wr.cell? ⟨A, 2, none⟩ = some (.int .i64 0) := V0r.cell 2
      have q3 : wr.cell? ⟨A, 3, none⟩ = some (.int .i64 0) := V0r.cell 3
      have g0 := V0r.free 0
      have g1 := V0r.free 1
      have g2 := V0r.free 2
      have g3 := V0r.free 3
      by_cases h4 : a = 4
      · have HW : Hid (parseC (bs s) = (c, 0, 0)) := by show _ = _; rw [HF.out, if_pos h4]
        have h4i : ((a : Int) != 4) = false := by simp; omega
        clear HF h4
        have m0 : wr.cell? ⟨A1, 0, none⟩ = some (.slice o1 n1 c1) := V1r.cell 0
        have m1 : wr.cell? ⟨A1, 1, none⟩ = some (.slice o2 n2 c2) := V1r.cell 1
        have m2 : wr.cell? ⟨A1, 2, none⟩ = some (.int .i64 c.2.2.1) := V1r.cell 2
        have m3 : wr.cell? ⟨A1, 3, none⟩ = some (.int .i64 c.2.2.2) := V1r.cell 3
        have hV5 := V0r.four (.slice o1 n1 c1) (.slice o2 n2 c2) (.int .i64 c.2.2.1) (.int .i64 c.2.2.2)
        have hB5 := below_four hB hAw (.slice o1 n1 c1) (.slice o2 n2 c2) (.int .i64 c.2.2.1) (.int .i64 c.2.2.2)
        have hc5 := own_four hc V0r (by decide) (.slice o1 n1 c1) (.slice o2 n2 c2) (.int .i64 c.2.2.1) (.int .i64 c.2.2.2)
        have hO5 := hO.four V0r (.slice o1 n1 c1) (.slice o2 n2 c2) (.int .i64 c.2.2.1) (.int .i64 c.2.2.2)
        obtain ⟨_, _, ee, hRs, _⟩ := Rs.of_own rfl hc5
        cases ee
        obtain ⟨_, _, ee, hQs, _⟩ := hO5.lies
        cases ee
        have HR := Lib.hid hRs
        have HQ := Lib.hid hQs
        clear V0r V1r hB hc hO hc5 hO5 hRs hQs
        go_wp2_with fail
        refine bodyPost_ret (retC3 rfl rfl rfl rfl hV5) rfl ?_
        exact ⟨by rw [HW.out]; exact ⟨_, _, _, _, _, _, rfl, HR.out, HQ.out⟩, hB5⟩
      · have HW : Hid (parseC (bs s) = (zC, k, 12)) := by show _ = _; rw [HF.out, if_neg h4]
        have h4i : ((a : Int) != 4) = true := by simp; omega
        clear HF h4
        have hV5 := V0r.four (.slice none 0 0) (.slice none 0 0) (.int .i64 0) (.int .i64 0)
        have hB5 := below_four hB hAw (.slice none 0 0) (.slice none 0 0) (.int .i64 0) (.int .i64 0)
        clear V0r V1r hB hc hO
        go_wp2_with fail
        refine bodyPost_ret (retC3 rfl rfl rfl rfl hV5) rfl ?_
        exact ⟨by rw [HW.out, hL]; exact ⟨none, 0, 0, none, 0, 0, rfl, Rs.nil _ _ _, Qs.nil _ _ _⟩, hB5⟩
end Go.Proofs.YtbihaoibmkdfjaaGreatDoor
