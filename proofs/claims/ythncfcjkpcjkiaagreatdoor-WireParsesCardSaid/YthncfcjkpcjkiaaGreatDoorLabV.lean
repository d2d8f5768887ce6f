/-
  The document's own answer: labels in order, one set in after another.
-/
import Derived.Test.YthncfcjkpcjkiaaGreatDoorLApp
import Derived.Test.YthncfcjkpcjkiaaGreatDoorLabT
namespace Go.Proofs.YthncfcjkpcjkiaaGreatDoor
open Go.RowKit Go.Shelf
set_option linter.unusedVariables false

/-- whether it stands ahead of one of them -/
def anyLt (x : L2) (l : List L2) : Bool := l.any fun y => ltS x.1 y.1
/-- what has been laid of the next row -/
def insP (x : L2) (l : List L2) : List L2 := if anyLt x l = true then insL x l else l
theorem anyLt_snoc (x y : L2) (l : List L2) : anyLt x (l ++ [y]) = (anyLt x l || ltS x.1 y.1) := by unfold anyLt; simp
theorem insP_after (x y : L2) (l : List L2) (h : anyLt x l = true) : insP x (l ++ [y]) = insP x l ++ [y] := by
  unfold insP
  rw [anyLt_snoc, h, if_pos (by simp), if_pos rfl, insL_some x l [y] h]
theorem insP_here (x y : L2) (l : List L2) (h : anyLt x l = false) (hy : ltS x.1 y.1 = true) : insP x (l ++ [y]) = insP x l ++ [x] ++ [y] := by
  unfold insP
  rw [anyLt_snoc, h, hy, if_pos (by simp), if_neg (by simp), insL_hit x y l h hy]
theorem insP_before (x y : L2) (l : List L2) (h : anyLt x l = false) (hy : ltS x.1 y.1 = false) : insP x (l ++ [y]) = insP x l ++ [y] := by
  unfold insP
  rw [anyLt_snoc, h, hy, if_neg (by simp), if_neg (by simp)]
theorem insP_done (x : L2) (l : List L2) (h : anyLt x l = true) : insP x l = insL x l := by unfold insP; rw [if_pos h]
theorem insP_last (x : L2) (l : List L2) (h : anyLt x l = false) : insP x l ++ [x] = insL x l := by
  unfold insP
  rw [if_neg (by simp [h]), insL_none x l h]
theorem own_len {w : World} {base : Nat} {v : Value} {n m : Nat} {xs : List Value} {e : TypeId} {z : Nat} (h : w.ownsRow base e z v n xs) (hm : n = m) : w.ownsRow base e z v m xs := hm ▸ h
theorem split_at (l : List L2) (k : Nat) (hk : k < l.length) : l = l.take k ++ l.getD k zL :: l.drop (k + 1) := by
  rw [getD_L l k hk]
  exact (List.take_append_drop k l).symm.trans (by rw [List.drop_eq_getElem_cons hk])
set_option maxRecDepth 100000 in
set_option maxHeartbeats 4000000 in
theorem refSort_any (oa : Option Addr) (n cap : Nat) (l : List L2) (w : World) (h : Ls w oa n cap l) (hn : n ≤ 300) (hS : ShortL l) :
    Calls Tryz.prog 51 #[.slice oa n cap] w fun e w' => SortOut w' l e ∧ Below w.heap.size w w' := by
  have hl := h.len
  have hr := h.room
  have HF : Hid (sortF l = if posB l = true then (if riseB (sortL l) = true then (sortL l, 0) else ([], 11)) else ([], 1)) := rfl
  have HT := refEach_any oa n cap l w h (by omega) hS
  clear hS
  cases hb : posB l with
  | false =>
    have HF2 : Hid (sortF l = ([], 1)) := by show _ = _; rw [HF.out, hb]; rfl
    rw [hb] at HT
    clear h hb HF hl
    go_enter Tryz.func51, Tryz.ntmps51
    go_wp2_with fail
    refine HT.mono ?_
    rintro e w1 ⟨rfl, B1⟩
    go_wp2_with fail
    go_ret2
    exact ⟨⟨_, _, _, by rw [HF2.out]; rfl, by rw [HF2.out]; exact Ls.nil _ _ _, Nat.zero_le _⟩, B1⟩
  | true =>
    have HF2 : Hid (sortF l = if riseB (sortL l) = true then (sortL l, 0) else ([], 11)) := by show _ = _; rw [HF.out, hb]; rfl
    rw [hb] at HT
    clear hb HF
    go_enter Tryz.func51, Tryz.ntmps51
    go_wp2_with fail
    refine HT.mono ?_
    rintro e w1 ⟨rfl, B1⟩
    have own0 : (w1.alloc (.cells #[] 52)).ownsRow w.heap.size 52 2 (.slice (some ⟨w1.heap.size, 0, none⟩) 0 0) 0 (cellsL (sortL [])) := World.ownsRow_made w1 #[] 0 B1.size (Nat.zero_le _) (by simp)
    have B2 := B1.alloc B1.size (.cells #[] 52)
    clear B1 HT
    go_wp2_with fail
    generalize w1.alloc (.cells #[] 52) = w2 at *
    go_loopw [4, 6, 7, 8, 10, 17] (fun s4 _ _ _ _ s17 wr => ∃ k : Nat, k ≤ n ∧ s17 = .int .i64 k ∧ wr.ownsRow w.heap.size 52 2 s4 k (cellsL (sortL (l.take k))) ∧ Below w.heap.size w wr ∧ Hid (Strict (sortL (l.take k)))) (fun _ _ _ _ _ s17 _ => n - (intOf s17).toNat)
    case atStart => exact ⟨0, Nat.zero_le _, rfl, by simpa using own0, B2, List.Pairwise.nil⟩
    case round =>
      clear own0 B2
      obtain ⟨k, hk, rfl, hown, hB, HSt⟩ := hrel
      by_cases hlt : k < n
      · obtain ⟨g0, o0, rfl, c0, c1⟩ := (h.below hB (Nat.le_refl _)).cell k hlt
        have HTk := Lib.hid (takeL_next l k (by omega))
        have HSn := Lib.hid (sortL_snoc (l.take k) (l.getD k zL))
        rw [← HTk.out] at HSn
        have HTw : Hid (∀ y ∈ sortL (l.take k), (l.getD k zL).1 = y.1 → sortF l = ([], 11)) := fun y hy e => by
          rw [HF2.out, split_at l k (by omega), twice_not _ _ _ y hy e]
          rfl
        have HLen : Hid ((sortL (l.take k)).length = k) := by show _ = _; rw [sortL_length, List.length_take]; omega
        generalize hoN : sortL (l.take (k + 1)) = outN at *
        have HoN := Lib.hid hoN
        clear hoN
        generalize sortL (l.take k) = out at *
        generalize l.getD k zL = x at *
        obtain ⟨oo, co, rfl, hDo, hmo⟩ := Ls.of_own HLen.out hown
        obtain ⟨a, i⟩ := x
        dsimp only at c0 c1 HTw
        have hsB := hB.size
        have hro := hDo.room
        have HG : Hid (∀ g o, oo = some ⟨g, o, none⟩ → 0 < k → g < wr.heap.size) := fun g o e h0 => by
          obtain ⟨g2, o2, e2, k2, _⟩ := hDo.cell 0 h0
          rw [e] at e2
          cases e2
          exact World.block_lt_of_cell? _ _ k2
        obtain ⟨wa, hwa⟩ : ∃ wa, wa = wr.alloc (.cells #[.string a, .string i] 52) := ⟨_, rfl⟩
        have zwa : wa.heap.size = wr.heap.size + 1 := by subst hwa; simp
        have ha0 : wa.cell? ⟨wr.heap.size, 0, none⟩ = some (.string a) := by subst hwa; simp
        have ha1 : wa.cell? ⟨wr.heap.size, 1, none⟩ = some (.string i) := by subst hwa; simp
        have Ba : Below w.heap.size w wa := by subst hwa; exact hB.alloc hsB _
        have hDa : Ls wa oo k co out := by subst hwa; exact hDo.below ((Below.refl wr.heap.size wr).alloc (Nat.le_refl _) _) (Nat.le_refl _)
        have HBwa := Lib.hid hwa
        obtain ⟨wb, hwb⟩ : ∃ wb, wb = wa.alloc (.cells #[] 52) := ⟨_, rfl⟩
        have zwb : wb.heap.size = wa.heap.size + 1 := by subst hwb; simp
        have Bb : Below wa.heap.size wa wb := by subst hwb; exact (Below.refl _ wa).alloc (Nat.le_refl _) _
        have ownb : wb.ownsRow wa.heap.size 52 2 (.slice (some ⟨wa.heap.size, 0, none⟩) 0 0) 0 (cellsL (insP (a, i) [])) := by subst hwb; exact World.ownsRow_made wa #[] 0 (Nat.le_refl _) (Nat.zero_le _) (by simp)
        rw [zwa] at ownb Bb
        have HBwb := Lib.hid hwb
        clear hown hDo hwa hwb
        have Hh := Lib.hid h
        have Hl := Lib.hid hl
        clear h hl
        go_wp2_with fail
        rw [← HBwa.out, ← HBwb.out]
        clear HBwa HBwb c0 c1
        have hsBd : w.heap.size ≤ wr.heap.size := hsB
        generalize wr.heap.size = Bd at *
        clear hB hsB
        have hDb := hDa.below Bb (by omega)
        have hb0 := (Bb.cell (p := ⟨Bd, 0, none⟩) (by show Bd < Bd + 1; omega)).trans ha0
        have hb1 := (Bb.cell (p := ⟨Bd, 1, none⟩) (by show Bd < Bd + 1; omega)).trans ha1
        have Bw : Below w.heap.size w wb := Ba.trans (Bb.mono (by omega))
        clear ha0 ha1 hDa Ba Bb
        go_loopw [7, 8, 10, 24] (fun s7 s8 _ s24 wx => ∃ (j : Nat) (d : Bool), j ≤ k ∧ s24 = .int .i64 j ∧ s8 = .bool d ∧ Hid (d = anyLt (a, i) (out.take j)) ∧ wx.ownsRow (Bd + 1) 52 2 s7 (insP (a, i) (out.take j)).length (cellsL (insP (a, i) (out.take j))) ∧ Below (Bd + 1) wb wx ∧ Hid (∀ y ∈ out.take j, a ≠ y.1)) (fun _ _ _ s24 _ => k - (intOf s24).toNat)
        case atStart => exact ⟨0, false, Nat.zero_le _, rfl, rfl, rfl, by simpa [insP, anyLt] using ownb, Below.refl _ _, fun y hy => absurd hy (by simp)⟩
        case round =>
          obtain ⟨j, d, hj, rfl, rfl, HD, ownx, hBx, HNe⟩ := hrel
          clear ownb
          have q0 := (hBx.cell (p := ⟨Bd, 0, none⟩) (by show Bd < Bd + 1; omega)).trans hb0
          have q1 := (hBx.cell (p := ⟨Bd, 1, none⟩) (by show Bd < Bd + 1; omega)).trans hb1
          have zx := hBx.size
          have hBw := Bw.trans (hBx.mono (by omega))
          by_cases hjk : j < k
          · obtain ⟨g', o', rfl, k0, k1⟩ := hDb.cell j hjk
            have hgb := World.block_lt_of_cell? _ _ k0
            have HTj := Lib.hid (takeL_next out j (by rw [HLen.out]; exact hjk))
            have hy : out.getD j zL ∈ out := by rw [getD_L out j (by rw [HLen.out]; exact hjk)]; exact List.getElem_mem _
            have HTy := Lib.hid (HTw.out _ hy)
            have HAf := Lib.hid (insP_after (a, i) (out.getD j zL) (out.take j))
            have HHe := Lib.hid (insP_here (a, i) (out.getD j zL) (out.take j))
            have HBe := Lib.hid (insP_before (a, i) (out.getD j zL) (out.take j))
            have HAn := Lib.hid (anyLt_snoc (a, i) (out.getD j zL) (out.take j))
            have HNy : Hid (a ≠ (out.getD j zL).1 → ∀ y ∈ out.take (j + 1), a ≠ y.1) := fun hne y hy => by
              rw [HTj.out, List.mem_append] at hy
              rcases hy with hy | hy
              · exact HNe.out y hy
              · rw [List.mem_singleton] at hy
                rw [hy]
                exact hne
            rw [← HTj.out] at HAf HHe HBe HAn
            clear hy HTj HTw HNe
            have hgB := HG.out g' o' rfl (by omega)
            have k0' := (hBx.cell (p := ⟨g', o' + j * 2, none⟩) (show g' < Bd + 1 by omega)).trans k0
            have k1' := (hBx.cell (p := ⟨g', o' + j * 2 + 1, none⟩) (show g' < Bd + 1 by omega)).trans k1
            clear k0 k1 hgB hgb hDb hb0 hb1
            generalize out.getD j zL = y at *
            generalize hPj : insP (a, i) (out.take j) = Pj at *
            generalize hPn : insP (a, i) (out.take (j + 1)) = Pn at *
            obtain ⟨b, u⟩ := y
            dsimp only at k0' k1' HTy HAf HHe HBe HAn HNy
            have zn : Bd < wr.heap.size := by omega
            have zw : w.heap.size ≤ wr.heap.size := hBw.size
            have HPl : Hid (Pj.length ≤ j + 1) := by
              show _ ≤ _
              rw [← hPj]
              unfold insP
              split
              · rw [(insL_perm _ _).length_eq]; simp; omega
              · simp; omega
            have HPnn := Lib.hid hPn
            clear hPj hPn
            have zx1 : Bd + 1 ≤ wr.heap.size := by omega
            have e0 : (wr.alloc (.cells #[.string b, .string u] 52)).cell? ⟨wr.heap.size, 0, none⟩ = some (.string b) := by simp
            have e1 : (wr.alloc (.cells #[.string b, .string u] 52)).cell? ⟨wr.heap.size, 1, none⟩ = some (.string u) := by simp
            have q0' := fun o => (((Below.refl _ wr).alloc (Nat.le_refl _) o).cell (p := ⟨Bd, 0, none⟩) zn).trans q0
            have q1' := fun o => (((Below.refl _ wr).alloc (Nat.le_refl _) o).cell (p := ⟨Bd, 1, none⟩) zn).trans q1
            clear q0 q1
            cases heq : (a.toList == b.toList) with
            | true =>
              have HX := Lib.hid (HTy.out (toList_inj (by simpa using heq)))
              clear HTy HAf HHe HBe HAn HNy ownx
              go_wp2_with fail
              go_ret2
              exact ⟨⟨_, _, _, by rw [HX.out]; rfl, by rw [HX.out]; exact Ls.nil _ _ _, Nat.zero_le _⟩, hBw.alloc hBw.size _⟩
            | false =>
              have hne : a ≠ b := fun e => by rw [e] at heq; simp at heq
              have HLt : Hid (ltS a b = Op.bytesLess a.toList b.toList) := rfl
              clear HTy
              cases hd : d with
              | true =>
                subst hd
                have HPn := Lib.hid (HAf.out HD.out.symm)
                have HDn : Hid (true = anyLt (a, i) (out.take (j + 1))) := by show _ = _; rw [HAn.out, ← HD.out]; rfl
                have hone : Ls ((wr.alloc (.cells #[.string b, .string u] 52)).alloc (.cells #[.string b, .string u] 52)) (some ⟨wr.heap.size + 1, 0, none⟩) 1 1 [(b, u)] := by
                  have := Ls.one (wr.alloc (.cells #[.string b, .string u] 52)) (b, u)
                  simpa [World.size_alloc] using this
                clear HAf HHe HBe HAn
                go_wp2_with (first | (at_builtin; refine wpList_append_ls _ rfl (.tmp 46) (.tmp 48) rfl (Bd + 1) rfl ((ownx.alloc _).alloc _) rfl hone (by have := HPl.out; omega) (by simp <;> omega) ?_; intro v1 w1 own1 hg1; have B1 : Below (Bd + 1) wb w1 := ((hBx.alloc zx1 _).alloc (by simp <;> omega) _).grown hg1 (by simp <;> omega) (fun r e => (ownx.lt r e).1)))
                rw [← cellsL_append, ← HPn.out] at own1
                have own2 := own_len (m := Pn.length) own1 (by rw [HPn.out]; simp)
                clear own1 hg1 hone ownx
                go_wp2_with fail
                go_roundw
                case rel => exact ⟨j + 1, true, by omega, by go_num, rfl, HDn, by rw [HPnn.out]; exact own2, B1, HNy.out hne⟩
                case measure => simp [intOf]; omega
              | false =>
                subst hd
                cases hlt : ltS a b with
                | false =>
                  have hbl : Op.bytesLess a.toList b.toList = false := by rw [← HLt.out, hlt]
                  have HPn := Lib.hid (HBe.out HD.out.symm hlt)
                  have HDn : Hid (false = anyLt (a, i) (out.take (j + 1))) := by show _ = _; rw [HAn.out, ← HD.out, hlt]; rfl
                  have hone : Ls ((wr.alloc (.cells #[.string b, .string u] 52)).alloc (.cells #[.string b, .string u] 52)) (some ⟨wr.heap.size + 1, 0, none⟩) 1 1 [(b, u)] := by
                    have := Ls.one (wr.alloc (.cells #[.string b, .string u] 52)) (b, u)
                    simpa [World.size_alloc] using this
                  clear HAf HHe HBe HAn HLt hlt
                  go_wp2_with (first | (at_builtin; refine wpList_append_ls _ rfl (.tmp 46) (.tmp 48) rfl (Bd + 1) rfl ((ownx.alloc _).alloc _) rfl hone (by have := HPl.out; omega) (by simp <;> omega) ?_; intro v1 w1 own1 hg1; have B1 : Below (Bd + 1) wb w1 := ((hBx.alloc zx1 _).alloc (by simp <;> omega) _).grown hg1 (by simp <;> omega) (fun r e => (ownx.lt r e).1)))
                  rw [← cellsL_append, ← HPn.out] at own1
                  have own2 := own_len (m := Pn.length) own1 (by rw [HPn.out]; simp)
                  clear own1 hg1 hone ownx
                  go_wp2_with fail
                  go_roundw
                  case rel => exact ⟨j + 1, false, by omega, by go_num, rfl, HDn, by rw [HPnn.out]; exact own2, B1, HNy.out hne⟩
                  case measure => simp [intOf]; omega
                | true =>
                  have hbl : Op.bytesLess a.toList b.toList = true := by rw [← HLt.out, hlt]
                  have HPn := Lib.hid (HHe.out HD.out.symm hlt)
                  have HDn : Hid (true = anyLt (a, i) (out.take (j + 1))) := by show _ = _; rw [HAn.out, ← HD.out, hlt]; rfl
                  have hone : Ls ((wr.alloc (.cells #[.string b, .string u] 52)).alloc (.cells #[.string a, .string i] 52)) (some ⟨wr.heap.size + 1, 0, none⟩) 1 1 [(a, i)] := by
                    have := Ls.one (wr.alloc (.cells #[.string b, .string u] 52)) (a, i)
                    simpa [World.size_alloc] using this
                  have hnb : some wr.heap.size ≠ u7.ownBlock := fun e => by have := (ownx.lt _ e.symm).2; omega
                  clear HAf HHe HBe HAn HLt hlt
                  go_wp2_with (first
                    | (at_builtin; refine wpList_append_ls _ rfl (.tmp 42) (.tmp 44) rfl (Bd + 1) rfl ((ownx.alloc _).alloc _) rfl hone (by have := HPl.out; omega) (by simp <;> omega) ?_; intro v1 w1 own1 hg1; have B1 : Below (Bd + 1) wb w1 := ((hBx.alloc zx1 _).alloc (by simp <;> omega) _).grown hg1 (by simp <;> omega) (fun r e => (ownx.lt r e).1); have z1 : Bd + 1 ≤ w1.heap.size := (by have := B1.size; omega); have f0 := (hg1.cell_far ⟨wr.heap.size, 0, none⟩ (by simp <;> omega) hnb).trans (show _ = some (Value.string b) by simp); have f1 := (hg1.cell_far ⟨wr.heap.size, 1, none⟩ (by simp <;> omega) hnb).trans (show _ = some (Value.string u) by simp); have hone2 := Ls.one w1 (b, u))
                    | (at_builtin; refine wpList_append_ls _ rfl (.tmp 46) (.tmp 48) rfl (Bd + 1) rfl (own1.alloc _) rfl hone2 (by have := HPl.out; omega) (by simp <;> omega) ?_; intro v2 w2 own2 hg2; have B2 : Below (Bd + 1) wb w2 := (B1.alloc z1 _).grown hg2 (by simp <;> omega) (fun r e => (own1.lt r e).1)))
                  rw [← cellsL_append, ← cellsL_append, ← HPn.out] at own2
                  have own3 := own_len (m := Pn.length) own2 (by rw [HPn.out]; simp)
                  clear own1 hg1 hone ownx own2 hg2 hone2 f0 f1
                  go_wp2_with fail
                  go_roundw
                  case rel => exact ⟨j + 1, true, by omega, by go_num, rfl, HDn, by rw [HPnn.out]; exact own3, B2, HNy.out hne⟩
                  case measure => simp [intOf]; omega
          · obtain rfl : j = k := by omega
            rw [List.take_of_length_le (by have := HLen.out; omega)] at ownx HNe HD
            have HIL := Lib.hid (insP_done (a, i) out)
            have HIN := Lib.hid (insP_last (a, i) out)
            have HStN : Hid (Strict outN) := by
              show Strict outN
              rw [HSn.out]
              exact insL_strict _ _ HSt.out (fun y hy => HNe.out y hy)
            have HLn : Hid ((insL (a, i) out).length = j + 1) := by show _ = _; rw [(insL_perm _ _).length_eq]; simp [HLen.out]
            generalize insP (a, i) out = N at *
            clear hDb Bw hb0 hb1 HTw HNe
            cases hd : d with
            | true =>
              have HN2 := Lib.hid (HIL.out (by rw [← HD.out, hd]))
              have own2 := own_len (n := N.length) (m := j + 1) ownx (by rw [HN2.out, HLn.out])
              rw [HN2.out, ← HSn.out] at own2
              have own3 := own_base own2 (show w.heap.size ≤ Bd + 1 by omega)
              subst hd
              clear HIL HIN ownx own2
              go_wp2_with fail
              go_roundw
              case rel => exact ⟨j + 1, by omega, by go_num, by rw [HoN.out]; exact own3, hBw, by rw [HoN.out]; exact HStN⟩
              case measure => simp [intOf]; omega
            | false =>
              have HN2 := Lib.hid (HIN.out (by rw [← HD.out, hd]))
              have HNl : Hid (N.length = j) := by
                show _ = _
                have := HLn.out
                rw [← HN2.out, List.length_append] at this
                simpa using this
              have ownj := own_len ownx HNl.out
              have hone := Ls.one wr (a, i)
              subst hd
              clear HIL HIN ownx
              go_wp2_with (first | (at_builtin; refine wpList_append_ls _ rfl (.tmp 53) (.tmp 55) rfl (Bd + 1) rfl (ownj.alloc _) rfl hone (by omega) (by simp <;> omega) ?_; intro v1 w1 own1 hg1; have B1 : Below w.heap.size w w1 := (hBw.alloc hBw.size _).grown hg1 (by have := hBw.size; simp; omega) (fun r e => by have := (ownj.lt r e).1; omega)))
              have own3 := own_base own1 (show w.heap.size ≤ Bd + 1 by omega)
              rw [← cellsL_append, HN2.out, ← HSn.out] at own3
              clear own1 hone ownj hg1
              go_wp2_with fail
              go_roundw
              case rel => exact ⟨j + 1, by omega, by go_num, by rw [HoN.out]; exact own3, B1, by rw [HoN.out]; exact HStN⟩
              case measure => simp [intOf]; omega
      · obtain rfl : k = n := by omega
        rw [List.take_of_length_le (by omega)] at hown HSt
        obtain ⟨oa', cap', rfl, hD, _⟩ := Ls.of_own (by rw [sortL_length]; exact hl) hown
        have HX : Hid (sortF l = (sortL l, 0)) := by show _ = _; rw [HF2.out, if_pos ((riseB_strict _).2 HSt.out)]
        have HL := Lib.hid hl
        clear h hl hown HF2
        go_wp2_with fail
        go_ret2
        exact ⟨⟨_, _, _, by rw [HX.out]; rfl, by rw [HX.out]; exact hD, by rw [HL.out]; exact Nat.le_refl _⟩, hB⟩
end Go.Proofs.YthncfcjkpcjkiaaGreatDoor
