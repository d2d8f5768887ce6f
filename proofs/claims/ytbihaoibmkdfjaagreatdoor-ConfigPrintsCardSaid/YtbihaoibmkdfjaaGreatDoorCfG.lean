/-
  The program's own: a receiver's line, and those of one number (package config).
-/
import Derived.Test.YtbihaoibmkdfjaaGreatDoorCf3
namespace Go.Proofs.YtbihaoibmkdfjaaGreatDoor
open Go.RowKit Go.Shelf
set_option linter.unusedVariables false

/-- what stays where one row grows, and a box is written -/
structure Frm (A : Nat) (row : Option Nat) (w w' : World) : Prop where
  os : w'.os = w.os
  tape : w'.tape = w.tape
  output : w'.output = w.output
  size : w.heap.size ≤ w'.heap.size
  block : ∀ k, k < w.heap.size → k ≠ A → some k ≠ row → w'.heap[k]? = w.heap[k]?
theorem frm_below {A : Nat} {row : Option Nat} {w w' : World} (h : Below w.heap.size w w') : Frm A row w w' := ⟨h.os, h.tape, h.output, h.size, fun k hk _ _ => h.block k hk⟩
theorem frm_set {A : Nat} {row : Option Nat} {w w' : World} (h : Frm A row w w') (i : Nat) (u : Value) : Frm A row w (w'.setCell ⟨A, i, none⟩ u) :=
  ⟨h.os, h.tape, h.output, by rw [World.size_setCell]; exact h.size, fun k hk h1 h2 => (Below.heap_setCell w' ⟨A, i, none⟩ u k h1).trans (h.block k hk h1 h2)⟩
theorem frm_grown {A : Nat} {row : Option Nat} {w wx wy : World} (h : Below w.heap.size w wx) (hg : wx.grownBy wy row) : Frm A row w wy := by
  have s1 := h.size
  refine ⟨hg.os.trans h.os, hg.tape.trans h.tape, hg.output.trans h.output, Nat.le_trans s1 hg.size, fun k hk _ hne => ?_⟩
  exact (hg.block k (by omega) hne).trans (h.block k hk)
/-- another type's block stays -/
theorem Frm.vals {A : Nat} {w w' : World} {base : Nat} {e : TypeId} {size : Nat} {v : Value} {n : Nat} {xs : List Value} (h : Frm A v.ownBlock w w') (ho : w.ownsRow base e size v n xs) {TA : TypeId} {bs0 : Array Value} (hA : Vals w A TA bs0) {K : Nat} {T : TypeId} {ys : Array Value} (hK : Vals w K T ys) (h1 : T ≠ TA) (h2 : T ≠ e) : Vals w' K T ys := by
  unfold Vals at *
  refine (h.block K (Array.getElem?_eq_some_iff.1 hK).1 ?_ ?_).trans hK
  · rintro rfl
    rw [hK] at hA
    simp at hA
    exact h1 hA.2
  · rcases ho.2 with ⟨rfl, _⟩ | ⟨g, cap, cur, rfl, hb, hh, _⟩
    · simp [Value.ownBlock]
    · intro e1
      have e2 : K = g := by simpa [Value.ownBlock] using e1
      subst e2
      rw [hK] at hh
      simp at hh
      exact h2 hh.2
/-- and so does a map's -/
theorem Frm.map {A : Nat} {w w' : World} {base : Nat} {e : TypeId} {size : Nat} {v : Value} {n : Nat} {xs : List Value} (h : Frm A v.ownBlock w w') (ho : w.ownsRow base e size v n xs) {TA : TypeId} {bs0 : Array Value} (hA : Vals w A TA bs0) {K : Nat} {es : Array MapEntry} {cl : Nat} (hK : w.heap[K]? = some (.map es cl)) : w'.heap[K]? = some (.map es cl) := by
  refine (h.block K (Array.getElem?_eq_some_iff.1 hK).1 ?_ ?_).trans hK
  · rintro rfl
    unfold Vals at hA
    rw [hK] at hA
    simp at hA
  · rcases ho.2 with ⟨rfl, _⟩ | ⟨g, cap, cur, rfl, hb, hh, _⟩
    · simp [Value.ownBlock]
    · intro e1
      have e2 : K = g := by simpa [Value.ownBlock] using e1
      subst e2
      rw [hK] at hh
      simp at hh
/-- a row of other elements, too -/
theorem Frm.own {A : Nat} {w w' : World} {base : Nat} {e : TypeId} {size : Nat} {v : Value} {n : Nat} {xs : List Value} (h : Frm A v.ownBlock w w') (ho : w.ownsRow base e size v n xs) {TA : TypeId} {bs0 : Array Value} (hA : Vals w A TA bs0) {b2 : Nat} {e2 : TypeId} {s2 : Nat} {v2 : Value} {n2 : Nat} {x2 : List Value} (hK : w.ownsRow b2 e2 s2 v2 n2 x2) (h1 : e2 ≠ TA) (h2 : e2 ≠ e) : w'.ownsRow b2 e2 s2 v2 n2 x2 := by
  refine ⟨hK.1, ?_⟩
  rcases hK.2 with h3 | ⟨g, cap, cur, h3, h4, h5, h6⟩
  · exact .inl h3
  · exact .inr ⟨g, cap, cur, h3, h4, h.vals ho hA h5 h1 h2, h6⟩
theorem Own2.frm {A : Nat} {w w' : World} {base : Nat} {size : Nat} {v : Value} {n : Nat} {xs : List Value} (h : Frm A v.ownBlock w w') (ho : w.ownsRow base 52 size v n xs) {bs0 : Array Value} (hA : Vals w A 39 bs0) {b2 : Nat} {v2 : Value} {l : List T2} {qs : List (Value × Value)} (hO : Own2 w b2 v2 l qs) : Own2 w' b2 v2 l qs :=
  ⟨h.own ho hA hO.own (by decide) (by decide), hO.len, fun i hi => ⟨h.own ho hA (hO.part i hi).1 (by decide) (by decide), h.own ho hA (hO.part i hi).2 (by decide) (by decide)⟩⟩
theorem Own2.setR {w : World} {base : Nat} {v : Value} {l : List T2} {qs : List (Value × Value)} (h : Own2 w base v l qs) {A : Nat} {cs : Array Value} (hV : Vals w A 39 cs) (i : Nat) (u : Value) : Own2 (w.setCell ⟨A, i, none⟩ u) base v l qs :=
  ⟨own_setT h.own hV (by decide) i u, h.len, fun j hj => ⟨own_setT (h.part j hj).1 hV (by decide) i u, own_setT (h.part j hj).2 hV (by decide) i u⟩⟩
/-- what is told of a receiver's line -/
def RcvOut (w w' : World) (base A : Nat) (e : Ending) (c : CfgL) (va vb : Value) (rep beat : Int) (ws : List (List UInt8)) : Prop := ∃ er : Int, e = .returned (.int .i64 er) ∧
  ((er = 0 ∧ ∃ r va', addR c ws = .ok (c.1 ++ [r], c.2) ∧ Vals w' A 39 (cfgV va' vb rep beat) ∧ w'.ownsRow base 52 9 va' (c.1.length + 1) (cellsR (c.1 ++ [r]))) ∨ (er ≠ 0 ∧ addR c ws = .error er)) ∧ Frm A va.ownBlock w w'
set_option maxRecDepth 100000 in
set_option maxHeartbeats 6400000 in
theorem rcvLine_c (c : CfgL) (va : Value) (ob : Option Addr) (nb cb : Nat) (rep beat : Int) (u : List UInt8) (ws : List (List UInt8)) (oa : Option Addr) (n cap : Nat) (base A : Nat) (w : World) (hV : Vals w A 39 (cfgV va (.slice ob nb cb) rep beat))
    (hc : w.ownsRow base 52 9 va c.1.length (cellsR c.1)) (hlen : c.1.length ≤ 4) (h : Ts w oa n cap (ws.map tx)) (hn : n ≤ 100000) (hz : ∀ v ∈ ws, v.length ≤ 100000) (hT : Tabs w) (hbase : base ≤ w.heap.size) :
    Calls Tryz.prog 35 #[.pointer (some ⟨A, 0, none⟩), .slice oa n cap] w fun e w' => RcvOut w w' base A e c va (.slice ob nb cb) rep beat (u :: ws) := by
  have hl : ws.length = n := by rw [← h.len, List.length_map]
  have hr := h.room
  obtain ⟨oz, cz, rfl, hRs, _⟩ := Rs.of_own rfl hc
  obtain ⟨m, hm⟩ : ∃ m, c.1.length = m := ⟨_, rfl⟩
  unfold RcvOut
  rw [hm] at hRs hc hlen hV
  rw [hm]
  have p0 : w.cell? ⟨A, 0, none⟩ = some (.slice oz m cz) := hV.cell 0
  have HZ := Lib.hid hz
  clear hz
  by_cases h4 : m = 4
  · have HW := Lib.hid (addR_full (ws := u :: ws) (hm.trans h4))
    have h4i : ((m : Int) == 4) = true := by simp [h4]
    have HF : Hid (Frm A (Value.slice oz m cz).ownBlock w w) := frm_below (Below.refl _ _)
    clear h HZ hRs hc hm hl hV h4 hT
    go_enter Tryz.func35, Tryz.ntmps35
    go_wp2_with fail
    go_ret
    exact ⟨2, rfl, .inr ⟨by decide, HW.out⟩, HF.out⟩
  have h4i : ((m : Int) == 4) = false := by simp; omega
  have hm4 : c.1.length ≠ 4 := by omega
  by_cases h10 : n ≠ 9
  · have HW := Lib.hid (addR_lack hm4 (by simp; omega : (u :: ws).length ≠ 10))
    have h10i : ((n : Int) != 9) = true := by simp; omega
    have HF : Hid (Frm A (Value.slice oz m cz).ownBlock w w) := frm_below (Below.refl _ _)
    clear h HZ hRs hc hm hl hV hm4 hT
    go_enter Tryz.func35, Tryz.ntmps35
    go_wp2_with fail
    go_ret
    exact ⟨12, rfl, .inr ⟨by decide, HW.out⟩, HF.out⟩
  have h10i : ((n : Int) != 9) = false := by simp; omega
  have hw10 : (u :: ws).length = 10 := by simp; omega
  have hge : 9 ≤ n := by omega
  have H8 : Hid ((ws.drop 1).length = 8) := by show _ = _; rw [List.length_drop]; omega
  clear h10
  obtain ⟨g, o, rfl, c1⟩ := h.cell 0 (by omega)
  rw [ws_at ws 0 (by omega), Nat.add_zero] at c1
  have HPl := place_c (tx (ws.getD 0 [])) oz m cz c.1 w hRs (by omega)
  have HE2 : Hid (0 ≤ placeN c.1 (tx (ws.getD 0 [])) → addR c (u :: ws) = .error 11) := fun h2 => addR_twice (ws := u :: ws) hm4 hw10 h2
  have HE3 : Hid (¬ 0 ≤ placeN c.1 (tx (ws.getD 0 [])) → allO numB (ws.drop 1) = none → addR c (u :: ws) = .error 13) := fun h2 h3 => addR_char (ws := u :: ws) hm4 hw10 h2 h3
  have HE4 : Hid (∀ ns, ¬ 0 ≤ placeN c.1 (tx (ws.getD 0 [])) → allO numB (ws.drop 1) = some ns → addR c (u :: ws) = if rcvR (mkR (ws.getD 0 []) ns) = true then .ok (c.1 ++ [mkR (ws.getD 0 []) ns], c.2) else .error 3) := fun ns h2 h3 => addR_end (ws := u :: ws) (ns := ns) hm4 hw10 h2 h3
  have hT2 := h.dropped 1 (by omega)
  rw [← List.map_drop] at hT2
  have HZ2 : Hid (∀ v ∈ ws.drop 1, v.length ≤ 100000) := fun v hv => HZ.out v (List.mem_of_mem_drop hv)
  have hc2 : (cap : Int) ≠ 1 := by omega
  clear h HZ hRs
  obtain ⟨y, hy⟩ : ∃ y, y = tx (ws.getD 0 []) := ⟨_, rfl⟩
  rw [← hy] at c1 HPl HE2 HE3 HE4
  obtain ⟨P, hP⟩ : ∃ P, P = placeN c.1 y := ⟨_, rfl⟩
  simp only [← hP] at HPl HE2 HE3 HE4
  have HY := Lib.hid hy
  clear hy hP
  go_enter Tryz.func35, Tryz.ntmps35
  go_wp2_with fail
  refine HPl.mono ?_
  rintro e w2 ⟨rfl, B2⟩
  by_cases hp : 0 ≤ P
  · have HW := Lib.hid (HE2.out hp)
    have HF : Hid (Frm A (Value.slice oz m cz).ownBlock w w2) := frm_below B2
    clear HE2 HE3 HE4 hT2 HZ2 hc hm hl hV hm4 hT hw10 HY B2
    go_wp2_with fail
    go_ret
    exact ⟨11, rfl, .inr ⟨by decide, HW.out⟩, HF.out⟩
  have HN := numbers_c _ _ _ (ws.drop 1) w2 (hT2.below B2 (Nat.le_refl _)) (by omega) HZ2.out (hT.below B2 (Nat.le_refl _))
  have h8 := H8.out
  have c12 := keepR B2 c1
  clear HE2 HZ2 hT2 HPl
  go_wp2_with fail
  refine HN.mono ?_
  rintro e w4 ⟨⟨ns, hns, on, cn, rfl, hNs⟩ | ⟨hns, rfl⟩, B4⟩
  rotate_left
  · have HW := Lib.hid (HE3.out hp hns)
    have HF : Hid (Frm A (Value.slice oz m cz).ownBlock w w4) := frm_below (B2.trans (B4.mono B2.size))
    clear HE3 HE4 hns hc hm hl hV hm4 hT hw10 HY B2 B4 h8
    go_wp2_with fail
    go_ret
    exact ⟨13, rfl, .inr ⟨by decide, HW.out⟩, HF.out⟩
  have HX := Lib.hid (HE4.out ns hp hns)
  have B3 := B2.trans (B4.mono B2.size)
  have c14 := keepR B4 c12
  rw [h8] at hNs
  rw [h8]
  have HM : Hid (mkR (ws.getD 0 []) ns = ⟨y, ((ns.getD 0 0 : Nat) : Int), ((ns.getD 1 0 : Nat) : Int), ((ns.getD 2 0 : Nat) : Int), ((ns.getD 3 0 : Nat) : Int), ((ns.getD 4 0 : Nat) : Int), ((ns.getD 5 0 : Nat) : Int), ((ns.getD 6 0 : Nat) : Int), ((ns.getD 7 0 : Nat) : Int)⟩) := by
    show _ = _
    rw [HY.out]
    rfl
  rw [HM.out] at HX
  have HOf := rcvOf_c y on cn ns w4 hNs
  clear HM HE3 HE4 hNs hns HY h8 hw10 hl B2 B4 c12 hT
  generalize ((ns.getD 0 0 : Nat) : Int) = a0 at *
  generalize ((ns.getD 1 0 : Nat) : Int) = a1 at *
  generalize ((ns.getD 2 0 : Nat) : Int) = a2 at *
  generalize ((ns.getD 3 0 : Nat) : Int) = a3 at *
  generalize ((ns.getD 4 0 : Nat) : Int) = a4 at *
  generalize ((ns.getD 5 0 : Nat) : Int) = a5 at *
  generalize ((ns.getD 6 0 : Nat) : Int) = a6 at *
  generalize ((ns.getD 7 0 : Nat) : Int) = a7 at *
  clear ns hn
  have HRc := fun w => rcv_c ⟨y, a0, a1, a2, a3, a4, a5, a6, a7⟩ w
  dsimp only [aggR] at HRc HOf
  obtain ⟨rr, hrr⟩ : ∃ rr, rr = rcvR ⟨y, a0, a1, a2, a3, a4, a5, a6, a7⟩ := ⟨_, rfl⟩
  simp only [← hrr] at HRc HX
  clear hrr
  go_wp2_with fail
  refine HOf.mono ?_
  rintro e w5 ⟨rfl, B5⟩
  have B6 := B3.trans (B5.mono B3.size)
  have VB := Vals.new w5 52 #[.string y, .int .i64 a0, .int .i64 a1, .int .i64 a2, .int .i64 a3, .int .i64 a4, .int .i64 a5, .int .i64 a6, .int .i64 a7]
  have B7 := B6.alloc B6.size (.cells #[.string y, .int .i64 a0, .int .i64 a1, .int .i64 a2, .int .i64 a3, .int .i64 a4, .int .i64 a5, .int .i64 a6, .int .i64 a7] 52)
  clear B3 B5 B6 HOf c14
  go_upto_region 12 with fail
  obtain ⟨G, hG⟩ : ∃ G, G = w5.heap.size := ⟨_, rfl⟩
  rw [← hG] at VB ⊢
  clear hG
  generalize w5.alloc (.cells #[.string y, .int .i64 a0, .int .i64 a1, .int .i64 a2, .int .i64 a3, .int .i64 a4, .int .i64 a5, .int .i64 a6, .int .i64 a7] 52) = w6 at *
  clear w5
  have d0 : w6.cell? ⟨G, 0, none⟩ = some (.string y) := VB.cell 0
  have d1 : w6.cell? ⟨G, 1, none⟩ = some (.int .i64 a0) := VB.cell 1
  have d2 : w6.cell? ⟨G, 2, none⟩ = some (.int .i64 a1) := VB.cell 2
  have d3 : w6.cell? ⟨G, 3, none⟩ = some (.int .i64 a2) := VB.cell 3
  have d4 : w6.cell? ⟨G, 4, none⟩ = some (.int .i64 a3) := VB.cell 4
  have d5 : w6.cell? ⟨G, 5, none⟩ = some (.int .i64 a4) := VB.cell 5
  have d6 : w6.cell? ⟨G, 6, none⟩ = some (.int .i64 a5) := VB.cell 6
  have d7 : w6.cell? ⟨G, 7, none⟩ = some (.int .i64 a6) := VB.cell 7
  have d8 : w6.cell? ⟨G, 8, none⟩ = some (.int .i64 a7) := VB.cell 8
  go_wp2_with fail
  refine (HRc _).mono ?_
  rintro e w7 ⟨rfl, B8⟩
  have B9 := B7.trans (B8.mono B7.size)
  have VB7 := VB.keep B8 (Nat.le_refl _)
  clear d0 d1 d2 d3 d4 d5 d6 d7 d8 VB HRc B7 B8
  cases rr with
  | false =>
    have HW : Hid (addR c (u :: ws) = .error 3) := by show _ = _; rw [HX.out]; rfl
    have HF : Hid (Frm A (Value.slice oz m cz).ownBlock w w7) := frm_below B9
    clear HX hc hm VB7 B9 hV
    go_wp2_with fail
    go_ret
    exact ⟨3, rfl, .inr ⟨by decide, HW.out⟩, HF.out⟩
  | true =>
    have HW : Hid (addR c (u :: ws) = .ok (c.1 ++ [⟨y, a0, a1, a2, a3, a4, a5, a6, a7⟩], c.2)) := by show _ = _; rw [HX.out]; rfl
    have d0 : w7.cell? ⟨G, 0, none⟩ = some (.string y) := VB7.cell 0
    have d1 : w7.cell? ⟨G, 1, none⟩ = some (.int .i64 a0) := VB7.cell 1
    have d2 : w7.cell? ⟨G, 2, none⟩ = some (.int .i64 a1) := VB7.cell 2
    have d3 : w7.cell? ⟨G, 3, none⟩ = some (.int .i64 a2) := VB7.cell 3
    have d4 : w7.cell? ⟨G, 4, none⟩ = some (.int .i64 a3) := VB7.cell 4
    have d5 : w7.cell? ⟨G, 5, none⟩ = some (.int .i64 a4) := VB7.cell 5
    have d6 : w7.cell? ⟨G, 6, none⟩ = some (.int .i64 a5) := VB7.cell 6
    have d7 : w7.cell? ⟨G, 7, none⟩ = some (.int .i64 a6) := VB7.cell 7
    have d8 : w7.cell? ⟨G, 8, none⟩ = some (.int .i64 a7) := VB7.cell 8
    have hown7 := own_keep hc B9
    have V07 := hV.keep B9 (Nat.le_refl _)
    have V08 := V07.alloc (.cells #[.string y, .int .i64 a0, .int .i64 a1, .int .i64 a2, .int .i64 a3, .int .i64 a4, .int .i64 a5, .int .i64 a6, .int .i64 a7] 52)
    have B10 := B9.alloc B9.size (.cells #[.string y, .int .i64 a0, .int .i64 a1, .int .i64 a2, .int .i64 a3, .int .i64 a4, .int .i64 a5, .int .i64 a6, .int .i64 a7] 52)
    have hnews := World.news_of_block (Vals.new w7 52 #[.string y, .int .i64 a0, .int .i64 a1, .int .i64 a2, .int .i64 a3, .int .i64 a4, .int .i64 a5, .int .i64 a6, .int .i64 a7])
    have hb7 := B9.size
    have HLm := Lib.hid hm
    clear HX hc hm V07 VB7 B9 p0 c1
    go_wp2_with (first | (at_builtin; refine wpList_append_rc (r := ⟨y, a0, a1, a2, a3, a4, a5, a6, a7⟩) _ rfl (.tmp 46) (.tmp 48) rfl base rfl (hown7.alloc _) rfl hnews (by omega) (by simp <;> omega) ?_; intro v1 w8 own1 hg1; rw [← cellsR_snoc] at own1; obtain ⟨o8, c8, rfl, _, _⟩ := Rs.of_own (by rw [List.length_append, HLm.out]; rfl) own1; have V09 := Vals.grown V08 (hown7.alloc _) (by decide) hg1; have p8 : w8.cell? ⟨A, 0, none⟩ = some (.slice oz m cz) := V09.cell 0; have z8 := V09.free 0))
    have V0a : Vals (w8.setCell ⟨A, 0, none⟩ (.slice o8 (m + 1) c8)) A 39 (cfgV (.slice o8 (m + 1) c8) (.slice ob nb cb) rep beat) := by
      have := V09.set 0 (.slice o8 (m + 1) c8)
      simpa using this
    have own2 := own_setT own1 V09 (by decide) 0 (.slice o8 (m + 1) c8)
    have HF := Lib.hid (frm_set (frm_grown (A := A) B10 hg1) 0 (.slice o8 (m + 1) c8))
    have HO := Lib.hid own2
    have HVa := Lib.hid V0a
    clear V08 V09 own1 own2 hown7 hnews d0 d1 d2 d3 d4 d5 d6 d7 d8 p8 z8 hg1 B10 V0a
    go_wp2_with fail
    go_ret
    exact ⟨0, rfl, .inl ⟨rfl, _, _, HW.out, HVa.out, HO.out⟩, HF.out⟩
end Go.Proofs.YtbihaoibmkdfjaaGreatDoor
