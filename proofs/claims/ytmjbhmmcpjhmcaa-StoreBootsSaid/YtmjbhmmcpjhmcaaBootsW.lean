/-
  The walk of StoreBoots: which stores may be, a new one, and what is found on any disk.
-/
import Derived.Test.YtmjbhmmcpjhmcaaRefC4
import Derived.Test.YtmjbhmmcpjhmcaaLogY
import Derived.Test.YtmjbhmmcpjhmcaaLogZ
import Derived.Test.YtmjbhmmcpjhmcaaOwn4
namespace Go.Proofs.Ytmjbhmmcpjhmcaa.storeBoots
open Go.RowKit
set_option linter.unusedVariables false
attribute [local go_sem ↓] Go.wp_at_zero Go.wp_at_succ

theorem new_no {n : Int} (h : newOk n = false) : newS n = St.zero ∧ newW n = 2 := by unfold newS newW; rw [h]; exact ⟨rfl, rfl⟩
theorem new_yes {n : Int} (h : newOk n = true) : newS n = ⟨newD n, 1, 0, 1, false⟩ ∧ newW n = 0 := by unfold newS newW; rw [h]; exact ⟨rfl, rfl⟩
theorem newD_len {n : Int} (h : newOk n = true) : (newD n).length ≤ 130 := by
  obtain ⟨h1, h2, h3⟩ := (newOk_iff n).1 h
  unfold newD
  rw [List.length_set, List.length_replicate]
  omega
theorem boot_three (ss : List ByteArray) : (logB ss = false ∧ bootE ss = 1 ∧ bootS ss = St.zero ∧ bootL ss = []) ∨ (logB ss = true ∧ bootE ss = 4 ∧ bootS ss = St.zero ∧ bootL ss = []) ∨ (logB ss = true ∧ bootE ss = 0) := by
  cases h : logB ss
  · left
    have e := bootE_1 h
    have n := boot_no e (by decide)
    exact ⟨rfl, e, n.1.symm, n.2.1.symm⟩
  · right
    by_cases z : newZ ss = 0
    · left
      have e := bootE_2 h z
      have n := boot_no e (by decide)
      exact ⟨rfl, e, n.1.symm, n.2.1.symm⟩
    · right
      exact ⟨rfl, bootE_3 h z⟩
theorem bootL_len4 (ss : List ByteArray) : (bootL ss).length ≤ ss.length := by
  unfold bootL
  split
  · have := recs_most ss (newZ ss)
    unfold roomN roomZ at this
    omega
  · exact Nat.zero_le _
/-- the store and the disk, as they were handed in -/
structure Two (w0 : World) (oa : Option Addr) (n cap : Nat) (S : St) (ob : Option Addr) (m cb : Nat) (dd : List ByteArray) (w : World) : Prop where
  s : SRow w w0.heap.size (.slice oa n cap) S.g S.u S.t S.d
  d : w.heap[w0.heap.size + 1]? = some (.cells #[.slice ob m cb] 24 (0, 0))
  sa : Arg w oa n cap S.ss
  da : Arg w ob m cb dd
  below : Below w0.heap.size w0 w
theorem Two.keep {w0 : World} {oa : Option Addr} {n cap : Nat} {S : St} {ob : Option Addr} {m cb : Nat} {dd : List ByteArray} {w w' : World} (h : Two w0 oa n cap S ob m cb dd w) (hB : Below w.heap.size w w') : Two w0 oa n cap S ob m cb dd w' :=
  ⟨h.s.keep hB, keepB hB h.d, h.sa.below hB, h.da.below hB, h.below.trans (hB.mono h.below.size)⟩
/-- both, cut -/
def Cut2 (w0 : World) (S : St) (ss : List ByteArray) (w : World) : Prop := ∃ os ns cs ob k c, SVar w w0.heap.size os ns cs S ∧ Var w (w0.heap.size + 1) ob k c ss ∧ Below w0.heap.size w0 w
theorem Two.stores {w0 : World} {oa : Option Addr} {n cap : Nat} {S : St} {ob : Option Addr} {m cb : Nat} {dd : List ByteArray} {w : World} (h : Two w0 oa n cap S ob m cb dd w) {os : Option Addr} {ns cs : Nat} {ss : List ByteArray} (hR : Rd w os ns cs ss) {od : Option Addr} {k c : Nat} {tt : List ByteArray} (hT : Rd w od k c tt) :
    Cut2 w0 ⟨ss, S.g, S.u, S.t, S.d⟩ tt ((put5 w w0.heap.size (.slice os ns cs) S.g S.u S.t S.d).setCell ⟨w0.heap.size + 1, 0, none⟩ (.slice od k c)) := by
  have hd2 : (put5 w w0.heap.size (.slice os ns cs) S.g S.u S.t S.d).heap[w0.heap.size + 1]? = some (.cells #[.slice ob m cb] 24 (0, 0)) := (put_other _ _ _ _ _ _ _ _ (by omega)).trans h.d
  have hc := cell_of_one hd2
  have r1 := h.s.put (.slice os ns cs) S.g S.u S.t S.d
  have r2 := hR.put h.s ⟨_, _, _, rfl⟩ (.slice os ns cs) S.g S.u S.t S.d
  have r3 := hT.put h.s ⟨_, _, _, rfl⟩ (.slice os ns cs) S.g S.u S.t S.d
  have b1 := put_below h.below (Nat.le_refl _) (.slice os ns cs) S.g S.u S.t S.d
  exact ⟨os, ns, cs, od, k, c, ⟨r1.far (by omega) _ _, r2.setDisk hc _⟩, ⟨one_setCell hd2, r3.setDisk hc _⟩, b1.setCell (by show w0.heap.size ≤ w0.heap.size + 1; omega) _⟩
set_option maxRecDepth 100000 in
set_option maxHeartbeats 6400000 in
theorem walk (n0 : Int) (oa : Option Addr) (n cap : Nat) (S0 : St) (ob0 : Option Addr) (m cb0 : Nat) (dd : List ByteArray) (w : World) (hA : Arg w oa n cap S0.ss) (hD : Arg w ob0 m cb0 dd) :
    Calls Try.prog 3 #[.int .i64 n0, .agg #[.slice oa n cap, .int .i64 S0.g, .int .i64 S0.u, .int .i64 S0.t, .bool S0.d], .agg #[.slice ob0 m cb0]] w fun e w' => e = .returned (.bool true) ∧ Below w.heap.size w w' := by
  obtain ⟨W0, hW0⟩ : ∃ W0, W0 = (w.alloc (.cells #[.slice oa n cap, .int .i64 S0.g, .int .i64 S0.u, .int .i64 S0.t, .bool S0.d] 26)).alloc (.cells #[.slice ob0 m cb0] 24) := ⟨_, rfl⟩
  have hB0 : Below w.heap.size w W0 := by rw [hW0]; exact (below_alloc w _).alloc (by simp) _
  have T0 : Two w oa n cap S0 ob0 m cb0 dd W0 := by
    refine ⟨?_, ?_, hA.below hB0, hD.below hB0, hB0⟩
    · rw [hW0]
      exact SRow.keep (heap_alloc_new w _) (below_alloc _ _)
    · rw [hW0]
      have := heap_alloc_new (w.alloc (.cells #[.slice oa n cap, .int .i64 S0.g, .int .i64 S0.u, .int .i64 S0.t, .bool S0.d] 26)) (.cells #[.slice ob0 m cb0] 24)
      simpa using this
  have HW := Lib.hid hW0
  clear hW0 hA hD hB0
  go_enter Try.func3, Try.ntmps3
  go_upto_region 1 with fail
  rw [← HW.out]
  clear HW
  go_cut [17] (fun s17 wx => Cut2 w ⟨fewM 132 S0.ss, S0.g, S0.u, S0.t, S0.d⟩ (fewM 132 dd) wx)
  case first =>
    obtain ⟨I, hID⟩ : ∃ I : World → Prop, I = Two w oa n cap S0 ob0 m cb0 dd := ⟨_, rfl⟩
    have gI : Hid (∀ wx, I wx → Two w oa n cap S0 ob0 m cb0 dd wx) := by intro wx h; rw [hID] at h; exact h
    have mI : Hid (∀ wx, Two w oa n cap S0 ob0 m cb0 dd wx → I wx) := by intro wx h; rw [hID]; exact h
    clear hID
    refine wp_region_taken I 5 (by kernel_rfl) ?_
    have hT := mI.out _ (T0.keep (Below.refl _ W0).drew)
    clear T0
    generalize W0.drew = wd at *
    refine wpT_take (i := 0) (v := .agg #[.slice oa n cap, .int .i64 S0.g, .int .i64 S0.u, .int .i64 S0.t, .bool S0.d]) rfl (by kernel_rfl) (by kernel_rfl) (by kernel_rfl) (fun _ _ _ h => h) (Or.inl ⟨by rfl, fun v hv => ?_⟩) hT ?_
    · obtain ⟨v0, v1, v2, v3, v4⟩ := (gI.out _ hv).s.cells
      go_simp
    refine wpT_take (i := 2) (v := .pointer (some ⟨w.heap.size + 1, 0, none⟩)) rfl (by kernel_rfl) (by kernel_rfl) (by kernel_rfl) (fun _ _ _ h => h) (Or.inl ⟨by rfl, fun v hv => by go_simp⟩) hT ?_
    refine wpT_take (i := 3) (v := .slice ob0 m cb0) rfl (by kernel_rfl) (by kernel_rfl) (by kernel_rfl) (fun _ _ _ h => h) (Or.inl ⟨by rfl, fun v hv => ?_⟩) hT ?_
    · have v0 := cell_of_one (gI.out _ hv).d
      go_simp
    refine wpT_ready (rs := [1]) (by kernel_rfl) (by simp) ?_
    refine AllT.cons rfl (fun K hK => ?_) AllT.nil
    · go_simp
      refine (scut_any oa n cap S0.ss S0.g S0.u S0.t S0.d wd (gI.out _ hT).sa).mono ?_
      rintro e w2 ⟨⟨os, ns, cs, rfl, hR2⟩, hB2⟩
      dsimp only at hR2 ⊢
      have T2 := mI.out _ ((gI.out _ hT).keep hB2)
      refine hK _ _ (fun _ => T2) ?_
      clear hK K hT hB2
      refine wpT_ready (rs := [4]) (by kernel_rfl) (by simp) ?_
      refine AllT.cons rfl (fun K hK => ?_) AllT.nil
      go_simp
      refine (few_any ob0 m cb0 dd 132 w2 (gI.out _ T2).da (by omega)).mono ?_
      rintro e w3 ⟨⟨od, k, c, rfl, hR3⟩, hB3⟩
      have T3 := mI.out _ ((gI.out _ T2).keep hB3)
      have hS3 := hR2.below hB3 (Nat.le_refl _)
      refine hK _ _ (fun _ => T3) ?_
      clear hK K T2 hB3 hR2
      refine wpT_behind (by kernel_rfl) ?_
      refine wpAny_take (i := 5) (v := .agg #[.slice od k c]) rfl (by kernel_rfl) (by kernel_rfl) (by kernel_rfl) (fun _ _ _ h => h) (Or.inl ⟨by rfl, fun v => by go_simp⟩) ?_
      refine wpAny_ready (rs := [6]) (by kernel_rfl) (by simp) ?_
      refine AllReady.cons (o := ⟨none, .store 26 (.tmp 4) (.tmp 17), 0, _, _, none⟩) rfl (fun K hK => ?_) AllReady.nil
      rw [if_pos (show Region.wanted _ _ = true from rfl)]
      refine wp_store5 rfl rfl (gI.out _ T3).s ?_
      refine hK _ _ ?_
      clear hK K
      refine wpAny_ready (rs := [7]) (by kernel_rfl) (by simp) ?_
      refine AllReady.cons rfl (fun K hK => ?_) AllReady.nil
      have FIN := Lib.hid ((gI.out _ T3).stores hS3 hR3)
      have hd2 : (put5 w3 w.heap.size (.slice os ns cs) S0.g S0.u S0.t S0.d).heap[w.heap.size + 1]? = some (.cells #[.slice ob0 m cb0] 24 (0, 0)) := (put_other _ _ _ _ _ _ _ _ (by omega)).trans (gI.out _ T3).d
      have v0 := cell_of_one hd2
      have vf := free_of_one hd2
      clear hd2
      generalize put5 w3 w.heap.size (.slice os ns cs) S0.g S0.u S0.t S0.d = w4 at *
      go_simp
      refine hK _ _ ?_
      clear hK K v0 vf
      generalize w4.setCell ⟨w.heap.size + 1, 0, none⟩ (.slice od k c) = w5 at *
      refine wpAny_done (by kernel_rfl) ?_ _
      go_wp2_with fail
      go_meet
      case rel => exact FIN.out
  case rest =>
    generalize hS : (⟨fewM 132 S0.ss, S0.g, S0.u, S0.t, S0.d⟩ : St) = S at *
    have hsl : S.ss.length ≤ 132 := by rw [← hS]; show (fewM 132 S0.ss).length ≤ 132; rw [fewM_length]; omega
    have hdl : (fewM 132 dd).length ≤ 132 := by rw [fewM_length]; omega
    generalize fewM 132 dd = ss at *
    generalize hw1 : wc = w1 at *
    clear hw1 hS T0
    obtain ⟨os, ns, cs, ob, k, c, V1, D1, hB1⟩ := hcut
    have hns : ns ≤ 1000 := by have := V1.rd.len; omega
    have hk : k ≤ 1000 := by have := D1.rd.len; omega
    clear hsl
    have HN := Lib.hid (new4_any n0 w1)
    have HN1 : Hid (newOk n0 = false → newS n0 = St.zero ∧ newW n0 = 2) := new_no
    have HN2 : Hid (newOk n0 = true → newS n0 = ⟨newD n0, 1, 0, 1, false⟩ ∧ newW n0 = 0) := new_yes
    generalize newS n0 = Sa at *
    generalize newW n0 = ea at *
    go_wp2_with fail
    refine HN.out.mono ?_
    rintro e w2 ⟨⟨oA, nA, cA, rfl, hRA⟩, hB2⟩
    have V2 := (V1.keep hB2).keep (below_alloc w2 (.cells #[.slice oA nA cA, .int .i64 Sa.g, .int .i64 Sa.u, .int .i64 Sa.t, .bool Sa.d] 26))
    have D2 := (D1.below hB2).below (below_alloc w2 (.cells #[.slice oA nA cA, .int .i64 Sa.g, .int .i64 Sa.u, .int .i64 Sa.t, .bool Sa.d] 26))
    have A2 := SVar.new (S := Sa) hRA
    have hB3 := (hB1.trans (hB2.mono hB1.size)).alloc (Nat.le_trans hB1.size hB2.size) (.cells #[.slice oA nA cA, .int .i64 Sa.g, .int .i64 Sa.u, .int .i64 Sa.t, .bool Sa.d] 26)
    clear V1 D1 hRA hB2 hB1 HN
    have HBO := Lib.hid (boot_any ob k c ss _ D2.rd hk)
    have HX := Lib.hid (boot_three ss)
    have HRB := Lib.hid (fun wx h hL => rboot_any ob k c ss wx h hL)
    have HSL : Hid ((bootS ss).ss.length ≤ 1000) := by show _ ≤ _; have := boot_len ss; omega
    have HLL : Hid ((bootL ss).length ≤ 1000) := by show _ ≤ _; have := bootL_len4 ss; omega
    generalize bootS ss = Sb at *
    generalize bootL ss = lb at *
    generalize bootE ss = eb at *
    have d0 := D2.cell
    go_wp2_with fail
    refine HBO.out.mono ?_
    rintro e w3 ⟨⟨oB, nB, cB, ol, nl, cl, rfl, hRB, hLB⟩, hB4⟩
    clear d0 HBO
    have V3 := (V2.keep hB4).keep (below_alloc w3 (.cells #[.slice oB nB cB, .int .i64 Sb.g, .int .i64 Sb.u, .int .i64 Sb.t, .bool Sb.d] 26))
    have D3 := (D2.below hB4).below (below_alloc w3 (.cells #[.slice oB nB cB, .int .i64 Sb.g, .int .i64 Sb.u, .int .i64 Sb.t, .bool Sb.d] 26))
    have A3 := (A2.keep hB4).keep (below_alloc w3 (.cells #[.slice oB nB cB, .int .i64 Sb.g, .int .i64 Sb.u, .int .i64 Sb.t, .bool Sb.d] 26))
    have B3 := SVar.new (S := Sb) hRB
    have L3 := hLB.below (below_alloc w3 (.cells #[.slice oB nB cB, .int .i64 Sb.g, .int .i64 Sb.u, .int .i64 Sb.t, .bool Sb.d] 26)) (Nat.le_refl _)
    have hB5 := (hB3.trans (hB4.mono hB3.size)).alloc (Nat.le_trans hB3.size hB4.size) (.cells #[.slice oB nB cB, .int .i64 Sb.g, .int .i64 Sb.u, .int .i64 Sb.t, .bool Sb.d] 26)
    clear V2 D2 A2 hRB hLB hB3 hB4
    obtain ⟨W4, hW4⟩ : ∃ W4, W4 = w3.alloc (.cells #[.slice oB nB cB, .int .i64 Sb.g, .int .i64 Sb.u, .int .i64 Sb.t, .bool Sb.d] 26) := ⟨_, rfl⟩
    rw [← hW4] at V3 D3 A3 B3 L3 hB5
    obtain ⟨Bb, hBb⟩ : ∃ Bb, Bb = w3.heap.size := ⟨_, rfl⟩
    rw [← hBb] at B3
    have hW5 : W4.heap.size = w3.heap.size + 1 := by rw [hW4]; simp
    obtain ⟨I, hID⟩ : ∃ I : World → Prop, I = fun wx => (SVar wx w.heap.size os ns cs S ∧ Var wx (w.heap.size + 1) ob k c ss) ∧ (SVar wx w2.heap.size oA nA cA Sa ∧ SVar wx w3.heap.size oB nB cB Sb) ∧ (Rd wx ol nl cl lb ∧ SVar wx (w3.heap.size + 1) none 0 0 St.zero) ∧ Below w.heap.size w wx := ⟨_, rfl⟩
    have st : Hid (Stable I) := by
      rw [hID]
      exact ((Stable.svar _ _ _ _ _).and (fun _ _ h hB => h.below hB)).and (((Stable.svar _ _ _ _ _).and (Stable.svar _ _ _ _ _)).and (((Stable.rd _ _ _ _).and (Stable.svar _ _ _ _ _)).and (Stable.below _)))
    have gI : Hid (∀ wx, I wx → (SVar wx w.heap.size os ns cs S ∧ Var wx (w.heap.size + 1) ob k c ss) ∧ (SVar wx w2.heap.size oA nA cA Sa ∧ SVar wx w3.heap.size oB nB cB Sb) ∧ (Rd wx ol nl cl lb ∧ SVar wx (w3.heap.size + 1) none 0 0 St.zero) ∧ Below w.heap.size w wx) := by intro wx h; rw [hID] at h; exact h
    have hI5 : I (W4.alloc (.cells #[.slice none 0 0, .int .i64 0, .int .i64 0, .int .i64 0, .bool false] 26)) := by
      rw [hID]
      have hN := SVar.new (w := W4) (S := St.zero) (Rd.nil _)
      rw [hW5] at hN
      have hb := below_alloc W4 (.cells #[.slice none 0 0, .int .i64 0, .int .i64 0, .int .i64 0, .bool false] 26)
      exact ⟨⟨V3.keep hb, D3.below hb⟩, ⟨A3.keep hb, hBb ▸ B3.keep hb⟩, ⟨L3.below hb (Nat.le_refl _), hN⟩, hB5.trans (hb.mono hB5.size)⟩
    have HW4 := Lib.hid hW4
    clear hID V3 D3 A3 B3 L3 hB5 hW4 hBb hW5
    have hId := st.out.drew hI5
    haveI : Nonempty (Cls I) := ⟨⟨_, hId⟩⟩
    have gC0 : ∀ x : Cls I, x.w.cell? ⟨w.heap.size, 0, none⟩ = some (.slice os ns cs) := fun x => (gI.out _ x.is).1.1.cells.1
    have gC1 : ∀ x : Cls I, x.w.cell? ⟨w.heap.size, 1, none⟩ = some (.int .i64 S.g) := fun x => (gI.out _ x.is).1.1.cells.2.1
    have gC2 : ∀ x : Cls I, x.w.cell? ⟨w.heap.size, 2, none⟩ = some (.int .i64 S.u) := fun x => (gI.out _ x.is).1.1.cells.2.2.1
    have gC3 : ∀ x : Cls I, x.w.cell? ⟨w.heap.size, 3, none⟩ = some (.int .i64 S.t) := fun x => (gI.out _ x.is).1.1.cells.2.2.2.1
    have gC4 : ∀ x : Cls I, x.w.cell? ⟨w.heap.size, 4, none⟩ = some (.bool S.d) := fun x => (gI.out _ x.is).1.1.cells.2.2.2.2
    obtain ⟨sb, hsb⟩ : ∃ sb, stoB S.ss S.g S.u S.t = sb := ⟨_, rfl⟩
    have K1 : Hid (∀ x : Cls I, Calls Try.prog 13 #[.agg #[.slice os ns cs, .int .i64 S.g, .int .i64 S.u, .int .i64 S.t, .bool S.d]] x.w fun e w'' => e = .returned (.bool sb) ∧ ∃ y : Cls I, w'' = y.w) :=
      fun x => hsb ▸ class_of st.out (right4_any os ns cs S.ss S.g S.u S.t S.d _ (gI.out _ x.is).1.1.rd hns)
    have K2 : Hid (∀ x : Cls I, Calls Try.prog 14 #[.agg #[.slice os ns cs, .int .i64 S.g, .int .i64 S.u, .int .i64 S.t, .bool S.d]] x.w fun e w'' => e = .returned (.bool sb) ∧ ∃ y : Cls I, w'' = y.w) :=
      fun x => hsb ▸ class_of st.out (rright4_any os ns cs S.ss S.g S.u S.t S.d _ (gI.out _ x.is).1.1.rd hns)
    have K3 : Hid (∀ x : Cls I, Calls Try.prog 15 #[] x.w fun e w'' => e = .returned (.bool true) ∧ ∃ y : Cls I, w'' = y.w) :=
      fun x => class_of st.out (alive_any _)
    clear hsb
    go_upto_region 5 with fail
    rw [← HW4.out]
    clear HW4
    generalize W4.alloc (.cells #[.slice none 0 0, .int .i64 0, .int .i64 0, .int .i64 0, .bool false] 26) = W5 at *
    cases sb
    all_goals
      refine wp_region_class I (by kernel_rfl) (by kernel_rfl) hId ?_
      repeat (go_big_quiet_step (first | exact K1.out _ | exact K2.out _ | exact K3.out _))
      refine wpQuiet_nil ?_
      rintro _ ⟨x, rfl⟩
      clear gC0 gC1 gC2 gC3 gC4 K1 K2 K3 hId hI5
      obtain ⟨wq, hq⟩ := x
      dsimp only
      go_upto_region 7 with fail
      go_cut [53] (fun s53 wx => s53 = .bool (!newOk n0) ∧ wx = wq)
      case first =>
        by_cases c1 : n0 < 10
        · have E : Hid (newOk n0 = false) := by show _ = _; rw [Bool.eq_false_iff]; intro h; have := (newOk_iff n0).1 h; omega
          go_wp2_with fail
          go_meet
          case rel => exact ⟨by rw [E.out]; rfl, rfl⟩
        by_cases c2 : 130 < n0
        · have E : Hid (newOk n0 = false) := by show _ = _; rw [Bool.eq_false_iff]; intro h; have := (newOk_iff n0).1 h; omega
          go_wp2_with fail
          go_meet
          case rel => exact ⟨by rw [E.out]; rfl, rfl⟩
        have c1' : 10 ≤ n0 := by omega
        have c2' : n0 ≤ 130 := by omega
        by_cases c3 : n0 % 2 = 0
        · have E : Hid (newOk n0 = true) := (newOk_iff n0).2 ⟨c1', c2', c3⟩
          have b3 : (n0 % 2 == 0) = true := by rw [beq_iff_eq]; exact c3
          have b4 : (n0 % 2 != 0) = false := by rw [bne, b3]; rfl
          clear c3 c1 c2
          go_wp2_with fail
          go_meet
          case rel => exact ⟨by rw [E.out]; simp; exact ⟨c1', c2'⟩, rfl⟩
        · have E : Hid (newOk n0 = false) := by show _ = _; rw [Bool.eq_false_iff]; intro h; exact c3 ((newOk_iff n0).1 h).2.2
          have b3 : (n0 % 2 == 0) = false := by rw [beq_eq_false_iff_ne]; exact c3
          have b4 : (n0 % 2 != 0) = true := by rw [bne, b3]; rfl
          clear c3 c1 c2
          go_wp2_with fail
          go_meet
          case rel => exact ⟨by rw [E.out]; rfl, rfl⟩
      case rest =>
        obtain ⟨rfl, rfl⟩ := hcut
        go_upto_if 53 with fail
        go_cut [53] (fun s53 wx => I wx)
        case first =>
          cases hok : newOk n0
          · obtain ⟨rfl, rfl⟩ := HN1.out hok
            have A1 := (gI.out _ hq).2.1.1
            have N1 := (gI.out _ hq).2.2.1.2
            obtain ⟨v0, v1, v2, v3, v4⟩ := A1.cells
            obtain ⟨y0, y1, y2, y3, y4⟩ := N1.cells
            go_wp2_with fail
            refine (same4_any oA nA cA none 0 0 St.zero _ A1.rd (Rd.nil _) (by have := A1.rd.len; exact this ▸ Nat.zero_le _)).mono ?_
            rintro e w6 ⟨rfl, hB⟩
            have hq6 := st.out _ _ hq hB
            clear v0 v1 v2 v3 v4 y0 y1 y2 y3 y4 A1 N1 hB
            go_wp2_with fail
            go_meet
            case rel => exact hq6
          · obtain ⟨rfl, rfl⟩ := HN2.out hok
            have hnl := newD_len hok
            have HM := Lib.hid (fun wx => rnewS_any n0 wx hok)
            have A1 := (gI.out _ hq).2.1.1
            have hnA : nA ≤ 1000 := by have h1 := A1.rd.len; dsimp only at h1; omega
            go_wp2_with fail
            refine wp_region_taken I 7 (by kernel_rfl) ?_
            have hqd := st.out.drew hq
            clear hq A1 hok
            generalize World.drew _ = wd at *
            refine wpT_take (i := 0) (v := .int .i64 0) rfl (by kernel_rfl) (by kernel_rfl) (by kernel_rfl) (fun _ _ _ h => h) (Or.inl ⟨by rfl, fun v hv => by go_simp⟩) hqd ?_
            refine wpT_take (i := 1) (v := .bool false) rfl (by kernel_rfl) (by kernel_rfl) (by kernel_rfl) (fun _ _ _ h => h) (Or.inl ⟨by rfl, fun v hv => by go_simp⟩) hqd ?_
            refine wpT_take (i := 2) (v := .bool false) rfl (by kernel_rfl) (by kernel_rfl) (by kernel_rfl) (fun _ _ _ h => h) (Or.inl ⟨by rfl, fun v hv => by go_simp⟩) hqd ?_
            refine wpT_take (i := 3) (v := .agg #[.slice oA nA cA, .int .i64 1, .int .i64 0, .int .i64 1, .bool false]) rfl (by kernel_rfl) (by kernel_rfl) (by kernel_rfl) (fun _ _ _ h => h) (Or.inl ⟨by rfl, fun v hv => ?_⟩) hqd ?_
            · obtain ⟨v0, v1, v2, v3, v4⟩ := (gI.out _ hv).2.1.1.cells
              dsimp only at v1 v2 v3 v4
              go_simp
            refine wpT_take (i := 4) (v := .int .i64 n0) rfl (by kernel_rfl) (by kernel_rfl) (by kernel_rfl) (fun _ _ _ h => h) (Or.inl ⟨by rfl, fun v hv => by go_simp⟩) hqd ?_
            refine wpT_ready (rs := [5]) (by kernel_rfl) (by simp) ?_
            refine AllT.cons rfl (fun K hK => ?_) AllT.nil
            go_simp
            refine (HM.out _).mono ?_
            rintro e w6 ⟨⟨oC, nC, cC, rfl, hRC⟩, hBC⟩
            dsimp only at hRC ⊢
            have hq6 := st.out _ _ hqd hBC
            refine hK _ _ (fun _ => hq6) ?_
            clear hK K hqd hBC
            refine wpT_ready (rs := [6]) (by kernel_rfl) (by simp) ?_
            refine AllT.cons rfl (fun K hK => ?_) AllT.nil
            go_simp
            refine (same4_any oA nA cA oC nC cC ⟨newD n0, 1, 0, 1, false⟩ w6 (gI.out _ hq6).2.1.1.rd hRC hnA).mono ?_
            rintro e w7 ⟨rfl, hB⟩
            have hq7 := st.out _ _ hq6 hB
            refine hK _ _ (fun _ => hq7) ?_
            clear hK K hq6 hB hRC
            refine wpT_take (i := 7) (v := .bool false) rfl (by kernel_rfl) (by kernel_rfl) (by kernel_rfl) (fun _ _ _ h => h) (Or.inl ⟨by rfl, fun v hv => by go_simp⟩) hq7 ?_
            refine wpT_take (i := 8) (v := .bool false) rfl (by kernel_rfl) (by kernel_rfl) (by kernel_rfl) (fun _ _ _ h => h) (Or.inl ⟨by rfl, fun v hv => by go_simp⟩) hq7 ?_
            refine wpT_done (by kernel_rfl) ?_ _
            go_wp2_with fail
            go_meet
            case rel => exact hq7
        case rest =>
          clear HN1 HN2 hq
          generalize wc = w6 at *
          have hI6 : I w6 := hcut
          clear hcut
          have D6 := (gI.out _ hI6).1.2
          have d0 := D6.cell
          have HLG := Lib.hid (rlog_any ob k c ss w6 D6.rd hk)
          rcases HX.out with ⟨e1, rfl, rfl, rfl⟩ | ⟨e1, rfl, rfl, rfl⟩ | ⟨e1, rfl⟩
          · rw [e1] at HLG
            clear e1
            go_wp2_with fail
            refine HLG.out.mono ?_
            rintro e w7 ⟨rfl, hB⟩
            have hI7 := st.out _ _ hI6 hB
            clear d0 D6 hI6 hB HLG
            have B7 := (gI.out _ hI7).2.1.2
            have N7 := (gI.out _ hI7).2.2.1.2
            obtain rfl : 0 = nl := (gI.out _ hI7).2.2.1.1.len
            obtain ⟨v0, v1, v2, v3, v4⟩ := B7.cells
            obtain ⟨y0, y1, y2, y3, y4⟩ := N7.cells
            go_wp2_with fail
            refine (same4_any oB nB cB none 0 0 St.zero w7 B7.rd (Rd.nil _) (by have := B7.rd.len; exact this ▸ Nat.zero_le _)).mono ?_
            rintro e w8 ⟨rfl, hB⟩
            have hB8 := (gI.out _ (st.out _ _ hI7 hB)).2.2.2
            go_wp2_with fail
            go_ret
            exact ⟨rfl, hB8⟩
          · rw [e1] at HLG
            have HLOG := Lib.hid e1
            clear e1
            go_wp2_with fail
            refine HLG.out.mono ?_
            rintro e w7 ⟨rfl, hB⟩
            have hI7 := st.out _ _ hI6 hB
            clear d0 D6 hI6 hB HLG
            have D7 := (gI.out _ hI7).1.2
            have d0 := D7.cell
            have HBB := Lib.hid (HRB.out w7 D7.rd HLOG.out)
            go_wp2_with fail
            refine HBB.out.mono ?_
            rintro e w8 ⟨⟨oC, nC, cC, oW, nW, cW, rfl, hRC, hRW⟩, hB⟩
            have hI8 := st.out _ _ hI7 (hB.alloc hB.size (.cells #[.slice oC nC cC, .int .i64 St.zero.g, .int .i64 St.zero.u, .int .i64 St.zero.t, .bool St.zero.d] 26))
            clear d0 D7 hI7 hB HBB
            have B7 := (gI.out _ hI8).2.1.2
            have N7 := (gI.out _ hI8).2.2.1.2
            obtain rfl : 0 = nl := (gI.out _ hI8).2.2.1.1.len
            obtain ⟨v0, v1, v2, v3, v4⟩ := B7.cells
            obtain ⟨y0, y1, y2, y3, y4⟩ := N7.cells
            go_wp2_with fail
            refine (same4_any oB nB cB none 0 0 St.zero _ B7.rd (Rd.nil _) (by have := B7.rd.len; exact this ▸ Nat.zero_le _)).mono ?_
            rintro e w9 ⟨rfl, hB⟩
            have hB8 := (gI.out _ (st.out _ _ hI8 hB)).2.2.2
            go_wp2_with fail
            go_ret
            exact ⟨rfl, hB8⟩
          · rw [e1] at HLG
            have HLOG := Lib.hid e1
            clear e1
            go_wp2_with fail
            refine HLG.out.mono ?_
            rintro e w7 ⟨rfl, hB⟩
            have hI7 := st.out _ _ hI6 hB
            clear d0 D6 hI6 hB HLG
            have D7 := (gI.out _ hI7).1.2
            have d0 := D7.cell
            have HBB := Lib.hid (HRB.out w7 D7.rd HLOG.out)
            go_wp2_with fail
            refine HBB.out.mono ?_
            rintro e w8 ⟨⟨oC, nC, cC, oW, nW, cW, rfl, hRC, hRW⟩, hB⟩
            have hI8 := st.out _ _ hI7 (hB.alloc hB.size (.cells #[.slice oC nC cC, .int .i64 Sb.g, .int .i64 Sb.u, .int .i64 Sb.t, .bool Sb.d] 26))
            have C8 := SVar.new (S := Sb) hRC
            have L8 := hRW.below (below_alloc w8 (.cells #[.slice oC nC cC, .int .i64 Sb.g, .int .i64 Sb.u, .int .i64 Sb.t, .bool Sb.d] 26)) (Nat.le_refl _)
            clear d0 D7 hI7 hB HBB hRC hRW
            have B7 := (gI.out _ hI8).2.1.2
            obtain ⟨v0, v1, v2, v3, v4⟩ := B7.cells
            obtain ⟨y0, y1, y2, y3, y4⟩ := C8.cells
            have hnB : nB ≤ 1000 := by have h1 := B7.rd.len; have h2 := HSL.out; omega
            go_wp2_with fail
            refine (same4_any oB nB cB oC nC cC Sb _ B7.rd C8.rd hnB).mono ?_
            rintro e w9 ⟨rfl, hB⟩
            have hI9 := st.out _ _ hI8 hB
            have L9 := L8.below hB (Nat.le_refl _)
            have M9 := (gI.out _ hI9).2.2.1.1
            have hnl : nl ≤ 1000 := by have h1 := M9.len; have h2 := HLL.out; omega
            have hnW : nW ≤ 1000 := by have h1 := L9.len; have h2 := HLL.out; omega
            have HTX := Lib.hid (texts_any ol nl cl lb oW nW cW lb w9 M9 L9 hnl hnW)
            rw [same_self] at HTX
            clear v0 v1 v2 v3 v4 y0 y1 y2 y3 y4 B7 C8 hI8 hB L8
            go_wp2_with fail
            refine HTX.out.mono ?_
            rintro e w10 ⟨rfl, hB⟩
            have hB8 := (gI.out _ (st.out _ _ hI9 hB)).2.2.2
            go_wp2_with fail
            go_ret
            exact ⟨rfl, hB8⟩
end Go.Proofs.Ytmjbhmmcpjhmcaa.storeBoots
