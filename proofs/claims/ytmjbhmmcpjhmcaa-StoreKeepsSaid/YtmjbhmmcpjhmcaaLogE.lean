/-
  What is to be written, and where; a disk of one's own.
-/
import Derived.Test.YtmjbhmmcpjhmcaaLogD
import Derived.Test.YtmjbhmmcpjhmcaaDiskWrite
namespace Go.Proofs.Ytmjbhmmcpjhmcaa
open Go.RowKit
set_option linter.unusedVariables false

theorem load2 {w : World} {B : Nat} {a b : Value} (h0 : w.cell? ⟨B, 0, none⟩ = some a) (h1 : w.cell? ⟨B, 1, none⟩ = some b) : (loadVar 67 ⟨B, 0, none⟩).run Try.prog w = .ok (.agg #[a, b]) w := by
  simp [go_sem, h0, h1]
theorem ret_page {fn : Func} {p : Tmp} (h : fn.results = #[.cell p 67]) {tmps : Array Value} {w : World} {B : Nat} {a b : Value} (hp : tmps.getD p undef = .pointer (some ⟨B, 0, none⟩)) (h0 : w.cell? ⟨B, 0, none⟩ = some a) (h1 : w.cell? ⟨B, 1, none⟩ = some b) :
    (results fn tmps).run Try.prog w = .ok (.agg #[a, b]) w := by
  have hl := load2 h0 h1
  have hp' : tmps[p]?.getD undef = .pointer (some ⟨B, 0, none⟩) := by simpa using hp
  simp only [results, h]
  simp [hp', asAddr, hl]
theorem sealR_fit {g n : Int} {p : ByteArray} (F : Fits g n p) : sealR g n p = sealS g n p := sealR_ok F.stamp F.size
theorem empty_small : (⟨#[]⟩ : ByteArray).size ≤ maxLen := by unfold maxLen; show 0 ≤ _; omega
theorem fits_head {g : Int} (h0 : 1 ≤ g) (h1 : g ≤ 250) : Fits g 0 ⟨#[]⟩ := ⟨(stamp_iff g 0).2 ⟨h0, h1, by omega, by omega⟩, by show 0 ≤ 96; omega⟩
theorem page_end {fn : Func} {p : Tmp} (h : fn.results = #[.cell p 67]) {tmps : Array Value} {w w2 : World} {B : Nat} {x : Int} {t : ByteArray} {u v : Value} (hp : tmps.getD p undef = .pointer (some ⟨B, 0, none⟩))
    (c0 : w2.cell? ⟨B, 0, none⟩ = some u) (c1 : w2.cell? ⟨B, 1, none⟩ = some v) (hBB : Below w.heap.size w w2) (hB : w.heap.size ≤ B) :
    bodyPost Try.prog fn (fun e w' => e = Ending.returned (.agg #[.int .i64 x, .string t]) ∧ Below w.heap.size w w') Exit.ret { tmps := tmps, defers := [] }
      ((w2.setCell ⟨B, 0, none⟩ (.int .i64 x)).setCell ⟨B, 1, none⟩ (.string t)) := by
  refine bodyPost_ret (ret_page h hp (a := .int .i64 x) (b := .string t) ?_ ?_) rfl ⟨rfl, (hBB.setCell hB _).setCell hB _⟩
  · rw [World.cell?_setCell_other _ _ _ _ (by simp)]
    exact World.cell?_setCell_same _ _ _ c0
  · exact World.cell?_setCell_same _ _ _ ((World.cell?_setCell_other _ _ _ _ (by simp)).trans c1)
set_option maxHeartbeats 800000 in
theorem header_any (g : Int) (w : World) (h0 : 1 ≤ g) (h1 : g ≤ 250) :
    Calls Try.prog 35 #[.int .i64 g] w fun e w' => e = .returned (.agg #[.int .i64 (g % 2), .string (sealS g 0 ⟨#[]⟩)]) ∧ Below w.heap.size w w' := by
  have E := Lib.hid (sealR_fit (fits_head h0 h1))
  go_enter Try.func35, Try.ntmps35
  go_wp2_with fail
  refine (headerAt_any g _ (by omega) (by omega)).mono ?_
  rintro e w1 ⟨rfl, rfl⟩
  go_wp2_with fail
  refine (sealed_any g 0 _ _ empty_small).mono ?_
  rintro e w2 ⟨rfl, hB2⟩
  rw [E.out]
  have hr2 : w2.heap[w.heap.size]? = some (.cells #[.int .i64 0, .string ⟨#[]⟩] 67 (0, 0)) := keepB hB2 (heap_alloc_new w _)
  have hBB := (below_alloc w (.cells #[.int .i64 0, .string ⟨#[]⟩] 67)).trans (hB2.mono (by simp))
  have c0 : w2.cell? ⟨w.heap.size, 0, none⟩ = some (.int .i64 0) := by rw [cell_of_row w2 _ _ _ _ _ hr2]; rfl
  have c1 : w2.cell? ⟨w.heap.size, 1, none⟩ = some (.string ⟨#[]⟩) := by rw [cell_of_row w2 _ _ _ _ _ hr2]; rfl
  have f0 : w2.frozen? ⟨w.heap.size, 0, none⟩ = false := frozen_of_row w2 _ _ _ _ hr2
  have f1 : w2.frozen? ⟨w.heap.size, 1, none⟩ = false := frozen_of_row w2 _ _ _ _ hr2
  clear hr2 hB2
  go_wp2_with fail
  exact page_end rfl rfl c0 c1 hBB (Nat.le_refl _)
theorem fits_rec {g i : Int} {p : ByteArray} (h0 : 1 ≤ g) (h1 : g ≤ 250) (h2 : 0 ≤ i) (h3 : i ≤ 63) (hp : p.size ≤ 96) : Fits g (i + 1) p := ⟨(stamp_iff g (i + 1)).2 ⟨h0, h1, by omega, by omega⟩, hp⟩
theorem small_max {p : ByteArray} {k : Nat} (h : p.size ≤ k) (hk : k ≤ 1000) : p.size ≤ maxLen := by unfold maxLen; omega
set_option maxHeartbeats 800000 in
theorem record_any (oa : Option Addr) (n cap : Nat) (ss : List ByteArray) (g i : Int) (p : ByteArray) (w : World) (hl : ss.length = n) (hn : n ≤ 1000) (h0 : 1 ≤ g) (h1 : g ≤ 250) (h2 : 0 ≤ i) (h3 : i ≤ 63) (hp : p.size ≤ 96) :
    Calls Try.prog 51 #[.agg #[.slice oa n cap], .int .i64 g, .int .i64 i, .string p] w fun e w' => e = .returned (.agg #[.int .i64 (recZ ss g i), .string (sealS g (i + 1) p)]) ∧ Below w.heap.size w w' := by
  have E := Lib.hid (sealR_fit (fits_rec h0 h1 h2 h3 hp))
  have hpm : Hid (p.size ≤ maxLen) := small_max hp (by omega)
  obtain ⟨W0, hW0⟩ : ∃ W0, W0 = (w.alloc (.cells #[.slice oa n cap] 24)).alloc (.cells #[.int .i64 0, .string ⟨#[]⟩] 67) := ⟨_, rfl⟩
  have hB0 : Below w.heap.size w W0 := by rw [hW0]; exact (below_alloc w _).alloc (by simp) _
  have hr0 : W0.heap[w.heap.size + 1]? = some (.cells #[.int .i64 0, .string ⟨#[]⟩] 67 (0, 0)) := by
    rw [hW0]
    have := heap_alloc_new (w.alloc (.cells #[.slice oa n cap] 24)) (.cells #[.int .i64 0, .string ⟨#[]⟩] 67)
    simpa using this
  have HW := Lib.hid hW0
  clear hW0
  go_enter Try.func51, Try.ntmps51
  go_wp2_with fail
  refine (recordAt_any _ _ _ ss g i _ hl hn (by omega) (by omega) h2 (by omega)).mono ?_
  rintro e w1 ⟨rfl, hB1⟩
  rw [← HW.out] at hB1
  have hBB := hB0.trans (hB1.mono hB0.size)
  have hr1 := keepB hB1 hr0
  clear hB0 hB1 hr0 HW
  go_wp2_with fail
  refine (sealed_any g (i + 1) p _ hpm.out).mono ?_
  rintro e w2 ⟨rfl, hB2⟩
  rw [E.out]
  have hr2 := keepB hB2 hr1
  have hBB2 := hBB.trans (hB2.mono hBB.size)
  have c0 : w2.cell? ⟨w.heap.size + 1, 0, none⟩ = some (.int .i64 0) := by rw [cell_of_row w2 _ _ _ _ _ hr2]; rfl
  have c1 : w2.cell? ⟨w.heap.size + 1, 1, none⟩ = some (.string ⟨#[]⟩) := by rw [cell_of_row w2 _ _ _ _ _ hr2]; rfl
  have f0 : w2.frozen? ⟨w.heap.size + 1, 0, none⟩ = false := frozen_of_row w2 _ _ _ _ hr2
  have f1 : w2.frozen? ⟨w.heap.size + 1, 1, none⟩ = false := frozen_of_row w2 _ _ _ _ hr2
  clear hr2 hB2 hr1 hBB
  go_wp2_with fail
  exact page_end rfl rfl c0 c1 hBB2 (by omega)

theorem own_empty (w : World) (e : TypeId) : (w.alloc (.cells #[] e)).ownsRow w.heap.size e 1 (.slice (some ⟨w.heap.size, 0, none⟩) 0 0) 0 [] :=
  ⟨rfl, Or.inr ⟨w.heap.size, 0, #[], rfl, Nat.le_refl _, heap_alloc_new w _, Nat.le_refl _, by unfold maxLen; omega, rfl, rfl⟩⟩
theorem Rd.news {w : World} {g n cap : Nat} {ss : List ByteArray} (h : Rd w (some ⟨g, 0, none⟩) n cap ss) : ∀ j u, (strCells ss)[j]? = some u → w.cell? ((⟨g, 0, none⟩ : Addr).add j) = some u := by
  intro j u hj
  have hjl := (List.getElem?_eq_some_iff.1 hj).1
  rw [strCells_length, h.len] at hjl
  obtain ⟨g', hg', hc⟩ := h.cell j hjl
  rw [strCells_at ss j (by rw [h.len]; exact hjl)] at hj
  cases hj
  cases hg'
  rw [add_at, Nat.zero_add]
  exact hc
theorem clone_below {w w1 : World} {o : Obj} {m c : Nat} (hgrow : (w.alloc o).grownBy w1 (Value.slice (some ⟨w.heap.size, 0, none⟩) m c).ownBlock) : Below w.heap.size w w1 :=
  (below_alloc w o).grown hgrow (by simp) (fun g hg => by cases hg; exact Nat.le_refl _)
set_option maxRecDepth 100000 in
set_option maxHeartbeats 800000 in
theorem clone_any (g n cap : Nat) (ss : List ByteArray) (w : World) (hR : Rd w (some ⟨g, 0, none⟩) n cap ss) (hn : n ≤ 1000) :
    Calls Try.prog 65 #[.slice (some ⟨g, 0, none⟩) n cap] w fun e w' => (∃ ob m, e = .returned (.slice ob n m) ∧ Rd w' ob n m ss) ∧ Below w.heap.size w w' := by
  have hnil : ∀ V : World, (binOp .eql 22 (.slice (some ⟨g, 0, none⟩) n cap) (.slice none 0 0)).run Try.prog V = .ok (.bool false) V := by
    intro V
    have := run_equal_slice_nil (P := Try.prog) V 22 9 (some ⟨g, 0, none⟩) n cap Try.underlying22
    simp [binOp, this]
  obtain ⟨i0, hi, hz0, hz1, hz2⟩ := info_parts info9
  have hown : (w.alloc (.cells #[] 9)).ownsRow w.heap.size 9 1 (.slice (some ⟨w.heap.size, 0, none⟩) 0 0) 0 [] := own_empty w 9
  have hR1 := hR.below (below_alloc w (.cells #[] 9)) (Nat.le_refl _)
  have hl := hR.len
  have hnews := Lib.hid hR1.news
  have HR := Lib.hid hR1
  clear hR1 hR
  go_enter Try.func65, Try.ntmps65
  go_wp2_with (at_builtin; refine wpList_append_own _ rfl _ _ 22 rfl w.heap.size 9 i0 (.string ⟨#[]⟩) 1 16 Try.underlying22 hi hz0 hz1 hz2 rfl (by decide) _ _ _ rfl hown ⟨g, 0, none⟩ n cap (strCells ss) rfl (by rw [strCells_length, hl, Nat.mul_one]) hnews.out (strCells_one ss) (by unfold maxLen; omega) (by omega) (by simp) ?_; intro v' w1 hown1 hgrow _)
  have hB1 := clone_below hgrow
  rw [List.nil_append, Nat.zero_add] at hown1
  obtain ⟨ob, cp, rfl, hRd, _⟩ := Rd.of_own hl hown1
  go_wp2
  go_ret
  exact ⟨⟨ob, cp, rfl, hRd⟩, hB1⟩
set_option maxHeartbeats 800000 in
theorem ownDisk_any (g n cap : Nat) (ss : List ByteArray) (w : World) (hR : Rd w (some ⟨g, 0, none⟩) n cap ss) (hn : n ≤ 1000) :
    Calls Try.prog 38 #[.agg #[.slice (some ⟨g, 0, none⟩) n cap]] w fun e w' => (∃ ob m, e = .returned (.agg #[.slice ob n m]) ∧ Rd w' ob n m ss) ∧ Below w.heap.size w w' := by
  obtain ⟨W0, hW0⟩ : ∃ W0, W0 = (w.alloc (.cells #[.slice (some ⟨g, 0, none⟩) n cap] 24)).alloc (.cells #[.slice none 0 0] 24) := ⟨_, rfl⟩
  have hB0 : Below w.heap.size w W0 := by rw [hW0]; exact (below_alloc w _).alloc (by simp) _
  have hr0 : W0.heap[w.heap.size + 1]? = some (.cells #[.slice none 0 0] 24 (0, 0)) := by
    rw [hW0]
    have := heap_alloc_new (w.alloc (.cells #[.slice (some ⟨g, 0, none⟩) n cap] 24)) (.cells #[.slice none 0 0] 24)
    simpa using this
  have hR0 := hR.below hB0 (Nat.le_refl _)
  have HW := Lib.hid hW0
  clear hW0
  go_enter Try.func38, Try.ntmps38
  go_wp2_with fail
  rw [← HW.out]
  refine (clone_any g n cap ss _ hR0 hn).mono ?_
  rintro e w1 ⟨⟨ob, m, rfl, hRd⟩, hB1⟩
  have hr1 := keepB hB1 hr0
  have hBB := hB0.trans (hB1.mono hB0.size)
  have c1 := cell_of_one hr1
  have f1 := free_of_one hr1
  go_wp2
  refine bodyPost_ret (ret_cell rfl rfl (World.cell?_setCell_same _ _ _ c1) rfl) rfl ?_
  exact ⟨⟨ob, m, rfl, hRd.setDisk c1 _⟩, hBB.setCell (by show w.heap.size ≤ w.heap.size + 1; omega) _⟩
end Go.Proofs.Ytmjbhmmcpjhmcaa
