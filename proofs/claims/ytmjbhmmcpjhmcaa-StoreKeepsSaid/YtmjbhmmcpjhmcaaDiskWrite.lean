/-
  The document's own whole write; and the one write that the laws ask for each time.
-/
import Derived.Test.YtmjbhmmcpjhmcaaDiskRef
import Derived.Deep.RegionWith
namespace Go.Proofs.Ytmjbhmmcpjhmcaa
open Go.RowKit
set_option linter.unusedVariables false
attribute [local go_sem ↓] Go.wp_at_zero Go.wp_at_succ

theorem Rd.setDisk {w : World} {oa : Option Addr} {n cap : Nat} {ss : List ByteArray} (h : Rd w oa n cap ss) {B : Nat} {ob : Option Addr} {m cb : Nat} (hc : w.cell? ⟨B, 0, none⟩ = some (.slice ob m cb)) (u : Value) : Rd (w.setCell ⟨B, 0, none⟩ u) oa n cap ss := by
  refine ⟨h.len, h.room, fun i hi => ?_⟩
  obtain ⟨g, hg, hi'⟩ := h.cell i hi
  refine ⟨g, hg, keepS (fun e => ?_) hi'⟩
  obtain ⟨g', hg', h0⟩ := h.cell 0 (by omega)
  rw [hg] at hg'
  cases hg'
  cases e
  rw [hc] at h0
  cases h0
set_option maxHeartbeats 800000 in
theorem rwrite_any (oa : Option Addr) (n cap : Nat) (ss : List ByteArray) (a : Nat) (t : ByteArray) (w : World) (hR : Rd w oa n cap ss) (hn : n ≤ 1000) (ha : a < n) (ht : t.size = 128) (hsz : ∀ i, i < n → (ss.getD i ByteArray.empty).size = 128) :
    Calls Try.prog 42 #[.agg #[.slice oa n cap], .int .i64 a, .string t] w fun e w' => Told1 e w' (rtearL ss a t 128) ∧ Below w.heap.size w w' := by
  obtain ⟨W0, hW0⟩ : ∃ W0, W0 = (w.alloc (.cells #[.slice oa n cap] 24)).alloc (.cells #[.slice none 0 0] 24) := ⟨_, rfl⟩
  have hB0 : Below w.heap.size w W0 := by rw [hW0]; exact (below_alloc w _).alloc (by simp) _
  have hs0 : W0.heap.size = w.heap.size + 2 := by rw [hW0]; simp
  have hb0 : W0.heap[w.heap.size]? = some (.cells #[.slice oa n cap] 24 (0, 0)) := by
    rw [hW0, Below.heap_alloc _ _ _ (by simp)]
    exact heap_alloc_new w _
  have hr0 : W0.heap[w.heap.size + 1]? = some (.cells #[.slice none 0 0] 24 (0, 0)) := by
    rw [hW0]
    have := heap_alloc_new (w.alloc (.cells #[.slice oa n cap] 24)) (.cells #[.slice none 0 0] 24)
    simpa using this
  have hR0 := hR.below hB0 (Nat.le_refl _)
  have hW0' := hW0.symm
  have hcb0 := cell_of_one hb0
  have HSZ := Lib.hid hsz
  clear hW0 hsz
  go_enter Try.func42, Try.ntmps42
  go_wp2_with fail
  refine (rtear_any _ _ _ _ _ _ 128 _ hR0 hn ha ht (Nat.le_refl _) HSZ.out).mono ?_
  rintro e w1 ⟨⟨ob, m, cbp, rfl, hT⟩, hB1⟩
  have hBw := hB0.trans (hB1.mono (by omega))
  have hr1 := (hB1.block (w.heap.size + 1) (by omega)).trans hr0
  have hcr := cell_of_one hr1
  have hfr := free_of_one hr1
  have hTn : ∀ g, ob = some ⟨g, 0, none⟩ → 0 < m → w.heap.size + 1 ≠ g := by
    intro g hg hm
    obtain ⟨g', hg', hc⟩ := hT.cell 0 hm
    rw [hg] at hg'
    cases hg'
    rintro rfl
    rw [cell_of_row w1 _ _ _ _ _ hr1] at hc
    simp at hc
  clear hW0' hb0 hr0 hB0 hR0 hr1 hcb0
  go_wp2
  refine bodyPost_ret (ret_cell rfl rfl (World.cell?_setCell_same _ _ _ hcr) rfl) rfl ?_
  refine ⟨⟨ob, m, cbp, rfl, hT.len, hT.room, fun i hi => ?_⟩, hBw.setCell (by show w.heap.size ≤ w.heap.size + 1; omega) _⟩
  obtain ⟨g, hg, hc⟩ := hT.cell i hi
  exact ⟨g, hg, keepS (hTn g hg (by omega)) hc⟩
end Go.Proofs.Ytmjbhmmcpjhmcaa
