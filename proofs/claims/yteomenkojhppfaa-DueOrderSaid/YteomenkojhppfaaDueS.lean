/-
  Dues: a row of its own, in order.
-/
import Derived.Test.YteomenkojhppfaaDueC
import Derived.Test.YteomenkojhppfaaDueI
namespace Go.Proofs.Yteomenkojhppfaa
open Go.RowKit Go.Shelf Go.Lib Go.Sort
set_option linter.unusedVariables false

theorem holds_own {w : World} {base cap g n : Nat} {ds : List D2} (hl : ds.length = n) (h : w.ownsRow base 24 2 (.slice (some ⟨g, 0, none⟩) n cap) n (cellsD ds)) (hn : 0 < n) : HoldsK encD 2 w g 0 ds.toArray := by
  obtain ⟨g', e, hb, hlt, hfr⟩ := frozenD h hn
  cases e
  obtain ⟨oa, cap', e, hD, _⟩ := Ds.of_own hl h
  cases e
  refine holdsD fun i hi => ?_
  obtain ⟨g', o, e, h1, h2⟩ := hD.cell i (by omega)
  cases e
  exact ⟨⟨h1, h2⟩, hfr _, hfr _⟩
set_option maxHeartbeats 1600000 in
theorem sfunc_any (Bs : Nat) (oa : Option Addr) (m cap : Nat) (ds : List D2) (hm : m ≤ 70) (w : World) (hBs : Bs < w.heap.size) (hc : w.cell? ⟨Bs, 0, none⟩ = some (.slice oa m cap)) (hD : Ds w oa m cap ds) :
    Calls Try.prog 26 #[.func (.func 32) #[] #[.pointer (some ⟨Bs, 0, none⟩)], .func (.func 28) #[] #[]] w fun e w' => (∃ oa' cap', e = .returned (.slice oa' m cap') ∧ Ds w' oa' m cap' (sortD ds) ∧ cap' ≤ maxLen ∧ (0 < m → ∃ g, oa' = some ⟨g, 0, none⟩ ∧ w.heap.size ≤ g)) ∧ Below w.heap.size w w' := by
  have hl := hD.len
  have h := collect_any Bs oa m cap ds hm w hBs hc hD
  clear hc hD
  go_enter Try.func26, Try.ntmps26
  go_wp2_with fail
  refine h.mono ?_
  rintro e w1 ⟨⟨v, rfl, hv⟩, B⟩
  obtain ⟨oa', cap', rfl, hD', hm'⟩ := Ds.of_own hl hv
  by_cases h0 : 0 < m
  · obtain ⟨g, rfl, hb, hlt, hfr⟩ := frozenD hv h0
    have hH := holds_own hl hv h0
    have hS := sort_any g 0 cap' ds w1 hH hlt (by omega)
    have hA := fun n os => sorted_at (n := n) (os := os) hH hlt (show ds.length ≤ cap' by have := hD'.room; omega)
    rw [hl] at hS hA
    clear hv hH hD' hl
    go_wp2_with fail
    refine hS.mono ?_
    rintro e w2 ⟨rfl, n, os, rfl⟩
    obtain ⟨q1, q2⟩ := hA n os
    generalize sortWorldK encD 2 w1 g 0 n (sortD ds).toArray os = w2 at *
    go_wp2_with fail
    go_ret
    exact ⟨⟨_, _, rfl, q1, hm', fun _ => ⟨_, rfl, hb⟩⟩, B.trans (q2 _ hb)⟩
  · obtain rfl : m = 0 := by omega
    obtain rfl : ds = [] := List.eq_nil_of_length_eq_zero hl
    have hS := fun W => sort_none oa' cap' W
    clear hv
    go_wp2_with fail
    refine (hS _).mono ?_
    rintro e w2 ⟨rfl, rfl⟩
    go_wp2_with fail
    go_ret
    exact ⟨⟨_, _, rfl, by simpa [sortD] using hD', hm', fun h => absurd h h0⟩, B⟩
set_option maxHeartbeats 800000 in
theorem inOrder_any (oa : Option Addr) (m cap : Nat) (ds : List D2) (hm : m ≤ 70) (w : World) (hD : Ds w oa m cap ds) :
    Calls Try.prog 21 #[.slice oa m cap] w fun e w' => (∃ oa' cap', e = .returned (.slice oa' m cap') ∧ Ds w' oa' m cap' (sortD ds) ∧ cap' ≤ maxLen ∧ (0 < m → ∃ g, oa' = some ⟨g, 0, none⟩ ∧ w.heap.size ≤ g)) ∧ Below w.heap.size w w' := by
  have h1 := fun W => values_any oa m cap W
  have hB1 : Below w.heap.size w (w.alloc (.cells #[.slice oa m cap] 22)) := (Below.refl _ w).alloc (Nat.le_refl _) _
  have h2 := sfunc_any w.heap.size oa m cap ds hm (w.alloc (.cells #[.slice oa m cap] 22)) (by simp) (by simp) (hD.below hB1 (Nat.le_refl _))
  generalize hW : w.alloc (.cells #[.slice oa m cap] 22) = w1 at *
  have HW := Lib.hid hW
  clear hW hD
  go_enter Try.func21, Try.ntmps21
  go_wp2_with fail
  refine (h1 _).mono ?_
  rintro e w' ⟨rfl, rfl⟩
  rw [HW.out]
  go_wp2_with fail
  refine h2.mono ?_
  rintro e w2 ⟨⟨oa', cap', rfl, q1, q2, q3⟩, B⟩
  go_wp2_with fail
  go_ret
  exact ⟨⟨_, _, rfl, q1, q2, fun h => (q3 h).imp fun g hg => ⟨hg.1, Nat.le_trans hB1.size hg.2⟩⟩, hB1.trans (B.mono hB1.size)⟩
end Go.Proofs.Yteomenkojhppfaa
