/-
  Dues: Pop.
-/
import Derived.Test.YteomenkojhppfaaDueA
import Derived.Test.YteomenkojhppfaaDueS
import Derived.Laws.ResultCell
namespace Go.Proofs.Yteomenkojhppfaa
open Go.RowKit
set_option linter.unusedVariables false

set_option maxRecDepth 100000 in
set_option maxHeartbeats 1600000 in
theorem pop_yes (oa : Option Addr) (n cap : Nat) (l : List D2) (w : World) (h : Ds w oa n cap l) (hn : n ≤ 70) (h0 : 0 < n) (hb : true = dueB l) (x : D2) (r : List D2) (hx : sortD l = x :: r) :
    Calls Try.prog 8 #[.slice oa n cap] w fun e w' => (∃ oa' cap', e = .returned (.tuple #[.slice oa' (n - 1) cap', .agg #[.int .i64 x.1, .int .i64 x.2], .int .i64 0]) ∧ Ds w' oa' (n - 1) cap' r ∧ cap' ≤ maxLen ∧ ∀ ad, oa' = some ad → w.heap.size ≤ ad.block) ∧ Below w.heap.size w w' := by
  have B0 : Below w.heap.size w (w.alloc (.cells #[.int .i64 0, .int .i64 0] 24)) := (Below.refl _ w).alloc (Nat.le_refl _) _
  have hD0 := h.below B0 (Nat.le_refl _)
  have hs0 : (w.alloc (.cells #[.int .i64 0, .int .i64 0] 24)).heap.size = w.heap.size + 1 := by simp
  have c0 : (w.alloc (.cells #[.int .i64 0, .int .i64 0] 24)).cell? ⟨w.heap.size, 0, none⟩ = some (.int .i64 0) := by simp
  have c1 : (w.alloc (.cells #[.int .i64 0, .int .i64 0] 24)).cell? ⟨w.heap.size, 1, none⟩ = some (.int .i64 0) := by simp
  have f0 : (w.alloc (.cells #[.int .i64 0, .int .i64 0] 24)).frozen? ⟨w.heap.size, 0, none⟩ = false := by simp
  have f1 : (w.alloc (.cells #[.int .i64 0, .int .i64 0] 24)).frozen? ⟨w.heap.size, 1, none⟩ = false := by simp
  have h1 := due_is oa n cap l true _ hD0 hn hb
  have hl := h.len
  clear h hb
  go_enter Try.func8, Try.ntmps8
  go_wp2_with fail
  generalize w.alloc (.cells #[.int .i64 0, .int .i64 0] 24) = w1 at *
  refine h1.mono ?_
  rintro e w2 ⟨rfl, B2⟩
  have hD2 := hD0.below B2 (Nat.le_refl _)
  have hn0 : ((n : Int) == 0) = false := by simp; omega
  clear h1
  go_wp2_with fail
  refine (inOrder_any oa n cap l hn w2 hD2).mono ?_
  rintro e w3 ⟨⟨oa3, cap3, rfl, hD3, hm3, hf3⟩, B3⟩
  rw [hx] at hD3
  have hr3 := hD3.room
  obtain ⟨g, rfl, hgg⟩ := hf3 h0
  obtain ⟨g', o, e, p0, p1⟩ := hD3.cell 0 h0
  cases e
  simp only [Nat.zero_mul, Nat.add_zero, Nat.zero_add] at p0 p1
  obtain ⟨a, i⟩ := x
  simp only [List.getD_cons_zero] at p0 p1
  have z2 := B2.size
  have z3 := B3.size
  have d0 := (B3.cell (p := ⟨w.heap.size, 0, none⟩) (show w.heap.size < _ by omega)).trans ((B2.cell (p := ⟨w.heap.size, 0, none⟩) (show w.heap.size < _ by omega)).trans c0)
  have d1 := (B3.cell (p := ⟨w.heap.size, 1, none⟩) (show w.heap.size < _ by omega)).trans ((B2.cell (p := ⟨w.heap.size, 1, none⟩) (show w.heap.size < _ by omega)).trans c1)
  have e0 := (B3.frozen (p := ⟨w.heap.size, 0, none⟩) (show w.heap.size < _ by omega)).trans ((B2.frozen (p := ⟨w.heap.size, 0, none⟩) (show w.heap.size < _ by omega)).trans f0)
  have e1 := (B3.frozen (p := ⟨w.heap.size, 1, none⟩) (show w.heap.size < _ by omega)).trans ((B2.frozen (p := ⟨w.heap.size, 1, none⟩) (show w.heap.size < _ by omega)).trans f1)
  have B3' := B0.trans ((B2.mono (by omega)).trans (B3.mono (by omega)))
  clear hD0 hD2 B2 B3 c0 c1 f0 f1 B0 hx hl
  have hn1 : (1 : Int) ≤ (n : Int) := by omega
  have hn2 : (0 : Int) < (n : Int) := by omega
  have hn3 : (n : Int) ≤ (cap3 : Int) := by omega
  have hn4 : (1 : Int) ≤ (cap3 : Int) := by omega
  go_wp2_with fail
  have hgw : w.heap.size ≠ g := by omega
  have b0 : w.heap.size < w3.heap.size := by omega
  have hD4 : Ds ((w3.setCell ⟨w.heap.size, 0, none⟩ (.int .i64 a)).setCell ⟨w.heap.size, 1, none⟩ (.int .i64 i)).drew (if cap3 = 1 then some ⟨g, 0, none⟩ else some ⟨g, 2, none⟩) (n - 1) (cap3 - 1) r := by
    refine ⟨by have := hD3.len; simp at this; omega, by omega, fun j hj => ?_⟩
    have hc : ¬ cap3 = 1 := by omega
    rw [if_neg hc]
    obtain ⟨g', o', e, k0, k1⟩ := hD3.cell (j + 1) (by omega)
    cases e
    rw [List.getD_cons_succ] at k0 k1
    refine ⟨g, 2, rfl, ?_, ?_⟩
    · show ((w3.setCell ⟨w.heap.size, 0, none⟩ (.int .i64 a)).setCell ⟨w.heap.size, 1, none⟩ (.int .i64 i)).cell? _ = _
      rw [World.cell?_setCell_other _ _ _ _ (fun e => hgw (congrArg Addr.block e)), World.cell?_setCell_other _ _ _ _ (fun e => hgw (congrArg Addr.block e)), ← k0]
      congr 2; omega
    · show ((w3.setCell ⟨w.heap.size, 0, none⟩ (.int .i64 a)).setCell ⟨w.heap.size, 1, none⟩ (.int .i64 i)).cell? _ = _
      rw [World.cell?_setCell_other _ _ _ _ (fun e => hgw (congrArg Addr.block e)), World.cell?_setCell_other _ _ _ _ (fun e => hgw (congrArg Addr.block e)), ← k1]
      congr 2; omega
  have B4 : Below w.heap.size w ((w3.setCell ⟨w.heap.size, 0, none⟩ (.int .i64 a)).setCell ⟨w.heap.size, 1, none⟩ (.int .i64 i)).drew := ((B3'.setCell (p := ⟨w.heap.size, 0, none⟩) (Nat.le_refl _) _).setCell (p := ⟨w.heap.size, 1, none⟩) (Nat.le_refl _) _).drew
  have k0 : ((w3.setCell ⟨w.heap.size, 0, none⟩ (.int .i64 a)).setCell ⟨w.heap.size, 1, none⟩ (.int .i64 i)).drew.cell? ⟨w.heap.size, 0, none⟩ = some (.int .i64 a) := by
    show ((w3.setCell _ _).setCell _ _).cell? _ = _
    rw [World.cell?_setCell_other _ _ _ _ (by simp)]
    exact World.cell?_setCell_same' _ _ _ (by rw [d0]; rfl)
  have k1 : ((w3.setCell ⟨w.heap.size, 0, none⟩ (.int .i64 a)).setCell ⟨w.heap.size, 1, none⟩ (.int .i64 i)).drew.cell? ⟨w.heap.size, 1, none⟩ = some (.int .i64 i) := by
    show ((w3.setCell _ _).setCell _ _).cell? _ = _
    exact World.cell?_setCell_same' _ _ _ (by rw [World.cell?_setCell_other _ _ _ _ (by simp), d1]; rfl)
  go_region
  have HD := Lib.hid hD4
  have HB := Lib.hid B4
  clear hD4 B4
  generalize ((w3.setCell ⟨w.heap.size, 0, none⟩ (.int .i64 a)).setCell ⟨w.heap.size, 1, none⟩ (.int .i64 i)).drew = w4 at *
  have hfr : Hid (∀ ad : Addr, (if cap3 = 1 then some (⟨g, 0, none⟩ : Addr) else some ⟨g, 2, none⟩) = some ad → w.heap.size ≤ ad.block) := by
    intro ad e
    split at e <;> (cases e; show w.heap.size ≤ g; omega)
  generalize (if cap3 = 1 then some (⟨g, 0, none⟩ : Addr) else some ⟨g, 2, none⟩) = oa9 at *
  go_wp2_with fail
  refine bodyPost_ret (v := .tuple #[.slice oa9 (n - 1) (cap3 - 1), .agg #[.int .i64 a, .int .i64 i], .int .i64 0]) ?_ rfl ?_
  · simp [results, Try.f8, go_sem, k0, k1]
  · exact ⟨⟨_, _, rfl, HD.out, by unfold maxLen at *; omega, hfr.out⟩, HB.out⟩
set_option maxRecDepth 100000 in
set_option maxHeartbeats 1600000 in
/-- dues that may not be, or none -/
theorem pop_no (oa : Option Addr) (n cap : Nat) (l : List D2) (w : World) (h : Ds w oa n cap l) (hn : n ≤ 70) (b : Bool) (hb : b = dueB l) (hz : b = true → n = 0) (c : Int) (hc : c = if b then 4 else 1) :
    Calls Try.prog 8 #[.slice oa n cap] w fun e w' => e = .returned (.tuple #[.slice none 0 0, .agg #[.int .i64 0, .int .i64 0], .int .i64 c]) ∧ Below w.heap.size w w' := by
  have B0 : Below w.heap.size w (w.alloc (.cells #[.int .i64 0, .int .i64 0] 24)) := (Below.refl _ w).alloc (Nat.le_refl _) _
  have hD0 := h.below B0 (Nat.le_refl _)
  have hs0 : (w.alloc (.cells #[.int .i64 0, .int .i64 0] 24)).heap.size = w.heap.size + 1 := by simp
  have c0 : (w.alloc (.cells #[.int .i64 0, .int .i64 0] 24)).cell? ⟨w.heap.size, 0, none⟩ = some (.int .i64 0) := by simp
  have c1 : (w.alloc (.cells #[.int .i64 0, .int .i64 0] 24)).cell? ⟨w.heap.size, 1, none⟩ = some (.int .i64 0) := by simp
  have f0 : (w.alloc (.cells #[.int .i64 0, .int .i64 0] 24)).frozen? ⟨w.heap.size, 0, none⟩ = false := by simp
  have f1 : (w.alloc (.cells #[.int .i64 0, .int .i64 0] 24)).frozen? ⟨w.heap.size, 1, none⟩ = false := by simp
  have h1 := due_is oa n cap l b _ hD0 hn hb
  clear h hb hD0
  have fin : ∀ w2, Below (w.heap.size + 1) (w.alloc (.cells #[.int .i64 0, .int .i64 0] 24)) w2 → Below w.heap.size w w2 ∧ w2.cell? ⟨w.heap.size, 0, none⟩ = some (.int .i64 0) ∧ w2.cell? ⟨w.heap.size, 1, none⟩ = some (.int .i64 0) ∧ w2.frozen? ⟨w.heap.size, 0, none⟩ = false ∧ w2.frozen? ⟨w.heap.size, 1, none⟩ = false := fun w2 B2 =>
    ⟨B0.trans (B2.mono (by omega)), (B2.cell (p := ⟨w.heap.size, 0, none⟩) (Nat.lt_succ_self _)).trans c0, (B2.cell (p := ⟨w.heap.size, 1, none⟩) (Nat.lt_succ_self _)).trans c1, (B2.frozen (p := ⟨w.heap.size, 0, none⟩) (Nat.lt_succ_self _)).trans f0, (B2.frozen (p := ⟨w.heap.size, 1, none⟩) (Nat.lt_succ_self _)).trans f1⟩
  have fin2 : ∀ w2 : World, Below w.heap.size w w2 → w2.cell? ⟨w.heap.size, 0, none⟩ = some (.int .i64 0) → w2.cell? ⟨w.heap.size, 1, none⟩ = some (.int .i64 0) →
      Below w.heap.size w ((w2.setCell ⟨w.heap.size, 0, none⟩ (.int .i64 0)).setCell ⟨w.heap.size, 1, none⟩ (.int .i64 0)) ∧
      ((w2.setCell ⟨w.heap.size, 0, none⟩ (.int .i64 0)).setCell ⟨w.heap.size, 1, none⟩ (.int .i64 0)).cell? ⟨w.heap.size, 0, none⟩ = some (.int .i64 0) ∧
      ((w2.setCell ⟨w.heap.size, 0, none⟩ (.int .i64 0)).setCell ⟨w.heap.size, 1, none⟩ (.int .i64 0)).cell? ⟨w.heap.size, 1, none⟩ = some (.int .i64 0) := fun w2 hB d0 d1 => by
    refine ⟨(hB.setCell (p := ⟨w.heap.size, 0, none⟩) (Nat.le_refl _) _).setCell (p := ⟨w.heap.size, 1, none⟩) (Nat.le_refl _) _, ?_, ?_⟩
    · rw [World.cell?_setCell_other _ _ _ _ (by simp)]
      exact World.cell?_setCell_same' _ _ _ (by rw [d0]; rfl)
    · exact World.cell?_setCell_same' _ _ _ (by rw [World.cell?_setCell_other _ _ _ _ (by simp), d1]; rfl)
  go_enter Try.func8, Try.ntmps8
  go_wp2_with fail
  rw [hs0] at h1
  generalize w.alloc (.cells #[.int .i64 0, .int .i64 0] 24) = w1 at *
  refine h1.mono ?_
  rintro e w2 ⟨rfl, B2⟩
  obtain ⟨hB, d0, d1, e0, e1⟩ := fin w2 B2
  obtain ⟨hB3, k0, k1⟩ := fin2 w2 hB d0 d1
  have HB := Lib.hid hB3
  clear h1 B2 hB3 fin fin2
  cases b with
  | false =>
    simp only [Bool.false_eq_true, if_false] at hc
    subst hc
    go_wp2_with fail
    generalize (w2.setCell ⟨w.heap.size, 0, none⟩ (.int .i64 0)).setCell ⟨w.heap.size, 1, none⟩ (.int .i64 0) = w4 at *
    refine bodyPost_ret (v := .tuple #[.slice none 0 0, .agg #[.int .i64 0, .int .i64 0], .int .i64 1]) ?_ rfl ?_
    · simp [results, Try.f8, go_sem, k0, k1]
    · exact ⟨rfl, HB.out⟩
  | true =>
    obtain rfl := hz rfl
    simp only [if_true] at hc
    subst hc
    go_wp2_with fail
    generalize (w2.setCell ⟨w.heap.size, 0, none⟩ (.int .i64 0)).setCell ⟨w.heap.size, 1, none⟩ (.int .i64 0) = w4 at *
    refine bodyPost_ret (v := .tuple #[.slice none 0 0, .agg #[.int .i64 0, .int .i64 0], .int .i64 4]) ?_ rfl ?_
    · simp [results, Try.f8, go_sem, k0, k1]
    · exact ⟨rfl, HB.out⟩
end Go.Proofs.Yteomenkojhppfaa
