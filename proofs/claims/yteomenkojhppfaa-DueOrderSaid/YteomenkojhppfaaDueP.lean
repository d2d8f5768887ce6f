/-
  Dues: Push.
-/
import Derived.Test.YteomenkojhppfaaDueE
import Derived.Deep.RegionHeld3
namespace Go.Proofs.Yteomenkojhppfaa
open Go.RowKit
set_option linter.unusedVariables false

theorem Ds.drew {w : World} {oa : Option Addr} {n cap : Nat} {l : List D2} (h : Ds w oa n cap l) : Ds w.drew oa n cap l := h.below (Below.refl w.heap.size w).drew (Nat.le_refl _)
theorem noTime_is (a i : Int) (b : Bool) (w : World) (h : b = timeB a) :
    Calls Try.prog 19 #[.agg #[.int .i64 a, .int .i64 i]] w fun e w' => e = .returned (.bool (!b)) ∧ Below w.heap.size w w' := by subst h; exact noTime_any a i w
theorem behind_b {B : Nat} {w0 w3 w4 : World} {a i : Int} {v : Value} {n : Nat} {xs : List Value} (hs : B ≤ w3.heap.size) (h0 : Below B w0 w3)
    (hown : w4.ownsRow (w3.alloc (.cells #[.int .i64 a, .int .i64 i] 24)).drew.heap.size 24 2 v n xs) (B4 : Below (w3.alloc (.cells #[.int .i64 a, .int .i64 i] 24)).drew.heap.size (w3.alloc (.cells #[.int .i64 a, .int .i64 i] 24)).drew w4) :
    w4.ownsRow B 24 2 v n xs ∧ Below B w0 w4 ∧ B ≤ w4.heap.size ∧ ∀ j u, [Value.int .i64 a, .int .i64 i][j]? = some u → w4.cell? ((⟨w3.heap.size, 0, none⟩ : Addr).add j) = some u := by
  have z : (w3.alloc (.cells #[.int .i64 a, .int .i64 i] 24)).drew.heap.size = w3.heap.size + 1 := by
    show (w3.alloc _).heap.size = _
    simp
  rw [z] at hown B4
  have z4 := B4.size
  rw [z] at z4
  refine ⟨own_base hown (by omega), (((h0.alloc hs _).drew)).trans (B4.mono (by omega)), by omega, fun j u hj => ?_⟩
  have := two_new w3 (.int .i64 a) (.int .i64 i) 24 j u hj
  rw [Addr.add_lit] at this ⊢
  exact (B4.cell (Nat.lt_succ_self _)).trans this
set_option maxRecDepth 100000 in
set_option maxHeartbeats 4000000 in
theorem push_yes (oa : Option Addr) (n cap : Nat) (l : List D2) (d : D2) (w : World) (h : Ds w oa n cap l) (hn : n < 64) (hb : true = dueB l) (ht : true = timeB d.1) :
    Calls Try.prog 7 #[.slice oa n cap, .agg #[.int .i64 d.1, .int .i64 d.2]] w fun e w' => (∃ oa' cap', e = .returned (.tuple #[.slice oa' (n + 1) cap', .int .i64 0]) ∧ Ds w' oa' (n + 1) cap' (l ++ [d]) ∧ cap' ≤ maxLen) ∧ Below w.heap.size w w' := by
  obtain ⟨a, i⟩ := d
  dsimp only at ht ⊢
  have h1 := fun w h => due_is oa n cap l true w h (by omega) hb
  have h2 := fun w => noTime_is a i true w ht
  have hl := h.len
  obtain ⟨i0, hi, hz0, hz1, hz2⟩ := info_parts infoDue
  have B0 : Below w.heap.size w (w.alloc (.cells #[.int .i64 a, .int .i64 i] 24)) := (Below.refl _ w).alloc (Nat.le_refl _) _
  have hD0 := h.below B0 (Nat.le_refl _)
  have c0 : (w.alloc (.cells #[.int .i64 a, .int .i64 i] 24)).cell? ⟨w.heap.size, 0, none⟩ = some (.int .i64 a) := by simp
  have c1 : (w.alloc (.cells #[.int .i64 a, .int .i64 i] 24)).cell? ⟨w.heap.size, 1, none⟩ = some (.int .i64 i) := by simp
  have hs0 : (w.alloc (.cells #[.int .i64 a, .int .i64 i] 24)).heap.size = w.heap.size + 1 := by simp
  clear h hb ht
  have HW : Hid (w.alloc (.cells #[.int .i64 a, .int .i64 i] 24) = w.alloc (.cells #[.int .i64 a, .int .i64 i] 24)) := rfl
  go_enter Try.func7, Try.ntmps7
  go_wp2_with fail
  generalize w.alloc (.cells #[.int .i64 a, .int .i64 i] 24) = w1 at *
  refine (h1 _ hD0).mono ?_
  rintro e w2 ⟨rfl, B2⟩
  have hD2 := hD0.below B2 (Nat.le_refl _)
  have d0 := (B2.cell (p := ⟨w.heap.size, 0, none⟩) (by rw [hs0]; exact Nat.lt_succ_self _)).trans c0
  have d1 := (B2.cell (p := ⟨w.heap.size, 1, none⟩) (by rw [hs0]; exact Nat.lt_succ_self _)).trans c1
  have B2' := B0.trans (B2.mono (by omega))
  have hs2 := B2.size
  clear h1 c0 c1 HW
  go_wp2_with fail
  refine (h2 _).mono ?_
  rintro e w3 ⟨rfl, B3⟩
  have hD3 := hD2.below B3 (Nat.le_refl _)
  have e0 := (B3.cell (p := ⟨w.heap.size, 0, none⟩) (show w.heap.size < _ by omega)).trans d0
  have e1 := (B3.cell (p := ⟨w.heap.size, 1, none⟩) (show w.heap.size < _ by omega)).trans d1
  have B3' := B2'.trans (B3.mono (by omega))
  have hs3 := B3.size
  clear h2 d0 d1 hD0 hD2 B2 B3 B2' B0
  go_wp2_with fail
  have hDd := hD3.drew
  have hDt := (hD3.below ((Below.refl w3.heap.size w3).alloc (Nat.le_refl _) (.cells #[.int .i64 a, .int .i64 i] 24)) (Nat.le_refl _)).drew
  have HA := fun W h => clone_any oa n cap l W h (by omega)
  have BA : Below w.heap.size w w3.drew := B3'.drew
  have zA : w3.drew.heap.size = w3.heap.size := rfl
  have gA0 : w3.drew.cell? ⟨w.heap.size, 0, none⟩ = some (.int .i64 a) := e0
  have gA1 : w3.drew.cell? ⟨w.heap.size, 1, none⟩ = some (.int .i64 i) := e1
  go_region_law (first
    | (refine step_append_lies _ (by rfl) _ _ _ (by rfl) w.heap.size 24 i0 _ 2 16 Try.underlying22 hi hz0 hz1 hz2 rfl (by omega) v n _ (by rfl) (hownA.alloc _) ⟨w4.heap.size, 0, none⟩ 1 1 [.int .i64 a, .int .i64 i] (by rfl) rfl (two_new _ _ _ _) (cellsD_one [(a, i)]) (by omega) (by unfold maxLen; omega) (by omega) (by simp; omega) (w4.heap.size + 1) (by simp) ?_; intro g cap' w5 hown5 hgrow hat hlt; have B5 : Below w.heap.size w w5 := (B4'.alloc (by omega) _).grown hgrow (by simp; omega) (fun k e => (hownA.lt k e).1))
    | (refine step_append_lies _ (by rfl) _ _ _ (by rfl) w.heap.size 24 i0 _ 2 16 Try.underlying22 hi hz0 hz1 hz2 rfl (by omega) v n _ (by rfl) hownA ⟨w3.heap.size, 0, none⟩ 1 1 [.int .i64 a, .int .i64 i] (by rfl) rfl tcB (cellsD_one [(a, i)]) (by omega) (by unfold maxLen; omega) (by omega) (by omega) w4.heap.size rfl ?_; intro g cap' w5 hown5 hgrow hat hlt; have B5 : Below w.heap.size w w5 := B4'.grown hgrow (by omega) (fun k e => (hownA.lt k e).1))
    | (go_simp; go_at_call 20; first
        | (refine (HA _ hDd).mono ?_; rintro e w4 ⟨⟨v, rfl, hown⟩, B4⟩; have hownA := own_base hown (show w.heap.size ≤ _ by omega); have z4 := B4.size; have f0 := (B4.cell (p := ⟨w.heap.size, 0, none⟩) (show w.heap.size < _ by omega)).trans gA0; have f1 := (B4.cell (p := ⟨w.heap.size, 1, none⟩) (show w.heap.size < _ by omega)).trans gA1; have B4' := BA.trans (B4.mono (by omega)))
        | (refine (HA _ hDt).mono ?_; rintro e w4 ⟨⟨v, rfl, hown⟩, B4⟩; obtain ⟨hownA, B4', z4, tcB⟩ := behind_b (by omega) B3' hown B4)))
  all_goals
    rw [show cellsD l ++ [Value.int .i64 a, .int .i64 i] = cellsD (l ++ [(a, i)]) from (cellsD_snoc l (a, i)).symm] at hown5
    obtain ⟨oa5, cap5, e5, hD5, hm5⟩ := Ds.of_own (by simp; omega) hown5
    cases e5
    go_wp2_with fail
    refine bodyPost_ret (results_tmp2 rfl _ _ _) rfl ?_
    exact ⟨⟨_, _, rfl, hD5, hm5⟩, B5⟩
set_option maxHeartbeats 1600000 in
theorem push_no (oa : Option Addr) (n cap : Nat) (l : List D2) (d : D2) (w : World) (h : Ds w oa n cap l) (hn : n ≤ 70) (hb : dueB l = false ∨ timeB d.1 = false) :
    Calls Try.prog 7 #[.slice oa n cap, .agg #[.int .i64 d.1, .int .i64 d.2]] w fun e w' => e = .returned (.tuple #[.slice none 0 0, .int .i64 1]) ∧ Below w.heap.size w w' := by
  obtain ⟨a, i⟩ := d
  dsimp only at hb ⊢
  have B0 : Below w.heap.size w (w.alloc (.cells #[.int .i64 a, .int .i64 i] 24)) := (Below.refl _ w).alloc (Nat.le_refl _) _
  have hD0 := h.below B0 (Nat.le_refl _)
  have c0 : (w.alloc (.cells #[.int .i64 a, .int .i64 i] 24)).cell? ⟨w.heap.size, 0, none⟩ = some (.int .i64 a) := by simp
  have c1 : (w.alloc (.cells #[.int .i64 a, .int .i64 i] 24)).cell? ⟨w.heap.size, 1, none⟩ = some (.int .i64 i) := by simp
  have hs0 : (w.alloc (.cells #[.int .i64 a, .int .i64 i] 24)).heap.size = w.heap.size + 1 := by simp
  clear h
  by_cases hd : dueB l = false
  · have h1 := due_is oa n cap l false _ hD0 hn hd.symm
    clear hb hd hD0
    go_enter Try.func7, Try.ntmps7
    go_wp2_with fail
    generalize w.alloc (.cells #[.int .i64 a, .int .i64 i] 24) = w1 at *
    refine h1.mono ?_
    rintro e w2 ⟨rfl, B2⟩
    go_wp2_with fail
    refine bodyPost_ret (results_tmp2 rfl _ _ _) rfl ?_
    exact ⟨rfl, B0.trans (B2.mono (by omega))⟩
  · have h1 := due_is oa n cap l true _ hD0 hn (by cases hx : dueB l <;> simp_all)
    have h2 := fun w => noTime_is a i false w (by rcases hb with hb | hb <;> simp_all)
    clear hb hd hD0
    go_enter Try.func7, Try.ntmps7
    go_wp2_with fail
    generalize w.alloc (.cells #[.int .i64 a, .int .i64 i] 24) = w1 at *
    refine h1.mono ?_
    rintro e w2 ⟨rfl, B2⟩
    have d0 := (B2.cell (p := ⟨w.heap.size, 0, none⟩) (by rw [hs0]; exact Nat.lt_succ_self _)).trans c0
    have d1 := (B2.cell (p := ⟨w.heap.size, 1, none⟩) (by rw [hs0]; exact Nat.lt_succ_self _)).trans c1
    have B2' := B0.trans (B2.mono (by omega))
    clear h1 c0 c1
    go_wp2_with fail
    refine (h2 _).mono ?_
    rintro e w3 ⟨rfl, B3⟩
    have B3' := B2'.trans (B3.mono B2'.size)
    clear h2 d0 d1
    go_wp2_with fail
    refine bodyPost_ret (results_tmp2 rfl _ _ _) rfl ?_
    exact ⟨rfl, B3'⟩
set_option maxHeartbeats 1600000 in
theorem push_full (oa : Option Addr) (cap : Nat) (l : List D2) (d : D2) (w : World) (h : Ds w oa 64 cap l) (hb : true = dueB l) (ht : true = timeB d.1) :
    Calls Try.prog 7 #[.slice oa 64 cap, .agg #[.int .i64 d.1, .int .i64 d.2]] w fun e w' => e = .returned (.tuple #[.slice none 0 0, .int .i64 5]) ∧ Below w.heap.size w w' := by
  obtain ⟨a, i⟩ := d
  dsimp only at ht ⊢
  have B0 : Below w.heap.size w (w.alloc (.cells #[.int .i64 a, .int .i64 i] 24)) := (Below.refl _ w).alloc (Nat.le_refl _) _
  have hD0 := h.below B0 (Nat.le_refl _)
  have c0 : (w.alloc (.cells #[.int .i64 a, .int .i64 i] 24)).cell? ⟨w.heap.size, 0, none⟩ = some (.int .i64 a) := by simp
  have c1 : (w.alloc (.cells #[.int .i64 a, .int .i64 i] 24)).cell? ⟨w.heap.size, 1, none⟩ = some (.int .i64 i) := by simp
  have hs0 : (w.alloc (.cells #[.int .i64 a, .int .i64 i] 24)).heap.size = w.heap.size + 1 := by simp
  clear h
  have h1 := due_is oa 64 cap l true _ hD0 (by omega) hb
  have h2 := fun w => noTime_is a i true w ht
  clear hb ht hD0
  go_enter Try.func7, Try.ntmps7
  go_wp2_with fail
  generalize w.alloc (.cells #[.int .i64 a, .int .i64 i] 24) = w1 at *
  refine h1.mono ?_
  rintro e w2 ⟨rfl, B2⟩
  have d0 := (B2.cell (p := ⟨w.heap.size, 0, none⟩) (by rw [hs0]; exact Nat.lt_succ_self _)).trans c0
  have d1 := (B2.cell (p := ⟨w.heap.size, 1, none⟩) (by rw [hs0]; exact Nat.lt_succ_self _)).trans c1
  have B2' := B0.trans (B2.mono (by omega))
  clear h1 c0 c1
  go_wp2_with fail
  refine (h2 _).mono ?_
  rintro e w3 ⟨rfl, B3⟩
  have B3' := B2'.trans (B3.mono B2'.size)
  clear h2 d0 d1
  go_wp2_with fail
  refine bodyPost_ret (results_tmp2 rfl _ _ _) rfl ?_
  exact ⟨rfl, B3'⟩
end Go.Proofs.Yteomenkojhppfaa
