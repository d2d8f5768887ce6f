/-
  DueDrains, walked.
-/
import Derived.Test.YteomenkojhppfaaDueV
namespace Go.Proofs.Yteomenkojhppfaa
open Go.RowKit
set_option linter.unusedVariables false

namespace drains
theorem now_bounds (x : Int) : 0 ≤ wrap64 ((IntKind.u64.wrap x).tmod 1099511626776) ∧ wrap64 ((IntKind.u64.wrap x).tmod 1099511626776) < 1099511626776 := by
  have h0 : 0 ≤ IntKind.u64.wrap x := by
    simp [IntKind.wrap, IntKind.signed, IntKind.bits]
    omega
  generalize IntKind.u64.wrap x = y at *
  have h1 := Int.tmod_nonneg 1099511626776 h0
  have h2 := Int.tmod_lt_of_pos y (show (0 : Int) < 1099511626776 by omega)
  generalize y.tmod 1099511626776 = z at *
  unfold wrap64
  omega
theorem more_bounds (x : Int) : 0 ≤ (wrap64 (x.tmod 1000 + 1000)).tmod 1000 ∧ (wrap64 (x.tmod 1000 + 1000)).tmod 1000 ≤ 999 := by
  have h1 : -1000 < x.tmod 1000 ∧ x.tmod 1000 < 1000 := by
    have h2 := Int.tmod_eq_emod (a := x) (b := 1000)
    have h3 := Int.emod_nonneg x (show (1000 : Int) ≠ 0 by omega)
    have h4 := Int.emod_lt_of_pos x (show (0 : Int) < 1000 by omega)
    rw [h2]
    split <;> omega
  have e : wrap64 (x.tmod 1000 + 1000) = x.tmod 1000 + 1000 := by
    generalize x.tmod 1000 = y at *
    unfold wrap64
    omega
  rw [e]
  generalize x.tmod 1000 = y at *
  have h5 := Int.tmod_nonneg 1000 (show 0 ≤ y + 1000 by omega)
  have h6 := Int.tmod_lt_of_pos (y + 1000) (show (0 : Int) < 1000 by omega)
  omega
set_option maxRecDepth 100000 in
set_option maxHeartbeats 4000000 in
theorem walk (oa : Option Addr) (n cap : Nat) (l0 : List D2) (now0 more0 : Int) (w : World) (h0 : Ds w oa n cap l0) (hc : cap ≤ maxLen) :
    Calls Try.prog 5 #[.slice oa n cap, .int .i64 now0, .int .i64 more0] w fun e w' => e = .returned (.bool true) ∧ Below w.heap.size w w' := by
  have hf := fun W => few_any oa n cap W h0.room hc
  go_enter Try.func5, Try.ntmps5
  go_wp2_with fail
  refine (hf _).mono ?_
  rintro e w1 ⟨rfl, rfl⟩
  go_wp2_with fail
  have hn1 := now_bounds now0
  have hm1 := more_bounds more0
  generalize wrap64 ((IntKind.u64.wrap now0).tmod 1099511626776) = nw at *
  generalize (wrap64 (more0.tmod 1000 + 1000)).tmod 1000 = mr at *
  obtain ⟨hn0, hn1⟩ := hn1
  obtain ⟨hm0, hm1⟩ := hm1
  have h := h0.few
  have hk : min n 70 ≤ 70 := Nat.min_le_right _ _
  generalize min n 70 = k at *
  generalize l0.take 70 = l at *
  have ht1 : true = timeB nw := (time_mk hn0 (by omega)).symm
  have ht2 : true = timeB (nw + mr) := (time_mk (by omega) (by omega)).symm
  cases hb : dueB l with
  | false =>
    refine (drain_no oa k cap l nw _ h hk (.inl hb)).mono ?_
    rintro e w2 ⟨rfl, B2⟩
    clear ht1 ht2 hb h h0 hf
    go_wp2_with fail
    refine (alive_any _).mono ?_
    rintro e w3 ⟨rfl, B3⟩
    go_wp2_with fail
    refine bodyPost_ret (results_tmp rfl _ _ _) rfl ?_
    exact ⟨rfl, B2.trans (B3.mono B2.size)⟩
  | true =>
    have hl := h.len
    have hlS := sortD_length l
    have hS := sortD_in l
    have hb2 : true = dueB (afterD nw (sortD l)) := (dueB_sub hb (fun x hx => mem_sortD.1 (List.mem_filter.1 hx).1) (by rw [← hlS]; exact afterD_le _ _)).symm
    have hlen1 := both_length nw (sortD l)
    have hlen2 := both_length (nw + mr) (sortD l)
    have HJ := here_twice nw (nw + mr) (by omega) hS
    have HJ2 := after_twice nw (nw + mr) (by omega) (sortD l)
    have hD1 := drain_yes oa k cap l nw w1 h hk hb.symm ht1
    have hD2 := fun W o c (hh : Ds W o (afterD nw (sortD l)).length c (afterD nw (sortD l))) => drain_yes o _ c (afterD nw (sortD l)) (nw + mr) W hh (by omega) hb2 ht2
    rw [sortD_of_in (afterD_in hS), HJ2] at hD2
    have hD3 := fun W hh => drain_yes oa k cap l (nw + mr) W hh hk hb.symm ht2
    have hlen3 : (hereD (nw + mr) (afterD nw (sortD l))).length ≤ 70 := by have := hereD_le (nw + mr) (afterD nw (sortD l)); omega
    have HSM : Hid (true = decide (hereD nw (sortD l) ++ hereD (nw + mr) (afterD nw (sortD l)) = hereD (nw + mr) (sortD l))) := by show _ = _; rw [HJ]; simp
    have HLL : Hid (((hereD (nw + mr) (sortD l)).length : Int) + ((afterD (nw + mr) (sortD l)).length : Int) = (k : Int)) := by show _ = _; omega
    rw [hlS, hl] at hlen1 hlen2
    clear HJ HJ2 hS hb hb2 ht1 ht2
    generalize afterD (nw + mr) (sortD l) = C at *
    generalize hereD (nw + mr) (sortD l) = A at *
    generalize hereD (nw + mr) (afterD nw (sortD l)) = T at *
    generalize afterD nw (sortD l) = L at *
    generalize hereD nw (sortD l) = O at *
    refine hD1.mono ?_
    rintro e w2 ⟨⟨oL, cL, oO, cO, rfl, hL, hO, mL, mO⟩, B2⟩
    have h2 := h.below B2 (Nat.le_refl _)
    go_wp2_with fail
    refine (hD2 _ _ _ hL).mono ?_
    rintro e w3 ⟨⟨oC, cC, oT, cT, rfl, hC, hT, mC, mT⟩, B3⟩
    have h3 := h2.below B3 (Nat.le_refl _)
    have hO3 := hO.below B3 (Nat.le_refl _)
    have B3' := B2.trans (B3.mono B2.size)
    clear hD1 hD2 hL hO h2 B3
    go_wp2_with fail
    refine (hD3 _ h3).mono ?_
    rintro e w4 ⟨⟨oC2, cC2, oA, cA, rfl, hC2, hA, mC2, mA⟩, B4⟩
    have hC4 := hC.below B4 (Nat.le_refl _)
    have hT4 := hT.below B4 (Nat.le_refl _)
    have hO4 := hO3.below B4 (Nat.le_refl _)
    have B4' := B3'.trans (B4.mono B3'.size)
    clear hD3 h3 hC hT hO3 B4 B3' B2 h0 h
    go_wp2_with fail
    refine (alive_any _).mono ?_
    rintro e w5 ⟨rfl, B5⟩
    have hC5 := hC4.below B5 (Nat.le_refl _)
    have hT5 := hT4.below B5 (Nat.le_refl _)
    have hO5 := hO4.below B5 (Nat.le_refl _)
    have hC25 := hC2.below B5 (Nat.le_refl _)
    have hA5 := hA.below B5 (Nat.le_refl _)
    have B5' := B4'.trans (B5.mono B4'.size)
    clear hC4 hT4 hO4 hC2 hA B5 B4'
    have made := World.ownsRow_made (e := 24) (size := 2) w5 #[] 0 (Nat.le_refl _) (Nat.zero_le _) (by simp)
    have BM : Below w5.heap.size w5 (w5.alloc (.cells #[] 24)) := (Below.refl _ _).alloc (Nat.le_refl _) _
    have zM : (w5.alloc (.cells #[] 24)).heap.size = w5.heap.size + 1 := by simp
    have hOM := hO5.below BM (Nat.le_refl _)
    go_wp2_with (first
      | (at_builtin; refine wpList_append_ds _ (by rfl) (.tmp 74) (.tmp 75) rfl w5.heap.size rfl made rfl hOM (by omega) (by omega) ?_; intro v6 w6 own6 hg6; change (w5.alloc (.cells #[] 24)).grownBy w6 (some w5.heap.size) at hg6; have B6 : Below w5.heap.size w5 w6 := BM.grown hg6 (by omega) (fun r e => by cases e; exact Nat.le_refl _); have z6 := B6.size; have hT6 := hT5.below B6 (Nat.le_refl _))
      | (at_builtin; refine wpList_append_ds _ (by rfl) (.tmp 76) (.tmp 77) rfl w5.heap.size rfl own6 rfl hT6 (by omega) z6 ?_; intro v7 w7 own7 hg7; change w6.grownBy w7 v6.ownBlock at hg7; have B7 : Below w5.heap.size w5 w7 := B6.grown hg7 z6 (fun r e => (own6.lt r e).1); rw [List.nil_append, Nat.zero_add, ← cellsD_append] at own7; obtain ⟨o7, c7, rfl, hD7, m7⟩ := Ds.of_own (by rw [List.length_append]) own7; have hA7 := hA5.below B7 (Nat.le_refl _); have hC7 := hC5.below B7 (Nat.le_refl _); have hC27 := hC25.below B7 (Nat.le_refl _))
      | (go_at_call 17; refine (same_is o7 oA _ _ c7 cA _ _ true _ hD7 hA7 (by omega) (by omega) HSM.out).mono ?_; rintro e w8 ⟨rfl, B8⟩; have hC8 := hC7.below B8 (Nat.le_refl _); have hC28 := hC27.below B8 (Nat.le_refl _); have B8' := B7.trans (B8.mono B7.size))
      | (go_at_call 14; refine (alike_is oC oC2 _ _ cC cC2 _ _ true _ hC8 hC28 (by omega) (by omega) mC mC2 (by simp)).mono ?_; rintro e w9 ⟨rfl, B9⟩; have B9' := B8'.trans (B9.mono B8'.size)))
    refine bodyPost_ret (results_tmp rfl _ _ _) rfl ?_
    refine ⟨?_, B5'.trans (B9'.mono B5'.size)⟩
    show Ending.returned (.bool ((A.length : Int) + (C.length : Int) == (k : Int))) = _
    exact retB (by rw [HLL.out]; simp)
end drains
end Go.Proofs.Yteomenkojhppfaa
