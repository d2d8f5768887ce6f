/-
  The document's own new disk, and its own write.
-/
import Derived.Test.YtmjbhmmcpjhmcaaDiskOwn
import Derived.Deep.AppendLies
import Derived.Deep.RegionLaw
import Derived.Deep.DrawnRows
namespace Go.Proofs.Ytmjbhmmcpjhmcaa
open Go.RowKit
set_option linter.unusedVariables false
attribute [local go_sem ↓] Go.wp_at_zero Go.wp_at_succ

theorem own_drewN {w : World} {base : Nat} {v : Value} {n : Nat} {xs : List Value} (h : w.ownsRow base 9 1 v n xs) (q : Nat) : (w.drewN q).ownsRow base 9 1 v n xs := h
theorem step_own2 {B : Nat} {w wr w1 : World} {v v' : Value} {k : Nat} {xs : List Value} {y : Value} {o : Obj} {ro : Obj} {q : Nat}
    (hown : wr.ownsRow (B + 2) 9 1 v k xs) (hr : Hid (wr.heap[B + 1]? = some ro)) (hB : Below B w wr) (hS : Hid (B + 2 ≤ wr.heap.size))
    (hown' : w1.ownsRow (B + 2) 9 1 v' (k + 1) (xs ++ [y])) (hgrow : ((wr.drewN q).alloc o).grownBy w1 v.ownBlock) :
    w1.ownsRow (B + 2) 9 1 v' (k + 1) (xs ++ [y]) ∧ Hid (w1.heap[B + 1]? = some ro) ∧ Below B w w1 ∧ Hid (B + 2 ≤ w1.heap.size) :=
  step_own (wr := wr.drewN q) hown hr (below_drewN hB q) hS hown' hgrow
theorem own_drew {w : World} {base : Nat} {v : Value} {n : Nat} {xs : List Value} (h : w.ownsRow base 9 1 v n xs) : w.drew.ownsRow base 9 1 v n xs := h
theorem keep_row {B j : Nat} {wr w1 : World} {v : Value} {k : Nat} {xs : List Value} {o ro : Obj} (hown : wr.ownsRow (B + 2) 9 1 v k xs) (hS : Hid (B + 2 ≤ wr.heap.size)) (hgrow : (wr.drew.alloc o).grownBy w1 v.ownBlock) (hj : j < B + 2) (hr : wr.heap[j]? = some ro) : w1.heap[j]? = some ro := by
  have hlt := hown.lt
  have hS' := hS.out
  have hsz : (wr.drew.alloc o).heap.size = wr.heap.size + 1 := by simp
  rw [hgrow.block j (by omega) (fun e => by have := hlt j e.symm; omega), Below.heap_alloc _ _ _ (by show j < wr.heap.size; omega)]
  exact hr
theorem below_grown {B : Nat} {w wr w1 : World} {v : Value} {k : Nat} {xs : List Value} {o : Obj} (hB : Below B w wr) (hown : wr.ownsRow (B + 2) 9 1 v k xs) (hS : Hid (B + 2 ≤ wr.heap.size)) (hgrow : (wr.drew.alloc o).grownBy w1 v.ownBlock) : Below B w w1 ∧ Hid (B + 2 ≤ w1.heap.size) := by
  have hlt := hown.lt
  have hS' := hS.out
  have hsz : (wr.drew.alloc o).heap.size = wr.heap.size + 1 := by simp
  refine ⟨((hB.drew).alloc (by show B ≤ wr.heap.size; omega) o).grown hgrow (by omega) (fun g hg => by have := hlt g hg; omega), ?_⟩
  show _ ≤ _
  have := hgrow.size
  omega
theorem own_low {w : World} {base : Nat} {v : Value} {n : Nat} {xs : List Value} (h : w.ownsRow base 9 1 v n xs) {B : Nat} (hB : B < base) (u : Value) : (w.setCell ⟨B, 0, none⟩ u).ownsRow base 9 1 v n xs := ownsRow_setCell_below h hB u
set_option maxHeartbeats 1600000 in
set_option maxRecDepth 100000 in
theorem rnew_any (m : Nat) (w : World) (hm : m ≤ 1000) :
    Calls Try.prog 43 #[.int .i64 m] w fun e w' => Told1 e w' (List.replicate m (zerosB 128)) ∧ Below w.heap.size w w' := by
  obtain ⟨i0, hi, hz0, hz1, hz2⟩ := info_parts info9
  go_enter Try.func43, Try.ntmps43
  go_wp2_with fail
  obtain ⟨W0, hW0⟩ : ∃ W0, W0 = (w.alloc (.cells #[.slice none 0 0] 24)).alloc (.cells #[.slice none 0 0] 24) := ⟨_, rfl⟩
  have hB0 : Below w.heap.size w W0 := by rw [hW0]; exact (below_alloc w _).alloc (by simp) _
  have hs0 : w.heap.size + 2 ≤ W0.heap.size := by rw [hW0]; simp
  have hr0 : W0.heap[w.heap.size]? = some (.cells #[.slice none 0 0] 24 (0, 0)) := by
    rw [hW0, Below.heap_alloc _ _ _ (by simp)]
    exact heap_alloc_new w _
  have hd0 : W0.heap[w.heap.size + 1]? = some (.cells #[.slice none 0 0] 24 (0, 0)) := by
    rw [hW0]
    have := heap_alloc_new (w.alloc (.cells #[.slice none 0 0] 24)) (.cells #[.slice none 0 0] 24)
    simpa using this
  rw [← hW0]
  clear hW0
  go_loopw [4] (fun i wr => ∃ (k : Nat) (v : Value), k ≤ m ∧ i = .int .i64 k ∧ wr.ownsRow (w.heap.size + 2) 9 1 v k (strCells (List.replicate k (zerosB 128))) ∧ Hid (wr.heap[w.heap.size]? = some (.cells #[.slice none 0 0] 24 (0, 0))) ∧ Hid (wr.heap[w.heap.size + 1]? = some (.cells #[v] 24 (0, 0))) ∧ Below w.heap.size w wr ∧ Hid (w.heap.size + 2 ≤ wr.heap.size)) (fun i _ => m - (intOf i).toNat)
  case atStart => exact ⟨0, _, Nat.zero_le _, rfl, World.ownsRow_nil _ _ _ _, hr0, hd0, hB0, hs0⟩
  case round =>
    clear hr0 hd0 hB0 hs0
    obtain ⟨k, v, hk, rfl, hown, hr, hd, hB, hS⟩ := hrel
    by_cases h8 : k < m
    · have hcd := cell_of_one hd.out
      have hfd := free_of_one hd.out
      have hcd2 := keepC (below_alloc wr (.cells #[.string (zerosB 128)] 9)) hcd
      go_wp2_with fail
      go_region_law (first
        | (refine step_append_lies _ (by rfl) _ _ _ (by rfl) (w.heap.size + 2) 9 i0 (.string ⟨#[]⟩) 1 16 Try.underlying22 hi hz0 hz1 hz2 rfl (by omega) v k _ (by rfl) ((own_drew hown).alloc _) ⟨wr.heap.size, 0, none⟩ 1 1 [.string (zerosB 128)] (by rfl) rfl (one_new _ _ _) (one_cell _) (by omega) (by unfold maxLen; omega) (by omega) (by have := hS.out; simp; omega) (wr.heap.size + 1) (by simp) ?_; intro g cap w1 hown1 hgrow hat hlt; have hd1 := keep_row hown hS hgrow (by omega) hd.out; have hcd1 := cell_of_one hd1; have hfd1 := free_of_one hd1)
        | (go_simp; go_at_call 67; refine (zeros_any 128 _ (by omega)).mono ?_; rintro e w' ⟨rfl, rfl⟩))
      all_goals
        have hr1 := keep_row hown hS hgrow (by omega) hr.out
        obtain ⟨hB1, hS1⟩ := below_grown hB hown hS hgrow
        have hown2 := own_low hown1 (by omega : w.heap.size + 1 < w.heap.size + 2) (.slice (some ⟨g, 0, none⟩) (k + 1) cap)
        rw [← strCells_snoc, ← List.replicate_succ'] at hown2
        have HO := Lib.hid hown2
        have HR := Lib.hid hr1
        have HD := Lib.hid hd1
        clear hown hown1 hgrow hat hlt hown2 hr1 hd1 hcd hfd hcd1 hfd1 hcd2
        go_wp2
        go_roundw
        case rel =>
          refine ⟨k + 1, _, by omega, by go_num, HO.out, ?_, ?_, hB1.setCell (by show w.heap.size ≤ w.heap.size + 1; omega) _, ?_⟩
          · exact (Below.heap_setCell _ _ _ _ (by show w.heap.size ≠ w.heap.size + 1; omega)).trans HR.out
          · exact one_setCell HD.out
          · show _ ≤ _
            have := hS1.out
            simpa [World.setCell] using this
        case measure => simp [intOf]; omega
    · obtain rfl : m = k := by omega
      obtain ⟨ob, cp, rfl, hRd, hlow⟩ := Rd.of_own (List.length_replicate ..) hown
      have hcr := cell_of_one hr.out
      have hfr := free_of_one hr.out
      have hcd := cell_of_one hd.out
      go_wp2
      refine bodyPost_ret (ret_cell rfl rfl (World.cell?_setCell_same _ _ _ hcr) rfl) rfl ?_
      refine ⟨⟨ob, _, cp, rfl, hRd.setLow (fun g hg => ?_) _⟩, hB.setCell (Nat.le_refl _) _⟩
      have := hlow g (by rw [hg]; rfl)
      omega

/-- the document's own write -/
def rtearL (ss : List ByteArray) (a : Nat) (t : ByteArray) (k : Nat) : List ByteArray := ss.set a (t.extract 0 k ++ (ss.getD a ByteArray.empty).extract k (ss.getD a ByteArray.empty).size)
theorem rtear_take (ss : List ByteArray) (a : Nat) (t : ByteArray) (k : Nat) (i : Nat) (h : i < ss.length) (hne : i ≠ a) : (rtearL ss a t k).take (i + 1) = (rtearL ss a t k).take i ++ [ss.getD i ByteArray.empty] := by
  have hl : i < (rtearL ss a t k).length := by unfold rtearL; rw [List.length_set]; exact h
  rw [List.take_succ_eq_append_getElem hl]
  have e : (rtearL ss a t k)[i]? = some (ss.getD i ByteArray.empty) := by
    unfold rtearL
    rw [List.getElem?_set_ne (Ne.symm hne), List.getD_eq_getElem?_getD, List.getElem?_eq_getElem h]
    rfl
  rw [List.getElem?_eq_getElem hl] at e
  rw [Option.some.inj e]
theorem rtear_take_at (ss : List ByteArray) (a : Nat) (t : ByteArray) (k : Nat) (h : a < ss.length) : (rtearL ss a t k).take (a + 1) = (rtearL ss a t k).take a ++ [t.extract 0 k ++ (ss.getD a ByteArray.empty).extract k (ss.getD a ByteArray.empty).size] := by
  have hl : a < (rtearL ss a t k).length := by unfold rtearL; rw [List.length_set]; exact h
  rw [List.take_succ_eq_append_getElem hl]
  have e : (rtearL ss a t k)[a]? = some (t.extract 0 k ++ (ss.getD a ByteArray.empty).extract k (ss.getD a ByteArray.empty).size) := by
    unfold rtearL
    rw [List.getElem?_set_self h]
  rw [List.getElem?_eq_getElem hl] at e
  rw [Option.some.inj e]
set_option maxHeartbeats 1600000 in
set_option maxRecDepth 100000 in
theorem rtear_any (oa : Option Addr) (n cap : Nat) (ss : List ByteArray) (a : Nat) (t : ByteArray) (k : Nat) (w : World) (hR : Rd w oa n cap ss) (hn : n ≤ 1000) (ha : a < n) (ht : t.size = 128) (hk : k ≤ 128) (hsz : ∀ i, i < n → (ss.getD i ByteArray.empty).size = 128) :
    Calls Try.prog 66 #[.agg #[.slice oa n cap], .int .i64 a, .string t, .int .i64 k] w fun e w' => Told1 e w' (rtearL ss a t k) ∧ Below w.heap.size w w' := by
  obtain ⟨i0, hi, hz0, hz1, hz2⟩ := info_parts info9
  have hfl : Hid ((rtearL ss a t k).length = n) := by show _ = _; unfold rtearL; rw [List.length_set]; exact hR.len
  have HSZ := Lib.hid hsz
  have HLN := Lib.hid hR.len
  clear hsz
  go_enter Try.func66, Try.ntmps66
  go_wp2_with fail
  obtain ⟨W0, hW0⟩ : ∃ W0, W0 = ((w.alloc (.cells #[.slice oa n cap] 24)).alloc (.cells #[.slice none 0 0] 24)).alloc (.cells #[] 9) := ⟨_, rfl⟩
  have hB0 : Below w.heap.size w W0 := by rw [hW0]; exact ((below_alloc w _).alloc (by simp) _).alloc (by simp; omega) _
  have hs0 : w.heap.size + 2 ≤ W0.heap.size := by rw [hW0]; simp
  have hr0 : W0.heap[w.heap.size + 1]? = some (.cells #[.slice none 0 0] 24 (0, 0)) := by
    rw [hW0, Below.heap_alloc _ _ _ (by simp)]
    have := heap_alloc_new (w.alloc (.cells #[.slice oa n cap] 24)) (.cells #[.slice none 0 0] 24)
    simpa using this
  have ho0 : W0.ownsRow (w.heap.size + 2) 9 1 (.slice (some ⟨w.heap.size + 1 + 1, 0, none⟩) 0 0) 0 [] := by
    rw [hW0]
    have := World.ownsRow_lit (base := w.heap.size + 2) (e := 9) (size := 1) ((w.alloc (.cells #[.slice oa n cap] 24)).alloc (.cells #[.slice none 0 0] 24)) #[] 0 (by simp) (by unfold maxLen; omega) rfl
    simpa using this
  rw [← hW0]
  clear hW0
  go_loopw [9, 16] (fun v i wr => ∃ j : Nat, j ≤ n ∧ i = .int .i64 j ∧ wr.ownsRow (w.heap.size + 2) 9 1 v j (strCells ((rtearL ss a t k).take j)) ∧ Hid (wr.heap[w.heap.size + 1]? = some (.cells #[.slice none 0 0] 24 (0, 0))) ∧ Below w.heap.size w wr ∧ Hid (w.heap.size + 2 ≤ wr.heap.size)) (fun _ i _ => n - (intOf i).toNat)
  case atStart => exact ⟨0, Nat.zero_le _, rfl, ho0, hr0, hB0, hs0⟩
  case round =>
    clear hr0 hB0 hs0 ho0
    obtain ⟨j, hj, rfl, hown, hr, hB, hS⟩ := hrel
    by_cases h8 : j < n
    · obtain ⟨g, rfl, hc0⟩ := hR.cell j h8
      have hc := (hB.cell (p := ⟨g, j, none⟩) (World.block_lt_of_cell? _ _ hc0)).trans hc0
      clear hc0
      by_cases hja : j = a
      · subst hja
        have HT := Lib.hid (rtear_take_at ss j t k (by rw [HLN.out]; exact ha))
        have hx := HSZ.out j ha
        generalize ss.getD j ByteArray.empty = x at *
        have e1 : (x.extract k 128).size = 128 - k := by rw [ByteArray.size_extract]; omega
        have e2 : (t.extract 0 k).size = k := by rw [ByteArray.size_extract]; omega
        rw [hx] at HT
        have hk0 : (0 : Int) ≤ (k : Int) := by omega
        have hk1 : (k : Int) ≤ 128 := by omega
        go_wp2_with fail
        go_quiet (fail)
        go_wp2_with (first
            | (at_builtin; refine wpList_append_own _ rfl _ _ 22 rfl (w.heap.size + 2) 9 i0 (.string ⟨#[]⟩) 1 16 Try.underlying22 hi hz0 hz1 hz2 rfl (by decide) _ _ _ rfl ((own_drewN hown _).alloc _) ⟨wr.heap.size, 0, none⟩ 1 1 [.string (t.extract 0 k ++ x.extract k 128)] rfl rfl (one_new _ _ _) (one_cell _) (by unfold maxLen; omega) (by omega) (by have := hS.out; simp; omega) ?_)
            | go_in)
        intro v' w1 hown' hgrow _
        have R := step_own2 hown hr hB hS hown' hgrow
        rw [← strCells_snoc, ← HT.out] at R
        clear hown' hgrow hown hc
        go_wp2
        go_roundw
        case rel => exact ⟨j + 1, by omega, by go_num, R⟩
        case measure => simp [intOf]; omega
      · have hne : ((j : Int) == (a : Int)) = false := by simp only [beq_eq_false_iff_ne, ne_eq]; omega
        have HT := Lib.hid (rtear_take ss a t k j (by rw [HLN.out]; exact h8) hja)
        clear hja
        generalize ss.getD j ByteArray.empty = x at *
        go_wp2_with (first
            | (at_builtin; refine wpList_append_own _ rfl _ _ 22 rfl (w.heap.size + 2) 9 i0 (.string ⟨#[]⟩) 1 16 Try.underlying22 hi hz0 hz1 hz2 rfl (by decide) _ _ _ rfl (hown.alloc _) ⟨wr.heap.size, 0, none⟩ 1 1 [.string x] rfl rfl (one_new _ _ _) (one_cell _) (by unfold maxLen; omega) (by omega) (by have := hS.out; simp; omega) ?_)
            | go_in)
        intro v' w1 hown' hgrow _
        have R := step_own hown hr hB hS hown' hgrow
        rw [← strCells_snoc, ← HT.out] at R
        clear hown' hgrow hown hc
        go_wp2
        go_roundw
        case rel => exact ⟨j + 1, by omega, by go_num, R⟩
        case measure => simp [intOf]; omega
    · obtain rfl : n = j := by omega
      rw [List.take_of_length_le (by rw [hfl.out]; exact Nat.le_refl _)] at hown
      obtain ⟨ob, cp, rfl, hRd, hlow⟩ := Rd.of_own hfl.out hown
      have hcr := cell_of_one hr.out
      have hfr := free_of_one hr.out
      go_wp2
      refine bodyPost_ret (ret_cell rfl rfl (World.cell?_setCell_same _ _ _ hcr) rfl) rfl ?_
      refine ⟨⟨ob, _, cp, rfl, hRd.setLow (fun g hg => ?_) _⟩, hB.setCell (by show w.heap.size ≤ w.heap.size + 1; omega) _⟩
      have := hlow g (by rw [hg]; rfl)
      omega
end Go.Proofs.Ytmjbhmmcpjhmcaa
