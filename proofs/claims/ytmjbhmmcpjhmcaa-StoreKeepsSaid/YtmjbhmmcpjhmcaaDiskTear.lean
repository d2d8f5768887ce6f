/-
  A write on a disk, torn or not.
-/
import Derived.Test.YtmjbhmmcpjhmcaaDiskPut
namespace Go.Proofs.Ytmjbhmmcpjhmcaa
open Go.RowKit
set_option linter.unusedVariables false

/-- why a write is refused -/
def tearE (ss : List ByteArray) (a : Int) (t : ByteArray) (k : Int) : Int :=
  if findE ss a = 0 then (if t.size = 128 then (if 0 ≤ k ∧ k ≤ 128 then 0 else 1) else 2) else findE ss a
/-- the disk behind it -/
def tearL (ss : List ByteArray) (a : Int) (t : ByteArray) (k : Int) : List ByteArray :=
  if tearE ss a t k = 0 then ss.set a.toNat (tornS (ss.getD a.toNat ByteArray.empty) t k.toNat) else []
/-- what is told: a disk, and an error -/
def Told (e : Ending) (w' : World) (l : List ByteArray) (er : Int) : Prop :=
  ∃ oa n cap, e = .returned (.tuple #[.agg #[.slice oa n cap], .int .i64 er]) ∧ Rd w' oa n cap l
theorem told_none {w : World} {x er : Int} {l : List ByteArray} (h : x = er) (hl : l = []) : Told (.returned (.tuple #[.agg #[.slice none 0 0], .int .i64 x])) w l er := by
  subst h hl
  exact ⟨none, 0, 0, rfl, Rd.nil w⟩
theorem right_size {ss : List ByteArray} (h : rightB ss = true) (k : Nat) (hk : k < ss.length) : (ss.getD k ByteArray.empty).size = 128 := by
  unfold rightB at h
  simp only [Bool.and_eq_true, List.all_eq_true] at h
  have := h.2 ss[k] (List.getElem_mem hk)
  rw [List.getD_eq_getElem?_getD, List.getElem?_eq_getElem hk]
  simpa using this
theorem Rd.drew {w : World} {oa : Option Addr} {n cap : Nat} {ss : List ByteArray} (h : Rd w oa n cap ss) : Rd w.drew oa n cap ss := ⟨h.len, h.room, h.cell⟩
theorem Rd.drewN {w : World} {oa : Option Addr} {n cap : Nat} {ss : List ByteArray} (h : Rd w oa n cap ss) (k : Nat) : Rd (w.drewN k) oa n cap ss := ⟨h.len, h.room, h.cell⟩
theorem Rd.setOther {w : World} {g n cap : Nat} {ss : List ByteArray} (h : Rd w (some ⟨g, 0, none⟩) n cap ss) {B : Nat} (hne : B ≠ g) (j : Nat) (u : Value) : Rd (w.setCell ⟨B, j, none⟩ u) (some ⟨g, 0, none⟩) n cap ss := by
  refine ⟨h.len, h.room, fun i hi => ?_⟩
  obtain ⟨g', hg', hc⟩ := h.cell i hi
  cases hg'
  refine ⟨g, rfl, ?_⟩
  rw [World.cell?_setCell_other _ _ _ _ (fun e => hne (by cases e; rfl))]
  exact hc
theorem below_undrew {B : Nat} {w w' : World} (h : Below w.drew.heap.size w.drew w') (hB : B ≤ w.heap.size) : Below B w w' :=
  ⟨h.os, h.tape, h.output, h.size, fun k hk => h.block k (Nat.lt_of_lt_of_le hk hB)⟩
theorem keepS {w : World} {p q : Addr} {v u : Value} (hne : q.block ≠ p.block) (hc : w.cell? p = some v) : (w.setCell q u).cell? p = some v := by
  rw [World.cell?_setCell_other _ _ _ _ (fun e => hne (by rw [e]))]
  exact hc
set_option maxHeartbeats 1600000 in
theorem tear_any (oa : Option Addr) (n cap : Nat) (ss : List ByteArray) (a : Int) (t : ByteArray) (k : Int) (w : World) (hR : Rd w oa n cap ss) (hn : n ≤ 1000) (ht : t.size ≤ maxLen) :
    Calls Try.prog 74 #[.agg #[.slice oa n cap], .int .i64 a, .string t, .int .i64 k] w fun e w' => Told e w' (tearL ss a t k) (tearE ss a t k) ∧ Below w.heap.size w w' := by
  unfold maxLen at ht
  obtain ⟨W0, hW0⟩ : ∃ W0, W0 = (w.alloc (.cells #[.slice oa n cap] 24)).alloc (.cells #[.slice none 0 0] 24) := ⟨_, rfl⟩
  have hB0 : Below w.heap.size w W0 := by rw [hW0]; exact (below_alloc w _).alloc (by simp) _
  have hs0 : W0.heap.size = w.heap.size + 2 := by rw [hW0]; simp
  have hb0 : W0.heap[w.heap.size]? = some (.cells #[.slice oa n cap] 24 (0, 0)) := by
    rw [hW0, Below.heap_alloc _ _ _ (by simp)]
    exact heap_alloc_new w _
  have hr0 : W0.heap[w.heap.size + 1]? = some (.cells #[.slice none 0 0] 24 (0, 0)) := by
    rw [hW0]
    have := heap_alloc_new (w.alloc (.cells #[.slice oa n cap] 24)) (.cells #[.slice none 0 0] 24)
    simpa using this
  have hR0 := hR.below hB0 (Nat.le_refl _)
  have hlen := Lib.hid hR.len
  have hW0' := hW0.symm
  have hcb0 := cell_of_one hb0
  clear hW0
  go_enter Try.func74, Try.ntmps74
  go_wp2_with fail
  refine (find_any _ _ _ _ _ _ hR0 hn).mono ?_
  rintro e w1 ⟨rfl, hB1⟩
  have hBw := hB0.trans (hB1.mono (by omega))
  have hb1 := (hB1.block w.heap.size (by omega)).trans hb0
  have hr1 := (hB1.block (w.heap.size + 1) (by omega)).trans hr0
  have hR1 := hR0.below hB1 (Nat.le_refl _)
  have hcb := cell_of_one hb1
  have hcr := cell_of_one hr1
  have hfr := free_of_one hr1
  clear hW0' hb0 hr0 hB0 hR0 hb1 hr1 hcb0
  by_cases hz : findE ss a = 0
  · obtain ⟨hrb, h0, hlt⟩ := findE_zero hz
    rw [hlen.out] at hlt
    obtain ⟨i, rfl⟩ := Int.eq_ofNat_of_zero_le h0
    have hsz := right_size hrb i (by rw [hlen.out]; omega)
    have HRB := Lib.hid hrb
    clear hrb
    rw [hz]
    have HZ := Lib.hid hz
    clear hz
    by_cases h8 : t.size = 128
    · have h8' : (((t.size : Nat) : Int) == 128) = true := by simp only [beq_iff_eq]; omega
      have H8 := Lib.hid h8
      clear h8
      by_cases hk0 : k < 0
      · go_wp2
        refine bodyPost_ret (ret_cell2 rfl rfl rfl (World.cell?_setCell_same _ _ _ hcr) rfl) rfl ?_
        have e1 : tearE ss (i : Nat) t k = 1 := by unfold tearE; rw [if_pos HZ.out, if_pos H8.out, if_neg (by omega)]
        exact ⟨told_none e1.symm (by unfold tearL; rw [e1]; rfl), hBw.setCell (by show w.heap.size ≤ w.heap.size + 1; omega) _⟩
      by_cases hk1 : 128 < k
      · go_wp2
        refine bodyPost_ret (ret_cell2 rfl rfl rfl (World.cell?_setCell_same _ _ _ hcr) rfl) rfl ?_
        have e1 : tearE ss (i : Nat) t k = 1 := by unfold tearE; rw [if_pos HZ.out, if_pos H8.out, if_neg (by omega)]
        exact ⟨told_none e1.symm (by unfold tearL; rw [e1]; rfl), hBw.setCell (by show w.heap.size ≤ w.heap.size + 1; omega) _⟩
      obtain ⟨q, rfl⟩ := Int.eq_ofNat_of_zero_le (by omega : 0 ≤ k)
      obtain ⟨g, rfl, hcg⟩ := hR1.cell i (by omega)
      have e1 : Hid (tearE ss (i : Nat) t (q : Nat) = 0) := by show _ = _; unfold tearE; rw [if_pos HZ.out, if_pos H8.out, if_pos (by omega)]
      have e2 : Hid (tearL ss (i : Nat) t (q : Nat) = ss.set i (tornS (ss.getD i ByteArray.empty) t q)) := by show _ = _; unfold tearL; rw [if_pos e1.out]; rfl
      have hin : (i : Int) < (n : Int) := by omega
      have hi0 : (0 : Int) ≤ (i : Int) := by omega
      generalize ss.getD i ByteArray.empty = sa at *
      have HS := Lib.hid hsz
      have hgne : w.heap.size + 1 ≠ g := by
        obtain ⟨g', hg', hc'⟩ := hR.cell i (by omega)
        cases hg'
        have := World.block_lt_of_cell? _ _ hc'
        simp only at this
        omega
      clear hsz
      go_wp2_with fail
      go_region_held3 (fun w' => w'.cell? ⟨w.heap.size, 0, none⟩ = some (.slice (some ⟨g, 0, none⟩) n cap) ∧ w'.cell? ⟨g, i, none⟩ = some (.string sa)) (first | exact ⟨keepS (by show w.heap.size + 1 ≠ w.heap.size; omega) (keepC hB3 (keepC hB2 hcb)), keepS hgne (keepC hB3 (keepC hB2 hcg))⟩ | exact ⟨keepC hB3 (keepC hB2 hcb), keepC hB3 (keepC hB2 hcg)⟩ | exact ⟨keepC hB2 hcb, keepC hB2 hcg⟩ | go_keep)
        (first | (go_at_call 83; refine (storn_any _ _ _ _ HS.out H8.out (by omega)).mono ?_; rintro e w2 ⟨rfl, hB2⟩) | (go_at_call 82; refine (put_any _ _ _ ss _ _ _ (hR1.drew.below hB2 (Nat.le_refl _)) hn (by omega)).mono ?_; rintro e w3 ⟨g3, hg3, rfl, hR3, hB3⟩; have hcr3 := keepC hB3 (keepC hB2 hcr); have hfr3 := keepF hB3 (keepC hB2 hcr) (keepF hB2 hcr hfr)))
      go_wp2
      refine bodyPost_ret (ret_cell2 rfl rfl rfl (World.cell?_setCell_same _ _ _ hcr3) rfl) rfl ?_
      have s1 := hB1.size
      have s2 : w1.heap.size ≤ w2.heap.size := hB2.size
      refine ⟨⟨some ⟨g3, 0, none⟩, n, n, ?_, ?_⟩, ((hBw.trans (below_undrew hB2 (by have := hBw.size; omega))).trans (hB3.mono (by have := hBw.size; omega))).setCell (by show w.heap.size ≤ w.heap.size + 1; omega) _⟩
      · rw [e1.out]
        rfl
      · rw [e2.out]
        exact hR3.setOther (by omega) _ _
    · have h8' : (((t.size : Nat) : Int) == 128) = false := by simp only [beq_eq_false_iff_ne, ne_eq]; omega
      have H8 := Lib.hid h8
      clear h8
      go_wp2
      refine bodyPost_ret (ret_cell2 rfl rfl rfl (World.cell?_setCell_same _ _ _ hcr) rfl) rfl ?_
      have e1 : tearE ss (i : Nat) t k = 2 := by unfold tearE; rw [if_pos HZ.out, if_neg H8.out]
      exact ⟨told_none e1.symm (by unfold tearL; rw [e1]; rfl), hBw.setCell (by show w.heap.size ≤ w.heap.size + 1; omega) _⟩
  · have hz' : (findE ss a == 0) = false := by simpa using hz
    have e1 : Hid (tearE ss a t k = findE ss a) := by show _ = _; unfold tearE; rw [if_neg hz]
    have e2 : Hid (tearL ss a t k = []) := by show _ = _; unfold tearL; rw [e1.out, if_neg hz]
    clear hz
    generalize he : findE ss a = E at *
    clear he
    go_wp2
    refine bodyPost_ret (ret_cell2 rfl rfl rfl (World.cell?_setCell_same _ _ _ hcr) rfl) rfl ?_
    exact ⟨told_none e1.out.symm e2.out, hBw.setCell (by show w.heap.size ≤ w.heap.size + 1; omega) _⟩

set_option maxHeartbeats 800000 in
theorem write_any (oa : Option Addr) (n cap : Nat) (ss : List ByteArray) (a : Int) (t : ByteArray) (w : World) (hR : Rd w oa n cap ss) (hn : n ≤ 1000) (ht : t.size ≤ maxLen) :
    Calls Try.prog 75 #[.agg #[.slice oa n cap], .int .i64 a, .string t] w fun e w' => Told e w' (tearL ss a t 128) (tearE ss a t 128) ∧ Below w.heap.size w w' := by
  obtain ⟨W0, hW0⟩ : ∃ W0, W0 = (w.alloc (.cells #[.slice oa n cap] 24)).alloc (.cells #[.slice none 0 0] 24) := ⟨_, rfl⟩
  have hB0 : Below w.heap.size w W0 := by rw [hW0]; exact (below_alloc w _).alloc (by simp) _
  have hs0 : W0.heap.size = w.heap.size + 2 := by rw [hW0]; simp
  have hb0 : W0.heap[w.heap.size]? = some (.cells #[.slice oa n cap] 24 (0, 0)) := by
    rw [hW0, Below.heap_alloc _ _ _ (by simp)]
    exact heap_alloc_new w _
  have hr0 : W0.heap[w.heap.size + 1]? = some (.cells #[.slice none 0 0] 24 (0, 0)) := by
    rw [hW0]
    have := heap_alloc_new (w.alloc (.cells #[.slice oa n cap] 24)) (.cells #[.slice none 0 0] 24)
    simpa using this
  have hR0 := hR.below hB0 (Nat.le_refl _)
  have hW0' := hW0.symm
  have hcb0 := cell_of_one hb0
  clear hW0
  go_enter Try.func75, Try.ntmps75
  go_wp2_with fail
  refine (tear_any _ _ _ _ _ _ _ _ hR0 hn ht).mono ?_
  rintro e w1 ⟨⟨ob, m, cbp, rfl, hT⟩, hB1⟩
  have hBw := hB0.trans (hB1.mono (by omega))
  have hr1 := (hB1.block (w.heap.size + 1) (by omega)).trans hr0
  have hcr := cell_of_one hr1
  have hfr := free_of_one hr1
  have hTn : ∀ i, i < m → ∃ g, ob = some ⟨g, 0, none⟩ ∧ g ≠ w.heap.size + 1 := by
    intro i hi
    obtain ⟨g, hg, hc⟩ := hT.cell i hi
    refine ⟨g, hg, ?_⟩
    rintro rfl
    rw [cell_of_row w1 _ _ _ _ _ hr1] at hc
    cases i <;> simp at hc
  clear hW0' hb0 hr0 hB0 hR0 hr1 hcb0
  go_wp2
  refine bodyPost_ret (ret_cell2 rfl rfl rfl (World.cell?_setCell_same _ _ _ hcr) rfl) rfl ?_
  refine ⟨⟨ob, m, cbp, rfl, hT.len, hT.room, fun i hi => ?_⟩, hBw.setCell (by show w.heap.size ≤ w.heap.size + 1; omega) _⟩
  obtain ⟨g, hg, hc⟩ := hT.cell i hi
  obtain ⟨g', hg', hne⟩ := hTn i hi
  rw [hg] at hg'
  cases hg'
  exact ⟨g, hg, keepS (Ne.symm hne) hc⟩
end Go.Proofs.Ytmjbhmmcpjhmcaa
