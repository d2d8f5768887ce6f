/-
  A disk of its own with one text put into it; a new disk; what is torn on a disk.
-/
import Derived.Test.YtmjbhmmcpjhmcaaDiskTorn
import Derived.Deep.OwnRows
import Derived.Laws.ResultCell
import Derived.Deep.RegionHeld3
namespace Go.Proofs.Ytmjbhmmcpjhmcaa
open Go.RowKit
set_option linter.unusedVariables false

/-- texts as cells -/
def strCells (ss : List ByteArray) : List Value := ss.map Value.string
theorem strCells_at (ss : List ByteArray) (i : Nat) (hi : i < ss.length) : (strCells ss)[i]? = some (.string (ss.getD i ByteArray.empty)) := by
  unfold strCells
  simp [List.getD_eq_getElem?_getD, hi]
theorem Rd.of_block {w : World} {g n cap : Nat} {ss : List ByteArray} {cur : Array Value} {t : TypeId} {fr : Nat × Nat} (hl : ss.length = n) (hr : n ≤ cap) (hg : w.heap[g]? = some (.cells cur t fr)) (hc : ∀ i, i < n → cur[i]? = some (.string (ss.getD i ByteArray.empty))) :
    Rd w (some ⟨g, 0, none⟩) n cap ss :=
  ⟨hl, hr, fun i hi => ⟨g, rfl, by rw [cell_of_row w g i cur t fr hg]; exact hc i hi⟩⟩
theorem add_at (b o j : Nat) : (⟨b, o, none⟩ : Addr).add j = ⟨b, o + j, none⟩ := by unfold Addr.add; split <;> simp_all
theorem load24 {w : World} {B : Nat} {v : Value} (hc : w.cell? ⟨B, 0, none⟩ = some v) (h1 : v.oneCell' = true) : (loadVar 24 ⟨B, 0, none⟩).run Try.prog w = .ok (.agg #[v]) w := by
  simp [go_sem, hc]
theorem ret_cell {fn : Func} {p : Tmp} (h : fn.results = #[.cell p 24]) {tmps : Array Value} {w : World} {B : Nat} {v : Value} (hp : tmps.getD p undef = .pointer (some ⟨B, 0, none⟩)) (hc : w.cell? ⟨B, 0, none⟩ = some v) (h1 : v.oneCell' = true) :
    (results fn tmps).run Try.prog w = .ok (.agg #[v]) w := by
  have hl := load24 hc h1
  have hp' : tmps[p]?.getD undef = .pointer (some ⟨B, 0, none⟩) := by simpa using hp
  simp only [results, h]
  simp [hp', asAddr, hl]
theorem ret_cell2 {fn : Func} {p u : Tmp} (h : fn.results = #[.cell p 24, .tmp u]) {tmps : Array Value} {w : World} {B : Nat} {v x : Value} (hp : tmps.getD p undef = .pointer (some ⟨B, 0, none⟩)) (hu : tmps.getD u undef = x) (hc : w.cell? ⟨B, 0, none⟩ = some v) (h1 : v.oneCell' = true) :
    (results fn tmps).run Try.prog w = .ok (.tuple #[.agg #[v], x]) w := by
  have hl := load24 hc h1
  rw [results_cell_tmp h, hp, hu]
  simp [Result.andThen, asAddr, hl]
theorem info9 : (Try.prog.info? 9).map (fun i => (i.zero, i.size, i.bytes)) = some (some (.string ⟨#[]⟩), 1, 16) := by kernel_rfl
theorem info9s : (Try.prog.info? 9).map (·.size) = some 1 := by kernel_rfl
theorem make22 (n : Nat) (hn : n ≤ 1000) (w : World) : (Instr.makeSlice 22 (.int .i64 (n : Int)) (.int .i64 (n : Int))).run Try.prog w = .ok (.slice (some ⟨w.heap.size, 0, none⟩) n n) (w.alloc (.cells (madeCells #[.string ⟨#[]⟩] n) 9)) :=
  run_make_row' (P := Try.prog) 22 9 (.string ⟨#[]⟩) 16 Try.underlying22 info9 rfl .i64 .i64 n (by omega) (by omega) w
theorem strCells_one (ss : List ByteArray) : ∀ v ∈ strCells ss, v.oneCell' = true := by
  intro v hv
  obtain ⟨x, _, rfl⟩ := List.mem_map.1 hv
  rfl
theorem strCells_length (ss : List ByteArray) : (strCells ss).length = ss.length := by unfold strCells; rw [List.length_map]
theorem strCells_set (ss : List ByteArray) (a : Nat) (t : ByteArray) : (strCells ss).set a (.string t) = strCells (ss.set a t) := by
  unfold strCells
  rw [List.map_set]
set_option maxHeartbeats 1600000 in
theorem put_any (oa : Option Addr) (n cap : Nat) (ss : List ByteArray) (a : Nat) (t : ByteArray) (w : World) (hR : Rd w oa n cap ss) (hn : n ≤ 1000) (ha : a < n) :
    Calls Try.prog 82 #[.agg #[.slice oa n cap], .int .i64 a, .string t] w fun e w' => ∃ g, w.heap.size ≤ g ∧ e = .returned (.agg #[.slice (some ⟨g, 0, none⟩) n n]) ∧ Rd w' (some ⟨g, 0, none⟩) n n (ss.set a t) ∧ Below w.heap.size w w' := by
  obtain ⟨g, rfl, _⟩ := hR.cell a ha
  have hmk := make22 n hn
  obtain ⟨W0, hW0⟩ : ∃ W0, W0 = (((w.alloc (.cells #[.slice (some ⟨g, 0, none⟩) n cap] 24)).alloc (.cells #[.slice none 0 0] 24)).alloc (.cells (madeCells #[.string ⟨#[]⟩] n) 9)) := ⟨_, rfl⟩
  have hB0 : Below w.heap.size w W0 := by
    rw [hW0]
    exact ((below_alloc w _).alloc (by simp) _).alloc (by simp; omega) _
  have hs0 : W0.heap.size = w.heap.size + 3 := by rw [hW0]; simp
  have hg0 : W0.heap[w.heap.size + 2]? = some (.cells (madeCells #[.string ⟨#[]⟩] n) 9 (0, 0)) := by
    rw [hW0]
    have := heap_alloc_new ((w.alloc (.cells #[.slice (some ⟨g, 0, none⟩) n cap] 24)).alloc (.cells #[.slice none 0 0] 24)) (.cells (madeCells #[.string ⟨#[]⟩] n) 9)
    simpa using this
  have hr0 : W0.heap[w.heap.size + 1]? = some (.cells #[.slice none 0 0] 24 (0, 0)) := by
    rw [hW0]
    rw [Below.heap_alloc _ _ _ (by simp)]
    have := heap_alloc_new (w.alloc (.cells #[.slice (some ⟨g, 0, none⟩) n cap] 24)) (.cells #[.slice none 0 0] 24)
    simpa using this
  have hb0 : W0.cell? ⟨w.heap.size, 0, none⟩ = some (.slice (some ⟨g, 0, none⟩) n cap) := by
    rw [hW0]
    rw [World.cell?_of_block (w := w.alloc (.cells #[.slice (some ⟨g, 0, none⟩) n cap] 24)) (by rw [Below.heap_alloc _ _ _ (by simp; omega), Below.heap_alloc _ _ _ (by simp)])]
    exact World.cell?_alloc_at _ _ _ _ rfl
  have hR0 := hR.below hB0 (Nat.le_refl _)
  have hl := hR.len
  have hcp := fun ty => run_copy_row (P := Try.prog) W0 22 22 ty 9 (w.heap.size + 2) 0 n n ⟨g, 0, none⟩ n cap (madeCells #[.string ⟨#[]⟩] n) 9 (strCells ss) Try.underlying22 info9s hg0 (by rw [strCells_length, hl]; exact (Nat.min_self n).symm)
    (fun j v hj => by
      have hjl := (List.getElem?_eq_some_iff.1 hj).1
      rw [strCells_length, hl] at hjl
      obtain ⟨g', hg', hc⟩ := hR0.cell j hjl
      rw [strCells_at ss j (by rw [hl]; exact hjl)] at hj
      cases hj
      cases hg'
      rw [add_at, Nat.zero_add]
      exact hc) (by rw [strCells_length, hl, size_madeCells]; omega) (strCells_one ss)
  rw [show (List.take 0 (madeCells #[.string ⟨#[]⟩] n).toList ++ strCells ss ++ List.drop (0 + (strCells ss).length) (madeCells #[.string ⟨#[]⟩] n).toList) = strCells ss by
    rw [List.take_zero, List.nil_append, strCells_length, hl, List.drop_of_length_le (by rw [Array.length_toList, size_madeCells]; omega), List.append_nil]] at hcp
  rw [strCells_length, hl] at hcp
  obtain ⟨W1, hW1⟩ : ∃ W1, W1 = W0.setRow (w.heap.size + 2) (strCells ss).toArray := ⟨_, rfl⟩
  rw [← hW1] at hcp
  have hg1 : W1.heap[w.heap.size + 2]? = some (.cells (strCells ss).toArray 9 (0, 0)) := by
    rw [hW1]
    exact setRow_heap _ _ _ _ _ _ hg0
  have hr1 : W1.heap[w.heap.size + 1]? = some (.cells #[.slice none 0 0] 24 (0, 0)) := by
    rw [hW1, setRow_other _ _ _ _ (by omega)]
    exact hr0
  have hB1 : Below w.heap.size w W1 := by
    rw [hW1]
    exact below_setRow hB0 (by omega) _
  clear hW1 hR0 hg0 hr0
  have HG := Lib.hid hg1
  have hc1 : W1.cell? ⟨w.heap.size + 2, a, none⟩ = some (.string (ss.getD a ByteArray.empty)) := by
    rw [cell_of_row W1 _ _ _ _ _ hg1]
    simpa using strCells_at ss a (by omega)
  have hf1 : W1.frozen? ⟨w.heap.size + 2, a, none⟩ = false := frozen_of_row W1 _ _ _ _ hg1
  have hc2 : W1.cell? ⟨w.heap.size + 1, 0, none⟩ = some (.slice none 0 0) := cell_of_one hr1
  have hf2 : W1.frozen? ⟨w.heap.size + 1, 0, none⟩ = false := free_of_one hr1
  clear hg1 hr1
  generalize ss.getD a ByteArray.empty = sa at *
  have HW0 := Lib.hid hW0
  clear hW0 hB0
  have hW0' := HW0.out.symm
  go_enter Try.func82, Try.ntmps82
  go_wp2_with fail
  have hcr : (W1.setCell ⟨w.heap.size + 1 + 1, a, none⟩ (.string t)).cell? ⟨w.heap.size + 1, 0, none⟩ = some (.slice none 0 0) := by
    rw [World.cell?_setCell_other _ _ _ _ (by simp)]
    exact hc2
  refine bodyPost_ret (ret_cell rfl rfl (World.cell?_setCell_same _ _ _ hcr) rfl) rfl ?_
  refine ⟨w.heap.size + 1 + 1, by omega, rfl, Rd.of_block (by rw [List.length_set]; exact hl) (Nat.le_refl _) (t := 9) (fr := (0, 0)) (cur := (strCells (ss.set a t)).toArray) ?_ (fun i hi => ?_), (hB1.setCell (by show w.heap.size ≤ w.heap.size + 1 + 1; omega) _).setCell (by show w.heap.size ≤ w.heap.size + 1; omega) _⟩
  · rw [Below.heap_setCell _ _ _ _ (by show w.heap.size + 1 + 1 ≠ w.heap.size + 1; omega), heap_setCell_same _ _ _ _ _ _ HG.out, ← strCells_set]
    simp
  · simpa using strCells_at (ss.set a t) i (by rw [List.length_set]; omega)
end Go.Proofs.Ytmjbhmmcpjhmcaa
