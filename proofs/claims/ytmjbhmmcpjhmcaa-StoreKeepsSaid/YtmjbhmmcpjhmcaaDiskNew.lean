/-
  A new disk: so many sectors, all bytes 0.
-/
import Derived.Test.YtmjbhmmcpjhmcaaDiskTear
namespace Go.Proofs.Ytmjbhmmcpjhmcaa
open Go.RowKit
set_option linter.unusedVariables false

/-- why there is no new disk of that size -/
def newE (n : Int) : Int := if 10 ≤ n ∧ n ≤ 130 then 0 else 2
/-- the new disk -/
def newL (n : Int) : List ByteArray := if newE n = 0 then List.replicate n.toNat (zerosB 128) else []
theorem zero_some (n : Nat) : Array.replicate n (Value.int .u8 0) = (cellsS (List.replicate n 0)).toArray := by
  unfold cellsS
  simp
theorem zeros_back (n : Nat) : (⟨(List.replicate n (0 : UInt8)).toArray⟩ : ByteArray) = zerosB n := by unfold zerosB; simp
theorem zero_bytes : zeroRow = (cellsS (List.replicate 128 0)).toArray := zero_some 128
/-- the sectors that are made, and those that are still empty -/
def part (n k : Nat) : List ByteArray := List.replicate k (zerosB 128) ++ List.replicate (n - k) ⟨#[]⟩
theorem part_length (n k : Nat) (h : k ≤ n) : (part n k).length = n := by
  unfold part
  rw [List.length_append, List.length_replicate, List.length_replicate]
  omega
theorem part_zero (n : Nat) : (strCells (part n 0)).toArray = madeCells #[.string ⟨#[]⟩] n := by
  apply Array.ext'
  rw [toList_madeCells_one]
  unfold part strCells
  simp
theorem part_set (n k : Nat) (h : k < n) : (part n k).set k (zerosB 128) = part n (k + 1) := by
  unfold part
  rw [List.set_append_right _ _ (by rw [List.length_replicate]; exact Nat.le_refl _), List.length_replicate, Nat.sub_self]
  rw [show n - k = (n - (k + 1)) + 1 by omega, List.replicate_succ, List.set_cons_zero, List.replicate_succ']
  simp
set_option maxHeartbeats 1600000 in
theorem new_any (n : Int) (w : World) :
    Calls Try.prog 32 #[.int .i64 n] w fun e w' => Told e w' (newL n) (newE n) ∧ Below w.heap.size w w' := by
  by_cases h1 : n < 10
  · have e1 : newE n = 2 := by unfold newE; rw [if_neg (by omega)]
    have E1 := Lib.hid e1
    clear e1
    go_enter Try.func32, Try.ntmps32
    go_wp2
    refine bodyPost_ret (ret_cell2 (v := .slice none 0 0) rfl rfl rfl (by simp) rfl) rfl ?_
    exact ⟨told_none E1.out.symm (by unfold newL; rw [E1.out]; rfl), by first | exact below_alloc w _ | exact (below_alloc w _).setCell (Nat.le_refl _) _⟩
  by_cases h2 : 130 < n
  · have e1 : newE n = 2 := by unfold newE; rw [if_neg (by omega)]
    have E1 := Lib.hid e1
    clear e1
    go_enter Try.func32, Try.ntmps32
    go_wp2
    refine bodyPost_ret (ret_cell2 (v := .slice none 0 0) rfl rfl rfl (by simp) rfl) rfl ?_
    exact ⟨told_none E1.out.symm (by unfold newL; rw [E1.out]; rfl), by first | exact below_alloc w _ | exact (below_alloc w _).setCell (Nat.le_refl _) _⟩
  obtain ⟨m, rfl⟩ := Int.eq_ofNat_of_zero_le (by omega : 0 ≤ n)
  have E1 : Hid (newE (m : Nat) = 0) := by show _ = _; unfold newE; rw [if_pos (by omega)]
  have E2 : Hid (newL (m : Nat) = List.replicate m (zerosB 128)) := by show _ = _; unfold newL; rw [if_pos E1.out]; rfl
  have hz := zeroArr
  have hmk := make22 m (by omega)
  go_enter Try.func32, Try.ntmps32
  go_wp2
  obtain ⟨W0, hW0⟩ : ∃ W0, W0 = ((w.alloc (.cells #[.slice none 0 0] 24)).alloc (.cells zeroRow 86)).alloc (.cells (madeCells #[.string ⟨#[]⟩] m) 9) := ⟨_, rfl⟩
  have hB0 : Below w.heap.size w W0 := by
    rw [hW0]
    exact ((below_alloc w _).alloc (by simp) _).alloc (by simp; omega) _
  have hr0 : W0.heap[w.heap.size]? = some (.cells #[.slice none 0 0] 24 (0, 0)) := by
    rw [hW0, Below.heap_alloc _ _ _ (by simp; omega), Below.heap_alloc _ _ _ (by simp)]
    exact heap_alloc_new w _
  have hz0 : W0.heap[w.heap.size + 1]? = some (.cells zeroRow 86 (0, 0)) := by
    rw [hW0, Below.heap_alloc _ _ _ (by simp)]
    have := heap_alloc_new (w.alloc (.cells #[.slice none 0 0] 24)) (.cells zeroRow 86)
    simpa using this
  have hg0 : W0.heap[w.heap.size + 2]? = some (.cells (strCells (part m 0)).toArray 9 (0, 0)) := by
    rw [hW0, part_zero]
    have := heap_alloc_new ((w.alloc (.cells #[.slice none 0 0] 24)).alloc (.cells zeroRow 86)) (.cells (madeCells #[.string ⟨#[]⟩] m) 9)
    simpa using this
  rw [← hW0]
  clear hW0
  go_loopw [18] (fun i wr => ∃ k : Nat, k ≤ m ∧ i = .int .i64 k ∧ Hid (wr.heap[w.heap.size]? = some (.cells #[.slice none 0 0] 24 (0, 0))) ∧ Hid (wr.heap[w.heap.size + 1]? = some (.cells zeroRow 86 (0, 0))) ∧ Hid (wr.heap[w.heap.size + 2]? = some (.cells (strCells (part m k)).toArray 9 (0, 0))) ∧ Below w.heap.size w wr) (fun i _ => m - (intOf i).toNat)
  case atStart => exact ⟨0, Nat.zero_le _, rfl, hr0, hz0, hg0, hB0⟩
  case round =>
    clear hr0 hz0 hg0 hB0
    obtain ⟨k, hk, rfl, hr, hzz, hg, hB⟩ := hrel
    by_cases h8 : k < m
    · have hcv := run_convert_bytes_arg (P := Try.prog) wr 87 5 Try.underlying87 Try.underlying5 (w.heap.size + 1) 0 128 128 ((List.replicate 128 (0 : UInt8)).map fun x => ((x.toNat : Nat) : Int)) (by rw [List.length_map, List.length_replicate]) (fun i hi => by
        rw [cell_of_row wr _ _ _ _ _ hzz.out, Nat.zero_add, zero_bytes]
        exact cell_bytes _ i (by rw [List.length_replicate]; exact hi)) 9 Try.underlying9
      rw [bytes_back, zeros_back] at hcv
      have hc : wr.cell? ⟨w.heap.size + 2, k, none⟩ = some (.string ((part m k).getD k ByteArray.empty)) := by
        rw [cell_of_row wr _ _ _ _ _ hg.out]
        simpa using strCells_at (part m k) k (by rw [part_length m k hk]; exact h8)
      have hf : wr.frozen? ⟨w.heap.size + 2, k, none⟩ = false := frozen_of_row wr _ _ _ _ hg.out
      generalize (part m k).getD k ByteArray.empty = sk at *
      go_wp2
      go_roundw
      case rel =>
        refine ⟨k + 1, by omega, by go_num, ?_, ?_, ?_, hB.setCell (by show w.heap.size ≤ w.heap.size + 2; omega) _⟩
        · exact (Below.heap_setCell _ _ _ _ (by show w.heap.size ≠ w.heap.size + 2; omega)).trans hr.out
        · exact (Below.heap_setCell _ _ _ _ (by show w.heap.size + 1 ≠ w.heap.size + 2; omega)).trans hzz.out
        · show _ = _
          rw [heap_setCell_same _ _ _ _ _ _ hg.out, ← part_set m k h8, ← strCells_set]
          simp
      case measure => simp [intOf]; omega
    · obtain rfl : k = m := by omega
      have hcr := cell_of_one hr.out
      have hfr := free_of_one hr.out
      go_wp2
      refine bodyPost_ret (ret_cell2 rfl rfl rfl (World.cell?_setCell_same _ _ _ hcr) rfl) rfl ?_
      refine ⟨⟨some ⟨w.heap.size + 2, 0, none⟩, k, k, ?_, ?_⟩, hB.setCell (Nat.le_refl _) _⟩
      · rw [E1.out]
        rfl
      · rw [E2.out]
        refine Rd.setOther (Rd.of_block (List.length_replicate ..) (Nat.le_refl _) hg.out (fun i hi => ?_)) (by omega) _ _
        have : part k k = List.replicate k (zerosB 128) := by unfold part; rw [Nat.sub_self]; simp
        rw [← this]
        simpa using strCells_at (part k k) i (by rw [part_length k k hk]; exact hi)
end Go.Proofs.Ytmjbhmmcpjhmcaa
