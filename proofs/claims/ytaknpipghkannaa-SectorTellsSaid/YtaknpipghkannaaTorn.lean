/-
  What is torn: a sector put together in an array.
-/
import Derived.Test.YtaknpipghkannaaTexts
import Derived.Lib.LazyBuf
import Derived.Laws.CopyOwn
import Derived.Laws.CopyRow
namespace Go.Proofs.Ytaknpipghkannaa
open Go.RowKit
set_option linter.unusedVariables false
/-- an array of 128 bytes 0 -/
def zeroRow : Array Value := Array.replicate 128 (.int .u8 0)
theorem zeroRow_size : zeroRow.size = 128 := by unfold zeroRow; simp
theorem zero43 (w : World) : (zeroValue 43).run Try.prog w = .ok (.agg zeroRow) w := by kernel_rfl
/-- bytes as cells -/
def cellsS (l : List UInt8) : List Value := l.map fun x => Value.int .u8 (x.toNat : Int)
theorem run_copy_text {P : Program} (w : World) (dT sT ty elem : TypeId) (g dLen dCap : Nat) (s : ByteArray) (cur : Array Value) (t : TypeId)
    (hu : P.underlying dT = some (.slice elem)) (hs : (P.info? elem).map (·.size) = some 1) (hg : w.heap[g]? = some (.cells cur t (0, 0))) (hle : dLen ≤ s.size) (hfit : dLen ≤ cur.size) :
    (Builtin.copy_ #[dT, sT] ty #[.slice (some ⟨g, 0, none⟩) dLen dCap, .string s]).run P w =
      .ok (goInt dLen) (w.setRow g (cellsS (s.data.toList.take dLen) ++ cur.toList.drop dLen).toArray) := by
  have hl : (cellsS (s.data.toList.take dLen)).length = dLen := by
    unfold cellsS
    rw [List.length_map, List.length_take, Array.length_toList]
    exact Nat.min_eq_left hle
  have hst := run_storeCells_at P g 0 t (cellsS (s.data.toList.take dLen)) 0 cur w hg (by rw [hl]; simpa using hfit) (by
    intro v hv
    obtain ⟨x, _, rfl⟩ := List.mem_map.1 hv
    rfl)
  have hmin : Nat.min s.size dLen = dLen := Nat.min_eq_right hle
  have htk : List.take dLen (List.map (fun b : UInt8 => Value.int IntKind.u8 (b.toNat : Int)) s.data.toList) = cellsS (s.data.toList.take dLen) := by
    unfold cellsS
    rw [List.map_take]
  rw [hl] at hst
  simp only [Nat.add_zero, Nat.zero_add, List.take_zero, List.nil_append] at hst
  cases hq : P.info? elem with
  | none => simp [hq] at hs
  | some i =>
    simp [Builtin.copy_, run_underlying hu, Builtin.lenOf, Builtin.firstCells, sizeOf, typeInfo, hq, hmin]
    rw [htk, hst]
    simp [Result.andThen]
theorem info5 : (Try.prog.info? 5).map (·.size) = some 1 := by kernel_rfl
theorem len43 : Try.prog.arrayLen 43 = 128 := by kernel_rfl
theorem size43 (w : World) : (sizeOf (Try.prog.elem 43)).run Try.prog w = .ok 1 w := by kernel_rfl
theorem slice43 (k : Nat) (hk : k ≤ 128) (B : Nat) (w : World) : (Instr.sliceAt 43 (.pointer (some ⟨B, 0, none⟩)) none (some (.int .i64 (k : Int))) none).run Try.prog w = .ok (.slice (some ⟨B, 0, none⟩) k 128) w := by
  rw [run_sliceAt_array_h (P := Try.prog) (w := w) (ht := by kernel_rfl) (h0 := by omega) (h2 := by rw [len43]; omega), len43, size43]
  simp [slicedAt]
  rfl
theorem bytes_back (l : List UInt8) : strOfNums (l.map fun x => ((x.toNat : Nat) : Int)) = ⟨l.toArray⟩ := by
  unfold strOfNums
  congr 1
  rw [List.map_map]
  congr 1
  conv => rhs; rw [← List.map_id l]
  apply List.map_congr_left
  intro x _
  simp
theorem cell_bytes (l : List UInt8) (i : Nat) (hi : i < l.length) : (cellsS l).toArray[i]? = some (.int .u8 ((l.map fun x => ((x.toNat : Nat) : Int)).getD i 0)) := by
  unfold cellsS
  simp [List.getD_eq_getElem?_getD, hi]
/-- what is torn, byte by byte -/
theorem torn_list (old text : ByteArray) (k : Nat) (ho : old.size = 128) (ht : text.size = 128) (hk : k ≤ 128) :
    (⟨(text.data.toList.take k ++ old.data.toList.drop k).toArray⟩ : ByteArray) = tornS old text k := by
  apply ByteArray.ext
  unfold tornS
  rw [ByteArray.data_append, ByteArray.data_extract, ByteArray.data_extract]
  apply Array.ext'
  have e1 : old.data.toList.length = 128 := by rw [Array.length_toList]; exact ho
  simp
  rw [List.take_of_length_le (by rw [List.length_drop]; omega)]
set_option maxHeartbeats 800000 in
theorem torn_any (old text : ByteArray) (k : Nat) (w : World) (ho : old.size = 128) (ht : text.size = 128) (hk : k ≤ 128) :
    Calls Try.prog 21 #[.string old, .string text, .int .i64 k] w fun e w' => e = .returned (.string (tornS old text k)) ∧ Below w.heap.size w w' := by
  have hz := zero43
  have hcp1 := fun ty => run_copy_text (P := Try.prog) (w.alloc (.cells zeroRow 43)) 44 9 ty 5 w.heap.size 128 128 old zeroRow 43 Try.underlying44 info5 (heap_alloc_new w _) (by omega) (by rw [zeroRow_size]; omega)
  obtain ⟨W1, hW1⟩ : ∃ W1, W1 = (w.alloc (.cells zeroRow 43)).setRow w.heap.size (cellsS (old.data.toList.take 128) ++ zeroRow.toList.drop 128).toArray := ⟨_, rfl⟩
  rw [← hW1] at hcp1
  have HW1 := Lib.hid hW1
  clear hW1
  have hsl := slice43 k hk
  obtain ⟨cur, hcur⟩ : ∃ cur, cur = cellsS (old.data.toList.take 128) ++ zeroRow.toList.drop 128 := ⟨_, rfl⟩
  have hcl : cur.length = 128 := by
    have e1 : zeroRow.toList.length = 128 := by rw [Array.length_toList]; exact zeroRow_size
    have e2 : old.data.toList.length = 128 := by rw [Array.length_toList]; exact ho
    rw [hcur, List.length_append, List.length_drop, e1]
    unfold cellsS
    rw [List.length_map, List.length_take, e2]
    omega
  have hcd : cur.drop k = cellsS (old.data.toList.drop k) := by
    rw [hcur, List.drop_of_length_le (l := zeroRow.toList) (by rw [Array.length_toList, zeroRow_size]; exact Nat.le_refl _), List.append_nil]
    rw [List.take_of_length_le (by rw [Array.length_toList, show old.data.size = 128 from ho]; exact Nat.le_refl _)]
    unfold cellsS
    rw [List.map_drop]
  rw [← hcur] at HW1
  clear hcur
  have hg1 : W1.heap[w.heap.size]? = some (.cells cur.toArray 43 (0, 0)) := by
    rw [HW1.out]
    exact setRow_heap _ _ _ _ _ _ (heap_alloc_new w _)
  have hB1 : Below w.heap.size w W1 := by
    rw [HW1.out]
    exact below_setRow (below_alloc w _) (Nat.le_refl _) _
  have hcp2 := fun ty => run_copy_text (P := Try.prog) W1 44 9 ty 5 w.heap.size k 128 text cur.toArray 43 Try.underlying44 info5 hg1 (by omega) (by rw [List.size_toArray, hcl]; omega)
  obtain ⟨W2, hW2⟩ : ∃ W2, W2 = W1.setRow w.heap.size (cellsS (text.data.toList.take k) ++ cur.toArray.toList.drop k).toArray := ⟨_, rfl⟩
  rw [← hW2] at hcp2
  have HW2 := Lib.hid hW2
  clear hW2
  have hg2 : W2.heap[w.heap.size]? = some (.cells (cellsS (text.data.toList.take k ++ old.data.toList.drop k)).toArray 43 (0, 0)) := by
    rw [HW2.out, setRow_heap _ _ _ _ _ _ hg1]
    simp only [hcd]
    unfold cellsS
    rw [List.map_append]
  have hB2 : Below w.heap.size w W2 := by
    rw [HW2.out]
    exact below_setRow hB1 (Nat.le_refl _) _
  have hln : (text.data.toList.take k ++ old.data.toList.drop k).length = 128 := by
    rw [List.length_append, List.length_take, List.length_drop, Array.length_toList, Array.length_toList, show old.data.size = 128 from ho, show text.data.size = 128 from ht]
    omega
  have hcv := run_convert_bytes_arg (P := Try.prog) W2 44 5 Try.underlying44 Try.underlying5 w.heap.size 0 128 128 ((text.data.toList.take k ++ old.data.toList.drop k).map fun x => ((x.toNat : Nat) : Int)) (by rw [List.length_map]; exact hln) (fun i hi => by
    rw [cell_of_row W2 _ _ _ _ _ hg2, Nat.zero_add]
    exact cell_bytes _ i (by rw [hln]; exact hi)) 9 Try.underlying9
  rw [bytes_back, torn_list old text k ho ht hk] at hcv
  clear hg1 hB1 hg2 hln hcl hcd
  go_enter Try.func21, Try.ntmps21
  go_wp2_with fail
  go_ret
  exact ⟨rfl, hB2⟩
end Go.Proofs.Ytaknpipghkannaa
