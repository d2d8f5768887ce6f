/-
  What is torn: a sector put together in an array.
-/
import Derived.Test.YtmjbhmmcpjhmcaaDiskReads
import Derived.Test.YtmjbhmmcpjhmcaaRow
namespace Go.Proofs.Ytmjbhmmcpjhmcaa
open Go.RowKit
set_option linter.unusedVariables false
theorem cell_bytes (l : List UInt8) (i : Nat) (hi : i < l.length) : (cellsS l).toArray[i]? = some (.int .u8 ((l.map fun x => ((x.toNat : Nat) : Int)).getD i 0)) := by
  unfold cellsS
  simp [List.getD_eq_getElem?_getD, hi]
/-- what is torn, byte by byte -/
theorem storn_list (old text : ByteArray) (k : Nat) (ho : old.size = 128) (ht : text.size = 128) (hk : k ≤ 128) :
    (⟨(text.data.toList.take k ++ old.data.toList.drop k).toArray⟩ : ByteArray) = tornS old text k := by
  apply ByteArray.ext
  unfold tornS
  rw [ByteArray.data_append, ByteArray.data_extract, ByteArray.data_extract]
  apply Array.ext'
  have e1 : old.data.toList.length = 128 := by rw [Array.length_toList]; exact ho
  simp
  rw [List.take_of_length_le (by rw [List.length_drop]; omega)]
set_option maxHeartbeats 800000 in
theorem storn_any (old text : ByteArray) (k : Nat) (w : World) (ho : old.size = 128) (ht : text.size = 128) (hk : k ≤ 128) :
    Calls Try.prog 83 #[.string old, .string text, .int .i64 k] w fun e w' => e = .returned (.string (tornS old text k)) ∧ Below w.heap.size w w' := by
  have hz := zeroArr
  have lo : old.data.toList.length = 128 := by rw [Array.length_toList]; exact ho
  have lt : text.data.toList.length = 128 := by rw [Array.length_toList]; exact ht
  have hcp1 := fun ty => run_copy_text _ ty w.heap.size 0 128 128 old _ (row_new w) (by omega) (by rw [List.length_replicate]; omega)
  have e1 : putAt (List.replicate 128 0) 0 old.data.toList = old.data.toList := by
    have h := put_mid [] (List.replicate 128 0) [] old.data.toList 0 rfl (by rw [lo, List.length_replicate])
    simpa only [List.nil_append, List.append_nil] using h
  rw [e1] at hcp1
  have hR1 := (row_new w).setRow old.data.toList
  have hB1 := below_setRow (below_alloc w (.cells zeroRow 86)) (Nat.le_refl w.heap.size) (cellsS old.data.toList).toArray
  obtain ⟨W1, hW1⟩ : ∃ W1, W1 = (w.alloc (.cells zeroRow 86)).setRow w.heap.size (cellsS old.data.toList).toArray := ⟨_, rfl⟩
  rw [← hW1] at hcp1 hR1 hB1
  clear hW1 e1
  have hcp2 := fun ty => run_copy_short W1 ty w.heap.size k 128 text _ hR1 (by omega) (by rw [lo]; exact hk)
  have e2 : putAt old.data.toList 0 (text.data.toList.take k) = text.data.toList.take k ++ old.data.toList.drop k := by
    unfold putAt
    rw [List.take_zero, List.nil_append, List.length_take, lt, Nat.zero_add, Nat.min_eq_left hk]
  rw [e2] at hcp2
  have hR2 := hR1.setRow (text.data.toList.take k ++ old.data.toList.drop k)
  have hB2 := below_setRow hB1 (Nat.le_refl w.heap.size) (cellsS (text.data.toList.take k ++ old.data.toList.drop k)).toArray
  obtain ⟨W2, hW2⟩ : ∃ W2, W2 = W1.setRow w.heap.size (cellsS (text.data.toList.take k ++ old.data.toList.drop k)).toArray := ⟨_, rfl⟩
  rw [← hW2] at hcp2 hR2 hB2
  clear hW2 e2
  have hcv := run_string W2 w.heap.size 0 128 128 _ hR2 (by rw [List.length_append, List.length_take, List.length_drop, lo, lt]; omega)
  have e3 : sub (text.data.toList.take k ++ old.data.toList.drop k) 0 128 = tornS old text k := by
    rw [← storn_list old text k ho ht hk]
    unfold sub
    rw [List.drop_zero, List.take_of_length_le]
    rw [List.length_append, List.length_take, List.length_drop, lo, lt]
    omega
  rw [e3] at hcv
  have hal := arrAll w.heap.size
  have hto := arrTo k hk w.heap.size
  clear e3 lo lt hR1 hR2 hB1 ho ht
  go_enter Try.func83, Try.ntmps83
  go_wp2_with fail
  go_ret
  exact ⟨rfl, hB2⟩
end Go.Proofs.Ytmjbhmmcpjhmcaa
