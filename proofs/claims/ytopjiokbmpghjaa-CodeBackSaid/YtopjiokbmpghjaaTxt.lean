/-
  Bytes as a text.
-/
import Derived.Test.YtopjiokbmpghjaaRows
import Derived.WalkKit
namespace Go.Proofs.Ytopjiokbmpghjaa
open Go.RowKit

/-- bytes as a text -/
def tx (l : List UInt8) : ByteArray := ⟨l.toArray⟩
theorem tx_append (a b : List UInt8) : tx a ++ tx b = tx (a ++ b) := by
  unfold tx
  apply ByteArray.ext
  rw [ByteArray.data_append]
  simp
theorem tx_size (l : List UInt8) : (tx l).size = l.length := by unfold tx ByteArray.size; simp
theorem tx_data (l : List UInt8) : (tx l).data.toList = l := by unfold tx; simp
theorem tx_inj {a b : List UInt8} (h : tx a = tx b) : a = b := by rw [← tx_data a, h, tx_data]
theorem tx_of (s : ByteArray) : tx s.data.toList = s := by unfold tx; simp
theorem tx_cut (l : List UInt8) (i j : Nat) : (tx l).extract i j = tx ((l.take j).drop i) := by
  unfold tx
  apply ByteArray.ext
  rw [ByteArray.data_extract]
  simp [List.drop_take]
theorem tx_at (l : List UInt8) (i : Nat) (h : i < (tx l).size) : (tx l)[i]'h = l.getD i 0 := by
  have hl : i < l.length := by rw [← tx_size]; exact h
  show (tx l).data[i] = _
  simp [tx, List.getD_eq_getElem?_getD, hl]
end Go.Proofs.Ytopjiokbmpghjaa
