/-
  A sector as an array of 128 bytes in memory: what a store, a copy and a conversion do to it; the sector's fields, cut out of it.
-/
import Derived.Test.YtmjbhmmcpjhmcaaTexts
import Derived.Lib.LazyBuf
import Derived.Laws.CopyOwn
import Derived.Laws.CopyRow
import Derived.Laws.ResultCell
import Derived.Deep.OwnRows
import Derived.StillTailTactics
import Derived.BigRegion
namespace Go.Proofs.Ytmjbhmmcpjhmcaa
open Go.RowKit
set_option linter.unusedVariables false

/-- bytes as cells -/
def cellsS (l : List UInt8) : List Value := l.map fun x => Value.int .u8 (x.toNat : Int)
theorem cells_length (l : List UInt8) : (cellsS l).length = l.length := by unfold cellsS; rw [List.length_map]
theorem cells_append (l m : List UInt8) : cellsS (l ++ m) = cellsS l ++ cellsS m := by unfold cellsS; rw [List.map_append]
theorem cells_take (l : List UInt8) (k : Nat) : (cellsS l).take k = cellsS (l.take k) := by unfold cellsS; rw [List.map_take]
theorem cells_drop (l : List UInt8) (k : Nat) : (cellsS l).drop k = cellsS (l.drop k) := by unfold cellsS; rw [List.map_drop]
theorem cells_set (l : List UInt8) (k : Nat) (b : UInt8) : (cellsS l).set k (.int .u8 (b.toNat : Int)) = cellsS (l.set k b) := by unfold cellsS; rw [List.map_set]
theorem cells_at (l : List UInt8) (i : Nat) (hi : i < l.length) : (cellsS l)[i]? = some (.int .u8 ((l.getD i 0).toNat : Int)) := by
  unfold cellsS
  simp [List.getD_eq_getElem?_getD, hi]
theorem cells_one (l : List UInt8) : ∀ v ∈ cellsS l, v.oneCell' = true := by
  intro v hv
  obtain ⟨x, _, rfl⟩ := List.mem_map.1 hv
  rfl
/-- the array's bytes -/
def BRow (w : World) (A : Nat) (l : List UInt8) : Prop := w.heap[A]? = some (.cells (cellsS l).toArray 86 (0, 0))
theorem BRow.cell {w : World} {A : Nat} {l : List UInt8} (h : BRow w A l) (i : Nat) (hi : i < l.length) : w.cell? ⟨A, i, none⟩ = some (.int .u8 ((l.getD i 0).toNat : Int)) := by
  rw [cell_of_row w A i _ _ _ h]
  simpa using cells_at l i hi
theorem BRow.free {w : World} {A : Nat} {l : List UInt8} (h : BRow w A l) (i : Nat) : w.frozen? ⟨A, i, none⟩ = false := frozen_of_row w _ _ _ _ h
theorem BRow.set {w : World} {A : Nat} {l : List UInt8} (h : BRow w A l) (i : Nat) {x : Int} (b : UInt8) (hx : x = (b.toNat : Int)) : BRow (w.setCell ⟨A, i, none⟩ (.int .u8 x)) A (l.set i b) := by
  subst hx
  unfold BRow
  rw [heap_setCell_same _ _ _ _ _ _ h, ← cells_set]
  simp
theorem BRow.below {w w' : World} {A : Nat} {l : List UInt8} (h : BRow w A l) (hB : Below w.heap.size w w') : BRow w' A l := keepB hB h
theorem BRow.other {w : World} {A : Nat} {l : List UInt8} (h : BRow w A l) {p : Addr} (hne : p.block ≠ A) (v : Value) : BRow (w.setCell p v) A l :=
  (Below.heap_setCell _ _ _ _ (Ne.symm hne)).trans h
def zeroRow : Array Value := Array.replicate 128 (.int .u8 0)
theorem rep_eq (n : Nat) : Array.replicate n (Value.int .u8 0) = (cellsS (List.replicate n 0)).toArray := by
  unfold cellsS
  rw [List.map_replicate]
  simp
theorem zeroRow_eq : zeroRow = (cellsS (List.replicate 128 0)).toArray := rep_eq 128
theorem zeroArr (w : World) : (zeroValue 86).run Try.prog w = .ok (.agg zeroRow) w := by kernel_rfl
theorem infoByte : (Try.prog.info? 5).map (·.size) = some 1 := by kernel_rfl
theorem row_new (w : World) : BRow (w.alloc (.cells zeroRow 86)) w.heap.size (List.replicate 128 0) := by
  unfold BRow
  rw [← zeroRow_eq]
  exact heap_alloc_new w _

/-- the bytes behind a copy of those at a place -/
def putAt (l : List UInt8) (o : Nat) (s : List UInt8) : List UInt8 := l.take o ++ s ++ l.drop (o + s.length)
theorem put_length (l : List UInt8) (o : Nat) (s : List UInt8) (h : o + s.length ≤ l.length) : (putAt l o s).length = l.length := by
  unfold putAt
  rw [List.length_append, List.length_append, List.length_take, List.length_drop]
  omega
theorem putRow (l : List UInt8) (o : Nat) (s : List UInt8) : ((cellsS l).toArray.toList.take o ++ cellsS s ++ (cellsS l).toArray.toList.drop (o + (cellsS s).length)).toArray = (cellsS (putAt l o s)).toArray := by
  unfold putAt
  rw [cells_append, cells_append, cells_length, ← cells_take, ← cells_drop]
theorem run_copy_text (w : World) (ty : TypeId) (A o dLen dCap : Nat) (s : ByteArray) (l : List UInt8) (hg : BRow w A l) (hle : s.size ≤ dLen) (hfit : o + s.size ≤ l.length) :
    (Builtin.copy_ #[87, 9] ty #[.slice (some ⟨A, o, none⟩) dLen dCap, .string s]).run Try.prog w =
      .ok (goInt s.size) (w.setRow A (cellsS (putAt l o s.data.toList)).toArray) := by
  have hl : (cellsS s.data.toList).length = s.size := by rw [cells_length, Array.length_toList]; rfl
  have hst := run_storeCells_at Try.prog A o 86 (cellsS s.data.toList) 0 (cellsS l).toArray w hg (by rw [hl]; simpa [cells_length] using hfit) (cells_one _)
  rw [Nat.add_zero, putRow] at hst
  have hmin : Nat.min s.size dLen = s.size := Nat.min_eq_left hle
  have htk : List.take s.size (List.map (fun b : UInt8 => Value.int IntKind.u8 (b.toNat : Int)) s.data.toList) = cellsS s.data.toList := by
    unfold cellsS
    rw [List.take_of_length_le]
    rw [List.length_map, Array.length_toList]
    exact Nat.le_refl _
  have hi := infoByte
  cases hq : Try.prog.info? 5 with
  | none => simp [hq] at hi
  | some i =>
    simp [Builtin.copy_, run_underlying Try.underlying87, Builtin.lenOf, Builtin.firstCells, sizeOf, typeInfo, hq, hmin]
    rw [htk, hst]
    simp [Result.andThen]
theorem run_copy_self (w : World) (ty : TypeId) (A o q n dCap sCap : Nat) (l : List UInt8) (hg : BRow w A l) (hq : q + n ≤ l.length) (hfit : o + n ≤ l.length) :
    (Builtin.copy_ #[87, 87] ty #[.slice (some ⟨A, o, none⟩) n dCap, .slice (some ⟨A, q, none⟩) n sCap]).run Try.prog w =
      .ok (goInt n) (w.setRow A (cellsS (putAt l o ((l.drop q).take n))).toArray) := by
  have hl : ((l.drop q).take n).length = n := by rw [List.length_take, List.length_drop]; omega
  have h := run_copy_row (P := Try.prog) w 87 87 ty 5 A o n dCap ⟨A, q, none⟩ n sCap (cellsS l).toArray 86 (cellsS ((l.drop q).take n)) Try.underlying87 infoByte hg
    (by rw [cells_length, hl]; exact (Nat.min_self n).symm)
    (fun j v hj => by
      have hjl := (List.getElem?_eq_some_iff.1 hj).1
      rw [cells_length, hl] at hjl
      rw [cells_at _ j (by omega)] at hj
      cases hj
      rw [show (⟨A, q, none⟩ : Addr).add j = ⟨A, q + j, none⟩ by unfold Addr.add; split <;> simp_all, hg.cell (q + j) (by omega)]
      simp [List.getD_eq_getElem?_getD, hjl, List.getElem?_drop])
    (by rw [cells_length, hl]; simpa [cells_length] using hfit) (cells_one _)
  rw [putRow, cells_length, hl] at h
  exact h
theorem run_copy_short (w : World) (ty : TypeId) (A dLen dCap : Nat) (s : ByteArray) (l : List UInt8) (hg : BRow w A l) (hle : dLen ≤ s.size) (hfit : dLen ≤ l.length) :
    (Builtin.copy_ #[87, 9] ty #[.slice (some ⟨A, 0, none⟩) dLen dCap, .string s]).run Try.prog w =
      .ok (goInt dLen) (w.setRow A (cellsS (putAt l 0 (s.data.toList.take dLen))).toArray) := by
  have hl : (cellsS (s.data.toList.take dLen)).length = dLen := by rw [cells_length, List.length_take, Array.length_toList]; exact Nat.min_eq_left hle
  have hst := run_storeCells_at Try.prog A 0 86 (cellsS (s.data.toList.take dLen)) 0 (cellsS l).toArray w hg (by rw [hl]; simpa [cells_length] using hfit) (cells_one _)
  rw [Nat.add_zero, putRow] at hst
  have hmin : Nat.min s.size dLen = dLen := Nat.min_eq_right hle
  have htk : List.take dLen (List.map (fun b : UInt8 => Value.int IntKind.u8 (b.toNat : Int)) s.data.toList) = cellsS (s.data.toList.take dLen) := by
    unfold cellsS
    rw [List.map_take]
  have hi := infoByte
  cases hq : Try.prog.info? 5 with
  | none => simp [hq] at hi
  | some i =>
    simp [Builtin.copy_, run_underlying Try.underlying87, Builtin.lenOf, Builtin.firstCells, sizeOf, typeInfo, hq, hmin]
    rw [htk, hst]
    simp [Result.andThen]
theorem BRow.setRow {w : World} {A : Nat} {l : List UInt8} (h : BRow w A l) (m : List UInt8) : BRow (w.setRow A (cellsS m).toArray) A m := setRow_heap _ _ _ _ _ _ h
theorem bytes_back (l : List UInt8) : strOfNums (l.map fun x => ((x.toNat : Nat) : Int)) = ⟨l.toArray⟩ := by
  unfold strOfNums
  congr 1
  rw [List.map_map]
  congr 1
  conv => rhs; rw [← List.map_id l]
  apply List.map_congr_left
  intro x _
  simp
/-- some of the array's bytes as a text -/
def sub (l : List UInt8) (q n : Nat) : ByteArray := ⟨((l.drop q).take n).toArray⟩
theorem sub_size (l : List UInt8) (q n : Nat) (h : q + n ≤ l.length) : (sub l q n).size = n := by
  unfold sub ByteArray.size
  simp
  omega
theorem run_string (w : World) (A q n cap : Nat) (l : List UInt8) (hg : BRow w A l) (hq : q + n ≤ l.length) :
    (convert 87 9 (.slice (some ⟨A, q, none⟩) n cap)).run Try.prog w = .ok (.string (sub l q n)) w := by
  have hl : ((l.drop q).take n).length = n := by rw [List.length_take, List.length_drop]; omega
  have h := run_convert_bytes_arg (P := Try.prog) w 87 5 Try.underlying87 Try.underlying5 A q n cap (((l.drop q).take n).map fun x => ((x.toNat : Nat) : Int)) (by rw [List.length_map]; exact hl) (fun i hi => by
    rw [hg.cell (q + i) (by omega)]
    simp [List.getD_eq_getElem?_getD, hi, List.getElem?_drop]
    rw [List.getElem?_eq_getElem (by omega)]
    simp) 9 Try.underlying9
  rw [bytes_back] at h
  exact h
theorem arrLen : Try.prog.arrayLen 86 = 128 := by kernel_rfl
theorem arrSize (w : World) : (sizeOf (Try.prog.elem 86)).run Try.prog w = .ok 1 w := by kernel_rfl
theorem arrTo (k : Nat) (hk : k ≤ 128) (A : Nat) (w : World) : (Instr.sliceAt 86 (.pointer (some ⟨A, 0, none⟩)) none (some (.int .i64 (k : Int))) none).run Try.prog w = .ok (.slice (some ⟨A, 0, none⟩) k 128) w := by
  rw [run_sliceAt_array_h (P := Try.prog) (w := w) (ht := by kernel_rfl) (h0 := by omega) (h2 := by rw [arrLen]; omega), arrLen, arrSize]
  simp [slicedAt]
  rfl
theorem arrAll (A : Nat) (w : World) : (Instr.sliceAt 86 (.pointer (some ⟨A, 0, none⟩)) none none none).run Try.prog w = .ok (.slice (some ⟨A, 0, none⟩) 128 128) w := by
  rw [run_sliceAt_array_all (P := Try.prog) (w := w) (ht := by kernel_rfl), arrLen, arrSize]
  simp [slicedAt]
  rfl
theorem put_mid (X Y Z S : List UInt8) (o : Nat) (hX : X.length = o) (hY : Y.length = S.length) : putAt (X ++ Y ++ Z) o S = X ++ S ++ Z := by
  unfold putAt
  subst hX
  have e1 : (X ++ Y ++ Z).take X.length = X := by rw [List.append_assoc, List.take_left]
  have e2 : (X ++ Y ++ Z).drop (X.length + S.length) = Z := by rw [← hY, show X.length + Y.length = (X ++ Y).length by rw [List.length_append], List.drop_left]
  rw [e1, e2]
end Go.Proofs.Ytmjbhmmcpjhmcaa
