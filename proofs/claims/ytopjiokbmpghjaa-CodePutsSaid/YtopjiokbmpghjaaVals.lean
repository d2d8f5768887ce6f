/-
  A block of cells, not frozen, known cell by cell: how it is kept, and what a store makes of it.
-/
import Derived.Test.YtopjiokbmpghjaaLabB
import Derived.Laws.Rows
namespace Go.Proofs.Ytopjiokbmpghjaa
open Go.RowKit
set_option linter.unusedVariables false

theorem below_alloc (w : World) (o : Obj) : Below w.heap.size w (w.alloc o) := (Below.refl _ w).alloc (Nat.le_refl _) o
/-- these cells lie in block A -/
def Vals (w : World) (A : Nat) (T : TypeId) (xs : Array Value) : Prop := w.heap[A]? = some (.cells xs T (0, 0))
theorem Vals.lt {w : World} {A : Nat} {T : TypeId} {xs : Array Value} (h : Vals w A T xs) : A < w.heap.size := (Array.getElem?_eq_some_iff.1 h).1
theorem Vals.cell {w : World} {A : Nat} {T : TypeId} {xs : Array Value} (h : Vals w A T xs) (i : Nat) : w.cell? ⟨A, i, none⟩ = xs[i]? := cell_of_row w A i _ _ _ h
theorem Vals.free {w : World} {A : Nat} {T : TypeId} {xs : Array Value} (h : Vals w A T xs) (i : Nat) : w.frozen? ⟨A, i, none⟩ = false := frozen_of_row w _ _ _ _ h
theorem Vals.new (w : World) (T : TypeId) (xs : Array Value) : Vals (w.alloc (.cells xs T)) w.heap.size T xs := heap_alloc_new w _
theorem Vals.keep {w w' : World} {A C : Nat} {T : TypeId} {xs : Array Value} (h : Vals w A T xs) (hB : Below C w w') (hC : w.heap.size ≤ C) : Vals w' A T xs := (hB.block A (Nat.lt_of_lt_of_le h.lt hC)).trans h
theorem Vals.alloc {w : World} {A : Nat} {T : TypeId} {xs : Array Value} (h : Vals w A T xs) (o : Obj) : Vals (w.alloc o) A T xs := h.keep (below_alloc w o) (Nat.le_refl _)
theorem Vals.set {w : World} {A : Nat} {T : TypeId} {xs : Array Value} (h : Vals w A T xs) (i : Nat) (v : Value) : Vals (w.setCell ⟨A, i, none⟩ v) A T (xs.set! i v) := by
  unfold Vals
  rw [heap_setCell_same _ _ _ _ _ _ h]
  simp
theorem Vals.other {w : World} {A : Nat} {T : TypeId} {xs : Array Value} (h : Vals w A T xs) {B : Nat} (hne : A ≠ B) (i : Nat) (v : Value) : Vals (w.setCell ⟨B, i, none⟩ v) A T xs := (Below.heap_setCell w ⟨B, i, none⟩ v A hne).trans h
end Go.Proofs.Ytopjiokbmpghjaa
