/-
  Two rows in one array: the block that holds them, and what other stores keep.
-/
import Derived.Test.YteomenkojhppfaaDueV
import Derived.Test.YteomenkojhppfaaDueO
import Derived.Test.YteomenkojhppfaaDueP
import Derived.Test.YteomenkojhppfaaOrdN
import Derived.Test.YteomenkojhppfaaDtellsA
namespace Go.Proofs.Yteomenkojhppfaa
open Go.RowKit
set_option linter.unusedVariables false

/-- two values at a block -/
structure Two (w : World) (O : Nat) (u v : Value) : Prop where
  c0 : w.cell? ⟨O, 0, none⟩ = some u
  c1 : w.cell? ⟨O, 1, none⟩ = some v
  f0 : w.frozen? ⟨O, 0, none⟩ = false
  f1 : w.frozen? ⟨O, 1, none⟩ = false
theorem two_lt {w : World} {O : Nat} {u v : Value} (h : Two w O u v) : O < w.heap.size := World.block_lt_of_cell? w _ h.c0
theorem two_below {w w' : World} {O C : Nat} {u v : Value} (h : Two w O u v) (hB : Below C w w') (hC : w.heap.size ≤ C := by exact Nat.le_refl _) : Two w' O u v := by
  have hO := two_lt h
  have hx : O < C := by omega
  exact ⟨(hB.cell (p := ⟨O, 0, none⟩) hx).trans h.c0, (hB.cell (p := ⟨O, 1, none⟩) hx).trans h.c1, (hB.frozen (p := ⟨O, 0, none⟩) hx).trans h.f0, (hB.frozen (p := ⟨O, 1, none⟩) hx).trans h.f1⟩
theorem two_cells {w : World} {O : Nat} {u v : Value} (h : Two w O u v) : w.cell? ⟨O, 0, none⟩ = some u ∧ w.cell? ⟨O, 1, none⟩ = some v ∧ w.frozen? ⟨O, 0, none⟩ = false ∧ w.frozen? ⟨O, 1, none⟩ = false := ⟨h.c0, h.c1, h.f0, h.f1⟩
theorem two_kept {w w' : World} {O : Nat} {u v : Value} {row : Option Nat} (h : Two w O u v) (hg : w.grownBy w' row) (hne : some O ≠ row) : Two w' O u v := by
  have hb : w'.heap[O]? = w.heap[O]? := hg.block O (two_lt h) hne
  exact ⟨(World.cell?_of_block (w := w) (a := ⟨O, 0, none⟩) hb).trans h.c0, (World.cell?_of_block (w := w) (a := ⟨O, 1, none⟩) hb).trans h.c1, (World.frozen?_of_block (w := w) (a := ⟨O, 0, none⟩) hb).trans h.f0, (World.frozen?_of_block (w := w) (a := ⟨O, 1, none⟩) hb).trans h.f1⟩
theorem two_new' (w : World) (u v : Value) : Two (w.alloc (.cells #[u, v] 40)) w.heap.size u v := by
  refine ⟨?_, ?_, ?_, ?_⟩ <;> simp
theorem two_set0 {w : World} {O : Nat} {u v : Value} (h : Two w O u v) (x : Value) : Two (w.setCell ⟨O, 0, none⟩ x) O x v := by
  refine ⟨World.cell?_setCell_same' _ _ _ (by rw [h.c0]; rfl), ?_, ?_, ?_⟩
  · rw [World.cell?_setCell_other _ _ _ _ (by simp)]; exact h.c1
  · rw [World.frozen?_setCell]; exact h.f0
  · rw [World.frozen?_setCell]; exact h.f1
theorem two_set1 {w : World} {O : Nat} {u v : Value} (h : Two w O u v) (x : Value) : Two (w.setCell ⟨O, 1, none⟩ x) O u x := by
  refine ⟨?_, World.cell?_setCell_same' _ _ _ (by rw [h.c1]; rfl), ?_, ?_⟩
  · rw [World.cell?_setCell_other _ _ _ _ (by simp)]; exact h.c0
  · rw [World.frozen?_setCell]; exact h.f0
  · rw [World.frozen?_setCell]; exact h.f1
theorem kc_below {w a b : World} {c : Nat} (h : w.grownBy a (some c)) (k : Below a.heap.size a b) : w.grownBy b (some c) :=
  kc_trans h (row := none) ⟨k.os, k.tape, k.output, k.size, fun i hi _ => k.block i hi⟩ (fun r e => by cases e)
theorem kc_set (w : World) (c o : Nat) (x : Value) : w.grownBy (w.setCell ⟨c, o, none⟩ x) (some c) := by
  refine ⟨rfl, rfl, rfl, by simp, fun k hk hne => ?_⟩
  exact heap_setCell_other _ _ _ _ (fun e => hne (by rw [e]))
theorem Ds.kept2 {w w' : World} {oa : Option Addr} {n cap : Nat} {l : List D2} {row : Option Nat} (h : Ds w oa n cap l) (hg : w.grownBy w' row) (hne : ∀ ad, oa = some ad → ad.block < w.heap.size → row ≠ some ad.block) : Ds w' oa n cap l := by
  refine ⟨h.len, h.room, fun i hi => ?_⟩
  obtain ⟨g, o, e, h1, h2⟩ := h.cell i hi
  have hlt := World.block_lt_of_cell? w _ h1
  have hb : w'.heap[g]? = w.heap[g]? := hg.block g hlt (fun e' => hne _ e hlt e'.symm)
  exact ⟨g, o, e, (World.cell?_of_block (w := w) hb).trans h1, (World.cell?_of_block (w := w) hb).trans h2⟩
theorem InO.drop {l : List D2} (h : InO l) {i : Nat} : InO (l.drop i) := List.Pairwise.sublist (List.drop_sublist i l) h
/-- what the two rows are behind so many rounds -/
def Outs (w : World) (O m : Nat) (Z : List D2) : Nat → Prop
  | 0 => Two w O (.slice none 0 0) (.slice none 0 0)
  | 1 => ∃ o0 c0, Two w O (.slice o0 m c0) (.slice none 0 0) ∧ Ds w o0 m c0 Z ∧ ∀ ad, o0 = some ad → O < ad.block
  | _ + 2 => ∃ o0 c0 o1 c1, Two w O (.slice o0 m c0) (.slice o1 m c1) ∧ Ds w o0 m c0 Z ∧ Ds w o1 m c1 Z
end Go.Proofs.Yteomenkojhppfaa
