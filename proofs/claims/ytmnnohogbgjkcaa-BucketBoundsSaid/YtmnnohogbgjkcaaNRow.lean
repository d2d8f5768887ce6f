/-
  A row of numbers of one's own that grows.
-/
import Derived.Test.YtmnnohogbgjkcaaVals
import Derived.OwnWalk
namespace Go.Proofs.Ytmnnohogbgjkcaa
open Go.RowKit
set_option linter.unusedVariables false

theorem grown_of_below {w w' : World} (h : Below w.heap.size w w') : w.grownBy w' none := ⟨h.os, h.tape, h.output, h.size, fun i hi _ => h.block i hi⟩
theorem infoInt : (Try.prog.info? 3).map (fun i => (i.zero, i.size, i.bytes)) = some (some (.int .i64 0), 1, 8) := by kernel_rfl
/-- numbers as cells -/
def nCells (l : List Int) : List Value := l.map (fun x => Value.int .i64 x)
theorem nCells_length (l : List Int) : (nCells l).length = l.length := by unfold nCells; rw [List.length_map]
theorem nCells_snoc (l : List Int) (x : Int) : nCells (l ++ [x]) = nCells l ++ [.int .i64 x] := by unfold nCells; rw [List.map_append]; rfl
theorem nCells_at (l : List Int) (i : Nat) (h : i < l.length) : (nCells l)[i]? = some (.int .i64 (l.getD i 0)) := by
  unfold nCells
  rw [List.getElem?_map, List.getD_eq_getElem?_getD, List.getElem?_eq_getElem h]
  rfl
theorem Ns.of_own {w : World} {base : Nat} {v : Value} {n : Nat} {xs : List Int} (hl : xs.length = n) (h : w.ownsRow base 3 1 v n (nCells xs)) :
    ∃ oa cap, v = .slice oa n cap ∧ Ns w oa n cap xs := by
  rcases h.2 with ⟨rfl, rfl⟩ | ⟨g, cap, cur, rfl, hb, hg, hnc, _, hcs, htk⟩
  · exact ⟨none, 0, rfl, ⟨hl, Nat.le_refl _, fun i hi => absurd hi (by omega)⟩⟩
  · refine ⟨_, cap, rfl, hl, hnc, fun i hi => ⟨g, 0, rfl, ?_⟩⟩
    have := nCells_at xs i (by omega)
    rw [← htk, List.getElem?_take, if_pos (by omega)] at this
    rw [Nat.zero_add, cell_of_row w g i cur _ _ hg]
    simpa using this
theorem oneN_new (w : World) (v : Value) (t : TypeId) : ∀ (j : Nat) (u : Value), [v][j]? = some u → (w.alloc (.cells #[v] t)).cell? ((⟨w.heap.size, 0, none⟩ : Addr).add j) = some u := by
  intro j u hj
  match j, hj with
  | 0, hj =>
    simp at hj
    subst hj
    exact World.cell?_alloc_at _ _ _ _ rfl
theorem oneN_cell (x : Int) : ∀ u ∈ [Value.int .i64 x], u.oneCell' = true := by
  intro u hu
  simp at hu
  subst hu
  rfl
/-- a round of a row that grows: what stands below it -/
theorem growN {B C : Nat} {w wr w1 : World} {v : Value} {k : Nat} {xs : List Value} {o : Obj} (hown : wr.ownsRow C 3 1 v k xs) (hB : Below B w wr) (hC : B ≤ C) (hS : C ≤ wr.heap.size) (hgrow : (wr.alloc o).grownBy w1 v.ownBlock) : Below B w w1 ∧ C ≤ w1.heap.size := by
  have hlt := hown.lt
  have hsz : (wr.alloc o).heap.size = wr.heap.size + 1 := by simp
  refine ⟨(hB.alloc (by omega) o).grown hgrow (by omega) (fun g hg => by have := hlt g hg; omega), ?_⟩
  have := hgrow.size
  omega
theorem Vals.growN {A C : Nat} {T : TypeId} {ys : Array Value} {wr w1 : World} {v : Value} {k : Nat} {xs : List Value} {o : Obj} (h : Vals wr A T ys) (hown : wr.ownsRow C 3 1 v k xs) (hA : A < C) (hgrow : (wr.alloc o).grownBy w1 v.ownBlock) : Vals w1 A T ys := by
  have hlt := hown.lt
  have hl := h.lt
  have hsz : (wr.alloc o).heap.size = wr.heap.size + 1 := by simp
  unfold Vals
  rw [hgrow.block A (by omega) (fun e => by have := hlt A e.symm; omega), Below.heap_alloc _ _ _ hl]
  exact h
theorem ownN_below {C : Nat} {wr w1 : World} {v : Value} {k : Nat} {xs : List Value} (hown : wr.ownsRow C 3 1 v k xs) (hB : Below wr.heap.size wr w1) : w1.ownsRow C 3 1 v k xs :=
  hown.kept (grown_of_below hB) (by cases v.ownBlock with | none => exact .inl rfl | some x => exact .inr (by simp))
end Go.Proofs.Ytmnnohogbgjkcaa
