/-
  Rows behind pointers as results; messages as cells; what stores leave alone.
-/
import Derived.Test.YtaiacohnhhicpaaVals
import Derived.Test.YtaiacohnhhicpaaMApp
import Derived.Laws.ResultCell
namespace Go.Proofs.Ytaiacohnhhicpaa
open Go.RowKit Go.Shelf
set_option linter.unusedVariables false

theorem keepR {w w' : World} {a : Addr} {v : Value} (hB : Below w.heap.size w w') (h : w.cell? a = some v) : w'.cell? a = some v := (hB.cell (World.block_lt_of_cell? _ _ h)).trans h
theorem setR {w : World} {A C i j : Nat} {v u : Value} (hne : A ≠ C) (h : w.cell? ⟨C, i, none⟩ = some v) : (w.setCell ⟨A, j, none⟩ u).cell? ⟨C, i, none⟩ = some v := by
  have e := Below.heap_setCell w ⟨A, j, none⟩ u C (Ne.symm hne)
  unfold World.cell? at h ⊢
  rw [e]
  exact h
theorem retM {fn : Func} {p u : Tmp} (h : fn.results = #[.cell p 84, .tmp u]) {tmps : Array Value} {w : World} {A : Nat} {q : Int} {s t : ByteArray} {x : Value} (hp : tmps.getD p undef = .pointer (some ⟨A, 0, none⟩)) (hu : tmps.getD u undef = x)
    (hV : Vals w A 84 #[.int .i64 q, .string s, .string t]) : (results fn tmps).run Try.prog w = .ok (.tuple #[aggM (q, s, t), x]) w := by
  rw [results_cell_tmp h, hp, hu]
  simp [Result.andThen, asAddr, run_loadVar_row w A _ 84 _ _ _ hV Try.underlying84 rfl (by kernel_rfl)]
/-- five stores -/
theorem Vals.five {w : World} {A : Nat} {T : TypeId} {x0 x1 x2 x3 x4 : Value} (h : Vals w A T #[x0, x1, x2, x3, x4]) (y0 y1 y2 y3 y4 : Value) :
    Vals (((((w.setCell ⟨A, 0, none⟩ y0).setCell ⟨A, 1, none⟩ y1).setCell ⟨A, 2, none⟩ y2).setCell ⟨A, 3, none⟩ y3).setCell ⟨A, 4, none⟩ y4) A T #[y0, y1, y2, y3, y4] := by
  have := ((((h.set 0 y0).set 1 y1).set 2 y2).set 3 y3).set 4 y4
  simpa using this
theorem below_five {B : Nat} {a w : World} (h : Below B a w) {A : Nat} (hA : B ≤ A) (y0 y1 y2 y3 y4 : Value) :
    Below B a (((((w.setCell ⟨A, 0, none⟩ y0).setCell ⟨A, 1, none⟩ y1).setCell ⟨A, 2, none⟩ y2).setCell ⟨A, 3, none⟩ y3).setCell ⟨A, 4, none⟩ y4) :=
  ((((h.setCell (p := ⟨A, 0, none⟩) hA _).setCell (p := ⟨A, 1, none⟩) hA _).setCell (p := ⟨A, 2, none⟩) hA _).setCell (p := ⟨A, 3, none⟩) hA _).setCell (p := ⟨A, 4, none⟩) hA _
theorem own_keep {w w' : World} {base : Nat} {e : TypeId} {size : Nat} {v : Value} {n : Nat} {xs : List Value} (h : w.ownsRow base e size v n xs) (hB : Below w.heap.size w w') : w'.ownsRow base e size v n xs := by
  refine ⟨h.1, ?_⟩
  rcases h.2 with h2 | ⟨g, cap, cur, h3, h4, h5, h6⟩
  · exact .inl h2
  · exact .inr ⟨g, cap, cur, h3, h4, (hB.block g (Array.getElem?_eq_some_iff.1 h5).1).trans h5, h6⟩
theorem Ms.five {w : World} {oa : Option Addr} {n cap : Nat} {l : List M3} (h : Ms w oa n cap l) {A : Nat} (hne : ∀ g o, oa = some ⟨g, o, none⟩ → 0 < n → g ≠ A) (y0 y1 y2 y3 y4 : Value) :
    Ms (((((w.setCell ⟨A, 0, none⟩ y0).setCell ⟨A, 1, none⟩ y1).setCell ⟨A, 2, none⟩ y2).setCell ⟨A, 3, none⟩ y3).setCell ⟨A, 4, none⟩ y4) oa n cap l := by
  refine ⟨h.len, h.room, fun i hi => ?_⟩
  obtain ⟨g, o, e, h1, h2, h3⟩ := h.cell i hi
  have hn : A ≠ g := Ne.symm (hne g o e (by omega))
  exact ⟨g, o, e, setR hn (setR hn (setR hn (setR hn (setR hn h1)))), setR hn (setR hn (setR hn (setR hn (setR hn h2)))), setR hn (setR hn (setR hn (setR hn (setR hn h3))))⟩
theorem own_cells {w : World} {base : Nat} {e : TypeId} {size : Nat} {v : Value} {n : Nat} {xs ys : List Value} (h : w.ownsRow base e size v n xs) (e1 : xs = ys) : w.ownsRow base e size v n ys := e1 ▸ h
theorem own_set {w : World} {base : Nat} {e : TypeId} {size : Nat} {v : Value} {n : Nat} {xs : List Value} (h : w.ownsRow base e size v n xs) {A i : Nat} (u : Value) (hA : A < base) : (w.setCell ⟨A, i, none⟩ u).ownsRow base e size v n xs := by
  refine ⟨h.1, ?_⟩
  rcases h.2 with h2 | ⟨g, cap, cur, h3, h4, h5, h6⟩
  · exact .inl h2
  · exact .inr ⟨g, cap, cur, h3, h4, (Below.heap_setCell w ⟨A, i, none⟩ u g (by show g ≠ A; omega)).trans h5, h6⟩
/-- the row behind a pointer, alone -/
theorem retM1 {fn : Func} {p : Tmp} (h : fn.results = #[.cell p 84]) {tmps : Array Value} {w : World} {A : Nat} {q : Int} {s t : ByteArray} (hp : tmps.getD p undef = .pointer (some ⟨A, 0, none⟩))
    (hV : Vals w A 84 #[.int .i64 q, .string s, .string t]) : (results fn tmps).run Try.prog w = .ok (aggM (q, s, t)) w := by
  exact results_cell_row h tmps w A 84 #[.int .i64 q, .string s, .string t] _ _ hp hV Try.underlying84 rfl (by kernel_rfl)
end Go.Proofs.Ytaiacohnhhicpaa
