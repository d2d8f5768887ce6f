/-
  Configs in boxes: what is answered out of them, and what stays where one row grows.
-/
import Derived.Test.YtaiacohnhhicpaaCfgP
import Derived.BigRegion
import Derived.Deep.QuietTactic
import Derived.BigQuiet
import Derived.RegionTactic
import Derived.StillTailTactics
namespace Go.Proofs.Ytaiacohnhhicpaa
open Go.RowKit Go.Shelf
set_option linter.unusedVariables false

/-- a config as cells -/
abbrev cfgV (a b : Value) (x y : Int) : Array Value := #[a, b, .int .i64 x, .int .i64 y]
theorem retC {fn : Func} {p u : Tmp} (h : fn.results = #[.cell p 33, .tmp u]) {tmps : Array Value} {w : World} {A : Nat} {a b z : Value} {x y : Int} (hp : tmps.getD p undef = .pointer (some ⟨A, 0, none⟩)) (hu : tmps.getD u undef = z)
    (hV : Vals w A 33 (cfgV a b x y)) : (results fn tmps).run Try.prog w = .ok (.tuple #[.agg (cfgV a b x y), z]) w := by
  rw [results_cell_tmp h, hp, hu]
  simp [Result.andThen, asAddr, run_loadVar_row w A _ 33 _ _ _ hV Try.underlying33 rfl (by kernel_rfl)]
theorem results_cell_tmps {fn : Func} {p u v : Tmp} {ty : TypeId} (h : fn.results = #[.cell p ty, .tmp u, .tmp v]) (tmps : Array Value) (P : Program) (w : World) :
    (results fn tmps).run P w =
      ((asAddr (tmps.getD p undef)).run P w).andThen fun a w₁ => ((loadVar ty a).run P w₁).andThen fun x w₂ => .ok (.tuple #[x, tmps.getD u undef, tmps.getD v undef]) w₂ := by
  simp only [results, h]
  simp [Sem.run_bind, Result.andThen]
theorem retC3 {fn : Func} {p u v : Tmp} (h : fn.results = #[.cell p 33, .tmp u, .tmp v]) {tmps : Array Value} {w : World} {A : Nat} {a b z z2 : Value} {x y : Int} (hp : tmps.getD p undef = .pointer (some ⟨A, 0, none⟩)) (hu : tmps.getD u undef = z) (hv : tmps.getD v undef = z2)
    (hV : Vals w A 33 (cfgV a b x y)) : (results fn tmps).run Try.prog w = .ok (.tuple #[.agg (cfgV a b x y), z, z2]) w := by
  rw [results_cell_tmps h, hp, hu, hv]
  simp [Result.andThen, asAddr, run_loadVar_row w A _ 33 _ _ _ hV Try.underlying33 rfl (by kernel_rfl)]
theorem Vals.four {w : World} {A : Nat} {T : TypeId} {x0 x1 x2 x3 : Value} (h : Vals w A T #[x0, x1, x2, x3]) (y0 y1 y2 y3 : Value) :
    Vals ((((w.setCell ⟨A, 0, none⟩ y0).setCell ⟨A, 1, none⟩ y1).setCell ⟨A, 2, none⟩ y2).setCell ⟨A, 3, none⟩ y3) A T #[y0, y1, y2, y3] := by
  have := (((h.set 0 y0).set 1 y1).set 2 y2).set 3 y3
  simpa using this
theorem below_four {B : Nat} {a w : World} (h : Below B a w) {A : Nat} (hA : B ≤ A) (y0 y1 y2 y3 : Value) :
    Below B a ((((w.setCell ⟨A, 0, none⟩ y0).setCell ⟨A, 1, none⟩ y1).setCell ⟨A, 2, none⟩ y2).setCell ⟨A, 3, none⟩ y3) :=
  (((h.setCell (p := ⟨A, 0, none⟩) hA _).setCell (p := ⟨A, 1, none⟩) hA _).setCell (p := ⟨A, 2, none⟩) hA _).setCell (p := ⟨A, 3, none⟩) hA _
theorem four_other (w : World) (A : Nat) (y0 y1 y2 y3 : Value) (g : Nat) (h : g ≠ A) : ((((w.setCell ⟨A, 0, none⟩ y0).setCell ⟨A, 1, none⟩ y1).setCell ⟨A, 2, none⟩ y2).setCell ⟨A, 3, none⟩ y3).heap[g]? = w.heap[g]? :=
  (Below.heap_setCell _ ⟨A, 3, none⟩ y3 g h).trans ((Below.heap_setCell _ ⟨A, 2, none⟩ y2 g h).trans ((Below.heap_setCell _ ⟨A, 1, none⟩ y1 g h).trans (Below.heap_setCell w ⟨A, 0, none⟩ y0 g h)))
/-- a row lies in another block than a box of another type -/
theorem own_setT {w : World} {base : Nat} {e T : TypeId} {size : Nat} {v : Value} {n : Nat} {xs : List Value} (h : w.ownsRow base e size v n xs) {A : Nat} {cs : Array Value} (hV : Vals w A T cs) (hne : e ≠ T) (i : Nat) (u : Value) : (w.setCell ⟨A, i, none⟩ u).ownsRow base e size v n xs := by
  refine ⟨h.1, ?_⟩
  rcases h.2 with h2 | ⟨g, cap, cur, h3, h4, h5, h6⟩
  · exact .inl h2
  · refine .inr ⟨g, cap, cur, h3, h4, (Below.heap_setCell w ⟨A, i, none⟩ u g ?_).trans h5, h6⟩
    intro e1
    have e2 : g = A := e1
    subst e2
    unfold Vals at hV
    rw [h5] at hV
    simp at hV
    exact hne hV.2
theorem own_four {w : World} {base : Nat} {e T : TypeId} {size : Nat} {v : Value} {n : Nat} {xs : List Value} (h : w.ownsRow base e size v n xs) {A : Nat} {x0 x1 x2 x3 : Value} (hV : Vals w A T #[x0, x1, x2, x3]) (hne : e ≠ T) (y0 y1 y2 y3 : Value) :
    ((((w.setCell ⟨A, 0, none⟩ y0).setCell ⟨A, 1, none⟩ y1).setCell ⟨A, 2, none⟩ y2).setCell ⟨A, 3, none⟩ y3).ownsRow base e size v n xs := by
  have V1 := hV.set 0 y0
  have V2 := V1.set 1 y1
  have V3 := V2.set 2 y2
  exact own_setT (own_setT (own_setT (own_setT h hV hne 0 y0) V1 hne 1 y1) V2 hne 2 y2) V3 hne 3 y3
/-- what stays where one row grows in between -/
theorem frame_end {w wx wy wz : World} {row : Option Nat} (Bx : Below w.heap.size w wx) (hg : wx.grownBy wy row) (Bz : Below w.heap.size wy wz) : w.grownBy wz row := by
  have s1 := Bx.size
  have s2 := hg.size
  have s3 := Bz.size
  refine ⟨Bz.os.trans (hg.os.trans Bx.os), Bz.tape.trans (hg.tape.trans Bx.tape), Bz.output.trans (hg.output.trans Bx.output), by omega, fun k hk hne => ?_⟩
  exact (Bz.block k hk).trans ((hg.block k (by omega) hne).trans (Bx.block k hk))
theorem Vals.grown {w w' : World} {A : Nat} {T e : TypeId} {cs : Array Value} (hV : Vals w A T cs) {base size n : Nat} {v : Value} {xs : List Value} (h : w.ownsRow base e size v n xs) (hne : e ≠ T) (hg : w.grownBy w' v.ownBlock) : Vals w' A T cs := by
  unfold Vals at hV ⊢
  refine (hg.block A (Array.getElem?_eq_some_iff.1 hV).1 ?_).trans hV
  rcases h.2 with ⟨rfl, _⟩ | ⟨g, cap, cur, rfl, hb, hh, _⟩
  · simp [Value.ownBlock]
  · intro e1
    have e2 : A = g := by simpa [Value.ownBlock] using e1
    subst e2
    rw [hV] at hh
    simp at hh
    exact hne hh.2.symm
theorem Below.of_alloc2 {w : World} (o1 o2 : Obj) : Below w.heap.size w ((w.alloc o1).alloc o2) := (below_alloc w o1).alloc (by simp) o2
end Go.Proofs.Ytaiacohnhhicpaa
