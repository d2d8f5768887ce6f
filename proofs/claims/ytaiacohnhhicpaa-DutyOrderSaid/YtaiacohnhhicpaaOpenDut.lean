/-
  A duty that comes in among the arguments.
-/
import Derived.Test.YtaiacohnhhicpaaOpenLab
import Derived.Test.YtaiacohnhhicpaaDutA
namespace Go.Proofs.Ytaiacohnhhicpaa
open Go.ChangeShapes Go.WideShapes Go.ChangeAt Go.RowKit
set_option linter.unusedVariables false

theorem cellsDuty : Try.prog.cellsOf 24 = 6 := by kernel_rfl
theorem cellsLabs : Try.prog.cellsOf 22 = 1 := by kernel_rfl
theorem list6 {α : Type} (l : List α) (h : l.length = 6) : ∃ a b c d e f, l = [a, b, c, d, e, f] := by
  match l, h with
  | [a, b, c, d, e, f], _ => exact ⟨a, b, c, d, e, f, rfl⟩
set_option maxRecDepth 100000 in
theorem open_duty {H : Type} {enc : TypeId × Value → H} {W : World} {base : Nat} {v : Value} {d : DataW H} {p : List MemPlace} (hv : Value.okWide Try.prog W .any base 24 v) (h : DataW.Trod enc Try.prog W 0 (fun _ => true) true 24 v d p) :
    ∃ (x : D6) (oa : Option Addr) (n c : Nat), v = aggD oa n c x ∧ Ls W oa n c x.ls := by
  obtain ⟨cs, rfl, hsz⟩ := okWide_struct Try.underlying24 hv
  rw [cellsDuty] at hsz
  obtain ⟨l⟩ := cs
  obtain ⟨c0, c1, c2, c3, c4, c5, rfl⟩ := list6 l (by simpa using hsz)
  obtain ⟨fuel, hf⟩ := h
  obtain ⟨xs, n, _, hx, _, hlen, hg⟩ := DataW.trod_struct Try.underlying24 hf
  match xs, hlen with
  | [y0, y1, y2, y3, y4, y5], _ =>
    have h0 : DataW.trod enc Try.prog W 0 (fun _ => true) true n 22 [c0] = some y0 := by simpa [Value.cells, cellsInt, cellsLabs] using hg 0 _ rfl
    have h1 : DataW.trod enc Try.prog W 0 (fun _ => true) true n 3 [c1] = some y1 := by simpa [Value.cells, cellsInt, cellsLabs] using hg 1 _ rfl
    have h2 : DataW.trod enc Try.prog W 0 (fun _ => true) true n 3 [c2] = some y2 := by simpa [Value.cells, cellsInt, cellsLabs] using hg 2 _ rfl
    have h3 : DataW.trod enc Try.prog W 0 (fun _ => true) true n 3 [c3] = some y3 := by simpa [Value.cells, cellsInt, cellsLabs] using hg 3 _ rfl
    have h4 : DataW.trod enc Try.prog W 0 (fun _ => true) true n 3 [c4] = some y4 := by simpa [Value.cells, cellsInt, cellsLabs] using hg 4 _ rfl
    have h5 : DataW.trod enc Try.prog W 0 (fun _ => true) true n 3 [c5] = some y5 := by simpa [Value.cells, cellsInt, cellsLabs] using hg 5 _ rfl
    obtain ⟨oa, m, k, fs, rfl, hL, _⟩ := open_labs_c h0
    obtain ⟨x1, e1, _⟩ := DataW.trod_int Try.underlying3 h1
    obtain ⟨x2, e2, _⟩ := DataW.trod_int Try.underlying3 h2
    obtain ⟨x3, e3, _⟩ := DataW.trod_int Try.underlying3 h3
    obtain ⟨x4, e4, _⟩ := DataW.trod_int Try.underlying3 h4
    obtain ⟨x5, e5, _⟩ := DataW.trod_int Try.underlying3 h5
    simp at e1 e2 e3 e4 e5
    subst e1 e2 e3 e4 e5
    exact ⟨⟨fs, x1, x2, x3, x4, x5⟩, oa, m, k, rfl, hL⟩
end Go.Proofs.Ytaiacohnhhicpaa
