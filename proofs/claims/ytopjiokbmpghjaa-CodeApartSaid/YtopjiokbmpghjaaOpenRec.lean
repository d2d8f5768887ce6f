/-
  A record that comes in among the arguments.
-/
import Derived.Test.YtopjiokbmpghjaaOpenLab
import Derived.Test.YtopjiokbmpghjaaOpenMat
import Derived.Test.YtopjiokbmpghjaaRcdN
namespace Go.Proofs.Ytopjiokbmpghjaa
open Go.ChangeShapes Go.WideShapes Go.ChangeAt Go.RowKit Go.Deep
set_option linter.unusedVariables false

theorem cellsLabs : Try.prog.cellsOf 22 = 1 := by kernel_rfl
theorem cellsMats : Try.prog.cellsOf 25 = 1 := by kernel_rfl
theorem cellsHush : Try.prog.cellsOf 27 = 3 := by kernel_rfl
theorem cellsDuty : Try.prog.cellsOf 24 = 6 := by kernel_rfl
theorem cellsRec : Try.prog.cellsOf 29 = 11 := by kernel_rfl
theorem list6 {α : Type} (l : List α) (h : l.length = 6) : ∃ a b c d e f, l = [a, b, c, d, e, f] := by
  match l, h with
  | [a, b, c, d, e, f], _ => exact ⟨a, b, c, d, e, f, rfl⟩
theorem list11 {α : Type} (l : List α) (h : l.length = 11) : ∃ a b c d e f g i j k m, l = [a, b, c, d, e, f, g, i, j, k, m] := by
  match l, h with
  | [a, b, c, d, e, f, g, i, j, k, m], _ => exact ⟨a, b, c, d, e, f, g, i, j, k, m, rfl⟩
theorem hush_cells {H : Type} {enc : TypeId × Value → H} {W : World} {m : Nat} {cs : List Value} {y : DataW H × List MemPlace} (hl : cs.length = 3) (h1 : DataW.trod enc Try.prog W 0 (fun _ => true) true m 27 cs = some y) :
    ∃ f t ob nb cb ms, cs = [.int .i64 f, .int .i64 t, .slice ob nb cb] ∧ Ms W ob nb cb ms ∧ cb ≤ maxLen := by
  obtain ⟨c0, c1, c2, rfl⟩ := list3 cs hl
  obtain ⟨xs, n, _, hx, _, hlen, hg⟩ := DataW.trod_struct Try.underlying27 h1
  match xs, hlen with
  | [y0, y1, y2], _ =>
    have h0 : DataW.trod enc Try.prog W 0 (fun _ => true) true n 3 [c0] = some y0 := by simpa [cellsInt] using hg 0 _ rfl
    have h1 : DataW.trod enc Try.prog W 0 (fun _ => true) true n 3 [c1] = some y1 := by simpa [cellsInt] using hg 1 _ rfl
    have h2 : DataW.trod enc Try.prog W 0 (fun _ => true) true n 25 [c2] = some y2 := by simpa [cellsInt, cellsMats] using hg 2 _ rfl
    obtain ⟨f, e0, _⟩ := DataW.trod_int Try.underlying3 h0
    obtain ⟨t, e1, _⟩ := DataW.trod_int Try.underlying3 h1
    obtain ⟨ob, nb, cb, ms, rfl, hM, hc⟩ := open_mats_c h2
    simp at e0 e1
    subst e0 e1
    exact ⟨f, t, ob, nb, cb, ms, rfl, hM, hc⟩
theorem duty_cells {H : Type} {enc : TypeId × Value → H} {W : World} {m : Nat} {cs : List Value} {y : DataW H × List MemPlace} (hl : cs.length = 6) (hd : DataW.trod enc Try.prog W 0 (fun _ => true) true m 24 cs = some y) :
    ∃ (x : D6) (oa : Option Addr) (n c : Nat), cs = [.slice oa n c, .int .i64 x.rt, .int .i64 x.pl, .int .i64 x.tr, .int .i64 x.du, .int .i64 x.st] ∧ Ls W oa n c x.ls ∧ c ≤ maxLen := by
  obtain ⟨c0, c1, c2, c3, c4, c5, rfl⟩ := list6 cs hl
  obtain ⟨xs, n, _, hx, _, hlen, hg⟩ := DataW.trod_struct Try.underlying24 hd
  match xs, hlen with
  | [y0, y1, y2, y3, y4, y5], _ =>
    have h0 : DataW.trod enc Try.prog W 0 (fun _ => true) true n 22 [c0] = some y0 := by simpa [cellsInt, cellsLabs] using hg 0 _ rfl
    have h1 : DataW.trod enc Try.prog W 0 (fun _ => true) true n 3 [c1] = some y1 := by simpa [cellsInt, cellsLabs] using hg 1 _ rfl
    have h2 : DataW.trod enc Try.prog W 0 (fun _ => true) true n 3 [c2] = some y2 := by simpa [cellsInt, cellsLabs] using hg 2 _ rfl
    have h3 : DataW.trod enc Try.prog W 0 (fun _ => true) true n 3 [c3] = some y3 := by simpa [cellsInt, cellsLabs] using hg 3 _ rfl
    have h4 : DataW.trod enc Try.prog W 0 (fun _ => true) true n 3 [c4] = some y4 := by simpa [cellsInt, cellsLabs] using hg 4 _ rfl
    have h5 : DataW.trod enc Try.prog W 0 (fun _ => true) true n 3 [c5] = some y5 := by simpa [cellsInt, cellsLabs] using hg 5 _ rfl
    obtain ⟨oa, m, k, fs, rfl, hL, hc, _⟩ := open_labs_c h0
    obtain ⟨x1, e1, _⟩ := DataW.trod_int Try.underlying3 h1
    obtain ⟨x2, e2, _⟩ := DataW.trod_int Try.underlying3 h2
    obtain ⟨x3, e3, _⟩ := DataW.trod_int Try.underlying3 h3
    obtain ⟨x4, e4, _⟩ := DataW.trod_int Try.underlying3 h4
    obtain ⟨x5, e5, _⟩ := DataW.trod_int Try.underlying3 h5
    simp at e1 e2 e3 e4 e5
    subst e1 e2 e3 e4 e5
    exact ⟨⟨fs, x1, x2, x3, x4, x5⟩, oa, m, k, rfl, hL, hc⟩
set_option maxRecDepth 100000 in
theorem open_rec {H : Type} {enc : TypeId × Value → H} {W : World} {base : Nat} {v : Value} {d : DataW H} {p : List MemPlace} (hv : Value.okWide Try.prog W .any base 29 v) (h : DataW.Trod enc Try.prog W 0 (fun _ => true) true 29 v d p) :
    ∃ (r : Rc) (o1 : Option Addr) (n1 c1 : Nat) (o2 : Option Addr) (n2 c2 : Nat) (o3 : Option Addr) (n3 c3 : Nat), v = aggRc o1 n1 c1 o2 n2 c2 o3 n3 c3 r ∧ RIn W o1 n1 c1 o2 n2 c2 o3 n3 c3 r := by
  obtain ⟨cs, rfl, hsz⟩ := okWide_struct Try.underlying29 hv
  rw [cellsRec] at hsz
  obtain ⟨l⟩ := cs
  obtain ⟨c0, c1, c2, c3, c4, c5, c6, c7, c8, c9, c10, rfl⟩ := list11 l (by simpa using hsz)
  obtain ⟨fuel, hf⟩ := h
  obtain ⟨xs, n, _, hx, _, hlen, hg⟩ := DataW.trod_struct Try.underlying29 hf
  match xs, hlen with
  | [y0, y1, y2, y3], _ =>
    have h0 : DataW.trod enc Try.prog W 0 (fun _ => true) true n 3 [c0] = some y0 := by simpa [Value.cells, cellsInt] using hg 0 _ rfl
    have h1 : DataW.trod enc Try.prog W 0 (fun _ => true) true n 24 [c1, c2, c3, c4, c5, c6] = some y1 := by simpa [Value.cells, cellsInt, cellsDuty] using hg 1 _ rfl
    have h2 : DataW.trod enc Try.prog W 0 (fun _ => true) true n 22 [c7] = some y2 := by simpa [Value.cells, cellsInt, cellsDuty, cellsLabs] using hg 2 _ rfl
    have h3 : DataW.trod enc Try.prog W 0 (fun _ => true) true n 27 [c8, c9, c10] = some y3 := by simpa [Value.cells, cellsInt, cellsDuty, cellsLabs, cellsHush] using hg 3 _ rfl
    obtain ⟨k, e0, _⟩ := DataW.trod_int Try.underlying3 h0
    obtain ⟨x, o1, n1, k1, e1, hL1, hc1⟩ := duty_cells rfl h1
    obtain ⟨o2, n2, k2, ls, rfl, hL2, hc2, _⟩ := open_labs_c h2
    obtain ⟨f, t, o3, n3, k3, ms, e3, hM, hc3⟩ := hush_cells rfl h3
    simp at e0 e1 e3
    obtain ⟨rfl, rfl, rfl, rfl, rfl, rfl⟩ := e1
    obtain ⟨rfl, rfl, rfl⟩ := e3
    subst e0
    have r1 := hL1.room
    have r2 := hL2.room
    have r3 := hM.room
    unfold maxLen at hc1 hc2 hc3
    exact ⟨⟨k, x, ls, f, t, ms⟩, o1, n1, k1, o2, n2, k2, o3, n3, k3, rfl, ⟨hL1, hL2, hM, by omega, by omega, by omega⟩⟩
end Go.Proofs.Ytopjiokbmpghjaa
