/-
  A message, and a matcher, among the arguments, opened; what the row lists of the library's variables.
-/
import Derived.Test.YthncfcjkpcjkiaaGreatDoorOpenMat
import Derived.Test.YthncfcjkpcjkiaaGreatDoorWirX
import Derived.Test.YthncfcjkpcjkiaaGreatDoorWirK
import Derived.LaidMore
import Derived.Stop.LaidErr
import Derived.Stop.Joined
namespace Go.Proofs.YthncfcjkpcjkiaaGreatDoor
open Go.ChangeShapes Go.WideShapes Go.ChangeAt Go.RowKit Go.Deep
set_option linter.unusedVariables false

theorem cellsLabs : Tryz.prog.cellsOf 22 = 1 := by kernel_rfl
theorem cellsMats : Tryz.prog.cellsOf 23 = 1 := by kernel_rfl
theorem cellsHush : Tryz.prog.cellsOf 25 = 3 := by kernel_rfl
theorem cellsMsg : Tryz.prog.cellsOf 27 = 5 := by kernel_rfl
theorem list5 {α : Type} (l : List α) (h : l.length = 5) : ∃ a b c d e, l = [a, b, c, d, e] := by
  match l, h with
  | [a, b, c, d, e], _ => exact ⟨a, b, c, d, e, rfl⟩
theorem hush_cells {H : Type} {enc : TypeId × Value → H} {W : World} {m : Nat} {cs : List Value} {y : DataW H × List MemPlace} (hl : cs.length = 3) (h1 : DataW.trod enc Tryz.prog W 0 (fun _ => true) true m 25 cs = some y) :
    ∃ f t ob nb cb ms, cs = [.int .i64 f, .int .i64 t, .slice ob nb cb] ∧ Ms W ob nb cb ms ∧ cb ≤ maxLen := by
  obtain ⟨c0, c1, c2, rfl⟩ := list3 cs hl
  obtain ⟨xs, n, _, hx, _, hlen, hg⟩ := DataW.trod_struct Tryz.underlying25 h1
  match xs, hlen with
  | [y0, y1, y2], _ =>
    have h0 : DataW.trod enc Tryz.prog W 0 (fun _ => true) true n 3 [c0] = some y0 := by simpa [cellsInt] using hg 0 _ rfl
    have h1 : DataW.trod enc Tryz.prog W 0 (fun _ => true) true n 3 [c1] = some y1 := by simpa [cellsInt] using hg 1 _ rfl
    have h2 : DataW.trod enc Tryz.prog W 0 (fun _ => true) true n 23 [c2] = some y2 := by simpa [cellsInt, cellsMats] using hg 2 _ rfl
    obtain ⟨f, e0, _⟩ := DataW.trod_int Tryz.underlying3 h0
    obtain ⟨t, e1, _⟩ := DataW.trod_int Tryz.underlying3 h1
    obtain ⟨ob, nb, cb, ms, rfl, hM, hc⟩ := open_mats_c h2
    simp at e0 e1
    subst e0 e1
    exact ⟨f, t, ob, nb, cb, ms, rfl, hM, hc⟩
set_option maxRecDepth 100000 in
theorem open_msg {H : Type} {enc : TypeId × Value → H} {W : World} {base : Nat} {v : Value} {d : DataW H} {p : List MemPlace} (hv : Value.okWide Tryz.prog W .any base 27 v) (h : DataW.Trod enc Tryz.prog W 0 (fun _ => true) true 27 v d p) :
    ∃ q oa n cap ls f t ob nb cb ms, v = .agg (msgC q (.slice oa n cap) f t (.slice ob nb cb)) ∧ Ls W oa n cap ls ∧ cap ≤ maxLen ∧ Ms W ob nb cb ms ∧ cb ≤ maxLen := by
  obtain ⟨cs, rfl, hsz⟩ := okWide_struct Tryz.underlying27 hv
  rw [cellsMsg] at hsz
  obtain ⟨l⟩ := cs
  obtain ⟨c0, c1, c2, c3, c4, rfl⟩ := list5 l (by simpa using hsz)
  obtain ⟨fuel, hf⟩ := h
  obtain ⟨xs, n, _, hx, _, hlen, hg⟩ := DataW.trod_struct Tryz.underlying27 hf
  match xs, hlen with
  | [y0, y1, y2], _ =>
    have h0 : DataW.trod enc Tryz.prog W 0 (fun _ => true) true n 3 [c0] = some y0 := by simpa [Value.cells, cellsInt] using hg 0 _ rfl
    have h1 : DataW.trod enc Tryz.prog W 0 (fun _ => true) true n 22 [c1] = some y1 := by simpa [Value.cells, cellsInt, cellsLabs] using hg 1 _ rfl
    have h2 : DataW.trod enc Tryz.prog W 0 (fun _ => true) true n 25 [c2, c3, c4] = some y2 := by simpa [Value.cells, cellsInt, cellsLabs, cellsHush] using hg 2 _ rfl
    obtain ⟨q, e0, _⟩ := DataW.trod_int Tryz.underlying3 h0
    obtain ⟨oa, na, cap, ls, rfl, hL, hc, _⟩ := open_labs_c h1
    obtain ⟨f, t, ob, nb, cb, ms, e2, hM, hcb⟩ := hush_cells rfl h2
    simp at e0 e2
    obtain ⟨rfl, rfl, rfl⟩ := e2
    subst e0
    exact ⟨q, oa, na, cap, ls, f, t, ob, nb, cb, ms, rfl, hL, hc, hM, hcb⟩
set_option maxRecDepth 100000 in
theorem open_mat {H : Type} {enc : TypeId × Value → H} {W : World} {base : Nat} {v : Value} {d : DataW H} {p : List MemPlace} (hv : Value.okWide Tryz.prog W .any base 32 v) (h : DataW.Trod enc Tryz.prog W 0 (fun _ => true) true 32 v d p) :
    ∃ q a b, v = aggM (q, a, b) := by
  obtain ⟨cs, rfl, hsz⟩ := okWide_struct Tryz.underlying32 hv
  rw [cellsMat] at hsz
  obtain ⟨l⟩ := cs
  obtain ⟨fuel, hf⟩ := h
  obtain ⟨q, a, b, e⟩ := mat_cells (by simpa using hsz) (by simpa [Value.cells] using hf)
  subst e
  exact ⟨q, a, b, rfl⟩

theorem tSyn : (Tryz.prog.globals[3]?).map (·.type) = some 95 := by kernel_rfl
theorem tRng : (Tryz.prog.globals[4]?).map (·.type) = some 95 := by kernel_rfl
theorem tPow : (Tryz.prog.globals[5]?).map (·.type) = some 153 := by kernel_rfl
theorem uPow : Tryz.prog.underlying 153 = some (.array 20 126) := by kernel_rfl
theorem cPow : Tryz.prog.cellsOf 153 = 20 := by kernel_rfl
theorem cU64 : Tryz.prog.cellsOf 126 = 1 := by kernel_rfl
theorem ePow : (Rows.laid_internal_strconv_uint64pow10 : DataW Unit) = Lib.tabData .u64 Lib.pow10Tab := by kernel_rfl
theorem cellsErr : Tryz.prog.cellsOf 165 = 1 := by kernel_rfl
theorem star : "*" ++ "errors.errorString" = "*errors.errorString" := by decide
theorem rowErr (u : TypeId) (h : Tryz.prog.typeName? 3 u = some "*errors.errorString") : u = 163 :=
  typeName_ptr_named (nm := "errors.errorString") (by rw [star]; kernel_rfl) (by kernel_rfl) (by decide) u (by rw [star]; exact h)
/-- what the row lists, as the walk takes it -/
theorem tabs_of {W : World} {a b c : String × DataW Unit} {r : List (String × DataW Unit)}
    (h : laidMet Tryz.prog (a :: b :: ("internal/strconv.uint64pow10", Rows.laid_internal_strconv_uint64pow10) :: c :: ("strconv.ErrRange", Rows.laid_strconv_ErrRange) :: ("strconv.ErrSyntax", Rows.laid_strconv_ErrSyntax) :: r) W) : Tabs W := by
  have h2 := h.tail.tail
  have h3 := h2
  rw [ePow] at h3
  have hp : Lib.TabIs Tryz.prog W "internal/strconv.uint64pow10" .u64 Lib.pow10Tab := Lib.tabIs_of_head gPow tPow uPow Tryz.underlying126 cU64 cPow h3
  obtain ⟨a1, s1, hv1, -, -, -⟩ := laid_sentinel h2.tail.tail gRng tRng Tryz.underlying95 rowErr Tryz.underlying163 Tryz.underlying165 rfl rfl Tryz.underlying9 cellsErr cellsStr
  obtain ⟨a0, s0, hv0, -, -, -⟩ := laid_sentinel h2.tail.tail.tail gSyn tSyn Tryz.underlying95 rowErr Tryz.underlying163 Tryz.underlying165 rfl rfl Tryz.underlying9 cellsErr cellsStr
  exact ⟨⟨_, _, hv0⟩, ⟨_, _, hv1⟩, hp⟩
end Go.Proofs.YthncfcjkpcjkiaaGreatDoor
