/-
  A row of matchers among the arguments, opened.
-/
import Derived.Test.YtopjiokbmpghjaaLabN
import Derived.Test.YtopjiokbmpghjaaOpenLab
import Derived.WalkKit
import Derived.ProofKit
import Derived.OpenShut
import Derived.ShutString
import Derived.ChangeOld
import Derived.Below
import Derived.Carry
import Derived.SliceStrings
import Derived.Lib.SmallJoins
import Derived.Deep.Slices
namespace Go.Proofs.Ytopjiokbmpghjaa
open Go.ChangeShapes Go.WideShapes Go.ChangeAt Go.RowKit Go.Deep
set_option linter.unusedVariables false

theorem cellsMat : Try.prog.cellsOf 45 = 3 := by kernel_rfl
theorem list3 {α : Type} (l : List α) (h : l.length = 3) : ∃ a b c, l = [a, b, c] := by
  match l, h with
  | [a, b, c], _ => exact ⟨a, b, c, rfl⟩
theorem mat_cells {H : Type} {enc : TypeId × Value → H} {W : World} {m : Nat} {cs : List Value} {y : DataW H × List MemPlace} (hl : cs.length = 3) (h1 : DataW.trod enc Try.prog W 0 (fun _ => true) true m 45 cs = some y) :
    ∃ q a b, cs = [.int .i64 q, .string a, .string b] := by
  obtain ⟨c0, c1, c2, rfl⟩ := list3 cs hl
  obtain ⟨xs, n, _, hx, _, hlen, hg⟩ := DataW.trod_struct Try.underlying45 h1
  match xs, hlen with
  | [y0, y1, y2], _ =>
    have h0 : DataW.trod enc Try.prog W 0 (fun _ => true) true n 3 [c0] = some y0 := by simpa [cellsStr, cellsInt] using hg 0 _ rfl
    have h1 : DataW.trod enc Try.prog W 0 (fun _ => true) true n 9 [c1] = some y1 := by simpa [cellsStr, cellsInt] using hg 1 _ rfl
    have h2 : DataW.trod enc Try.prog W 0 (fun _ => true) true n 9 [c2] = some y2 := by simpa [cellsStr, cellsInt] using hg 2 _ rfl
    obtain ⟨q, e0, _⟩ := DataW.trod_int Try.underlying3 h0
    obtain ⟨a, e1, _⟩ := DataW.trod_string Try.underlying9 h1
    obtain ⟨b, e2, _⟩ := DataW.trod_string Try.underlying9 h2
    simp at e0 e1 e2
    subst e0 e1 e2
    exact ⟨q, a, b, rfl⟩
/-- a row of matchers -/
theorem open_mats_c {H : Type} {enc : TypeId × Value → H} {W : World} {m : Nat} {c : Value} {y : DataW H × List MemPlace} (h1 : DataW.trod enc Try.prog W 0 (fun _ => true) true m 25 [c] = some y) :
    ∃ oa n cap fs, c = .slice oa n cap ∧ Ms W oa n cap fs ∧ cap ≤ maxLen := by
  rcases open_slice Try.underlying25 h1 with ⟨hcs, _⟩ | ⟨a, len, cap, m', k, D, Pl, hcs, _, hl, hm, hmm, _, hi⟩
  · simp at hcs
    subst hcs
    exact ⟨none, 0, 0, [], rfl, Ms.nil W 0 none, by unfold maxLen; omega⟩
  · simp at hcs
    subst hcs
    simp only [if_true] at hmm
    subst hmm
    have key : ∀ i, ∃ q : M3, i < m' → W.cell? (a.add (i * 3)) = some (.int .i64 q.1) ∧ W.cell? ((a.add (i * 3)).add 1) = some (.string q.2.1) ∧ W.cell? ((a.add (i * 3)).add 2) = some (.string q.2.2) := by
      intro i
      by_cases hk : i < m'
      · obtain ⟨cs', hc, ht⟩ := hi i hk
        rw [cellsMat] at hc
        obtain ⟨_, hcl, hat⟩ := World.cells?_some hc
        obtain ⟨u, x, z, rfl⟩ := mat_cells hcl ht
        refine ⟨(u, x, z), fun _ => ⟨?_, ?_, ?_⟩⟩
        · have := hat 0 (by omega)
          rw [show (a.add (i * 3)).add 0 = a.add (i * 3) from by unfold Addr.add; split <;> simp_all] at this
          simpa using this
        · simpa using hat 1 (by omega)
        · simpa using hat 2 (by omega)
      · exact ⟨zM, fun h => absurd h hk⟩
    obtain ⟨F, hF⟩ := Classical.axiomOfChoice key
    obtain ⟨b, off, spot⟩ := a
    refine ⟨_, len, m', (List.range len).map F, rfl, ⟨by simp, hl, fun i hi' => ?_⟩, hm⟩
    have hspot : spot = none := by
      have := World.cell?_spot (hF 0 (by omega)).1
      unfold Addr.add at this
      split at this <;> simp_all
    subst hspot
    have e : ((List.range len).map F).getD i zM = F i := by
      rw [List.getD_eq_getElem?_getD, List.getElem?_map, List.getElem?_range hi']
      rfl
    rw [e]
    obtain ⟨h2, h3, h4⟩ := hF i (by omega)
    rw [add_at] at h2
    rw [add_at] at h3
    rw [add_at] at h3
    rw [add_at] at h4
    rw [add_at] at h4
    exact ⟨b, off, rfl, h2, h3, h4⟩
set_option maxRecDepth 100000 in
theorem open_mats {H : Type} {enc : TypeId × Value → H} {W : World} {base : Nat} {v : Value} {d : DataW H} {p : List MemPlace} (hv : Value.okWide Try.prog W .any base 25 v) (h : DataW.Trod enc Try.prog W 0 (fun _ => true) true 25 v d p) :
    ∃ oa n cap fs, v = .slice oa n cap ∧ (Ms W oa n cap fs ∧ cap ≤ maxLen) := by
  obtain ⟨fuel, hf⟩ := h
  have hc : v.cells.toList = [v] := by
    cases v with
    | agg cs => simp [Value.okWide, Cell.okWide, Cell.ok, Try.underlying25] at hv
    | _ => rfl
  rw [hc] at hf
  exact open_mats_c hf
end Go.Proofs.Ytopjiokbmpghjaa
