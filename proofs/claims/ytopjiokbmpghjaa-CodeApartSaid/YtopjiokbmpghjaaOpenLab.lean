/-
  A row of labels, and a row of matchers among the arguments, opened.
-/
import Derived.Test.YtopjiokbmpghjaaLabM
import Derived.WalkKit
import Derived.ProofKit
import Derived.OpenShut
import Derived.ShutString
import Derived.ChangeOld
import Derived.Below
import Derived.Carry
import Derived.SliceStrings
import Derived.Lib.SmallJoins
import Derived.Deep.Slices
namespace Go.Proofs.Ytopjiokbmpghjaa
open Go.ChangeShapes Go.WideShapes Go.ChangeAt Go.RowKit Go.Deep
set_option linter.unusedVariables false

theorem own : ownKnob Try.prog.godebug = none := by kernel_rfl
theorem laidOut : laidOutB Try.prog = true := by kernel_rfl
theorem cellsInt : Try.prog.cellsOf 3 = 1 := by kernel_rfl
theorem cellsStr : Try.prog.cellsOf 9 = 1 := by kernel_rfl
theorem add_at (b o j : Nat) : (⟨b, o, none⟩ : Addr).add j = ⟨b, o + j, none⟩ := by unfold Addr.add; split <;> simp_all
theorem cellsLab : Try.prog.cellsOf 57 = 2 := by kernel_rfl
theorem list2 {α : Type} (l : List α) (h : l.length = 2) : ∃ a b, l = [a, b] := by
  match l, h with
  | [a, b], _ => exact ⟨a, b, rfl⟩
theorem lab_cells {H : Type} {enc : TypeId × Value → H} {W : World} {m : Nat} {cs : List Value} {y : DataW H × List MemPlace} (hl : cs.length = 2) (h1 : DataW.trod enc Try.prog W 0 (fun _ => true) true m 57 cs = some y) :
    ∃ a b, cs = [.string a, .string b] ∧ a.size ≤ maxLen ∧ b.size ≤ maxLen := by
  obtain ⟨c0, c1, rfl⟩ := list2 cs hl
  obtain ⟨xs, n, _, hx, _, hlen, hg⟩ := DataW.trod_struct Try.underlying57 h1
  match xs, hlen with
  | [y0, y1], _ =>
    have h0 : DataW.trod enc Try.prog W 0 (fun _ => true) true n 9 [c0] = some y0 := by simpa [cellsStr] using hg 0 _ rfl
    have h1 : DataW.trod enc Try.prog W 0 (fun _ => true) true n 9 [c1] = some y1 := by simpa [cellsStr] using hg 1 _ rfl
    obtain ⟨a, e1, _, z1⟩ := DataW.trod_string Try.underlying9 h0
    obtain ⟨b, e2, _, z2⟩ := DataW.trod_string Try.underlying9 h1
    simp at e1 e2
    subst e1 e2
    exact ⟨a, b, rfl, z1, z2⟩
/-- a row of labels -/
theorem open_labs_c {H : Type} {enc : TypeId × Value → H} {W : World} {m : Nat} {c : Value} {y : DataW H × List MemPlace} (h1 : DataW.trod enc Try.prog W 0 (fun _ => true) true m 22 [c] = some y) :
    ∃ oa n cap fs, c = .slice oa n cap ∧ Ls W oa n cap fs ∧ cap ≤ maxLen ∧ ∀ k, k < fs.length → (fs.getD k zL).1.size ≤ maxLen ∧ (fs.getD k zL).2.size ≤ maxLen := by
  rcases open_slice Try.underlying22 h1 with ⟨hcs, _⟩ | ⟨a, len, cap, m', k, D, Pl, hcs, _, hl, hm, hmm, _, hi⟩
  · simp at hcs
    subst hcs
    exact ⟨none, 0, 0, [], rfl, Ls.nil W 0 none, by unfold maxLen; omega, fun k hk => absurd hk (by simp)⟩
  · simp at hcs
    subst hcs
    simp only [if_true] at hmm
    subst hmm
    have key : ∀ i, ∃ q : L2, i < m' → W.cell? (a.add (i * 2)) = some (.string q.1) ∧ W.cell? ((a.add (i * 2)).add 1) = some (.string q.2) ∧ q.1.size ≤ maxLen ∧ q.2.size ≤ maxLen := by
      intro i
      by_cases hk : i < m'
      · obtain ⟨cs', hc, ht⟩ := hi i hk
        rw [cellsLab] at hc
        obtain ⟨_, hcl, hat⟩ := World.cells?_some hc
        obtain ⟨x, z, rfl, z1, z2⟩ := lab_cells hcl ht
        refine ⟨(x, z), fun _ => ⟨?_, ?_, z1, z2⟩⟩
        · have := hat 0 (by omega)
          rw [show (a.add (i * 2)).add 0 = a.add (i * 2) from by unfold Addr.add; split <;> simp_all] at this
          simpa using this
        · simpa using hat 1 (by omega)
      · exact ⟨zL, fun h => absurd h hk⟩
    obtain ⟨F, hF⟩ := Classical.axiomOfChoice key
    obtain ⟨b, off, spot⟩ := a
    have eF : ∀ i, i < len → ((List.range len).map F).getD i zL = F i := by
      intro i hi'
      rw [List.getD_eq_getElem?_getD, List.getElem?_map, List.getElem?_range hi']
      rfl
    have hsz : ∀ k, k < ((List.range len).map F).length → (((List.range len).map F).getD k zL).1.size ≤ maxLen ∧ (((List.range len).map F).getD k zL).2.size ≤ maxLen := by
      intro i hi'
      have hi2 : i < len := by simpa using hi'
      rw [eF i hi2]
      exact (hF i (by omega)).2.2
    refine ⟨_, len, m', (List.range len).map F, rfl, ⟨by simp, hl, fun i hi' => ?_⟩, hm, hsz⟩
    have hspot : spot = none := by
      have := World.cell?_spot (hF 0 (by omega)).1
      unfold Addr.add at this
      split at this <;> simp_all
    subst hspot
    rw [eF i hi']
    obtain ⟨h2, h3, _, _⟩ := hF i (by omega)
    rw [add_at] at h2
    rw [add_at] at h3
    rw [add_at] at h3
    exact ⟨b, off, rfl, h2, h3⟩
set_option maxRecDepth 100000 in
theorem open_labs_s {H : Type} {enc : TypeId × Value → H} {W : World} {base : Nat} {v : Value} {d : DataW H} {p : List MemPlace} (hv : Value.okWide Try.prog W .any base 22 v) (h : DataW.Trod enc Try.prog W 0 (fun _ => true) true 22 v d p) :
    ∃ oa n cap fs, v = .slice oa n cap ∧ Ls W oa n cap fs ∧ cap ≤ maxLen ∧ ∀ k, k < fs.length → (fs.getD k zL).1.size ≤ maxLen ∧ (fs.getD k zL).2.size ≤ maxLen := by
  obtain ⟨fuel, hf⟩ := h
  have hc : v.cells.toList = [v] := by
    cases v with
    | agg cs => simp [Value.okWide, Cell.okWide, Cell.ok, Try.underlying22] at hv
    | _ => rfl
  rw [hc] at hf
  exact open_labs_c hf
set_option maxRecDepth 100000 in
theorem open_labs {H : Type} {enc : TypeId × Value → H} {W : World} {base : Nat} {v : Value} {d : DataW H} {p : List MemPlace} (hv : Value.okWide Try.prog W .any base 22 v) (h : DataW.Trod enc Try.prog W 0 (fun _ => true) true 22 v d p) :
    ∃ oa n cap fs, v = .slice oa n cap ∧ (Ls W oa n cap fs ∧ cap ≤ maxLen) := by
  obtain ⟨oa, n, cap, fs, e, h1, h2, _⟩ := open_labs_s hv h
  exact ⟨oa, n, cap, fs, e, h1, h2⟩
end Go.Proofs.Ytopjiokbmpghjaa
