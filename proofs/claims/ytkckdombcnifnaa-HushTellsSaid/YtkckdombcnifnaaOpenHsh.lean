/-
  A hush, and a row of hushes, among the arguments, opened.
-/
import Derived.Test.YtkckdombcnifnaaLabN
import Derived.Test.YtkckdombcnifnaaOpenLab
import Derived.Test.YtkckdombcnifnaaLawI
import Derived.WalkKit
import Derived.ProofKit
import Derived.OpenShut
import Derived.ShutString
import Derived.ChangeOld
import Derived.Below
import Derived.Carry
import Derived.SliceStrings
import Derived.Lib.SmallJoins
import Derived.Deep.Slices
namespace Go.Proofs.Ytkckdombcnifnaa
open Go.ChangeShapes Go.WideShapes Go.ChangeAt Go.RowKit Go.Deep
set_option linter.unusedVariables false

theorem cellsMat : Try.prog.cellsOf 51 = 3 := by kernel_rfl
theorem list3 {α : Type} (l : List α) (h : l.length = 3) : ∃ a b c, l = [a, b, c] := by
  match l, h with
  | [a, b, c], _ => exact ⟨a, b, c, rfl⟩
theorem mat_cells {H : Type} {enc : TypeId × Value → H} {W : World} {m : Nat} {cs : List Value} {y : DataW H × List MemPlace} (hl : cs.length = 3) (h1 : DataW.trod enc Try.prog W 0 (fun _ => true) true m 51 cs = some y) :
    ∃ q a b, cs = [.int .i64 q, .string a, .string b] := by
  obtain ⟨c0, c1, c2, rfl⟩ := list3 cs hl
  obtain ⟨xs, n, _, hx, _, hlen, hg⟩ := DataW.trod_struct Try.underlying51 h1
  match xs, hlen with
  | [y0, y1, y2], _ =>
    have h0 : DataW.trod enc Try.prog W 0 (fun _ => true) true n 3 [c0] = some y0 := by simpa [cellsStr, cellsInt] using hg 0 _ rfl
    have h1 : DataW.trod enc Try.prog W 0 (fun _ => true) true n 9 [c1] = some y1 := by simpa [cellsStr, cellsInt] using hg 1 _ rfl
    have h2 : DataW.trod enc Try.prog W 0 (fun _ => true) true n 9 [c2] = some y2 := by simpa [cellsStr, cellsInt] using hg 2 _ rfl
    obtain ⟨q, e0, _⟩ := DataW.trod_int Try.underlying3 h0
    obtain ⟨a, e1, _⟩ := DataW.trod_string Try.underlying9 h1
    obtain ⟨b, e2, _⟩ := DataW.trod_string Try.underlying9 h2
    simp at e0 e1 e2
    subst e0 e1 e2
    exact ⟨q, a, b, rfl⟩
/-- a row of matchers -/
theorem open_mats_c {H : Type} {enc : TypeId × Value → H} {W : World} {m : Nat} {c : Value} {y : DataW H × List MemPlace} (h1 : DataW.trod enc Try.prog W 0 (fun _ => true) true m 23 [c] = some y) :
    ∃ oa n cap fs, c = .slice oa n cap ∧ Ms W oa n cap fs ∧ cap ≤ maxLen := by
  rcases open_slice Try.underlying23 h1 with ⟨hcs, _⟩ | ⟨a, len, cap, m', k, D, Pl, hcs, _, hl, hm, hmm, _, hi⟩
  · simp at hcs
    subst hcs
    exact ⟨none, 0, 0, [], rfl, Ms.nil W 0 none, by unfold maxLen; omega⟩
  · simp at hcs
    subst hcs
    simp only [if_true] at hmm
    subst hmm
    have key : ∀ i, ∃ q : M3, i < m' → W.cell? (a.add (i * 3)) = some (.int .i64 q.1) ∧ W.cell? ((a.add (i * 3)).add 1) = some (.string q.2.1) ∧ W.cell? ((a.add (i * 3)).add 2) = some (.string q.2.2) := by
      intro i
      by_cases hk : i < m'
      · obtain ⟨cs', hc, ht⟩ := hi i hk
        rw [cellsMat] at hc
        obtain ⟨_, hcl, hat⟩ := World.cells?_some hc
        obtain ⟨u, x, z, rfl⟩ := mat_cells hcl ht
        refine ⟨(u, x, z), fun _ => ⟨?_, ?_, ?_⟩⟩
        · have := hat 0 (by omega)
          rw [show (a.add (i * 3)).add 0 = a.add (i * 3) from by unfold Addr.add; split <;> simp_all] at this
          simpa using this
        · simpa using hat 1 (by omega)
        · simpa using hat 2 (by omega)
      · exact ⟨zM, fun h => absurd h hk⟩
    obtain ⟨F, hF⟩ := Classical.axiomOfChoice key
    obtain ⟨b, off, spot⟩ := a
    refine ⟨_, len, m', (List.range len).map F, rfl, ⟨by simp, hl, fun i hi' => ?_⟩, hm⟩
    have hspot : spot = none := by
      have := World.cell?_spot (hF 0 (by omega)).1
      unfold Addr.add at this
      split at this <;> simp_all
    subst hspot
    have e : ((List.range len).map F).getD i zM = F i := by
      rw [List.getD_eq_getElem?_getD, List.getElem?_map, List.getElem?_range hi']
      rfl
    rw [e]
    obtain ⟨h2, h3, h4⟩ := hF i (by omega)
    rw [add_at] at h2
    rw [add_at] at h3
    rw [add_at] at h3
    rw [add_at] at h4
    rw [add_at] at h4
    exact ⟨b, off, rfl, h2, h3, h4⟩
theorem cellsMats : Try.prog.cellsOf 23 = 1 := by kernel_rfl
theorem cellsHush : Try.prog.cellsOf 25 = 3 := by kernel_rfl
theorem hush_cells {H : Type} {enc : TypeId × Value → H} {W : World} {m : Nat} {cs : List Value} {y : DataW H × List MemPlace} (hl : cs.length = 3) (h1 : DataW.trod enc Try.prog W 0 (fun _ => true) true m 25 cs = some y) :
    ∃ x : H5, cs = [.int .i64 x.f, .int .i64 x.t, .slice x.pa x.n x.c] ∧ Ms W x.pa x.n x.c x.ms ∧ x.n ≤ 9223372036854775807 := by
  obtain ⟨c0, c1, c2, rfl⟩ := list3 cs hl
  obtain ⟨xs, n, _, hx, _, hlen, hg⟩ := DataW.trod_struct Try.underlying25 h1
  match xs, hlen with
  | [y0, y1, y2], _ =>
    have h0 : DataW.trod enc Try.prog W 0 (fun _ => true) true n 3 [c0] = some y0 := by simpa [cellsInt] using hg 0 _ rfl
    have h1 : DataW.trod enc Try.prog W 0 (fun _ => true) true n 3 [c1] = some y1 := by simpa [cellsInt] using hg 1 _ rfl
    have h2 : DataW.trod enc Try.prog W 0 (fun _ => true) true n 23 [c2] = some y2 := by simpa [cellsInt, cellsMats] using hg 2 _ rfl
    obtain ⟨f, e0, _⟩ := DataW.trod_int Try.underlying3 h0
    obtain ⟨t, e1, _⟩ := DataW.trod_int Try.underlying3 h1
    obtain ⟨ob, nb, cb, ms, rfl, hM, hc⟩ := open_mats_c h2
    simp at e0 e1
    subst e0 e1
    unfold maxLen at hc
    have hr := hM.room
    exact ⟨⟨f, t, ob, nb, cb, ms⟩, rfl, hM, show nb ≤ _ by omega⟩
set_option maxRecDepth 100000 in
theorem open_hush {H : Type} {enc : TypeId × Value → H} {W : World} {base : Nat} {v : Value} {d : DataW H} {p : List MemPlace} (hv : Value.okWide Try.prog W .any base 25 v) (h : DataW.Trod enc Try.prog W 0 (fun _ => true) true 25 v d p) :
    ∃ x : H5, v = aggH x ∧ Ms W x.pa x.n x.c x.ms ∧ x.n ≤ 9223372036854775807 := by
  obtain ⟨cs, rfl, hsz⟩ := okWide_struct Try.underlying25 hv
  rw [cellsHush] at hsz
  obtain ⟨l⟩ := cs
  obtain ⟨fuel, hf⟩ := h
  obtain ⟨x, e, h1, h2⟩ := hush_cells (by simpa using hsz) (by simpa [Value.cells] using hf)
  subst e
  exact ⟨x, rfl, h1, h2⟩
/-- a row of hushes -/
theorem open_hshs_c {H : Type} {enc : TypeId × Value → H} {W : World} {m : Nat} {c : Value} {y : DataW H × List MemPlace} (h1 : DataW.trod enc Try.prog W 0 (fun _ => true) true m 22 [c] = some y) :
    ∃ oa n cap fs, c = .slice oa n cap ∧ Hs W oa n cap fs ∧ LkB W fs ∧ cap ≤ maxLen := by
  rcases open_slice Try.underlying22 h1 with ⟨hcs, _⟩ | ⟨a, len, cap, m', k, D, Pl, hcs, _, hl, hm, hmm, _, hi⟩
  · simp at hcs
    subst hcs
    exact ⟨none, 0, 0, [], rfl, Hs.nil W 0 none, fun x hx => (by cases hx), by unfold maxLen; omega⟩
  · simp at hcs
    subst hcs
    simp only [if_true] at hmm
    subst hmm
    have key : ∀ i, ∃ x : H5, i < m' → W.cell? (a.add (i * 3)) = some (.int .i64 x.f) ∧ W.cell? ((a.add (i * 3)).add 1) = some (.int .i64 x.t) ∧ W.cell? ((a.add (i * 3)).add 2) = some (.slice x.pa x.n x.c) ∧ Ms W x.pa x.n x.c x.ms ∧ x.n ≤ 9223372036854775807 := by
      intro i
      by_cases hk : i < m'
      · obtain ⟨cs', hc, ht⟩ := hi i hk
        rw [cellsHush] at hc
        obtain ⟨_, hcl, hat⟩ := World.cells?_some hc
        obtain ⟨x, rfl, z1, z2⟩ := hush_cells hcl ht
        refine ⟨x, fun _ => ⟨?_, ?_, ?_, z1, z2⟩⟩
        · have := hat 0 (by omega)
          rw [show (a.add (i * 3)).add 0 = a.add (i * 3) from by unfold Addr.add; split <;> simp_all] at this
          simpa using this
        · simpa using hat 1 (by omega)
        · simpa using hat 2 (by omega)
      · exact ⟨zH, fun h => absurd h hk⟩
    obtain ⟨F, hF⟩ := Classical.axiomOfChoice key
    obtain ⟨b, off, spot⟩ := a
    have eF : ∀ i, i < len → ((List.range len).map F).getD i zH = F i := by
      intro i hi'
      rw [List.getD_eq_getElem?_getD, List.getElem?_map, List.getElem?_range hi']
      rfl
    refine ⟨_, len, m', (List.range len).map F, rfl, ⟨by simp, hl, fun i hi' => ?_⟩, fun x hx => ?_, hm⟩
    · have hspot : spot = none := by
        have := World.cell?_spot (hF 0 (by omega)).1
        unfold Addr.add at this
        split at this <;> simp_all
      subst hspot
      rw [eF i hi']
      obtain ⟨h2, h3, h4, _⟩ := hF i (by omega)
      rw [add_at] at h2
      rw [add_at] at h3
      rw [add_at] at h3
      rw [add_at] at h4
      rw [add_at] at h4
      exact ⟨b, off, rfl, h2, h3, h4⟩
    · obtain ⟨i, hi', rfl⟩ := List.mem_map.1 hx
      have hi2 : i < len := List.mem_range.1 hi'
      exact (hF i (by omega)).2.2.2
set_option maxRecDepth 100000 in
theorem open_hshs {H : Type} {enc : TypeId × Value → H} {W : World} {base : Nat} {v : Value} {d : DataW H} {p : List MemPlace} (hv : Value.okWide Try.prog W .any base 22 v) (h : DataW.Trod enc Try.prog W 0 (fun _ => true) true 22 v d p) :
    ∃ oa n cap fs, v = .slice oa n cap ∧ Hs W oa n cap fs ∧ LkB W fs ∧ cap ≤ maxLen := by
  obtain ⟨fuel, hf⟩ := h
  have hc : v.cells.toList = [v] := by
    cases v with
    | agg cs => simp [Value.okWide, Cell.okWide, Cell.ok, Try.underlying22] at hv
    | _ => rfl
  rw [hc] at hf
  exact open_hshs_c hf
end Go.Proofs.Ytkckdombcnifnaa
