/-
  A disk, a store, a fault, a row of faults, and a row of acts among the arguments, opened.
-/
import Derived.Test.YtmjbhmmcpjhmcaaRows
import Derived.Test.YtmjbhmmcpjhmcaaDiskOwn
import Derived.WalkKit
import Derived.ProofKit
import Derived.OpenShut
import Derived.ShutString
import Derived.ChangeOld
import Derived.Below
import Derived.Carry
import Derived.SliceStrings
import Derived.Lib.SmallJoins
import Derived.Test.YtmjbhmmcpjhmcaaLogO
import Derived.Deep.Slices
namespace Go.Proofs.Ytmjbhmmcpjhmcaa
open Go.ChangeShapes Go.WideShapes Go.ChangeAt Go.RowKit
set_option linter.unusedVariables false

theorem own : ownKnob Try.prog.godebug = none := by kernel_rfl
theorem laidOut : laidOutB Try.prog = true := by kernel_rfl
theorem cells9 : Try.prog.cellsOf 9 = 1 := by kernel_rfl
theorem cells24 : Try.prog.cellsOf 24 = 1 := by kernel_rfl
theorem cells22 : Try.prog.cellsOf 22 = 1 := by kernel_rfl
theorem cells26 : Try.prog.cellsOf 26 = 5 := by kernel_rfl
theorem cells3 : Try.prog.cellsOf 3 = 1 := by kernel_rfl
theorem cells4 : Try.prog.cellsOf 4 = 1 := by kernel_rfl
theorem list1 {α : Type} (l : List α) (h : (⟨l⟩ : Array α).size = 1) : ∃ a, l = [a] := by
  match l, h with
  | [a], _ => exact ⟨a, rfl⟩
theorem list5 {α : Type} (l : List α) (h : l.length = 5) : ∃ a b c d e, l = [a, b, c, d, e] := by
  match l, h with
  | [a, b, c, d, e], _ => exact ⟨a, b, c, d, e, rfl⟩
/-- a row of texts -/
theorem open_texts {H : Type} {enc : TypeId × Value → H} {W : World} {m : Nat} {c : Value} {y : DataW H × List MemPlace} (h1 : DataW.trod enc Try.prog W 0 (fun _ => true) true m 22 [c] = some y) :
    ∃ oa n cap ss, c = .slice oa n cap ∧ Arg W oa n cap ss := by
  rcases open_strings Try.underlying22 Try.underlying9 cells9 h1 with ⟨hcs, _⟩ | ⟨a, len, cap, ss, hcs, _, hl, hm, hz, _, hcell, hws⟩
  · simp at hcs
    subst hcs
    exact ⟨none, 0, 0, [], rfl, rfl, Nat.le_refl _, by unfold maxLen; omega, fun i hi => absurd hi (by omega), fun i hi => absurd hi (by omega)⟩
  · simp at hcs
    subst hcs
    simp only [if_true] at hz
    obtain ⟨b, off, spot⟩ := a
    have hget : ∀ i, i < len → (ss.take len).getD i ByteArray.empty = ss.getD i ByteArray.empty := by
      intro i hi
      rw [List.getD_eq_getElem?_getD, List.getD_eq_getElem?_getD, List.getElem?_take_of_lt hi]
    refine ⟨_, len, cap, ss.take len, rfl, by rw [List.length_take]; omega, hl, hm, fun i hi => ?_, fun i hi => ?_⟩
    · rw [hget i hi, List.getD_eq_getElem?_getD, List.getElem?_eq_getElem (by omega)]
      exact hws _ (List.getElem_mem _)
    · have hspot : spot = none := by simpa [Addr.add] using World.cell?_spot (hcell 0 (by omega))
      subst hspot
      refine ⟨b, off, rfl, ?_⟩
      rw [hget i hi, ← add_at]
      exact hcell i (by omega)
set_option maxRecDepth 100000 in
theorem open_slice_texts {H : Type} {enc : TypeId × Value → H} {W : World} {base : Nat} {v : Value} {d : DataW H} {p : List MemPlace} (hv : Value.okWide Try.prog W .any base 22 v) (h : DataW.Trod enc Try.prog W 0 (fun _ => true) true 22 v d p) :
    ∃ oa n cap ss, v = .slice oa n cap ∧ Arg W oa n cap ss := by
  obtain ⟨fuel, hf⟩ := h
  have hc : v.cells.toList = [v] := by
    cases v with
    | agg cs => simp [Value.okWide, Cell.okWide, Cell.ok, Try.underlying22] at hv
    | _ => rfl
  rw [hc] at hf
  exact open_texts hf
set_option maxRecDepth 100000 in
theorem open_disk {H : Type} {enc : TypeId × Value → H} {W : World} {base : Nat} {v : Value} {d : DataW H} {p : List MemPlace} (hv : Value.okWide Try.prog W .any base 24 v) (h : DataW.Trod enc Try.prog W 0 (fun _ => true) true 24 v d p) :
    ∃ oa n cap ss, v = .agg #[.slice oa n cap] ∧ Arg W oa n cap ss := by
  obtain ⟨cs, rfl, hsz⟩ := okWide_struct Try.underlying24 hv
  rw [cells24] at hsz
  obtain ⟨l⟩ := cs
  obtain ⟨c, rfl⟩ := list1 l hsz
  obtain ⟨fuel, hf⟩ := h
  obtain ⟨y0, n, hx, _, h0⟩ := trod_struct1 Try.underlying24 hf
  have h1 : DataW.trod enc Try.prog W 0 (fun _ => true) true n 22 [c] = some y0 := by simpa [Value.cells, cells22] using h0
  obtain ⟨oa, n, cap, ss, rfl, hA⟩ := open_texts h1
  exact ⟨oa, n, cap, ss, rfl, hA⟩
set_option maxRecDepth 100000 in
theorem open_store {H : Type} {enc : TypeId × Value → H} {W : World} {base : Nat} {v : Value} {d : DataW H} {p : List MemPlace} (hv : Value.okWide Try.prog W .any base 26 v) (h : DataW.Trod enc Try.prog W 0 (fun _ => true) true 26 v d p) :
    ∃ oa n cap ss g u t dn, v = .agg #[.slice oa n cap, .int .i64 g, .int .i64 u, .int .i64 t, .bool dn] ∧ Arg W oa n cap ss := by
  obtain ⟨cs, rfl, hsz⟩ := okWide_struct Try.underlying26 hv
  rw [cells26] at hsz
  obtain ⟨l⟩ := cs
  obtain ⟨c0, c1, c2, c3, c4, rfl⟩ := list5 l hsz
  obtain ⟨fuel, hf⟩ := h
  obtain ⟨xs, n, _, hx, _, hlen, hg⟩ := DataW.trod_struct Try.underlying26 hf
  match xs, hlen with
  | [y0, y1, y2, y3, y4], _ =>
    have h0 : DataW.trod enc Try.prog W 0 (fun _ => true) true n 24 [c0] = some y0 := by simpa [Value.cells, cells24] using hg 0 _ rfl
    have h1 : DataW.trod enc Try.prog W 0 (fun _ => true) true n 3 [c1] = some y1 := by simpa [Value.cells, cells3] using hg 1 _ rfl
    have h2 : DataW.trod enc Try.prog W 0 (fun _ => true) true n 3 [c2] = some y2 := by simpa [Value.cells, cells3] using hg 2 _ rfl
    have h3 : DataW.trod enc Try.prog W 0 (fun _ => true) true n 3 [c3] = some y3 := by simpa [Value.cells, cells3] using hg 3 _ rfl
    have h4 : DataW.trod enc Try.prog W 0 (fun _ => true) true n 4 [c4] = some y4 := by simpa [Value.cells, cells4] using hg 4 _ rfl
    obtain ⟨g, e1, _⟩ := DataW.trod_int Try.underlying3 h1
    obtain ⟨u, e2, _⟩ := DataW.trod_int Try.underlying3 h2
    obtain ⟨t, e3, _⟩ := DataW.trod_int Try.underlying3 h3
    obtain ⟨b, e4, _⟩ := DataW.trod_bool Try.underlying4 h4
    obtain ⟨y, k, _, _, h5⟩ := trod_struct1 Try.underlying24 h0
    have h6 : DataW.trod enc Try.prog W 0 (fun _ => true) true k 22 [c0] = some y := by simpa [Value.cells, cells22] using h5
    obtain ⟨oa, q, cap, ss, rfl, hA⟩ := open_texts h6
    simp at e1 e2 e3 e4
    subst e1 e2 e3 e4
    exact ⟨oa, q, cap, ss, g, u, t, b, rfl, hA⟩
end Go.Proofs.Ytmjbhmmcpjhmcaa
namespace Go.Proofs.Ytmjbhmmcpjhmcaa
open Go.ChangeShapes Go.WideShapes Go.ChangeAt Go.RowKit Go.Deep
set_option linter.unusedVariables false

theorem cells44 : Try.prog.cellsOf 44 = 2 := by kernel_rfl
theorem list2 {α : Type} (l : List α) (h : l.length = 2) : ∃ a b, l = [a, b] := by
  match l, h with
  | [a, b], _ => exact ⟨a, b, rfl⟩
theorem fault_cells {H : Type} {enc : TypeId × Value → H} {W : World} {m : Nat} {cs : List Value} {y : DataW H × List MemPlace} (hl : cs.length = 2) (h1 : DataW.trod enc Try.prog W 0 (fun _ => true) true m 44 cs = some y) :
    ∃ a b, cs = [.int .i64 a, .int .i64 b] := by
  obtain ⟨c0, c1, rfl⟩ := list2 cs hl
  obtain ⟨xs, n, _, hx, _, hlen, hg⟩ := DataW.trod_struct Try.underlying44 h1
  match xs, hlen with
  | [y0, y1], _ =>
    have h0 : DataW.trod enc Try.prog W 0 (fun _ => true) true n 3 [c0] = some y0 := by simpa [cells3] using hg 0 _ rfl
    have h1 : DataW.trod enc Try.prog W 0 (fun _ => true) true n 3 [c1] = some y1 := by simpa [cells3] using hg 1 _ rfl
    obtain ⟨a, e1, _⟩ := DataW.trod_int Try.underlying3 h0
    obtain ⟨b, e2, _⟩ := DataW.trod_int Try.underlying3 h1
    simp at e1 e2
    subst e1 e2
    exact ⟨a, b, rfl⟩
set_option maxRecDepth 100000 in
theorem open_fault {H : Type} {enc : TypeId × Value → H} {W : World} {base : Nat} {v : Value} {d : DataW H} {p : List MemPlace} (hv : Value.okWide Try.prog W .any base 44 v) (h : DataW.Trod enc Try.prog W 0 (fun _ => true) true 44 v d p) :
    ∃ x y, v = .agg #[.int .i64 x, .int .i64 y] := by
  obtain ⟨cs, rfl, hsz⟩ := okWide_struct Try.underlying44 hv
  rw [cells44] at hsz
  obtain ⟨l⟩ := cs
  obtain ⟨fuel, hf⟩ := h
  obtain ⟨a, b, e⟩ := fault_cells (by simpa using hsz) (show DataW.trod enc Try.prog W 0 (fun _ => true) true fuel 44 l = some _ from hf)
  exact ⟨a, b, by rw [e]⟩
/-- a row of faults -/
theorem open_faults_c {H : Type} {enc : TypeId × Value → H} {W : World} {m : Nat} {c : Value} {y : DataW H × List MemPlace} (h1 : DataW.trod enc Try.prog W 0 (fun _ => true) true m 45 [c] = some y) :
    ∃ oa n cap fs, c = .slice oa n cap ∧ FRd W oa n cap fs ∧ cap ≤ maxLen := by
  rcases open_slice Try.underlying45 h1 with ⟨hcs, _⟩ | ⟨a, len, cap, m', k, D, Pl, hcs, _, hl, hm, hmm, _, hi⟩
  · simp at hcs
    subst hcs
    exact ⟨none, 0, 0, [], rfl, FRd.nil W, by unfold maxLen; omega⟩
  · simp at hcs
    subst hcs
    simp only [if_true] at hmm
    subst hmm
    have key : ∀ i, ∃ q : Int × Int, i < m' → W.cell? (a.add (i * 2)) = some (.int .i64 q.1) ∧ W.cell? ((a.add (i * 2)).add 1) = some (.int .i64 q.2) := by
      intro i
      by_cases hk : i < m'
      · obtain ⟨cs', hc, ht⟩ := hi i hk
        rw [cells44] at hc
        obtain ⟨_, hcl, hat⟩ := World.cells?_some hc
        obtain ⟨x, z, rfl⟩ := fault_cells hcl ht
        refine ⟨(x, z), fun _ => ⟨?_, ?_⟩⟩
        · have := hat 0 (by omega)
          rw [show (a.add (i * 2)).add 0 = a.add (i * 2) from by unfold Addr.add; split <;> simp_all] at this
          simpa using this
        · simpa using hat 1 (by omega)
      · exact ⟨(0, 0), fun h => absurd h hk⟩
    obtain ⟨F, hF⟩ := Classical.axiomOfChoice key
    obtain ⟨b, off, spot⟩ := a
    refine ⟨_, len, m', (List.range len).map F, rfl, ⟨by simp, hl, fun i hi' => ?_⟩, hm⟩
    have hspot : spot = none := by
      have := World.cell?_spot (hF 0 (by omega)).1
      unfold Addr.add at this
      split at this <;> simp_all
    subst hspot
    have e : ((List.range len).map F).getD i (0, 0) = F i := by
      rw [List.getD_eq_getElem?_getD, List.getElem?_map, List.getElem?_range hi']
      rfl
    rw [e]
    obtain ⟨h2, h3⟩ := hF i (by omega)
    rw [add_at] at h2 h3
    rw [add_at] at h3
    exact ⟨b, off, rfl, h2, h3⟩
set_option maxRecDepth 100000 in
theorem open_faults {H : Type} {enc : TypeId × Value → H} {W : World} {base : Nat} {v : Value} {d : DataW H} {p : List MemPlace} (hv : Value.okWide Try.prog W .any base 45 v) (h : DataW.Trod enc Try.prog W 0 (fun _ => true) true 45 v d p) :
    ∃ oa n cap fs, v = .slice oa n cap ∧ (FRd W oa n cap fs ∧ cap ≤ maxLen) := by
  obtain ⟨fuel, hf⟩ := h
  have hc : v.cells.toList = [v] := by
    cases v with
    | agg cs => simp [Value.okWide, Cell.okWide, Cell.ok, Try.underlying45] at hv
    | _ => rfl
  rw [hc] at hf
  exact open_faults_c hf
/-- one act of a row: whether all are written anew, its payloads, its faults -/
def ActAt (w : World) (g o i : Nat) : Prop :=
  ∃ b oL nL cL ls oF nF cF fs, w.cell? ⟨g, o + i * 3, none⟩ = some (.bool b) ∧ w.cell? ⟨g, o + i * 3 + 1, none⟩ = some (.slice oL nL cL) ∧ w.cell? ⟨g, o + i * 3 + 2, none⟩ = some (.slice oF nF cF) ∧
    Arg w oL nL cL ls ∧ FRd w oF nF cF fs ∧ cF ≤ maxLen
/-- a row of acts -/
structure Acts (w : World) (oa : Option Addr) (n cap : Nat) : Prop where
  room : n ≤ cap
  most : cap ≤ maxLen
  each : ∀ i, i < n → ∃ g o, oa = some ⟨g, o, none⟩ ∧ ActAt w g o i
theorem cells56 : Try.prog.cellsOf 56 = 3 := by kernel_rfl
theorem cells45 : Try.prog.cellsOf 45 = 1 := by kernel_rfl
theorem list3 {α : Type} (l : List α) (h : l.length = 3) : ∃ a b c, l = [a, b, c] := by
  match l, h with
  | [a, b, c], _ => exact ⟨a, b, c, rfl⟩
theorem act_cells {H : Type} {enc : TypeId × Value → H} {W : World} {m : Nat} {cs : List Value} {y : DataW H × List MemPlace} (hl : cs.length = 3) (h1 : DataW.trod enc Try.prog W 0 (fun _ => true) true m 56 cs = some y) :
    ∃ b oL nL cL ls oF nF cF fs, cs = [.bool b, .slice oL nL cL, .slice oF nF cF] ∧ Arg W oL nL cL ls ∧ FRd W oF nF cF fs ∧ cF ≤ maxLen := by
  obtain ⟨c0, c1, c2, rfl⟩ := list3 cs hl
  obtain ⟨xs, n, _, hx, _, hlen, hg⟩ := DataW.trod_struct Try.underlying56 h1
  match xs, hlen with
  | [y0, y1, y2], _ =>
    have h0 : DataW.trod enc Try.prog W 0 (fun _ => true) true n 4 [c0] = some y0 := by simpa [cells4] using hg 0 _ rfl
    have h1 : DataW.trod enc Try.prog W 0 (fun _ => true) true n 22 [c1] = some y1 := by simpa [cells22] using hg 1 _ rfl
    have h2 : DataW.trod enc Try.prog W 0 (fun _ => true) true n 45 [c2] = some y2 := by simpa [cells45] using hg 2 _ rfl
    obtain ⟨b, e0, _⟩ := DataW.trod_bool Try.underlying4 h0
    obtain ⟨oL, nL, cL, ls, rfl, hA⟩ := open_texts h1
    obtain ⟨oF, nF, cF, fs, rfl, hF, hm⟩ := open_faults_c h2
    simp at e0
    subst e0
    exact ⟨b, oL, nL, cL, ls, oF, nF, cF, fs, rfl, hA, hF, hm⟩
set_option maxRecDepth 100000 in
theorem open_acts {H : Type} {enc : TypeId × Value → H} {W : World} {base : Nat} {v : Value} {d : DataW H} {p : List MemPlace} (hv : Value.okWide Try.prog W .any base 54 v) (h : DataW.Trod enc Try.prog W 0 (fun _ => true) true 54 v d p) :
    ∃ oa n cap, v = .slice oa n cap ∧ Acts W oa n cap := by
  obtain ⟨fuel, hf⟩ := h
  have hc : v.cells.toList = [v] := by
    cases v with
    | agg cs => simp [Value.okWide, Cell.okWide, Cell.ok, Try.underlying54] at hv
    | _ => rfl
  rw [hc] at hf
  rcases open_slice Try.underlying54 hf with ⟨hcs, _⟩ | ⟨a, len, cap, m', k, D, Pl, hcs, _, hl, hm, hmm, _, hi⟩
  · simp at hcs
    subst hcs
    exact ⟨none, 0, 0, rfl, Nat.le_refl _, by unfold maxLen; omega, fun i hi => absurd hi (by omega)⟩
  · simp at hcs
    subst hcs
    simp only [if_true] at hmm
    subst hmm
    obtain ⟨b, off, spot⟩ := a
    refine ⟨_, len, m', rfl, hl, hm, fun i hi' => ?_⟩
    obtain ⟨cs', hcc, ht⟩ := hi i (by omega)
    rw [cells56] at hcc
    obtain ⟨_, hcl, hat⟩ := World.cells?_some hcc
    obtain ⟨x, oL, nL, cL, ls, oF, nF, cF, fs, rfl, hA, hF, hmF⟩ := act_cells hcl ht
    have hspot : spot = none := by
      obtain ⟨cs0, hcc0, ht0⟩ := hi 0 (by omega)
      rw [cells56] at hcc0
      obtain ⟨_, hcl0, hat0⟩ := World.cells?_some hcc0
      obtain ⟨_, _, _, _, _, _, _, _, _, rfl, _⟩ := act_cells hcl0 ht0
      have h0 := World.cell?_spot (hat0 0 (by omega))
      simpa [Addr.add] using h0
    subst hspot
    have g0 := hat 0 (by omega)
    have g1 := hat 1 (by omega)
    have g2 := hat 2 (by omega)
    rw [add_at, add_at] at g0 g1 g2
    exact ⟨b, off, rfl, x, oL, nL, cL, ls, oF, nF, cF, fs, by simpa using g0, by simpa using g1, by simpa using g2, hA, hF, hmF⟩
end Go.Proofs.Ytmjbhmmcpjhmcaa
