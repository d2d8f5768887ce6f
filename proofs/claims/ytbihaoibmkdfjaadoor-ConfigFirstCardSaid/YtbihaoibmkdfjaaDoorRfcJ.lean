/-
  The document's own: the config of a text.
-/
import Derived.Test.YtbihaoibmkdfjaaDoorRfcI
namespace Go.Proofs.YtbihaoibmkdfjaaDoor
open Go.RowKit Go.Shelf
set_option linter.unusedVariables false

/-- what is told of a text: its config, or its first line that is wrong, and why -/
def CfgOut (w : World) (e : Ending) (m : CfgL × Nat × Int) : Prop := ∃ (o1 : Option Addr) (n1 c1 : Nat) (o2 : Option Addr) (n2 c2 : Nat), e = .returned (.tuple #[.agg (cfgV (.slice o1 n1 c1) (.slice o2 n2 c2) m.1.2.2.1 m.1.2.2.2), .int .i64 (m.2.1 : Int), .int .i64 m.2.2]) ∧ Rs w o1 n1 c1 m.1.1 ∧ Qs w o2 n2 c2 m.1.2.1
theorem drop_at (l : List (List UInt8)) (k : Nat) (hk : k < l.length) : l.drop k = l.getD k [] :: l.drop (k + 1) := by
  rw [List.drop_eq_getElem_cons hk, List.getD_eq_getElem?_getD, List.getElem?_eq_getElem hk]
  rfl
theorem lines_sizes (l : List UInt8) : ∀ acc, (∀ v ∈ linesW acc l, v.length ≤ acc.length + l.length) ∧ (linesW acc l).length ≤ l.length + 1 := by
  induction l with
  | nil =>
    intro acc
    rw [linesW]
    split
    · simp
    · simp
  | cons c l ih =>
    intro acc
    rw [linesW]
    split
    · have := ih []
      refine ⟨fun v hv => ?_, by simp; omega⟩
      rcases List.mem_cons.1 hv with rfl | hv
      · simp
      · have := this.1 v hv; simp at this ⊢; omega
    · have := ih (acc ++ [c])
      refine ⟨fun v hv => ?_, by have := this.2; simp; omega⟩
      have := this.1 v hv
      simp at this ⊢
      omega
/-- one row has grown: what stands beside it -/
theorem GrownOne.keeps {w w' : World} {base nl : Nat} {va vb vl : Value} {n1 : Nat} {x1 : List Value} {l : List T2} {qs : List (Value × Value)} {xl : List Value} {bl : Nat} (h : GrownOne w w' va vb) (hc : w.ownsRow base 45 9 va n1 x1) (hO : Own2 w base vb l qs) (hL : w.ownsRow bl 9 1 vl nl xl) :
    w'.ownsRow bl 9 1 vl nl xl ∧ (∀ (A : Nat) (cs : Array Value), Vals w A 25 cs → Vals w' A 25 cs) ∧ (∀ (B : Nat) (u : World), Below B u w → B ≤ base → B ≤ w.heap.size → Below B u w') ∧ w.heap.size ≤ w'.heap.size := by
  obtain ⟨row, rfl | rfl, hg⟩ := h
  · exact ⟨own_other hL hc (by decide) hg, fun A cs hV => hV.grown hc (by decide) hg, fun B u hB h1 h2 => hB.grown hg h2 (fun r e => by have := (hc.lt r e).1; omega), hg.size⟩
  · exact ⟨own_other hL hO.own (by decide) hg, fun A cs hV => hV.grown hO.own (by decide) hg, fun B u hB h1 h2 => hB.grown hg h2 (fun r e => by have := (hO.own.lt r e).1; omega), hg.size⟩
end Go.Proofs.YtbihaoibmkdfjaaDoor
