/-
  Duties as they lie, and what the calls tell of them.
-/
import Derived.Test.YtaiacohnhhicpaaDutM
import Derived.Test.YtaiacohnhhicpaaRotA
namespace Go.Proofs.Ytaiacohnhhicpaa
open Go.RowKit Go.Shelf
set_option linter.unusedVariables false

/-- a duty as it lies: its labels -/
structure DAt (w : World) (oa : Option Addr) (n cap : Nat) (d : D6) : Prop where
  ls : Ls w oa n cap d.ls
  b : n ≤ 5
theorem DAt.below {w w' : World} {oa : Option Addr} {n cap : Nat} {d : D6} (h : DAt w oa n cap d) {C : Nat} (hB : Below C w w') (hC : w.heap.size ≤ C) : DAt w' oa n cap d := ⟨h.ls.below hB hC, h.b⟩
theorem DAt.nil (w : World) : DAt w none 0 0 zD := ⟨Ls.nil _ _ _, by omega⟩
theorem DAt.of {w : World} {oa : Option Addr} {n cap : Nat} {d d' : D6} (h : DAt w oa n cap d) (e : d'.ls = d.ls) : DAt w oa n cap d' := ⟨e ▸ h.ls, h.b⟩
/-- what New tells -/
def NewOut (r : D6 × Int) (w' : World) (e : Ending) : Prop := ∃ oa n cap, e = .returned (.tuple #[aggD oa n cap r.1, .int .i64 r.2]) ∧ DAt w' oa n cap r.1
/-- what Sent and Done tell -/
def SentOut (r : D6 × Bool × Int) (w' : World) (e : Ending) : Prop := ∃ oa n cap, e = .returned (.tuple #[aggD oa n cap r.1, .bool r.2.1, .int .i64 r.2.2]) ∧ DAt w' oa n cap r.1
end Go.Proofs.Ytaiacohnhhicpaa
