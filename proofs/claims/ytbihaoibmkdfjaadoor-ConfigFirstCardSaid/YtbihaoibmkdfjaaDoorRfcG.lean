/-
  The document's own: a receiver's line.
-/
import Derived.Test.YtbihaoibmkdfjaaDoorRfcF
namespace Go.Proofs.YtbihaoibmkdfjaaDoor
open Go.RowKit Go.Shelf
set_option linter.unusedVariables false

theorem grown_all {w w' : World} (h : Below w.heap.size w w') (row : Option Nat) : w.grownBy w' row := ⟨h.os, h.tape, h.output, h.size, fun k hk _ => h.block k hk⟩
/-- what is told of a receiver's line -/
def AddROut (w w' : World) (base : Nat) (e : Ending) (c : CfgL) (va vb : Value) (rep beat : Int) (ws : List (List UInt8)) : Prop := ∃ (va' : Value) (er : Int), e = .returned (.tuple #[.agg (cfgV va' vb rep beat), .int .i64 er]) ∧
  ((er = 0 ∧ ∃ r, addR c ws = .ok (c.1 ++ [r], c.2) ∧ w'.ownsRow base 45 9 va' (c.1.length + 1) (cellsR (c.1 ++ [r]))) ∨ (er ≠ 0 ∧ addR c ws = .error er ∧ va' = va))
theorem addR_full {c : CfgL} {ws : List (List UInt8)} (h : c.1.length = 4) : addR c ws = .error 2 := by unfold addR; rw [if_pos h]
theorem addR_lack {c : CfgL} {ws : List (List UInt8)} (h : c.1.length ≠ 4) (h1 : ws.length ≠ 10) : addR c ws = .error 12 := by unfold addR; rw [if_neg h, if_pos h1]
theorem place_some (l : List R9) (v : List UInt8) : (placeO l v).isSome = true ↔ 0 ≤ placeN l (tx v) := by
  unfold placeO placeN
  cases l.findIdx? fun r => decide (r.nm = tx v) with
  | none => simp
  | some k => simp
theorem addR_twice {c : CfgL} {ws : List (List UInt8)} (h : c.1.length ≠ 4) (h1 : ws.length = 10) (h2 : 0 ≤ placeN c.1 (tx (ws.getD 1 []))) : addR c ws = .error 11 := by unfold addR; rw [if_neg h, if_neg (by omega), if_pos ((place_some _ _).2 h2)]
theorem addR_char {c : CfgL} {ws : List (List UInt8)} (h : c.1.length ≠ 4) (h1 : ws.length = 10) (h2 : ¬ 0 ≤ placeN c.1 (tx (ws.getD 1 []))) (h3 : allO numB (ws.drop 2) = none) : addR c ws = .error 13 := by
  unfold addR
  rw [if_neg h, if_neg (by omega), if_neg (fun h => h2 ((place_some _ _).1 h)), h3]
theorem addR_end {c : CfgL} {ws : List (List UInt8)} {ns : List Nat} (h : c.1.length ≠ 4) (h1 : ws.length = 10) (h2 : ¬ 0 ≤ placeN c.1 (tx (ws.getD 1 []))) (h3 : allO numB (ws.drop 2) = some ns) : addR c ws = if rcvR (mkR (ws.getD 1 []) ns) = true then .ok (c.1 ++ [mkR (ws.getD 1 []) ns], c.2) else .error 3 := by
  unfold addR
  rw [if_neg h, if_neg (by omega), if_neg (fun h => h2 ((place_some _ _).1 h)), h3]
end Go.Proofs.YtbihaoibmkdfjaaDoor
