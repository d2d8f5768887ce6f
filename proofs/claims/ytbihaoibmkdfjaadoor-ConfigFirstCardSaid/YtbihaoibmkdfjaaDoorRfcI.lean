/-
  The document's own: a line.
-/
import Derived.Test.YtbihaoibmkdfjaaDoorRfcH
namespace Go.Proofs.YtbihaoibmkdfjaaDoor
open Go.RowKit Go.Shelf
set_option linter.unusedVariables false

/-- what is told of a line -/
def AddOut (w' : World) (base : Nat) (e : Ending) (c : CfgL) (a : Nat) (ws : List (List UInt8)) : Prop := ∃ (o1 : Option Addr) (n1 c1 : Nat) (o2 : Option Addr) (n2 c2 : Nat) (x y a' er : Int), e = .returned (.tuple #[.agg (cfgV (.slice o1 n1 c1) (.slice o2 n2 c2) x y), .int .i64 a', .int .i64 er]) ∧
  ((er = 0 ∧ ∃ (c' : CfgL) (a2 : Nat) (qs' : List (Value × Value)), addL c a ws = .ok (c', a2) ∧ a' = (a2 : Int) ∧ x = c'.2.2.1 ∧ y = c'.2.2.2 ∧ w'.ownsRow base 45 9 (.slice o1 n1 c1) c'.1.length (cellsR c'.1) ∧ Own2 w' base (.slice o2 n2 c2) c'.2.1 qs') ∨ (er ≠ 0 ∧ addL c a ws = .error er))
def GrownOne (w w' : World) (va vb : Value) : Prop := ∃ row, (row = va.ownBlock ∨ row = vb.ownBlock) ∧ w.grownBy w' row
theorem Own2.grown {w w' : World} {base : Nat} {v : Value} {l : List T2} {qs : List (Value × Value)} (h : Own2 w base v l qs) {b2 : Nat} {s2 : Nat} {v2 : Value} {n2 : Nat} {x2 : List Value} (h2 : w.ownsRow b2 45 s2 v2 n2 x2) (hg : w.grownBy w' v2.ownBlock) : Own2 w' base v l qs :=
  ⟨own_other h.own h2 (by decide) hg, h.len, fun i hi => ⟨own_other (h.part i hi).1 h2 (by decide) hg, own_other (h.part i hi).2 h2 (by decide) hg⟩⟩
theorem addL_rcv {c : CfgL} {a : Nat} {ws : List (List UInt8)} (h : ws.getD 0 [] = rcvT) (ha : a ≤ 1) : addL c a ws = (addR c ws).map fun c' => (c', 1) := by unfold addL; rw [if_pos ⟨h, ha⟩]
theorem addL_rte {c : CfgL} {a : Nat} {ws : List (List UInt8)} (h : ws.getD 0 [] = rteT) (ha : a = 1 ∨ a = 2) : addL c a ws = (addT c ws).map fun c' => (c', 2) := by
  unfold addL
  rw [if_neg (fun h2 => absurd (h.symm.trans h2.1) (by decide)), if_pos ⟨h, ha⟩]
theorem addL_rep {c : CfgL} {a : Nat} {ws : List (List UInt8)} (h : ws.getD 0 [] = repT) (ha : a = 2) : addL c a ws = (oneB ws).map fun n => ((c.1, c.2.1, n, c.2.2.2), 3) := by
  unfold addL
  rw [if_neg (fun h2 => absurd (h.symm.trans h2.1) (by decide)), if_neg (fun h2 => absurd (h.symm.trans h2.1) (by decide)), if_pos ⟨h, ha⟩]
theorem addL_beat {c : CfgL} {a : Nat} {ws : List (List UInt8)} (h : ws.getD 0 [] = beatT) (ha : a = 3) : addL c a ws = (oneB ws).map fun n => ((c.1, c.2.1, c.2.2.1, n), 4) := by
  unfold addL
  rw [if_neg (fun h2 => absurd (h.symm.trans h2.1) (by decide)), if_neg (fun h2 => absurd (h.symm.trans h2.1) (by decide)), if_neg (fun h2 => absurd (h.symm.trans h2.1) (by decide)), if_pos ⟨h, ha⟩]
theorem addL_odd {c : CfgL} {a : Nat} {ws : List (List UInt8)} (h1 : ¬ (ws.getD 0 [] = rcvT ∧ a ≤ 1)) (h2 : ¬ (ws.getD 0 [] = rteT ∧ (a = 1 ∨ a = 2))) (h3 : ¬ (ws.getD 0 [] = repT ∧ a = 2)) (h4 : ¬ (ws.getD 0 [] = beatT ∧ a = 3)) : addL c a ws = .error 10 := by
  unfold addL
  rw [if_neg h1, if_neg h2, if_neg h3, if_neg h4]
theorem word_is (ws : List (List UInt8)) (v : List UInt8) : ((tx (ws.getD 0 [])).toList == v) = decide (ws.getD 0 [] = v) := by
  rw [tx_list]
  by_cases h : ws.getD 0 [] = v
  · rw [decide_eq_true h]; simpa using h
  · rw [decide_eq_false h]; simpa using h
end Go.Proofs.YtbihaoibmkdfjaaDoor
