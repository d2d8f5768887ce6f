/-
  Configs as lists: which may be.
-/
import Derived.Test.YtaiacohnhhicpaaTxt
import Derived.Test.YtaiacohnhhicpaaLabN
namespace Go.Proofs.Ytaiacohnhhicpaa
open Go.RowKit
set_option linter.unusedVariables false

/-- a receiver: its name and eight numbers -/
structure R9 where
  nm : ByteArray
  ba : Int
  tp : Int
  ji : Int
  tr : Int
  fa : Int
  op : Int
  bu : Int
  ev : Int
abbrev T2 := List Int × List M3
abbrev CfgL := List R9 × List T2 × Int × Int
def zR : R9 := ⟨⟨#[]⟩, 0, 0, 0, 0, 0, 0, 0, 0⟩
abbrev zC : CfgL := ([], [], 0, 0)
def ifT : List UInt8 := [105, 102]
def backB (b t j : Int) : Bool := decide (1 ≤ b) && (decide (b ≤ 1048576) && (decide (b ≤ t) && (decide (t ≤ 1073741824) && (decide (0 ≤ j) && decide (j ≤ 1048576)))))
def brkB (f o : Int) : Bool := decide (1 ≤ f) && (decide (f ≤ 100) && (decide (1 ≤ o) && decide (o ≤ 1048576)))
def triB (n : Int) : Bool := decide (1 ≤ n) && decide (n ≤ 100)
def rcvR (r : R9) : Bool := nameB r.nm && (!decide (r.nm = tx ifT) && (backB r.ba r.tp r.ji && (triB r.tr && (brkB r.fa r.op && brkB r.bu r.ev))))
def oftenB (n : Int) : Bool := decide (1 ≤ n) && decide (n ≤ 1073741824)
def chainB (n : Nat) (l : List Int) : Bool := (l.all fun k => decide (0 ≤ k) && decide (k < (n : Int))) && decide l.Nodup
def rteR (n : Nat) (r : T2) : Bool := chainB n r.1 && (decide (1 ≤ r.1.length) && (decide (r.1.length ≤ 4) && matsB r.2))
def numberB (n : Nat) : Bool := decide (1 ≤ n) && decide (n ≤ 4)
def cfgR (c : CfgL) : Bool := (c.1.all rcvR && decide (c.1.map R9.nm).Nodup) && ((c.2.1.all fun r => rteR c.1.length r) && (numberB c.1.length && (numberB c.2.1.length && (oftenB c.2.2.1 && oftenB c.2.2.2))))

theorem getD_R (rs : List R9) (k : Nat) (hk : k < rs.length) : rs.getD k zR = rs[k] := by rw [List.getD_eq_getElem?_getD, List.getElem?_eq_getElem hk]; rfl
theorem mem_R (rs : List R9) (k : Nat) (hk : k < rs.length) : rs.getD k zR ∈ rs := by rw [getD_R rs k hk]; exact List.getElem_mem _
theorem mat_parts {m : M3} (h : matB m = true) : (0 ≤ m.1 ∧ m.1 ≤ 3) ∧ nameB m.2.1 = true ∧ valueB m.2.2 = true := by
  unfold matB at h
  simp only [Bool.and_eq_true, decide_eq_true_eq] at h
  exact ⟨⟨h.1.1.1.1, h.1.1.1.2⟩, h.1.1.2, h.1.2⟩
end Go.Proofs.Ytaiacohnhhicpaa
