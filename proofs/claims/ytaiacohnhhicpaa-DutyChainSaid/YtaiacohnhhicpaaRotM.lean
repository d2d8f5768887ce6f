/-
  Configs as they lie; which route takes labels, whose turn it is at a place, and what is next, as plain functions.
-/
import Derived.Test.YtaiacohnhhicpaaCfgP
import Derived.Test.YtaiacohnhhicpaaCfD
import Derived.Test.YtaiacohnhhicpaaLabA
namespace Go.Proofs.Ytaiacohnhhicpaa
open Go.RowKit Go.Shelf
set_option linter.unusedVariables false

/-- a config as it lies, with what is sure of any -/
structure CfgAt (w : World) (o1 : Option Addr) (n1 c1 : Nat) (o2 : Option Addr) (n2 c2 : Nat) (c : CfgL) : Prop where
  rs : Rs w o1 n1 c1 c.1
  qs : Qs w o2 n2 c2 c.2.1
  b1 : c1 ≤ maxLen
  b2 : c2 ≤ maxLen
  short : ∀ i, i < c.1.length → (c.1.getD i zR).nm.size ≤ maxLen
  parts : ∀ i, i < c.2.1.length → (c.2.1.getD i zT).1.length ≤ maxLen ∧ (c.2.1.getD i zT).2.length ≤ maxLen ∧ ShortM (c.2.1.getD i zT).2
abbrev aggC (o1 : Option Addr) (n1 c1 : Nat) (o2 : Option Addr) (n2 c2 : Nat) (c : CfgL) : Value := .agg (cfgV (.slice o1 n1 c1) (.slice o2 n2 c2) c.2.2.1 c.2.2.2)
theorem CfgAt.below {w w' : World} {o1 : Option Addr} {n1 c1 : Nat} {o2 : Option Addr} {n2 c2 : Nat} {c : CfgL} (h : CfgAt w o1 n1 c1 o2 n2 c2 c) {C : Nat} (hB : Below C w w') (hC : w.heap.size ≤ C) : CfgAt w' o1 n1 c1 o2 n2 c2 c :=
  ⟨h.rs.below hB hC, h.qs.below hB hC, h.b1, h.b2, h.short, h.parts⟩
theorem CfgAt.right {w : World} {o1 : Option Addr} {n1 c1 : Nat} {o2 : Option Addr} {n2 c2 : Nat} {c : CfgL} (h : CfgAt w o1 n1 c1 o2 n2 c2 c) :
    Calls Try.prog 39 #[aggC o1 n1 c1 o2 n2 c2 c] w fun e w' => e = .returned (.bool (cfgR c)) ∧ Below w.heap.size w w' := by
  have h1 := h.rs.room
  have h2 := h.qs.room
  have b1 := h.b1
  have b2 := h.b2
  have hp := h.parts
  unfold maxLen at b1 b2 hp
  exact cfg_c c o1 n1 c1 o2 n2 c2 w h.rs h.qs (by omega) (by omega) fun i hi => ⟨(hp i hi).1, (hp i hi).2.1⟩
/-- where the first route stands that takes labels, or -1 -/
def rotF (c : CfgL) (l : List L2) : Int := match c.2.1.findIdx? fun t => t.2.all (mB l) with
  | some k => (k : Int)
  | none => -1
/-- the route that is chosen, or why none -/
def chooseF (c : CfgL) (l : List L2) : Int × Int := if (cfgR c && rightB l) = true then (if rotF c l < 0 then (0, 4) else (rotF c l, 0)) else (0, 1)
/-- is there such a place -/
def hasP (c : CfgL) (i p : Int) : Bool := decide (0 ≤ i) && (decide (i < (c.2.1.length : Int)) && (decide (0 ≤ p) && decide (p < ((c.2.1.getD i.toNat zT).1.length : Int))))
def whyP (c : CfgL) (i p : Int) : Int := if cfgR c = true then (if hasP c i p = true then 0 else 3) else 1
def atP (c : CfgL) (i p : Int) : Int := (c.2.1.getD i.toNat zT).1.getD p.toNat 0
def nextP (c : CfgL) (i p : Int) : Int := if p + 1 = ((c.2.1.getD i.toNat zT).1.length : Int) then 0 else p + 1
def rcvF (c : CfgL) (i p : Int) : Int × Int := if whyP c i p = 0 then (atP c i p, 0) else (0, whyP c i p)
def nextF (c : CfgL) (i p : Int) : Int × Int := if whyP c i p = 0 then (nextP c i p, 0) else (0, whyP c i p)
theorem rotF_hit {c : CfgL} {l : List L2} (k : Nat) (hk : k < c.2.1.length) (hA : ∀ i, i < k → (c.2.1.getD i zT).2.all (mB l) = false) (h : (c.2.1.getD k zT).2.all (mB l) = true) : rotF c l = (k : Int) := by
  have e : (c.2.1.findIdx? fun t => t.2.all (mB l)) = some k := by
    rw [List.findIdx?_eq_some_iff_getElem]
    refine ⟨hk, by rw [← getD_T _ k hk]; exact h, fun j hj => ?_⟩
    have := hA j hj
    rw [getD_T _ j (by omega)] at this
    rw [this]
    simp
  unfold rotF
  rw [e]
theorem rotF_none {c : CfgL} {l : List L2} (hA : ∀ i, i < c.2.1.length → (c.2.1.getD i zT).2.all (mB l) = false) : rotF c l = -1 := by
  have e : (c.2.1.findIdx? fun t => t.2.all (mB l)) = none := by
    rw [List.findIdx?_eq_none_iff]
    intro t ht
    obtain ⟨i, hi, rfl⟩ := List.getElem_of_mem ht
    have := hA i hi
    rwa [getD_T _ i hi] at this
  unfold rotF
  rw [e]
theorem cfgR_parts {c : CfgL} (h : cfgR c = true) : (∀ i, i < c.2.1.length → rteR c.1.length (c.2.1.getD i zT) = true) ∧ 1 ≤ c.2.1.length ∧ c.2.1.length ≤ 4 ∧ 1 ≤ c.1.length ∧ c.1.length ≤ 4 := by
  rw [cfgR_is] at h
  simp only [Bool.and_eq_true] at h
  obtain ⟨h1, h2, _⟩ := h
  obtain ⟨h3, h4⟩ := (rtsB_iff _ _).1 h2
  unfold rcvsB at h1
  unfold numberB at h1 h3
  simp only [Bool.and_eq_true, decide_eq_true_eq] at h1 h3
  exact ⟨h4, h3.1, h3.2, h1.1.1, h1.1.2⟩
theorem rteR_parts {N : Nat} {t : T2} (h : rteR N t = true) : chainB N t.1 = true ∧ 1 ≤ t.1.length ∧ t.1.length ≤ 4 ∧ matsB t.2 = true := by
  unfold rteR at h
  simp only [Bool.and_eq_true, decide_eq_true_eq] at h
  exact ⟨h.1, h.2.1, h.2.2.1, h.2.2.2⟩
theorem hasP_parts {c : CfgL} {i p : Int} (h : hasP c i p = true) : ∃ k j : Nat, i = (k : Int) ∧ p = (j : Int) ∧ k < c.2.1.length ∧ j < (c.2.1.getD k zT).1.length := by
  unfold hasP at h
  simp only [Bool.and_eq_true, decide_eq_true_eq] at h
  obtain ⟨h1, h2, h3, h4⟩ := h
  exact ⟨i.toNat, p.toNat, by omega, by omega, by omega, by omega⟩
end Go.Proofs.Ytaiacohnhhicpaa
