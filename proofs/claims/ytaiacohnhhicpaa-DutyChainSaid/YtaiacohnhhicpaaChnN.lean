/-
  What the law asks of a duty that is never taken: plain.
-/
import Derived.Test.YtaiacohnhhicpaaDutN
namespace Go.Proofs.Ytaiacohnhhicpaa
open Go.RowKit
set_option linter.unusedVariables false

theorem chn_step {c : CfgL} {d : D6} (hd : dutyR c d = true) (draw : Int) :
    sentF c d d.du false draw = (againD c d d.du draw, false, 0) ∧ dutyR c (againD c d d.du draw) = true ∧ (againD c d d.du draw).ls = d.ls ∧ (againD c d d.du draw).rt = d.rt ∧ (againD c d d.du draw).st = d.st
    ∧ min (d.du + Bo.stepN (rcvD c d.rt d.pl).ba (rcvD c d.rt d.pl).tp d.tr.toNat) 1099511627776 ≤ (againD c d d.du draw).du
    ∧ (againD c d d.du draw).du ≤ min (d.du + Bo.stepN (rcvD c d.rt d.pl).ba (rcvD c d.rt d.pl).tp d.tr.toNat + (rcvD c d.rt d.pl).ji) 1099511627776
    ∧ 0 ≤ d.du ∧ d.du ≤ 1099511627776 ∧ 1 ≤ Bo.stepN (rcvD c d.rt d.pl).ba (rcvD c d.rt d.pl).tp d.tr.toNat ∧ Bo.stepN (rcvD c d.rt d.pl).ba (rcvD c d.rt d.pl).tp d.tr.toNat ≤ 1073741824 ∧ 0 ≤ (rcvD c d.rt d.pl).ji ∧ (rcvD c d.rt d.pl).ji ≤ 1048576 := by
  obtain ⟨hc, hw⟩ := (dutyR_iff c d).1 hd
  obtain ⟨_, hp, _, _, ht, _, _⟩ := (withB_iff c d).1 hw
  obtain ⟨t0, t1⟩ := (time_iff _).1 ht
  have hB := (rcv_parts (rcv_of hc hp).1).1
  obtain ⟨w1, w2, w3, w4, w5, w6⟩ := wait_range hB d.tr draw
  obtain ⟨g1, g2, g3, g4⟩ := again_ls c d d.du draw
  have j1 := hB.j1
  have j2 := hB.j2
  refine ⟨by rw [sentF_ok hd ht (Int.le_refl _)]; rfl, (dutyR_iff _ _).2 ⟨hc, with_again hc hw ht draw⟩, g1, g2, g3, ?_, ?_, t0, t1, w5, w6, j1, j2⟩
  · rw [g4]
    unfold Bo.addT
    split <;> omega
  · rw [g4]
    unfold Bo.addT
    split <;> omega
theorem chn_more {c : CfgL} {d : D6} (now draw : Int) (h : d.tr + 1 ≠ (rcvD c d.rt d.pl).tr) : (againD c d now draw).pl = d.pl ∧ (againD c d now draw).tr = d.tr + 1 := by
  unfold againD
  rw [if_neg h]
  exact ⟨rfl, rfl⟩
theorem chn_next {c : CfgL} {d : D6} (now draw : Int) (h : d.tr + 1 = (rcvD c d.rt d.pl).tr) : (againD c d now draw).pl = nextP c d.rt d.pl ∧ (againD c d now draw).tr = 0 := by
  unfold againD
  rw [if_pos h]
  exact ⟨rfl, rfl⟩
/-- the next place, round and round -/
theorem next_round {c : CfgL} {R : Nat} {m : Nat} (hm : (c.2.1.getD R zT).1.length = m) (h0 : 0 < m) (i : Nat) : nextP c (R : Int) ((i % m : Nat) : Int) = (((i + 1) % m : Nat) : Int) := by
  have h1 : i % m < m := Nat.mod_lt _ h0
  unfold nextP
  rw [show ((R : Int).toNat) = R by omega, hm]
  have e : (i + 1) % m = if i % m + 1 = m then 0 else i % m + 1 := by
    rw [Nat.add_mod]
    by_cases h : i % m + 1 = m
    · rw [if_pos h]
      by_cases hm1 : m = 1
      · subst hm1; exact Nat.mod_one _
      · rw [Nat.mod_eq_of_lt (show 1 < m by omega), h, Nat.mod_self]
    · rw [if_neg h]
      have hm1 : 1 < m := by omega
      rw [Nat.mod_eq_of_lt hm1, Nat.mod_eq_of_lt (by omega)]
  rw [e]
  by_cases h : i % m + 1 = m
  · rw [if_pos h, if_pos (by omega)]
    rfl
  · rw [if_neg h, if_neg (by omega)]
    rfl
/-- a row twice -/
theorem twice_at (l : List Int) (i : Nat) (h : i < l.length + l.length) : (l ++ l).getD i 0 = l.getD (i % l.length) 0 := by
  rw [List.getD_eq_getElem?_getD, List.getD_eq_getElem?_getD]
  by_cases h1 : i < l.length
  · rw [List.getElem?_append_left h1, Nat.mod_eq_of_lt h1]
  · rw [List.getElem?_append_right (by omega), Nat.mod_eq_sub_mod (by omega), Nat.mod_eq_of_lt (by omega)]
/-- the receiver at a place, as the law finds it -/
theorem chn_rcv {c : CfgL} (hc : cfgR c = true) {R p : Nat} (hp : hasP c (R : Int) (p : Int) = true) : ∃ k : Nat, k < c.1.length ∧ (c.2.1.getD R zT).1.getD p 0 = (k : Int) ∧ rcvD c (R : Int) (p : Int) = c.1.getD k zR ∧ 1 ≤ (c.1.getD k zR).tr ∧ (c.1.getD k zR).tr ≤ 100 ∧ Bo.Bk (c.1.getD k zR).ba (c.1.getD k zR).tp (c.1.getD k zR).ji := by
  obtain ⟨h1, k, hk, e⟩ := rcv_of hc hp
  have e2 : rcvD c (R : Int) (p : Int) = c.1.getD k zR := by unfold rcvD; rw [e]; rfl
  rw [e2] at h1
  obtain ⟨b1, b2, b3⟩ := rcv_parts h1
  exact ⟨k, hk, e, e2, b2, b3, b1⟩
end Go.Proofs.Ytaiacohnhhicpaa
