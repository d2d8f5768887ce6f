/-
  What becomes of a duty may be; what is told later: plain.
-/
import Derived.Test.YtaiacohnhhicpaaDutM
namespace Go.Proofs.Ytaiacohnhhicpaa
open Go.RowKit
set_option linter.unusedVariables false

theorem time_iff (t : Int) : timeB t = true ↔ 0 ≤ t ∧ t ≤ 1099511627776 := by
  unfold timeB
  simp only [Bool.and_eq_true, decide_eq_true_eq]
/-- the receiver at a place that there is may be -/
theorem rcv_of {c : CfgL} (h : cfgR c = true) {i p : Int} (hp : hasP c i p = true) : rcvR (rcvD c i p) = true ∧ ∃ k : Nat, k < c.1.length ∧ atP c i p = (k : Int) := by
  obtain ⟨k, j, rfl, rfl, hk, hj⟩ := hasP_parts hp
  have h1 := (rteR_parts ((cfgR_parts h).1 k hk)).1
  have h2 := (((chainB_iff _ _).1 h1) j hj).1
  have e : atP c (k : Int) (j : Int) = (c.2.1.getD k zT).1.getD j 0 := rfl
  have h3 := (cfgR_iff c).1 h
  obtain ⟨m, hm⟩ : ∃ m : Nat, (c.2.1.getD k zT).1.getD j 0 = (m : Int) := ⟨((c.2.1.getD k zT).1.getD j 0).toNat, by omega⟩
  have hm2 : m < c.1.length := by omega
  refine ⟨?_, m, hm2, e.trans hm⟩
  unfold rcvD
  rw [e, hm]
  exact (h3.1 m hm2).1
theorem rcv_parts {r : R9} (h : rcvR r = true) : Bo.Bk r.ba r.tp r.ji ∧ 1 ≤ r.tr ∧ r.tr ≤ 100 := by
  unfold rcvR backB triB at h
  simp only [Bool.and_eq_true, decide_eq_true_eq] at h
  obtain ⟨_, _, ⟨b1, b2, b3, b4, b5, b6⟩, ⟨t1, t2⟩, _⟩ := h
  exact ⟨⟨b1, b2, b3, b4, b5, b6⟩, t1, t2⟩
theorem often_of {c : CfgL} (h : cfgR c = true) : 1 ≤ c.2.2.1 ∧ c.2.2.1 ≤ 1073741824 := by
  unfold cfgR oftenB at h
  simp only [Bool.and_eq_true, decide_eq_true_eq] at h
  exact h.2.2.2.2.1
theorem wait_range {r : R9} (h : Bo.Bk r.ba r.tp r.ji) (n draw : Int) : Bo.stepN r.ba r.tp n.toNat ≤ Bo.waitT r.ba r.tp r.ji n draw ∧ Bo.waitT r.ba r.tp r.ji n draw ≤ Bo.stepN r.ba r.tp n.toNat + r.ji ∧ 1 ≤ Bo.waitT r.ba r.tp r.ji n draw ∧ Bo.waitT r.ba r.tp r.ji n draw ≤ 1074790400 ∧ 1 ≤ Bo.stepN r.ba r.tp n.toNat ∧ Bo.stepN r.ba r.tp n.toNat ≤ 1073741824 := by
  obtain ⟨b1, b2, b3, b4, b5, b6⟩ := h
  have h1 := Bo.stepN_range (B := r.ba) (T := r.tp) (by omega) b3 n.toNat
  have h2 := Bo.part_nn b5 draw
  have h3 := Bo.part_le b5 draw
  unfold Bo.waitT
  omega
theorem hasP_zero {c : CfgL} {i p : Int} (h : hasP c i p = true) : hasP c i 0 = true := by
  unfold hasP at *
  simp only [Bool.and_eq_true, decide_eq_true_eq] at *
  omega
theorem hasP_next {c : CfgL} {i p : Int} (h : hasP c i p = true) : hasP c i (nextP c i p) = true := by
  unfold nextP
  unfold hasP at *
  simp only [Bool.and_eq_true, decide_eq_true_eq] at *
  split <;> omega
theorem addT_time {t d : Int} (h0 : 0 ≤ t) (h1 : 0 ≤ d) : timeB (Bo.addT t d) = true := (time_iff _).2 ⟨Bo.add_nn h0 h1, Bo.add_le t d⟩
theorem addT_small {t d : Int} (h : t + d ≤ 1099511627776) : Bo.addT t d = t + d := by unfold Bo.addT; rw [if_neg (by omega)]
/-- a duty that is turned to a time may be -/
theorem with_turn {c : CfgL} {d : D6} (hc : cfgR c = true) (h : withB c d = true) {t s : Int} (ht : timeB t = true) (h1 : 1 ≤ s) (h2 : s ≤ 3) : withB c { turnD d t with st := s } = true := by
  rw [withB_iff] at h ⊢
  obtain ⟨a1, a2, a3, a4, a5, a6, a7⟩ := h
  have hz := hasP_zero a2
  exact ⟨a1, hz, Int.le_refl _, by have q : 1 ≤ (rcvD c d.rt 0).tr := (rcv_parts (rcv_of hc hz).1).2.1; show 0 < (rcvD c d.rt 0).tr; omega, ht, h1, h2⟩
theorem again_ls (c : CfgL) (d : D6) (now draw : Int) : (againD c d now draw).ls = d.ls ∧ (againD c d now draw).rt = d.rt ∧ (againD c d now draw).st = d.st ∧ (againD c d now draw).du = Bo.addT now (Bo.waitT (rcvD c d.rt d.pl).ba (rcvD c d.rt d.pl).tp (rcvD c d.rt d.pl).ji d.tr draw) := by
  unfold againD
  split <;> exact ⟨rfl, rfl, rfl, rfl⟩
/-- a duty that nobody took may be -/
theorem with_again {c : CfgL} {d : D6} (hc : cfgR c = true) (h : withB c d = true) {now : Int} (hn : timeB now = true) (draw : Int) : withB c (againD c d now draw) = true := by
  rw [withB_iff] at h
  obtain ⟨a1, a2, a3, a4, a5, a6, a7⟩ := h
  obtain ⟨hB, ht1, ht2⟩ := rcv_parts (rcv_of hc a2).1
  have hw := wait_range hB d.tr draw
  have hn0 := ((time_iff _).1 hn).1
  have hT := addT_time hn0 (show 0 ≤ Bo.waitT (rcvD c d.rt d.pl).ba (rcvD c d.rt d.pl).tp (rcvD c d.rt d.pl).ji d.tr draw by omega)
  have hz := hasP_next a2
  unfold againD
  split
  · rw [withB_iff]
    exact ⟨a1, hz, Int.le_refl _, by have q : 1 ≤ (rcvD c d.rt (nextP c d.rt d.pl)).tr := (rcv_parts (rcv_of hc hz).1).2.1; show 0 < (rcvD c d.rt (nextP c d.rt d.pl)).tr; omega, hT, a6, a7⟩
  · rename_i hne
    rw [withB_iff]
    exact ⟨a1, a2, show 0 ≤ d.tr + 1 by omega, show d.tr + 1 < (rcvD c d.rt d.pl).tr by omega, hT, a6, a7⟩
/-- what is told of a try, where all is well -/
theorem sentF_ok {c : CfgL} {d : D6} {now : Int} (h1 : dutyR c d = true) (h2 : timeB now = true) (h3 : d.du ≤ now) (ok : Bool) (draw : Int) :
    sentF c d now ok draw = if ok = true then ((takenD c d now).1, (takenD c d now).2, 0) else (againD c d now draw, false, 0) := by
  unfold sentF
  rw [h1, h2, Bool.and_self, if_pos rfl, if_neg (by omega)]
theorem sentF_late {c : CfgL} {d : D6} {now : Int} (h1 : dutyR c d = true) (h2 : timeB now = true) (h3 : now < d.du) (ok : Bool) (draw : Int) : sentF c d now ok draw = (zD, false, 6) := by
  unfold sentF
  rw [h1, h2, Bool.and_self, if_pos rfl, if_pos h3]
theorem sentF_arg {c : CfgL} {d : D6} {now : Int} (h : (dutyR c d && timeB now) = false) (ok : Bool) (draw : Int) : sentF c d now ok draw = (zD, false, 1) := by
  unfold sentF
  rw [h]
  rfl
theorem doneF_ok {c : CfgL} {d : D6} {now : Int} (h1 : dutyR c d = true) (h2 : timeB now = true) (h3 : d.st ≠ 3) : doneF c d now = ((overD d now).1, (overD d now).2, 0) := by
  unfold doneF
  rw [h1, h2, Bool.and_self, if_pos rfl, if_neg h3]
theorem doneF_state {c : CfgL} {d : D6} {now : Int} (h1 : dutyR c d = true) (h2 : timeB now = true) (h3 : d.st = 3) : doneF c d now = (zD, false, 6) := by
  unfold doneF
  rw [h1, h2, Bool.and_self, if_pos rfl, if_pos h3]
theorem newF_ok {c : CfgL} {l : List L2} {now : Int} (h : (newF c l now).2 = 0) : cfgR c = true ∧ rightB l = true ∧ timeB now = true ∧ 0 ≤ rotF c l ∧ newF c l now = (⟨l, rotF c l, 0, 0, now, 1⟩, 0) := by
  unfold newF at h ⊢
  by_cases h1 : ((cfgR c && rightB l) && timeB now) = true
  · rw [if_pos h1] at h ⊢
    simp only [Bool.and_eq_true] at h1
    by_cases h2 : rotF c l < 0
    · rw [if_pos h2] at h
      exact absurd h (by simp)
    · rw [if_neg h2]
      exact ⟨h1.1.1, h1.1.2, h1.2, by omega, rfl⟩
  · rw [if_neg h1] at h
    exact absurd h (by simp)
theorem newF_not {c : CfgL} {l : List L2} {now : Int} (h : (newF c l now).2 ≠ 0) : (newF c l now).1 = zD := by
  unfold newF at h ⊢
  split
  · rename_i h1
    rw [if_pos h1] at h
    split
    · rfl
    · rename_i h2
      rw [if_neg h2] at h
      exact absurd rfl h
  · rfl
/-- a route that takes labels is there, and has a first place -/
theorem rotF_has {c : CfgL} (hc : cfgR c = true) {l : List L2} (h : 0 ≤ rotF c l) : hasP c (rotF c l) 0 = true := by
  unfold rotF at h ⊢
  cases e : c.2.1.findIdx? fun t => t.2.all (mB l) with
  | none => rw [e] at h; exact absurd h (by decide)
  | some k =>
    rw [e] at h
    have hk : k < c.2.1.length := by
      rw [List.findIdx?_eq_some_iff_getElem] at e
      exact e.1
    have h1 := (rteR_parts ((cfgR_parts hc).1 k hk)).2.1
    unfold hasP
    simp only [Bool.and_eq_true, decide_eq_true_eq]
    refine ⟨by omega, by omega, by omega, ?_⟩
    show (0 : Int) < _
    simp only [Int.toNat_natCast]
    omega
/-- a new duty may be -/
theorem new_with {c : CfgL} {l : List L2} {now : Int} (h : (newF c l now).2 = 0) : dutyR c ⟨l, rotF c l, 0, 0, now, 1⟩ = true := by
  obtain ⟨h1, h2, h3, h4, _⟩ := newF_ok h
  have hz := rotF_has h1 h4
  rw [dutyR_iff, withB_iff]
  exact ⟨h1, h2, hz, Int.le_refl _, by have q : 1 ≤ (rcvD c (rotF c l) 0).tr := (rcv_parts (rcv_of h1 hz).1).2.1; show 0 < (rcvD c (rotF c l) 0).tr; omega, h3, show (1 : Int) ≤ 1 by decide, show (1 : Int) ≤ 3 by decide⟩
/-- what is refused now, and later -/
theorem late_no {c : CfgL} {d : D6} {now more : Int} {ok : Bool} {draw : Int} (h0 : timeB now = true) (h1 : timeB (now + more) = true) (hm : 0 ≤ more) (h : (sentF c d now ok draw).2.2 ≠ 0) :
    (sentF c d now ok draw).1 = zD ∧ (sentF c d now ok draw).2.1 = false ∧ ((sentF c d (now + more) ok draw).2.2 = (sentF c d now ok draw).2.2 ∨ ((sentF c d now ok draw).2.2 ≠ 0 ∧ (sentF c d now ok draw).2.2 = 6 ∧ (sentF c d (now + more) ok draw).2.2 = 0)) := by
  cases hd : dutyR c d with
  | false =>
    rw [sentF_arg (by rw [hd]; rfl), sentF_arg (by rw [hd]; rfl)]
    exact ⟨rfl, rfl, .inl rfl⟩
  | true =>
    by_cases hl : now < d.du
    · rw [sentF_late hd h0 hl]
      refine ⟨rfl, rfl, ?_⟩
      by_cases hl2 : now + more < d.du
      · rw [sentF_late hd h1 hl2]
        exact .inl rfl
      · rw [sentF_ok hd h1 (by omega)]
        refine .inr ⟨by decide, rfl, ?_⟩
        split <;> rfl
    · rw [sentF_ok hd h0 (by omega)] at h
      exact absurd (by split <;> rfl) h
theorem late_ok {c : CfgL} {d : D6} {now : Int} {ok : Bool} {draw : Int} (h0 : timeB now = true) (h : (sentF c d now ok draw).2.2 = 0) : dutyR c d = true ∧ d.du ≤ now := by
  cases hd : dutyR c d with
  | false => rw [sentF_arg (by rw [hd]; rfl)] at h; exact absurd h (by decide)
  | true =>
    refine ⟨rfl, ?_⟩
    by_cases hl : now < d.du
    · rw [sentF_late hd h0 hl] at h; exact absurd h (by decide)
    · omega
/-- what is gone now is gone later -/
theorem late_gone {c : CfgL} {d : D6} {now more : Int} {ok : Bool} {draw : Int} (h0 : timeB now = true) (h1 : timeB (now + more) = true) (hm : 0 ≤ more) (h : (sentF c d now ok draw).2.2 = 0) (hg : (sentF c d now ok draw).2.1 = true) :
    (sentF c d (now + more) ok draw).2.2 = 0 ∧ (sentF c d (now + more) ok draw).2.1 = true ∧ d.st = 3 ∧ ok = true := by
  obtain ⟨hd, hl⟩ := late_ok h0 h
  rw [sentF_ok hd h0 hl] at hg
  rw [sentF_ok hd h1 (by omega)]
  cases ok with
  | false => exact absurd hg (by simp)
  | true =>
    rw [if_pos rfl] at hg ⊢
    unfold takenD at hg ⊢
    by_cases h3 : d.st = 3
    · rw [if_pos h3]
      exact ⟨rfl, rfl, h3, rfl⟩
    · rw [if_neg h3] at hg
      exact absurd hg (by simp)
/-- what goes on now goes on later, by so much later -/
theorem late_on {c : CfgL} {d : D6} {now more : Int} {ok : Bool} {draw : Int} (hn : 0 ≤ now) (hn2 : now < 274877906944) (hm : 0 ≤ more) (hm2 : more < 1073741824) (h : (sentF c d now ok draw).2.2 = 0) (hg : (sentF c d now ok draw).2.1 = false) :
    (sentF c d (now + more) ok draw).2.2 = 0 ∧ (sentF c d (now + more) ok draw).2.1 = false ∧ (sentF c d (now + more) ok draw).1 = { (sentF c d now ok draw).1 with du := (sentF c d now ok draw).1.du + more } ∧ now < (sentF c d now ok draw).1.du ∧ (sentF c d now ok draw).1.du ≤ 400000000000 ∧ dutyR c (sentF c d (now + more) ok draw).1 = true := by
  have h0 : timeB now = true := (time_iff _).2 ⟨by omega, by omega⟩
  have h1 : timeB (now + more) = true := (time_iff _).2 ⟨by omega, by omega⟩
  obtain ⟨hd, hl⟩ := late_ok h0 h
  obtain ⟨hc, hw⟩ := (dutyR_iff c d).1 hd
  rw [sentF_ok hd h0 hl] at hg ⊢
  rw [sentF_ok hd h1 (by omega)]
  cases ok with
  | true =>
    rw [if_pos rfl] at hg ⊢
    rw [if_pos rfl]
    unfold takenD at hg ⊢
    by_cases h3 : d.st = 3
    · rw [if_pos h3] at hg
      exact absurd hg (by simp)
    · obtain ⟨r1, r2⟩ := often_of hc
      rw [if_neg h3, if_neg h3]
      have e1 := addT_small (t := now) (d := c.2.2.1) (by omega)
      have e2 := addT_small (t := now + more) (d := c.2.2.1) (by omega)
      refine ⟨rfl, rfl, ?_, ?_, ?_, ?_⟩
      · show ({ turnD d (Bo.addT (now + more) c.2.2.1) with st := 2 } : D6) = { ({ turnD d (Bo.addT now c.2.2.1) with st := 2 } : D6) with du := Bo.addT now c.2.2.1 + more }
        rw [e1, e2]
        unfold turnD
        simp only [D6.mk.injEq, true_and, and_true]
        omega
      · show now < Bo.addT now c.2.2.1
        rw [e1]
        omega
      · show Bo.addT now c.2.2.1 ≤ _
        rw [e1]
        omega
      · rw [dutyR_iff]
        exact ⟨hc, with_turn hc hw (addT_time (by omega) (by omega)) (by decide) (by decide)⟩
  | false =>
    rw [if_neg (by decide)] at hg ⊢
    rw [if_neg (by decide)]
    have hp := ((withB_iff c d).1 hw).2.1
    have hB := (rcv_parts (rcv_of hc hp).1).1
    obtain ⟨_, _, w1, w2, _⟩ := wait_range hB d.tr draw
    obtain ⟨_, _, _, g1⟩ := again_ls c d now draw
    obtain ⟨_, _, _, g2⟩ := again_ls c d (now + more) draw
    refine ⟨rfl, rfl, ?_, ?_, ?_, ?_⟩
    · show againD c d (now + more) draw = { againD c d now draw with du := (againD c d now draw).du + more }
      rw [g1]
      unfold againD
      rw [addT_small (t := now) (by omega), addT_small (t := now + more) (by omega)]
      split <;> simp only [D6.mk.injEq, true_and, and_true] <;> omega
    · show now < (againD c d now draw).du
      rw [g1, addT_small (by omega)]
      omega
    · show (againD c d now draw).du ≤ _
      rw [g1, addT_small (by omega)]
      omega
    · rw [dutyR_iff]
      exact ⟨hc, with_again hc hw h1 draw⟩
end Go.Proofs.Ytaiacohnhhicpaa
