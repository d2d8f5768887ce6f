/-
  A store on whose disk just these records stand: behind any call it is again one, or tells why not.
-/
import Derived.Test.YtmjbhmmcpjhmcaaLogV
import Derived.Test.YtmjbhmmcpjhmcaaLogS
namespace Go.Proofs.Ytmjbhmmcpjhmcaa
open Go.RowKit
set_option linter.unusedVariables false

/-- a store, and its records -/
structure Holds (S : St) (l : List ByteArray) : Prop where
  inv : Inv S.ss S.g S.t l
  used : S.u = (l.length : Int)
  up : S.d = false
theorem Holds.right {S : St} {l : List ByteArray} (H : Holds S l) : stoB S.ss S.g S.u S.t = true := by
  have h := H.inv
  have hr := room_eq h.log
  have hu := H.used
  have hl := h.used
  rw [sto_iff]
  exact ⟨h.log, h.g1, by have := h.gt; have := h.most; omega, by omega, by omega, h.gt, h.most⟩
theorem Inv.boots {ss : List ByteArray} {g t : Int} {l : List ByteArray} (H : Inv ss g t l) : bootE ss = 0 ∧ bootS ss = ⟨ss, g, (l.length : Int), topZ ss g, false⟩ ∧ bootL ss = l ∧ Holds (bootS ss) l := by
  obtain ⟨h1, h2⟩ := H.found
  have hg := H.g1
  have e : bootE ss = 0 := bootE_3 H.log (by omega)
  have e2 : bootS ss = ⟨ss, g, (l.length : Int), topZ ss g, false⟩ := by unfold bootS; rw [if_pos e, h1, h2]
  refine ⟨e, e2, by unfold bootL; rw [if_pos e, h1, h2], ?_⟩
  rw [e2]
  exact ⟨H.top.2.2, rfl, rfl⟩
theorem newS_holds {n : Int} (h : newOk n = true) : newW n = 0 ∧ newS n = ⟨newD n, 1, 0, 1, false⟩ ∧ Holds (newS n) [] := by
  obtain ⟨h1, h2, h3⟩ := (newOk_iff n).1 h
  have e : newS n = ⟨newD n, 1, 0, 1, false⟩ := by unfold newS; rw [h]; rfl
  refine ⟨by unfold newW; rw [h]; rfl, e, ?_⟩
  rw [e]
  exact ⟨inv_new n.toNat (by omega) (by omega) (by omega), rfl, rfl⟩
theorem long_small {p : ByteArray} (h : p.size ≤ 96) : longB p = false := decide_eq_false (by omega)
theorem longs_small {l : List ByteArray} (h : ∀ p ∈ l, p.size ≤ 96) : l.any longB = false := by
  rw [List.any_eq_false]
  intro p hp
  rw [long_small (h p hp)]
  decide
theorem faults_none {fs : List (Int × Int)} (h : ∀ f ∈ fs, faultB f = true) : (fs.any fun f => !faultB f) = false := by
  rw [List.any_eq_false]
  intro f hf
  rw [h f hf]
  decide
/-- one record more -/
theorem Holds.append {S : St} {l : List ByteArray} (H : Holds S l) {p : ByteArray} (hp : p.size ≤ 96) {f : Int × Int} (hf : faultB f = true) :
    (appW S p f = 5) ∨ (appW S p f = 0 ∧ Holds (appS S p f) (l ++ [p])) ∨ (appW S p f = 8 ∧ Holds (appS S p f) l ∧ (appS S p f).g = S.g ∧ (appS S p f).u = S.u) ∨
      (appW S p f = 9 ∧ (appS S p f).d = true ∧ (Inv (appS S p f).ss S.g S.t l ∨ Inv (appS S p f).ss S.g S.t (l ++ [p]))) := by
  by_cases hu : S.u = roomZ S.ss
  · left
    unfold appW
    rw [appE_5 H.right hf (long_small hp) H.up hu]
    rfl
  right
  have h := H.inv
  have hr := room_eq h.log
  have hus := H.used
  have hl := h.used
  have E := h.appended (by omega : l.length < roomN S.ss) hp S.d hf
  have e1 : S.u.toNat = l.length := by omega
  have e2 : appE S p f = 0 := appE_6 H.right hf (long_small hp) H.up hu
  have e3 : appM S p f = wrM S.ss S.d [(recN S.ss S.g l.length, sealS S.g (l.length + 1) p)] [f] := by unfold appM; rw [e1, hus]
  rw [← e3] at E
  have e4 : appS S p f = ⟨(appM S p f).1, S.g, if (appM S p f).2.2 = 0 then S.u + 1 else S.u, S.t, (appM S p f).2.1⟩ := by unfold appS; rw [if_pos e2]
  have e5 : appW S p f = (appM S p f).2.2 := by unfold appW; rw [if_pos e2]
  rw [e4, e5]
  rcases E with ⟨a, b, c⟩ | ⟨a, b, c⟩ | ⟨a, b, c⟩
  · left
    rw [a, if_pos rfl]
    exact ⟨rfl, c, by show S.u + 1 = _; rw [List.length_append, hus]; rfl, b.trans H.up⟩
  · right; left
    rw [a, if_neg (by decide)]
    exact ⟨rfl, ⟨c, hus, b.trans H.up⟩, rfl, rfl⟩
  · right; right
    rw [a, if_neg (by decide)]
    exact ⟨rfl, b, c⟩
/-- all of them anew -/
theorem Holds.turn {S : St} {l : List ByteArray} (H : Holds S l) {m : List ByteArray} (hm : ∀ p ∈ m, p.size ≤ 96) {fs : List (Int × Int)} (hf : ∀ f ∈ fs, faultB f = true) :
    (turnW S m fs = 5) ∨ (turnW S m fs = 0 ∧ Holds (turnS S m fs) m) ∨ (turnW S m fs = 8 ∧ Holds (turnS S m fs) l ∧ (turnS S m fs).g = S.g ∧ (turnS S m fs).u = S.u) ∨
      (turnW S m fs = 9 ∧ (turnS S m fs).d = true ∧ (Inv (turnS S m fs).ss S.g (nextZ S.g S.t) l ∨ Inv (turnS S m fs).ss (nextZ S.g S.t) (nextZ S.g S.t) m)) := by
  by_cases hu : roomZ S.ss < (m.length : Int) ∨ 250 < nextZ S.g S.t
  · left
    unfold turnW
    rw [turnE_5 H.right (faults_none hf) (longs_small hm) H.up hu]
    rfl
  right
  have h := H.inv
  have hr := room_eq h.log
  have hn := next_gt S.g S.t
  have hus := H.used
  have E := h.turned (m := m) hn.1 (by omega) next_area (by omega) hm S.d hf
  have e2 : turnE S m fs = 0 := turnE_6 H.right (faults_none hf) (longs_small hm) H.up hu
  have e3 : turnM S m fs = wrM S.ss S.d (pagesG S.ss (nextZ S.g S.t) m) fs := rfl
  rw [← e3] at E
  have e4 : turnS S m fs = ⟨(turnM S m fs).1, if (turnM S m fs).2.2 = 0 then nextZ S.g S.t else S.g, if (turnM S m fs).2.2 = 0 then (m.length : Int) else S.u, nextZ S.g S.t, (turnM S m fs).2.1⟩ := by unfold turnS; rw [if_pos e2]
  have e5 : turnW S m fs = (turnM S m fs).2.2 := by unfold turnW; rw [if_pos e2]
  rw [e4, e5]
  rcases E with ⟨a, b, c⟩ | ⟨a, b, c⟩ | ⟨a, b, c⟩
  · left
    rw [a, if_pos rfl, if_pos rfl]
    exact ⟨rfl, c, rfl, b.trans H.up⟩
  · right; left
    rw [a, if_neg (by decide), if_neg (by decide)]
    exact ⟨rfl, ⟨c, hus, b.trans H.up⟩, rfl, rfl⟩
  · right; right
    rw [a, if_neg (by decide), if_neg (by decide)]
    exact ⟨rfl, b, c⟩
/-- a record that is torn midway is not there -/
theorem Inv.torn_low {ss : List ByteArray} {g t : Int} {l : List ByteArray} (H : Inv ss g t l) (hu : l.length < roomN ss) (p : ByteArray) (hp : p.size ≤ 96) (k : Nat) (hk : k ≤ 126) : Inv (tornL ss (recN ss g l.length) (sealS g (l.length + 1) p) k) g t l := by
  rcases H.torn hu p hp k (by omega) with h | h
  · exact h
  · exfalso
    have hr := room_eq H.log
    have g1 := H.g1
    have hgt := H.gt
    have hm := H.most
    have F := fits_rec (g := g) (i := l.length) g1 (by omega) (by omega) (by omega) hp
    have ha := at_lt H.log g hu
    have S := H.sec _ ha
    have s2 := (S.recs _ hu rfl).2.1 (Nat.le_refl _)
    have hlen : (tornL ss (recN ss g l.length) (sealS g (l.length + 1) p) k).length = ss.length := torn_len _ _ _ _
    have hru : roomN (tornL ss (recN ss g l.length) (sealS g (l.length + 1) p) k) = roomN ss := room_same hlen
    have T := h.sec (atN (roomN ss) g l.length) (by rw [hlen]; exact ha)
    rw [hru] at T
    have e := (T.recs l.length hu rfl).1 (by rw [List.length_append]; show l.length < l.length + 1; omega)
    have e1 : (l ++ [p]).getD l.length ⟨#[]⟩ = p := by
      rw [List.getD_eq_getElem?_getD, List.getElem?_append_right (Nat.le_refl _), Nat.sub_self]
      rfl
    rw [e1] at e
    unfold tornL at e
    rw [rec_at H.log, sec_set _ _ _ _ ha, if_pos rfl] at e
    have f1 := torn_e (secA ss (atN (roomN ss) g l.length)) (sealS g (l.length + 1) p) k S.size F.len (by omega)
    have f2 := torn_z (secA ss (atN (roomN ss) g l.length)) (sealS g (l.length + 1) p) k S.size F.len (by omega)
    rw [e, F.e, if_neg (by omega)] at f1
    rw [e, F.z, if_neg (by omega)] at f2
    exact s2 ⟨f1.symm, f2.symm⟩
theorem wr_zero (ss : List ByteArray) (d : Bool) (a : Nat) (t : ByteArray) (k : Int) : wrM ss d [(a, t)] [(0, k)] = (ss.set a t, d, 0) := by
  unfold wrM
  have h1 : ¬ ([((0 : Int), k)].getD 0 (0, 0)).1 = 1 := by show ¬ (0 : Int) = 1; decide
  have h2 : ¬ ([((0 : Int), k)].getD 0 (0, 0)).1 = 2 := by show ¬ (0 : Int) = 2; decide
  rw [if_neg h1, if_neg h2]
  rfl
theorem wr_torn (ss : List ByteArray) (d : Bool) (a : Nat) (t : ByteArray) (k : Int) : wrM ss d [(a, t)] [(2, k)] = (tornL ss a t k.toNat, true, 9) := by
  unfold wrM
  have h1 : ¬ ([((2 : Int), k)].getD 0 (0, 0)).1 = 1 := by show ¬ (2 : Int) = 1; decide
  rw [if_neg h1]
  exact if_pos rfl
theorem wr_not (ss : List ByteArray) (d : Bool) (a : Nat) (t : ByteArray) (k : Int) : wrM ss d [(a, t)] [(1, k)] = (ss, d, 8) := by
  unfold wrM
  exact if_pos rfl
/-- one record, and one that is torn -/
theorem alive_facts : ∃ S1 S2 : St, newW 10 = 0 ∧ appS (newS 10) ⟨#[97]⟩ (0, 0) = S1 ∧ appW (newS 10) ⟨#[97]⟩ (0, 0) = 0 ∧ appS S1 ⟨#[98]⟩ (2, 60) = S2 ∧ appW S1 ⟨#[98]⟩ (2, 60) = 9 ∧ bootL S2.ss = [⟨#[97]⟩] ∧ bootE S2.ss = 0 ∧ S2.ss.length = 10 ∧ S1.ss.length = 10 ∧ (newS 10).ss.length = 10 := by
  have hok : newOk 10 = true := by decide
  obtain ⟨h1, h2, H0⟩ := newS_holds hok
  have hl : (newS 10).ss.length = 10 := by rw [h2]; unfold newD; rw [List.length_set, List.length_replicate]; rfl
  have r0 := room_eq H0.inv.log
  have s1 : (⟨#[97]⟩ : ByteArray).size ≤ 96 := by decide
  have s2 : (⟨#[98]⟩ : ByteArray).size ≤ 96 := by decide
  have u0 := H0.used
  have E1 : appE (newS 10) ⟨#[97]⟩ (0, 0) = 0 := appE_6 H0.right (by decide) (long_small s1) H0.up (by rw [u0, r0.1]; show (0 : Int) ≠ _; omega)
  have M1 : appM (newS 10) ⟨#[97]⟩ (0, 0) = ((newS 10).ss.set (recN (newS 10).ss (newS 10).g 0) (sealS (newS 10).g (0 + 1) ⟨#[97]⟩), (newS 10).d, 0) := by
    unfold appM
    rw [u0, wr_zero]
    rfl
  have H1 : Holds (appS (newS 10) ⟨#[97]⟩ (0, 0)) [⟨#[97]⟩] := by
    rcases H0.append s1 (f := (0, 0)) (by decide) with c | c | c | c
    · unfold appW at c
      rw [if_pos E1, M1] at c
      exact absurd c (by decide)
    · exact c.2
    · have := c.1
      unfold appW at this
      rw [if_pos E1, M1] at this
      exact absurd this (by decide)
    · have := c.1
      unfold appW at this
      rw [if_pos E1, M1] at this
      exact absurd this (by decide)
  have W1 : appW (newS 10) ⟨#[97]⟩ (0, 0) = 0 := by unfold appW; rw [if_pos E1, M1]
  have hl1 : (appS (newS 10) ⟨#[97]⟩ (0, 0)).ss.length = 10 := by
    unfold appS
    rw [if_pos E1, M1]
    show (List.set _ _ _).length = 10
    rw [List.length_set]
    exact hl
  generalize hS1 : appS (newS 10) ⟨#[97]⟩ (0, 0) = S1 at *
  have r1 := room_eq H1.inv.log
  have u1 : S1.u = 1 := H1.used
  have E2 : appE S1 ⟨#[98]⟩ (2, 60) = 0 := appE_6 H1.right (by decide) (long_small s2) H1.up (by rw [u1, r1.1]; omega)
  have M2 : appM S1 ⟨#[98]⟩ (2, 60) = (tornL S1.ss (recN S1.ss S1.g 1) (sealS S1.g (1 + 1) ⟨#[98]⟩) 60, true, 9) := by
    unfold appM
    rw [u1, wr_torn]
    rfl
  have hlt : (1 : Nat) < roomN S1.ss := by omega
  have I2 : Inv (tornL S1.ss (recN S1.ss S1.g 1) (sealS S1.g (1 + 1) ⟨#[98]⟩) 60) S1.g S1.t [⟨#[97]⟩] := H1.inv.torn_low hlt ⟨#[98]⟩ s2 60 (by omega)
  have e2 : (appS S1 ⟨#[98]⟩ (2, 60)).ss = tornL S1.ss (recN S1.ss S1.g 1) (sealS S1.g (1 + 1) ⟨#[98]⟩) 60 := by unfold appS; rw [if_pos E2, M2]
  refine ⟨S1, _, h1, rfl, W1, rfl, by unfold appW; rw [if_pos E2, M2], ?_, ?_, ?_, hl1, hl⟩
  · rw [e2]
    exact I2.boots.2.2.1
  · rw [e2]
    exact I2.boots.1
  · rw [e2, torn_len]
    exact hl1
end Go.Proofs.Ytmjbhmmcpjhmcaa
