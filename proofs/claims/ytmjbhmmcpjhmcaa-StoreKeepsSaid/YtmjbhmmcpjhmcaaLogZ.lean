/-
  What is found on any disk once, behind one record more, and behind all of them anew: as stores.
-/
import Derived.Test.YtmjbhmmcpjhmcaaLogW
namespace Go.Proofs.Ytmjbhmmcpjhmcaa
open Go.RowKit
set_option linter.unusedVariables false

theorem wr_len : ∀ (ps : List (Nat × ByteArray)) (ss : List ByteArray) (d : Bool) (fs : List (Int × Int)), (wrM ss d ps fs).1.length = ss.length := by
  intro ps
  induction ps with
  | nil => intro ss d fs; rfl
  | cons q r ih =>
    intro ss d fs
    unfold wrM
    split
    · rfl
    · split
      · exact torn_len _ _ _ _
      · rw [ih, List.length_set]
theorem append_len (S : St) (p : ByteArray) (f : Int × Int) : (appS S p f).ss.length ≤ S.ss.length := by
  unfold appS
  split
  · show (appM S p f).1.length ≤ _
    unfold appM
    rw [wr_len]
    exact Nat.le_refl _
  · exact Nat.zero_le _
theorem turn_len (S : St) (l : List ByteArray) (fs : List (Int × Int)) : (turnS S l fs).ss.length ≤ S.ss.length := by
  unfold turnS
  split
  · show (turnM S l fs).1.length ≤ _
    unfold turnM
    rw [wr_len]
    exact Nat.le_refl _
  · exact Nat.zero_le _
theorem boot_len (ss : List ByteArray) : (bootS ss).ss.length ≤ ss.length := by
  unfold bootS
  split
  · exact Nat.le_refl _
  · exact Nat.zero_le _
/-- a disk that tells a store -/
structure Tells (ss : List ByteArray) (g u t : Int) (l : List ByteArray) : Prop where
  er : bootE ss = 0
  sto : bootS ss = ⟨ss, g, u, t, false⟩
  tell : bootL ss = l
  log : logB ss = true
  new : newZ ss = g
  pos : g ≠ 0
  recs : recL ss g = l
  used : u = (l.length : Int)
  right : stoB ss g u t = true
  small : ∀ p ∈ l, p.size ≤ 96
  few : l.length ≤ roomN ss
  g1 : 1 ≤ g
  gt : g ≤ t
  most : t ≤ 250
  first : ∀ x ∈ ss, gOf x ≤ 250 → gOf x ≤ t
theorem boot_cases (ss : List ByteArray) : ((bootE ss = 1 ∨ bootE ss = 4) ∧ bootL ss = []) ∨ ∃ g u t l, Tells ss g u t l := by
  by_cases h : bootE ss = 0
  · right
    have hL : logB ss = true := by
      cases c : logB ss
      · rw [bootE_1 c] at h
        exact absurd h (by decide)
      · rfl
    have hz : newZ ss ≠ 0 := by
      intro c
      rw [bootE_2 hL c] at h
      exact absurd h (by decide)
    have hb := new_bounds ss
    have hr := room_eq hL
    have ht := top_ge ss (newZ ss)
    have ht2 := top_le ss (newZ ss) 250 hb.2 (fun x _ h => h)
    have hm := recs_most ss (newZ ss)
    refine ⟨newZ ss, ((recL ss (newZ ss)).length : Int), topZ ss (newZ ss), recL ss (newZ ss), h, by unfold bootS; rw [if_pos h], by unfold bootL; rw [if_pos h], hL, rfl, hz, rfl, rfl, ?_, recs_small, hm, by omega, ht.1, ht2, ht.2⟩
    rw [sto_iff]
    exact ⟨hL, by omega, hb.2, by omega, by omega, ht.1, ht2⟩
  · left
    refine ⟨?_, by unfold bootL; rw [if_neg h]⟩
    cases c : logB ss
    · left
      exact bootE_1 c
    · by_cases z : newZ ss = 0
      · right
        exact bootE_2 c z
      · exact absurd (bootE_3 c z) h
theorem Stands.boots {tt : List ByteArray} {g : Int} {m : List ByteArray} (H : Stands tt g m) : bootE tt = 0 ∧ (bootS tt).g = g ∧ bootL tt = m := by
  obtain ⟨h1, h2⟩ := H.found
  have g1 := H.g1
  have e : bootE tt = 0 := bootE_3 H.log (by omega)
  refine ⟨e, ?_, ?_⟩
  · unfold bootS
    rw [if_pos e]
    exact h1
  · unfold bootL
    rw [if_pos e, h1, h2]
theorem Tells.more {ss : List ByteArray} {g u t : Int} {l : List ByteArray} (T : Tells ss g u t l) {p : ByteArray} (hp : p.size ≤ 96) :
    appW ⟨ss, g, u, t, false⟩ p (0, 0) = 5 ∨ (appW ⟨ss, g, u, t, false⟩ p (0, 0) = 0 ∧ bootE (appS ⟨ss, g, u, t, false⟩ p (0, 0)).ss = 0 ∧ (bootS (appS ⟨ss, g, u, t, false⟩ p (0, 0)).ss).g = g ∧ ∃ r, bootL (appS ⟨ss, g, u, t, false⟩ p (0, 0)).ss = (l ++ [p]) ++ r) := by
  have hr := room_eq T.log
  by_cases hu : u = roomZ ss
  · left
    unfold appW
    rw [appE_5 (S := ⟨ss, g, u, t, false⟩) T.right (by decide) (long_small hp) rfl hu]
    rfl
  right
  have hlt : l.length < roomN ss := by
    have := T.few
    have := T.used
    omega
  have hg := T.g1
  have e := appE_6 (S := ⟨ss, g, u, t, false⟩) (p := p) (f := (0, 0)) T.right (by decide) (long_small hp) rfl hu
  have m : appM ⟨ss, g, u, t, false⟩ p (0, 0) = (ss.set (recN ss g l.length) (sealS g (l.length + 1) p), false, 0) := by
    unfold appM
    rw [wr_zero]
    show (ss.set (recN ss g u.toNat) (sealS g (u + 1) p), false, (0 : Int)) = _
    rw [T.used]
    rfl
  have s : (appS ⟨ss, g, u, t, false⟩ p (0, 0)).ss = ss.set (recN ss g l.length) (sealS g (l.length + 1) p) := by unfold appS; rw [if_pos e, m]
  obtain ⟨f1, r, f2⟩ := more_found T.log T.new T.pos T.recs hlt hp
  have F := fits_rec (g := g) (i := l.length) (p := p) hg (by have := T.gt; have := T.most; omega) (by omega) (by omega) hp
  have hL := log_set T.log (recN ss g l.length) F.len
  have be := bootE_3 hL (by rw [f1]; exact T.pos)
  rw [s]
  refine ⟨by unfold appW; rw [if_pos e, m], be, ?_, r, ?_⟩
  · unfold bootS
    rw [if_pos be]
    exact f1
  · unfold bootL
    rw [if_pos be, f1, f2]
/-- what all of them anew leave -/
structure Anew (ss : List ByteArray) (g u t : Int) (m : List ByteArray) (h : Int) (tt : List ByteArray) : Prop where
  why : turnW ⟨ss, g, u, t, false⟩ m [] = 0
  sto : turnS ⟨ss, g, u, t, false⟩ m [] = ⟨tt, h, (m.length : Int), h, false⟩
  stands : Stands tt h m
  len : tt.length = ss.length
  gt : t < h
  le : h ≤ t + 2
  odd : (h - g) % 2 ≠ 0
theorem Tells.anew {ss : List ByteArray} {g u t : Int} {l : List ByteArray} (T : Tells ss g u t l) {m : List ByteArray} (hm : ∀ p ∈ m, p.size ≤ 96) :
    (turnW ⟨ss, g, u, t, false⟩ m [] = 5 ∧ (roomZ ss < (m.length : Int) ∨ 249 ≤ t)) ∨ ∃ h tt, Anew ss g u t m h tt := by
  have hr := room_eq T.log
  have hn := next_gt g t
  by_cases hu : roomZ ss < (m.length : Int) ∨ 250 < nextZ g t
  · left
    refine ⟨?_, ?_⟩
    · unfold turnW
      rw [turnE_5 (S := ⟨ss, g, u, t, false⟩) T.right rfl (longs_small hm) rfl hu]
      rfl
    · rcases hu with h | h
      · exact Or.inl h
      · right; omega
  right
  have e := turnE_6 (S := ⟨ss, g, u, t, false⟩) (l := m) (fs := []) T.right rfl (longs_small hm) rfl hu
  obtain ⟨tt, h1, h2, h3⟩ := turned_stands T.log T.new T.pos T.gt T.first (h := nextZ g t) (m := m) hn.1 (by omega) next_area (by omega) hm false
  have hM : turnM ⟨ss, g, u, t, false⟩ m [] = (tt, false, 0) := h1
  refine ⟨nextZ g t, tt, by unfold turnW; rw [if_pos e, hM], by unfold turnS; rw [if_pos e, hM]; rfl, h2, h3, hn.1, hn.2, ?_⟩
  unfold nextZ
  split <;> omega
theorem Anew.right {ss : List ByteArray} {g u t : Int} {m : List ByteArray} {h : Int} {tt : List ByteArray} (A : Anew ss g u t m h tt) : stoB tt h (m.length : Int) h = true := by
  have H := A.stands
  have hr := room_eq H.log
  have hu := H.used
  rw [sto_iff]
  exact ⟨H.log, H.g1, H.most, by omega, by omega, Int.le_refl _, H.most⟩
theorem Anew.full {ss : List ByteArray} {g u t : Int} {m : List ByteArray} {h : Int} {tt : List ByteArray} (A : Anew ss g u t m h tt) {p : ByteArray} (hp : p.size ≤ 96) (hu : (m.length : Int) = roomZ ss) : appW ⟨tt, h, (m.length : Int), h, false⟩ p (0, 0) = 5 := by
  have e : roomZ tt = roomZ ss := by unfold roomZ; rw [A.len]
  unfold appW
  rw [appE_5 (S := ⟨tt, h, (m.length : Int), h, false⟩) A.right (by decide) (long_small hp) rfl (by show (m.length : Int) = roomZ tt; rw [e]; exact hu)]
  rfl
theorem Anew.more {ss : List ByteArray} {g u t : Int} {m : List ByteArray} {h : Int} {tt : List ByteArray} (A : Anew ss g u t m h tt) {p : ByteArray} (hp : p.size ≤ 96) (hu : (m.length : Int) ≠ roomZ ss) :
    appW ⟨tt, h, (m.length : Int), h, false⟩ p (0, 0) = 0 ∧ bootE (appS ⟨tt, h, (m.length : Int), h, false⟩ p (0, 0)).ss = 0 ∧ bootL (appS ⟨tt, h, (m.length : Int), h, false⟩ p (0, 0)).ss = m ++ [p] := by
  have e : roomZ tt = roomZ ss := by unfold roomZ; rw [A.len]
  have H := A.stands
  have hr := room_eq H.log
  have hus := H.used
  have hne : (m.length : Int) ≠ roomZ tt := by rw [e]; exact hu
  have hlt : m.length < roomN tt := by omega
  have e := appE_6 (S := ⟨tt, h, (m.length : Int), h, false⟩) (p := p) (f := (0, 0)) A.right (by decide) (long_small hp) rfl hne
  have hM : appM ⟨tt, h, (m.length : Int), h, false⟩ p (0, 0) = (tt.set (recN tt h m.length) (sealS h (m.length + 1) p), false, 0) := by
    unfold appM
    rw [wr_zero]
    rfl
  have s : (appS ⟨tt, h, (m.length : Int), h, false⟩ p (0, 0)).ss = tt.set (recN tt h m.length) (sealS h (m.length + 1) p) := by unfold appS; rw [if_pos e, hM]
  have B := (H.more hlt hp).boots
  rw [s]
  exact ⟨by unfold appW; rw [if_pos e, hM], B.1, B.2.2⟩
end Go.Proofs.Ytmjbhmmcpjhmcaa
