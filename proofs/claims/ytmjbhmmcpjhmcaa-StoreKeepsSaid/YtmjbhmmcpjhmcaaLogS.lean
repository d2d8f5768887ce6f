/-
  What is found on any disk behind one more record, and behind all of them anew.
-/
import Derived.Test.YtmjbhmmcpjhmcaaLogR
namespace Go.Proofs.Ytmjbhmmcpjhmcaa
open Go.RowKit
set_option linter.unusedVariables false

/-- the records m of generation g stand on the disk, and no more of it -/
structure Stands (tt : List ByteArray) (g : Int) (m : List ByteArray) : Prop where
  log : logB tt = true
  g1 : 1 ≤ g
  most : g ≤ 250
  used : m.length ≤ roomN tt
  small : ∀ p ∈ m, p.size ≤ 96
  head : headZ (secA tt (hdN g)) (hdN g) = g
  other : headZ (secA tt (1 - hdN g)) (1 - hdN g) < g
  recs : ∀ j, j < m.length → secA tt (atN (roomN tt) g j) = sealS g (j + 1) (m.getD j ⟨#[]⟩)
  free : ∀ j, m.length ≤ j → j < roomN tt → gOf (secA tt (atN (roomN tt) g j)) ≠ g
theorem Stands.found {tt : List ByteArray} {g : Int} {m : List ByteArray} (H : Stands tt g m) : newZ tt = g ∧ recL tt g = m := by
  have hr := room_eq H.log
  have g1 := H.g1
  have hm := H.most
  have hu := H.used
  refine ⟨new_is H.head H.other, recs_is tt g m H.used (fun j hj => ?_) (fun hlt => ?_)⟩
  · rw [rec_at H.log, H.recs j hj]
    exact isRec_seal (fits_rec g1 hm (by omega) (by omega) (getD_small H.small j))
  · rw [rec_at H.log, Bool.eq_false_iff]
    intro e
    exact H.free _ (Nat.le_refl _) hlt ((isRec_iff _ _ _).1 e).2.1
theorem Stands.more {tt : List ByteArray} {g : Int} {m : List ByteArray} (H : Stands tt g m) (hu : m.length < roomN tt) {p : ByteArray} (hp : p.size ≤ 96) : Stands (tt.set (recN tt g m.length) (sealS g (m.length + 1) p)) g (m ++ [p]) := by
  have hr := room_eq H.log
  have g1 := H.g1
  have hm := H.most
  have F := fits_rec (g := g) (i := m.length) g1 hm (by omega) (by omega) hp
  have ha := at_lt H.log g hu
  have h2 := at_two (roomN tt) g m.length
  have hd := hd_lt g
  rw [rec_at H.log]
  have hlen : (m ++ [p]).length = m.length + 1 := by simp
  refine ⟨log_set H.log _ F.len, g1, hm, by rw [room_set, hlen]; exact hu, ?_, ?_, ?_, fun j hj => ?_, fun j hj hjr => ?_⟩
  · intro q hq
    rcases List.mem_append.1 hq with hq | hq
    · exact H.small q hq
    · simp at hq
      subst hq
      exact hp
  · rw [sec_set _ _ _ _ ha, if_neg (by omega)]
    exact H.head
  · rw [sec_set _ _ _ _ ha, if_neg (by omega)]
    exact H.other
  · rw [hlen] at hj
    rw [room_set, sec_set _ _ _ _ ha]
    by_cases e : j = m.length
    · subst e
      rw [if_pos rfl, List.getD_eq_getElem?_getD, List.getElem?_append_right (Nat.le_refl _), Nat.sub_self]
      rfl
    · rw [if_neg (fun h => e (at_inj h)), H.recs j (by omega), List.getD_eq_getElem?_getD, List.getD_eq_getElem?_getD, List.getElem?_append_left (by omega)]
  · rw [hlen] at hj
    rw [room_set] at hjr ⊢
    rw [sec_set _ _ _ _ ha, if_neg (fun h => by have := at_inj h; omega)]
    exact H.free j (by omega) hjr

/-- the disk while the records m of generation h are written on ss, without a fault -/
structure Half (ss tt : List ByteArray) (h : Int) (m : List ByteArray) (k : Nat) : Prop where
  len : tt.length = ss.length
  log : logB tt = true
  recs : ∀ j, j < k → secA tt (atN (roomN ss) h j) = sealS h (j + 1) (m.getD j ⟨#[]⟩)
  rest : ∀ i, i < ss.length → (∀ j, j < k → i ≠ atN (roomN ss) h j) → secA tt i = secA ss i
theorem Half.step {ss tt : List ByteArray} {h : Int} {m : List ByteArray} {k : Nat} (hL : logB ss = true) (h0 : 1 ≤ h) (h1 : h ≤ 250) (hm : m.length ≤ roomN ss) (hs : ∀ p ∈ m, p.size ≤ 96) (hk : k < m.length) (M : Half ss tt h m k) :
    Half ss (tt.set (recN ss h k) (sealS h (k + 1) (m.getD k ⟨#[]⟩))) h m (k + 1) := by
  have hr := room_eq hL
  have F := fits_rec (g := h) (i := k) (p := m.getD k ⟨#[]⟩) h0 h1 (by omega) (by omega) (getD_small hs k)
  have ha := at_lt hL h (by omega : k < roomN ss)
  have hl := M.len
  rw [rec_at hL]
  refine ⟨by rw [List.length_set]; exact hl, log_set M.log _ F.len, fun j hj => ?_, fun i hi hne => ?_⟩
  · rw [sec_set _ _ _ _ (by omega)]
    by_cases e : j = k
    · subst e
      rw [if_pos rfl]
    · rw [if_neg (fun h => e (at_inj h))]
      exact M.recs j (by omega)
  · rw [sec_set _ _ _ _ (by omega), if_neg (hne k (by omega))]
    exact M.rest i hi (fun j hj => hne j (by omega))
theorem half_ends {ss : List ByteArray} {h : Int} {m : List ByteArray} {d : Bool} (hL : logB ss = true) (h0 : 1 ≤ h) (h1 : h ≤ 250) (hm : m.length ≤ roomN ss) (hs : ∀ p ∈ m, p.size ≤ 96) :
    ∀ (n k : Nat) (tt : List ByteArray), n + k = m.length → Half ss tt h m k →
      ∃ uu, Half ss uu h m m.length ∧ wrM tt d ((pagesG ss h m).drop k) [] = (uu.set (hdN h) (sealS h 0 ⟨#[]⟩), d, 0) := by
  have nof : ∀ k, ([] : List (Int × Int)).getD k (0, 0) = (0, 0) := fun _ => rfl
  intro n
  induction n with
  | zero =>
    intro k tt hk M
    obtain rfl : k = m.length := by omega
    refine ⟨tt, M, ?_⟩
    have hp := pages_at ss h m m.length (Nat.le_refl _)
    unfold pageG at hp
    rw [if_neg (Nat.lt_irrefl _)] at hp
    have hlen : m.length < (pagesG ss h m).length := by rw [pages_length]; omega
    have e := wr_ok tt d (pagesG ss h m) [] m.length hlen (by rw [nof]; decide) (by rw [nof]; decide)
    rw [List.drop_nil, hp, List.drop_of_length_le (i := m.length + 1) (by rw [pages_length]; exact Nat.le_refl _)] at e
    exact e
  | succ n ih =>
    intro k tt hk M
    have hkm : k < m.length := by omega
    have hp := pages_at ss h m k (by omega)
    unfold pageG at hp
    rw [if_pos hkm] at hp
    have hlen : k < (pagesG ss h m).length := by rw [pages_length]; omega
    have e := wr_ok tt d (pagesG ss h m) [] k hlen (by rw [nof]; decide) (by rw [nof]; decide)
    rw [List.drop_nil, List.drop_nil, hp] at e
    rw [e]
    exact ih (k + 1) _ (by omega) (M.step hL h0 h1 hm hs hkm)
/-- all records anew, on any disk that tells a store: they are found, and no more -/
theorem turned_stands {ss : List ByteArray} (hL : logB ss = true) {g t : Int} (hg : newZ ss = g) (hg0 : g ≠ 0) (ht : g ≤ t) (hf : ∀ x ∈ ss, gOf x ≤ 250 → gOf x ≤ t) {h : Int} {m : List ByteArray} (hh : t < h) (h2 : h ≤ 250) (ha : hdN h = 1 - hdN g) (hm : m.length ≤ roomN ss) (hs : ∀ p ∈ m, p.size ≤ 96) (d : Bool) :
    ∃ tt, wrM ss d (pagesG ss h m) [] = (tt, d, 0) ∧ Stands tt h m ∧ tt.length = ss.length := by
  have hn := new_bounds ss
  have hr := room_eq hL
  have hd := hd_lt g
  have hd' := hd_lt h
  have h0 : 1 ≤ h := by omega
  obtain ⟨uu, M, e⟩ := half_ends (d := d) hL h0 h2 hm hs m.length 0 ss rfl ⟨rfl, hL, fun j hj => absurd hj (Nat.not_lt_zero _), fun _ _ _ => rfl⟩
  have hl := M.len
  have F := fits_head h0 h2
  have hlt : hdN h < uu.length := by omega
  have hru : roomN (uu.set (hdN h) (sealS h 0 ⟨#[]⟩)) = roomN ss := by rw [room_set]; exact room_same hl
  have H := new_head (ss := ss) (by omega)
  rw [hg] at H
  refine ⟨_, e, ⟨log_set M.log _ F.len, h0, h2, by rw [hru]; exact hm, hs, ?_, ?_, fun j hj => ?_, fun j hj hjr => ?_⟩, by rw [List.length_set]; exact hl⟩
  · rw [sec_set _ _ _ _ hlt, if_pos rfl]
    exact headZ_seal h0 h2
  · rw [sec_set _ _ _ _ hlt, if_neg (by omega), M.rest _ (by omega) (fun j _ => by have := at_two (roomN ss) h j; omega), show 1 - hdN h = hdN g by omega, H.1]
    omega
  · have := at_two (roomN ss) h j
    rw [hru, sec_set _ _ _ _ hlt, if_neg (by omega)]
    exact M.recs j hj
  · rw [hru] at hjr ⊢
    have := at_two (roomN ss) h j
    have hlt2 := at_lt hL h hjr
    rw [sec_set _ _ _ _ hlt, if_neg (by omega), M.rest _ hlt2 (fun i hi e => by have := at_inj e; omega)]
    intro e
    have := hf _ (sec_mem hlt2) (by omega)
    omega
/-- one record more, on any disk that tells a store: it is found behind them -/
theorem more_found {ss : List ByteArray} (hL : logB ss = true) {g : Int} (hg : newZ ss = g) (hg0 : g ≠ 0) {l : List ByteArray} (hl : recL ss g = l) (hu : l.length < roomN ss) {p : ByteArray} (hp : p.size ≤ 96) :
    newZ (ss.set (recN ss g l.length) (sealS g (l.length + 1) p)) = g ∧ ∃ r, recL (ss.set (recN ss g l.length) (sealS g (l.length + 1) p)) g = (l ++ [p]) ++ r := by
  have hn := new_bounds ss
  have hr := room_eq hL
  have hd := hd_lt g
  have F := fits_rec (g := g) (i := l.length) (p := p) (by omega) (by omega) (by omega) (by omega) hp
  have hlt := at_lt hL g hu
  have h2 := at_two (roomN ss) g l.length
  have H := new_head (ss := ss) (by omega)
  rw [hg] at H
  have hlen : (l ++ [p]).length = l.length + 1 := by simp
  have hL' := log_set hL (recN ss g l.length) F.len
  refine ⟨new_is ?_ ?_, ?_⟩
  · rw [rec_at hL, sec_set _ _ _ _ hlt, if_neg (by omega)]
    exact H.1
  · rw [rec_at hL, sec_set _ _ _ _ hlt, if_neg (by omega)]
    exact H.2
  · refine ⟨_, recs_from _ g (l ++ [p]) (by rw [room_set, hlen]; exact hu) (fun j hj => ?_)⟩
    rw [hlen] at hj
    rw [rec_at hL', room_set, rec_at hL, sec_set _ _ _ _ hlt]
    by_cases e : j = l.length
    · subst e
      rw [if_pos rfl, List.getD_eq_getElem?_getD, List.getElem?_append_right (Nat.le_refl _), Nat.sub_self]
      exact isRec_seal F
    · rw [if_neg (fun h => e (at_inj h)), ← rec_at hL]
      have hj2 : j < (recL ss g).length := by rw [hl]; omega
      have := recs_at hj2
      rw [hl] at this
      rw [List.getD_eq_getElem?_getD, List.getElem?_append_left (by omega)]
      rw [List.getD_eq_getElem?_getD] at this
      exact this
end Go.Proofs.Ytmjbhmmcpjhmcaa
