/-
  What is true of a disk on which just these records stand: behind a write, torn or not, of a record or of all of them anew.
-/
import Derived.Test.YtmjbhmmcpjhmcaaLogP
namespace Go.Proofs.Ytmjbhmmcpjhmcaa
open Go.RowKit
set_option linter.unusedVariables false

/-- a sector's last bytes -/
def eOf (t : ByteArray) : Int := ((bAt t 126).toNat : Int)
def zOf (t : ByteArray) : Int := ((bAt t 127).toNat : Int)
theorem gOf_at (t : ByteArray) : gOf t = ((bAt t 0).toNat : Int) := rfl
/-- a sector of a disk on which the records l of generation g stand, no other one having been begun above t -/
structure SecOk (R : Nat) (g t : Int) (l : List ByteArray) (i : Nat) (x : ByteArray) : Prop where
  size : x.size = 128
  first : gOf x ≤ t
  last : eOf x ≤ gOf x
  head : i = hdN g → x = sealS g 0 ⟨#[]⟩
  other : i = 1 - hdN g → headZ x i < g
  recs : ∀ j, j < R → i = atN R g j → (j < l.length → x = sealS g (j + 1) (l.getD j ⟨#[]⟩)) ∧ (l.length ≤ j → ¬ (eOf x = g ∧ zOf x = (j : Int) + 1)) ∧ gOf x ≤ g
/-- just these records stand on the disk -/
structure Inv (ss : List ByteArray) (g t : Int) (l : List ByteArray) : Prop where
  log : logB ss = true
  g1 : 1 ≤ g
  gt : g ≤ t
  most : t ≤ 250
  used : l.length ≤ roomN ss
  small : ∀ p ∈ l, p.size ≤ 96
  sec : ∀ i, i < ss.length → SecOk (roomN ss) g t l i (secA ss i)

theorem getD_small {l : List ByteArray} (h : ∀ p ∈ l, p.size ≤ 96) (j : Nat) : (l.getD j ⟨#[]⟩).size ≤ 96 := by
  rw [List.getD_eq_getElem?_getD]
  cases e : l[j]? with
  | none => show 0 ≤ 96; omega
  | some p => exact h p (List.mem_of_getElem? e)
theorem log_set_iff {ss : List ByteArray} (h : logB ss = true) (a : Nat) {x : ByteArray} (hx : x.size = 128) : logB (ss.set a x) = true := log_set h a hx
/-- what is found -/
theorem Inv.found {ss : List ByteArray} {g t : Int} {l : List ByteArray} (H : Inv ss g t l) : newZ ss = g ∧ recL ss g = l := by
  have hr := room_eq H.log
  have hg := H.gt
  have hm := H.most
  have g1 := H.g1
  have hd := hd_lt g
  refine ⟨new_is ?_ ?_, recs_is ss g l H.used ?_ ?_⟩
  · rw [(H.sec (hdN g) (by omega)).head rfl]
    exact headZ_seal H.g1 (by omega)
  · exact (H.sec (1 - hdN g) (by omega)).other rfl
  · intro j hj
    have hu := H.used
    rw [rec_at H.log]
    rw [((H.sec _ (at_lt H.log g (by omega : j < roomN ss))).recs j (by omega) rfl).1 hj]
    exact isRec_seal (fits_rec g1 (by omega) (by omega) (by omega) (getD_small H.small j))
  · intro hlt
    rw [rec_at H.log, Bool.eq_false_iff]
    intro e
    obtain ⟨e1, e2, e3⟩ := (isRec_iff _ _ _).1 e
    have S := H.sec _ (at_lt H.log g hlt)
    have h1 := (S.recs _ hlt rfl).2.1 (Nat.le_refl _)
    obtain ⟨_, h2, _⟩ := open_parts e1
    rw [ends_iff S.size] at h2
    apply h1
    refine ⟨?_, ?_⟩
    · unfold eOf
      rw [← h2.1]
      exact e2
    · unfold zOf
      rw [← h2.2]
      exact e3
theorem Inv.top {ss : List ByteArray} {g t : Int} {l : List ByteArray} (H : Inv ss g t l) : g ≤ topZ ss g ∧ topZ ss g ≤ t ∧ Inv ss g (topZ ss g) l := by
  have h1 := (top_ge ss g).1
  have hm := H.most
  have h2 : topZ ss g ≤ t := by
    refine top_le ss g t H.gt fun x hx _ => ?_
    obtain ⟨i, hi, rfl⟩ := mem_sec hx
    exact (H.sec i hi).first
  refine ⟨h1, h2, H.log, H.g1, h1, by omega, H.used, H.small, fun i hi => ?_⟩
  have S := H.sec i hi
  refine ⟨S.size, ?_, S.last, S.head, S.other, S.recs⟩
  have := S.first
  exact (top_ge ss g).2 _ (sec_mem hi) (by omega)
theorem Inv.raise {ss : List ByteArray} {g t t' : Int} {l : List ByteArray} (H : Inv ss g t l) (h : t ≤ t') (h2 : t' ≤ 250) : Inv ss g t' l :=
  ⟨H.log, H.g1, by have := H.gt; omega, h2, H.used, H.small, fun i hi => by have S := H.sec i hi; exact ⟨S.size, by have := S.first; omega, S.last, S.head, S.other, S.recs⟩⟩
/-- one sector is another one -/
theorem Inv.put {ss : List ByteArray} {g t : Int} {l : List ByteArray} (H : Inv ss g t l) (a : Nat) (ha : a < ss.length) (x : ByteArray) (hx : SecOk (roomN ss) g t l a x) : Inv (ss.set a x) g t l := by
  refine ⟨log_set H.log a hx.size, H.g1, H.gt, H.most, by rw [room_set]; exact H.used, H.small, fun i hi => ?_⟩
  rw [List.length_set] at hi
  rw [room_set, sec_set ss a x i ha]
  by_cases e : i = a
  · subst e
    rw [if_pos rfl]
    exact hx
  · rw [if_neg e]
    exact H.sec i hi

/-- the bytes of a sealed sector -/
theorem Fits.e {g n : Int} {p : ByteArray} (F : Fits g n p) : eOf (sealS g n p) = g := by
  have b := F.bounds
  unfold eOf
  rw [F.at126]
  exact byte_back (by omega) (by omega)
theorem Fits.z {g n : Int} {p : ByteArray} (F : Fits g n p) : zOf (sealS g n p) = n := by
  have b := F.bounds
  unfold zOf
  rw [F.at127]
  exact byte_back (by omega) (by omega)
/-- the bytes of one that is torn -/
theorem torn_g (old text : ByteArray) (k : Nat) (ho : old.size = 128) (ht : text.size = 128) (hk : k ≤ 128) : gOf (tornS old text k) = if 0 < k then gOf text else gOf old := by
  rw [gOf_at, torn_at old text k ho ht hk]
  split <;> rfl
theorem torn_e (old text : ByteArray) (k : Nat) (ho : old.size = 128) (ht : text.size = 128) (hk : k ≤ 128) : eOf (tornS old text k) = if 126 < k then eOf text else eOf old := by
  unfold eOf
  rw [torn_at old text k ho ht hk]
  split <;> rfl
theorem torn_z (old text : ByteArray) (k : Nat) (ho : old.size = 128) (ht : text.size = 128) (hk : k ≤ 128) : zOf (tornS old text k) = if 127 < k then zOf text else zOf old := by
  unfold zOf
  rw [torn_at old text k ho ht hk]
  split <;> rfl
/-- torn at its last byte over one that ends so, or behind it, it is whole -/
theorem torn_whole (old : ByteArray) {g n : Int} {p : ByteArray} (F : Fits g n p) (ho : old.size = 128) (k : Nat) (hk : k ≤ 128) (h1 : 126 < k) (h : zOf (tornS old (sealS g n p) k) = n) : tornS old (sealS g n p) k = sealS g n p := by
  refine torn_end old F ho k hk ?_
  by_cases e : k = 128
  · exact Or.inl e
  · refine Or.inr ⟨by omega, ?_⟩
    rw [torn_z old _ k ho F.len hk, if_neg (by omega)] at h
    apply UInt8.toNat_inj.1
    have b := F.bounds
    have := byte_back (x := n) (by omega) (by omega)
    unfold zOf at h
    omega

/-- a record more, whole -/
theorem Inv.more {ss : List ByteArray} {g t : Int} {l : List ByteArray} (H : Inv ss g t l) (hu : l.length < roomN ss) (p : ByteArray) (hp : p.size ≤ 96) :
    Inv (ss.set (recN ss g l.length) (sealS g (l.length + 1) p)) g t (l ++ [p]) := by
  have hr := room_eq H.log
  have g1 := H.g1
  have hgt := H.gt
  have hm := H.most
  have F := fits_rec (g := g) (i := l.length) g1 (by omega) (by omega) (by omega) hp
  have ha := at_lt H.log g hu
  have h2 := at_two (roomN ss) g l.length
  have hd := hd_lt g
  rw [rec_at H.log]
  refine ⟨log_set H.log _ F.len, g1, hgt, hm, by rw [room_set, List.length_append]; show l.length + 1 ≤ _; omega, ?_, fun i hi => ?_⟩
  · intro q hq
    rcases List.mem_append.1 hq with hq | hq
    · exact H.small q hq
    · simp at hq
      subst hq
      exact hp
  · rw [List.length_set] at hi
    rw [room_set, sec_set ss _ _ i ha]
    by_cases e : i = atN (roomN ss) g l.length
    · rw [if_pos e]
      refine ⟨F.len, by rw [F.gen]; exact hgt, by rw [F.gen, F.e]; exact Int.le_refl _, fun h => by omega, fun h => by omega, fun j hj hij => ?_⟩
      obtain rfl : l.length = j := at_inj (e.symm.trans hij)
      refine ⟨fun _ => ?_, fun h => absurd h (by rw [List.length_append]; simp), by rw [F.gen]; exact Int.le_refl _⟩
      rw [List.getD_eq_getElem?_getD, List.getElem?_append_right (Nat.le_refl _), Nat.sub_self]
      rfl
    · rw [if_neg e]
      have S := H.sec i hi
      refine ⟨S.size, S.first, S.last, S.head, S.other, fun j hj hij => ?_⟩
      obtain ⟨s1, s2, s3⟩ := S.recs j hj hij
      have hne : j ≠ l.length := fun h => e (by rw [hij, h])
      refine ⟨fun h => ?_, fun h => s2 (by rw [List.length_append] at h; omega), s3⟩
      rw [List.length_append] at h
      have h' : j < l.length := by simp at h; omega
      rw [s1 h', List.getD_eq_getElem?_getD, List.getD_eq_getElem?_getD, List.getElem?_append_left h']
/-- a record more, torn: it is whole, or it is not there -/
theorem Inv.torn {ss : List ByteArray} {g t : Int} {l : List ByteArray} (H : Inv ss g t l) (hu : l.length < roomN ss) (p : ByteArray) (hp : p.size ≤ 96) (k : Nat) (hk : k ≤ 128) :
    Inv (tornL ss (recN ss g l.length) (sealS g (l.length + 1) p) k) g t l ∨ Inv (tornL ss (recN ss g l.length) (sealS g (l.length + 1) p) k) g t (l ++ [p]) := by
  have hr := room_eq H.log
  have g1 := H.g1
  have hgt := H.gt
  have hm := H.most
  have F := fits_rec (g := g) (i := l.length) g1 (by omega) (by omega) (by omega) hp
  have ha := at_lt H.log g hu
  have h2 := at_two (roomN ss) g l.length
  have hd := hd_lt g
  have S := H.sec _ ha
  obtain ⟨_, s2, s3⟩ := S.recs _ hu rfl
  have s2' := s2 (Nat.le_refl _)
  unfold tornL
  rw [rec_at H.log]
  by_cases hw : 126 < k ∧ zOf (tornS (secA ss (atN (roomN ss) g l.length)) (sealS g (l.length + 1) p) k) = (l.length : Int) + 1
  · right
    rw [torn_whole _ F S.size k hk hw.1 hw.2, ← rec_at H.log]
    exact H.more hu p hp
  · left
    refine H.put _ ha _ ⟨torn_size _ _ _ S.size F.len hk, ?_, ?_, fun h => by omega, fun h => by omega, fun j hj hij => ?_⟩
    · rw [torn_g _ _ _ S.size F.len hk, F.gen]
      have := S.first
      split <;> omega
    · rw [torn_g _ _ _ S.size F.len hk, torn_e _ _ _ S.size F.len hk, F.gen, F.e]
      have := S.last
      split <;> split <;> omega
    · obtain rfl : l.length = j := at_inj hij
      refine ⟨fun h => absurd h (Nat.lt_irrefl _), fun _ h => ?_, ?_⟩
      · by_cases h6 : 126 < k
        · exact hw ⟨h6, h.2⟩
        · rw [torn_e _ _ _ S.size F.len hk, if_neg h6, torn_z _ _ _ S.size F.len hk, if_neg (by omega)] at h
          exact s2' h
      · rw [torn_g _ _ _ S.size F.len hk, F.gen]
        split <;> omega
end Go.Proofs.Ytmjbhmmcpjhmcaa
