/-
  What is true of sealed sectors as bytes: what is sealed is opened as it was, and back; what is torn.
-/
import Derived.Test.YtmjbhmmcpjhmcaaSealD
namespace Go.Proofs.Ytmjbhmmcpjhmcaa
open Go.RowKit
set_option linter.unusedVariables false

/-- the byte at that place -/
def bAt (t : ByteArray) (i : Nat) : UInt8 := t.data.toList.getD i 0
theorem list_len {t : ByteArray} {n : Nat} (h : t.size = n) : t.data.toList.length = n := by rw [Array.length_toList]; exact h
theorem eq_of_bytes {s t : ByteArray} (hs : s.size = 128) (ht : t.size = 128) (h : ∀ i, i < 128 → bAt s i = bAt t i) : s = t := by
  apply bytes_eq
  apply List.ext_getElem (by rw [list_len hs, list_len ht])
  intro i h1 h2
  have h3 := h i (by rw [← list_len hs]; exact h1)
  unfold bAt at h3
  rw [List.getD_eq_getElem?_getD, List.getD_eq_getElem?_getD, List.getElem?_eq_getElem h1, List.getElem?_eq_getElem h2] at h3
  exact h3
theorem torn_list (old text : ByteArray) (k : Nat) (ho : old.size = 128) : (tornS old text k).data.toList = text.data.toList.take k ++ old.data.toList.drop k := by
  unfold tornS
  rw [app_list, ByteArray.data_extract, ByteArray.data_extract]
  have e1 := list_len ho
  simp
  rw [List.take_of_length_le (by rw [List.length_drop, e1]; omega)]
theorem torn_at (old text : ByteArray) (k : Nat) (ho : old.size = 128) (ht : text.size = 128) (hk : k ≤ 128) (i : Nat) : bAt (tornS old text k) i = if i < k then bAt text i else bAt old i := by
  unfold bAt
  rw [torn_list old text k ho]
  have e1 : (text.data.toList.take k).length = k := by rw [List.length_take, list_len ht]; omega
  by_cases h : i < k
  · rw [if_pos h, List.getD_eq_getElem?_getD, List.getElem?_append_left (by rw [e1]; exact h), List.getElem?_take, if_pos h, List.getD_eq_getElem?_getD]
  · rw [if_neg h, List.getD_eq_getElem?_getD, List.getElem?_append_right (by rw [e1]; omega), e1, List.getElem?_drop, List.getD_eq_getElem?_getD, show k + (i - k) = i by omega]
theorem sub_eq2 {l : List UInt8} {q : Nat} (h : q + 2 ≤ l.length) : sub l q 2 = ⟨#[l.getD q 0, l.getD (q + 1) 0]⟩ := by
  unfold sub
  congr 1
  have h1 : q < l.length := by omega
  have h2 : q + 1 < l.length := by omega
  rw [List.drop_eq_getElem_cons h1, List.drop_eq_getElem_cons h2, List.getD_eq_getElem?_getD, List.getD_eq_getElem?_getD, List.getElem?_eq_getElem h1, List.getElem?_eq_getElem h2]
  rfl
theorem ends_iff {t : ByteArray} (h : t.size = 128) : endsB t = true ↔ bAt t 0 = bAt t 126 ∧ bAt t 1 = bAt t 127 := by
  unfold endsB bAt
  rw [decide_eq_true_iff, sub_eq2 (by rw [list_len h]; omega), sub_eq2 (by rw [list_len h]; omega)]
  simp

/-- a stamp and a payload that may be -/
structure Fits (g n : Int) (p : ByteArray) : Prop where
  stamp : stampB g n = true
  size : p.size ≤ 96
theorem Fits.len {g n : Int} {p : ByteArray} (h : Fits g n p) : (sealS g n p).size = 128 := seal_size g n p h.size
theorem Fits.bounds {g n : Int} {p : ByteArray} (h : Fits g n p) : 1 ≤ g ∧ g ≤ 250 ∧ 0 ≤ n ∧ n ≤ 64 := (stamp_iff g n).1 h.stamp
theorem byte_back {x : Int} (h0 : 0 ≤ x) (h1 : x < 256) : ((byteOf x).toNat : Int) = x := by rw [byteOf_toNat]; omega
theorem byte_inj {x y : Int} (h0 : 0 ≤ x) (h1 : x < 256) (h2 : 0 ≤ y) (h3 : y < 256) (h : byteOf x = byteOf y) : x = y := by
  rw [← byte_back h0 h1, ← byte_back h2 h3, h]
theorem Fits.tail {g n : Int} {p : ByteArray} (h : Fits g n p) : ∃ X : List UInt8, X.length = 126 ∧ (sealS g n p).data.toList = X ++ [byteOf g, byteOf n] := by
  refine ⟨_, ?_, seal_list g n p⟩
  have h2 := head_length (byteOf g) (byteOf n) (byteOf p.size) p.data.toList (by rw [Array.length_toList]; exact h.size)
  have h3 : (sumS (headS g n p)).data.toList.length = 4 := by rw [Array.length_toList]; exact sum_size _
  rw [List.length_append, List.length_append, h2, h3, List.length_replicate]
theorem seal_0 (g n : Int) (p : ByteArray) : bAt (sealS g n p) 0 = byteOf g := by unfold bAt; rw [seal_list]; unfold headL; rfl
theorem seal_1 (g n : Int) (p : ByteArray) : bAt (sealS g n p) 1 = byteOf n := by unfold bAt; rw [seal_list]; unfold headL; rfl
theorem seal_2 (g n : Int) (p : ByteArray) : bAt (sealS g n p) 2 = byteOf p.size := by unfold bAt; rw [seal_list]; unfold headL; rfl
theorem Fits.at126 {g n : Int} {p : ByteArray} (h : Fits g n p) : bAt (sealS g n p) 126 = byteOf g := by
  obtain ⟨X, hX, e⟩ := h.tail
  unfold bAt
  rw [e, List.getD_eq_getElem?_getD, List.getElem?_append_right (by omega), hX]
  rfl
theorem Fits.at127 {g n : Int} {p : ByteArray} (h : Fits g n p) : bAt (sealS g n p) 127 = byteOf n := by
  obtain ⟨X, hX, e⟩ := h.tail
  unfold bAt
  rw [e, List.getD_eq_getElem?_getD, List.getElem?_append_right (by omega), hX]
  rfl
theorem Fits.gen {g n : Int} {p : ByteArray} (h : Fits g n p) : gOf (sealS g n p) = g := by
  have b := h.bounds
  have e := seal_0 g n p
  unfold bAt at e
  unfold gOf
  rw [e]
  exact byte_back (by omega) (by omega)
theorem Fits.no {g n : Int} {p : ByteArray} (h : Fits g n p) : nOf (sealS g n p) = n := by
  have b := h.bounds
  have e := seal_1 g n p
  unfold bAt at e
  unfold nOf
  rw [e]
  exact byte_back (by omega) (by omega)
theorem Fits.many {g n : Int} {p : ByteArray} (h : Fits g n p) : mOf (sealS g n p) = p.size := by
  have b := h.size
  have e := seal_2 g n p
  unfold bAt at e
  unfold mOf
  rw [e]
  have := byte_back (x := p.size) (by omega) (by omega)
  omega
theorem Fits.load {g n : Int} {p : ByteArray} (h : Fits g n p) : pOf (sealS g n p) = p := by
  unfold pOf
  rw [h.many, seal_list]
  unfold headL sub
  apply bytes_eq
  show List.take p.size (List.drop 3 _) = _
  rw [List.append_assoc, List.append_assoc, List.append_assoc, List.append_assoc]
  show List.take p.size (p.data.toList ++ _) = _
  rw [show p.size = p.data.toList.length by rw [Array.length_toList]; rfl, List.take_left]
theorem Fits.ends {g n : Int} {p : ByteArray} (h : Fits g n p) : endsB (sealS g n p) = true := by
  rw [ends_iff h.len, seal_0, seal_1, h.at126, h.at127]
  exact ⟨rfl, rfl⟩
theorem Fits.sum {g n : Int} {p : ByteArray} (h : Fits g n p) : sumB (sealS g n p) = true := by
  unfold sumB
  rw [decide_eq_true_iff, seal_list]
  have h2 := head_length (byteOf g) (byteOf n) (byteOf p.size) p.data.toList (by rw [Array.length_toList]; exact h.size)
  have h3 : (sumS (headS g n p)).data.toList.length = 4 := by rw [Array.length_toList]; exact sum_size _
  have e1 : sub (headL (byteOf g) (byteOf n) (byteOf p.size) p.data.toList ++ (sumS (headS g n p)).data.toList ++ List.replicate 23 0 ++ [byteOf g, byteOf n]) 0 99 = headS g n p := by
    rw [List.append_assoc, List.append_assoc, head_sub _ _ _ _ _ (by rw [Array.length_toList]; exact h.size), head_back]
  rw [e1]
  apply bytes_eq
  unfold sub
  show List.take 4 (List.drop 99 _) = _
  rw [List.append_assoc, List.append_assoc, ← h2, List.drop_left, ← h3, List.take_left]
/-- what is sealed is opened as it was -/
theorem Fits.opens {g n : Int} {p : ByteArray} (h : Fits g n p) : openE (sealS g n p) = 0 := by
  unfold openE openB sealedB
  rw [if_pos h.len, if_pos h.ends, if_pos h.sum, if_pos]
  rw [h.many, h.gen, h.no, h.load, decide_eq_true h.size, h.stamp, decide_eq_true rfl]
  rfl
theorem Fits.told {g n : Int} {p : ByteArray} (h : Fits g n p) : openV (sealS g n p) = .tuple #[.int .i64 g, .int .i64 n, .string p, .int .i64 0] := by
  rw [openV_yes h.opens, h.gen, h.no, h.load]
/-- what is opened is sealed as it was -/
theorem open_parts {t : ByteArray} (h : openE t = 0) : t.size = 128 ∧ endsB t = true ∧ openB t = true := by
  unfold openE at h
  by_cases h1 : t.size = 128
  · rw [if_pos h1] at h
    cases h2 : endsB t
    · rw [h2] at h
      exact absurd h (by simp)
    · rw [h2, if_pos rfl] at h
      cases h3 : sumB t
      · rw [h3] at h
        exact absurd h (by simp)
      · rw [h3, if_pos rfl] at h
        cases h4 : openB t
        · rw [h4] at h
          exact absurd h (by simp)
        · exact ⟨h1, rfl, rfl⟩
  · rw [if_neg h1] at h
    exact absurd h (by simp)
theorem open_back {t : ByteArray} (h : openE t = 0) : Fits (gOf t) (nOf t) (pOf t) ∧ sealS (gOf t) (nOf t) (pOf t) = t := by
  obtain ⟨h1, _, h4⟩ := open_parts h
  unfold openB sealedB at h4
  simp only [Bool.and_eq_true, decide_eq_true_eq] at h4
  obtain ⟨h5, h6, h7⟩ := h4
  refine ⟨⟨h6, ?_⟩, h7⟩
  unfold pOf
  rw [sub_size _ _ _ (by rw [list_len h1]; omega)]
  exact h5
/-- two sealed sectors are the same just if their stamps and payloads are -/
theorem seal_inj {g n h m : Int} {p q : ByteArray} (F : Fits g n p) (G : Fits h m q) : sealS g n p = sealS h m q ↔ g = h ∧ n = m ∧ p = q := by
  constructor
  · intro e
    exact ⟨by rw [← F.gen, e, G.gen], by rw [← F.no, e, G.no], by rw [← F.load, e, G.load]⟩
  · rintro ⟨rfl, rfl, rfl⟩
    rfl
theorem end_or {k : Nat} {P : Prop} (h : ¬ k ≤ 126) (hk : k ≤ 128) (hp : P) : k = 128 ∨ (k = 127 ∧ P) := by
  by_cases e : k = 128
  · exact Or.inl e
  · exact Or.inr ⟨by omega, hp⟩
/-- torn at the end, or one byte ahead of it over one of its number, it is whole -/
theorem torn_end (old : ByteArray) {g n : Int} {p : ByteArray} (F : Fits g n p) (ho : old.size = 128) (k : Nat) (hk : k ≤ 128) (h : k = 128 ∨ (k = 127 ∧ bAt old 127 = byteOf n)) : tornS old (sealS g n p) k = sealS g n p := by
  refine eq_of_bytes (torn_size _ _ _ ho F.len hk) F.len fun i hi => ?_
  rw [torn_at _ _ _ ho F.len hk]
  by_cases e : i < k
  · rw [if_pos e]
  · rw [if_neg e]
    rcases h with h | ⟨h, h'⟩
    · omega
    · obtain rfl : i = 127 := by omega
      rw [h', F.at127]
theorem torn_none (old text : ByteArray) (ho : old.size = 128) (ht : text.size = 128) : tornS old text 0 = old := by
  refine eq_of_bytes (torn_size _ _ _ ho ht (by omega)) ho fun i hi => ?_
  rw [torn_at _ _ _ ho ht (by omega), if_neg (by omega)]
/-- torn midway over something whose end is not its stamp's generation it is not opened -/
theorem torn_mid (old : ByteArray) {g n : Int} {p : ByteArray} (F : Fits g n p) (ho : old.size = 128) (k : Nat) (h0 : 1 ≤ k) (hk : k ≤ 126) (hne : bAt old 126 ≠ byteOf g) : openE (tornS old (sealS g n p) k) ≠ 0 := by
  intro e
  obtain ⟨h1, h2, _⟩ := open_parts e
  rw [ends_iff h1, torn_at _ _ _ ho F.len (by omega), torn_at _ _ _ ho F.len (by omega), if_pos (by omega), if_neg (by omega), seal_0] at h2
  exact hne h2.1.symm
/-- THE STAGE's THEOREM ON BYTES: over one of another generation, of the same number, it is not opened, or is one of both -/
theorem torn_both {g h n : Int} {a b : ByteArray} (F : Fits g n a) (G : Fits h n b) (hne : g ≠ h) (k : Nat) (hk : k ≤ 128) :
    openE (tornS (sealS g n a) (sealS h n b) k) = 0 ↔ tornS (sealS g n a) (sealS h n b) k = sealS g n a ∨ tornS (sealS g n a) (sealS h n b) k = sealS h n b := by
  constructor
  · intro e
    by_cases h0 : k = 0
    · left
      subst h0
      exact torn_none _ _ F.len G.len
    · by_cases h1 : k ≤ 126
      · refine absurd e (torn_mid _ G F.len k (by omega) h1 ?_)
        rw [F.at126]
        have b1 := F.bounds
        have b2 := G.bounds
        exact fun e => hne (byte_inj (by omega) (by omega) (by omega) (by omega) e)
      · right
        exact torn_end _ G F.len k hk (end_or h1 hk F.at127)
  · rintro (e | e)
    · rw [e]
      exact F.opens
    · rw [e]
      exact G.opens
/-- over any text that does not end with its stamp it is not opened, or is whole, or has not yet its own generation and number -/
theorem torn_any_text {h n : Int} {b o : ByteArray} (G : Fits h n b) (ho : o.size = 128) (k : Nat) (hk : k ≤ 128) (he : openE (tornS o (sealS h n b) k) = 0) (hu : tornS o (sealS h n b) k ≠ sealS h n b)
    (hg : gOf (tornS o (sealS h n b) k) = h) (hn : nOf (tornS o (sealS h n b) k) = n) : bAt o 126 = byteOf h ∧ bAt o 127 = byteOf n := by
  obtain ⟨h1, h2, _⟩ := open_parts he
  rw [ends_iff h1] at h2
  have hb := G.bounds
  have e0 : bAt (tornS o (sealS h n b) k) 0 = byteOf h := by
    apply UInt8.toNat_inj.1
    have := byte_back (x := h) (by omega) (by omega)
    have hg' : ((bAt (tornS o (sealS h n b) k) 0).toNat : Int) = h := hg
    omega
  have e1 : bAt (tornS o (sealS h n b) k) 1 = byteOf n := by
    apply UInt8.toNat_inj.1
    have := byte_back (x := n) (by omega) (by omega)
    have hn' : ((bAt (tornS o (sealS h n b) k) 1).toNat : Int) = n := hn
    omega
  rw [e0, e1, torn_at _ _ _ ho G.len hk, torn_at _ _ _ ho G.len hk] at h2
  by_cases h3 : k ≤ 126
  · rw [if_neg (by omega), if_neg (by omega)] at h2
    exact ⟨h2.1.symm, h2.2.symm⟩
  · refine absurd (torn_end o G ho k hk ?_) hu
    by_cases h4 : k = 128
    · exact Or.inl h4
    · rw [if_neg (by omega : ¬ 127 < k)] at h2
      exact Or.inr ⟨by omega, h2.2.symm⟩
/-- torn over what came of one of its own stamp torn over one of another generation it is not opened, or is whole -/
theorem torn_again {g h n : Int} {a b c : ByteArray} (F : Fits g n a) (G : Fits h n b) (H : Fits h n c) (hne : g ≠ h) (k m : Nat) (hk : k ≤ 128) (hm : m ≤ 128) (hno : openE (tornS (sealS g n a) (sealS h n b) k) ≠ 0) :
    openE (tornS (tornS (sealS g n a) (sealS h n b) k) (sealS h n c) m) = 0 ↔ tornS (tornS (sealS g n a) (sealS h n b) k) (sealS h n c) m = sealS h n c := by
  have ht := torn_size _ _ _ F.len G.len hk
  have b1 := F.bounds
  have b2 := G.bounds
  have hk0 : k ≠ 0 := by
    rintro rfl
    exact hno (by rw [torn_none _ _ F.len G.len]; exact F.opens)
  have hk1 : k ≤ 126 := by
    rcases Nat.lt_or_ge 126 k with h | h
    · refine absurd ?_ hno
      rw [torn_end _ G F.len k hk (end_or (by omega) hk F.at127)]
      exact G.opens
    · exact h
  have e126 : bAt (tornS (sealS g n a) (sealS h n b) k) 126 = byteOf g := by rw [torn_at _ _ _ F.len G.len hk, if_neg (by omega), F.at126]
  have e127 : bAt (tornS (sealS g n a) (sealS h n b) k) 127 = byteOf n := by rw [torn_at _ _ _ F.len G.len hk, if_neg (by omega), F.at127]
  constructor
  · intro e
    by_cases h0 : m = 0
    · subst h0
      rw [torn_none _ _ ht H.len] at e
      exact absurd e hno
    · by_cases h1 : m ≤ 126
      · refine absurd e (torn_mid _ H ht m (by omega) h1 ?_)
        rw [e126]
        exact fun e => hne (byte_inj (by omega) (by omega) (by omega) (by omega) e)
      · exact torn_end _ H ht m hm (end_or h1 hm e127)
  · intro e
    rw [e]
    exact H.opens
theorem torn_ok {old text : ByteArray} {k : Int} {q : Nat} (ho : old.size = 128) (ht : text.size = 128) (hk : k = (q : Int)) (hq : q ≤ 128) : tornE old text k = 0 ∧ tornR old text k = tornS old text q := by
  subst hk
  have e : tornE old text (q : Int) = 0 := by unfold tornE; rw [if_pos ⟨ho, ht⟩, if_pos (by omega)]
  refine ⟨e, ?_⟩
  unfold tornR
  rw [if_pos e]
  rfl
theorem extract_sub (t : ByteArray) (a b : Nat) : t.extract a b = sub t.data.toList a (b - a) := by
  apply bytes_eq
  unfold sub
  rw [ByteArray.data_extract, Array.toList_extract]
theorem tail_eq {s t : ByteArray} (hs : s.size = 128) (ht : t.size = 128) (h1 : bAt s 126 = bAt t 126) (h2 : bAt s 127 = bAt t 127) : s.extract 126 128 = t.extract 126 128 := by
  unfold bAt at h1 h2
  rw [extract_sub, extract_sub, show (128 : Nat) - 126 = 2 from rfl, sub_eq2 (by rw [list_len hs]; omega), sub_eq2 (by rw [list_len ht]; omega), h1, h2]
theorem torn_max {t : ByteArray} (h : t.size = 128) : t.size ≤ maxLen := by rw [h]; unfold maxLen; omega
end Go.Proofs.Ytmjbhmmcpjhmcaa
