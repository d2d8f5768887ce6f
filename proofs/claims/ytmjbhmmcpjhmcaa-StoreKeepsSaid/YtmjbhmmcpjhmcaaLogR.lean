/-
  What is true of a disk while all records are written anew: till the new header is whole the old ones count, and then the new ones.
-/
import Derived.Test.YtmjbhmmcpjhmcaaLogQ
namespace Go.Proofs.Ytmjbhmmcpjhmcaa
open Go.RowKit
set_option linter.unusedVariables false

/-- what is to be written of a generation: record k, or the header -/
def pageG (ss : List ByteArray) (g : Int) (l : List ByteArray) (k : Nat) : Nat × ByteArray :=
  if k < l.length then (recN ss g k, sealS g (k + 1) (l.getD k ⟨#[]⟩)) else (hdN g, sealS g 0 ⟨#[]⟩)
/-- all of it -/
def pagesG (ss : List ByteArray) (g : Int) (l : List ByteArray) : List (Nat × ByteArray) := (List.range (l.length + 1)).map (pageG ss g l)
theorem pages_length (ss : List ByteArray) (g : Int) (l : List ByteArray) : (pagesG ss g l).length = l.length + 1 := by unfold pagesG; simp
theorem pages_at (ss : List ByteArray) (g : Int) (l : List ByteArray) (k : Nat) (h : k ≤ l.length) : (pagesG ss g l).getD k (0, ByteArray.empty) = pageG ss g l k := by
  unfold pagesG
  rw [List.getD_eq_getElem?_getD, List.getElem?_map, List.getElem?_range (by omega)]
  rfl
theorem pages_mem {ss : List ByteArray} (hL : logB ss = true) {g : Int} (h0 : 1 ≤ g) (h1 : g ≤ 250) {l : List ByteArray} (hl : l.length ≤ roomN ss) (hs : ∀ p ∈ l, p.size ≤ 96) : ∀ q ∈ pagesG ss g l, q.1 < ss.length ∧ q.2.size = 128 := by
  intro q hq
  unfold pagesG at hq
  obtain ⟨k, hk, rfl⟩ := List.mem_map.1 hq
  have hk := List.mem_range.1 hk
  have hr := room_eq hL
  unfold pageG
  by_cases h : k < l.length
  · rw [if_pos h]
    exact ⟨(rec_eq hL g k (by omega)).2.1, (fits_rec h0 h1 (by omega) (by omega) (getD_small hs k)).len⟩
  · rw [if_neg h]
    have := hd_lt g
    exact ⟨by show hdN g < _; omega, (fits_head h0 h1).len⟩

/-- a sector while the records m of generation h are written, k of them so far -/
structure NewOk (R : Nat) (h : Int) (m : List ByteArray) (k : Nat) (i : Nat) (x : ByteArray) : Prop where
  recs : ∀ j, j < R → i = atN R h j → (j < k → x = sealS h (j + 1) (m.getD j ⟨#[]⟩)) ∧ (k ≤ j → eOf x < h)
  head : i = hdN h → eOf x < h
  first : gOf x ≤ h
/-- the disk meanwhile -/
structure Mid (ss : List ByteArray) (g : Int) (l : List ByteArray) (h : Int) (m : List ByteArray) (k : Nat) : Prop where
  inv : Inv ss g h l
  gh : g < h
  area : hdN h = 1 - hdN g
  most : m.length ≤ roomN ss
  small : ∀ p ∈ m, p.size ≤ 96
  new : ∀ i, i < ss.length → NewOk (roomN ss) h m k i (secA ss i)
theorem Mid.start {ss : List ByteArray} {g t : Int} {l : List ByteArray} (H : Inv ss g t l) {h : Int} {m : List ByteArray} (ht : t < h) (h2 : h ≤ 250) (ha : hdN h = 1 - hdN g) (hm : m.length ≤ roomN ss) (hs : ∀ p ∈ m, p.size ≤ 96) : Mid ss g l h m 0 := by
  refine ⟨H.raise (by omega) h2, by have := H.gt; omega, ha, hm, hs, fun i hi => ?_⟩
  have S := H.sec i hi
  have s1 := S.first
  have s2 := S.last
  exact ⟨fun j hj hij => ⟨fun h => absurd h (Nat.not_lt_zero _), fun _ => by omega⟩, fun _ => by omega, by omega⟩
theorem at_other {R : Nat} {g h : Int} (ha : hdN h = 1 - hdN g) {i j : Nat} (hi : i < R) (hj : j < R) : atN R g i ≠ atN R h j := at_apart (by have := hd_lt g; omega) hi hj
/-- a record of the new generation's, whole -/
theorem Mid.step {ss : List ByteArray} {g : Int} {l : List ByteArray} {h : Int} {m : List ByteArray} {k : Nat} (M : Mid ss g l h m k) (hk : k < m.length) : Mid (ss.set (recN ss h k) (sealS h (k + 1) (m.getD k ⟨#[]⟩))) g l h m (k + 1) := by
  have H := M.inv
  have hr := room_eq H.log
  have g1 := H.g1
  have hh := H.most
  have gh := M.gh
  have hkR : k < roomN ss := by have := M.most; omega
  have F := fits_rec (g := h) (i := k) (p := m.getD k ⟨#[]⟩) (by omega) (by omega) (by omega) (by omega) (getD_small M.small k)
  have ha := at_lt H.log h hkR
  have h2 := at_two (roomN ss) h k
  have hd := hd_lt g
  have hd' := hd_lt h
  rw [rec_at H.log]
  refine ⟨H.put _ ha _ ⟨F.len, by rw [F.gen]; exact Int.le_refl _, by rw [F.gen, F.e]; exact Int.le_refl _, fun h => by omega, fun h => by omega, fun j hj hij => absurd hij.symm (at_other M.area hj hkR)⟩, gh, M.area, by rw [room_set]; exact M.most, M.small, fun i hi => ?_⟩
  rw [List.length_set] at hi
  rw [room_set, sec_set ss _ _ i ha]
  by_cases e : i = atN (roomN ss) h k
  · rw [if_pos e]
    refine ⟨fun j hj hij => ?_, fun h => by omega, by rw [F.gen]; exact Int.le_refl _⟩
    obtain rfl : k = j := at_inj (e.symm.trans hij)
    exact ⟨fun _ => rfl, fun h => absurd h (by omega)⟩
  · rw [if_neg e]
    have S := M.new i hi
    refine ⟨fun j hj hij => ?_, S.head, S.first⟩
    obtain ⟨s1, s2⟩ := S.recs j hj hij
    have hne : j ≠ k := fun h => e (by rw [hij, h])
    exact ⟨fun h => s1 (by omega), fun h => s2 (by omega)⟩
/-- a record of the new generation's, torn: the old ones count -/
theorem Mid.torn {ss : List ByteArray} {g : Int} {l : List ByteArray} {h : Int} {m : List ByteArray} {k : Nat} (M : Mid ss g l h m k) (hk : k < m.length) (q : Nat) (hq : q ≤ 128) : Inv (tornL ss (recN ss h k) (sealS h (k + 1) (m.getD k ⟨#[]⟩)) q) g h l := by
  have H := M.inv
  have hr := room_eq H.log
  have g1 := H.g1
  have hh := H.most
  have gh := M.gh
  have hkR : k < roomN ss := by have := M.most; omega
  have F := fits_rec (g := h) (i := k) (p := m.getD k ⟨#[]⟩) (by omega) (by omega) (by omega) (by omega) (getD_small M.small k)
  have ha := at_lt H.log h hkR
  have h2 := at_two (roomN ss) h k
  have hd := hd_lt g
  have S := H.sec _ ha
  have s1 := S.first
  have s2 := S.last
  unfold tornL
  rw [rec_at H.log]
  refine H.put _ ha _ ⟨torn_size _ _ _ S.size F.len hq, ?_, ?_, fun h => by omega, fun h => by omega, fun j hj hij => absurd hij.symm (at_other M.area hj hkR)⟩
  · rw [torn_g _ _ _ S.size F.len hq, F.gen]
    split <;> omega
  · rw [torn_g _ _ _ S.size F.len hq, torn_e _ _ _ S.size F.len hq, F.gen, F.e]
    split <;> split <;> omega
theorem headZ_self (x : ByteArray) (i : Nat) {g : Int} (h0 : 0 < g) (h : gOf x < g) : headZ x i < g := by
  rcases headZ_le x i with e | ⟨e, _⟩ <;> omega
/-- the new header, whole: the new ones count -/
theorem Mid.done {ss : List ByteArray} {g : Int} {l : List ByteArray} {h : Int} {m : List ByteArray} (M : Mid ss g l h m m.length) : Inv (ss.set (hdN h) (sealS h 0 ⟨#[]⟩)) h h m := by
  have H := M.inv
  have hr := room_eq H.log
  have g1 := H.g1
  have hh := H.most
  have gh := M.gh
  have hd := hd_lt g
  have hd' := hd_lt h
  have area := M.area
  have F := fits_head (g := h) (by omega) (by omega)
  have ha : hdN h < ss.length := by omega
  refine ⟨log_set H.log _ F.len, by omega, Int.le_refl _, by omega, by rw [room_set]; exact M.most, M.small, fun i hi => ?_⟩
  rw [List.length_set] at hi
  rw [room_set, sec_set ss _ _ i ha]
  by_cases e : i = hdN h
  · rw [if_pos e]
    refine ⟨F.len, by rw [F.gen]; exact Int.le_refl _, by rw [F.gen, F.e]; exact Int.le_refl _, fun _ => rfl, fun h => by omega, fun j hj hij => ?_⟩
    have := at_two (roomN ss) h j
    omega
  · rw [if_neg e]
    have S := H.sec i hi
    have N := M.new i hi
    refine ⟨S.size, S.first, S.last, fun h => absurd h e, fun ho => ?_, fun j hj hij => ⟨fun hjl => ?_, fun hjl => ?_, N.first⟩⟩
    · have G := fits_head (g := g) g1 (by omega)
      rw [S.head (by omega)]
      exact headZ_self _ _ (by omega) (by rw [G.gen]; exact gh)
    · exact (N.recs j hj hij).1 hjl
    · have := (N.recs j hj hij).2 hjl
      intro hc
      omega
/-- the new header, torn: it is whole, or the old ones count -/
theorem Mid.tornHead {ss : List ByteArray} {g : Int} {l : List ByteArray} {h : Int} {m : List ByteArray} (M : Mid ss g l h m m.length) (q : Nat) (hq : q ≤ 128) : Inv (tornL ss (hdN h) (sealS h 0 ⟨#[]⟩) q) g h l ∨ Inv (tornL ss (hdN h) (sealS h 0 ⟨#[]⟩) q) h h m := by
  have H := M.inv
  have hr := room_eq H.log
  have g1 := H.g1
  have hh := H.most
  have gh := M.gh
  have hd := hd_lt g
  have hd' := hd_lt h
  have area := M.area
  have F := fits_head (g := h) (by omega) (by omega)
  have ha : hdN h < ss.length := by omega
  have S := H.sec _ ha
  have N := (M.new _ ha).head rfl
  have s1 := S.first
  have s2 := S.last
  unfold tornL
  by_cases hw : 126 < q ∧ zOf (tornS (secA ss (hdN h)) (sealS h 0 ⟨#[]⟩) q) = 0
  · right
    rw [torn_whole _ F S.size q hq hw.1 hw.2]
    exact M.done
  · left
    refine H.put _ ha _ ⟨torn_size _ _ _ S.size F.len hq, ?_, ?_, fun h => by omega, fun _ => ?_, fun j hj hij => ?_⟩
    · rw [torn_g _ _ _ S.size F.len hq, F.gen]
      split <;> omega
    · rw [torn_g _ _ _ S.size F.len hq, torn_e _ _ _ S.size F.len hq, F.gen, F.e]
      split <;> split <;> omega
    · by_cases h0 : q = 0
      · subst h0
        rw [torn_none _ _ S.size F.len]
        exact S.other area
      · have hz : headB (tornS (secA ss (hdN h)) (sealS h 0 ⟨#[]⟩) q) (hdN h) = false := by
          rw [Bool.eq_false_iff]
          intro hb
          obtain ⟨e1, _, e3, _⟩ := (head_iff _ _).1 hb
          obtain ⟨_, e4, _⟩ := open_parts e1
          rw [ends_iff (torn_size _ _ _ S.size F.len hq)] at e4
          have e5 : eOf (tornS (secA ss (hdN h)) (sealS h 0 ⟨#[]⟩) q) = gOf (tornS (secA ss (hdN h)) (sealS h 0 ⟨#[]⟩) q) := by unfold eOf; rw [← e4.1]; rfl
          have e6 : zOf (tornS (secA ss (hdN h)) (sealS h 0 ⟨#[]⟩) q) = nOf (tornS (secA ss (hdN h)) (sealS h 0 ⟨#[]⟩) q) := by unfold zOf; rw [← e4.2]; rfl
          rw [torn_g _ _ _ S.size F.len hq, torn_e _ _ _ S.size F.len hq, F.gen, F.e, if_pos (by omega : 0 < q)] at e5
          by_cases h6 : 126 < q
          · exact hw ⟨h6, by rw [e6, e3]⟩
          · rw [if_neg h6] at e5
            omega
        unfold headZ
        rw [hz, if_neg (by decide)]
        omega
    · have := at_two (roomN ss) g j
      omega

/-- how a row of writes ends: what was asked for is there, or it isn't -/
def Ends (ss : List ByteArray) (d : Bool) (er : Int) (d0 : Bool) (A B : List ByteArray → Prop) : Prop :=
  (er = 0 ∧ d = d0 ∧ B ss) ∨ (er = 8 ∧ d = d0 ∧ A ss) ∨ (er = 9 ∧ d = true ∧ (A ss ∨ B ss))
theorem Mid.ends {g : Int} {l : List ByteArray} {h : Int} {m : List ByteArray} {d : Bool} {ps : List (Nat × ByteArray)} {fs : List (Int × Int)} (hf : ∀ f ∈ fs, faultB f = true) :
    ∀ (n k : Nat) (ss : List ByteArray), n + k = m.length → ps = pagesG ss h m → Mid ss g l h m k →
      Ends (wrM ss d (ps.drop k) (fs.drop k)).1 (wrM ss d (ps.drop k) (fs.drop k)).2.1 (wrM ss d (ps.drop k) (fs.drop k)).2.2 d (fun tt => Inv tt g h l) (fun tt => Inv tt h h m) := by
  intro n
  induction n with
  | zero =>
    intro k ss hk hps M
    obtain rfl : k = m.length := by omega
    have hp := pages_at ss h m m.length (Nat.le_refl _)
    have hlen : m.length < ps.length := by rw [hps, pages_length]; omega
    unfold pageG at hp
    rw [if_neg (Nat.lt_irrefl _), ← hps] at hp
    obtain ⟨f1, f2, f3, f4⟩ := (fault_iff _).1 (fault_at hf m.length)
    rcases (by omega : (fs.getD m.length (0, 0)).1 = 1 ∨ (fs.getD m.length (0, 0)).1 = 2 ∨ (fs.getD m.length (0, 0)).1 = 0) with c | c | c
    · rw [wr_fail ss d ps fs m.length hlen c]
      exact Or.inr (Or.inl ⟨rfl, rfl, M.inv⟩)
    · rw [wr_crash ss d ps fs m.length hlen c, hp]
      exact Or.inr (Or.inr ⟨rfl, rfl, M.tornHead _ (by omega)⟩)
    · rw [wr_ok ss d ps fs m.length hlen (by omega) (by omega), hp]
      have e : ps.drop (m.length + 1) = [] := List.drop_of_length_le (by rw [hps, pages_length]; exact Nat.le_refl _)
      rw [e]
      exact Or.inl ⟨rfl, rfl, M.done⟩
  | succ n ih =>
    intro k ss hk hps M
    have hkm : k < m.length := by omega
    have hp := pages_at ss h m k (by omega)
    have hlen : k < ps.length := by rw [hps, pages_length]; omega
    unfold pageG at hp
    rw [if_pos hkm, ← hps] at hp
    obtain ⟨f1, f2, f3, f4⟩ := (fault_iff _).1 (fault_at hf k)
    rcases (by omega : (fs.getD k (0, 0)).1 = 1 ∨ (fs.getD k (0, 0)).1 = 2 ∨ (fs.getD k (0, 0)).1 = 0) with c | c | c
    · rw [wr_fail ss d ps fs k hlen c]
      exact Or.inr (Or.inl ⟨rfl, rfl, M.inv⟩)
    · rw [wr_crash ss d ps fs k hlen c, hp]
      exact Or.inr (Or.inr ⟨rfl, rfl, Or.inl (M.torn hkm _ (by omega))⟩)
    · rw [wr_ok ss d ps fs k hlen (by omega) (by omega), hp]
      refine ih (k + 1) _ (by omega) ?_ (M.step hkm)
      rw [hps]
      unfold pagesG
      congr 1
      funext j
      unfold pageG
      rw [rec_same (List.length_set ..).symm]
/-- all records anew, with any faults -/
theorem Inv.turned {ss : List ByteArray} {g t : Int} {l : List ByteArray} (H : Inv ss g t l) {h : Int} {m : List ByteArray} (ht : t < h) (h2 : h ≤ 250) (ha : hdN h = 1 - hdN g) (hm : m.length ≤ roomN ss) (hs : ∀ p ∈ m, p.size ≤ 96) (d : Bool) {fs : List (Int × Int)} (hf : ∀ f ∈ fs, faultB f = true) :
    Ends (wrM ss d (pagesG ss h m) fs).1 (wrM ss d (pagesG ss h m) fs).2.1 (wrM ss d (pagesG ss h m) fs).2.2 d (fun tt => Inv tt g h l) (fun tt => Inv tt h h m) :=
  Mid.ends (d := d) (ps := pagesG ss h m) (fs := fs) hf m.length 0 ss rfl rfl (Mid.start H ht h2 ha hm hs)
/-- one record more, with any fault -/
theorem Inv.appended {ss : List ByteArray} {g t : Int} {l : List ByteArray} (H : Inv ss g t l) (hu : l.length < roomN ss) {p : ByteArray} (hp : p.size ≤ 96) (d : Bool) {f : Int × Int} (hf : faultB f = true) :
    Ends (wrM ss d [(recN ss g l.length, sealS g (l.length + 1) p)] [f]).1 (wrM ss d [(recN ss g l.length, sealS g (l.length + 1) p)] [f]).2.1 (wrM ss d [(recN ss g l.length, sealS g (l.length + 1) p)] [f]).2.2 d (fun tt => Inv tt g t l) (fun tt => Inv tt g t (l ++ [p])) := by
  obtain ⟨f1, f2, f3, f4⟩ := (fault_iff _).1 hf
  rcases (by omega : f.1 = 1 ∨ f.1 = 2 ∨ f.1 = 0) with c | c | c
  · have e : wrM ss d [(recN ss g l.length, sealS g (l.length + 1) p)] [f] = (ss, d, 8) := by unfold wrM; exact if_pos c
    rw [e]
    exact Or.inr (Or.inl ⟨rfl, rfl, H⟩)
  · have e : wrM ss d [(recN ss g l.length, sealS g (l.length + 1) p)] [f] = (tornL ss (recN ss g l.length) (sealS g (l.length + 1) p) f.2.toNat, true, 9) := by
      unfold wrM
      have h1 : ¬ ([f].getD 0 (0, 0)).1 = 1 := by show ¬ f.1 = 1; omega
      rw [if_neg h1]
      exact if_pos c
    rw [e]
    exact Or.inr (Or.inr ⟨rfl, rfl, H.torn hu p hp _ (by omega)⟩)
  · have e : wrM ss d [(recN ss g l.length, sealS g (l.length + 1) p)] [f] = (ss.set (recN ss g l.length) (sealS g (l.length + 1) p), d, 0) := by
      unfold wrM
      have h1 : ¬ ([f].getD 0 (0, 0)).1 = 1 := by show ¬ f.1 = 1; omega
      have h2 : ¬ ([f].getD 0 (0, 0)).1 = 2 := by show ¬ f.1 = 2; omega
      rw [if_neg h1, if_neg h2]
      rfl
    rw [e]
    exact Or.inl ⟨rfl, rfl, H.more hu p hp⟩
theorem zeros_at (n j : Nat) : bAt (zerosB n) j = 0 := by
  unfold bAt zerosB
  rw [List.getD_eq_getElem?_getD, Array.toList_replicate, List.getElem?_replicate]
  split <;> rfl
/-- a new store -/
theorem inv_new (n : Nat) (h1 : 10 ≤ n) (h2 : n ≤ 130) (h3 : n % 2 = 0) : Inv ((List.replicate n (zerosB 128)).set 1 (sealS 1 0 ⟨#[]⟩)) 1 1 [] := by
  have F := fits_head (g := 1) (by omega) (by omega)
  have hs : ∀ i, i < n → secA (List.replicate n (zerosB 128)) i = zerosB 128 := by
    intro i hi
    unfold secA
    rw [List.getD_eq_getElem?_getD, List.getElem?_replicate, if_pos hi]
    rfl
  have hl : (List.replicate n (zerosB 128)).length = n := List.length_replicate
  have hL : logB (List.replicate n (zerosB 128)) = true := by
    unfold logB
    rw [Bool.and_eq_true, right_iff, hl]
    refine ⟨⟨h1, h2, fun s h => ?_⟩, decide_eq_true h3⟩
    rw [(List.mem_replicate.1 h).2]
    exact zeros_size 128
  have z0 := zeros_at 128
  have zg : gOf (zerosB 128) = 0 := by rw [gOf_at, z0]; rfl
  have ze : eOf (zerosB 128) = 0 := by unfold eOf; rw [z0]; rfl
  refine ⟨log_set hL _ F.len, by omega, by omega, by omega, Nat.zero_le _, by simp, fun i hi => ?_⟩
  rw [List.length_set, hl] at hi
  rw [room_set, sec_set _ _ _ i (by omega)]
  by_cases e : i = 1
  · rw [if_pos e]
    refine ⟨F.len, by rw [F.gen]; exact Int.le_refl _, by rw [F.gen, F.e]; exact Int.le_refl _, fun _ => rfl, fun h => ?_, fun j hj hij => ?_⟩
    · have : hdN 1 = 1 := rfl
      omega
    · have := at_two (roomN (List.replicate n (zerosB 128))) 1 j
      omega
  · rw [if_neg e, hs i hi]
    refine ⟨zeros_size 128, by omega, by omega, fun h => ?_, fun h => headZ_self _ _ (by omega) (by omega), fun j hj hij => ⟨fun h => absurd h (Nat.not_lt_zero _), fun _ h => by omega, by omega⟩⟩
    have : hdN 1 = 1 := rfl
    omega
end Go.Proofs.Ytmjbhmmcpjhmcaa
