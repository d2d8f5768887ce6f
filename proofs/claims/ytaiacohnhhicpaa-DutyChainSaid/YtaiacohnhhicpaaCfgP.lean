/-
  Configs: plain facts.
-/
import Derived.Test.YtaiacohnhhicpaaCfgN
import Derived.Deep.RegionHeld3
import Derived.Deep.DeepCutAuto
import Derived.Deep.CutBlock
namespace Go.Proofs.Ytaiacohnhhicpaa
open Go.RowKit Go.Shelf
set_option linter.unusedVariables false

/-- no text of it is long -/
def ShortL (l : List L2) : Prop := ∀ k, k < l.length → (l.getD k zL).1.size ≤ 9223372036854775807 ∧ (l.getD k zL).2.size ≤ 9223372036854775807
def ShortM (l : List M3) : Prop := ∀ k, k < l.length → (l.getD k zM).2.1.size ≤ 9223372036854775807 ∧ (l.getD k zM).2.2.size ≤ 9223372036854775807
theorem tx_list (l : List UInt8) : (tx l).toList = l := by rw [ByteArray.toList_eq]; simp [tx]
theorem if_text (s : ByteArray) : (s.toList == [105, 102]) = decide (s = tx ifT) := by
  have e : [105, 102] = (tx ifT).toList := (tx_list ifT).symm
  rw [e]
  by_cases h : s = tx ifT
  · subst h; simp
  · rw [decide_eq_false h]
    have : s.toList ≠ (tx ifT).toList := fun e => h (toList_inj e)
    simpa using this
/-- where a name stands, or -1 -/
def placeN (l : List R9) (s : ByteArray) : Int := match l.findIdx? fun r => decide (r.nm = s) with
  | some k => (k : Int)
  | none => -1
theorem placeN_hit {l : List R9} {s : ByteArray} (k : Nat) (hk : k < l.length) (hA : ∀ i, i < k → (l.getD i zR).nm ≠ s) (h : (l.getD k zR).nm = s) : placeN l s = (k : Int) := by
  have e : (l.findIdx? fun r => decide (r.nm = s)) = some k := by
    rw [List.findIdx?_eq_some_iff_getElem]
    refine ⟨hk, by simp only [decide_eq_true_eq]; rw [← getD_R l k hk]; exact h, fun j hj => ?_⟩
    have := hA j hj
    rw [getD_R l j (by omega)] at this
    simpa using this
  unfold placeN
  rw [e]
theorem placeN_none {l : List R9} {s : ByteArray} (hA : ∀ i, i < l.length → (l.getD i zR).nm ≠ s) : placeN l s = -1 := by
  have e : (l.findIdx? fun r => decide (r.nm = s)) = none := by
    rw [List.findIdx?_eq_none_iff]
    intro x hx
    obtain ⟨i, hi, rfl⟩ := List.getElem_of_mem hx
    have := hA i hi
    rw [getD_R l i hi] at this
    simpa using this
  unfold placeN
  rw [e]
theorem chainB_iff (n : Nat) (l : List Int) : chainB n l = true ↔ ∀ i, i < l.length → (0 ≤ l.getD i 0 ∧ l.getD i 0 < (n : Int)) ∧ ∀ j, j < i → l.getD j 0 ≠ l.getD i 0 := by
  unfold chainB
  simp only [Bool.and_eq_true, decide_eq_true_eq, List.all_eq_true]
  constructor
  · rintro ⟨h1, h2⟩ i hi
    refine ⟨by rw [getD_at l i hi]; exact h1 _ (List.getElem_mem _), fun j hj => ?_⟩
    rw [getD_at l i hi, getD_at l j (by omega)]
    exact (List.pairwise_iff_getElem.1 h2) j i (by omega) hi hj
  · intro h
    refine ⟨fun k hk => ?_, ?_⟩
    · obtain ⟨i, hi, rfl⟩ := List.getElem_of_mem hk
      have := (h i hi).1
      rwa [getD_at l i hi] at this
    · refine List.pairwise_iff_getElem.2 fun i j hi hj hij => ?_
      have := (h j hj).2 i hij
      rwa [getD_at l i hi, getD_at l j hj] at this
theorem chain_not {n : Nat} {l : List Int} (k : Nat) (hk : k < l.length) (h : l.getD k 0 < 0 ∨ (n : Int) ≤ l.getD k 0 ∨ ∃ j, j < k ∧ l.getD j 0 = l.getD k 0) : chainB n l = false := by
  cases hb : chainB n l with
  | false => rfl
  | true =>
    obtain ⟨h1, h2⟩ := (chainB_iff n l).1 hb k hk
    rcases h with h | h | ⟨j, hj, e⟩
    · omega
    · omega
    · exact absurd e (h2 j hj)
theorem rte_chain {n : Nat} {t : T2} (h : chainB n t.1 = false) : rteR n t = false := by unfold rteR; rw [h]; rfl
theorem nodup_place (l : List R9) : (l.map R9.nm).Nodup ↔ ∀ i, i < l.length → ¬ 0 ≤ placeN (l.take i) (l.getD i zR).nm := by
  constructor
  · intro h i hi
    rw [placeN_none]
    · omega
    · intro j hj
      rw [List.length_take] at hj
      have e : (l.take i).getD j zR = l.getD j zR := by rw [List.getD_eq_getElem?_getD, List.getD_eq_getElem?_getD, List.getElem?_take_of_lt (by omega)]
      rw [e, getD_R l i hi, getD_R l j (by omega)]
      have := (List.pairwise_iff_getElem.1 h) j i (by simp; omega) (by simpa using hi) (by omega)
      simpa using this
  · intro h
    refine List.pairwise_iff_getElem.2 fun i j hi hj hij => ?_
    have hi' : i < l.length := by simpa using hi
    have hj' : j < l.length := by simpa using hj
    intro e
    have e2 : l[i].nm = l[j].nm := by simpa using e
    apply h j hj'
    have hex : ∃ k, k < j ∧ l.getD k zR = l.getD k zR ∧ (l.getD k zR).nm = (l.getD j zR).nm := ⟨i, hij, rfl, by rw [getD_R l i hi', getD_R l j hj']; exact e2⟩
    unfold placeN
    cases hf : (l.take j).findIdx? fun r => decide (r.nm = (l.getD j zR).nm) with
    | some k => simp
    | none =>
      have := (List.findIdx?_eq_none_iff.1 hf) l[i] (by rw [List.mem_take_iff_getElem]; exact ⟨i, by omega, rfl⟩)
      rw [getD_R l j hj'] at this
      simp [e2] at this
theorem cfgR_iff (c : CfgL) : cfgR c = true ↔ (∀ i, i < c.1.length → rcvR (c.1.getD i zR) = true ∧ ¬ 0 ≤ placeN (c.1.take i) (c.1.getD i zR).nm) ∧ (∀ i, i < c.2.1.length → rteR c.1.length (c.2.1.getD i zT) = true) ∧ numberB c.1.length = true ∧ numberB c.2.1.length = true ∧ oftenB c.2.2.1 = true ∧ oftenB c.2.2.2 = true := by
  unfold cfgR
  simp only [Bool.and_eq_true, decide_eq_true_eq, List.all_eq_true]
  rw [nodup_place]
  constructor
  · rintro ⟨⟨h1, h2⟩, h3, h4, h5, h6, h7⟩
    refine ⟨fun i hi => ⟨h1 _ (mem_R _ i hi), h2 i hi⟩, fun i hi => h3 _ ?_, h4, h5, h6, h7⟩
    rw [List.getD_eq_getElem?_getD, List.getElem?_eq_getElem hi]
    exact List.getElem_mem _
  · rintro ⟨h1, h3, h4, h5, h6, h7⟩
    refine ⟨⟨fun r hr => ?_, fun i hi => (h1 i hi).2⟩, fun t ht => ?_, h4, h5, h6, h7⟩
    · obtain ⟨i, hi, rfl⟩ := List.getElem_of_mem hr
      have := (h1 i hi).1
      rwa [getD_R _ i hi] at this
    · obtain ⟨i, hi, rfl⟩ := List.getElem_of_mem ht
      have := h3 i hi
      rwa [List.getD_eq_getElem?_getD, List.getElem?_eq_getElem hi] at this
end Go.Proofs.Ytaiacohnhhicpaa
