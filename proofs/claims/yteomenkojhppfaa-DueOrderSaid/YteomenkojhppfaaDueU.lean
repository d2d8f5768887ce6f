/-
  Dues: whether two rows are the same; the law's own: a few of many, and whether two rows have the same dues.
-/
import Derived.Test.YteomenkojhppfaaDueT
namespace Go.Proofs.Yteomenkojhppfaa
open Go.RowKit
set_option linter.unusedVariables false

theorem take_same (l r : List D2) (k : Nat) (h : l.take k = r.take k) (hl : k < l.length) (hr : k < r.length) (e : l.getD k (0, 0) = r.getD k (0, 0)) : l.take (k + 1) = r.take (k + 1) := by
  rw [takeD_next l k hl, takeD_next r k hr, h, e]
theorem not_same (l r : List D2) (k : Nat) (hl : k < l.length) (hr : k < r.length) (e : l.getD k (0, 0) ≠ r.getD k (0, 0)) : l ≠ r := by
  intro h
  subst h
  exact e rfl
set_option maxRecDepth 100000 in
set_option maxHeartbeats 4000000 in
theorem same_any (oa ob : Option Addr) (n m cap cap' : Nat) (l r : List D2) (w : World) (h1 : Ds w oa n cap l) (h2 : Ds w ob m cap' r) (hn : n ≤ 200) (hm : m ≤ 200) :
    Calls Try.prog 17 #[.slice oa n cap, .slice ob m cap'] w fun e w' => e = .returned (.bool (decide (l = r))) ∧ Below w.heap.size w w' := by
  have hl1 := h1.len
  have hl2 := h2.len
  by_cases hnm : n = m
  · subst hnm
    go_enter Try.func17, Try.ntmps17
    go_wp2_with fail
    go_loopw [5, 13] (fun _ s13 wr => ∃ k : Nat, k ≤ n ∧ s13 = .int .i64 k ∧ Below w.heap.size w wr ∧ l.take k = r.take k) (fun _ s13 _ => n - (intOf s13).toNat)
    case atStart => exact ⟨0, Nat.zero_le _, rfl, Below.refl _ _, rfl⟩
    case round =>
      obtain ⟨k, hk, rfl, hB, heq⟩ := hrel
      have HE := Lib.hid heq
      clear heq
      by_cases hlt : k < n
      · have hr1 := h1.room
        have hr2 := h2.room
        obtain ⟨g, o, rfl, c0, c1⟩ := (h1.below hB (Nat.le_refl _)).cell k hlt
        obtain ⟨g', o', rfl, d0, d1⟩ := (h2.below hB (Nat.le_refl _)).cell k hlt
        have HT := Lib.hid (take_same l r k HE.out (by omega) (by omega))
        have HN := Lib.hid (not_same l r k (by omega) (by omega))
        generalize l.getD k (0, 0) = x at *
        generalize r.getD k (0, 0) = y at *
        obtain ⟨a, i⟩ := x
        obtain ⟨b, j⟩ := y
        dsimp only at c0 c1 d0 d1
        by_cases hab : a = b
        · subst hab
          by_cases hij : i = j
          · subst hij
            have HY := Lib.hid (HT.out rfl)
            clear HT HN h1 h2 hl1 hl2
            go_wp2_with fail
            go_quiet (fail)
            go_wp2_with fail
            go_roundw
            case rel => exact ⟨k + 1, by omega, by go_num, below_drewND hB _, HY.out⟩
            case measure => simp [intOf]; omega
          · have hji : (i == j) = false := by simp [hij]
            have HY := Lib.hid (HN.out (fun e => hij (congrArg Prod.snd e)))
            clear HT HN h1 h2 hl1 hl2
            go_wp2_with fail
            go_quiet (fail)
            go_wp2_with fail
            go_ret
            exact ⟨retB (by simp [HY.out]), below_drewND hB _⟩
        · have hba : (a == b) = false := by simp [hab]
          have HY := Lib.hid (HN.out (fun e => hab (congrArg Prod.fst e)))
          clear HT HN h1 h2 hl1 hl2
          go_wp2_with fail
          go_quiet (fail)
          go_wp2_with fail
          go_ret
          exact ⟨retB (by simp [HY.out]), below_drewND hB _⟩
      · obtain rfl : k = n := by omega
        have HF : Hid (l = r) := by
          have h := HE.out
          rw [List.take_of_length_le (by omega), List.take_of_length_le (by omega)] at h
          exact h
        clear HE h1 h2 hl1 hl2
        go_wp2_with fail
        go_ret
        exact ⟨retB (by simp [HF.out]), hB⟩
  · have HF : Hid (¬ l = r) := by
      show ¬ _
      intro e
      subst e
      omega
    have hne : ((n : Int) == (m : Int)) = false := by simp; omega
    clear h1 h2 hl1 hl2
    go_enter Try.func17, Try.ntmps17
    go_wp2_with fail
    go_ret
    exact ⟨retB (by simp [HF.out]), Below.refl _ _⟩
theorem same_is (oa ob : Option Addr) (n m cap cap' : Nat) (l r : List D2) (b : Bool) (w : World) (h1 : Ds w oa n cap l) (h2 : Ds w ob m cap' r) (hn : n ≤ 200) (hm : m ≤ 200) (hb : b = decide (l = r)) :
    Calls Try.prog 17 #[.slice oa n cap, .slice ob m cap'] w fun e w' => e = .returned (.bool b) ∧ Below w.heap.size w w' := by subst hb; exact same_any oa ob n m cap cap' l r w h1 h2 hn hm
theorem Ds.few {w : World} {oa : Option Addr} {n cap : Nat} {l : List D2} (h : Ds w oa n cap l) : Ds w oa (min n 70) cap (l.take 70) := by
  have := h.take (i := min n 70) (Nat.min_le_left _ _)
  have e : l.take (min n 70) = l.take 70 := by rw [← h.len, List.take_eq_take_iff]; omega
  rwa [e] at this
set_option maxHeartbeats 1600000 in
theorem few_any (oa : Option Addr) (n cap : Nat) (w : World) (hr : n ≤ cap) (hc : cap ≤ maxLen) :
    Calls Try.prog 6 #[.slice oa n cap] w fun e w' => e = .returned (.slice oa (min n 70) cap) ∧ w' = w := by
  have hcm : cap ≤ 9223372036854775807 := by unfold maxLen at hc; omega
  clear hc
  go_enter Try.func6, Try.ntmps6
  go_wp2_with fail
  go_ret
  exact ⟨by rw [show (min (n : Int) 70).toNat = min n 70 from by omega]; rfl, rfl⟩
set_option maxHeartbeats 1600000 in
theorem alike_any (oa ob : Option Addr) (n m cap cap' : Nat) (l r : List D2) (w : World) (h1 : Ds w oa n cap l) (h2 : Ds w ob m cap' r) (hn : n ≤ 70) (hm : m ≤ 70) (hc : cap ≤ maxLen) (hc' : cap' ≤ maxLen) :
    Calls Try.prog 14 #[.slice oa n cap, .slice ob m cap'] w fun e w' => e = .returned (.bool (decide (sortI l = sortI r))) ∧ Below w.heap.size w w' := by
  have q1 := fun W => few_any oa n cap W h1.room hc
  have q2 := fun W => few_any ob m cap' W h2.room hc'
  rw [Nat.min_eq_left hn] at q1
  rw [Nat.min_eq_left hm] at q2
  go_enter Try.func14, Try.ntmps14
  go_wp2_with fail
  refine (q1 _).mono ?_
  rintro e w1 ⟨rfl, rfl⟩
  go_wp2_with fail
  refine (sorted_any oa n cap l _ h1 (by omega)).mono ?_
  rintro e w2 ⟨⟨o2, c2, rfl, hD2, _, _⟩, B2⟩
  have h2 := h2.below B2 (Nat.le_refl _)
  go_wp2_with fail
  refine (q2 _).mono ?_
  rintro e w3 ⟨rfl, rfl⟩
  go_wp2_with fail
  refine (sorted_any ob m cap' r _ h2 (by omega)).mono ?_
  rintro e w4 ⟨⟨o4, c4, rfl, hD4, _, _⟩, B4⟩
  have hD2 := hD2.below B4 (Nat.le_refl _)
  go_wp2_with fail
  refine (same_any o2 o4 n m c2 c4 _ _ _ hD2 hD4 (by omega) (by omega)).mono ?_
  rintro e w5 ⟨rfl, B5⟩
  have B := B2.trans ((B4.mono B2.size).trans (B5.mono (Nat.le_trans B2.size B4.size)))
  go_wp2_with fail
  go_ret
  exact ⟨rfl, B⟩
theorem alike_is (oa ob : Option Addr) (n m cap cap' : Nat) (l r : List D2) (b : Bool) (w : World) (h1 : Ds w oa n cap l) (h2 : Ds w ob m cap' r) (hn : n ≤ 70) (hm : m ≤ 70) (hc : cap ≤ maxLen) (hc' : cap' ≤ maxLen) (hb : b = decide (sortI l = sortI r)) :
    Calls Try.prog 14 #[.slice oa n cap, .slice ob m cap'] w fun e w' => e = .returned (.bool b) ∧ Below w.heap.size w w' := by subst hb; exact alike_any oa ob n m cap cap' l r w h1 h2 hn hm hc hc'
end Go.Proofs.Yteomenkojhppfaa
