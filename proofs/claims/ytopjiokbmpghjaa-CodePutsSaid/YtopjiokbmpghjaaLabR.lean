/-
  The document's own answers: names, values, which labels and matchers may be.
-/
import Derived.Test.YtopjiokbmpghjaaLabD
namespace Go.Proofs.Ytopjiokbmpghjaa
open Go.RowKit Go.Shelf
set_option linter.unusedVariables false

theorem allB_done {p : Int → Bool} {s : ByteArray} (n : Nat) (hn : s.size ≤ n) (h : ∀ k (hk : k < s.size), k < n → p ((s[k]'hk).toNat : Int) = true) : allB p s = true := allB_mk fun k hk => h k hk (by omega)
set_option maxRecDepth 100000 in
set_option maxHeartbeats 1600000 in
theorem refName_pure (s : ByteArray) (hs : s.size ≤ 9223372036854775807) (w : World) :
    Calls Try.prog 63 #[.string s] w fun e w' => e = .returned (.bool (nameB s)) ∧ w' = w := by
  have HS : Hid (nameB s = (decide (0 < s.size) && (decide (s.size ≤ 8) && allB letN s))) := rfl
  have HL : Hid (∀ r : Int, letN r = (decide (97 ≤ r) && decide (r ≤ 122))) := fun r => rfl
  go_enter Try.func63, Try.ntmps63
  go_wp2_with fail
  go_loopw [3] (fun s3 wr => ∃ k : Nat, k ≤ s.size ∧ s3 = .int .i64 k ∧ w = wr ∧ Hid (∀ i (hi : i < s.size), i < k → letN ((s[i]'hi).toNat : Int) = true)) (fun s3 _ => s.size - (intOf s3).toNat)
  case atStart => exact ⟨0, Nat.zero_le _, rfl, rfl, fun i _ h => absurd h (by omega)⟩
  case round =>
    obtain ⟨k, hk, rfl, rfl, HA⟩ := hrel
    by_cases hlt : k < s.size
    · have HN : Hid (letN ((s[k]'hlt).toNat : Int) = false → allB letN s = false) := allB_not k hlt
      have HY : Hid (letN ((s[k]'hlt).toNat : Int) = true → ∀ i (hi : i < s.size), i < k + 1 → letN ((s[i]'hi).toNat : Int) = true) := fun h i hi h2 => by
        by_cases e : i = k
        · subst e; exact h
        · exact HA.out i hi (by omega)
      by_cases h0 : 97 ≤ ((s[k]'hlt).toNat : Int)
      · by_cases h1 : ((s[k]'hlt).toNat : Int) ≤ 122
        · have HZ := Lib.hid (HY.out (by rw [HL.out]; simp only [Bool.and_eq_true, decide_eq_true_eq]; omega))
          clear HN HY HA
          go_wp2_with fail
          go_roundw
          case rel => exact ⟨k + 1, by omega, by go_num, by trivial, HZ.out⟩
          case measure => simp [intOf]; omega
        · have HZ := Lib.hid (HN.out (by rw [HL.out]; simp only [Bool.and_eq_false_iff, decide_eq_false_iff_not]; omega))
          clear HN HY HA
          go_wp2_with fail
          go_ret
          exact ⟨retB (by rw [HS.out, HZ.out]; simp), rfl⟩
      · have HZ := Lib.hid (HN.out (by rw [HL.out]; simp only [Bool.and_eq_false_iff, decide_eq_false_iff_not]; omega))
        clear HN HY HA
        go_wp2_with fail
        go_ret
        exact ⟨retB (by rw [HS.out, HZ.out]; simp), rfl⟩
    · obtain rfl : k = s.size := by omega
      have HZ := Lib.hid (allB_done s.size (Nat.le_refl _) HA.out)
      clear HA
      by_cases h1 : 1 ≤ s.size
      · by_cases h8 : s.size ≤ 8
        · go_wp2_with fail
          go_ret
          exact ⟨retB (by rw [HS.out, HZ.out, Bool.eq_iff_iff]; simp; omega), rfl⟩
        · go_wp2_with fail
          go_ret
          exact ⟨retB (by rw [HS.out, HZ.out, Bool.eq_iff_iff]; simp; omega), rfl⟩
      · go_wp2_with fail
        go_ret
        exact ⟨retB (by rw [HS.out, HZ.out, Bool.eq_iff_iff]; simp; omega), rfl⟩
set_option maxRecDepth 100000 in
set_option maxHeartbeats 1600000 in
theorem refValue_pure (s : ByteArray) (hs : s.size ≤ 9223372036854775807) (w : World) :
    Calls Try.prog 64 #[.string s] w fun e w' => e = .returned (.bool (valueB s)) ∧ w' = w := by
  have HS : Hid (valueB s = (decide (s.size ≤ 8) && allB valN s)) := rfl
  have HL : Hid (∀ r : Int, valN r = ((decide (97 ≤ r) && decide (r ≤ 122)) || (decide (48 ≤ r) && decide (r ≤ 57)) || decide (r = 45))) := fun r => rfl
  go_enter Try.func64, Try.ntmps64
  go_wp2_with fail
  go_loopw [3] (fun s3 wr => ∃ k : Nat, k ≤ s.size ∧ s3 = .int .i64 k ∧ w = wr ∧ Hid (∀ i (hi : i < s.size), i < k → valN ((s[i]'hi).toNat : Int) = true)) (fun s3 _ => s.size - (intOf s3).toNat)
  case atStart => exact ⟨0, Nat.zero_le _, rfl, rfl, fun i _ h => absurd h (by omega)⟩
  case round =>
    obtain ⟨k, hk, rfl, rfl, HA⟩ := hrel
    by_cases hlt : k < s.size
    · have HN : Hid (valN ((s[k]'hlt).toNat : Int) = false → allB valN s = false) := allB_not k hlt
      have HY : Hid (valN ((s[k]'hlt).toNat : Int) = true → ∀ i (hi : i < s.size), i < k + 1 → valN ((s[i]'hi).toNat : Int) = true) := fun h i hi h2 => by
        by_cases e : i = k
        · subst e; exact h
        · exact HA.out i hi (by omega)
      have HC := Lib.hid (HL.out ((s[k]'hlt).toNat : Int))
      cases hb : valN ((s[k]'hlt).toNat : Int) with
      | true =>
        have HZ := Lib.hid (HY.out hb)
        have hc : 97 ≤ ((s[k]'hlt).toNat : Int) ∧ ((s[k]'hlt).toNat : Int) ≤ 122 ∨ 48 ≤ ((s[k]'hlt).toNat : Int) ∧ ((s[k]'hlt).toNat : Int) ≤ 57 ∨ ((s[k]'hlt).toNat : Int) = 45 := by
          have := HC.out
          rw [hb] at this
          simp only [Bool.true_eq, Bool.or_eq_true, Bool.and_eq_true, decide_eq_true_eq] at this
          omega
        clear HC hb HN HY HA
        rcases hc with ⟨h0, h1⟩ | ⟨h0, h1⟩ | h0
        · go_wp2_with fail
          go_roundw
          case rel => exact ⟨k + 1, by omega, by go_num, by trivial, HZ.out⟩
          case measure => simp [intOf]; omega
        · have h2 : ¬ 97 ≤ ((s[k]'hlt).toNat : Int) := by omega
          go_wp2_with fail
          go_roundw
          case rel => exact ⟨k + 1, by omega, by go_num, by trivial, HZ.out⟩
          case measure => simp [intOf]; omega
        · have h2 : ¬ 97 ≤ ((s[k]'hlt).toNat : Int) := by omega
          have h3 : ¬ 48 ≤ ((s[k]'hlt).toNat : Int) := by omega
          go_wp2_with fail
          go_roundw
          case rel => exact ⟨k + 1, by omega, by go_num, by trivial, HZ.out⟩
          case measure => simp [intOf]; omega
      | false =>
        have HZ := Lib.hid (HN.out hb)
        have hc : ¬ (97 ≤ ((s[k]'hlt).toNat : Int) ∧ ((s[k]'hlt).toNat : Int) ≤ 122) ∧ ¬ (48 ≤ ((s[k]'hlt).toNat : Int) ∧ ((s[k]'hlt).toNat : Int) ≤ 57) ∧ ¬ ((s[k]'hlt).toNat : Int) = 45 := by
          have := HC.out
          rw [hb] at this
          simp only [Bool.false_eq, Bool.or_eq_false_iff, Bool.and_eq_false_iff, decide_eq_false_iff_not] at this
          omega
        clear HC hb HN HY HA
        obtain ⟨hc1, hc2, hc3⟩ := hc
        have h45 : (((s[k]'hlt).toNat : Int) == 45) = false := by simpa using hc3
        by_cases h0 : 97 ≤ ((s[k]'hlt).toNat : Int)
        · have h1 : ¬ ((s[k]'hlt).toNat : Int) ≤ 122 := fun h => hc1 ⟨h0, h⟩
          have h2 : 48 ≤ ((s[k]'hlt).toNat : Int) := by omega
          have h3 : ¬ ((s[k]'hlt).toNat : Int) ≤ 57 := by omega
          clear hc1 hc2 hc3
          go_wp2_with fail
          go_ret
          exact ⟨retB (by rw [HS.out, HZ.out]; simp), rfl⟩
        · by_cases h2 : 48 ≤ ((s[k]'hlt).toNat : Int)
          · have h3 : ¬ ((s[k]'hlt).toNat : Int) ≤ 57 := fun h => hc2 ⟨h2, h⟩
            clear hc1 hc2 hc3
            go_wp2_with fail
            go_ret
            exact ⟨retB (by rw [HS.out, HZ.out]; simp), rfl⟩
          · clear hc1 hc2 hc3
            go_wp2_with fail
            go_ret
            exact ⟨retB (by rw [HS.out, HZ.out]; simp), rfl⟩
    · obtain rfl : k = s.size := by omega
      have HZ := Lib.hid (allB_done s.size (Nat.le_refl _) HA.out)
      clear HA
      go_wp2_with fail
      go_ret
      exact ⟨retB (by rw [HS.out, HZ.out, Bool.eq_iff_iff]; simp; omega), rfl⟩
theorem refName_any (s : ByteArray) (hs : s.size ≤ 9223372036854775807) (w : World) :
    Calls Try.prog 63 #[.string s] w fun e w' => e = .returned (.bool (nameB s)) ∧ Below w.heap.size w w' := (refName_pure s hs w).mono fun e w' h => ⟨h.1, h.2 ▸ Below.refl _ _⟩
theorem refValue_any (s : ByteArray) (hs : s.size ≤ 9223372036854775807) (w : World) :
    Calls Try.prog 64 #[.string s] w fun e w' => e = .returned (.bool (valueB s)) ∧ Below w.heap.size w w' := (refValue_pure s hs w).mono fun e w' h => ⟨h.1, h.2 ▸ Below.refl _ _⟩
end Go.Proofs.Ytopjiokbmpghjaa
