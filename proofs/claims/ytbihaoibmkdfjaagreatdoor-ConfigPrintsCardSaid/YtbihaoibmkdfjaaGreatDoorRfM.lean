/-
  The document's own answers: names, values, which labels and matchers may be.
  The document's own answer: which matcher may be.
  The document's own answer: which matchers may be.
-/
import Derived.Test.YtbihaoibmkdfjaaGreatDoorLabN
namespace Go.Proofs.YtbihaoibmkdfjaaGreatDoor
open Go.RowKit Go.Shelf
set_option linter.unusedVariables false

theorem allB_done {p : Int → Bool} {s : ByteArray} (n : Nat) (hn : s.size ≤ n) (h : ∀ k (hk : k < s.size), k < n → p ((s[k]'hk).toNat : Int) = true) : allB p s = true := allB_mk fun k hk => h k hk (by omega)
set_option maxRecDepth 100000 in
set_option maxHeartbeats 1600000 in
theorem refName_pure (s : ByteArray) (hs : s.size ≤ 9223372036854775807) (w : World) :
    Calls Tryz.prog 52 #[.string s] w fun e w' => e = .returned (.bool (nameB s)) ∧ w' = w := by
  have HS : Hid (nameB s = (decide (0 < s.size) && (decide (s.size ≤ 8) && allB letN s))) := rfl
  have HL : Hid (∀ r : Int, letN r = (decide (97 ≤ r) && decide (r ≤ 122))) := fun r => rfl
  go_enter Tryz.func52, Tryz.ntmps52
  go_wp2_with fail
  go_loopw [3] (fun s3 wr => ∃ k : Nat, k ≤ s.size ∧ s3 = .int .i64 k ∧ w = wr ∧ Hid (∀ i (hi : i < s.size), i < k → letN ((s[i]'hi).toNat : Int) = true)) (fun s3 _ => s.size - (intOf s3).toNat)
  case atStart => exact ⟨0, Nat.zero_le _, rfl, rfl, fun i _ h => absurd h (by omega)⟩
  case round =>
    obtain ⟨k, hk, rfl, rfl, HA⟩ := hrel
    by_cases hlt : k < s.size
    · have HN : Hid (letN ((s[k]'hlt).toNat : Int) = false → allB letN s = false) := allB_not k hlt
      have HY : Hid (letN ((s[k]'hlt).toNat : Int) = true → ∀ i (hi : i < s.size), i < k + 1 → letN ((s[i]'hi).toNat : Int) = true) := fun h i hi h2 => by
        by_cases e : i = k
        · subst e; exact h
        · exact HA.out i hi (by omega)
      by_cases h0 : 97 ≤ ((s[k]'hlt).toNat : Int)
      · by_cases h1 : ((s[k]'hlt).toNat : Int) ≤ 122
        · have HZ := Lib.hid (HY.out (by rw [HL.out]; simp only [Bool.and_eq_true, decide_eq_true_eq]; omega))
          clear HN HY HA
          go_wp2_with fail
          go_roundw
          case rel => exact ⟨k + 1, by omega, by go_num, by trivial, HZ.out⟩
          case measure => simp [intOf]; omega
        · have HZ := Lib.hid (HN.out (by rw [HL.out]; simp only [Bool.and_eq_false_iff, decide_eq_false_iff_not]; omega))
          clear HN HY HA
          go_wp2_with fail
          go_ret
          exact ⟨retB (by rw [HS.out, HZ.out]; simp), rfl⟩
      · have HZ := Lib.hid (HN.out (by rw [HL.out]; simp only [Bool.and_eq_false_iff, decide_eq_false_iff_not]; omega))
        clear HN HY HA
        go_wp2_with fail
        go_ret
        exact ⟨retB (by rw [HS.out, HZ.out]; simp), rfl⟩
    · obtain rfl : k = s.size := by omega
      have HZ := Lib.hid (allB_done s.size (Nat.le_refl _) HA.out)
      clear HA
      by_cases h1 : 1 ≤ s.size
      · by_cases h8 : s.size ≤ 8
        · go_wp2_with fail
          go_ret
          exact ⟨retB (by rw [HS.out, HZ.out, Bool.eq_iff_iff]; simp; omega), rfl⟩
        · go_wp2_with fail
          go_ret
          exact ⟨retB (by rw [HS.out, HZ.out, Bool.eq_iff_iff]; simp; omega), rfl⟩
      · go_wp2_with fail
        go_ret
        exact ⟨retB (by rw [HS.out, HZ.out, Bool.eq_iff_iff]; simp; omega), rfl⟩
set_option maxRecDepth 100000 in
set_option maxHeartbeats 1600000 in
theorem refValue_pure (s : ByteArray) (hs : s.size ≤ 9223372036854775807) (w : World) :
    Calls Tryz.prog 107 #[.string s] w fun e w' => e = .returned (.bool (valueB s)) ∧ w' = w := by
  have HS : Hid (valueB s = (decide (s.size ≤ 8) && allB valN s)) := rfl
  have HL : Hid (∀ r : Int, valN r = ((decide (97 ≤ r) && decide (r ≤ 122)) || (decide (48 ≤ r) && decide (r ≤ 57)) || decide (r = 45))) := fun r => rfl
  go_enter Tryz.func107, Tryz.ntmps107
  go_wp2_with fail
  go_loopw [3] (fun s3 wr => ∃ k : Nat, k ≤ s.size ∧ s3 = .int .i64 k ∧ w = wr ∧ Hid (∀ i (hi : i < s.size), i < k → valN ((s[i]'hi).toNat : Int) = true)) (fun s3 _ => s.size - (intOf s3).toNat)
  case atStart => exact ⟨0, Nat.zero_le _, rfl, rfl, fun i _ h => absurd h (by omega)⟩
  case round =>
    obtain ⟨k, hk, rfl, rfl, HA⟩ := hrel
    by_cases hlt : k < s.size
    · have HN : Hid (valN ((s[k]'hlt).toNat : Int) = false → allB valN s = false) := allB_not k hlt
      have HY : Hid (valN ((s[k]'hlt).toNat : Int) = true → ∀ i (hi : i < s.size), i < k + 1 → valN ((s[i]'hi).toNat : Int) = true) := fun h i hi h2 => by
        by_cases e : i = k
        · subst e; exact h
        · exact HA.out i hi (by omega)
      have HC := Lib.hid (HL.out ((s[k]'hlt).toNat : Int))
      cases hb : valN ((s[k]'hlt).toNat : Int) with
      | true =>
        have HZ := Lib.hid (HY.out hb)
        have hc : 97 ≤ ((s[k]'hlt).toNat : Int) ∧ ((s[k]'hlt).toNat : Int) ≤ 122 ∨ 48 ≤ ((s[k]'hlt).toNat : Int) ∧ ((s[k]'hlt).toNat : Int) ≤ 57 ∨ ((s[k]'hlt).toNat : Int) = 45 := by
          have := HC.out
          rw [hb] at this
          simp only [Bool.true_eq, Bool.or_eq_true, Bool.and_eq_true, decide_eq_true_eq] at this
          omega
        clear HC hb HN HY HA
        rcases hc with ⟨h0, h1⟩ | ⟨h0, h1⟩ | h0
        · go_wp2_with fail
          go_roundw
          case rel => exact ⟨k + 1, by omega, by go_num, by trivial, HZ.out⟩
          case measure => simp [intOf]; omega
        · have h2 : ¬ 97 ≤ ((s[k]'hlt).toNat : Int) := by omega
          go_wp2_with fail
          go_roundw
          case rel => exact ⟨k + 1, by omega, by go_num, by trivial, HZ.out⟩
          case measure => simp [intOf]; omega
        · have h2 : ¬ 97 ≤ ((s[k]'hlt).toNat : Int) := by omega
          have h3 : ¬ 48 ≤ ((s[k]'hlt).toNat : Int) := by omega
          go_wp2_with fail
          go_roundw
          case rel => exact ⟨k + 1, by omega, by go_num, by trivial, HZ.out⟩
          case measure => simp [intOf]; omega
      | false =>
        have HZ := Lib.hid (HN.out hb)
        have hc : ¬ (97 ≤ ((s[k]'hlt).toNat : Int) ∧ ((s[k]'hlt).toNat : Int) ≤ 122) ∧ ¬ (48 ≤ ((s[k]'hlt).toNat : Int) ∧ ((s[k]'hlt).toNat : Int) ≤ 57) ∧ ¬ ((s[k]'hlt).toNat : Int) = 45 := by
          have := HC.out
          rw [hb] at this
          simp only [Bool.false_eq, Bool.or_eq_false_iff, Bool.and_eq_false_iff, decide_eq_false_iff_not] at this
          omega
        clear HC hb HN HY HA
        obtain ⟨hc1, hc2, hc3⟩ := hc
        have h45 : (((s[k]'hlt).toNat : Int) == 45) = false := by simpa using hc3
        by_cases h0 : 97 ≤ ((s[k]'hlt).toNat : Int)
        · have h1 : ¬ ((s[k]'hlt).toNat : Int) ≤ 122 := fun h => hc1 ⟨h0, h⟩
          have h2 : 48 ≤ ((s[k]'hlt).toNat : Int) := by omega
          have h3 : ¬ ((s[k]'hlt).toNat : Int) ≤ 57 := by omega
          clear hc1 hc2 hc3
          go_wp2_with fail
          go_ret
          exact ⟨retB (by rw [HS.out, HZ.out]; simp), rfl⟩
        · by_cases h2 : 48 ≤ ((s[k]'hlt).toNat : Int)
          · have h3 : ¬ ((s[k]'hlt).toNat : Int) ≤ 57 := fun h => hc2 ⟨h2, h⟩
            clear hc1 hc2 hc3
            go_wp2_with fail
            go_ret
            exact ⟨retB (by rw [HS.out, HZ.out]; simp), rfl⟩
          · clear hc1 hc2 hc3
            go_wp2_with fail
            go_ret
            exact ⟨retB (by rw [HS.out, HZ.out]; simp), rfl⟩
    · obtain rfl : k = s.size := by omega
      have HZ := Lib.hid (allB_done s.size (Nat.le_refl _) HA.out)
      clear HA
      go_wp2_with fail
      go_ret
      exact ⟨retB (by rw [HS.out, HZ.out, Bool.eq_iff_iff]; simp; omega), rfl⟩
theorem refName_any (s : ByteArray) (hs : s.size ≤ 9223372036854775807) (w : World) :
    Calls Tryz.prog 52 #[.string s] w fun e w' => e = .returned (.bool (nameB s)) ∧ Below w.heap.size w w' := (refName_pure s hs w).mono fun e w' h => ⟨h.1, h.2 ▸ Below.refl _ _⟩
theorem refValue_any (s : ByteArray) (hs : s.size ≤ 9223372036854775807) (w : World) :
    Calls Tryz.prog 107 #[.string s] w fun e w' => e = .returned (.bool (valueB s)) ∧ Below w.heap.size w w' := (refValue_pure s hs w).mono fun e w' h => ⟨h.1, h.2 ▸ Below.refl _ _⟩
end Go.Proofs.YtbihaoibmkdfjaaGreatDoor
namespace Go.Proofs.YtbihaoibmkdfjaaGreatDoor
open Go.RowKit Go.Shelf
set_option linter.unusedVariables false

set_option maxRecDepth 100000 in
set_option maxHeartbeats 4000000 in
theorem refMatcher_any (m : M3) (hs : m.2.1.size ≤ 4611686018427387904 ∧ m.2.2.size ≤ 4611686018427387904) (w : World) :
    Calls Tryz.prog 86 #[aggM m] w fun e w' => e = .returned (.bool (matB m)) ∧ Below w.heap.size w w' := by
  obtain ⟨k, s, t⟩ := m
  have HR : Hid (matB (k, s, t) = (decide (0 ≤ k) && decide (k ≤ 3) && nameB s && valueB t && (!decide (k = 3) || (t.toList == [])))) := rfl
  have hB := fun o => (Below.refl _ w).alloc (Nat.le_refl w.heap.size) o
  have HT := fun w => refName_any s (by have := hs.1; dsimp only at this; omega) w
  have HU := fun w => refValue_any t (by have := hs.2; dsimp only at this; omega) w
  dsimp only [aggM]
  clear hs
  by_cases h0 : 0 ≤ k
  · by_cases h3 : k ≤ 3
    · generalize nameB s = a at *
      generalize valueB t = b at *
      cases a with
      | false =>
        go_enter Tryz.func86, Tryz.ntmps86
        go_wp2_with fail
        refine (HT _).mono ?_
        rintro e w1 ⟨rfl, B1⟩
        go_wp2_with fail
        go_ret
        exact ⟨retB (by rw [HR.out]; simp), (hB _).trans (B1.mono (by simp))⟩
      | true =>
        cases b with
        | false =>
          go_enter Tryz.func86, Tryz.ntmps86
          go_wp2_with fail
          refine (HT _).mono ?_
          rintro e w1 ⟨rfl, B1⟩
          have c2 : w1.cell? ⟨w.heap.size, 2, none⟩ = some (.string t) := (B1.cell (by simp)).trans (by simp)
          go_wp2_with fail
          refine (HU _).mono ?_
          rintro e w2 ⟨rfl, B2⟩
          go_wp2_with fail
          go_ret
          exact ⟨retB (by rw [HR.out]; simp), (hB _).trans ((B1.mono (by simp)).trans (B2.mono (by have := B1.size; simp at this; omega)))⟩
        | true =>
          by_cases hk : k = 3
          · subst hk
            go_enter Tryz.func86, Tryz.ntmps86
            go_wp2_with fail
            refine (HT _).mono ?_
            rintro e w1 ⟨rfl, B1⟩
            have c0 : w1.cell? ⟨w.heap.size, 0, none⟩ = some (.int .i64 3) := (B1.cell (by simp)).trans (by simp)
            have c2 : w1.cell? ⟨w.heap.size, 2, none⟩ = some (.string t) := (B1.cell (by simp)).trans (by simp)
            go_wp2_with fail
            refine (HU _).mono ?_
            rintro e w2 ⟨rfl, B2⟩
            have d0 : w2.cell? ⟨w.heap.size, 0, none⟩ = some (.int .i64 3) := (B2.cell (World.block_lt_of_cell? _ _ c0)).trans c0
            have d2 : w2.cell? ⟨w.heap.size, 2, none⟩ = some (.string t) := (B2.cell (World.block_lt_of_cell? _ _ c2)).trans c2
            go_wp2_with fail
            go_ret
            exact ⟨retB (by rw [HR.out]; simp), (hB _).trans ((B1.mono (by simp)).trans (B2.mono (by have := B1.size; simp at this; omega)))⟩
          · have hk1 : (k == 3) = false := by simp [hk]
            go_enter Tryz.func86, Tryz.ntmps86
            go_wp2_with fail
            refine (HT _).mono ?_
            rintro e w1 ⟨rfl, B1⟩
            have c0 : w1.cell? ⟨w.heap.size, 0, none⟩ = some (.int .i64 k) := (B1.cell (by simp)).trans (by simp)
            have c2 : w1.cell? ⟨w.heap.size, 2, none⟩ = some (.string t) := (B1.cell (by simp)).trans (by simp)
            go_wp2_with fail
            refine (HU _).mono ?_
            rintro e w2 ⟨rfl, B2⟩
            have d0 : w2.cell? ⟨w.heap.size, 0, none⟩ = some (.int .i64 k) := (B2.cell (World.block_lt_of_cell? _ _ c0)).trans c0
            go_wp2_with fail
            go_ret
            exact ⟨retB (by rw [HR.out]; simp [h0, h3, hk]), (hB _).trans ((B1.mono (by simp)).trans (B2.mono (by have := B1.size; simp at this; omega)))⟩
    · clear HT HU
      go_enter Tryz.func86, Tryz.ntmps86
      go_wp2_with fail
      go_ret
      exact ⟨retB (by rw [HR.out, show decide (k ≤ 3) = false by simp; omega]; simp), hB _⟩
  · clear HT HU
    go_enter Tryz.func86, Tryz.ntmps86
    go_wp2_with fail
    go_ret
    exact ⟨retB (by rw [HR.out, show decide (0 ≤ k) = false by simp; omega]; simp), hB _⟩
end Go.Proofs.YtbihaoibmkdfjaaGreatDoor
namespace Go.Proofs.YtbihaoibmkdfjaaGreatDoor
open Go.RowKit Go.Shelf
set_option linter.unusedVariables false

def ShortM (l : List M3) : Prop := ∀ k, k < l.length → (l.getD k zM).2.1.size ≤ 4611686018427387904 ∧ (l.getD k zM).2.2.size ≤ 4611686018427387904
theorem matsB_any {l : List M3} (h : l.any (fun m => !matB m) = true) : matsB l = false := by unfold matsB; rw [h]; simp
theorem matsB_len {l : List M3} (n : Nat) (hl : l.length = n) (h : l.any (fun m => !matB m) = false) : matsB l = decide (n ≤ 4) := by unfold matsB; rw [h, hl]; simp
set_option maxRecDepth 100000 in
set_option maxHeartbeats 1600000 in
theorem refMatchers_any (oa : Option Addr) (n cap : Nat) (l : List M3) (w : World) (h : Ms w oa n cap l) (hn : n ≤ 3074457345618258602) (hS : ShortM l) :
    Calls Tryz.prog 56 #[.slice oa n cap] w fun e w' => e = .returned (.bool (matsB l)) ∧ Below w.heap.size w w' := by
  have hl := h.len
  have hr := h.room
  have HS := Lib.hid hS
  clear hS
  go_enter Tryz.func56, Tryz.ntmps56
  go_wp2_with fail
  go_loopw [4, 7] (fun _ s7 wr => ∃ k : Nat, k ≤ n ∧ s7 = .int .i64 k ∧ Below w.heap.size w wr ∧ Hid ((l.take k).any (fun m => !matB m) = false)) (fun _ s7 _ => n - (intOf s7).toNat)
  case atStart => exact ⟨0, Nat.zero_le _, rfl, Below.refl _ _, by show _ = _; simp⟩
  case round =>
    obtain ⟨k, hk, rfl, hB, HA⟩ := hrel
    by_cases hlt : k < n
    · obtain ⟨g, o, rfl, c0, c1, c2⟩ := (h.below hB (Nat.le_refl _)).cell k hlt
      have HX := Lib.hid (anyM_next (fun m => !matB m) l k (by omega) HA.out)
      have HN := Lib.hid (anyM_hit (fun m => !matB m) l k (by omega))
      have HT := fun w => refMatcher_any (l.getD k zM) (HS.out k (by omega)) w
      generalize l.getD k zM = x at *
      obtain ⟨q, s, t⟩ := x
      dsimp only [aggM] at c0 c1 c2 HT
      have hB7 := hB.alloc hB.size (.cells #[.int .i64 q, .string s, .string t] 59)
      cases hb : matB (q, s, t) with
      | true =>
        have HT := fun w => hb ▸ HT w
        have HY := Lib.hid (HX.out (by rw [hb]; rfl))
        clear HX HN hb h hl
        go_wp2_with fail
        refine (HT _).mono ?_
        rintro e w1 ⟨rfl, B1⟩
        go_wp2_with fail
        go_roundw
        case rel => exact ⟨k + 1, by omega, by go_num, hB7.trans (B1.mono hB7.size), HY.out⟩
        case measure => simp [intOf]; omega
      | false =>
        have HT := fun w => hb ▸ HT w
        have HY := Lib.hid (matsB_any (HN.out (by rw [hb]; rfl)))
        clear HX HN hb h hl
        go_wp2_with fail
        refine (HT _).mono ?_
        rintro e w1 ⟨rfl, B1⟩
        go_wp2_with fail
        go_ret
        exact ⟨retB HY.out.symm, hB7.trans (B1.mono hB7.size)⟩
    · obtain rfl : k = n := by omega
      have HF : Hid (matsB l = decide (k ≤ 4)) := by
        have h := HA.out
        rw [List.take_of_length_le (by omega)] at h
        exact matsB_len k hl h
      clear HA hl h
      go_wp2_with fail
      go_ret
      exact ⟨retB (by rw [HF.out, Bool.eq_iff_iff]; simp; omega), hB⟩
end Go.Proofs.YtbihaoibmkdfjaaGreatDoor
