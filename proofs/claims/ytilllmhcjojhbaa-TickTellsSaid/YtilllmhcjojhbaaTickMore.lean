/-
  Times: the least of several; the document's own functions; a time of any number.
-/
import Derived.Test.YtilllmhcjojhbaaTickOps
namespace Go.Proofs.Ytilllmhcjojhbaa
open Go.RowKit
set_option linter.unusedVariables false

/-- the lesser of two -/
def minT (a b : Int) : Int := if b < a then b else a
/-- the least of several, none: 0 -/
def leastT : List Int → Int
  | [] => 0
  | x :: l => l.foldl minT x
theorem least_one (xs : List Int) (h : 0 < xs.length) : leastT (xs.take 1) = xs.getD 0 0 := by
  cases xs with
  | nil => simp at h
  | cons x l => rfl
theorem least_next (xs : List Int) (k : Nat) (h0 : 0 < k) (hk : k < xs.length) : leastT (xs.take (k + 1)) = minT (leastT (xs.take k)) (xs.getD k 0) := by
  cases xs with
  | nil => simp at hk
  | cons x l =>
    obtain ⟨j, rfl⟩ : ∃ j, k = j + 1 := ⟨k - 1, by omega⟩
    simp only [List.length_cons] at hk
    simp only [List.take_succ_cons, leastT]
    rw [List.take_succ_eq_append_getElem (by omega), List.foldl_append, List.getD_eq_getElem?_getD, List.getElem?_cons_succ, List.getElem?_eq_getElem (by omega)]
    rfl
theorem minT_pos {a b : Int} (h : b < a) : b = minT a b := by unfold minT; rw [if_pos h]
theorem minT_neg {a b : Int} (h : ¬ b < a) : a = minT a b := by unfold minT; rw [if_neg h]

set_option maxHeartbeats 400000 in
theorem least_any (oa : Option Addr) (n cap : Nat) (xs : List Int) (w : World) (hN : Ns w oa n cap xs) (hn0 : 0 < n) (hn : n ≤ 1000) :
    Calls Try.prog 21 #[.slice oa n cap] w fun e w' => e = .returned (.int .i64 (leastT xs)) ∧ w = w' := by
  have HL := Lib.hid hN.len
  obtain ⟨g0, o0, hoa, hc0⟩ := hN.cell 0 hn0
  subst hoa
  rw [Nat.add_zero] at hc0
  have h1 : Hid (xs.getD 0 0 = leastT (xs.take 1)) := (least_one xs (by have := HL.out; omega)).symm
  generalize he0 : xs.getD 0 0 = x0 at *
  clear he0
  have hlt1 : ¬ (n : Int) < 1 := by omega
  go_enter Try.func21, Try.ntmps21
  go_wp2
  go_loop [3, 4] (fun m i => ∃ k : Nat, 0 < k ∧ k ≤ n ∧ i = .int .i64 k ∧ m = .int .i64 (leastT (xs.take k))) (fun _ i => n - (intOf i).toNat)
  case atStart => exact ⟨1, by omega, by omega, rfl, valI h1.out⟩
  case round =>
    obtain ⟨k, hk0, hk, rfl, rfl⟩ := hrel
    by_cases h8 : k < n
    · obtain ⟨g, o, hg, hc⟩ := hN.cell k h8
      cases hg
      have HX := Lib.hid (least_next xs k hk0 (by have := HL.out; omega))
      generalize xs.getD k 0 = x at *
      generalize leastT (xs.take k) = y at *
      by_cases hxy : x < y
      · go_wp2
        go_round
        case rel => exact ⟨k + 1, by omega, by omega, by go_num, valI (by rw [HX.out]; exact minT_pos hxy)⟩
        case measure => simp [intOf]; omega
      · go_wp2
        go_round
        case rel => exact ⟨k + 1, by omega, by omega, by go_num, valI (by rw [HX.out]; exact minT_neg (by omega))⟩
        case measure => simp [intOf]; omega
    · obtain rfl : k = n := by omega
      have HF : Hid (leastT (xs.take k) = leastT xs) := by
        show _ = _
        rw [List.take_of_length_le (by have := HL.out; omega)]
      go_wp2
      go_ret
      exact ⟨retI HF.out, rfl⟩

set_option maxHeartbeats 400000 in
theorem first_yes (oa : Option Addr) (n cap : Nat) (xs : List Int) (w : World) (hN : Ns w oa n cap xs) (hn0 : 0 < n) (hn : n ≤ 1000) (hA : xs.all timeB = true) :
    Calls Try.prog 9 #[.slice oa n cap] w fun e w' => e = .returned (.tuple #[.int .i64 (leastT xs), .int .i64 0]) ∧ w = w' := by
  have C1 : Calls Try.prog 19 #[.slice oa n cap] w fun e w' => e = .returned (.bool true) ∧ w = w' := (are_any oa n cap xs w hN hn).mono fun e w' h => by rw [hA] at h; exact h
  have hne : ((n : Int) == 0) = false := by simp; omega
  clear hA
  go_enter Try.func9, Try.ntmps9
  go_wp2_with fail
  refine C1.mono ?_
  rintro e w' ⟨rfl, rfl⟩
  go_wp2_with fail
  refine (least_any oa n cap xs _ hN hn0 hn).mono ?_
  rintro e w' ⟨rfl, rfl⟩
  go_wp2
  go_ret2
  exact ⟨rfl, rfl⟩
set_option maxHeartbeats 400000 in
theorem first_none (oa : Option Addr) (cap : Nat) (w : World) :
    Calls Try.prog 9 #[.slice oa 0 cap] w fun e w' => e = .returned (.tuple #[.int .i64 0, .int .i64 4]) ∧ w = w' := by
  have C1 : Calls Try.prog 19 #[.slice oa 0 cap] w fun e w' => e = .returned (.bool true) ∧ w = w' := are_any oa 0 cap [] w ⟨rfl, Nat.zero_le _, fun i hi => absurd hi (by omega)⟩ (by omega)
  go_enter Try.func9, Try.ntmps9
  go_wp2_with fail
  refine C1.mono ?_
  rintro e w' ⟨rfl, rfl⟩
  go_wp2
  go_ret2
  exact ⟨rfl, rfl⟩
set_option maxHeartbeats 400000 in
theorem first_no (oa : Option Addr) (n cap : Nat) (xs : List Int) (w : World) (hN : Ns w oa n cap xs) (hn : n ≤ 1000) (hA : xs.all timeB = false) :
    Calls Try.prog 9 #[.slice oa n cap] w fun e w' => e = .returned (.tuple #[.int .i64 0, .int .i64 1]) ∧ w = w' := by
  have C1 : Calls Try.prog 19 #[.slice oa n cap] w fun e w' => e = .returned (.bool false) ∧ w = w' := (are_any oa n cap xs w hN hn).mono fun e w' h => by rw [hA] at h; exact h
  clear hA
  go_enter Try.func9, Try.ntmps9
  go_wp2_with fail
  refine C1.mono ?_
  rintro e w' ⟨rfl, rfl⟩
  go_wp2
  go_ret2
  exact ⟨rfl, rfl⟩

/-- a time of any number -/
def timeT (n : Int) : Int := n % 18446744073709551616 % 1099511627777
theorem tm_eq (n : Int) : wrap64 ((IntKind.u64.wrap n).tmod 1099511627777) = timeT n := by
  have e : IntKind.u64.wrap n = n % 18446744073709551616 := by simp [IntKind.wrap, IntKind.signed, IntKind.bits]
  rw [e, Int.tmod_eq_emod_of_nonneg (by omega)]
  unfold timeT wrap64
  omega
theorem timeT_nn (n : Int) : 0 ≤ timeT n := by unfold timeT; omega
theorem timeT_le (n : Int) : timeT n ≤ 1099511627776 := by unfold timeT; omega
set_option maxHeartbeats 400000 in
theorem tm_any (n : Int) (w : World) :
    Calls Try.prog 18 #[.int .i64 n] w fun e w' => e = .returned (.int .i64 (timeT n)) ∧ w = w' := by
  have h0 := timeT_nn n
  have h1 := timeT_le n
  go_enter Try.func18, Try.ntmps18
  go_wp2
  go_ret
  exact ⟨retI (tm_eq n), rfl⟩

/-! the document's own -/
set_option maxHeartbeats 400000 in
theorem rtime_any (t : Int) (w : World) :
    Calls Try.prog 11 #[.int .i64 t] w fun e w' => e = .returned (.bool (timeB t)) ∧ w = w' := by
  by_cases h0 : 0 ≤ t
  · by_cases h1 : t ≤ 1099511627776
    · go_enter Try.func11, Try.ntmps11
      go_wp2
      go_ret
      exact ⟨retB (time_mk h0 h1).symm, rfl⟩
    · go_enter Try.func11, Try.ntmps11
      go_wp2
      go_ret
      exact ⟨retB (time_high h1).symm, rfl⟩
  · go_enter Try.func11, Try.ntmps11
    go_wp2
    go_ret
    exact ⟨retB (time_low h0).symm, rfl⟩
set_option maxHeartbeats 400000 in
theorem rall_any (oa : Option Addr) (n cap : Nat) (xs : List Int) (w : World) (hN : Ns w oa n cap xs) (hn : n ≤ 1000) :
    Calls Try.prog 13 #[.slice oa n cap] w fun e w' => e = .returned (.bool (xs.all timeB)) ∧ w = w' := by
  go_enter Try.func13, Try.ntmps13
  go_wp2
  go_loop [7] (fun i => ∃ k : Nat, k ≤ n ∧ i = .int .i64 k ∧ (xs.take k).all timeB = true) (fun i => n - (intOf i).toNat)
  case atStart => exact ⟨0, Nat.zero_le _, rfl, rfl⟩
  case round =>
    obtain ⟨k, hk, rfl, hall⟩ := hrel
    have HA := Lib.hid hall
    clear hall
    by_cases h8 : k < n
    · obtain ⟨g, o, rfl, hc⟩ := hN.cell k h8
      have HL := Lib.hid hN.len
      generalize he : xs.getD k 0 = x at *
      have HE := Lib.hid he
      clear he
      cases hs : timeB x with
      | true =>
        have HS := Lib.hid hs
        clear hs
        have hT : Calls Try.prog 11 #[.int .i64 x] w fun e w' => e = .returned (.bool true) ∧ w = w' := (rtime_any x w).mono fun e w' h => by rw [HS.out] at h; exact h
        go_wp2_with fail
        refine hT.mono ?_
        rintro e w' ⟨rfl, rfl⟩
        go_wp2
        go_round
        case rel => exact ⟨k + 1, by omega, by go_num, all_next xs k (by have := HL.out; omega) HA.out (by rw [HE.out]; exact HS.out)⟩
        case measure => simp [intOf]; omega
      | false =>
        have HS := Lib.hid hs
        clear hs
        have hT : Calls Try.prog 11 #[.int .i64 x] w fun e w' => e = .returned (.bool false) ∧ w = w' := (rtime_any x w).mono fun e w' h => by rw [HS.out] at h; exact h
        go_wp2_with fail
        refine hT.mono ?_
        rintro e w' ⟨rfl, rfl⟩
        go_wp2
        go_ret
        exact ⟨retB (all_not xs k (by have := HL.out; omega) (by rw [HE.out]; exact HS.out)).symm, rfl⟩
    · obtain rfl : k = n := by omega
      have hl := hN.len
      have HF : Hid (xs.all timeB = true) := by
        have h := HA.out
        rw [List.take_of_length_le (by omega)] at h
        exact h
      clear hl
      go_wp2
      go_ret
      exact ⟨retB HF.out.symm, rfl⟩
theorem least_zero (xs : List Int) (h : 0 < xs.length) : minT (xs.getD 0 0) (xs.getD 0 0) = xs.getD 0 0 := by unfold minT; split <;> rfl
/-- the least of the first k behind the first one -/
def leastR (xs : List Int) (k : Nat) : Int := (xs.take k).foldl minT (xs.getD 0 0)
theorem leastR_next (xs : List Int) (k : Nat) (hk : k < xs.length) : leastR xs (k + 1) = minT (leastR xs k) (xs.getD k 0) := by
  unfold leastR
  rw [List.take_succ_eq_append_getElem hk, List.foldl_append, getD_at xs k hk]
  rfl
theorem leastR_all (xs : List Int) (h : 0 < xs.length) (k : Nat) (hk : xs.length ≤ k) : leastR xs k = leastT xs := by
  cases xs with
  | nil => simp at h
  | cons x l =>
    unfold leastR
    rw [List.take_of_length_le hk]
    show l.foldl minT (minT x x) = l.foldl minT x
    have : minT x x = x := by unfold minT; split <;> rfl
    rw [this]
set_option maxHeartbeats 400000 in
theorem rfirst_any (oa : Option Addr) (n cap : Nat) (xs : List Int) (w : World) (hN : Ns w oa n cap xs) (hn0 : 0 < n) (hn : n ≤ 1000) :
    Calls Try.prog 14 #[.slice oa n cap] w fun e w' => e = .returned (.int .i64 (leastT xs)) ∧ w = w' := by
  have HL := Lib.hid hN.len
  obtain ⟨g0, o0, hoa, hc0⟩ := hN.cell 0 hn0
  subst hoa
  rw [Nat.add_zero] at hc0
  have h1 : Hid (xs.getD 0 0 = leastR xs 0) := Lib.hid rfl
  generalize he0 : xs.getD 0 0 = x0 at *
  clear he0
  go_enter Try.func14, Try.ntmps14
  go_wp2
  go_loop [3, 11] (fun m i => ∃ k : Nat, k ≤ n ∧ i = .int .i64 k ∧ m = .int .i64 (leastR xs k)) (fun _ i => n - (intOf i).toNat)
  case atStart => exact ⟨0, by omega, rfl, valI h1.out⟩
  case round =>
    obtain ⟨k, hk, rfl, rfl⟩ := hrel
    by_cases h8 : k < n
    · obtain ⟨g, o, hg, hc⟩ := hN.cell k h8
      cases hg
      have HX := Lib.hid (leastR_next xs k (by have := HL.out; omega))
      generalize xs.getD k 0 = x at *
      generalize leastR xs k = y at *
      by_cases hxy : x < y
      · go_wp2
        go_round
        case rel => exact ⟨k + 1, by omega, by go_num, valI (by rw [HX.out]; exact minT_pos hxy)⟩
        case measure => simp [intOf]; omega
      · go_wp2
        go_round
        case rel => exact ⟨k + 1, by omega, by go_num, valI (by rw [HX.out]; exact minT_neg (by omega))⟩
        case measure => simp [intOf]; omega
    · obtain rfl : k = n := by omega
      have HF : Hid (leastR xs k = leastT xs) := leastR_all xs (by have := HL.out; omega) k (by have := HL.out; omega)
      go_wp2
      go_ret
      exact ⟨retI HF.out, rfl⟩
set_option maxHeartbeats 400000 in
theorem radd_any (t d : Int) (w : World) (ht0 : 0 ≤ t) (ht1 : t ≤ 1099511627776) (hd0 : 0 ≤ d) (hd1 : d ≤ 1099511627776) :
    Calls Try.prog 15 #[.int .i64 t, .int .i64 d] w fun e w' => e = .returned (.int .i64 (addT t d)) ∧ w = w' := by
  by_cases h : 1099511627776 < t + d
  · go_enter Try.func15, Try.ntmps15
    go_wp2
    go_ret
    exact ⟨retI (by unfold addT; rw [if_pos h]), rfl⟩
  · go_enter Try.func15, Try.ntmps15
    go_wp2
    go_ret
    exact ⟨retI (by unfold addT; rw [if_neg (by omega)]), rfl⟩
set_option maxHeartbeats 400000 in
theorem rsub_any (t d : Int) (w : World) (ht0 : 0 ≤ t) (ht1 : t ≤ 1099511627776) (hd0 : 0 ≤ d) (hd1 : d ≤ 1099511627776) :
    Calls Try.prog 16 #[.int .i64 t, .int .i64 d] w fun e w' => e = .returned (.int .i64 (subT t d)) ∧ w = w' := by
  by_cases h : t - d < 0
  · go_enter Try.func16, Try.ntmps16
    go_wp2
    go_ret
    exact ⟨retI (by unfold subT; rw [if_pos h]), rfl⟩
  · go_enter Try.func16, Try.ntmps16
    go_wp2
    go_ret
    exact ⟨retI (by unfold subT; rw [if_neg (by omega)]), rfl⟩
set_option maxHeartbeats 400000 in
theorem rtimes_any (t n : Int) (w : World) (ht0 : 0 ≤ t) (ht1 : t ≤ 1099511627776) (hn0 : 0 ≤ n) (hn1 : n ≤ 1099511627776) :
    Calls Try.prog 17 #[.int .i64 t, .int .i64 n] w fun e w' => e = .returned (.int .i64 (mulT t n)) ∧ w = w' := by
  by_cases h0 : 0 < t
  · have hp0 := mul_nn ht0 hn0
    have HI := Lib.hid (past_iff (t := n) h0)
    by_cases h1 : 1099511627776 / t < n
    · have h : 1099511627776 < t * n := by rw [Int.mul_comm]; exact HI.out.1 h1
      go_enter Try.func17, Try.ntmps17
      go_wp2
      go_ret
      exact ⟨retI (by unfold mulT; rw [if_pos h]), rfl⟩
    · have h : ¬ 1099511627776 < t * n := by rw [Int.mul_comm]; exact fun h => h1 (HI.out.2 h)
      have h' : t * n ≤ 1099511627776 := by omega
      go_enter Try.func17, Try.ntmps17
      go_wp2
      go_ret
      exact ⟨retI (by unfold mulT; rw [if_neg (by omega)]), rfl⟩
  · obtain rfl : t = 0 := by omega
    go_enter Try.func17, Try.ntmps17
    go_wp2
    go_ret
    exact ⟨retI (by unfold mulT; simp), rfl⟩
end Go.Proofs.Ytilllmhcjojhbaa
