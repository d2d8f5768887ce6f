/-
  What is read off a disk: a slice of texts that lies in memory, and the functions that only read it.
-/
import Derived.Test.YtmjbhmmcpjhmcaaTexts
import Derived.WalkKit
import Derived.ProofKit
import Derived.LoopTactic
import Derived.OneCell
import Derived.Lib.Hide
import Derived.Outline
import Derived.WalkSpells
import Derived.WalkLawsBesides
import Derived.Deep.QuietTactic
import Derived.BigQuiet
namespace Go.Proofs.Ytmjbhmmcpjhmcaa
open Go.RowKit
set_option linter.unusedVariables false

/-- the texts ss lie at a slice of length n -/
structure Rd (w : World) (oa : Option Addr) (n cap : Nat) (ss : List ByteArray) : Prop where
  len : ss.length = n
  room : n ≤ cap
  cell : ∀ i, i < n → ∃ g, oa = some ⟨g, 0, none⟩ ∧ w.cell? ⟨g, i, none⟩ = some (.string (ss.getD i ByteArray.empty))

theorem Rd.below {w w' : World} {oa : Option Addr} {n cap : Nat} {ss : List ByteArray} (h : Rd w oa n cap ss) {C : Nat} (hB : Below C w w') (hC : w.heap.size ≤ C) : Rd w' oa n cap ss := by
  refine ⟨h.len, h.room, fun i hi => ?_⟩
  obtain ⟨g, hg, hc⟩ := h.cell i hi
  have := World.block_lt_of_cell? w _ hc
  exact ⟨g, hg, (hB.cell (p := ⟨g, i, none⟩) (Nat.lt_of_lt_of_le this hC)).trans hc⟩
theorem Rd.nil (w : World) : Rd w none 0 0 [] := ⟨rfl, Nat.le_refl _, fun i hi => absurd hi (by omega)⟩
/-- which disks may be -/
def rightB (ss : List ByteArray) : Bool := decide (10 ≤ ss.length) && decide (ss.length ≤ 130) && ss.all (fun s => s.size == 128)
theorem all_take (ss : List ByteArray) (k : Nat) (hk : k < ss.length) (h : (ss.take k).all (fun s => s.size == 128) = true) (hs : (ss.getD k ByteArray.empty).size = 128) : (ss.take (k + 1)).all (fun s => s.size == 128) = true := by
  rw [List.take_succ_eq_append_getElem hk, List.all_append, h]
  rw [List.getD_eq_getElem?_getD, List.getElem?_eq_getElem hk] at hs
  simpa using hs
theorem not_all (ss : List ByteArray) (k : Nat) (hk : k < ss.length) (hs : (ss.getD k ByteArray.empty).size ≠ 128) : ss.all (fun s => s.size == 128) = false := by
  rw [List.getD_eq_getElem?_getD, List.getElem?_eq_getElem hk] at hs
  rw [List.all_eq_false]
  exact ⟨ss[k], List.getElem_mem hk, by simpa using hs⟩
set_option maxHeartbeats 800000 in
theorem right_any (oa : Option Addr) (n cap : Nat) (ss : List ByteArray) (w : World) (hR : Rd w oa n cap ss) (hn : n ≤ 1000) :
    Calls Try.prog 57 #[.agg #[.slice oa n cap]] w fun e w' => e = .returned (.bool (rightB ss)) ∧ Below w.heap.size w w' := by
  by_cases h1 : n < 10
  · go_enter Try.func57, Try.ntmps57
    go_wp2
    go_ret
    exact ⟨ret_bool (by unfold rightB; rw [hR.len]; simp; omega), below_alloc w _⟩
  by_cases h2 : 130 < n
  · go_enter Try.func57, Try.ntmps57
    go_wp2
    go_ret
    exact ⟨ret_bool (by unfold rightB; rw [hR.len]; simp; omega), below_alloc w _⟩
  go_enter Try.func57, Try.ntmps57
  go_wp2
  go_loop [18] (fun i => ∃ k : Nat, k ≤ n ∧ i = .int .i64 k ∧ (ss.take k).all (fun s => s.size == 128) = true) (fun i => n - (intOf i).toNat)
  case atStart => exact ⟨0, Nat.zero_le _, rfl, rfl⟩
  case round =>
    obtain ⟨k, hk, rfl, hall⟩ := hrel
    have HA := Lib.hid hall
    clear hall
    by_cases h8 : k < n
    · obtain ⟨g, rfl, hc⟩ := hR.cell k h8
      have hc' := (below_alloc w (.cells #[.slice (some ⟨g, 0, none⟩) n cap] 24)).cell (p := ⟨g, k, none⟩) (World.block_lt_of_cell? w _ hc)
      rw [hc] at hc'
      by_cases hs : (ss.getD k ByteArray.empty).size = 128
      · have hs' : (((ss.getD k ByteArray.empty).size : Int) == 128) = true := by simp only [beq_iff_eq]; omega
        have HS := Lib.hid hs
        clear hs
        generalize he : ss.getD k ByteArray.empty = s at *
        have HE := Lib.hid he
        clear he
        go_wp2
        go_round
        case rel => exact ⟨k + 1, by omega, by go_num, all_take ss k (by have := hR.len; omega) HA.out (by rw [HE.out]; exact HS.out)⟩
        case measure => simp [intOf]; omega
      · have hs' : (((ss.getD k ByteArray.empty).size : Int) == 128) = false := by simp only [beq_eq_false_iff_ne, ne_eq]; omega
        have HS := Lib.hid hs
        clear hs
        generalize he : ss.getD k ByteArray.empty = s at *
        have HE := Lib.hid he
        clear he
        go_wp2
        go_ret
        exact ⟨ret_bool (by unfold rightB; rw [not_all ss k (by have := hR.len; omega) (by rw [HE.out]; exact HS.out)]; simp), below_alloc w _⟩
    · obtain rfl : k = n := by omega
      go_wp2
      go_ret
      have HA' := HA.out
      rw [List.take_of_length_le (by rw [hR.len]; exact Nat.le_refl _)] at HA'
      exact ⟨ret_bool (by unfold rightB; rw [HA', hR.len]; simp; omega), below_alloc w _⟩

set_option maxHeartbeats 800000 in
theorem rright_any (oa : Option Addr) (n cap : Nat) (ss : List ByteArray) (w : World) (hR : Rd w oa n cap ss) (hn : n ≤ 1000) :
    Calls Try.prog 45 #[.agg #[.slice oa n cap]] w fun e w' => e = .returned (.bool (rightB ss)) ∧ Below w.heap.size w w' := by
  go_enter Try.func45, Try.ntmps45
  go_wp2
  go_loop [8] (fun i => ∃ k : Nat, k ≤ n ∧ i = .int .i64 k ∧ (ss.take k).all (fun s => s.size == 128) = true) (fun i => n - (intOf i).toNat)
  case atStart => exact ⟨0, Nat.zero_le _, rfl, rfl⟩
  case round =>
    obtain ⟨k, hk, rfl, hall⟩ := hrel
    have HA := Lib.hid hall
    clear hall
    by_cases h8 : k < n
    · obtain ⟨g, rfl, hc⟩ := hR.cell k h8
      have hc' := (below_alloc w (.cells #[.slice (some ⟨g, 0, none⟩) n cap] 24)).cell (p := ⟨g, k, none⟩) (World.block_lt_of_cell? w _ hc)
      rw [hc] at hc'
      by_cases hs : (ss.getD k ByteArray.empty).size = 128
      · have hs' : (((ss.getD k ByteArray.empty).size : Int) == 128) = true := by simp only [beq_iff_eq]; omega
        have HS := Lib.hid hs
        clear hs
        generalize he : ss.getD k ByteArray.empty = s at *
        have HE := Lib.hid he
        clear he
        go_wp2
        go_round
        case rel => exact ⟨k + 1, by omega, by go_num, all_take ss k (by have := hR.len; omega) HA.out (by rw [HE.out]; exact HS.out)⟩
        case measure => simp [intOf]; omega
      · have hs' : (((ss.getD k ByteArray.empty).size : Int) == 128) = false := by simp only [beq_eq_false_iff_ne, ne_eq]; omega
        have HS := Lib.hid hs
        clear hs
        generalize he : ss.getD k ByteArray.empty = s at *
        have HE := Lib.hid he
        clear he
        go_wp2
        go_ret
        exact ⟨ret_bool (by unfold rightB; rw [not_all ss k (by have := hR.len; omega) (by rw [HE.out]; exact HS.out)]; simp), below_alloc w _⟩
    · obtain rfl : k = n := by omega
      have HA' := HA.out
      rw [List.take_of_length_le (by rw [hR.len]; exact Nat.le_refl _)] at HA'
      have HB := Lib.hid HA'
      clear HA'
      by_cases h1 : k < 10
      · go_wp2
        go_ret
        exact ⟨ret_bool (by unfold rightB; rw [hR.len, decide_eq_false (by omega : ¬ 10 ≤ k)]; rfl), below_alloc w _⟩
      have e1 : decide (10 ≤ k) = true := decide_eq_true (by omega)
      have E1 := Lib.hid e1
      clear e1
      by_cases h2 : 130 < k
      · go_wp2
        go_ret
        exact ⟨ret_bool (by unfold rightB; rw [hR.len, HB.out, E1.out, Bool.and_true, Bool.true_and, eq_comm]; first | rfl | (rw [decide_eq_false_iff_not]; omega) | (rw [decide_eq_decide]; omega)), below_alloc w _⟩
      go_wp2
      go_ret
      exact ⟨ret_bool (by unfold rightB; rw [HB.out, hR.len, E1.out, Bool.and_true, Bool.true_and, eq_comm]; first | rfl | (rw [decide_eq_true_iff]; omega) | (rw [decide_eq_decide]; omega)), below_alloc w _⟩

/-- is there a sector at that place -/
def hasB (ss : List ByteArray) (at_ : Int) : Bool := decide (0 ≤ at_) && decide (at_ < (ss.length : Int))
/-- why there is no sector at that place -/
def findE (ss : List ByteArray) (a : Int) : Int := if rightB ss then (if hasB ss a then 0 else 3) else 1
set_option maxHeartbeats 800000 in
theorem find_any (oa : Option Addr) (n cap : Nat) (ss : List ByteArray) (a : Int) (w : World) (hR : Rd w oa n cap ss) (hn : n ≤ 1000) :
    Calls Try.prog 81 #[.agg #[.slice oa n cap], .int .i64 a] w fun e w' => e = .returned (.int .i64 (findE ss a)) ∧ Below w.heap.size w w' := by
  have hR1 := hR.below (below_alloc w (.cells #[.slice oa n cap] 24)) (Nat.le_refl _)
  have hlen := Lib.hid hR.len
  go_enter Try.func81, Try.ntmps81
  go_wp2_with fail
  refine (right_any _ _ _ _ _ hR1 hn).mono ?_
  rintro e w1 ⟨rfl, hB⟩
  have hB0 := (below_alloc w (.cells #[.slice oa n cap] 24)).trans (hB.mono (by simp))
  have hc1 : w1.cell? ⟨w.heap.size, 0, none⟩ = some (.slice oa n cap) := (hB.cell (p := ⟨w.heap.size, 0, none⟩) (by simp)).trans (World.cell?_alloc_at _ _ _ _ rfl)
  clear hR1 hB
  cases hr : rightB ss
  · have HR := Lib.hid hr
    clear hr
    go_wp2
    go_ret
    exact ⟨ret_int (by unfold findE; rw [HR.out]; rfl), hB0⟩
  have HR := Lib.hid hr
  clear hr
  by_cases h1 : a < 0
  · go_wp2
    go_ret
    exact ⟨ret_int (by unfold findE hasB; rw [HR.out]; simp; omega), hB0⟩
  by_cases h2 : (n : Int) ≤ a
  · go_wp2
    go_ret
    exact ⟨ret_int (by unfold findE hasB; rw [HR.out, hlen.out]; simp; omega), hB0⟩
  go_wp2
  go_ret
  exact ⟨ret_int (by unfold findE hasB; rw [HR.out, hlen.out]; simp; omega), hB0⟩

/-- the sector at that place, or nothing -/
def readS (ss : List ByteArray) (a : Int) : ByteArray := if findE ss a = 0 then ss.getD a.toNat ByteArray.empty else ⟨#[]⟩
theorem findE_zero {ss : List ByteArray} {a : Int} (h : findE ss a = 0) : rightB ss = true ∧ 0 ≤ a ∧ a < ss.length := by
  unfold findE at h
  cases hr : rightB ss <;> rw [hr] at h
  · simp at h
  · cases hh : hasB ss a <;> rw [hh] at h
    · simp at h
    · unfold hasB at hh
      simp only [Bool.and_eq_true, decide_eq_true_eq] at hh
      exact ⟨rfl, hh⟩
set_option maxHeartbeats 800000 in
theorem read_any (oa : Option Addr) (n cap : Nat) (ss : List ByteArray) (a : Int) (w : World) (hR : Rd w oa n cap ss) (hn : n ≤ 1000) :
    Calls Try.prog 77 #[.agg #[.slice oa n cap], .int .i64 a] w fun e w' => e = .returned (.tuple #[.string (readS ss a), .int .i64 (findE ss a)]) ∧ Below w.heap.size w w' := by
  have hR1 := hR.below (below_alloc w (.cells #[.slice oa n cap] 24)) (Nat.le_refl _)
  have hlen := Lib.hid hR.len
  go_enter Try.func77, Try.ntmps77
  go_wp2_with fail
  refine (find_any _ _ _ _ _ _ hR1 hn).mono ?_
  rintro e w1 ⟨rfl, hB⟩
  have hB0 := (below_alloc w (.cells #[.slice oa n cap] 24)).trans (hB.mono (by simp))
  have hc1 : w1.cell? ⟨w.heap.size, 0, none⟩ = some (.slice oa n cap) := (hB.cell (p := ⟨w.heap.size, 0, none⟩) (by simp)).trans (World.cell?_alloc_at _ _ _ _ rfl)
  have hR2 := hR1.below hB (Nat.le_refl _)
  clear hR1 hB
  by_cases hz : findE ss a = 0
  · obtain ⟨_, h0, hlt⟩ := findE_zero hz
    rw [hlen.out] at hlt
    obtain ⟨k, rfl⟩ := Int.eq_ofNat_of_zero_le h0
    obtain ⟨g, rfl, hc⟩ := hR2.cell k (by omega)
    have hrs : Hid (readS ss (k : Nat) = ss.getD k ByteArray.empty) := by
      show _ = _
      unfold readS
      rw [if_pos hz]
      rfl
    have HZ := Lib.hid hz
    clear hz
    rw [HZ.out]
    generalize he : ss.getD k ByteArray.empty = s at *
    have HE := Lib.hid he
    clear he
    go_wp2
    go_ret2
    exact ⟨ret_two hrs.out.symm HZ.out.symm, hB0⟩
  · have hz' : (findE ss a == 0) = false := by simpa using hz
    have hrs : Hid (readS ss a = ⟨#[]⟩) := by
      show _ = _
      unfold readS
      rw [if_neg hz]
    clear hz
    generalize he : findE ss a = E at *
    have HE := Lib.hid he
    clear he
    go_wp2
    go_ret2
    exact ⟨ret_two hrs.out.symm HE.out.symm, hB0⟩

/-- are two disks the same -/
def sameB (xs ys : List ByteArray) : Bool := decide (xs = ys)
theorem same_len {xs ys : List ByteArray} (h : xs.length ≠ ys.length) : false = sameB xs ys := by
  unfold sameB
  rw [eq_comm, decide_eq_false_iff_not]
  intro e
  exact h (by rw [e])
theorem same_not {xs ys : List ByteArray} (k : Nat) (h : xs.getD k ByteArray.empty ≠ ys.getD k ByteArray.empty) : false = sameB xs ys := by
  unfold sameB
  rw [eq_comm, decide_eq_false_iff_not]
  intro e
  exact h (by rw [e])
theorem same_take {xs ys : List ByteArray} (k : Nat) (hk : k < xs.length) (hk2 : k < ys.length) (h : xs.take k = ys.take k) (he : xs.getD k ByteArray.empty = ys.getD k ByteArray.empty) : xs.take (k + 1) = ys.take (k + 1) := by
  rw [List.take_succ_eq_append_getElem hk, List.take_succ_eq_append_getElem hk2, h]
  rw [List.getD_eq_getElem?_getD, List.getElem?_eq_getElem hk, List.getD_eq_getElem?_getD, List.getElem?_eq_getElem hk2] at he
  rw [show xs[k] = ys[k] from he]
set_option maxHeartbeats 1600000 in
theorem same_any (oa : Option Addr) (n cap : Nat) (xs : List ByteArray) (ob : Option Addr) (m cbp : Nat) (ys : List ByteArray) (w : World) (hX : Rd w oa n cap xs) (hY : Rd w ob m cbp ys) (hn : n ≤ 1000) (hm : m ≤ 1000) :
    Calls Try.prog 31 #[.agg #[.slice oa n cap], .agg #[.slice ob m cbp]] w fun e w' => e = .returned (.bool (sameB xs ys)) ∧ Below w.heap.size w w' := by
  have hB0 : Below w.heap.size w ((w.alloc (.cells #[.slice oa n cap] 24)).alloc (.cells #[.slice ob m cbp] 24)) := (below_alloc w _).alloc (by simp) _
  by_cases hnm : n = m
  · subst hnm
    go_enter Try.func31, Try.ntmps31
    go_wp2
    go_loopw [16] (fun i wr => ∃ k : Nat, k ≤ n ∧ i = .int .i64 k ∧ Hid (xs.take k = ys.take k) ∧ Below (w.heap.size + 2) ((w.alloc (.cells #[.slice oa n cap] 24)).alloc (.cells #[.slice ob n cbp] 24)) wr) (fun i _ => n - (intOf i).toNat)
    case atStart => exact ⟨0, Nat.zero_le _, rfl, rfl, Below.refl _ _⟩
    case round =>
      obtain ⟨k, hk, rfl, hall, hal⟩ := hrel
      have hBw := hB0.trans (hal.mono (by omega))
      have hb1 : wr.cell? ⟨w.heap.size, 0, none⟩ = some (.slice oa n cap) := by
        rw [hal.cell (p := ⟨w.heap.size, 0, none⟩) (by show w.heap.size < w.heap.size + 2; omega)]
        simp
      have hb2 : wr.cell? ⟨w.heap.size + 1, 0, none⟩ = some (.slice ob n cbp) := by
        rw [hal.cell (p := ⟨w.heap.size + 1, 0, none⟩) (by show w.heap.size + 1 < w.heap.size + 2; omega)]
        simp
      by_cases h8 : k < n
      · obtain ⟨g, rfl, hc⟩ := hX.cell k h8
        obtain ⟨g2, rfl, hd⟩ := hY.cell k h8
        have hcX := (hBw.cell (p := ⟨g, k, none⟩) (World.block_lt_of_cell? w _ hc)).trans hc
        have hcY := (hBw.cell (p := ⟨g2, k, none⟩) (World.block_lt_of_cell? w _ hd)).trans hd
        clear hc hd
        have hkn : (k : Int) < (n : Int) := by omega
        have hk0 : (0 : Int) ≤ (k : Int) := by omega
        generalize he : xs.getD k ByteArray.empty = s at *
        have HE := Lib.hid he
        clear he
        generalize he : ys.getD k ByteArray.empty = t at *
        have HF := Lib.hid he
        clear he
        by_cases hst : s = t
        · subst hst
          go_wp2
          go_quiet (fail)
          go_wp2
          go_roundw
          case rel => exact ⟨k + 1, by omega, by go_num, same_take k (by have := hX.len; omega) (by have := hY.len; omega) hall.out (by rw [HE.out, HF.out]), below_drewN hal _⟩
          case measure => simp [intOf]; omega
        · have hne : (s.toList == t.toList) = false := by
            rw [beq_eq_false_iff_ne]
            exact fun h => hst (toList_inj h)
          have HS := Lib.hid hst
          clear hst
          go_wp2
          go_quiet (fail)
          go_wp2
          go_ret
          exact ⟨ret_bool (same_not k (by rw [HE.out, HF.out]; exact HS.out)), below_drewN hBw _⟩
      · obtain rfl : k = n := by omega
        have hall' := hall.out
        rw [List.take_of_length_le (by rw [hX.len]; exact Nat.le_refl _), List.take_of_length_le (by rw [hY.len]; exact Nat.le_refl _)] at hall'
        have HA := Lib.hid hall'
        clear hall'
        go_wp2
        go_ret
        exact ⟨ret_bool (by unfold sameB; rw [HA.out]; simp), hBw⟩
  · have hne : ((n : Int) == (m : Int)) = false := by simp only [beq_eq_false_iff_ne, ne_eq]; omega
    have hl := Lib.hid hnm
    clear hnm
    go_enter Try.func31, Try.ntmps31
    go_wp2
    go_ret
    exact ⟨ret_bool (same_len (by rw [hX.len, hY.len]; exact hl.out)), hB0⟩
end Go.Proofs.Ytmjbhmmcpjhmcaa
