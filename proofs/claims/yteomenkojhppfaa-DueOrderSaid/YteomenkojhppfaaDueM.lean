/-
  Dues in memory: a row of pairs of numbers that lies at a slice; which dues may be.
-/
import Derived.Test.YteomenkojhppfaaTickR
import Derived.BigQuiet
namespace Go.Proofs.Yteomenkojhppfaa
open Go.RowKit
set_option linter.unusedVariables false

/-- a due: its time and its number -/
abbrev D2 := Int × Int
/-- the dues l lie at a slice of length n -/
structure Ds (w : World) (oa : Option Addr) (n cap : Nat) (l : List D2) : Prop where
  len : l.length = n
  room : n ≤ cap
  cell : ∀ i, i < n → ∃ g o, oa = some ⟨g, o, none⟩ ∧ w.cell? ⟨g, o + i * 2, none⟩ = some (.int .i64 (l.getD i (0, 0)).1) ∧ w.cell? ⟨g, o + i * 2 + 1, none⟩ = some (.int .i64 (l.getD i (0, 0)).2)

theorem Ds.below {w w' : World} {oa : Option Addr} {n cap : Nat} {l : List D2} (h : Ds w oa n cap l) {C : Nat} (hB : Below C w w') (hC : w.heap.size ≤ C) : Ds w' oa n cap l := by
  refine ⟨h.len, h.room, fun i hi => ?_⟩
  obtain ⟨g, o, hg, hc, hc'⟩ := h.cell i hi
  have := World.block_lt_of_cell? w _ hc
  exact ⟨g, o, hg, (hB.cell (p := ⟨g, o + i * 2, none⟩) (Nat.lt_of_lt_of_le this hC)).trans hc, (hB.cell (p := ⟨g, o + i * 2 + 1, none⟩) (Nat.lt_of_lt_of_le this hC)).trans hc'⟩
theorem Ds.nil (w : World) (cap : Nat) (oa : Option Addr) : Ds w oa 0 cap [] := ⟨rfl, Nat.zero_le _, fun i hi => absurd hi (by omega)⟩

/-- which dues may be -/
def dueB (l : List D2) : Bool := decide (l.length ≤ 64) && l.all (fun x => timeB x.1)
theorem getD_d (l : List D2) (k : Nat) (hk : k < l.length) : l.getD k (0, 0) = l[k] := by
  rw [List.getD_eq_getElem?_getD, List.getElem?_eq_getElem hk]; rfl
theorem allD_next (l : List D2) (k : Nat) (hk : k < l.length) (h : (l.take k).all (fun x => timeB x.1) = true) (hs : timeB (l.getD k (0, 0)).1 = true) : (l.take (k + 1)).all (fun x => timeB x.1) = true := by
  rw [List.take_succ_eq_append_getElem hk, List.all_append, h]
  rw [getD_d l k hk] at hs
  simpa using hs
theorem allD_not (l : List D2) (k : Nat) (hk : k < l.length) (hs : timeB (l.getD k (0, 0)).1 = false) : l.all (fun x => timeB x.1) = false := by
  rw [getD_d l k hk] at hs
  rw [List.all_eq_false]
  exact ⟨l[k], List.getElem_mem _, by simp [hs]⟩

set_option maxHeartbeats 400000 in
theorem rtime_any (t : Int) (w : World) :
    Calls Try.prog 13 #[.int .i64 t] w fun e w' => e = .returned (.bool (timeB t)) ∧ w = w' := by
  by_cases h0 : 0 ≤ t
  · by_cases h1 : t ≤ 1099511627776
    · go_enter Try.func13, Try.ntmps13
      go_wp2
      go_ret
      exact ⟨retB (time_mk h0 h1).symm, rfl⟩
    · go_enter Try.func13, Try.ntmps13
      go_wp2
      go_ret
      exact ⟨retB (time_high (by omega)).symm, rfl⟩
  · go_enter Try.func13, Try.ntmps13
    go_wp2
    go_ret
    exact ⟨retB (time_low (by omega)).symm, rfl⟩
theorem rtime_is (t : Int) (b : Bool) (w : World) (h : b = timeB t) :
    Calls Try.prog 13 #[.int .i64 t] w fun e w' => e = .returned (.bool b) ∧ w = w' := by subst h; exact rtime_any t w
theorem time_is (t : Int) (b : Bool) (w : World) (h : b = timeB t) :
    Calls Try.prog 22 #[.int .i64 t] w fun e w' => e = .returned (.bool b) ∧ w = w' := by subst h; exact time_any t w

set_option maxHeartbeats 800000 in
theorem noTime_any (a i : Int) (w : World) :
    Calls Try.prog 19 #[.agg #[.int .i64 a, .int .i64 i]] w fun e w' => e = .returned (.bool (!timeB a)) ∧ Below w.heap.size w w' := by
  cases hb : timeB a with
  | true =>
    have HT := fun w => time_is a true w hb.symm
    go_enter Try.func19, Try.ntmps19
    go_wp2_with (go_at_call 22; refine (HT _).mono ?_; rintro e w' ⟨rfl, rfl⟩)
    go_ret
    exact ⟨rfl, (Below.refl _ w).alloc (Nat.le_refl _) _⟩
  | false =>
    have HT := fun w => time_is a false w hb.symm
    go_enter Try.func19, Try.ntmps19
    go_wp2_with (go_at_call 22; refine (HT _).mono ?_; rintro e w' ⟨rfl, rfl⟩)
    go_ret
    exact ⟨rfl, (Below.refl _ w).alloc (Nat.le_refl _) _⟩

set_option maxRecDepth 100000 in
set_option maxHeartbeats 1600000 in
theorem rdue_any (oa : Option Addr) (n cap : Nat) (l : List D2) (w : World) (h : Ds w oa n cap l) (hn : n ≤ 70) :
    Calls Try.prog 11 #[.slice oa n cap] w fun e w' => e = .returned (.bool (dueB l)) ∧ Below w.heap.size w w' := by
  have hl := h.len
  go_enter Try.func11, Try.ntmps11
  go_wp2_with fail
  go_loopw [4, 7] (fun _ s7 wr => ∃ k : Nat, k ≤ n ∧ s7 = .int .i64 k ∧ Below w.heap.size w wr ∧ (l.take k).all (fun x => timeB x.1) = true) (fun _ s7 _ => n - (intOf s7).toNat)
  case atStart => exact ⟨0, Nat.zero_le _, rfl, Below.refl _ _, by simp⟩
  case round =>
    obtain ⟨k, hk, rfl, hB, hall⟩ := hrel
    have HA := Lib.hid hall
    clear hall
    by_cases hlt : k < n
    · obtain ⟨g, o, rfl, c0, c1⟩ := (h.below hB (Nat.le_refl _)).cell k hlt
      have HX := Lib.hid (allD_next l k (by omega) HA.out)
      have HN := Lib.hid (allD_not l k (by omega))
      generalize hx : l.getD k (0, 0) = x at *
      obtain ⟨a, i⟩ := x
      dsimp only at c0 c1
      have hlt2 := (h.below hB (Nat.le_refl _)).room
      cases hb : timeB a with
      | true =>
        have HT := fun w => rtime_is a true w hb.symm
        have HY := Lib.hid (HX.out hb)
        clear hb HX HN hx hl h
        go_wp2_with fail
        refine (HT _).mono ?_
        rintro e w' ⟨rfl, rfl⟩
        go_wp2_with fail
        go_roundw
        case rel => exact ⟨k + 1, by omega, by go_num, hB.alloc hB.size _, HY.out⟩
        case measure => simp [intOf]; omega
      | false =>
        have HT := fun w => rtime_is a false w hb.symm
        have HY := Lib.hid (show dueB l = false by unfold dueB; rw [HN.out hb]; simp)
        clear hb HX HN hx hl h
        go_wp2_with fail
        refine (HT _).mono ?_
        rintro e w' ⟨rfl, rfl⟩
        go_wp2_with fail
        go_ret
        exact ⟨retB HY.out.symm, hB.alloc hB.size _⟩
    · obtain rfl : k = n := by omega
      have HF : Hid (dueB l = decide (l.length ≤ 64)) := by
        have h := HA.out
        rw [List.take_of_length_le (by omega)] at h
        show _ = _
        unfold dueB
        rw [h]
        simp
      rw [hl] at HF
      clear HA hl h
      go_wp2_with fail
      go_ret
      exact ⟨retB (by rw [HF.out]; simp; omega), hB⟩
theorem rdue_is (oa : Option Addr) (n cap : Nat) (l : List D2) (b : Bool) (w : World) (h : Ds w oa n cap l) (hn : n ≤ 70) (hb : b = dueB l) :
    Calls Try.prog 11 #[.slice oa n cap] w fun e w' => e = .returned (.bool b) ∧ Below w.heap.size w w' := by subst hb; exact rdue_any oa n cap l w h hn
end Go.Proofs.Yteomenkojhppfaa
