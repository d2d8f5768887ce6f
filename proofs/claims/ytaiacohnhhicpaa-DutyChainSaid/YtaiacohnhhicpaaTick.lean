/-
  Times: which numbers are times, what two of them make, the least of several; and the functions that answer these, one contract each.
-/
import Derived.Test.YtaiacohnhhicpaaRows
import Derived.WalkKit
import Derived.ProofKit
import Derived.LoopTactic
import Derived.OneCell
import Derived.Lib.Hide
import Derived.Outline
import Derived.WalkSpells
import Derived.WalkLawsBesides
import Derived.Below
namespace Go.Proofs.Ytaiacohnhhicpaa.Bo
open Go.RowKit
set_option linter.unusedVariables false

theorem retI {k : IntKind} {a b : Int} (h : a = b) : Ending.returned (.int k a) = .returned (.int k b) := by rw [h]
theorem retB {a b : Bool} (h : a = b) : Ending.returned (.bool a) = .returned (.bool b) := by rw [h]
theorem ret2 {a b : Int} {e : Int} (h : a = b) : Ending.returned (.tuple #[.int .i64 a, .int .i64 e]) = .returned (.tuple #[.int .i64 b, .int .i64 e]) := by rw [h]
theorem valI {k : IntKind} {a b : Int} (h : a = b) : Value.int k a = .int k b := by rw [h]

/-- is it a time? -/
def timeB (t : Int) : Bool := decide (0 ≤ t) && decide (t ≤ 1099511627776)
theorem time_yes {t : Int} (h : timeB t = true) : 0 ≤ t ∧ t ≤ 1099511627776 := by unfold timeB at h; simpa using h
theorem time_mk {t : Int} (h0 : 0 ≤ t) (h1 : t ≤ 1099511627776) : timeB t = true := by unfold timeB; simp [h0, h1]
theorem time_low {t : Int} (h0 : t < 0) : timeB t = false := by unfold timeB; simp; omega
theorem time_high {t : Int} (h0 : 1099511627776 < t) : timeB t = false := by unfold timeB; simp; omega

set_option maxHeartbeats 400000 in
theorem time_any (t : Int) (w : World) :
    Calls Try.prog 26 #[.int .i64 t] w fun e w' => e = .returned (.bool (timeB t)) ∧ w = w' := by
  by_cases h0 : 0 ≤ t
  · by_cases h1 : t ≤ 1099511627776
    · go_enter Try.func26, Try.ntmps26
      go_wp2
      go_ret
      exact ⟨retB (time_mk h0 h1).symm, rfl⟩
    · go_enter Try.func26, Try.ntmps26
      go_wp2
      go_ret
      exact ⟨retB (time_high h1).symm, rfl⟩
  · go_enter Try.func26, Try.ntmps26
    go_wp2
    go_ret
    exact ⟨retB (time_low h0).symm, rfl⟩

/-- the numbers xs lie at a slice of length n -/
structure Ns (w : World) (oa : Option Addr) (n cap : Nat) (xs : List Int) : Prop where
  len : xs.length = n
  room : n ≤ cap
  cell : ∀ i, i < n → ∃ g o, oa = some ⟨g, o, none⟩ ∧ w.cell? ⟨g, o + i, none⟩ = some (.int .i64 (xs.getD i 0))

theorem Ns.below {w w' : World} {oa : Option Addr} {n cap : Nat} {xs : List Int} (h : Ns w oa n cap xs) {C : Nat} (hB : Below C w w') (hC : w.heap.size ≤ C) : Ns w' oa n cap xs := by
  refine ⟨h.len, h.room, fun i hi => ?_⟩
  obtain ⟨g, o, hg, hc⟩ := h.cell i hi
  have := World.block_lt_of_cell? w _ hc
  exact ⟨g, o, hg, (hB.cell (p := ⟨g, o + i, none⟩) (Nat.lt_of_lt_of_le this hC)).trans hc⟩
theorem Ns.nil (w : World) : Ns w none 0 0 [] := ⟨rfl, Nat.le_refl _, fun i hi => absurd hi (by omega)⟩
theorem ns_two (w : World) (x y : Int) (t : TypeId) : Ns (w.alloc (.cells #[.int .i64 x, .int .i64 y] t)) (some ⟨w.heap.size, 0, none⟩) 2 2 [x, y] := by
  refine ⟨rfl, Nat.le_refl _, fun i hi => ⟨w.heap.size, 0, rfl, ?_⟩⟩
  match i, hi with
  | 0, _ => rw [World.cell?_alloc_new]; rfl
  | 1, _ => rw [World.cell?_alloc_new]; rfl
theorem ns_three (w : World) (x y z : Int) (t : TypeId) : Ns (w.alloc (.cells #[.int .i64 x, .int .i64 y, .int .i64 z] t)) (some ⟨w.heap.size, 0, none⟩) 3 3 [x, y, z] := by
  refine ⟨rfl, Nat.le_refl _, fun i hi => ⟨w.heap.size, 0, rfl, ?_⟩⟩
  match i, hi with
  | 0, _ => rw [World.cell?_alloc_new]; rfl
  | 1, _ => rw [World.cell?_alloc_new]; rfl
  | 2, _ => rw [World.cell?_alloc_new]; rfl

theorem getD_at (xs : List Int) (k : Nat) (hk : k < xs.length) : xs.getD k 0 = xs[k] := by
  rw [List.getD_eq_getElem?_getD, List.getElem?_eq_getElem hk]; rfl
theorem all_next (xs : List Int) (k : Nat) (hk : k < xs.length) (h : (xs.take k).all timeB = true) (hs : timeB (xs.getD k 0) = true) : (xs.take (k + 1)).all timeB = true := by
  rw [List.take_succ_eq_append_getElem hk, List.all_append, h]
  rw [getD_at xs k hk] at hs
  simpa using hs
theorem all_not (xs : List Int) (k : Nat) (hk : k < xs.length) (hs : timeB (xs.getD k 0) = false) : xs.all timeB = false := by
  rw [getD_at xs k hk] at hs
  rw [List.all_eq_false]
  exact ⟨xs[k], List.getElem_mem hk, by simpa using hs⟩

set_option maxHeartbeats 400000 in
theorem are_any (oa : Option Addr) (n cap : Nat) (xs : List Int) (w : World) (hN : Ns w oa n cap xs) (hn : n ≤ 1000) :
    Calls Try.prog 65 #[.slice oa n cap] w fun e w' => e = .returned (.bool (xs.all timeB)) ∧ w = w' := by
  go_enter Try.func65, Try.ntmps65
  go_wp2
  go_loop [7] (fun i => ∃ k : Nat, k ≤ n ∧ i = .int .i64 k ∧ (xs.take k).all timeB = true) (fun i => n - (intOf i).toNat)
  case atStart => exact ⟨0, Nat.zero_le _, rfl, rfl⟩
  case round =>
    obtain ⟨k, hk, rfl, hall⟩ := hrel
    have HA := Lib.hid hall
    clear hall
    by_cases h8 : k < n
    · obtain ⟨g, o, rfl, hc⟩ := hN.cell k h8
      have HL := Lib.hid hN.len
      generalize he : xs.getD k 0 = x at *
      have HE := Lib.hid he
      clear he
      cases hs : timeB x with
      | true =>
        have HS := Lib.hid hs
        clear hs
        have hT : Calls Try.prog 26 #[.int .i64 x] w fun e w' => e = .returned (.bool true) ∧ w = w' := (time_any x w).mono fun e w' h => by rw [HS.out] at h; exact h
        go_wp2_with fail
        refine hT.mono ?_
        rintro e w' ⟨rfl, rfl⟩
        go_wp2
        go_round
        case rel => exact ⟨k + 1, by omega, by go_num, all_next xs k (by have := HL.out; omega) HA.out (by rw [HE.out]; exact HS.out)⟩
        case measure => simp [intOf]; omega
      | false =>
        have HS := Lib.hid hs
        clear hs
        have hT : Calls Try.prog 26 #[.int .i64 x] w fun e w' => e = .returned (.bool false) ∧ w = w' := (time_any x w).mono fun e w' h => by rw [HS.out] at h; exact h
        go_wp2_with fail
        refine hT.mono ?_
        rintro e w' ⟨rfl, rfl⟩
        go_wp2
        go_ret
        exact ⟨retB (all_not xs k (by have := HL.out; omega) (by rw [HE.out]; exact HS.out)).symm, rfl⟩
    · obtain rfl : k = n := by omega
      have hl := hN.len
      have HF : Hid (xs.all timeB = true) := by
        have h := HA.out
        rw [List.take_of_length_le (by omega)] at h
        exact h
      clear hl
      go_wp2
      go_ret
      exact ⟨retB HF.out.symm, rfl⟩
end Go.Proofs.Ytaiacohnhhicpaa.Bo
