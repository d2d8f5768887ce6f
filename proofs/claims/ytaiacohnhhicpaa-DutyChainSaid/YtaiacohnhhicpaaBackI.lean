/-
  A back's steps: the contract of the iterator that hands them over.
-/
import Derived.Test.YtaiacohnhhicpaaBackA
import Derived.RangeFuncNested
import Derived.RangeFuncBound
import Derived.RangeFuncCalls
import Derived.RangeFuncLeaves
import Derived.Shelf.Abstract
import Derived.Shelf.RegionOpen
import Derived.OwnWalkIn
import Derived.TacticsInMore
import Derived.LoopNIn
import Derived.LoopIn
import Derived.BigQuiet
namespace Go.Proofs.Ytaiacohnhhicpaa.Bo
open Go.RowKit Go.Shelf
attribute [local go_sem] Oper.semAt_some
set_option linter.unusedVariables false

/-- what has come when k rounds are over -/
def upto {α : Type} (f : Nat → α) (k : Nat) : List α := (List.range k).map f
theorem upto_next {α : Type} (f : Nat → α) (k : Nat) : upto f (k + 1) = upto f k ++ [f k] := by simp [upto, List.range_succ]
theorem upto_length {α : Type} (f : Nat → α) (k : Nat) : (upto f k).length = k := by simp [upto]
/-- a step with its number -/
def stP (B T : Int) (k : Nat) : Int × Int := ((k : Int), stepN B T k)
/-- where the iterator is ahead of round k -/
structure St (B T : Int) (k : Nat) (s : Int) : Prop where
  few : k ≤ 31
  pow : ((2 ^ k : Nat) : Int) ≤ s
  most : s ≤ 2147483648
  low : s < T → stepN B T k = s
  high : T ≤ s → stepN B T k = T
theorem st_start {B T J : Int} (h : Bk B T J) : St B T 0 B := by
  have h1 := h.b1
  have h2 := h.b2
  have h3 := h.t1
  refine ⟨by omega, by simpa using h1, by omega, fun _ => rfl, fun hh => ?_⟩
  show B = T
  omega
theorem st_next {B T J : Int} (h : Bk B T J) {k : Nat} {s : Int} (hs : St B T k s) (hlt : s < T) : k < 30 ∧ St B T (k + 1) (s * 2) := by
  have h1 := h.t2
  have hp := hs.pow
  have hm := hs.most
  have hk : k < 30 := by
    have : (2 ^ k : Nat) < 2 ^ 30 := by
      have e : ((2 ^ 30 : Nat) : Int) = 1073741824 := by decide
      omega
    exact (Nat.pow_lt_pow_iff_right (by decide)).1 this
  have hl := hs.low hlt
  have hn := stepN_next B T k
  rw [hl] at hn
  refine ⟨hk, by omega, ?_, by omega, fun h2 => ?_, fun h2 => ?_⟩
  · have : ((2 ^ (k + 1) : Nat) : Int) = 2 * ((2 ^ k : Nat) : Int) := by rw [Nat.pow_succ]; omega
    omega
  · rw [hn, if_pos (by omega)]; omega
  · rw [hn, if_neg (by omega)]

/-- what lies in one block lies as it lay -/
def KeepB (Bn : Nat) (w w' : World) : Prop := w'.heap[Bn]? = w.heap[Bn]?
theorem KeepB.refl (Bn : Nat) (w : World) : KeepB Bn w w := rfl
theorem KeepB.trans {Bn : Nat} {a b c : World} (h : KeepB Bn a b) (k : KeepB Bn b c) : KeepB Bn a c := Eq.trans k h
theorem KeepB.cell {Bn : Nat} {w w' : World} (h : KeepB Bn w w') (i : Nat) : w'.cell? ⟨Bn, i, none⟩ = w.cell? ⟨Bn, i, none⟩ := World.cell?_of_block (w := w) h
theorem KeepB.put {Bn : Nat} {w : World} (hn : Bn < w.heap.size) (W : World) (l : Nat) (o o' : Obj) (hl : w.heap.size ≤ l) : KeepB Bn W (W.putObj l o') := World.putObj_heap_other (by omega)
theorem KeepB.set {Bn : Nat} (W : World) (A : Nat) (u : Value) (h : Bn ≠ A) : KeepB Bn W (W.setCell ⟨A, 0, none⟩ u) := Below.heap_setCell _ _ _ _ h
theorem grown_drewN (w : World) (n : Nat) (row : Option Nat) : w.grownBy (w.drewN n) row := ⟨rfl, rfl, rfl, Nat.le_refl _, fun _ _ _ => rfl⟩
theorem below_drewN {B : Nat} {a w : World} (h : Below B a w) (q : Nat) : Below B a (w.drewN q) := ⟨h.os, h.tape, h.output, h.size, h.block⟩
theorem twice_wrap {s : Int} (h0 : 0 ≤ s) (h : s ≤ 2147483648) : wrap64 (s * 2) = s * 2 := by unfold wrap64; omega
set_option maxRecDepth 100000 in
set_option maxHeartbeats 2000000 in
theorem steps_in (n l Bn : Nat) (hn : 1 ≤ n) (B T J : Int) (hb : Bk B T J) (Jv Jx : List (Int × Int) → World → Prop)
    (hY : ∀ pre x W, Jv pre W → pre.length < 32 → YieldAt Fence.wide (n - 1) Try.prog l #[.int .i64 x.1, .int .i64 x.2] W fun e W' =>
      (e = .returned (.bool true) ∧ Jv (pre ++ [x]) W' ∧ KeepB Bn W W') ∨ (e = .returned (.bool false) ∧ Jx (pre ++ [x]) W'))
    (W : World) (hd : ∀ q, Jv [] W → Jv [] (W.drewN q)) (hc0 : W.cell? ⟨Bn, 0, none⟩ = some (.int .i64 B)) (hc1 : W.cell? ⟨Bn, 1, none⟩ = some (.int .i64 T)) (h0 : Jv [] W) :
    CallsIn Fence.wide n Try.prog 46 #[.func (.yield l) #[] #[], .pointer (some ⟨Bn, 0, none⟩)] W fun e W' => (∃ v, e = .returned v) ∧
      ((∃ K, stepN B T K = T ∧ K < 32 ∧ Jv (upto (stP B T) (K + 1)) W') ∨ (∃ k, k ≤ 32 ∧ Jx (upto (stP B T) k) W')) := by
  have hT2 := hb.t2
  have hB1 := hb.b1
  refine callsIn_of_wp Try.func46 rfl trivial ?_ rfl
  simp only [Try.ntmps46, List.size_toArray, List.length_cons, List.length_nil, Nat.reduceAdd, Nat.reduceSub, Array.replicate_succ, Array.replicate_zero, List.push_toArray, List.append_toArray, List.nil_append, List.cons_append]
  gi_wp2
  refine wpIn_wide.2 ?_
  go_quiet (fail)
  gi_wp2
  gi_loopw [3, 4] (fun a b wr => ∃ (k : Nat) (s : Int), a = .int .i64 k ∧ b = .int .i64 s ∧ Jv (upto (stP B T) k) wr ∧ KeepB Bn W wr ∧ St B T k s)
    (fun _ b _ => (T - intOf b).toNat)
  case atStart => exact ⟨0, B, rfl, rfl, hd _ h0, rfl, st_start hb⟩
  case round =>
    obtain ⟨k, s, rfl, rfl, hJs, hnx, hS⟩ := hrel
    have hct : wr.cell? ⟨Bn, 1, none⟩ = some (.int .i64 T) := (hnx.cell 1).trans hc1
    have hk31 := hS.few
    have hpow := hS.pow
    have hs0 : 1 ≤ s := by
      have := Nat.one_le_two_pow (n := k)
      omega
    by_cases hlt : s < T
    · have hst : Hid (stP B T k = ((k : Int), s)) := by show _ = _; unfold stP; rw [hS.low hlt]
      obtain ⟨fn, tmps, assign, body, hy, hR⟩ := hY _ ((k : Int), s) wr hJs (by rw [upto_length]; omega)
      dsimp only at hy
      obtain ⟨hk30, hS'⟩ := st_next hb hS hlt
      gi_wp2
      refine hR.mono ?_
      rintro e W3 (⟨rfl, hJ3, hk3⟩ | ⟨rfl, hJx3⟩)
      · gi_wp2
        go_roundw
        case rel => exact ⟨k + 1, s * 2, by simp, rfl, by rw [upto_next, hst.out]; exact hJ3, hnx.trans hk3, hS'⟩
        case measure => simp only [intOf]; omega
      · gi_wp2
        refine bodyPost_ret (results_none rfl _ _ _) rfl ?_
        exact ⟨⟨_, rfl⟩, .inr ⟨k + 1, by omega, by rw [upto_next, hst.out]; exact hJx3⟩⟩
    · have hst : Hid (stP B T k = ((k : Int), T)) := by show _ = _; unfold stP; rw [hS.high (by omega)]
      obtain ⟨fn, tmps, assign, body, hy, hR⟩ := hY _ ((k : Int), T) wr hJs (by rw [upto_length]; omega)
      dsimp only at hy
      gi_wp2
      refine hR.mono ?_
      rintro e W3 (⟨rfl, hJ3, hk3⟩ | ⟨rfl, hJx3⟩)
      · gi_wp2
        go_end0
        exact ⟨⟨_, rfl⟩, .inl ⟨k, hS.high (by omega), by omega, by rw [upto_next, hst.out]; exact hJ3⟩⟩
      · gi_wp2
        go_end0
        exact ⟨⟨_, rfl⟩, .inr ⟨k + 1, by omega, by rw [upto_next, hst.out]; exact hJx3⟩⟩
theorem steps_stops (n : Nat) (hn : 1 ≤ n) (Bn : Nat) (B T J : Int) (hb : Bk B T J) (w : World) (hn₀ : Bn < w.heap.size)
    (hc0 : w.cell? ⟨Bn, 0, none⟩ = some (.int .i64 B)) (hc1 : w.cell? ⟨Bn, 1, none⟩ = some (.int .i64 T)) :
    SeqStopsK Fence.wide n Try.prog 46 #[.pointer (some ⟨Bn, 0, none⟩)] (fun x : Int × Int => #[Value.int .i64 x.1, Value.int .i64 x.2]) (KeepB Bn)
      (fun ys => ∃ K, stepN B T K = T ∧ K < 32 ∧ ys = upto (stP B T) (K + 1)) (fun pre => ∃ k, k ≤ 32 ∧ pre = upto (stP B T) k) 32 w := fun l Jv Jx W hW hJ _ hY h0 => by
  refine (steps_in n l Bn hn B T J hb Jv Jx hY W (fun q h => hJ _ _ _ none h (grown_drewN _ _ _) (fun r e => by cases e)) ((hW.cell (p := ⟨Bn, 0, none⟩) hn₀).trans hc0) ((hW.cell (p := ⟨Bn, 1, none⟩) hn₀).trans hc1) h0).mono ?_
  rintro e W' ⟨he, ⟨K, h1, h2, hj⟩ | ⟨k, hk, hj⟩⟩
  · exact ⟨he, .inl ⟨_, ⟨K, h1, h2, rfl⟩, hj⟩⟩
  · exact ⟨he, .inr ⟨_, ⟨k, hk, rfl⟩, hj⟩⟩
end Go.Proofs.Ytaiacohnhhicpaa.Bo
