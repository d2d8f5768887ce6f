/-
  One write, with its fault: it comes to its end, or it panics.
-/
import Derived.Test.YtmjbhmmcpjhmcaaLogF
import Derived.Defers
import Derived.Recover
namespace Go.Proofs.Ytmjbhmmcpjhmcaa
open Go.RowKit
set_option linter.unusedVariables false

/-- all blocks but one are as they were -/
structure But (A : Nat) (w w' : World) : Prop where
  os : w'.os = w.os
  tape : w'.tape = w.tape
  output : w'.output = w.output
  size : w.heap.size ≤ w'.heap.size
  block : ∀ k, k < w.heap.size → k ≠ A → w'.heap[k]? = w.heap[k]?
theorem But.refl (A : Nat) (w : World) : But A w w := ⟨rfl, rfl, rfl, Nat.le_refl _, fun _ _ _ => rfl⟩
theorem But.trans {A : Nat} {a b c : World} (h : But A a b) (k : But A b c) : But A a c :=
  ⟨k.os.trans h.os, k.tape.trans h.tape, k.output.trans h.output, Nat.le_trans h.size k.size, fun i hi hA => (k.block i (Nat.lt_of_lt_of_le hi h.size) hA).trans (h.block i hi hA)⟩
theorem But.of_below (A : Nat) {w w' : World} (h : Below w.heap.size w w') : But A w w' := ⟨h.os, h.tape, h.output, h.size, fun k hk _ => h.block k hk⟩
theorem But.setCell {A : Nat} {a w : World} (h : But A a w) (j : Nat) (u : Value) : But A a (w.setCell ⟨A, j, none⟩ u) :=
  h.trans ⟨rfl, rfl, rfl, by simp [World.setCell], fun k _ hA => Below.heap_setCell _ _ _ _ hA⟩
theorem But.below {A C : Nat} {w w' : World} (h : But A w w') (hA : C ≤ A) (hC : C ≤ w.heap.size) : Below C w w' := ⟨h.os, h.tape, h.output, h.size, fun k hk => h.block k (by omega) (by omega)⟩
theorem But.rd {A : Nat} {w w' : World} (h : But A w w') {oa : Option Addr} {n cap : Nat} {ss : List ByteArray} (hR : Rd w oa n cap ss) (hne : ∀ g, oa = some ⟨g, 0, none⟩ → g ≠ A) : Rd w' oa n cap ss := by
  refine ⟨hR.len, hR.room, fun i hi => ?_⟩
  obtain ⟨g, hg, hc⟩ := hR.cell i hi
  exact ⟨g, hg, (World.cell?_of_block (h.block g (World.block_lt_of_cell? w _ hc) (hne g hg))).trans hc⟩

/-- the faults fs lie at a slice of length n -/
structure FRd (w : World) (oa : Option Addr) (n cap : Nat) (fs : List (Int × Int)) : Prop where
  len : fs.length = n
  room : n ≤ cap
  cell : ∀ i, i < n → ∃ g o, oa = some ⟨g, o, none⟩ ∧ w.cell? ⟨g, o + i * 2, none⟩ = some (.int .i64 (fs.getD i (0, 0)).1) ∧ w.cell? ⟨g, o + i * 2 + 1, none⟩ = some (.int .i64 (fs.getD i (0, 0)).2)
theorem FRd.below {w w' : World} {oa : Option Addr} {n cap : Nat} {fs : List (Int × Int)} (h : FRd w oa n cap fs) {C : Nat} (hB : Below C w w') (hC : w.heap.size ≤ C) : FRd w' oa n cap fs := by
  refine ⟨h.len, h.room, fun i hi => ?_⟩
  obtain ⟨g, o, hg, hc, hd⟩ := h.cell i hi
  have := World.block_lt_of_cell? w _ hc
  exact ⟨g, o, hg, (hB.cell (p := ⟨g, _, none⟩) (Nat.lt_of_lt_of_le this hC)).trans hc, (hB.cell (p := ⟨g, o + i * 2 + 1, none⟩) (Nat.lt_of_lt_of_le this hC)).trans hd⟩
theorem loadF {w : World} {B : Nat} {a b : Value} (h0 : w.cell? ⟨B, 0, none⟩ = some a) (h1 : w.cell? ⟨B, 1, none⟩ = some b) : (loadVar 44 ⟨B, 0, none⟩).run Try.prog w = .ok (.agg #[a, b]) w := by
  simp [go_sem, h0, h1]
theorem ret_fault {fn : Func} {p : Tmp} (h : fn.results = #[.cell p 44]) {tmps : Array Value} {w : World} {B : Nat} {a b : Value} (hp : tmps.getD p undef = .pointer (some ⟨B, 0, none⟩)) (h0 : w.cell? ⟨B, 0, none⟩ = some a) (h1 : w.cell? ⟨B, 1, none⟩ = some b) :
    (results fn tmps).run Try.prog w = .ok (.agg #[a, b]) w := by
  have hl := loadF h0 h1
  have hp' : tmps[p]?.getD undef = .pointer (some ⟨B, 0, none⟩) := by simpa using hp
  simp only [results, h]
  simp [hp', asAddr, hl]
set_option maxHeartbeats 800000 in
theorem nth_any (oa : Option Addr) (n cap : Nat) (fs : List (Int × Int)) (i : Nat) (w : World) (hR : FRd w oa n cap fs) (hn : n ≤ 1000) (hi : i ≤ 1000) :
    Calls Try.prog 60 #[.slice oa n cap, .int .i64 (i : Int)] w fun e w' => e = .returned (.agg #[.int .i64 (fs.getD i (0, 0)).1, .int .i64 (fs.getD i (0, 0)).2]) ∧ Below w.heap.size w w' := by
  have hB0 := below_alloc w (.cells #[.int .i64 0, .int .i64 0] 44)
  by_cases h1 : i < n
  · obtain ⟨g, o, rfl, c1, c2⟩ := hR.cell i h1
    have d1 := keepC hB0 c1
    have d2 := keepC hB0 c2
    clear c1 c2
    generalize (fs.getD i (0, 0)).1 = x at *
    generalize (fs.getD i (0, 0)).2 = y at *
    have hj : (i : Int) < (n : Int) := by omega
    have hj0 : (0 : Int) ≤ (i : Int) := by omega
    go_enter Try.func60, Try.ntmps60
    go_wp2
    refine bodyPost_ret (ret_fault rfl rfl (a := .int .i64 x) (b := .int .i64 y) (by simp) (by simp)) rfl ⟨rfl, ?_⟩
    exact below_alloc w _
  · have e : Hid (fs.getD i (0, 0) = (0, 0)) := by
      show _ = _
      rw [List.getD_eq_getElem?_getD, List.getElem?_eq_none (by rw [hR.len]; omega)]
      rfl
    rw [e.out]
    go_enter Try.func60, Try.ntmps60
    go_wp2
    refine bodyPost_ret (ret_fault rfl rfl (a := .int .i64 0) (b := .int .i64 0) (by simp) (by simp)) rfl ⟨rfl, ?_⟩
    exact below_alloc w _

/-- what a write panics with -/
def notV (er : Int) : PanicEntry := { v := .iface 89 (.agg #[.int .i64 er]), recovered := false }
set_option maxHeartbeats 800000 in
theorem write_fail (A : Nat) (i : Int) (t : ByteArray) (K : Int) (w : World) :
    Calls Try.prog 59 #[.pointer (some ⟨A, 0, none⟩), .agg #[.int .i64 i, .string t], .agg #[.int .i64 1, .int .i64 K]] w fun e w' => e = .panicked [notV 8] ∧ Below w.heap.size w w' := by
  go_enter Try.func59, Try.ntmps59
  go_wp2_with fail
  exact ⟨rfl, rfl, (below_alloc w _).alloc (by simp) _⟩

/-- the cells of a store's variable -/
def SRow (w : World) (A : Nat) (x : Value) (g u t : Int) (d : Bool) : Prop := w.heap[A]? = some (.cells #[x, .int .i64 g, .int .i64 u, .int .i64 t, .bool d] 26 (0, 0))
theorem SRow.at0 {w : World} {A : Nat} {x : Value} {g u t : Int} {d : Bool} (h : SRow w A x g u t d) : w.cell? ⟨A, 0, none⟩ = some x := by rw [cell_of_row w _ _ _ _ _ h]; rfl
theorem SRow.at4 {w : World} {A : Nat} {x : Value} {g u t : Int} {d : Bool} (h : SRow w A x g u t d) : w.cell? ⟨A, 4, none⟩ = some (.bool d) := by rw [cell_of_row w _ _ _ _ _ h]; rfl
theorem SRow.free {w : World} {A : Nat} {x : Value} {g u t : Int} {d : Bool} (h : SRow w A x g u t d) (i : Nat) : w.frozen? ⟨A, i, none⟩ = false := frozen_of_row w _ _ _ _ h
theorem SRow.set0 {w : World} {A : Nat} {x : Value} {g u t : Int} {d : Bool} (h : SRow w A x g u t d) (y : Value) : SRow (w.setCell ⟨A, 0, none⟩ y) A y g u t d := by
  unfold SRow
  rw [heap_setCell_same _ _ _ _ _ _ h]
  rfl
theorem SRow.set4 {w : World} {A : Nat} {x : Value} {g u t : Int} {d : Bool} (h : SRow w A x g u t d) (b : Bool) : SRow (w.setCell ⟨A, 4, none⟩ (.bool b)) A x g u t b := by
  unfold SRow
  rw [heap_setCell_same _ _ _ _ _ _ h]
  rfl
theorem SRow.keep {w w' : World} {A : Nat} {x : Value} {g u t : Int} {d : Bool} (h : SRow w A x g u t d) (hB : Below w.heap.size w w') : SRow w' A x g u t d := keepB hB h
theorem log_set {ss : List ByteArray} (h : logB ss = true) (i : Nat) {t : ByteArray} (ht : t.size = 128) : logB (ss.set i t) = true := by
  unfold logB
  rw [right_set ss i t (log_right h) ht, List.length_set, decide_eq_true (log_even h)]
  rfl
/-- what a write makes of the disk: torn at k -/
def tornL (ss : List ByteArray) (i : Nat) (t : ByteArray) (k : Nat) : List ByteArray := ss.set i (tornS (secA ss i) t k)
theorem tear_in {ss : List ByteArray} (h : logB ss = true) {i : Nat} (hi : i < ss.length) {t : ByteArray} (ht : t.size = 128) {k : Nat} (hk : k ≤ 128) : tearL ss (i : Int) t (k : Int) = tornL ss i t k := (Good.mk (log_right h) hi ht).tearL hk
theorem torn_all {ss : List ByteArray} (h : logB ss = true) {i : Nat} (hi : i < ss.length) {t : ByteArray} (ht : t.size = 128) : tornL ss i t 128 = ss.set i t := by
  unfold tornL
  rw [torn_full _ _ (sec_size h hi) ht]
theorem crash_end {A : Nat} {w W0 w1 : World} {ob : Option Addr} {n m cp : Nat} {x : Value} {g u tp : Int} {d : Bool} {ss : List ByteArray} (hB : Below w.heap.size w W0) (hB1 : Below W0.drew.heap.size W0.drew w1) (hA : SRow w1 A x g u tp d) (ha : w1.cell? ⟨A, 0, none⟩ = some x) (hx : ∃ oa na ca, x = .slice oa na ca) (hR : Rd w1 ob m cp ss) (hm : m = n) :
    (∃ ob' m', SRow ((w1.setCell ⟨A, 0, none⟩ (.slice ob m cp)).setCell ⟨A, 4, none⟩ (.bool true)) A (.slice ob' n m') g u tp true ∧ Rd ((w1.setCell ⟨A, 0, none⟩ (.slice ob m cp)).setCell ⟨A, 4, none⟩ (.bool true)) ob' n m' ss) ∧ But A w ((w1.setCell ⟨A, 0, none⟩ (.slice ob m cp)).setCell ⟨A, 4, none⟩ (.bool true)) := by
  subst hm
  obtain ⟨oa, na, ca, rfl⟩ := hx
  have h4 := (hA.set0 (.slice ob m cp)).at4
  refine ⟨⟨ob, cp, (hA.set0 _).set4 true, ?_⟩, (((But.of_below A hB).trans (But.of_below A (below_undrew hB1 (Nat.le_refl _)))).setCell 0 _).setCell 4 _⟩
  have h1 : Rd (w1.setCell ⟨A, 0, none⟩ (.slice ob m cp)) ob m cp ss := hR.setDisk ha _
  refine ⟨h1.len, h1.room, fun i hi => ?_⟩
  obtain ⟨b, hb, hc⟩ := h1.cell i hi
  refine ⟨b, hb, ?_⟩
  by_cases e : b = A
  · subst e
    exfalso
    rw [cell_of_row _ _ _ _ _ _ (hA.set0 (.slice ob m cp))] at hc
    rcases i with _ | _ | _ | _ | _ | i <;> simp at hc
  · exact keepS (by exact fun h => e h.symm) hc
theorem ok_end {A : Nat} {w W0 w1 : World} {ob : Option Addr} {n m cp : Nat} {x : Value} {g u tp : Int} {d : Bool} {ss : List ByteArray} (hB : Below w.heap.size w W0) (hB1 : Below W0.drew.heap.size W0.drew w1) (hA : SRow w1 A x g u tp d) (ha : w1.cell? ⟨A, 0, none⟩ = some x) (hx : ∃ oa na ca, x = .slice oa na ca) (hR : Rd w1 ob m cp ss) (hm : m = n) :
    (∃ ob' m', SRow (w1.setCell ⟨A, 0, none⟩ (.slice ob m cp)) A (.slice ob' n m') g u tp d ∧ Rd (w1.setCell ⟨A, 0, none⟩ (.slice ob m cp)) ob' n m' ss) ∧ But A w (w1.setCell ⟨A, 0, none⟩ (.slice ob m cp)) := by
  subst hm
  obtain ⟨oa, na, ca, rfl⟩ := hx
  exact ⟨⟨ob, cp, hA.set0 _, hR.setDisk ha _⟩, ((But.of_below A hB).trans (But.of_below A (below_undrew hB1 (Nat.le_refl _)))).setCell 0 _⟩
theorem torn_len (ss : List ByteArray) (i : Nat) (t : ByteArray) (k : Nat) : (tornL ss i t k).length = ss.length := by unfold tornL; rw [List.length_set]
end Go.Proofs.Ytmjbhmmcpjhmcaa
