/-
  The program's own: which hush may be: package wire's word on it, and package hush's.
-/
import Derived.Test.YtkckdombcnifnaaHshM
import Derived.Test.YtkckdombcnifnaaVals
import Derived.Test.YtkckdombcnifnaaMatF
import Derived.Deep.RegionHeld3
import Derived.Deep.DeepCutAuto
import Derived.Deep.CutBlock
import Derived.RegionTactic
import Derived.StillTailTactics
namespace Go.Proofs.Ytkckdombcnifnaa
open Go.RowKit Go.Shelf
set_option linter.unusedVariables false

set_option maxRecDepth 100000 in
set_option maxHeartbeats 400000 in
theorem tick_right (n : Int) (w : World) :
    Calls Try.prog 24 #[.int .i64 n] w fun e w' => e = .returned (.bool (timeB n)) ∧ w' = w := by
  have HT : Hid (timeB n = (decide (0 ≤ n) && decide (n ≤ 1099511627776))) := rfl
  go_enter Try.func24, Try.ntmps24
  by_cases h0 : 0 ≤ n
  · go_wp2_with fail
    go_ret
    exact ⟨retB (by rw [HT.out]; simp [h0]), rfl⟩
  · go_wp2_with fail
    go_ret
    exact ⟨retB (by rw [HT.out, show decide (0 ≤ n) = false by simp; omega]; simp), rfl⟩
set_option maxRecDepth 100000 in
set_option maxHeartbeats 800000 in
theorem noMat_wire (m : M3) (w : World) :
    Calls Try.prog 75 #[aggM m] w fun e w' => e = .returned (.bool (!matB m)) ∧ Below w.heap.size w w' := by
  obtain ⟨k, s, t⟩ := m
  have hB := fun o => (Below.refl _ w).alloc (Nat.le_refl w.heap.size) o
  have HT := fun w => mat_any (k, s, t) w
  dsimp only [aggM] at *
  generalize matB (k, s, t) = b at *
  go_enter Try.func75, Try.ntmps75
  go_wp2_with fail
  refine (HT _).mono ?_
  rintro e w1 ⟨rfl, B1⟩
  go_wp2_with fail
  go_ret
  exact ⟨rfl, (hB _).trans (B1.mono (by simp))⟩
theorem enter_noMatW : ∀ args w, (callFunc 75 args).run Try.prog w = .ok (.enter 75 args) w := enters_of Try.func75 (by kernel_rfl) rfl
theorem tells_noMatW (w : World) : TellsM w 75 #[] (fun m => !matB m) := fun x b W hb _ => by subst hb; exact noMat_wire x W
set_option maxRecDepth 100000 in
set_option maxHeartbeats 3200000 in
theorem hush_right_any (f t : Int) (ob : Option Addr) (nb cb : Nat) (ms : List M3) (w : World) (h : Ms w ob nb cb ms) (hn : nb ≤ 3074457345618258602) :
    Calls Try.prog 58 #[.agg #[.int .i64 f, .int .i64 t, .slice ob nb cb]] w fun e w' => e = .returned (.bool (hushR f t ms)) ∧ Below w.heap.size w w' := by
  have hl := h.len
  have HR := Lib.hid (hushR_is f t ms)
  have HQ : Hid (matsB ms = (decide (nb ≤ 4) && !(ms.any fun m => !matB m))) := by show _ = _; unfold matsB; rw [hl]
  rw [hl] at HR
  have V0 := Vals.new w 25 #[.int .i64 f, .int .i64 t, .slice ob nb cb]
  have B0 := below_alloc w (.cells #[.int .i64 f, .int .i64 t, .slice ob nb cb] 25)
  have HM := contM_any 75 #[] _ ob nb cb ms _ (h.below B0 (Nat.le_refl _)) hn (tells_noMatW _) enter_noMatW
  have HF := fun w => tick_right f w
  have HT := fun w => tick_right t w
  clear h hl
  go_enter Try.func58, Try.ntmps58
  go_upto_region 1 with fail
  generalize w.alloc (.cells #[.int .i64 f, .int .i64 t, .slice ob nb cb] 25) = w1 at *
  have c0 : w1.cell? ⟨w.heap.size, 0, none⟩ = some (.int .i64 f) := V0.cell 0
  have c1 : w1.cell? ⟨w.heap.size, 1, none⟩ = some (.int .i64 t) := V0.cell 1
  have c2 : w1.cell? ⟨w.heap.size, 2, none⟩ = some (.slice ob nb cb) := V0.cell 2
  generalize timeB f = a at *
  generalize timeB t = b at *
  generalize matsB ms = mm at *
  generalize (ms.any fun m => !matB m) = m at *
  cases a with
  | false =>
    clear HT HM
    go_wp2_with fail
    refine (HF _).mono ?_
    rintro e w2 ⟨rfl, rfl⟩
    go_wp2_with fail
    go_ret
    exact ⟨retB (by rw [HR.out]; simp), B0⟩
  | true =>
    cases b with
    | false =>
      clear HM
      go_wp2_with fail
      refine (HF _).mono ?_
      rintro e w2 ⟨rfl, rfl⟩
      go_wp2_with fail
      refine (HT _).mono ?_
      rintro e w2 ⟨rfl, rfl⟩
      go_wp2_with fail
      go_ret
      exact ⟨retB (by rw [HR.out]; simp), B0⟩
    | true =>
      by_cases hft : f < t
      · by_cases hnb : 1 ≤ nb
        · by_cases hn4 : nb ≤ 4
          · go_wp2_with fail
            refine (HF _).mono ?_
            rintro e w2 ⟨rfl, rfl⟩
            go_wp2_with fail
            refine (HT _).mono ?_
            rintro e w2 ⟨rfl, rfl⟩
            go_wp2_with fail
            refine HM.mono ?_
            rintro e w2 ⟨rfl, B2⟩
            go_wp2_with fail
            go_ret
            exact ⟨retB (by rw [HR.out, HQ.out, decide_eq_true hft, decide_eq_true hnb, decide_eq_true hn4]; simp), B0.trans (B2.mono B0.size)⟩
          · clear HM
            go_wp2_with fail
            refine (HF _).mono ?_
            rintro e w2 ⟨rfl, rfl⟩
            go_wp2_with fail
            refine (HT _).mono ?_
            rintro e w2 ⟨rfl, rfl⟩
            go_wp2_with fail
            go_ret
            exact ⟨retB (by rw [HR.out, HQ.out, show decide (nb ≤ 4) = false by simp; omega]; simp), B0⟩
        · clear HM
          go_wp2_with fail
          refine (HF _).mono ?_
          rintro e w2 ⟨rfl, rfl⟩
          go_wp2_with fail
          refine (HT _).mono ?_
          rintro e w2 ⟨rfl, rfl⟩
          go_wp2_with fail
          go_ret
          exact ⟨retB (by rw [HR.out, show decide (1 ≤ nb) = false by simp; omega]; simp), B0⟩
      · clear HM
        go_wp2_with fail
        refine (HF _).mono ?_
        rintro e w2 ⟨rfl, rfl⟩
        go_wp2_with fail
        refine (HT _).mono ?_
        rintro e w2 ⟨rfl, rfl⟩
        go_wp2_with fail
        go_ret
        exact ⟨retB (by rw [HR.out, show decide (f < t) = false by simp; omega]; simp), B0⟩
abbrev msgC (k : Int) (a : Value) (f t : Int) (b : Value) : Array Value := #[.int .i64 k, a, .int .i64 f, .int .i64 t, b]
set_option maxRecDepth 100000 in
set_option maxHeartbeats 3200000 in
theorem msg_hush (f t : Int) (ob : Option Addr) (nb cb : Nat) (ms : List M3) (w : World) (h : Ms w ob nb cb ms) (hnb : nb ≤ 3074457345618258602) :
    Calls Try.prog 38 #[.agg (msgC 2 (.slice none 0 0) f t (.slice ob nb cb))] w fun e w' => e = .returned (.bool (hushR f t ms)) ∧ Below w.heap.size w w' := by
  have V0 := Vals.new w 65 (msgC 2 (.slice none 0 0) f t (.slice ob nb cb))
  have B0 := below_alloc w (.cells (msgC 2 (.slice none 0 0) f t (.slice ob nb cb)) 65)
  have HH := hush_right_any f t ob nb cb ms _ (h.below B0 (Nat.le_refl _)) hnb
  generalize hushR f t ms = m at *
  clear h
  go_enter Try.func38, Try.ntmps38
  go_upto_region 1 with fail
  generalize w.alloc (.cells (msgC 2 (.slice none 0 0) f t (.slice ob nb cb)) 65) = w1 at *
  have c0 : w1.cell? ⟨w.heap.size, 0, none⟩ = some (.int .i64 2) := V0.cell 0
  have c1 : w1.cell? ⟨w.heap.size, 1, none⟩ = some (.slice none 0 0) := V0.cell 1
  have c2 : w1.cell? ⟨w.heap.size, 2, none⟩ = some (.int .i64 f) := V0.cell 2
  have c3 : w1.cell? ⟨w.heap.size, 3, none⟩ = some (.int .i64 t) := V0.cell 3
  have c4 : w1.cell? ⟨w.heap.size, 4, none⟩ = some (.slice ob nb cb) := V0.cell 4
  go_wp2_with fail
  refine HH.mono ?_
  rintro e w2 ⟨rfl, B2⟩
  go_wp2_with fail
  go_ret
  exact ⟨rfl, B0.trans (B2.mono B0.size)⟩
set_option maxRecDepth 100000 in
set_option maxHeartbeats 1600000 in
theorem noneH_any (f t : Int) (ob : Option Addr) (nb cb : Nat) (ms : List M3) (w : World) (h : Ms w ob nb cb ms) (hnb : nb ≤ 3074457345618258602) :
    Calls Try.prog 23 #[.agg #[.int .i64 f, .int .i64 t, .slice ob nb cb]] w fun e w' => e = .returned (.bool (!hushR f t ms)) ∧ Below w.heap.size w w' := by
  have B0 := below_alloc w (.cells #[.int .i64 f, .int .i64 t, .slice ob nb cb] 25)
  have HH := msg_hush f t ob nb cb ms _ (h.below B0 (Nat.le_refl _)) hnb
  clear h
  generalize hushR f t ms = m at *
  go_enter Try.func23, Try.ntmps23
  go_wp2_with fail
  refine HH.mono ?_
  rintro e w2 ⟨rfl, B2⟩
  go_wp2_with fail
  go_ret
  exact ⟨rfl, B0.trans (B2.mono B0.size)⟩
end Go.Proofs.Ytkckdombcnifnaa
