/-
  The program's own: which hush, and which message, may be.
-/
import Derived.Test.YthncfcjkpcjkiaaGreatDoorWirZ
import Derived.Test.YthncfcjkpcjkiaaGreatDoorMatF
import Derived.Deep.RegionHeld3
import Derived.Deep.DeepCutAuto
import Derived.Deep.CutBlock
import Derived.RegionTactic
import Derived.StillTailTactics
namespace Go.Proofs.YthncfcjkpcjkiaaGreatDoor
open Go.RowKit Go.Shelf
set_option linter.unusedVariables false

set_option maxRecDepth 100000 in
set_option maxHeartbeats 400000 in
theorem tick_right (n : Int) (w : World) :
    Calls Tryz.prog 60 #[.int .i64 n] w fun e w' => e = .returned (.bool (timeB n)) ∧ w' = w := by
  have HT : Hid (timeB n = (decide (0 ≤ n) && decide (n ≤ 1099511627776))) := rfl
  go_enter Tryz.func60, Tryz.ntmps60
  by_cases h0 : 0 ≤ n
  · go_wp2_with fail
    go_ret
    exact ⟨retB (by rw [HT.out]; simp [h0]), rfl⟩
  · go_wp2_with fail
    go_ret
    exact ⟨retB (by rw [HT.out, show decide (0 ≤ n) = false by simp; omega]; simp), rfl⟩
set_option maxRecDepth 100000 in
set_option maxHeartbeats 800000 in
theorem noMat_wire (m : M3) (w : World) :
    Calls Tryz.prog 62 #[aggM m] w fun e w' => e = .returned (.bool (!matB m)) ∧ Below w.heap.size w w' := by
  obtain ⟨k, s, t⟩ := m
  have hB := fun o => (Below.refl _ w).alloc (Nat.le_refl w.heap.size) o
  have HT := fun w => mat_any (k, s, t) w
  dsimp only [aggM] at *
  generalize matB (k, s, t) = b at *
  go_enter Tryz.func62, Tryz.ntmps62
  go_wp2_with fail
  refine (HT _).mono ?_
  rintro e w1 ⟨rfl, B1⟩
  go_wp2_with fail
  go_ret
  exact ⟨rfl, (hB _).trans (B1.mono (by simp))⟩
theorem enter_noMatW : ∀ args w, (callFunc 62 args).run Tryz.prog w = .ok (.enter 62 args) w := enters_of Tryz.func62 (by kernel_rfl) rfl
theorem tells_noMatW (w : World) : TellsM w 62 #[] (fun m => !matB m) := fun x b W hb _ => by subst hb; exact noMat_wire x W
set_option maxRecDepth 100000 in
set_option maxHeartbeats 800000 in
theorem zero_any (f t : Int) (ob : Option Addr) (nb cb : Nat) (w : World) :
    Calls Tryz.prog 38 #[.agg #[.int .i64 f, .int .i64 t, .slice ob nb cb]] w fun e w' => e = .returned (.bool (decide (f = 0) && (decide (t = 0) && decide (nb = 0)))) ∧ Below w.heap.size w w' := by
  have V0 := Vals.new w 25 #[.int .i64 f, .int .i64 t, .slice ob nb cb]
  have B0 := below_alloc w (.cells #[.int .i64 f, .int .i64 t, .slice ob nb cb] 25)
  go_enter Tryz.func38, Tryz.ntmps38
  go_upto_region 1 with fail
  generalize w.alloc (.cells #[.int .i64 f, .int .i64 t, .slice ob nb cb] 25) = w1 at *
  have c0 : w1.cell? ⟨w.heap.size, 0, none⟩ = some (.int .i64 f) := V0.cell 0
  have c1 : w1.cell? ⟨w.heap.size, 1, none⟩ = some (.int .i64 t) := V0.cell 1
  have c2 : w1.cell? ⟨w.heap.size, 2, none⟩ = some (.slice ob nb cb) := V0.cell 2
  by_cases hf : f = 0
  · subst hf
    by_cases ht : t = 0
    · subst ht
      by_cases hn : nb = 0
      · subst hn
        go_wp2_with fail
        go_ret
        exact ⟨rfl, B0⟩
      · have h0 : ((nb : Int) == 0) = false := by simp; omega
        go_wp2_with fail
        go_ret
        exact ⟨retB (by simp), B0⟩
    · have h0 : (t == 0) = false := by simp [ht]
      go_wp2_with fail
      go_ret
      exact ⟨retB (by simp), B0⟩
  · have h0 : (f == 0) = false := by simp [hf]
    go_wp2_with fail
    go_ret
    exact ⟨retB (by simp [hf]), B0⟩
set_option maxRecDepth 100000 in
set_option maxHeartbeats 3200000 in
theorem hush_right_any (f t : Int) (ob : Option Addr) (nb cb : Nat) (ms : List M3) (w : World) (h : Ms w ob nb cb ms) (hn : nb ≤ 3074457345618258602) :
    Calls Tryz.prog 39 #[.agg #[.int .i64 f, .int .i64 t, .slice ob nb cb]] w fun e w' => e = .returned (.bool (hushR f t ms)) ∧ Below w.heap.size w w' := by
  have hl := h.len
  have HR := Lib.hid (hushR_is f t ms)
  have HQ : Hid (matsB ms = (decide (nb ≤ 4) && !(ms.any fun m => !matB m))) := by show _ = _; unfold matsB; rw [hl]
  rw [hl] at HR
  have V0 := Vals.new w 25 #[.int .i64 f, .int .i64 t, .slice ob nb cb]
  have B0 := below_alloc w (.cells #[.int .i64 f, .int .i64 t, .slice ob nb cb] 25)
  have HM := contM_any 62 #[] _ ob nb cb ms _ (h.below B0 (Nat.le_refl _)) hn (tells_noMatW _) enter_noMatW
  have HF := fun w => tick_right f w
  have HT := fun w => tick_right t w
  clear h hl
  go_enter Tryz.func39, Tryz.ntmps39
  go_upto_region 1 with fail
  generalize w.alloc (.cells #[.int .i64 f, .int .i64 t, .slice ob nb cb] 25) = w1 at *
  have c0 : w1.cell? ⟨w.heap.size, 0, none⟩ = some (.int .i64 f) := V0.cell 0
  have c1 : w1.cell? ⟨w.heap.size, 1, none⟩ = some (.int .i64 t) := V0.cell 1
  have c2 : w1.cell? ⟨w.heap.size, 2, none⟩ = some (.slice ob nb cb) := V0.cell 2
  generalize timeB f = a at *
  generalize timeB t = b at *
  generalize matsB ms = mm at *
  generalize (ms.any fun m => !matB m) = m at *
  cases a with
  | false =>
    clear HT HM
    go_wp2_with fail
    refine (HF _).mono ?_
    rintro e w2 ⟨rfl, rfl⟩
    go_wp2_with fail
    go_ret
    exact ⟨retB (by rw [HR.out]; simp), B0⟩
  | true =>
    cases b with
    | false =>
      clear HM
      go_wp2_with fail
      refine (HF _).mono ?_
      rintro e w2 ⟨rfl, rfl⟩
      go_wp2_with fail
      refine (HT _).mono ?_
      rintro e w2 ⟨rfl, rfl⟩
      go_wp2_with fail
      go_ret
      exact ⟨retB (by rw [HR.out]; simp), B0⟩
    | true =>
      by_cases hft : f < t
      · by_cases hnb : 1 ≤ nb
        · by_cases hn4 : nb ≤ 4
          · go_wp2_with fail
            refine (HF _).mono ?_
            rintro e w2 ⟨rfl, rfl⟩
            go_wp2_with fail
            refine (HT _).mono ?_
            rintro e w2 ⟨rfl, rfl⟩
            go_wp2_with fail
            refine HM.mono ?_
            rintro e w2 ⟨rfl, B2⟩
            go_wp2_with fail
            go_ret
            exact ⟨retB (by rw [HR.out, HQ.out, decide_eq_true hft, decide_eq_true hnb, decide_eq_true hn4]; simp), B0.trans (B2.mono B0.size)⟩
          · clear HM
            go_wp2_with fail
            refine (HF _).mono ?_
            rintro e w2 ⟨rfl, rfl⟩
            go_wp2_with fail
            refine (HT _).mono ?_
            rintro e w2 ⟨rfl, rfl⟩
            go_wp2_with fail
            go_ret
            exact ⟨retB (by rw [HR.out, HQ.out, show decide (nb ≤ 4) = false by simp; omega]; simp), B0⟩
        · clear HM
          go_wp2_with fail
          refine (HF _).mono ?_
          rintro e w2 ⟨rfl, rfl⟩
          go_wp2_with fail
          refine (HT _).mono ?_
          rintro e w2 ⟨rfl, rfl⟩
          go_wp2_with fail
          go_ret
          exact ⟨retB (by rw [HR.out, show decide (1 ≤ nb) = false by simp; omega]; simp), B0⟩
      · clear HM
        go_wp2_with fail
        refine (HF _).mono ?_
        rintro e w2 ⟨rfl, rfl⟩
        go_wp2_with fail
        refine (HT _).mono ?_
        rintro e w2 ⟨rfl, rfl⟩
        go_wp2_with fail
        go_ret
        exact ⟨retB (by rw [HR.out, show decide (f < t) = false by simp; omega]; simp), B0⟩
set_option maxRecDepth 100000 in
set_option maxHeartbeats 6400000 in
theorem msg_right (q f t : Int) (oa : Option Addr) (n cap : Nat) (ob : Option Addr) (nb cb : Nat) (l : List L2) (ms : List M3) (w : World) (hL : Ls w oa n cap l) (h : Ms w ob nb cb ms) (hn : n ≤ 4611686018427387904) (hnb : nb ≤ 3074457345618258602) :
    Calls Tryz.prog 17 #[.agg (msgC q (.slice oa n cap) f t (.slice ob nb cb))] w fun e w' => e = .returned (.bool (msgR (q, l, f, t, ms))) ∧ Below w.heap.size w w' := by
  have hl := h.len
  have hl1 := hL.len
  have V0 := Vals.new w 27 (msgC q (.slice oa n cap) f t (.slice ob nb cb))
  have B0 := below_alloc w (.cells (msgC q (.slice oa n cap) f t (.slice ob nb cb)) 27)
  have HH := hush_right_any f t ob nb cb ms _ (h.below B0 (Nat.le_refl _)) hnb
  have HA := right_any oa n cap l _ (hL.below B0 (Nat.le_refl _)) hn
  have HZ := fun w => zero_any f t ob nb cb w
  clear h hL
  go_enter Tryz.func17, Tryz.ntmps17
  go_upto_region 1 with fail
  generalize w.alloc (.cells (msgC q (.slice oa n cap) f t (.slice ob nb cb)) 27) = w1 at *
  have c0 : w1.cell? ⟨w.heap.size, 0, none⟩ = some (.int .i64 q) := V0.cell 0
  have c1 : w1.cell? ⟨w.heap.size, 1, none⟩ = some (.slice oa n cap) := V0.cell 1
  have c2 : w1.cell? ⟨w.heap.size, 2, none⟩ = some (.int .i64 f) := V0.cell 2
  have c3 : w1.cell? ⟨w.heap.size, 3, none⟩ = some (.int .i64 t) := V0.cell 3
  have c4 : w1.cell? ⟨w.heap.size, 4, none⟩ = some (.slice ob nb cb) := V0.cell 4
  by_cases hq : q = 2
  · subst hq
    have HR := Lib.hid (msgR_hush l f t ms)
    rw [hl1] at HR
    clear HA HZ hl hl1
    generalize hushR f t ms = m at *
    by_cases hn0 : n = 0
    · subst hn0
      go_wp2_with fail
      refine HH.mono ?_
      rintro e w2 ⟨rfl, B2⟩
      go_wp2_with fail
      go_ret
      exact ⟨retB (by rw [HR.out]; simp), B0.trans (B2.mono B0.size)⟩
    · clear HH
      have h0 : ((n : Int) == 0) = false := by simp; omega
      go_wp2_with fail
      go_ret
      exact ⟨retB (by rw [HR.out, decide_eq_false hn0]; simp), B0⟩
  · have HR := Lib.hid (msgR_alert q hq l f t ms)
    rw [hl] at HR
    clear HH hl hl1
    generalize rightB l = m at *
    generalize (decide (f = 0) && (decide (t = 0) && decide (nb = 0))) = z at *
    by_cases h01 : q = 0 ∨ q = 1
    · have e01 : (decide (q = 0) || decide (q = 1)) = true := by rcases h01 with rfl | rfl <;> rfl
      have HR2 : Hid (msgR (q, l, f, t, ms) = (m && z)) := by show _ = _; rw [HR.out, e01, Bool.true_and]
      clear HR e01
      rcases h01 with rfl | rfl
      all_goals
        cases m with
        | false =>
          clear HZ
          go_wp2_with fail
          refine HA.mono ?_
          rintro e w2 ⟨rfl, B2⟩
          go_wp2_with fail
          go_ret
          exact ⟨retB (by rw [HR2.out]; simp), B0.trans (B2.mono B0.size)⟩
        | true =>
          go_wp2_with fail
          refine HA.mono ?_
          rintro e w2 ⟨rfl, B2⟩
          have V2 := V0.keep B2 (Nat.le_refl _)
          have d2 : w2.cell? ⟨w.heap.size, 2, none⟩ = some (.int .i64 f) := V2.cell 2
          have d3 : w2.cell? ⟨w.heap.size, 3, none⟩ = some (.int .i64 t) := V2.cell 3
          have d4 : w2.cell? ⟨w.heap.size, 4, none⟩ = some (.slice ob nb cb) := V2.cell 4
          have B3 := B0.trans (B2.mono B0.size)
          clear c0 c1 c2 c3 c4 V0 V2 B0 B2
          go_wp2_with fail
          refine (HZ _).mono ?_
          rintro e w4 ⟨rfl, B4⟩
          go_wp2_with fail
          go_ret
          exact ⟨retB (by rw [HR2.out]; simp), B3.trans (B4.mono B3.size)⟩
    · have e01 : (decide (q = 0) || decide (q = 1)) = false := by
        rw [decide_eq_false (fun e => h01 (.inl e)), decide_eq_false (fun e => h01 (.inr e))]; rfl
      have h0 : (q == 0) = false := by simp; exact fun e => h01 (.inl e)
      have h1 : (q == 1) = false := by simp; exact fun e => h01 (.inr e)
      have h2 : (q == 2) = false := by simp [hq]
      clear HA HZ
      go_wp2_with fail
      go_ret
      exact ⟨retB (by rw [HR.out, e01]; simp), B0⟩
end Go.Proofs.YthncfcjkpcjkiaaGreatDoor
