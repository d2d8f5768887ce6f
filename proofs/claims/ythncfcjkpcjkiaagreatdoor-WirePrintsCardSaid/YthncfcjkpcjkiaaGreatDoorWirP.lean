/-
  The document's own: what a matcher, and a message, is printed as, and which hush may be.
-/
import Derived.Test.YthncfcjkpcjkiaaGreatDoorWirZ
import Derived.Test.YthncfcjkpcjkiaaGreatDoorRefMats
import Derived.Test.YthncfcjkpcjkiaaGreatDoorRefRight
import Derived.Deep.RegionHeld3
import Derived.Deep.DeepCutAuto
import Derived.Deep.CutBlock
import Derived.RegionTactic
import Derived.StillTailTactics
import Derived.Deep.RegionLaw
import Derived.BigRegion
import Derived.Deep.QuietTactic
import Derived.BigQuiet
namespace Go.Proofs.YthncfcjkpcjkiaaGreatDoor
open Go.RowKit Go.Shelf
set_option linter.unusedVariables false

set_option maxRecDepth 100000 in
set_option maxHeartbeats 1600000 in
theorem refAsk_any (m : M3) (hm : 0 ≤ m.1 ∧ m.1 ≤ 3) (hz : m.2.1.size ≤ 1000 ∧ m.2.2.size ≤ 1000) (w : World) :
    Calls Tryz.prog 20 #[aggM m] w fun e w' => e = .returned (.string (tx (askB m))) ∧ Below w.heap.size w w' := by
  obtain ⟨q, s, t⟩ := m
  have HA := Lib.hid (ask_text (q, s, t))
  obtain ⟨k, rfl⟩ : ∃ k : Nat, q = (k : Int) := ⟨q.toNat, by have := hm.1; dsimp only at this; omega⟩
  have hk : k < 4 := by have := hm.2; dsimp only at this; omega
  have z1 : s.size ≤ 1000 := hz.1
  have z2 : t.size ≤ 1000 := hz.2
  clear hm hz
  have z3 : (tx [signC (k : Int)]).size = 1 := by rw [tx_size]; rfl
  have HS := fun w => refSign_any k hk w
  dsimp only at HA
  generalize tx [signC (k : Int)] = g at *
  dsimp only [aggM]
  have B1 := below_alloc w (.cells #[.int .i64 (k : Int), .string s, .string t] 32)
  go_enter Tryz.func20, Tryz.ntmps20
  go_wp2_with fail
  have c0 : (w.alloc (.cells #[.int .i64 (k : Int), .string s, .string t] 32)).cell? ⟨w.heap.size, 0, none⟩ = some (.int .i64 (k : Int)) := by simp
  have c1 : (w.alloc (.cells #[.int .i64 (k : Int), .string s, .string t] 32)).cell? ⟨w.heap.size, 1, none⟩ = some (.string s) := by simp
  have c2 : (w.alloc (.cells #[.int .i64 (k : Int), .string s, .string t] 32)).cell? ⟨w.heap.size, 2, none⟩ = some (.string t) := by simp
  generalize w.alloc (.cells #[.int .i64 (k : Int), .string s, .string t] 32) = w1 at *
  go_quiet ((go_at_call 30; refine Calls.quiet_of_same (HS _)))
  go_wp2_with fail
  go_ret
  exact ⟨retS HA.out.symm, belowN B1 _⟩
theorem refTime_any (n : Int) (w : World) :
    Calls Tryz.prog 63 #[.int .i64 n] w fun e w' => e = .returned (.bool (timeB n)) ∧ w' = w := by
  have HT : Hid (timeB n = (decide (0 ≤ n) && decide (n ≤ 1099511627776))) := rfl
  go_enter Tryz.func63, Tryz.ntmps63
  by_cases h0 : 0 ≤ n
  · go_wp2_with fail
    go_ret
    exact ⟨retB (by rw [HT.out]; simp [h0]), rfl⟩
  · go_wp2_with fail
    go_ret
    exact ⟨retB (by rw [HT.out, show decide (0 ≤ n) = false by simp; omega]; simp), rfl⟩
set_option maxRecDepth 100000 in
set_option maxHeartbeats 6400000 in
theorem refHushR_any (f t : Int) (ob : Option Addr) (nb cb : Nat) (ms : List M3) (w : World) (h : Ms w ob nb cb ms) (hn : nb ≤ 3074457345618258602) (hS : ShortM ms) :
    Calls Tryz.prog 40 #[.agg #[.int .i64 f, .int .i64 t, .slice ob nb cb]] w fun e w' => e = .returned (.bool (hushR f t ms)) ∧ Below w.heap.size w w' := by
  have hl := h.len
  have HR := Lib.hid (hushR_is f t ms)
  rw [hl] at HR
  have V0 := Vals.new w 25 #[.int .i64 f, .int .i64 t, .slice ob nb cb]
  have B0 := below_alloc w (.cells #[.int .i64 f, .int .i64 t, .slice ob nb cb] 25)
  have HM := refMatchers_any ob nb cb ms _ (h.below B0 (Nat.le_refl _)) hn hS
  have HF := fun w => refTime_any f w
  have HT := fun w => refTime_any t w
  clear h hS hl
  go_enter Tryz.func40, Tryz.ntmps40
  go_upto_region 1 with fail
  generalize w.alloc (.cells #[.int .i64 f, .int .i64 t, .slice ob nb cb] 25) = w1 at *
  have c0 : w1.cell? ⟨w.heap.size, 0, none⟩ = some (.int .i64 f) := V0.cell 0
  have c1 : w1.cell? ⟨w.heap.size, 1, none⟩ = some (.int .i64 t) := V0.cell 1
  have c2 : w1.cell? ⟨w.heap.size, 2, none⟩ = some (.slice ob nb cb) := V0.cell 2
  generalize timeB f = a at *
  generalize timeB t = b at *
  generalize matsB ms = m at *
  cases a with
  | false =>
    clear HT HM
    go_wp2_with fail
    refine (HF _).mono ?_
    rintro e w2 ⟨rfl, rfl⟩
    go_wp2_with fail
    go_ret
    exact ⟨retB (by rw [HR.out]; simp), B0⟩
  | true =>
    cases b with
    | false =>
      clear HM
      go_wp2_with fail
      refine (HF _).mono ?_
      rintro e w2 ⟨rfl, rfl⟩
      go_wp2_with fail
      refine (HT _).mono ?_
      rintro e w2 ⟨rfl, rfl⟩
      go_wp2_with fail
      go_ret
      exact ⟨retB (by rw [HR.out]; simp), B0⟩
    | true =>
      by_cases hft : f < t
      · by_cases hnb : 1 ≤ nb
        · go_wp2_with fail
          refine (HF _).mono ?_
          rintro e w2 ⟨rfl, rfl⟩
          go_wp2_with fail
          refine (HT _).mono ?_
          rintro e w2 ⟨rfl, rfl⟩
          go_wp2_with fail
          refine HM.mono ?_
          rintro e w2 ⟨rfl, B2⟩
          go_wp2_with fail
          go_ret
          exact ⟨retB (by rw [HR.out, decide_eq_true hft, decide_eq_true hnb]; simp), B0.trans (B2.mono B0.size)⟩
        · clear HM
          go_wp2_with fail
          refine (HF _).mono ?_
          rintro e w2 ⟨rfl, rfl⟩
          go_wp2_with fail
          refine (HT _).mono ?_
          rintro e w2 ⟨rfl, rfl⟩
          go_wp2_with fail
          go_ret
          exact ⟨retB (by rw [HR.out, show decide (1 ≤ nb) = false by simp; omega]; simp), B0⟩
      · clear HM
        go_wp2_with fail
        refine (HF _).mono ?_
        rintro e w2 ⟨rfl, rfl⟩
        go_wp2_with fail
        refine (HT _).mono ?_
        rintro e w2 ⟨rfl, rfl⟩
        go_wp2_with fail
        go_ret
        exact ⟨retB (by rw [HR.out, show decide (f < t) = false by simp; omega]; simp), B0⟩
set_option maxRecDepth 100000 in
set_option maxHeartbeats 6400000 in
theorem refMsgR_any (q f t : Int) (oa : Option Addr) (n cap : Nat) (ob : Option Addr) (nb cb : Nat) (l : List L2) (ms : List M3) (w : World) (hL : Ls w oa n cap l) (h : Ms w ob nb cb ms) (hn : n ≤ 4611686018427387904) (hnb : nb ≤ 3074457345618258602) (hSL : ShortL l) (hS : ShortM ms) :
    Calls Tryz.prog 18 #[.agg (msgC q (.slice oa n cap) f t (.slice ob nb cb))] w fun e w' => e = .returned (.bool (msgR (q, l, f, t, ms))) ∧ Below w.heap.size w w' := by
  have hl := h.len
  have hl1 := hL.len
  have V0 := Vals.new w 27 (msgC q (.slice oa n cap) f t (.slice ob nb cb))
  have B0 := below_alloc w (.cells (msgC q (.slice oa n cap) f t (.slice ob nb cb)) 27)
  have HH := refHushR_any f t ob nb cb ms _ (h.below B0 (Nat.le_refl _)) hnb hS
  have HA := refRight_any oa n cap l _ (hL.below B0 (Nat.le_refl _)) hn hSL
  clear h hL hS hSL
  go_enter Tryz.func18, Tryz.ntmps18
  go_upto_region 1 with fail
  generalize w.alloc (.cells (msgC q (.slice oa n cap) f t (.slice ob nb cb)) 27) = w1 at *
  have c0 : w1.cell? ⟨w.heap.size, 0, none⟩ = some (.int .i64 q) := V0.cell 0
  have c1 : w1.cell? ⟨w.heap.size, 1, none⟩ = some (.slice oa n cap) := V0.cell 1
  have c2 : w1.cell? ⟨w.heap.size, 2, none⟩ = some (.int .i64 f) := V0.cell 2
  have c3 : w1.cell? ⟨w.heap.size, 3, none⟩ = some (.int .i64 t) := V0.cell 3
  have c4 : w1.cell? ⟨w.heap.size, 4, none⟩ = some (.slice ob nb cb) := V0.cell 4
  by_cases hq : q = 2
  · subst hq
    have HR := Lib.hid (msgR_hush l f t ms)
    rw [hl1] at HR
    clear HA hl hl1
    generalize hushR f t ms = m at *
    by_cases hn0 : n = 0
    · subst hn0
      go_wp2_with fail
      refine HH.mono ?_
      rintro e w2 ⟨rfl, B2⟩
      go_wp2_with fail
      go_ret
      exact ⟨retB (by rw [HR.out]; simp), B0.trans (B2.mono B0.size)⟩
    · clear HH
      go_wp2_with fail
      go_ret
      exact ⟨retB (by rw [HR.out, decide_eq_false hn0]; simp), B0⟩
  · have HR := Lib.hid (msgR_alert q hq l f t ms)
    rw [hl] at HR
    clear HH hl hl1
    generalize rightB l = m at *
    by_cases h01 : q = 0 ∨ q = 1
    · have e01 : (decide (q = 0) || decide (q = 1)) = true := by rcases h01 with rfl | rfl <;> rfl
      have HR2 : Hid (msgR (q, l, f, t, ms) = (m && (decide (f = 0) && (decide (t = 0) && decide (nb = 0))))) := by show _ = _; rw [HR.out, e01, Bool.true_and]
      clear HR e01
      have HR := HR2
      clear HR2
      rcases h01 with rfl | rfl
      all_goals
        cases m with
        | false =>
          go_wp2_with fail
          refine HA.mono ?_
          rintro e w2 ⟨rfl, B2⟩
          have V2 := V0.keep B2 (Nat.le_refl _)
          have d2 : w2.cell? ⟨w.heap.size, 2, none⟩ = some (.int .i64 _) := V2.cell 2
          have d3 : w2.cell? ⟨w.heap.size, 3, none⟩ = some (.int .i64 _) := V2.cell 3
          have d4 : w2.cell? ⟨w.heap.size, 4, none⟩ = some (.slice ob _ cb) := V2.cell 4
          have B3 := B0.trans (B2.mono B0.size)
          go_wp2_with fail
          go_ret
          exact ⟨retB (by rw [HR.out]; simp), B3⟩
        | true =>
          by_cases hf : f = 0
          · subst hf
            by_cases ht : t = 0
            · subst ht
              by_cases hb : nb = 0
              · subst hb
                go_wp2_with fail
                refine HA.mono ?_
                rintro e w2 ⟨rfl, B2⟩
                have V2 := V0.keep B2 (Nat.le_refl _)
                have d2 : w2.cell? ⟨w.heap.size, 2, none⟩ = some (.int .i64 _) := V2.cell 2
                have d3 : w2.cell? ⟨w.heap.size, 3, none⟩ = some (.int .i64 _) := V2.cell 3
                have d4 : w2.cell? ⟨w.heap.size, 4, none⟩ = some (.slice ob _ cb) := V2.cell 4
                have B3 := B0.trans (B2.mono B0.size)
                go_wp2_with fail
                go_ret
                exact ⟨retB (by rw [HR.out]; simp), B3⟩
              · go_wp2_with fail
                refine HA.mono ?_
                rintro e w2 ⟨rfl, B2⟩
                have V2 := V0.keep B2 (Nat.le_refl _)
                have d2 : w2.cell? ⟨w.heap.size, 2, none⟩ = some (.int .i64 _) := V2.cell 2
                have d3 : w2.cell? ⟨w.heap.size, 3, none⟩ = some (.int .i64 _) := V2.cell 3
                have d4 : w2.cell? ⟨w.heap.size, 4, none⟩ = some (.slice ob _ cb) := V2.cell 4
                have B3 := B0.trans (B2.mono B0.size)
                go_wp2_with fail
                go_ret
                exact ⟨retB (by rw [HR.out]; simp [hb]), B3⟩
            · go_wp2_with fail
              refine HA.mono ?_
              rintro e w2 ⟨rfl, B2⟩
              have V2 := V0.keep B2 (Nat.le_refl _)
              have d2 : w2.cell? ⟨w.heap.size, 2, none⟩ = some (.int .i64 _) := V2.cell 2
              have d3 : w2.cell? ⟨w.heap.size, 3, none⟩ = some (.int .i64 _) := V2.cell 3
              have d4 : w2.cell? ⟨w.heap.size, 4, none⟩ = some (.slice ob _ cb) := V2.cell 4
              have B3 := B0.trans (B2.mono B0.size)
              go_wp2_with fail
              go_ret
              exact ⟨retB (by rw [HR.out, decide_eq_false ht]; simp), B3⟩
          · go_wp2_with fail
            refine HA.mono ?_
            rintro e w2 ⟨rfl, B2⟩
            have V2 := V0.keep B2 (Nat.le_refl _)
            have d2 : w2.cell? ⟨w.heap.size, 2, none⟩ = some (.int .i64 _) := V2.cell 2
            have d3 : w2.cell? ⟨w.heap.size, 3, none⟩ = some (.int .i64 _) := V2.cell 3
            have d4 : w2.cell? ⟨w.heap.size, 4, none⟩ = some (.slice ob _ cb) := V2.cell 4
            have B3 := B0.trans (B2.mono B0.size)
            go_wp2_with fail
            go_ret
            exact ⟨retB (by rw [HR.out, decide_eq_false hf]; simp), B3⟩
    · have e01 : (decide (q = 0) || decide (q = 1)) = false := by
        rw [decide_eq_false (fun e => h01 (.inl e)), decide_eq_false (fun e => h01 (.inr e))]; rfl
      have h0 : q ≠ 0 := fun e => h01 (.inl e)
      have h1 : q ≠ 1 := fun e => h01 (.inr e)
      clear HA
      go_wp2_with fail
      go_ret
      exact ⟨retB (by rw [HR.out, e01]; simp), B0⟩
end Go.Proofs.YthncfcjkpcjkiaaGreatDoor
