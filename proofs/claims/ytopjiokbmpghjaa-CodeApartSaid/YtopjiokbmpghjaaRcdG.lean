/-
  The document's own: which duties may be in a record, and which records may be.
-/
import Derived.Test.YtopjiokbmpghjaaRcdF
namespace Go.Proofs.Ytopjiokbmpghjaa
open Go.RowKit Go.Shelf
set_option linter.unusedVariables false
set_option linter.unusedSimpArgs false

theorem refTime_any (n : Int) (w : World) :
    Calls Try.prog 50 #[.int .i64 n] w fun e w' => e = .returned (.bool (timeB n)) ∧ w' = w := by
  have HT : Hid (timeB n = (decide (0 ≤ n) && decide (n ≤ 1099511627776))) := rfl
  go_enter Try.func50, Try.ntmps50
  by_cases h0 : 0 ≤ n
  · go_wp2_with fail
    go_ret
    exact ⟨retB (by rw [HT.out]; simp [h0]), rfl⟩
  · go_wp2_with fail
    go_ret
    exact ⟨retB (by rw [HT.out, show decide (0 ≤ n) = false by simp; omega]; simp), rfl⟩
theorem hushR_is (f t : Int) (ms : List M3) : hushR f t ms = (timeB f && (timeB t && (decide (f < t) && (decide (1 ≤ ms.length) && matsB ms)))) := rfl
set_option maxRecDepth 100000 in
set_option maxHeartbeats 6400000 in
theorem refHushR_any (f t : Int) (ob : Option Addr) (nb cb : Nat) (ms : List M3) (w : World) (h : Ms w ob nb cb ms) (hn : nb ≤ 3074457345618258602) (hS : ShortM ms) :
    Calls Try.prog 30 #[.agg #[.int .i64 f, .int .i64 t, .slice ob nb cb]] w fun e w' => e = .returned (.bool (hushR f t ms)) ∧ Below w.heap.size w w' := by
  have hl := h.len
  have HR := Lib.hid (hushR_is f t ms)
  rw [hl] at HR
  have V0 := Vals.new w 27 #[.int .i64 f, .int .i64 t, .slice ob nb cb]
  have B0 := below_alloc w (.cells #[.int .i64 f, .int .i64 t, .slice ob nb cb] 27)
  have HM := refMatchers_any ob nb cb ms _ (h.below B0 (Nat.le_refl _)) hn hS
  have HF := fun w => refTime_any f w
  have HT := fun w => refTime_any t w
  clear h hS hl
  go_enter Try.func30, Try.ntmps30
  go_upto_region 1 with fail
  generalize w.alloc (.cells #[.int .i64 f, .int .i64 t, .slice ob nb cb] 27) = w1 at *
  have c0 : w1.cell? ⟨w.heap.size, 0, none⟩ = some (.int .i64 f) := V0.cell 0
  have c1 : w1.cell? ⟨w.heap.size, 1, none⟩ = some (.int .i64 t) := V0.cell 1
  have c2 : w1.cell? ⟨w.heap.size, 2, none⟩ = some (.slice ob nb cb) := V0.cell 2
  generalize timeB f = a at *
  generalize timeB t = b at *
  generalize matsB ms = m at *
  cases a with
  | false =>
    clear HT HM
    go_wp2_with fail
    refine (HF _).mono ?_
    rintro e w2 ⟨rfl, rfl⟩
    go_wp2_with fail
    go_ret
    exact ⟨retB (by rw [HR.out]; simp), B0⟩
  | true =>
    cases b with
    | false =>
      clear HM
      go_wp2_with fail
      refine (HF _).mono ?_
      rintro e w2 ⟨rfl, rfl⟩
      go_wp2_with fail
      refine (HT _).mono ?_
      rintro e w2 ⟨rfl, rfl⟩
      go_wp2_with fail
      go_ret
      exact ⟨retB (by rw [HR.out]; simp), B0⟩
    | true =>
      by_cases hft : f < t
      · by_cases hnb : 1 ≤ nb
        · go_wp2_with fail
          refine (HF _).mono ?_
          rintro e w2 ⟨rfl, rfl⟩
          go_wp2_with fail
          refine (HT _).mono ?_
          rintro e w2 ⟨rfl, rfl⟩
          go_wp2_with fail
          refine HM.mono ?_
          rintro e w2 ⟨rfl, B2⟩
          go_wp2_with fail
          go_ret
          exact ⟨retB (by rw [HR.out, decide_eq_true hft, decide_eq_true hnb]; simp), B0.trans (B2.mono B0.size)⟩
        · clear HM
          go_wp2_with fail
          refine (HF _).mono ?_
          rintro e w2 ⟨rfl, rfl⟩
          go_wp2_with fail
          refine (HT _).mono ?_
          rintro e w2 ⟨rfl, rfl⟩
          go_wp2_with fail
          go_ret
          exact ⟨retB (by rw [HR.out, show decide (1 ≤ nb) = false by simp; omega]; simp), B0⟩
      · clear HM
        go_wp2_with fail
        refine (HF _).mono ?_
        rintro e w2 ⟨rfl, rfl⟩
        go_wp2_with fail
        refine (HT _).mono ?_
        rintro e w2 ⟨rfl, rfl⟩
        go_wp2_with fail
        go_ret
        exact ⟨retB (by rw [HR.out, show decide (f < t) = false by simp; omega]; simp), B0⟩
set_option maxRecDepth 100000 in
set_option maxHeartbeats 6400000 in
theorem refDuty_any (oa : Option Addr) (n cap : Nat) (d : D6) (w : World) (h : Ls w oa n cap d.ls) (hn : n ≤ 4611686018427387904) (hS : ShortL d.ls) :
    Calls Try.prog 28 #[aggD oa n cap d] w fun e w' => e = .returned (.bool (dutyB d)) ∧ Below w.heap.size w w' := by
  have HQ : Hid (dutyB d = (rightB d.ls && (decide (0 ≤ d.rt) && (decide (d.rt ≤ 3) && (decide (0 ≤ d.pl) && (decide (d.pl ≤ 3) && (decide (0 ≤ d.tr) && (decide (d.tr ≤ 99) && (timeB d.du && (decide (1 ≤ d.st) && decide (d.st ≤ 3))))))))))) := rfl
  obtain ⟨R, hR⟩ : ∃ R, Hid (dutyB d = R) := ⟨_, rfl⟩
  rw [hR.out] at HQ
  rw [hR.out]
  clear hR
  obtain ⟨l, a1, a2, a3, a4, a5⟩ := d
  dsimp only [aggD, dV] at *
  have V0 := Vals.new w 24 #[.slice oa n cap, .int .i64 a1, .int .i64 a2, .int .i64 a3, .int .i64 a4, .int .i64 a5]
  have B0 := below_alloc w (.cells #[.slice oa n cap, .int .i64 a1, .int .i64 a2, .int .i64 a3, .int .i64 a4, .int .i64 a5] 24)
  have HS := refRight_any oa n cap l _ (h.below B0 (Nat.le_refl _)) hn hS
  have HT := fun w => refTime_any a4 w
  generalize rightB l = S at *
  clear h hS
  go_enter Try.func28, Try.ntmps28
  go_upto_region 1 with fail
  generalize w.alloc _ = w1 at *
  have x0 : w1.cell? ⟨w.heap.size, 0, none⟩ = some (.slice oa n cap) := V0.cell 0
  go_wp2_with fail
  refine HS.mono ?_
  rintro e w2 ⟨rfl, B1⟩
  have V2 := V0.keep B1 (Nat.le_refl _)
  have B2 := B0.trans (B1.mono B0.size)
  clear x0 V0 B0 B1 HS
  have x1 : w2.cell? ⟨w.heap.size, 1, none⟩ = some (.int .i64 a1) := V2.cell 1
  have x2 : w2.cell? ⟨w.heap.size, 2, none⟩ = some (.int .i64 a2) := V2.cell 2
  have x3 : w2.cell? ⟨w.heap.size, 3, none⟩ = some (.int .i64 a3) := V2.cell 3
  have x4 : w2.cell? ⟨w.heap.size, 4, none⟩ = some (.int .i64 a4) := V2.cell 4
  have x5 : w2.cell? ⟨w.heap.size, 5, none⟩ = some (.int .i64 a5) := V2.cell 5
  clear V2
  cases S with
  | false =>
    clear HT
    go_wp2_with fail
    go_ret
    exact ⟨retB (by rw [HQ.out]; rfl), B2⟩
  | true =>
    by_cases h1 : 0 ≤ a1
    · have eh1 : decide (0 ≤ a1) = true := decide_eq_true h1
      by_cases h2 : a1 ≤ 3
      · have eh2 : decide (a1 ≤ 3) = true := decide_eq_true h2
        by_cases h3 : 0 ≤ a2
        · have eh3 : decide (0 ≤ a2) = true := decide_eq_true h3
          by_cases h4 : a2 ≤ 3
          · have eh4 : decide (a2 ≤ 3) = true := decide_eq_true h4
            by_cases h5 : 0 ≤ a3
            · have eh5 : decide (0 ≤ a3) = true := decide_eq_true h5
              by_cases h6 : a3 ≤ 99
              · have eh6 : decide (a3 ≤ 99) = true := decide_eq_true h6
                cases ht : timeB a4 with
                | false =>
                  rw [ht] at HQ HT
                  go_wp2_with fail
                  refine (HT _).mono ?_
                  rintro e w3 ⟨rfl, rfl⟩
                  go_wp2_with fail
                  go_ret
                  exact ⟨retB (by rw [HQ.out]; simp), B2⟩
                | true =>
                  rw [ht] at HQ HT
                  by_cases h7 : 1 ≤ a5
                  · have eh7 : decide (1 ≤ a5) = true := decide_eq_true h7
                    by_cases h8 : a5 ≤ 3
                    · have eh8 : decide (a5 ≤ 3) = true := decide_eq_true h8
                      go_wp2_with fail
                      refine (HT _).mono ?_
                      rintro e w3 ⟨rfl, rfl⟩
                      go_wp2_with fail
                      go_ret
                      exact ⟨retB (by rw [HQ.out]; simp [h1, h2, h3, h4, h5, h6, h7, h8]), B2⟩
                    · have eh8 : decide (a5 ≤ 3) = false := decide_eq_false h8
                      go_wp2_with fail
                      refine (HT _).mono ?_
                      rintro e w3 ⟨rfl, rfl⟩
                      go_wp2_with fail
                      go_ret
                      exact ⟨retB (by rw [HQ.out, eh8]; simp), B2⟩
                  · have eh7 : decide (1 ≤ a5) = false := decide_eq_false h7
                    go_wp2_with fail
                    refine (HT _).mono ?_
                    rintro e w3 ⟨rfl, rfl⟩
                    go_wp2_with fail
                    go_ret
                    exact ⟨retB (by rw [HQ.out, eh7]; simp), B2⟩
              · have eh6 : decide (a3 ≤ 99) = false := decide_eq_false h6
                clear HT
                go_wp2_with fail
                go_ret
                exact ⟨retB (by rw [HQ.out, eh6]; simp), B2⟩
            · have eh5 : decide (0 ≤ a3) = false := decide_eq_false h5
              clear HT
              go_wp2_with fail
              go_ret
              exact ⟨retB (by rw [HQ.out, eh5]; simp), B2⟩
          · have eh4 : decide (a2 ≤ 3) = false := decide_eq_false h4
            clear HT
            go_wp2_with fail
            go_ret
            exact ⟨retB (by rw [HQ.out, eh4]; simp), B2⟩
        · have eh3 : decide (0 ≤ a2) = false := decide_eq_false h3
          clear HT
          go_wp2_with fail
          go_ret
          exact ⟨retB (by rw [HQ.out, eh3]; simp), B2⟩
      · have eh2 : decide (a1 ≤ 3) = false := decide_eq_false h2
        clear HT
        go_wp2_with fail
        go_ret
        exact ⟨retB (by rw [HQ.out, eh2]; simp), B2⟩
    · have eh1 : decide (0 ≤ a1) = false := decide_eq_false h1
      clear HT
      go_wp2_with fail
      go_ret
      exact ⟨retB (by rw [HQ.out, eh1]; simp), B2⟩
end Go.Proofs.Ytopjiokbmpghjaa
