/-
  The program's own: which duty, and which hush, may be in a record; which are none.
-/
import Derived.Test.YtopjiokbmpghjaaRecM
import Derived.Test.YtopjiokbmpghjaaVals
import Derived.Test.YtopjiokbmpghjaaMatF
import Derived.Test.YtopjiokbmpghjaaLabE
import Derived.Test.YtopjiokbmpghjaaLabD
import Derived.Test.YtopjiokbmpghjaaLibX
import Derived.Deep.RegionHeld3
import Derived.Deep.DeepCutAuto
import Derived.Deep.CutBlock
import Derived.RegionTactic
import Derived.StillTailTactics
namespace Go.Proofs.Ytopjiokbmpghjaa
open Go.RowKit Go.Shelf
set_option linter.unusedVariables false
set_option linter.unusedSimpArgs false

theorem hushR_is (f t : Int) (ms : List M3) : hushR f t ms = (timeB f && (timeB t && (decide (f < t) && (decide (1 ≤ ms.length) && matsB ms)))) := rfl
set_option maxRecDepth 100000 in
set_option maxHeartbeats 800000 in
theorem noMat_wire (m : M3) (w : World) :
    Calls Try.prog 74 #[aggM m] w fun e w' => e = .returned (.bool (!matB m)) ∧ Below w.heap.size w w' := by
  obtain ⟨k, s, t⟩ := m
  have hB := fun o => (Below.refl _ w).alloc (Nat.le_refl w.heap.size) o
  have HT := fun w => mat_any (k, s, t) w
  dsimp only [aggM] at *
  generalize matB (k, s, t) = b at *
  go_enter Try.func74, Try.ntmps74
  go_wp2_with fail
  refine (HT _).mono ?_
  rintro e w1 ⟨rfl, B1⟩
  go_wp2_with fail
  go_ret
  exact ⟨rfl, (hB _).trans (B1.mono (by simp))⟩
theorem enter_noMatW : ∀ args w, (callFunc 74 args).run Try.prog w = .ok (.enter 74 args) w := enters_of Try.func74 (by kernel_rfl) rfl
theorem tells_noMatW (w : World) : TellsM w 74 #[] (fun m => !matB m) := fun x b W hb _ => by subst hb; exact noMat_wire x W
set_option maxRecDepth 100000 in
set_option maxHeartbeats 3200000 in
theorem hush_right_any (f t : Int) (ob : Option Addr) (nb cb : Nat) (ms : List M3) (w : World) (h : Ms w ob nb cb ms) (hn : nb ≤ 3074457345618258602) :
    Calls Try.prog 62 #[.agg #[.int .i64 f, .int .i64 t, .slice ob nb cb]] w fun e w' => e = .returned (.bool (hushR f t ms)) ∧ Below w.heap.size w w' := by
  have hl := h.len
  have HR := Lib.hid (hushR_is f t ms)
  have HQ : Hid (matsB ms = (decide (nb ≤ 4) && !(ms.any fun m => !matB m))) := by show _ = _; unfold matsB; rw [hl]
  rw [hl] at HR
  have V0 := Vals.new w 27 #[.int .i64 f, .int .i64 t, .slice ob nb cb]
  have B0 := below_alloc w (.cells #[.int .i64 f, .int .i64 t, .slice ob nb cb] 27)
  have HM := contM_any 74 #[] _ ob nb cb ms _ (h.below B0 (Nat.le_refl _)) (by omega) (tells_noMatW _) enter_noMatW
  have HF := fun w => tick_right f w
  have HT := fun w => tick_right t w
  clear h hl
  go_enter Try.func62, Try.ntmps62
  go_upto_region 1 with fail
  generalize w.alloc (.cells #[.int .i64 f, .int .i64 t, .slice ob nb cb] 27) = w1 at *
  have c0 : w1.cell? ⟨w.heap.size, 0, none⟩ = some (.int .i64 f) := V0.cell 0
  have c1 : w1.cell? ⟨w.heap.size, 1, none⟩ = some (.int .i64 t) := V0.cell 1
  have c2 : w1.cell? ⟨w.heap.size, 2, none⟩ = some (.slice ob nb cb) := V0.cell 2
  generalize timeB f = a at *
  generalize timeB t = b at *
  generalize matsB ms = mm at *
  generalize (ms.any fun m => !matB m) = m at *
  cases a with
  | false =>
    clear HT HM
    go_wp2_with fail
    refine (HF _).mono ?_
    rintro e w2 ⟨rfl, rfl⟩
    go_wp2_with fail
    go_ret
    exact ⟨retB (by rw [HR.out]; simp), B0⟩
  | true =>
    cases b with
    | false =>
      clear HM
      go_wp2_with fail
      refine (HF _).mono ?_
      rintro e w2 ⟨rfl, rfl⟩
      go_wp2_with fail
      refine (HT _).mono ?_
      rintro e w2 ⟨rfl, rfl⟩
      go_wp2_with fail
      go_ret
      exact ⟨retB (by rw [HR.out]; simp), B0⟩
    | true =>
      by_cases hft : f < t
      · by_cases hnb : 1 ≤ nb
        · by_cases hn4 : nb ≤ 4
          · go_wp2_with fail
            refine (HF _).mono ?_
            rintro e w2 ⟨rfl, rfl⟩
            go_wp2_with fail
            refine (HT _).mono ?_
            rintro e w2 ⟨rfl, rfl⟩
            go_wp2_with fail
            refine HM.mono ?_
            rintro e w2 ⟨rfl, B2⟩
            go_wp2_with fail
            go_ret
            exact ⟨retB (by rw [HR.out, HQ.out, decide_eq_true hft, decide_eq_true hnb, decide_eq_true hn4]; simp), B0.trans (B2.mono B0.size)⟩
          · clear HM
            go_wp2_with fail
            refine (HF _).mono ?_
            rintro e w2 ⟨rfl, rfl⟩
            go_wp2_with fail
            refine (HT _).mono ?_
            rintro e w2 ⟨rfl, rfl⟩
            go_wp2_with fail
            go_ret
            exact ⟨retB (by rw [HR.out, HQ.out, show decide (nb ≤ 4) = false by simp; omega]; simp), B0⟩
        · clear HM
          go_wp2_with fail
          refine (HF _).mono ?_
          rintro e w2 ⟨rfl, rfl⟩
          go_wp2_with fail
          refine (HT _).mono ?_
          rintro e w2 ⟨rfl, rfl⟩
          go_wp2_with fail
          go_ret
          exact ⟨retB (by rw [HR.out, show decide (1 ≤ nb) = false by simp; omega]; simp), B0⟩
      · clear HM
        go_wp2_with fail
        refine (HF _).mono ?_
        rintro e w2 ⟨rfl, rfl⟩
        go_wp2_with fail
        refine (HT _).mono ?_
        rintro e w2 ⟨rfl, rfl⟩
        go_wp2_with fail
        go_ret
        exact ⟨retB (by rw [HR.out, show decide (f < t) = false by simp; omega]; simp), B0⟩
abbrev msgC (k : Int) (a : Value) (f t : Int) (b : Value) : Array Value := #[.int .i64 k, a, .int .i64 f, .int .i64 t, b]
set_option maxRecDepth 100000 in
set_option maxHeartbeats 3200000 in
theorem msg_hush (f t : Int) (ob : Option Addr) (nb cb : Nat) (ms : List M3) (w : World) (h : Ms w ob nb cb ms) (hnb : nb ≤ 3074457345618258602) :
    Calls Try.prog 48 #[.agg (msgC 2 (.slice none 0 0) f t (.slice ob nb cb))] w fun e w' => e = .returned (.bool (hushR f t ms)) ∧ Below w.heap.size w w' := by
  have V0 := Vals.new w 75 (msgC 2 (.slice none 0 0) f t (.slice ob nb cb))
  have B0 := below_alloc w (.cells (msgC 2 (.slice none 0 0) f t (.slice ob nb cb)) 75)
  have HH := hush_right_any f t ob nb cb ms _ (h.below B0 (Nat.le_refl _)) hnb
  generalize hushR f t ms = m at *
  clear h
  go_enter Try.func48, Try.ntmps48
  go_upto_region 1 with fail
  generalize w.alloc (.cells (msgC 2 (.slice none 0 0) f t (.slice ob nb cb)) 75) = w1 at *
  have c0 : w1.cell? ⟨w.heap.size, 0, none⟩ = some (.int .i64 2) := V0.cell 0
  have c1 : w1.cell? ⟨w.heap.size, 1, none⟩ = some (.slice none 0 0) := V0.cell 1
  have c2 : w1.cell? ⟨w.heap.size, 2, none⟩ = some (.int .i64 f) := V0.cell 2
  have c3 : w1.cell? ⟨w.heap.size, 3, none⟩ = some (.int .i64 t) := V0.cell 3
  have c4 : w1.cell? ⟨w.heap.size, 4, none⟩ = some (.slice ob nb cb) := V0.cell 4
  go_wp2_with fail
  refine HH.mono ?_
  rintro e w2 ⟨rfl, B2⟩
  go_wp2_with fail
  go_ret
  exact ⟨rfl, B0.trans (B2.mono B0.size)⟩
set_option maxRecDepth 100000 in
set_option maxHeartbeats 1600000 in
theorem isHush_any (f t : Int) (ob : Option Addr) (nb cb : Nat) (ms : List M3) (w : World) (h : Ms w ob nb cb ms) (hnb : nb ≤ 3074457345618258602) :
    Calls Try.prog 25 #[.agg #[.int .i64 f, .int .i64 t, .slice ob nb cb]] w fun e w' => e = .returned (.bool (hushR f t ms)) ∧ Below w.heap.size w w' := by
  have B0 := below_alloc w (.cells #[.int .i64 f, .int .i64 t, .slice ob nb cb] 27)
  have HH := msg_hush f t ob nb cb ms _ (h.below B0 (Nat.le_refl _)) hnb
  clear h
  generalize hushR f t ms = m at *
  go_enter Try.func25, Try.ntmps25
  go_wp2_with fail
  refine HH.mono ?_
  rintro e w2 ⟨rfl, B2⟩
  go_wp2_with fail
  go_ret
  exact ⟨rfl, B0.trans (B2.mono B0.size)⟩
set_option maxRecDepth 100000 in
set_option maxHeartbeats 800000 in
theorem noHush_any (f t : Int) (ob : Option Addr) (nb cb : Nat) (w : World) :
    Calls Try.prog 22 #[.agg #[.int .i64 f, .int .i64 t, .slice ob nb cb]] w fun e w' => e = .returned (.bool (decide (f = 0) && (decide (t = 0) && decide (nb = 0)))) ∧ Below w.heap.size w w' := by
  have V0 := Vals.new w 27 #[.int .i64 f, .int .i64 t, .slice ob nb cb]
  have B0 := below_alloc w (.cells #[.int .i64 f, .int .i64 t, .slice ob nb cb] 27)
  go_enter Try.func22, Try.ntmps22
  go_upto_region 1 with fail
  generalize w.alloc (.cells #[.int .i64 f, .int .i64 t, .slice ob nb cb] 27) = w1 at *
  have c0 : w1.cell? ⟨w.heap.size, 0, none⟩ = some (.int .i64 f) := V0.cell 0
  have c1 : w1.cell? ⟨w.heap.size, 1, none⟩ = some (.int .i64 t) := V0.cell 1
  have c2 : w1.cell? ⟨w.heap.size, 2, none⟩ = some (.slice ob nb cb) := V0.cell 2
  by_cases hf : f = 0
  · subst hf
    by_cases ht : t = 0
    · subst ht
      by_cases hn : nb = 0
      · subst hn
        go_wp2_with fail
        go_ret
        exact ⟨rfl, B0⟩
      · have h0 : ((nb : Int) == 0) = false := by simp; omega
        go_wp2_with fail
        go_ret
        exact ⟨retB (by simp), B0⟩
    · have h0 : (t == 0) = false := by simp [ht]
      go_wp2_with fail
      go_ret
      exact ⟨retB (by simp), B0⟩
  · have h0 : (f == 0) = false := by simp [hf]
    go_wp2_with fail
    go_ret
    exact ⟨retB (by simp [hf]), B0⟩
/-- is nothing of a duty there -/
def noDutyB (n : Nat) (d : D6) : Bool := decide (n = 0) && (decide (d.rt = 0) && (decide (d.pl = 0) && (decide (d.tr = 0) && (decide (d.du = 0) && decide (d.st = 0)))))
theorem noDutyB_is (d : D6) (n : Nat) (h : d.ls.length = n) : noDutyB n d = decide (d = zD) := by
  rw [Bool.eq_iff_iff]
  unfold noDutyB
  simp only [Bool.and_eq_true, decide_eq_true_eq]
  obtain ⟨ls, rt, pl, tr, du, st⟩ := d
  dsimp only at *
  constructor
  · rintro ⟨h1, h2, h3, h4, h5, h6⟩
    have : ls = [] := List.eq_nil_of_length_eq_zero (by omega)
    subst this h2 h3 h4 h5 h6
    rfl
  · intro e
    simp only [D6.mk.injEq] at e
    obtain ⟨e1, e2, e3, e4, e5, e6⟩ := e
    rw [e1] at h
    exact ⟨h.symm, e2, e3, e4, e5, e6⟩
set_option maxRecDepth 100000 in
set_option maxHeartbeats 1600000 in
theorem noDuty_any (oa : Option Addr) (n cap : Nat) (d : D6) (w : World) :
    Calls Try.prog 23 #[aggD oa n cap d] w fun e w' => e = .returned (.bool (noDutyB n d)) ∧ Below w.heap.size w w' := by
  obtain ⟨ls, rt, pl, tr, du, st⟩ := d
  have HD : Hid (noDutyB n ⟨ls, rt, pl, tr, du, st⟩ = (decide (n = 0) && (decide (rt = 0) && (decide (pl = 0) && (decide (tr = 0) && (decide (du = 0) && decide (st = 0))))))) := rfl
  obtain ⟨R, hR⟩ : ∃ R, Hid (noDutyB n ⟨ls, rt, pl, tr, du, st⟩ = R) := ⟨_, rfl⟩
  rw [hR.out] at HD
  rw [hR.out]
  clear hR
  dsimp only [aggD, dV]
  have V0 := Vals.new w 24 #[.slice oa n cap, .int .i64 rt, .int .i64 pl, .int .i64 tr, .int .i64 du, .int .i64 st]
  have B0 := below_alloc w (.cells #[.slice oa n cap, .int .i64 rt, .int .i64 pl, .int .i64 tr, .int .i64 du, .int .i64 st] 24)
  go_enter Try.func23, Try.ntmps23
  go_upto_region 1 with fail
  generalize w.alloc (.cells #[.slice oa n cap, .int .i64 rt, .int .i64 pl, .int .i64 tr, .int .i64 du, .int .i64 st] 24) = w1 at *
  have c0 : w1.cell? ⟨w.heap.size, 0, none⟩ = some (.slice oa n cap) := V0.cell 0
  have c1 : w1.cell? ⟨w.heap.size, 1, none⟩ = some (.int .i64 rt) := V0.cell 1
  have c2 : w1.cell? ⟨w.heap.size, 2, none⟩ = some (.int .i64 pl) := V0.cell 2
  have c3 : w1.cell? ⟨w.heap.size, 3, none⟩ = some (.int .i64 tr) := V0.cell 3
  have c4 : w1.cell? ⟨w.heap.size, 4, none⟩ = some (.int .i64 du) := V0.cell 4
  have c5 : w1.cell? ⟨w.heap.size, 5, none⟩ = some (.int .i64 st) := V0.cell 5
  by_cases hn : n = 0
  · subst hn
    by_cases h1 : rt = 0
    · subst h1
      by_cases h2 : pl = 0
      · subst h2
        by_cases h3 : tr = 0
        · subst h3
          by_cases h4 : du = 0
          · subst h4
            by_cases h5 : st = 0
            · subst h5
              go_wp2_with fail
              go_ret
              exact ⟨retB (by rw [HD.out]; rfl), B0⟩
            · have h0 : (st == 0) = false := by simp [h5]
              go_wp2_with fail
              go_ret
              exact ⟨retB (by rw [HD.out]; simp [h5]), B0⟩
          · have h0 : (du == 0) = false := by simp [h4]
            go_wp2_with fail
            go_ret
            exact ⟨retB (by rw [HD.out]; simp [h4]), B0⟩
        · have h0 : (tr == 0) = false := by simp [h3]
          go_wp2_with fail
          go_ret
          exact ⟨retB (by rw [HD.out]; simp [h3]), B0⟩
      · have h0 : (pl == 0) = false := by simp [h2]
        go_wp2_with fail
        go_ret
        exact ⟨retB (by rw [HD.out]; simp [h2]), B0⟩
    · have h0 : (rt == 0) = false := by simp [h1]
      go_wp2_with fail
      go_ret
      exact ⟨retB (by rw [HD.out]; simp [h1]), B0⟩
  · have h0 : ((n : Int) == 0) = false := by simp; omega
    go_wp2_with fail
    go_ret
    exact ⟨retB (by rw [HD.out]; simp [hn]), B0⟩
set_option maxRecDepth 100000 in
set_option maxHeartbeats 400000 in
theorem below_any (n k : Int) (w : World) :
    Calls Try.prog 44 #[.int .i64 n, .int .i64 k] w fun e w' => e = .returned (.bool (decide (0 ≤ n) && decide (n < k))) ∧ w' = w := by
  go_enter Try.func44, Try.ntmps44
  by_cases h0 : 0 ≤ n
  · go_wp2_with fail
    go_ret
    exact ⟨retB (by simp [h0]), rfl⟩
  · go_wp2_with fail
    go_ret
    exact ⟨retB (by rw [show decide (0 ≤ n) = false by simp; omega]; simp), rfl⟩
theorem dutyB_is (d : D6) : dutyB d = (rightB d.ls && ((decide (0 ≤ d.rt) && decide (d.rt < 4)) && ((decide (0 ≤ d.pl) && decide (d.pl < 4)) && ((decide (0 ≤ d.tr) && decide (d.tr < 100)) && (timeB d.du && (decide (1 ≤ d.st) && decide (d.st ≤ 3))))))) := by
  rw [Bool.eq_iff_iff, dutyB_iff]
  simp only [Bool.and_eq_true, decide_eq_true_eq]
  constructor
  · rintro ⟨a1, a2, a3, a4, a5, a6, a7, a8, a9, a10⟩
    exact ⟨a1, ⟨a2, by omega⟩, ⟨a4, by omega⟩, ⟨a6, by omega⟩, a8, a9, a10⟩
  · rintro ⟨a1, ⟨a2, a3⟩, ⟨a4, a5⟩, ⟨a6, a7⟩, a8, a9, a10⟩
    exact ⟨a1, a2, by omega, a4, by omega, a6, by omega, a8, a9, a10⟩
set_option maxRecDepth 100000 in
set_option maxHeartbeats 3200000 in
theorem isDuty_any (oa : Option Addr) (n cap : Nat) (d : D6) (w : World) (h : Ls w oa n cap d.ls) (hn : n ≤ 4611686018427387904) :
    Calls Try.prog 21 #[aggD oa n cap d] w fun e w' => e = .returned (.bool (dutyB d)) ∧ Below w.heap.size w w' := by
  have HD := Lib.hid (dutyB_is d)
  obtain ⟨R, hR⟩ : ∃ R, Hid (dutyB d = R) := ⟨_, rfl⟩
  rw [hR.out] at HD
  rw [hR.out]
  clear hR
  obtain ⟨l, rt, pl, tr, du, st⟩ := d
  dsimp only [aggD, dV] at *
  have V0 := Vals.new w 24 #[.slice oa n cap, .int .i64 rt, .int .i64 pl, .int .i64 tr, .int .i64 du, .int .i64 st]
  have B0 := below_alloc w (.cells #[.slice oa n cap, .int .i64 rt, .int .i64 pl, .int .i64 tr, .int .i64 du, .int .i64 st] 24)
  have HL := right_any oa n cap l _ (h.below B0 (Nat.le_refl _)) hn
  have H1 := fun w => below_any rt 4 w
  have H2 := fun w => below_any pl 4 w
  have H3 := fun w => below_any tr 100 w
  have H4 := fun w => tick_right du w
  generalize rightB l = a at *
  generalize (decide (0 ≤ rt) && decide (rt < 4)) = b1 at *
  generalize (decide (0 ≤ pl) && decide (pl < 4)) = b2 at *
  generalize (decide (0 ≤ tr) && decide (tr < 100)) = b3 at *
  generalize timeB du = b4 at *
  clear h
  go_enter Try.func21, Try.ntmps21
  go_upto_region 1 with fail
  generalize w.alloc (.cells #[.slice oa n cap, .int .i64 rt, .int .i64 pl, .int .i64 tr, .int .i64 du, .int .i64 st] 24) = w1 at *
  have c0 : w1.cell? ⟨w.heap.size, 0, none⟩ = some (.slice oa n cap) := V0.cell 0
  go_wp2_with fail
  refine HL.mono ?_
  rintro e w2 ⟨rfl, B2⟩
  have V2 := V0.keep B2 (Nat.le_refl _)
  have B3 := B0.trans (B2.mono B0.size)
  clear V0 B0 HL c0 B2
  have c1 : w2.cell? ⟨w.heap.size, 1, none⟩ = some (.int .i64 rt) := V2.cell 1
  have c2 : w2.cell? ⟨w.heap.size, 2, none⟩ = some (.int .i64 pl) := V2.cell 2
  have c3 : w2.cell? ⟨w.heap.size, 3, none⟩ = some (.int .i64 tr) := V2.cell 3
  have c4 : w2.cell? ⟨w.heap.size, 4, none⟩ = some (.int .i64 du) := V2.cell 4
  have c5 : w2.cell? ⟨w.heap.size, 5, none⟩ = some (.int .i64 st) := V2.cell 5
  cases a with
  | false =>
    go_wp2_with fail
    go_ret
    exact ⟨retB (by rw [HD.out]; rfl), B3⟩
  | true =>
    go_wp2_with fail
    refine (H1 _).mono ?_
    rintro e w3 ⟨rfl, rfl⟩
    cases b1 with
    | false =>
      go_wp2_with fail
      go_ret
      exact ⟨retB (by rw [HD.out]; rfl), B3⟩
    | true =>
      go_wp2_with fail
      refine (H2 _).mono ?_
      rintro e w4 ⟨rfl, rfl⟩
      cases b2 with
      | false =>
        go_wp2_with fail
        go_ret
        exact ⟨retB (by rw [HD.out]; rfl), B3⟩
      | true =>
        go_wp2_with fail
        refine (H3 _).mono ?_
        rintro e w5 ⟨rfl, rfl⟩
        cases b3 with
        | false =>
          go_wp2_with fail
          go_ret
          exact ⟨retB (by rw [HD.out]; rfl), B3⟩
        | true =>
          go_wp2_with fail
          refine (H4 _).mono ?_
          rintro e w6 ⟨rfl, rfl⟩
          cases b4 with
          | false =>
            go_wp2_with fail
            go_ret
            exact ⟨retB (by rw [HD.out]; rfl), B3⟩
          | true =>
            by_cases h5 : 1 ≤ st
            · go_wp2_with fail
              go_ret
              exact ⟨retB (by rw [HD.out]; simp [h5]), B3⟩
            · go_wp2_with fail
              go_ret
              exact ⟨retB (by rw [HD.out, show decide (1 ≤ st) = false by simp; omega]; simp), B3⟩
end Go.Proofs.Ytopjiokbmpghjaa
