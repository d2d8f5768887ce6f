/-
  The program's own: which receivers may be (package config).
-/
import Derived.Test.YtaiacohnhhicpaaNewX
import Derived.Test.YtaiacohnhhicpaaLabN
import Derived.Test.YtaiacohnhhicpaaCfgP
namespace Go.Proofs.Ytaiacohnhhicpaa
open Go.RowKit Go.Shelf
set_option linter.unusedVariables false

def inC (n a b : Int) : Bool := decide (a ≤ n) && decide (n ≤ b)
theorem within_c (n a b : Int) (w : World) :
    Calls Try.prog 67 #[.int .i64 n, .int .i64 a, .int .i64 b] w fun e w' => e = .returned (.bool (inC n a b)) ∧ w = w' := by
  by_cases h1 : a ≤ n
  · by_cases h2 : n ≤ b
    · go_enter Try.func67, Try.ntmps67
      go_wp2
      go_ret
      exact ⟨retB (by unfold inC; rw [decide_eq_true h1, decide_eq_true h2]; rfl), rfl⟩
    · go_enter Try.func67, Try.ntmps67
      go_wp2
      go_ret
      exact ⟨retB (by unfold inC; rw [eq_comm, Bool.and_eq_false_iff]; right; exact decide_eq_false (by omega)), rfl⟩
  · go_enter Try.func67, Try.ntmps67
    go_wp2
    go_ret
    exact ⟨retB (by unfold inC; rw [eq_comm, Bool.and_eq_false_iff]; left; exact decide_eq_false (by omega)), rfl⟩
theorem within_ci (n a b : Int) (r : Bool) (w : World) (h : r = inC n a b) :
    Calls Try.prog 67 #[.int .i64 n, .int .i64 a, .int .i64 b] w fun e w' => e = .returned (.bool r) ∧ w = w' := by subst h; exact within_c n a b w
theorem wait_c (n : Int) (w : World) :
    Calls Try.prog 57 #[.int .i64 n] w fun e w' => e = .returned (.bool (oftenB n)) ∧ w = w' := by
  have H : Hid (oftenB n = inC n 1 1073741824) := rfl
  obtain ⟨r, hr⟩ : ∃ r, r = inC n 1 1073741824 := ⟨_, rfl⟩
  have HR := Lib.hid hr
  rw [← hr] at H
  clear hr
  go_enter Try.func57, Try.ntmps57
  go_wp2_with fail
  refine (within_ci _ _ _ r _ HR.out).mono ?_
  rintro e w' ⟨rfl, rfl⟩
  go_wp2_with fail
  go_ret
  exact ⟨retB H.out.symm, rfl⟩
theorem matB_has (s : ByteArray) : matB (3, s, ⟨#[]⟩) = nameB s := by
  rw [matB_three]
  have : (({ data := #[] } : ByteArray).toList == ([] : List UInt8)) = true := by rw [ByteArray.toList_eq]; rfl
  rw [this, Bool.and_true]
set_option maxRecDepth 100000 in
set_option maxHeartbeats 1600000 in
theorem name_c (s : ByteArray) (w : World) :
    Calls Try.prog 77 #[.string s] w fun e w' => e = .returned (.bool (nameB s && !decide (s = tx ifT))) ∧ Below w.heap.size w w' := by
  have hI := if_text s
  have HM := fun w => mat_any (3, s, ⟨#[]⟩) w
  dsimp only [aggM] at HM
  rw [matB_has] at HM
  have HN : Hid ((nameB s && !decide (s = tx ifT)) = (!decide (s = tx ifT) && nameB s)) := by show _ = _; rw [Bool.and_comm]
  generalize decide (s = tx ifT) = x at *
  generalize nameB s = y at *
  cases x with
  | true =>
    have hI2 : (s.toList != [105, 102]) = false := by simp [bne, hI]
    go_enter Try.func77, Try.ntmps77
    go_wp2_with fail
    go_ret
    exact ⟨retB (by rw [HN.out]; rfl), Below.refl _ _⟩
  | false =>
    have hI2 : (s.toList != [105, 102]) = true := by simp [bne, hI]
    go_enter Try.func77, Try.ntmps77
    go_wp2_with fail
    refine (HM _).mono ?_
    rintro e w' ⟨rfl, B⟩
    go_wp2_with fail
    go_ret
    exact ⟨retB (by rw [HN.out]; rfl), B⟩
set_option maxRecDepth 100000 in
set_option maxHeartbeats 1600000 in
theorem brk_c (s : ByteArray) (ba tp ji tr fa op bu ev : Int) (w : World) :
    Calls Try.prog 78 #[.agg #[.string s, .int .i64 ba, .int .i64 tp, .int .i64 ji, .int .i64 tr, .int .i64 fa, .int .i64 op, .int .i64 bu, .int .i64 ev]] w fun e w' => e = .returned (.bool (brkB fa op)) ∧ Below w.heap.size w w' := by
  have V0 := Vals.new w 47 #[.string s, .int .i64 ba, .int .i64 tp, .int .i64 ji, .int .i64 tr, .int .i64 fa, .int .i64 op, .int .i64 bu, .int .i64 ev]
  have B0 := below_alloc w (.cells #[.string s, .int .i64 ba, .int .i64 tp, .int .i64 ji, .int .i64 tr, .int .i64 fa, .int .i64 op, .int .i64 bu, .int .i64 ev] 47)
  have HN := fun w => Brk.new_any fa op w
  obtain ⟨b, hb⟩ : ∃ b, b = brkB fa op := ⟨_, rfl⟩
  rw [← hb] at HN ⊢
  clear hb
  go_enter Try.func78, Try.ntmps78
  go_upto_region 1 with fail
  generalize w.alloc (.cells #[.string s, .int .i64 ba, .int .i64 tp, .int .i64 ji, .int .i64 tr, .int .i64 fa, .int .i64 op, .int .i64 bu, .int .i64 ev] 47) = w1 at *
  have c0 : w1.cell? ⟨w.heap.size, 0, none⟩ = some (.string s) := V0.cell 0
  have c1 : w1.cell? ⟨w.heap.size, 1, none⟩ = some (.int .i64 ba) := V0.cell 1
  have c2 : w1.cell? ⟨w.heap.size, 2, none⟩ = some (.int .i64 tp) := V0.cell 2
  have c3 : w1.cell? ⟨w.heap.size, 3, none⟩ = some (.int .i64 ji) := V0.cell 3
  have c4 : w1.cell? ⟨w.heap.size, 4, none⟩ = some (.int .i64 tr) := V0.cell 4
  have c5 : w1.cell? ⟨w.heap.size, 5, none⟩ = some (.int .i64 fa) := V0.cell 5
  have c6 : w1.cell? ⟨w.heap.size, 6, none⟩ = some (.int .i64 op) := V0.cell 6
  have c7 : w1.cell? ⟨w.heap.size, 7, none⟩ = some (.int .i64 bu) := V0.cell 7
  have c8 : w1.cell? ⟨w.heap.size, 8, none⟩ = some (.int .i64 ev) := V0.cell 8
  go_wp2_with fail
  refine (HN _).mono ?_
  rintro e w2 ⟨⟨y0, y1, y2, y3, y4, rfl⟩, B2⟩
  have B3 := (B0.trans (B2.mono B0.size))
  have B4 := B3.alloc B3.size (.cells #[.int .i64 y0, .int .i64 y1, .int .i64 y2, .int .i64 y3, .int .i64 y4] 118)
  cases b with
  | true =>
    go_wp2_with fail
    go_ret
    exact ⟨rfl, B4⟩
  | false =>
    go_wp2_with fail
    go_ret
    exact ⟨rfl, B4⟩
set_option maxRecDepth 100000 in
set_option maxHeartbeats 1600000 in
theorem bkt_c (s : ByteArray) (ba tp ji tr fa op bu ev : Int) (w : World) :
    Calls Try.prog 79 #[.agg #[.string s, .int .i64 ba, .int .i64 tp, .int .i64 ji, .int .i64 tr, .int .i64 fa, .int .i64 op, .int .i64 bu, .int .i64 ev]] w fun e w' => e = .returned (.bool (brkB bu ev)) ∧ Below w.heap.size w w' := by
  have V0 := Vals.new w 47 #[.string s, .int .i64 ba, .int .i64 tp, .int .i64 ji, .int .i64 tr, .int .i64 fa, .int .i64 op, .int .i64 bu, .int .i64 ev]
  have B0 := below_alloc w (.cells #[.string s, .int .i64 ba, .int .i64 tp, .int .i64 ji, .int .i64 tr, .int .i64 fa, .int .i64 op, .int .i64 bu, .int .i64 ev] 47)
  have HN := fun w => Bkt.new_any bu ev w
  obtain ⟨b, hb⟩ : ∃ b, b = brkB bu ev := ⟨_, rfl⟩
  rw [← hb] at HN ⊢
  clear hb
  go_enter Try.func79, Try.ntmps79
  go_upto_region 1 with fail
  generalize w.alloc (.cells #[.string s, .int .i64 ba, .int .i64 tp, .int .i64 ji, .int .i64 tr, .int .i64 fa, .int .i64 op, .int .i64 bu, .int .i64 ev] 47) = w1 at *
  have c0 : w1.cell? ⟨w.heap.size, 0, none⟩ = some (.string s) := V0.cell 0
  have c1 : w1.cell? ⟨w.heap.size, 1, none⟩ = some (.int .i64 ba) := V0.cell 1
  have c2 : w1.cell? ⟨w.heap.size, 2, none⟩ = some (.int .i64 tp) := V0.cell 2
  have c3 : w1.cell? ⟨w.heap.size, 3, none⟩ = some (.int .i64 ji) := V0.cell 3
  have c4 : w1.cell? ⟨w.heap.size, 4, none⟩ = some (.int .i64 tr) := V0.cell 4
  have c5 : w1.cell? ⟨w.heap.size, 5, none⟩ = some (.int .i64 fa) := V0.cell 5
  have c6 : w1.cell? ⟨w.heap.size, 6, none⟩ = some (.int .i64 op) := V0.cell 6
  have c7 : w1.cell? ⟨w.heap.size, 7, none⟩ = some (.int .i64 bu) := V0.cell 7
  have c8 : w1.cell? ⟨w.heap.size, 8, none⟩ = some (.int .i64 ev) := V0.cell 8
  go_wp2_with fail
  refine (HN _).mono ?_
  rintro e w2 ⟨⟨y0, y1, y2, y3, rfl⟩, B2⟩
  have B3 := (B0.trans (B2.mono B0.size))
  have B4 := B3.alloc B3.size (.cells #[.int .i64 y0, .int .i64 y1, .int .i64 y2, .int .i64 y3] 122)
  cases b with
  | true =>
    go_wp2_with fail
    go_ret
    exact ⟨rfl, B4⟩
  | false =>
    go_wp2_with fail
    go_ret
    exact ⟨rfl, B4⟩
set_option maxRecDepth 100000 in
set_option maxHeartbeats 3200000 in
theorem rcv_c (r : R9) (w : World) :
    Calls Try.prog 68 #[aggR r] w fun e w' => e = .returned (.bool (rcvR r)) ∧ Below w.heap.size w w' := by
  obtain ⟨s, ba, tp, ji, tr, fa, op, bu, ev⟩ := r
  dsimp only [aggR]
  have HN := fun w => name_c s w
  have HK := fun w => Bck.right_is ba tp ji w
  have HT := fun w => within_ci tr 1 100 _ w rfl
  have HF := fun w => brk_c s ba tp ji tr fa op bu ev w
  have HU := fun w => bkt_c s ba tp ji tr fa op bu ev w
  have HR : Hid (rcvR ⟨s, ba, tp, ji, tr, fa, op, bu, ev⟩ = ((nameB s && !decide (s = tx ifT)) && (backB ba tp ji && (inC tr 1 100 && (brkB fa op && brkB bu ev))))) := by
    show (nameB s && (!decide (s = tx ifT) && (backB ba tp ji && (triB tr && (brkB fa op && brkB bu ev))))) = _
    rw [← Bool.and_assoc]
    rfl
  generalize (nameB s && !decide (s = tx ifT)) = x1 at *
  generalize backB ba tp ji = x2 at *
  generalize inC tr 1 100 = x3 at *
  generalize brkB fa op = x4 at *
  generalize brkB bu ev = x5 at *
  have V0 := Vals.new w 47 #[.string s, .int .i64 ba, .int .i64 tp, .int .i64 ji, .int .i64 tr, .int .i64 fa, .int .i64 op, .int .i64 bu, .int .i64 ev]
  have B0 := below_alloc w (.cells #[.string s, .int .i64 ba, .int .i64 tp, .int .i64 ji, .int .i64 tr, .int .i64 fa, .int .i64 op, .int .i64 bu, .int .i64 ev] 47)
  go_enter Try.func68, Try.ntmps68
  go_upto_region 1 with fail
  generalize w.alloc (.cells #[.string s, .int .i64 ba, .int .i64 tp, .int .i64 ji, .int .i64 tr, .int .i64 fa, .int .i64 op, .int .i64 bu, .int .i64 ev] 47) = w1 at *
  have c0 : w1.cell? ⟨w.heap.size, 0, none⟩ = some (.string s) := V0.cell 0
  have c1 : w1.cell? ⟨w.heap.size, 1, none⟩ = some (.int .i64 ba) := V0.cell 1
  have c2 : w1.cell? ⟨w.heap.size, 2, none⟩ = some (.int .i64 tp) := V0.cell 2
  have c3 : w1.cell? ⟨w.heap.size, 3, none⟩ = some (.int .i64 ji) := V0.cell 3
  have c4 : w1.cell? ⟨w.heap.size, 4, none⟩ = some (.int .i64 tr) := V0.cell 4
  have c5 : w1.cell? ⟨w.heap.size, 5, none⟩ = some (.int .i64 fa) := V0.cell 5
  have c6 : w1.cell? ⟨w.heap.size, 6, none⟩ = some (.int .i64 op) := V0.cell 6
  have c7 : w1.cell? ⟨w.heap.size, 7, none⟩ = some (.int .i64 bu) := V0.cell 7
  have c8 : w1.cell? ⟨w.heap.size, 8, none⟩ = some (.int .i64 ev) := V0.cell 8
  cases x1 with
  | false =>
    go_wp2_with fail
    refine (HN _).mono ?_
    rintro e w2 ⟨rfl, B1⟩
    have V1 := V0.keep B1 (Nat.le_refl _)
    have C1 := B0.trans (B1.mono B0.size)
    clear c0 c1 c2 c3 c4 c5 c6 c7 c8
    have d1_0 : w2.cell? ⟨w.heap.size, 0, none⟩ = some (.string s) := V1.cell 0
    have d1_1 : w2.cell? ⟨w.heap.size, 1, none⟩ = some (.int .i64 ba) := V1.cell 1
    have d1_2 : w2.cell? ⟨w.heap.size, 2, none⟩ = some (.int .i64 tp) := V1.cell 2
    have d1_3 : w2.cell? ⟨w.heap.size, 3, none⟩ = some (.int .i64 ji) := V1.cell 3
    have d1_4 : w2.cell? ⟨w.heap.size, 4, none⟩ = some (.int .i64 tr) := V1.cell 4
    have d1_5 : w2.cell? ⟨w.heap.size, 5, none⟩ = some (.int .i64 fa) := V1.cell 5
    have d1_6 : w2.cell? ⟨w.heap.size, 6, none⟩ = some (.int .i64 op) := V1.cell 6
    have d1_7 : w2.cell? ⟨w.heap.size, 7, none⟩ = some (.int .i64 bu) := V1.cell 7
    have d1_8 : w2.cell? ⟨w.heap.size, 8, none⟩ = some (.int .i64 ev) := V1.cell 8
    go_wp2_with fail
    go_ret
    exact ⟨retB (by rw [HR.out]; rfl), C1⟩
  | true =>
    cases x2 with
    | false =>
      go_wp2_with fail
      refine (HN _).mono ?_
      rintro e w2 ⟨rfl, B1⟩
      have V1 := V0.keep B1 (Nat.le_refl _)
      have C1 := B0.trans (B1.mono B0.size)
      clear c0 c1 c2 c3 c4 c5 c6 c7 c8
      have d1_0 : w2.cell? ⟨w.heap.size, 0, none⟩ = some (.string s) := V1.cell 0
      have d1_1 : w2.cell? ⟨w.heap.size, 1, none⟩ = some (.int .i64 ba) := V1.cell 1
      have d1_2 : w2.cell? ⟨w.heap.size, 2, none⟩ = some (.int .i64 tp) := V1.cell 2
      have d1_3 : w2.cell? ⟨w.heap.size, 3, none⟩ = some (.int .i64 ji) := V1.cell 3
      have d1_4 : w2.cell? ⟨w.heap.size, 4, none⟩ = some (.int .i64 tr) := V1.cell 4
      have d1_5 : w2.cell? ⟨w.heap.size, 5, none⟩ = some (.int .i64 fa) := V1.cell 5
      have d1_6 : w2.cell? ⟨w.heap.size, 6, none⟩ = some (.int .i64 op) := V1.cell 6
      have d1_7 : w2.cell? ⟨w.heap.size, 7, none⟩ = some (.int .i64 bu) := V1.cell 7
      have d1_8 : w2.cell? ⟨w.heap.size, 8, none⟩ = some (.int .i64 ev) := V1.cell 8
      go_wp2_with fail
      refine (HK _).mono ?_
      rintro e w3 ⟨rfl, B2⟩
      have V2 := V1.keep B2 (Nat.le_refl _)
      have C2 := C1.trans (B2.mono C1.size)
      clear d1_0 d1_1 d1_2 d1_3 d1_4 d1_5 d1_6 d1_7 d1_8
      have d2_0 : w3.cell? ⟨w.heap.size, 0, none⟩ = some (.string s) := V2.cell 0
      have d2_1 : w3.cell? ⟨w.heap.size, 1, none⟩ = some (.int .i64 ba) := V2.cell 1
      have d2_2 : w3.cell? ⟨w.heap.size, 2, none⟩ = some (.int .i64 tp) := V2.cell 2
      have d2_3 : w3.cell? ⟨w.heap.size, 3, none⟩ = some (.int .i64 ji) := V2.cell 3
      have d2_4 : w3.cell? ⟨w.heap.size, 4, none⟩ = some (.int .i64 tr) := V2.cell 4
      have d2_5 : w3.cell? ⟨w.heap.size, 5, none⟩ = some (.int .i64 fa) := V2.cell 5
      have d2_6 : w3.cell? ⟨w.heap.size, 6, none⟩ = some (.int .i64 op) := V2.cell 6
      have d2_7 : w3.cell? ⟨w.heap.size, 7, none⟩ = some (.int .i64 bu) := V2.cell 7
      have d2_8 : w3.cell? ⟨w.heap.size, 8, none⟩ = some (.int .i64 ev) := V2.cell 8
      go_wp2_with fail
      go_ret
      exact ⟨retB (by rw [HR.out]; rfl), C2⟩
    | true =>
      cases x3 with
      | false =>
        go_wp2_with fail
        refine (HN _).mono ?_
        rintro e w2 ⟨rfl, B1⟩
        have V1 := V0.keep B1 (Nat.le_refl _)
        have C1 := B0.trans (B1.mono B0.size)
        clear c0 c1 c2 c3 c4 c5 c6 c7 c8
        have d1_0 : w2.cell? ⟨w.heap.size, 0, none⟩ = some (.string s) := V1.cell 0
        have d1_1 : w2.cell? ⟨w.heap.size, 1, none⟩ = some (.int .i64 ba) := V1.cell 1
        have d1_2 : w2.cell? ⟨w.heap.size, 2, none⟩ = some (.int .i64 tp) := V1.cell 2
        have d1_3 : w2.cell? ⟨w.heap.size, 3, none⟩ = some (.int .i64 ji) := V1.cell 3
        have d1_4 : w2.cell? ⟨w.heap.size, 4, none⟩ = some (.int .i64 tr) := V1.cell 4
        have d1_5 : w2.cell? ⟨w.heap.size, 5, none⟩ = some (.int .i64 fa) := V1.cell 5
        have d1_6 : w2.cell? ⟨w.heap.size, 6, none⟩ = some (.int .i64 op) := V1.cell 6
        have d1_7 : w2.cell? ⟨w.heap.size, 7, none⟩ = some (.int .i64 bu) := V1.cell 7
        have d1_8 : w2.cell? ⟨w.heap.size, 8, none⟩ = some (.int .i64 ev) := V1.cell 8
        go_wp2_with fail
        refine (HK _).mono ?_
        rintro e w3 ⟨rfl, B2⟩
        have V2 := V1.keep B2 (Nat.le_refl _)
        have C2 := C1.trans (B2.mono C1.size)
        clear d1_0 d1_1 d1_2 d1_3 d1_4 d1_5 d1_6 d1_7 d1_8
        have d2_0 : w3.cell? ⟨w.heap.size, 0, none⟩ = some (.string s) := V2.cell 0
        have d2_1 : w3.cell? ⟨w.heap.size, 1, none⟩ = some (.int .i64 ba) := V2.cell 1
        have d2_2 : w3.cell? ⟨w.heap.size, 2, none⟩ = some (.int .i64 tp) := V2.cell 2
        have d2_3 : w3.cell? ⟨w.heap.size, 3, none⟩ = some (.int .i64 ji) := V2.cell 3
        have d2_4 : w3.cell? ⟨w.heap.size, 4, none⟩ = some (.int .i64 tr) := V2.cell 4
        have d2_5 : w3.cell? ⟨w.heap.size, 5, none⟩ = some (.int .i64 fa) := V2.cell 5
        have d2_6 : w3.cell? ⟨w.heap.size, 6, none⟩ = some (.int .i64 op) := V2.cell 6
        have d2_7 : w3.cell? ⟨w.heap.size, 7, none⟩ = some (.int .i64 bu) := V2.cell 7
        have d2_8 : w3.cell? ⟨w.heap.size, 8, none⟩ = some (.int .i64 ev) := V2.cell 8
        go_wp2_with fail
        refine (HT _).mono ?_
        rintro e wt ⟨rfl, rfl⟩
        go_wp2_with fail
        go_ret
        exact ⟨retB (by rw [HR.out]; rfl), C2⟩
      | true =>
        cases x4 with
        | false =>
          go_wp2_with fail
          refine (HN _).mono ?_
          rintro e w2 ⟨rfl, B1⟩
          have V1 := V0.keep B1 (Nat.le_refl _)
          have C1 := B0.trans (B1.mono B0.size)
          clear c0 c1 c2 c3 c4 c5 c6 c7 c8
          have d1_0 : w2.cell? ⟨w.heap.size, 0, none⟩ = some (.string s) := V1.cell 0
          have d1_1 : w2.cell? ⟨w.heap.size, 1, none⟩ = some (.int .i64 ba) := V1.cell 1
          have d1_2 : w2.cell? ⟨w.heap.size, 2, none⟩ = some (.int .i64 tp) := V1.cell 2
          have d1_3 : w2.cell? ⟨w.heap.size, 3, none⟩ = some (.int .i64 ji) := V1.cell 3
          have d1_4 : w2.cell? ⟨w.heap.size, 4, none⟩ = some (.int .i64 tr) := V1.cell 4
          have d1_5 : w2.cell? ⟨w.heap.size, 5, none⟩ = some (.int .i64 fa) := V1.cell 5
          have d1_6 : w2.cell? ⟨w.heap.size, 6, none⟩ = some (.int .i64 op) := V1.cell 6
          have d1_7 : w2.cell? ⟨w.heap.size, 7, none⟩ = some (.int .i64 bu) := V1.cell 7
          have d1_8 : w2.cell? ⟨w.heap.size, 8, none⟩ = some (.int .i64 ev) := V1.cell 8
          go_wp2_with fail
          refine (HK _).mono ?_
          rintro e w3 ⟨rfl, B2⟩
          have V2 := V1.keep B2 (Nat.le_refl _)
          have C2 := C1.trans (B2.mono C1.size)
          clear d1_0 d1_1 d1_2 d1_3 d1_4 d1_5 d1_6 d1_7 d1_8
          have d2_0 : w3.cell? ⟨w.heap.size, 0, none⟩ = some (.string s) := V2.cell 0
          have d2_1 : w3.cell? ⟨w.heap.size, 1, none⟩ = some (.int .i64 ba) := V2.cell 1
          have d2_2 : w3.cell? ⟨w.heap.size, 2, none⟩ = some (.int .i64 tp) := V2.cell 2
          have d2_3 : w3.cell? ⟨w.heap.size, 3, none⟩ = some (.int .i64 ji) := V2.cell 3
          have d2_4 : w3.cell? ⟨w.heap.size, 4, none⟩ = some (.int .i64 tr) := V2.cell 4
          have d2_5 : w3.cell? ⟨w.heap.size, 5, none⟩ = some (.int .i64 fa) := V2.cell 5
          have d2_6 : w3.cell? ⟨w.heap.size, 6, none⟩ = some (.int .i64 op) := V2.cell 6
          have d2_7 : w3.cell? ⟨w.heap.size, 7, none⟩ = some (.int .i64 bu) := V2.cell 7
          have d2_8 : w3.cell? ⟨w.heap.size, 8, none⟩ = some (.int .i64 ev) := V2.cell 8
          go_wp2_with fail
          refine (HT _).mono ?_
          rintro e wt ⟨rfl, rfl⟩
          go_wp2_with fail
          refine (HF _).mono ?_
          rintro e w5 ⟨rfl, B4⟩
          have V4 := V2.keep B4 (Nat.le_refl _)
          have C4 := C2.trans (B4.mono C2.size)
          clear d2_0 d2_1 d2_2 d2_3 d2_4 d2_5 d2_6 d2_7 d2_8
          have d4_0 : w5.cell? ⟨w.heap.size, 0, none⟩ = some (.string s) := V4.cell 0
          have d4_1 : w5.cell? ⟨w.heap.size, 1, none⟩ = some (.int .i64 ba) := V4.cell 1
          have d4_2 : w5.cell? ⟨w.heap.size, 2, none⟩ = some (.int .i64 tp) := V4.cell 2
          have d4_3 : w5.cell? ⟨w.heap.size, 3, none⟩ = some (.int .i64 ji) := V4.cell 3
          have d4_4 : w5.cell? ⟨w.heap.size, 4, none⟩ = some (.int .i64 tr) := V4.cell 4
          have d4_5 : w5.cell? ⟨w.heap.size, 5, none⟩ = some (.int .i64 fa) := V4.cell 5
          have d4_6 : w5.cell? ⟨w.heap.size, 6, none⟩ = some (.int .i64 op) := V4.cell 6
          have d4_7 : w5.cell? ⟨w.heap.size, 7, none⟩ = some (.int .i64 bu) := V4.cell 7
          have d4_8 : w5.cell? ⟨w.heap.size, 8, none⟩ = some (.int .i64 ev) := V4.cell 8
          go_wp2_with fail
          go_ret
          exact ⟨retB (by rw [HR.out]; rfl), C4⟩
        | true =>
          cases x5 with
          | false =>
            go_wp2_with fail
            refine (HN _).mono ?_
            rintro e w2 ⟨rfl, B1⟩
            have V1 := V0.keep B1 (Nat.le_refl _)
            have C1 := B0.trans (B1.mono B0.size)
            clear c0 c1 c2 c3 c4 c5 c6 c7 c8
            have d1_0 : w2.cell? ⟨w.heap.size, 0, none⟩ = some (.string s) := V1.cell 0
            have d1_1 : w2.cell? ⟨w.heap.size, 1, none⟩ = some (.int .i64 ba) := V1.cell 1
            have d1_2 : w2.cell? ⟨w.heap.size, 2, none⟩ = some (.int .i64 tp) := V1.cell 2
            have d1_3 : w2.cell? ⟨w.heap.size, 3, none⟩ = some (.int .i64 ji) := V1.cell 3
            have d1_4 : w2.cell? ⟨w.heap.size, 4, none⟩ = some (.int .i64 tr) := V1.cell 4
            have d1_5 : w2.cell? ⟨w.heap.size, 5, none⟩ = some (.int .i64 fa) := V1.cell 5
            have d1_6 : w2.cell? ⟨w.heap.size, 6, none⟩ = some (.int .i64 op) := V1.cell 6
            have d1_7 : w2.cell? ⟨w.heap.size, 7, none⟩ = some (.int .i64 bu) := V1.cell 7
            have d1_8 : w2.cell? ⟨w.heap.size, 8, none⟩ = some (.int .i64 ev) := V1.cell 8
            go_wp2_with fail
            refine (HK _).mono ?_
            rintro e w3 ⟨rfl, B2⟩
            have V2 := V1.keep B2 (Nat.le_refl _)
            have C2 := C1.trans (B2.mono C1.size)
            clear d1_0 d1_1 d1_2 d1_3 d1_4 d1_5 d1_6 d1_7 d1_8
            have d2_0 : w3.cell? ⟨w.heap.size, 0, none⟩ = some (.string s) := V2.cell 0
            have d2_1 : w3.cell? ⟨w.heap.size, 1, none⟩ = some (.int .i64 ba) := V2.cell 1
            have d2_2 : w3.cell? ⟨w.heap.size, 2, none⟩ = some (.int .i64 tp) := V2.cell 2
            have d2_3 : w3.cell? ⟨w.heap.size, 3, none⟩ = some (.int .i64 ji) := V2.cell 3
            have d2_4 : w3.cell? ⟨w.heap.size, 4, none⟩ = some (.int .i64 tr) := V2.cell 4
            have d2_5 : w3.cell? ⟨w.heap.size, 5, none⟩ = some (.int .i64 fa) := V2.cell 5
            have d2_6 : w3.cell? ⟨w.heap.size, 6, none⟩ = some (.int .i64 op) := V2.cell 6
            have d2_7 : w3.cell? ⟨w.heap.size, 7, none⟩ = some (.int .i64 bu) := V2.cell 7
            have d2_8 : w3.cell? ⟨w.heap.size, 8, none⟩ = some (.int .i64 ev) := V2.cell 8
            go_wp2_with fail
            refine (HT _).mono ?_
            rintro e wt ⟨rfl, rfl⟩
            go_wp2_with fail
            refine (HF _).mono ?_
            rintro e w5 ⟨rfl, B4⟩
            have V4 := V2.keep B4 (Nat.le_refl _)
            have C4 := C2.trans (B4.mono C2.size)
            clear d2_0 d2_1 d2_2 d2_3 d2_4 d2_5 d2_6 d2_7 d2_8
            have d4_0 : w5.cell? ⟨w.heap.size, 0, none⟩ = some (.string s) := V4.cell 0
            have d4_1 : w5.cell? ⟨w.heap.size, 1, none⟩ = some (.int .i64 ba) := V4.cell 1
            have d4_2 : w5.cell? ⟨w.heap.size, 2, none⟩ = some (.int .i64 tp) := V4.cell 2
            have d4_3 : w5.cell? ⟨w.heap.size, 3, none⟩ = some (.int .i64 ji) := V4.cell 3
            have d4_4 : w5.cell? ⟨w.heap.size, 4, none⟩ = some (.int .i64 tr) := V4.cell 4
            have d4_5 : w5.cell? ⟨w.heap.size, 5, none⟩ = some (.int .i64 fa) := V4.cell 5
            have d4_6 : w5.cell? ⟨w.heap.size, 6, none⟩ = some (.int .i64 op) := V4.cell 6
            have d4_7 : w5.cell? ⟨w.heap.size, 7, none⟩ = some (.int .i64 bu) := V4.cell 7
            have d4_8 : w5.cell? ⟨w.heap.size, 8, none⟩ = some (.int .i64 ev) := V4.cell 8
            go_wp2_with fail
            refine (HU _).mono ?_
            rintro e w6 ⟨rfl, B5⟩
            have V5 := V4.keep B5 (Nat.le_refl _)
            have C5 := C4.trans (B5.mono C4.size)
            clear d4_0 d4_1 d4_2 d4_3 d4_4 d4_5 d4_6 d4_7 d4_8
            have d5_0 : w6.cell? ⟨w.heap.size, 0, none⟩ = some (.string s) := V5.cell 0
            have d5_1 : w6.cell? ⟨w.heap.size, 1, none⟩ = some (.int .i64 ba) := V5.cell 1
            have d5_2 : w6.cell? ⟨w.heap.size, 2, none⟩ = some (.int .i64 tp) := V5.cell 2
            have d5_3 : w6.cell? ⟨w.heap.size, 3, none⟩ = some (.int .i64 ji) := V5.cell 3
            have d5_4 : w6.cell? ⟨w.heap.size, 4, none⟩ = some (.int .i64 tr) := V5.cell 4
            have d5_5 : w6.cell? ⟨w.heap.size, 5, none⟩ = some (.int .i64 fa) := V5.cell 5
            have d5_6 : w6.cell? ⟨w.heap.size, 6, none⟩ = some (.int .i64 op) := V5.cell 6
            have d5_7 : w6.cell? ⟨w.heap.size, 7, none⟩ = some (.int .i64 bu) := V5.cell 7
            have d5_8 : w6.cell? ⟨w.heap.size, 8, none⟩ = some (.int .i64 ev) := V5.cell 8
            go_wp2_with fail
            go_ret
            exact ⟨retB (by rw [HR.out]; rfl), C5⟩
          | true =>
            go_wp2_with fail
            refine (HN _).mono ?_
            rintro e w2 ⟨rfl, B1⟩
            have V1 := V0.keep B1 (Nat.le_refl _)
            have C1 := B0.trans (B1.mono B0.size)
            clear c0 c1 c2 c3 c4 c5 c6 c7 c8
            have d1_0 : w2.cell? ⟨w.heap.size, 0, none⟩ = some (.string s) := V1.cell 0
            have d1_1 : w2.cell? ⟨w.heap.size, 1, none⟩ = some (.int .i64 ba) := V1.cell 1
            have d1_2 : w2.cell? ⟨w.heap.size, 2, none⟩ = some (.int .i64 tp) := V1.cell 2
            have d1_3 : w2.cell? ⟨w.heap.size, 3, none⟩ = some (.int .i64 ji) := V1.cell 3
            have d1_4 : w2.cell? ⟨w.heap.size, 4, none⟩ = some (.int .i64 tr) := V1.cell 4
            have d1_5 : w2.cell? ⟨w.heap.size, 5, none⟩ = some (.int .i64 fa) := V1.cell 5
            have d1_6 : w2.cell? ⟨w.heap.size, 6, none⟩ = some (.int .i64 op) := V1.cell 6
            have d1_7 : w2.cell? ⟨w.heap.size, 7, none⟩ = some (.int .i64 bu) := V1.cell 7
            have d1_8 : w2.cell? ⟨w.heap.size, 8, none⟩ = some (.int .i64 ev) := V1.cell 8
            go_wp2_with fail
            refine (HK _).mono ?_
            rintro e w3 ⟨rfl, B2⟩
            have V2 := V1.keep B2 (Nat.le_refl _)
            have C2 := C1.trans (B2.mono C1.size)
            clear d1_0 d1_1 d1_2 d1_3 d1_4 d1_5 d1_6 d1_7 d1_8
            have d2_0 : w3.cell? ⟨w.heap.size, 0, none⟩ = some (.string s) := V2.cell 0
            have d2_1 : w3.cell? ⟨w.heap.size, 1, none⟩ = some (.int .i64 ba) := V2.cell 1
            have d2_2 : w3.cell? ⟨w.heap.size, 2, none⟩ = some (.int .i64 tp) := V2.cell 2
            have d2_3 : w3.cell? ⟨w.heap.size, 3, none⟩ = some (.int .i64 ji) := V2.cell 3
            have d2_4 : w3.cell? ⟨w.heap.size, 4, none⟩ = some (.int .i64 tr) := V2.cell 4
            have d2_5 : w3.cell? ⟨w.heap.size, 5, none⟩ = some (.int .i64 fa) := V2.cell 5
            have d2_6 : w3.cell? ⟨w.heap.size, 6, none⟩ = some (.int .i64 op) := V2.cell 6
            have d2_7 : w3.cell? ⟨w.heap.size, 7, none⟩ = some (.int .i64 bu) := V2.cell 7
            have d2_8 : w3.cell? ⟨w.heap.size, 8, none⟩ = some (.int .i64 ev) := V2.cell 8
            go_wp2_with fail
            refine (HT _).mono ?_
            rintro e wt ⟨rfl, rfl⟩
            go_wp2_with fail
            refine (HF _).mono ?_
            rintro e w5 ⟨rfl, B4⟩
            have V4 := V2.keep B4 (Nat.le_refl _)
            have C4 := C2.trans (B4.mono C2.size)
            clear d2_0 d2_1 d2_2 d2_3 d2_4 d2_5 d2_6 d2_7 d2_8
            have d4_0 : w5.cell? ⟨w.heap.size, 0, none⟩ = some (.string s) := V4.cell 0
            have d4_1 : w5.cell? ⟨w.heap.size, 1, none⟩ = some (.int .i64 ba) := V4.cell 1
            have d4_2 : w5.cell? ⟨w.heap.size, 2, none⟩ = some (.int .i64 tp) := V4.cell 2
            have d4_3 : w5.cell? ⟨w.heap.size, 3, none⟩ = some (.int .i64 ji) := V4.cell 3
            have d4_4 : w5.cell? ⟨w.heap.size, 4, none⟩ = some (.int .i64 tr) := V4.cell 4
            have d4_5 : w5.cell? ⟨w.heap.size, 5, none⟩ = some (.int .i64 fa) := V4.cell 5
            have d4_6 : w5.cell? ⟨w.heap.size, 6, none⟩ = some (.int .i64 op) := V4.cell 6
            have d4_7 : w5.cell? ⟨w.heap.size, 7, none⟩ = some (.int .i64 bu) := V4.cell 7
            have d4_8 : w5.cell? ⟨w.heap.size, 8, none⟩ = some (.int .i64 ev) := V4.cell 8
            go_wp2_with fail
            refine (HU _).mono ?_
            rintro e w6 ⟨rfl, B5⟩
            have V5 := V4.keep B5 (Nat.le_refl _)
            have C5 := C4.trans (B5.mono C4.size)
            clear d4_0 d4_1 d4_2 d4_3 d4_4 d4_5 d4_6 d4_7 d4_8
            have d5_0 : w6.cell? ⟨w.heap.size, 0, none⟩ = some (.string s) := V5.cell 0
            have d5_1 : w6.cell? ⟨w.heap.size, 1, none⟩ = some (.int .i64 ba) := V5.cell 1
            have d5_2 : w6.cell? ⟨w.heap.size, 2, none⟩ = some (.int .i64 tp) := V5.cell 2
            have d5_3 : w6.cell? ⟨w.heap.size, 3, none⟩ = some (.int .i64 ji) := V5.cell 3
            have d5_4 : w6.cell? ⟨w.heap.size, 4, none⟩ = some (.int .i64 tr) := V5.cell 4
            have d5_5 : w6.cell? ⟨w.heap.size, 5, none⟩ = some (.int .i64 fa) := V5.cell 5
            have d5_6 : w6.cell? ⟨w.heap.size, 6, none⟩ = some (.int .i64 op) := V5.cell 6
            have d5_7 : w6.cell? ⟨w.heap.size, 7, none⟩ = some (.int .i64 bu) := V5.cell 7
            have d5_8 : w6.cell? ⟨w.heap.size, 8, none⟩ = some (.int .i64 ev) := V5.cell 8
            go_wp2_with fail
            go_ret
            exact ⟨retB (by rw [HR.out]; rfl), C5⟩
end Go.Proofs.Ytaiacohnhhicpaa
