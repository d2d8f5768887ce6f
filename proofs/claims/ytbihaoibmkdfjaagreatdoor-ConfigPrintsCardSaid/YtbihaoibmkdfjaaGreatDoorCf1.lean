/-
  The program's own: which receivers may be (package config).
  The program's own: where a name stands, and which receivers may be together (package config).
-/
import Derived.Test.YtbihaoibmkdfjaaGreatDoorNewX
import Derived.Test.YtbihaoibmkdfjaaGreatDoorLabN
import Derived.Test.YtbihaoibmkdfjaaGreatDoorRfX
import Derived.Test.YtbihaoibmkdfjaaGreatDoorRfcF
namespace Go.Proofs.YtbihaoibmkdfjaaGreatDoor
open Go.RowKit Go.Shelf
set_option linter.unusedVariables false

def inC (n a b : Int) : Bool := decide (a ≤ n) && decide (n ≤ b)
theorem within_c (n a b : Int) (w : World) :
    Calls Tryz.prog 48 #[.int .i64 n, .int .i64 a, .int .i64 b] w fun e w' => e = .returned (.bool (inC n a b)) ∧ w = w' := by
  by_cases h1 : a ≤ n
  · by_cases h2 : n ≤ b
    · go_enter Tryz.func48, Tryz.ntmps48
      go_wp2
      go_ret
      exact ⟨retB (by unfold inC; rw [decide_eq_true h1, decide_eq_true h2]; rfl), rfl⟩
    · go_enter Tryz.func48, Tryz.ntmps48
      go_wp2
      go_ret
      exact ⟨retB (by unfold inC; rw [eq_comm, Bool.and_eq_false_iff]; right; exact decide_eq_false (by omega)), rfl⟩
  · go_enter Tryz.func48, Tryz.ntmps48
    go_wp2
    go_ret
    exact ⟨retB (by unfold inC; rw [eq_comm, Bool.and_eq_false_iff]; left; exact decide_eq_false (by omega)), rfl⟩
theorem within_ci (n a b : Int) (r : Bool) (w : World) (h : r = inC n a b) :
    Calls Tryz.prog 48 #[.int .i64 n, .int .i64 a, .int .i64 b] w fun e w' => e = .returned (.bool r) ∧ w = w' := by subst h; exact within_c n a b w
theorem wait_c (n : Int) (w : World) :
    Calls Tryz.prog 27 #[.int .i64 n] w fun e w' => e = .returned (.bool (oftenB n)) ∧ w = w' := by
  have H : Hid (oftenB n = inC n 1 1073741824) := rfl
  obtain ⟨r, hr⟩ : ∃ r, r = inC n 1 1073741824 := ⟨_, rfl⟩
  have HR := Lib.hid hr
  rw [← hr] at H
  clear hr
  go_enter Tryz.func27, Tryz.ntmps27
  go_wp2_with fail
  refine (within_ci _ _ _ r _ HR.out).mono ?_
  rintro e w' ⟨rfl, rfl⟩
  go_wp2_with fail
  go_ret
  exact ⟨retB H.out.symm, rfl⟩
theorem matB_has (s : ByteArray) : matB (3, s, ⟨#[]⟩) = nameB s := by
  rw [matB_three]
  have : (({ data := #[] } : ByteArray).toList == ([] : List UInt8)) = true := by rw [ByteArray.toList_eq]; rfl
  rw [this, Bool.and_true]
set_option maxRecDepth 100000 in
set_option maxHeartbeats 1600000 in
theorem name_c (s : ByteArray) (w : World) :
    Calls Tryz.prog 76 #[.string s] w fun e w' => e = .returned (.bool (nameB s && !decide (s = tx ifT))) ∧ Below w.heap.size w w' := by
  have hI := if_text s
  have HM := fun w => mat_any (3, s, ⟨#[]⟩) w
  dsimp only [aggM] at HM
  rw [matB_has] at HM
  have HN : Hid ((nameB s && !decide (s = tx ifT)) = (!decide (s = tx ifT) && nameB s)) := by show _ = _; rw [Bool.and_comm]
  generalize decide (s = tx ifT) = x at *
  generalize nameB s = y at *
  cases x with
  | true =>
    have hI2 : (s.toList != [105, 102]) = false := by simp [bne, hI]
    go_enter Tryz.func76, Tryz.ntmps76
    go_wp2_with fail
    go_ret
    exact ⟨retB (by rw [HN.out]; rfl), Below.refl _ _⟩
  | false =>
    have hI2 : (s.toList != [105, 102]) = true := by simp [bne, hI]
    go_enter Tryz.func76, Tryz.ntmps76
    go_wp2_with fail
    refine (HM _).mono ?_
    rintro e w' ⟨rfl, B⟩
    go_wp2_with fail
    go_ret
    exact ⟨retB (by rw [HN.out]; rfl), B⟩
set_option maxRecDepth 100000 in
set_option maxHeartbeats 1600000 in
theorem brk_c (s : ByteArray) (ba tp ji tr fa op bu ev : Int) (w : World) :
    Calls Tryz.prog 78 #[.agg #[.string s, .int .i64 ba, .int .i64 tp, .int .i64 ji, .int .i64 tr, .int .i64 fa, .int .i64 op, .int .i64 bu, .int .i64 ev]] w fun e w' => e = .returned (.bool (brkB fa op)) ∧ Below w.heap.size w w' := by
  have V0 := Vals.new w 52 #[.string s, .int .i64 ba, .int .i64 tp, .int .i64 ji, .int .i64 tr, .int .i64 fa, .int .i64 op, .int .i64 bu, .int .i64 ev]
  have B0 := below_alloc w (.cells #[.string s, .int .i64 ba, .int .i64 tp, .int .i64 ji, .int .i64 tr, .int .i64 fa, .int .i64 op, .int .i64 bu, .int .i64 ev] 52)
  have HN := fun w => Brk.new_any fa op w
  obtain ⟨b, hb⟩ : ∃ b, b = brkB fa op := ⟨_, rfl⟩
  rw [← hb] at HN ⊢
  clear hb
  go_enter Tryz.func78, Tryz.ntmps78
  go_upto_region 1 with fail
  generalize w.alloc (.cells #[.string s, .int .i64 ba, .int .i64 tp, .int .i64 ji, .int .i64 tr, .int .i64 fa, .int .i64 op, .int .i64 bu, .int .i64 ev] 52) = w1 at *
  have c0 : w1.cell? ⟨w.heap.size, 0, none⟩ = some (.string s) := V0.cell 0
  have c1 : w1.cell? ⟨w.heap.size, 1, none⟩ = some (.int .i64 ba) := V0.cell 1
  have c2 : w1.cell? ⟨w.heap.size, 2, none⟩ = some (.int .i64 tp) := V0.cell 2
  have c3 : w1.cell? ⟨w.heap.size, 3, none⟩ = some (.int .i64 ji) := V0.cell 3
  have c4 : w1.cell? ⟨w.heap.size, 4, none⟩ = some (.int .i64 tr) := V0.cell 4
  have c5 : w1.cell? ⟨w.heap.size, 5, none⟩ = some (.int .i64 fa) := V0.cell 5
  have c6 : w1.cell? ⟨w.heap.size, 6, none⟩ = some (.int .i64 op) := V0.cell 6
  have c7 : w1.cell? ⟨w.heap.size, 7, none⟩ = some (.int .i64 bu) := V0.cell 7
  have c8 : w1.cell? ⟨w.heap.size, 8, none⟩ = some (.int .i64 ev) := V0.cell 8
  go_wp2_with fail
  refine (HN _).mono ?_
  rintro e w2 ⟨⟨y0, y1, y2, y3, y4, rfl⟩, B2⟩
  have B3 := (B0.trans (B2.mono B0.size))
  have B4 := B3.alloc B3.size (.cells #[.int .i64 y0, .int .i64 y1, .int .i64 y2, .int .i64 y3, .int .i64 y4] 85)
  cases b with
  | true =>
    go_wp2_with fail
    go_ret
    exact ⟨rfl, B4⟩
  | false =>
    go_wp2_with fail
    go_ret
    exact ⟨rfl, B4⟩
set_option maxRecDepth 100000 in
set_option maxHeartbeats 1600000 in
theorem bkt_c (s : ByteArray) (ba tp ji tr fa op bu ev : Int) (w : World) :
    Calls Tryz.prog 79 #[.agg #[.string s, .int .i64 ba, .int .i64 tp, .int .i64 ji, .int .i64 tr, .int .i64 fa, .int .i64 op, .int .i64 bu, .int .i64 ev]] w fun e w' => e = .returned (.bool (brkB bu ev)) ∧ Below w.heap.size w w' := by
  have V0 := Vals.new w 52 #[.string s, .int .i64 ba, .int .i64 tp, .int .i64 ji, .int .i64 tr, .int .i64 fa, .int .i64 op, .int .i64 bu, .int .i64 ev]
  have B0 := below_alloc w (.cells #[.string s, .int .i64 ba, .int .i64 tp, .int .i64 ji, .int .i64 tr, .int .i64 fa, .int .i64 op, .int .i64 bu, .int .i64 ev] 52)
  have HN := fun w => Bkt.new_any bu ev w
  obtain ⟨b, hb⟩ : ∃ b, b = brkB bu ev := ⟨_, rfl⟩
  rw [← hb] at HN ⊢
  clear hb
  go_enter Tryz.func79, Tryz.ntmps79
  go_upto_region 1 with fail
  generalize w.alloc (.cells #[.string s, .int .i64 ba, .int .i64 tp, .int .i64 ji, .int .i64 tr, .int .i64 fa, .int .i64 op, .int .i64 bu, .int .i64 ev] 52) = w1 at *
  have c0 : w1.cell? ⟨w.heap.size, 0, none⟩ = some (.string s) := V0.cell 0
  have c1 : w1.cell? ⟨w.heap.size, 1, none⟩ = some (.int .i64 ba) := V0.cell 1
  have c2 : w1.cell? ⟨w.heap.size, 2, none⟩ = some (.int .i64 tp) := V0.cell 2
  have c3 : w1.cell? ⟨w.heap.size, 3, none⟩ = some (.int .i64 ji) := V0.cell 3
  have c4 : w1.cell? ⟨w.heap.size, 4, none⟩ = some (.int .i64 tr) := V0.cell 4
  have c5 : w1.cell? ⟨w.heap.size, 5, none⟩ = some (.int .i64 fa) := V0.cell 5
  have c6 : w1.cell? ⟨w.heap.size, 6, none⟩ = some (.int .i64 op) := V0.cell 6
  have c7 : w1.cell? ⟨w.heap.size, 7, none⟩ = some (.int .i64 bu) := V0.cell 7
  have c8 : w1.cell? ⟨w.heap.size, 8, none⟩ = some (.int .i64 ev) := V0.cell 8
  go_wp2_with fail
  refine (HN _).mono ?_
  rintro e w2 ⟨⟨y0, y1, y2, y3, rfl⟩, B2⟩
  have B3 := (B0.trans (B2.mono B0.size))
  have B4 := B3.alloc B3.size (.cells #[.int .i64 y0, .int .i64 y1, .int .i64 y2, .int .i64 y3] 88)
  cases b with
  | true =>
    go_wp2_with fail
    go_ret
    exact ⟨rfl, B4⟩
  | false =>
    go_wp2_with fail
    go_ret
    exact ⟨rfl, B4⟩
set_option maxRecDepth 100000 in
set_option maxHeartbeats 3200000 in
theorem rcv_c (r : R9) (w : World) :
    Calls Tryz.prog 49 #[aggR r] w fun e w' => e = .returned (.bool (rcvR r)) ∧ Below w.heap.size w w' := by
  obtain ⟨s, ba, tp, ji, tr, fa, op, bu, ev⟩ := r
  dsimp only [aggR]
  have HN := fun w => name_c s w
  have HK := fun w => Bck.right_is ba tp ji w
  have HT := fun w => within_ci tr 1 100 _ w rfl
  have HF := fun w => brk_c s ba tp ji tr fa op bu ev w
  have HU := fun w => bkt_c s ba tp ji tr fa op bu ev w
  have HR : Hid (rcvR ⟨s, ba, tp, ji, tr, fa, op, bu, ev⟩ = ((nameB s && !decide (s = tx ifT)) && (backB ba tp ji && (inC tr 1 100 && (brkB fa op && brkB bu ev))))) := by
    show (nameB s && (!decide (s = tx ifT) && (backB ba tp ji && (triB tr && (brkB fa op && brkB bu ev))))) = _
    rw [← Bool.and_assoc]
    rfl
  generalize (nameB s && !decide (s = tx ifT)) = x1 at *
  generalize backB ba tp ji = x2 at *
  generalize inC tr 1 100 = x3 at *
  generalize brkB fa op = x4 at *
  generalize brkB bu ev = x5 at *
  have V0 := Vals.new w 52 #[.string s, .int .i64 ba, .int .i64 tp, .int .i64 ji, .int .i64 tr, .int .i64 fa, .int .i64 op, .int .i64 bu, .int .i64 ev]
  have B0 := below_alloc w (.cells #[.string s, .int .i64 ba, .int .i64 tp, .int .i64 ji, .int .i64 tr, .int .i64 fa, .int .i64 op, .int .i64 bu, .int .i64 ev] 52)
  go_enter Tryz.func49, Tryz.ntmps49
  go_upto_region 1 with fail
  generalize w.alloc (.cells #[.string s, .int .i64 ba, .int .i64 tp, .int .i64 ji, .int .i64 tr, .int .i64 fa, .int .i64 op, .int .i64 bu, .int .i64 ev] 52) = w1 at *
  have c0 : w1.cell? ⟨w.heap.size, 0, none⟩ = some (.string s) := V0.cell 0
  have c1 : w1.cell? ⟨w.heap.size, 1, none⟩ = some (.int .i64 ba) := V0.cell 1
  have c2 : w1.cell? ⟨w.heap.size, 2, none⟩ = some (.int .i64 tp) := V0.cell 2
  have c3 : w1.cell? ⟨w.heap.size, 3, none⟩ = some (.int .i64 ji) := V0.cell 3
  have c4 : w1.cell? ⟨w.heap.size, 4, none⟩ = some (.int .i64 tr) := V0.cell 4
  have c5 : w1.cell? ⟨w.heap.size, 5, none⟩ = some (.int .i64 fa) := V0.cell 5
  have c6 : w1.cell? ⟨w.heap.size, 6, none⟩ = some (.int .i64 op) := V0.cell 6
  have c7 : w1.cell? ⟨w.heap.size, 7, none⟩ = some (.int .i64 bu) := V0.cell 7
  have c8 : w1.cell? ⟨w.heap.size, 8, none⟩ = some (.int .i64 ev) := V0.cell 8
  cases x1 with
  | false =>
    go_wp2_with fail
    refine (HN _).mono ?_
    rintro e w2 ⟨rfl, B1⟩
    have V1 := V0.keep B1 (Nat.le_refl _)
    have C1 := B0.trans (B1.mono B0.size)
    clear c0 c1 c2 c3 c4 c5 c6 c7 c8
    have d1_0 : w2.cell? ⟨w.heap.size, 0, none⟩ = some (.string s) := V1.cell 0
    have d1_1 : w2.cell? ⟨w.heap.size, 1, none⟩ = some (.int .i64 ba) := V1.cell 1
    have d1_2 : w2.cell? ⟨w.heap.size, 2, none⟩ = some (.int .i64 tp) := V1.cell 2
    have d1_3 : w2.cell? ⟨w.heap.size, 3, none⟩ = some (.int .i64 ji) := V1.cell 3
    have d1_4 : w2.cell? ⟨w.heap.size, 4, none⟩ = some (.int .i64 tr) := V1.cell 4
    have d1_5 : w2.cell? ⟨w.heap.size, 5, none⟩ = some (.int .i64 fa) := V1.cell 5
    have d1_6 : w2.cell? ⟨w.heap.size, 6, none⟩ = some (.int .i64 op) := V1.cell 6
    have d1_7 : w2.cell? ⟨w.heap.size, 7, none⟩ = some (.int .i64 bu) := V1.cell 7
    have d1_8 : w2.cell? ⟨w.heap.size, 8, none⟩ = some (.int .i64 ev) := V1.cell 8
    go_wp2_with fail
    go_ret
    exact ⟨retB (by rw [HR.out]; rfl), C1⟩
  | true =>
    cases x2 with
    | false =>
      go_wp2_with fail
      refine (HN _).mono ?_
      rintro e w2 ⟨rfl, B1⟩
      have V1 := V0.keep B1 (Nat.le_refl _)
      have C1 := B0.trans (B1.mono B0.size)
      clear c0 c1 c2 c3 c4 c5 c6 c7 c8
      have d1_0 : w2.cell? ⟨w.heap.size, 0, none⟩ = some (.string s) := V1.cell 0
      have d1_1 : w2.cell? ⟨w.heap.size, 1, none⟩ = some (.int .i64 ba) := V1.cell 1
      have d1_2 : w2.cell? ⟨w.heap.size, 2, none⟩ = some (.int .i64 tp) := V1.cell 2
      have d1_3 : w2.cell? ⟨w.heap.size, 3, none⟩ = some (.int .i64 ji) := V1.cell 3
      have d1_4 : w2.cell? ⟨w.heap.size, 4, none⟩ = some (.int .i64 tr) := V1.cell 4
      have d1_5 : w2.cell? ⟨w.heap.size, 5, none⟩ = some (.int .i64 fa) := V1.cell 5
      have d1_6 : w2.cell? ⟨w.heap.size, 6, none⟩ = some (.int .i64 op) := V1.cell 6
      have d1_7 : w2.cell? ⟨w.heap.size, 7, none⟩ = some (.int .i64 bu) := V1.cell 7
      have d1_8 : w2.cell? ⟨w.heap.size, 8, none⟩ = some (.int .i64 ev) := V1.cell 8
      go_wp2_with fail
      refine (HK _).mono ?_
      rintro e w3 ⟨rfl, B2⟩
      have V2 := V1.keep B2 (Nat.le_refl _)
      have C2 := C1.trans (B2.mono C1.size)
      clear d1_0 d1_1 d1_2 d1_3 d1_4 d1_5 d1_6 d1_7 d1_8
      have d2_0 : w3.cell? ⟨w.heap.size, 0, none⟩ = some (.string s) := V2.cell 0
      have d2_1 : w3.cell? ⟨w.heap.size, 1, none⟩ = some (.int .i64 ba) := V2.cell 1
      have d2_2 : w3.cell? ⟨w.heap.size, 2, none⟩ = some (.int .i64 tp) := V2.cell 2
      have d2_3 : w3.cell? ⟨w.heap.size, 3, none⟩ = some (.int .i64 ji) := V2.cell 3
      have d2_4 : w3.cell? ⟨w.heap.size, 4, none⟩ = some (.int .i64 tr) := V2.cell 4
      have d2_5 : w3.cell? ⟨w.heap.size, 5, none⟩ = some (.int .i64 fa) := V2.cell 5
      have d2_6 : w3.cell? ⟨w.heap.size, 6, none⟩ = some (.int .i64 op) := V2.cell 6
      have d2_7 : w3.cell? ⟨w.heap.size, 7, none⟩ = some (.int .i64 bu) := V2.cell 7
      have d2_8 : w3.cell? ⟨w.heap.size, 8, none⟩ = some (.int .i64 ev) := V2.cell 8
      go_wp2_with fail
      go_ret
      exact ⟨retB (by rw [HR.out]; rfl), C2⟩
    | true =>
      cases x3 with
      | false =>
        go_wp2_with fail
        refine (HN _).mono ?_
        rintro e w2 ⟨rfl, B1⟩
        have V1 := V0.keep B1 (Nat.le_refl _)
        have C1 := B0.trans (B1.mono B0.size)
        clear c0 c1 c2 c3 c4 c5 c6 c7 c8
        have d1_0 : w2.cell? ⟨w.heap.size, 0, none⟩ = some (.string s) := V1.cell 0
        have d1_1 : w2.cell? ⟨w.heap.size, 1, none⟩ = some (.int .i64 ba) := V1.cell 1
        have d1_2 : w2.cell? ⟨w.heap.size, 2, none⟩ = some (.int .i64 tp) := V1.cell 2
        have d1_3 : w2.cell? ⟨w.heap.size, 3, none⟩ = some (.int .i64 ji) := V1.cell 3
        have d1_4 : w2.cell? ⟨w.heap.size, 4, none⟩ = some (.int .i64 tr) := V1.cell 4
        have d1_5 : w2.cell? ⟨w.heap.size, 5, none⟩ = some (.int .i64 fa) := V1.cell 5
        have d1_6 : w2.cell? ⟨w.heap.size, 6, none⟩ = some (.int .i64 op) := V1.cell 6
        have d1_7 : w2.cell? ⟨w.heap.size, 7, none⟩ = some (.int .i64 bu) := V1.cell 7
        have d1_8 : w2.cell? ⟨w.heap.size, 8, none⟩ = some (.int .i64 ev) := V1.cell 8
        go_wp2_with fail
        refine (HK _).mono ?_
        rintro e w3 ⟨rfl, B2⟩
        have V2 := V1.keep B2 (Nat.le_refl _)
        have C2 := C1.trans (B2.mono C1.size)
        clear d1_0 d1_1 d1_2 d1_3 d1_4 d1_5 d1_6 d1_7 d1_8
        have d2_0 : w3.cell? ⟨w.heap.size, 0, none⟩ = some (.string s) := V2.cell 0
        have d2_1 : w3.cell? ⟨w.heap.size, 1, none⟩ = some (.int .i64 ba) := V2.cell 1
        have d2_2 : w3.cell? ⟨w.heap.size, 2, none⟩ = some (.int .i64 tp) := V2.cell 2
        have d2_3 : w3.cell? ⟨w.heap.size, 3, none⟩ = some (.int .i64 ji) := V2.cell 3
        have d2_4 : w3.cell? ⟨w.heap.size, 4, none⟩ = some (.int .i64 tr) := V2.cell 4
        have d2_5 : w3.cell? ⟨w.heap.size, 5, none⟩ = some (.int .i64 fa) := V2.cell 5
        have d2_6 : w3.cell? ⟨w.heap.size, 6, none⟩ = some (.int .i64 op) := V2.cell 6
        have d2_7 : w3.cell? ⟨w.heap.size, 7, none⟩ = some (.int .i64 bu) := V2.cell 7
        have d2_8 : w3.cell? ⟨w.heap.size, 8, none⟩ = some (.int .i64 ev) := V2.cell 8
        go_wp2_with fail
        refine (HT _).mono ?_
        rintro e wt ⟨rfl, rfl⟩
        go_wp2_with fail
        go_ret
        exact ⟨retB (by rw [HR.out]; rfl), C2⟩
      | true =>
        cases x4 with
        | false =>
          go_wp2_with fail
          refine (HN _).mono ?_
          rintro e w2 ⟨rfl, B1⟩
          have V1 := V0.keep B1 (Nat.le_refl _)
          have C1 := B0.trans (B1.mono B0.size)
          clear c0 c1 c2 c3 c4 c5 c6 c7 c8
          have d1_0 : w2.cell? ⟨w.heap.size, 0, none⟩ = some (.string s) := V1.cell 0
          have d1_1 : w2.cell? ⟨w.heap.size, 1, none⟩ = some (.int .i64 ba) := V1.cell 1
          have d1_2 : w2.cell? ⟨w.heap.size, 2, none⟩ = some (.int .i64 tp) := V1.cell 2
          have d1_3 : w2.cell? ⟨w.heap.size, 3, none⟩ = some (.int .i64 ji) := V1.cell 3
          have d1_4 : w2.cell? ⟨w.heap.size, 4, none⟩ = some (.int .i64 tr) := V1.cell 4
          have d1_5 : w2.cell? ⟨w.heap.size, 5, none⟩ = some (.int .i64 fa) := V1.cell 5
          have d1_6 : w2.cell? ⟨w.heap.size, 6, none⟩ = some (.int .i64 op) := V1.cell 6
          have d1_7 : w2.cell? ⟨w.heap.size, 7, none⟩ = some (.int .i64 bu) := V1.cell 7
          have d1_8 : w2.cell? ⟨w.heap.size, 8, none⟩ = some (.int .i64 ev) := V1.cell 8
          go_wp2_with fail
          refine (HK _).mono ?_
          rintro e w3 ⟨rfl, B2⟩
          have V2 := V1.keep B2 (Nat.le_refl _)
          have C2 := C1.trans (B2.mono C1.size)
          clear d1_0 d1_1 d1_2 d1_3 d1_4 d1_5 d1_6 d1_7 d1_8
          have d2_0 : w3.cell? ⟨w.heap.size, 0, none⟩ = some (.string s) := V2.cell 0
          have d2_1 : w3.cell? ⟨w.heap.size, 1, none⟩ = some (.int .i64 ba) := V2.cell 1
          have d2_2 : w3.cell? ⟨w.heap.size, 2, none⟩ = some (.int .i64 tp) := V2.cell 2
          have d2_3 : w3.cell? ⟨w.heap.size, 3, none⟩ = some (.int .i64 ji) := V2.cell 3
          have d2_4 : w3.cell? ⟨w.heap.size, 4, none⟩ = some (.int .i64 tr) := V2.cell 4
          have d2_5 : w3.cell? ⟨w.heap.size, 5, none⟩ = some (.int .i64 fa) := V2.cell 5
          have d2_6 : w3.cell? ⟨w.heap.size, 6, none⟩ = some (.int .i64 op) := V2.cell 6
          have d2_7 : w3.cell? ⟨w.heap.size, 7, none⟩ = some (.int .i64 bu) := V2.cell 7
          have d2_8 : w3.cell? ⟨w.heap.size, 8, none⟩ = some (.int .i64 ev) := V2.cell 8
          go_wp2_with fail
          refine (HT _).mono ?_
          rintro e wt ⟨rfl, rfl⟩
          go_wp2_with fail
          refine (HF _).mono ?_
          rintro e w5 ⟨rfl, B4⟩
          have V4 := V2.keep B4 (Nat.le_refl _)
          have C4 := C2.trans (B4.mono C2.size)
          clear d2_0 d2_1 d2_2 d2_3 d2_4 d2_5 d2_6 d2_7 d2_8
          have d4_0 : w5.cell? ⟨w.heap.size, 0, none⟩ = some (.string s) := V4.cell 0
          have d4_1 : w5.cell? ⟨w.heap.size, 1, none⟩ = some (.int .i64 ba) := V4.cell 1
          have d4_2 : w5.cell? ⟨w.heap.size, 2, none⟩ = some (.int .i64 tp) := V4.cell 2
          have d4_3 : w5.cell? ⟨w.heap.size, 3, none⟩ = some (.int .i64 ji) := V4.cell 3
          have d4_4 : w5.cell? ⟨w.heap.size, 4, none⟩ = some (.int .i64 tr) := V4.cell 4
          have d4_5 : w5.cell? ⟨w.heap.size, 5, none⟩ = some (.int .i64 fa) := V4.cell 5
          have d4_6 : w5.cell? ⟨w.heap.size, 6, none⟩ = some (.int .i64 op) := V4.cell 6
          have d4_7 : w5.cell? ⟨w.heap.size, 7, none⟩ = some (.int .i64 bu) := V4.cell 7
          have d4_8 : w5.cell? ⟨w.heap.size, 8, none⟩ = some (.int .i64 ev) := V4.cell 8
          go_wp2_with fail
          go_ret
          exact ⟨retB (by rw [HR.out]; rfl), C4⟩
        | true =>
          cases x5 with
          | false =>
            go_wp2_with fail
            refine (HN _).mono ?_
            rintro e w2 ⟨rfl, B1⟩
            have V1 := V0.keep B1 (Nat.le_refl _)
            have C1 := B0.trans (B1.mono B0.size)
            clear c0 c1 c2 c3 c4 c5 c6 c7 c8
            have d1_0 : w2.cell? ⟨w.heap.size, 0, none⟩ = some (.string s) := V1.cell 0
            have d1_1 : w2.cell? ⟨w.heap.size, 1, none⟩ = some (.int .i64 ba) := V1.cell 1
            have d1_2 : w2.cell? ⟨w.heap.size, 2, none⟩ = some (.int .i64 tp) := V1.cell 2
            have d1_3 : w2.cell? ⟨w.heap.size, 3, none⟩ = some (.int .i64 ji) := V1.cell 3
            have d1_4 : w2.cell? ⟨w.heap.size, 4, none⟩ = some (.int .i64 tr) := V1.cell 4
            have d1_5 : w2.cell? ⟨w.heap.size, 5, none⟩ = some (.int .i64 fa) := V1.cell 5
            have d1_6 : w2.cell? ⟨w.heap.size, 6, none⟩ = some (.int .i64 op) := V1.cell 6
            have d1_7 : w2.cell? ⟨w.heap.size, 7, none⟩ = some (.int .i64 bu) := V1.cell 7
            have d1_8 : w2.cell? ⟨w.heap.size, 8, none⟩ = some (.int .i64 ev) := V1.cell 8
            go_wp2_with fail
            refine (HK _).mono ?_
            rintro e w3 ⟨rfl, B2⟩
            have V2 := V1.keep B2 (Nat.le_refl _)
            have C2 := C1.trans (B2.mono C1.size)
            clear d1_0 d1_1 d1_2 d1_3 d1_4 d1_5 d1_6 d1_7 d1_8
            have d2_0 : w3.cell? ⟨w.heap.size, 0, none⟩ = some (.string s) := V2.cell 0
            have d2_1 : w3.cell? ⟨w.heap.size, 1, none⟩ = some (.int .i64 ba) := V2.cell 1
            have d2_2 : w3.cell? ⟨w.heap.size, 2, none⟩ = some (.int .i64 tp) := V2.cell 2
            have d2_3 : w3.cell? ⟨w.heap.size, 3, none⟩ = some (.int .i64 ji) := V2.cell 3
            have d2_4 : w3.cell? ⟨w.heap.size, 4, none⟩ = some (.int .i64 tr) := V2.cell 4
            have d2_5 : w3.cell? ⟨w.heap.size, 5, none⟩ = some (.int .i64 fa) := V2.cell 5
            have d2_6 : w3.cell? ⟨w.heap.size, 6, none⟩ = some (.int .i64 op) := V2.cell 6
            have d2_7 : w3.cell? ⟨w.heap.size, 7, none⟩ = some (.int .i64 bu) := V2.cell 7
            have d2_8 : w3.cell? ⟨w.heap.size, 8, none⟩ = some (.int .i64 ev) := V2.cell 8
            go_wp2_with fail
            refine (HT _).mono ?_
            rintro e wt ⟨rfl, rfl⟩
            go_wp2_with fail
            refine (HF _).mono ?_
            rintro e w5 ⟨rfl, B4⟩
            have V4 := V2.keep B4 (Nat.le_refl _)
            have C4 := C2.trans (B4.mono C2.size)
            clear d2_0 d2_1 d2_2 d2_3 d2_4 d2_5 d2_6 d2_7 d2_8
            have d4_0 : w5.cell? ⟨w.heap.size, 0, none⟩ = some (.string s) := V4.cell 0
            have d4_1 : w5.cell? ⟨w.heap.size, 1, none⟩ = some (.int .i64 ba) := V4.cell 1
            have d4_2 : w5.cell? ⟨w.heap.size, 2, none⟩ = some (.int .i64 tp) := V4.cell 2
            have d4_3 : w5.cell? ⟨w.heap.size, 3, none⟩ = some (.int .i64 ji) := V4.cell 3
            have d4_4 : w5.cell? ⟨w.heap.size, 4, none⟩ = some (.int .i64 tr) := V4.cell 4
            have d4_5 : w5.cell? ⟨w.heap.size, 5, none⟩ = some (.int .i64 fa) := V4.cell 5
            have d4_6 : w5.cell? ⟨w.heap.size, 6, none⟩ = some (.int .i64 op) := V4.cell 6
            have d4_7 : w5.cell? ⟨w.heap.size, 7, none⟩ = some (.int .i64 bu) := V4.cell 7
            have d4_8 : w5.cell? ⟨w.heap.size, 8, none⟩ = some (.int .i64 ev) := V4.cell 8
            go_wp2_with fail
            refine (HU _).mono ?_
            rintro e w6 ⟨rfl, B5⟩
            have V5 := V4.keep B5 (Nat.le_refl _)
            have C5 := C4.trans (B5.mono C4.size)
            clear d4_0 d4_1 d4_2 d4_3 d4_4 d4_5 d4_6 d4_7 d4_8
            have d5_0 : w6.cell? ⟨w.heap.size, 0, none⟩ = some (.string s) := V5.cell 0
            have d5_1 : w6.cell? ⟨w.heap.size, 1, none⟩ = some (.int .i64 ba) := V5.cell 1
            have d5_2 : w6.cell? ⟨w.heap.size, 2, none⟩ = some (.int .i64 tp) := V5.cell 2
            have d5_3 : w6.cell? ⟨w.heap.size, 3, none⟩ = some (.int .i64 ji) := V5.cell 3
            have d5_4 : w6.cell? ⟨w.heap.size, 4, none⟩ = some (.int .i64 tr) := V5.cell 4
            have d5_5 : w6.cell? ⟨w.heap.size, 5, none⟩ = some (.int .i64 fa) := V5.cell 5
            have d5_6 : w6.cell? ⟨w.heap.size, 6, none⟩ = some (.int .i64 op) := V5.cell 6
            have d5_7 : w6.cell? ⟨w.heap.size, 7, none⟩ = some (.int .i64 bu) := V5.cell 7
            have d5_8 : w6.cell? ⟨w.heap.size, 8, none⟩ = some (.int .i64 ev) := V5.cell 8
            go_wp2_with fail
            go_ret
            exact ⟨retB (by rw [HR.out]; rfl), C5⟩
          | true =>
            go_wp2_with fail
            refine (HN _).mono ?_
            rintro e w2 ⟨rfl, B1⟩
            have V1 := V0.keep B1 (Nat.le_refl _)
            have C1 := B0.trans (B1.mono B0.size)
            clear c0 c1 c2 c3 c4 c5 c6 c7 c8
            have d1_0 : w2.cell? ⟨w.heap.size, 0, none⟩ = some (.string s) := V1.cell 0
            have d1_1 : w2.cell? ⟨w.heap.size, 1, none⟩ = some (.int .i64 ba) := V1.cell 1
            have d1_2 : w2.cell? ⟨w.heap.size, 2, none⟩ = some (.int .i64 tp) := V1.cell 2
            have d1_3 : w2.cell? ⟨w.heap.size, 3, none⟩ = some (.int .i64 ji) := V1.cell 3
            have d1_4 : w2.cell? ⟨w.heap.size, 4, none⟩ = some (.int .i64 tr) := V1.cell 4
            have d1_5 : w2.cell? ⟨w.heap.size, 5, none⟩ = some (.int .i64 fa) := V1.cell 5
            have d1_6 : w2.cell? ⟨w.heap.size, 6, none⟩ = some (.int .i64 op) := V1.cell 6
            have d1_7 : w2.cell? ⟨w.heap.size, 7, none⟩ = some (.int .i64 bu) := V1.cell 7
            have d1_8 : w2.cell? ⟨w.heap.size, 8, none⟩ = some (.int .i64 ev) := V1.cell 8
            go_wp2_with fail
            refine (HK _).mono ?_
            rintro e w3 ⟨rfl, B2⟩
            have V2 := V1.keep B2 (Nat.le_refl _)
            have C2 := C1.trans (B2.mono C1.size)
            clear d1_0 d1_1 d1_2 d1_3 d1_4 d1_5 d1_6 d1_7 d1_8
            have d2_0 : w3.cell? ⟨w.heap.size, 0, none⟩ = some (.string s) := V2.cell 0
            have d2_1 : w3.cell? ⟨w.heap.size, 1, none⟩ = some (.int .i64 ba) := V2.cell 1
            have d2_2 : w3.cell? ⟨w.heap.size, 2, none⟩ = some (.int .i64 tp) := V2.cell 2
            have d2_3 : w3.cell? ⟨w.heap.size, 3, none⟩ = some (.int .i64 ji) := V2.cell 3
            have d2_4 : w3.cell? ⟨w.heap.size, 4, none⟩ = some (.int .i64 tr) := V2.cell 4
            have d2_5 : w3.cell? ⟨w.heap.size, 5, none⟩ = some (.int .i64 fa) := V2.cell 5
            have d2_6 : w3.cell? ⟨w.heap.size, 6, none⟩ = some (.int .i64 op) := V2.cell 6
            have d2_7 : w3.cell? ⟨w.heap.size, 7, none⟩ = some (.int .i64 bu) := V2.cell 7
            have d2_8 : w3.cell? ⟨w.heap.size, 8, none⟩ = some (.int .i64 ev) := V2.cell 8
            go_wp2_with fail
            refine (HT _).mono ?_
            rintro e wt ⟨rfl, rfl⟩
            go_wp2_with fail
            refine (HF _).mono ?_
            rintro e w5 ⟨rfl, B4⟩
            have V4 := V2.keep B4 (Nat.le_refl _)
            have C4 := C2.trans (B4.mono C2.size)
            clear d2_0 d2_1 d2_2 d2_3 d2_4 d2_5 d2_6 d2_7 d2_8
            have d4_0 : w5.cell? ⟨w.heap.size, 0, none⟩ = some (.string s) := V4.cell 0
            have d4_1 : w5.cell? ⟨w.heap.size, 1, none⟩ = some (.int .i64 ba) := V4.cell 1
            have d4_2 : w5.cell? ⟨w.heap.size, 2, none⟩ = some (.int .i64 tp) := V4.cell 2
            have d4_3 : w5.cell? ⟨w.heap.size, 3, none⟩ = some (.int .i64 ji) := V4.cell 3
            have d4_4 : w5.cell? ⟨w.heap.size, 4, none⟩ = some (.int .i64 tr) := V4.cell 4
            have d4_5 : w5.cell? ⟨w.heap.size, 5, none⟩ = some (.int .i64 fa) := V4.cell 5
            have d4_6 : w5.cell? ⟨w.heap.size, 6, none⟩ = some (.int .i64 op) := V4.cell 6
            have d4_7 : w5.cell? ⟨w.heap.size, 7, none⟩ = some (.int .i64 bu) := V4.cell 7
            have d4_8 : w5.cell? ⟨w.heap.size, 8, none⟩ = some (.int .i64 ev) := V4.cell 8
            go_wp2_with fail
            refine (HU _).mono ?_
            rintro e w6 ⟨rfl, B5⟩
            have V5 := V4.keep B5 (Nat.le_refl _)
            have C5 := C4.trans (B5.mono C4.size)
            clear d4_0 d4_1 d4_2 d4_3 d4_4 d4_5 d4_6 d4_7 d4_8
            have d5_0 : w6.cell? ⟨w.heap.size, 0, none⟩ = some (.string s) := V5.cell 0
            have d5_1 : w6.cell? ⟨w.heap.size, 1, none⟩ = some (.int .i64 ba) := V5.cell 1
            have d5_2 : w6.cell? ⟨w.heap.size, 2, none⟩ = some (.int .i64 tp) := V5.cell 2
            have d5_3 : w6.cell? ⟨w.heap.size, 3, none⟩ = some (.int .i64 ji) := V5.cell 3
            have d5_4 : w6.cell? ⟨w.heap.size, 4, none⟩ = some (.int .i64 tr) := V5.cell 4
            have d5_5 : w6.cell? ⟨w.heap.size, 5, none⟩ = some (.int .i64 fa) := V5.cell 5
            have d5_6 : w6.cell? ⟨w.heap.size, 6, none⟩ = some (.int .i64 op) := V5.cell 6
            have d5_7 : w6.cell? ⟨w.heap.size, 7, none⟩ = some (.int .i64 bu) := V5.cell 7
            have d5_8 : w6.cell? ⟨w.heap.size, 8, none⟩ = some (.int .i64 ev) := V5.cell 8
            go_wp2_with fail
            go_ret
            exact ⟨retB (by rw [HR.out]; rfl), C5⟩
end Go.Proofs.YtbihaoibmkdfjaaGreatDoor
namespace Go.Proofs.YtbihaoibmkdfjaaGreatDoor
open Go.RowKit Go.Shelf
set_option linter.unusedVariables false

set_option maxRecDepth 100000 in
set_option maxHeartbeats 1600000 in
theorem here_c (r : R9) (s : ByteArray) (c : Nat) (w : World) (hc : w.cell? ⟨c, 0, none⟩ = some (.string s)) :
    Calls Tryz.prog 81 #[aggR r, .pointer (some ⟨c, 0, none⟩)] w fun e w' => e = .returned (.bool (decide (r.nm = s))) ∧ Below w.heap.size w w' := by
  obtain ⟨x, ba, tp, ji, tr, fa, op, bu, ev⟩ := r
  dsimp only [aggR]
  have hq : (x.toList == s.toList) = decide (x = s) := by
    by_cases h : x = s
    · subst h; simp
    · rw [decide_eq_false h]
      have : x.toList ≠ s.toList := fun e => h (toList_inj e)
      simpa using this
  generalize decide (x = s) = b at *
  have hca := keepR (below_alloc w (.cells #[.string x, .int .i64 ba, .int .i64 tp, .int .i64 ji, .int .i64 tr, .int .i64 fa, .int .i64 op, .int .i64 bu, .int .i64 ev] 52)) hc
  have V0 := Vals.new w 52 #[.string x, .int .i64 ba, .int .i64 tp, .int .i64 ji, .int .i64 tr, .int .i64 fa, .int .i64 op, .int .i64 bu, .int .i64 ev]
  have B0 := below_alloc w (.cells #[.string x, .int .i64 ba, .int .i64 tp, .int .i64 ji, .int .i64 tr, .int .i64 fa, .int .i64 op, .int .i64 bu, .int .i64 ev] 52)
  go_enter Tryz.func81, Tryz.ntmps81
  go_upto_region 1 with fail
  generalize w.alloc (.cells #[.string x, .int .i64 ba, .int .i64 tp, .int .i64 ji, .int .i64 tr, .int .i64 fa, .int .i64 op, .int .i64 bu, .int .i64 ev] 52) = w1 at *
  have c0 : w1.cell? ⟨w.heap.size, 0, none⟩ = some (.string x) := V0.cell 0
  go_wp2_with fail
  go_ret
  exact ⟨rfl, B0⟩
theorem enter_here : ∀ args w, (callFunc 81 args).run Tryz.prog w = .ok (.enter 81 args) w := enters_of Tryz.func81 (by kernel_rfl) rfl
set_option maxRecDepth 100000 in
set_option maxHeartbeats 1600000 in
theorem idxR_c (s : ByteArray) (c : Nat) (oa : Option Addr) (n cap : Nat) (l : List R9) (w : World) (h : Rs w oa n cap l) (hn : n ≤ 1000000) (hc : w.cell? ⟨c, 0, none⟩ = some (.string s)) :
    Calls Tryz.prog 80 #[.slice oa n cap, .func (.func 81) #[] #[.pointer (some ⟨c, 0, none⟩)]] w fun e w' => e = .returned (.int .i64 (placeN l s)) ∧ Below w.heap.size w w' := by
  have HL := Lib.hid h.len
  have hr := h.room
  have eg := enter_here
  have HT := fun r W (B : Below w.heap.size w W) => here_c r s c W (keepR B hc)
  go_enter Tryz.func80, Tryz.ntmps80
  go_wp2_with fail
  go_loopw [5, 8] (fun _ s8 wr => ∃ k : Nat, k ≤ n ∧ s8 = .int .i64 k ∧ Below w.heap.size w wr ∧ Hid (∀ i, i < k → (l.getD i zR).nm ≠ s)) (fun _ s8 _ => n - (intOf s8).toNat)
  case atStart => exact ⟨0, Nat.zero_le _, rfl, Below.refl _ _, fun i hi => absurd hi (by omega)⟩
  case round =>
    obtain ⟨k, hk, rfl, hB, HA⟩ := hrel
    by_cases hlt : k < n
    · obtain ⟨g, o, rfl, c0, c1, c2, c3, c4, c5, c6, c7, c8⟩ := (h.below hB (Nat.le_refl _)).nine k hlt
      have HH : Hid ((l.getD k zR).nm = s → placeN l s = (k : Int)) := fun e => placeN_hit k (by rw [HL.out]; exact hlt) HA.out e
      have HQ : Hid ((l.getD k zR).nm ≠ s → ∀ i, i < k + 1 → (l.getD i zR).nm ≠ s) := fun e i hi => by
        by_cases e2 : i = k
        · subst e2; exact e
        · exact HA.out i (by omega)
      have HC := HT (l.getD k zR) _ hB
      generalize l.getD k zR = r at *
      obtain ⟨x, ba, tp, ji, tr, fa, op, bu, ev⟩ := r
      dsimp only [aggR] at c0 c1 c2 c3 c4 c5 c6 c7 c8 HH HQ HC
      clear h HA HT hc
      by_cases he : x = s
      · have HX := Lib.hid (HH.out he)
        rw [decide_eq_true he] at HC
        clear HH HQ he
        go_wp2_with fail
        refine HC.mono ?_
        rintro e w2 ⟨rfl, B2⟩
        go_wp2_with fail
        go_ret
        exact ⟨retI HX.out.symm, hB.trans (B2.mono hB.size)⟩
      · have HX := Lib.hid (HQ.out he)
        rw [decide_eq_false he] at HC
        clear HH HQ he
        go_wp2_with fail
        refine HC.mono ?_
        rintro e w2 ⟨rfl, B2⟩
        have B3 := hB.trans (B2.mono hB.size)
        go_wp2_with fail
        go_roundw
        case rel => exact ⟨k + 1, by omega, by go_num, B3, HX⟩
        case measure => simp [intOf]; omega
    · obtain rfl : k = n := by omega
      have HX := Lib.hid (placeN_none (l := l) (s := s) (fun i hi => HA.out i (by rw [HL.out] at hi; exact hi)))
      clear h HA HT hc
      go_wp2_with fail
      go_ret
      exact ⟨retI HX.out.symm, hB⟩
set_option maxRecDepth 100000 in
set_option maxHeartbeats 800000 in
theorem place_c (s : ByteArray) (oa : Option Addr) (n cap : Nat) (l : List R9) (w : World) (h : Rs w oa n cap l) (hn : n ≤ 1000000) :
    Calls Tryz.prog 50 #[.string s, .slice oa n cap] w fun e w' => e = .returned (.int .i64 (placeN l s)) ∧ Below w.heap.size w w' := by
  have V0 := Vals.new w 9 #[.string s]
  have B0 := below_alloc w (.cells #[.string s] 9)
  have HI := idxR_c s w.heap.size oa n cap l _ (h.below B0 (Nat.le_refl _)) hn (V0.cell 0)
  obtain ⟨p, hp⟩ : ∃ p, p = placeN l s := ⟨_, rfl⟩
  rw [← hp] at HI ⊢
  have hmf : ∀ (fn : Fn) (first cap : Array Value) (w : World), (Instr.makeFunc fn first cap).run Tryz.prog w = .ok (.func fn first cap) w := fun _ _ _ _ => rfl
  clear h hp
  go_enter Tryz.func50, Tryz.ntmps50
  go_upto_region 1 with fail
  generalize w.alloc (.cells #[.string s] 9) = w1 at *
  go_wp2_with fail
  refine HI.mono ?_
  rintro e w2 ⟨rfl, B2⟩
  go_wp2_with fail
  go_ret
  exact ⟨rfl, B0.trans (B2.mono B0.size)⟩
theorem placeN_self (l : List R9) : (l.map R9.nm).Nodup ↔ ∀ i, i < l.length → placeN l (l.getD i zR).nm = (i : Int) := by
  constructor
  · intro h i hi
    refine placeN_hit i hi (fun j hj => ?_) rfl
    rw [getD_R l i hi, getD_R l j (by omega)]
    have := (List.pairwise_iff_getElem.1 h) j i (by simp; omega) (by simpa using hi) (by omega)
    simpa using this
  · intro h
    refine List.pairwise_iff_getElem.2 fun i j hi hj hij => ?_
    have hi' : i < l.length := by simpa using hi
    have hj' : j < l.length := by simpa using hj
    intro e
    have e2 : l[i].nm = l[j].nm := by simpa using e
    have hp := h j hj'
    unfold placeN at hp
    cases hf : l.findIdx? fun r => decide (r.nm = (l.getD j zR).nm) with
    | none => rw [hf] at hp; simp at hp
    | some k =>
      rw [hf] at hp
      have hk : k = j := by
        have h2 : (k : Int) = (j : Int) := by simpa using hp
        omega
      subst hk
      rw [List.findIdx?_eq_some_iff_getElem] at hf
      obtain ⟨_, _, h3⟩ := hf
      have := h3 i hij
      rw [getD_R l k hj'] at this
      simp [e2] at this
def rcvsB (l : List R9) : Bool := numberB l.length && (l.all rcvR && decide (l.map R9.nm).Nodup)
theorem rcvsB_iff (l : List R9) : rcvsB l = true ↔ numberB l.length = true ∧ ∀ i, i < l.length → rcvR (l.getD i zR) = true ∧ placeN l (l.getD i zR).nm = (i : Int) := by
  unfold rcvsB
  simp only [Bool.and_eq_true, decide_eq_true_eq, List.all_eq_true]
  rw [placeN_self]
  constructor
  · rintro ⟨h1, h2, h3⟩
    exact ⟨h1, fun i hi => ⟨h2 _ (mem_R _ i hi), h3 i hi⟩⟩
  · rintro ⟨h1, h2⟩
    refine ⟨h1, fun r hr => ?_, fun i hi => (h2 i hi).2⟩
    obtain ⟨i, hi, rfl⟩ := List.getElem_of_mem hr
    have := (h2 i hi).1
    rwa [getD_R _ i hi] at this
theorem number_in (n : Nat) : numberB n = inC (n : Int) 1 4 := by
  unfold numberB inC
  rw [Bool.eq_iff_iff]
  simp only [Bool.and_eq_true, decide_eq_true_eq]
  omega
set_option maxRecDepth 100000 in
set_option maxHeartbeats 3200000 in
theorem rcvs_c (oa : Option Addr) (n cap : Nat) (l : List R9) (w : World) (h : Rs w oa n cap l) (hn : n ≤ 1000000) :
    Calls Tryz.prog 25 #[.slice oa n cap] w fun e w' => e = .returned (.bool (rcvsB l)) ∧ Below w.heap.size w w' := by
  have HL := Lib.hid h.len
  have hr := h.room
  have HI := Lib.hid (rcvsB_iff l)
  have HW := fun r w (hr : r = inC (n : Int) 1 4) => within_ci n 1 4 r w hr
  have hnb := number_in n
  cases hb : numberB n with
  | false =>
    have HF : Hid (rcvsB l = false) := by
      show _ = _
      unfold rcvsB
      rw [HL.out, hb]
      rfl
    have HQ := fun w => HW false w (by rw [← hnb, hb])
    clear HI HW hnb hb h
    go_enter Tryz.func25, Tryz.ntmps25
    go_wp2_with fail
    refine (HQ _).mono ?_
    rintro e w2 ⟨rfl, rfl⟩
    go_wp2_with fail
    go_ret
    exact ⟨retB HF.out.symm, Below.refl _ _⟩
  | true =>
    have HQ := fun w => HW true w (by rw [← hnb, hb])
    have HN : Hid ((∀ i, i < n → rcvR (l.getD i zR) = true ∧ placeN l (l.getD i zR).nm = (i : Int)) → rcvsB l = true) := fun h => HI.out.2 ⟨by rw [HL.out, hb], fun i hi => h i (by rw [← HL.out]; exact hi)⟩
    have HF : Hid (∀ k, k < n → (rcvR (l.getD k zR) = false ∨ placeN l (l.getD k zR).nm ≠ (k : Int)) → rcvsB l = false) := fun k hk h => by
      cases hb2 : rcvsB l with
      | false => rfl
      | true =>
        have := (HI.out.1 hb2).2 k (by rw [HL.out]; exact hk)
        rcases h with h | h
        · rw [h] at this; exact absurd this.1 (by simp)
        · exact absurd this.2 h
    clear HI HW hnb hb
    go_enter Tryz.func25, Tryz.ntmps25
    go_wp2_with fail
    refine (HQ _).mono ?_
    rintro e w2 ⟨rfl, rfl⟩
    clear HQ
    go_wp2_with fail
    go_loopw [11] (fun s11 wr => ∃ k : Nat, k ≤ n ∧ s11 = .int .i64 k ∧ Below w.heap.size w wr ∧ Hid (∀ i, i < k → rcvR (l.getD i zR) = true ∧ placeN l (l.getD i zR).nm = (i : Int))) (fun s11 _ => n - (intOf s11).toNat)
    case atStart => exact ⟨0, Nat.zero_le _, rfl, Below.refl _ _, fun i hi => absurd hi (by omega)⟩
    case round =>
      obtain ⟨k, hk, rfl, hB, HA⟩ := hrel
      by_cases hlt : k < n
      · have hRr := h.below hB (Nat.le_refl _)
        obtain ⟨g, o, rfl, c0, c1, c2, c3, c4, c5, c6, c7, c8⟩ := hRr.nine k hlt
        have HNo := Lib.hid (HF.out k hlt)
        have HYes : Hid (rcvR (l.getD k zR) = true → placeN l (l.getD k zR).nm = (k : Int) → ∀ i, i < k + 1 → rcvR (l.getD i zR) = true ∧ placeN l (l.getD i zR).nm = (i : Int)) := fun h1 h2 i hi => by
          by_cases e : i = k
          · subst e; exact ⟨h1, h2⟩
          · exact HA.out i (by omega)
        have HRc := fun w => rcv_c (l.getD k zR) w
        have HPl := fun wx (B : Below wr.heap.size wr wx) => place_c (l.getD k zR).nm (some ⟨g, o, none⟩) n cap l wx (hRr.below B (Nat.le_refl _)) hn
        clear HA HF hRr h
        obtain ⟨rr, hrr⟩ : ∃ rr, rr = rcvR (l.getD k zR) := ⟨_, rfl⟩
        obtain ⟨P, hP⟩ : ∃ P, P = placeN l (l.getD k zR).nm := ⟨_, rfl⟩
        simp only [← hrr] at HRc HNo HYes
        simp only [← hP] at HPl HNo HYes
        clear hrr hP
        generalize l.getD k zR = r at *
        obtain ⟨x, ba, tp, ji, tr, fa, op, bu, ev⟩ := r
        dsimp only at c0 c1 c2 c3 c4 c5 c6 c7 c8 HPl
        dsimp only [aggR] at HRc
        have VB := Vals.new wr 52 #[.string x, .int .i64 ba, .int .i64 tp, .int .i64 ji, .int .i64 tr, .int .i64 fa, .int .i64 op, .int .i64 bu, .int .i64 ev]
        have B3 := hB.alloc hB.size (.cells #[.string x, .int .i64 ba, .int .i64 tp, .int .i64 ji, .int .i64 tr, .int .i64 fa, .int .i64 op, .int .i64 bu, .int .i64 ev] 52)
        have B13 := below_alloc wr (.cells #[.string x, .int .i64 ba, .int .i64 tp, .int .i64 ji, .int .i64 tr, .int .i64 fa, .int .i64 op, .int .i64 bu, .int .i64 ev] 52)
        go_upto_region 6 with fail
        clear c0 c1 c2 c3 c4 c5 c6 c7 c8
        obtain ⟨N, hN⟩ : ∃ N, N = wr.heap.size := ⟨_, rfl⟩
        rw [← hN] at VB ⊢
        have HNs := Lib.hid hN
        clear hN
        generalize wr.alloc (.cells #[.string x, .int .i64 ba, .int .i64 tp, .int .i64 ji, .int .i64 tr, .int .i64 fa, .int .i64 op, .int .i64 bu, .int .i64 ev] 52) = w3 at *
        have d0 : w3.cell? ⟨N, 0, none⟩ = some (.string x) := VB.cell 0
        have d1 : w3.cell? ⟨N, 1, none⟩ = some (.int .i64 ba) := VB.cell 1
        have d2 : w3.cell? ⟨N, 2, none⟩ = some (.int .i64 tp) := VB.cell 2
        have d3 : w3.cell? ⟨N, 3, none⟩ = some (.int .i64 ji) := VB.cell 3
        have d4 : w3.cell? ⟨N, 4, none⟩ = some (.int .i64 tr) := VB.cell 4
        have d5 : w3.cell? ⟨N, 5, none⟩ = some (.int .i64 fa) := VB.cell 5
        have d6 : w3.cell? ⟨N, 6, none⟩ = some (.int .i64 op) := VB.cell 6
        have d7 : w3.cell? ⟨N, 7, none⟩ = some (.int .i64 bu) := VB.cell 7
        have d8 : w3.cell? ⟨N, 8, none⟩ = some (.int .i64 ev) := VB.cell 8
        cases rr with
        | false =>
          have HX := Lib.hid (HNo.out (.inl rfl))
          clear HNo HYes HPl
          go_wp2_with fail
          refine (HRc _).mono ?_
          rintro e w4 ⟨rfl, B4⟩
          go_wp2_with fail
          go_ret
          exact ⟨retB HX.out.symm, B3.trans (B4.mono B3.size)⟩
        | true =>
          go_wp2_with fail
          refine (HRc _).mono ?_
          rintro e w4 ⟨rfl, B4⟩
          have V4 := VB.keep B4 (Nat.le_refl _)
          have e0 : w4.cell? ⟨N, 0, none⟩ = some (.string x) := V4.cell 0
          have B5 := B3.trans (B4.mono B3.size)
          have HP2 := HPl w4 (B13.trans (B4.mono B13.size))
          clear HPl HRc d0 d1 d2 d3 d4 d5 d6 d7 d8
          by_cases hp : P = (k : Int)
          · have HX := Lib.hid (HYes.out (by first | rfl | trivial) hp)
            have hq : (P != (k : Int)) = false := by simp [hp]
            clear HNo HYes hp
            go_wp2_with fail
            refine HP2.mono ?_
            rintro e w6 ⟨rfl, B6⟩
            have B7 := B5.trans (B6.mono B5.size)
            go_wp2_with fail
            go_roundw
            case rel => exact ⟨k + 1, by omega, by go_num, B7, HX⟩
            case measure => simp [intOf]; omega
          · have HX := Lib.hid (HNo.out (.inr hp))
            have hq : (P != (k : Int)) = true := by simp [hp]
            clear HNo HYes hp
            go_wp2_with fail
            refine HP2.mono ?_
            rintro e w6 ⟨rfl, B6⟩
            have B7 := B5.trans (B6.mono B5.size)
            go_wp2_with fail
            go_ret
            exact ⟨retB HX.out.symm, B7⟩
      · obtain rfl : k = n := by omega
        have HX := Lib.hid (HN.out HA.out)
        clear h HA HF HN
        go_wp2_with fail
        go_ret
        exact ⟨retB HX.out.symm, hB⟩
end Go.Proofs.YtbihaoibmkdfjaaGreatDoor
