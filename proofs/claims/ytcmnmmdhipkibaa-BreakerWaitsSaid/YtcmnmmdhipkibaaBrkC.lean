/-
  Breakers: New, Ask, Told, one contract each for each way.
-/
import Derived.Test.YtcmnmmdhipkibaaBrkB
namespace Go.Proofs.Ytcmnmmdhipkibaa
open Go.RowKit
set_option linter.unusedVariables false

namespace Brk
theorem right_iff (F O S C U : Int) : rightB F O S C U = true ↔ 1 ≤ F ∧ F ≤ 100 ∧ 1 ≤ O ∧ O ≤ 1048576 ∧ stB F S C U = true := by
  unfold rightB
  rw [Bool.and_eq_true, Bool.and_eq_true, in_iff, in_iff]
  simp only [and_assoc]
theorem ask_iff (F O S C U now : Int) : askB F O S C U now = true ↔ rightB F O S C U = true ∧ 0 ≤ now ∧ now ≤ 1099511627776 := by
  unfold askB timeB
  simp
theorem st_iff (F S C U : Int) : stB F S C U = true ↔ (S = 0 ∧ 0 ≤ C ∧ C < F ∧ U = 0) ∨ (S = 1 ∧ C = 0 ∧ 0 ≤ U ∧ U ≤ 1099511627776) ∨ (S = 2 ∧ C = 0 ∧ U = 0) := by
  unfold stB inB timeB
  split
  · simp; omega
  · split
    · simp; omega
    · split
      · simp; omega
      · simp; omega
set_option maxHeartbeats 1600000 in
theorem new_yes (F O : Int) (w : World) (h : rightB F O 0 0 0 = true) :
    Calls Try.prog 4 #[.int .i64 F, .int .i64 O] w fun e w' => e = .returned (.tuple #[val F O 0 0 0, .int .i64 0]) ∧ Below w.heap.size w w' := by
  have H := Lib.hid h
  have hR := Var.new w 0 0 0 0 0
  clear h
  go_enter Try.func4, Try.ntmps4
  go_wp2_with fail
  refine (closed_any _ _ _ _ _ _).mono ?_
  rintro e w1 ⟨rfl, hB⟩
  have hR := hR.keep hB (Nat.le_refl _)
  have hB' := (below_alloc w _).trans (hB.mono (by simp))
  have hs := hB.size
  simp only [World.size_alloc] at hs
  clear hB
  go_wp2_with fail
  refine (right_is _ _ _ _ _ true _ H.out).mono ?_
  rintro e w2 ⟨rfl, hB2⟩
  have hR := (hR.alloc _).keep hB2 (Nat.le_refl _)
  have hV := (Var.new w1 F O 0 0 0).keep hB2 (Nat.le_refl _)
  have hB'' := (hB'.alloc (by omega) _).trans (hB2.mono (by simp; omega))
  clear hB2
  obtain ⟨a0, a1, a2, a3, a4⟩ := hV.at
  obtain ⟨r0, r1, r2, r3, r4⟩ := hR.at
  obtain ⟨f0, f1, f2, f3, f4⟩ := hR.frees
  go_wp2
  exact bodyPost_ret (ret2 rfl rfl rfl (hR.put _ _ _ _ _)) rfl ⟨rfl, put_below hB'' (by omega) _ _ _ _ _⟩
set_option maxHeartbeats 1600000 in
theorem new_no (F O : Int) (w : World) (h : rightB F O 0 0 0 = false) :
    Calls Try.prog 4 #[.int .i64 F, .int .i64 O] w fun e w' => e = .returned (.tuple #[val 0 0 0 0 0, .int .i64 1]) ∧ Below w.heap.size w w' := by
  have H := Lib.hid h
  have hR := Var.new w 0 0 0 0 0
  clear h
  go_enter Try.func4, Try.ntmps4
  go_wp2_with fail
  refine (closed_any _ _ _ _ _ _).mono ?_
  rintro e w1 ⟨rfl, hB⟩
  have hR := hR.keep hB (Nat.le_refl _)
  have hB' := (below_alloc w _).trans (hB.mono (by simp))
  have hs := hB.size
  simp only [World.size_alloc] at hs
  clear hB
  go_wp2_with fail
  refine (right_is _ _ _ _ _ false _ H.out).mono ?_
  rintro e w2 ⟨rfl, hB2⟩
  have hR := (hR.alloc _).keep hB2 (Nat.le_refl _)
  have hB'' := (hB'.alloc (by omega) _).trans (hB2.mono (by simp; omega))
  clear hB2
  obtain ⟨r0, r1, r2, r3, r4⟩ := hR.at
  obtain ⟨f0, f1, f2, f3, f4⟩ := hR.frees
  go_wp2
  exact bodyPost_ret (ret2 rfl rfl rfl (hR.put _ _ _ _ _)) rfl ⟨rfl, put_below hB'' (by omega) _ _ _ _ _⟩

set_option maxHeartbeats 1600000 in
theorem ask_no (F O S C U now : Int) (w : World) (h : askB F O S C U now = false) :
    Calls Try.prog 6 #[val F O S C U, .int .i64 now] w fun e w' => e = .returned (.tuple #[val 0 0 0 0 0, .bool false, .int .i64 1]) ∧ Below w.heap.size w w' := by
  have H := Lib.hid h
  have hR := Var.new1 w (.cells #[.int .i64 F, .int .i64 O, .int .i64 S, .int .i64 C, .int .i64 U] 24) 0 0 0 0 0
  clear h
  go_enter Try.func6, Try.ntmps6
  go_wp2_with fail
  refine (may_is _ _ _ _ _ _ false _ H.out).mono ?_
  rintro e w1 ⟨rfl, hB⟩
  have hR := hR.keep hB (Nat.le_refl _)
  have hB' := ((below_alloc w _).alloc (by simp) _).trans (hB.mono (by simp; omega))
  clear hB
  obtain ⟨r0, r1, r2, r3, r4⟩ := hR.at
  obtain ⟨f0, f1, f2, f3, f4⟩ := hR.frees
  go_wp2
  exact bodyPost_ret (ret3 rfl rfl rfl rfl (hR.put _ _ _ _ _)) rfl ⟨rfl, put_below hB' (by omega) _ _ _ _ _⟩
/-- the variables of Ask and Told behind the first call -/
theorem two_vars {w w1 : World} {F O S C U : Int} (hB : Below ((w.alloc (.cells #[.int .i64 F, .int .i64 O, .int .i64 S, .int .i64 C, .int .i64 U] 24)).alloc (.cells #[.int .i64 0, .int .i64 0, .int .i64 0, .int .i64 0, .int .i64 0] 24)).heap.size ((w.alloc (.cells #[.int .i64 F, .int .i64 O, .int .i64 S, .int .i64 C, .int .i64 U] 24)).alloc (.cells #[.int .i64 0, .int .i64 0, .int .i64 0, .int .i64 0, .int .i64 0] 24)) w1) :
    Var w1 w.heap.size F O S C U ∧ Var w1 (w.heap.size + 1) 0 0 0 0 0 ∧ Below w.heap.size w w1 :=
  ⟨((Var.new w F O S C U).alloc _).keep hB (Nat.le_refl _), (Var.new1 w _ 0 0 0 0 0).keep hB (Nat.le_refl _), ((below_alloc w _).alloc (by simp) _).trans (hB.mono (by simp; omega))⟩
/-- a closed one -/
theorem ask_closed (F O C now : Int) (w : World) (h : askB F O 0 C 0 now = true) :
    Calls Try.prog 6 #[val F O 0 C 0, .int .i64 now] w fun e w' => e = .returned (.tuple #[val F O 0 C 0, .bool true, .int .i64 0]) ∧ Below w.heap.size w w' := by
  have H := Lib.hid h
  clear h
  go_enter Try.func6, Try.ntmps6
  go_wp2_with fail
  refine (may_is _ _ _ _ _ _ true _ H.out).mono ?_
  rintro e w1 ⟨rfl, hB⟩
  obtain ⟨hV, hR, hB'⟩ := two_vars hB
  clear hB
  obtain ⟨a0, a1, a2, a3, a4⟩ := hV.at
  obtain ⟨r0, r1, r2, r3, r4⟩ := hR.at
  obtain ⟨f0, f1, f2, f3, f4⟩ := hR.frees
  go_wp2
  exact bodyPost_ret (ret3 rfl rfl rfl rfl (hR.put _ _ _ _ _)) rfl ⟨rfl, put_below hB' (by omega) _ _ _ _ _⟩
/-- a half open one -/
theorem ask_half (F O now : Int) (w : World) (h : askB F O 2 0 0 now = true) :
    Calls Try.prog 6 #[val F O 2 0 0, .int .i64 now] w fun e w' => e = .returned (.tuple #[val F O 2 0 0, .bool false, .int .i64 0]) ∧ Below w.heap.size w w' := by
  have H := Lib.hid h
  clear h
  go_enter Try.func6, Try.ntmps6
  go_wp2_with fail
  refine (may_is _ _ _ _ _ _ true _ H.out).mono ?_
  rintro e w1 ⟨rfl, hB⟩
  obtain ⟨hV, hR, hB'⟩ := two_vars hB
  clear hB
  obtain ⟨a0, a1, a2, a3, a4⟩ := hV.at
  obtain ⟨r0, r1, r2, r3, r4⟩ := hR.at
  obtain ⟨f0, f1, f2, f3, f4⟩ := hR.frees
  go_wp2
  exact bodyPost_ret (ret3 rfl rfl rfl rfl (hR.put _ _ _ _ _)) rfl ⟨rfl, put_below hB' (by omega) _ _ _ _ _⟩
/-- an open one whose time has not come -/
theorem ask_wait (F O U now : Int) (w : World) (h : askB F O 1 0 U now = true) (hn : now < U) :
    Calls Try.prog 6 #[val F O 1 0 U, .int .i64 now] w fun e w' => e = .returned (.tuple #[val F O 1 0 U, .bool false, .int .i64 0]) ∧ Below w.heap.size w w' := by
  have H := Lib.hid h
  clear h
  go_enter Try.func6, Try.ntmps6
  go_wp2_with fail
  refine (may_is _ _ _ _ _ _ true _ H.out).mono ?_
  rintro e w1 ⟨rfl, hB⟩
  obtain ⟨hV, hR, hB'⟩ := two_vars hB
  clear hB
  obtain ⟨a0, a1, a2, a3, a4⟩ := hV.at
  obtain ⟨r0, r1, r2, r3, r4⟩ := hR.at
  obtain ⟨f0, f1, f2, f3, f4⟩ := hR.frees
  go_wp2
  exact bodyPost_ret (ret3 rfl rfl rfl rfl (hR.put _ _ _ _ _)) rfl ⟨rfl, put_below hB' (by omega) _ _ _ _ _⟩
/-- an open one whose time has come -/
theorem ask_come (F O U now : Int) (w : World) (h : askB F O 1 0 U now = true) (hn : ¬ now < U) :
    Calls Try.prog 6 #[val F O 1 0 U, .int .i64 now] w fun e w' => e = .returned (.tuple #[val F O 2 0 0, .bool true, .int .i64 0]) ∧ Below w.heap.size w w' := by
  have H := Lib.hid h
  clear h
  go_enter Try.func6, Try.ntmps6
  go_wp2_with fail
  refine (may_is _ _ _ _ _ _ true _ H.out).mono ?_
  rintro e w1 ⟨rfl, hB⟩
  obtain ⟨hV, hR, hB'⟩ := two_vars hB
  clear hB
  obtain ⟨a0, a1, a2, a3, a4⟩ := hV.at
  obtain ⟨b0, b1, b2, b3, b4⟩ := hV.frees
  obtain ⟨r0, r1, r2, r3, r4⟩ := hR.at
  obtain ⟨f0, f1, f2, f3, f4⟩ := hR.frees
  have hR2 : Var ((w1.setCell ⟨w.heap.size, 2, none⟩ (.int .i64 2)).setCell ⟨w.heap.size, 4, none⟩ (.int .i64 0)) (w.heap.size + 1) 0 0 0 0 0 := (Vals.other hR (by omega) _ _).other (by omega) _ _
  have hB2 : Below w.heap.size w ((w1.setCell ⟨w.heap.size, 2, none⟩ (.int .i64 2)).setCell ⟨w.heap.size, 4, none⟩ (.int .i64 0)) := (hB'.setCell (Nat.le_refl _) _).setCell (Nat.le_refl _) _
  go_wp2
  exact bodyPost_ret (ret3 rfl rfl rfl rfl (hR2.put _ _ _ _ _)) rfl ⟨rfl, put_below hB2 (by omega) _ _ _ _ _⟩

set_option maxHeartbeats 1600000 in
theorem told_no (F O S C U now : Int) (ok : Bool) (w : World) (h : askB F O S C U now = false) :
    Calls Try.prog 7 #[val F O S C U, .int .i64 now, .bool ok] w fun e w' => e = .returned (.tuple #[val 0 0 0 0 0, .int .i64 1]) ∧ Below w.heap.size w w' := by
  have H := Lib.hid h
  clear h
  go_enter Try.func7, Try.ntmps7
  go_wp2_with fail
  refine (may_is _ _ _ _ _ _ false _ H.out).mono ?_
  rintro e w1 ⟨rfl, hB⟩
  obtain ⟨hV, hR, hB'⟩ := two_vars hB
  clear hB
  obtain ⟨r0, r1, r2, r3, r4⟩ := hR.at
  obtain ⟨f0, f1, f2, f3, f4⟩ := hR.frees
  go_wp2
  exact bodyPost_ret (ret2 rfl rfl rfl (hR.put _ _ _ _ _)) rfl ⟨rfl, put_below hB' (by omega) _ _ _ _ _⟩
/-- an open one -/
theorem told_open (F O U now : Int) (ok : Bool) (w : World) (h : askB F O 1 0 U now = true) :
    Calls Try.prog 7 #[val F O 1 0 U, .int .i64 now, .bool ok] w fun e w' => e = .returned (.tuple #[val 0 0 0 0 0, .int .i64 6]) ∧ Below w.heap.size w w' := by
  have H := Lib.hid h
  clear h
  go_enter Try.func7, Try.ntmps7
  go_wp2_with fail
  refine (may_is _ _ _ _ _ _ true _ H.out).mono ?_
  rintro e w1 ⟨rfl, hB⟩
  obtain ⟨hV, hR, hB'⟩ := two_vars hB
  clear hB
  obtain ⟨a0, a1, a2, a3, a4⟩ := hV.at
  obtain ⟨r0, r1, r2, r3, r4⟩ := hR.at
  obtain ⟨f0, f1, f2, f3, f4⟩ := hR.frees
  go_wp2
  exact bodyPost_ret (ret2 rfl rfl rfl (hR.put _ _ _ _ _)) rfl ⟨rfl, put_below hB' (by omega) _ _ _ _ _⟩
set_option maxHeartbeats 800000 in
/-- a closed one that counts one more -/
theorem told_count (F O C now : Int) (w : World) (h : askB F O 0 C 0 now = true) (hc0 : 0 ≤ C) (hc : C + 1 < F) (hF : F ≤ 100) :
    Calls Try.prog 7 #[val F O 0 C 0, .int .i64 now, .bool false] w fun e w' => e = .returned (.tuple #[val F O 0 (C + 1) 0, .int .i64 0]) ∧ Below w.heap.size w w' := by
  have H := Lib.hid h
  clear h
  go_enter Try.func7, Try.ntmps7
  go_wp2_with fail
  refine (may_is _ _ _ _ _ _ true _ H.out).mono ?_
  rintro e w1 ⟨rfl, hB⟩
  obtain ⟨hV, hR, hB'⟩ := two_vars hB
  clear hB
  obtain ⟨a0, a1, a2, a3, a4⟩ := hV.at
  obtain ⟨b0, b1, b2, b3, b4⟩ := hV.frees
  obtain ⟨r0, r1, r2, r3, r4⟩ := hR.at
  obtain ⟨f0, f1, f2, f3, f4⟩ := hR.frees
  have hR2 : Var (w1.setCell ⟨w.heap.size, 3, none⟩ (.int .i64 (C + 1))) (w.heap.size + 1) 0 0 0 0 0 := Vals.other hR (by omega) _ _
  have hB2 : Below w.heap.size w (w1.setCell ⟨w.heap.size, 3, none⟩ (.int .i64 (C + 1))) := hB'.setCell (Nat.le_refl _) _
  go_wp2
  exact bodyPost_ret (ret2 rfl rfl rfl (hR2.put _ _ _ _ _)) rfl ⟨rfl, put_below hB2 (by omega) _ _ _ _ _⟩
end Brk
end Go.Proofs.Ytcmnmmdhipkibaa
