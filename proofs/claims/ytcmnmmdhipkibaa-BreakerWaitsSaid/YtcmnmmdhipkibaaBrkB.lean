/-
  Breakers: closed, opened, settled, one contract each.
-/
import Derived.Test.YtcmnmmdhipkibaaBrkA
namespace Go.Proofs.Ytcmnmmdhipkibaa
open Go.RowKit
set_option linter.unusedVariables false

namespace Brk
theorem Var.alloc {w : World} {A : Nat} {F O S C U : Int} (h : Var w A F O S C U) (o : Obj) : Var (w.alloc o) A F O S C U := Vals.alloc h o
theorem Var.new1 (w : World) (o : Obj) (F O S C U : Int) : Var ((w.alloc o).alloc (.cells #[.int .i64 F, .int .i64 O, .int .i64 S, .int .i64 C, .int .i64 U] 24)) (w.heap.size + 1) F O S C U := by
  have h := Var.new (w.alloc o) F O S C U
  simpa using h
theorem Var.frees {w : World} {A : Nat} {F O S C U : Int} (h : Var w A F O S C U) :
    w.frozen? ⟨A, 0, none⟩ = false ∧ w.frozen? ⟨A, 1, none⟩ = false ∧ w.frozen? ⟨A, 2, none⟩ = false ∧ w.frozen? ⟨A, 3, none⟩ = false ∧ w.frozen? ⟨A, 4, none⟩ = false := ⟨h.free 0, h.free 1, h.free 2, h.free 3, h.free 4⟩
set_option maxHeartbeats 800000 in
theorem closed_any (F O S C U : Int) (w : World) :
    Calls Try.prog 8 #[val F O S C U] w fun e w' => e = .returned (val F O 0 0 0) ∧ Below w.heap.size w w' := by
  go_enter Try.func8, Try.ntmps8
  go_wp2
  exact bodyPost_ret (ret1 rfl rfl (Var.new1 _ _ _ _ _ _ _)) rfl ⟨rfl, (below_alloc w _).alloc (by simp) _⟩
set_option maxHeartbeats 800000 in
theorem opened_any (F O S C U now V : Int) (w : World) (hV : V = addT now O) (h0 : 0 ≤ now) (h1 : now ≤ 1099511627776) (hO1 : 1 ≤ O) (hO2 : O ≤ 1048576) :
    Calls Try.prog 15 #[val F O S C U, .int .i64 now] w fun e w' => e = .returned (val F O 1 0 V) ∧ Below w.heap.size w w' := by
  have HV := Lib.hid hV
  clear hV
  have hA := (Var.new w F O S C U).alloc (.cells #[.int .i64 0, .int .i64 0, .int .i64 0, .int .i64 0, .int .i64 0] 24)
  have hR := Var.new1 w (.cells #[.int .i64 F, .int .i64 O, .int .i64 S, .int .i64 C, .int .i64 U] 24) 0 0 0 0 0
  go_enter Try.func15, Try.ntmps15
  go_wp2_with fail
  refine (add_is _ _ V _ HV.out h0 h1 (by omega) (by omega)).mono ?_
  rintro e w' ⟨rfl, hB⟩
  have hA := hA.keep hB (Nat.le_refl _)
  have hR := hR.keep hB (Nat.le_refl _)
  obtain ⟨a0, a1, a2, a3, a4⟩ := hA.at
  obtain ⟨r0, r1, r2, r3, r4⟩ := hR.at
  obtain ⟨f0, f1, f2, f3, f4⟩ := hR.frees
  have hB' := ((below_alloc w _).alloc (by simp) _).trans (hB.mono (by simp; omega))
  clear hB
  go_wp2
  exact bodyPost_ret (ret1 rfl rfl (hR.put _ _ _ _ _)) rfl ⟨rfl, put_below hB' (by omega) _ _ _ _ _⟩
/-- what a try makes of a breaker that it settles -/
def setU (O now : Int) (ok : Bool) : Int := if ok then 0 else addT now O
def setS (ok : Bool) : Int := if ok then 0 else 1
set_option maxHeartbeats 800000 in
theorem settled_any (F O S C U now s u : Int) (ok : Bool) (w : World) (hs : s = setS ok) (hu : u = setU O now ok) (h0 : 0 ≤ now) (h1 : now ≤ 1099511627776) (hO1 : 1 ≤ O) (hO2 : O ≤ 1048576) :
    Calls Try.prog 11 #[val F O S C U, .int .i64 now, .bool ok] w fun e w' => e = .returned (val F O s 0 u) ∧ Below w.heap.size w w' := by
  have hA := (Var.new w F O S C U).alloc (.cells #[.int .i64 0, .int .i64 0, .int .i64 0, .int .i64 0, .int .i64 0] 24)
  have hR := Var.new1 w (.cells #[.int .i64 F, .int .i64 O, .int .i64 S, .int .i64 C, .int .i64 U] 24) 0 0 0 0 0
  cases ok with
  | true =>
    obtain rfl : s = 0 := hs
    obtain rfl : u = 0 := hu
    go_enter Try.func11, Try.ntmps11
    go_wp2_with fail
    refine (closed_any _ _ _ _ _ _).mono ?_
    rintro e w' ⟨rfl, hB⟩
    have hR := hR.keep hB (Nat.le_refl _)
    obtain ⟨r0, r1, r2, r3, r4⟩ := hR.at
    obtain ⟨f0, f1, f2, f3, f4⟩ := hR.frees
    have hB' := ((below_alloc w _).alloc (by simp) _).trans (hB.mono (by simp; omega))
    clear hB
    go_wp2
    exact bodyPost_ret (ret1 rfl rfl (hR.put _ _ _ _ _)) rfl ⟨rfl, put_below hB' (by omega) _ _ _ _ _⟩
  | false =>
    obtain rfl : s = 1 := hs
    have HU : Hid (u = addT now O) := hu
    clear hu
    go_enter Try.func11, Try.ntmps11
    go_wp2_with fail
    refine (opened_any _ _ _ _ _ _ u _ HU.out h0 h1 hO1 hO2).mono ?_
    rintro e w' ⟨rfl, hB⟩
    have hR := hR.keep hB (Nat.le_refl _)
    obtain ⟨r0, r1, r2, r3, r4⟩ := hR.at
    obtain ⟨f0, f1, f2, f3, f4⟩ := hR.frees
    have hB' := ((below_alloc w _).alloc (by simp) _).trans (hB.mono (by simp; omega))
    clear hB
    go_wp2
    exact bodyPost_ret (ret1 rfl rfl (hR.put _ _ _ _ _)) rfl ⟨rfl, put_below hB' (by omega) _ _ _ _ _⟩
end Brk
end Go.Proofs.Ytcmnmmdhipkibaa
