/-
  Buckets: New, Take, Next, one contract each.
-/
import Derived.Test.YtmnnohogbgjkcaaBktF
namespace Go.Proofs.Ytmnnohogbgjkcaa
open Go.RowKit
set_option linter.unusedVariables false

namespace Bkt
set_option maxHeartbeats 1600000 in
theorem new_yes (B E H T : Int) (w : World) (h : Bk B E H T) :
    Calls Try.prog 10 #[.int .i64 B, .int .i64 E, .int .i64 H, .int .i64 T] w fun e w' => e = .returned (.tuple #[val B E H T, .int .i64 0]) ∧ Below w.heap.size w w' := by
  have H1 := Lib.hid ((right_iff _ _ _ _).2 h)
  clear h
  go_enter Try.func10, Try.ntmps10
  go_wp2_with fail
  refine (right_is _ _ _ _ true _ H1.out).mono ?_
  rintro e w1 ⟨rfl, hB⟩
  have hR := ((Var.new w 0 0 0 0).alloc (.cells #[.int .i64 B, .int .i64 E, .int .i64 H, .int .i64 T] 24)).keep hB (Nat.le_refl _)
  have hV := (Var.new1 w (.cells #[.int .i64 0, .int .i64 0, .int .i64 0, .int .i64 0] 24) B E H T).keep hB (Nat.le_refl _)
  have hB' := ((below_alloc w _).alloc (by simp) _).trans (hB.mono (by simp; omega))
  clear hB
  obtain ⟨a0, a1, a2, a3⟩ := hV.at
  obtain ⟨r0, r1, r2, r3⟩ := hR.at
  obtain ⟨f0, f1, f2, f3⟩ := hR.frees
  go_wp2
  exact bodyPost_ret (ret2 rfl rfl rfl (hR.put _ _ _ _)) rfl ⟨rfl, put_below hB' (by omega) _ _ _ _⟩

set_option maxHeartbeats 3200000 in
/-- there is one -/
theorem take_yes (B E H T now h t : Int) (w : World) (F : ∀ w, Calls Try.prog 8 #[val B E H T, .int .i64 now] w fun e w' => e = .returned (.tuple #[val B E h t, .int .i64 0]) ∧ Below w.heap.size w w')
    (h0 : 0 < h) (h1 : h ≤ 100) :
    Calls Try.prog 7 #[val B E H T, .int .i64 now] w fun e w' => e = .returned (.tuple #[val B E (h - 1) t, .bool true, .int .i64 0]) ∧ Below w.heap.size w w' := by
  go_enter Try.func7, Try.ntmps7
  go_wp2_with fail
  refine (F _).mono ?_
  rintro e w1 ⟨rfl, hB⟩
  have hR := (Var.new1 w (.cells #[.int .i64 B, .int .i64 E, .int .i64 H, .int .i64 T] 24) 0 0 0 0).keep hB (Nat.le_refl _)
  have hB' := ((below_alloc w _).alloc (by simp) _).trans (hB.mono (by simp; omega))
  have hs := hB'.size
  have hlt := hR.lt
  clear hB
  have hR := (hR.alloc (.cells #[.int .i64 B, .int .i64 E, .int .i64 h, .int .i64 t] 24)).alloc (.cells #[.int .i64 B, .int .i64 E, .int .i64 (h - 1), .int .i64 t] 24)
  obtain ⟨r0, r1, r2, r3⟩ := hR.at
  obtain ⟨f0, f1, f2, f3⟩ := hR.frees
  have hne : (h - 1 == h) = false := by simp; omega
  go_wp2
  go_region
  go_wp2
  exact bodyPost_ret (ret3 rfl rfl rfl rfl (hR.put B E (h - 1) t)) rfl ⟨rfl, (put_below ((hB'.alloc hs _).alloc (by simp; omega) _) (by omega) B E (h - 1) t).drew⟩
set_option maxHeartbeats 3200000 in
/-- there is none -/
theorem take_no (B E H T now t : Int) (w : World) (F : ∀ w, Calls Try.prog 8 #[val B E H T, .int .i64 now] w fun e w' => e = .returned (.tuple #[val B E 0 t, .int .i64 0]) ∧ Below w.heap.size w w') :
    Calls Try.prog 7 #[val B E H T, .int .i64 now] w fun e w' => e = .returned (.tuple #[val B E 0 t, .bool false, .int .i64 0]) ∧ Below w.heap.size w w' := by
  go_enter Try.func7, Try.ntmps7
  go_wp2_with fail
  refine (F _).mono ?_
  rintro e w1 ⟨rfl, hB⟩
  have hR := (Var.new1 w (.cells #[.int .i64 B, .int .i64 E, .int .i64 H, .int .i64 T] 24) 0 0 0 0).keep hB (Nat.le_refl _)
  have hB' := ((below_alloc w _).alloc (by simp) _).trans (hB.mono (by simp; omega))
  have hs := hB'.size
  have hlt := hR.lt
  clear hB
  have hR := (hR.alloc (.cells #[.int .i64 B, .int .i64 E, .int .i64 0, .int .i64 t] 24)).alloc (.cells #[.int .i64 B, .int .i64 E, .int .i64 0, .int .i64 t] 24)
  obtain ⟨r0, r1, r2, r3⟩ := hR.at
  obtain ⟨f0, f1, f2, f3⟩ := hR.frees
  go_wp2
  go_region
  go_wp2
  exact bodyPost_ret (ret3 rfl rfl rfl rfl (hR.put B E 0 t)) rfl ⟨rfl, (put_below ((hB'.alloc hs _).alloc (by simp; omega) _) (by omega) B E 0 t).drew⟩
/-- is there one -/
def yesB (h : Int) : Bool := decide (0 < h)
/-- how many are left -/
def left (h : Int) : Int := if 0 < h then h - 1 else 0
theorem take_is (B E H T now h t l : Int) (r : Bool) (w : World) (hb : Bk B E H T) (h0 : T ≤ now) (h1 : now ≤ 1099511627776) (hh : h = fH B E H T now) (ht : t = fT B E H T now) (hl : l = left h) (hr : r = yesB h) :
    Calls Try.prog 7 #[val B E H T, .int .i64 now] w fun e w' => e = .returned (.tuple #[val B E l t, .bool r, .int .i64 0]) ∧ Below w.heap.size w w' := by
  have F := fun w => fill_is B E H T now h t w hb h0 h1 hh ht
  have g := (fill_right hb h0 h1).1
  rw [← hh] at g
  have g1 := g.h1
  have g2 := g.h2
  have g3 := g.b2
  by_cases hp : 0 < h
  · have e1 : l = h - 1 := by rw [hl]; unfold left; rw [if_pos hp]
    have e2 : r = true := by rw [hr]; unfold yesB; exact decide_eq_true hp
    rw [e1, e2]
    exact take_yes B E H T now h t w F hp (by omega)
  · have e1 : l = 0 := by rw [hl]; unfold left; rw [if_neg hp]
    have e2 : r = false := by rw [hr]; unfold yesB; exact decide_eq_false hp
    have e3 : h = 0 := by omega
    rw [e1, e2]
    rw [e3] at F
    exact take_no B E H T now t w F

set_option maxHeartbeats 1600000 in
/-- one can be taken now -/
theorem next_now (B E H T now h t : Int) (w : World) (F : ∀ w, Calls Try.prog 8 #[val B E H T, .int .i64 now] w fun e w' => e = .returned (.tuple #[val B E h t, .int .i64 0]) ∧ Below w.heap.size w w')
    (h0 : 0 < h) :
    Calls Try.prog 9 #[val B E H T, .int .i64 now] w fun e w' => e = .returned (.tuple #[.int .i64 now, .int .i64 0]) ∧ Below w.heap.size w w' := by
  go_enter Try.func9, Try.ntmps9
  go_wp2_with fail
  refine (F _).mono ?_
  rintro e w1 ⟨rfl, hB⟩
  have hB' := (below_alloc w _).trans (hB.mono (by simp))
  clear hB
  go_wp2
  go_ret2
  exact ⟨rfl, hB'.alloc hB'.size _⟩
set_option maxHeartbeats 1600000 in
/-- one can be taken later -/
theorem next_later (B E H T now t n : Int) (w : World) (F : ∀ w, Calls Try.prog 8 #[val B E H T, .int .i64 now] w fun e w' => e = .returned (.tuple #[val B E 0 t, .int .i64 0]) ∧ Below w.heap.size w w')
    (hn : n = addT t E) (t0 : 0 ≤ t) (t1 : t ≤ 1099511627776) (e0 : 0 ≤ E) (e1 : E ≤ 1099511627776) :
    Calls Try.prog 9 #[val B E H T, .int .i64 now] w fun e w' => e = .returned (.tuple #[.int .i64 n, .int .i64 0]) ∧ Below w.heap.size w w' := by
  have HN := Lib.hid hn
  clear hn
  go_enter Try.func9, Try.ntmps9
  go_wp2_with fail
  refine (F _).mono ?_
  rintro e w1 ⟨rfl, hB⟩
  have hB' := (below_alloc w _).trans (hB.mono (by simp))
  clear hB
  go_wp2_with fail
  refine (add_is _ _ n _ HN.out t0 t1 e0 e1).mono ?_
  rintro e w2 ⟨rfl, hB2⟩
  have hB2' := (hB'.alloc hB'.size _).trans (hB2.mono (by simp; have := hB'.size; omega))
  clear hB2 hB'
  go_wp2
  go_ret2
  exact ⟨rfl, hB2'⟩
/-- when one can be taken -/
def nextT (E now h t : Int) : Int := if 0 < h then now else addT t E
theorem next_is (B E H T now h t n : Int) (w : World) (hb : Bk B E H T) (h0 : T ≤ now) (h1 : now ≤ 1099511627776) (hh : h = fH B E H T now) (ht : t = fT B E H T now) (hn : n = nextT E now h t) :
    Calls Try.prog 9 #[val B E H T, .int .i64 now] w fun e w' => e = .returned (.tuple #[.int .i64 n, .int .i64 0]) ∧ Below w.heap.size w w' := by
  have F := fun w => fill_is B E H T now h t w hb h0 h1 hh ht
  have g := (fill_right hb h0 h1).1
  rw [← hh, ← ht] at g
  have g1 := g.h1
  have g2 := g.t1
  have g3 := g.t2
  have g4 := g.e1
  have g5 := g.e2
  by_cases hp : 0 < h
  · have e1 : n = now := by rw [hn]; unfold nextT; rw [if_pos hp]
    rw [e1]
    exact next_now B E H T now h t w F hp
  · have e1 : n = addT t E := by rw [hn]; unfold nextT; rw [if_neg hp]
    have e3 : h = 0 := by omega
    rw [e3] at F
    exact next_later B E H T now t n w F e1 g2 g3 (by omega) (by omega)
end Bkt
end Go.Proofs.Ytmnnohogbgjkcaa
