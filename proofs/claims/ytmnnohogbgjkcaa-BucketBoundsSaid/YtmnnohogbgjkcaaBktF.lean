/-
  Buckets: the closure that fills one at a time.
-/
import Derived.Test.YtmnnohogbgjkcaaBktA
namespace Go.Proofs.Ytmnnohogbgjkcaa
open Go.RowKit
set_option linter.unusedVariables false

namespace Bkt
set_option maxHeartbeats 800000 in
/-- the closure over the time: where it fills -/
theorem filler_full (B E H T now n : Int) (c : Nat) (w : World) (h : Bk B E H T) (h0 : T ≤ now) (h1 : now ≤ 1099511627776) (hc : w.cell? ⟨c, 0, none⟩ = some (.int .i64 now))
    (hn : n = (now - T) / E) (hf : B ≤ H + n) :
    Calls Try.prog 16 #[val B E H T, .pointer (some ⟨c, 0, none⟩)] w fun e w' => e = .returned (val B E B now) ∧ Below w.heap.size w w' := by
  obtain ⟨b1, b2, e1, e2, g1, g2, t1, t2⟩ := h
  have n0 : 0 ≤ n := by rw [hn]; exact div_nn (by omega) e1
  have n1 : n ≤ now - T := by rw [hn]; exact div_le (by omega) e1
  have hq : (now - T).tdiv E = n := by rw [hn]; exact Int.tdiv_eq_ediv_of_nonneg (by omega)
  have hE : (E == 0) = false := by simp; omega
  have hE' : ¬ E = 0 := by omega
  have hcl : c < w.heap.size := World.block_lt_of_cell? w _ hc
  clear hn
  go_enter Try.func16, Try.ntmps16
  have hne : ¬ c = w.heap.size := by omega
  go_wp2
  go_region
  go_wp2
  exact bodyPost_ret (ret1 rfl rfl (Var.new1 w _ B E B now)) rfl ⟨rfl, ((below_alloc w _).alloc (by simp) _).drew⟩
set_option maxHeartbeats 800000 in
/-- the closure over the time: where it does not fill -/
theorem filler_part (B E H T now n : Int) (c : Nat) (w : World) (h : Bk B E H T) (h0 : T ≤ now) (h1 : now ≤ 1099511627776) (hc : w.cell? ⟨c, 0, none⟩ = some (.int .i64 now))
    (hn : n = (now - T) / E) (hf : ¬ B ≤ H + n) :
    Calls Try.prog 16 #[val B E H T, .pointer (some ⟨c, 0, none⟩)] w fun e w' => e = .returned (val B E (H + n) (T + n * E)) ∧ Below w.heap.size w w' := by
  obtain ⟨b1, b2, e1, e2, g1, g2, t1, t2⟩ := h
  have n0 : 0 ≤ n := by rw [hn]; exact div_nn (by omega) e1
  have n1 : n ≤ now - T := by rw [hn]; exact div_le (by omega) e1
  have hq : (now - T).tdiv E = n := by rw [hn]; exact Int.tdiv_eq_ediv_of_nonneg (by omega)
  have p0 : 0 ≤ n * E := mul_nn n0 e1
  have p1 : n * E ≤ now - T := by rw [hn]; exact div_low e1
  have hE : (E == 0) = false := by simp; omega
  have hE' : ¬ E = 0 := by omega
  have hcl : c < w.heap.size := World.block_lt_of_cell? w _ hc
  have hne : ¬ c = w.heap.size := by omega
  clear hn
  obtain ⟨P, hP⟩ : ∃ P, n * E = P := ⟨_, rfl⟩
  have hP' : wrap64 (n * E) = P := by rw [← hP]; unfold wrap64; omega
  rw [hP] at p0 p1
  rw [hP]
  go_enter Try.func16, Try.ntmps16
  go_wp2
  exact bodyPost_ret (ret1 rfl rfl (Var.new1 w _ B E (H + n) (T + P))) rfl ⟨rfl, (below_alloc w _).alloc (by simp) _⟩
/-- a closure over the time, called -/
theorem filler_any (B E H T now : Int) (c : Nat) (w : World) (h : Bk B E H T) (h0 : T ≤ now) (h1 : now ≤ 1099511627776) (hc : w.cell? ⟨c, 0, none⟩ = some (.int .i64 now)) :
    Calls Try.prog 16 #[val B E H T, .pointer (some ⟨c, 0, none⟩)] w fun e w' => e = .returned (val B E (fH B E H T now) (fT B E H T now)) ∧ Below w.heap.size w w' := by
  by_cases hf : B ≤ H + (now - T) / E
  · have e1 : fH B E H T now = B := by unfold fH; rw [if_pos hf]
    have e2 : fT B E H T now = now := by unfold fT; rw [if_pos hf]
    rw [e1, e2]
    exact filler_full B E H T now _ c w h h0 h1 hc rfl hf
  · have e1 : fH B E H T now = H + (now - T) / E := by unfold fH; rw [if_neg hf]
    have e2 : fT B E H T now = T + (now - T) / E * E := by unfold fT; rw [if_neg hf]
    rw [e1, e2]
    exact filler_part B E H T now _ c w h h0 h1 hc rfl hf
set_option maxHeartbeats 800000 in
/-- which closure it is -/
theorem fillerAt_any (now : Int) (w : World) :
    Calls Try.prog 12 #[.int .i64 now] w fun e w' => e = .returned (.func (.func 16) #[] #[.pointer (some ⟨w.heap.size, 0, none⟩)]) ∧ w'.cell? ⟨w.heap.size, 0, none⟩ = some (.int .i64 now) ∧ Below w.heap.size w w' ∧ w.heap.size < w'.heap.size := by
  go_enter Try.func12, Try.ntmps12
  go_wp2
  go_ret
  exact ⟨rfl, by rw [World.cell?_alloc_new]; rfl, below_alloc w _, by simp⟩

set_option maxHeartbeats 1600000 in
theorem fill_any (B E H T now : Int) (w : World) (h : Bk B E H T) (h0 : T ≤ now) (h1 : now ≤ 1099511627776) :
    Calls Try.prog 8 #[val B E H T, .int .i64 now] w fun e w' => e = .returned (.tuple #[val B E (fH B E H T now) (fT B E H T now), .int .i64 0]) ∧ Below w.heap.size w w' := by
  have W := fun w => why_ok B E H T now w h h0 h1
  have F := fun w c hc => filler_any B E H T now c w h h0 h1 hc
  clear h h0 h1
  generalize fH B E H T now = h2 at *
  generalize fT B E H T now = t2 at *
  go_enter Try.func8, Try.ntmps8
  go_wp2_with fail
  refine (W _).mono ?_
  rintro e w1 ⟨rfl, hB⟩
  have hV := ((Var.new w B E H T).alloc (.cells #[.int .i64 0, .int .i64 0, .int .i64 0, .int .i64 0] 24)).keep hB (Nat.le_refl _)
  have hR := (Var.new1 w (.cells #[.int .i64 B, .int .i64 E, .int .i64 H, .int .i64 T] 24) 0 0 0 0).keep hB (Nat.le_refl _)
  have hB' := ((below_alloc w _).alloc (by simp) _).trans (hB.mono (by simp; omega))
  clear hB
  go_wp2_with fail
  refine (fillerAt_any now _).mono ?_
  rintro e w2 ⟨rfl, hc, hB2, hs2⟩
  have hV := hV.keep hB2 (Nat.le_refl _)
  have hR := hR.keep hB2 (Nat.le_refl _)
  have hB' := hB'.trans (hB2.mono hB'.size)
  clear hB2
  generalize w1.heap.size = c at *
  obtain ⟨a0, a1, a2, a3⟩ := hV.at
  go_wp2_with fail
  refine (F _ _ hc).mono ?_
  rintro e w3 ⟨rfl, hB3⟩
  have hR := hR.keep hB3 (Nat.le_refl _)
  have hB' := hB'.trans (hB3.mono hB'.size)
  clear hB3 hV a0 a1 a2 a3
  obtain ⟨r0, r1, r2, r3⟩ := hR.at
  obtain ⟨f0, f1, f2, f3⟩ := hR.frees
  go_wp2
  exact bodyPost_ret (ret2 rfl rfl rfl (hR.put _ _ _ _)) rfl ⟨rfl, put_below hB' (by omega) _ _ _ _⟩
theorem fill_is (B E H T now h' t' : Int) (w : World) (h : Bk B E H T) (h0 : T ≤ now) (h1 : now ≤ 1099511627776) (hh : h' = fH B E H T now) (ht : t' = fT B E H T now) :
    Calls Try.prog 8 #[val B E H T, .int .i64 now] w fun e w' => e = .returned (.tuple #[val B E h' t', .int .i64 0]) ∧ Below w.heap.size w w' := by
  subst hh ht; exact fill_any B E H T now w h h0 h1
end Bkt
end Go.Proofs.Ytmnnohogbgjkcaa
