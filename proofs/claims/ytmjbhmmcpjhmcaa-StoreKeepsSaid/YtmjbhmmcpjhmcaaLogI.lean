/-
  A write that comes to its end.
-/
import Derived.Test.YtmjbhmmcpjhmcaaLogG
import Derived.Deep.RegionWith
namespace Go.Proofs.Ytmjbhmmcpjhmcaa
open Go.RowKit
set_option linter.unusedVariables false

set_option maxRecDepth 100000 in
set_option maxHeartbeats 3200000 in
theorem write_ok (A : Nat) (oa : Option Addr) (n cap : Nat) (ss : List ByteArray) (g u tp : Int) (d : Bool) (i : Nat) (t : ByteArray) (K : Int) (w : World) (hA : SRow w A (.slice oa n cap) g u tp d) (hR : Rd w oa n cap ss) (hL : logB ss = true) (hi : i < ss.length) (ht : t.size = 128) :
    Calls Try.prog 59 #[.pointer (some ⟨A, 0, none⟩), .agg #[.int .i64 (i : Int), .string t], .agg #[.int .i64 0, .int .i64 K]] w fun e w' =>
      e = .returned (.tuple #[]) ∧ (∃ ob m, SRow w' A (.slice ob n m) g u tp d ∧ Rd w' ob n m (ss.set i t)) ∧ But A w w' := by
  have hlen := hR.len
  have hn : n ≤ 1000 := by have := (log_bounds hL).2; omega
  have htm : Hid (t.size ≤ maxLen) := torn_max ht
  have ET : Hid (tearL ss (i : Int) t 128 = ss.set i t) := (tear_in hL hi ht (Nat.le_refl 128)).trans (torn_all hL hi ht)
  obtain ⟨W0, hW0⟩ : ∃ W0, W0 = (w.alloc (.cells #[.int .i64 (i : Int), .string t] 67)).alloc (.cells #[.int .i64 0, .int .i64 K] 44) := ⟨_, rfl⟩
  have hB0 : Below w.heap.size w W0 := by rw [hW0]; exact (below_alloc w _).alloc (by simp) _
  have hA0 := hA.keep hB0
  have a0 := hA0.at0
  have p0 : W0.cell? ⟨w.heap.size, 0, none⟩ = some (.int .i64 (i : Int)) := by rw [hW0]; simp
  have p1 : W0.cell? ⟨w.heap.size, 1, none⟩ = some (.string t) := by rw [hW0]; simp
  have hR0 := Lib.hid (hR.below hB0 (Nat.le_refl _))
  have HA := Lib.hid hA0
  have HW := Lib.hid hW0
  have HB := Lib.hid hB0
  clear hW0 hB0 hA0 hA hR
  go_enter Try.func59, Try.ntmps59
  go_wp2_with fail
  rw [← HW.out]
  clear HW
  have hx : Hid (∃ oa' na' ca', Value.slice oa n cap = .slice oa' na' ca') := ⟨_, _, _, rfl⟩
  have hml : Hid (∀ l : List ByteArray, ss.set i t = l → l.length = n) := by intro l hl; rw [← hl, List.length_set]; exact hlen
  go_region_with (first | (go_at_call 75; refine (write_any _ _ _ ss (i : Int) t _ hR0.out.drew hn htm.out).mono ?_; rintro e w1 ⟨⟨ob, m, cp, rfl, hR1⟩, hB1⟩; have hA1 := HA.out.keep (w := W0.drew) hB1; have a1 := hA1.at0; have f1 := hA1.free 0))
  all_goals
    rw [ET.out] at hR1
    go_wp2_with fail
    go_end0
    exact ⟨rfl, ok_end HB.out hB1 hA1 a1 hx.out hR1 (hR1.len.symm.trans (hml.out _ rfl))⟩
end Go.Proofs.Ytmjbhmmcpjhmcaa
