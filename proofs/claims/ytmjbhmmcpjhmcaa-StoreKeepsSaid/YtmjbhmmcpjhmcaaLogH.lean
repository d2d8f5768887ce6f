/-
  A write that is torn: it panics.
-/
import Derived.Test.YtmjbhmmcpjhmcaaLogG
import Derived.Deep.RegionWith
namespace Go.Proofs.Ytmjbhmmcpjhmcaa
open Go.RowKit
set_option linter.unusedVariables false

set_option maxRecDepth 100000 in
set_option maxHeartbeats 3200000 in
theorem write_crash (A : Nat) (oa : Option Addr) (n cap : Nat) (ss : List ByteArray) (g u tp : Int) (d : Bool) (i : Nat) (t : ByteArray) (K : Nat) (w : World) (hA : SRow w A (.slice oa n cap) g u tp d) (hR : Rd w oa n cap ss) (hL : logB ss = true) (hi : i < ss.length) (ht : t.size = 128) (hK : K ≤ 128) :
    Calls Try.prog 59 #[.pointer (some ⟨A, 0, none⟩), .agg #[.int .i64 (i : Int), .string t], .agg #[.int .i64 2, .int .i64 (K : Int)]] w fun e w' =>
      e = .panicked [notV 9] ∧ (∃ ob m, SRow w' A (.slice ob n m) g u tp true ∧ Rd w' ob n m (tornL ss i t K)) ∧ But A w w' := by
  have hlen := hR.len
  have hn : n ≤ 1000 := by have := (log_bounds hL).2; omega
  have htm : Hid (t.size ≤ maxLen) := torn_max ht
  have ET := Lib.hid (tear_in hL hi ht hK)
  obtain ⟨W0, hW0⟩ : ∃ W0, W0 = (w.alloc (.cells #[.int .i64 (i : Int), .string t] 67)).alloc (.cells #[.int .i64 2, .int .i64 (K : Int)] 44) := ⟨_, rfl⟩
  have hB0 : Below w.heap.size w W0 := by rw [hW0]; exact (below_alloc w _).alloc (by simp) _
  have hA0 := hA.keep hB0
  have a0 := hA0.at0
  have p0 : W0.cell? ⟨w.heap.size, 0, none⟩ = some (.int .i64 (i : Int)) := by rw [hW0]; simp
  have p1 : W0.cell? ⟨w.heap.size, 1, none⟩ = some (.string t) := by rw [hW0]; simp
  have q1 : W0.cell? ⟨w.heap.size + 1, 1, none⟩ = some (.int .i64 (K : Int)) := by rw [hW0]; simp
  have hR0 := Lib.hid (hR.below hB0 (Nat.le_refl _))
  have HA := Lib.hid hA0
  have HW := Lib.hid hW0
  have HB := Lib.hid hB0
  clear hW0 hB0 hA0 hA hR
  go_enter Try.func59, Try.ntmps59
  go_wp2_with fail
  rw [← HW.out]
  clear HW
  have hx : Hid (∃ oa' na' ca', Value.slice oa n cap = .slice oa' na' ca') := ⟨_, _, _, rfl⟩
  have hml : Hid (∀ l : List ByteArray, tornL ss i t K = l → l.length = n) := by intro l hl; rw [← hl, torn_len]; exact hlen
  go_region_with (first | (go_at_call 74; refine (tear_any _ _ _ ss (i : Int) t (K : Int) _ hR0.out.drew hn htm.out).mono ?_; rintro e w1 ⟨⟨ob, m, cp, rfl, hR1⟩, hB1⟩; have hA1 := HA.out.keep (w := W0.drew) hB1; have a1 := hA1.at0; have f1 := hA1.free 0; have c4 := (hA1.set0 (.slice ob m cp)).at4; have f4 := (hA1.set0 (.slice ob m cp)).free 4))
  all_goals
    rw [ET.out] at hR1
    go_wp2_with fail
    exact ⟨rfl, rfl, crash_end HB.out hB1 hA1 a1 hx.out hR1 (hR1.len.symm.trans (hml.out _ rfl))⟩
end Go.Proofs.Ytmjbhmmcpjhmcaa
