/-
  A log on a disk: which disks have one, how many records an area has room for, which stores may be; small functions of package store.
-/
import Derived.Test.YtmjbhmmcpjhmcaaDiskFacts
import Derived.Test.YtmjbhmmcpjhmcaaFacts3
import Derived.Deep.RegionWith
import Derived.Deep.DeepCutAuto
namespace Go.Proofs.Ytmjbhmmcpjhmcaa
open Go.RowKit
set_option linter.unusedVariables false

/-- has the disk a log -/
def logB (ss : List ByteArray) : Bool := rightB ss && decide (ss.length % 2 = 0)
/-- how many records an area has room for -/
def roomZ (ss : List ByteArray) : Int := (ss.length : Int) / 2 - 1
def withinB (n a b : Int) : Bool := decide (a ≤ n) && decide (n ≤ b)
/-- which stores may be -/
def stoB (ss : List ByteArray) (g u t : Int) : Bool := logB ss && withinB g 1 250 && withinB u 0 (roomZ ss) && withinB t g 250

theorem within_any (n a b : Int) (w : World) :
    Calls Try.prog 40 #[.int .i64 n, .int .i64 a, .int .i64 b] w fun e w' => e = .returned (.bool (withinB n a b)) ∧ w = w' := by
  by_cases h1 : a ≤ n
  · by_cases h2 : n ≤ b
    · go_enter Try.func40, Try.ntmps40
      go_wp2
      go_ret
      exact ⟨ret_bool (by unfold withinB; rw [decide_eq_true h1, decide_eq_true h2]; rfl), rfl⟩
    · go_enter Try.func40, Try.ntmps40
      go_wp2
      go_ret
      exact ⟨ret_bool (by unfold withinB; rw [eq_comm, Bool.and_eq_false_iff]; right; exact decide_eq_false (by omega)), rfl⟩
  · go_enter Try.func40, Try.ntmps40
    go_wp2
    go_ret
    exact ⟨ret_bool (by unfold withinB; rw [eq_comm, Bool.and_eq_false_iff]; left; exact decide_eq_false (by omega)), rfl⟩
theorem room_any (oa : Option Addr) (n cap : Nat) (ss : List ByteArray) (w : World) (hl : ss.length = n) (hn : n ≤ 1000) :
    Calls Try.prog 41 #[.agg #[.slice oa n cap]] w fun e w' => e = .returned (.int .i64 (roomZ ss)) ∧ Below w.heap.size w w' := by
  go_enter Try.func41, Try.ntmps41
  go_wp2
  go_ret
  exact ⟨ret_int (by unfold roomZ; rw [hl]), below_alloc w _⟩
set_option maxHeartbeats 800000 in
theorem hasLog_any (oa : Option Addr) (n cap : Nat) (ss : List ByteArray) (w : World) (hR : Rd w oa n cap ss) (hn : n ≤ 1000) :
    Calls Try.prog 33 #[.agg #[.slice oa n cap]] w fun e w' => e = .returned (.bool (logB ss)) ∧ Below w.heap.size w w' := by
  have hR1 := hR.below (below_alloc w (.cells #[.slice oa n cap] 24)) (Nat.le_refl _)
  have hlen := Lib.hid hR.len
  go_enter Try.func33, Try.ntmps33
  go_wp2_with fail
  refine (right_any _ _ _ _ _ hR1 hn).mono ?_
  rintro e w1 ⟨rfl, hB⟩
  have hB0 := (below_alloc w (.cells #[.slice oa n cap] 24)).trans (hB.mono (by simp))
  have hc1 : w1.cell? ⟨w.heap.size, 0, none⟩ = some (.slice oa n cap) := (hB.cell (p := ⟨w.heap.size, 0, none⟩) (by simp)).trans (World.cell?_alloc_at _ _ _ _ rfl)
  clear hR1 hB
  cases hr : rightB ss
  · have HR := Lib.hid hr
    clear hr
    go_wp2
    go_ret
    exact ⟨ret_bool (by unfold logB; rw [HR.out]; rfl), hB0⟩
  have HR := Lib.hid hr
  clear hr
  go_wp2
  go_ret
  exact ⟨ret_bool (by unfold logB; rw [HR.out, hlen.out, Bool.true_and]; rw [Bool.eq_iff_iff]; simp; omega), hB0⟩
theorem headerAt_any (g : Int) (w : World) (h0 : 0 ≤ g) (h1 : g ≤ 1000) :
    Calls Try.prog 61 #[.int .i64 g] w fun e w' => e = .returned (.int .i64 (g % 2)) ∧ w = w' := by
  go_enter Try.func61, Try.ntmps61
  go_wp2
  go_ret
  exact ⟨rfl, rfl⟩
theorem sealed_any (g n : Int) (p : ByteArray) (w : World) (hm : p.size ≤ maxLen) :
    Calls Try.prog 62 #[.int .i64 g, .int .i64 n, .string p] w fun e w' => e = .returned (.string (sealR g n p)) ∧ Below w.heap.size w w' := by
  go_enter Try.func62, Try.ntmps62
  go_wp2_with fail
  refine (seal_any _ _ _ _ hm).mono ?_
  rintro e w1 ⟨rfl, hB⟩
  go_wp2
  go_ret
  exact ⟨rfl, hB⟩
end Go.Proofs.Ytmjbhmmcpjhmcaa
