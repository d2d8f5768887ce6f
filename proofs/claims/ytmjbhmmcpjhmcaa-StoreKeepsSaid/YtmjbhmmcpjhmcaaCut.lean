/-
  A sector's fields, cut out of its array by three indices; and its sum.
-/
import Derived.Test.YtmjbhmmcpjhmcaaRow
namespace Go.Proofs.Ytmjbhmmcpjhmcaa
open Go.RowKit
set_option linter.unusedVariables false

/-- the fields of the sector at block A -/
def fieldsOf (A : Nat) : Array Value :=
  #[.slice (some ⟨A, 0, none⟩) 2 2, .slice (some ⟨A, 2, none⟩) 1 1, .slice (some ⟨A, 3, none⟩) 96 96, .slice (some ⟨A, 0, none⟩) 99 99, .slice (some ⟨A, 99, none⟩) 4 4, .slice (some ⟨A, 126, none⟩) 2 2]
theorem arr3 (l h : Nat) (h1 : l ≤ h) (h3 : h ≤ 128) (hl : l < h) (A : Nat) (w : World) : (Instr.sliceAt 86 (.pointer (some ⟨A, 0, none⟩)) (some (.int .i64 (l : Int))) (some (.int .i64 (h : Int))) (some (.int .i64 (h : Int)))).run Try.prog w = .ok (.slice (some ⟨A, l, none⟩) (h - l) (h - l)) w := by
  rw [run_sliceAt_array_lhm (P := Try.prog) (w := w) (ht := by kernel_rfl) (h0 := by omega) (h1 := by omega) (h2 := by omega) (h3 := by rw [arrLen]; omega), arrSize]
  simp [slicedAt]
  rw [if_neg (by omega)]
  unfold Addr.add
  split
  · simp_all
  · simp
set_option maxRecDepth 100000 in
set_option maxHeartbeats 800000 in
theorem cut_any (A : Nat) (w : World) :
    Calls Try.prog 85 #[.pointer (some ⟨A, 0, none⟩)] w fun e w' => e = .returned (.agg (fieldsOf A)) ∧ Below w.heap.size w w' := by
  have s0 := arr3 0 2 (by omega) (by omega) (by omega) A
  have s1 := arr3 2 3 (by omega) (by omega) (by omega) A
  have s2 := arr3 3 99 (by omega) (by omega) (by omega) A
  have s3 := arr3 0 99 (by omega) (by omega) (by omega) A
  have s4 := arr3 99 103 (by omega) (by omega) (by omega) A
  have s5 := arr3 126 128 (by omega) (by omega) (by omega) A
  go_enter Try.func85, Try.ntmps85
  go_wp2
  go_still_tail 19, (by kernel_rfl)
  change wpList _ _ _ _ _ (World.drew _)
  go_wp2
  refine bodyPost_ret (v := .agg (fieldsOf A)) (by simp [results, Try.results85, go_sem, fieldsOf]) rfl ⟨rfl, ?_⟩
  exact (below_alloc w _).drew
end Go.Proofs.Ytmjbhmmcpjhmcaa
