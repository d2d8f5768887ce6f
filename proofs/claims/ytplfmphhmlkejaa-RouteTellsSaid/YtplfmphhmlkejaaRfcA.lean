/-
  The document's own: which receivers may be.
-/
import Derived.Test.YtplfmphhmlkejaaCfgN
import Derived.Test.YtplfmphhmlkejaaLabR
import Derived.Test.YtplfmphhmlkejaaRefMats
import Derived.Test.YtplfmphhmlkejaaVals
import Derived.Deep.RegionHeld3
import Derived.Deep.DeepCutAuto
import Derived.Deep.CutBlock
namespace Go.Proofs.Ytplfmphhmlkejaa
open Go.RowKit Go.Shelf
set_option linter.unusedVariables false

theorem tx_list (l : List UInt8) : (tx l).toList = l := by rw [ByteArray.toList_eq]; simp [tx]

theorem refOften_any (n : Int) (w : World) :
    Calls Try.prog 26 #[.int .i64 n] w fun e w' => e = .returned (.bool (oftenB n)) ∧ w' = w := by
  have HT : Hid (oftenB n = (decide (1 ≤ n) && decide (n ≤ 1073741824))) := rfl
  go_enter Try.func26, Try.ntmps26
  by_cases h0 : 1 ≤ n
  · go_wp2_with fail
    go_ret
    exact ⟨retB (by rw [HT.out]; simp [h0]), rfl⟩
  · go_wp2_with fail
    go_ret
    exact ⟨retB (by rw [HT.out, show decide (1 ≤ n) = false by simp; omega]; simp), rfl⟩
theorem refTime_zero (w : World) :
    Calls Try.prog 57 #[.int .i64 0] w fun e w' => e = .returned (.bool true) ∧ w' = w := by
  go_enter Try.func57, Try.ntmps57
  go_wp2_with fail
  go_ret
  exact ⟨rfl, rfl⟩
set_option maxHeartbeats 1600000 in
theorem refBack_any (b t j : Int) (w : World) :
    Calls Try.prog 38 #[.agg #[.int .i64 b, .int .i64 t, .int .i64 j]] w fun e w' => e = .returned (.bool (backB b t j)) ∧ Below w.heap.size w w' := by
  by_cases h1 : 1 ≤ b
  · by_cases h2 : b ≤ 1048576
    · by_cases h3 : b ≤ t
      · by_cases h4 : t ≤ 1073741824
        · by_cases h5 : 0 ≤ j
          · by_cases h6 : j ≤ 1048576
            · have H : Hid (backB b t j = true) := by show _ = _; unfold backB; simp; omega
              go_enter Try.func38, Try.ntmps38
              go_wp2_with fail
              go_ret
              exact ⟨retB H.out.symm, below_alloc w _⟩
            · have H : Hid (backB b t j = false) := by show _ = _; unfold backB; simp; omega
              go_enter Try.func38, Try.ntmps38
              go_wp2_with fail
              go_ret
              exact ⟨retB H.out.symm, below_alloc w _⟩
          · have H : Hid (backB b t j = false) := by show _ = _; unfold backB; simp; omega
            go_enter Try.func38, Try.ntmps38
            go_wp2_with fail
            go_ret
            exact ⟨retB H.out.symm, below_alloc w _⟩
        · have H : Hid (backB b t j = false) := by show _ = _; unfold backB; simp; omega
          go_enter Try.func38, Try.ntmps38
          go_wp2_with fail
          go_ret
          exact ⟨retB H.out.symm, below_alloc w _⟩
      · have H : Hid (backB b t j = false) := by show _ = _; unfold backB; simp; omega
        go_enter Try.func38, Try.ntmps38
        go_wp2_with fail
        go_ret
        exact ⟨retB H.out.symm, below_alloc w _⟩
    · have H : Hid (backB b t j = false) := by show _ = _; unfold backB; simp; omega
      go_enter Try.func38, Try.ntmps38
      go_wp2_with fail
      go_ret
      exact ⟨retB H.out.symm, below_alloc w _⟩
  · have H : Hid (backB b t j = false) := by show _ = _; unfold backB; simp; omega
    go_enter Try.func38, Try.ntmps38
    go_wp2_with fail
    go_ret
    exact ⟨retB H.out.symm, below_alloc w _⟩
set_option maxHeartbeats 1600000 in
theorem refBreaker_any (f o : Int) (w : World) :
    Calls Try.prog 39 #[.agg #[.int .i64 f, .int .i64 o, .int .i64 0, .int .i64 0, .int .i64 0]] w fun e w' => e = .returned (.bool (brkB f o)) ∧ Below w.heap.size w w' := by
  by_cases h1 : 1 ≤ f
  · by_cases h2 : f ≤ 100
    · by_cases h3 : 1 ≤ o
      · by_cases h4 : o ≤ 1048576
        · have H : Hid (brkB f o = true) := by show _ = _; unfold brkB; simp; omega
          go_enter Try.func39, Try.ntmps39
          go_wp2_with fail
          go_ret
          exact ⟨retB H.out.symm, below_alloc w _⟩
        · have H : Hid (brkB f o = false) := by show _ = _; unfold brkB; simp; omega
          go_enter Try.func39, Try.ntmps39
          go_wp2_with fail
          go_ret
          exact ⟨retB H.out.symm, below_alloc w _⟩
      · have H : Hid (brkB f o = false) := by show _ = _; unfold brkB; simp; omega
        go_enter Try.func39, Try.ntmps39
        go_wp2_with fail
        go_ret
        exact ⟨retB H.out.symm, below_alloc w _⟩
    · have H : Hid (brkB f o = false) := by show _ = _; unfold brkB; simp; omega
      go_enter Try.func39, Try.ntmps39
      go_wp2_with fail
      go_ret
      exact ⟨retB H.out.symm, below_alloc w _⟩
  · have H : Hid (brkB f o = false) := by show _ = _; unfold brkB; simp; omega
    go_enter Try.func39, Try.ntmps39
    go_wp2_with fail
    go_ret
    exact ⟨retB H.out.symm, below_alloc w _⟩
set_option maxHeartbeats 1600000 in
theorem refBucket_any (f o : Int) (w : World) :
    Calls Try.prog 40 #[.agg #[.int .i64 f, .int .i64 o, .int .i64 0, .int .i64 0]] w fun e w' => e = .returned (.bool (brkB f o)) ∧ Below w.heap.size w w' := by
  have HZ := fun w => refTime_zero w
  by_cases h1 : 1 ≤ f
  · by_cases h2 : f ≤ 100
    · by_cases h3 : 1 ≤ o
      · by_cases h4 : o ≤ 1048576
        · have H : Hid (brkB f o = true) := by show _ = _; unfold brkB; simp; omega
          go_enter Try.func40, Try.ntmps40
          go_wp2_with fail
          refine (HZ _).mono ?_
          rintro e w1 ⟨rfl, rfl⟩
          go_wp2_with fail
          go_ret
          exact ⟨retB H.out.symm, below_alloc w _⟩
        · have H : Hid (brkB f o = false) := by show _ = _; unfold brkB; simp; omega
          go_enter Try.func40, Try.ntmps40
          go_wp2_with fail
          go_ret
          exact ⟨retB H.out.symm, below_alloc w _⟩
      · have H : Hid (brkB f o = false) := by show _ = _; unfold brkB; simp; omega
        go_enter Try.func40, Try.ntmps40
        go_wp2_with fail
        go_ret
        exact ⟨retB H.out.symm, below_alloc w _⟩
    · have H : Hid (brkB f o = false) := by show _ = _; unfold brkB; simp; omega
      go_enter Try.func40, Try.ntmps40
      go_wp2_with fail
      go_ret
      exact ⟨retB H.out.symm, below_alloc w _⟩
  · have H : Hid (brkB f o = false) := by show _ = _; unfold brkB; simp; omega
    go_enter Try.func40, Try.ntmps40
    go_wp2_with fail
    go_ret
    exact ⟨retB H.out.symm, below_alloc w _⟩
end Go.Proofs.Ytplfmphhmlkejaa
