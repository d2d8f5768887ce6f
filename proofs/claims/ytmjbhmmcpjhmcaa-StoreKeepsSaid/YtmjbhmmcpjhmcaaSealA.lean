/-
  Which stamps there are; a sector's sum, and its payload.
-/
import Derived.Test.YtmjbhmmcpjhmcaaCut
import Derived.Test.YtmjbhmmcpjhmcaaSumMore
namespace Go.Proofs.Ytmjbhmmcpjhmcaa
open Go.RowKit
set_option linter.unusedVariables false

/-- is it a stamp? -/
def stampB (g n : Int) : Bool := decide (1 ≤ g) && decide (g ≤ 250) && decide (0 ≤ n) && decide (n ≤ 64)
theorem stamp_iff (g n : Int) : stampB g n = true ↔ 1 ≤ g ∧ g ≤ 250 ∧ 0 ≤ n ∧ n ≤ 64 := by unfold stampB; simp [and_assoc]
theorem stamp_no (g n : Int) (h : ¬ (1 ≤ g ∧ g ≤ 250 ∧ 0 ≤ n ∧ n ≤ 64)) : false = stampB g n := by
  cases e : stampB g n
  · rfl
  · exact absurd ((stamp_iff g n).1 e) h
theorem stamp_yes (g n : Int) (h : 1 ≤ g ∧ g ≤ 250 ∧ 0 ≤ n ∧ n ≤ 64) : true = stampB g n := ((stamp_iff g n).2 h).symm
set_option maxRecDepth 100000 in
set_option maxHeartbeats 800000 in
theorem isStamp_any (g n : Int) (w : World) :
    Calls Try.prog 84 #[.int .i64 g, .int .i64 n] w fun e w' => e = .returned (.bool (stampB g n)) ∧ w = w' := by
  by_cases h1 : 1 ≤ g
  · by_cases h2 : g ≤ 250
    · by_cases h3 : 0 ≤ n
      · by_cases h4 : n ≤ 64
        · go_enter Try.func84, Try.ntmps84
          go_wp2
          go_ret
          exact ⟨ret_bool (stamp_yes g n ⟨h1, h2, h3, h4⟩), rfl⟩
        · go_enter Try.func84, Try.ntmps84
          go_wp2
          go_ret
          exact ⟨ret_bool (stamp_no g n (by omega)), rfl⟩
      · go_enter Try.func84, Try.ntmps84
        go_wp2
        go_ret
        exact ⟨ret_bool (stamp_no g n (by omega)), rfl⟩
    · go_enter Try.func84, Try.ntmps84
      go_wp2
      go_ret
      exact ⟨ret_bool (stamp_no g n (by omega)), rfl⟩
  · go_enter Try.func84, Try.ntmps84
    go_wp2
    go_ret
    exact ⟨ret_bool (stamp_no g n (by omega)), rfl⟩

/-- the four bytes of a text's sum -/
def sumS (s : ByteArray) : ByteArray := fourS (moreN 0 (bl s))
theorem sum_size (s : ByteArray) : (sumS s).size = 4 := by unfold sumS fourS; rw [strOfNums_size]; rfl
set_option maxRecDepth 100000 in
set_option maxHeartbeats 800000 in
theorem sumOf_any (A : Nat) (l : List UInt8) (w : World) (hR : BRow w A l) (hl : l.length = 128) :
    Calls Try.prog 86 #[.agg (fieldsOf A)] w fun e w' => e = .returned (.string (sumS (sub l 0 99))) ∧ Below w.heap.size w w' := by
  have hz := Lib.hid (sub_size l 0 99 (by omega))
  unfold fieldsOf
  have hR1 := hR.below (below_alloc w (.cells #[.slice (some ⟨A, 0, none⟩) 2 2, .slice (some ⟨A, 2, none⟩) 1 1, .slice (some ⟨A, 3, none⟩) 96 96, .slice (some ⟨A, 0, none⟩) 99 99, .slice (some ⟨A, 99, none⟩) 4 4, .slice (some ⟨A, 126, none⟩) 2 2] 115))
  have hcv := run_string _ A 0 99 99 l hR1 (by omega)
  clear hl
  go_enter Try.func86, Try.ntmps86
  go_wp2_with fail
  refine (sum_any _ _ (by rw [hz.out]; unfold maxLen; omega)).mono ?_
  rintro e w1 ⟨rfl, hB1⟩
  clear hcv
  go_wp2_with fail
  refine (four_any _ _).mono ?_
  rintro e w2 ⟨rfl, hB2⟩
  go_wp2_with fail
  go_ret
  refine ⟨rfl, ((below_alloc w _).trans (hB1.mono (by simp))).trans (hB2.mono ?_)⟩
  have := hB1.size
  simp at this
  omega

set_option maxRecDepth 100000 in
set_option maxHeartbeats 800000 in
theorem payloadOf_any (A : Nat) (l : List UInt8) (w : World) (hR : BRow w A l) (hl : l.length = 128) :
    Calls Try.prog 87 #[.agg (fieldsOf A)] w fun e w' => e = .returned (if (l.getD 2 0).toNat ≤ 96 then .tuple #[.string (sub l 3 (l.getD 2 0).toNat), .bool true] else .tuple #[.string ⟨#[]⟩, .bool false]) ∧ Below w.heap.size w w' := by
  unfold fieldsOf
  have hR1 := hR.below (below_alloc w (.cells #[.slice (some ⟨A, 0, none⟩) 2 2, .slice (some ⟨A, 2, none⟩) 1 1, .slice (some ⟨A, 3, none⟩) 96 96, .slice (some ⟨A, 0, none⟩) 99 99, .slice (some ⟨A, 99, none⟩) 4 4, .slice (some ⟨A, 126, none⟩) 2 2] 115))
  have hc := hR1.cell 2 (by omega)
  have hu := UInt8.toNat_lt (l.getD 2 0)
  by_cases h : (l.getD 2 0).toNat ≤ 96
  · rw [if_pos h]
    have hcv := run_string _ A 3 (l.getD 2 0).toNat 96 l hR1 (by omega)
    generalize (l.getD 2 0).toNat = n at *
    clear hl
    go_enter Try.func87, Try.ntmps87
    go_wp2_with fail
    go_ret2
    exact ⟨rfl, below_alloc w _⟩
  · rw [if_neg h]
    generalize (l.getD 2 0).toNat = n at *
    clear hl
    go_enter Try.func87, Try.ntmps87
    go_wp2_with fail
    go_ret2
    exact ⟨rfl, below_alloc w _⟩
end Go.Proofs.Ytmjbhmmcpjhmcaa
