/-
  The walk of SealTells: the sealed sector of any stamp and payload, and what is opened of any text, is the document's, or refused.
-/
import Derived.Test.YtmpdfpknjkaabaaLaw3
import Derived.Test.YtmpdfpknjkaabaaROpen3
namespace Go.Proofs.Ytmpdfpknjkaabaa.sealTells
open Go.RowKit
set_option linter.unusedVariables false

theorem cut130 (s : ByteArray) : (cutS 130 s).size ≤ maxLen := by have := cut_size 130 s; unfold maxLen; omega
set_option maxHeartbeats 6400000 in
set_option maxRecDepth 100000 in
theorem walk (gen no : Int) (p text : ByteArray) (w : World) (hp : p.size ≤ maxLen) (ht : text.size ≤ maxLen) :
    Calls Try.prog 3 #[.int .i64 gen, .int .i64 no, .string p, .string text] w fun e w' => e = .returned (.bool true) ∧ Below w.heap.size w w' := by
  have HP := Lib.hid hp
  have HT := Lib.hid ht
  clear hp ht
  go_enter Try.func3, Try.ntmps3
  go_wp2_with fail
  refine (few_any _ _ HP.out).mono ?_
  rintro e w' ⟨rfl, rfl⟩
  go_wp2_with fail
  refine (few_any _ _ HT.out).mono ?_
  rintro e w' ⟨rfl, rfl⟩
  have zP := cut_size 130 p
  have mP := Lib.hid (cut130 p)
  have mX := Lib.hid (cut130 text)
  generalize cutS 130 p = P at *
  generalize cutS 130 text = X at *
  go_wp2_with fail
  refine (seal_any _ _ _ _ mP.out).mono ?_
  rintro e w1 ⟨rfl, hB⟩
  go_wp2_with fail
  refine (open_any _ _ mX.out).mono ?_
  rintro e w2 ⟨rfl, hB2⟩
  replace hB := hB.trans (hB2.mono hB.size)
  clear hB2
  unfold openV
  go_wp2_with fail
  refine (rOpen_any _ _ mX.out).mono ?_
  rintro e w3 ⟨rfl, hB3⟩
  replace hB := hB.trans (hB3.mono hB.size)
  clear hB3 mP mX
  unfold openV
  generalize openG X = g' at *
  generalize openN X = n' at *
  generalize openP X = p' at *
  generalize openE X = e' at *
  go_wp2_with fail
  refine (alive_any _).mono ?_
  rintro e w4 ⟨rfl, hB4⟩
  replace hB := hB.trans (hB4.mono hB.size)
  clear hB4
  go_wp2_with fail
  refine (rStamp_any _ _ _).mono ?_
  rintro e w' ⟨rfl, rfl⟩
  cases hst : stampB gen no
  · have e1 : sealE gen no P = 1 := by unfold sealE; rw [hst]; rfl
    have e2 : sealR gen no P = ⟨#[]⟩ := by unfold sealR; rw [e1]; rfl
    rw [e1, e2]
    clear e1 e2 hst
    go_wp2_with fail
    go_ret
    exact ⟨rfl, hB⟩
  · obtain ⟨g1, g2, g3, g4⟩ := (stamp_iff _ _).1 hst
    by_cases h5 : P.size ≤ 96
    · rw [sealE_ok hst h5, sealR_ok hst h5]
      have m1 : (P.size : Int) ≤ 96 := by omega
      clear hst
      go_wp2_with fail
      refine (rSeal_any _ _ _ _ (by omega) (by omega) (by omega) (by omega) h5).mono ?_
      rintro e w5 ⟨rfl, hB5⟩
      replace hB := hB.trans (hB5.mono hB.size)
      clear hB5
      go_wp2_with fail
      go_ret
      exact ⟨rfl, hB⟩
    · have e1 : sealE gen no P = 2 := by unfold sealE; rw [if_pos hst, if_neg h5]
      have e2 : sealR gen no P = ⟨#[]⟩ := by unfold sealR; rw [e1]; rfl
      rw [e1, e2]
      have m1 : (96 : Int) < (P.size : Int) := by omega
      clear e1 e2 hst h5
      go_wp2_with fail
      go_ret
      exact ⟨rfl, hB⟩
end Go.Proofs.Ytmpdfpknjkaabaa.sealTells
