/-
  The walk of SealApart: two sealed sectors are the same just if their stamps and payloads are.
-/
import Derived.Test.YtmpdfpknjkaabaaLaw3
import Derived.RegionTactic
namespace Go.Proofs.Ytmpdfpknjkaabaa.sealApart
open Go.RowKit
set_option linter.unusedVariables false

theorem cut_cut (m : Nat) (p : ByteArray) : cutS m (cutS m p) = cutS m p := cut_neg (by have := cut_size m p; omega)
theorem cut_max (p : ByteArray) : (cutS 96 p).size ≤ maxLen := by have := cut_size 96 p; unfold maxLen; omega
set_option maxHeartbeats 3200000 in
theorem walk (one two no number : Int) (a b : ByteArray) (w : World) (ha : a.size ≤ maxLen) (hb : b.size ≤ maxLen) :
    Calls Try.prog 7 #[.int .i64 one, .int .i64 two, .int .i64 no, .int .i64 number, .string a, .string b] w fun e w' => e = .returned (.bool true) ∧ Below w.heap.size w w' := by
  unfold maxLen at ha hb
  go_enter Try.func7, Try.ntmps7
  go_upto_region 1 with fail
  go_cut [4, 5] (fun s4 s5 wx => s4 = .string (cutS 96 a) ∧ s5 = .string (cutS 96 b) ∧ Below w.heap.size w wx)
  case first =>
    as_aux_lemma =>
      have hB : Below w.heap.size w w.drew := (Below.refl _ w).drew
      by_cases h1 : 96 < a.size
      · have E1 := Lib.hid (cut_pos h1)
        by_cases h2 : 96 < b.size
        · have E2 := Lib.hid (cut_pos h2)
          go_region
          all_goals (go_wp2_with fail; go_meet)
          all_goals exact ⟨str_eq E1.out.symm, str_eq E2.out.symm, hB⟩
        · have E2 := Lib.hid (cut_neg h2)
          go_region
          all_goals (go_wp2_with fail; go_meet)
          all_goals exact ⟨str_eq E1.out.symm, str_eq E2.out.symm, hB⟩
      · have E1 := Lib.hid (cut_neg h1)
        by_cases h2 : 96 < b.size
        · have E2 := Lib.hid (cut_pos h2)
          go_region
          all_goals (go_wp2_with fail; go_meet)
          all_goals exact ⟨str_eq E1.out.symm, str_eq E2.out.symm, hB⟩
        · have E2 := Lib.hid (cut_neg h2)
          go_region
          all_goals (go_wp2_with fail; go_meet)
          all_goals exact ⟨str_eq E1.out.symm, str_eq E2.out.symm, hB⟩
  case rest =>
    obtain ⟨rfl, rfl, hB⟩ := hcut
    have FA := fits_any one no (cutS 96 a)
    have FB := fits_any two number (cutS 96 b)
    rw [cut_cut] at FA FB
    have inj := Lib.hid (seal_inj FA FB)
    clear FA FB
    go_wp2_with fail
    refine (stamped_any _ _ _ _ (cut_max a)).mono ?_
    rintro e w1 ⟨rfl, hB1⟩
    go_wp2_with fail
    refine (stamped_any _ _ _ _ (cut_max b)).mono ?_
    rintro e w2 ⟨rfl, hB2⟩
    go_wp2_with fail
    refine (alive_any _).mono ?_
    rintro e w3 ⟨rfl, hB3⟩
    have hBB : Below w.heap.size w w3 := ((hB.trans (hB1.mono hB.size)).trans (hB2.mono (Nat.le_trans hB.size hB1.size))).trans (hB3.mono (Nat.le_trans (Nat.le_trans hB.size hB1.size) hB2.size))
    clear hB hB1 hB2 hB3
    rw [cut_cut, cut_cut]
    generalize sealS (gS one) (nS no) (cutS 96 a) = S at *
    generalize sealS (gS two) (nS number) (cutS 96 b) = T at *
    generalize gS one = G at *
    generalize gS two = H at *
    generalize nS no = N at *
    generalize nS number = M at *
    generalize cutS 96 a = A at *
    generalize cutS 96 b = B at *
    by_cases e1 : G = H
    · subst e1
      by_cases e2 : N = M
      · subst e2
        by_cases e3 : A = B
        · subst e3
          obtain rfl : S = T := inj.out.2 ⟨rfl, rfl, rfl⟩
          go_wp2_with fail
          go_ret
          exact ⟨rfl, hBB⟩
        · have n3 := list_ne e3
          have hne := list_ne (fun e => e3 (inj.out.1 e).2.2)
          clear e3
          go_wp2_with fail
          go_ret
          exact ⟨rfl, hBB⟩
      · have n2 : (N == M) = false := by simpa using e2
        have hne := list_ne (fun e => e2 (inj.out.1 e).2.1)
        clear e2
        go_wp2_with fail
        go_ret
        exact ⟨rfl, hBB⟩
    · have n1 : (G == H) = false := by simpa using e1
      have hne := list_ne (fun e => e1 (inj.out.1 e).1)
      clear e1
      go_wp2_with fail
      go_ret
      exact ⟨rfl, hBB⟩
end Go.Proofs.Ytmpdfpknjkaabaa.sealApart
