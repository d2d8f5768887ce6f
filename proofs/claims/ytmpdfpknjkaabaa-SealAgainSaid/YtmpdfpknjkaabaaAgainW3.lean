/-
  The walk of SealAgain: a sealed sector that is torn over something that is not opened, which came of one of its own stamp torn over one of another generation, is not opened, or is whole.
-/
import Derived.Test.YtmpdfpknjkaabaaTornW3
namespace Go.Proofs.Ytmpdfpknjkaabaa.sealAgain
open Go.RowKit
open sealTorn (torn_ok torn_max)
set_option linter.unusedVariables false

set_option maxHeartbeats 6400000 in
set_option maxRecDepth 100000 in
theorem walk (one two no : Int) (a b c : ByteArray) (k m : Int) (w : World) (ha : a.size ≤ maxLen) (hb : b.size ≤ maxLen) (hc : c.size ≤ maxLen) :
    Calls Try.prog 6 #[.int .i64 one, .int .i64 two, .int .i64 no, .string a, .string b, .string c, .int .i64 k, .int .i64 m] w fun e w' => e = .returned (.bool true) ∧ Below w.heap.size w w' := by
  obtain ⟨k1, k2⟩ := tmod_bd k 129 (by omega)
  obtain ⟨m1, m2⟩ := tmod_bd m 129 (by omega)
  have HA := Lib.hid ha
  have HB := Lib.hid hb
  have HC := Lib.hid hc
  clear ha hb hc
  have F := Lib.hid (fits_any one no a)
  have G0 := fits_any two (nS no) b
  rw [nS_again] at G0
  have G := Lib.hid G0
  clear G0
  have H0 := fits_any two (nS no) c
  rw [nS_again] at H0
  have H := Lib.hid H0
  clear H0
  obtain ⟨q, hq⟩ := Int.eq_ofNat_of_zero_le (Int.emod_nonneg (k.tmod 129) (by omega : (129 : Int) ≠ 0))
  have hq1 : k.tmod 129 % 129 < 129 := Int.emod_lt_of_pos _ (by omega)
  have HQ := Lib.hid hq
  have HQ1 : Hid (q ≤ 128) := by show _ ≤ _; omega
  clear hq hq1
  obtain ⟨r, hr⟩ := Int.eq_ofNat_of_zero_le (Int.emod_nonneg (m.tmod 129) (by omega : (129 : Int) ≠ 0))
  have hr1 : m.tmod 129 % 129 < 129 := Int.emod_lt_of_pos _ (by omega)
  have HR := Lib.hid hr
  have HR1 : Hid (r ≤ 128) := by show _ ≤ _; omega
  clear hr hr1
  have hO := Lib.hid F.out.len
  have hX := Lib.hid G.out.len
  have hY := Lib.hid H.out.len
  have P1 := Lib.hid (torn_ok hO.out hX.out HQ.out HQ1.out)
  have hT := Lib.hid (torn_size _ _ _ hO.out hX.out HQ1.out)
  have P2 := Lib.hid (torn_ok hT.out hY.out HR.out HR1.out)
  have hU := Lib.hid (torn_size _ _ _ hT.out hY.out HR1.out)
  have D := Lib.hid (fun hne hno => torn_again F.out G.out H.out hne q r HQ1.out HR1.out hno)
  go_enter Try.func6, Try.ntmps6
  go_wp2_with fail
  refine (stamped_any _ _ _ _ HA.out).mono ?_
  rintro e w1 ⟨rfl, hB⟩
  go_wp2_with fail
  refine (stamped_any _ _ _ _ HB.out).mono ?_
  rintro e w2 ⟨rfl, hB2⟩
  rw [nS_again]
  replace hB := hB.trans (hB2.mono hB.size)
  clear hB2
  go_wp2_with fail
  refine (stamped_any _ _ _ _ HC.out).mono ?_
  rintro e w3 ⟨rfl, hB3⟩
  rw [nS_again]
  replace hB := hB.trans (hB3.mono hB.size)
  clear hB3
  go_wp2_with fail
  refine (torn_any _ _ _ _ (torn_max hO.out) (torn_max hX.out)).mono ?_
  rintro e w4 ⟨rfl, hB4⟩
  rw [P1.out.1, P1.out.2]
  replace hB := hB.trans (hB4.mono hB.size)
  clear hB4 P1
  go_wp2_with fail
  refine (torn_any _ _ _ _ (torn_max hT.out) (torn_max hY.out)).mono ?_
  rintro e w5 ⟨rfl, hB5⟩
  rw [P2.out.1, P2.out.2]
  replace hB := hB.trans (hB5.mono hB.size)
  clear hB5 P2 k1 k2 m1 m2
  go_wp2_with fail
  refine (alive_any _).mono ?_
  rintro e w6 ⟨rfl, hB6⟩
  replace hB := hB.trans (hB6.mono hB.size)
  clear hB6 F G H
  generalize tornS (tornS (sealS (gS one) (nS no) (cutS 96 a)) (sealS (gS two) (nS no) (cutS 96 b)) q) (sealS (gS two) (nS no) (cutS 96 c)) r = U at *
  generalize tornS (sealS (gS one) (nS no) (cutS 96 a)) (sealS (gS two) (nS no) (cutS 96 b)) q = T at *
  generalize sealS (gS one) (nS no) (cutS 96 a) = O at *
  generalize sealS (gS two) (nS no) (cutS 96 b) = X at *
  generalize sealS (gS two) (nS no) (cutS 96 c) = Y at *
  generalize gS one = g at *
  generalize gS two = h at *
  generalize nS no = n at *
  go_wp2_with fail
  refine (open_any _ _ (torn_max hT.out)).mono ?_
  rintro e w7 ⟨rfl, hB7⟩
  replace hB := hB.trans (hB7.mono hB.size)
  clear hB7
  unfold openV
  by_cases e1 : g = h
  · subst e1
    clear D
    go_wp2_with fail
    go_ret
    exact ⟨rfl, hB⟩
  · have n1 : (g == h) = false := by simpa using e1
    by_cases e2 : openE T = 0
    · have b2 : (openE T == 0) = true := by simpa using e2
      clear e1 e2 D
      go_wp2_with fail
      go_ret
      exact ⟨rfl, hB⟩
    · have b2 : (openE T == 0) = false := by simpa using e2
      have d := Lib.hid (D.out e1 e2)
      clear e1 e2 D
      go_wp2_with fail
      refine (open_any _ _ (torn_max hU.out)).mono ?_
      rintro e w8 ⟨rfl, hB8⟩
      replace hB := hB.trans (hB8.mono hB.size)
      clear hB8
      unfold openV
      by_cases e3 : openE U = 0
      · obtain rfl : U = Y := d.out.1 e3
        have b3 : (openE U == 0) = true := by simpa using e3
        clear e3 d
        go_wp2_with fail
        go_ret
        exact ⟨rfl, hB⟩
      · have b3 : (openE U == 0) = false := by simpa using e3
        have n3 := list_ne (fun e => e3 (d.out.2 e))
        clear e3 d
        go_wp2_with fail
        go_ret
        exact ⟨rfl, hB⟩
end Go.Proofs.Ytmpdfpknjkaabaa.sealAgain
