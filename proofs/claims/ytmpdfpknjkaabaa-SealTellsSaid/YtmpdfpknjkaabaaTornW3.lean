/-
  The walk of SealTorn: a sealed sector that is torn over one of another generation, of the same number, is not opened, or is one of both.
-/
import Derived.Test.YtmpdfpknjkaabaaLaw3
namespace Go.Proofs.Ytmpdfpknjkaabaa.sealTorn
open Go.RowKit
set_option linter.unusedVariables false

theorem torn_ok {old text : ByteArray} {k : Int} {q : Nat} (ho : old.size = 128) (ht : text.size = 128) (hk : k = (q : Int)) (hq : q ≤ 128) : tornE old text k = 0 ∧ tornR old text k = tornS old text q := by
  subst hk
  have e : tornE old text (q : Int) = 0 := by unfold tornE; rw [if_pos ⟨ho, ht⟩, if_pos (by omega)]
  refine ⟨e, ?_⟩
  unfold tornR
  rw [if_pos e]
  rfl
theorem extract_sub (t : ByteArray) (a b : Nat) : t.extract a b = sub t.data.toList a (b - a) := by
  apply bytes_eq
  unfold sub
  rw [ByteArray.data_extract, Array.toList_extract]
theorem tail_eq {s t : ByteArray} (hs : s.size = 128) (ht : t.size = 128) (h1 : bAt s 126 = bAt t 126) (h2 : bAt s 127 = bAt t 127) : s.extract 126 128 = t.extract 126 128 := by
  unfold bAt at h1 h2
  rw [extract_sub, extract_sub, show (128 : Nat) - 126 = 2 from rfl, sub_eq2 (by rw [list_len hs]; omega), sub_eq2 (by rw [list_len ht]; omega), h1, h2]
theorem torn_max {t : ByteArray} (h : t.size = 128) : t.size ≤ maxLen := by rw [h]; unfold maxLen; omega
set_option maxHeartbeats 6400000 in
set_option maxRecDepth 100000 in
theorem walk (one two no : Int) (a b other : ByteArray) (k : Int) (w : World) (ha : a.size ≤ maxLen) (hb : b.size ≤ maxLen) (hc : other.size ≤ maxLen) :
    Calls Try.prog 5 #[.int .i64 one, .int .i64 two, .int .i64 no, .string a, .string b, .string other, .int .i64 k] w fun e w' => e = .returned (.bool true) ∧ Below w.heap.size w w' := by
  obtain ⟨k1, k2⟩ := tmod_bd k 129 (by omega)
  have HA := Lib.hid ha
  have HB := Lib.hid hb
  have HC := Lib.hid hc
  clear ha hb hc
  have F := Lib.hid (fits_any one no a)
  have G0 := fits_any two (nS no) b
  rw [nS_again] at G0
  have G := Lib.hid G0
  clear G0
  obtain ⟨q, hq⟩ := Int.eq_ofNat_of_zero_le (Int.emod_nonneg (k.tmod 129) (by omega : (129 : Int) ≠ 0))
  have hq1 : k.tmod 129 % 129 < 129 := Int.emod_lt_of_pos _ (by omega)
  have HQ := Lib.hid hq
  have HQ1 : Hid (q ≤ 128) := by show _ ≤ _; omega
  clear hq hq1
  go_enter Try.func5, Try.ntmps5
  go_wp2_with fail
  refine (stamped_any _ _ _ _ HA.out).mono ?_
  rintro e w1 ⟨rfl, hB1⟩
  go_wp2_with fail
  refine (stamped_any _ _ _ _ HB.out).mono ?_
  rintro e w2 ⟨rfl, hB2⟩
  rw [nS_again]
  go_wp2_with fail
  have hB := hB1.trans (hB2.mono hB1.size)
  clear hB1 hB2 k1 k2
  have hO := Lib.hid F.out.len
  have hX := Lib.hid G.out.len
  have hW := Lib.hid (whole_size other)
  have P1 := Lib.hid (torn_ok hO.out hX.out HQ.out HQ1.out)
  have P2 := Lib.hid (torn_ok hW.out hX.out HQ.out HQ1.out)
  have hT := Lib.hid (torn_size _ _ _ hO.out hX.out HQ1.out)
  have hU := Lib.hid (torn_size _ _ _ hW.out hX.out HQ1.out)
  have D1 : Hid (gS one ≠ gS two → (openE (tornS (sealS (gS one) (nS no) (cutS 96 a)) (sealS (gS two) (nS no) (cutS 96 b)) q) = 0 ↔ tornS (sealS (gS one) (nS no) (cutS 96 a)) (sealS (gS two) (nS no) (cutS 96 b)) q = sealS (gS one) (nS no) (cutS 96 a) ∨ tornS (sealS (gS one) (nS no) (cutS 96 a)) (sealS (gS two) (nS no) (cutS 96 b)) q = sealS (gS two) (nS no) (cutS 96 b))) :=
    fun hne => torn_both F.out G.out hne q HQ1.out
  have D2 : Hid (openE (tornS (wholeS other) (sealS (gS two) (nS no) (cutS 96 b)) q) = 0 → tornS (wholeS other) (sealS (gS two) (nS no) (cutS 96 b)) q ≠ sealS (gS two) (nS no) (cutS 96 b) → gOf (tornS (wholeS other) (sealS (gS two) (nS no) (cutS 96 b)) q) = gS two → nOf (tornS (wholeS other) (sealS (gS two) (nS no) (cutS 96 b)) q) = nS no → (wholeS other).extract 126 128 = (sealS (gS two) (nS no) (cutS 96 b)).extract 126 128) := fun h1 h2 h3 h4 => by
    obtain ⟨e1, e2⟩ := torn_any_text G.out hW.out q HQ1.out h1 h2 h3 h4
    exact tail_eq hW.out hX.out (by rw [e1, G.out.at126]) (by rw [e2, G.out.at127])
  refine (torn_any _ _ _ _ (torn_max hO.out) (torn_max hX.out)).mono ?_
  rintro e w3 ⟨rfl, hB3⟩
  rw [P1.out.1, P1.out.2]
  replace hB := hB.trans (hB3.mono hB.size)
  clear hB3 P1
  go_wp2_with fail
  refine (whole_any _ _ HC.out).mono ?_
  rintro e w' ⟨rfl, rfl⟩
  go_wp2_with fail
  refine (torn_any _ _ _ _ (torn_max hW.out) (torn_max hX.out)).mono ?_
  rintro e w4 ⟨rfl, hB4⟩
  rw [P2.out.1, P2.out.2]
  replace hB := hB.trans (hB4.mono hB.size)
  clear hB4 P2
  go_wp2_with fail
  refine (alive_any _).mono ?_
  rintro e w5 ⟨rfl, hB5⟩
  replace hB := hB.trans (hB5.mono hB.size)
  clear hB5
  generalize tornS (sealS (gS one) (nS no) (cutS 96 a)) (sealS (gS two) (nS no) (cutS 96 b)) q = T at *
  generalize tornS (wholeS other) (sealS (gS two) (nS no) (cutS 96 b)) q = U at *
  clear F G
  generalize sealS (gS one) (nS no) (cutS 96 a) = O at *
  generalize sealS (gS two) (nS no) (cutS 96 b) = X at *
  generalize gS one = g at *
  generalize gS two = h at *
  generalize nS no = n at *
  go_wp2_with fail
  refine (open_any _ _ (torn_max hT.out)).mono ?_
  rintro e w6 ⟨rfl, hB6⟩
  replace hB := hB.trans (hB6.mono hB.size)
  clear hB6
  unfold openV
  go_upto_region 9 with fail
  go_cut [112] (fun s112 wx => s112 = .bool false ∧ Below w.heap.size w wx)
  case first =>
    as_aux_lemma =>
      by_cases e1 : g = h
      · subst e1
        go_wp2_with fail
        go_meet
        exact ⟨rfl, hB⟩
      · have n1 : (g == h) = false := by simpa using e1
        have n2 : (g != h) = true := by rw [bne, n1]; rfl
        have d1 := Lib.hid (D1.out e1)
        clear e1
        by_cases e2 : openE T = 0
        · have b2 : (openE T == 0) = true := by simpa using e2
          rcases d1.out.1 e2 with e3 | e3
          · subst e3
            clear e2
            go_wp2_with fail
            all_goals (go_meet; exact ⟨rfl, hB⟩)
          · subst e3
            clear e2
            by_cases e4 : T = O
            · subst e4
              go_wp2_with fail
              all_goals (go_meet; exact ⟨rfl, hB⟩)
            · have n4 := list_ne e4
              clear e4
              go_wp2_with fail
              all_goals (go_meet; exact ⟨rfl, hB⟩)
        · have b2 : (openE T == 0) = false := by simpa using e2
          have n4 := list_ne (fun e => e2 (d1.out.2 (Or.inl e)))
          have n5 := list_ne (fun e => e2 (d1.out.2 (Or.inr e)))
          clear e2
          go_wp2_with fail
          all_goals (go_meet; exact ⟨rfl, hB⟩)
  case rest =>
    obtain ⟨rfl, hC⟩ := hcut
    clear hB D1
    go_wp2_with fail
    refine (open_any _ _ (torn_max hU.out)).mono ?_
    rintro e w7 ⟨rfl, hB7⟩
    replace hC := hC.trans (hB7.mono hC.size)
    clear hB7
    by_cases e5 : openE U = 0
    · rw [openV_yes e5]
      have d2 := Lib.hid (D2.out e5)
      clear D2 e5
      go_wp2_with fail
      refine (whole_any _ _ HC.out).mono ?_
      rintro e w' ⟨rfl, rfl⟩
      have zW := hW.out
      have zX := hX.out
      by_cases e6 : (wholeS other).extract 126 128 = X.extract 126 128
      · have b6 : (((wholeS other).extract 126 128).toList == (X.extract 126 128).toList) = true := by rw [e6]; exact beq_self_eq_true _
        clear e6
        go_wp2_with fail
        go_ret
        exact ⟨rfl, hC⟩
      · have b6 := list_ne e6
        by_cases e7 : U = X
        · subst e7
          clear e6
          go_wp2_with fail
          go_ret
          exact ⟨rfl, hC⟩
        · have b7 := list_ne e7
          by_cases e8 : gOf U = h
          · have b8 : (gOf U != h) = false := by rw [bne, e8]; simp
            by_cases e9 : nOf U = n
            · exact absurd (d2.out e7 e8 e9) e6
            · have b9 : (nOf U == n) = false := by simpa using e9
              have c9 : (nOf U != n) = true := by rw [bne, b9]; rfl
              clear e6 e7 e8 e9
              go_wp2_with fail
              go_ret
              exact ⟨rfl, hC⟩
          · have b8 : (gOf U == h) = false := by simpa using e8
            have c8 : (gOf U != h) = true := by rw [bne, b8]; rfl
            clear e6 e7 e8
            go_wp2_with fail
            go_ret
            exact ⟨rfl, hC⟩
    · have b5 : (openE U == 0) = false := by simpa using e5
      have c5 : (openE U != 0) = true := by rw [bne, b5]; rfl
      unfold openV
      clear e5 D2
      go_wp2_with fail
      refine (whole_any _ _ HC.out).mono ?_
      rintro e w' ⟨rfl, rfl⟩
      have zW := hW.out
      have zX := hX.out
      by_cases e6 : (wholeS other).extract 126 128 = X.extract 126 128
      · have b6 : (((wholeS other).extract 126 128).toList == (X.extract 126 128).toList) = true := by rw [e6]; exact beq_self_eq_true _
        clear e6
        go_wp2_with fail
        go_ret
        exact ⟨rfl, hC⟩
      · have b6 := list_ne e6
        clear e6
        go_wp2_with fail
        go_ret
        exact ⟨rfl, hC⟩
end Go.Proofs.Ytmpdfpknjkaabaa.sealTorn
