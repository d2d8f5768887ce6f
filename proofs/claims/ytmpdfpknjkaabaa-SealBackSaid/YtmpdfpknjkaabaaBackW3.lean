/-
  The walk of SealBack: what is sealed is opened as it was, and back; what is torn has one text's first bytes, and then the other one's.
-/
import Derived.Test.YtmpdfpknjkaabaaTornW3
namespace Go.Proofs.Ytmpdfpknjkaabaa.sealBack
open Go.RowKit
open sealTorn (torn_ok torn_max)
set_option linter.unusedVariables false

theorem cut130 (s : ByteArray) : (cutS 130 s).size ≤ maxLen := by have := cut_size 130 s; unfold maxLen; omega
/-- the rest of the law: what is torn -/
theorem tornE_size {o t : ByteArray} {k : Int} (h : ¬ (o.size = 128 ∧ t.size = 128)) : tornE o t k = 2 := by unfold tornE; rw [if_neg h]
theorem tornE_arg {o t : ByteArray} {k : Int} (h1 : o.size = 128) (h2 : t.size = 128) (h : ¬ (0 ≤ k ∧ k ≤ 128)) : tornE o t k = 1 := by unfold tornE; rw [if_pos ⟨h1, h2⟩, if_neg h]
set_option maxHeartbeats 6400000 in
set_option maxRecDepth 100000 in
theorem walk (gen no : Int) (p text old : ByteArray) (k : Int) (w : World) (hp : p.size ≤ maxLen) (ht : text.size ≤ maxLen) (ho : old.size ≤ maxLen) :
    Calls Try.prog 4 #[.int .i64 gen, .int .i64 no, .string p, .string text, .string old, .int .i64 k] w fun e w' => e = .returned (.bool true) ∧ Below w.heap.size w w' := by
  have HP := Lib.hid hp
  have HT := Lib.hid ht
  have HO := Lib.hid ho
  unfold maxLen at hp
  clear ht ho
  have F := Lib.hid (fits_any gen no p)
  go_enter Try.func4, Try.ntmps4
  go_wp2_with fail
  refine (stamped_any _ _ _ _ HP.out).mono ?_
  rintro e w1 ⟨rfl, hB⟩
  go_wp2_with fail
  refine (open_any _ _ (torn_max F.out.len)).mono ?_
  rintro e w2 ⟨rfl, hB2⟩
  rw [F.out.told]
  replace hB := hB.trans (hB2.mono hB.size)
  clear hB2 F
  generalize sealS (gS gen) (nS no) (cutS 96 p) = S at *
  generalize gS gen = g at *
  generalize nS no = n at *
  go_upto_region 3 with fail
  go_cut [17, 71] (fun s17 s71 wx => s71 = .bool false ∧ Below w.heap.size w wx)
  case first =>
    as_aux_lemma =>
      by_cases h : 96 < p.size
      · rw [cut_pos h]
        go_wp2_with fail
        refine (alive_any _).mono ?_
        rintro e w3 ⟨rfl, hB3⟩
        go_wp2_with fail
        go_meet
        exact ⟨rfl, hB.trans (hB3.mono hB.size)⟩
      · rw [cut_neg h]
        go_wp2_with fail
        refine (alive_any _).mono ?_
        rintro e w3 ⟨rfl, hB3⟩
        go_wp2_with fail
        go_meet
        exact ⟨rfl, hB.trans (hB3.mono hB.size)⟩
  case rest =>
    obtain ⟨rfl, hC⟩ := hcut
    clear hB hp
    go_wp2_with fail
    refine (few_any _ _ HT.out).mono ?_
    rintro e w' ⟨rfl, rfl⟩
    go_wp2_with fail
    refine (few_any _ _ HO.out).mono ?_
    rintro e w' ⟨rfl, rfl⟩
    have zX := cut_size 130 text
    have zO := cut_size 130 old
    have mX := Lib.hid (cut130 text)
    have mO := Lib.hid (cut130 old)
    generalize cutS 130 text = X at *
    generalize cutS 130 old = O at *
    go_wp2_with fail
    refine (open_any _ _ mX.out).mono ?_
    rintro e w4 ⟨rfl, hB4⟩
    replace hC := hC.trans (hB4.mono hC.size)
    clear hB4
    have V : Hid ((openE X = 0 ∧ openV X = .tuple #[.int .i64 (gOf X), .int .i64 (nOf X), .string (pOf X), .int .i64 0]) ∨ (openE X ≠ 0 ∧ openV X = .tuple #[.int .i64 0, .int .i64 0, .string ⟨#[]⟩, .int .i64 (openE X)])) := by
      by_cases e : openE X = 0
      · exact Or.inl ⟨e, openV_yes e⟩
      · exact Or.inr ⟨e, openV_no rfl e⟩
    have R : ∃ (g' n' e' : Int) (p' : ByteArray), openV X = .tuple #[.int .i64 g', .int .i64 n', .string p', .int .i64 e'] ∧ Hid ((e' = 0 ∧ Fits g' n' p' ∧ sealS g' n' p' = X) ∨ (e' ≠ 0 ∧ g' = 0 ∧ n' = 0 ∧ p' = ⟨#[]⟩)) := by
      rcases V.out with ⟨e, h⟩ | ⟨e, h⟩
      · exact ⟨_, _, _, _, h, Or.inl ⟨rfl, open_back e⟩⟩
      · exact ⟨_, _, _, _, h, Or.inr ⟨e, rfl, rfl, rfl⟩⟩
    obtain ⟨g', n', e', p', hv, hr⟩ := R
    rw [hv]
    clear hv V
    go_upto_if 84 with fail
    go_cut [23, 24] (fun s23 s24 wx => Below w.heap.size w wx)
    case first =>
      as_aux_lemma =>
        by_cases h : e' = 0
        · obtain ⟨rfl, F, hS⟩ | ⟨h1, _⟩ := hr.out
          · have FE := Lib.hid (sealE_ok F.stamp F.size)
            have FR := Lib.hid (sealR_ok F.stamp F.size)
            have HS := Lib.hid hS
            have hm : Hid (p'.size ≤ maxLen) := by show _ ≤ _; have := F.size; unfold maxLen; omega
            clear F hS h hr
            go_wp2_with fail
            refine (seal_any _ _ _ _ hm.out).mono ?_
            rintro e w5 ⟨rfl, hB5⟩
            rw [FE.out, FR.out, HS.out]
            go_wp2_with fail
            go_meet
            exact hC.trans (hB5.mono hC.size)
          · exact absurd h h1
        · obtain ⟨h1, _⟩ | ⟨_, rfl, rfl, rfl⟩ := hr.out
          · exact absurd h1 h
          · have b0 : (e' == 0) = false := by simpa using h
            clear h hr
            go_wp2_with fail
            go_meet
            exact hC
    case rest =>
      have hC2 := hcut
      clear hcut hC hr
      go_wp2_with fail
      refine (torn_any _ _ _ _ mO.out mX.out).mono ?_
      rintro e w6 ⟨rfl, hB6⟩
      replace hC2 := hC2.trans (hB6.mono hC2.size)
      clear hB6 mO mX
      by_cases h1 : O.size = 128
      · have b1 : ((O.size : Int) == 128) = true := by simp only [beq_iff_eq]; omega
        have n1 : ((O.size : Int) != 128) = false := by rw [bne, b1]; rfl
        by_cases h2 : X.size = 128
        · have b2 : ((X.size : Int) == 128) = true := by simp only [beq_iff_eq]; omega
          have n2 : ((X.size : Int) != 128) = false := by rw [bne, b2]; rfl
          by_cases h3 : 0 ≤ k
          · by_cases h4 : k ≤ 128
            · obtain ⟨q, rfl⟩ := Int.eq_ofNat_of_zero_le h3
              obtain ⟨e1, e2⟩ := torn_ok h1 h2 (rfl : (q : Int) = q) (by omega)
              have e3 : tornS O X q = X.extract 0 q ++ O.extract q O.size := by unfold tornS; rw [h1]
              rw [e1, e2, e3]
              have z1 : (X.extract 0 q).size = q := by rw [ByteArray.size_extract]; omega
              have z2 : (O.extract q O.size).size = 128 - q := by rw [ByteArray.size_extract]; omega
              have hl1 : (q : Int) ≤ (O.size : Int) := by omega
              have hl2 : (q : Int) ≤ (X.size : Int) := by omega
              have hq : q ≤ O.size := by omega
              have hq2 : q ≤ X.size := by omega
              clear e1 e2 e3 h1 h2
              go_wp2_with fail
              go_quiet (fail)
              go_wp2_with fail
              go_ret
              exact ⟨rfl, below_drewN hC2 _⟩
            · rw [tornE_arg h1 h2 (by omega), torn_no (tornE_arg h1 h2 (by omega)) (by omega)]
              have h5 : 128 < k := by omega
              clear h1 h2
              go_wp2_with fail
              go_ret
              exact ⟨rfl, hC2⟩
          · rw [tornE_arg h1 h2 (by omega), torn_no (tornE_arg h1 h2 (by omega)) (by omega)]
            have h5 : k < 0 := by omega
            clear h1 h2
            go_wp2_with fail
            go_ret
            exact ⟨rfl, hC2⟩
        · rw [tornE_size (by omega), torn_no (tornE_size (by omega)) (by omega)]
          have b2 : ((X.size : Int) == 128) = false := by simp only [beq_eq_false_iff_ne, ne_eq]; omega
          have n2 : ((X.size : Int) != 128) = true := by rw [bne, b2]; rfl
          clear h1 h2
          go_wp2_with fail
          go_ret
          exact ⟨rfl, hC2⟩
      · rw [tornE_size (by omega), torn_no (tornE_size (by omega)) (by omega)]
        have b1 : ((O.size : Int) == 128) = false := by simp only [beq_eq_false_iff_ne, ne_eq]; omega
        have n1 : ((O.size : Int) != 128) = true := by rw [bne, b1]; rfl
        clear h1
        go_wp2_with fail
        go_ret
        exact ⟨rfl, hC2⟩
end Go.Proofs.Ytmpdfpknjkaabaa.sealBack
