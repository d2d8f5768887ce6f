/-
  Sums and products do not hang on order: the law's walk.
-/
import Derived.Test.YtilllmhcjojhbaaTickMath
namespace Go.Proofs.Ytilllmhcjojhbaa.tickOrder
open Go.RowKit
set_option linter.unusedVariables false

theorem letter (x : Int) : ∃ r, Hid (r = x) := ⟨x, Lib.hid rfl⟩
set_option maxHeartbeats 1600000 in
set_option maxRecDepth 100000 in
theorem walk (a0 a1 a2 : Int) (w : World) :
    Calls Try.prog 4 #[.int .i64 a0, .int .i64 a1, .int .i64 a2] w fun e w' => e = .returned (.bool true) ∧ Below w.heap.size w w' := by
  obtain ⟨a, Ha⟩ := letter (timeT a0)
  obtain ⟨b, Hb⟩ := letter (timeT a1)
  obtain ⟨c, Hc⟩ := letter (timeT a2)
  have ha0 : 0 ≤ a := by rw [Ha.out]; exact timeT_nn _
  have ha1 : a ≤ 1099511627776 := by rw [Ha.out]; exact timeT_le _
  have hb0 : 0 ≤ b := by rw [Hb.out]; exact timeT_nn _
  have hb1 : b ≤ 1099511627776 := by rw [Hb.out]; exact timeT_le _
  have hc0 : 0 ≤ c := by rw [Hc.out]; exact timeT_nn _
  have hc1 : c ≤ 1099511627776 := by rw [Hc.out]; exact timeT_le _
  obtain ⟨ab, Hab⟩ := letter (addT a b)
  have hab0 : 0 ≤ ab := by rw [Hab.out]; exact add_nn ha0 hb0
  have hab1 : ab ≤ 1099511627776 := by rw [Hab.out]; exact add_le _ _
  have hla : a ≤ ab := by rw [Hab.out]; exact addT_left ha1 hb0
  have hlb : b ≤ ab := by rw [Hab.out]; exact addT_right ha0 hb1
  have Hba : Hid (ab = addT b a) := by
    show _ = _
    rw [Hab.out, addT_comm]
  obtain ⟨bc, Hbc⟩ := letter (addT b c)
  have hbc0 : 0 ≤ bc := by rw [Hbc.out]; exact add_nn hb0 hc0
  have hbc1 : bc ≤ 1099511627776 := by rw [Hbc.out]; exact add_le _ _
  obtain ⟨x, Hx⟩ := letter (addT ab c)
  have hx0 : 0 ≤ x := by rw [Hx.out]; exact add_nn hab0 hc0
  have hx1 : x ≤ 1099511627776 := by rw [Hx.out]; exact add_le _ _
  have Hy : Hid (x = addT a bc) := by
    show _ = _
    rw [Hx.out, Hab.out, Hbc.out, addT_assoc ha0 hb0 hc0]
  obtain ⟨m, Hm⟩ := letter (mulT a b)
  have hm0 : 0 ≤ m := by rw [Hm.out]; exact mulT_nn ha0 hb0
  have hm1 : m ≤ 1099511627776 := by rw [Hm.out]; exact mulT_le _ _
  have Hn : Hid (m = mulT b a) := by
    show _ = _
    rw [Hm.out, mulT_comm]
  obtain ⟨o, Ho⟩ := letter (mulT b c)
  have ho0 : 0 ≤ o := by rw [Ho.out]; exact mulT_nn hb0 hc0
  have ho1 : o ≤ 1099511627776 := by rw [Ho.out]; exact mulT_le _ _
  obtain ⟨p, Hp⟩ := letter (mulT m c)
  have hp0 : 0 ≤ p := by rw [Hp.out]; exact mulT_nn hm0 hc0
  have hp1 : p ≤ 1099511627776 := by rw [Hp.out]; exact mulT_le _ _
  have Hr : Hid (p = mulT a o) := by
    show _ = _
    rw [Hp.out, Hm.out, Ho.out, mulT_assoc ha0 hb0 hc0]

  by_cases hk : a ≠ subT ab b
  · have hk1 : (ab != 1099511627776) = false := by
      by_cases h : ab = 1099511627776
      · rw [h]; rfl
      · exact absurd (by rw [Hab.out, back ha0 hb0 (by rw [← Hab.out]; exact h)]) hk
    obtain ⟨k, Hk⟩ := letter (subT ab b)
    have hk2 : (k != a) = true := by
      rw [Hk.out]
      simpa using fun h => hk (Eq.symm h)
    clear hk
    go_enter Try.func4, Try.ntmps4
    go_wp2_with fail
    refine (tm_is _ a _ Ha.out).mono ?_
    rintro e w' ⟨rfl, rfl⟩
    go_wp2_with fail
    refine (tm_is _ b _ Hb.out).mono ?_
    rintro e w' ⟨rfl, rfl⟩
    go_wp2_with fail
    refine (tm_is _ c _ Hc.out).mono ?_
    rintro e w' ⟨rfl, rfl⟩
    go_wp2_with fail
    refine (add_is _ _ ab _ Hab.out ha0 ha1 hb0 hb1).mono ?_
    rintro e w1 ⟨rfl, B1⟩
    go_wp2_with fail
    refine (add_is _ _ ab _ Hba.out hb0 hb1 ha0 ha1).mono ?_
    rintro e w2 ⟨rfl, B2⟩
    go_wp2_with fail
    refine (add_is _ _ bc _ Hbc.out hb0 hb1 hc0 hc1).mono ?_
    rintro e w3 ⟨rfl, B3⟩
    go_wp2_with fail
    refine (add_is _ _ x _ Hx.out hab0 hab1 hc0 hc1).mono ?_
    rintro e w4 ⟨rfl, B4⟩
    go_wp2_with fail
    refine (add_is _ _ x _ Hy.out ha0 ha1 hbc0 hbc1).mono ?_
    rintro e w5 ⟨rfl, B5⟩
    go_wp2_with fail
    refine (times_is _ _ m _ Hm.out ha0 ha1 hb0 hb1).mono ?_
    rintro e w6 ⟨rfl, B6⟩
    go_wp2_with fail
    refine (times_is _ _ m _ Hn.out hb0 hb1 ha0 ha1).mono ?_
    rintro e w7 ⟨rfl, B7⟩
    go_wp2_with fail
    refine (times_is _ _ o _ Ho.out hb0 hb1 hc0 hc1).mono ?_
    rintro e w8 ⟨rfl, B8⟩
    go_wp2_with fail
    refine (times_is _ _ p _ Hp.out hm0 hm1 hc0 hc1).mono ?_
    rintro e w9 ⟨rfl, B9⟩
    go_wp2_with fail
    refine (times_is _ _ p _ Hr.out ha0 ha1 ho0 ho1).mono ?_
    rintro e w10 ⟨rfl, B10⟩
    go_wp2_with fail
    refine (sub_is _ _ k _ Hk.out hab0 hab1 hb0 hb1).mono ?_
    rintro e w11 ⟨rfl, B11⟩
    go_wp2_with fail
    refine (alive_any _).mono ?_
    rintro e w12 ⟨rfl, B12⟩
    go_wp2_with fail
    refine (time_is x _ hx0 hx1).mono ?_
    rintro e w' ⟨rfl, rfl⟩
    go_wp2_with fail
    refine (time_is p _ hp0 hp1).mono ?_
    rintro e w' ⟨rfl, rfl⟩
    go_wp2_with fail
    all_goals
      go_ret
      have s1 := B1.size
      have s2 := B2.size
      have s3 := B3.size
      have s4 := B4.size
      have s5 := B5.size
      have s6 := B6.size
      have s7 := B7.size
      have s8 := B8.size
      have s9 := B9.size
      have s10 := B10.size
      have s11 := B11.size
      exact ⟨rfl, (((((((((((B1.trans (B2.mono (by omega))).trans (B3.mono (by omega))).trans (B4.mono (by omega))).trans (B5.mono (by omega))).trans (B6.mono (by omega))).trans (B7.mono (by omega))).trans (B8.mono (by omega))).trans (B9.mono (by omega))).trans (B10.mono (by omega))).trans (B11.mono (by omega))).trans (B12.mono (by omega)))⟩
  · have Hk : Hid (a = subT ab b) := Lib.hid (Classical.not_not.1 hk)
    clear hk
    go_enter Try.func4, Try.ntmps4
    go_wp2_with fail
    refine (tm_is _ a _ Ha.out).mono ?_
    rintro e w' ⟨rfl, rfl⟩
    go_wp2_with fail
    refine (tm_is _ b _ Hb.out).mono ?_
    rintro e w' ⟨rfl, rfl⟩
    go_wp2_with fail
    refine (tm_is _ c _ Hc.out).mono ?_
    rintro e w' ⟨rfl, rfl⟩
    go_wp2_with fail
    refine (add_is _ _ ab _ Hab.out ha0 ha1 hb0 hb1).mono ?_
    rintro e w1 ⟨rfl, B1⟩
    go_wp2_with fail
    refine (add_is _ _ ab _ Hba.out hb0 hb1 ha0 ha1).mono ?_
    rintro e w2 ⟨rfl, B2⟩
    go_wp2_with fail
    refine (add_is _ _ bc _ Hbc.out hb0 hb1 hc0 hc1).mono ?_
    rintro e w3 ⟨rfl, B3⟩
    go_wp2_with fail
    refine (add_is _ _ x _ Hx.out hab0 hab1 hc0 hc1).mono ?_
    rintro e w4 ⟨rfl, B4⟩
    go_wp2_with fail
    refine (add_is _ _ x _ Hy.out ha0 ha1 hbc0 hbc1).mono ?_
    rintro e w5 ⟨rfl, B5⟩
    go_wp2_with fail
    refine (times_is _ _ m _ Hm.out ha0 ha1 hb0 hb1).mono ?_
    rintro e w6 ⟨rfl, B6⟩
    go_wp2_with fail
    refine (times_is _ _ m _ Hn.out hb0 hb1 ha0 ha1).mono ?_
    rintro e w7 ⟨rfl, B7⟩
    go_wp2_with fail
    refine (times_is _ _ o _ Ho.out hb0 hb1 hc0 hc1).mono ?_
    rintro e w8 ⟨rfl, B8⟩
    go_wp2_with fail
    refine (times_is _ _ p _ Hp.out hm0 hm1 hc0 hc1).mono ?_
    rintro e w9 ⟨rfl, B9⟩
    go_wp2_with fail
    refine (times_is _ _ p _ Hr.out ha0 ha1 ho0 ho1).mono ?_
    rintro e w10 ⟨rfl, B10⟩
    go_wp2_with fail
    refine (sub_is _ _ a _ Hk.out hab0 hab1 hb0 hb1).mono ?_
    rintro e w11 ⟨rfl, B11⟩
    go_wp2_with fail
    refine (alive_any _).mono ?_
    rintro e w12 ⟨rfl, B12⟩
    go_wp2_with fail
    refine (time_is x _ hx0 hx1).mono ?_
    rintro e w' ⟨rfl, rfl⟩
    go_wp2_with fail
    refine (time_is p _ hp0 hp1).mono ?_
    rintro e w' ⟨rfl, rfl⟩
    go_wp2_with fail
    all_goals
      go_ret
      have s1 := B1.size
      have s2 := B2.size
      have s3 := B3.size
      have s4 := B4.size
      have s5 := B5.size
      have s6 := B6.size
      have s7 := B7.size
      have s8 := B8.size
      have s9 := B9.size
      have s10 := B10.size
      have s11 := B11.size
      exact ⟨rfl, (((((((((((B1.trans (B2.mono (by omega))).trans (B3.mono (by omega))).trans (B4.mono (by omega))).trans (B5.mono (by omega))).trans (B6.mono (by omega))).trans (B7.mono (by omega))).trans (B8.mono (by omega))).trans (B9.mono (by omega))).trans (B10.mono (by omega))).trans (B11.mono (by omega))).trans (B12.mono (by omega)))⟩
end Go.Proofs.Ytilllmhcjojhbaa.tickOrder
