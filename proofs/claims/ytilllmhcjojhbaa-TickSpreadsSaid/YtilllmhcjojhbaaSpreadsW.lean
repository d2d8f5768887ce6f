/-
  What is multiplied is spread over what is added: the law's walk.
-/
import Derived.Test.YtilllmhcjojhbaaTickMath
namespace Go.Proofs.Ytilllmhcjojhbaa.tickSpreads
open Go.RowKit
set_option linter.unusedVariables false

theorem letter (x : Int) : ∃ r, Hid (r = x) := ⟨x, Lib.hid rfl⟩
set_option maxHeartbeats 800000 in
set_option maxRecDepth 100000 in
theorem walk (a0 a1 a2 : Int) (w : World) :
    Calls Try.prog 5 #[.int .i64 a0, .int .i64 a1, .int .i64 a2] w fun e w' => e = .returned (.bool true) ∧ Below w.heap.size w w' := by
  obtain ⟨a, Ha⟩ := letter (timeT a0)
  obtain ⟨b, Hb⟩ := letter (timeT a1)
  obtain ⟨c, Hc⟩ := letter (timeT a2)
  have ha0 : 0 ≤ a := by rw [Ha.out]; exact timeT_nn _
  have ha1 : a ≤ 1099511627776 := by rw [Ha.out]; exact timeT_le _
  have hb0 : 0 ≤ b := by rw [Hb.out]; exact timeT_nn _
  have hb1 : b ≤ 1099511627776 := by rw [Hb.out]; exact timeT_le _
  have hc0 : 0 ≤ c := by rw [Hc.out]; exact timeT_nn _
  have hc1 : c ≤ 1099511627776 := by rw [Hc.out]; exact timeT_le _
  obtain ⟨s, Hs⟩ := letter (addT b c)
  have hs0 : 0 ≤ s := by rw [Hs.out]; exact add_nn hb0 hc0
  have hs1 : s ≤ 1099511627776 := by rw [Hs.out]; exact add_le _ _
  obtain ⟨x, Hx⟩ := letter (mulT a s)
  obtain ⟨p, Hp⟩ := letter (mulT a b)
  obtain ⟨q, Hq⟩ := letter (mulT a c)
  have hp0 : 0 ≤ p := by rw [Hp.out]; exact mulT_nn ha0 hb0
  have hp1 : p ≤ 1099511627776 := by rw [Hp.out]; exact mulT_le _ _
  have hq0 : 0 ≤ q := by rw [Hq.out]; exact mulT_nn ha0 hc0
  have hq1 : q ≤ 1099511627776 := by rw [Hq.out]; exact mulT_le _ _
  have Hy : Hid (x = addT p q) := by
    show _ = _
    rw [Hx.out, Hs.out, spread ha0 hb0 hc0, Hp.out, Hq.out]
  have hxp : p ≤ x := by rw [Hy.out]; exact addT_left hp1 hq0
  have hxq : q ≤ x := by rw [Hy.out]; exact addT_right hp0 hq1
  obtain ⟨n, Hn⟩ := letter (leastT [b, c])
  obtain ⟨m, Hm⟩ := letter (leastT [a, b, c])
  have HM : Hid (m = minT a n) := by
    show _ = _
    rw [Hm.out, Hn.out]; exact least_three a b c
  by_cases hna : n < a
  · have Hmn : Hid (m = n) := by
      show _ = _
      rw [HM.out]; exact (minT_pos hna).symm
    clear HM
    obtain rfl := Hmn.out
    clear Hmn
    go_enter Try.func5, Try.ntmps5
    go_wp2_with fail
    refine (tm_is _ a _ Ha.out).mono ?_
    rintro e w' ⟨rfl, rfl⟩
    go_wp2_with fail
    refine (tm_is _ b _ Hb.out).mono ?_
    rintro e w' ⟨rfl, rfl⟩
    go_wp2_with fail
    refine (tm_is _ c _ Hc.out).mono ?_
    rintro e w' ⟨rfl, rfl⟩
    go_wp2_with fail
    refine (add_is _ _ s _ Hs.out hb0 hb1 hc0 hc1).mono ?_
    rintro e w1 ⟨rfl, B1⟩
    go_wp2_with fail
    refine (times_is _ _ x _ Hx.out ha0 ha1 hs0 hs1).mono ?_
    rintro e w2 ⟨rfl, B2⟩
    go_wp2_with fail
    refine (times_is _ _ p _ Hp.out ha0 ha1 hb0 hb1).mono ?_
    rintro e w3 ⟨rfl, B3⟩
    go_wp2_with fail
    refine (times_is _ _ q _ Hq.out ha0 ha1 hc0 hc1).mono ?_
    rintro e w4 ⟨rfl, B4⟩
    go_wp2_with fail
    refine (add_is _ _ x _ Hy.out hp0 hp1 hq0 hq1).mono ?_
    rintro e w5 ⟨rfl, B5⟩
    go_wp2_with fail
    refine (first_three a b c m _ _ Hm.out ha0 ha1 hb0 hb1 hc0 hc1).mono ?_
    rintro e w6 ⟨rfl, B6⟩
    go_wp2_with fail
    refine (first_two b c m _ _ Hn.out hb0 hb1 hc0 hc1).mono ?_
    rintro e w7 ⟨rfl, B7⟩
    go_wp2_with fail
    refine (alive_any _).mono ?_
    rintro e w8 ⟨rfl, B8⟩
    go_wp2_with fail
    go_ret
    have s1 := B1.size
    have s2 := B2.size
    have s3 := B3.size
    have s4 := B4.size
    have s5 := B5.size
    have s6 := B6.size
    have s7 := B7.size
    exact ⟨rfl, (((((((B1.trans (B2.mono (by omega))).trans (B3.mono (by omega))).trans (B4.mono (by omega))).trans (B5.mono (by omega))).trans (B6.mono (by omega))).trans (B7.mono (by omega))).trans (B8.mono (by omega)))⟩
  · have Hmn : Hid (m = a) := by
      show _ = _
      rw [HM.out]; exact (minT_neg hna).symm
    clear HM
    have Hm' : Hid (a = leastT [a, b, c]) := by
      show _ = _
      rw [← Hm.out, Hmn.out]
    clear Hmn Hm
    go_enter Try.func5, Try.ntmps5
    go_wp2_with fail
    refine (tm_is _ a _ Ha.out).mono ?_
    rintro e w' ⟨rfl, rfl⟩
    go_wp2_with fail
    refine (tm_is _ b _ Hb.out).mono ?_
    rintro e w' ⟨rfl, rfl⟩
    go_wp2_with fail
    refine (tm_is _ c _ Hc.out).mono ?_
    rintro e w' ⟨rfl, rfl⟩
    go_wp2_with fail
    refine (add_is _ _ s _ Hs.out hb0 hb1 hc0 hc1).mono ?_
    rintro e w1 ⟨rfl, B1⟩
    go_wp2_with fail
    refine (times_is _ _ x _ Hx.out ha0 ha1 hs0 hs1).mono ?_
    rintro e w2 ⟨rfl, B2⟩
    go_wp2_with fail
    refine (times_is _ _ p _ Hp.out ha0 ha1 hb0 hb1).mono ?_
    rintro e w3 ⟨rfl, B3⟩
    go_wp2_with fail
    refine (times_is _ _ q _ Hq.out ha0 ha1 hc0 hc1).mono ?_
    rintro e w4 ⟨rfl, B4⟩
    go_wp2_with fail
    refine (add_is _ _ x _ Hy.out hp0 hp1 hq0 hq1).mono ?_
    rintro e w5 ⟨rfl, B5⟩
    go_wp2_with fail
    refine (first_three a b c a _ _ Hm'.out ha0 ha1 hb0 hb1 hc0 hc1).mono ?_
    rintro e w6 ⟨rfl, B6⟩
    go_wp2_with fail
    refine (first_two b c n _ _ Hn.out hb0 hb1 hc0 hc1).mono ?_
    rintro e w7 ⟨rfl, B7⟩
    go_wp2_with fail
    refine (alive_any _).mono ?_
    rintro e w8 ⟨rfl, B8⟩
    go_wp2_with fail
    go_ret
    have s1 := B1.size
    have s2 := B2.size
    have s3 := B3.size
    have s4 := B4.size
    have s5 := B5.size
    have s6 := B6.size
    have s7 := B7.size
    exact ⟨rfl, (((((((B1.trans (B2.mono (by omega))).trans (B3.mono (by omega))).trans (B4.mono (by omega))).trans (B5.mono (by omega))).trans (B6.mono (by omega))).trans (B7.mono (by omega))).trans (B8.mono (by omega)))⟩
end Go.Proofs.Ytilllmhcjojhbaa.tickSpreads
