/-
  As many draws as there are parts of the jitter make each wait once: the law's walk.
-/
import Derived.Test.YtnapnegjdagcpaaRisesW
import Derived.Maps.RangeWalk
import Derived.Maps.OwnSet
import Derived.Maps.OwnOps
namespace Go.Proofs.Ytnapnegjdagcpaa
open Go.RowKit Go.Maps
set_option linter.unusedVariables false

/-- a number from 0 to 49 of any one -/
def h50 (n : Int) : Int := n % 50
theorem h50_eq (n : Int) : (wrap64 (n.tmod 50 + 50)).tmod 50 = h50 n := part_eq' (by omega) (by omega)
theorem h50_nn (n : Int) : 0 ≤ h50 n := by unfold h50; omega
theorem h50_le (n : Int) : h50 n ≤ 49 := by unfold h50; omega
theorem million (n : Int) : -1000000 < n.tmod 1000000 ∧ n.tmod 1000000 < 1000000 := by
  have h := Int.tmod_eq_emod (a := n) (b := 1000000)
  rw [h]
  split <;> omega

theorem lawInt : Keyed Try.prog 3 := int_keyed Try.underlying3
theorem zeroInt (w : World) : (zeroValue 3).run Try.prog w = .ok (.int .i64 0) w := by kernel_rfl
theorem grown_of_below {w w' : World} (h : Below w.heap.size w w') : w.grownBy w' none := ⟨h.os, h.tape, h.output, h.size, fun i hi _ => h.block i hi⟩
theorem Bx.grown {w w1 : World} {A : Nat} {B T J : Int} {row : Option Nat} (h : Bx w A B T J) (hg : w.grownBy w1 row) (hne : some A ≠ row) : Bx w1 A B T J :=
  have hk := hg.block A h.lt hne
  ⟨Nat.lt_of_lt_of_le h.lt hg.size, (World.cell?_of_block (w := w) (a := ⟨A, 0, none⟩) hk).trans h.c0, (World.cell?_of_block (w := w) (a := ⟨A, 1, none⟩) hk).trans h.c1, (World.cell?_of_block (w := w) (a := ⟨A, 2, none⟩) hk).trans h.c2⟩

/-- what has been met behind k draws -/
structure Met (D : DataW Unit) (J d : Int) (k : Nat) : Prop where
  keys : ∀ x : Int, Maps.has D (.int .i64 x) = true → ∃ j : Nat, j < k ∧ x = partT J (d + j)
  ones : ∀ (kl : Lit) (zd : DataW Unit), Maps.has D kl = true → D.atKey kl zd = .lit (.int .i64 1)
  size : Maps.size D = k
theorem met_start (J d : Int) : Met (.map []) J d 0 := ⟨fun x h => (Bool.noConfusion (h : false = true)), fun kl zd h => (Bool.noConfusion (h : false = true)), rfl⟩
theorem part_apart {J d : Int} {i k : Nat} (hi : i < k) (hk : (k : Int) ≤ J) : partT J (d + i) ≠ partT J (d + k) := by
  intro h
  unfold partT at h
  have h1 := Int.emod_emod_of_dvd
  have h2 := (Int.emod_eq_emod_iff_emod_sub_eq_zero).1 h.symm
  rw [show d + (k : Int) - (d + (i : Int)) = (k : Int) - i from by omega, Int.emod_eq_of_lt (by omega) (by omega)] at h2
  omega
theorem met_new {D : DataW Unit} {J d x : Int} {k : Nat} (h : Met D J d k) (hk : (k : Int) ≤ J) (hx : x = partT J (d + k)) : Maps.has D (.int .i64 x) = false := by
  cases hh : Maps.has D (.int .i64 x) with
  | false => rfl
  | true =>
    obtain ⟨i, hi, e⟩ := h.keys x hh
    exact absurd (e.symm.trans hx) (part_apart hi hk)
theorem met_zero {D : DataW Unit} {J d x c : Int} {k : Nat} (h : Met D J d k) (hk : (k : Int) ≤ J) (hx : x = partT J (d + k)) (hat : D.atKey (.int .i64 x) (.lit (.int .i64 0)) = .lit (.int .i64 c)) : c = 0 := by
  rw [atKey_of_not_has (met_new h hk hx)] at hat
  simpa using hat.symm
theorem met_next {D : DataW Unit} {J d x y : Int} {k : Nat} (h : Met D J d k) (hD : Tidy D) (hk : (k : Int) ≤ J) (hx : x = partT J (d + k)) (hy : y = 1) : Met (D.put (.int .i64 x) (.lit (.int .i64 y))) J d (k + 1) := by
  subst hy
  have hn := met_new h hk hx
  refine ⟨fun z hz => ?_, fun kl zd hz => ?_, ?_⟩
  · by_cases e : z = x
    · exact ⟨k, by omega, by rw [e]; exact hx⟩
    · rw [has_put_other (by intro hh; cases hh; exact e rfl)] at hz
      obtain ⟨i, hi, e'⟩ := h.keys z hz
      exact ⟨i, by omega, e'⟩
  · by_cases e : kl = .int .i64 x
    · subst e
      exact atKey_put_same (k := .int .i64 x) hD.isMap trivial _ _
    · rw [has_put_other e] at hz
      rw [atKey_put_other e]
      exact h.ones kl zd hz
  · rw [size_put hD, hn, h.size]
    rfl
theorem met_one {D : DataW Unit} {J d x c : Int} {k : Nat} (h : Met D J d k) (hat : ∀ zd, D.atKey (.int .i64 x) zd = .lit (.int .i64 c)) : c = 1 := by
  have := h.ones (.int .i64 x) (.lit (.int .i64 0)) (has_true_of_atKey hat)
  rw [hat] at this
  simpa using this
theorem wait_more {B T J n d : Int} (hJ : 0 ≤ J) : waitT B T J n (d + 7 * (J + 1)) = waitT B T J n d := by
  unfold waitT partT
  rw [Int.add_mul_emod_self_right]
namespace backoffDraws
set_option maxHeartbeats 4000000 in
set_option maxRecDepth 100000 in
theorem walk (B T J0 n d0 : Int) (w : World) :
    Calls Try.prog 5 #[.agg #[.int .i64 B, .int .i64 T, .int .i64 J0], .int .i64 n, .int .i64 d0] w fun e w' => e = .returned (.bool true) ∧ Below w.heap.size w w' := by
  have hmm := @run_makeMap Try.prog
  obtain ⟨J, hJ⟩ : ∃ J, Hid (h50 J0 = J) := ⟨_, rfl⟩
  have J1 : 0 ≤ J := by rw [← hJ.out]; exact h50_nn J0
  have J2 : J ≤ 49 := by rw [← hJ.out]; exact h50_le J0
  obtain ⟨m, hm⟩ : ∃ m, Hid (h100 n = m) := ⟨_, rfl⟩
  have m0 : 0 ≤ m := by rw [← hm.out]; exact h100_nn n
  have m1 : m ≤ 99 := by rw [← hm.out]; exact h100_le n
  cases hb : backB B T J with
  | false =>
    have H0 := Lib.hid (has_not (B := B) (T := T) (J := J) m hb)
    clear hb
    go_enter Try.func5, Try.ntmps5
    go_wp2_with fail
    rw [h50_eq J0, h100_eq' n, hJ.out, hm.out]
    refine (step_no _ _ _ _ _ H0.out).mono ?_
    rintro e w1 ⟨rfl, B1⟩
    obtain ⟨hB1, hx1⟩ := box1 B1
    clear B1
    go_wp2_with fail
    refine (alive6 _).mono ?_
    rintro e w2 ⟨rfl, B2⟩
    go_wp2
    go_ret
    exact ⟨rfl, hB1.trans (B2.mono hB1.size)⟩
  | true =>
    have hbk := back_yes hb
    have b1 := hbk.b1
    have t1 := hbk.t1
    have t2 := hbk.t2
    clear hb
    obtain ⟨s, Hs⟩ : ∃ s, Hid (s = stepN B T m.toNat) := ⟨_, rfl⟩
    obtain ⟨s0, s1⟩ := stepN_range (B := B) (T := T) (by omega) t1 m.toNat
    rw [← Hs.out] at s0 s1
    obtain ⟨d1, d2⟩ := million d0
    go_enter Try.func5, Try.ntmps5
    go_wp2_with fail
    rw [h50_eq J0, h100_eq' n, hJ.out, hm.out]
    generalize d0.tmod 1000000 = d at *
    refine (step_is _ _ _ _ s _ Hs.out hbk m0).mono ?_
    rintro e w1 ⟨rfl, B1⟩
    obtain ⟨hB1, hx1⟩ := box1 B1
    clear B1
    have c0 := hx1.c0
    have c1 := hx1.c1
    have c2 := hx1.c2
    have lt1 := hx1.lt
    have hw := World.ownsMap_made w1 Try.prog 3 (plainElem (H := Unit) Try.prog 3)
    have hx2 : Bx (w1.alloc (.map #[] 0)) w.heap.size B T J := hx1.below (below_alloc w1 _) (Nat.le_refl _)
    have hB2 : Below w.heap.size w (w1.alloc (.map #[] 0)) := hB1.trans ((below_alloc w1 _).mono hB1.size)
    have d0 := hx2.c0
    have d1 := hx2.c1
    have d2 := hx2.c2
    go_wp2
    have hMA : w.heap.size < w1.heap.size := lt1
    generalize w1.alloc (.map #[] 0) = w2 at *
    generalize hM : w1.heap.size = M at *
    clear c0 c1 c2 hx1 hB1 lt1
    go_loopw [46] (fun i wr => ∃ (k : Nat) (D : DataW Unit), i = .int .i64 k ∧ (k : Int) ≤ J + 1 ∧ Met D J d k ∧ wr.ownsMap Try.prog 3 (plainElem Try.prog 3) M k D ∧ Bx wr w.heap.size B T J ∧ Below w.heap.size w wr)
      (fun i _ => (J + 1 - intOf i).toNat)
    case atStart => exact ⟨0, .map [], rfl, by omega, met_start J d, hw, hx2, hB2⟩
    case round =>
      obtain ⟨k, D, rfl, hk, hmet, hown, hx, hB⟩ := hrel
      have c0 := hx.c0
      have c1 := hx.c1
      have c2 := hx.c2
      have zB := hB.size
      have HM := Lib.hid hmet
      clear hmet
      by_cases hlt : (k : Int) < J + 1
      · obtain ⟨v, Hv⟩ : ∃ v, Hid (v = waitT B T J m (d + k)) := ⟨_, rfl⟩
        have Hv2 : Hid (v = waitT B T J m (d + k + 7 * (J + 1))) := by show _ = _; rw [wait_more J1]; exact Hv.out
        have hp : Hid (v - s = partT J (d + k)) := by
          show _ = _
          rw [Hv.out, Hs.out]
          unfold waitT
          omega
        have v0 : s ≤ v := by
          have := part_nn J1 (d + k)
          have := hp.out
          omega
        have v1 : v ≤ s + J := by
          have := part_le J1 (d + k)
          have := hp.out
          omega
        go_wp2_with fail
        refine (wait_is _ _ _ _ _ v _ Hv.out hbk m0).mono ?_
        rintro e w3 ⟨rfl, B3⟩
        have hown3 := hown.kept (grown_of_below B3) (by simp)
        obtain ⟨_, hx3⟩ := boxN hx B3
        have c0 := hx3.c0
        have c1 := hx3.c1
        have c2 := hx3.c2
        have hB3 := hB.trans (B3.mono zB)
        clear B3 hown hx
        go_wp2_with fail
        refine (wait_is _ _ _ _ _ v _ Hv2.out hbk m0).mono ?_
        rintro e w4 ⟨rfl, B4⟩
        have hown4 := hown3.kept (grown_of_below B4) (by simp)
        obtain ⟨_, hx4⟩ := boxN hx3 B4
        have c0 := hx4.c0
        have c1 := hx4.c1
        have c2 := hx4.c2
        have hB4 := hB3.trans (B4.mono hB3.size)
        clear B4 hown3 hx3 hB3
        go_wp2_with (first
          | (at_lookup; refine wpList_lookup_own_int _ rfl _ _ 33 rfl 3 3 .i64 lawInt Try.underlying33 Try.underlying3 (zeroInt _) M k _ rfl hown4 _ _ rfl (keyOf_int_mk Try.underlying3 (WalkArith.wf_i64 (by omega))) ?_; intro c hat hwc)
          | (at_mapUpdate; refine wpList_mapUpdate_own _ rfl _ _ _ 33 rfl 3 3 lawInt Try.underlying33 _ M k _ rfl hown4 (by unfold maxLen; omega) _ _ _ rfl rfl (keyOf_int_mk Try.underlying3 (WalkArith.wf_i64 (by omega))) _ [] (plainElem_int Try.underlying3 (wrap64_wf _)) ?_; intro w5 hown5 hgrow5)
          | go_in)
        have hc1 : wrap64 (c + 1) = 1 := by rw [met_zero HM.out (by omega) hp.out hat]; unfold wrap64; omega
        go_roundw
        case rel => exact ⟨k + 1, _, by go_num, by omega, met_next HM.out (hown4.tidy lawInt) (by omega) hp.out hc1, hown5, hx4.grown hgrow5 (by intro hh; cases hh; omega), hB4.grown hgrow5 hB4.size (fun j hj => by cases hj; omega)⟩
        case measure => simp only [intOf]; omega
      · have hkk : Hid ((k : Int) = J + 1) := by show _ = _; omega
        go_wp2_with (first
          | (at_range; refine wpList_range_own _ rfl _ 33 rfl 3 3 lawInt Try.underlying33 _ M k _ rfl hown ?_; intro w3 hrg0 hg0 hs0)
          | go_in)
        have hx3 := hx.grown hg0 (by intro hh; cases hh)
        have hB3 := hB.grown hg0 zB (fun j hj => by cases hj)
        have zR : w.heap.size < wr.heap.size := hx.lt
        generalize wr.heap.size = R at *
        clear hown hx hB c0 c1 c2 zB
        go_loopw [16] (fun _ wx => ∃ (left : Lit → Bool) (cnt : Nat), wx.ranges Try.prog 3 (plainElem Try.prog 3) M R k D left cnt ∧ Bx wx w.heap.size B T J ∧ Below w.heap.size w wx)
          (fun _ wx => wx.rangeLeft M R)
        case atStart => exact ⟨_, _, hrg0, hx3, hB3⟩
        case round =>
          obtain ⟨left, cnt, hrg, hx, hB⟩ := hrel
          have c0 := hx.c0
          have c1 := hx.c1
          have c2 := hx.c2
          have zB := hB.size
          go_wp2_with (first
            | (at_next; refine wpList_next_ranges_ii _ rfl _ rfl 3 3 .i64 .i64 lawInt Try.underlying3 Try.underlying3 M R k _ _ _ rfl hrg ?_ ?_)
            | go_in)
          · intro _ hl0
            go_wp2_with fail
            refine (alive6 _).mono ?_
            rintro e w5 ⟨rfl, B5⟩
            have hown5 := hrg.owns.kept (grown_of_below B5) (by simp)
            have hlen : ∀ ty, (Builtin.len_ #[33] ty #[.map (some M)]).run Try.prog w5 = .ok (.int .i64 (k : Int)) w5 := fun ty => by rw [hown5.len Try.underlying33 ty, HM.out.size]
            obtain ⟨_, hx5⟩ := boxN hx B5
            have c0 := hx5.c0
            have c1 := hx5.c1
            have c2 := hx5.c2
            have hB5 := hB.trans (B5.mono zB)
            have he : ((k : Int) == J + 1) = true := by rw [hkk.out]; simp
            go_wp2
            go_ret
            exact ⟨rfl, hB5⟩
          · intro x c w5 cnt1 hwx hwc hlx hat hrg1 hlt1 hg1 hs1 hen
            obtain rfl : c = 1 := met_one HM.out hat
            go_wp2
            go_roundw
            case rel => exact ⟨_, cnt1, hrg1, hx.grown hg1 (by intro hh; cases hh; omega), hB.grown hg1 zB (fun j hj => by cases hj; omega)⟩
            case measure => rw [hrg1.left_eq, hrg.left_eq]; exact hlt1
end backoffDraws
end Go.Proofs.Ytnapnegjdagcpaa
