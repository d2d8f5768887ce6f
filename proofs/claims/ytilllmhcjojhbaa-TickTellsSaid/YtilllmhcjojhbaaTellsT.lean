/-
  Which numbers are times, and what they make, is as the document says: the law's walk.
-/
import Derived.Test.YtilllmhcjojhbaaTickMath
import Derived.Deep.DeepCutAuto
import Derived.Deep.CutBlock
namespace Go.Proofs.Ytilllmhcjojhbaa.tickTells
open Go.RowKit
set_option linter.unusedVariables false

/-- what is told of several -/
def Three (xs : List Int) (F h : Int) : Prop :=
  (xs.all timeB = false ∧ F = 0 ∧ h = 1) ∨ (xs.all timeB = true ∧ xs.length = 0 ∧ F = 0 ∧ h = 4) ∨ (xs.all timeB = true ∧ 0 < xs.length ∧ F = leastT xs ∧ h = 0)
theorem first_letters (oa : Option Addr) (m cap : Nat) (xs : List Int) (hm : m ≤ 1000) (hl : xs.length = m) :
    ∃ F h : Int, Hid (Three xs F h) ∧ ∀ w, Ns w oa m cap xs → Calls Try.prog 9 #[.slice oa m cap] w fun e w' => e = .returned (.tuple #[.int .i64 F, .int .i64 h]) ∧ w = w' := by
  cases hA : xs.all timeB with
  | false => exact ⟨0, 1, Or.inl ⟨hA, rfl, rfl⟩, fun w hN => first_no oa m cap xs w hN hm hA⟩
  | true =>
    by_cases h0 : m = 0
    · subst h0
      exact ⟨0, 4, Or.inr (Or.inl ⟨hA, hl, rfl, rfl⟩), fun w _ => first_none oa cap w⟩
    · exact ⟨leastT xs, 0, Or.inr (Or.inr ⟨hA, by omega, rfl, rfl⟩), fun w hN => first_yes oa m cap xs w hN (by omega) hm hA⟩
/-- what is told of two -/
def Pair (t d A B C E : Int) : Prop :=
  (timeB t = true ∧ timeB d = true ∧ A = addT t d ∧ B = subT t d ∧ C = mulT t d ∧ E = 0) ∨ ([t, d].all timeB = false ∧ A = 0 ∧ B = 0 ∧ C = 0 ∧ E = 1)
theorem pair_letters (t d : Int) :
    ∃ A B C E : Int, Hid (Pair t d A B C E) ∧ (∀ w, Calls Try.prog 6 #[.int .i64 t, .int .i64 d] w fun e w' => e = .returned (.tuple #[.int .i64 A, .int .i64 E]) ∧ Below w.heap.size w w') ∧
      (∀ w, Calls Try.prog 7 #[.int .i64 t, .int .i64 d] w fun e w' => e = .returned (.tuple #[.int .i64 B, .int .i64 E]) ∧ Below w.heap.size w w') ∧
      (∀ w, Calls Try.prog 8 #[.int .i64 t, .int .i64 d] w fun e w' => e = .returned (.tuple #[.int .i64 C, .int .i64 E]) ∧ Below w.heap.size w w') := by
  cases hA : [t, d].all timeB with
  | false => exact ⟨0, 0, 0, 1, Or.inr ⟨hA, rfl, rfl, rfl, rfl⟩, fun w => add_no t d w hA, fun w => sub_no t d w hA, fun w => times_no t d w hA⟩
  | true =>
    have h : timeB t = true ∧ timeB d = true := by simpa using hA
    obtain ⟨h0, h1⟩ := time_yes h.1
    obtain ⟨h2, h3⟩ := time_yes h.2
    exact ⟨_, _, _, 0, Or.inl ⟨h.1, h.2, rfl, rfl, rfl, rfl⟩, fun w => add_yes t d w h0 h1 h2 h3, fun w => sub_yes t d w h0 h1 h2 h3, fun w => times_yes t d w h0 h1 h2 h3⟩
theorem time_let (t : Int) (b : Bool) (w : World) (h : timeB t = b) :
    Calls Try.prog 10 #[.int .i64 t] w fun e w' => e = .returned (.bool b) ∧ w = w' := by subst h; exact time_any t w
theorem rtime_let (t : Int) (b : Bool) (w : World) (h : timeB t = b) :
    Calls Try.prog 11 #[.int .i64 t] w fun e w' => e = .returned (.bool b) ∧ w = w' := by subst h; exact rtime_any t w
theorem rall_let (oa : Option Addr) (n cap : Nat) (xs : List Int) (b : Bool) (w : World) (hN : Ns w oa n cap xs) (hn : n ≤ 1000) (h : xs.all timeB = b) :
    Calls Try.prog 13 #[.slice oa n cap] w fun e w' => e = .returned (.bool b) ∧ w = w' := by subst h; exact rall_any oa n cap xs w hN hn
theorem rfirst_let (oa : Option Addr) (n cap : Nat) (xs : List Int) (F : Int) (w : World) (hN : Ns w oa n cap xs) (hn0 : 0 < n) (hn : n ≤ 1000) (h : F = leastT xs) :
    Calls Try.prog 14 #[.slice oa n cap] w fun e w' => e = .returned (.int .i64 F) ∧ w = w' := by subst h; exact rfirst_any oa n cap xs w hN hn0 hn
theorem radd_let (t d r : Int) (w : World) (h : r = addT t d) (ht0 : 0 ≤ t) (ht1 : t ≤ 1099511627776) (hd0 : 0 ≤ d) (hd1 : d ≤ 1099511627776) :
    Calls Try.prog 15 #[.int .i64 t, .int .i64 d] w fun e w' => e = .returned (.int .i64 r) ∧ w = w' := by subst h; exact radd_any t d w ht0 ht1 hd0 hd1
theorem rsub_let (t d r : Int) (w : World) (h : r = subT t d) (ht0 : 0 ≤ t) (ht1 : t ≤ 1099511627776) (hd0 : 0 ≤ d) (hd1 : d ≤ 1099511627776) :
    Calls Try.prog 16 #[.int .i64 t, .int .i64 d] w fun e w' => e = .returned (.int .i64 r) ∧ w = w' := by subst h; exact rsub_any t d w ht0 ht1 hd0 hd1
theorem rtimes_let (t d r : Int) (w : World) (h : r = mulT t d) (ht0 : 0 ≤ t) (ht1 : t ≤ 1099511627776) (hd0 : 0 ≤ d) (hd1 : d ≤ 1099511627776) :
    Calls Try.prog 17 #[.int .i64 t, .int .i64 d] w fun e w' => e = .returned (.int .i64 r) ∧ w = w' := by subst h; exact rtimes_any t d w ht0 ht1 hd0 hd1

theorem ns_cut {w : World} {oa : Option Addr} {n cap : Nat} {xs : List Int} (h : Ns w oa n cap xs) (m : Nat) (hm : m ≤ n) : Ns w oa m cap (xs.take m) := by
  refine ⟨by rw [List.length_take]; have := h.len; omega, by have := h.room; omega, fun i hi => ?_⟩
  obtain ⟨g, o, hg, hc⟩ := h.cell i (by omega)
  refine ⟨g, o, hg, ?_⟩
  rw [hc, List.getD_eq_getElem?_getD, List.getD_eq_getElem?_getD, List.getElem?_take_of_lt hi]

set_option maxHeartbeats 1600000 in
set_option maxRecDepth 100000 in
theorem walk (t d : Int) (oa : Option Addr) (n cap : Nat) (xs : List Int) (w : World) (hN : Ns w oa n cap xs) (hcap : cap ≤ maxLen) :
    Calls Try.prog 3 #[.int .i64 t, .int .i64 d, .slice oa n cap] w fun e w' => e = .returned (.bool true) ∧ Below w.heap.size w w' := by
  unfold maxLen at hcap
  have hroom := hN.room
  obtain ⟨A, B, C, E, HP, KA, KB, KC⟩ := pair_letters t d
  obtain ⟨m, HM⟩ : ∃ m, Hid (m ≤ n ∧ m ≤ 50 ∧ (n ≤ 50 → m = n) ∧ (50 < n → m = 50)) := by
    by_cases h : n ≤ 50
    · exact ⟨n, by omega, by omega, fun _ => rfl, fun h' => by omega⟩
    · exact ⟨50, by omega, by omega, fun h' => by omega, fun _ => rfl⟩
  have N0 := ns_cut hN m HM.out.1
  generalize xs.take m = ys at N0
  obtain ⟨F, R, HT, KF⟩ := first_letters oa m cap ys (by have := HM.out; omega) N0.len
  obtain ⟨T, HB⟩ : ∃ T, Hid (timeB t = T) := ⟨_, Lib.hid rfl⟩
  go_enter Try.func3, Try.ntmps3
  go_upto_region 1 with fail
  go_cut [2] (fun s2 wx => s2 = .slice oa m cap ∧ wx = w)
  case first =>
    have hm := HM.out
    by_cases h : n ≤ 50
    · obtain rfl : m = n := by omega
      have h2 : (m : Int) ≤ 50 := by omega
      clear hm
      go_wp2_with fail
      go_meet
      case rel => exact ⟨rfl, rfl⟩
    · obtain rfl : m = 50 := by omega
      have h2 : (50 : Int) < (n : Int) := by omega
      have h3 : (50 : Int) ≤ (cap : Int) := by omega
      clear hm
      go_wp2_with fail
      go_meet
      case rel => exact ⟨rfl, rfl⟩
  case rest =>
    obtain ⟨rfl, rfl⟩ := hcut
    go_wp2_with fail
    refine (KA _).mono ?_
    rintro e w1 ⟨rfl, B1⟩
    have N1 := N0.below B1 (Nat.le_refl _)
    go_wp2_with fail
    refine (KB _).mono ?_
    rintro e w2 ⟨rfl, B2⟩
    have N2 := N1.below B2 (Nat.le_refl _)
    have D2 := B1.trans (B2.mono B1.size)
    clear B1 B2 N1
    go_wp2_with fail
    refine (KC _).mono ?_
    rintro e w3 ⟨rfl, B3⟩
    have N3 := N2.below B3 (Nat.le_refl _)
    have D3 := D2.trans (B3.mono D2.size)
    clear D2 B3 N2
    go_wp2_with fail
    refine (KF _ N3).mono ?_
    rintro e w' ⟨rfl, rfl⟩
    go_wp2_with fail
    refine (time_let t T _ HB.out).mono ?_
    rintro e w' ⟨rfl, rfl⟩
    go_wp2_with fail
    refine (rtime_let t T _ HB.out).mono ?_
    rintro e w' ⟨rfl, rfl⟩
    go_wp2_with fail
    refine (alive_any _).mono ?_
    rintro e w4 ⟨rfl, B4⟩
    have N4 := N3.below B4 (Nat.le_refl _)
    have D4 := D3.trans (B4.mono D3.size)
    clear D3 B4 N3
    go_upto_block 0 with fail
    go_cut [] (fun wx => wx = w4)
    case first => as_aux_lemma =>
      rcases HT.out with ⟨h1, rfl, rfl⟩ | ⟨h1, h2, rfl, rfl⟩ | ⟨h1, h2, h3, rfl⟩
      · have H1 := Lib.hid h1
        clear h1
        go_wp2_with fail
        refine (rall_let oa m cap ys false _ N4 (by have := HM.out; omega) H1.out).mono ?_
        rintro e w' ⟨rfl, rfl⟩
        go_wp2_with fail
        go_meet
        case rel => exact rfl
      · have H1 := Lib.hid h1
        clear h1
        obtain rfl : m = 0 := by rw [← N4.len]; exact h2
        clear h2
        go_wp2_with fail
        refine (rall_let oa 0 cap ys true _ N4 (by omega) H1.out).mono ?_
        rintro e w' ⟨rfl, rfl⟩
        go_wp2_with fail
        go_meet
        case rel => exact rfl
      · have H1 := Lib.hid h1
        have H3 := Lib.hid h3
        have hm : 0 < m := by rw [← N4.len]; exact h2
        have hne : ((m : Int) == 0) = false := by simp; omega
        clear h1 h2 h3
        go_wp2_with fail
        refine (rall_let oa m cap ys true _ N4 (by have := HM.out; omega) H1.out).mono ?_
        rintro e w' ⟨rfl, rfl⟩
        go_wp2_with fail
        refine (rfirst_let oa m cap ys F _ N4 hm (by have := HM.out; omega) H3.out).mono ?_
        rintro e w' ⟨rfl, rfl⟩
        go_wp2_with fail
        go_meet
        case rel => exact rfl
    case rest =>
      obtain rfl := hcut
      clear N4 HT KF KA KB KC
      rcases HP.out with ⟨h1, h2, h3, h4, h5, rfl⟩ | ⟨h1, rfl, rfl, rfl, rfl⟩
      · obtain ⟨t0, t1⟩ := time_yes h1
        obtain ⟨d0, d1⟩ := time_yes h2
        have H1 := Lib.hid h1
        have H2 := Lib.hid h2
        have H3 := Lib.hid h3
        have H4 := Lib.hid h4
        have H5 := Lib.hid h5
        clear h1 h2 h3 h4 h5
        go_wp2_with fail
        refine (rtime_let t true _ H1.out).mono ?_
        rintro e w' ⟨rfl, rfl⟩
        go_wp2_with fail
        refine (rtime_let d true _ H2.out).mono ?_
        rintro e w' ⟨rfl, rfl⟩
        go_wp2_with fail
        refine (radd_let t d A _ H3.out t0 t1 d0 d1).mono ?_
        rintro e w' ⟨rfl, rfl⟩
        go_wp2_with fail
        refine (rsub_let t d B _ H4.out t0 t1 d0 d1).mono ?_
        rintro e w' ⟨rfl, rfl⟩
        go_wp2_with fail
        refine (rtimes_let t d C _ H5.out t0 t1 d0 d1).mono ?_
        rintro e w' ⟨rfl, rfl⟩
        go_wp2_with fail
        go_ret
        exact ⟨rfl, D4⟩
      · cases h2 : timeB t with
        | false =>
          have H2 := Lib.hid h2
          clear h1 h2
          go_wp2_with fail
          refine (rtime_let t false _ H2.out).mono ?_
          rintro e w' ⟨rfl, rfl⟩
          go_wp2_with fail
          go_ret
          exact ⟨rfl, D4⟩
        | true =>
          have H2 := Lib.hid h2
          have H1 : Hid (timeB d = false) := by
            show _ = _
            simpa [h2] using h1
          clear h1 h2
          go_wp2_with fail
          refine (rtime_let t true _ H2.out).mono ?_
          rintro e w' ⟨rfl, rfl⟩
          go_wp2_with fail
          refine (rtime_let d false _ H1.out).mono ?_
          rintro e w' ⟨rfl, rfl⟩
          go_wp2_with fail
          go_ret
          exact ⟨rfl, D4⟩
end Go.Proofs.Ytilllmhcjojhbaa.tickTells
